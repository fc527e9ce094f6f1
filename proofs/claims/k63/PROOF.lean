import PyProof.Rows.All
import Wide.All
import OpenK.AllK
import Wide.FinOn
import Lean
import PyProof.EqAt
import PyProof.EqKinds
import PyProof.TupleCall
import PyProof.ZipIter
import PyProof.Rows.SetFrom
import PyProof.Rows.SortStr
import KE.KDictList
import PyProof.AttrMissHeap
import KE.KDictOf
import KE.KDictLaws
import KE.KRevIter
import PyProof.CollectIter
import PyProof.FactsAll.range_2
import PyProof.FactsAll.range_iterator_1
import PyProof.WalksEnum
import PyProof.EnumMake
import PyProof.Rows.Range3
import PySem.Challenge.RW_slackchain_k63_parts_shared_otherwise
set_option Elab.async false
set_option linter.all false
set_option maxRecDepth 100000
open List (mem_filter mem_cons_self mem_cons_of_mem mem_cons mem_append mem_append_right length_cons map_cons length_map append_nil nodup_cons length_take length_append size_toArray any_cons length_singleton map_nil cons_append length_nil not_mem_nil mem_singleton mem_map take_of_length_le take_zero take_succ map_append mem_flatMap nodup_append nil_append filter_append map_map length_filter_le)
local macro_rules|`(tactic|ac_nf)=>`(tactic|first|lia|omega)
local macro_rules|`(⋯)=>`(by decide)
local macro_rules|`(∅)=>`(by ac_nf)
local macro_rules|`(tactic|subst_eqs)=>`(tactic|(intro _ _ _ _ h;(repeat obtain ⟨_,h⟩:=h);subst_vars;rfl))
namespace L2
open PySem PySem.Spec PyProof.Rows
abbrev Key:=Sum Bool Str
def isBoolOf:Bool->Value->Bool
 | b, .bool c=>b == c
 | _,_=>false
variable {b:Bool}
theorem Jel {v:Value} (h:isBoolOf b v=true):v=.bool b:=by
 cases v <;> simp_all [isBoolOf]
def keyIs:Key->Value->Bool
 | .inl k,v=>isBoolOf k v
 | .inr x,v=>Value.isStrOf x v
def keyH (w:World):Key->Int
 | .inl k=>hashInt (if k then 1 else 0)
 | .inr x=>hashStr w x
theorem JaR:∀ {k:Key} {v:Value},keyIs k v=true->(∃ i,k=Sum.inl i/\v=Value.bool i)\/(∃ x t,k=Sum.inr x/\v=Value.str x t)
 | .inl i,v,h=>.inl ⟨i,rfl,Jel h⟩
 | .inr x,v,h=>by
  obtain ⟨t,e⟩:=Value.isStrOf_shape (x:=x) (v:=v) h;exact .inr ⟨x,t,rfl,e⟩
theorem Jhd (i:Bool):keyIs (.inl i) (.bool i)=true:=by simp [keyIs,isBoolOf]
theorem JhX (x:Str) (t:Tok):keyIs (.inr x) (.str x t)=true:=by simp [keyIs,Value.isStrOf]
theorem JlE (a b:Bool):decide ((Sum.inl a:Key)=Sum.inl b)=(a == b):=by cases a <;> cases b <;> rfl
theorem JlH (a b:Str):decide ((Sum.inr a:Key)=Sum.inr b)=decide (a=b):=by
 by_cases e:a=b
 ·subst e;simp
 ·have h:¬ (Sum.inr a:Key)=Sum.inr b:=fun q=>e (Sum.inr.inj q);rw [decide_eq_false h,decide_eq_false e]
theorem JlF (a:Bool) (b:Str):decide ((Sum.inl a:Key)=Sum.inr b)=false:=decide_eq_false (fun q=>nomatch q)
theorem JlG (a:Str) (b:Bool):decide ((Sum.inr a:Key)=Sum.inl b)=false:=decide_eq_false (fun q=>nomatch q)
variable {prog:Program} {A:Around} {E:Value->Shared->Prop}
theorem Jgv {w:World} {s:Shared} {Q:Int->Shared->Prop} (h:Q (hashInt (if b then 1 else 0)) { s with toks:=s.toks+1 }) :
  wpAny (model prog w) A (pyHash (.bool b)) Q E s:=by
 have c:=rawHash_range (if b then 1 else 0);have a:s.TypeIs (.bool b) "bool":=rfl;unfold pyHash;have d:[Value.bool b].any Value.onHeap=false:=rfl;refine wpAny_bind ?_;rw [cRoomFor,if_neg (by rw [d];exact Bool.false_ne_true)];refine wpAny_pure ?_;refine wpAny_bind (wpAny_specialOf a F.slot_bool_hash.lookup ?_);show wpAny _ _ (if (some (Value.builtin "int.__hash__") == some Value.none)=true then _ else _) Q E s;rw [if_neg (by rw [beq_builtin_none];exact Bool.false_ne_true)];refine wpAny_bind (wpAny_specialOf a F.slot_bool_hash.lookup ?_);show wpAny _ _ (callSpecialIfBoundUnlessNone? (.bool b) "__hash__" _ >>= _) Q E s;refine wpAny_bind (wpAny_callSpecialIfBoundUnlessNone?_slot a F.slot_bool_hash
  (wpAny_call_entry F.slot_bool_hash a entry_int_hash
   (show wpAny _ _ (do ret (<- mkInt (rawHash (if b then 1 else 0)))) _ _ s from wpAny_ret_mkInt ?_) (args_int_hash _)))
 show wpAny _ _ (if (decide (-(2:Int) ^ 63<=rawHash (if b then 1 else 0))&&decide (rawHash (if b then 1 else 0)<2 ^ 63))=true then _ else _) Q E _;rw [if_pos (by rw [decide_eq_true c.1,decide_eq_true c.2];rfl)];exact wpAny_pure h
def Jat (prog:Program) (w:World):PySem.KeyKind prog w Key where
 is:=keyIs
 hash:=keyH w
 inj:=fun v a b ha hb=>by
  rcases JaR ha with ⟨i,rfl,rfl⟩ | ⟨x,t,rfl,rfl⟩
  ·rcases JaR hb with ⟨j,rfl,e⟩ | ⟨y,u,rfl,e⟩
   ·injection e with e1;rw [e1]
   ·exact nomatch e
  ·rcases JaR hb with ⟨j,rfl,e⟩ | ⟨y,u,rfl,e⟩
   ·exact nomatch e
   ·injection e with e1 _;rw [e1]
 byValue:=fun k v h=>by
  rcases JaR h with ⟨i,rfl,rfl⟩ | ⟨x,t,rfl,rfl⟩ <;> rfl
 pyHash:=fun hv h=>by
  rcases JaR hv with ⟨i,rfl,rfl⟩ | ⟨x,t,rfl,rfl⟩
  ·exact Jgv h
  ·exact wpAny_pyHash_str h
 eqBool:=fun hu hv h=>by
  rcases JaR hu with ⟨i,rfl,rfl⟩ | ⟨x,t,rfl,rfl⟩
  ·rcases JaR hv with ⟨j,rfl,rfl⟩ | ⟨y,u,rfl,rfl⟩
   ·rw [JlE] at h;exact SeqAt.EqAt.bool_bool i j _ _ _ _ h
   ·rw [JlF] at h;exact SeqAt.EqAt.bool_str i y u _ _ _ _ h
  ·rcases JaR hv with ⟨j,rfl,rfl⟩ | ⟨y,u,rfl,rfl⟩
   ·rw [JlG] at h;exact SeqAt.EqAt.str_bool x t j _ _ _ _ h
   ·rw [JlH] at h;exact wpAny_eqBool_str h
 «strs»:=fun k x t v h=>by
  rcases JaR h with ⟨i,rfl,e⟩ | ⟨y,u,rfl,e⟩
  ·exact nomatch e
  ·injection e with e1 _
   subst e1;cases v <;> rfl
theorem JfF (prog:Program) (w:World) (i:Bool):(Jat prog w).is (.inl i) (.bool i)=true:=Jhd i
theorem Jgj (prog:Program) (w:World) (x:Str) (t:Tok):(Jat prog w).is (.inr x) (.str x t)=true:=JhX x t
inductive V where
 | non | bl (b:Bool) | int (i:Int) | str (x:Str) | byt (b:Array UInt8) | flt (b:UInt64) | ref (a:Addr) | ty (n:String)
 deriving DecidableEq
def RelV:V->Value->Prop
 | .non,u=>u=Value.none
 | .bl b,u=>u=Value.bool b
 | .int i,u=>∃ t,u=Value.int i t
 | .str x,u=>∃ t,u=Value.str x t
 | .byt b,u=>∃ t,u=Value.bytes b t
 | .flt b,u=>∃ t,u=Value.float b t
 | .ref a,u=>u=Value.ref a
 | .ty n,u=>u=Value.type n
abbrev Vals:List V->List Value->Prop:=Paired RelV
variable {xs:List V} {us:List Value}
theorem Vals.length (r:Vals xs us):xs.length=us.length:=Paired.length r
theorem Vals.get:∀ {xs:List V} {us:List Value} {i:Nat} {x:V},Vals xs us->xs[i]?=some x->∃ u,us[i]?=some u/\RelV x u
 | _,_,_,_, .nil,e=>by simp at e
 | _,_,0,_, .cons r _,e=>by simp at e;subst e;exact ⟨_,rfl,r⟩
 | _,_,i+1,x, .cons _ t,e=>by
  obtain ⟨u,h1,h2⟩:=Vals.get (i:=i) (x:=x) t (by simpa using e);exact ⟨u,by simpa using h1,h2⟩
theorem Vals.append:∀ {xs ys:List V} {us ws:List Value},Vals xs us->Vals ys ws->Vals (xs++ys) (us++ws)
 | _,_,_,_, .nil,s=>s
 | _,_,_,_, .cons r t,s=>.cons r (Vals.append t s)
theorem Vals.take:∀ {xs:List V} {us:List Value} (n:Nat),Vals xs us->Vals (xs.take n) (us.take n)
 | _,_,0,_=>.nil
 | _,_,_+1, .nil=>.nil
 | _,_,n+1, .cons r t=>.cons r (Vals.take n t)
theorem Vals.drop:∀ {xs:List V} {us:List Value} (n:Nat),Vals xs us->Vals (xs.drop n) (us.drop n)
 | _,_,0,r=>r
 | _,_,_+1, .nil=>.nil
 | _,_,n+1, .cons _ t=>Vals.drop n t
def RelO:Option V->Option Value->Prop
 | some v,some u=>RelV v u
 | none,none=>True
 | _,_=>False
def KV {κ:Type}:List (κ × V)->List (κ × Value)->Prop:=Paired fun (p : κ × V) (q : κ × Value)=>p.1=q.1/\RelV p.2 q.2
def kV:Key->V
 | .inl i=>.bl i
 | .inr x=>.str x
inductive HO where
 | lst (xs:List V)
 | tup (xs:List V)
 | dK (kvs:List (Key × V)) | dT (kvs:List (List Key × V))
 | set (S:Int->Bool) (n:Nat)
 | ins (C dx:Addr) (fs:List (Str × V))
 | own (x:Addr)
 | xd (fs:List (Str × V))
 | met (f x:Addr)
 | rng (lo hi:Int)
 | frz (o:Obj) (u:HO)
 | tbl (ps:Array Value)
 | ext (φ : Heap->Prop)
abbrev Hp:=Addr->Option HO
def upd (H:Hp) (a:Addr) (o:HO):Hp:=fun b=>if b=a then some o else H b
variable {H:Hp} {a:Addr} {o:HO}
theorem Jaj:upd H a o a=some o:=by unfold upd;rw [if_pos rfl]
variable {b:Addr}
theorem Jag (h:b≠a):upd H a o b=H b:=by unfold upd;rw [if_neg h]
variable {u:HO}
theorem ne_of (h:H a=some o) (h':H b=some u) (d:o≠u):a≠b:=by
 intro e;subst e;rw [h] at h';exact d (Option.some.inj h')
theorem Jah (h:H a=some o) (h':H b=none):a≠b:=by
 intro e;subst e;rw [h] at h';cases h'
section
variable (P:Program) (w:World)
def ObjOk (H:Hp) (h:Heap) (a:Addr):HO->Prop
 | .lst xs=>xs.length<=sizeLine/\∃ (its:List Value) (n:Nat),Vals xs its/\h.get? a=some { cls:=.type "list",data:=.seq its.toArray n }
 | .tup xs=>xs.length<=sizeLine/\∃ its:List Value,Vals xs its/\IsTup h a its.toArray
 | .dK kvs=>kvs.length<=sizeLine/\(a == sysModules)=false/\∃ vs,KV kvs vs/\h.DictOf (Jat P w) a vs
 | .dT kvs=>kvs.length<=sizeLine/\(a == sysModules)=false/\∃ xs:List (List Key × Addr × Value),
   Paired (fun (p:List Key × V) (q:List Key × Addr × Value)=>p.1=q.1/\H q.2.1=some (.tup (p.1.map kV))/\RelV p.2 q.2.2) kvs xs /\
   ∃ o es ep,h.get? a=some o/\o.ExactDict/\o.data=.dict es ep/\es.toList=xs.map (entryOfKey (tupleKind (Jat P w)))/\(xs.map (·.1)).Nodup
 | .set S n=>h.SetOf (intKind P w) a S n
 | .ins C dx fs=>H dx=some (.own a)/\fs.length<=1000/\dx≠a/\h.get? a=some (W.instObj C dx) /\
   ∃ mA,h.Ns1 dx mA/\(∀ f,RelO (fs.lookup f) (mA f))/\PySem.Within mA (fs.map (·.1))
 | .own _=>∃ o,h.get? a=some o
 | .xd fs=>∃ mA,h.Ns1 a mA/\∀ f,RelO (fs.lookup f) (mA f)
 | .rng lo hi=>∃ t u v,h.get? a=some { cls:=.type "range",data:=.fields #[.int lo t, .int hi u, .int 1 v] }
 | .frz o u=>h.get? a=some o/\ObjOk H h a u
 | .tbl ps=>h.get? a=some { cls:=.none,data:=.fields ps }
 | .met f x=>h.get? a=some (W.methodObj (.ref f) (.ref x))
 | .ext φ=>φ h/\(∃ o,h.get? a=some o)/\∀ h1 h2:Heap,φ h1->(∀ o,h1.get? a=some o->h2.get? a=some o)->φ h2
def HOk (H:Hp) (h:Heap):Prop:=∀ a o,H a=some o->ObjOk P w H h a o
end
section
variable {P:Program} {H':Hp} {h h':Heap} {w:World}
theorem ObjOk.lt (x:ObjOk P w H h a o):a<h.objs.size:=by
 cases o with
 | lst xs=>obtain ⟨_,_,_,_,e⟩:=x;exact Heap.lt_size e
 | tup xs=>obtain ⟨_,_,_,p⟩:=x;exact p.lt
 | dK kvs=>obtain ⟨_,_,_,_,o,_,_,e,_⟩:=x;exact Heap.lt_size e
 | dT kvs=>obtain ⟨_,_,_,_,o,_,_,e,_⟩:=x;exact Heap.lt_size e
 | set S n=>obtain ⟨o,_,_,_,e,_⟩:=x;exact Heap.lt_size e
 | ins C dx fs=>obtain ⟨_,_,_,e,_⟩:=x;exact Heap.lt_size e
 | own y=>obtain ⟨_,e⟩:=x;exact Heap.lt_size e
 | xd fs=>obtain ⟨_,⟨_,_,_,e,_⟩,_⟩:=x;exact Heap.lt_size e
 | rng lo hi=>obtain ⟨_,_,_,e⟩:=x;exact Heap.lt_size e
 | frz ob u=>obtain ⟨e,_⟩:=x;exact Heap.lt_size e
 | tbl ps=>exact Heap.lt_size (show h.get? a=some _ from x)
 | met f y=>exact Heap.lt_size (show h.get? a=some _ from x)
 | ext φ=>obtain ⟨_,⟨_,e⟩,_⟩:=x;exact Heap.lt_size e
variable {α:Type}
theorem Paired.mapP {β:Type} {F G : α->β->Prop}:∀ {l₁ : List α} {l₂ : List β},Paired F l₁ l₂->(∀ a b,F a b->G a b)->Paired G l₁ l₂
 | _,_, .nil,_=>.nil
 | _,_, .cons r t,f=>.cons (f _ _ r) (Paired.mapP t f)
theorem ObjOk.stay (x:ObjOk P w H h a o) (k:∀ b u,(b=a\/H b=some (.own a))->h.get? b=some u->h'.get? b=some u)
  (ho:∀ b,H b=some (.own a)->H' b=some (.own a)) (ht:∀ b xs,H b=some (.tup xs)->H' b=some (.tup xs)):ObjOk P w H' h' a o:=by
 induction o with
 | lst xs=>obtain ⟨z,l,n,r,e⟩:=x;exact ⟨z,l,n,r,k _ _ (.inl rfl) e⟩
 | tup xs=>obtain ⟨z,l,r,g,e,c⟩:=x;exact ⟨z,l,r,g,k _ _ (.inl rfl) e,c⟩
 | dK kvs=>obtain ⟨z,y,E,r,g,j,i,e,c⟩:=x;exact ⟨z,y,E,r,g,j,i,k _ _ (.inl rfl) e,c⟩
 | dT kvs=>
  obtain ⟨z,y,xs,r,g,j,i,e,c⟩:=x;exact ⟨z,y,xs,Paired.mapP r fun p q z=>⟨z.1,ht _ _ z.2.1,z.2.2⟩,g,j,i,k _ _ (.inl rfl) e,c⟩
 | set S n=>obtain ⟨g,j,i,t,e,c⟩:=x;exact ⟨g,j,i,t,k _ _ (.inl rfl) e,c⟩
 | ins C dx fs=>
  obtain ⟨d,z,B,e,s,⟨m,j,i,D,c⟩,r⟩:=x;exact ⟨ho _ d,z,B,k _ _ (.inl rfl) e,s,⟨m,j,i,k _ _ (.inr d) D,c⟩,r⟩
 | own y=>obtain ⟨g,e⟩:=x;exact ⟨g,k _ _ (.inl rfl) e⟩
 | xd fs=>obtain ⟨s,⟨m,j,i,e,c⟩,r⟩:=x;exact ⟨s,⟨m,j,i,k _ _ (.inl rfl) e,c⟩,r⟩
 | rng lo hi=>obtain ⟨t,u,v,e⟩:=x;exact ⟨t,u,v,k _ _ (.inl rfl) e⟩
 | frz g u ih=>obtain ⟨e,q⟩:=x;exact ⟨k _ _ (.inl rfl) e,ih q⟩
 | tbl ps=>
  have e:h.get? a=some { cls:=.none,data:=.fields ps }:=x;show h'.get? a=some { cls:=.none,data:=.fields ps };exact k a _ (.inl rfl) e
 | met f y=>
  have e:h.get? a=some (W.methodObj (.ref f) (.ref y)):=x;show h'.get? a=some (W.methodObj (.ref f) (.ref y));exact k a _ (.inl rfl) e
 | ext φ=>obtain ⟨p,⟨o,e⟩,A⟩:=x;exact ⟨A _ _ p fun o q=>k _ _ (.inl rfl) q,⟨o,k _ _ (.inl rfl) e⟩,A⟩
theorem HOk.lt (x:HOk P w H h) (e:H a=some o):a<h.objs.size:=(x a o e).lt
theorem HOk.fresh (x:HOk P w H h) (e:h.objs.size<=a):H a=none:=by
 cases q:H a with
 | none=>rfl
 | some u=>exact absurd (Nat.lt_of_lt_of_le (x.lt q) e) (Nat.lt_irrefl _)
theorem HOk.kept (x:HOk P w H h) (k:∀ b u,h.get? b=some u->h'.get? b=some u):HOk P w H h':=fun a o e=>
 (x a o e).stay (fun b u _ q=>k b u q) (fun _ q=>q) fun _ _ q=>q
theorem HOk.laid (x:HOk P w H h) (k:∀ b u,h.get? b=some u->h'.get? b=some u) (hp:h.objs.size<=a) (new:ObjOk P w (upd H a o) h' a o):HOk P w (upd H a o) h':=fun b u e=>by
 have f:=x.fresh hp;by_cases d:b=a
 ·subst d;rw [Jaj] at e;cases e;exact new
 ·rw [Jag d] at e;exact (x b u e).stay (fun c v _ q=>k c v q) (fun c q=>by rw [Jag (Jah q f)];exact q) fun c g q=>by rw [Jag (Jah q f)];exact q
end
def Rd (H:Hp) (a:Addr) (u:HO):Prop:=H a=some u\/∃ o,H a=some (.frz o u)
variable {P:Program} {h:Heap}
theorem Rd.ok {w:World} (r:Rd H a u) (x:HOk P w H h):ObjOk P w H h a u:=by
 rcases r with r | ⟨o,r⟩
 ·exact x a u r
 ·obtain ⟨_,q⟩:=x a _ r;exact q
def Mut:Option HO->Prop
 | some (.lst _)=>True
 | some (.dK _)=>True
 | some (.dT _)=>True
 | some (.set _ _)=>True
 | some (.ins _ _ _)=>True
 | some (.ext _)=>True
 | _=>False
section
variable {h':Heap} {x e:Addr} {o':HO} {w:World}
theorem HOk.write (ok:HOk P w H h) (mu:Mut (H x)) (he:e=x\/H e=some (.own x)) (k:∀ b u,b≠e->h.get? b=some u->h'.get? b=some u) (heo:∃ u,h'.get? e=some u)
  (new:ObjOk P w (upd H x o') h' x o'):HOk P w (upd H x o') h':=fun b u q=>by
 have d:∀ c y,H c=some (.own y)->c≠x:=fun c y r z=>by subst z;rw [r] at mu;exact mu
 have f:∀ c g,H c=some (.tup g)->c≠x:=fun c g r z=>by subst z;rw [r] at mu;exact mu
 by_cases i:b=x
 ·subst i;rw [Jaj] at q;cases q;exact new
 ·rw [Jag i] at q;by_cases a:b=e
  ·have l:H b=some (.own x):=by
    rcases he with z | z
    ·exact absurd (a.trans z) i
    ·rw [a];exact z
   rw [q] at l;cases l;obtain ⟨v,m⟩:=heo;exact ⟨v,by rw [a];exact m⟩
  ·refine (ok b u q).stay (fun c v j r=>k c v ?_ r) (fun c r=>by rw [Jag (d c b r)];exact r) fun c g r=>by rw [Jag (f c g r)];exact r
   rcases j with rfl | j
   ·exact a
   ·rintro rfl;rcases he with z | z
    ·exact d c b j z
    ·rw [j] at z;cases z;exact i rfl
end
structure Un (fs ex:List Addr) (H H':Hp) (h h':Heap):Prop where
 keep:∀ b o,h.get? b=some o->H b=none->b∉fs->b∉ex->h'.get? b=some o
 slot:∀ b o,h.get? b=some o->H b=none->b∈fs->b∉ex->∃ sl,h'.get? b=some { o with slots:=sl }
 free:∀ b o,h.get? b=some o->H b=none->b∉ex->H' b=none
 there:∀ b o,h.get? b=some o->b∉ex->∃ o',h'.get? b=some o'
 tups:∀ b xs,H b=some (.tup xs)->H' b=some (.tup xs)
 frzs:∀ b o u,H b=some (.frz o u)->H' b=some (.frz o u)
 tbls:∀ b ps,H b=some (.tbl ps)->∃ more,H' b=some (.tbl (ps++more))
section
variable {fs' ex ex':List Addr} {H1 H2:Hp} {h1 h2 h':Heap} {x e:Addr} {fs:List Addr}
theorem Un.any (u:Un fs ex H H1 h h1) {b:Addr} {ob:Obj} (q:h.get? b=some ob) (n:H b=none) (hx:b∉ex):∃ sl,h1.get? b=some { ob with slots:=sl }:=by
 by_cases a:b∈fs
 ·exact u.slot b ob q n a hx
 ·exact ⟨ob.slots,u.keep b ob q n a hx⟩
theorem Un.kept (k:∀ b u,h.get? b=some u->h'.get? b=some u):Un fs ex H H h h' :=
 ⟨fun b a q _ _ _=>k b a q,fun b a q _ _ _=>⟨a.slots,k b a q⟩,fun _ _ _ n _=>n,fun b a q _=>⟨a,k b a q⟩,fun _ _ q=>q,fun _ _ _ q=>q,fun _ c q=>⟨#[],by rw [q];simp⟩⟩
theorem Un.refl:Un fs ex H H h h:=Un.kept fun _ _ q=>q
theorem Un.laid (k:∀ b u,h.get? b=some u->h'.get? b=some u) (hp:h.objs.size<=a) (hn:H a=none):Un fs ex H (upd H a o) h h' where
 keep:=fun b u q _ _ _=>k b u q
 slot:=fun b u q _ _ _=>⟨u.slots,k b u q⟩
 free:=fun b u q n _=>by rw [Jag (Nat.ne_of_lt (Nat.lt_of_lt_of_le (Heap.lt_size q) hp))];exact n
 there:=fun b u q _=>⟨u,k b u q⟩
 tups:=fun b c q=>by rw [Jag (Jah q hn)];exact q
 frzs:=fun b u c q=>by rw [Jag (Jah q hn)];exact q
 tbls:=fun b d q=>⟨#[],by rw [Jag (Jah q hn),q];simp⟩
theorem Un.write (mu:Mut (H x)) (he:e=x\/H e=some (.own x)) (k:∀ b u,b≠e->h.get? b=some u->h'.get? b=some u) (heo:∃ u,h'.get? e=some u):Un fs ex H (upd H x o) h h':=by
 have d:∀ b,H b=none->b≠x:=fun b n z=>by subst z;rw [n] at mu;exact mu
 have f:∀ b,H b=none->b≠e:=fun b n z=>by
  subst z;rcases he with r | r
  ·exact d b n r
  ·rw [n] at r;cases r
 have c:∀ b u,H b=some u->¬ Mut (some u)->b≠x:=fun b u q i z=>by subst z;rw [q] at mu;exact i mu
 refine ⟨fun b u q n _ _=>k b u (f b n) q,fun b u q n _ _=>⟨u.slots,k b u (f b n) q⟩,fun b u q n _=>by rw [Jag (d b n)];exact n,fun b u q _=>?_,
  fun b g q=>by rw [Jag (c b _ q fun z=>z)];exact q,fun b u g q=>by rw [Jag (c b _ q fun z=>z)];exact q,fun b j q=>⟨#[],by rw [Jag (c b _ q fun z=>z),q];simp⟩⟩
 by_cases a:b=e
 ·subst a;exact heo
 ·exact ⟨u,k b u a q⟩
end
def trk (h:Heap) (H:Hp):List Addr:=(List.range h.objs.size).filter fun a=>(H a).isSome
def hidT (h:Heap) (H:Hp):Heap:=W.hideAll h (trk h H)
theorem JhU (h:Heap) (H:Hp):(hidT h H).objs.size=h.objs.size:=W.hideAll_size _ _
variable {o:Obj}
theorem Ji6 (e:h.get? b=some o) (n:H b=none):(hidT h H).get? b=some o :=
 W.hideAll_get _ e fun a=>by
  have q:(H b).isSome=true:=(mem_filter.mp a).2;rw [n] at q;simp at q
theorem JkI (e:(hidT h H).get? b=some o):h.get? b=some o/\H b=none:=by
 have a:h.get? b=some o:=W.of_hideAll (trk h H) e;refine ⟨a,?_⟩;cases q:H b with
 | none=>rfl
 | some x=>
  have c:b∈trk h H:=mem_filter.mpr ⟨List.mem_range.mpr (Heap.lt_size a),by simp [q]⟩;have z:(hidT h H).get? b=none:=W.hideAll_none (trk h H) c;rw [z] at e;cases e
def Jkf (g h:Heap) (L:Addr):List (Addr × Obj):=(List.range h.objs.size).filterMap fun a=>if a=L\/(g.get? a).isSome=true then none else (h.get? a).map fun o=>(a,o)
def rest (g h:Heap) (L d:Addr):List (Addr × Obj):=(Jkf g h L).filter fun p=>decide (p.1≠d)
structure Mod (K:W.Frag) (mg:Str->Option Value) (base:Heap):Prop where
 kin:K.In base
 glob:base.Ns mainGlobals mg
 blt:∃ mb,base.Ns builtinsNs mb/\∀ x:Str,x≠"__name__"->mb x=bootBuiltins x
 nolimit:base.NoLimit
structure Cx where
 prog:Program
 w:World
 K:W.Frag
 mg:Str->Option Value
 base:Heap
 A:Around
 N:List Str
 s₀ : Shared
 H₀ : Hp
 env:Env
 outer:List Env
 stack:List Env
 ex:List Addr
 fn:Str->Bool
 calm:Bool
 pn:List (Addr × Obj)
 xe:Value->Shared->Prop
def frs (l:List Env):List Addr:=l.filterMap (·.frame)
abbrev Cx.fs (X:Cx):List Addr:=frs X.outer
def Vis (sc:Scope) (x:Str):Prop:=sc.names.lookup x=some .local\/sc.names.lookup x=some .cell\/sc.names.lookup x=some .free
def Loc (sc:Scope) (x:Str):Prop:=sc.names.lookup x=some .local\/sc.names.lookup x=some .cell
def Look (env:Env) (h:Heap) (m:Str->Option Value) (x:Str) (u:Value):Prop :=
 (env.kindOf x=some .local/\m x=some u)\/((env.kindOf x=some .cell\/env.kindOf x=some .free)/\∃ c,env.cells.lookup x=some c/\h.IsCell c (some u))
structure Cx.Ok (X:Cx):Prop where
 mod:Mod X.K X.mg X.base
 kind:X.env.scope.kind=.function
 glob:X.env.globals=mainGlobals
 blt:X.env.builtins=builtinsNs
 above:X.s₀.heap.objs.size<=X.env.locals
 inj:∀ x y c,X.env.cells.lookup x=some c->X.env.cells.lookup y=some c->x=y
 has:∀ x,(X.env.kindOf x=some .cell\/X.env.kindOf x=some .free)->∃ c,X.env.cells.lookup x=some c
 cab:∀ x c,X.fn x=true->X.env.cells.lookup x=some c->X.s₀.heap.objs.size<=c
 hd:X.calm=true->X.A.handled=none
 frames:X.A.frames=some X.stack
 stk:X.stack=X.outer\/(X.stack=X.env::X.outer/\X.env.frame=some X.env.locals)
 exf:∀ b∈X.ex,b≠X.env.locals/\∀ x c,X.env.cells.lookup x=some c->c≠b
 bs:∀ b o,X.base.get? b=some o->X.s₀.heap.get? b=some o/\X.H₀ b=none
 bsz:X.base.objs.size<=X.s₀.heap.objs.size
 noex:∀ b o,X.base.get? b=some o->b∉X.ex
 exfs:∀ b∈X.ex,b∉X.fs
 funs:X.s₀.heap.FunFrames X.base X.outer
 frf:∀ b∈X.fs,X.H₀ b=none
structure Inv (X:Cx) (pins:List (Addr × Obj)) (σ : List (Option V)) (H:Hp) (s:Shared):Prop where
 ok:X.Ok
 os:s.os=X.s₀.os
 bare:AllBare s.gens
 base:Un X.fs X.ex X.H₀ H X.s₀.heap s.heap
 loc:∃ m,s.heap.Ns X.env.locals m/\∀ (i:Nat) (x:Str) (v:V),X.N[i]?=some x->σ[i]?=some (some v)->Vis X.env.scope x->∃ u,RelV v u/\Look X.env s.heap m x u
 cell:∀ x c,X.env.cells.lookup x=some c->∃ v,s.heap.IsCell c v
 free:H X.env.locals=none
 freeC:∀ x c,X.env.cells.lookup x=some c->H c=none
 pin:∀ p∈X.pn++pins,s.heap.get? p.1=some p.2/\H p.1=none/\p.1≠X.env.locals/\p.1∉X.fs/\∀ v,p.2.data≠.cell v
 hok:HOk X.prog X.w H s.heap
 len : σ.length=X.N.length
section
variable {X:Cx} {pins:List (Addr × Obj)} {σ:List (Option V)} {H':Hp} {h':Heap} {s:Shared}
theorem Cx.Ok.nofr (ok:X.Ok) {b:Addr} {o:Obj} (e:X.base.get? b=some o):b∉X.fs:=fun a=>by
 have:=(ok.funs.mem a).1;rw [e] at this;cases this
theorem Inv.bs (I:Inv X pins σ H s):∀ b o,X.base.get? b=some o->s.heap.get? b=some o/\H b=none:=fun b o e=>
 ⟨I.base.keep b o (I.ok.bs b o e).1 (I.ok.bs b o e).2 (I.ok.nofr e) (I.ok.noex b o e),I.base.free b o (I.ok.bs b o e).1 (I.ok.bs b o e).2 (I.ok.noex b o e)⟩
theorem Inv.bk (I:Inv X pins σ H s):∀ b o,X.base.get? b=some o->s.heap.get? b=some o:=fun b o e=>(I.bs b o e).1
theorem Inv.mod (I:Inv X pins σ H s):Mod X.K X.mg X.base:=I.ok.mod
theorem Inv.kIn (I:Inv X pins σ H s):X.K.In s.heap:=I.ok.mod.kin.keeps I.bk
theorem Inv.lt (I:Inv X pins σ H s):X.env.locals<s.heap.objs.size:=let ⟨_,hn,_⟩:=I.loc;hn.lt
theorem Inv.sz (I:Inv X pins σ H s):X.s₀.heap.objs.size<=s.heap.objs.size:=Nat.le_trans I.ok.above (Nat.le_of_lt I.lt)
theorem Inv.nofs (I:Inv X pins σ H s) {a:Addr} (h:s.heap.objs.size<=a):a∉X.fs:=fun c=>by
 obtain ⟨_,o,b,_⟩:=I.ok.funs.mem c;exact absurd (Nat.lt_of_lt_of_le (Heap.lt_size b) (Nat.le_trans I.sz h)) (Nat.lt_irrefl _)
theorem Inv.cne (I:Inv X pins σ H s):∀ x c,X.env.cells.lookup x=some c->c≠X.env.locals:=fun x c e z=>by
 obtain ⟨v,o,f,d⟩:=I.cell x c e;obtain ⟨m,⟨g,i,h,a,b,_⟩,_⟩:=I.loc;rw [z,a] at f;cases f;rw [b] at d;cases d
theorem Inv.funs (I:Inv X pins σ H s):s.heap.FunFrames X.base X.outer:=by
 have all:∀ (l:List Env),(∀ b∈frs l,b∈X.fs)->X.s₀.heap.FunFrames X.base l->s.heap.FunFrames X.base l:=by
  intro l;induction l with
  | nil=>intro _ _;trivial
  | cons env r ih=>
   intro f g;obtain ⟨i,⟨L,o,d,k,m,j⟩,h⟩:=g;have c:L∈X.fs:=f L (by unfold frs;rw [List.filterMap_cons,d];exact mem_cons_self);obtain ⟨n,e⟩:=I.base.slot L o m (I.ok.frf L c) c fun z=>I.ok.exfs L z c;exact ⟨i,⟨L,_,d,k,e,j⟩,ih (fun b a=>f b (by unfold frs;rw [List.filterMap_cons,d];exact mem_cons_of_mem _ a)) h⟩
 exact all X.outer (fun _ a=>a) I.ok.funs
theorem Inv.stack (I:Inv X pins σ H s):s.heap.FunFrames X.base X.stack:=by
 rcases I.ok.stk with e | ⟨e,hf⟩
 ·rw [e];exact I.funs
 ·rw [e];obtain ⟨m,a,_⟩:=I.loc;refine .cons (by rw [I.ok.kind];decide) hf a ?_ I.funs;exact Heap.get?_none_of_le (Nat.le_trans I.ok.bsz I.ok.above)
theorem Inv.stkSub (I:Inv X pins σ H s):∀ b∈frs X.stack,b∈X.env.locals::X.fs:=fun b a=>by
 rcases I.ok.stk with e | ⟨e,hf⟩
 ·rw [e] at a;exact mem_cons_of_mem _ a
 ·rw [e] at a;unfold frs at a;rw [List.filterMap_cons,hf] at a;exact a
theorem Inv.stkFree (I:Inv X pins σ H s):∀ b∈frs X.stack,H b=none:=fun b a=>by
 rcases mem_cons.mp (I.stkSub b a) with e | a
 ·rw [e];exact I.free
 ·obtain ⟨_,o,c,_⟩:=I.ok.funs.mem a;exact I.base.free b o c (I.ok.frf b a) fun z=>I.ok.exfs b z a
variable {g':Array GenState} {t':Nat} {d':Drawn} {ch:List Addr}
theorem Inv.step (I:Inv X pins σ H s)
  (hch:∀ b∈ch,(b∈X.ex\/X.s₀.heap.objs.size<=b)/\b≠X.env.locals/\(∀ x c,X.env.cells.lookup x=some c->c≠b)/\∀ p∈X.pn++pins,p.1≠b)
  (keep:∀ b o,b≠X.env.locals->b∉X.fs->b∉ch->s.heap.get? b=some o->H b=none->h'.get? b=some o)
  (slot:∀ b o,b≠X.env.locals->b∈X.fs->b∉ch->s.heap.get? b=some o->H b=none->∃ sl,h'.get? b=some { o with slots:=sl }) (free:∀ b o,b∉ch->s.heap.get? b=some o->H b=none->H' b=none)
  (there:∀ b o,b∉ch->s.heap.get? b=some o->∃ o',h'.get? b=some o')
  (tups:∀ b xs,H b=some (.tup xs)->H' b=some (.tup xs)) (frzs:∀ b o u,H b=some (.frz o u)->H' b=some (.frz o u)) (tbls:∀ b ps,H b=some (.tbl ps)->∃ more,H' b=some (.tbl (ps++more)))
  (ns:∀ m,s.heap.Ns X.env.locals m->h'.Ns X.env.locals m) (hok:HOk X.prog X.w H' h') (hg:AllBare g') :
  Inv X pins σ H' { s with heap:=h',gens:=g',drawn:=d',toks:=t' }:=by
 have B:∀ b o,X.s₀.heap.get? b=some o->b≠X.env.locals:=fun b o e=>Nat.ne_of_lt (Nat.lt_of_lt_of_le (Heap.lt_size e) I.ok.above);have h:∀ b o,X.s₀.heap.get? b=some o->b∉X.ex->b∉ch:=fun b o e a t=>by
  rcases (hch b t).1 with z | z
  ·exact a z
  ·exact absurd (Nat.lt_of_lt_of_le (Heap.lt_size e) z) (Nat.lt_irrefl _)
 have g:∀ x c,X.env.cells.lookup x=some c->∀ v,s.heap.IsCell c v->h'.IsCell c v:=fun x c e v ⟨o,y,D⟩=>by
  have f:c∉ch:=fun z=>(hch c z).2.2.1 x c e rfl;by_cases J:c∈X.fs
  ·obtain ⟨sl,q⟩:=slot c o (I.cne x c e) J f y (I.freeC x c e);exact ⟨_,q,D⟩
  ·exact ⟨o,keep c o (I.cne x c e) J f y (I.freeC x c e),D⟩
 refine ⟨I.ok,I.os,hg,⟨fun b o e n t a=>?_,fun b o e n t a=>?_,fun b o e n a=>?_,fun b o e a=>?_,fun b xs e=>tups b xs (I.base.tups b xs e),fun b o xs e=>frzs b o xs (I.base.frzs b o xs e),fun b ps e=>?_⟩,?_,fun x c e=>?_,?_,fun x c e=>?_,fun p G=>?_,hok,I.len⟩
 ·exact keep b o (B b o e) t (h b o e a) (I.base.keep b o e n t a) (I.base.free b o e n a)
 ·obtain ⟨sl,j⟩:=I.base.slot b o e n t a;obtain ⟨C,A⟩:=slot b _ (B b o e) t (h b o e a) j (I.base.free b o e n a);exact ⟨C,A⟩
 ·obtain ⟨o',j⟩:=I.base.there b o e a;exact free b o' (h b o e a) j (I.base.free b o e n a)
 ·obtain ⟨o',j⟩:=I.base.there b o e a;exact there b o' (h b o e a) j
 ·obtain ⟨N,j⟩:=I.base.tbls b ps e;obtain ⟨L,A⟩:=tbls b _ j;exact ⟨N++L,by rw [A,Array.append_assoc]⟩
 ·obtain ⟨m,K,O⟩:=I.loc;refine ⟨m,ns m K,fun i x v j A M=>?_⟩;obtain ⟨u,r,l⟩:=O i x v j A M;refine ⟨u,r,?_⟩;rcases l with l | ⟨k,c,e,z⟩
  ·exact .inl l
  ·exact .inr ⟨k,c,e,g x c e _ z⟩
 ·obtain ⟨v,z⟩:=I.cell x c e;exact ⟨v,g x c e v z⟩
 ·obtain ⟨m,⟨o,_,_,y,_⟩,_⟩:=I.loc;exact free _ o (fun z=>(hch _ z).2.1 rfl) y I.free
 ·obtain ⟨v,o,y,D⟩:=I.cell x c e;exact free c o (fun z=>(hch c z).2.2.1 x c e rfl) y (I.freeC x c e)
 ·obtain ⟨e,n,F,E,d⟩:=I.pin p G;have f:p.1∉ch:=fun z=>(hch p.1 z).2.2.2 p G rfl;exact ⟨keep p.1 p.2 F E f e n,free p.1 p.2 f e n,F,E,d⟩
theorem Inv.un (I:Inv X pins σ H s) (u:Un X.fs [] H H' s.heap h') (hok:HOk X.prog X.w H' h'):Inv X pins σ H' { s with heap:=h',toks:=t' }:=by
 obtain ⟨m,⟨o,k,t,g,r⟩,_⟩:=id I.loc;obtain ⟨l,h⟩:=u.any g I.free (by simp);exact I.step (g':=s.gens) (d':=s.drawn) (ch:=[]) (fun _ z=>nomatch z) (fun b o _ c _ e n=>u.keep b o e n c (by simp)) (fun b o _ c _ e n=>u.slot b o e n c (by simp)) (fun b o _ e n=>u.free b o e n (by simp)) (fun b o _ e=>u.there b o e (by simp)) u.tups u.frzs u.tbls (fun q i=>by
  obtain ⟨p,f,d,a,j⟩:=i;rw [g] at a;cases a;exact ⟨_,f,d,h,j⟩) hok I.bare
theorem Inv.call (I:Inv X pins σ H s) (u:Un (frs X.stack) ch H H' s.heap h') (hok:HOk X.prog X.w H' h') (hg:AllBare g')
  (hch:∀ b∈ch,(b∈X.ex\/X.s₀.heap.objs.size<=b)/\b≠X.env.locals/\(∀ x c,X.env.cells.lookup x=some c->c≠b)/\∀ p∈X.pn++pins,p.1≠b) :
  Inv X pins σ H' { s with heap:=h',gens:=g',drawn:=d',toks:=t' }:=by
 obtain ⟨m,⟨o,A,y,i,r⟩,_⟩:=id I.loc;obtain ⟨q,g⟩:=u.any i I.free fun z=>(hch _ z).2.1 rfl;exact I.step (ch:=ch) hch (fun b o g j a e n=>u.keep b o e n (fun z=>(mem_cons.mp (I.stkSub b z)).elim g j) a) (fun b o _ _ a e n=>u.any e n a) (fun b o a e n=>u.free b o e n a) (fun b o a e=>u.there b o e a) u.tups u.frzs u.tbls (fun v k=>by
  obtain ⟨t,f,h,d,l⟩:=k;rw [i] at d;cases d;exact ⟨_,f,h,g,l⟩) hok hg
variable {it:Addr}
theorem Inv.turned (I:Inv X pins σ H s) (k:∀ b o,b≠it->s.heap.get? b=some o->h'.get? b=some o) (hn:H it=none) (hL:it≠X.env.locals)
  (h1:it∈X.ex\/X.s₀.heap.objs.size<=it) (h2:∀ x c,X.env.cells.lookup x=some c->c≠it) (h3:∀ p∈X.pn++pins,p.1≠it):Inv X pins σ H { s with heap:=h',toks:=t' }:=by
 have d:∀ b u,H b=some u->b≠it:=fun b u e z=>by rw [z,hn] at e;cases e
 refine I.step (g':=s.gens) (d':=s.drawn) (ch:=[it]) (fun b g=>?_) (fun b o _ _ a e _=>k b o (fun z=>a (by simp [z])) e) (fun b o _ _ a e _=>⟨o.slots,k b o (fun z=>a (by simp [z])) e⟩) (fun _ _ _ _ n=>n)
  (fun b o a e=>⟨o,k b o (fun z=>a (by simp [z])) e⟩) (fun _ _ e=>e) (fun _ _ _ e=>e) (fun b l e=>⟨#[],by rw [e];simp⟩) (fun m h=>?_) (fun b u e=>?_) I.bare
 ·have e:b=it:=by simpa using g
  subst e;exact ⟨h1,hL,h2,h3⟩
 ·obtain ⟨o,j,i,f,r⟩:=h;exact ⟨o,j,i,k _ o (Ne.symm hL) f,r⟩
 ·refine (I.hok b u e).stay (fun c v a q=>k c v ?_ q) (fun _ q=>q) fun _ _ q=>q;rcases a with z | z
  ·rw [z];exact d b u e
  ·exact d c _ z
theorem Inv.tok (I:Inv X pins σ H s) (t:Nat):Inv X pins σ H { s with toks:=t }:=I.un (h':=s.heap) (t':=t) Un.refl I.hok
theorem Inv.kept (I:Inv X pins σ H s) (k:∀ b u,s.heap.get? b=some u->h'.get? b=some u):Inv X pins σ H { s with heap:=h',toks:=t' }:=I.un (Un.kept k) (I.hok.kept k)
variable {o:HO}
theorem Inv.laid (I:Inv X pins σ H s) (k:∀ b u,s.heap.get? b=some u->h'.get? b=some u) (hp:s.heap.objs.size<=a) (new:ObjOk X.prog X.w (upd H a o) h' a o) :
  Inv X pins σ (upd H a o) { s with heap:=h',toks:=t' }:=I.un (Un.laid k hp (I.hok.fresh hp)) (I.hok.laid k hp new)
theorem Inv.write {x e:Addr} (I:Inv X pins σ H s) (mu:Mut (H x)) (he:e=x\/H e=some (.own x)) (k:∀ b u,b≠e->s.heap.get? b=some u->h'.get? b=some u) (heo:∃ u,h'.get? e=some u)
  (new:ObjOk X.prog X.w (upd H x o) h' x o):Inv X pins σ (upd H x o) { s with heap:=h',toks:=t' }:=I.un (Un.write mu he k heo) (I.hok.write mu he k heo new)
theorem Inv.pins_of {pins':List (Addr × Obj)} (I:Inv X pins σ H s) (h:∀ p∈pins',s.heap.get? p.1=some p.2/\H p.1=none/\p.1≠X.env.locals/\p.1∉X.fs/\∀ v,p.2.data≠.cell v):Inv X pins' σ H s :=
 ⟨I.ok,I.os,I.bare,I.base,I.loc,I.cell,I.free,I.freeC,fun p a=>(mem_append.mp a).elim (fun z=>I.pin p (List.mem_append_left _ z)) (h p),I.hok,I.len⟩
variable {N:List Str}
theorem JeX (hN:N.Nodup) {i j:Nat} {x:Str} (a:N[i]?=some x) (b:N[j]?=some x):i=j:=by
 obtain ⟨f,d⟩:=List.getElem?_eq_some_iff.mp a;obtain ⟨e,c⟩:=List.getElem?_eq_some_iff.mp b;exact (List.getElem_inj hN).mp (d.trans c.symm)
variable {M:Model} {x:Str} {v:V} {u:Value} {Q:Unit->Shared->Prop}
theorem JfX {i:Nat} (I:Inv X pins σ H s) (hN:X.N.Nodup) (hi:X.N[i]?=some x) (hx:Loc X.env.scope x) (r:RelV v u)
  (h:∀ s',Inv X pins (σ.set i (some v)) H s'->(∃ a,Heap.SameBut a s.heap s'.heap/\(a=X.env.locals\/X.env.cells.lookup x=some a))->Q () s') (hf:X.fn x=true\/X.env.scope.names.lookup x=some .local:=by first | exact .inl rfl | exact .inr rfl | assumption):wpAny M A (storeName X.env x u) Q E s:=by
 obtain ⟨m,Z,hl⟩:=id I.loc;have R:(X.env.scope.kind == .class||(X.env.scope.kind == .module&&X.env.locals != X.env.globals))=false:=by rw [I.ok.kind];rfl
 have hiσ : i<σ.length:=by rw [I.len];exact (List.getElem?_eq_some_iff.mp hi).1
 have D:=I.cne;have g:∀ {a:Addr} {K:Heap},(∃ o,s.heap.get? a=some o/\H a=none)->Heap.SameBut a s.heap K->HOk X.prog X.w H K:=fun {a K} ha f b ob e=>by
  obtain ⟨_,_,B⟩:=ha;refine (I.hok b ob e).stay (fun c W t q=>(f.2 c ?_).trans q) (fun _ q=>q) fun _ _ q=>q;rintro rfl;rcases t with rfl | t
  ·rw [B] at e;cases e
  ·rw [B] at t;cases t
 rcases hx with hk | hk
 ·refine wpAny_storeName_local hk Z (fun K a1 f=>?_) R;obtain ⟨oL,_,_,a0,_⟩:=id Z;refine h _ ⟨I.ok,I.os,I.bare,⟨fun b o e n F hx=>?_,fun b o e n F hx=>?_,I.base.free,fun b o e hx=>?_,I.base.tups,I.base.frzs,I.base.tbls⟩,⟨_,a1,fun j y v' l C e3=>?_⟩,fun y c e=>?_,I.free,I.freeC,fun p hp=>?_,g ⟨oL,a0,I.free⟩ f,by simpa using I.len⟩ ⟨_,f, .inl rfl⟩
  ·exact (f.2 b (Nat.ne_of_lt (Nat.lt_of_lt_of_le (Heap.lt_size e) I.ok.above))).trans (I.base.keep b o e n F hx)
  ·obtain ⟨sl,l⟩:=I.base.slot b o e n F hx;exact ⟨sl,(f.2 b (Nat.ne_of_lt (Nat.lt_of_lt_of_le (Heap.lt_size e) I.ok.above))).trans l⟩
  ·obtain ⟨o',l⟩:=I.base.there b o e hx;exact ⟨o',(f.2 b (Nat.ne_of_lt (Nat.lt_of_lt_of_le (Heap.lt_size e) I.ok.above))).trans l⟩
  ·by_cases G:j=i
   ·subst G;rw [hi] at l;cases l;rw [List.getElem?_set_self hiσ] at C;cases C;exact ⟨u,r, .inl ⟨hk,by simp⟩⟩
   ·rw [List.getElem?_set_ne (Ne.symm G)] at C;obtain ⟨u',r',q⟩:=hl j y v' l C e3;refine ⟨u',r',?_⟩;rcases q with ⟨k,e⟩ | ⟨k,c,e,z⟩
    ·refine .inl ⟨k,?_⟩;have : y≠x:=fun e=>G (JeX hN l (e ▸ hi));simp [this,e]
    ·exact .inr ⟨k,c,e,z.sameBut f (D y c e)⟩
  ·obtain ⟨W,z⟩:=I.cell y c e;exact ⟨W,z.sameBut f (D y c e)⟩
  ·obtain ⟨e,n,T,Y,d⟩:=I.pin p hp;exact ⟨(f.2 p.1 T).trans e,n,T,Y,d⟩
 ·have J:X.fn x=true:=by
   rcases hf with z | z
   ·exact z
   ·rw [z] at hk;cases hk
  obtain ⟨c,t⟩:=I.ok.has x (.inl hk);obtain ⟨W,z⟩:=I.cell x c t;refine wpAny_storeName_cell I.ok.kind hk t z (fun K L f=>?_);obtain ⟨oc,S,O⟩:=id z;refine h { s with heap:=K } ⟨I.ok,I.os,I.bare,⟨fun b o e n F hx=>?_,fun b o e n F hx=>?_,I.base.free,fun b o e hx=>?_,I.base.tups,I.base.frzs,I.base.tbls⟩,⟨m,Z.sameBut f (Ne.symm (D x c t)),fun j y v' l C e3=>?_⟩,fun y U e=>?_,I.free,I.freeC,fun p hp=>?_,g ⟨oc,S,I.freeC x c t⟩ f,by simpa using I.len⟩ ⟨c,f, .inr t⟩
  ·exact (f.2 b (Nat.ne_of_lt (Nat.lt_of_lt_of_le (Heap.lt_size e) (I.ok.cab x c J t)))).trans (I.base.keep b o e n F hx)
  ·obtain ⟨sl,l⟩:=I.base.slot b o e n F hx;exact ⟨sl,(f.2 b (Nat.ne_of_lt (Nat.lt_of_lt_of_le (Heap.lt_size e) (I.ok.cab x c J t)))).trans l⟩
  ·obtain ⟨o',l⟩:=I.base.there b o e hx;exact ⟨o',(f.2 b (Nat.ne_of_lt (Nat.lt_of_lt_of_le (Heap.lt_size e) (I.ok.cab x c J t)))).trans l⟩
  ·by_cases G:j=i
   ·subst G;rw [hi] at l;cases l;rw [List.getElem?_set_self hiσ] at C;cases C;exact ⟨u,r, .inr ⟨.inl hk,c,t,L⟩⟩
   ·rw [List.getElem?_set_ne (Ne.symm G)] at C;obtain ⟨u',r',q⟩:=hl j y v' l C e3;refine ⟨u',r',?_⟩;rcases q with q | ⟨k,U,e,z'⟩
    ·exact .inl q
    ·refine .inr ⟨k,U,e,z'.sameBut f ?_⟩;rintro rfl;exact G (JeX hN l (I.ok.inj _ _ _ e t ▸ hi))
  ·by_cases P:U=c
   ·subst P;exact ⟨_,L⟩
   ·obtain ⟨w2,z2⟩:=I.cell y U e;exact ⟨w2,z2.sameBut f P⟩
  ·obtain ⟨e,n,T,Y,d⟩:=I.pin p hp;refine ⟨(f.2 p.1 ?_).trans e,n,T,Y,d⟩;intro q;rw [q,S] at e;have q':oc=p.2:=Option.some.inj e;exact d W (by rw [<- q'];exact O)
theorem Jfk {i:Nat} (I:Inv X pins σ H s) (hN:X.N.Nodup) (hi:X.N[i]?=some x) (hx:Loc X.env.scope x) (r:RelV v u)
  (h:∀ s',Inv X pins (σ.set i (some v)) H s'->Q () s') (hf:X.fn x=true\/X.env.scope.names.lookup x=some .local:=by first | exact .inl rfl | exact .inr rfl | assumption):wpAny M A (storeName X.env x u) Q E s :=
 JfX I hN hi hx r (fun s' I' _=>h s' I') hf
variable {s':Shared}
theorem Inv.call' (I:Inv X pins σ H s) (ho:s'.os=s.os) (u:Un (frs X.stack) ch H H' s.heap s'.heap) (hok:HOk X.prog X.w H' s'.heap) (hg:AllBare s'.gens)
  (hch:∀ b∈ch,(b∈X.ex\/X.s₀.heap.objs.size<=b)/\b≠X.env.locals/\(∀ x c,X.env.cells.lookup x=some c->c≠b)/\∀ p∈X.pn++pins,p.1≠b):Inv X pins σ H' s':=by
 obtain ⟨d,g',d',t',a⟩:=s';have e:a=s.os:=ho;subst e;exact I.call (g':=g') (t':=t') (d':=d') u hok hg hch
end
abbrev XK:=Value->Option Addr->Hp->Prop
abbrev St:=List (Option V)
abbrev VK:=V->Hp->Prop
abbrev TE:=St->Hp->VK->Prop
abbrev TT:=St->Hp->(Bool->Hp->Prop)->Prop
abbrev TA:=St->Hp->(List V->Hp->Prop)->Prop
structure Ends where
 nx:St->Hp->Prop
 rt:VK
 bk:St->Hp->Prop:=fun _ _=>False
 ct:St->Hp->Prop:=fun _ _=>False
abbrev TS:=Ends->St->Hp->Prop
def EP (X:Cx) (pins:List (Addr × Obj)) (σ : St) (Q:VK) (u:Value) (s':Shared):Prop:=∃ v H',Inv X pins σ H' s'/\RelV v u/\Q v H'
def TP (X:Cx) (pins:List (Addr × Obj)) (σ : St) (Q:Bool->Hp->Prop) (b:Bool) (s':Shared):Prop:=∃ H',Inv X pins σ H' s'/\Q b H'
def AP (X:Cx) (pins:List (Addr × Obj)) (σ : St) (Q:List V->Hp->Prop) (us:List Value) (s':Shared):Prop:=∃ vs H',Inv X pins σ H' s'/\Vals vs us/\Q vs H'
def SP (X:Cx) (pins:List (Addr × Obj)) (D:Ends) (f:Flow) (s':Shared):Prop :=
 match f with
 | .next=>∃ σ' H',Inv X pins σ' H' s'/\D.nx σ' H'
 | .brk=>∃ σ' H',Inv X pins σ' H' s'/\D.bk σ' H'
 | .cont=>∃ σ' H',Inv X pins σ' H' s'/\D.ct σ' H'
 | .ret u=>∃ v σ' H',Inv X pins σ' H' s'/\RelV v u/\D.rt v H'
def PE (X:Cx) (e:Expr) (t:TE):Prop :=
 ∀ (pins:List (Addr × Obj)) (s:Shared) (σ : St) (H:Hp) (Q:VK),Inv X pins σ H s->t σ H Q->wpAny (model X.prog X.w) X.A (eval e X.env) (EP X pins σ Q) X.xe s
def PT (X:Cx) (e:Expr) (t:TT):Prop :=
 ∀ (pins:List (Addr × Obj)) (s:Shared) (σ : St) (H:Hp) (Q:Bool->Hp->Prop),Inv X pins σ H s->t σ H Q->wpAny (model X.prog X.w) X.A (isTrue e X.env (eval e X.env)) (TP X pins σ Q) X.xe s
def PW (X:Cx) (e:Expr) (t:TT):Prop :=
 ∀ (whole:Sem Value) (pins:List (Addr × Obj)) (s:Shared) (σ : St) (H:Hp) (Q:Bool->Hp->Prop),Inv X pins σ H s->t σ H Q->wpAny (model X.prog X.w) X.A (isTrue e X.env whole) (TP X pins σ Q) X.xe s
variable {X:Cx} {e:Expr}
theorem PW.pt {t:TT} (h:PW X e t):PT X e t:=h _
def PA (X:Cx) (es:List Expr) (t:TA):Prop :=
 ∀ (pos:Pos) (pins:List (Addr × Obj)) (s:Shared) (σ : St) (H:Hp) (Q:List V->Hp->Prop),Inv X pins σ H s->t σ H Q->wpAny (model X.prog X.w) X.A (spliced (backTo pos (starEach es X.env))) (AP X pins σ Q) X.xe s
def PS (X:Cx) (st:Stmt) (t:TS):Prop :=
 ∀ (pins:List (Addr × Obj)) (s:Shared) (σ : St) (H:Hp) (D:Ends),Inv X pins σ H s->t D σ H->wpAny (model X.prog X.w) X.A (exec st X.env) (SP X pins D) X.xe s
def PSs (X:Cx) (st:List Stmt) (t:TS):Prop :=
 ∀ (pins:List (Addr × Obj)) (s:Shared) (σ : St) (H:Hp) (D:Ends),Inv X pins σ H s->t D σ H->wpAny (model X.prog X.w) X.A (execs st X.env) (SP X pins D) X.xe s
variable {M:Model}
theorem thn {α:Type} {t:Sem α} {Q Q' : α->Shared->Prop} {s:Shared} (h:wpAny M A t Q E s) (hQ:∀ a s,Q a s->Q' a s):wpAny M A t Q' E s:=wpAny_mono h hQ fun _ _ x=>x
section
def tVar (i:Nat):TE:=fun σ H Q=>∃ v,σ[i]?=some (some v)/\Q v H
def tC (v:V):TE:=fun _ H Q=>Q v H
variable {x:Str} {pos:Pos}
theorem JlX {i:Nat} (hN:X.N[i]?=some x) (hv:Vis X.env.scope x) (hd:(x == ("__debug__" : Str))=false:=by decide) (hcd:(x == ("__classdict__" : Str))=false:=by decide):PE X (.Name x pos) (tVar i):=by
 intro b s σ H Q I h;obtain ⟨v,e,h⟩:=h;obtain ⟨m,f,d⟩:=I.loc;obtain ⟨u,r,l⟩:=d i x v hN e hv;have a:EP X b σ Q u s:=⟨v,H,I,r,h⟩;rcases l with ⟨hk,hm⟩ | ⟨hk,c,hc,hcell⟩
 ·exact wpAny_Name (wpAny_loadName_local I.ok.kind hk f hm a) hd
 ·rcases hk with hk | hk
  ·exact wpAny_Name (wpAny_loadName_cell I.ok.kind hk hc hcell a) hd
  ·exact wpAny_Name (wpAny_loadName_free I.ok.kind hk hc hcell a hcd) hd
theorem Jac {i j pos}:PE X (.Constant (.int i) j pos) (tC (.int i)):=fun _ _ _ H _ I h=>wpAny_Constant_int ⟨.int i,H,I.tok _,⟨_,rfl⟩,h⟩
theorem pe_bl {b j pos}:PE X (.Constant (.bool b) j pos) (tC (.bl b)):=fun _ _ _ H _ I h=>Constant_bool ⟨.bl b,H,I,rfl,h⟩
theorem JdC {j pos}:PE X (.Constant .none j pos) (tC .non):=fun _ _ _ H _ I h=>Constant_none ⟨.non,H,I,rfl,h⟩
theorem Jbk {x j pos}:PE X (.Constant (.str x) j pos) (tC (.str x)):=fun _ _ _ H _ I h=>Calls.Constant_str ⟨.str x,H,I.tok _,⟨_,rfl⟩,h⟩
def Gl (X:Cx) (x:Str):Prop:=X.env.kindOf x=some .globalImplicit
variable {pins:List (Addr × Obj)} {σ:St} {u:Value} {Q:Value->Shared->Prop}
theorem Jck {s:Shared} (I:Inv X pins σ H s) (hg:Gl X x) (hm:X.mg x=some u) (h:Q u s)
  (hd:(x == ("__debug__" : Str))=false:=by decide):wpAny (model X.prog X.w) X.A (eval (.Name x pos) X.env) Q E s :=
 Calls.Name_function_global I.ok.kind hg (Calls.loadGlobal_global (by rw [I.ok.glob];exact I.mod.glob.keeps I.bk) hm h) hd
theorem JeA {s:Shared} (I:Inv X pins σ H s) (hg:Gl X x) (hm:X.mg x=none) (hv:bootBuiltins x=some u) (h:Q u s)
  (hn:x≠"__name__":=by decide) (hd:(x == ("__debug__" : Str))=false:=by decide):wpAny (model X.prog X.w) X.A (eval (.Name x pos) X.env) Q E s:=by
 obtain ⟨c,b,a⟩:=I.mod.blt;exact Calls.Name_function_global I.ok.kind hg (Calls.loadGlobal_builtin (by rw [I.ok.glob];exact I.mod.glob.keeps I.bk) hm (by rw [I.ok.blt];exact b.keeps I.bk) ((a x hn).trans hv) h) hd
variable {v:V}
theorem JcR (hg:Gl X x) (hm:X.mg x=some u) (r:RelV v u) (hd:(x == ("__debug__" : Str))=false:=by decide):PE X (.Name x pos) (tC v) :=
 fun _ _ _ H _ I h=>Jck I hg hm ⟨v,H,I,r,h⟩ hd
theorem JcQ (hg:Gl X x) (hm:X.mg x=none) (hv:bootBuiltins x=some u) (r:RelV v u) (hn:x≠"__name__":=by decide) (hd:(x == ("__debug__" : Str))=false:=by decide):PE X (.Name x pos) (tC v) :=
 fun _ _ _ H _ I h=>JeA I hg hm hv ⟨v,H,I,r,h⟩ hn hd
variable {a b:Expr} {ta tb:TE}
def PC (X:Cx) (op:CmpOp) (a b:Expr) (t:TE):Prop :=
 ∀ (pins:List (Addr × Obj)) (s:Shared) (σ : St) (H:Hp) (Q:VK),Inv X pins σ H s->t σ H Q ->
  wpAny (model X.prog X.w) X.A (eval a X.env) (fun v s₁=>wpAny (model X.prog X.w) X.A (eval b X.env) (fun u s₂=>wpAny (model X.prog X.w) X.A (compareOp op v u) (EP X pins σ Q) X.xe s₂) X.xe s₁) X.xe s
def tB (t:TE):TT:=fun σ H Q=>t σ H fun x H1=>∃ c,x=.bl c/\Q c H1
variable {op:CmpOp}
theorem JlW {t:TE} (h:PC X op a b t) (h1:behindInMarks op b=false:=by first | exact nobehind _ ⋯ ⋯ | rfl):PE X (.Compare a [op] [b] pos) t:=fun c s σ H Q I d=>wpAny_Compare1 (h c s σ H Q I d) h1
theorem Jeb {t:TE} (h:PC X op a b t) (h1:behindInMarks op b=false:=by first | exact nobehind _ ⋯ ⋯ | rfl):PT X (.Compare a [op] [b] pos) (tB t):=by
 intro e s σ H Q I f;refine wpAny_isTrue_Compare1 (thn (h e s σ H _ I f) fun v l h1=>thn h1 fun u m g=>thn g fun c n ζ=>?_) h1;obtain ⟨x,i,I1,j,k⟩:=ζ;obtain ⟨d,rfl,q⟩:=k;cases j;exact wpAny_truthy_bool ⟨i,I1,q⟩
theorem Jbh {t:TE} (h:PE X e t) (he:∀ whole,isTrue e X.env whole=(do let v <- whole;standAt e.pos;holding [v] (truthy v)):=by intro _;rfl):PT X e (tB t):=by
 intro a s σ H Q I f;refine isTrue_plain (thn (h a s σ H _ I f) fun v i ζ=>?_) (he _);obtain ⟨x,g,I1,b,c⟩:=ζ;obtain ⟨d,rfl,q⟩:=c;cases b;exact wpAny_truthy_bool ⟨g,I1,q⟩
variable {tA tB':TT} {rest:List Expr}
def tAnd (t u:TT):TT:=fun σ H Q=>t σ H fun c H1=>if c=true then u σ H1 Q else Q false H1
def tOr (t u:TT):TT:=fun σ H Q=>t σ H fun c H1=>if c=true then Q true H1 else u σ H1 Q
def tNot (t:TT):TT:=fun σ H Q=>t σ H fun c H1=>Q (!c) H1
theorem JcO (ha:PT X a tA):PW X (.BoolOp .Or [a] pos) tA:=by
 intro d b s σ H Q I h;refine isTrue_or (thn (ha b s σ H Q I h) fun c f e=>?_);cases c with
 | false=>exact isTrue_or_nil e
 | true=>exact e
theorem pw_or (ha:PT X a tA) (hb:PW X (.BoolOp .Or (b::rest) pos) tB'):PW X (.BoolOp .Or (a::b::rest) pos) (tOr tA tB'):=by
 intro g d s σ H Q I h;refine isTrue_or (thn (ha d s σ H _ I h) fun c i ζ=>?_);obtain ⟨f,I1,e⟩:=ζ;cases c with
 | true=>exact ⟨f,I1,e⟩
 | false=>exact hb g d i σ f Q I1 e
theorem JbQ (ha:PT X a tA):PT X (.UnaryOp .Not a pos) (tNot tA):=by
 intro b s σ H Q I h;exact isTrue_not (ha b s σ H (fun c d=>Q (!c) d) I h)
def tAndV (ta tb:TE):TE:=fun σ H Q=>ta σ H fun x H1=>∃ c,x=.bl c/\if c=true then tb σ H1 Q else Q (.bl false) H1
def tOrV (ta tb:TE):TE:=fun σ H Q=>ta σ H fun x H1=>∃ c,x=.bl c/\if c=true then Q (.bl true) H1 else tb σ H1 Q
def tNotV (ta:TE):TE:=fun σ H Q=>ta σ H fun x H1=>∃ c,x=.bl c/\Q (.bl (!c)) H1
theorem Jda {op} {t:TE} (h:PE X a t):PE X (.BoolOp op [a] pos) t:=fun b s σ H Q I c=>BoolOp_one (h b s σ H Q I c)
theorem Jcg (ha:PE X a ta) (hb:PE X (.BoolOp .And (b::rest) pos) tb):PE X (.BoolOp .And (a::b::rest) pos) (tAndV ta tb):=by
 intro d s σ H Q I h;refine BoolOp_and (thn (ha d s σ H _ I h) fun v i ζ=>?_);obtain ⟨x,f,I1,g,e⟩:=ζ;obtain ⟨c,rfl,e⟩:=e;cases g;refine wpAny_truthy_bool ?_;cases c with
 | true=>exact hb d i σ f Q I1 e
 | false=>exact ⟨.bl false,f,I1,rfl,e⟩
theorem pe_or (ha:PE X a ta) (hb:PE X (.BoolOp .Or (b::rest) pos) tb):PE X (.BoolOp .Or (a::b::rest) pos) (tOrV ta tb):=by
 intro d s σ H Q I h;refine BoolOp_or (thn (ha d s σ H _ I h) fun v i ζ=>?_);obtain ⟨x,f,I1,g,e⟩:=ζ;obtain ⟨c,rfl,e⟩:=e;cases g;refine wpAny_truthy_bool ?_;cases c with
 | false=>exact hb d i σ f Q I1 e
 | true=>exact ⟨.bl true,f,I1,rfl,e⟩
theorem Jii (ha:PE X a ta):PE X (.UnaryOp .Not a pos) (tNotV ta):=by
 intro b s σ H Q I h;refine UnaryOp_ (thn (ha b s σ H _ I h) fun v g ζ=>?_);obtain ⟨x,f,I1,e,d⟩:=ζ;obtain ⟨c,rfl,d⟩:=d;cases e;exact not_of (wpAny_truthy_bool ⟨.bl (!c),f,I1,rfl,d⟩)
def tIf (t:TT) (ta tb:TE):TE:=fun σ H Q=>t σ H fun c H1=>if c=true then ta σ H1 Q else tb σ H1 Q
variable {c:Expr}
theorem JgS (hc:PT X c tA) (ha:PE X a ta) (hb:PE X b tb):PE X (.IfExp c a b pos) (tIf tA ta tb):=by
 intro e s σ H Q I h;refine wpAny_IfExp (thn (hc e s σ H _ I h) fun d g ζ=>?_);obtain ⟨i,I1,f⟩:=ζ;cases d with
 | true=>exact ha e g σ i Q I1 f
 | false=>exact hb e g σ i Q I1 f
end
def SqL (K:W.Frag) (H:Hp) (a:Addr) (xs:List V):Prop :=
 Rd H a (.lst xs) \/
  ∃ (o:Obj) (its:Array Value) (n:Nat),K.lookup a=some o/\o.cls=.type "list"/\o.dict=none/\o.data=.seq its n/\its.size<=sizeLine/\Vals xs its.toList
def SqT (K:W.Frag) (H:Hp) (a:Addr) (xs:List V):Prop :=
 Rd H a (.tup xs) \/
  ∃ (o:Obj) (its:Array Value) (n:Nat),K.lookup a=some o/\o.cls=.type "tuple"/\o.data=.seq its n/\its.size<=sizeLine/\Vals xs its.toList
def absV:Value->Option V
 | .none=>some .non
 | .bool b=>some (.bl b)
 | .int i _=>some (.int i)
 | .str x _=>some (.str x)
 | .bytes b _=>some (.byt b)
 | .float b _=>some (.flt b)
 | .ref a=>some (.ref a)
 | .type n=>some (.ty n)
 | _=>none
variable {x:V} {u:Value}
theorem RelV.abs (r:RelV x u):absV u=some x:=by
 cases x with
 | non=>cases r;rfl
 | bl _=>cases r;rfl
 | int _=>obtain ⟨t,rfl⟩:=r;rfl
 | str _=>obtain ⟨t,rfl⟩:=r;rfl
 | byt _=>obtain ⟨t,rfl⟩:=r;rfl
 | flt _=>obtain ⟨t,rfl⟩:=r;rfl
 | ref _=>cases r;rfl
 | ty _=>cases r;rfl
variable {y:V}
theorem RelV.inj (r:RelV x u) (q:RelV y u):x=y:=Option.some.inj (r.abs.symm.trans q.abs)
theorem Vals.inj:∀ {xs ys:List V} {us:List Value},Vals xs us->Vals ys us->xs=ys
 | _,_,_, .nil, .nil=>rfl
 | _,_,_, .cons r t, .cons r' t'=>by rw [r.inj r',Vals.inj t t']
section
variable {pins:List (Addr × Obj)} {σ:St} {ys:List V} {s:Shared}
theorem SqL.of {K:W.Frag} (h:H a=some (.lst xs)):SqL K H a xs:=.inl (.inl h)
theorem SqT.of {K:W.Frag} (h:H a=some (.tup xs)):SqT K H a xs:=.inl (.inl h)
theorem Inv.list (I:Inv X pins σ H s) (h:SqL X.K H a xs):∃ its:List Value,Vals xs its/\PlainL s.heap a its.toArray/\xs.length<=sizeLine:=by
 rcases h with h | ⟨o,its,n,hk,hc,hd,hs,hz,r⟩
 ·obtain ⟨z,its,n,r,e⟩:=h.ok I.hok;exact ⟨its,r,⟨_,n,e,rfl,rfl,rfl⟩,z⟩
 ·refine ⟨its.toList,r,⟨o,n,I.kIn a o hk,hc,hd,by simpa using hs⟩,?_⟩;have e:=r.length;simp only [Array.length_toList] at e;ac_nf
theorem Inv.tuple (I:Inv X pins σ H s) (h:SqT X.K H a xs):∃ its:List Value,Vals xs its/\IsTup s.heap a its.toArray/\xs.length<=sizeLine:=by
 rcases h with h | ⟨o,its,n,hk,hc,hs,hz,r⟩
 ·obtain ⟨z,its,r,p⟩:=h.ok I.hok;exact ⟨its,r,p,z⟩
 ·refine ⟨its.toList,r,⟨o,I.kIn a o hk,hc,n,by simpa using hs⟩,?_⟩;have e:=r.length;simp only [Array.length_toList] at e;ac_nf
theorem Inv.list_inj (I:Inv X pins σ H s) (h:SqL X.K H a xs) (h':SqL X.K H a ys):xs=ys:=by
 obtain ⟨c,r,⟨o,n,e,_,_,d⟩,_⟩:=I.list h;obtain ⟨b,i,⟨k,j,g,_,_,f⟩,_⟩:=I.list h';rw [e] at g;cases g;rw [d] at f;injection f with d1 _
 have : c=b:=by simpa using congrArg Array.toList d1
 subst this;exact r.inj i
theorem Inv.tuple_inj (I:Inv X pins σ H s) (h:SqT X.K H a xs) (h':SqT X.K H a ys):xs=ys:=by
 obtain ⟨c,r,⟨o,e,_,n,d⟩,_⟩:=I.tuple h;obtain ⟨b,i,⟨k,g,_,j,f⟩,_⟩:=I.tuple h';rw [e] at g;cases g;rw [d] at f;injection f with d1 _
 have : c=b:=by simpa using congrArg Array.toList d1
 subst this;exact r.inj i
end
abbrev Cx.wish (X:Cx) (E:Value->Shared->Prop):Cx:={ X with xe:=E }
abbrev Cx.nox (X:Cx):Cx:=X.wish fun _ _=>False
theorem Cx.Ok.wish (ok:X.Ok) (E:Value->Shared->Prop):(X.wish E).Ok :=
 ⟨ok.mod,ok.kind,ok.glob,ok.blt,ok.above,ok.inj,ok.has,ok.cab,ok.hd,ok.frames,ok.stk,ok.exf,ok.bs,ok.bsz,ok.noex,ok.exfs,ok.funs,ok.frf⟩
theorem Cx.Ok.unwish (ok:(X.wish E).Ok):X.Ok :=
 ⟨ok.mod,ok.kind,ok.glob,ok.blt,ok.above,ok.inj,ok.has,ok.cab,ok.hd,ok.frames,ok.stk,ok.exf,ok.bs,ok.bsz,ok.noex,ok.exfs,ok.funs,ok.frf⟩
section
variable {pins:List (Addr × Obj)} {σ:St} {s:Shared}
theorem Inv.wish (I:Inv X pins σ H s) (E:Value->Shared->Prop):Inv (X.wish E) pins σ H s:=⟨I.ok.wish E,I.os,I.bare,I.base,I.loc,I.cell,I.free,I.freeC,I.pin,I.hok,I.len⟩
theorem Inv.unwish (I:Inv (X.wish E) pins σ H s):Inv X pins σ H s:=⟨I.ok.unwish,I.os,I.bare,I.base,I.loc,I.cell,I.free,I.freeC,I.pin,I.hok,I.len⟩
variable {s':Shared}
theorem SP.unwish {D:Ends} {f:Flow} (h:SP (X.wish E) pins D f s'):SP X pins D f s':=by
 cases f with
 | next=>obtain ⟨σ',a,I,q⟩:=h;exact ⟨σ',a,I.unwish,q⟩
 | brk=>obtain ⟨σ',a,I,q⟩:=h;exact ⟨σ',a,I.unwish,q⟩
 | cont=>obtain ⟨σ',a,I,q⟩:=h;exact ⟨σ',a,I.unwish,q⟩
 | ret u=>obtain ⟨v,σ',a,I,r,q⟩:=h;exact ⟨v,σ',a,I.unwish,r,q⟩
theorem PSs.nox {st:List Stmt} {t:TS} (h:PSs X.nox st t):PSs X st t:=fun a s σ H D I b=>
 wpAny_mono (h a s σ H D (I.wish _) b) (fun _ _ q=>q.unwish) fun _ _ z=>False.elim z
end
section
variable {st:Stmt} {u:TS} {te:TE} {pos:Pos} {rest:List Stmt} {t:TS}
def tNext:TS:=fun D σ H=>D.nx σ H
def tSeq (t u:TS):TS:=fun D σ H=>t { D with nx:=u D } σ H
theorem Jax:PSs X [] tNext:=fun _ _ σ H _ I h=>wpAny_execs_nil ⟨σ,H,I,h⟩
theorem Jab (h1:PS X st t) (h2:PSs X rest u):PSs X (st::rest) (tSeq t u):=by
 intro a s σ H D I h;refine wpAny_execs_cons (thn (h1 a s σ H { D with nx:=u D } I h) fun f c q=>?_);cases f with
 | next=>
  obtain ⟨σ',b,I',q⟩:=q;exact h2 a c σ' b D I' q
 | ret v=>exact q
 | brk=>exact q
 | cont=>exact q
theorem Jai (h1:PS X st t):PSs X [st] t:=by
 intro a s σ H D I h;refine wpAny_execs_cons (thn (h1 a s σ H D I h) fun f b q=>?_);cases f with
 | next=>exact wpAny_execs_nil q
 | ret v=>exact q
 | brk=>exact q
 | cont=>exact q
variable {pins:List (Addr × Obj)} {σ:St}
theorem Inv.quiet {s:Shared} (I:Inv X pins σ H s):interactive X.env=false:=by simp [interactive,I.ok.kind]
def tDrop (te:TE):TS:=fun D σ H=>te σ H fun _ H1=>D.nx σ H1
theorem Jba (he:PE X e te) (hs:swapsWith e none pos.line X.env=pure false:=by rfl):PS X (.Expr e pos) (tDrop te):=by
 intro a s σ H D I h;exact wpAny_Expr_any (thn (he a s σ H _ I h) fun v f ζ=>by obtain ⟨x,c,I1,d,b⟩:=ζ;exact ⟨σ,c,I1,b⟩) I.quiet hs
def tRet (te:TE):TS:=fun D σ H=>te σ H D.rt
theorem Jaq (he:PE X e te):PS X (.Return (some e) pos) (tRet te):=by
 intro a s σ H D I h;exact wpAny_Return_some (thn (he a s σ H _ I h) fun v f ζ=>by obtain ⟨x,d,I1,b,c⟩:=ζ;exact ⟨x,σ,d,I1,b,c⟩)
def tRetN:TS:=fun D _ H=>D.rt .non H
def tIfS (c:TT) (t u:TS):TS:=fun D σ H=>c σ H fun b H1=>if b=true then t D σ H1 else u D σ H1
variable {c:Expr} {tc:TT}
theorem ps_if {a b:List Stmt} (hc:PT X c tc) (ha:PSs X a t) (hb:PSs X b u):PS X (.If c a b pos) (tIfS tc t u):=by
 intro e s σ H D I h;refine wpAny_If (thn (hc e s σ H _ I h) fun d g ζ=>?_);obtain ⟨i,I1,f⟩:=ζ;cases d with
 | true=>exact ha e g σ i D I1 f
 | false=>exact hb e g σ i D I1 f
end
abbrev TG:=V->St->Hp->(St->Hp->Prop)->Prop
abbrev TGs:=List V->St->Hp->(St->Hp->Prop)->Prop
def PG (X:Cx) (target:Expr) (t:TG):Prop :=
 ∀ (pins:List (Addr × Obj)) (s:Shared) (σ : St) (H:Hp) (v:V) (u:Value) (Q:St->Hp->Prop),Inv X pins σ H s->RelV v u->t v σ H Q ->
  wpAny (model X.prog X.w) X.A (assign target X.env u) (fun _ s'=>∃ σ' H',Inv X pins σ' H' s'/\Q σ' H') X.xe s
def PGs (X:Cx) (ts:List Expr) (t:TGs):Prop :=
 ∀ (pins:List (Addr × Obj)) (s:Shared) (σ : St) (H:Hp) (vs:List V) (us:List Value) (Q:St->Hp->Prop),Inv X pins σ H s->Vals vs us->t vs σ H Q ->
  wpAny (model X.prog X.w) X.A (assignInOrder ((assignEach ts X.env).map (·.2)) us) (fun _ s'=>∃ σ' H',Inv X pins σ' H' s'/\Q σ' H') X.xe s
variable {pos:Pos}
def gName (i:Nat):TG:=fun v σ H Q=>Q (σ.set i (some v)) H
variable {x:Str}
theorem Jap (i:Nat) (hN:X.N.Nodup) (hi:X.N[i]?=some x:=by exact rfl) (hx:Loc X.env.scope x:=by exact Or.inl rfl) (hf:X.fn x=true\/X.env.scope.names.lookup x=some .local:=by first | exact .inl rfl | exact .inr rfl | assumption):PG X (.Name x pos) (gName i):=by
 intro a s σ H v u Q I r h;exact wpAny_assign_Name (Jfk I hN hi hx r (fun b I'=>⟨_,H,I',h⟩) hf)
def gNil:TGs:=fun vs σ H Q=>vs=[]/\Q σ H
def gCons (t:TG) (u:TGs):TGs:=fun vs σ H Q=>∃ v r,vs=v::r/\t v σ H fun σ' H'=>u r σ' H' Q
theorem JcS:PGs X [] gNil:=by
 intro a s σ H c b Q I r h;obtain ⟨e,h⟩:=h;subst e;cases r;exact assignInOrder_nil ⟨σ,H,I,h⟩
variable {es:List Expr}
theorem JaJ {t:TG} {u:TGs} (h1:PG X e t) (h2:PGs X es u)
  (hs:(assignEach (e::es) X.env).map (·.2)=assign e X.env::(assignEach es X.env).map (·.2):=by rfl):PGs X (e::es) (gCons t u):=by
 intro a s σ H j g Q I r h;obtain ⟨v,i,c,h⟩:=h;subst c;cases r with
 | cons r rr=>
  rw [hs];refine assignInOrder_cons (thn (h1 a s σ H _ _ _ I r h) fun _ f ζ=>?_);obtain ⟨σ1,d,I1,b⟩:=ζ;exact h2 a f σ1 d _ _ Q I1 rr b
def gTup (K:W.Frag) (n:Nat) (t:TGs):TG:=fun v σ H Q=>∃ a xs,v=.ref a/\SqT K H a xs/\xs.length=n/\t xs σ H Q
theorem JeE {k:Nat} {t:TGs} {n:Nat} (hc:X.calm=true) (h:PGs X es t)
  (hn:(assignEach es X.env).length=n:=by rfl) (hst:(assignEach es X.env).findIdx? (·.1)=none:=by rfl):PG X (.Tuple es k pos) (gTup X.K n t):=by
 intro c s σ H v u Q I r d;obtain ⟨a,i,p,m,w,d⟩:=d;subst p;cases r;obtain ⟨g,f,j,x⟩:=I.tuple m;refine assign_Tuple_tuple (I.ok.hd hc) j (by simp [hn, <- w,f.length]) hst fun q l=>?_;have I1:Inv X c σ H { s with heap:=q }:=I.kept (t':=s.toks) fun b o e=>l b o (Nat.ne_of_lt (Heap.lt_size e)) e;exact h c _ σ H i _ Q I1 (by simpa using f) d
def tAsg (te:TE) (g:TG):TS:=fun D σ H=>te σ H fun x H1=>g x σ H1 D.nx
variable {tg:Expr} {te:TE}
theorem Jis {g:TG} (he:PE X e te) (hg:PG X tg g) (hs:swapsWithSole [tg] e pos.line X.env=pure false:=by rfl) (hw:swappedStores [tg] e X.env=pure none:=by rfl)
  (h1:(assignEach [tg] X.env).map (·.2)=[assign tg X.env]:=by rfl):PS X (.Assign [tg] e pos) (tAsg te g):=by
 intro a s σ H D I h;refine wpAny_Assign_stores (thn (he a s σ H _ I h) fun v d ζ=>?_) hs hw;obtain ⟨x,f,I1,b,c⟩:=ζ;rw [h1];exact thn (hg a d σ f x v _ I1 b c) fun _ i q=>q
variable {pos':Pos}
theorem Jak (i:Nat) (hN:X.N.Nodup) (he:PE X e te) (hi:X.N[i]?=some x:=by exact rfl) (hx:Loc X.env.scope x:=by exact Or.inl rfl) (hs:swapsWith e (some (.Name x pos')) pos.line X.env=pure false:=by rfl) (hf:X.fn x=true\/X.env.scope.names.lookup x=some .local:=by first | exact .inl rfl | exact .inr rfl | assumption) :
  PS X (.Assign [.Name x pos'] e pos) (tAsg te (gName i)):=by
 intro a s σ H D I h;refine wpAny_Assign_Name (thn (he a s σ H _ I h) fun v g ζ=>?_) hs;obtain ⟨y,d,I1,b,c⟩:=ζ;exact Jfk I1 hN hi hx b (fun f I2=>⟨_,d,I2,c⟩) hf
def Jma (c:TT) (tb:TS):TS:=fun D σ H=>∃ W:Nat->St->Hp->Prop,(∃ m,W m σ H)/\∀ m σ H,W m σ H ->
 c σ H fun b H1=>if b=true then ∃ N:St->Hp->Prop,(∀ σ' H',N σ' H'->∃ m',m'<m/\W m' σ' H')/\tb { D with nx:=N,ct:=N,bk:=D.nx } σ H1 else D.nx σ H1
variable {c:Expr} {body:List Stmt} {tb:TS}
theorem JdI {tc:TT} (hp:PassesOwn (model X.prog X.w) X.A X.env X.xe) (hc:PT X c tc) (hb:PSs X body tb):PS X (.While c body [] pos) (Jma tc tb):=by
 intro a s σ H D I h;obtain ⟨W,⟨t,z⟩,d⟩:=h;refine wpAny_While (codeAny_whileLoop (fun n r=>∃ σ' H',Inv X a σ' H' r/\W n σ' H') ?_ t ⟨σ,H,I,z⟩);rintro n x ⟨σ1,q,I1,u⟩;refine wpAny_passesOwn hp (thn (hc a x σ1 q _ I1 (d n σ1 q u)) fun b y ζ=>?_);obtain ⟨o,I2,g⟩:=ζ;cases b with
 | true=>
  obtain ⟨N,p,g⟩:=g;rw [if_pos rfl];refine wpAny_passesOwn hp (thn (hb a y σ1 o _ I2 g) fun f B i=>?_);cases f with
  | next=>
   obtain ⟨σ3,e,I3,j⟩:=i;obtain ⟨m,l,k⟩:=p σ3 e j;exact ⟨m,l,σ3,e,I3,k⟩
  | cont=>
   obtain ⟨σ3,e,I3,j⟩:=i;obtain ⟨m,l,k⟩:=p σ3 e j;exact ⟨m,l,σ3,e,I3,k⟩
  | brk=>exact i
  | ret v=>exact i
 | false=>
  rw [if_neg Bool.false_ne_true];exact wpAny_execs_nil ⟨σ1,o,I2,g⟩
structure It where
 go:Nat->Hp->Prop
 yld:Nat->Hp->V->Hp->Prop
 stop:Nat->Hp->Prop
def FpOk (X:Cx) (pins:List (Addr × Obj)) (H:Hp) (b:Addr):Prop :=
 H b=none/\b≠X.env.locals/\b∉X.fs/\(b∈X.ex\/X.s₀.heap.objs.size<=b)/\(∀ x c,X.env.cells.lookup x=some c->c≠b)/\∀ p∈X.pn++pins,p.1≠b
variable {pins:List (Addr × Obj)} {σ:St} {H':Hp}
theorem Inv.fpOk {s:Shared} (I:Inv X pins σ H s) (hb:s.heap.objs.size<=b) (hn:H' b=none):FpOk X pins H' b:=by
 refine ⟨hn,Nat.ne_of_gt (Nat.lt_of_lt_of_le I.lt hb),I.nofs hb, .inr (Nat.le_trans I.sz hb),fun x c e z=>?_,fun p a z=>?_⟩
 ·obtain ⟨v,q⟩:=I.cell x c e;exact absurd (Nat.lt_of_lt_of_le q.lt (by rw [z];exact hb)) (Nat.lt_irrefl _)
 ·exact absurd (Nat.lt_of_lt_of_le (Heap.lt_size (I.pin p a).1) (by rw [z];exact hb)) (Nat.lt_irrefl _)
structure Turn (P:Program) (w:World) (K:W.Frag) (tg:Expr) (J:It) (fp:List Addr) (it:Addr) (tn:Nat->Heap->Prop):Prop where
 mem:it∈fp
 obj:∀ i h,tn i h->∀ b∈fp, ∃ o,h.get? b=some o/\∀ v,o.data≠.cell v
 keep:∀ i h h',tn i h->(∀ b∈fp, ∀ o,h.get? b=some o->h'.get? b=some o)->tn i h'
 item:∀ (X:Cx),X.prog=P->X.w=w->X.K=K->X.calm=true->∀ (i:Nat) (pins:List (Addr × Obj)) (s:Shared) (σ : St) (H:Hp) (E:Value->Shared->Prop),Inv X pins σ H s->(∀ b∈fp,FpOk X pins H b)->tn i s.heap->J.go i H ->
  wpAny (model P w) X.A (pyNext (.ref it)) (fun r s1=>∃ u,r=some u /\
   wpAny (model P w) X.A (letOwnedTupleGo tg (.ref it) u) (fun _ s2=>∃ x H',Inv X pins σ H' s2/\RelV x u/\J.yld i H x H'/\tn (i+1) s2.heap/\∀ b∈fp,H' b=none) E s1) E s
 done:∀ (X:Cx),X.prog=P->X.w=w->X.K=K->X.calm=true->∀ (i:Nat) (pins:List (Addr × Obj)) (s:Shared) (σ : St) (H:Hp) (E:Value->Shared->Prop),Inv X pins σ H s->(∀ b∈fp,FpOk X pins H b)->tn i s.heap->J.stop i H ->
  wpAny (model P w) X.A (pyNext (.ref it)) (fun r s1=>r=none/\Inv X pins σ H s1) E s
 self:∀ (A:Around) (i:Nat) (s:Shared) (Q:Value->Shared->Prop) (E:Value->Shared->Prop),tn i s.heap->Q (.ref it) s->wpAny (model P w) A (pyIter (.ref it)) Q E s
abbrev TI:=St->Hp->(It->Hp->Prop)->Prop
def PIE (X:Cx) (pins:List (Addr × Obj)) (σ : St) (tg:Expr) (R:It->Hp->Prop) (itv:Value) (s2:Shared):Prop :=
 ∃ (it:Addr) (fp:List Addr) (tn:Nat->Heap->Prop) (J:It) (H':Hp),itv=.ref it/\Inv X pins σ H' s2/\Turn X.prog X.w X.K tg J fp it tn/\tn 0 s2.heap/\(∀ b∈fp,FpOk X pins H' b)/\R J H'
def PI (X:Cx) (tg iter:Expr) (wi:TI):Prop :=
 ∀ (pins:List (Addr × Obj)) (s:Shared) (σ : St) (H:Hp) (R:It->Hp->Prop),Inv X pins σ H s->wi σ H R ->
  wpAny (model X.prog X.w) X.A (eval iter X.env) (fun v s1=>wpAny (model X.prog X.w) X.A (pyIter v) (PIE X pins σ tg R) X.xe s1) X.xe s
theorem go_of {s:Shared} {it:Addr} {n:String} {vs:Array Value} {Q:Unit->Shared->Prop} (ho:s.heap.get? it=some o) (hc:o.cls=.type n) (hd:o.data=.fields vs)
    (hn:["enumerate","zip","dict_itemiterator","dict_reverseitemiterator","odict_iterator","itertools.zip_longest","itertools.pairwise"].contains n=false) (hQ:Q () s):wpAny M A (letOwnedTupleGo tg (.ref it) u) Q E s:=by
  unfold letOwnedTupleGo;cases tg <;> first
    | exact wpAny_pure hQ
    | (cases u <;> first
        | exact wpAny_pure hQ
        | (refine wpAny_bind (wpAny_load ho ?_)
           rw [hc,hd];show wpAny M A (if (["enumerate","zip","dict_itemiterator","dict_reverseitemiterator","odict_iterator","itertools.zip_longest","itertools.pairwise"].contains n&&vs[0]? == some (rawInt _))=true then _ else _) Q E s;rw [if_neg (by intro h;rw [hn,Bool.false_and] at h;cases h)];exact wpAny_pure hQ))
def Itl (K:W.Frag) (a:Addr):It :=
 ⟨fun i H=>∃ xs x,SqL K H a xs/\xs[i]?=some x,fun i H x H'=>H'=H/\∀ xs,SqL K H a xs->xs[i]?=some x,fun i H=>∃ xs,SqL K H a xs/\xs.length<=i⟩
def Itt (K:W.Frag) (a:Addr):It :=
 ⟨fun i H=>∃ xs x,SqT K H a xs/\xs[i]?=some x,fun i H x H'=>H'=H/\∀ xs,SqT K H a xs->xs[i]?=some x,fun i H=>∃ xs,SqT K H a xs/\xs.length<=i⟩
def Itr (lo:Int) (n:Nat):It:=⟨fun i _=>i<n,fun i H x H'=>H'=H/\x=.int (lo+i),fun i _=>n<=i⟩
theorem JiO {w:World} {K:W.Frag} (a it:Addr):Turn P w K tg (Itl K a) [it] it (fun i h=>h.IsListIter it a i) where
 mem:=by simp
 obj:=fun i h f b j=>by
  have e:b=it:=by simpa using j
  subst e;obtain ⟨o,e,c,d⟩:=f;exact ⟨o,e,fun v z=>by rw [d] at z;cases z⟩
 keep:=fun i h q f k=>f.at fun o e=>k it (by simp) o e
 item:=by
  intro X A t y N i g s σ H E I m f C;subst A t y;obtain ⟨Y,x,n,D⟩:=C;obtain ⟨B,J,p,O⟩:=I.list n;obtain ⟨u,T,R⟩:=J.get D;obtain ⟨M,r,Q,G,F,L⟩:=m it (by simp);refine wpAny_pyNext_list_item f p.isList (x:=u) (by simpa using T) fun q l U=>?_;have I1:Inv X g σ H { s with heap:=q }:=I.turned (t':=s.toks) (fun b o j e=>(U.2 b j).trans e) M r G F L;obtain ⟨o,e,c,d⟩:=id l;exact ⟨u,rfl,go_of (s:={ s with heap:=q }) e c d ⋯ ⟨x,H,I1,R,⟨rfl,fun Z V=>by rw [I.list_inj V n];exact D⟩,l,fun b j=>(m b j).1⟩⟩
 done:=by
  intro X A t y N i g s σ H E I m f C;subst A t y;obtain ⟨Y,n,D⟩:=C;obtain ⟨B,J,p,O⟩:=I.list n;obtain ⟨M,r,Q,G,F,L⟩:=m it (by simp);have hl:=J.length;exact wpAny_pyNext_list_end (I.ok.hd N) f p.isList (by simp;ac_nf) fun q S=>⟨rfl,I.turned (t':=s.toks) (fun b o j e=>S b o j e) M r G F L⟩
 self:=fun _ _ _ _ _ f h=>wpAny_pyIter_listiter f h
theorem Jhv {w:World} {K:W.Frag} (a it:Addr):Turn P w K tg (Itt K a) [it] it (fun i h=>h.IsTupleIter it a i) where
 mem:=by simp
 obj:=fun i h f b l=>by
  have e:b=it:=by simpa using l
  subst e;obtain ⟨o,e,c,d⟩:=f;exact ⟨o,e,fun v z=>by rw [d] at z;cases z⟩
 keep:=fun i h r f k=>f.at fun o e=>k it (by simp) o e
 item:=by
  intro X B y A N i g s σ H E I n f C;subst B y A;obtain ⟨Y,x,q,D⟩:=C;obtain ⟨j,J,p,O⟩:=I.tuple q;obtain ⟨u,T,R⟩:=J.get D;obtain ⟨M,t,Q,G,F,L⟩:=n it (by simp);refine wpAny_pyNext_tuple_item f (show s.heap.IsTuple a j.toArray from p) (x:=u) (by simpa using T) fun r m U=>?_;have I1:Inv X g σ H { s with heap:=r }:=I.turned (t':=s.toks) (fun b o l e=>(U.2 b l).trans e) M t G F L;obtain ⟨o,e,c,d⟩:=id m;exact ⟨u,rfl,go_of (s:={ s with heap:=r }) e c d ⋯ ⟨x,H,I1,R,⟨rfl,fun Z V=>by rw [I.tuple_inj V q];exact D⟩,m,fun b l=>(n b l).1⟩⟩
 done:=by
  intro X B y A N i g s σ H E I n f C;subst B y A;obtain ⟨Y,q,D⟩:=C;obtain ⟨j,J,p,O⟩:=I.tuple q;obtain ⟨M,t,Q,G,F,L⟩:=n it (by simp);have hl:=J.length;exact wpAny_pyNext_tuple_end (I.ok.hd N) f (show s.heap.IsTuple a j.toArray from p) (by simp;ac_nf) fun r S=>⟨rfl,I.turned (t':=s.toks) (fun b o l e=>S b o l e) M t G F L⟩
 self:=fun _ _ _ _ _ f h=>wpAny_pyIter_tupleiter f h
theorem Jhu {w:World} {K:W.Frag} (it:Addr) (lo:Int) (n:Nat):Turn P w K tg (Itr lo n) [it] it (fun i h=>IsRangeIter h it (lo+(i:Nat)*1) ((n:Int)-(i:Nat)) 1) where
 mem:=by simp
 obj:=fun i h a b d=>by
  have e:b=it:=by simpa using d
  subst e;exact ⟨_,a,fun v z=>by
   have J:Data.fields _=Data.cell v:=z;cases J⟩
 keep:=fun i h j a k=>k it (by simp) _ a
 item:=by
  intro X q m p y i c s σ H E I g a r;subst q m p;obtain ⟨B,l,F,x,u,A⟩:=g it (by simp);have W:=Walks.range (prog:=X.prog) (w:=X.w) (I.ok.hd y) it lo 1 n;refine W.item i s _ _ r a fun v j C L f D=>?_;obtain ⟨t,rfl⟩:=L;have I1:Inv X c σ H { s with heap:=j,toks:=C }:=I.turned (fun b o d e=>D b o (by simpa using d) e) B l x u A;refine ⟨_,rfl,go_of (s:={ s with heap:=j,toks:=C }) (n:="range_iterator") f rfl rfl ⋯ ⟨.int (lo+i),H,I1,⟨t,?_⟩,⟨rfl,rfl⟩,f,fun b d=>(g b d).1⟩⟩;rw [Int.mul_one]
 done:=by
  intro X q m p y i c s σ H E I g a r;subst q m p;obtain ⟨B,l,F,x,u,A⟩:=g it (by simp);exact wpAny_pyNext_range_end (I.ok.hd y) a (by have : n<=i:=r;ac_nf) fun j G=>⟨rfl,I.turned (t':=s.toks) (fun b o d e=>G b o d e) B l x u A⟩
 self:=fun _ _ _ _ _ a h=>wpAny_pyIter_rangeiter a h
theorem Jjs {s:Shared} {R:It->Hp->Prop} {lo hi:Int} {t u v:Tok} {tk:Nat} (I:Inv X pins σ H s) (h1 : -(2 ^ 62)<=lo) (h2:lo<2 ^ 62) (h3 : -(2 ^ 62)<=hi) (h4:hi<2 ^ 62)
  (q:R (Itr lo (hi-lo).toNat) H):wpAny (model X.prog X.w) X.A (pyIter (.ref s.heap.objs.size)) (PIE X pins σ tg R) E { s with heap:=s.heap.push { cls:=.type "range",data:=.fields #[.int lo t, .int hi u, .int 1 v] },toks:=tk }:=by
 refine wpAny_pyIter_range (IsRange.new ..) (small_one h1 h2 h3 h4) ?_;have I1:Inv X pins σ H { s with heap:=s.heap.push { cls:=.type "range",data:=.fields #[.int lo t, .int hi u, .int 1 v] },toks:=tk }:=I.kept fun b o e=>Heap.get?_push_of_some _ e;refine ⟨(s.heap.push { cls:=.type "range",data:=.fields #[.int lo t, .int hi u, .int 1 v] }).objs.size,[(s.heap.push { cls:=.type "range",data:=.fields #[.int lo t, .int hi u, .int 1 v] }).objs.size],_,_,H,rfl,
  I1.kept (t':=tk) fun b o e=>Heap.get?_push_of_some _ e,Jhu _ lo (hi-lo).toNat,?_,fun b a=>?_,q⟩
 ·have d:lo+((0:Nat):Int)*1=lo:=by simp
  have c:(((hi-lo).toNat:Nat):Int)-((0:Nat):Int)=Builtin.Range.rangeSize lo hi 1:=by rw [rangeSize_one];split <;> ac_nf
  show IsRangeIter _ _ (lo+((0:Nat):Int)*1) ((((hi-lo).toNat:Nat):Int)-((0:Nat):Int)) 1;rw [d,c];exact Heap.get?_push_size _ rfl
 ·have e:b=(s.heap.push { cls:=.type "range",data:=.fields #[.int lo t, .int hi u, .int 1 v] }).objs.size:=by simpa using a
  subst e;exact I1.fpOk (Nat.le_refl _) (I1.hok.fresh (Nat.le_refl _))
def iRng1 (ta:TA):TI:=fun σ H R=>ta σ H fun vs H1=>∃ j:Int,vs=[.int j]/\-(2 ^ 62)<=j/\j<2 ^ 62/\R (Itr 0 j.toNat) H1
def iRng2 (ta:TA):TI:=fun σ H R=>ta σ H fun vs H1=>∃ i j:Int,vs=[.int i, .int j]/\(-(2 ^ 62)<=i/\i<2 ^ 62/\-(2 ^ 62)<=j/\j<2 ^ 62)/\R (Itr i (j-i).toNat) H1
variable {a:Expr}
theorem Jdb {ta:TA} {p:Pos} (hg:Gl X "range") (hm:X.mg "range"=none) (ha:PA X [a] ta) (hs:starEach [a] X.env=[(false,eval a X.env)]:=by rfl):PI X tg (.Call (.Name "range" p) [a] [] pos) (iRng1 ta):=by
 intro b s σ H R I h;refine Call_ (JeA I hg hm boot_range (PyProof.Rows.callWith_type1 (thn (ha pos b s σ H _ I h) fun g i ζ=>?_) hs rfl));obtain ⟨k,l,I1,d,c⟩:=ζ;obtain ⟨j,e,c,f,q⟩:=c;subst e;cases d with
 | cons r rr=>
  cases rr;obtain ⟨t,rfl⟩:=r;exact call_range_1 (Jjs I1 ∅ ∅ c f (by simpa using q))
def tFor (wi:TI) (g:TG) (tb:TS):TS:=fun D σ H=>wi σ H fun J H1=>∃ W:Nat->Nat->St->Hp->Prop,(∃ m,W 0 m σ H1)/\∀ i m σ H,W i m σ H ->
 (J.stop i H/\D.nx σ H)\/(J.go i H/\∃ N:St->Hp->Prop,(∀ σ' H',N σ' H'->∃ m',m'<m/\W (i+1) m' σ' H')/\∀ x H',J.yld i H x H'->g x σ H' fun σ2 H2=>tb { D with nx:=N,ct:=N,bk:=D.nx } σ2 H2)
def JgU (fp:List Addr) (h:Heap):List (Addr × Obj):=fp.filterMap fun b=>(h.get? b).map fun o=>(b,o)
variable {fp:List Addr}
theorem Jce (hb:b∈fp) (e:h.get? b=some o):(b,o)∈JgU fp h:=List.mem_filterMap.mpr ⟨b,hb,by rw [e];rfl⟩
theorem Jh6 {p:Addr × Obj} (hp:p∈JgU fp h):p.1∈fp/\h.get? p.1=some p.2:=by
 obtain ⟨b,a,e⟩:=List.mem_filterMap.mp hp;cases q:h.get? b with
 | none=>rw [q] at e;cases e
 | some o=>
  rw [q] at e;have c:(b,o)=p:=Option.some.inj e;subst c;exact ⟨a,q⟩
theorem Inv.pinned {s:Shared} (I:Inv X pins σ H s) (hf:∀ b∈fp,FpOk X pins H b) (ho:∀ b∈fp, ∃ o,s.heap.get? b=some o/\∀ v,o.data≠.cell v):Inv X (pins++JgU fp s.heap) σ H s :=
 I.pins_of fun p i=>(mem_append.mp i).elim (fun z=>I.pin p (mem_append_right _ z)) fun z=>by
  obtain ⟨a,e⟩:=Jh6 z;obtain ⟨h,f,g,_⟩:=hf p.1 a;obtain ⟨o,c,d⟩:=ho p.1 a;rw [e] at c;cases c;exact ⟨e,h,f,g,d⟩
theorem Inv.unpinned {pl:List (Addr × Obj)} {s:Shared} (I:Inv X (pins++pl) σ H s):Inv X pins σ H s:=I.pins_of fun p a=>I.pin p (mem_append_right _ (List.mem_append_left _ a))
theorem Ja8 {iter:Expr} {wi:TI} {g:TG} (hp:PassesOwn (model X.prog X.w) X.A X.env X.xe) (hc:X.calm=true) (hi:PI X tg iter wi) (hg:PG X tg g) (hb:PSs X body tb)
  (hs:∀ x,foldedSetIterable iter X.env x=pure x:=by intro _;rfl):PS X (.For tg iter body [] pos) (tFor wi g tb):=by
 intro a s σ H D I h;refine wpAny_For (thn (hi a s σ H _ I h) fun v s1 h1=>thn h1 fun a0 s2 h2=>?_) hs;obtain ⟨it,t,Q,J,H2,e,I2,T,E,M,W,⟨m0,w0⟩,z⟩:=h2;subst e;have j:∀ {H':Hp},(∀ b∈t,H' b=none)->∀ b∈t,FpOk X a H' b:=fun Y b hb=>⟨Y b hb,(M b hb).2⟩;refine codeAny_forLoop_any (fun n L=>∃ i σ' H',Inv X a σ' H' L/\Q i L.heap/\(∀ b∈t,H' b=none)/\W i n σ' H') ?_ m0 ⟨0,σ,H2,I2,E,fun b hb=>(M b hb).1,w0⟩;rintro n O ⟨i,σ3,C,I3,q,B,w3⟩;rcases z i n σ3 C w3 with ⟨stop,qn⟩ | ⟨go,N,hN,step⟩
 ·refine wpAny_passesOwn hp (thn (T.done X rfl rfl rfl hc i a O σ3 C X.xe I3 (j B) q stop) fun r s4 ⟨K,I4⟩=>?_);subst K;exact wpAny_execs_nil ⟨σ3,C,I4,qn⟩
 ·refine wpAny_passesOwn hp (thn (T.item X rfl rfl rfl hc i a O σ3 C X.xe I3 (j B) q go) fun r s4 ζ=>?_);obtain ⟨u,K,h4⟩:=ζ;subst K;refine wpAny_passesOwn hp (thn h4 fun _ R ζ=>?_);obtain ⟨x,P,I5,U,y5,p,G⟩:=ζ;have I5':=I5.pinned (j G) (T.obj _ _ p);refine wpAny_passesOwn hp (thn (hg _ R σ3 P x u _ I5' U (step x P y5)) fun _ V ζ=>?_);obtain ⟨σ6,Z,I6,q6⟩:=ζ;refine wpAny_passesOwn hp (thn (hb _ V σ6 Z _ I6 q6) fun f F l=>?_);have k:∀ {σ7:St} {c:Hp},Inv X (a++JgU t R.heap) σ7 c F->N σ7 c->∃ m,m<n/\∃ i σ' H',Inv X a σ' H' F/\Q i F.heap/\(∀ b∈t,H' b=none)/\W i m σ' H':=fun {σ7 c} I7 y=>by
   obtain ⟨m',hm,S⟩:=hN σ7 c y;refine ⟨m',hm,i+1,σ7,c,I7.unpinned,T.keep _ _ _ p fun b hb o e=>(I7.pin (b,o) (mem_append_right _ (mem_append_right _ (Jce hb e)))).1,fun b hb=>?_,S⟩;obtain ⟨o,e,d⟩:=T.obj _ _ p b hb;exact (I7.pin (b,o) (mem_append_right _ (mem_append_right _ (Jce hb e)))).2.1
  cases f with
  | next=>obtain ⟨σ7,c,I7,y⟩:=l;exact k I7 y
  | cont=>obtain ⟨σ7,c,I7,y⟩:=l;exact k I7 y
  | brk=>obtain ⟨σ7,c,I7,l⟩:=l;exact ⟨σ7,c,I7.unpinned,l⟩
  | ret v=>obtain ⟨x7,σ7,c,I7,r7,l⟩:=l;exact ⟨x7,σ7,c,I7.unpinned,r7,l⟩
variable {n:Nat}
theorem JhR {lo:Int} {g:TG} {D:Ends} (Pv:Nat->St->Hp->Prop) (h0:Pv 0 σ H)
  (hs:∀ i σ H,i<n->Pv i σ H->g (.int (lo+i)) σ H fun σ2 H2=>tb { D with nx:=Pv (i+1),ct:=Pv (i+1),bk:=D.nx } σ2 H2) (hd:∀ σ H,Pv n σ H->D.nx σ H) :
  ∃ W:Nat->Nat->St->Hp->Prop,(∃ m,W 0 m σ H)/\∀ i m σ H,W i m σ H ->
   ((Itr lo n).stop i H/\D.nx σ H)\/((Itr lo n).go i H/\∃ N:St->Hp->Prop,(∀ σ' H',N σ' H'->∃ m',m'<m/\W (i+1) m' σ' H')/\∀ x H',(Itr lo n).yld i H x H'->g x σ H' fun σ2 H2=>tb { D with nx:=N,ct:=N,bk:=D.nx } σ2 H2):=by
 refine ⟨fun i m σ H=>m=n-i/\i<=n/\Pv i σ H,⟨n,by simp,Nat.zero_le _,h0⟩,?_⟩;rintro i m σ H ⟨rfl,c,p⟩;by_cases a:i<n
 ·refine .inr ⟨a,Pv (i+1),fun σ' H' b=>⟨n-(i+1),by ac_nf,rfl,a,b⟩,fun x H' y=>?_⟩;obtain ⟨e,y⟩:=y;subst e y;exact hs i σ _ a p
 ·have e:i=n:=by ac_nf
  subst e;exact .inl ⟨Nat.le_refl _,hd σ H p⟩
abbrev R2:=V->V->Hp->VK->Prop
def OpR (X:Cx) (f:Value->Value->Sem Value) (r:R2):Prop :=
 ∀ (pins:List (Addr × Obj)) (s:Shared) (σ : St) (H:Hp) (x y:V) (v u:Value) (Q:VK),Inv X pins σ H s->RelV x v->RelV y u->r x y H Q ->
  wpAny (model X.prog X.w) X.A (f v u) (EP X pins σ Q) X.xe s
def UnR (X:Cx) (f:Value->Sem Value) (r:V->Hp->VK->Prop):Prop :=
 ∀ (pins:List (Addr × Obj)) (s:Shared) (σ : St) (H:Hp) (x:V) (v:Value) (Q:VK),Inv X pins σ H s->RelV x v->r x H Q ->
  wpAny (model X.prog X.w) X.A (f v) (EP X pins σ Q) X.xe s
def CallR (X:Cx) (f:Value) (r:List V->Hp->VK->Prop):Prop :=
 ∀ (pins:List (Addr × Obj)) (s:Shared) (σ : St) (H:Hp) (xs:List V) (us:List Value) (Q:VK),Inv X pins σ H s->Vals xs us->r xs H Q ->
  wpAny (model X.prog X.w) X.A (call f us) (EP X pins σ Q) X.xe s
def tOp (r:R2) (ta tb:TE):TE:=fun σ H Q=>ta σ H fun x H1=>tb σ H1 fun y H2=>r x y H2 Q
def tUn (r:V->Hp->VK->Prop) (ta:TE):TE:=fun σ H Q=>ta σ H fun x H1=>r x H1 Q
def rI (C:Int->Int->Prop) (g:Int->Int->V):R2:=fun x y H Q=>∃ i j,x=.int i/\y=.int j/\C i j/\Q (g i j) H
def rI0 (g:Int->Int->V):R2:=fun x y H Q=>∃ i j,x=.int i/\y=.int j/\Q (g i j) H
def rU (g:Int->V):V->Hp->VK->Prop:=fun x H Q=>∃ i,x=.int i/\Q (g i) H
variable {b:Expr} {ta tb tc:TE}
theorem binT (ha:PE X a ta) (hb:PE X b tb) {pins:List (Addr × Obj)} {s:Shared} {σ : St} {H:Hp} {R:V->V->Hp->Prop} (I:Inv X pins σ H s)
  (h:ta σ H fun x H1=>tb σ H1 fun y H2=>R x y H2) {Q:Value->Shared->Prop} {f:Value->Value->Sem Value}
  (hf:∀ v u s2 x y H2,Inv X pins σ H2 s2->RelV x v->RelV y u->R x y H2->wpAny (model X.prog X.w) X.A (f v u) Q X.xe s2) :
  wpAny (model X.prog X.w) X.A (eval a X.env) (fun v s₁=>wpAny (model X.prog X.w) X.A (eval b X.env) (fun u s₂=>wpAny (model X.prog X.w) X.A (f v u) Q X.xe s₂) X.xe s₁) X.xe s:=by
 refine thn (ha pins s σ H _ I h) fun v i ζ=>?_;obtain ⟨x,H1,I1,c,d⟩:=ζ;refine thn (hb pins i σ H1 _ I1 d) fun u s2 ζ=>?_;obtain ⟨y,H2,I2,e,g⟩:=ζ;exact hf v u s2 x y H2 I2 c e g
theorem pe_op {op:Operator} {r:R2} (ho:OpR X (binaryOp op) r) (ha:PE X a ta) (hb:PE X b tb):PE X (.BinOp a op b pos) (tOp r ta tb):=by
 intro c s σ H Q I h;exact wpAny_BinOp (binT ha hb I h fun v u d x y e I2 f g q=>ho c d σ e x y v u Q I2 f g q)
theorem pe_un {op:UnaryOp} {r:V->Hp->VK->Prop} (ho:UnR X (unaryOp op) r) (ha:PE X a ta):PE X (.UnaryOp op a pos) (tUn r ta):=by
 intro b s σ H Q I h;exact UnaryOp_ (thn (ha b s σ H _ I h) fun v e ζ=>by obtain ⟨x,f,I1,c,d⟩:=ζ;exact ho b e σ f x v Q I1 c d)
theorem opI {f:Value->Value->Sem Value} {C:Int->Int->Prop} {g:Int->Int->Int}
  (rule:∀ (i j:Int) (t u:Tok) (s:Shared) (Q:Value->Shared->Prop) (E:Value->Shared->Prop),C i j->Q (.int (g i j) s.toks) { s with toks:=s.toks+1 }->wpAny (model X.prog X.w) X.A (f (.int i t) (.int j u)) Q E s) :
  OpR X f (rI C fun i j=>.int (g i j)):=by
 intro a s σ H x y v u Q I c d h;obtain ⟨i,j,rfl,rfl,e,q⟩:=h;obtain ⟨t,rfl⟩:=c;obtain ⟨b,rfl⟩:=d;exact rule i j t b s _ _ e ⟨.int (g i j),H,I.tok _,⟨_,rfl⟩,q⟩
theorem opI0 {f:Value->Value->Sem Value} {g:Int->Int->Int}
  (rule:∀ (i j:Int) (t u:Tok) (s:Shared) (Q:Value->Shared->Prop) (E:Value->Shared->Prop),Q (.int (g i j) s.toks) { s with toks:=s.toks+1 }->wpAny (model X.prog X.w) X.A (f (.int i t) (.int j u)) Q E s) :
  OpR X f (rI0 fun i j=>.int (g i j)):=by
 intro a s σ H x y v u Q I c d h;obtain ⟨i,j,rfl,rfl,q⟩:=h;obtain ⟨t,rfl⟩:=c;obtain ⟨b,rfl⟩:=d;exact rule i j t b s _ _ ⟨.int (g i j),H,I.tok _,⟨_,rfl⟩,q⟩
theorem opB0 {f:Value->Value->Sem Value} {g:Int->Int->Bool}
  (rule:∀ (i j:Int) (t u:Tok) (s:Shared) (Q:Value->Shared->Prop) (E:Value->Shared->Prop),Q (.bool (g i j)) s->wpAny (model X.prog X.w) X.A (f (.int i t) (.int j u)) Q E s) :
  OpR X f (rI0 fun i j=>.bl (g i j)):=by
 intro a s σ H x y v u Q I c d h;obtain ⟨i,j,rfl,rfl,q⟩:=h;obtain ⟨t,rfl⟩:=c;obtain ⟨b,rfl⟩:=d;exact rule i j t b s _ _ ⟨.bl (g i j),H,I,rfl,q⟩
def CPow (i j:Int):Prop:=0<=j/\j<=1000000/\i.natAbs<2 ^ 64
theorem JlP:OpR X (binaryOp .Add) (rI0 fun i j=>.int (i+j)):=opI0 fun _ _ _ _ _ _ _ q=>add_int q
theorem Jid:OpR X (binaryOp .Sub) (rI0 fun i j=>.int (i-j)):=opI0 fun _ _ _ _ _ _ _ q=>sub_int q
theorem JkN:OpR X (binaryOp .Mod) (rI (fun _ j=>j≠0) fun i j=>.int (i.fmod j)):=opI fun _ _ _ _ _ _ _ a q=>mod_int' a q
theorem JlU:OpR X (binaryOp .Pow) (rI CPow fun i j=>.int (i ^ j.toNat)):=opI fun _ _ _ _ _ _ _ a q=>pow_int_small a.1 a.2.1 a.2.2 q
theorem unI {f:Value->Sem Value} {g:Int->Int}
  (rule:∀ (i:Int) (t:Tok) (s:Shared) (Q:Value->Shared->Prop) (E:Value->Shared->Prop),Q (.int (g i) s.toks) { s with toks:=s.toks+1 }->wpAny (model X.prog X.w) X.A (f (.int i t)) Q E s) :
  UnR X f (rU fun i=>.int (g i)):=by
 intro a s σ H x v Q I b h;obtain ⟨i,rfl,q⟩:=h;obtain ⟨t,rfl⟩:=b;exact rule i t s _ _ ⟨.int (g i),H,I.tok _,⟨_,rfl⟩,q⟩
theorem JeI:UnR X (unaryOp .USub) (rU fun i=>.int (-i)):=unI fun _ _ _ _ _ q=>neg_int q
def scal:V->V->Bool
 | .non, .non=>true | .non, .int _=>true | .int _, .non=>true | .non, .bl _=>true | .bl _, .non=>true | .non, .str _=>true | .str _, .non=>true
 | .int _, .int _=>true | .bl _, .bl _=>true | .str _, .str _=>true | .byt _, .byt _=>true
 | .int _, .str _=>true | .str _, .int _=>true | .bl _, .str _=>true | .str _, .bl _=>true
 | _,_=>false
def rEq:R2:=fun x y H Q=>scal x y=true/\Q (.bl (decide (x=y))) H
def rNe:R2:=fun x y H Q=>scal x y=true/\Q (.bl (!decide (x=y))) H
theorem JhJ {i j:Int}:decide (V.int i=V.int j)=(i == j):=by
 rw [Bool.eq_iff_iff];simp
theorem JjI {i j:Bool}:decide (V.bl i=V.bl j)=(i == j):=by
 rw [Bool.eq_iff_iff];simp
theorem JhK {i j:Str}:decide (V.str i=V.str j)=(i == j):=by
 rw [Bool.eq_iff_iff];simp
theorem JhI {i j:Array UInt8}:decide (V.byt i=V.byt j)=(i.toList == j.toList):=by
 rw [Bool.eq_iff_iff];cases i;cases j;simp
theorem JaN {s:Shared} {Q:VK} {k k':Bool} (I:Inv X pins σ H s) (q:Q (.bl k) H) (e:k=k'):EP X pins σ Q (.bool k') s:=by
 subst e;exact ⟨.bl k,H,I,rfl,q⟩
theorem op_eq:OpR X (compareOp .Eq) rEq:=by
 intro e s σ H x y v u Q I d a h;obtain ⟨c,q⟩:=h;cases x with
 | non=>
  cases d;cases y with
  | non=>cases a;exact PySem.EqNone.eq_none_none (JaN I q (by simp))
  | bl j=>cases a;exact PySem.EqNone.eq_none_bool (JaN I q (by simp))
  | int j=>obtain ⟨b,rfl⟩:=a;exact PySem.EqNone.eq_none_int (JaN I q (by simp))
  | str j=>obtain ⟨b,rfl⟩:=a;exact PySem.EqNone.eq_none_str (JaN I q (by simp))
  | _=>exact absurd (show false=true from c) Bool.false_ne_true
 | bl i=>
  cases d;cases y with
  | non=>cases a;exact PySem.EqNone.eq_bool_none (JaN I q (by simp))
  | bl j=>cases a;exact eq_bool (JaN I q JjI)
  | str j=>obtain ⟨b,rfl⟩:=a;exact PySem.EqMixed.eq_bool_str (JaN I q (by simp))
  | _=>exact absurd (show false=true from c) Bool.false_ne_true
 | int i=>
  obtain ⟨t,rfl⟩:=d;cases y with
  | non=>cases a;exact PySem.EqNone.eq_int_none (JaN I q (by simp))
  | int j=>obtain ⟨b,rfl⟩:=a;exact eq_int (JaN I q JhJ)
  | str j=>obtain ⟨b,rfl⟩:=a;exact PySem.EqMixed.eq_int_str (JaN I q (by simp))
  | _=>exact absurd (show false=true from c) Bool.false_ne_true
 | str i=>
  obtain ⟨t,rfl⟩:=d;cases y with
  | non=>cases a;exact PySem.EqNone.eq_str_none (JaN I q (by simp))
  | bl j=>cases a;exact PySem.EqMixed.eq_str_bool (JaN I q (by simp))
  | int j=>obtain ⟨b,rfl⟩:=a;exact PySem.EqMixed.eq_str_int (JaN I q (by simp))
  | str j=>obtain ⟨b,rfl⟩:=a;exact eq_str (JaN I q JhK)
  | _=>exact absurd (show false=true from c) Bool.false_ne_true
 | byt i=>
  obtain ⟨t,rfl⟩:=d;cases y with
  | byt j=>obtain ⟨b,rfl⟩:=a;exact W.eq_bytes (JaN I q JhI)
  | _=>exact absurd (show false=true from c) Bool.false_ne_true
 | _=>cases y <;> exact absurd (show false=true from c) Bool.false_ne_true
theorem op_ne:OpR X (compareOp .NotEq) rNe:=by
 intro e s σ H x y v u Q I d a h;obtain ⟨c,q⟩:=h;cases x with
 | non=>
  cases d;cases y with
  | non=>cases a;exact PySem.EqNone.ne_none_none (JaN I q (by simp))
  | bl j=>cases a;exact PySem.EqNone.ne_none_bool (JaN I q (by simp))
  | int j=>obtain ⟨b,rfl⟩:=a;exact PySem.EqNone.ne_none_int (JaN I q (by simp))
  | str j=>obtain ⟨b,rfl⟩:=a;exact PySem.EqNone.ne_none_str (JaN I q (by simp))
  | _=>exact absurd (show false=true from c) Bool.false_ne_true
 | bl i=>
  cases d;cases y with
  | non=>cases a;exact PySem.EqNone.ne_bool_none (JaN I q (by simp))
  | bl j=>cases a;exact ne_bool (JaN I q (congrArg not JjI))
  | str j=>obtain ⟨b,rfl⟩:=a;exact PySem.EqMixed.ne_bool_str (JaN I q (by simp))
  | _=>exact absurd (show false=true from c) Bool.false_ne_true
 | int i=>
  obtain ⟨t,rfl⟩:=d;cases y with
  | non=>cases a;exact PySem.EqNone.ne_int_none (JaN I q (by simp))
  | int j=>obtain ⟨b,rfl⟩:=a;exact ne_int (JaN I q (congrArg not JhJ))
  | str j=>obtain ⟨b,rfl⟩:=a;exact PySem.EqMixed.ne_int_str (JaN I q (by simp))
  | _=>exact absurd (show false=true from c) Bool.false_ne_true
 | str i=>
  obtain ⟨t,rfl⟩:=d;cases y with
  | non=>cases a;exact PySem.EqNone.ne_str_none (JaN I q (by simp))
  | bl j=>cases a;exact PySem.EqMixed.ne_str_bool (JaN I q (by simp))
  | int j=>obtain ⟨b,rfl⟩:=a;exact PySem.EqMixed.ne_str_int (JaN I q (by simp))
  | str j=>obtain ⟨b,rfl⟩:=a;exact ne_str (JaN I q (congrArg not JhK))
  | _=>exact absurd (show false=true from c) Bool.false_ne_true
 | byt i=>
  obtain ⟨t,rfl⟩:=d;cases y with
  | byt j=>obtain ⟨b,rfl⟩:=a;exact W.ne_bytes (JaN I q (congrArg not JhI))
  | _=>exact absurd (show false=true from c) Bool.false_ne_true
 | _=>cases y <;> exact absurd (show false=true from c) Bool.false_ne_true
theorem op_lt:OpR X (compareOp .Lt) (rI0 fun i j=>.bl (decide (i<j))):=opB0 fun _ _ _ _ _ _ _ q=>lt_int q
theorem op_gt:OpR X (compareOp .Gt) (rI0 fun i j=>.bl (decide (j<i))):=opB0 fun _ _ _ _ _ _ _ q=>gt_int q
theorem op_ge:OpR X (compareOp .GtE) (rI0 fun i j=>.bl (decide (j<=i))):=opB0 fun _ _ _ _ _ _ _ q=>ge_int q
theorem Jib:OpR X (compareOp .In) (fun x y H Q=>∃ i j,x=.str i/\y=.str j/\Q (.bl (!(Builtin.Str.occurrences j i 0 j.length 1).isEmpty)) H):=by
 intro a s σ H x y v u Q I b c h;obtain ⟨i,j,rfl,rfl,q⟩:=h;obtain ⟨t,rfl⟩:=b;obtain ⟨d,rfl⟩:=c;exact in_str (JaN I q rfl)
theorem JlT:OpR X (compareOp .Is) (fun x y H Q=>y=.non/\Q (.bl (decide (x=.non))) H):=by
 intro a s σ H x y v u Q I b c h;obtain ⟨rfl,q⟩:=h;cases c;refine is_none_gen (JaN I q ?_);cases x <;> first
  | (cases b;rfl)
  | (obtain ⟨t,rfl⟩:=b;rfl)
theorem JkQ:OpR X (compareOp .IsNot) (fun x y H Q=>y=.non/\Q (.bl (!decide (x=.non))) H):=by
 intro a s σ H x y v u Q I b c h;obtain ⟨rfl,q⟩:=h;cases c;refine isnot_none_gen (JaN I q ?_);cases x <;> first
  | (cases b;rfl)
  | (obtain ⟨t,rfl⟩:=b;rfl)
theorem Jaw (b:Expr) {op:CmpOp} (h:op≠.In:=by decide) (h2:op≠.NotIn:=by decide):behindInMarks op b=false:=by
 have c:(op == CmpOp.In)=false:=by cases op <;> first | rfl | exact absurd rfl h
 have a:(op == CmpOp.NotIn)=false:=by cases op <;> first | rfl | exact absurd rfl h2
 cases b <;> simp [behindInMarks,c,a]
variable {op:CmpOp} {r:R2}
theorem Jbc (ho:OpR X (compareOp op) r) (ha:PE X a ta) (hb:PE X b tb) (hm:behindInMarks op b=false):PE X (.Compare a [op] [b] pos) (tOp r ta tb):=by
 intro c s σ H Q I h;exact wpAny_Compare1 (binT ha hb I h fun v u d x y e I2 f g q=>ho c d σ e x y v u Q I2 f g q) hm
def tTest (t:TE):TT:=fun σ H Q=>t σ H fun x H'=>∃ k,x=.bl k/\Q k H'
theorem JaC (ho:OpR X (compareOp op) r) (ha:PE X a ta) (hb:PE X b tb) (hm:behindInMarks op b=false):PT X (.Compare a [op] [b] pos) (tTest (tOp r ta tb)):=by
 intro d s σ H Q I h;refine wpAny_isTrue_Compare1 (thn (ha d s σ H _ I h) fun v n ζ=>?_) hm;obtain ⟨x,j,I1,l,o⟩:=ζ;refine thn (hb d n σ j _ I1 o) fun u m ζ=>?_;obtain ⟨y,i,I2,p,q⟩:=ζ;refine thn (ho d m σ i x y v u _ I2 l p q) fun c w ζ=>?_;obtain ⟨z,g,I3,f,k,e,t⟩:=ζ
 subst e;cases f;exact wpAny_truthy_bool ⟨g,I3,t⟩
def Jl8 (r r':R2) (ta tb tc:TE):TE:=fun σ H Q=>ta σ H fun x H1=>tb σ H1 fun y H2=>r x y H2 fun z H3=>∃ k,z=.bl k /\
 (if k=true then tc σ H3 fun w' H4=>r' y w' H4 Q else Q (.bl false) H3)
theorem JeB:(sizeLine:Nat)<2 ^ 63:=by rw [sizeLine_eq];decide
theorem Jhm:OpR X (binaryOp .Add) (fun x y H Q=>∃ i j,x=.str i/\y=.str j/\i.length+j.length<=sizeLine/\Q (.str (i++j)) H):=by
 intro a s σ H x y v u Q I d e h;obtain ⟨i,j,rfl,rfl,b,q⟩:=h;obtain ⟨t,rfl⟩:=d;obtain ⟨c,rfl⟩:=e;exact add_str (fun c f=>⟨.str (i++j),H,I.tok _,⟨_,rfl⟩,q⟩) b
variable {x:V}
theorem vals1 (r:Vals [x] us):∃ u,us=[u]/\RelV x u:=by
 cases r with
 | cons r1 r2=>cases r2;exact ⟨_,rfl,r1⟩
theorem vals2 (r:Vals [x,y] us):∃ u w',us=[u,w']/\RelV x u/\RelV y w':=by
 cases r with
 | cons r1 r2=>
  cases r2 with
  | cons r3 r4=>cases r4;exact ⟨_,_,rfl,r1,r3⟩
theorem JiZ:CallR X (.builtin "abs") (fun xs H Q=>∃ i,xs=[.int i]/\Q (.int (if i<0 then -i else i)) H):=by
 intro a s σ H xs b Q I r h;obtain ⟨i,rfl,q⟩:=h;obtain ⟨u,rfl,t,rfl⟩:=vals1 r;exact call_abs_int fun u c=>⟨.int (if i<0 then -i else i),H,I.tok _,⟨_,rfl⟩,q⟩
theorem JhA (hc:X.calm=true):CallR X (.builtin "min") (fun xs H Q=>∃ i j,xs=[.int i, .int j]/\Q (.int (if j<i then j else i)) H):=by
 intro b s σ H xs f Q I r h;obtain ⟨i,j,rfl,q⟩:=h;obtain ⟨u,d,rfl,⟨t,rfl⟩,⟨c,rfl⟩⟩:=vals2 r;refine min_two_ints (I.ok.hd hc) fun e g k=>⟨_,H,I.kept k,?_,q⟩;by_cases a:j<i
 ·rw [if_pos a,if_pos a];exact ⟨_,rfl⟩
 ·rw [if_neg a,if_neg a];exact ⟨_,rfl⟩
structure ObjM (h:Heap) (x dx C:Addr) (mA:Str->Option Value):Prop where
 obj:h.get? x=some (W.instObj C dx)
 ns:h.Ns1 dx mA
 ne:dx≠x
variable {dx:Addr} {mA:Str->Option Value}
theorem JdW (n:h.Ns1 dx mA):∃ od,h.get? dx=some od/\∀ name,W.lookIn name od=some (mA name):=by
 obtain ⟨o,c,l,j,i,g,_,k⟩:=n;refine ⟨o,j,fun name=>?_⟩;have e:=k name;unfold nsFind findBy at e;rw [<- Array.find?_toList] at e;unfold W.lookIn;rw [i];dsimp only;split
 ·rename_i y q;rw [q] at e;exact congrArg some e
 ·rename_i q;rw [q] at e;have a:c.toList.any (·.refKey)=false:=by
   rw [List.any_eq_false];intro y d;obtain ⟨z,t,b⟩:=g y (Array.mem_toList_iff.mp d);simp [DictEntry.refKey,b]
  have f:¬ c.toList.any (·.refKey)=true:=by rw [a];exact Bool.false_ne_true
  rw [if_neg f];exact congrArg some e
variable {x C:Addr}
theorem ObjM.look (I:ObjM h x dx C mA):∃ od,W.InstAt h x (W.instObj C dx) C (some od)/\∀ name,W.lookIn name od=some (mA name) :=
 let ⟨od,ho,hl⟩:=JdW I.ns
 ⟨od,⟨I.obj,rfl,rfl,ho⟩,hl⟩
section
variable {name:Str} {v:Value} {w:World} {s:Shared} {K:W.Frag} {f:Addr}
theorem get_map {expr:Bool} {Q:Value->Shared->Prop} (X:K.In s.heap) (I:ObjM s.heap x dx C mA) (hg:W.plainGet K C name=true) (hh:W.hasDictIn K C=true)
  (ha:W.findIn K (.ref C) name=some none) (hv:mA name=some v) (hv':W.handedIn v=true) (h:Q v { s with toks:=s.toks+1 }) :
  wpAny (model prog w) A (getAttr (.ref x) name expr) Q E s:=by
 obtain ⟨b,J,a⟩:=I.look;exact W.get_value X J (W.plainGet_of hg).1 (W.findObj_own hh ha rfl (by rw [a,hv])) hv' h
variable {pl:Sem Bool}
theorem Ji5 {Q:Value × List Value->Shared->Prop} (X:K.In s.heap) (I:ObjM s.heap x dx C mA) (hg:W.plainGet K C name=true)
  (hf:W.findIn K (.ref C) name=some (some (.ref f))) (ht:W.isFn K (.ref f)=true) (hv:mA name=none) (h:Q (.ref f,[.ref x]) s) :
  wpAny (model prog w) A (getMethod (.ref x) name pl) Q E s:=by
 obtain ⟨b,J,a⟩:=I.look;exact W.method_fn X J (W.plainGet_of hg).1 (W.plainGet_of hg).2 hf (beq_iff_eq.mp ht) (by show (W.lookIn name b).map (·.isSome)=some false;rw [a,hv];rfl) h
theorem Jk8 {ns:List Str} {Q:Unit->Shared->Prop} (X:K.In s.heap) (I:ObjM s.heap x dx C mA)
  (hs:W.findIn K (.ref C) "__setattr__"=some (some (.builtin "object.__setattr__"))) (hp:W.plainOver K C=true) (ht:W.takerIn K C name=some none) (hh:W.hasDictIn K C=true)
  (hw:PySem.Within mA ns) (hsz:ns.length<=sizeLine)
  (h:∀ h',ObjM h' x dx C (fun y=>if y=name then some v else mA y)->Heap.SameBut dx s.heap h'->Q () { s with heap:=h',toks:=s.toks+2 }) :
  wpAny (model prog w) A (setAttr (.ref x) name v) Q E s:=by
 obtain ⟨q,J,n⟩:=I.look;refine W.set_plain X J hs (W.osa_open (s:={ s with toks:=s.toks+1 }) (r:=none) X J hp ht fun b=>?_);obtain ⟨p,m,i⟩:=W.any_some hh;have j:s.heap.get? x=some ⟨.ref C,some dx, .plain, #[]⟩:=I.obj;refine wpAny_bind (wpAny_pure (wpAny_bind (wpAny_bind (wpAny_loadPart j (wpAny_bind (W.Looks.here (s:={ s with toks:=s.toks+1 }) (W.looks_clsIn X m) ?_))))));rw [i];refine wpAny_pure (a:=some dx) (wpAny_bind (wpAny_pure (wpAny_bind ?_)));refine wpAny_nsSet1 (s:={ s with toks:=s.toks+1 }) I.ns fun h' d c=>?_;obtain ⟨o,k,l,g,f,e⟩:=d.count (PySem.Within.cons name v hw);refine wpAny_bind (wpAny_lookBehind g (by rw [f];exact pastItsLine_dict (Nat.le_trans e (by rw [length_cons];ac_nf))) ?_);exact wpAny_pure (h _ ⟨(c.2 _ (Ne.symm I.ne)).trans I.obj,d,I.ne⟩ c)
variable {kw:List (Str × Value)}
theorem Ji9 {R:Result->Shared->Prop} {vs:List Value} (X:K.In s.heap) (hm:W.makesIn K C=true)
  (hi:W.findIn K (.ref C) "__init__"=some (some (.ref f))) (hf:W.typeIn K (.ref f)=some (.type "function"))
  (h:codeAny (model prog w) (A.under (.builtin "type.__call__" ⟨.ref C::vs,kw⟩)) (.call (.ref f) ⟨.ref (s.heap.objs.size+1)::vs,kw⟩) (W.InitBack (s.heap.objs.size+1) R)
   { s with heap:=(s.heap.push W.emptyDict).push (W.instObj C s.heap.objs.size) }) :
  codeAny (model prog w) A (.call (.ref C) ⟨vs,kw⟩) R s:=by
 obtain ⟨b,g,d,t,c⟩:=s;exact W.make_core (W.makes_of X hm) (W.looks_findIn X hi) (fun a=>W.bind_fn X a hf) (.inl rfl) h
end
def putF (f:Str) (v:V):List (Str × V)->List (Str × V)
 | []=>[(f,v)]
 | (g,x)::r=>if g=f then (g,v)::r else (g,x)::putF f v r
theorem JdX (f g:Str) (v:V):∀ fs:List (Str × V),(putF f v fs).lookup g=if g=f then some v else fs.lookup g
 | []=>by
  show List.lookup g [(f,v)]=_;by_cases h:g=f
  ·have hb:(g == f)=true:=beq_iff_eq.mpr h;simp only [List.lookup,hb,if_pos h]
  ·have hb:(g == f)=false:=beq_eq_false_iff_ne.mpr h;simp only [List.lookup,hb,if_neg h]
 | (k,x)::r=>by
  have ih:=JdX f g v r;rw [show putF f v ((k,x)::r)=(if k=f then (k,v)::r else (k,x)::putF f v r) from rfl];by_cases hk:k=f
  ·rw [if_pos hk];by_cases h:g=k
   ·have hb:(g == k)=true:=beq_iff_eq.mpr h;simp only [List.lookup,hb,if_pos (h.trans hk)]
   ·have hb:(g == k)=false:=beq_eq_false_iff_ne.mpr h;simp only [List.lookup,hb,if_neg (fun e:g=f=>h (e.trans hk.symm))]
  ·rw [if_neg hk];by_cases h:g=k
   ·have hb:(g == k)=true:=beq_iff_eq.mpr h;simp only [List.lookup,hb,if_neg (fun e:g=f=>hk (h.symm.trans e))]
   ·have hb:(g == k)=false:=beq_eq_false_iff_ne.mpr h;simp only [List.lookup,hb];exact ih
theorem JdS (f:Str) (v:V):∀ fs:List (Str × V),f∈(putF f v fs).map (·.1)/\∀ g,g∈fs.map (·.1)->g∈(putF f v fs).map (·.1)
 | []=>⟨by simp [putF],fun g h=>by simp at h⟩
 | (k,x)::r=>by
  obtain ⟨i1,i2⟩:=JdS f v r;rw [show putF f v ((k,x)::r)=(if k=f then (k,v)::r else (k,x)::putF f v r) from rfl];by_cases hk:k=f
  ·rw [if_pos hk];subst hk;exact ⟨by simp,fun g h=>by simpa using h⟩
  ·rw [if_neg hk];refine ⟨?_,fun g h=>?_⟩
   ·rw [map_cons];exact mem_cons_of_mem _ i1
   ·rw [map_cons] at h ⊢;rcases mem_cons.mp h with e | e
    ·exact mem_cons.mpr (.inl e)
    ·exact mem_cons_of_mem _ (i2 g e)
theorem JdV (f:Str) (v:V):∀ fs:List (Str × V),(putF f v fs).length<=fs.length+1
 | []=>by simp [putF]
 | (k,x)::r=>by
  have ih:=JdV f v r;rw [show putF f v ((k,x)::r)=(if k=f then (k,v)::r else (k,x)::putF f v r) from rfl];by_cases hk:k=f
  ·rw [if_pos hk,length_cons,length_cons];ac_nf
  ·rw [if_neg hk,length_cons,length_cons];ac_nf
variable {v:V} {o:Option Value}
theorem RelO.some_of (r:RelO (some v) o):∃ u,o=some u/\RelV v u:=by
 cases o with
 | none=>exact (show False from r).elim
 | some u=>exact ⟨u,rfl,r⟩
theorem RelO.none_of (r:RelO none o):o=none:=by
 cases o with
 | none=>rfl
 | some u=>exact (show False from r).elim
theorem JfC (r:RelV v u):W.handedIn u=true:=by
 cases v with
 | non=>cases (show u=Value.none from r);rfl
 | bl b=>cases (show u=Value.bool b from r);rfl
 | int i=>obtain ⟨t,e⟩:=(show ∃ t,u=Value.int i t from r);cases e;rfl
 | str x=>obtain ⟨t,e⟩:=(show ∃ t,u=Value.str x t from r);cases e;rfl
 | byt b=>obtain ⟨t,e⟩:=(show ∃ t,u=Value.bytes b t from r);cases e;rfl
 | flt b=>obtain ⟨t,e⟩:=(show ∃ t,u=Value.float b t from r);cases e;rfl
 | ref a=>cases (show u=Value.ref a from r);rfl
 | ty n=>cases (show u=Value.type n from r);rfl
section
variable {h':Heap} {a:Addr} {fs':List (Str × V)} {w:World} {fs:List (Str × V)}
theorem Jgg (hok:HOk P w H h) (e:H a=some (.ins C dx fs)):∃ mA,ObjM h a dx C mA/\(∀ f,RelO (fs.lookup f) (mA f))/\PySem.Within mA (fs.map (·.1))/\fs.length<=1000/\H dx=some (.own a):=by
 obtain ⟨d,z,c,b,mA,n,r,q⟩:=(show ObjOk P w H h a (.ins C dx fs) from hok a _ e);exact ⟨mA,⟨b,n,c⟩,r,q,z,d⟩
end
structure Cls (K:W.Frag) (C:Addr):Prop where
 pg:W.plainGet K C Str.empty=true
 hd:W.hasDictIn K C=true
 po:W.plainOver K C=true
 sa:W.findIn K (.ref C) "__setattr__"=some (some (.builtin "object.__setattr__"))
theorem Cls.get {K:W.Frag} (c:Cls K C) (f:Str):W.plainGet K C f=true:=c.pg
def JaU (K:W.Frag) (C:Addr) (f:Str):Prop:=W.findIn K (.ref C) f=some none
theorem JaU.taker {K:W.Frag} {f:Str} (n:JaU K C f):W.takerIn K C f=some none:=by
 unfold W.takerIn;rw [show W.findIn K (.ref C) f=some none from n];rfl
structure Meth (K:W.Frag) (C:Addr) (m:Str) (f:Addr):Prop where
 at_:W.findIn K (.ref C) m=some (some (.ref f))
 fn:W.isFn K (.ref f)=true
 kp:W.keepIn K (.ref f)=true
section
variable {a:Addr} {s:Shared} {fs:List (Str × V)} {f:Str} {b:Bool}
theorem Jhb {Q:Value->Shared->Prop} (I:Inv X pins σ H s) (e:H a=some (.ins C dx fs)) (c:Cls X.K C) (n:JaU X.K C f) (l:fs.lookup f=some v)
  (h:∀ u s',Inv X pins σ H s'->RelV v u->Q u s'):wpAny (model X.prog X.w) A (getAttr (.ref a) f b) Q E s:=by
 obtain ⟨g,O,r,_,_,_⟩:=Jgg I.hok e;obtain ⟨u,i,d⟩:=RelO.some_of (v:=v) (o:=g f) (by rw [<- l];exact r f);exact get_map I.kIn O (c.get f) c.hd n i (JfC d) (h u _ (I.tok _) d)
theorem Jez {m:Str} {g:Addr} {pl:Sem Bool} {Q:Value × List Value->Shared->Prop} (I:Inv X pins σ H s) (e:H a=some (.ins C dx fs)) (c:Cls X.K C) (k:Meth X.K C m g) (l:fs.lookup m=none)
  (h:Q (.ref g,[.ref a]) s):wpAny (model X.prog X.w) A (getMethod (.ref a) m pl) Q E s:=by
 obtain ⟨d,O,r,_,_,_⟩:=Jgg I.hok e;have b:d m=none:=RelO.none_of (by rw [<- l];exact r m);exact Ji5 I.kIn O (c.get m) k.at_ k.fn b h
theorem Jhr {Q:Unit->Shared->Prop} (I:Inv X pins σ H s) (e:H a=some (.ins C dx fs)) (c:Cls X.K C) (n:JaU X.K C f) (hl:fs.length<1000) (ry:RelV y u)
  (h:∀ s',Inv X pins σ (upd H a (.ins C dx (putF f y fs))) s'->Q () s'):wpAny (model X.prog X.w) A (setAttr (.ref a) f u) Q E s:=by
 obtain ⟨d,O,r,i,_,j⟩:=Jgg I.hok e;have m:(fs.map (·.1)).length<=sizeLine:=by rw [length_map,sizeLine_eq];ac_nf
 refine Jk8 I.kIn O c.sa c.po n.taker c.hd i m fun k O' v=>h _ ?_;have t:∃ o,k.get? dx=some o:=let ⟨o,_,_,e',_⟩:=O'.ns;⟨o,e'⟩;refine I.write (x:=a) (e:=dx) (by rw [e];exact True.intro) (.inr j) (fun b q l z=>(v.2 b l).trans z) t ?_;refine ⟨by rw [Jag O.ne];exact j,?_,O.ne,O'.obj,_,O'.ns,fun g=>?_,fun g p=>?_⟩
 ·have:=JdV f y fs;ac_nf
 ·show RelO ((putF f y fs).lookup g) (if g=f then some u else d g);rw [JdX];by_cases q:g=f
  ·rw [if_pos q,if_pos q];exact ry
  ·rw [if_neg q,if_neg q];exact r g
 ·by_cases q:g=f
  ·rw [q];exact (JdS f y fs).1
  ·refine (JdS f y fs).2 g (i g fun z=>p ?_);show (if g=f then some u else d g)=none;rw [if_neg q];exact z
theorem Inv.made (I:Inv X pins σ H s):Inv X pins σ (upd (upd H s.heap.objs.size (.own (s.heap.objs.size+1))) (s.heap.objs.size+1) (.ins C s.heap.objs.size []))
  { s with heap:=(s.heap.push W.emptyDict).push (W.instObj C s.heap.objs.size) }:=by
 have d:(s.heap.push W.emptyDict).get? s.heap.objs.size=some W.emptyDict:=Heap.get?_push_size s.heap rfl;have i:((s.heap.push W.emptyDict).push (W.instObj C s.heap.objs.size)).get? (s.heap.objs.size+1)=some (W.instObj C s.heap.objs.size):=by
  have:=Heap.get?_push_size (s.heap.push W.emptyDict) (o:=W.instObj C s.heap.objs.size) rfl
  rwa [Heap.size_push] at this
 have g:(s.heap.push W.emptyDict).Ns s.heap.objs.size (fun _=>none):=⟨W.emptyDict, #[],_,d,rfl,(fun e h=>absurd h (by simp)),fun _=>rfl⟩;have I1:=I.laid (a:=s.heap.objs.size) (o:=.own (s.heap.objs.size+1)) (h':=s.heap.push W.emptyDict) (t':=s.toks) (fun b u q=>Heap.get?_push_of_some _ q) (Nat.le_refl _) ⟨_,d⟩;refine I1.laid (a:=s.heap.objs.size+1) (o:=.ins C s.heap.objs.size []) (t':=s.toks) (fun b u q=>Heap.get?_push_of_some _ q) (Nat.le_of_eq (Heap.size_push _ _)) ?_;have c:s.heap.objs.size≠s.heap.objs.size+1:=Nat.ne_of_lt (Nat.lt_succ_self _);refine ⟨by rw [Jag c,Jaj],Nat.zero_le _,c,i,fun _=>none,(Heap.Ns1.of_empty g).at fun o q=>Heap.get?_push_of_some _ q,fun _=>True.intro,fun y f=>absurd rfl f⟩
variable {Q:Value->Shared->Prop}
theorem Jhx {w:World} {env:Env} {f:Str} {s:Shared} (hb:attributeBase e f env (eval e env)=eval e env)
  (h:wpAny (model prog w) A (eval e env) (fun o s₁=>wpAny (model prog w) A (getAttr o f true) Q E s₁) E s):wpAny (model prog w) A (eval (.Attribute e f pos) env) Q E s :=
 Attribute_any_ h (by rw [arm_eval_Attribute,hb])
end
def tFld (K:W.Frag) (ta:TE) (f:Str):TE:=fun σ H Q=>ta σ H fun x H1=>∃ a C dx fs v,x=.ref a/\H1 a=some (.ins C dx fs)/\Cls K C/\JaU K C f/\fs.lookup f=some v/\Q v H1
def sFld (K:W.Frag) (ta tv:TE) (f:Str):TS:=fun D σ H=>tv σ H fun y H1=>ta σ H1 fun x H2=>∃ a C dx fs,x=.ref a/\H2 a=some (.ins C dx fs)/\Cls K C/\JaU K C f/\fs.length<1000 /\
 D.nx σ (upd H2 a (.ins C dx (putF f y fs)))
section
variable {o value:Expr} {tpos:Pos} {tv:TE} {f:Str}
theorem Jas (he:PE X e ta) (hb:attributeBase e f X.env (eval e X.env)=eval e X.env):PE X (.Attribute e f pos) (tFld X.K ta f):=by
 intro b s σ H Q I h;refine Jhx hb (thn (he b s σ H _ I h) fun u p ζ=>?_);obtain ⟨x,i,I1,k,a,C,m,t,v,g,j,c,n,l,q⟩:=ζ;subst g;obtain rfl:u=Value.ref a:=k;exact Jhb I1 j c n l fun r o I2 d=>⟨v,i,I2,d,q⟩
theorem Ja6 (ha:PE X o ta) (hv:PE X value tv) (hs:swapsWith value (some (.Attribute o f pos')) pos.line X.env=pure false):PS X (.Assign [.Attribute o f pos'] value pos) (sFld X.K ta tv f):=by
 intro b s σ H D I h;refine plainObj_wpAny_Assign_Attribute (thn (hv b s σ H _ I h) fun u g ζ=>?_) hs;obtain ⟨y,e,I1,m,q⟩:=ζ;refine thn (ha b g σ e _ I1 q) fun p v ζ=>?_;obtain ⟨x,t,I2,k,a,C,r,z,d,j,c,n,l,i⟩:=ζ;subst d;obtain rfl:p=Value.ref a:=k;exact Jhr I2 j c n l m fun w I3=>⟨σ,_,I3,i⟩
end
section
variable {Q:Value->Shared->Prop} {c:Value} {b:Bool} {s:Shared}
end
structure Room (k:Nat) (A:Around):Prop where
 hd:A.handled=none
 dp:A.depth+3*k+5<recursionLimit
 un:A.units+16*k+200<cLine
theorem Room.mono {j k:Nat} (r:Room k A) (h:j<=k):Room j A:=⟨r.hd,by have:=r.dp;ac_nf,by have:=r.un;ac_nf⟩
theorem Room.deeper {k:Nat} (r:Room (k+1) A) (env:Env):Room k (A.deeper env) :=
 ⟨r.hd,by have:=r.dp;show A.depth+1+3*k+5<_;ac_nf,by have:=r.un;show A.units+3+16*k+200<_;ac_nf⟩
variable {kw:List (Str × Value)}
theorem Jhf:(A.under (.builtin "type.__call__" ⟨.ref C::us,kw⟩)).depth=A.depth+1:=by
 first | rfl | simp [Around.under,Code.weight,Code.isCreation,Code.isGuard,Code.isCaller,Code.frames,Code.isFrame,guardIds]
theorem Jhg:(A.under (.builtin "type.__call__" ⟨.ref C::us,kw⟩)).units=A.units+1:=by
 first | rfl | simp [Around.under,Code.cUnits,Code.frames,Code.isFrame]
theorem Room.make {k:Nat} (r:Room (k+1) A) (C:Addr) (us:List Value) (kw:List (Str × Value)):Room k (A.under (.builtin "type.__call__" ⟨.ref C::us,kw⟩)) :=
 ⟨r.hd,by have:=r.dp;rw [Jhf];ac_nf,by have:=r.un;rw [Jhg];ac_nf⟩
theorem Room.depth {k:Nat} (r:Room k A):A.depth<recursionLimit:=by have:=r.dp;ac_nf
theorem Room.units {k:Nat} (r:Room k A):A.units+64<cLine:=by have:=r.un;ac_nf
def tNil:TA:=fun _ H Q=>Q [] H
def tCons (ta:TE) (tr:TA):TA:=fun σ H Q=>ta σ H fun x H1=>tr σ H1 fun xs H2=>Q (x::xs) H2
section
variable {t:TA}
theorem Jad:PA X [] tNil:=fun _ _ _ _ H Q I h=>Calls.spliced_nil ⟨[],H,I, .nil,h⟩
theorem JkS (ha:PE X e te) (hr:PA X es t) (hs:starEach (e::es) X.env=(false,eval e X.env)::starEach es X.env:=by rfl):PA X (e::es) (tCons te t):=by
 intro b a s σ H Q I h;rw [hs];show wpAny _ _ (spliced ((false,eval e X.env)::backTo b (starEach es X.env))) _ _ s;refine Calls.spliced_cons (thn (ha a s σ H _ I h) fun u i ζ=>?_);obtain ⟨x,f,I1,g,j⟩:=ζ;exact thn (hr b a i σ f _ I1 j) fun n m ζ=>by obtain ⟨c,d,I2,k,l⟩:=ζ;exact ⟨x::c,d,I2, .cons g k,l⟩
def tTup (t:TA):TE:=fun σ H Q=>t σ H fun xs H1=>xs.length<=sizeLine/\∀ p,H1 p=none->Q (.ref p) (upd H1 p (.tup xs))
def tLst (t:TA):TE:=fun σ H Q=>t σ H fun xs H1=>xs.length<=sizeLine/\∀ p,H1 p=none->Q (.ref p) (upd H1 p (.lst xs))
theorem JaO {x1} (h:PA X es t):PE X (.Tuple es x1 pos) (tTup t):=by
 intro a s σ H Q I i;refine wpAny_Tuple_spliced (thn (h pos a s σ H _ I i) fun g c ζ=>?_);obtain ⟨f,d,I1,r,z,q⟩:=ζ;refine ⟨by rw [<- r.length];exact z,?_⟩;have j:d c.heap.objs.size=none:=I1.hok.fresh (Nat.le_refl _);refine ⟨.ref c.heap.objs.size,upd d c.heap.objs.size (.tup f),I1.laid (t':=c.toks) (fun b u e=>Heap.get?_push_of_some _ e) (Nat.le_refl _) ?_,rfl,q _ j⟩;exact ⟨z,g,r,⟨_,Heap.get?_push_size _ rfl,rfl,_,rfl⟩⟩
theorem Jbg (h:PA X es t):PE X (.List es pos) (tLst t):=by
 intro a s σ H Q I i;refine wpAny_List_spliced (thn (h pos a s σ H _ I i) fun g c ζ=>?_);obtain ⟨f,d,I1,r,z,q⟩:=ζ;refine ⟨by rw [<- r.length];exact z,?_⟩;have j:d c.heap.objs.size=none:=I1.hok.fresh (Nat.le_refl _);refine ⟨.ref c.heap.objs.size,upd d c.heap.objs.size (.lst f),I1.laid (t':=c.toks) (fun b u e=>Heap.get?_push_of_some _ e) (Nat.le_refl _) ?_,rfl,q _ j⟩;exact ⟨z,g,0,r,Heap.get?_push_size _ rfl⟩
end
abbrev Sp:=List V->Hp->VK->XK->Prop
abbrev CXT:=List Env->Hp->Shared->XK->Value->Shared->Prop
structure Env0 (P:Program) (w:World) (K:W.Frag) (mg:Str->Option Value) (base:Heap) (A:Around) (outer:List Env) (s:Shared) (H:Hp):Prop where
 frames:A.frames=some outer
 mod:Mod K mg base
 bs:∀ b o,base.get? b=some o->s.heap.get? b=some o/\H b=none
 bsz:base.objs.size<=s.heap.objs.size
 funs:s.heap.FunFrames base outer
 frf:∀ b∈frs outer,H b=none
 hok:HOk P w H s.heap
 bare:AllBare s.gens
def CE (outer:List Env) (P:Program) (w:World) (H:Hp) (s:Shared) (Q:VK) (u:Value) (s':Shared):Prop :=
 ∃ v H',s'.os=s.os/\AllBare s'.gens/\Un (frs outer) [] H H' s.heap s'.heap/\HOk P w H' s'.heap/\RelV v u/\Q v H'
def CR (CX:CXT) (outer:List Env) (P:Program) (w:World) (H:Hp) (s:Shared) (Q:VK) (E:XK) (r:Result) (s':Shared):Prop :=
 match r with
 | .ok (.ret u)=>CE outer P w H s Q u s'
 | .ok _=>False
 | .error e=>CX outer H s E e s'
structure FnOk (P:Program) (w:World) (K:W.Frag) (mg:Str->Option Value) (base:Heap) (CX:CXT) (k:Nat) (f:Addr) (fd:FuncData) (ps:List Str) (sp:Sp):Prop where
 len:∀ vs H Q E,sp vs H Q E->vs.length=ps.length
 run:∀ (A:Around) (outer:List Env) (s:Shared) (H:Hp) (args:Args) (us:List Value) (vs:List V) (Q:VK) (E:XK),Room k A->Env0 P w K mg base A outer s H->BindsTo s fd args (ps.zip us)->Vals vs us->sp vs H Q E ->
  codeAny (model P w) A (.call (.ref f) args) (CR CX outer P w H s Q E) s
variable {mg:Str->Option Value} {base:Heap} {outer:List Env}
theorem Env0.make {w:World} {K:W.Frag} {s:Shared} (e:Env0 P w K mg base A outer s H) (C:Addr) (us:List Value) (kw:List (Str × Value)) :
  Env0 P w K mg base (A.under (.builtin "type.__call__" ⟨.ref C::us,kw⟩)) outer s H:=⟨by first | exact e.frames | (simpa [Around.under,Code.envs,Code.isFrame,pushEnvs] using e.frames),e.mod,e.bs,e.bsz,e.funs,e.frf,e.hok,e.bare⟩
section
variable {s':Shared} {s:Shared}
theorem Inv.env0 (I:Inv X pins σ H s):Env0 X.prog X.w X.K X.mg X.base X.A X.stack s H :=
 ⟨I.ok.frames,I.ok.mod,I.bs,Nat.le_trans I.ok.bsz I.sz,I.stack,I.stkFree,I.hok,I.bare⟩
variable {Q:VK}
theorem Inv.after (I:Inv X pins σ H s) (h:CE X.stack X.prog X.w H s Q u s'):EP X pins σ Q u s':=by
 obtain ⟨v,i,j,a,k,e,r,q⟩:=h;obtain ⟨f,g,d,t,c⟩:=s';obtain rfl:c=s.os:=j;exact ⟨v,i,I.call (h':=f) (g':=g) (d':=d) (t':=t) (ch:=[]) k e a (fun b z=>absurd z (by simp)),r,q⟩
end
def tCall (sp:Sp) (dvs:List V) (E:XK) (t:TA):TE:=fun σ H Q=>t σ H fun vs H1=>sp (vs++dvs) H1 Q E
def tMake (C:Addr) (sp:Sp) (dvs:List V) (E:XK) (t:TA):TE:=fun σ H Q=>t σ H fun vs H1=>∀ x dx,H1 x=none->H1 dx=none->dx≠x ->
 sp (.ref x::(vs++dvs)) (upd (upd H1 dx (.own x)) x (.ins C dx [])) (fun v H2=>v=.non/\Q (.ref x) H2) E
def Binds (K:W.Frag) (fd:FuncData) (ps:List Str) (ds:List Value):Prop :=
 ∀ (s:Shared) (us:List Value),K.In s.heap->(us++ds).length=ps.length->BindsTo s fd ⟨us,[]⟩ (ps.zip (us++ds))
variable {fd:FuncData} {ps:List Str}
theorem Binds.all {K:W.Frag} (h:∀ us:List Value,us.length=ps.length->bindArgs fd ⟨us,[]⟩=pure (ps.zip us)):Binds K fd ps []:=fun s us _ a=>by
 rw [append_nil] at a ⊢;exact .of_eq (h us a)
def JbT (CX:CXT) (X:Cx) (E:XK):Prop:=∀ (pins:List (Addr × Obj)) (σ : St) (H:Hp) (s:Shared) (e:Value) (s':Shared),Inv X pins σ H s->CX X.stack H s E e s'->X.xe e s'
section
variable {CX:CXT} {sp:Sp} {dvs:List V} {ds:List Value} {E:XK} {x:Str} {p apos:Pos} {o:Expr} {k:Nat} {f:Addr} {m:Str} {t:TA} {Q:VK} {vs:List V}
theorem Jiv {s:Shared} (F:FnOk X.prog X.w X.K X.mg X.base CX k f fd ps sp) (hr:Room k X.A) (hb:Binds X.K fd ps ds) (hd:Vals dvs ds) (hx:JbT CX X E)
  (I:Inv X pins σ H s) (r:Vals vs us) (h:sp (vs++dvs) H Q E):wpAny (model X.prog X.w) X.A (call (.ref f) us) (EP X pins σ Q) X.xe s:=by
 have b:Vals (vs++dvs) (us++ds):=r.append hd;have d:(us++ds).length=ps.length:=by rw [<- b.length];exact F.len _ _ _ _ h
 refine wpAny_call (codeAny_mono (F.run X.A X.stack s H ⟨us,[]⟩ (us++ds) (vs++dvs) Q E hr I.env0 (hb s us I.kIn d) b h) fun r c a=>?_);cases r with
 | error e=>exact hx pins σ H s e c I a
 | ok fl=>
  cases fl with
  | ret u=>exact I.after a
  | next=>exact False.elim a
  | brk=>exact False.elim a
  | cont=>exact False.elim a
theorem JkT (F:FnOk X.prog X.w X.K X.mg X.base CX k f fd ps sp) (hr:Room k X.A) (hg:Gl X x) (hm:X.mg x=some (.ref f)) (hk:W.keepIn X.K (.ref f)=true) (hb:Binds X.K fd ps ds) (hd:Vals dvs ds) (hx:JbT CX X E)
  (ha:PA X (e::es) t) (hdb:(x == ("__debug__" : Str))=false:=by decide) (he:starEach (e::es) X.env=(false,eval e X.env)::starEach es X.env:=by rfl) (hpl:(backTo pos (starEach es X.env)).any (·.1)=false:=by rfl) :
  PE X (.Call (.Name x p) (e::es) [] pos) (tCall sp dvs E t):=by
 intro a s σ H Q I h;refine wpAny_Call_Name_kw (Jck I hg hm ?_ hdb);refine W.callWith_K (h₀:=X.base) I.ok.mod.kin hk (thn (ha pos a s σ H _ I h) fun b c ζ=>?_) he hpl;obtain ⟨d,g,I1,r,q⟩:=ζ;refine ⟨I1.kIn,?_⟩;exact Jiv F hr hb hd hx I1 r q
structure Mk (K:W.Frag) (C f:Addr):Prop where
 makes:W.makesIn K C=true
 init:W.findIn K (.ref C) "__init__"=some (some (.ref f))
 fn:W.isFn K (.ref f)=true
 kp:W.keepIn K (.ref C)=true
theorem JgW {s:Shared} (M:Mk X.K C f) (F:FnOk X.prog X.w X.K X.mg X.base CX k f fd ps sp) (hr:Room (k+1) X.A) (hb:Binds X.K fd ps ds) (hd:Vals dvs ds)
  (hx:JbT CX X E) (I:Inv X pins σ H s) (r:Vals vs us)
  (h:∀ x dx,H x=none->H dx=none->dx≠x->sp (.ref x::(vs++dvs)) (upd (upd H dx (.own x)) x (.ins C dx [])) (fun v H2=>v=.non/\Q (.ref x) H2) E) :
  wpAny (model X.prog X.w) X.A (call (.ref C) us) (EP X pins σ Q) X.xe s:=by
 have c:=h (s.heap.objs.size+1) s.heap.objs.size (I.hok.fresh (Nat.le_succ _)) (I.hok.fresh (Nat.le_refl _)) (Nat.ne_of_lt (Nat.lt_succ_self _));have I2:=Inv.made (C:=C) I;have b:Vals (V.ref (s.heap.objs.size+1)::(vs++dvs)) (Value.ref (s.heap.objs.size+1)::(us++ds)):=.cons rfl (r.append hd);have g:(Value.ref (s.heap.objs.size+1)::us++ds).length=ps.length:=by
  have e:=b.length;rw [F.len _ _ _ _ c] at e;exact e.symm
 refine wpAny_call (Ji9 (f:=f) I.kIn M.makes M.init (beq_iff_eq.mp M.fn) (codeAny_mono (F.run _ X.stack _ _ ⟨Value.ref (s.heap.objs.size+1)::us,[]⟩ (Value.ref (s.heap.objs.size+1)::(us++ds)) _ _ E (hr.make C us [])
  (I2.env0.make C us []) (hb _ (Value.ref (s.heap.objs.size+1)::us) I2.kIn g) b c) fun r d a=>?_))
 cases r with
 | error e=>exact hx pins σ _ _ e d I2 a
 | ok fl=>
  cases fl with
  | ret u=>
   obtain ⟨v,i,I3,l,m,j⟩:=I2.after a;subst m;exact ⟨l,⟨V.ref (s.heap.objs.size+1),i,I3,rfl,j⟩⟩
  | next=>exact False.elim a
  | brk=>exact False.elim a
  | cont=>exact False.elim a
theorem JkX (M:Mk X.K C f) (F:FnOk X.prog X.w X.K X.mg X.base CX k f fd ps sp) (hr:Room (k+1) X.A) (hg:Gl X x) (hm:X.mg x=some (.ref C)) (hb:Binds X.K fd ps ds) (hd:Vals dvs ds) (hx:JbT CX X E)
  (ha:PA X (e::es) t) (hdb:(x == ("__debug__" : Str))=false:=by decide) (he:starEach (e::es) X.env=(false,eval e X.env)::starEach es X.env:=by rfl) (hpl:(backTo pos (starEach es X.env)).any (·.1)=false:=by rfl) :
  PE X (.Call (.Name x p) (e::es) [] pos) (tMake C sp dvs E t):=by
 intro a s σ H Q I h;refine wpAny_Call_Name_kw (Jck I hg hm ?_ hdb);refine W.callWith_K (h₀:=X.base) I.ok.mod.kin M.kp (thn (ha pos a s σ H _ I h) fun b c ζ=>?_) he hpl;obtain ⟨d,g,I1,r,q⟩:=ζ;refine ⟨I1.kIn,?_⟩;exact JgW M F hr hb hd hx I1 r q
theorem Jjl (M:Mk X.K C f) (F:FnOk X.prog X.w X.K X.mg X.base CX k f fd ps sp) (hr:Room (k+1) X.A) (hg:Gl X x) (hm:X.mg x=some (.ref C)) (hb:Binds X.K fd ps ds) (hd:Vals dvs ds) (hx:JbT CX X E)
  (hdb:(x == ("__debug__" : Str))=false:=by decide):PE X (.Call (.Name x p) [] [] pos) (tMake C sp dvs E tNil):=by
 intro a s σ H Q I h;refine wpAny_Call_Name_kw (Jck I hg hm ?_ hdb);exact W.callWith_K0 I.kIn M.kp (JgW (us:=[]) M F hr hb hd hx I .nil h)
end
section
variable {CX:CXT} {ks:List Str} {sp:Sp} {E:XK} {x:Str} {p apos kpos:Pos} {o:Expr} {kws:List Keyword} {tk:TA} {nm:Option Str} {k:Nat} {f:Addr} {m:Str} {t:TA} {gV:List V->List V->List V} {g:List Value->List Value->List Value}
end
structure Jan (N P:List Str) (sc:Scope):Prop where
 kind:sc.kind=.function
 co:sc.isCoroutine=false
 gen:sc.isGenerator=false
 nd:N.Nodup
 pre:N.take P.length=P
 par:∀ x∈P,sc.names.lookup x=some .local\/sc.names.lookup x=some .cell
 nofree:∀ y∈sc.names,y.2≠.free
variable {kindOf:Str->Option NameKind} {x:Str}
theorem Jfu:∀ {binds:List (Str × Value)} {m:Str->Option Value},(∀ v,(x,v)∉binds)->bindL kindOf binds m x=m x
 | [],_,_=>rfl
 | (n,v)::r,m,h=>by
  unfold bindL;rw [Jfu fun w hw=>h w (mem_cons_of_mem _ hw)];split
  ·have : x≠n:=by rintro rfl;exact h v mem_cons_self
   simp [this]
  ·rfl
theorem Jfs:∀ {binds:List (Str × Value)} {m:Str->Option Value},(∀ v,(x,v)∉binds)->bindC kindOf binds m x=m x
 | [],_,_=>rfl
 | (n,v)::r,m,h=>by
  unfold bindC;rw [Jfs fun w hw=>h w (mem_cons_of_mem _ hw)];split
  ·rfl
  ·have : x≠n:=by rintro rfl;exact h v mem_cons_self
   simp [this]
variable {v:Value}
theorem Jft:∀ {P:List Str} {vs:List Value} {i:Nat} {m:Str->Option Value},P.Nodup->P[i]?=some x->vs[i]?=some v->kindOf x=some .local ->
  bindL kindOf (P.zip vs) m x=some v
 | [],_,_,_,_,h,_,_=>by simp at h
 | _::_,[],_,_,_,_,h,_=>by simp at h
 | p::P,w::vs,0,m,nd,h1,h2,hk=>by
  simp at h1 h2;subst h1;subst h2;show bindL kindOf ((p,w)::P.zip vs) m p=_;unfold bindL;rw [Jfu fun v hv=>(nodup_cons.mp nd).1 (List.of_mem_zip hv).1,if_pos hk];simp
 | p::P,w::vs,i+1,m,nd,h1,h2,hk=>by
  show bindL kindOf ((p,w)::P.zip vs) m x=_;unfold bindL;exact Jft (i:=i) (nodup_cons.mp nd).2 (by simpa using h1) (by simpa using h2) hk
theorem Jfr:∀ {P:List Str} {vs:List Value} {i:Nat} {m:Str->Option Value},P.Nodup->P[i]?=some x->vs[i]?=some v->kindOf x≠some .local ->
  bindC kindOf (P.zip vs) m x=some v
 | [],_,_,_,_,h,_,_=>by simp at h
 | _::_,[],_,_,_,_,h,_=>by simp at h
 | p::P,w::vs,0,m,nd,h1,h2,hk=>by
  simp at h1 h2;subst h1;subst h2;show bindC kindOf ((p,w)::P.zip vs) m p=_;unfold bindC;rw [Jfs fun v hv=>(nodup_cons.mp nd).1 (List.of_mem_zip hv).1,if_neg hk];simp
 | p::P,w::vs,i+1,m,nd,h1,h2,hk=>by
  show bindC kindOf ((p,w)::P.zip vs) m x=_;unfold bindC;exact Jfr (i:=i) (nodup_cons.mp nd).2 (by simpa using h1) (by simpa using h2) hk
def start (N:List Str) (vs:List V):St:=vs.map some++List.replicate (N.length-vs.length) none
def cxOf (CX:CXT) (P:Program) (w:World) (K:W.Frag) (mg:Str->Option Value) (base:Heap) (N:List Str) (qual:Str) (scope:Scope) (f:Addr) (cd:Value) (A:Around) (outer:List Env) (s:Shared) (H:Hp) (E:XK):Cx where
 prog:=P
 w:=w
 K:=K
 mg:=mg
 base:=base
 A:=A.deeper (envOfC qual scope s.heap.objs.size f cd)
 N:=N
 s₀:=s
 H₀:=H
 env:=envOfC qual scope s.heap.objs.size f cd
 outer:=outer
 stack:=envOfC qual scope s.heap.objs.size f cd::outer
 ex:=[]
 calm:=true
 fn:=fun _=>true
 pn:=[]
 xe:=fun e s'=>wpAny (model P w) (A.deeper (envOfC qual scope s.heap.objs.size f cd)) (leaving (envOfC qual scope s.heap.objs.size f cd) e) (fun _ s''=>CX outer H s E e s'') (fun e' s''=>CX outer H s E e' s'') s'
theorem JgG {sc:Scope} (h:sc.names.lookup x=some .cell):∃ c,(cellsFrom n sc.names []).lookup x=some c:=by
 have q:=W.cellsFrom_some sc.names n [] (.inl h);exact Option.isSome_iff_exists.mp q
variable {CX:CXT} {qual:Str} {scope:Scope}
theorem JhV {w:World} {K:W.Frag} {N:List Str} {f:Addr} {cd:Value} {s s1:Shared} {E:XK} {vs:List V}
  (S:Jan N ps scope) (hd:A.handled=none) (e0:Env0 P w K mg base A outer s H) (hl:vs.length=ps.length) (r:Vals vs us)
  (x:InCallC s s.heap.objs.size (bindL (envOfC qual scope s.heap.objs.size f cd).kindOf (ps.zip us) fun _=>none) (cellsFrom (s.heap.objs.size+1) scope.names []) (bindC (envOfC qual scope s.heap.objs.size f cd).kindOf (ps.zip us) fun _=>none) s1) :
  Inv (cxOf CX P w K mg base N qual scope f cd A outer s H E) [] (start N vs) H s1:=by
 have F:ps.length<=N.length:=by have:=congrArg List.length S.pre;rw [length_take] at this;ac_nf
 obtain ⟨t,I,rfl,C⟩:=x.done;have j:∀ b:Addr,b∉(cxOf CX P w K mg base N qual scope f cd A outer s H E).ex:=fun b z=>absurd (show b∈([]:List Addr) from z) (by simp);refine ⟨⟨e0.mod,S.kind,rfl,rfl,Nat.le_refl _,fun y z c t d=>?_,fun y g=>?_,fun y c _ h=>?_,fun _=>hd,Around.frames_deeper e0.frames, .inr ⟨rfl,rfl⟩,fun b z=>absurd z (j b),e0.bs,e0.bsz,fun b _ _=>j b,fun b z=>absurd z (j b),e0.funs,e0.frf⟩,
  rfl,e0.bare,Un.kept C,⟨_,x.toInCall.ns,fun i y v t d J=>?_⟩,fun y c h=>⟨_,x.cell y c h⟩,e0.hok.fresh (Nat.le_refl _),fun y c h=>?_,fun p l=>absurd (show p∈([]:List (Addr × Obj)) from l) (by simp),e0.hok.kept C,?_⟩
 ·exact name_of_addr x.apart (PySem.mem_of_lookup t) (PySem.mem_of_lookup d)
 ·have g:scope.names.lookup y=some .cell\/scope.names.lookup y=some .free:=g;rcases g with g | g
  ·exact JgG g
  ·exact absurd rfl (S.nofree _ (PySem.mem_of_lookup g))
 ·exact Nat.le_of_lt (x.above y c (PySem.mem_of_lookup h))
 ·have o:i<vs.length:=by
   unfold start at d;by_cases o:i<vs.length
   ·exact o
   ·rw [List.getElem?_append_right (by simpa using o)] at d;rw [List.getElem?_replicate] at d;split at d <;> cases d
  have D:vs[i]?=some v:=by
   unfold start at d;rw [List.getElem?_append_left (by simpa using o),List.getElem?_map] at d;cases e:vs[i]? with
   | none=>rw [e] at d;cases d
   | some a=>rw [e] at d;cases d;rfl
  obtain ⟨u,B,G⟩:=r.get D;have l:ps[i]?=some y:=by
   rw [<- S.pre,List.getElem?_take_of_lt ∅];exact t
  have m:ps.Nodup:=by rw [<- S.pre];exact S.nd.sublist (List.take_sublist _ _)
  refine ⟨u,G,?_⟩;rcases S.par y (List.mem_of_getElem? l) with k | k
  ·exact .inl ⟨k,Jft m l B k⟩
  ·obtain ⟨c,e⟩:=JgG (n:=s.heap.objs.size+1) k;refine .inr ⟨.inl k,c,e,?_⟩;have q:=x.cell y c e;rw [Jfr m l B (by show scope.names.lookup y≠_;rw [k];decide)] at q;exact q
 ·exact e0.hok.fresh (Nat.le_of_lt (x.above y c (PySem.mem_of_lookup h)))
 ·unfold start;show _=N.length;rw [length_append,length_map,List.length_replicate];ac_nf
theorem fn_of {w:World} {K:W.Frag} {k:Nat} {f:Addr} {name:Str} {params:Arguments} {dV kV doc pm cdv ct oc:Value} {an od:Option Addr}
  {osl:Array (Option Value)} {N ps:List Str} {sp:Sp} (lk:K.lookup f=some ⟨oc,od, .func (W.fnOf name qual params body scope dV kV doc pm an cdv ct),osl⟩) (hcd:W.codeIn K cdv qual=true) (S:Jan N ps scope)
  (len:∀ vs H Q E,sp vs H Q E->vs.length=ps.length)
  (hbody:∀ (A:Around) (outer:List Env) (s:Shared) (H:Hp) (vs:List V) (Q:VK) (E:XK),Room k (A.deeper (envOfC qual scope s.heap.objs.size f cdv))->sp vs H Q E ->
   ∃ t,PSs (cxOf CX P w K mg base N qual scope f cdv A outer s H E) body t/\t { nx:=fun _ H'=>Q .non H',rt:=Q } (start N vs) H) :
  FnOk P w K mg base CX (k+1) f (W.fnOf name qual params body scope dV kV doc pm an cdv ct) ps sp:=by
 refine ⟨len,fun A outer s H z O vs Q E j h D r d=>?_⟩;have M:=len _ _ _ _ d;have KX:K.In s.heap:=h.mod.kin.keeps fun b o e=>(h.bs b o e).1;have l:s.heap.NoLimit:=h.mod.nolimit.keeps fun b o e=>(h.bs b o e).1;have a:∀ y∈ps.zip O,scope.names.lookup y.1=some .local\/(scope.names.lookup y.1=some .cell/\((cellsFrom (s.heap.objs.size+1) scope.names []).lookup y.1).isSome=true):=fun ⟨n,v⟩ C=>by
  rcases S.par n (List.of_mem_zip C).1 with q | q
  ·exact .inl q
  ·exact .inr ⟨q,W.cellsFrom_some _ _ _ (.inl q)⟩
 refine codeAny_call_function j.depth (KX _ _ lk) rfl S.co S.gen rfl (W.codeRec_of KX hcd) (D _ _ _ _ ?_);refine wpAny_newFunctionEnv_cells S.kind a fun G R p x=>?_;subst R;refine ⟨l.keeps x.toInCall.keep,codeAny_func ?_⟩;obtain ⟨t,F,L⟩:=hbody A outer s H vs Q E (j.deeper _) d;have I:Inv (cxOf CX P w K mg base N qual scope f cdv A outer s H E) [] (start N vs) H p:=JhV S j.hd h M r x;refine wpAny_mono (F [] p (start N vs) H _ I L) (fun B i c=>?_) fun e i c=>c;have g:∀ {σ':St} {H':Hp} {v:V} {u:Value},Inv (cxOf CX P w K mg base N qual scope f cdv A outer s H E) [] σ' H' i->RelV v u->Q v H'->CE outer P w H s Q u i :=
  fun {σ' H' v u} J m q=>⟨v,H',J.os,J.bare,J.base,J.hok,m,q⟩
 cases B with
 | ret u=>
  obtain ⟨v,σ',H',J,m,q⟩:=c;exact g J m q
 | next=>
  obtain ⟨σ',H',J,q⟩:=c;exact g (v:=V.non) (u:=Value.none) J rfl q
 | brk=>
  obtain ⟨_,_,_,q⟩:=c;exact False.elim q
 | cont=>
  obtain ⟨_,_,_,q⟩:=c;exact False.elim q
section
variable {p:Pos} {id T:String} {r:List V->Hp->VK->Prop} {t:TA}
def tCB (r:List V->Hp->VK->Prop) (t:TA):TE:=fun σ H Q=>t σ H fun vs H1=>r vs H1 Q
theorem Jau (hc:CallR X (.builtin id) r) (hg:Gl X x) (hm:X.mg x=none) (hv:bootBuiltins x=some (.builtin id)) (ha:PA X (e::es) t) (hn:x≠"__name__":=by decide) (hdb:(x == ("__debug__" : Str))=false:=by decide)
  (he:starEach (e::es) X.env=(false,eval e X.env)::starEach es X.env:=by rfl) (hpl:(backTo pos (starEach es X.env)).any (·.1)=false:=by rfl):PE X (.Call (.Name x p) (e::es) [] pos) (tCB r t):=by
 intro a s σ H Q I h;refine wpAny_Call_Name_kw (JeA I hg hm hv ?_ hn hdb);exact PyProof.Rows.callWith_builtin1 (thn (ha pos a s σ H _ I h) fun d f ζ=>by obtain ⟨g,i,I1,b,c⟩:=ζ;exact hc a f σ i g d Q I1 b c) he hpl
theorem Jd8 (hc:CallR X (.type T) r) (hg:Gl X x) (hm:X.mg x=none) (hv:bootBuiltins x=some (.type T)) (ha:PA X (e::es) t) (hn:x≠"__name__":=by decide) (hdb:(x == ("__debug__" : Str))=false:=by decide)
  (he:starEach (e::es) X.env=(false,eval e X.env)::starEach es X.env:=by rfl) (hpl:(backTo pos (starEach es X.env)).any (·.1)=false:=by rfl):PE X (.Call (.Name x p) (e::es) [] pos) (tCB r t):=by
 intro a s σ H Q I h;refine wpAny_Call_Name_kw (JeA I hg hm hv ?_ hn hdb);exact PyProof.Rows.callWith_type1 (thn (ha pos a s σ H _ I h) fun d f ζ=>by obtain ⟨g,i,I1,b,c⟩:=ζ;exact hc a f σ i g d Q I1 b c) he hpl
end
end L2
namespace HT
open PySem PyProof.Rows
section
open PySem.SeqAt
open PySem.AutoSeq1 (wpAny_loadPart')
open PySem.MeetsSeq PySem.MeetsSeq2 PySem.MeetsSeq3
end
section
variable {prog:Program} {A:Around} {E:Value->Shared->Prop} {w:World} {s:Shared}
theorem cat_tup {t b:Addr} {vs ws:List Value} {Q:Value->Shared->Prop} (ht:IsTup s.heap t vs.toArray) (hb:IsTup s.heap b ws.toArray) (hv:vs≠[])
  (h1:ws=[]->Q (.ref t) s) (h2:ws≠[]->Q (.ref s.heap.objs.size) { s with heap:=s.heap.push { cls:=.type "tuple",data:=.seq (vs++ws).toArray } })
  (hsz:vs.length+ws.length<=sizeLine):wpAny (model prog w) A (binaryOp .Add (.ref t) (.ref b)) Q E s:=by
 obtain ⟨⟨cls,l,data,q⟩,i,p,n,m⟩:=id ht;obtain ⟨⟨o,f,j,c⟩,a,g,k,d⟩:=id hb;simp only at p m g d;subst p m g d;have e:vs.toArray++ws.toArray=(vs++ws).toArray:=by simp
 by_cases h:ws=[]
 ·exact concat_meets ⟨_,i,rfl⟩ ⟨_,a,rfl⟩ noFill_tuple_add seq_tuple_add PySem.F.slot_tuple_add PySem.F.entry_tuple_add (PySem.F.args_tuple_add_2 _ _)
   (tuple_addW1 t b vs.toArray ws.toArray n k l f q c (by simpa using hv) (by simp [h])) ⟨i,a,h1 h⟩
 ·refine concat_meets ⟨_,i,rfl⟩ ⟨_,a,rfl⟩ noFill_tuple_add seq_tuple_add PySem.F.slot_tuple_add PySem.F.entry_tuple_add (PySem.F.args_tuple_add_2 _ _)
   (tuple_addW2 t b vs.toArray ws.toArray n k l f q c (by simpa using hv) (by simpa using h) (by rw [size_toArray,size_toArray];exact hsz)) ⟨i,a,?_⟩
  rw [e];exact h2 h
def sIx (n d:Nat):Option Int->Nat
 | none=>d
 | some v=>if v<0 then (v+(n:Int)).toNat else min v.toNat n
theorem Jl3 (n d:Nat) (hd:d<=n) (o:Option Int):sIx n d o<=n:=by
 cases o with
 | none=>exact hd
 | some v=>
  show (if v<0 then (v+(n:Int)).toNat else min v.toNat n)<=n;by_cases a:v<0
  ·rw [if_pos a];ac_nf
  ·rw [if_neg a];exact Nat.min_le_right _ _
theorem JhC (v:Int) (n d:Nat):(if v<0 then max (v+(n:Int)) 0 else min v (n:Int))=((sIx n d (some v):Nat):Int):=by
 show (if v<0 then max (v+(n:Int)) 0 else min v (n:Int))=(((if v<0 then (v+(n:Int)).toNat else min v.toNat n):Nat):Int);by_cases a:v<0
 ·simp only [if_pos a];ac_nf
 ·simp only [if_neg a];ac_nf
theorem Jg5 (lo hi:Option Int) (n:Nat):Builtin.Slice.sliceAdjust lo hi 1 (n:Int)=(((sIx n 0 lo:Nat):Int),((sIx n n hi:Nat):Int)):=by
 have a:¬ ((1:Int)<0):=by ac_nf
 unfold Builtin.Slice.sliceAdjust;simp only [a,if_false];refine Prod.ext ?_ ?_
 ·cases lo with
  | none=>rfl
  | some v=>exact JhC v n 0
 ·cases hi with
  | none=>rfl
  | some v=>exact JhC v n n
theorem Jhn (i j:Nat):Builtin.Slice.slicePlaces (i:Int) (j:Int) 1=j-i:=by
 unfold Builtin.Slice.slicePlaces;have a:(1:Int) > 0:=by ac_nf
 simp only [a,if_true,Int.ediv_one];split <;> ac_nf
theorem JeG {v:Value} {o:Option Int} {Q:Option Int->Shared->Prop} (p:IsPart v o) (h:Q o s):wpAny (model prog w) A (Builtin.Slice.slicePartIndex v) Q E s:=by
 cases p with
 | none=>exact slicePart_none h
 | int i t=>exact slicePart_int h
variable {sl:Addr} {vu:Value} {hi:Option Int}
theorem JdG {vl:Value} {lo:Option Int} {n:Nat} {Q:Int × Int × Nat->Shared->Prop} (hs:s.heap.IsSliceOf sl vl vu .none) (pl:IsPart vl lo) (pu:IsPart vu hi)
  (h:Q (((sIx n 0 lo:Nat):Int),1,sIx n n hi-sIx n 0 lo) s):wpAny (model prog w) A (Builtin.Slice.sliceApplied (.ref sl) (pure (n:Int))) Q E s:=by
 obtain ⟨d,b,c,a⟩:=id hs;unfold Builtin.Slice.sliceApplied Builtin.Slice.sliceFields;refine wpAny_bind (wpAny_bind (wpAny_field b a (x:=vl) rfl (wpAny_bind (wpAny_field b a (x:=vu) rfl (wpAny_bind (wpAny_field b a (x:=.none) rfl (wpAny_pure ?_)))))));refine wpAny_bind (slicePart_none ?_);show wpAny _ _ (if ((1:Int) == 0)=true then _ else _) _ _ s;rw [if_neg ⋯];refine wpAny_bind (JeG pl (wpAny_bind (JeG pu (wpAny_bind (wpAny_pure ?_)))));show wpAny _ _ (match Builtin.Slice.sliceAdjust lo hi 1 (n:Int) with | (lo,hi)=>pure (lo,(1:Int),Builtin.Slice.slicePlaces lo hi 1)) _ _ s;rw [Jg5 lo hi n];show wpAny _ _ (pure (((sIx n 0 lo:Nat):Int),(1:Int),Builtin.Slice.slicePlaces ((sIx n 0 lo:Nat):Int) ((sIx n n hi:Nat):Int) 1)) _ _ s;rw [Jhn];exact wpAny_pure h
theorem Jjo (xs:Array Value) (i k:Nat):((List.range k).filterMap fun (m:Nat)=>xs[((i:Int)+(m:Int)*1).toNat]?).toArray=((xs.toList.drop i).take k).toArray:=by
 have e:(fun (m:Nat)=>xs[((i:Int)+(m:Int)*1).toNat]?)=fun m=>xs[i+m]?:=by
  funext m
  have : ((i:Int)+(m:Int)*1).toNat=i+m:=by ac_nf
  rw [this]
 rw [e];have:=pick_run xs i k;rw [List.filterMap_map] at this;have a:((fun x=>xs[x]?) ∘ fun x=>i+x)=fun m=>xs[i+m]?:=rfl;rw [a] at this;rw [this]
theorem getItem_tuple_cut {t:Addr} {items:Array Value} {vl:Value} {lo:Option Int} {Q:Value->Shared->Prop} (ht:IsTup s.heap t items) (hs:s.heap.IsSliceOf sl vl vu .none) (pl:IsPart vl lo) (pu:IsPart vu hi)
  (hw:¬ (sIx items.size 0 lo=0/\sIx items.size items.size hi=items.size))
  (h:Q (.ref s.heap.objs.size) { s with heap:=s.heap.push { cls:=.type "tuple",data:=.seq ((items.toList.drop (sIx items.size 0 lo)).take (sIx items.size items.size hi-sIx items.size 0 lo)).toArray } })
  (hsz:items.size<=sizeLine):wpAny (model prog w) A (getItem (.ref t) (.ref sl)) Q E s:=by
 have a:sizeOk (.seq ((items.toList.drop (sIx items.size 0 lo)).take (sIx items.size items.size hi-sIx items.size 0 lo)).toArray):=by
  show ((items.toList.drop (sIx items.size 0 lo)).take (sIx items.size items.size hi-sIx items.size 0 lo)).toArray.size<=sizeLine;rw [size_toArray,length_take,List.length_drop,Array.length_toList];ac_nf
 have k:sIx items.size items.size hi<=items.size:=Jl3 _ _ (Nat.le_refl _) hi;obtain ⟨g,c,b,f⟩:=id hs;have d:s.TypeIs (.ref sl) "slice":=⟨g,c,b⟩;unfold getItem;try with_reducible refine wpAny_holding ?_
 first | refine wpAny_bind (wpAny_pure ?_) | skip
 refine wpAny_bind (wpAny_sequenceKey ht.typeIs ⋯ ?_);refine wpAny_bind (wpAny_callSpecial?_slot (name:=Str.ofString "__getitem__") ht.typeIs PyProof.Rows.slot_tuple_getitem
  (wpAny_call_entry PyProof.Rows.slot_tuple_getitem ht.typeIs entry_tuple_getitem ?_ (args_tuple_getitem _ _)))
 show wpAny _ _ (Builtin.Tuple.tupleItemsOf (.ref t) >>= _) _ _ s;refine wpAny_bind (tupleItemsOf_ ht ?_);refine wpAny_bind (wpAny_typeOf d ?_);rw [if_pos ⋯];refine wpAny_bind (JdG hs pl pu ?_);have e:¬ ((((sIx items.size 0 lo:Nat):Int) == 0&&(1:Int) == 1&&(sIx items.size items.size hi-sIx items.size 0 lo) == items.size)=true):=by
  intro q;rw [Bool.and_eq_true,Bool.and_eq_true] at q;have i:((sIx items.size 0 lo:Nat):Int)=0:=eq_of_beq q.1.1;have j:sIx items.size items.size hi-sIx items.size 0 lo=items.size:=eq_of_beq q.2;exact hw ⟨by ac_nf,by ac_nf⟩
 show wpAny _ _ (if (((sIx items.size 0 lo:Nat):Int) == 0&&(1:Int) == 1&&(sIx items.size items.size hi-sIx items.size 0 lo) == items.size)=true then _ else _) _ _ s;rw [if_neg e,Jjo];first
  | exact wpAny_bind (m:=Builtin.Tuple.tupleExact _) (wpAny_newObj_type (wpAny_pure ⟨_,rfl,wpAny_pure h⟩) a)
  | exact wpAny_bind (m:=Builtin.Tuple.tupleExact _) (wpAny_newObj_type (wpAny_bind (wpAny_pure (wpAny_pure ⟨_,rfl,wpAny_pure h⟩))) a)
  | exact wpAny_bind (wpAny_bind (m:=Builtin.Tuple.tupleExact _) (wpAny_newObj_type (wpAny_pure (wpAny_pure ⟨_,rfl,wpAny_pure h⟩)) a))
  | exact wpAny_bind (wpAny_bind (m:=Builtin.Tuple.tupleExact _) (wpAny_newObj_type (wpAny_pure ⟨_,rfl,wpAny_pure h⟩) a))
end
end HT
namespace L2
open PySem PySem.Spec PyProof.Rows
abbrev TO:=St->Hp->(Option Int->Hp->Prop)->Prop
def PO (X:Cx) (e:Option Expr) (t:TO):Prop :=
 ∀ (pins:List (Addr × Obj)) (s:Shared) (σ : St) (H:Hp) (Q:Option Int->Hp->Prop),Inv X pins σ H s->t σ H Q ->
  wpAny (model X.prog X.w) X.A (evalPart e X.env) (fun u s'=>∃ o H',Inv X pins σ H' s'/\IsPart u o/\Q o H') X.xe s
def JiI:TO:=fun _ H Q=>Q none H
def tPart (t:TE):TO:=fun σ H Q=>t σ H fun x H1=>∃ i,x=.int i/\Q (some i) H1
section
variable {X:Cx} {e:Expr} {te:TE} {hi:Option Expr} {tl th:TO} {pos p2:Pos} {lo:Option Expr}
theorem Jin:PO X none JiI:=by
 intro a s σ H Q I h;rw [evalPart_none];exact wpAny_pure ⟨none,H,I, .none,h⟩
theorem Jio (h:PE X e te):PO X (some e) (tPart te):=by
 intro a s σ H Q I d;rw [evalPart_some];refine thn (h a s σ H _ I d) fun u g ζ=>?_;obtain ⟨x,f,I1,b,c⟩:=ζ;obtain ⟨i,rfl,q⟩:=c;obtain ⟨t,rfl⟩:=b;exact ⟨some i,f,I1, .int i t,q⟩
def SlR (X:Cx) (r:V->Option Int->Option Int->Hp->VK->Prop):Prop :=
 ∀ (pins:List (Addr × Obj)) (s:Shared) (σ : St) (H:Hp) (x:V) (v vl vu:Value) (lo hi:Option Int) (sl:Addr) (Q:VK),Inv X pins σ H s->RelV x v->s.heap.IsSliceOf sl vl vu .none->IsPart vl lo->IsPart vu hi->r x lo hi H Q ->
  ∃ T id,typeLookup (.type T) "__getitem__"=pure (some (.builtin id))/\s.TypeIs v T/\wpAny (model X.prog X.w) X.A (getItem v (.ref sl)) (EP X pins σ Q) X.xe s
variable {r:V->Option Int->Option Int->Hp->VK->Prop}
theorem SlR.or {r':V->Option Int->Option Int->Hp->VK->Prop} (h:SlR X r) (h':SlR X r'):SlR X (fun x lo hi H Q=>r x lo hi H Q\/r' x lo hi H Q):=by
 intro a s σ H x v vl b lo hi g Q I f d e c q;rcases q with q | q
 ·exact h a s σ H x v vl b lo hi g Q I f d e c q
 ·exact h' a s σ H x v vl b lo hi g Q I f d e c q
def tSl (r:V->Option Int->Option Int->Hp->VK->Prop) (te:TE) (tl th:TO):TE:=fun σ H Q=>te σ H fun x H1=>tl σ H1 fun l H2=>th σ H2 fun u H3=>r x l u H3 Q
theorem JgT (hr:SlR X r) (he:PE X e te) (hl:PO X lo tl) (hu:PO X hi th):PE X (.Subscript e (.Slice lo hi none p2) pos) (tSl r te tl th):=by
 intro a s σ H Q I h;refine Subscript_ (thn (he a s σ H _ I h) fun v p ζ=>?_);obtain ⟨x,m,I1,n,t⟩:=ζ;refine wpAny_Slice (thn (hl a p σ m _ I1 t) fun vl o ζ=>?_);obtain ⟨l,j,I2,C,y⟩:=ζ;refine thn (hu a o σ j _ I2 y) fun d c ζ=>?_;obtain ⟨u,f,I3,g,B⟩:=ζ;rw [evalPart_none];refine wpAny_pure ?_;have I4:Inv X a σ f { c with heap:=c.heap.push { cls:=.type "slice",data:=.fields #[vl,d, .none] } }:=I3.kept (t':=c.toks) fun b D q=>Heap.get?_push_of_some _ q;obtain ⟨T,id,z,k,i⟩:=hr a { c with heap:=c.heap.push { cls:=.type "slice",data:=.fields #[vl,d, .none] } } σ f x v vl d l u c.heap.objs.size Q I4 n (Heap.IsSliceOf.new ..) C g B;show wpAny (model X.prog X.w) X.A (subscriptTail e (.Slice lo hi none p2) v (.ref c.heap.objs.size)) (EP X a σ Q) X.xe { c with heap:=c.heap.push { cls:=.type "slice",data:=.fields #[vl,d, .none] } };exact tail_any (ops:=[.ref c.heap.objs.size,v]) k z i (by with_unfolding_all rfl)
def cutV (xs:List V) (lo hi:Option Int):List V:=(xs.drop (HT.sIx xs.length 0 lo)).take (HT.sIx xs.length xs.length hi-HT.sIx xs.length 0 lo)
theorem JdN (xs:List V) (lo hi:Option Int):(cutV xs lo hi).length<=xs.length:=by
 unfold cutV;rw [length_take,List.length_drop];ac_nf
def rSlT (K:W.Frag):V->Option Int->Option Int->Hp->VK->Prop:=fun x lo hi H Q=>∃ a xs,x=.ref a/\SqT K H a xs /\
 ¬ (HT.sIx xs.length 0 lo=0/\HT.sIx xs.length xs.length hi=xs.length)/\∀ p,H p=none->Q (.ref p) (upd H p (.tup (cutV xs lo hi)))
theorem Jl6:SlR X (rSlT X.K):=by
 intro i s σ H x v vl y e g w Q I t p u m h;obtain ⟨a,d,rfl,n,l,q⟩:=h;cases t;obtain ⟨f,r,k,j⟩:=I.tuple n;have c:f.toArray.size=d.length:=by rw [size_toArray];exact r.length.symm
 refine ⟨"tuple",_,PyProof.Rows.slot_tuple_getitem.lookup,k.typeIs,?_⟩;refine HT.getItem_tuple_cut k p u m (by rw [c];exact l) ?_ (by rw [c];exact j);rw [c];refine ⟨.ref s.heap.objs.size,_,I.laid (t':=s.toks) (o:=.tup (cutV d e g)) (fun b z q=>Heap.get?_push_of_some _ q) (Nat.le_refl _) ?_,rfl,q _ (I.hok.fresh (Nat.le_refl _))⟩;exact ⟨Nat.le_trans (JdN d e g) j,_,(r.drop (HT.sIx d.length 0 e)).take (HT.sIx d.length d.length g-HT.sIx d.length 0 e),IsTup.new _ _⟩
def rCatT (K:W.Frag):R2:=fun x y H Q=>∃ a b xs ys,x=.ref a/\y=.ref b/\SqT K H a xs/\SqT K H b ys/\xs≠[]/\xs.length+ys.length<=sizeLine /\
 (ys=[]->Q (.ref a) H)/\(ys≠[]->∀ p,H p=none->Q (.ref p) (upd H p (.tup (xs++ys))))
variable {xs:List V} {us:List Value}
theorem Vals.nil_iff (r:Vals xs us):us=[]↔xs=[]:=by
 cases r with
 | nil=>simp
 | cons _ _=>simp
theorem JkM:OpR X (binaryOp .Add) (rCatT X.K):=by
 intro e s σ H x y v u Q I t A h;obtain ⟨a,b,j,m,rfl,rfl,i,k,n,f,p,r⟩:=h;cases t;cases A;obtain ⟨C,d,l,_⟩:=I.tuple i;obtain ⟨g,c,B,_⟩:=I.tuple k;refine HT.cat_tup l B (fun z=>n (d.nil_iff.mp z)) (fun z=>⟨.ref a,H,I,rfl,p (c.nil_iff.mp z)⟩) (fun z=>?_) (by rw [<- d.length, <- c.length];exact f);refine ⟨.ref s.heap.objs.size,_,I.laid (t':=s.toks) (o:=.tup (j++m)) (fun b D q=>Heap.get?_push_of_some _ q) (Nat.le_refl _) ?_,rfl,r (fun w=>z (c.nil_iff.mpr w)) _ (I.hok.fresh (Nat.le_refl _))⟩;exact ⟨by rw [length_append];exact f,_,d.append c,IsTup.new _ _⟩
end
def ixN (n:Nat) (i:Int):Option Nat:=if 0<=i then (if i<n then some i.toNat else none) else if -(n:Int)<=i then some (i+n).toNat else none
variable {α:Type}
def atI (xs:List α) (i:Int):Option α:=(ixN xs.length i).bind fun j=>xs[j]?
variable {n j:Nat}
theorem Jkv {i:Int} (h:ixN n i=some j):seqIndex? i n=some j/\j<n/\-(n:Int)<=i/\i<n:=by
 unfold ixN at h;by_cases b:0<=i
 ·rw [if_pos b] at h;by_cases a:i<n
  ·rw [if_pos a] at h;have e:i.toNat=j:=Option.some.inj h;exact ⟨by rw [seqIndex_of b a,e],by ac_nf,by ac_nf,a⟩
  ·rw [if_neg a] at h;cases h
 ·rw [if_neg b] at h;by_cases a : -(n:Int)<=i
  ·rw [if_pos a] at h;have e:(i+n).toNat=j:=Option.some.inj h;exact ⟨by rw [seqIndex_neg ∅ a,e],by ac_nf,a,by ac_nf⟩
  ·rw [if_neg a] at h;cases h
theorem Jf4 {xs:List α} {i:Int} {v : α} (h:atI xs i=some v):∃ j,seqIndex? i xs.length=some j/\xs[j]?=some v/\j<xs.length/\-(xs.length:Int)<=i/\i<xs.length:=by
 unfold atI at h;cases e:ixN xs.length i with
 | none=>rw [e] at h;cases h
 | some j=>
  rw [e] at h;obtain ⟨d,a,b,c⟩:=Jkv e;exact ⟨j,d,h,a,b,c⟩
theorem Jb6 {xs:List α} {v : α} (h:xs[j]?=some v):atI xs (j:Int)=some v:=by
 have a:j<xs.length:=(List.getElem?_eq_some_iff.mp h).1;have e:ixN xs.length (j:Int)=some j:=by
  unfold ixN;rw [if_pos ∅,if_pos ∅];simp
 unfold atI;rw [e];exact h
def Jke (b:Expr):Prop:=∀ o i,subscripted b false o i=operate [o,i] (getItem o i)
def IxR (X:Cx) (r:R2):Prop :=
 ∀ (value slice:Expr) (pins:List (Addr × Obj)) (s:Shared) (σ : St) (H:Hp) (x y:V) (v u:Value) (Q:VK),Inv X pins σ H s->RelV x v->RelV y u->r x y H Q ->
  subscripted slice false v u=operate [v,u] (getItem v u)->wpAny (model X.prog X.w) X.A (subscriptTail value slice v u) (EP X pins σ Q) X.xe s
def MtR (X:Cx) (id:String) (r:V->List V->Hp->VK->Prop):Prop :=
 ∀ (pins:List (Addr × Obj)) (s:Shared) (σ : St) (H:Hp) (x:V) (xs:List V) (v:Value) (us:List Value) (Q:VK),Inv X pins σ H s->RelV x v->Vals xs us->r x xs H Q ->
  wpAny (model X.prog X.w) X.A (call (.builtin id) (v::us)) (EP X pins σ Q) X.xe s
section
variable {X:Cx} {a b:Expr} {ta tb:TE} {pos:Pos}
theorem pe_ix {r:R2} (hr:IxR X r) (ha:PE X a ta) (hb:PE X b tb) (hs:Jke b:=by exact fun _ _=>rfl):PE X (.Subscript a b pos) (tOp r ta tb):=by
 intro c s σ H Q I h;exact Subscript_ (binT ha hb I h fun v u d x y e I2 f g q=>hr a b c d σ e x y v u Q I2 f g q (hs _ _))
def rIxL (K:W.Frag):R2:=fun x y H Q=>∃ p xs i v,x=.ref p/\y=.int i/\SqL K H p xs/\atI xs i=some v/\Q v H
def rIxT (K:W.Frag):R2:=fun x y H Q=>∃ p xs i v,x=.ref p/\y=.int i/\SqT K H p xs/\atI xs i=some v/\Q v H
def rIxS:R2:=fun x y H Q=>∃ z i c,x=.str z/\y=.int i/\z.length<=sizeLine/\atI z.cps.toList i=some c/\Q (.str ⟨#[c]⟩) H
theorem Jkw:IxR X (rIxL X.K):=by
 intro k d a s σ H x y v u Q I E F h n;obtain ⟨p,O,i,z,rfl,rfl,C,L,q⟩:=h;cases E;obtain ⟨t,rfl⟩:=F;obtain ⟨e,r,l,M⟩:=I.list C;obtain ⟨j,c,B,P,G,D⟩:=Jf4 L;obtain ⟨w,o,g⟩:=r.get B;have J:=r.length;have N:=JeB;have b:EP X a σ Q w s:=⟨z,H,I,g,q⟩;by_cases m:0<=i
 ·have f:i.toNat=j:=by
   rw [seqIndex_of m D] at c;exact Option.some.inj c
  exact item_listR l.isList m ∅ (by rw [f];simpa using o) b n
 ·have f:(i+(e.toArray.size:Int)).toNat=j:=by
   rw [seqIndex_neg ∅ G] at c;rw [size_toArray, <- J];exact Option.some.inj c
  exact subscriptTail_builtinR (x:=w) l.isList.typeIs slot_list_getitem.lookup
   (wpAny_getItem_list_neg (Q:=fun r A=>r=w/\EP X a σ Q r A) l.isList ∅ (by rw [size_toArray] <;> ac_nf) ∅ (by rw [f];simpa using o) ⟨rfl,b⟩) n
theorem JlD:IxR X (rIxT X.K):=by
 intro e b a s σ H x y v u Q I A B h n;obtain ⟨p,J,i,z,rfl,rfl,o,E,q⟩:=h;cases A;obtain ⟨t,rfl⟩:=B;obtain ⟨k,r,f,F⟩:=I.tuple o;obtain ⟨j,m,l,N,M,L⟩:=Jf4 E;obtain ⟨w,D,d⟩:=r.get l;have C:=r.length;have G:=JeB;have c:EP X a σ Q w s:=⟨z,H,I,d,q⟩;exact subscriptTail_builtinR (x:=w) f.typeIs slot_tuple_getitem.lookup
  (getItem_tuple (j:=j) (Q:=fun r g=>r=w/\EP X a σ Q r g) f ∅ ∅ (by rw [size_toArray, <- C];exact m) (by simpa using D) ⟨rfl,c⟩) n
theorem JlC:IxR X rIxS:=by
 intro b a d s σ H x y v u Q I m n h k;obtain ⟨z,i,c,rfl,rfl,A,w,q⟩:=h;obtain ⟨t,rfl⟩:=m;obtain ⟨C,rfl⟩:=n;obtain ⟨j,e,g,D,p,l⟩:=Jf4 w;have r:z.cps.toList.length=z.length:=by simp [Str.length]
 rw [r] at e p l;have B:=JeB;exact tail_any (typeIs_str s z t) slot_str_getitem.lookup (getItem_str (c:=c) (by
  have o:decide (i < -(2 ^ 63:Int))=false:=decide_eq_false ∅;have f:decide (i ≥ 2 ^ 63)=false:=decide_eq_false ∅;rw [o,f,Bool.or_false]) (by rw [e];simpa using g) ⟨.str ⟨#[c]⟩,H,I.tok _,⟨_,rfl⟩,q⟩) k
theorem JfW (lo hi:Option Int) (n:Nat):(sliceBounds lo hi none n).1=((HT.sIx n 0 lo:Nat):Int)/\(sliceBounds lo hi none n).2.1=((HT.sIx n n hi:Nat):Int)/\(sliceBounds lo hi none n).2.2=1:=by
 refine ⟨?_,?_,rfl⟩
 ·cases lo with
  | none=>simp [sliceBounds,HT.sIx]
  | some i=>
   simp only [sliceBounds,HT.sIx,Option.getD_none,show (1:Int) > 0 by decide,if_true];by_cases h:i<0
   ·simp only [h,if_true] <;> ac_nf
   ·simp only [h,if_false] <;> ac_nf
 ·cases hi with
  | none=>simp [sliceBounds,HT.sIx]
  | some i=>
   simp only [sliceBounds,HT.sIx,Option.getD_none,show (1:Int) > 0 by decide,if_true];by_cases h:i<0
   ·simp only [h,if_true] <;> ac_nf
   ·simp only [h,if_false] <;> ac_nf
theorem Jfh (its:List Value) (lo hi:Option Int):slicePick its.toArray lo hi none=((its.drop (HT.sIx its.length 0 lo)).take (HT.sIx its.length its.length hi-HT.sIx its.length 0 lo)).toArray:=by
 obtain ⟨c,a,b⟩:=JfW lo hi its.toArray.size;unfold slicePick;rw [c,a,b];simp only [sliceRange_one,pick_run,size_toArray] <;> rfl
def rSlL (K:W.Frag):V->Option Int->Option Int->Hp->VK->Prop:=fun x lo hi H Q=>∃ a xs,x=.ref a/\SqL K H a xs/\∀ p,H p=none->Q (.ref p) (upd H p (.lst (cutV xs lo hi)))
theorem Jlc:SlR X (rSlL X.K):=by
 intro g s σ H x v vl w e f u Q I p n t l h;obtain ⟨a,c,rfl,m,q⟩:=h;cases p;obtain ⟨k,r,i,j⟩:=I.list m;have d:=r.length;refine ⟨"list",_,slot_list_getitem.lookup,i.isList.typeIs,?_⟩;refine wpAny_getItem_list_slice i.isList n t l .none (by simp) ?_ (by rw [size_toArray] <;> ac_nf);rw [Jfh, <- d];refine ⟨.ref s.heap.objs.size,_,I.laid (t':=s.toks) (o:=.lst (cutV c e f)) (fun b y q=>Heap.get?_push_of_some _ q) (Nat.le_refl _) ?_,rfl,q _ (I.hok.fresh (Nat.le_refl _))⟩;exact ⟨Nat.le_trans (JdN c e f) j,_,0,(r.drop (HT.sIx c.length 0 e)).take (HT.sIx c.length c.length f-HT.sIx c.length 0 e),Heap.get?_push_size _ rfl⟩
def flatV:V->Bool
 | .non=>true
 | .bl _=>true
 | .int _=>true
 | .str _=>true
 | _=>false
def eqV:V->V->Bool
 | .non, .non=>true
 | .bl a, .bl b=>a == b
 | .bl a, .int b=>(if a then 1 else 0) == b
 | .int a, .bl b=>a == (if b then 1 else 0)
 | .int a, .int b=>a == b
 | .str a, .str b=>a == b
 | _,_=>false
variable {A:Around} {y x:V} {u v:Value}
theorem JjL {s:Shared} (ry:RelV y u) (rx:RelV x v) (fy:flatV y=true) (fx:flatV x=true):SeqAt.EqAt A s u v (eqV y x):=by
 cases y with
 | non=>
  cases ry;cases x with
  | non=>cases rx;exact SeqAt.EqAt.same _
  | bl b=>cases rx;exact SeqAt.EqAt.none_bool b
  | int b=>obtain ⟨t,rfl⟩:=rx;exact SeqAt.EqAt.none_int b t
  | str b=>obtain ⟨t,rfl⟩:=rx;exact SeqAt.EqAt.none_str b t
  | _=>exact absurd (show false=true from fx) Bool.false_ne_true
 | bl a=>
  cases ry;cases x with
  | non=>cases rx;exact SeqAt.EqAt.bool_none a
  | bl b=>cases rx;exact SeqAt.EqAt.bool_bool a b
  | int b=>obtain ⟨t,rfl⟩:=rx;exact SeqAt.EqAt.bool_int a b t
  | str b=>obtain ⟨t,rfl⟩:=rx;exact SeqAt.EqAt.bool_str a b t
  | _=>exact absurd (show false=true from fx) Bool.false_ne_true
 | int a=>
  obtain ⟨c,rfl⟩:=ry;cases x with
  | non=>cases rx;exact SeqAt.EqAt.int_none a c
  | bl b=>cases rx;exact SeqAt.EqAt.int_bool a c b
  | int b=>obtain ⟨t,rfl⟩:=rx;exact SeqAt.EqAt.int_int a c b t
  | str b=>obtain ⟨t,rfl⟩:=rx;exact SeqAt.EqAt.int_str a c b t
  | _=>exact absurd (show false=true from fx) Bool.false_ne_true
 | str a=>
  obtain ⟨c,rfl⟩:=ry;cases x with
  | non=>cases rx;exact SeqAt.EqAt.str_none a c
  | bl b=>cases rx;exact SeqAt.EqAt.str_bool a c b
  | int b=>obtain ⟨t,rfl⟩:=rx;exact SeqAt.EqAt.str_int a c b t
  | str b=>obtain ⟨t,rfl⟩:=rx;exact SeqAt.EqAt.str_str a c b t
  | _=>exact absurd (show false=true from fx) Bool.false_ne_true
 | _=>exact absurd (show false=true from fy) Bool.false_ne_true
def eqU (x:V) (u:Value):Bool:=match u with
 | .none=>eqV .non x
 | .bool b=>eqV (.bl b) x
 | .int i _=>eqV (.int i) x
 | .str z _=>eqV (.str z) x
 | _=>false
theorem JjM (r:RelV y u) (f:flatV y=true):eqU x u=eqV y x:=by
 cases y with
 | non=>cases r;rfl
 | bl b=>cases r;rfl
 | int i=>obtain ⟨t,rfl⟩:=r;rfl
 | str z=>obtain ⟨t,rfl⟩:=r;rfl
 | _=>exact absurd (show false=true from f) Bool.false_ne_true
theorem Jf3:∀ {xs:List V} {us:List Value},Vals xs us->xs.all flatV=true->us.any (eqU x)=xs.any fun y=>eqV y x
 | _,_, .nil,_=>rfl
 | y::xs,u::us, .cons r t,f=>by
  rw [List.all_cons,Bool.and_eq_true] at f;rw [any_cons,any_cons,JjM r f.1,Jf3 t f.2]
theorem JeV {s:Shared} (rx:RelV x v) (fx:flatV x=true):∀ {xs:List V} {us:List Value},Vals xs us->xs.all flatV=true->∀ u∈us,SeqAt.EqAt A s u v (eqU x u)
 | _,_, .nil,_=>fun u hu=>by cases hu
 | y::xs,u::us, .cons r t,f=>fun u' hu=>by
  rw [List.all_cons,Bool.and_eq_true] at f;rcases mem_cons.mp hu with rfl | hu
  ·rw [JjM r f.1];exact JjL r rx f.1 fx
  ·exact JeV rx fx t f.2 u' hu
def inV (x:V) (xs:List V):Bool:=xs.any fun y=>eqV y x
def rIn (K:W.Frag) (neg:Bool):R2:=fun x y H Q=>∃ p xs,y=.ref p/\(SqL K H p xs\/SqT K H p xs)/\flatV x=true/\xs.all flatV=true/\Q (.bl (if neg then !inV x xs else inV x xs)) H
theorem Jia:OpR X (compareOp .In) (rIn X.K false):=by
 intro f s σ H x y v u Q I i k h;obtain ⟨p,l,rfl,b,g,c,q⟩:=h;cases k;rcases b with b | b
 ·obtain ⟨a,r,e,j⟩:=I.list b;refine SeqAt.in_listAt (eqU x) e.isList (fun w d=>JeV i g r c w (by simpa using d)) ⟨.bl _,H,I,rfl,?_⟩;rw [show a.toArray.any (eqU x)=a.any (eqU x) by simp,Jf3 r c];exact q
 ·obtain ⟨a,r,e,j⟩:=I.tuple b;refine SeqAt.in_tupleAt (eqU x) e (fun w d=>JeV i g r c w (by simpa using d)) ⟨.bl _,H,I,rfl,?_⟩;rw [show a.toArray.any (eqU x)=a.any (eqU x) by simp,Jf3 r c];exact q
theorem Jfw:CallR X (.builtin "len") (fun xs H Q=>∃ p ys,xs=[.ref p]/\(SqL X.K H p ys\/SqT X.K H p ys)/\Q (.int ys.length) H):=by
 intro f s σ H xs k Q I r h;obtain ⟨p,ys,rfl,b,q⟩:=h;obtain ⟨u,rfl,i⟩:=vals1 r;cases i;have j:=JeB;rcases b with b | b
 ·obtain ⟨d,c,e,g⟩:=I.list b;have a:=c.length;exact Calls.call_len_list e.isList (by simp only [size_toArray] <;> ac_nf) ⟨.int ys.length,H,I.tok _,⟨s.toks+1,by rw [size_toArray,a]⟩,q⟩
 ·obtain ⟨d,c,e,g⟩:=I.tuple b;have a:=c.length;exact len_tuple e (by simp only [size_toArray] <;> ac_nf) ⟨.int ys.length,H,I.tok _,⟨s.toks+1,by rw [size_toArray,a]⟩,q⟩
theorem Jfx:CallR X (.builtin "len") (fun xs H Q=>∃ z,xs=[.str z]/\z.length<=sizeLine/\Q (.int z.length) H):=by
 intro a s σ H xs b Q I r h;obtain ⟨z,rfl,c,q⟩:=h;obtain ⟨u,rfl,t,rfl⟩:=vals1 r;have d:=JeB;exact len_str ∅ ⟨.int z.length,H,I.tok _,⟨_,rfl⟩,q⟩
theorem Jfy:CallR X (.type "list") (fun xs H Q=>∃ p ys,xs=[.ref p]/\(SqL X.K H p ys\/SqT X.K H p ys)/\∀ l,H l=none->Q (.ref l) (upd H l (.lst ys))):=by
 intro g s σ H xs B Q I r h;obtain ⟨p,ys,rfl,t,q⟩:=h;obtain ⟨u,rfl,A⟩:=vals1 r;cases A;have k:∀ (a:List Value),Vals ys a->ys.length<=sizeLine->∀ (c:Heap) (d:Nat),(∀ b o',s.heap.get? b=some o'->c.get? b=some o') ->
   c.get? s.heap.objs.size=some { cls:=.type "list",dict:=none,data:=.seq a.toArray d,slots:=#[] }->EP X g σ Q (.ref s.heap.objs.size) { s with heap:=c }:=fun a f i c d m e=>
  ⟨.ref s.heap.objs.size,_,I.laid (t':=s.toks) m (Nat.le_refl _) (show ObjOk X.prog X.w _ c _ (.lst ys) from ⟨i,a,d,f,e⟩),rfl,q _ (I.hok.fresh (Nat.le_refl _))⟩
 rcases t with t | t
 ·obtain ⟨a,f,z,i⟩:=I.list t;have j:=f.length;obtain ⟨o,v,x,n,y⟩:=z.isList;exact call_list_seq p (.inl rfl) v x y (fun c d m e=>k a f i c d m e) (by simp only [size_toArray] <;> ac_nf)
 ·obtain ⟨a,f,z,i⟩:=I.tuple t;have j:=f.length;obtain ⟨o,v,x,n,y⟩:=z;exact call_list_seq p (.inr rfl) v x y (fun c d m e=>k a f i c d m e) (by simp only [size_toArray] <;> ac_nf)
def tyV (K:W.Frag) (T:String) (x:V) (H:Hp):Prop:=match x with
 | .str _=>T="str"
 | .int _=>T="int"
 | .ref p=>(T="list"/\∃ xs,SqL K H p xs)\/(T="tuple"/\∃ o,K.lookup p=some o/\o.cls=.type "tuple"/\o.dict=none) \/
   (T="dict"/\((∃ kvs,H p=some (.dK kvs))\/∃ kvs,H p=some (.dT kvs)))\/(T="set"/\∃ S n,H p=some (.set S n))
 | _=>False
variable {pins:List (Addr × Obj)} {σ:St} {H:Hp} {T:String}
theorem Jj8 {s:Shared} (I:Inv X pins σ H s) (r:RelV x v) (ty:tyV X.K T x H) :
  s.TypeIs v T/\∀ a,v=.ref a->∃ ob,s.heap.get? a=some ob/\ob.dict=none:=by
 cases x with
 | str z=>
  obtain ⟨t,rfl⟩:=r;cases (show T="str" from ty);exact ⟨typeIs_str s z t,fun _ e=>nomatch e⟩
 | int i=>
  obtain ⟨t,rfl⟩:=r;cases (show T="int" from ty);exact ⟨typeIs_int s i t,fun _ e=>nomatch e⟩
 | ref p=>
  cases r;rcases ty with ⟨rfl,xs,hq⟩ | ⟨rfl,o,hk,hc,f⟩ | ⟨rfl,hk⟩ | ⟨rfl,S,n,hk⟩
  ·obtain ⟨h,_,g,_⟩:=I.list hq;refine ⟨g.isList.typeIs,fun a e=>?_⟩;cases e;obtain ⟨o,n,e,c,f,_⟩:=g;exact ⟨o,e,f⟩
  ·refine ⟨⟨o,I.kIn p o hk,hc⟩,fun a e=>?_⟩;cases e;exact ⟨o,I.kIn _ o hk,f⟩
  ·have z:∃ o,s.heap.get? p=some o/\o.ExactDict:=by
    rcases hk with ⟨kvs,hk⟩ | ⟨kvs,hk⟩
    ·obtain ⟨_,_,_,_,o,_,_,e,b,_⟩:=I.hok p _ hk;exact ⟨o,e,b⟩
    ·obtain ⟨_,_,_,_,o,_,_,e,b,_⟩:=I.hok p _ hk;exact ⟨o,e,b⟩
   obtain ⟨o,e,b⟩:=z;refine ⟨⟨o,e,b.1⟩,fun a d=>?_⟩;cases d;exact ⟨o,e,b.2.1⟩
  ·obtain ⟨o,_,_,_,e,b,_⟩:=I.hok p _ hk;refine ⟨⟨o,e,b.1⟩,fun a d=>?_⟩;cases d;exact ⟨o,e,b.2.1⟩
 | _=>exact False.elim ty
def tBM0 (K:W.Frag) (T:String) (r:V->List V->Hp->VK->Prop) (to:TE):TE:=fun σ H Q=>to σ H fun x H1=>tyV K T x H1/\r x [] H1 Q
def tBM (K:W.Frag) (T:String) (r:V->List V->Hp->VK->Prop) (to:TE) (t:TA):TE:=fun σ H Q=>to σ H fun x H1=>tyV K T x H1/\t σ H1 fun xs H2=>r x xs H2 Q
variable {o e:Expr} {es:List Expr} {to:TE} {name:Str} {apos cpos:Pos} {id:String} {r:V->List V->Hp->VK->Prop} {t:TA}
theorem JlV (pa:PlainAttrs T) (slot:Slot T name id) (hty:typeOf (.builtin id)=pure (.type "method_descriptor")) (hm:MtR X id r) (ho:PE X o to)
  (hbase:attributeBase o name X.env (eval o X.env)=eval o X.env:=by rfl) (hline:(apos.endLine == cpos.line)=true:=by rfl):PE X (.Call (.Attribute o name apos) [] [] cpos) (tBM0 X.K T r to):=by
 intro a s σ H Q I h;refine wpAny_Call_method0_late hbase hline (thn (ho a s σ H _ I h) fun v e ζ=>?_);obtain ⟨x,i,I1,b,f,c⟩:=ζ;obtain ⟨d,g⟩:=Jj8 I1 b f;exact ⟨T,id,pa,slot,hty,d,g,Calls.callWith_builtin rfl (PySem.evalArgs_none (hm a e σ i x [] v [] Q I1 b .nil c))⟩
theorem pe_bm (pa:PlainAttrs T) (slot:Slot T name id) (hty:typeOf (.builtin id)=pure (.type "method_descriptor")) (hm:MtR X id r) (ho:PE X o to) (ha:PA X (e::es) t)
  (hbase:attributeBase o name X.env (eval o X.env)=eval o X.env:=by rfl)
  (hfew:((backTo cpos (starEach (e::es) X.env)).all (fun x=>!x.1)&&(backToKw cpos (keywordEach [] X.env)).all (fun x=>x.1.isSome)
   && decide ((e::es).length+([]:List Keyword).length+(if ([]:List Keyword).isEmpty then 0 else 1)<30))=true:=by rfl)
  (hline:(apos.endLine == cpos.line)=true:=by rfl) (hs:starEach (e::es) X.env=(false,eval e X.env)::starEach es X.env:=by rfl) (hplain:(backTo cpos (starEach es X.env)).any (·.1)=false:=by rfl) :
  PE X (.Call (.Attribute o name apos) (e::es) [] cpos) (tBM X.K T r to t):=by
 intro a s σ H Q I h;refine wpAny_Call_method_late hbase hfew hline rfl (thn (ho a s σ H _ I h) fun v k ζ=>?_);obtain ⟨x,j,I1,b,d,m⟩:=ζ;obtain ⟨p,i⟩:=Jj8 I1 b d;refine ⟨T,id,pa,slot,hty,p,i,?_⟩;have c:=ha cpos a k σ j _ I1 m;rw [hs] at c ⊢;refine Calls.callWith_builtin (by show (false||(backTo cpos (starEach es X.env)).any (·.1))=false;rw [hplain] <;> rfl) (Calls.evalArgs_plain ?_);exact thn c fun u l ζ=>by obtain ⟨g,f,I2,n,q⟩:=ζ;exact hm a l σ f x g v u Q I2 b n q
end
def MtM (X:Cx) (id:String) (r:V->List V->Hp->VK->Prop):Prop :=
 ∀ (pins:List (Addr × Obj)) (s:Shared) (σ : St) (H:Hp) (x:V) (xs:List V) (v:Value) (us:List Value) (Q:VK),Inv X pins σ H s->RelV x v->Vals xs us->r x xs H Q ->
  wpAny (model X.prog X.w) X.A (call (.builtin id) (v::us)) (EP X pins σ Q) X.xe s
theorem Vals.one:∀ {x:V} {us:List Value},Vals [x] us->∃ u,us=[u]/\RelV x u
 | _,_, .cons r .nil=>⟨_,rfl,r⟩
theorem Vals.zero:∀ {us:List Value},Vals [] us->us=[]
 | _, .nil=>rfl
variable {xs:List V}
theorem Vals.dropLast {us:List Value} (h:Vals xs us):Vals xs.dropLast us.dropLast:=by
 induction h with
 | nil=>exact .nil
 | cons r t ih=>
  cases t with
  | nil=>exact .nil
  | cons q t'=>exact .cons r ih
theorem Jha (l:List α):l.eraseIdx (l.length-1)=l.dropLast:=by
 induction l with
 | nil=>rfl
 | cons a r ih=>
  cases r with
  | nil=>rfl
  | cons b r=>
   have e:(a::b::r).length-1=((b::r).length-1)+1:=by
    have c:(a::b::r).length=r.length+2:=rfl;have d:(b::r).length=r.length+1:=rfl;ac_nf
   rw [e,List.eraseIdx_cons_succ,ih];all_goals rfl
section
variable {X:Cx} {pins:List (Addr × Obj)} {σ:St} {H:Hp} {l b:Addr} {ys zs:List V} {s:Shared} {its:List Value} {t':Nat}
theorem Inv.lset {its':List Value} {f:Array Value->Array Value} (I:Inv X pins σ H s) (hH:H l=some (.lst xs))
  (e:s.heap.get? l=some { cls:=.type "list",data:=.seq its.toArray n }) (hf:f its.toArray=its'.toArray) (hv:Vals ys its') (hz:ys.length<=sizeLine) :
  Inv X pins σ (upd H l (.lst ys)) { s with heap:=s.heap.update l (Obj.mapSeq f),toks:=t' }:=by
 have q:=PySem.IsL.update e f;rw [hf] at q;refine I.write (x:=l) (e:=l) (by rw [hH];exact trivial) (.inl rfl) (fun c u a b=>(Heap.get?_update_other s.heap (Obj.mapSeq f) (Ne.symm a)).trans b) ⟨_,q⟩ ?_;exact ⟨hz,its',_,hv,q⟩
theorem Inv.lnew (I:Inv X pins σ H s) (hv:Vals ys its) (hz:ys.length<=sizeLine) :
  Inv X pins σ (upd H s.heap.objs.size (.lst ys)) { s with heap:=s.heap.push { cls:=.type "list",data:=.seq its.toArray },toks:=t' } :=
 I.laid (fun _ _ q=>Heap.get?_push_of_some _ q) (Nat.le_refl _) ⟨hz,its,0,hv,Heap.get?_push_size _ rfl⟩
theorem Inv.fresh (I:Inv X pins σ H s):H s.heap.objs.size=none:=I.hok.fresh (Nat.le_refl _)
theorem Inv.lstM (I:Inv X pins σ H s) (hH:H l=some (.lst xs)):xs.length<=sizeLine/\∃ (its:List Value) (n:Nat),Vals xs its/\xs.length=its.length/\s.heap.get? l=some { cls:=.type "list",data:=.seq its.toArray n }:=by
 obtain ⟨z,its,n,r,e⟩:=I.hok l _ hH;exact ⟨z,its,n,r,r.length,e⟩
theorem Jja (h:n<=sizeLine):Builtin.List.listTooLong n=false:=by
 unfold Builtin.List.listTooLong;exact decide_eq_false ∅
end
variable {X:Cx}
def Jk3:V->List V->Hp->VK->Prop:=fun x vs H Q=>∃ l xs y,x=.ref l/\vs=[y]/\H l=some (.lst xs)/\xs.length<sizeLine/\Q .non (upd H l (.lst (xs++[y])))
theorem Ja3:MtM X "list.append" Jk3:=by
 intro b s σ H x k v m Q I f g h;obtain ⟨l,j,y,rfl,rfl,c,i,q⟩:=h;cases f;obtain ⟨u,rfl,d⟩:=g.one;obtain ⟨z,a,n,r,o,e⟩:=I.lstM c;refine call_meets F.slot_list_append ⟨_,e,rfl⟩ F.entry_list_append (F.args_list_append_2 _ _) (PySem.list_append l a.toArray n u (by rw [size_toArray];ac_nf)) ⟨e,?_⟩;refine ⟨.non,_,I.lset (its':=a++[u]) c e (by simp) (r.append (.cons d .nil)) ?_,rfl,q⟩;rw [length_append,length_singleton];ac_nf
def Jk4:V->List V->Hp->VK->Prop:=fun x vs H Q=>∃ l b xs zs,x=.ref l/\vs=[.ref b]/\H l=some (.lst xs)/\H b=some (.lst zs)/\xs.length+zs.length<=sizeLine/\Q .non (upd H l (.lst (xs++zs)))
theorem JfH:MtM X "list.extend" Jk4:=by
 intro g s σ H x E v G Q I w y h;obtain ⟨l,b,D,C,rfl,rfl,i,o,B,q⟩:=h;cases w;obtain ⟨u,rfl,j⟩:=y.one;cases j;obtain ⟨z,c,n,r,J,e⟩:=I.lstM i;obtain ⟨A,a,p,t,k,m⟩:=I.lstM o;have f:c.toArray.size+a.toArray.size<=sizeLine:=by rw [size_toArray,size_toArray];ac_nf
 have d:¬ (!c.toArray.isEmpty&&Builtin.List.listTooLong (c.toArray.size+a.toArray.size))=true:=by
  rw [Jja f,Bool.and_false];exact Bool.false_ne_true
 refine call_meets F.slot_list_extend ⟨_,e,rfl⟩ F.entry_list_extend (F.args_list_extend_2 _ _)
  (AutoSeq1.list_extend_list_list_0 l c.toArray n b a.toArray p d (by rw [size_toArray];ac_nf) ∅) ⟨e,m,?_⟩
 refine ⟨.non,_,I.lset (its':=c++a) i e (by simp) (r.append t) ?_,rfl,q⟩;rw [length_append];ac_nf
def rPop:V->List V->Hp->VK->Prop:=fun x vs H Q=>∃ l xs y,x=.ref l/\vs=[]/\H l=some (.lst xs)/\xs[xs.length-1]?=some y/\Q y (upd H l (.lst xs.dropLast))
theorem JlN:MtM X "list.pop" rPop:=by
 intro d s σ H x t v w Q I k m h;obtain ⟨l,p,y,rfl,rfl,f,j,q⟩:=h;cases k;have b:=m.zero;subst b;obtain ⟨z,a,n,r,o,e⟩:=I.lstM f;obtain ⟨u,i,g⟩:=r.get j;have c:a.toArray[a.toArray.size-1]?=some u:=by
  show a.toArray[a.length-1]?=some u;rw [<- Array.getElem?_toList, <- o];exact i
 refine call_meets F.slot_list_pop ⟨_,e,rfl⟩ F.entry_list_pop (F.args_list_pop_1 _) (MeetsSeq.list_pop_last l a.toArray n u c (by rw [size_toArray];ac_nf)) ⟨e,?_⟩;refine ⟨y,_,I.lset (its':=a.dropLast) f e ?_ r.dropLast ?_,g,q⟩
 ·show a.toArray.eraseIdxIfInBounds (a.toArray.size-1)=a.dropLast.toArray;rw [size_toArray,List.eraseIdxIfInBounds_toArray,Jha]
 ·rw [List.length_dropLast];ac_nf
def rCat:R2:=fun x y H Q=>∃ l b xs zs,x=.ref l/\y=.ref b/\H l=some (.lst xs)/\H b=some (.lst zs)/\xs.length+zs.length<=sizeLine/\∀ p,H p=none->Q (.ref p) (upd H p (.lst (xs++zs)))
theorem JlQ:OpR X (binaryOp .Add) rCat:=by
 intro d s σ H x y v u Q I o p h;obtain ⟨l,b,B,A,rfl,rfl,g,j,w,q⟩:=h;cases o;cases p;obtain ⟨z,c,n,r,D,e⟩:=I.lstM g;obtain ⟨t,a,C,k,f,i⟩:=I.lstM j;refine PySem.P.add_list e i ?_ (by rw [size_toArray,size_toArray];ac_nf);have m:c.toArray++a.toArray=(c++a).toArray:=by simp
 rw [m];exact ⟨.ref _,_,I.lnew (t':=s.toks) (r.append k) (by rw [length_append];ac_nf),rfl,q _ I.fresh⟩
section
variable {prog:Program} {A:Around} {E:Value->Shared->Prop} {w:World} {s:Shared}
end
end L2
namespace Att
open PySem PySem.W PySem.Calls PyProof.Rows
theorem JdQ {P:Params} {h:Heap}:∀ (ns:List Int) (vs:List Value),WellAll P h vs (ns.map WData.int)->IntsAre vs ns:=by
 intro ns;induction ns with
 | nil=>
  intro vs w;rw [map_nil] at w;cases w;exact .nil
 | cons n ns ih=>
  intro vs w;rw [map_cons] at w;cases w with
  | cons a b=>
   cases a;exact .cons _ _ (ih _ b)
variable {l:OpenLaw} {n:Nat}
theorem JiA (hn:l.most=some n) {P:Params} {h:Heap} {args:List WData} {vals:List Value}
  (hpre:l.row.toRowW.claim.pre args=true) (hwl:WellAll P h vals args) :
  ∃ a vs ns,vals=[Value.ref a]/\args=[WData.list (ns.map WData.int)]/\h.get? a=some { cls:=.type "list",data:=.seq vs.toArray }/\IntsAre vs ns/\ns.length<=n:=by
 have f:WShape.hasAll [] args [.list .int]=true:=(pre_splitW hpre).1;have g:l.pre.holds [] { args:=args }=true:=(pre_splitW hpre).2;obtain ⟨d,r,rfl,i,k⟩:=hasAllW_cons f;obtain rfl:=hasAllW_nil k;obtain ⟨o,rfl,m⟩:=hasW_list i;obtain ⟨ns,rfl⟩:=items_int m;have b:ns.length<=n:=by
  unfold OpenLaw.pre at g;have c:(WTm.not (.lt (.lit (.int (n:Int))) (.len (.arg 0)))).holds [] { args:=[.list (ns.map .int)] }=true:=by
   have c:=(holds_andW g).1;rw [hn] at c;exact c
  have e:=condW_of c (w_not (w_lt w_lit (w_len_list (w_arg rfl))));rw [length_map] at e;refine Nat.le_of_not_lt fun q=>?_;have j:(n:Int)<((ns.length:Nat):Int):=by ac_nf
  first
   | (rw [decide_eq_true j] at e;exact absurd e ⋯)
   | (simp at e;ac_nf)
 cases hwl with
 | cons w1 w2=>
  cases w2;cases w1 with
  | list ho hall=>exact ⟨_,_,ns,rfl,rfl,ho,JdQ ns _ hall,b⟩
theorem Jip (l:OpenLaw) (args:List WData):l.row.toRowW.claim.post args (.bool true) args=true :=
 postW_of (r:=l.row.toRowW) (X:=(true == true))
  (show WShape.has [] (.bool true) .bool=true by first | rfl | decide | simp [WShape.has,WShape.arms,WShape.armsAll])
  (show (WTm.eq .res (.lit (.bool true))).value [] { args:=args,res:=some (.bool true),after:=args }=some (.bool (true == true)) from w_eq_bool (w_res rfl) w_lit) rfl
theorem attach_call {q:Program} {loose:List Str} {XP:(Str->Option Value)->Heap->Prop} {YP:World->Heap->Prop} {d:DefRec}
  (hn:l.most=some n) (hdf:d.params.defaults=[])
  (call:∀ (w:World) (s₀ s₁ : Shared) (mg mb:Str->Option Value) (fa:Addr) (o:Obj) (pm cd doc:Value) (a:Addr) (vs:List Value) (ns:List Int),
   Ground q loose [] XP w s₀ mg mb s₁.heap->YP w s₁.heap ->
   s₁.heap.get? fa=some o->o.data=.func (docDef d.name d.params d.body d.scope pm cd doc)->s₁.heap.CodeRec cd d.name->mg d.name=some (.ref fa) ->
   s₁.heap.get? a=some { cls:=.type "list",data:=.seq vs.toArray }->IntsAre vs ns->ns.length<=n->s₁.gens=#[] ->
   codeAny (model l.prog w) callerA (.call (.ref fa) ⟨[.ref a],[]⟩) (fun r s'=>r=.ok (.ret (.bool true))/\OldK s₁.heap s'.heap/\s'.os=s₁.os/\AllBare s'.gens) s₁) :
  WalkO q loose XP YP l.row.toRowW d [] (fun f vs=>PySem.call f vs):=by
 intro w s₀ s₁ mg mb G Y fa o pm cd doc u kV v E j k h x t m H g p A i D;obtain rfl:u=.none:=Dflts.none k hdf;obtain rfl:kV=.none:=Dflts.noKw k;obtain ⟨a,vs,ns,rfl,rfl,e,b,c⟩:=JiA hn g i;refine enter_call (codeAny_mono (call w s₀ s₁ mg mb fa o pm cd doc a vs ns G Y v (fd_plain E) j h e b c x) fun r s' z=>?_);obtain ⟨rfl,y,F,C⟩:=z;exact ⟨.inl ⟨.bool true, .bool true,[],rfl,fun _=>rfl, .bool true,Jip l _,fun _=>⟨List.Pairwise.nil,fun _ B=>(nomatch B)⟩⟩,y,F,C⟩
section
variable {prog:Program} {A:Around} {E:Value->Shared->Prop} {K:Frag} {w:World} {s:Shared}
end
end Att
namespace L2
open PySem PySem.Spec PyProof.Rows
theorem Jf1:∀ {vs:List Value} {ns:List Int},IntsAre vs ns->Vals (ns.map V.int) vs
 | _,_, .nil=>.nil
 | _,_, .cons n t h=>.cons ⟨t,rfl⟩ (Jf1 h)
def Only (H:Hp):Prop:=∀ b,H b=none\/∃ o xs,H b=some (.frz o (.lst xs))
variable {P:Program} {mg:Str->Option Value} {a:Addr} {fd:FuncData} {x:Str}
theorem Ji7 {w:World} {K:W.Frag} {mb:Str->Option Value} {CX:CXT} {k:Nat} {fa:Addr} {sp:Sp} {s₁:Shared} {vs:List Value} {ns:List Int}
  (KX:K.In s₁.heap) (hns:s₁.heap.Ns mainGlobals mg) (hb:s₁.heap.Ns builtinsNs mb) (hbb:∀ x:Str,x≠"__name__"->mb x=bootBuiltins x) (hlim:s₁.heap.NoLimit) (hg:s₁.gens=#[])
  (ha:s₁.heap.get? a=some { cls:=.type "list",data:=.seq vs.toArray }) (hi:IntsAre vs ns) (hl:ns.length<=sizeLine) (hr:Room k callerA)
  (F:∀ base:Heap,K.In base->base.Ns mainGlobals mg->FnOk P w K mg base CX k fa fd [x] sp) (hbind:∀ (s:Shared) (u:Value),BindsTo s fd ⟨[u],[]⟩ [(x,u)])
  (hsp:∀ H:Hp,Only H->SqL K H a (ns.map V.int)->sp [.ref a] H (fun v _=>v=.bl true) fun _ _ _=>False)
  (hCX:∀ H e s',CX [] H s₁ (fun _ _ _=>False) e s'->False) :
  codeAny (model P w) callerA (.call (.ref fa) ⟨[.ref a],[]⟩) (fun r s'=>r=.ok (.ret (.bool true))/\OldK s₁.heap s'.heap/\s'.os=s₁.os/\AllBare s'.gens) s₁:=by
 have G:=Jf1 hi;have t:=hi.length;have g:∀ H:Hp,Only H->SqL K H a (ns.map V.int)->HOk P w H s₁.heap->(∀ b,H b≠none->b=a)->(H a≠none->K.lookup a=none) ->
   codeAny (model P w) callerA (.call (.ref fa) ⟨[.ref a],[]⟩) (fun r s'=>r=.ok (.ret (.bool true))/\OldK s₁.heap s'.heap/\s'.os=s₁.os/\AllBare s'.gens) s₁:=by
  intro H D R p E L;have c:∀ {b:Addr} {o:Obj},s₁.heap.get? b=some o->H b=none->(hidT s₁.heap H).get? b=some o:=fun e n=>Ji6 e n;have A:∀ {b:Addr} {o:Obj} {es:Array DictEntry} {ep:Nat},s₁.heap.get? b=some o->o.data=.dict es ep->H b=none:=fun {b o es ep} e d=>by
   cases q:H b with
   | none=>rfl
   | some u=>
    have B:b=a:=E b (by rw [q];simp);subst B;rw [ha] at e;cases e;have O:Data.seq vs.toArray _=Data.dict es ep:=d;cases O
  have f:∀ {b:Addr} {m:Str->Option Value},s₁.heap.Ns b m->(hidT s₁.heap H).Ns b m:=fun {b m} ⟨o,es,ep,e,d,r⟩=>⟨o,es,ep,c e (A e d),d,r⟩;have j:K.In (hidT s₁.heap H):=fun b o e=>c (KX b o e) (by
   cases q:H b with
   | none=>rfl
   | some u=>
    have B:b=a:=E b (by rw [q];simp);subst B;rw [L (by rw [q];simp)] at e;cases e)
  have Q:Mod K mg (hidT s₁.heap H):=⟨j,f hns,⟨mb,f hb,hbb⟩,let ⟨mc,h1,h2⟩:=hlim;⟨mc,f h1,h2⟩⟩;have M:Env0 P w K mg (hidT s₁.heap H) callerA [] s₁ H:=⟨rfl,Q,fun b o e=>JkI e,Nat.le_of_eq (JhU _ _),trivial,fun b hb=>absurd (show b∈([]:List Addr) from hb) (by simp),p, .of_eq hg⟩;refine codeAny_mono ((F _ j (f hns)).run callerA [] s₁ H ⟨[.ref a],[]⟩ [.ref a] [.ref a] _ _ hr M (hbind s₁ (.ref a)) (.cons rfl .nil) (hsp H D R)) fun r s' h=>?_;cases r with
  | error e=>exact (hCX H e s' h).elim
  | ok fl=>
   cases fl with
   | next=>exact False.elim h
   | brk=>exact False.elim h
   | cont=>exact False.elim h
   | ret u=>
    obtain ⟨v,U,os,y,C,i,S,q⟩:=h;have T:v=.bl true:=q;subst T;obtain rfl:u=Value.bool true:=S;refine ⟨rfl,OldK.of_keep fun b o e=>?_,os,y⟩;cases q:H b with
    | none=>exact C.keep b o e q (by intro z;exact absurd (show b∈([]:List Addr) from z) (by simp)) (by simp)
    | some u=>
     rcases D b with z | ⟨ob,xs,z⟩
     ·rw [q] at z;cases z
     ·have J:=C.frzs b ob _ z;obtain ⟨I,_⟩:=p b _ z;obtain ⟨N,_⟩:=i b _ J;rw [e] at I;cases I;exact N
 cases hk:K.lookup a with
 | some o=>
  have e:=KX a o hk;rw [ha] at e;cases e;refine g (fun _=>none) (fun _=>.inl rfl) (.inr ⟨_,vs.toArray,_,hk,rfl,rfl,rfl,by rw [size_toArray,t];exact hl,by simpa using G⟩) (fun b u z=>by have l:(none:Option HO)=some u:=z;cases l) (fun b z=>absurd rfl z) fun z=>absurd rfl z
 | none=>
  refine g (fun b=>if b=a then some (.frz { cls:=.type "list",data:=.seq vs.toArray } (.lst (ns.map V.int))) else none) (fun b=>?_) (.inl (.inr ⟨{ cls:=.type "list",data:=.seq vs.toArray },if_pos rfl⟩)) (fun b u z=>?_) (fun b z=>?_) fun _=>hk
  ·by_cases hb:b=a
   ·exact .inr ⟨_,_,if_pos hb⟩
   ·exact .inl (if_neg hb)
  ·by_cases hb:b=a
   ·have l:=(if_pos hb).symm.trans z;cases l;subst hb;exact ⟨ha,by rw [length_map];exact hl,vs,_,G,ha⟩
   ·have l:=(if_neg hb).symm.trans z;cases l
  ·by_cases hb:b=a
   ·exact hb
   ·exact absurd (if_neg hb) z
abbrev KOf {K:W.Frag} {h:Heap} (_:K.In h):W.Frag:=K
theorem JiT {l:W.OpenLaw} {n k:Nat} {q:Program} {loose:List Str} {XP:(Str->Option Value)->Heap->Prop} {YP:World->Heap->Prop} {d:DefRec} {K:Params->W.Frag} {CX:World->CXT} {sp:World->Sp}
  (hn:l.most=some n) (hn2:n<=sizeLine) (hdf:d.params.defaults=[]) (hr:Room k callerA)
  (hY:∀ (w:World) (h:Heap),YP w h->(K w.params).In h)
  (F:∀ (w:World) (mg:Str->Option Value) (fa:Addr) (h:Heap),(K w.params).In h->h.Ns mainGlobals mg->mg d.name=some (.ref fa) ->
   ∃ fd:FuncData,(∀ (s:Shared) (u:Value),BindsTo s fd ⟨[u],[]⟩ [(x,u)]) /\
    ∀ base:Heap,(K w.params).In base->base.Ns mainGlobals mg->FnOk l.prog w (K w.params) mg base (CX w) k fa fd [x] (sp w))
  (hsp:∀ (w:World) (H:Hp) (a:Addr) (ns:List Int),ns.length<=n->Only H->SqL (K w.params) H a (ns.map V.int)->sp w [.ref a] H (fun v _=>v=.bl true) fun _ _ _=>False)
  (hCX:∀ (w:World) (H:Hp) (s:Shared) (e:Value) (s':Shared),CX w [] H s (fun _ _ _=>False) e s'->False) :
  W.WalkO q loose XP YP l.row.toRowW d [] (fun f vs=>PySem.call f vs):=by
 refine Att.attach_call hn hdf fun w s₀ s₁ mg C fa o I E z a vs ns G Y D J B m j i c y=>?_;have KX:=hY w _ Y;obtain ⟨fd,t,p⟩:=F w mg fa _ KX G.T.g m;exact Ji7 KX G.T.g G.T.b G.T.builtins G.T.nolimit y j i (Nat.le_trans c hn2) hr p t (fun H r A=>hsp w H a ns c r A) fun H e s'=>hCX w H s₁ e s'
def inClass (s:Stmt) (j:Nat):Stmt:=match s with
 | .ClassDef _ _ _ body _ _ _ _ _ _ _=>body.getD j (.Pass ⟨0,0,0,0⟩)
 | _=>.Pass ⟨0,0,0,0⟩
def Jam (s:Stmt):Arguments:=match s with
 | .FunctionDef _ a _ _ _ _ _ _ _ _=>a
 | _=>{ posonlyargs:=[],args:=[],vararg:=none,kwonlyargs:=[],kw_defaults:=[],kwarg:=none,defaults:=[] }
def Jal (s:Stmt):List Stmt:=match s with
 | .FunctionDef _ _ b _ _ _ _ _ _ _=>b
 | _=>[]
def Jae (s:Stmt):Scope:=match s with
 | .FunctionDef _ _ _ _ _ _ sc _ _ _=>sc
 | _=>{ kind:=.function,names:=[],isGenerator:=false,isCoroutine:=false }
abbrev E0:XK:=fun _ _ _=>False
structure Fun (K:W.Frag) (x qual:Str) (st:Stmt) (f:Addr) (fd:FuncData):Prop where
 ex:∃ (oc:Value) (od:Option Addr) (kV doc pm:Value) (an:Option Addr) (cdv ct:Value) (osl:Array (Option Value)),
  fd=W.fnOf x qual (Jam st) (Jal st) (Jae st) .none kV doc pm an cdv ct/\K.lookup f=some ⟨oc,od, .func fd,osl⟩/\W.codeIn K cdv qual=true
 kp:W.keepIn K (.ref f)=true
section
variable {base:Heap} {w:World} {K:W.Frag}
theorem Fun.binds {qual:Str} {st:Stmt} {f:Addr} {ps:List Str} (F:Fun K x qual st f fd)
  (h:∀ (kV doc pm:Value) (an:Option Addr) (cdv ct:Value) (us:List Value),us.length=ps.length->bindArgs (W.fnOf x qual (Jam st) (Jal st) (Jae st) .none kV doc pm an cdv ct) ⟨us,[]⟩=pure (ps.zip us)):Binds K fd ps []:=by
 obtain ⟨d,c,kV,doc,pm,an,cdv,ct,b,rfl,e,a⟩:=F.ex;exact .all (h kV doc pm an cdv ct)
end
variable {X:Cx}
theorem pv (i:Nat) {x:Str} {pos:Pos} (hN:X.N[i]?=some x:=by rfl) (hv:Vis X.env.scope x:=by first | exact Or.inl rfl | exact Or.inr (Or.inl rfl) | exact Or.inr (Or.inr rfl)) (hd:(x == ("__debug__" : Str))=false:=by decide)
  (hcd:(x == ("__classdict__" : Str))=false:=by decide):PE X (.Name x pos) (tVar i):=JlX hN hv hd hcd
def Same (H H':Hp):Prop:=∀ b o,H b=some o->H' b=some o
theorem Same.refl (H:Hp):Same H H:=fun _ _ h=>h
variable {H:Hp}
theorem Same.trans {H1 H2:Hp} (a:Same H H1) (b:Same H1 H2):Same H H2:=fun c o h=>b c o (a c o h)
theorem Same.seq {K:W.Frag} {H':Hp} {xs:List V} (e:Same H H') (h:SqL K H a xs):SqL K H' a xs:=by
 rcases h with (h | ⟨o,h⟩) | h
 ·exact .inl (.inl (e _ _ h))
 ·exact .inl (.inr ⟨o,e _ _ h⟩)
 ·exact .inr h
end L2
set_option maxHeartbeats 4000000
namespace L2
open PySem PySem.Spec PyProof.Rows
section
variable {κ:Type} [DecidableEq κ]
def valV (kvs:List (κ × V)) (k : κ):Option V:=(kvs.find? fun kv=>decide (kv.1=k)).map (·.2)
def putK (kvs:List (κ × V)) (k : κ) (v:V):List (κ × V) :=
 if (kvs.any fun kv=>decide (kv.1=k))=true then kvs.map (fun kv=>if kv.1=k then (kv.1,v) else kv) else kvs++[(k,v)]
theorem Jbe {p : κ × V} {r:List (κ × V)} {k : κ} (e:p.1=k):valV (p::r) k=some p.2:=by simp [valV,List.find?_cons,e]
theorem Jbi {p : κ × V} {r:List (κ × V)} {k : κ} (e:¬ p.1=k):valV (p::r) k=valV r k:=by simp [valV,List.find?_cons,e]
theorem Jcy (k : κ):∀ kvs:List (κ × V),(kvs.any fun kv=>decide (kv.1=k))=(valV kvs k).isSome
 | []=>rfl
 | p::r=>by
  rw [any_cons];by_cases e:p.1=k
  ·simp only [Jbe e,decide_eq_true e,Bool.true_or,Option.isSome_some]
  ·rw [Jbi e,decide_eq_false e,Bool.false_or];exact Jcy k r
theorem Jg0 (k j : κ) (y:V):∀ kvs:List (κ × V),valV (kvs.map fun kv=>if kv.1=k then (kv.1,y) else kv) j=(valV kvs j).map fun x=>if j=k then y else x
 | []=>rfl
 | p::r=>by
  have ih:=Jg0 k j y r;rw [map_cons];by_cases h:p.1=k
  ·rw [if_pos h];by_cases e:p.1=j
   ·rw [Jbe (p:=(p.1,y)) e,Jbe e,Option.map_some,if_pos (e.symm.trans h)]
   ·rw [Jbi (p:=(p.1,y)) e,Jbi e,ih]
  ·rw [if_neg h];by_cases e:p.1=j
   ·rw [Jbe (p:=p) e,Jbe e,Option.map_some,if_neg (fun z=>h (e.trans z))]
   ·rw [Jbi (p:=p) e,Jbi e,ih]
theorem Jf0 (k j : κ) (y:V):∀ kvs:List (κ × V),valV kvs k=none->valV (kvs++[(k,y)]) j=if j=k then some y else valV kvs j
 | [],_=>by
  by_cases e:k=j
  ·rw [if_pos e.symm];exact Jbe (p:=(k,y)) e
  ·rw [if_neg (fun z=>e z.symm)];exact Jbi (p:=(k,y)) e
 | p::r,hn=>by
  rw [cons_append];have hk:¬ p.1=k:=fun z=>by rw [Jbe z] at hn;cases hn
  rw [Jbi hk] at hn;have ih:=Jf0 k j y r hn;by_cases e:p.1=j
  ·rw [Jbe e,Jbe e,if_neg (fun z=>hk (e.trans z))]
  ·rw [Jbi e,Jbi e,ih]
theorem Jg1 (kvs:List (κ × V)) (k j : κ) (y:V):valV (putK kvs k y) j=if j=k then some y else valV kvs j:=by
 unfold putK;by_cases a:(kvs.any fun c=>decide (c.1=k))=true
 ·rw [if_pos a,Jg0];rw [Jcy] at a;by_cases e:j=k
  ·obtain ⟨x,b⟩:=Option.isSome_iff_exists.mp a;rw [if_pos e,e,b,Option.map_some,if_pos rfl]
  ·rw [if_neg e];cases valV kvs j with
   | none=>rfl
   | some x=>rw [Option.map_some,if_neg e]
 ·rw [if_neg a];refine Jf0 k j y kvs ?_;rw [Jcy] at a;cases q:valV kvs k with
  | none=>rfl
  | some x=>rw [q] at a;exact (a rfl).elim
theorem Jbj (kvs:List (κ × V)) (k : κ) (v:V):(putK kvs k v).length<=kvs.length+1:=by
 unfold putK;split
 ·rw [length_map];ac_nf
 ·rw [length_append,length_cons,length_nil];ac_nf
theorem Jjr {kvs:List (κ × V)} {k : κ} (v:V) (h:valV kvs k=none):putK kvs k v=kvs++[(k,v)]:=by
 unfold putK;rw [Jcy,h];exact if_neg ⋯
variable {o:Option V} {u:Option Value}
theorem RelO.isSome_eq (r:RelO o u):o.isSome=u.isSome:=by
 cases o with
 | none=>cases u with
  | none=>rfl
  | some _=>exact (show False from r).elim
 | some _=>cases u with
  | none=>exact (show False from r).elim
  | some _=>rfl
variable {d:V}
theorem RelO.getD {d':Value} (r:RelO o u) (rd:RelV d d'):RelV (o.getD d) (u.getD d'):=by
 cases o with
 | none=>cases u with
  | none=>exact rd
  | some _=>exact (show False from r).elim
 | some _=>cases u with
  | none=>exact (show False from r).elim
  | some _=>exact r
theorem KV.val {kvs:List (κ × V)} {vs:List (κ × Value)} (r:KV kvs vs) (k : κ):RelO (valV kvs k) (valueAt vs k):=by
 unfold KV at r;induction r with
 | nil=>exact True.intro
 | @cons p q ps qs h t ih=>
  obtain ⟨c,d⟩:=h;by_cases e:p.1=k
  ·have a:q.1=k:=c.symm.trans e;have b:valueAt (q::qs) k=some q.2:=by simp [valueAt,List.find?_cons,a]
   rw [Jbe e,b];exact d
  ·have a:¬ q.1=k:=fun z=>e (c.trans z);have b:valueAt (q::qs) k=valueAt qs k:=by simp [valueAt,List.find?_cons,a]
   rw [Jbi e,b];exact ih
theorem KV.any {kvs:List (κ × V)} {vs:List (κ × Value)} (r:KV kvs vs) (k : κ):(kvs.any fun kv=>decide (kv.1=k))=vs.any fun kv=>decide (kv.1=k):=by
 unfold KV at r;induction r with
 | nil=>rfl
 | cons h t ih=>rw [any_cons,any_cons,ih,h.1]
theorem KV.repl {kvs:List (κ × V)} {vs:List (κ × Value)} (r:KV kvs vs) (k : κ) {y:V} {u:Value} (ry:RelV y u) :
  KV (kvs.map fun kv=>if kv.1=k then (kv.1,y) else kv) (vs.map fun kv=>if kv.1=k then (kv.1,u) else kv):=by
 unfold KV at r ⊢;induction r with
 | nil=>exact .nil
 | @cons p q ps qs h t ih=>
  rw [map_cons,map_cons];refine .cons ?_ ih;obtain ⟨a,b⟩:=h;by_cases e:p.1=k
  ·rw [if_pos e,if_pos (a.symm.trans e)];exact ⟨a,ry⟩
  ·rw [if_neg e,if_neg (fun z=>e (a.trans z))];exact ⟨a,b⟩
theorem KV.put {kvs:List (κ × V)} {vs:List (κ × Value)} (r:KV kvs vs) (k : κ) {y:V} {u:Value} (ry:RelV y u):KV (putK kvs k y) (stored vs k u):=by
 unfold putK stored;rw [r.any k];by_cases e:(vs.any fun a=>decide (a.1=k))=true
 ·rw [if_pos e,if_pos e];exact r.repl k ry
 ·rw [if_neg e,if_neg e];exact Paired.snoc r ⟨rfl,ry⟩
theorem KV.length {kvs:List (κ × V)} {vs:List (κ × Value)} (r:KV kvs vs):kvs.length=vs.length:=Paired.length r
end
variable {P:Program}
theorem kV_is {w:World} {k:Key} {u:Value} (r:RelV (kV k) u):(Jat P w).is k u=true:=by
 cases k with
 | inl i=>have e:=(show u=Value.bool i from r);subst e;exact JfF P w i
 | inr x=>obtain ⟨t,e⟩:=(show ∃ t,u=Value.str x t from r);subst e;exact Jgj P w x t
theorem JfE {w:World}:∀ {ks:List Key} {us:List Value},Vals (ks.map kV) us->ItemsAre (Jat P w) ks us
 | [],_,r=>by rw [map_nil] at r;cases r;exact .nil
 | k::ks,_,r=>by
  rw [map_cons] at r;cases r with
  | cons h t=>exact .cons (kV_is h) (JfE t)
abbrev KT (H:Hp):List (List Key × V)->List (List Key × Addr × Value)->Prop:=Paired fun p q=>p.1=q.1/\H q.2.1=some (.tup (p.1.map kV))/\RelV p.2 q.2.2
variable {H:Hp} {kvs:List (List Key × V)} {xs:List (List Key × Addr × Value)}
theorem KT.val (r:KT H kvs xs) (k:List Key):RelO (valV kvs k) ((atKey xs k).map (·.2)):=by
 induction r with
 | nil=>exact True.intro
 | @cons p q ps qs h t ih=>
  obtain ⟨c,_,d⟩:=h;by_cases e:p.1=k
  ·have a:q.1=k:=c.symm.trans e;have b:atKey (q::qs) k=some q.2:=by simp [atKey,List.find?_cons,a]
   rw [Jbe e,b];exact d
  ·have a:¬ q.1=k:=fun z=>e (c.trans z);have b:atKey (q::qs) k=atKey qs k:=by simp [atKey,List.find?_cons,a]
   rw [Jbi e,b];exact ih
theorem KT.repl (r:KT H kvs xs) (k:List Key) {y:V} {u:Value} (ry:RelV y u) :
  KT H (kvs.map fun kv=>if kv.1=k then (kv.1,y) else kv) (xs.map (putAt k u)):=by
 induction r with
 | nil=>exact .nil
 | @cons p q ps qs h t ih=>
  rw [map_cons,map_cons];refine .cons ?_ ih;obtain ⟨a,b,c⟩:=h;unfold putAt;by_cases e:p.1=k
  ·rw [if_pos e,if_pos (a.symm.trans e)];exact ⟨a,b,ry⟩
  ·rw [if_neg e,if_neg (fun z=>e (a.trans z))];exact ⟨a,b,c⟩
theorem KT.put (r:KT H kvs xs) (k:List Key) {b:Addr} {y:V} {u:Value} (hb:H b=some (.tup (k.map kV))) (ry:RelV y u) :
  KT H (putK kvs k y) (storedH xs k b u):=by
 have e:(kvs.any fun a=>decide (a.1=k))=(atKey xs k).isSome:=by
  rw [Jcy,(r.val k).isSome_eq,Option.isSome_map]
 unfold putK storedH;rw [e];by_cases q:(atKey xs k).isSome=true
 ·rw [if_pos q,if_pos q];exact r.repl k ry
 ·rw [if_neg q,if_neg q];exact Paired.snoc r ⟨rfl,hb,ry⟩
variable {H':Hp}
theorem KT.keeps (r:KT H kvs xs) (ht:∀ b ys,H b=some (.tup ys)->H' b=some (.tup ys)):KT H' kvs xs :=
 Paired.mapP r fun _ _ z=>⟨z.1,ht _ _ z.2.1,z.2.2⟩
section
variable {h:Heap} {a:Addr} {w:World}
theorem y7cy {u:HO} (ok:HOk P w H h) (e:Rd H a u):ObjOk P w H h a u:=e.ok ok
variable {kvs:List (Key × V)}
theorem dk_rd (ok:HOk P w H h) (e:Rd H a (.dK kvs)):kvs.length<=sizeLine/\(a == sysModules)=false/\∃ vs,KV kvs vs/\h.DictOf (Jat P w) a vs :=
 show ObjOk P w H h a (.dK kvs) from y7cy ok e
theorem dk_of (ok:HOk P w H h) (e:H a=some (.dK kvs)):kvs.length<=sizeLine/\(a == sysModules)=false/\∃ vs,KV kvs vs/\h.DictOf (Jat P w) a vs:=dk_rd ok (.inl e)
theorem JdR {ks:List Key} (ok:HOk P w H h) (e:H a=some (.tup (ks.map kV))):(tupleKind (Jat P w)).is h ks a:=by
 obtain ⟨_,b,r,o,c,d,n,f⟩:=(show ObjOk P w H h a (.tup (ks.map kV)) from ok a _ e);exact ⟨o,b.toArray,n,c,d,f,by simpa using JfE r⟩
variable {kvs:List (List Key × V)}
theorem dt_rd (ok:HOk P w H h) (e:Rd H a (.dT kvs)):kvs.length<=sizeLine/\(a == sysModules)=false /\
  ∃ xs,KT H kvs xs/\h.DictOfH (tupleKind (Jat P w)) a xs:=by
 obtain ⟨z,y,xs,r,o,k,f,c,i,j,d,g⟩:=(show ObjOk P w H h a (.dT kvs) from y7cy ok e);refine ⟨z,y,xs,r,o,k,f,c,i,j,d,fun x b=>?_,g⟩;have all:∀ {l:List (List Key × V)} {m:List (List Key × Addr × Value)},KT H l m->∀ x∈m,(tupleKind (Jat P w)).is h x.1 x.2.1:=by
  intro l m q;induction q with
  | nil=>intro x b;exact nomatch b
  | @cons p q ps qs hq t ih=>
   intro x b;rcases mem_cons.mp b with e | b
   ·subst e;exact JdR ok (by rw [<- hq.1];exact hq.2.1)
   ·exact ih x b
 exact all r x b
theorem dt_of (ok:HOk P w H h) (e:H a=some (.dT kvs)):kvs.length<=sizeLine/\(a == sysModules)=false /\
  ∃ xs,KT H kvs xs/\h.DictOfH (tupleKind (Jat P w)) a xs:=dt_rd ok (.inl e)
end
def DGet (H:Hp) (a:Addr) (y:V) (r:Option V):Prop :=
 (∃ kvs k,Rd H a (.dK kvs)/\y=kV k/\r=valV kvs k)\/∃ kvs k b,Rd H a (.dT kvs)/\y=.ref b/\H b=some (.tup (k.map kV))/\r=valV kvs k
def DPut (H:Hp) (a:Addr) (y v:V) (H':Hp):Prop :=
 (∃ kvs k,H a=some (.dK kvs)/\y=kV k/\kvs.length<sizeLine/\H'=upd H a (.dK (putK kvs k v))) \/
 ∃ kvs k b,H a=some (.dT kvs)/\y=.ref b/\H b=some (.tup (k.map kV))/\kvs.length<sizeLine/\H'=upd H a (.dT (putK kvs k v))
variable {a:Addr} {kvs:List (Key × V)}
theorem DGet.k {k:Key} (e:H a=some (.dK kvs)):DGet H a (kV k) (valV kvs k):=.inl ⟨kvs,k, .inl e,rfl,rfl⟩
variable {v:V}
theorem DPut.k {k:Key} (e:H a=some (.dK kvs)) (hl:kvs.length<sizeLine):DPut H a (kV k) v (upd H a (.dK (putK kvs k v))):=.inl ⟨kvs,k,e,rfl,hl,rfl⟩
section
variable {X:Cx} {pins:List (Addr × Obj)} {σ:St} {y:V} {u r:Value} {o:Option V} {A:Around} {E:Value->Shared->Prop} {s:Shared}
theorem Inv.big (I:Inv X pins σ H s):sysModules<s.heap.objs.size:=by
 have h:mainGlobals<s.heap.objs.size:=(I.mod.glob.keeps I.bk).lt;exact Nat.lt_trans ⋯ h
variable {Q:Value->Shared->Prop}
theorem JhG (hu:A.units+1<cLine) (I:Inv X pins σ H s) (g:DGet H a y (some v)) (ry:RelV y u) (h:∀ w' s',Inv X pins σ H s'->RelV v w'->Q w' s') :
  wpAny (model X.prog X.w) A (getItem (.ref a) u) Q E s:=by
 rcases g with ⟨kvs,k,e,ey,l⟩ | ⟨kvs,k,b,e,ey,eb,l⟩
 ·subst ey;obtain ⟨z,q,n,c,i⟩:=dk_rd I.hok e;obtain ⟨w',f,d⟩:=RelO.some_of (v:=v) (o:=valueAt n k) (by rw [l];exact c.val k);exact wpAny_getItem_of (kV_is ry) i.mapOf f (h w' _ (I.tok _) d)
 ·subst ey;cases (show u=Value.ref b from ry);obtain ⟨z,q,m,c,i⟩:=dt_rd I.hok e;obtain ⟨w',f,d⟩:=RelO.some_of (v:=v) (o:=(atKey m k).map (·.2)) (by rw [l];exact c.val k);obtain ⟨p,r,j⟩:=Option.map_eq_some_iff.mp f;refine wpAny_getItem_heap (tupleKind_room_in1 hu) (JdR I.hok eb) i r ?_;rw [j];exact h w' _ (I.tok _) d
theorem d_in (hu:A.units+1<cLine) (I:Inv X pins σ H s) (g:DGet H a y o) (ry:RelV y u) (h:∀ s',Inv X pins σ H s'->Q (.bool o.isSome) s') :
  wpAny (model X.prog X.w) A (compareOp .In u (.ref a)) Q E s:=by
 rcases g with ⟨kvs,k,e,ey,l⟩ | ⟨kvs,k,b,e,ey,eb,l⟩
 ·subst ey;obtain ⟨z,f,j,c,d⟩:=dk_rd I.hok e;refine wpAny_in_of (kV_is ry) f d.mapOf ?_;rw [<- (c.val k).isSome_eq, <- l];exact h _ (I.tok _)
 ·subst ey;cases (show u=Value.ref b from ry);obtain ⟨z,f,i,c,d⟩:=dt_rd I.hok e;refine wpAny_in_heap (tupleKind_room_in1 hu) (JdR I.hok eb) f d ?_;have q:=(c.val k).isSome_eq;rw [Option.isSome_map] at q;rw [<- q, <- l];exact h _ (I.tok _)
theorem Jko (hu:A.units+1<cLine) (I:Inv X pins σ H s) (g:DGet H a y o) (ry:RelV y u) (h:∀ s',Inv X pins σ H s'->Q (.bool (!o.isSome)) s') :
  wpAny (model X.prog X.w) A (compareOp .NotIn u (.ref a)) Q E s:=by
 rcases g with ⟨kvs,k,e,ey,l⟩ | ⟨kvs,k,b,e,ey,eb,l⟩
 ·subst ey;obtain ⟨z,f,j,c,d⟩:=dk_rd I.hok e;refine wpAny_notIn_of (kV_is ry) f d.mapOf ?_;rw [<- (c.val k).isSome_eq, <- l];exact h _ (I.tok _)
 ·subst ey;cases (show u=Value.ref b from ry);obtain ⟨z,f,i,c,d⟩:=dt_rd I.hok e;refine wpAny_notIn_heap (tupleKind_room_in1 hu) (JdR I.hok eb) f d ?_;have q:=(c.val k).isSome_eq;rw [Option.isSome_map] at q;rw [<- q, <- l];exact h _ (I.tok _)
variable {h':Heap} {t':Nat}
theorem JeN {ob:HO} (I:Inv X pins σ H s) (mu:Mut (H a)) (hs:Heap.SameBut a s.heap h') (he:∃ q,h'.get? a=some q) (new:ObjOk X.prog X.w (upd H a ob) h' a ob) :
  Inv X pins σ (upd H a ob) { s with heap:=h',toks:=t' } :=
 I.write (x:=a) (e:=a) mu (.inl rfl) (fun b q c z=>(hs.2 b c).trans z) he new
theorem JgJ {w:World} {vs:List (Key × Value)} (z:kvs.length<=sizeLine) (hd:(a == sysModules)=false) (rel:KV kvs vs) (dd:h'.DictOf (Jat P w) a vs) :
  ObjOk P w H' h' a (.dK kvs):=⟨z,hd,vs,rel,dd⟩
theorem JhH {Q:Unit->Shared->Prop} (hu:A.units+1<cLine) (I:Inv X pins σ H s) (g:DPut H a y v H') (ry:RelV y u) (rv:RelV v r) (h:∀ s',Inv X pins σ H' s'->Q () s') :
  wpAny (model X.prog X.w) A (setItem (.ref a) u r) Q E s:=by
 rcases g with ⟨kvs,k,e,ey,l,eH⟩ | ⟨kvs,k,b,e,ey,eb,l,eH⟩
 ·subst ey eH;obtain ⟨z,p,D,d,o⟩:=dk_of I.hok e;have j:D.length<=sizeLine:=by rw [<- d.length];exact z
  have n:(putK kvs k v).length<=sizeLine:=by have:=Jbj kvs k v;ac_nf
  refine wpAny_setItem_pairs (hsz:=j) (kV_is ry) o fun x f m=>h _ ?_;have M:∃ q,x.get? a=some q:=let ⟨q,_,_,i,_⟩:=f;⟨q,i⟩;exact JeN I (by rw [e];exact True.intro) m M (JgJ n p (d.put k rv) f)
 ·subst ey eH;cases (show u=Value.ref b from ry);obtain ⟨z,p,C,d,o⟩:=dt_of I.hok e;have j:C.length<=sizeLine:=by rw [<- Paired.length d];exact z
  have n:(putK kvs k v).length<=sizeLine:=by have:=Jbj kvs k v;ac_nf
  refine wpAny_setItem_heap (hsz:=j) (tupleKind_room_in1 hu) (JdR I.hok eb) o fun x f m=>h _ ?_;obtain ⟨q,B,K,i,F,L,J,_,G⟩:=f;refine JeN I (by rw [e];exact True.intro) m ⟨q,i⟩ ⟨n,p,_,(d.put k eb rv).keeps fun c N t=>?_,q,B,K,i,F,L,J,G⟩;rw [Jag (ne_of t e (fun z=>nomatch z))];exact t
end
section
variable {X:Cx} {pins:List (Addr × Obj)} {σ:St} {u:Value} {A:Around} {E:Value->Shared->Prop} {s:Shared} {k:Key}
end
def NoSl (i:Expr):Prop:=∀ ov iv,subscripted i false ov iv=operate [ov,iv] (getItem ov iv)
variable {A:Around} {E Q:Value->Shared->Prop} {env:Env} {value:Expr} {pos:Pos}
theorem Jlf {prog:Program} {w:World} {s:Shared} {slice:Expr} {T id:String}
  (hl:typeLookup (.type T) "__getitem__"=pure (some (.builtin id))) (hs:NoSl slice)
  (h:wpAny (model prog w) A (eval value env) (fun o s₁=>wpAny (model prog w) A (eval slice env) (fun i s₂=>s₂.TypeIs o T/\wpAny (model prog w) A (getItem o i) Q E s₂) E s₁) E s) :
  wpAny (model prog w) A (eval (.Subscript value slice pos) env) Q E s:=by
 refine Subscript_ (wpAny_mono h (fun o s₁ h₁=>wpAny_mono h₁ (fun i s₂ h₂=>?_) fun _ _ x=>x) fun _ _ x=>x);obtain ⟨b,h₂⟩:=h₂;unfold subscriptTail;refine wpAny_bind ?_;rw [getitemInPython_of_ne b.not_modules];refine wpAny_bind (wpAny_specialOf b hl ?_);have a:wpAny (model prog w) A (subscripted slice false o i) (fun r s₃=>wpAny (model prog w) A (letTemporaryGo value o r >>= fun _=>pure r) Q E s₃) E s₂:=by
  rw [hs o i];exact wpAny_operating (wpAny_mono h₂ (fun r s₃ h₃=>wpAny_bind (wpAny_letTemporaryGo (wpAny_pure h₃))) fun _ _ x=>x)
 first
  | exact wpAny_pure (wpAny_bind a)
  | exact wpAny_bind (wpAny_pure (wpAny_bind a))
  | exact wpAny_bind a
variable {X:Cx} {pins:List (Addr × Obj)} {σ:St} {y:V}
theorem Jga {s:Shared} {o:Option V} (I:Inv X pins σ H s) (g:DGet H a y o):s.TypeIs (.ref a) "dict":=by
 rcases g with ⟨kvs,k,e,_,_⟩ | ⟨kvs,k,b,e,_,_,_⟩
 ·obtain ⟨_,_,f,_,c⟩:=dk_rd I.hok e;exact c.typeIs
 ·obtain ⟨_,_,d,_,c⟩:=dt_rd I.hok e;exact c.typeIs
def tDGet (td ty:TE):TE:=fun σ H Q=>td σ H fun x H1=>ty σ H1 fun y H2=>∃ a v,x=.ref a/\DGet H2 a y (some v)/\Q v H2
def tDIn (ty td:TE):TE:=fun σ H Q=>ty σ H fun y H1=>td σ H1 fun x H2=>∃ a o,x=.ref a/\DGet H2 a y o/\Q (.bl o.isSome) H2
def JiF (ty td:TE):TE:=fun σ H Q=>ty σ H fun y H1=>td σ H1 fun x H2=>∃ a o,x=.ref a/\DGet H2 a y o/\Q (.bl (!o.isSome)) H2
def sDPut (td ty tv:TE):TS:=fun D σ H=>tv σ H fun v H1=>td σ H1 fun x H2=>ty σ H2 fun y H3=>∃ a H4,x=.ref a/\DPut H3 a y v H4/\D.nx σ H4
section
variable {o e:Expr} {pos' tpos:Pos} {ty tv:TE} {i:Expr} {td:TE}
theorem JbU (hu:X.A.units+1<cLine) (ho:PE X o td) (hi:PE X i ty) (hs:NoSl i):PE X (.Subscript o i pos) (tDGet td ty):=by
 intro b s σ H Q I h;refine Jlf PySem.F.slot_dict_getitem.lookup hs (thn (ho b s σ H _ I h) fun u j ζ=>?_);obtain ⟨x,f,I1,m,k⟩:=ζ;refine thn (hi b j σ f _ I1 k) fun t q ζ=>?_;obtain ⟨y,d,I2,n,a,v,e,g,l⟩:=ζ;subst e;obtain rfl:u=Value.ref a:=m;exact ⟨Jga I2 g,JhG hu I2 g n fun p r I3 c=>⟨v,d,I3,c,l⟩⟩
theorem JgR (hu:X.A.units+1<cLine) (hi:PE X i ty) (ho:PE X o td):PC X .In i o (tDIn ty td):=by
 intro b s σ H Q I h;refine thn (hi b s σ H _ I h) fun r f ζ=>?_;obtain ⟨y,e,I1,m,j⟩:=ζ;refine thn (ho b f σ e _ I1 j) fun u p ζ=>?_;obtain ⟨x,c,I2,l,a,n,d,g,k⟩:=ζ;subst d;obtain rfl:u=Value.ref a:=l;exact d_in hu I2 g m fun q I3=>⟨.bl n.isSome,c,I3,rfl,k⟩
theorem Jc9 (hu:X.A.units+1<cLine) (hi:PE X i ty) (ho:PE X o td):PC X .NotIn i o (JiF ty td):=by
 intro b s σ H Q I h;refine thn (hi b s σ H _ I h) fun r f ζ=>?_;obtain ⟨y,e,I1,m,j⟩:=ζ;refine thn (ho b f σ e _ I1 j) fun u p ζ=>?_;obtain ⟨x,c,I2,l,a,n,d,g,k⟩:=ζ;subst d;obtain rfl:u=Value.ref a:=l;exact Jko hu I2 g m fun q I3=>⟨.bl (!n.isSome),c,I3,rfl,k⟩
theorem Jb8 (hu:X.A.units+1<cLine) (ho:PE X o td) (hi:PE X i ty) (hv:PE X value tv) (hs:swapsWith value (some (.Subscript o i pos')) pos.line X.env=pure false) :
  PS X (.Assign [.Subscript o i pos'] value pos) (sDPut td ty tv):=by
 intro b s σ H D I h;refine wpAny_Assign_Subscript (thn (hv b s σ H _ I h) fun r j ζ=>?_) hs;obtain ⟨v,e,I1,n,k⟩:=ζ;refine thn (ho b j σ e _ I1 k) fun u f ζ=>?_;obtain ⟨x,c,I2,m,l⟩:=ζ;refine thn (hi b f σ c _ I2 l) fun C B ζ=>?_;obtain ⟨y,w,I3,p,a,t,d,g,q⟩:=ζ;subst d;obtain rfl:u=Value.ref a:=m;exact JhH hu I3 g p n fun z I4=>⟨σ,t,I4,q⟩
end
theorem JgI {w:World} (h:Heap) (hb:sysModules<h.objs.size):ObjOk P w H (h.push { cls:=.type "dict",data:=.dict #[] }) h.objs.size (.dK []) :=
 ⟨Nat.zero_le _,beq_eq_false_iff_ne.mpr (Ne.symm (Nat.ne_of_lt hb)),[], .nil,Heap.DictOf.new h⟩
def Jj2:TE:=fun _ H Q=>∀ p,H p=none->Q (.ref p) (upd H p (.dK []))
def Jl9:TE:=fun _ H Q=>∀ p,H p=none->Q (.ref p) (upd H p (.dT []))
theorem JbC:PE X (.Dict [] [] pos) Jj2:=fun b s σ H Q I h=>
 wpAny_Dict_empty ⟨.ref s.heap.objs.size,_,I.laid (a:=s.heap.objs.size) (o:=.dK []) (t':=s.toks) (fun _ _ q=>Heap.get?_push_of_some _ q) (Nat.le_refl _) (JgI s.heap I.big),rfl,h _ (I.hok.fresh (Nat.le_refl _))⟩
def JfY:List (TE × TE)->St->Hp->(List (V × V)->Hp->Prop)->Prop
 | [],_,H,Q=>Q [] H
 | (tk,tv)::r,σ,H,Q=>tk σ H fun x H1=>tv σ H1 fun y H2=>JfY r σ H2 fun ps H3=>Q ((x,y)::ps) H3
abbrev VV:List (V × V)->List (Value × Value)->Prop:=Paired fun p q=>RelV p.1 q.1/\RelV p.2 q.2
def PPs (X:Cx) (pos:Pos) (keys:List (Option Expr)) (values:List Expr) (trs:List (TE × TE)):Prop :=
 ∀ (pins:List (Addr × Obj)) (s:Shared) (σ : St) (H:Hp) (Q:List (V × V)->Hp->Prop),Inv X pins σ H s->JfY trs σ H Q ->
  wpAny (model X.prog X.w) X.A (evalPairs (pairTrees keys values X.env pos)) (fun vs s'=>∃ ps H',Inv X pins σ H' s'/\VV ps vs/\Q ps H') X.xe s
theorem Jk0:PPs X pos [] [] []:=fun a s σ H Q I h=>pairTrees_nil_walk ⟨[],H,I, .nil,h⟩
variable {trs:List (TE × TE)}
theorem Jjp {k v:Expr} {ks:List (Option Expr)} {vs:List Expr} {tk tv:TE} (hk:PE X k tk) (hv:PE X v tv) (hr:PPs X pos ks vs trs) :
  PPs X pos (some k::ks) (v::vs) ((tk,tv)::trs):=fun a s σ H Q I h=>
 pairTrees_cons_walk (thn (hk a s σ H _ I h) fun u i ζ=>by obtain ⟨x,f,I1,m,j⟩:=ζ;exact thn (hv a i σ f _ I1 j) fun p g ζ=>by obtain ⟨y,e,I2,n,l⟩:=ζ;exact thn (hr a g σ e _ I2 l) fun q r ζ=>by obtain ⟨d,c,I3,b,o⟩:=ζ;exact ⟨(x,y)::d,c,I3, .cons ⟨m,n⟩ b,o⟩)
def JeC (kvs more:List (Key × V)):List (Key × V):=more.foldl (fun acc kv=>putK acc kv.1 kv.2) kvs
theorem KV.merge:∀ {more:List (Key × V)} {rs:List (Key × Value)} {kvs:List (Key × V)} {vs:List (Key × Value)},KV more rs->KV kvs vs->KV (JeC kvs more) (merged vs rs):=by
 intro more rs kvs vs r;unfold KV at r;induction r generalizing kvs vs with
 | nil=>intro q;exact q
 | @cons p q ps qs h t ih=>
  intro a;have e:KV (putK kvs p.1 p.2) (stored vs q.1 q.2):=by
   have:=a.put p.1 h.2;rw [<- h.1];exact this
  exact ih e
theorem Jc4:∀ (more kvs:List (Key × V)),(JeC kvs more).length<=kvs.length+more.length
 | [],kvs=>by show kvs.length<=kvs.length+0;ac_nf
 | p::r,kvs=>by
  have h1:=Jc4 r (putK kvs p.1 p.2);have h2:=Jbj kvs p.1 p.2;show (JeC (putK kvs p.1 p.2) r).length<=_;rw [length_cons];ac_nf
theorem Jev {P:Program} {w:World}:∀ {kvs:List (Key × V)} {ws:List (Value × Value)},VV (kvs.map fun kv=>(kV kv.1,kv.2)) ws->∃ rs,Carries (Jat P w) ws rs/\KV kvs rs
 | [],_,r=>by rw [map_nil] at r;cases r;exact ⟨[],True.intro, .nil⟩
 | p::kvs,_,r=>by
  rw [map_cons] at r;cases r with
  | @cons a b as bs h t=>
   obtain ⟨rs,c,q⟩:=Jev (P:=P) (w:=w) t;obtain ⟨b1,b2⟩:=b;exact ⟨(p.1,b2)::rs,⟨kV_is h.1,rfl,c⟩, .cons ⟨rfl,h.2⟩ q⟩
def tDisp (trs:List (TE × TE)):TE:=fun σ H Q=>∀ p,H p=none->JfY trs σ (upd H p (.dK [])) fun ps H2=>H2 p=some (.dK [])/\∃ kvs:List (Key × V),ps=kvs.map (fun kv=>(kV kv.1,kv.2))/\kvs.length<=15/\Q (.ref p) (upd H2 p (.dK (JeC [] kvs)))
theorem JkU {keys:List (Option Expr)} {values:List Expr} (h:PPs X pos keys values trs) (hall:keys.all (·.isSome)=true) (hl:keys.length=values.length) (h0:keys≠[])
  (h15:keys.length<=15):PE X (.Dict keys values pos) (tDisp trs):=by
 intro b s σ H Q I q;have k:=I.hok.fresh (Nat.le_refl s.heap.objs.size);have I1:=I.laid (a:=s.heap.objs.size) (o:=.dK []) (h':=s.heap.push { cls:=.type "dict",data:=.dict #[] }) (t':=s.toks) (fun _ _ q=>Heap.get?_push_of_some _ q) (Nat.le_refl _) (JgI s.heap I.big);refine wpAny_Dict_walk (knd:=Jat X.prog X.w) hall hl h0 h15 (thn (h b _ σ _ _ I1 (q _ k)) fun C E ζ=>?_);obtain ⟨A,B,I2,g,e,f,v,D,p⟩:=ζ;subst v;obtain ⟨r,c,l⟩:=Jev (P:=X.prog) (w:=X.w) g;obtain ⟨z,x,t,j,u⟩:=dk_of I2.hok e;cases j;refine ⟨r,c,u,fun h' d n=>⟨.ref s.heap.objs.size,_,?_,rfl,p⟩⟩;have i:(JeC [] f).length<=sizeLine:=by
  have m:=Jc4 f [];rw [length_nil] at m;rw [sizeLine_eq];ac_nf
 have y:∃ q,h'.get? s.heap.objs.size=some q:=let ⟨q,_,_,hq,_⟩:=d;⟨q,hq⟩;exact JeN I2 (by rw [e];exact True.intro) n y (JgJ i x (l.merge .nil) d)
structure M1 (X:Cx) (o:Expr) (m:Str) (apos:Pos) (e:Expr) (cpos:Pos):Prop where
 base:attributeBase o m X.env (eval o X.env)=eval o X.env
 few:((backTo cpos (starEach [e] X.env)).all (fun x=>!x.1)&&(backToKw cpos (keywordEach [] X.env)).all (fun x=>x.1.isSome)
  && decide (([e]:List Expr).length+([]:List Keyword).length+(if ([]:List Keyword).isEmpty then 0 else 1)<30))=true
 line:(apos.endLine == cpos.line)=true
 trees:backTo cpos (starEach [e] X.env)=[(false,eval e X.env)]
structure M2 (X:Cx) (o:Expr) (m:Str) (apos:Pos) (e f:Expr) (cpos:Pos):Prop where
 base:attributeBase o m X.env (eval o X.env)=eval o X.env
 few:((backTo cpos (starEach [e,f] X.env)).all (fun x=>!x.1)&&(backToKw cpos (keywordEach [] X.env)).all (fun x=>x.1.isSome)
  && decide (([e,f]:List Expr).length+([]:List Keyword).length+(if ([]:List Keyword).isEmpty then 0 else 1)<30))=true
 line:(apos.endLine == cpos.line)=true
 trees:backTo cpos (starEach [e,f] X.env)=[(false,eval e X.env),(false,eval f X.env)]
def IsD (H:Hp) (a:Addr):Prop:=(∃ kvs,Rd H a (.dK kvs))\/∃ kvs,Rd H a (.dT kvs)
theorem JfD {s:Shared} (I:Inv X pins σ H s) (d:IsD H a) :
  s.TypeIs (.ref a) "dict"/\(∀ b,Value.ref a=.ref b->∃ ob,s.heap.get? b=some ob/\ob.dict=none)/\(a == sysModules)=false:=by
 rcases d with ⟨kvs,e⟩ | ⟨kvs,e⟩
 ·obtain ⟨_,g,j,_,c⟩:=dk_rd I.hok e;refine ⟨c.typeIs,fun b q=>?_,g⟩;cases q;obtain ⟨ob,_,_,f,h,_⟩:=c;exact ⟨ob,f,h.2.1⟩
 ·obtain ⟨_,g,i,_,c⟩:=dt_rd I.hok e;refine ⟨c.typeIs,fun b q=>?_,g⟩;cases q;obtain ⟨ob,_,_,f,h,_⟩:=c;exact ⟨ob,f,h.2.1⟩
section
variable {d:V} {u r:Value} {o:Option V} {s:Shared}
theorem Jlw (hu:A.units+1<cLine) (I:Inv X pins σ H s) (g:DGet H a y o) (ry:RelV y u) (h:∀ w' s',Inv X pins σ H s'->RelV (o.getD .non) w'->Q w' s') :
  wpAny (model X.prog X.w) A (call (.builtin "dict.get") [.ref a,u]) Q E s:=by
 rcases g with ⟨kvs,k,e,ey,l⟩ | ⟨kvs,k,b,e,ey,eb,l⟩
 ·subst ey;obtain ⟨z,f,j,c,d⟩:=dk_rd I.hok e;refine call_meetsIn PySem.F.slot_dict_get d.typeIs PySem.F.entry_dict_get (PySem.F.args_dict_get_2 _ _) (meets_dict_get (Jat X.prog X.w) a (kV_is ry) f) ⟨_,d.mapOf,h _ _ (I.tok _) ?_⟩;rw [l];exact (c.val k).getD rfl
 ·subst ey;cases (show u=Value.ref b from ry);obtain ⟨z,f,i,c,d⟩:=dt_rd I.hok e;refine call_meetsIn PySem.F.slot_dict_get d.typeIs PySem.F.entry_dict_get (PySem.F.args_dict_get_2 _ _) (meetsH_dict_get (tupleKind (Jat X.prog X.w)) a b f) ⟨tupleKind_room_in1 hu,k,i,JdR I.hok eb,d,h _ _ (I.tok _) ?_⟩;rw [l];exact (c.val k).getD rfl
theorem Jlx (hu:A.units+1<cLine) (I:Inv X pins σ H s) (g:DGet H a y o) (ry:RelV y u) (rd:RelV d r) (h:∀ w' s',Inv X pins σ H s'->RelV (o.getD d) w'->Q w' s') :
  wpAny (model X.prog X.w) A (call (.builtin "dict.get") [.ref a,u,r]) Q E s:=by
 rcases g with ⟨kvs,k,e,ey,l⟩ | ⟨kvs,k,b,e,ey,eb,l⟩
 ·subst ey;obtain ⟨z,i,m,c,f⟩:=dk_rd I.hok e;refine call_meetsIn PySem.F.slot_dict_get f.typeIs PySem.F.entry_dict_get (PySem.F.args_dict_get_3 _ _ _) (meets_dict_get_default (Jat X.prog X.w) a (kV_is ry) i r) ⟨_,f.mapOf,h _ _ (I.tok _) ?_⟩;rw [l];exact (c.val k).getD rd
 ·subst ey;cases (show u=Value.ref b from ry);obtain ⟨z,i,j,c,f⟩:=dt_rd I.hok e;refine call_meetsIn PySem.F.slot_dict_get f.typeIs PySem.F.entry_dict_get (PySem.F.args_dict_get_3 _ _ _) (meetsH_dict_get_default (tupleKind (Jat X.prog X.w)) a b i r) ⟨tupleKind_room_in1 hu,k,j,JdR I.hok eb,f,h _ _ (I.tok _) ?_⟩;rw [l];exact (c.val k).getD rd
end
def Jj0 (td ty:TE):TE:=fun σ H Q=>td σ H fun x H1=>∃ a,x=.ref a/\IsD H1 a/\ty σ H1 fun y H2=>∃ o,DGet H2 a y o/\Q (o.getD .non) H2
def Jj1 (td ty tx:TE):TE:=fun σ H Q=>td σ H fun x H1=>∃ a,x=.ref a/\IsD H1 a/\ty σ H1 fun y H2=>tx σ H2 fun z H3=>∃ o,DGet H3 a y o/\Q (o.getD z) H3
section
variable {o e:Expr} {apos cpos:Pos} {ty tx:TE} {f:Expr} {td:TE}
theorem Jji (hu:X.A.units+1<cLine) (ho:PE X o td) (he:PE X e ty) (m:M1 X o "get" apos e cpos):PE X (.Call (.Attribute o "get" apos) [e] [] cpos) (Jj0 td ty):=by
 intro b s σ H Q I h;refine wpAny_Call_method m.base m.few m.line PySem.F.plainAttrs_dict PySem.F.slot_dict_get PySem.F.type_dict_get (thn (ho b s σ H _ I h) fun u k ζ=>?_);obtain ⟨x,j,I1,p,a,i,d,l⟩:=ζ;subst i;obtain rfl:u=Value.ref a:=p;obtain ⟨t,r,_⟩:=JfD I1 d;refine ⟨t,r,?_⟩;rw [m.trees];refine Calls.callWith_builtin rfl (Calls.evalArgs_plain (Calls.spliced_cons (thn (he b k σ j _ I1 l) fun B w ζ=>?_)));obtain ⟨y,f,I2,q,C,g,n⟩:=ζ;refine Calls.spliced_nil ?_;exact Jlw hu I2 g q fun v z I3 c=>⟨_,f,I3,c,n⟩
theorem Jjj (hu:X.A.units+1<cLine) (ho:PE X o td) (he:PE X e ty) (hf:PE X f tx) (m:M2 X o "get" apos e f cpos):PE X (.Call (.Attribute o "get" apos) [e,f] [] cpos) (Jj1 td ty tx):=by
 intro b s σ H Q I h;refine wpAny_Call_method m.base m.few m.line PySem.F.plainAttrs_dict PySem.F.slot_dict_get PySem.F.type_dict_get (thn (ho b s σ H _ I h) fun u l ζ=>?_);obtain ⟨x,n,I1,v,a,k,d,q⟩:=ζ;subst k;obtain rfl:u=Value.ref a:=v;obtain ⟨D,B,_⟩:=JfD I1 d;refine ⟨D,B,?_⟩;rw [m.trees];refine Calls.callWith_builtin rfl (Calls.evalArgs_plain (Calls.spliced_cons (thn (he b l σ n _ I1 q) fun L p ζ=>?_)));obtain ⟨y,j,I2,w,r⟩:=ζ;refine Calls.spliced_cons (thn (hf b p σ j _ I2 r) fun G K ζ=>?_);obtain ⟨z,i,I3,t,M,g,C⟩:=ζ;refine Calls.spliced_nil ?_
 exact Jlx hu I3 g w t fun J E I4 c=>⟨_,i,I4,c,C⟩
end
section
variable {s:Shared}
end
section
variable {u:Value} {s:Shared}
end
section
variable {κ:Type} [DecidableEq κ]
end
def DictAt (h:Heap) (e:Addr) (od:Option Addr):Prop:=∃ o,h.get? e=some o/\o.dict=od
theorem JhM (o:Obj) (f):(o.mapFields f).dict=o.dict:=by
 obtain ⟨c,d,a,b⟩:=o;cases a <;> rfl
section
variable {M:Model} {base:Heap} {outer l:List Env} {L e:Addr} {oe:Obj} {vs:Array Value} {head a0 fl:Value} {od:Option Addr} {Q:Unit->Shared->Prop} {s:Shared} {cls:Value}
theorem JjK {hadNext:Bool} (hfr:A.frames=some (env::outer)) (hl:s.heap.FunFrames base (env::outer)) (hf:env.frame=some L)
  (he:s.heap.get? e=some oe) (hkb:base.StaysIn s.heap) (hen:base.get? e=none) (hd:oe.data=.fields vs) (hsz:1<vs.size) (h0:vs[0]?=some a0)
  (h:∀ h',Heap.NotedW base (env::outer) e oe.cls a0 (rawInt L) s.heap h'->DictAt h' e oe.dict->Q () { s with heap:=h' }) :
  wpAny M A (do let a <- frameOf env;let pl <- entryPlaceOf L hadNext;let b <- EntryCells.newEntry head a .none (rawInt L) .none pl;setField (.ref e) 1 b) Q E s:=by
 have C:e∉(env::outer).filterMap (·.frame):=fun t=>by
  obtain ⟨_,o,v,f⟩:=hl.mem t;rw [he] at v;cases v;exact f vs hd
 refine wpAny_bind (wpAny_frameOf_fun hfr hl hf fun h₁ r=>wpAny_bind (wpAny_entryPlaceOf fun pl j=>?_));unfold EntryCells.newEntry newFields;refine wpAny_bind (wpAny_newObj_type ?_ (j.sizeOk5 _ _ _ _ _));have g:h₁.get? e=some oe:=(r.2.1 e C).trans he;have l:base.StaysIn h₁:=fun b o c=>(r.2.1 b fun t=>by rw [(hl.mem t).1] at c;cases c).trans (hkb b o c);generalize y:({ cls:=.type "traceback",dict:=none,data:=.fields ([head, .ref L, .none,rawInt L, .none]++(if pl.isEmpty then List.replicate 6 Value.none else pl)).toArray }:Obj)=p;have k:=Heap.get?_push_of_some (h:=h₁) p g;refine wpAny_setField k hd hsz ?_;have B:h₁.objs.size≠e:=Nat.ne_of_gt (Heap.lt_size g);have m:=Obj.data_mapFields hd (·.setIfInBounds 1 (Value.ref h₁.objs.size));have i:=Heap.get?_update_self (Obj.mapFields (·.setIfInBounds 1 (Value.ref h₁.objs.size))) k (Obj.isFreed_of_fields m);have u:=(Heap.get?_update_other (h₁.push p) (Obj.mapFields (·.setIfInBounds 1 (Value.ref h₁.objs.size))) (Ne.symm B)).trans (Heap.get?_push_size h₁ (by rw [<- y];rfl));have d:∀ b o,b≠e->h₁.get? b=some o->((h₁.push p).update e (Obj.mapFields (·.setIfInBounds 1 (Value.ref h₁.objs.size)))).get? b=some o:=fun b o n c=>by
  rw [Heap.get?_update_other _ _ (Ne.symm n)];exact Heap.get?_push_of_some _ c
 have x:∀ b o,s.heap.get? b=some o->(∀ vs,o.data≠.fields vs)->b≠e:=fun b o c f q=>by
  rw [q,he] at c;cases c;exact f vs hd
 refine h _ ⟨fun b o c=>d b o (fun q=>by rw [q,hen] at c;cases c) (l b o c),hl.of_keeps fun b o c f=>?_,?_,fun b o c f=>?_⟩ ⟨_,i,JhM _ _⟩
 ·obtain ⟨w,z⟩:=r.2.2 b o c;exact ⟨_,d b _ (x b o c f) z,rfl⟩
 ·refine ⟨_,_,h₁.objs.size,p,_,i,⟨Obj.cls_mapFields _ _,by rw [Array.getElem?_setIfInBounds_ne ⋯];exact h0⟩,m,by simp [hsz],l.fresh,B,u,by rw [<- y],?_⟩;first | (simp;done) | (rcases j with rfl | ⟨_,_,_,_,_,_,_,rfl⟩ <;> simp)
 ·obtain ⟨w,z⟩:=r.2.2 b o c;exact ⟨w,d b _ (x b o c f) z⟩
theorem noteD (hfr:A.frames=some (env::outer)) (hf:env.frame=some L) (hfl:Heap.FlyingW base (env::outer) e cls a0 s.heap) (hdc:DictAt s.heap e od)
  (h:∀ h',Heap.HeldW base (env::outer) e cls a0 L h'->s.heap.UpToSlots h'->DictAt h' e od->Q () { s with heap:=h' }):wpAny M A (noteFrame (.ref e) env) Q E s:=by
 obtain ⟨p,j,G,K,t,T,J,D,r,⟨g,y⟩,w,v,l,m,n,d,x⟩:=hfl;subst g;obtain ⟨C,i,k⟩:=hdc;rw [r] at i;cases i;unfold noteFrame;simp only [hf];refine wpAny_bind (wpAny_field r w v ?_);rw [if_pos (show (Value.ref T != Value.none)=true from by simp)];refine wpAny_bind (wpAny_field n d x ?_);rw [if_neg (show ¬ ((Value.none == rawInt L)=true) from by simp [rawInt])];refine wpAny_bind (wpAny_setField n d (Array.getElem?_eq_some_iff.mp x).1 ?_);have a:∀ b,b≠T->(s.heap.update T (Obj.mapFields (·.setIfInBounds 3 Value.none))).get? b=s.heap.get? b:=fun b c=>Heap.get?_update_other _ _ (Ne.symm c);have u:∀ b o,s.heap.get? b=some o->(∀ t,o.data≠.fields t)->b≠T:=fun b o c f q=>by
  rw [q,n] at c;cases c;exact f D d
 refine JjK hfr (G.of_keeps fun b o c f=>⟨o,(a b (u b o c f)).trans c,rfl⟩) hf ((a e (Ne.symm m)).trans r)
  (fun b o c=>(a b fun q=>by rw [q,l] at c;cases c).trans (p b o c)) j w (Array.getElem?_eq_some_iff.mp v).1 y fun h' ⟨z,F,B,I⟩ H=>?_
 exact h h' ⟨z,j,F,B⟩ (fun b o c f=>I b o ((a b (u b o c f)).trans c) f) (k ▸ H)
theorem JeQ (hkb:base.StaysIn s.heap) (hl:s.heap.FunFrames base l) (ht:s.heap.TracedAtW base e cls a0 fl) (hdc:DictAt s.heap e od)
  (h:∀ h',base.StaysIn h'->h'.FunFrames base l->h'.TracedW base e cls a0->s.heap.UpToSlots h'->DictAt h' e od->Q () { s with heap:=h' }):wpAny M A (setFlight (.ref e) none) Q E s:=by
 obtain ⟨y,p,T,B,x,v,m,u,n,k,g,r,d,z⟩:=ht;have j:=(Array.getElem?_eq_some_iff.mp z).1;have a:∀ b,b≠T->(s.heap.update T (Obj.mapFields (·.setIfInBounds 3 ((none:Option Addr).elim Value.none fun f=>rawInt f)))).get? b=s.heap.get? b:=fun b c=>Heap.get?_update_other _ _ (Ne.symm c);have t:∀ b o,s.heap.get? b=some o->(∀ p,o.data≠.fields p)->b≠T:=fun b o c i q=>by
  rw [q,r] at c;cases c;exact i x d
 unfold setFlight;refine wpAny_bind (wpAny_field v u n ?_);rw [if_pos (show (Value.ref T != Value.none)=true from by simp)];refine wpAny_setField r d j (h _ (fun b o c=>(a b fun q=>by rw [q,k] at c;cases c).trans (hkb b o c)) (hl.of_keeps fun b o c i=>⟨o,(a b (t b o c i)).trans c,rfl⟩) ?_ (fun b o c i=>⟨o.slots,(a b (t b o c i)).trans c⟩) ?_)
 ·exact ⟨y,p,T,_,_,(a e (Ne.symm g)).trans v,m,u,n,k,g,Heap.get?_update_self _ r (Obj.isFreed_of_fields (Obj.data_mapFields d _)),Obj.data_mapFields d _,by simp [j]⟩
 ·obtain ⟨o,n,w⟩:=hdc;exact ⟨o,(a e (Ne.symm g)).trans n,w⟩
theorem JkA (hfr:A.frames=some (env::outer)) (hf:env.frame=some L) (hfl:Heap.FlyingW base (env::outer) e cls a0 s.heap) (hdc:DictAt s.heap e od)
  (hQ:∀ h',Heap.FlyingW base outer e cls a0 h'->s.heap.UpToSlots h'->DictAt h' e od->Q () { s with heap:=h' }):wpAny M A (leaving env (.ref e)) Q E s:=by
 unfold leaving;refine wpAny_bind (noteD hfr hf hfl hdc fun d i k a=>?_);obtain ⟨l,g,h,c⟩:=i;refine JeQ (s:={ s with heap:=d }) l h c a fun n o ⟨_,_,f⟩ b m j=>hQ n ⟨o,g,f,b⟩ (k.trans m) j
theorem JlI (hh:Heap.HeldW base l e cls a0 L s.heap) (hdc:DictAt s.heap e od) (hQ:∀ h',Heap.FlyingW base l e cls a0 h'->s.heap.UpToSlots h'->DictAt h' e od->Q () { s with heap:=h' }):wpAny M A (setFlight (.ref e) none) Q E s:=by
 obtain ⟨h,d,f,b⟩:=hh;exact JeQ h f b hdc fun j k c a i g=>hQ j ⟨k,d,c,a⟩ i g
theorem Jlo (hh:Heap.FlyingW base l e cls a0 s.heap) (hdc:DictAt s.heap e od) (hQ:∀ h',Heap.FlyingW base l e cls a0 h'->s.heap.UpToSlots h'->DictAt h' e od->Q () { s with heap:=h' }):wpAny M A (setFlight (.ref e) none) Q E s:=by
 obtain ⟨h,d,f,b⟩:=hh;exact JeQ h f b.at hdc fun j k c a i g=>hQ j ⟨k,d,c,a⟩ i g
theorem JjO (hfr:A.frames=some (env::outer)) (hl:s.heap.FunFrames base (env::outer)) (hf:env.frame=some L) (he:s.heap.get? e=some oe) (hkb:base.StaysIn s.heap) (hen:base.get? e=none) (hd:oe.data=.fields vs) (h1:vs[1]?=some .none) (h0:vs[0]?=some a0)
  (hQ:∀ h',Heap.FlyingW base outer e oe.cls a0 h'->s.heap.UpToSlots h'->DictAt h' e oe.dict->Q () { s with heap:=h' }):wpAny M A (leaving env (.ref e)) Q E s:=by
 unfold leaving noteFrame;simp only [hf];refine wpAny_bind (wpAny_bind (wpAny_field he hd h1 ?_));rw [if_neg ⋯];refine JjK hfr hl hf he hkb hen hd (Array.getElem?_eq_some_iff.mp h1).1 h0 fun k ⟨g,m,h,f⟩ d=>?_;refine JeQ (s:={ s with heap:=k }) g m h d fun a l ⟨_,_,c⟩ b j i=>hQ a ⟨l,hen,c,b⟩ (Heap.UpToSlots.trans f j) i
end
variable {h:Heap}
theorem ObjOk.is_there {w:World} {o:HO} (x:ObjOk P w H h a o):∃ ob,h.get? a=some ob:=by
 cases o with
 | lst xs=>obtain ⟨_,_,_,_,e⟩:=x;exact ⟨_,e⟩
 | tup xs=>obtain ⟨_,_,_,p⟩:=x;obtain ⟨o,e,_⟩:=p;exact ⟨_,e⟩
 | dK kvs=>obtain ⟨_,_,_,_,o,_,_,e,_⟩:=x;exact ⟨_,e⟩
 | dT kvs=>obtain ⟨_,_,_,_,o,_,_,e,_⟩:=x;exact ⟨_,e⟩
 | set S n=>
  obtain ⟨o,_,_,_,e,_⟩:=x;exact ⟨_,e⟩
 | ins C dx fs=>obtain ⟨_,_,_,e,_⟩:=x;exact ⟨_,e⟩
 | own y=>exact x
 | xd fs=>obtain ⟨b,n,_⟩:=x;obtain ⟨c,e,_⟩:=JdW n;exact ⟨_,e⟩
 | rng lo hi=>obtain ⟨_,_,_,e⟩:=x;exact ⟨_,e⟩
 | frz ob u=>exact ⟨_,x.1⟩
 | tbl ps=>exact ⟨_,x⟩
 | met f y=>exact ⟨_,x⟩
 | ext φ=>exact x.2.1
theorem HOk.isnone {w:World} (x:HOk P w H h) (e:h.get? a=none):H a=none:=by
 cases q:H a with
 | none=>rfl
 | some u=>
  obtain ⟨b,z⟩:=(x a u q).is_there;rw [e] at z;cases z
structure Fly (l:List Env) (H':Hp) (h0:Heap) (ea:Addr) (od:Option Addr) (cls a0:Value) (B h:Heap):Prop where
 fly:Heap.FlyingW B l ea cls a0 h
 free:H' ea=none
 new:h0.get? ea=none
 dct:DictAt h ea od
 kept:∀ b o,h.get? b=some o->((∃ o',h0.get? b=some o')\/∃ u,H' b=some u)->b∉frs l->B.get? b=some o
def CX1 (P:Program) (w:World):CXT:=fun outer H s E e s'=>
 ∃ (ea:Addr) (od:Option Addr) (cls a0:Value) (B:Heap) (H':Hp),e=.ref ea/\s'.os=s.os/\AllBare s'.gens/\Un (frs outer) [] H H' s.heap s'.heap/\HOk P w H' s'.heap /\
  Fly outer H' s.heap ea od cls a0 B s'.heap/\E cls od H'
section
variable {l l':List Env} {h0 h' B:Heap} {ea:Addr} {od:Option Addr} {a0:Value} {w:World} {cls:Value}
theorem Fly.next (u:Un (frs l) [] H H' h0 h) (hok:HOk P w H' h) (F:Fly l H' h0 ea od cls a0 B h) (fr:∀ b∈frs l,H' b=none) (k:B.StaysIn h') (sl:h.UpToSlots h') :
  HOk P w H' h'/\Un (frs l) [] H H' h0 h'/\∀ b o,h.get? b=some o->((∃ o',h0.get? b=some o')\/∃ u,H' b=some u)->b∉frs l->h'.get? b=some o:=by
 have c:∀ b o,h.get? b=some o->((∃ o',h0.get? b=some o')\/∃ u,H' b=some u)->b∉frs l->h'.get? b=some o:=fun b o q r n=>k b o (F.kept b o q r n);have d:∀ b o,b∈frs l->h.get? b=some o->∃ g,h'.get? b=some { o with slots:=g }:=fun b o m q=>by
  obtain ⟨_,o',t,x⟩:=F.fly.2.2.1.mem m;rw [q] at t;cases t;exact sl b o q x
 refine ⟨fun a o e=>?_,⟨fun b o q n s _=>?_,fun b o q n m _=>?_,u.free,fun b o q z=>?_,u.tups,u.frzs,u.tbls⟩,c⟩
 ·have p:∀ b u,H' b=some u->b∉frs l:=fun b u q m=>by
   rw [fr b m] at q;cases q
  refine (hok a o e).stay (fun b v f q=>?_) (fun _ r=>r) (fun _ _ r=>r);rcases f with rfl | f
  ·exact c _ _ q (.inr ⟨_,e⟩) (p _ _ e)
  ·exact c _ _ q (.inr ⟨_,f⟩) (p _ _ f)
 ·exact c b o (u.keep b o q n s (by simp)) (.inl ⟨o,q⟩) s
 ·obtain ⟨y,i⟩:=u.slot b o q n m (by simp);obtain ⟨g,j⟩:=d b _ m i;exact ⟨g,j⟩
 ·obtain ⟨o',i⟩:=u.there b o q (by simp);by_cases m:b∈frs l
  ·obtain ⟨g,j⟩:=d b _ m i;exact ⟨_,j⟩
  ·exact ⟨o',c b o' i (.inl ⟨o,q⟩) m⟩
end
section
variable {h' B:Heap} {ea:Addr} {od:Option Addr} {a0:Value} {s:Shared} {cls:Value}
theorem Inv.out (I:Inv X pins σ H s) (hex:X.ex=[]) (u:Un (frs X.stack) [] H H' s.heap h'):Un X.fs [] X.H₀ H' X.s₀.heap h':=by
 have J:=I.base;rw [hex] at J;have r:∀ b o,X.s₀.heap.get? b=some o->b≠X.env.locals:=fun b o q z=>by
  have g:=Heap.lt_size q;have k:=I.ok.above;rw [z] at g;exact absurd (Nat.lt_of_lt_of_le g k) (Nat.lt_irrefl _)
 have j:∀ b o,X.s₀.heap.get? b=some o->b∉X.fs->b∉frs X.stack:=fun b o q c m=>by
  rcases mem_cons.mp (I.stkSub b m) with z | z
  ·exact r b o q z
  ·exact c z
 refine ⟨fun b o q n c _=>?_,fun b o q n m _=>?_,fun b o q n _=>?_,fun b o q _=>?_,fun b f q=>u.tups b f (J.tups b f q),fun b o v q=>u.frzs b o v (J.frzs b o v q),fun b i q=>?_⟩
 ·exact u.keep b o (J.keep b o q n c (by simp)) (J.free b o q n (by simp)) (j b o q c) (by simp)
 ·obtain ⟨t,a⟩:=J.slot b o q n m (by simp);obtain ⟨l,d⟩:=u.any a (J.free b o q n (by simp)) (by simp);exact ⟨l,d⟩
 ·obtain ⟨e,a⟩:=J.there b o q (by simp);exact u.free b e a (J.free b o q n (by simp)) (by simp)
 ·obtain ⟨e,a⟩:=J.there b o q (by simp);exact u.there b e a (by simp)
 ·obtain ⟨p,a⟩:=J.tbls b i q;obtain ⟨h,d⟩:=u.tbls b _ a;exact ⟨p++h,by rw [d,Array.append_assoc]⟩
theorem Inv.stkFree' (I:Inv X pins σ H s) (u:Un (frs X.stack) [] H H' s.heap h):∀ b∈frs X.stack,H' b=none:=fun b m=>by
 obtain ⟨_,o,q,_⟩:=I.stack.mem m;exact u.free b o q (I.stkFree b m) (by simp)
end
section
variable {mg:Str->Option Value} {base:Heap} {N:List Str} {qual:Str} {scope:Scope} {cdv:Value} {outer:List Env} {s0:Shared} {H0:Hp} {E:XK} {w:World} {K:W.Frag} {f:Addr}
theorem pass1:JbT (CX1 P w) (cxOf (CX1 P w) P w K mg base N qual scope f cdv A outer s0 H0 E) E:=by
 intro x σ H s e C I R;obtain ⟨i,Q,cls,a0,B,G,rfl,p,L,u,l,F,Y⟩:=R;have D:=I.stkFree' u;show wpAny (model P w) (A.deeper (envOfC qual scope s0.heap.objs.size f cdv)) (leaving (envOfC qual scope s0.heap.objs.size f cdv) (.ref i)) (fun _ g=>CX1 P w outer H0 s0 E (.ref i) g) (fun X g=>CX1 P w outer H0 s0 E X g) C;refine JkA (base:=B) (cls:=cls) (a0:=a0) I.ok.frames rfl F.fly F.dct fun W h t n=>?_;obtain ⟨j,V,Z⟩:=F.next u l D h.1 t;have k:s0.heap.get? i=none:=by
  cases q:s0.heap.get? i with
  | none=>rfl
  | some o=>
   obtain ⟨a,T⟩:=I.base.there i o q (by intro z;cases z);have:=F.new;rw [T] at this;cases this
 refine ⟨i,Q,cls,a0,B,G,rfl,p.trans I.os,L,I.out rfl V,j,⟨h,F.free,k,n,fun b o q r U=>?_⟩,Y⟩;have S:b≠s0.heap.objs.size:=fun z=>by
  rcases r with ⟨a,c⟩ | ⟨v,c⟩
  ·have:=Heap.lt_size c;rw [z] at this;exact absurd this (Nat.lt_irrefl _)
  ·have O:=D s0.heap.objs.size (by
    show s0.heap.objs.size∈frs (envOfC qual scope s0.heap.objs.size f cdv::outer);exact List.mem_filterMap.mpr ⟨_,mem_cons_self ..,rfl⟩)
   rw [z,O] at c;cases c
 have M:b∉frs (envOfC qual scope s0.heap.objs.size f cdv::outer):=fun m=>by
  rcases mem_cons.mp (I.stkSub b m) with z | z
  ·exact S z
  ·exact U z
 have J:(∃ a,s.heap.get? b=some a)\/∃ v,G b=some v:=by
  rcases r with ⟨a,c⟩ | r
  ·exact .inl (I.base.there b a c (by intro z;cases z))
  ·exact .inr r
 have d:∃ a,C.heap.get? b=some a:=by
  rcases J with ⟨a,c⟩ | ⟨v,c⟩
  ·exact u.there b a c (by simp)
  ·exact (l b v c).is_there
 obtain ⟨a,c⟩:=d;have z:=F.kept b a c J M;have y:=h.1 b a z;rw [show W.get? b=some o from q] at y;cases y;exact z
end
theorem passF {w:World}:JbT (CX1 P w) X E0:=fun _ _ _ _ _ _ _ h=>by
 obtain ⟨_,_,_,_,_,_,_,_,_,_,_,_,z⟩:=h;exact False.elim z
def unt (H:Hp) (a:Addr):Hp:=fun b=>if b=a then none else H b
theorem JgZ:unt H a a=none:=if_pos rfl
theorem Jdj {b:Addr} (h:b≠a):unt H a b=H b:=if_neg h
variable {C:Addr} {bmB:List Value} {newId:String}
theorem JhQ {K:W.Frag} (X:K.In h) (q:W.excIn K C bmB newId=true) :
  ∃ (bm:List Value) (N:Addr) (nm qn:Str) (bs:List Value) (hdct:Bool) (sn:List Str) (sub:List Value) (ab:Bool) (col:Option Bool) (dd:Option Addr) (k0 k1 k2 k3 k5:Option Value) (mN:Str->Option Value),
   h.get? C=some (excClassObj nm qn C N bs bm hdct sn sub ab col dd k0 k1 k2 k3 k5 newId)/\h.Ns N mN/\mN "__init__"=none/\OwnTail h bmB bm:=by
 unfold W.excIn at q;split at q
 next dd cd sl ho=>
  split at q
  next C' bm k0 k1 k2 k3 n k5 hm hs=>
   have p:((((C'=C/\n=newId)/\cd.hasDel=false)/\W.tailIn K bmB bm=true)/\W.nsOkIn K cd.ns=true)/\W.nsIn K cd.ns "__init__"=some none:=by simpa using q
   obtain ⟨⟨⟨⟨⟨l,i⟩,g⟩,f⟩,e⟩,k⟩:=p;obtain ⟨nm,bs,a,j,qn,o,sn,sub,ab,col,c⟩:=cd;have m:sl=#[k0,k1,k2,k3,some (.builtin n),k5]:=by
    cases sl;exact congrArg Array.mk hs
   subst l;subst i;subst m;have d:a=.ref C'::bm:=hm;subst d;have b:c=false:=g;subst b;exact ⟨bm,j,nm,qn,bs,o,sn,sub,ab,col,dd,k0,k1,k2,k3,k5,_,X _ _ ho, .of_isNs (W.isNs_of_in X e),W.nsMap_none_of_in X e k,W.tail_of_in X f⟩
  next=>cases q
 next=>cases q
section
variable {mg:Str->Option Value} {base:Heap} {N:List Str} {qual:Str} {scope:Scope} {cdv:Value} {outer:List Env} {s0:Shared} {H0:Hp} {E:XK} {w:World} {K:W.Frag} {f:Addr} {h':Heap} {e:Addr} {us:List Value}
theorem JlJ {s:Shared} {cls:Value}
  (I:Inv (cxOf (CX1 P w) P w K mg base N qual scope f cdv A outer s0 H0 E) pins σ H s) (hm:Heap.MadeExcOf s.heap h' e cls us) (q:E cls none H) :
  (cxOf (CX1 P w) P w K mg base N qual scope f cdv A outer s0 H0 E).xe (.ref e) { s with heap:=h' }:=by
 show wpAny (model P w) (A.deeper (envOfC qual scope s0.heap.objs.size f cdv)) (leaving (envOfC qual scope s0.heap.objs.size f cdv) (.ref e)) (fun _ k=>CX1 P w outer H0 s0 E (.ref e) k) (fun X k=>CX1 P w outer H0 s0 E X k) { s with heap:=h' };have T:=I.stkFree;have F:∀ i∈(envOfC qual scope s0.heap.objs.size f cdv::outer), ∀ b,i.frame=some b->b∈frs (envOfC qual scope s0.heap.objs.size f cdv::outer):=fun i M b h=>List.mem_filterMap.mpr ⟨i,M,h⟩;obtain ⟨t,M,_,_⟩:=hm.there;refine JjO (s:={ s with heap:=h' }) (base:=W.hideAll s.heap (frs (envOfC qual scope s0.heap.objs.size f cdv::outer))) I.ok.frames ((W.funFrames_hide I.stack F).of_keeps fun b o h Z=>⟨o,hm.keeps b o h,rfl⟩) rfl M (fun b o z=>hm.keeps b o (W.of_hideAll _ z)) ?_ rfl rfl rfl fun C B x D=>?_
 ·cases z:(W.hideAll s.heap (frs (envOfC qual scope s0.heap.objs.size f cdv::outer))).get? e with
  | none=>rfl
  | some o=>
   have R:=W.of_hideAll _ z;rw [hm.new] at R;cases R
 have j:H e=none:=I.hok.isnone hm.new;have c:∀ b o,s.heap.get? b=some o->b∉frs (envOfC qual scope s0.heap.objs.size f cdv::outer)->C.get? b=some o:=fun b o z n=>B.1 b o (W.hideAll_get _ z n);have u:Un (frs (envOfC qual scope s0.heap.objs.size f cdv::outer)) [] H H s.heap C:=by
  refine ⟨fun b o z _ n _=>c b o z n,fun b o z _ m _=>?_,fun _ _ _ n _=>n,fun b o z _=>?_,fun _ _ z=>z,fun _ _ _ z=>z,fun _ ps z=>⟨#[],by rw [z];simp⟩⟩
  ·obtain ⟨_,g,d,G⟩:=I.stack.mem m;rw [z] at d;cases d;exact x b o (hm.keeps b o z) G
  ·by_cases m:b∈frs (envOfC qual scope s0.heap.objs.size f cdv::outer)
   ·obtain ⟨_,g,d,G⟩:=I.stack.mem m;rw [z] at d;cases d;obtain ⟨s2,S⟩:=x b o (hm.keeps b o z) G;exact ⟨_,S⟩
   ·exact ⟨o,c b o z m⟩
 have J:∀ b v,H b=some v->b∉frs (envOfC qual scope s0.heap.objs.size f cdv::outer):=fun b v z m=>by
  rw [T b m] at z;cases z
 have L:HOk P w H C:=fun a o z=>by
  refine (I.hok a o z).stay (fun b v h l=>?_) (fun _ r=>r) (fun _ _ r=>r);rcases h with rfl | h
  ·exact c _ _ l (J _ _ z)
  ·exact c _ _ l (J _ _ h)
 have p:s0.heap.get? e=none:=by
  cases z:s0.heap.get? e with
  | none=>rfl
  | some o=>
   obtain ⟨g,U⟩:=I.base.there e o z (by intro z;cases z);have:=hm.new;rw [U] at this;cases this
 refine ⟨e,none,cls, .ref t,_,H,rfl,I.os,I.bare,I.out rfl u,L,⟨B,j,p,D,fun b o z r V=>?_⟩,q⟩;have Y:∃ g,s.heap.get? b=some g:=by
  rcases r with ⟨g,d⟩ | ⟨v,d⟩
  ·exact I.base.there b g d (by intro z;cases z)
  ·exact (I.hok b v d).is_there
 have O:b∉frs (envOfC qual scope s0.heap.objs.size f cdv::outer):=fun m=>by
  rcases mem_cons.mp (I.stkSub b m) with y | y
  ·rcases r with ⟨g,d⟩ | ⟨v,d⟩
   ·have Q:=Heap.lt_size d;rw [y] at Q;exact absurd Q (Nat.lt_irrefl _)
   ·exact J b v d m
  ·exact V y
 obtain ⟨g,d⟩:=Y;have l:=c b g d O;rw [show C.get? b=some o from z] at l;cases l;exact W.hideAll_get _ d O
variable {oe:Obj} {a0:Value}
theorem JlK {s:Shared} {vs:Array Value} {φ:Heap->Prop}
  (I:Inv (cxOf (CX1 P w) P w K mg base N qual scope f cdv A outer s0 H0 E) pins σ H s) (ht:H e=some (.ext φ)) (he:s.heap.get? e=some oe) (hd:oe.data=.fields vs) (h1:vs[1]?=some .none) (h0:vs[0]?=some a0) (new0:s0.heap.get? e=none) (q:E oe.cls oe.dict (unt H e)) :
  (cxOf (CX1 P w) P w K mg base N qual scope f cdv A outer s0 H0 E).xe (.ref e) s:=by
 show wpAny (model P w) (A.deeper (envOfC qual scope s0.heap.objs.size f cdv)) (leaving (envOfC qual scope s0.heap.objs.size f cdv) (.ref e)) (fun _ l=>CX1 P w outer H0 s0 E (.ref e) l) (fun U l=>CX1 P w outer H0 s0 E U l) s;have R:=I.stkFree;have F:∀ k∈(envOfC qual scope s0.heap.objs.size f cdv::outer), ∀ b,k.frame=some b->b∈e::frs (envOfC qual scope s0.heap.objs.size f cdv::outer):=fun k he b j=>.tail _ (List.mem_filterMap.mpr ⟨k,he,j⟩);refine JjO (base:=W.hideAll s.heap (e::frs (envOfC qual scope s0.heap.objs.size f cdv::outer))) I.ok.frames (W.funFrames_hide I.stack F) rfl he (fun b o z=>W.of_hideAll _ z) (W.hideAll_none _ (.head _)) hd h1 h0 fun x C L t=>?_;have c:∀ b o,s.heap.get? b=some o->b≠e->b∉frs (envOfC qual scope s0.heap.objs.size f cdv::outer)->x.get? b=some o:=fun b o z p n=>C.1 b o (W.hideAll_get _ z fun m=>(mem_cons.mp m).elim p n);have B:∀ b,H b=none->b≠e:=fun b z y=>by rw [y,ht] at z;cases z
 have g:∀ b o,s.heap.get? b=some o->b∈frs (envOfC qual scope s0.heap.objs.size f cdv::outer)->∃ sl,x.get? b=some { o with slots:=sl }:=fun b o z m=>by
  obtain ⟨_,h,d,O⟩:=I.stack.mem m;rw [z] at d;cases d;exact L b o z O
 have u:Un (frs (envOfC qual scope s0.heap.objs.size f cdv::outer)) [] H (unt H e) s.heap x:=by
  refine ⟨fun b o z n m _=>c b o z (B b n) m,fun b o z _ m _=>g b o z m,fun b _ _ n _=>by rw [Jdj (B b n)];exact n,fun b o z _=>?_,fun b X z=>?_,fun b o v z=>?_,fun b Y z=>⟨#[],?_⟩⟩
  ·by_cases y:b=e
   ·obtain ⟨S,i,_⟩:=t;exact ⟨S,y ▸ i⟩
   ·by_cases m:b∈frs (envOfC qual scope s0.heap.objs.size f cdv::outer)
    ·obtain ⟨Z,Q⟩:=g b o z m;exact ⟨_,Q⟩
    ·exact ⟨o,c b o z y m⟩
  ·rw [Jdj (fun y=>by rw [y,ht] at z;cases z)];exact z
  ·rw [Jdj (fun y=>by rw [y,ht] at z;cases z)];exact z
  ·rw [Jdj (fun y=>by rw [y,ht] at z;cases z),z];simp
 have G:∀ b v,H b=some v->b∉frs (envOfC qual scope s0.heap.objs.size f cdv::outer):=fun b v z m=>by
  rw [R b m] at z;cases z
 have D:∀ b v,unt H e b=some v->b≠e/\H b=some v:=fun b v z=>by
  by_cases y:b=e
  ·rw [y,JgZ] at z;cases z
  ·exact ⟨y,(Jdj y).symm.trans z⟩
 have J:HOk P w (unt H e) x:=fun a o z=>by
  obtain ⟨p,z⟩:=D a o z;refine (I.hok a o z).stay (fun b v j i=>?_) (fun b r=>by rw [Jdj (fun y=>by rw [y,ht] at r;cases r)];exact r) (fun b _ r=>by rw [Jdj (fun y=>by rw [y,ht] at r;cases r)];exact r);rcases j with rfl | j
  ·exact c _ _ i p (G _ _ z)
  ·exact c _ _ i (fun y=>by rw [y,ht] at j;cases j) (G _ _ j)
 refine ⟨e,oe.dict,oe.cls,a0,_,unt H e,rfl,I.os,I.bare,I.out rfl u,J,⟨C,JgZ,new0,t,fun b o z r T=>?_⟩,q⟩;have p:b≠e:=fun y=>by
  rcases r with ⟨h,d⟩ | ⟨v,d⟩
  ·rw [y,new0] at d;cases d
  ·exact (D _ _ d).1 y
 have V:∃ h,s.heap.get? b=some h:=by
  rcases r with ⟨h,d⟩ | ⟨v,d⟩
  ·exact I.base.there b h d (by intro z;cases z)
  ·exact (I.hok b v (D _ _ d).2).is_there
 have M:b∉frs (envOfC qual scope s0.heap.objs.size f cdv::outer):=fun m=>by
  rcases mem_cons.mp (I.stkSub b m) with y | y
  ·rcases r with ⟨h,d⟩ | ⟨v,d⟩
   ·have h1:=Heap.lt_size d;rw [y] at h1;exact absurd h1 (Nat.lt_irrefl _)
   ·exact G b v (D _ _ d).2 m
  ·exact T y
 obtain ⟨h,d⟩:=V;have i:=c b h d p M;rw [show x.get? b=some o from z] at i;cases i;exact W.hideAll_get _ d fun m=>(mem_cons.mp m).elim p M
def Jj3 (E:XK) (C:Addr) (ta:TA):TS:=fun _ σ H=>ta σ H fun vs H1=>vs.length<=sizeLine/\E (.ref C) none H1
variable {x:Str} {np:Pos} {e:Expr} {es:List Expr}
theorem JgV {cpos:Pos} {B initId:String} {ta:TA} (FB:ExcBaseFacts B newId initId bmB) (hx:W.excIn K C bmB newId=true)
  (hg:Gl (cxOf (CX1 P w) P w K mg base N qual scope f cdv A outer s0 H0 E) x) (hm:mg x=some (.ref C)) (ha:PA (cxOf (CX1 P w) P w K mg base N qual scope f cdv A outer s0 H0 E) (e::es) ta)
  (he:starEach (e::es) (envOfC qual scope s0.heap.objs.size f cdv)=(false,eval e (envOfC qual scope s0.heap.objs.size f cdv))::starEach es (envOfC qual scope s0.heap.objs.size f cdv):=by rfl)
  (hpl:(backTo cpos (starEach es (envOfC qual scope s0.heap.objs.size f cdv))).any (·.1)=false:=by rfl) (hdb:(x == ("__debug__" : Str))=false:=by decide) :
  PS (cxOf (CX1 P w) P w K mg base N qual scope f cdv A outer s0 H0 E) (.Raise (some (.Call (.Name x np) (e::es) [] cpos)) none pos) (Jj3 E C ta):=by
 intro a s σ H D I h;obtain ⟨bm,g,nm,m,bs,hdct,sn,sub,ab,col,dd,k0,k1,k2,k3,k5,mN,k,i,b,T⟩:=JhQ I.mod.kin hx;have d:(A.deeper (envOfC qual scope s0.heap.objs.size f cdv)).handled=none:=I.ok.hd rfl;refine wpAny_Raise_call_subT (C:=C) (nm:=nm) (q:=m) (N:=g) (bs:=bs) (bm:=bm) (hdct:=hdct) (sn:=sn) (sub:=sub) (ab:=ab) (col:=col) (dd:=dd) (k0:=k0) (k1:=k1) (k2:=k2) (k3:=k3) (k5:=k5)
  FB (mN:=mN) (T.hasType FB.hasBase) d ?_ b (Jck I hg hm ⟨rfl,?_⟩ hdb)
 ·show (backTo cpos (starEach (e::es) (envOfC qual scope s0.heap.objs.size f cdv))).any (·.1)=false;rw [he];show (false||(backTo cpos (starEach es (envOfC qual scope s0.heap.objs.size f cdv))).any (·.1))=false;rw [hpl];rfl
 ·have z:=ha cpos a s σ H _ I h;show wpAny _ _ (evalArgs (.ref C) true (backTo cpos (starEach (e::es) (envOfC qual scope s0.heap.objs.size f cdv))) []) _ _ _;have j:=he;rw [he];refine Calls.evalArgs_plain ?_;have c:wpAny (model P w) (A.deeper (envOfC qual scope s0.heap.objs.size f cdv)) (spliced (backTo cpos (starEach (e::es) (envOfC qual scope s0.heap.objs.size f cdv)))) _ _ s:=z;rw [he] at c;refine thn c fun u p ζ=>?_;obtain ⟨n,o,I1,r,l,q⟩:=ζ;exact ⟨rfl,by rw [<- r.length];exact l,I1.bk _ _ k,i.keeps I1.bk,T.keeps I1.bk,fun t e hm=>JlJ I1 hm q⟩
end
def PEx (X:Cx) (e:Expr) (t:St->Hp->VK->XK->Prop):Prop :=
 ∀ (pins:List (Addr × Obj)) (s:Shared) (σ : St) (H:Hp) (Q:VK) (E:XK),Inv X pins σ H s->t σ H Q E ->
  wpAny (model X.prog X.w) X.A (eval e X.env) (EP X pins σ Q) (fun ev s'=>∃ H1 s1,Inv X pins σ H1 s1/\CX1 X.prog X.w X.stack H1 s1 E ev s') s
def xCall (sp:Sp) (dvs:List V) (t:TA):St->Hp->VK->XK->Prop:=fun σ H Q E=>t σ H fun vs H1=>sp (vs++dvs) H1 Q E
section
variable {fd:FuncData} {ps:List Str} {sp:Sp} {dvs:List V} {ds:List Value} {E:XK} {x:Str} {p apos:Pos} {e o:Expr} {es:List Expr} {ta:TE} {k:Nat} {f:Addr} {m:Str} {t:TA}
theorem Jk6 {s:Shared} {Q:VK} {us:List Value} {vs:List V} (F:FnOk X.prog X.w X.K X.mg X.base (CX1 X.prog X.w) k f fd ps sp) (hr:Room k X.A) (hb:Binds X.K fd ps ds) (hd:Vals dvs ds)
  (I:Inv X pins σ H s) (r:Vals vs us) (h:sp (vs++dvs) H Q E):wpAny (model X.prog X.w) X.A (call (.ref f) us) (EP X pins σ Q) (fun ev s'=>∃ H1 s1,Inv X pins σ H1 s1/\CX1 X.prog X.w X.stack H1 s1 E ev s') s:=by
 have c:Vals (vs++dvs) (us++ds):=r.append hd;have d:(us++ds).length=ps.length:=(c.length.symm).trans (F.len _ _ _ _ h);have g:=F.run X.A X.stack s H ⟨us,[]⟩ (us++ds) (vs++dvs) Q E hr I.env0 (hb s us I.kIn d) c h;refine wpAny_call (codeAny_mono g fun b s' a=>?_);match b,a with
 | .error e,a=>exact ⟨H,s,I,a⟩
 | .ok (.ret u),a=>exact I.after a
 | .ok .next,a=>exact a.elim
 | .ok .brk,a=>exact a.elim
 | .ok .cont,a=>exact a.elim
theorem Jjn (F:FnOk X.prog X.w X.K X.mg X.base (CX1 X.prog X.w) k f fd ps sp) (hr:Room k X.A) (hg:Gl X x) (hm:X.mg x=some (.ref f)) (hk:W.keepIn X.K (.ref f)=true) (hb:Binds X.K fd ps ds) (hd:Vals dvs ds)
  (ha:PA X.nox (e::es) t) (hdb:(x == ("__debug__" : Str))=false:=by decide) (he:starEach (e::es) X.env=(false,eval e X.env)::starEach es X.env:=by rfl) (hpl:(backTo pos (starEach es X.env)).any (·.1)=false:=by rfl) :
  PEx X (.Call (.Name x p) (e::es) [] pos) (xCall sp dvs t):=by
 intro a s σ H Q E I h;refine wpAny_Call_Name_kw (Jck I hg hm ?_ hdb);have z:=ha pos a s σ H _ (I.wish _) h;refine W.callWith_K (h₀:=X.base) I.ok.mod.kin hk (wpAny_mono z (fun b c ζ=>?_) fun _ _ y=>y.elim) he hpl;obtain ⟨d,g,I1,r,q⟩:=ζ;refine ⟨I1.unwish.kIn,?_⟩;exact Jk6 F hr hb hd I1.unwish r q
end
section
variable {s':Shared} {h' B:Heap} {ea:Addr} {od:Option Addr} {a0:Value} {s:Shared} {cls:Value}
theorem Inv.track {o:HO} (I:Inv X pins σ H s) (hn:H a=none) (h1:X.s₀.heap.get? a=none) (h2:a≠X.env.locals) (h3:∀ x c,X.env.cells.lookup x=some c->c≠a) (h4:∀ p∈X.pn++pins,p.1≠a)
  (ok:ObjOk X.prog X.w (upd H a o) s.heap a o):Inv X pins σ (upd H a o) s:=by
 have d:∀ b u,H b=some u->b≠a:=fun b u q=>Jah q hn;refine ⟨I.ok,I.os,I.bare,⟨I.base.keep,I.base.slot,fun b f q n j=>?_,I.base.there,fun b g q=>?_,fun b f u q=>?_,fun b k q=>?_⟩,I.loc,I.cell,?_,fun x c e=>?_,fun p i=>?_,fun b u q=>?_,I.len⟩
 ·have : b≠a:=fun z=>by rw [z,h1] at q;cases q
  rw [Jag this];exact I.base.free b f q n j
 ·have z:=I.base.tups b g q;rw [Jag (d _ _ z)];exact z
 ·have z:=I.base.frzs b f u q;rw [Jag (d _ _ z)];exact z
 ·obtain ⟨l,z⟩:=I.base.tbls b k q;exact ⟨l,by rw [Jag (d _ _ z)];exact z⟩
 ·rw [Jag (Ne.symm h2)];exact I.free
 ·rw [Jag (h3 x c e)];exact I.freeC x c e
 ·obtain ⟨e,n,r⟩:=I.pin p i;exact ⟨e,by rw [Jag (h4 p i)];exact n,r⟩
 ·by_cases h:b=a
  ·subst h;rw [Jaj] at q;cases q;exact ok
  ·rw [Jag h] at q;exact (I.hok b u q).stay (fun _ _ _ z=>z) (fun c z=>by rw [Jag (d _ _ z)];exact z) (fun c g z=>by rw [Jag (d _ _ z)];exact z)
def ExcO (e C:Addr) (od:Option Addr:=none):HO:=.ext fun h=>∃ ox vs,h.get? e=some ox/\ox.cls=.ref C/\ox.data=.fields vs/\ox.dict=od
theorem Inv.landed {sF:Shared} (I:Inv X pins σ H s) (hex:X.ex=[]) (u:Un (frs X.stack) [] H H' s.heap s'.heap) (hok:HOk X.prog X.w H' s'.heap) (F:Fly X.stack H' s.heap ea od (.ref C) a0 B s'.heap) (hos:s'.os=s.os) (hg:AllBare s'.gens)
  (hfl:Heap.FlyingW B X.stack ea (.ref C) a0 h') (hup:s'.heap.UpToSlots h') (hdc:DictAt h' ea od) (hs:sF={ s' with heap:=h' }):Inv X pins σ (upd H' ea (ExcO ea C od)) sF:=by
 subst hs;obtain ⟨d,L,_⟩:=F.next u hok (I.stkFree' u) hfl.1 hup;have I2:Inv X pins σ H' { s' with heap:=h' }:=I.call' (s':={ s' with heap:=h' }) hos L d hg (fun b z=>absurd z (by simp));have a:∀ b o,s.heap.get? b=some o->b≠ea:=fun b o q z=>by
  have:=F.new;rw [<- z,q] at this;cases this
 obtain ⟨m,y,_⟩:=I.loc;obtain ⟨N,_,_,h,_⟩:=y;refine I2.track F.free ?_ (Ne.symm (a _ _ h)) (fun x c e z=>?_) (fun p K z=>?_) ?_
 ·cases q:X.s₀.heap.get? ea with
  | none=>rfl
  | some o=>
   obtain ⟨Q,j⟩:=I.base.there ea o q (by rw [hex];simp);exact absurd rfl (a _ _ j)
 ·obtain ⟨v,i⟩:=I.cell x c e;obtain ⟨R,l,_⟩:=i;exact a _ _ l z
 ·obtain ⟨e,_⟩:=I.pin p K;exact a _ _ e z
 ·obtain ⟨r,J,n,i,M,_⟩:=hfl.first;obtain ⟨D,f,g⟩:=hdc;rw [show h'.get? ea=some r from n] at f;cases f;exact ⟨⟨r,J,n,i,M,g⟩,⟨_,n⟩,fun P O ⟨t,G,j,E,A⟩ k=>⟨t,G,k _ j,E,A⟩⟩
abbrev Cx.inx (X:Cx) (e:Addr):Cx:={ X with A:=X.A.mark (some (.ref e)),calm:=false,xe:=fun _ _=>False }
theorem Cx.Ok.inx (ok:X.Ok) (e:Addr):(X.inx e).Ok :=
 ⟨ok.mod,ok.kind,ok.glob,ok.blt,ok.above,ok.inj,ok.has,ok.cab,fun z=>(by cases z),ok.frames,ok.stk,ok.exf,ok.bs,ok.bsz,ok.noex,ok.exfs,ok.funs,ok.frf⟩
theorem Inv.inx (I:Inv X pins σ H s) (e:Addr):Inv (X.inx e) pins σ H s :=
 ⟨I.ok.inx e,I.os,I.bare,I.base,I.loc,I.cell,I.free,I.freeC,I.pin,I.hok,I.len⟩
variable {e:Addr}
theorem Inv.outx (I:Inv (X.inx e) pins σ H s) (ok:X.Ok):Inv X pins σ H s :=
 ⟨ok,I.os,I.bare,I.base,I.loc,I.cell,I.free,I.freeC,I.pin,I.hok,I.len⟩
variable {x:Str}
theorem Inv.goes {i:Nat} {t':Nat} {m m':Str->Option Value} (I:Inv X pins σ H s) (hN:X.N.Nodup) (hi:X.N[i]?=some x) (hs:Heap.SameBut X.env.locals s.heap h')
  (hn:s.heap.Ns X.env.locals m) (hn':h'.Ns X.env.locals m') (hm:∀ y,y≠x->m' y=m y):Inv X pins (σ.set i none) H { s with heap:=h',toks:=t' }:=by
 obtain ⟨K,A,B⟩:=I.loc;have L:K=m:=(Heap.Ns.eq_nsMap A).trans (Heap.Ns.eq_nsMap hn).symm;subst L;have w:∀ b o,X.s₀.heap.get? b=some o->b≠X.env.locals:=fun b o e=>Nat.ne_of_lt (Nat.lt_of_lt_of_le (Heap.lt_size e) I.ok.above);refine ⟨I.ok,I.os,I.bare,⟨fun b o e n t h=>?_,fun b o e n t h=>?_,I.base.free,fun b o e h=>?_,I.base.tups,I.base.frzs,I.base.tbls⟩,⟨m',hn',fun j y v g f J=>?_⟩,fun y c e=>?_,I.free,I.freeC,fun p M=>?_,fun a o e=>?_,by rw [List.length_set];exact I.len⟩
 ·exact (hs.2 b (w b o e)).trans (I.base.keep b o e n t h)
 ·obtain ⟨F,g⟩:=I.base.slot b o e n t h;exact ⟨F,(hs.2 b (w b o e)).trans g⟩
 ·obtain ⟨O,g⟩:=I.base.there b o e h;exact ⟨O,(hs.2 b (w b o e)).trans g⟩
 ·have D:j≠i:=fun z=>by
   subst z;by_cases B:j<σ.length
   ·rw [List.getElem?_set_self B] at f;cases f
   ·rw [List.getElem?_eq_none (by rw [List.length_set];ac_nf)] at f;cases f
  rw [List.getElem?_set_ne (Ne.symm D)] at f;obtain ⟨u,r,q⟩:=B j y v g f J;have G:y≠x:=fun z=>D (JeX hN g (z ▸ hi));refine ⟨u,r,?_⟩;rcases q with ⟨k,e⟩ | ⟨k,c,e,z⟩
  ·exact .inl ⟨k,(hm y G).trans e⟩
  ·exact .inr ⟨k,c,e,z.sameBut hs (I.cne y c e)⟩
 ·obtain ⟨v,z⟩:=I.cell y c e;exact ⟨v,z.sameBut hs (I.cne y c e)⟩
 ·obtain ⟨e,n,C,E,d⟩:=I.pin p M;exact ⟨(hs.2 p.1 C).trans e,n,C,E,d⟩
 ·refine (I.hok a o e).stay (fun c v l q=>(hs.2 c ?_).trans q) (fun _ q=>q) fun _ _ q=>q;rintro rfl;rcases l with z | l
  ·rw [<- z] at e;rw [I.free] at e;cases e
  ·rw [I.free] at l;cases l
end
structure JeJ (K:W.Frag) (C D:Addr):Prop where
 cl:W.hasDictIn K D=true
 ty:W.typeIn K (.ref D)=some (.type "type")
 ex:W.mroIn K D (.type "BaseException")=some true
 ab:W.mroIn K C (.ref D)=some true
variable {M:Model}
theorem JhW {K:W.Frag} {D:Addr} (X:K.In h) (c:W.hasDictIn K D=true):W.Looks M h (isType (.ref D)) true:=by
 obtain ⟨d,a,_⟩:=W.any_some c;unfold W.clsIn at a;split at a
 next c' d' cd' sl' ho=>
  intro A' Q' E' b k q;unfold isType loadHead;exact wpAny_bind (wpAny_loadPart (k _ _ (X _ _ ho)) (wpAny_pure q))
 next=>cases a
theorem JfA {K:W.Frag} {s:Shared} {e D:Addr} {oe:Obj} {Q:Bool->Shared->Prop} (X:K.In s.heap) (he:s.heap.get? e=some oe) (hc:oe.cls=.ref C) (c:JeJ K C D) (h:Q true s) :
  wpAny M A (excMatches (.ref e) (.ref D)) Q E s:=by
 obtain ⟨a,g,d,t,b⟩:=s;have L0:W.Looks M a (typeOf (.ref e)) (.ref C):=hc ▸ (W.Looks.ld he).andThen .now;have L1:=W.looks_typeIn (M:=M) X c.ty;have L2:=W.looks_mroIn (M:=M) X c.ex;have L3:=W.looks_mroIn (M:=M) X c.ab;have L4:=JhW (M:=M) X c.cl;have f:=tc_notTuple;unfold excMatches isInstance isExcClass;repeat (first | lk | wp_step)
 exact h
section
variable {ce:Expr} {epos hpos np:Pos} {x n:Str} {b0:Stmt} {suite:List Stmt} {ts:TS} {D:Addr} {t:St->Hp->VK->XK->Prop}
def Jj5 (K:W.Frag) (D:Addr) (i:Nat) (t:St->Hp->VK->XK->Prop) (ts:TS):TS:=fun Dn σ H=>t σ H (fun _ H1=>Dn.nx σ H1) fun cls od H1=>∃ C,cls=.ref C/\JeJ K C D /\
 ∀ ea,H1 ea=none->ts { nx:=fun σ' H'=>Dn.nx (σ'.set i none) H',rt:=Dn.rt,bk:=fun σ' H'=>Dn.bk (σ'.set i none) H',ct:=fun σ' H'=>Dn.ct (σ'.set i none) H' } (σ.set i (some (.ref ea))) (upd H1 ea (ExcO ea C od))
theorem Jjq {i:Nat} (hN:X.N.Nodup) (hi:X.N[i]?=some n) (hl:X.env.scope.names.lookup n=some .local) (hcall:PEx X ce t) (hg:Gl X x) (hm:X.mg x=some (.ref D)) (hsu:∀ e,PSs (X.inx e) (b0::suite) ts)
  (hex:X.ex=[]:=by rfl) (hst:X.stack=X.env::X.outer:=by rfl) (hfl:X.env.frame=some X.env.locals:=by rfl)
  (hs:swapsWith ce none epos.line X.env=pure false:=by rfl) (hdb:(x == ("__debug__" : Str))=false:=by decide) :
  PS X (.Try [.Expr ce epos] [.ExceptHandler (some (.Name x np)) (some n) (b0::suite) hpos] [] [] pos) (Jj5 X.K D i t ts):=by
 intro a s σ H Dn I h;refine wpAny_Try_except (wpAny_execs_cons (wpAny_Expr_any (wpAny_mono (hcall a s σ H _ _ I h) (fun v s1 ⟨y,H1,I1,r1,q1⟩=>?_) (fun ev s1 hx=>?_)) I.quiet hs))
 ·exact wpAny_execs_nil (wpAny_execs_nil ⟨σ,H1,I1,q1⟩)
 ·obtain ⟨H1,s0,I1,o,od,a1,a0,B,H',rfl,P,hb,u,O,F,C,rfl,M,hq⟩:=hx;have V:X.A.frames=some (X.env::X.outer):=by rw [<- hst];exact I.ok.frames
  have F':=F.fly;rw [hst] at F';refine noteD V hfl F' F.dct fun h4 p S Y=>?_;refine JlI p Y fun h5 g T E=>?_;have Q:=S.trans T;have d:=g;rw [<- hst] at d;have I5:=I1.landed hex u O F P hb d Q E rfl;obtain ⟨oe,vs,he,hc,_,_⟩:=g.first;refine wpAny_handleBy_cons (codeAny_handlers_test (Jck (X:=X.inx o) (I5.inx o) hg hm ?_ hdb)) (by intro z;cases z);refine JfA I5.kIn he hc M (codeAny_handlers_suite_as ?_);refine Jlo g E fun h6 G L Z=>?_;have c:=G;rw [<- hst] at c;have I6:=I1.landed hex u O F P hb c (Q.trans L) Z rfl;refine Jfk (X:=X) (v:=.ref o) I6 hN hi (.inl hl) rfl (fun s7 I7=>?_) (.inr hl);refine wpAny_mono (hsu o a s7 _ _ _ (I7.inx o) (hq o F.free)) (fun f s2 z=>?_) (fun _ _ z=>z.elim);have b:∀ {σ':St} {l:Hp} {R:Flow->Shared->Prop} {E2:Value->Shared->Prop},Inv (X.inx o) a σ' l s2->(∀ j,Inv X a (σ'.set i none) l j->R f j) ->
    wpAny (model X.prog X.w) X.A (do bindName X.env n .none;unbindBehindTheSuite X.env n hpos) (fun _ j=>R f j) E2 s2:=fun {σ' l R E2} J k=>by
   have J':=J.outx I.ok;obtain ⟨m,hn,_⟩:=J'.loc;refine wpAny_nameGoes_keeps hl hn (by rw [I.ok.kind];rfl) fun h' v W U=>k _ (J'.goes hN hi U hn W fun y hy=>if_neg hy)
  cases f with
  | next=>obtain ⟨σ',l,J,q⟩:=z;exact b J fun j J3=>⟨_,_,J3,q⟩
  | brk=>obtain ⟨σ',l,J,q⟩:=z;exact b J fun j J3=>⟨_,_,J3,q⟩
  | cont=>obtain ⟨σ',l,J,q⟩:=z;exact b J fun j J3=>⟨_,_,J3,q⟩
  | ret v=>obtain ⟨y,σ',l,J,r,q⟩:=z;exact b J fun j J3=>⟨y,_,_,J3,r,q⟩
end
inductive D where
 | non | bl (b:Bool) | int (i:Int) | str (x:Str) | tup (xs:List D) | lst (xs:List D)
mutual
def Rep (K:W.Frag) (H:Hp):D->V->Prop
 | .non,v=>v=.non
 | .bl b,v=>v=.bl b
 | .int i,v=>v=.int i
 | .str x,v=>v=.str x
 | .tup ds,v=>∃ a xs,v=.ref a/\SqT K H a xs/\RepL K H ds xs
 | .lst ds,v=>∃ a xs,v=.ref a/\SqL K H a xs/\RepL K H ds xs
def RepL (K:W.Frag) (H:Hp):List D->List V->Prop
 | [],vs=>vs=[]
 | d::ds,vs=>∃ v r,vs=v::r/\Rep K H d v/\RepL K H ds r
end
mutual
def eqD:D->D->Bool
 | .non, .non=>true
 | .bl a, .bl b=>a == b
 | .int a, .int b=>a == b
 | .bl a, .int b=>(if a then 1 else 0) == b
 | .int a, .bl b=>a == (if b then 1 else 0)
 | .str a, .str b=>a == b
 | .tup xs, .tup ys=>eqL xs ys
 | .lst xs, .lst ys=>eqL xs ys
 | _,_=>false
def eqL:List D->List D->Bool
 | [],[]=>true
 | x::xs,y::ys=>eqD x y&&eqL xs ys
 | _,_=>false
end
mutual
def depD:D->Nat
 | .tup xs=>depL xs+1
 | .lst xs=>depL xs+1
 | _=>0
def depL:List D->Nat
 | []=>0
 | x::xs=>max (depD x) (depL xs)
end
theorem Jey:∀ {xs ys:List D},eqL xs ys=true->xs.length=ys.length
 | [],[],_=>rfl
 | [],_::_,h=>by simp [eqL] at h
 | _::_,[],h=>by simp [eqL] at h
 | x::xs,y::ys,h=>by
  simp only [eqL,Bool.and_eq_true] at h;simp only [length_cons,Jey h.2]
mutual
theorem JcM:∀ d:D,eqD d d=true
 | .non=>by simp [eqD]
 | .bl b=>by simp [eqD]
 | .int i=>by simp [eqD]
 | .str x=>by simp [eqD]
 | .tup xs=>by simp only [eqD];exact JeP xs
 | .lst xs=>by simp only [eqD];exact JeP xs
theorem JeP:∀ d:List D,eqL d d=true
 | []=>by simp [eqL]
 | x::xs=>by simp only [eqL,Bool.and_eq_true];exact ⟨JcM x,JeP xs⟩
end
theorem RepL.length {K:W.Frag}:∀ {ds:List D} {vs:List V},RepL K H ds vs->ds.length=vs.length
 | [],vs,h=>by
  simp only [RepL] at h;rw [h];rfl
 | d::ds,vs,h=>by
  simp only [RepL] at h;obtain ⟨v,r,rfl,_,h2⟩:=h;simp only [length_cons,RepL.length h2]
theorem RepL.get {K:W.Frag}:∀ {ds:List D} {vs:List V} {i:Nat} {d:D},RepL K H ds vs->ds[i]?=some d->∃ v,vs[i]?=some v/\Rep K H d v
 | [],_,_,_,_,e=>by simp at e
 | d::ds,vs,i,d',h,e=>by
  simp only [RepL] at h;obtain ⟨v,r,rfl,h1,h2⟩:=h;cases i with
  | zero=>simp at e;subst e;exact ⟨v,rfl,h1⟩
  | succ i=>
   obtain ⟨v',e',h'⟩:=RepL.get h2 (by simpa using e);exact ⟨v',by simpa using e',h'⟩
variable {xs:List V}
theorem SqL.same {K:W.Frag} (e:Same H H') (h:SqL K H a xs):SqL K H' a xs:=e.seq h
theorem SqT.same {K:W.Frag} (e:Same H H') (h:SqT K H a xs):SqT K H' a xs:=by
 rcases h with (h | ⟨o,h⟩) | h
 ·exact .inl (.inl (e _ _ h))
 ·exact .inl (.inr ⟨o,e _ _ h⟩)
 ·exact .inr h
mutual
theorem Rep.same {K:W.Frag} (e:Same H H'):∀ {d:D} {v:V},Rep K H d v->Rep K H' d v
 | .non,_,h=>by simpa only [Rep] using h
 | .bl _,_,h=>by simpa only [Rep] using h
 | .int _,_,h=>by simpa only [Rep] using h
 | .str _,_,h=>by simpa only [Rep] using h
 | .tup ds,_,h=>by
  simp only [Rep] at h ⊢;obtain ⟨a,xs,h1,h2,h3⟩:=h;exact ⟨a,xs,h1,h2.same e,RepL.same e h3⟩
 | .lst ds,_,h=>by
  simp only [Rep] at h ⊢;obtain ⟨a,xs,h1,h2,h3⟩:=h;exact ⟨a,xs,h1,h2.same e,RepL.same e h3⟩
theorem RepL.same {K:W.Frag} (e:Same H H'):∀ {d:List D} {v:List V},RepL K H d v->RepL K H' d v
 | [],_,h=>by simpa only [RepL] using h
 | x::xs,_,h=>by
  simp only [RepL] at h ⊢;obtain ⟨v,r,h1,h2,h3⟩:=h;exact ⟨v,r,h1,Rep.same e h2,RepL.same e h3⟩
end
section
variable {s:Shared}
theorem Inv.list_tuple (I:Inv X pins σ H s) {a:Addr} {xs ys:List V} (h:SqL X.K H a xs) (h':SqT X.K H a ys):False:=by
 obtain ⟨_,_,p,_⟩:=I.list h;obtain ⟨_,_,q,_⟩:=I.tuple h';obtain ⟨o,_,e,d,_⟩:=p;obtain ⟨f,c,b,_⟩:=q;rw [e] at c;cases c;rw [d] at b;exact absurd b ⋯
mutual
theorem Inv.rep_inj (I:Inv X pins σ H s):∀ {d e:D} {v:V},Rep X.K H d v->Rep X.K H e v->d=e
 | .non,e,v,h,h'=>by
  simp only [Rep] at h;subst h;cases e <;> simp [Rep] at h' ⊢
 | .bl _,e,v,h,h'=>by
  simp only [Rep] at h;subst h;cases e <;> simp [Rep] at h' ⊢
  exact h'
 | .int _,e,v,h,h'=>by
  simp only [Rep] at h;subst h;cases e <;> simp [Rep] at h' ⊢
  exact h'
 | .str _,e,v,h,h'=>by
  simp only [Rep] at h;subst h;cases e <;> simp [Rep] at h' ⊢
  exact h'
 | .tup ds,e,v,h,h'=>by
  simp only [Rep] at h;obtain ⟨a,xs,rfl,h2,h3⟩:=h;cases e with
  | tup es=>
   simp only [Rep] at h';obtain ⟨a',ys,q,g2,g3⟩:=h';cases q;have:=I.tuple_inj h2 g2;subst this;rw [Inv.repL_inj I h3 g3]
  | lst es=>
   simp only [Rep] at h';obtain ⟨a',ys,q,g2,g3⟩:=h';cases q;exact (I.list_tuple g2 h2).elim
  | _=>simp [Rep] at h'
 | .lst ds,e,v,h,h'=>by
  simp only [Rep] at h;obtain ⟨a,xs,rfl,h2,h3⟩:=h;cases e with
  | lst es=>
   simp only [Rep] at h';obtain ⟨a',ys,q,g2,g3⟩:=h';cases q;have:=I.list_inj h2 g2;subst this;rw [Inv.repL_inj I h3 g3]
  | tup es=>
   simp only [Rep] at h';obtain ⟨a',ys,q,g2,g3⟩:=h';cases q;exact (I.list_tuple h2 g2).elim
  | _=>simp [Rep] at h'
theorem Inv.repL_inj (I:Inv X pins σ H s):∀ {d e:List D} {v:List V},RepL X.K H d v->RepL X.K H e v->d=e
 | [],e,v,h,h'=>by
  simp only [RepL] at h;subst h;cases e <;> simp [RepL] at h' ⊢
 | x::xs,e,v,h,h'=>by
  simp only [RepL] at h;obtain ⟨u,r,rfl,h1,h2⟩:=h;cases e with
  | nil=>simp [RepL] at h'
  | cons y ys=>
   simp only [RepL] at h';obtain ⟨u',r',q,g1,g2⟩:=h';cases q;rw [Inv.rep_inj I h1 g1,Inv.repL_inj I h2 g2]
end
end
variable {α β:Type}
def JcH (f : α->β->Bool):List α->List β->Bool
 | [],[]=>true
 | x::xs,y::ys=>f x y&&JcH f xs ys
 | _,_=>false
def atB (f : α->β->Bool) (xs:List α) (ys:List β) (j:Nat):Bool:=match xs[j]?,ys[j]? with
 | some x,some y=>f x y
 | _,_=>true
theorem JcI (f : α->β->Bool):∀ (xs:List α) (ys:List β),
  ((List.range (min xs.length ys.length)).all (atB f xs ys)&&(xs.length == ys.length))=JcH f xs ys
 | [],[]=>by simp [JcH]
 | [],_::_=>by simp [JcH]
 | _::_,[]=>by simp [JcH]
 | x::xs,y::ys=>by
  have ih:=JcI f xs ys;simp only [JcH,length_cons];rw [<- ih,Nat.succ_min_succ,List.range_succ_eq_map,List.all_cons,List.all_map];have e:((List.range (min xs.length ys.length)).all (atB f (x::xs) (y::ys) ∘ Nat.succ))=(List.range (min xs.length ys.length)).all (atB f xs ys):=by
   congr 1
  rw [e];have e0:atB f (x::xs) (y::ys) 0=f x y:=by unfold atB;simp
  rw [e0,Bool.and_assoc]
  congr 2
  simp
theorem Jgc:∀ xs ys:List D,eqL xs ys=JcH eqD xs ys
 | [],[]=>by simp [eqL,JcH]
 | [],_::_=>by simp [eqL,JcH]
 | _::_,[]=>by simp [eqL,JcH]
 | x::xs,y::ys=>by simp only [eqL,JcH,Jgc xs ys]
theorem JgH:∀ {ds:List D} {d:D},d∈ds->depD d<=depL ds
 | [],_,h=>by simp at h
 | x::xs,d,h=>by
  simp only [depL];rcases mem_cons.mp h with rfl | h
  ·exact Nat.le_max_left ..
  ·exact Nat.le_trans (JgH h) (Nat.le_max_right ..)
def flatD:D->Bool
 | .tup _=>false
 | .lst _=>false
 | _=>true
def valD:D->V
 | .bl b=>.bl b
 | .int i=>.int i
 | .str x=>.str x
 | _=>.non
variable {d:D}
theorem Je8 {K:W.Frag} (f:flatD d=true) (h:Rep K H d v):v=valD d:=by
 cases d <;> simp_all [flatD,Rep,valD]
theorem JgK (f:flatD d=true):flatV (valD d)=true:=by
 cases d <;> simp_all [flatD,valD,flatV]
theorem Jkq {e:D} (f:flatD d=true) (g:flatD e=true):eqV (valD d) (valD e)=eqD d e:=by
 cases d <;> cases e <;> simp_all [flatD,valD,eqV,eqD]
section
variable {s:Shared}
theorem in1_units (A:Around):A.in1.units=A.units+1:=rfl
def EqP (X:Cx) (H:Hp) (s:Shared) (n:Nat):Prop:=∀ (d e:D) (A:Around) (x y:V) (u v:Value),depD d<=n->Rep X.K H d x->Rep X.K H e y->RelV x u->RelV y v->A.units+n<cLine->SeqAt.EqAt A s u v (eqD d e)
variable {n:Nat}
theorem JgO (ih:EqP X H s n) {ds es:List D} {xs ys:List V} {its jts:List Value} (h3:RepL X.K H ds xs) (g3:RepL X.K H es ys) (vi:Vals xs its) (vj:Vals ys jts) (hds:depL ds<=n) {A:Around} (hA:A.units+n<cLine) :
  ∀ j (p1:j<its.toArray.size) (p2:j<jts.toArray.size),SeqAt.EqAt A s its.toArray[j] jts.toArray[j] (atB eqD ds es j):=by
 intro j p1 p2;have i:its.length=ds.length:=by rw [h3.length,vi.length]
 have r:jts.length=es.length:=by rw [g3.length,vj.length]
 have a:j<ds.length:=by rw [<- i];simpa using p1
 have b:j<es.length:=by rw [<- r];simpa using p2
 obtain ⟨v,t,m⟩:=h3.get (List.getElem?_eq_getElem a);obtain ⟨u,k,p⟩:=g3.get (List.getElem?_eq_getElem b);obtain ⟨g,d,l⟩:=vi.get t;obtain ⟨h,e,o⟩:=vj.get k;have q:its.toArray[j]=g:=by
  have:=d;rw [List.getElem?_eq_getElem (by simpa using p1)] at this;simpa using this
 have c:jts.toArray[j]=h:=by
  have:=e;rw [List.getElem?_eq_getElem (by simpa using p2)] at this;simpa using this
 rw [q,c];have f:atB eqD ds es j=eqD ds[j] es[j]:=by
  unfold atB;rw [List.getElem?_eq_getElem a,List.getElem?_eq_getElem b]
 rw [f];exact ih _ _ _ _ _ _ _ (Nat.le_trans (JgH (List.getElem_mem a)) hds) m p l o hA
theorem Jmc (I:Inv X pins σ H s) {n:Nat} (ih:EqP X H s n) {ds es:List D} {a b:Addr} {xs ys:List V} (h2:SqT X.K H a xs) (h3:RepL X.K H ds xs) (g2:SqT X.K H b ys) (g3:RepL X.K H es ys) (hds:depL ds<=n) {A:Around} (hA:A.units+(n+1)<cLine) :
  SeqAt.RcAt A s (.ref a) (.ref b) (eqD (.tup ds) (.tup es))/\SeqAt.RcNeAt A s (.ref a) (.ref b) (!eqD (.tup ds) (.tup es)):=by
 obtain ⟨d,i,g,_⟩:=I.tuple h2;obtain ⟨c,e,h,_⟩:=I.tuple g2;have k:d.length=ds.length:=by rw [h3.length,i.length]
 have j:c.length=es.length:=by rw [g3.length,e.length]
 have f:=JgO ih h3 g3 i e hds (A:=A.in1) (by rw [in1_units];ac_nf);have l:eqD (.tup ds) (.tup es)=((List.range (min d.toArray.size c.toArray.size)).all (atB eqD ds es)&&d.toArray.size == c.toArray.size):=by
  simp only [eqD,Jgc];rw [<- JcI];simp only [size_toArray,k,j]
 rw [l];exact ⟨SeqAt.RcAt.tuples g h ∅ f,SeqAt.RcNeAt.tuples g h ∅ f⟩
theorem JlL (I:Inv X pins σ H s) {n:Nat} (ih:EqP X H s n) {ds es:List D} {a b:Addr} {xs ys:List V} (h2:SqL X.K H a xs) (h3:RepL X.K H ds xs) (g2:SqL X.K H b ys) (g3:RepL X.K H es ys) (hds:depL ds<=n) {A:Around} (hA:A.units+(n+1)<cLine) :
  SeqAt.RcAt A s (.ref a) (.ref b) (eqD (.lst ds) (.lst es))/\SeqAt.RcNeAt A s (.ref a) (.ref b) (!eqD (.lst ds) (.lst es)):=by
 obtain ⟨e,m,g,_⟩:=I.list h2;obtain ⟨i,k,h,_⟩:=I.list g2;have d:e.length=ds.length:=by rw [h3.length,m.length]
 have f:i.length=es.length:=by rw [g3.length,k.length]
 have l:=JgO ih h3 g3 m k hds (A:=A.in1) (by rw [in1_units];ac_nf);by_cases c:ds.length=es.length
 ·have j:eqD (.lst ds) (.lst es)=(List.range e.toArray.size).all (atB eqD ds es):=by
   simp only [eqD,Jgc];rw [<- JcI];simp [d,c]
  rw [j];exact ⟨SeqAt.RcAt.lists g.isList h.isList (by simp [d,f,c]) ∅ l,SeqAt.RcNeAt.lists g.isList h.isList (by simp [d,f,c]) ∅ l⟩
 ·have j:eqD (.lst ds) (.lst es)=false:=by
   cases q:eqD (.lst ds) (.lst es) with
   | false=>rfl
   | true=>simp only [eqD] at q;exact absurd (Jey q) c
  rw [j];exact ⟨SeqAt.RcAt.lists_lengths g.isList h.isList (by simp [d,f,c]) ∅,SeqAt.RcNeAt.lists_lengths g.isList h.isList (by simp [d,f,c]) ∅⟩
theorem JcT {K:W.Frag} {x:V} (h:Rep K H d x):(flatD d=true/\x=valD d)\/(∃ ds a xs,d=.tup ds/\x=.ref a/\SqT K H a xs/\RepL K H ds xs)\/∃ ds a xs,d=.lst ds/\x=.ref a/\SqL K H a xs/\RepL K H ds xs:=by
 cases d with
 | tup ds=>simp only [Rep] at h;obtain ⟨a,xs,b,c,e⟩:=h;exact .inr (.inl ⟨ds,a,xs,rfl,b,c,e⟩)
 | lst ds=>simp only [Rep] at h;obtain ⟨a,xs,b,c,e⟩:=h;exact .inr (.inr ⟨ds,a,xs,rfl,b,c,e⟩)
 | _=>exact .inl ⟨rfl,Je8 rfl h⟩
theorem JcN (I:Inv X pins σ H s) {d e:D} {x y:V} {u v:Value} (hd:Rep X.K H d x) (he:Rep X.K H e y) (ru:RelV x u) (rv:RelV y v) (m:flatD d=!flatD e) {A:Around} (hA:A.units<cLine) :
  eqD d e=false/\SeqAt.EqAt A s u v false/\SeqAt.RcAt A s u v false/\SeqAt.RcNeAt A s u v true:=by
 rcases JcT hd with ⟨fd,rfl⟩ | ⟨ds,a,xs,rfl,rfl,h2,h3⟩ | ⟨ds,a,xs,rfl,rfl,h2,h3⟩
 ·rcases JcT he with ⟨fe,rfl⟩ | ⟨es,b,ys,rfl,rfl,g2,g3⟩ | ⟨es,b,ys,rfl,rfl,g2,g3⟩
  ·rw [fd,fe] at m;cases m
  ·obtain rfl:v=Value.ref b:=rv;obtain ⟨f,g,c,_⟩:=I.tuple g2;refine ⟨by cases d <;> simp [eqD,flatD] at fd ⊢,?_⟩;cases d <;> simp only [valD,RelV] at ru <;> first | (simp [flatD] at fd;done) | skip
   ·subst ru;exact ⟨SeqAt.EqAt.none_tuple c hA,SeqAt.RcAt.none_tuple c hA,SeqAt.RcNeAt.none_tuple c hA⟩
   ·subst ru;exact ⟨SeqAt.EqAt.bool_tuple _ c hA,SeqAt.RcAt.bool_tuple _ c hA,SeqAt.RcNeAt.bool_tuple _ c hA⟩
   ·obtain ⟨t,rfl⟩:=ru;exact ⟨SeqAt.EqAt.int_tuple _ _ c hA,SeqAt.RcAt.int_tuple _ _ c hA,SeqAt.RcNeAt.int_tuple _ _ c hA⟩
   ·obtain ⟨t,rfl⟩:=ru;exact ⟨SeqAt.EqAt.str_tuple _ _ c hA,SeqAt.RcAt.str_tuple _ _ c hA,SeqAt.RcNeAt.str_tuple _ _ c hA⟩
  ·obtain rfl:v=Value.ref b:=rv;obtain ⟨f,g,c,_⟩:=I.list g2;have c:=c.isList;refine ⟨by cases d <;> simp [eqD,flatD] at fd ⊢,?_⟩;cases d <;> simp only [valD,RelV] at ru <;> first | (simp [flatD] at fd;done) | skip
   ·subst ru;exact ⟨SeqAt.EqAt.none_list c hA,SeqAt.RcAt.none_list c hA,SeqAt.RcNeAt.none_list c hA⟩
   ·subst ru;exact ⟨SeqAt.EqAt.bool_list _ c hA,SeqAt.RcAt.bool_list _ c hA,SeqAt.RcNeAt.bool_list _ c hA⟩
   ·obtain ⟨t,rfl⟩:=ru;exact ⟨SeqAt.EqAt.int_list _ _ c hA,SeqAt.RcAt.int_list _ _ c hA,SeqAt.RcNeAt.int_list _ _ c hA⟩
   ·obtain ⟨t,rfl⟩:=ru;exact ⟨SeqAt.EqAt.str_list _ _ c hA,SeqAt.RcAt.str_list _ _ c hA,SeqAt.RcNeAt.str_list _ _ c hA⟩
 ·rcases JcT he with ⟨fe,rfl⟩ | ⟨es,b,ys,rfl,rfl,g2,g3⟩ | ⟨es,b,ys,rfl,rfl,g2,g3⟩
  ·obtain rfl:u=Value.ref a:=ru;obtain ⟨f,g,c,_⟩:=I.tuple h2;refine ⟨by cases e <;> simp [eqD,flatD] at fe ⊢,?_⟩;cases e <;> simp only [valD,RelV] at rv <;> first | (simp [flatD] at fe;done) | skip
   ·subst rv;exact ⟨SeqAt.EqAt.tuple_none c hA,SeqAt.RcAt.tuple_none c hA,SeqAt.RcNeAt.tuple_none c hA⟩
   ·subst rv;exact ⟨SeqAt.EqAt.tuple_bool _ c hA,SeqAt.RcAt.tuple_bool _ c hA,SeqAt.RcNeAt.tuple_bool _ c hA⟩
   ·obtain ⟨t,rfl⟩:=rv;exact ⟨SeqAt.EqAt.tuple_int _ _ c hA,SeqAt.RcAt.tuple_int _ _ c hA,SeqAt.RcNeAt.tuple_int _ _ c hA⟩
   ·obtain ⟨t,rfl⟩:=rv;exact ⟨SeqAt.EqAt.tuple_str _ _ c hA,SeqAt.RcAt.tuple_str _ _ c hA,SeqAt.RcNeAt.tuple_str _ _ c hA⟩
  ·simp [flatD] at m
  ·simp [flatD] at m
 ·rcases JcT he with ⟨fe,rfl⟩ | ⟨es,b,ys,rfl,rfl,g2,g3⟩ | ⟨es,b,ys,rfl,rfl,g2,g3⟩
  ·obtain rfl:u=Value.ref a:=ru;obtain ⟨f,g,c,_⟩:=I.list h2;have c:=c.isList;refine ⟨by cases e <;> simp [eqD,flatD] at fe ⊢,?_⟩;cases e <;> simp only [valD,RelV] at rv <;> first | (simp [flatD] at fe;done) | skip
   ·subst rv;exact ⟨SeqAt.EqAt.list_none c hA,SeqAt.RcAt.list_none c hA,SeqAt.RcNeAt.list_none c hA⟩
   ·subst rv;exact ⟨SeqAt.EqAt.list_bool _ c hA,SeqAt.RcAt.list_bool _ c hA,SeqAt.RcNeAt.list_bool _ c hA⟩
   ·obtain ⟨t,rfl⟩:=rv;exact ⟨SeqAt.EqAt.list_int _ _ c hA,SeqAt.RcAt.list_int _ _ c hA,SeqAt.RcNeAt.list_int _ _ c hA⟩
   ·obtain ⟨t,rfl⟩:=rv;exact ⟨SeqAt.EqAt.list_str _ _ c hA,SeqAt.RcAt.list_str _ _ c hA,SeqAt.RcNeAt.list_str _ _ c hA⟩
  ·simp [flatD] at m
  ·simp [flatD] at m
theorem seq_eq (I:Inv X pins σ H s) {n:Nat} (ih:EqP X H s n) {d e:D} {x y:V} {u v:Value} (hn:depD d<=n+1) (hd:Rep X.K H d x) (he:Rep X.K H e y) (ru:RelV x u) (rv:RelV y v) (fd:flatD d=false) (fe:flatD e=false) {A:Around} (hA:A.units+(n+1)<cLine) :
  SeqAt.EqAt A s u v (eqD d e)/\SeqAt.RcAt A s u v (eqD d e)/\SeqAt.RcNeAt A s u v (!eqD d e):=by
 have k:=hd;have j:=he;rcases JcT hd with ⟨f,_⟩ | ⟨ds,a,xs,rfl,rfl,h2,h3⟩ | ⟨ds,a,xs,rfl,rfl,h2,h3⟩
 ·rw [f] at fd;cases fd
 ·obtain rfl:u=Value.ref a:=ru;have g:depL ds<=n:=by simp only [depD] at hn;ac_nf
  rcases JcT he with ⟨f,_⟩ | ⟨es,b,ys,rfl,rfl,g2,g3⟩ | ⟨es,b,ys,rfl,rfl,g2,g3⟩
  ·rw [f] at fe;cases fe
  ·obtain rfl:v=Value.ref b:=rv;have R:=Jmc I ih h2 h3 g2 g3 g hA;refine ⟨?_,R.1,R.2⟩;by_cases c:a=b
   ·subst c;rw [I.rep_inj k j,JcM];exact SeqAt.EqAt.same _
   ·exact SeqAt.EqAt.of_refs c R.1
  ·obtain rfl:v=Value.ref b:=rv;obtain ⟨m,_,h,_⟩:=I.tuple h2;obtain ⟨l,_,i,_⟩:=I.list g2;exact ⟨SeqAt.EqAt.tuple_list h i.isList ∅,SeqAt.RcAt.tuple_list h i.isList ∅,SeqAt.RcNeAt.tuple_list h i.isList ∅⟩
 ·obtain rfl:u=Value.ref a:=ru;have g:depL ds<=n:=by simp only [depD] at hn;ac_nf
  rcases JcT he with ⟨f,_⟩ | ⟨es,b,ys,rfl,rfl,g2,g3⟩ | ⟨es,b,ys,rfl,rfl,g2,g3⟩
  ·rw [f] at fe;cases fe
  ·obtain rfl:v=Value.ref b:=rv;obtain ⟨m,_,h,_⟩:=I.list h2;obtain ⟨l,_,i,_⟩:=I.tuple g2;exact ⟨SeqAt.EqAt.list_tuple h.isList i ∅,SeqAt.RcAt.list_tuple h.isList i ∅,SeqAt.RcNeAt.list_tuple h.isList i ∅⟩
  ·obtain rfl:v=Value.ref b:=rv;have R:=JlL I ih h2 h3 g2 g3 g hA;refine ⟨?_,R.1,R.2⟩;by_cases c:a=b
   ·subst c;rw [I.rep_inj k j,JcM];exact SeqAt.EqAt.same _
   ·exact SeqAt.EqAt.of_refs c R.1
theorem Inv.eqP (I:Inv X pins σ H s):∀ n,EqP X H s n
 | 0=>fun d e A x y u v hn hd he ru rv hA=>by
  have fd:flatD d=true:=by
   cases d <;> simp [depD,flatD] at hn ⊢
  cases fe:flatD e with
  | true=>
   have ex:=Je8 fd hd;have ey:=Je8 fe he;subst ex ey;rw [<- Jkq fd fe];exact JjL ru rv (JgK fd) (JgK fe)
  | false=>
   obtain ⟨e1,e2,_⟩:=JcN I hd he ru rv (by rw [fd,fe];rfl) (A:=A) ∅;rw [e1];exact e2
 | n+1=>fun d e A x y u v hn hd he ru rv hA=>by
  cases fd:flatD d with
  | true=>
   have h0:depD d<=n:=by cases d <;> simp [depD,flatD] at fd ⊢
   exact Inv.eqP I n d e A x y u v h0 hd he ru rv ∅
  | false=>
   cases fe:flatD e with
   | true=>
    obtain ⟨e1,e2,_⟩:=JcN I hd he ru rv (by rw [fd,fe];rfl) (A:=A) ∅;rw [e1];exact e2
   | false=>exact (seq_eq I (Inv.eqP I n) hn hd he ru rv fd fe hA).1
def rEqU (K:W.Frag):R2:=fun x y H Q=>match x,y with
 | .int i, .int j=>Q (.bl (decide (i=j))) H
 | .str i, .str j=>Q (.bl (decide (i=j))) H
 | .bl i, .bl j=>Q (.bl (decide (i=j))) H
 | .non, .non=>Q (.bl true) H
 | x,y=>∃ d e,Rep K H d x/\Rep K H e y/\depD d<=50/\(flatD d&&flatD e)=false/\Q (.bl (eqD d e)) H
def rNeU (K:W.Frag):R2:=fun x y H Q=>match x,y with
 | .int i, .int j=>Q (.bl (!decide (i=j))) H
 | .str i, .str j=>Q (.bl (!decide (i=j))) H
 | .bl i, .bl j=>Q (.bl (!decide (i=j))) H
 | .non, .non=>Q (.bl false) H
 | x,y=>∃ d e,Rep K H d x/\Rep K H e y/\depD d<=50/\(flatD d&&flatD e)=false/\Q (.bl (!eqD d e)) H
theorem JbJ (hu:X.A.units+64<cLine):OpR X (compareOp .Eq) (rEqU X.K):=fun a s σ H x y v u Q I b c q=>by
 unfold rEqU at q;split at q
 ·rename_i i j;exact op_eq a s σ H _ _ v u Q I b c ⟨rfl,by rw [show decide (V.int i=V.int j)=decide (i=j) from by simp];exact q⟩
 ·rename_i i j;exact op_eq a s σ H _ _ v u Q I b c ⟨rfl,by rw [show decide (V.str i=V.str j)=decide (i=j) from by simp];exact q⟩
 ·rename_i i j;exact op_eq a s σ H _ _ v u Q I b c ⟨rfl,by rw [show decide (V.bl i=V.bl j)=decide (i=j) from by simp];exact q⟩
 ·exact op_eq a s σ H _ _ v u Q I b c ⟨rfl,by simpa using q⟩
 ·obtain ⟨d,e,h,k,m,l,q⟩:=q;show wpAny (model X.prog X.w) X.A (richCompare .Eq v u) (EP X a σ Q) X.xe s;cases fd:flatD d with
  | true=>
   cases fe:flatD e with
   | true=>rw [fd,fe] at l;cases l
   | false=>
    obtain ⟨g,_,f,_⟩:=JcN I h k b c (by rw [fd,fe];rfl) (A:=X.A) ∅;rw [g] at q;exact f _ _ _ _ ⟨V.bl _,H,I,rfl,q⟩
  | false=>
   cases fe:flatD e with
   | true=>
    obtain ⟨g,_,f,_⟩:=JcN I h k b c (by rw [fd,fe];rfl) (A:=X.A) ∅;rw [g] at q;exact f _ _ _ _ ⟨V.bl _,H,I,rfl,q⟩
   | false=>exact (seq_eq I (I.eqP 49) m h k b c fd fe ∅).2.1 _ _ _ _ ⟨V.bl _,H,I,rfl,q⟩
theorem Jc8 (hu:X.A.units+64<cLine):OpR X (compareOp .NotEq) (rNeU X.K):=fun a s σ H x y v u Q I b c q=>by
 unfold rNeU at q;split at q
 ·rename_i i j;exact op_ne a s σ H _ _ v u Q I b c ⟨rfl,by rw [show decide (V.int i=V.int j)=decide (i=j) from by simp];exact q⟩
 ·rename_i i j;exact op_ne a s σ H _ _ v u Q I b c ⟨rfl,by rw [show decide (V.str i=V.str j)=decide (i=j) from by simp];exact q⟩
 ·rename_i i j;exact op_ne a s σ H _ _ v u Q I b c ⟨rfl,by rw [show decide (V.bl i=V.bl j)=decide (i=j) from by simp];exact q⟩
 ·exact op_ne a s σ H _ _ v u Q I b c ⟨rfl,by simpa using q⟩
 ·obtain ⟨d,e,h,k,m,l,q⟩:=q;show wpAny (model X.prog X.w) X.A (richCompare .NotEq v u) (EP X a σ Q) X.xe s;cases fd:flatD d with
  | true=>
   cases fe:flatD e with
   | true=>rw [fd,fe] at l;cases l
   | false=>
    obtain ⟨g,_,_,f⟩:=JcN I h k b c (by rw [fd,fe];rfl) (A:=X.A) ∅;rw [g] at q;exact f _ _ _ _ ⟨V.bl _,H,I,rfl,q⟩
  | false=>
   cases fe:flatD e with
   | true=>
    obtain ⟨g,_,_,f⟩:=JcN I h k b c (by rw [fd,fe];rfl) (A:=X.A) ∅;rw [g] at q;exact f _ _ _ _ ⟨V.bl _,H,I,rfl,q⟩
   | false=>exact (seq_eq I (I.eqP 49) m h k b c fd fe ∅).2.2 _ _ _ _ ⟨V.bl _,H,I,rfl,q⟩
end
def DivOk (j:Int):Prop:=j≠0/\j.natAbs.log2<9000
def rAddU (K:W.Frag):R2:=fun x y H Q=>match x,y with
 | .int i, .int j=>Q (.int (i+j)) H
 | .str i, .str j=>i.length+j.length<=sizeLine/\Q (.str (i++j)) H
 | .ref a, .ref b=>rCat (.ref a) (.ref b) H Q\/rCatT K (.ref a) (.ref b) H Q
 | _,_=>False
theorem JaE:OpR X (binaryOp .Add) (rAddU X.K):=fun a s σ H x y v u Q I b c q=>by
 unfold rAddU at q;split at q
 ·exact JlP a s σ H _ _ v u Q I b c ⟨_,_,rfl,rfl,q⟩
 ·exact Jhm a s σ H _ _ v u Q I b c ⟨_,_,rfl,rfl,q.1,q.2⟩
 ·rcases q with q | q
  ·exact JlQ a s σ H _ _ v u Q I b c q
  ·exact JkM a s σ H _ _ v u Q I b c q
 ·exact q.elim
def rMulU:R2:=fun x y H Q=>match x,y with
 | .int i, .int j=>IntMulOk i j/\Q (.int (i*j)) H
 | _,_=>False
theorem JkO:OpR X (binaryOp .Mult) (rI IntMulOk fun i j=>.int (i*j)):=opI fun _ _ _ _ _ _ _ a q=>mul_int q a
theorem JkP:OpR X (binaryOp .Mult) rMulU:=fun a s σ H x y v u Q I b c q=>by
 unfold rMulU at q;split at q
 ·exact JkO a s σ H _ _ v u Q I b c ⟨_,_,rfl,rfl,q.1,q.2⟩
 ·exact q.elim
def Jiu:R2:=fun x y H Q=>match x,y with
 | .int i, .int j=>DivOk j/\Q (.int (i.fdiv j)) H
 | _,_=>False
theorem Jjf:OpR X (binaryOp .FloorDiv) (rI (fun _ j=>DivOk j) fun i j=>.int (i.fdiv j)):=opI fun _ _ _ _ _ _ _ a q=>floordiv_int a.1 q (.inl (PyProof.noPylong_of_log2 a.2))
theorem Jar:OpR X (binaryOp .FloorDiv) Jiu:=fun a s σ H x y v u Q I b c q=>by
 unfold Jiu at q;split at q
 ·exact Jjf a s σ H _ _ v u Q I b c ⟨_,_,rfl,rfl,q.1,q.2⟩
 ·exact q.elim
def rModU:R2:=fun x y H Q=>match x,y with
 | .int i, .int j=>j≠0/\Q (.int (i.fmod j)) H
 | _,_=>False
theorem Jay:OpR X (binaryOp .Mod) rModU:=fun a s σ H x y v u Q I b c q=>by
 unfold rModU at q;split at q
 ·exact JkN a s σ H _ _ v u Q I b c ⟨_,_,rfl,rfl,q.1,q.2⟩
 ·exact q.elim
def rPowU:R2:=fun x y H Q=>match x,y with
 | .int i, .int j=>CPow i j/\Q (.int (i ^ j.toNat)) H
 | _,_=>False
theorem JkR:OpR X (binaryOp .Pow) rPowU:=fun a s σ H x y v u Q I b c q=>by
 unfold rPowU at q;split at q
 ·exact JlU a s σ H _ _ v u Q I b c ⟨_,_,rfl,rfl,q.1,q.2⟩
 ·exact q.elim
def rCmpU (p:Int->Int->Bool):R2:=fun x y H Q=>match x,y with
 | .int i, .int j=>Q (.bl (p i j)) H
 | _,_=>False
theorem Jgt {op:CmpOp} {p:Int->Int->Bool} (h:OpR X (compareOp op) (rI0 fun i j=>.bl (p i j))):OpR X (compareOp op) (rCmpU p):=fun a s σ H x y v u Q I b c q=>by
 unfold rCmpU at q;split at q
 ·exact h a s σ H _ _ v u Q I b c ⟨_,_,rfl,rfl,q⟩
 ·exact q.elim
theorem JfP:OpR X (compareOp .Lt) (rCmpU fun i j=>decide (i<j)):=Jgt op_lt
theorem JfO:OpR X (compareOp .Gt) (rCmpU fun i j=>decide (j<i)):=Jgt op_gt
theorem JjU:OpR X (compareOp .GtE) (rCmpU fun i j=>decide (j<=i)):=Jgt op_ge
def SqA (K:W.Frag) (H:Hp) (a:Addr) (xs:List V):Prop:=SqL K H a xs\/SqT K H a xs
def rIxU (K:W.Frag):R2:=fun x y H Q=>match x,y with
 | .ref p, .int i=>∃ xs v,SqA K H p xs/\atI xs i=some v/\Q v H
 | .str z, .int i=>∃ c,z.length<=sizeLine/\atI z.cps.toList i=some c/\Q (.str ⟨#[c]⟩) H
 | _,_=>False
theorem ix_U:IxR X (rIxU X.K):=fun b a d s σ H x y v u Q I g i q f=>by
 unfold rIxU at q;split at q
 ·obtain ⟨l,w,h | h,e,q⟩:=q
  ·exact Jkw b a d s σ H _ _ v u Q I g i ⟨_,_,_,_,rfl,rfl,h,e,q⟩ f
  ·exact JlD b a d s σ H _ _ v u Q I g i ⟨_,_,_,_,rfl,rfl,h,e,q⟩ f
 ·obtain ⟨c,k,j,q⟩:=q;exact JlC b a d s σ H _ _ v u Q I g i ⟨_,_,_,rfl,rfl,k,j,q⟩ f
 ·exact q.elim
def rLen (K:W.Frag):List V->Hp->VK->Prop:=fun xs H Q=>match xs with
 | [.ref p]=>∃ ys,SqA K H p ys/\Q (.int ys.length) H
 | [.str z]=>z.length<=sizeLine/\Q (.int z.length) H
 | _=>False
theorem JaW:CallR X (.builtin "len") (rLen X.K):=fun a s σ H c b Q I r q=>by
 unfold rLen at q;split at q
 ·obtain ⟨d,h,q⟩:=q;exact Jfw a s σ H _ b Q I r ⟨_,_,rfl,h,q⟩
 ·exact Jfx a s σ H _ b Q I r ⟨_,rfl,q.1,q.2⟩
 ·exact q.elim
def rAbs:List V->Hp->VK->Prop:=fun xs H Q=>match xs with
 | [.int i]=>Q (.int (if i<0 then -i else i)) H
 | _=>False
theorem Jc1:CallR X (.builtin "abs") rAbs:=fun a s σ H c b Q I r q=>by
 unfold rAbs at q;split at q
 ·exact JiZ a s σ H _ b Q I r ⟨_,rfl,q⟩
 ·exact q.elim
def rMin:List V->Hp->VK->Prop:=fun xs H Q=>match xs with
 | [.int i, .int j]=>Q (.int (if j<i then j else i)) H
 | _=>False
theorem JhB (hc:X.calm=true):CallR X (.builtin "min") rMin:=fun a s σ H c b Q I r q=>by
 unfold rMin at q;split at q
 ·exact JhA hc a s σ H _ b Q I r ⟨_,_,rfl,q⟩
 ·exact q.elim
def rSlU (K:W.Frag):V->Option Int->Option Int->Hp->VK->Prop:=fun x lo hi H Q=>rSlL K x lo hi H Q\/rSlT K x lo hi H Q
theorem sl_U:SlR X (rSlU X.K):=SlR.or Jlc Jl6
def isiB (t T:String):Bool:=t == T||(t == "bool"&&T == "int")
def tyN (K:W.Frag) (H:Hp) (x:V) (t:String):Prop:=match x with
 | .int _=>t="int"
 | .str _=>t="str"
 | .bl _=>t="bool"
 | .non=>t="NoneType"
 | .ref a=>(t="list"/\∃ xs,SqL K H a xs)\/(t="tuple"/\∃ xs,SqT K H a xs)
 | _=>False
theorem kit_b (K:W.Frag) {t T:String} (ht:t∈["int","str","bool","NoneType","list","tuple"]) (hT:T∈["int","str","bool","list","tuple"]):W.kitOne K (.type t) (.type T)=some (isiB t T):=by
 simp only [mem_cons,not_mem_nil,or_false] at ht hT;rcases ht with rfl | rfl | rfl | rfl | rfl | rfl <;> rcases hT with rfl | rfl | rfl | rfl | rfl <;> with_unfolding_all rfl
def rIsi (K:W.Frag):List V->Hp->VK->Prop:=fun xs H Q=>match xs with
 | [x, .ty T]=>T∈["int","str","bool","list","tuple"]/\∃ t,tyN K H x t/\Q (.bl (isiB t T)) H
 | _=>False
theorem JaK:CallR X (.builtin "isinstance") (rIsi X.K):=fun f s σ H n v Q I r q=>by
 unfold rIsi at q;split at q
 ·rename_i x T;obtain ⟨e,t,d,q⟩:=q;obtain ⟨u,c,rfl,g,m⟩:=vals2 r;obtain rfl:c=Value.type T:=m;have b:∀ k,EP X f σ Q (.bool (isiB t T)) { s with toks:=k }:=fun k=>⟨V.bl _,H,I.tok k,rfl,q⟩;unfold tyN at d;split at d
  ·subst d;obtain ⟨_,rfl⟩:=g;exact W.kia_one W.kitx_int I.kIn True.intro (kit_b _ ⋯ e) (fun z=>nomatch z) b
  ·subst d;obtain ⟨_,rfl⟩:=g;exact W.kia_one W.kitx_str I.kIn True.intro (kit_b _ ⋯ e) (fun z=>nomatch z) b
  ·subst d;cases (show u=Value.bool _ from g);exact W.kia_one W.kitx_bool I.kIn True.intro (kit_b _ ⋯ e) (fun z=>nomatch z) b
  ·subst d;cases (show u=Value.none from g);exact W.kia_one W.kitx_none I.kIn True.intro (kit_b _ ⋯ e) (fun z=>nomatch z) b
  ·rename_i a;cases (show u=Value.ref a from g);rcases d with ⟨rfl,ys,h⟩ | ⟨rfl,ys,h⟩
   ·obtain ⟨l,_,p,_⟩:=I.list h;obtain ⟨o,_,j,i,_⟩:=p;exact W.kia_one W.kitx_list I.kIn ⟨o,j,i⟩ (kit_b _ ⋯ e) (fun z=>nomatch z) b
   ·obtain ⟨l,_,p,_⟩:=I.tuple h;obtain ⟨o,j,i,_⟩:=p;exact W.kia_one W.kitx_tuple I.kIn ⟨o,j,i⟩ (kit_b _ ⋯ e) (fun z=>nomatch z) b
  ·exact d.elim
 ·exact q.elim
variable {tg:Expr}
def iAny (K:W.Frag) (tl:TE):TI:=fun σ H R=>tl σ H fun x H1=>∃ a,x=.ref a/\(((∃ xs,SqL K H1 a xs)/\R (Itl K a) H1)\/((∃ xs,SqT K H1 a xs)/\R (Itt K a) H1))
theorem pi_U {l:Expr} {tl:TE} (hl:PE X l tl):PI X tg l (iAny X.K tl):=fun d s σ H R I h=>by
 refine thn (hl d s σ H _ I h) fun v c ζ=>?_;obtain ⟨x,i,I1,m,a,k,q⟩:=ζ;subst k;cases m;rcases q with ⟨⟨xs,hq⟩,q⟩ | ⟨⟨xs,hq⟩,q⟩
 ·obtain ⟨f,n,p,j⟩:=I1.list hq;refine wpAny_pyIter_list p.isList ?_;refine ⟨c.heap.objs.size,[c.heap.objs.size],_,_,i,rfl,I1.kept (t':=c.toks) fun b o e=>Heap.get?_push_of_some _ e,JiO a _,⟨_,Heap.get?_push_size _ rfl,rfl,rfl⟩,fun b g=>?_,q⟩;have e:b=c.heap.objs.size:=by simpa using g
  subst e;exact I1.fpOk (Nat.le_refl _) (I1.hok.fresh (Nat.le_refl _))
 ·obtain ⟨f,n,p,j⟩:=I1.tuple hq;refine wpAny_pyIter_tuple (show c.heap.IsTuple a f.toArray from p) ?_;refine ⟨c.heap.objs.size,[c.heap.objs.size],_,_,i,rfl,I1.kept (t':=c.toks) fun b o e=>Heap.get?_push_of_some _ e,Jhv a _,⟨_,Heap.get?_push_size _ rfl,rfl,rfl⟩,fun b g=>?_,q⟩;have e:b=c.heap.objs.size:=by simpa using g
  subst e;exact I1.fpOk (Nat.le_refl _) (I1.hok.fresh (Nat.le_refl _))
structure FunD (K:W.Frag) (x qual:Str) (st:Stmt) (dV:Value) (f:Addr) (fd:FuncData):Prop where
 ex:∃ (oc:Value) (od:Option Addr) (kV doc pm:Value) (an:Option Addr) (cdv ct:Value) (osl:Array (Option Value)),
  fd=W.fnOf x qual (Jam st) (Jal st) (Jae st) dV kV doc pm an cdv ct/\K.lookup f=some ⟨oc,od, .func fd,osl⟩/\W.codeIn K cdv qual=true
 kp:W.keepIn K (.ref f)=true
section
variable {mg:Str->Option Value} {base:Heap} {w:World} {K:W.Frag} {x qual:Str} {st:Stmt} {dV:Value} {fd:FuncData} {N ps:List Str} {sp:Sp}
theorem FunD.okn {f:Addr} {k:Nat} (F:FunD K x qual st dV f fd) (S:Jan N ps (Jae st)) (len:∀ vs H Q E,sp vs H Q E->vs.length=ps.length)
  (hbody:∀ (cdv:Value) (A:Around) (outer:List Env) (s:Shared) (H:Hp) (vs:List V) (Q:VK) (E:XK),Room k (A.deeper (envOfC qual (Jae st) s.heap.objs.size f cdv))->sp vs H Q E ->
   ∃ t,PSs (cxOf (CX1 P w) P w K mg base N qual (Jae st) f cdv A outer s H E).nox (Jal st) t/\t { nx:=fun _ H'=>Q .non H',rt:=Q } (start N vs) H):FnOk P w K mg base (CX1 P w) (k+1) f fd ps sp:=by
 obtain ⟨n,m,kV,e,i,j,cdv,l,c,rfl,d,b⟩:=F.ex;refine fn_of d b S len fun A outer s H vs Q E g a=>?_;obtain ⟨t,h,q⟩:=hbody cdv A outer s H vs Q E g a;exact ⟨t,h.nox,q⟩
theorem FunD.okx {f:Addr} {k:Nat} (F:FunD K x qual st dV f fd) (S:Jan N ps (Jae st)) (len:∀ vs H Q E,sp vs H Q E->vs.length=ps.length)
  (hbody:∀ (cdv:Value) (A:Around) (outer:List Env) (s:Shared) (H:Hp) (vs:List V) (Q:VK) (E:XK),Room k (A.deeper (envOfC qual (Jae st) s.heap.objs.size f cdv))->sp vs H Q E ->
   ∃ t,PSs (cxOf (CX1 P w) P w K mg base N qual (Jae st) f cdv A outer s H E) (Jal st) t/\t { nx:=fun _ H'=>Q .non H',rt:=Q } (start N vs) H):FnOk P w K mg base (CX1 P w) (k+1) f fd ps sp:=by
 obtain ⟨m,l,kV,e,h,i,cdv,j,c,rfl,d,b⟩:=F.ex;exact fn_of d b S len fun A outer s H vs Q E g a=>hbody cdv A outer s H vs Q E g a
theorem FunD.binds {f:Addr} (F:FunD K x qual st dV f fd)
  (h:∀ (kV doc pm:Value) (an:Option Addr) (cdv ct:Value) (us:List Value),us.length=ps.length->bindArgs (W.fnOf x qual (Jam st) (Jal st) (Jae st) dV kV doc pm an cdv ct) ⟨us,[]⟩=pure (ps.zip us)):Binds K fd ps []:=by
 obtain ⟨d,c,kV,doc,pm,an,cdv,ct,b,rfl,e,a⟩:=F.ex;exact .all (h kV doc pm an cdv ct)
theorem FunD.bindsD {T:Addr} {f:Addr} {o:Obj} {items:Array Value} {n:Nat} (F:FunD K x qual st (.ref T) f fd) (hT:K.lookup T=some o) (hs:o.data=.seq items n) (ds:List Value)
  (h:∀ (kV doc pm:Value) (an:Option Addr) (cdv ct:Value) (us:List Value),(us++ds).length=ps.length->∃ k,bindArgs (W.fnOf x qual (Jam st) (Jal st) (Jae st) (.ref T) kV doc pm an cdv ct) ⟨us,[]⟩=seqItems? (.ref T) >>= k/\k (some items)=pure (ps.zip (us++ds))):Binds K fd ps ds:=by
 obtain ⟨i,g,kV,doc,pm,an,cdv,ct,e,rfl,j,a⟩:=F.ex;intro s us X c;obtain ⟨k,b,d⟩:=h kV doc pm an cdv ct us c;exact BindsTo.of_defaults (T:=T) rfl (X _ _ hT) hs b d
theorem Jao {f:Addr} {oc:Value} {od an:Option Addr} {osl:Array (Option Value)} {kV doc pm cdv ct:Value} (l:K.lookup f=some ⟨oc,od, .func (W.fnOf x qual (Jam st) (Jal st) (Jae st) dV kV doc pm an cdv ct),osl⟩)
  (c:W.codeIn K cdv qual=true) (k:W.keepIn K (.ref f)=true):FunD K x qual st dV f (W.fnOf x qual (Jam st) (Jal st) (Jae st) dV kV doc pm an cdv ct):=⟨⟨oc,od,kV,doc,pm,an,cdv,ct,osl,rfl,l,c⟩,k⟩
end
structure Cal (P:Program) (w:World) (K:W.Frag) (mg:Str->Option Value) (base:Heap) (k:Nat) (x:Str) (ps:List Str) (dvs:List V) (sp:Sp):Prop where
 ex:∃ (f:Addr) (fd:FuncData) (ds:List Value),FnOk P w K mg base (CX1 P w) k f fd ps sp/\mg x=some (.ref f)/\W.keepIn K (.ref f)=true/\Binds K fd ps ds/\Vals dvs ds
section
variable {k':Nat} {x:Str} {ps:List Str} {dvs:List V} {sp:Sp} {E:XK} {p:Pos} {e:Expr} {es:List Expr} {k:Nat} {t:TA}
theorem Cal.ev (G:Cal X.prog X.w X.K X.mg X.base k x ps dvs sp) (hr:Room k' X.A) (hk:k<=k') (hg:Gl X x) (hx:JbT (CX1 X.prog X.w) X E) (ha:PA X (e::es) t)
  (hdb:(x == ("__debug__" : Str))=false:=by decide) (he:starEach (e::es) X.env=(false,eval e X.env)::starEach es X.env:=by first|exact Jaf rfl|rfl) (hpl:(backTo pos (starEach es X.env)).any (·.1)=false:=by rfl) :
  PE X (.Call (.Name x p) (e::es) [] pos) (tCall sp dvs E t):=by
 obtain ⟨f,h,g,F,b,d,a,c⟩:=G.ex;exact JkT F (hr.mono hk) hg b d a c hx ha hdb he hpl
theorem Cal.tr (G:Cal X.prog X.w X.K X.mg X.base k x ps dvs sp) (hr:Room k' X.A) (hk:k<=k') (hg:Gl X x) (ha:PA X.nox (e::es) t)
  (hdb:(x == ("__debug__" : Str))=false:=by decide) (he:starEach (e::es) X.env=(false,eval e X.env)::starEach es X.env:=by rfl) (hpl:(backTo pos (starEach es X.env)).any (·.1)=false:=by rfl) :
  PEx X (.Call (.Name x p) (e::es) [] pos) (xCall sp dvs t):=by
 obtain ⟨f,h,g,F,b,d,a,c⟩:=G.ex;exact Jjn F (hr.mono hk) hg b d a c ha hdb he hpl
end
end L2
namespace Mth
def g (a b:Int):Int:=(Int.gcd a b:Nat)
theorem JjQ (a:Int):g a 0=(a.natAbs:Int):=by unfold g;rw [Int.gcd_zero_right]
theorem g_pos {a b:Int} (h:b≠0):0<g a b:=by
 unfold g;exact Int.natCast_pos.mpr (Int.gcd_pos_of_ne_zero_right a h)
theorem Jcz (a b:Int):g a b∣a:=Int.gcd_dvd_left ..
theorem JbP (a b:Int):g a b∣b:=Int.gcd_dvd_right ..
theorem Jlz (a b:Int):g b (a % b)=g a b:=by
 unfold g;rw [Int.gcd_comm b (a % b)];first
  | rw [Int.gcd_emod_left]
  | (rw [Int.emod_def];simp [Int.gcd_comm])
theorem BdO (a b:Int):g (if a<0 then -a else a) (if b<0 then -b else b)=g a b:=by
 unfold g;split <;> split <;> simp [Int.neg_gcd,Int.gcd_neg]
theorem JjG (a:Int):0<=(if a<0 then -a else a):=by split <;> ac_nf
theorem g_le {a b:Int} (h:b≠0):g a b<=(b.natAbs:Int):=by
 unfold g;exact Int.ofNat_le.mpr (Nat.le_of_dvd ∅ (Int.natAbs_dvd_natAbs.mpr (by simpa using Int.gcd_dvd_right (a:=a) (b:=b)) |> fun z=>by simpa using z))
theorem fm {x y:Int} (h:0<y):0<=x.fmod y/\x.fmod y<y:=by
 rw [Int.fmod_eq_emod_of_nonneg _ ∅];exact ⟨Int.emod_nonneg _ ∅,Int.emod_lt_of_pos _ h⟩
theorem JhT {x y:Int} (h:0<y):g y (x.fmod y)=g x y:=by
 rw [Int.fmod_eq_emod_of_nonneg _ ∅];exact Jlz x y
def by_ (t b:Int):Int:=if b<0 then -(g t b) else g t b
def top (t b:Int):Int:=t.fdiv (by_ t b)
def bot (t b:Int):Int:=b.fdiv (by_ t b)
theorem by_ne {t b:Int} (h:b≠0):by_ t b≠0:=by
 have:=g_pos (a:=t) h;unfold by_;split <;> ac_nf
theorem Jkl (t b:Int):by_ t b∣t:=by
 unfold by_;split
 ·exact Int.neg_dvd.mpr (Jcz t b)
 ·exact Jcz t b
theorem Jkm (t b:Int):by_ t b∣b:=by
 unfold by_;split
 ·exact Int.neg_dvd.mpr (JbP t b)
 ·exact JbP t b
theorem JaI {a d:Int} (h:d∣a) (hd:d≠0):a.fdiv d*d=a:=by
 obtain ⟨k,rfl⟩:=h;rw [Int.mul_comm d k,Int.mul_fdiv_cancel _ hd]
theorem Jej {t b:Int} (h:b≠0):top t b*by_ t b=t:=JaI (Jkl t b) (by_ne h)
theorem JdK {t b:Int} (h:b≠0):bot t b*by_ t b=b:=JaI (Jkm t b) (by_ne h)
theorem JcP {t b:Int} (h:b≠0):1<=bot t b:=by
 have c:=JdK (t:=t) h;have f:=g_pos (a:=t) h;by_cases d:b<0
 ·have e:by_ t b = -(g t b):=by unfold by_;rw [if_pos d]
  rw [e] at c;have i:bot t b*g t b = -b:=by rw [Int.mul_neg] at c;ac_nf
  rcases Int.lt_trichotomy (bot t b) 0 with z | z | z
  ·have:=Int.mul_neg_of_neg_of_pos z f;ac_nf
  ·rw [z] at i;ac_nf
  ·ac_nf
 ·have e:by_ t b=g t b:=by unfold by_;rw [if_neg d]
  rw [e] at c;rcases Int.lt_trichotomy (bot t b) 0 with z | z | z
  ·have:=Int.mul_neg_of_neg_of_pos z f;ac_nf
  ·rw [z] at c;ac_nf
  ·ac_nf
theorem cross {t b:Int} (h:b≠0):top t b*b=t*bot t b:=by
 have c:=Jej (t:=t) h;have a:=JdK (t:=t) h
 calc top t b*b=top t b*(bot t b*by_ t b):=by rw [a]
  _=(top t b*by_ t b)*bot t b:=by rw [Int.mul_comm (bot t b),Int.mul_assoc]
  _=t*bot t b:=by rw [c]
theorem Jh3 (t b:Int):(by_ t b).natAbs=Int.gcd t b:=by
 unfold by_ g;split <;> simp
theorem g_low {t b:Int} (h:b≠0):g (top t b) (bot t b)=1:=by
 have a:0<Int.gcd t b:=Int.gcd_pos_of_ne_zero_right t h;have e:Int.gcd (top t b*by_ t b) (bot t b*by_ t b)=Int.gcd (top t b) (bot t b)*(by_ t b).natAbs:=Int.gcd_mul_right ..;rw [Jej h,JdK h,Jh3] at e;have : Int.gcd (top t b) (bot t b)=1:=by
  rcases Nat.lt_trichotomy (Int.gcd (top t b) (bot t b)) 1 with z | z | z
  ·have : Int.gcd (top t b) (bot t b)=0:=by ac_nf
   rw [this] at e;ac_nf
  ·exact z
  ·have:=Nat.mul_le_mul_right (Int.gcd t b) z;ac_nf
 unfold g;rw [this];rfl
theorem Jdl {a b d:Int} (g1:Int.gcd a b=1) (h:b∣a*d):b∣d:=by
 have e:b.natAbs∣a.natAbs*d.natAbs:=by rw [<- Int.natAbs_mul];exact Int.natAbs_dvd_natAbs.mpr h
 have c:Nat.Coprime b.natAbs a.natAbs:=by
  unfold Nat.Coprime;rw [Nat.gcd_comm];exact g1
 exact Int.natAbs_dvd_natAbs.mp (c.dvd_of_dvd_mul_left e)
theorem Jdm {a b c d:Int} (hb:1<=b) (hd:1<=d) (h1:g a b=1) (h2:g c d=1) (e:a*d=c*b):a=c/\b=d:=by
 have k:Int.gcd a b=1:=by unfold g at h1;ac_nf
 have i:Int.gcd c d=1:=by unfold g at h2;ac_nf
 have f:b∣d:=by
  have : b∣a*d:=⟨c,by rw [e,Int.mul_comm]⟩;exact Jdl k this
 have h:d∣b:=by
  have : d∣c*b:=⟨a,by rw [<- e,Int.mul_comm]⟩;exact Jdl i this
 have j:b=d:=Int.dvd_antisymm ∅ ∅ f h;subst j;refine ⟨?_,rfl⟩;exact Int.eq_of_mul_eq_mul_right ∅ e
theorem Jmb {t b:Int} (h:b≠0):(top t b).natAbs<=t.natAbs:=by
 have c:=Jej (t:=t) h;have d:(by_ t b).natAbs≠0:=by have:=by_ne (t:=t) h;ac_nf
 have a:=congrArg Int.natAbs c;rw [Int.natAbs_mul] at a;rw [<- a];exact Nat.le_mul_of_pos_right _ ∅
theorem bot_le {t b:Int} (h:b≠0):(bot t b).natAbs<=b.natAbs:=by
 have c:=JdK (t:=t) h;have d:(by_ t b).natAbs≠0:=by have:=by_ne (t:=t) h;ac_nf
 have a:=congrArg Int.natAbs c;rw [Int.natAbs_mul] at a
 calc (bot t b).natAbs<=(bot t b).natAbs*(by_ t b).natAbs:=Nat.le_mul_of_pos_right _ ∅
  _=b.natAbs:=a
theorem JjR {t b:Int} (h:b≠0):(if b<0 then -t else t).fdiv (g (if b<0 then -t else t) (if b<0 then -b else b))=top t b/\(if b<0 then -b else b).fdiv (g (if b<0 then -t else t) (if b<0 then -b else b))=bot t b:=by
 have f:=Jej (t:=t) h;have i:=JdK (t:=t) h;have j:=g_pos (a:=t) h;by_cases c:b<0
 ·have e:by_ t b = -(g t b):=by unfold by_;rw [if_pos c]
  simp only [if_pos c];have d:g (-t) (-b)=g t b:=by unfold g;simp [Int.neg_gcd,Int.gcd_neg]
  rw [d];rw [e,Int.mul_neg] at f i;constructor
  ·have : -t=top t b*g t b:=by ac_nf
   rw [this,Int.mul_fdiv_cancel _ ∅]
  ·have : -b=bot t b*g t b:=by ac_nf
   rw [this,Int.mul_fdiv_cancel _ ∅]
 ·have e:by_ t b=g t b:=by unfold by_;rw [if_neg c]
  simp only [if_neg c];unfold top bot;rw [e];exact ⟨rfl,rfl⟩
theorem JkF {n k:Nat} (h:n<2 ^ k) (hk:k<9000):n.log2<9000:=by
 by_cases z:n=0
 ·rw [z];decide
 ·exact Nat.lt_trans ((Nat.log2_lt z).mpr h) hk
def Sz (n:Nat) (i:Int):Prop:=i.natAbs<2 ^ n
theorem Sz.mono {m n:Nat} {i:Int} (h:Sz m i) (k:m<=n):Sz n i:=Nat.lt_of_lt_of_le h (Nat.pow_le_pow_right ⋯ k)
theorem Sz.mul {m n:Nat} {i j:Int} (h:Sz m i) (k:Sz n j):Sz (m+n) (i*j):=by
 unfold Sz at *;rw [Int.natAbs_mul,Nat.pow_add];exact Nat.mul_lt_mul'' h k
theorem Sz.add {n:Nat} {i j:Int} (h:Sz n i) (k:Sz n j):Sz (n+1) (i+j):=by
 unfold Sz at *;have:=Int.natAbs_add_le i j;rw [Nat.pow_succ];ac_nf
theorem Sz.neg {n:Nat} {i:Int} (h:Sz n i):Sz n (-i):=by
 unfold Sz at *;rw [Int.natAbs_neg];exact h
theorem Sz.top {n:Nat} {t b:Int} (hb:b≠0) (h:Sz n t):Sz n (Mth.top t b):=Nat.lt_of_le_of_lt (Jmb hb) h
theorem Sz.bot {n:Nat} {t b:Int} (hb:b≠0) (h:Sz n b):Sz n (Mth.bot t b):=Nat.lt_of_le_of_lt (bot_le hb) h
theorem Sz.lit {n:Nat} {i:Int} (h1 : -(2 ^ n)<i) (h2:i<2 ^ n):Sz n i:=by
 unfold Sz;have e:((2 ^ n:Nat):Int)=2 ^ n:=by simp
 ac_nf
end Mth
namespace Mth
theorem Jcj {a b:Int} (h:g a b=1):Int.gcd a b=1:=by unfold g at h;ac_nf
theorem JdH {a b:Int} (h:Int.gcd a b=1):g a b=1:=by unfold g;rw [h];rfl
theorem Jb2 {t x y:Int} (h1:Int.gcd t x=1) (h2:Int.gcd t y=1):Int.gcd t (x*y)=1:=by
 unfold Int.gcd at *;rw [Int.natAbs_mul];exact Nat.Coprime.mul_right h1 h2
theorem Jew {x y:Int} (h:∀ k:Int,k∣x->k∣y->k∣1):Int.gcd x y=1:=by
 have:=h (Int.gcd x y:Nat) (Int.gcd_dvd_left ..) (Int.gcd_dvd_right ..);have z:=Int.natAbs_dvd_natAbs.mpr this;simp at z;exact z
theorem Jex {k x y:Int} (h:Int.gcd x y=1) (h1:k∣x) (h2:k∣y):k∣1:=by
 have z:=Int.dvd_coe_gcd h1 h2;rw [h] at z;exact z
theorem Jb7 {t u x:Int} (h:Int.gcd t x=1) (d:u∣t):Int.gcd u x=1:=Jew fun k b a=>Jex h (Int.dvd_trans b d) a
theorem JaT {x y:Int} (h:Int.gcd x y=1):Int.gcd y x=1:=by rw [Int.gcd_comm];exact h
theorem JhF {a b c d:Int} (h1:Int.gcd a b=1) (h2:Int.gcd d b=1):Int.gcd (a*d+c*b) b=1:=by
 have : Int.gcd b (a*d)=1:=Jb2 (JaT h1) (JaT h2);refine Jew fun k g f=>Jex this f ?_;have : k∣(a*d+c*b)-c*b:=Int.dvd_sub g (Int.dvd_mul_of_dvd_right f);have e:(a*d+c*b)-c*b=a*d:=by ac_nf
 rwa [e] at this
theorem Jb3 {a d:Int} (h:d∣a) (hd:1<=d) (ha:1<=a):1<=a.fdiv d:=by
 have e:=JaI h ∅;rcases Int.lt_trichotomy (a.fdiv d) 0 with z | z | z
 ·have:=Int.mul_neg_of_neg_of_pos z (show 0<d by ac_nf);ac_nf
 ·rw [z] at e;ac_nf
 ·ac_nf
theorem JcL {b d s:Int} (hs:s=g b d) (p:1<=s):Int.gcd (b.fdiv s) (d.fdiv s)=1:=by
 have f:b.fdiv s*s=b:=JaI (by rw [hs];exact Jcz ..) ∅;have c:d.fdiv s*s=d:=JaI (by rw [hs];exact JbP ..) ∅;have e:Int.gcd (b.fdiv s*s) (d.fdiv s*s)=Int.gcd (b.fdiv s) (d.fdiv s)*s.natAbs:=Int.gcd_mul_right ..;rw [f,c] at e;have a:Int.gcd b d=s.natAbs:=by rw [hs];unfold g;simp
 rw [a] at e;rcases Nat.lt_trichotomy (Int.gcd (b.fdiv s) (d.fdiv s)) 1 with z | z | z
 ·have : Int.gcd (b.fdiv s) (d.fdiv s)=0:=by ac_nf
  rw [this] at e;ac_nf
 ·exact z
 ·have:=Nat.mul_le_mul_right s.natAbs z;ac_nf
theorem JkZ {a b c d:Int} (hb:1<=b) (hd:1<=d) (h1:g a b=1) (h2:g c d=1) {s t r:Int} (hs:s=g b d) (ht:t=a*d.fdiv s+c*b.fdiv s) (hr:r=g t s) :
  t.fdiv r=top (a*d+c*b) (b*d)/\b.fdiv s*d.fdiv r=bot (a*d+c*b) (b*d):=by
 have v:1<=s:=by rw [hs];have:=g_pos (a:=b) (b:=d) ∅;ac_nf
 have B:1<=r:=by rw [hr];have:=g_pos (a:=t) (b:=s) ∅;ac_nf
 have x:s∣b:=by rw [hs];exact Jcz ..
 have q:s∣d:=by rw [hs];exact JbP ..
 have F:r∣t:=by rw [hr];exact Jcz ..
 have y:r∣s:=by rw [hr];exact JbP ..
 have A:r∣d:=Int.dvd_trans y q;have m:=JaI x ∅;have l:=JaI q ∅;have z:=JaI F ∅;have w:=JaI A ∅;have L:=JaI y ∅;have N:=Jb3 x v hb;have M:=Jb3 q v hd;have G:=Jb3 A B hd;have i:=JcL hs v;have n:Int.gcd (t.fdiv r) (s.fdiv r)=1:=JcL hr B;have o:d.fdiv r=d.fdiv s*s.fdiv r:=by
  refine Int.eq_of_mul_eq_mul_right (a:=r) ∅ ?_;rw [w,Int.mul_assoc,L,l]
 have H:Int.gcd a (b.fdiv s)=1:=JaT (Jb7 (JaT (Jcj h1)) ⟨s,m.symm⟩);have D:Int.gcd c (d.fdiv s)=1:=JaT (Jb7 (JaT (Jcj h2)) ⟨s,l.symm⟩);have C:Int.gcd t (b.fdiv s)=1:=by rw [ht];exact JhF H (JaT i)
 have E:Int.gcd t (d.fdiv s)=1:=by rw [ht,Int.add_comm];exact JhF D i
 have u:g (t.fdiv r) (b.fdiv s*d.fdiv r)=1:=JdH (by
  rw [o];have k:t.fdiv r∣t:=⟨r,z.symm⟩;exact Jb2 (Jb7 C k) (Jb2 (Jb7 E k) n))
 have e:b*d≠0:=Int.mul_ne_zero ∅ ∅;have f:=g_low (t:=a*d+c*b) e;have h:=JcP (t:=a*d+c*b) e;have j:=cross (t:=a*d+c*b) e;have p:1<=b.fdiv s*d.fdiv r:=by
  have:=Int.mul_pos (show 0<b.fdiv s by ac_nf) (show 0<d.fdiv r by ac_nf);ac_nf
 have J:t*s=a*d+c*b:=by
  rw [ht,Int.add_mul,Int.mul_assoc,Int.mul_assoc,l,m]
 have K:t.fdiv r*(b*d)=(a*d+c*b)*(b.fdiv s*d.fdiv r):=by
  have I:(t.fdiv r*(b*d))*r=((a*d+c*b)*(b.fdiv s*d.fdiv r))*r:=by
   calc (t.fdiv r*(b*d))*r=(t.fdiv r*r)*(b*d):=by ac_rfl
    _=t*((b.fdiv s*s)*d):=by rw [z,m]
    _=(t*s)*(b.fdiv s*d):=by ac_rfl
    _=(a*d+c*b)*(b.fdiv s*(d.fdiv r*r)):=by rw [J,w]
    _=((a*d+c*b)*(b.fdiv s*d.fdiv r))*r:=by ac_rfl
  exact Int.eq_of_mul_eq_mul_right ∅ I
 refine Jdm p h u f ?_;refine Int.eq_of_mul_eq_mul_right (a:=b*d) e ?_
 calc (t.fdiv r*bot (a*d+c*b) (b*d))*(b*d)=(t.fdiv r*(b*d))*bot (a*d+c*b) (b*d):=by ac_rfl
  _=((a*d+c*b)*bot (a*d+c*b) (b*d))*(b.fdiv s*d.fdiv r):=by rw [K];ac_rfl
  _=(top (a*d+c*b) (b*d)*(b*d))*(b.fdiv s*d.fdiv r):=by rw [j]
  _=(top (a*d+c*b) (b*d)*(b.fdiv s*d.fdiv r))*(b*d):=by ac_rfl
theorem JdO {a d:Int} (h:d∣a) (hd:1<=d):(a.fdiv d).natAbs<=a.natAbs:=by
 have e:=congrArg Int.natAbs (JaI h (show d≠0 by ac_nf));rw [Int.natAbs_mul] at e
 calc (a.fdiv d).natAbs<=(a.fdiv d).natAbs*d.natAbs:=Nat.le_mul_of_pos_right _ ∅
  _=a.natAbs:=e
theorem Sz.fdiv {n:Nat} {a d:Int} (h:Sz n a) (k:d∣a) (hd:1<=d):Sz n (a.fdiv d):=Nat.lt_of_le_of_lt (JdO k hd) h
theorem g_neg {a b:Int}:g (-a) b=g a b:=by unfold g;simp [Int.neg_gcd]
end Mth
namespace Mth
theorem Jjz {a b c d:Int} (hb:1<=b) (hd:1<=d) (h1:g a b=1) (h2:g c d=1) {u v:Int} (hu:u=g a d) (hv:v=g c b) :
  a.fdiv u*c.fdiv v=top (a*c) (b*d)/\b.fdiv v*d.fdiv u=bot (a*c) (b*d):=by
 have r:1<=u:=by rw [hu];have:=g_pos (a:=a) (b:=d) ∅;ac_nf
 have s:1<=v:=by rw [hv];have:=g_pos (a:=c) (b:=b) ∅;ac_nf
 have z:u∣a:=by rw [hu];exact Jcz ..
 have q:u∣d:=by rw [hu];exact JbP ..
 have y:v∣c:=by rw [hv];exact Jcz ..
 have p:v∣b:=by rw [hv];exact JbP ..
 have o:=JaI z ∅;have l:=JaI q ∅;have n:=JaI y ∅;have m:=JaI p ∅;have E:=Jb3 p s hb;have D:=Jb3 q r hd;have w:=JcL hu r;have B:=JcL hv s;have C:Int.gcd (a.fdiv u) (b.fdiv v)=1:=JaT (Jb7 (JaT (Jb7 (Jcj h1) ⟨u,o.symm⟩)) ⟨v,m.symm⟩);have x:Int.gcd (c.fdiv v) (d.fdiv u)=1:=JaT (Jb7 (JaT (Jb7 (Jcj h2) ⟨v,n.symm⟩)) ⟨u,l.symm⟩);have k:g (a.fdiv u*c.fdiv v) (b.fdiv v*d.fdiv u)=1:=JdH (JaT (Jb2 (JaT (Jb2 C w)) (JaT (Jb2 B x))));have e:b*d≠0:=Int.mul_ne_zero ∅ ∅;have f:=g_low (t:=a*c) e;have h:=JcP (t:=a*c) e;have i:=cross (t:=a*c) e;have j:1<=b.fdiv v*d.fdiv u:=by
  have:=Int.mul_pos (show 0<b.fdiv v by ac_nf) (show 0<d.fdiv u by ac_nf);ac_nf
 have A:(a.fdiv u*c.fdiv v)*(b*d)=(a*c)*(b.fdiv v*d.fdiv u):=by
  calc (a.fdiv u*c.fdiv v)*(b*d)=(a.fdiv u*c.fdiv v)*((b.fdiv v*v)*(d.fdiv u*u)):=by rw [m,l]
   _=((a.fdiv u*u)*(c.fdiv v*v))*(b.fdiv v*d.fdiv u):=by ac_rfl
   _=(a*c)*(b.fdiv v*d.fdiv u):=by rw [o,n]
 refine Jdm j h k f ?_;refine Int.eq_of_mul_eq_mul_right (a:=b*d) e ?_
 calc ((a.fdiv u*c.fdiv v)*bot (a*c) (b*d))*(b*d)=((a.fdiv u*c.fdiv v)*(b*d))*bot (a*c) (b*d):=by ac_rfl
  _=((a*c)*bot (a*c) (b*d))*(b.fdiv v*d.fdiv u):=by rw [A];ac_rfl
  _=(top (a*c) (b*d)*(b*d))*(b.fdiv v*d.fdiv u):=by rw [i]
  _=(top (a*c) (b*d)*(b.fdiv v*d.fdiv u))*(b*d):=by ac_rfl
theorem JkG {t b:Int} (h:b<0):top (-t) (-b)=top t b/\bot (-t) (-b)=bot t b:=by
 have c:=JjR (t:=t) (b:=b) ∅;have a:=JjR (t:=-t) (b:=-b) ∅;rw [if_pos h,if_pos h] at c;rw [if_neg ∅,if_neg ∅] at a;exact ⟨a.1.symm.trans c.1,a.2.symm.trans c.2⟩
theorem Jly {a b:Int}:g a (-b)=g a b:=by unfold g;simp [Int.gcd_neg]
theorem JjP (a b:Int):g a b=g b a:=by unfold g;rw [Int.gcd_comm]
end Mth
namespace L2
open PySem PySem.Spec PyProof.Rows
section
variable {σ:St} {H:Hp} {Q:VK} {u:TS} {ta tb te:TE} {tA:TA} {r:R2} {E:XK} {sp:Sp} {D:Ends} {t:TS} {g:TG} {K:W.Frag}
theorem y88y:tSeq t u D σ H=t { D with nx:=u D } σ H:=rfl
theorem y76y:tNext D σ H=D.nx σ H:=rfl
theorem y2by:tAsg te g D σ H=te σ H fun x H1=>g x σ H1 D.nx:=rfl
variable {v:V}
theorem y71y {i:Nat} {R:St->Hp->Prop}:gName i v σ H R=R (σ.set i (some v)) H:=rfl
theorem y85y:tRet te D σ H=te σ H D.rt:=rfl
theorem y86y:tRetN D σ H=D.rt .non H:=rfl
theorem y49y:tDrop te D σ H=te σ H fun _ H1=>D.nx σ H1:=rfl
theorem y2fy:tC v σ H Q=Q v H:=rfl
theorem y7dy:tOp r ta tb σ H Q=ta σ H fun x H1=>tb σ H1 fun y H2=>r x y H2 Q:=rfl
theorem y99y {f:V->Hp->VK->Prop}:tUn f ta σ H Q=ta σ H fun x H1=>f x H1 Q:=rfl
theorem y31y {f:List V->Hp->VK->Prop}:tCB f tA σ H Q=tA σ H fun vs H1=>f vs H1 Q:=rfl
variable {R:List V->Hp->Prop}
theorem y3ey:tCons ta tA σ H R=ta σ H fun x H1=>tA σ H1 fun xs H2=>R (x::xs) H2:=rfl
theorem y77y:tNil σ H R=R [] H:=rfl
variable {dvs:List V}
theorem y30y:tCall sp dvs E tA σ H Q=tA σ H fun vs H1=>sp (vs++dvs) H1 Q E:=rfl
variable {R:Bool->Hp->Prop}
theorem y8fy:tTest te σ H R=te σ H fun x H'=>∃ k,x=.bl k/\R k H':=rfl
theorem y23y:tB te σ H R=te σ H fun x H'=>∃ k,x=.bl k/\R k H':=rfl
variable {a b:TT}
theorem y29y:tAnd a b σ H R=a σ H fun c H1=>if c=true then b σ H1 R else R false H1:=rfl
theorem y7ey:tOr a b σ H R=a σ H fun c H1=>if c=true then R true H1 else b σ H1 R:=rfl
theorem y79y:tNot a σ H R=a σ H fun c H1=>R (!c) H1:=rfl
theorem y2ay:tAndV ta tb σ H Q=ta σ H fun x H1=>∃ c,x=.bl c/\if c=true then tb σ H1 Q else Q (.bl false) H1:=rfl
theorem y7fy:tOrV ta tb σ H Q=ta σ H fun x H1=>∃ c,x=.bl c/\if c=true then Q (.bl true) H1 else tb σ H1 Q:=rfl
theorem y7by:tNotV ta σ H Q=ta σ H fun x H1=>∃ c,x=.bl c/\Q (.bl (!c)) H1:=rfl
theorem y5ey {c:TT}:tIfS c t u D σ H=c σ H fun b H1=>if b=true then t D σ H1 else u D σ H1:=rfl
theorem y9by {i:Nat}:tVar i σ H Q=∃ v,σ[i]?=some (some v)/\Q v H:=rfl
theorem y26y {i j:Int}:rAddU K (.int i) (.int j) H Q=Q (.int (i+j)) H:=rfl
theorem y27y {i j:Str}:rAddU K (.str i) (.str j) H Q=(i.length+j.length<=sizeLine/\Q (.str (i++j)) H):=rfl
variable {j:Int}
theorem y8dy {f:Int->Int->V} {i:Int}:rI0 f (.int i) (.int j) H Q=Q (f i j) H:=by
 unfold rI0;simp
theorem y75y {f:Int->V} {i:Int}:rU f (.int i) H Q=Q (f i) H:=by
 unfold rU;simp
theorem y6ey {i:Int}:rMulU (.int i) (.int j) H Q=(IntMulOk i j/\Q (.int (i*j)) H):=rfl
theorem y4ey {i:Int}:Jiu (.int i) (.int j) H Q=(DivOk j/\Q (.int (i.fdiv j)) H):=rfl
theorem y6dy {i:Int}:rModU (.int i) (.int j) H Q=(j≠0/\Q (.int (i.fmod j)) H):=rfl
theorem y82y {i:Int}:rPowU (.int i) (.int j) H Q=(CPow i j/\Q (.int (i ^ j.toNat)) H):=rfl
theorem y34y {p:Int->Int->Bool} {i:Int}:rCmpU p (.int i) (.int j) H Q=Q (.bl (p i j)) H:=rfl
theorem y4cy {i:Int}:rEqU K (.int i) (.int j) H Q=Q (.bl (decide (i=j))) H:=rfl
theorem y73y {i:Int}:rNeU K (.int i) (.int j) H Q=Q (.bl (!decide (i=j))) H:=rfl
variable {j:Str}
theorem y4dy {i:Str}:rEqU K (.str i) (.str j) H Q=Q (.bl (decide (i=j))) H:=rfl
theorem y74y {i:Str}:rNeU K (.str i) (.str j) H Q=Q (.bl (!decide (i=j))) H:=rfl
variable {j:Bool}
theorem y4by {i:Bool}:rEqU K (.bl i) (.bl j) H Q=Q (.bl (decide (i=j))) H:=rfl
theorem y72y {i:Bool}:rNeU K (.bl i) (.bl j) H Q=Q (.bl (!decide (i=j))) H:=rfl
theorem y94y:tTup tA σ H Q=tA σ H fun xs H1=>xs.length<=sizeLine/\∀ p,H1 p=none->Q (.ref p) (upd H1 p (.tup xs)):=rfl
theorem y68y:tLst tA σ H Q=tA σ H fun xs H1=>xs.length<=sizeLine/\∀ p,H1 p=none->Q (.ref p) (upd H1 p (.lst xs)):=rfl
variable {x:V} {T:String}
theorem y64y:rIsi K [x, .ty T] H Q=(T∈["int","str","bool","list","tuple"]/\∃ t,tyN K H x t/\Q (.bl (isiB t T)) H):=rfl
theorem y25y {i:Int}:rAbs [.int i] H Q=Q (.int (if i<0 then -i else i)) H:=rfl
variable {j:Int}
theorem y6cy {i:Int}:rMin [.int i, .int j] H Q=Q (.int (if j<i then j else i)) H:=rfl
theorem y96y {i:Int} {s:String}:tyN K H (.int i) s=(s="int"):=rfl
theorem y98y {i:Str} {s:String}:tyN K H (.str i) s=(s="str"):=rfl
theorem y95y {i:Bool} {s:String}:tyN K H (.bl i) s=(s="bool"):=rfl
theorem y97y {s:String}:tyN K H .non s=(s="NoneType"):=rfl
end
theorem JgF:bootBuiltins "abs"=some (.builtin "abs"):=by decide +kernel
theorem JbN:bootBuiltins "len"=some (.builtin "len"):=by decide +kernel
theorem Jlr:bootBuiltins "min"=some (.builtin "min"):=by decide +kernel
theorem Jlt:bootBuiltins "sum"=some (.builtin "sum"):=by decide +kernel
theorem Ja7:bootBuiltins "isinstance"=some (.builtin "isinstance"):=by decide +kernel
theorem Jlp:bootBuiltins "all"=some (.builtin "all"):=by decide +kernel
theorem Jlq:bootBuiltins "int"=some (.type "int"):=by decide +kernel
theorem Jls:bootBuiltins "str"=some (.type "str"):=by decide +kernel
theorem Jkj:bootBuiltins "bool"=some (.type "bool"):=by decide +kernel
theorem Jf5:bootBuiltins "list"=some (.type "list"):=by decide +kernel
theorem JeL:bootBuiltins "tuple"=some (.type "tuple"):=by decide +kernel
theorem Jkk:bootBuiltins "dict"=some (.type "dict"):=by decide +kernel
theorem JiY:bootBuiltins "range"=some (.type "range"):=by decide +kernel
theorem yby:isiB "int" "int"=true:=by decide
theorem ydy:isiB "int" "str"=false:=by decide
theorem yay:isiB "int" "bool"=false:=by decide
theorem ycy:isiB "int" "list"=false:=by decide
theorem yey:isiB "int" "tuple"=false:=by decide
theorem y15y:isiB "str" "int"=false:=by decide
theorem y17y:isiB "str" "str"=true:=by decide
theorem y14y:isiB "str" "bool"=false:=by decide
theorem y16y:isiB "str" "list"=false:=by decide
theorem y18y:isiB "str" "tuple"=false:=by decide
theorem y6y:isiB "bool" "int"=true:=by decide
theorem y8y:isiB "bool" "str"=false:=by decide
theorem y5y:isiB "bool" "bool"=true:=by decide
theorem y7y:isiB "bool" "list"=false:=by decide
theorem y9y:isiB "bool" "tuple"=false:=by decide
theorem y1y:isiB "NoneType" "int"=false:=by decide
theorem y3y:isiB "NoneType" "str"=false:=by decide
theorem y0y:isiB "NoneType" "bool"=false:=by decide
theorem y2y:isiB "NoneType" "list"=false:=by decide
theorem y4y:isiB "NoneType" "tuple"=false:=by decide
theorem y10y:isiB "list" "int"=false:=by decide
theorem y12y:isiB "list" "str"=false:=by decide
theorem yfy:isiB "list" "bool"=false:=by decide
theorem y11y:isiB "list" "list"=true:=by decide
theorem y13y:isiB "list" "tuple"=false:=by decide
theorem y1ay:isiB "tuple" "int"=false:=by decide
theorem y1cy:isiB "tuple" "str"=false:=by decide
theorem y19y:isiB "tuple" "bool"=false:=by decide
theorem y1by:isiB "tuple" "list"=false:=by decide
theorem y1dy:isiB "tuple" "tuple"=true:=by decide
theorem y1fy:("int"∈["int","str","bool","list","tuple"])=True:=by simp
theorem y21y:("str"∈["int","str","bool","list","tuple"])=True:=by simp
theorem y1ey:("bool"∈["int","str","bool","list","tuple"])=True:=by simp
theorem y20y:("list"∈["int","str","bool","list","tuple"])=True:=by simp
theorem y22y:("tuple"∈["int","str","bool","list","tuple"])=True:=by simp
variable {P:Program} {scope:Scope} {A:Around} {H:Hp}
theorem y24y {CX:CXT} {w:World} {K:W.Frag} {mg:Str->Option Value} {base:Heap} {N:List Str} {qual:Str} {f:Addr} {cd:Value} {outer:List Env} {s:Shared} {E:XK}:(cxOf CX P w K mg base N qual scope f cd A outer s H E).K=K:=rfl
def ForR (lo:Int) (n:Nat) (g:TG) (tb:TS) (D:Ends) (σ : St) (H:Hp):Prop:=∃ W:Nat->Nat->St->Hp->Prop,(∃ m,W 0 m σ H)/\∀ i m σ H,W i m σ H ->
 ((Itr lo n).stop i H/\D.nx σ H)\/((Itr lo n).go i H/\∃ N:St->Hp->Prop,(∀ σ' H',N σ' H'->∃ m',m'<m/\W (i+1) m' σ' H')/\∀ x H',(Itr lo n).yld i H x H'->g x σ H' fun σ2 H2=>tb { D with nx:=N,ct:=N,bk:=D.nx } σ2 H2)
def ForA (K:W.Frag) (a:Addr) (g:TG) (tb:TS) (D:Ends) (σ : St) (H:Hp):Prop :=
 ((∃ xs,SqL K H a xs)/\∃ W:Nat->Nat->St->Hp->Prop,(∃ m,W 0 m σ H)/\∀ i m σ H,W i m σ H ->
  ((Itl K a).stop i H/\D.nx σ H)\/((Itl K a).go i H/\∃ N:St->Hp->Prop,(∀ σ' H',N σ' H'->∃ m',m'<m/\W (i+1) m' σ' H')/\∀ x H',(Itl K a).yld i H x H'->g x σ H' fun σ2 H2=>tb { D with nx:=N,ct:=N,bk:=D.nx } σ2 H2)) \/
 ((∃ xs,SqT K H a xs)/\∃ W:Nat->Nat->St->Hp->Prop,(∃ m,W 0 m σ H)/\∀ i m σ H,W i m σ H ->
  ((Itt K a).stop i H/\D.nx σ H)\/((Itt K a).go i H/\∃ N:St->Hp->Prop,(∀ σ' H',N σ' H'->∃ m',m'<m/\W (i+1) m' σ' H')/\∀ x H',(Itt K a).yld i H x H'->g x σ H' fun σ2 H2=>tb { D with nx:=N,ct:=N,bk:=D.nx } σ2 H2))
variable {ta:TA} {tb:TS} {σ:St}
theorem y52y {g:TG} {D:Ends}:tFor (iRng1 ta) g tb D σ H=ta σ H fun vs H1=>∃ j:Int,vs=[.int j]/\-(2 ^ 62)<=j/\j<2 ^ 62/\ForR 0 j.toNat g tb D σ H1:=rfl
theorem y53y {g:TG} {D:Ends}:tFor (iRng2 ta) g tb D σ H=ta σ H fun vs H1=>∃ i j:Int,vs=[.int i, .int j]/\(-(2 ^ 62)<=i/\i<2 ^ 62/\-(2 ^ 62)<=j/\j<2 ^ 62)/\ForR i (j-i).toNat g tb D σ H1:=rfl
theorem y54y {K:W.Frag} {tl:TE} {g:TG} {D:Ends}:tFor (iAny K tl) g tb D σ H=tl σ H fun x H1=>∃ a,x=.ref a/\ForA K a g tb D σ H1:=rfl
variable {n:Nat}
theorem ForR.by {lo:Int} {g:TG} {D:Ends} (Pv:Nat->St->Hp->Prop) (h0:Pv 0 σ H)
  (hs:∀ i σ H,i<n->Pv i σ H->g (.int (lo+i)) σ H fun σ2 H2=>tb { D with nx:=Pv (i+1),ct:=Pv (i+1),bk:=D.nx } σ2 H2) (hd:∀ σ H,Pv n σ H->D.nx σ H):ForR lo n g tb D σ H:=JhR Pv h0 hs hd
variable {o:HO}
theorem JdZ {R:V->Hp->Prop} (h:∀ p H1,Same H H1->H1 p=some o->R (.ref p) H1):∀ p,H p=none->R (.ref p) (upd H p o):=fun p a=>
 h p _ (fun b u q=>by rw [Jag (Jah q a)];exact q) Jaj
variable {H':Hp} {p:Addr}
theorem newS (h:H p=none) (e:upd H p o=H'):Same H H':=fun b u q=>by rw [<- e,Jag (Jah q h)];exact q
theorem newE (e:upd H p o=H'):H' p=some o:=by rw [<- e,Jaj]
theorem JeK {i:Int} (h:Mth.Sz n i):Builtin.Int.intBits i<=n:=by
 unfold Builtin.Int.intBits;split
 ·exact Nat.zero_le _
 ·rename_i z;have : i.natAbs.log2<n:=(Nat.log2_lt (by simpa using z)).mpr h;ac_nf
variable {j:Int}
theorem mulOk {m:Nat} {i:Int} (h:Mth.Sz m i) (k:Mth.Sz n j) (hm:m<=2 ^ 20:=by decide) (hn:n<=2 ^ 20:=by decide):IntMulOk i j:=IntMulOk.of_bits (Nat.le_trans (JeK h) hm) (Nat.le_trans (JeK k) hn)
theorem JjS {i:Int} (h:Mth.Sz 64 j):IntMulOk i j:=IntMulOk.of_right (JeK h)
theorem divOk (h:j≠0) (k:Mth.Sz n j) (hn:n<9000:=by decide):DivOk j:=⟨h,Mth.JkF k hn⟩
theorem len0:([]:List V).length<=sizeLine:=by decide
variable {a b:V}
theorem len2:[a,b].length<=sizeLine:=by show 2<=sizeLine;decide
theorem len5 {c d e:V}:[a,b,c,d,e].length<=sizeLine:=by show 5<=sizeLine;decide
theorem JaZ (h:decide (j≠0/\j.natAbs<2 ^ 64)=true):DivOk j:=by
 have z:=of_decide_eq_true h;exact divOk z.1 (n:=64) z.2
theorem Ja0 {i:Int} (h:decide (j.natAbs<2 ^ 64)=true):IntMulOk i j:=by
 have z:j.natAbs<2 ^ 64:=of_decide_eq_true h;exact JjS z
theorem JaD {i:Int} (h:decide (i.natAbs<2 ^ 64)=true):IntMulOk i j:=by
 have z:i.natAbs<2 ^ 64:=of_decide_eq_true h;exact IntMulOk.of_left (JeK (n:=64) z)
theorem Ja1 {i:Int} (h:decide (0<=j/\j<=1000000/\i.natAbs<2 ^ 64)=true):CPow i j:=by
 have z:0<=j/\j<=1000000/\i.natAbs<2 ^ 64:=of_decide_eq_true h;exact z
def FrV (K:W.Frag) (H:Hp) (v:V) (a b:Int):Prop:=∃ p,v=.ref p/\SqT K H p [.int a, .int b]
variable {v:V} {a b:Int}
theorem FrV.same {K:W.Frag} (S:Same H H') (h:FrV K H v a b):FrV K H' v a b:=by
 obtain ⟨p,e,q⟩:=h;exact ⟨p,e,q.same S⟩
theorem FrV.of {K:W.Frag} (h:H p=some (.tup [.int a, .int b])):FrV K H (.ref p) a b:=⟨p,rfl,SqT.of h⟩
variable {x:V} {r:List V} {Q:VK}
theorem ixT0 {K:W.Frag} (h:SqT K H p (x::r)) (q:Q x H):rIxU K (.ref p) (.int 0) H Q:=⟨_,x, .inr h,Jb6 (j:=0) rfl,q⟩
variable {y:V}
theorem ixT1 {K:W.Frag} (h:SqT K H p (x::y::r)) (q:Q y H):rIxU K (.ref p) (.int 1) H Q:=⟨_,y, .inr h,Jb6 (j:=1) rfl,q⟩
theorem ixF0 {K:W.Frag} (h:FrV K H v a b) (q:Q (.int a) H):rIxU K v (.int 0) H Q:=by
 obtain ⟨p,rfl,z⟩:=h;exact ixT0 z q
theorem ixF1 {K:W.Frag} (h:FrV K H v a b) (q:Q (.int b) H):rIxU K v (.int 1) H Q:=by
 obtain ⟨p,rfl,z⟩:=h;exact ixT1 z q
theorem FrV.rep {K:W.Frag} (h:FrV K H v a b):Rep K H (.tup [.int a, .int b]) v:=by
 obtain ⟨p,rfl,z⟩:=h;simp only [Rep,RepL];exact ⟨p,_,rfl,z,_,_,rfl,rfl,_,_,rfl,rfl,rfl⟩
variable {c d:Int}
theorem eqF {K:W.Frag} (h:FrV K H x a b) (g:FrV K H y c d) (q:Q (.bl (decide (a=c)&&decide (b=d))) H):rEqU K x y H Q:=by
 have e:eqD (.tup [.int a, .int b]) (.tup [.int c, .int d])=(decide (a=c)&&decide (b=d)):=by
  simp only [eqD,eqL,Bool.and_true]
  congr 1 <;> simp [BEq.beq]
 have i:=h.rep;have f:=g.rep;obtain ⟨p,rfl,_⟩:=h;obtain ⟨j,rfl,_⟩:=g;exact ⟨_,_,i,f,by simp [depD,depL],rfl,by rw [e];exact q⟩
theorem neF {K:W.Frag} (h:FrV K H x a b) (g:FrV K H y c d) (q:Q (.bl (!(decide (a=c)&&decide (b=d)))) H):rNeU K x y H Q:=by
 have e:eqD (.tup [.int a, .int b]) (.tup [.int c, .int d])=(decide (a=c)&&decide (b=d)):=by
  simp only [eqD,eqL,Bool.and_true]
  congr 1 <;> simp [BEq.beq]
 have i:=h.rep;have f:=g.rep;obtain ⟨p,rfl,_⟩:=h;obtain ⟨j,rfl,_⟩:=g;exact ⟨_,_,i,f,by simp [depD,depL],rfl,by rw [e];exact q⟩
variable {xs:List V}
theorem ixT {K:W.Frag} {i:Nat} (h:SqT K H p xs) (e:xs[i]?=some v) (q:Q v H):rIxU K (.ref p) (.int (i:Int)) H Q:=⟨xs,v, .inr h,Jb6 e,q⟩
theorem ixL {K:W.Frag} {i:Nat} (h:SqL K H p xs) (e:xs[i]?=some v) (q:Q v H):rIxU K (.ref p) (.int (i:Int)) H Q:=⟨xs,v, .inl h,Jb6 e,q⟩
section
open PySem.W PySem.Builtin PySem.Builtin.ObjectAttr PySem.Builtin.Getset_descriptor
variable {prog:Program} {E:Value->Shared->Prop} {K:Frag} {x:Addr} {ox:Obj} {w:World} {s:Shared} {D:Addr}
end
variable {X:Cx}
def Jlh (r r' r'':R2) (ta tb tc td:TE):TE:=fun σ H Q=>ta σ H fun x H1=>tb σ H1 fun y H2=>r x y H2 fun z H3=>∃ k,z=.bl k /\
 (if k=true then tc σ H3 fun w' H4=>r' y w' H4 fun z' H5=>∃ k',z'=.bl k'/\(if k'=true then td σ H5 fun u' H6=>r'' w' u' H6 Q else Q (.bl false) H5) else Q (.bl false) H3)
def rFmt:V->Hp->VK->Prop:=fun x H Q=>match x with
 | .int i=>i.natAbs.log2<1920/\Q (.str (toString i)) H
 | _=>False
def TJ:=St->Hp->Str->VK->Prop
def jNil:TJ:=fun _ H acc Q=>acc.length<=sizeLine/\Q (.str acc) H
def jCons (te:TE) (t:TJ):TJ:=fun σ H acc Q=>te σ H fun x H1=>∃ y,x=.str y/\(acc++y).length<=sizeLine/\t σ H1 (acc++y) Q
def tFstr (t:TJ):TE:=fun σ H Q=>t σ H Str.empty Q
def rStrI:List V->Hp->VK->Prop:=fun xs H Q=>match xs with
 | [.int i]=>i.natAbs.log2<1920/\Q (.str (toString i)) H
 | _=>False
section
variable {En:Ends} {u:TS} {ta tb te tc:TE} {gs:TGs} {tA:TA} {E:XK} {sp:Sp} {t:TS} {td:TE} {g:TG} {K:W.Frag}
theorem y8by {r:V->Option Int->Option Int->Hp->VK->Prop} {tl th:TO}:tSl r te tl th σ H Q=te σ H fun x H1=>tl σ H1 fun l H2=>th σ H2 fun u H3=>r x l u H3 Q:=rfl
variable {R:Option Int->Hp->Prop}
theorem y81y:tPart te σ H R=te σ H fun x H1=>∃ i,x=.int i/\R (some i) H1:=rfl
theorem y78y:JiI σ H R=R none H:=rfl
variable {r r':R2}
theorem y32y:Jl8 r r' ta tb tc σ H Q=ta σ H fun x H1=>tb σ H1 fun y H2=>r x y H2 fun z H3=>∃ k,z=.bl k/\(if k=true then tc σ H3 fun w' H4=>r' y w' H4 Q else Q (.bl false) H3):=rfl
theorem y33y {r'':R2}:Jlh r r' r'' ta tb tc td σ H Q=ta σ H fun x H1=>tb σ H1 fun y H2=>r x y H2 fun z H3=>∃ k,z=.bl k /\
 (if k=true then tc σ H3 fun w' H4=>r' y w' H4 fun z' H5=>∃ k',z'=.bl k'/\(if k'=true then td σ H5 fun u' H6=>r'' w' u' H6 Q else Q (.bl false) H5) else Q (.bl false) H3):=rfl
variable {tj:TJ}
theorem y58y:tFstr tj σ H Q=tj σ H Str.empty Q:=rfl
variable {acc:Str}
theorem y66y:jCons te tj σ H acc Q=te σ H fun x H1=>∃ y,x=.str y/\(acc++y).length<=sizeLine/\tj σ H1 (acc++y) Q:=rfl
theorem y67y:jNil σ H acc Q=(acc.length<=sizeLine/\Q (.str acc) H):=rfl
theorem y51y {i:Int}:rFmt (.int i) H Q=(i.natAbs.log2<1920/\Q (.str (toString i)) H):=rfl
theorem y8cy {i:Int}:rStrI [.int i] H Q=(i.natAbs.log2<1920/\Q (.str (toString i)) H):=rfl
theorem y92y {D0:Addr} {i:Nat} {tx:St->Hp->VK->XK->Prop} {ts:TS}:Jj5 K D0 i tx ts En σ H=tx σ H (fun _ H1=>En.nx σ H1) fun cls od H1=>∃ C,cls=.ref C/\JeJ K C D0 /\
 ∀ ea,H1 ea=none->ts { nx:=fun σ' H'=>En.nx (σ'.set i none) H',rt:=En.rt,bk:=fun σ' H'=>En.bk (σ'.set i none) H',ct:=fun σ' H'=>En.ct (σ'.set i none) H' } (σ.set i (some (.ref ea))) (upd H1 ea (ExcO ea C od)):=rfl
variable {dvs:List V}
theorem y9cy {Qx:VK} {Ex:XK}:xCall sp dvs tA σ H Qx Ex=tA σ H fun vs H1=>sp (vs++dvs) H1 Qx Ex:=rfl
variable {C:Addr}
theorem y83y:Jj3 E C tA En σ H=tA σ H fun vs H1=>vs.length<=sizeLine/\E (.ref C) none H1:=rfl
end
def Its (x:Str):It:=⟨fun i _=>i<x.cps.size,fun i H v H'=>H'=H/\∃ c,x.cps[i]?=some c/\v=.str ⟨#[c]⟩,fun i _=>i=x.cps.size⟩
variable {tg:Expr} {x:Str}
theorem JfZ {w:World} {K:W.Frag} {it:Addr} {n:String} {St:Nat->Heap->Prop} (hn:["enumerate","zip","dict_itemiterator","dict_reverseitemiterator","odict_iterator","itertools.zip_longest","itertools.pairwise"].contains n=false)
  (hst:∀ i h,St i h->∃ o vs,h.get? it=some o/\o.cls=.type n/\o.data=.fields vs) (mk:∀ A:Around,A.handled=none->Walks P w A it [it] [it] x.cps.size (SignAt x) St)
  (hself:∀ (A:Around) (i:Nat) (s:Shared) (Q:Value->Shared->Prop) (E:Value->Shared->Prop),St i s.heap->Q (.ref it) s->wpAny (model P w) A (pyIter (.ref it)) Q E s):Turn P w K tg (Its x) [it] it St where
 mem:=by simp
 obj:=fun i h g b a=>by
  obtain rfl:b=it:=by simpa using a
  obtain ⟨o,vs,e,_,d⟩:=hst i h g;exact ⟨o,e,fun v z=>by rw [d] at z;cases z⟩
 keep:=fun i h l g k=>(mk {} rfl).frame i h l g fun b a o e=>k b a o e
 item:=by
  intro X B q r J i f s σ H E I m g C;subst B q r;obtain ⟨N,p,O,G,F,L⟩:=m it (by simp);refine (mk X.A (I.ok.hd J)).item i s _ _ C g fun v l M U j y=>?_;obtain ⟨c,u,t,rfl⟩:=U;have I1:Inv X f σ H { s with heap:=l,toks:=M }:=I.turned (fun b o a e=>y b o (by simpa using a) e) N p G F L;obtain ⟨o,vs,T,S,R⟩:=hst _ _ j;exact ⟨_,rfl,go_of (s:={ s with heap:=l,toks:=M }) T S R hn ⟨.str ⟨#[c]⟩,H,I1,⟨u,rfl⟩,⟨rfl,c,t,rfl⟩,j,fun b a=>(m b a).1⟩⟩
 done:=by
  intro X B q r J i f s σ H E I m g C;subst B q r;obtain ⟨N,p,O,G,F,L⟩:=m it (by simp);have D:i=x.cps.size:=C;subst D;exact (mk X.A (I.ok.hd J)).done s _ _ g fun l M y=>⟨rfl,I.turned (fun b o a e=>y b o (by simpa using a) e) N p G F L⟩
 self:=hself
def iStr (tl:TE):TI:=fun σ H R=>tl σ H fun x H1=>∃ z,x=.str z/\R (Its z) H1
theorem JlY {l:Expr} {tl:TE} (hl:PE X l tl):PI X tg l (iStr tl):=fun f s σ H R I h=>by
 refine thn (hl f s σ H _ I h) fun v d ζ=>?_;obtain ⟨x,r,I1,u,z,p,q⟩:=ζ;subst p;obtain ⟨t,rfl⟩:=u;have key:∀ (n:String),(n="str_ascii_iterator"\/n="str_iterator")->PIE X f σ tg R (.ref d.heap.objs.size) { d with heap:=d.heap.push { cls:=.type n,data:=.fields #[.str z t, .int 0 0] } }:=fun n k=>by
  have y:Turn X.prog X.w X.K tg (Its z) [d.heap.objs.size] d.heap.objs.size (fun i h=>h.IsStrIter d.heap.objs.size n z t i):=by
   rcases k with rfl | rfl
   ·exact JfZ (n:="str_ascii_iterator") ⋯ (fun i h g=>let ⟨o,a,b,c⟩:=g;⟨o,_,a,b,c⟩) (fun A j=>Walks.strAscii j _ z t) fun A i s Q E g q=>wpAny_pyIter_striter_ascii g q
   ·exact JfZ (n:="str_iterator") ⋯ (fun i h g=>let ⟨o,a,b,c⟩:=g;⟨o,_,a,b,c⟩) (fun A j=>Walks.strWide j _ z t) fun A i s Q E g q=>wpAny_pyIter_striter_wide g q
  refine ⟨d.heap.objs.size,[d.heap.objs.size],_,_,r,rfl,I1.kept (t':=d.toks) fun b o e=>Heap.get?_push_of_some _ e,y,⟨_,Heap.get?_push_size _ rfl,rfl,rfl⟩,fun b m=>?_,q⟩;obtain rfl:b=d.heap.objs.size:=by simpa using m
  exact I1.fpOk (Nat.le_refl _) (I1.hok.fresh (Nat.le_refl _))
 cases ha:z.cps.all (· < 128)
 ·exact wpAny_pyIter_wide ha (key _ (.inr rfl))
 ·exact wpAny_pyIter_ascii ha (key _ (.inl rfl))
abbrev Cx.inc (X:Cx) (N':List Str) (scope:Scope) (cl:List (Str × Addr)) (fp:List Addr) (s2:Shared) (H2:Hp) (C:Addr):Cx :=
 { X with N:=N',s₀:=s2,H₀:=H2,env:=compEnvC scope cl C X.env,outer:=X.stack,ex:=fp,fn:=fun _=>false,pn:=[],xe:=fun _ _=>False }
variable {pins:List (Addr × Obj)} {H2:Hp} {s2:Shared} {N':List Str} {cl:List (Str × Addr)} {fp:List Addr} {C:Addr}
theorem Inv.incOk (I:Inv X pins σ H2 s2) (hf:∀ b∈fp,FpOk X pins H2 b) (hfp:∀ b∈fp,b<s2.heap.objs.size) (hk:scope.kind=.function) (hC:s2.heap.objs.size<=C) (hcl:∀ x c,cl.lookup x=some c->X.env.cells.lookup x=some c)
  (hhas:∀ y,((relabel scope X.env).names.lookup y=some .cell\/(relabel scope X.env).names.lookup y=some .free)->∃ c,cl.lookup y=some c):(X.inc N' scope cl fp s2 H2 C).Ok where
 mod:=I.ok.mod
 kind:=hk
 glob:=I.ok.glob
 blt:=I.ok.blt
 above:=hC
 inj:=fun x y c f g=>I.ok.inj x y c (hcl x c f) (hcl y c g)
 has:=fun y d=>hhas y d
 cab:=fun x c h=>by cases h
 hd:=I.ok.hd
 frames:=I.ok.frames
 stk:=.inl rfl
 exf:=fun b a=>⟨Nat.ne_of_lt (Nat.lt_of_lt_of_le (hfp b a) hC),fun x c e=>(hf b a).2.2.2.2.1 x c (hcl x c e)⟩
 bs:=I.bs
 bsz:=Nat.le_trans I.ok.bsz I.sz
 noex:=fun b o e a=>by
  rcases (hf b a).2.2.2.1 with z | z
  ·exact I.ok.noex b o e z
  ·exact absurd (Nat.lt_of_lt_of_le (Nat.lt_of_lt_of_le (Heap.lt_size e) I.ok.bsz) z) (Nat.lt_irrefl _)
 exfs:=fun b a i=>by
  rcases mem_cons.mp (I.stkSub b i) with z | z
  ·exact (hf b a).2.1 z
  ·exact (hf b a).2.2.1 z
 funs:=I.stack
 frf:=I.stkFree
def JaA (cs:List (Nat × Str)) (σ : St):St:=cs.map fun p=>(σ[p.1]?).join
variable {s4:Shared} {own:List Str} {cs:List (Nat × Str)}
theorem Inv.capsLoc {m:Str->Option Value} (I:Inv X pins σ H2 s2) (ok:(X.inc (own++cs.map (·.2)) scope cl fp s2 H2 C).Ok) (kept:∀ c v,(∃ x,cl.lookup x=some c)->s2.heap.IsCell c v->s4.heap.IsCell c v)
  (hcl:∀ x c,cl.lookup x=some c->X.env.cells.lookup x=some c) (hcs:∀ p∈cs,X.N[p.1]?=some p.2/\X.env.scope.names.lookup p.2=some .cell/\(relabel scope X.env).names.lookup p.2=some .cell) :
  ∀ (i:Nat) (x:Str) (v:V),(own++cs.map (·.2))[i]?=some x->(List.replicate own.length none++JaA cs σ)[i]?=some (some v)->∃ u,RelV v u/\Look (compEnvC scope cl C X.env) s4.heap m x u:=fun i x v t e=>by
  by_cases h:i<own.length
  ·rw [List.getElem?_append_left (by simpa using h),List.getElem?_replicate,if_pos h] at e;cases e
  ·have b:(JaA cs σ)[i-own.length]?=some (some v):=by rw [List.getElem?_append_right (by simp;ac_nf)] at e;simpa using e
   have a:(cs.map (·.2))[i-own.length]?=some x:=by
    rwa [List.getElem?_append_right ∅] at t
   unfold JaA at b;rw [List.getElem?_map] at a b;cases q:cs[i-own.length]? with
   | none=>rw [q] at a;cases a
   | some p=>
    rw [q] at a b;obtain rfl:p.2=x:=by simpa using a
    have d:(σ[p.1]?).join=some v:=by simpa using b
    have f : σ[p.1]?=some (some v):=by
     cases z : σ[p.1]? with
     | none=>rw [z] at d;cases d
     | some o=>rw [z] at d;exact congrArg some d
    obtain ⟨r,l,j⟩:=hcs p (List.mem_of_getElem? q);obtain ⟨y,_,w⟩:=I.loc;obtain ⟨u,n,s⟩:=w p.1 p.2 v r f (.inr (.inl l));refine ⟨u,n, .inr ⟨.inl j,?_⟩⟩;obtain ⟨c,g⟩:=ok.has p.2 (.inl j);refine ⟨c,g,?_⟩;rcases s with ⟨k,_⟩ | ⟨_,c',e',hcell⟩
    ·have k:X.env.scope.names.lookup p.2=some .local:=k;rw [l] at k;cases k
    ·rw [hcl _ _ g] at e';cases e';exact kept _ _ ⟨_,g⟩ hcell
theorem Inv.incStart {m:Str->Option Value} (I:Inv X pins σ H2 s2) (ok:(X.inc (own++cs.map (·.2)) scope cl fp s2 H2 C).Ok) (kept:∀ b o,s2.heap.get? b=some o->s4.heap.get? b=some o) (hos:s4.os=s2.os) (hg:s4.gens=s2.gens) (hm:s4.heap.Ns C m)
  (hC:s2.heap.objs.size<=C) (hcl:∀ x c,cl.lookup x=some c->X.env.cells.lookup x=some c)
  (hcs:∀ p∈cs,X.N[p.1]?=some p.2/\X.env.scope.names.lookup p.2=some .cell/\(relabel scope X.env).names.lookup p.2=some .cell) :
  Inv (X.inc (own++cs.map (·.2)) scope cl fp s2 H2 C) [] (List.replicate own.length none++JaA cs σ) H2 s4 where
 ok:=ok
 os:=hos
 bare:=by rw [hg];exact I.bare
 base:=Un.kept kept
 loc:=⟨m,hm,fun i x v f g _=>I.capsLoc (m:=m) ok (fun c v _ ⟨o,d,a⟩=>⟨o,kept _ _ d,a⟩) hcl hcs i x v f g⟩
 cell:=fun x c e=>by
  obtain ⟨v,o,d,a⟩:=I.cell x c (hcl x c e);exact ⟨v,o,kept _ _ d,a⟩
 free:=I.hok.fresh hC
 freeC:=fun x c e=>I.freeC x c (hcl x c e)
 pin:=fun p h=>by simp at h
 hok:=I.hok.kept kept
 len:=by simp [JaA]
theorem Inv.incAgain {s':Shared} {σ':St} {pl:List (Addr × Obj)} (I:Inv X pins σ H2 s2) (J:Inv (X.inc (own++cs.map (·.2)) scope cl fp s2 H2 C) pl σ' H' s')
  (hf:∀ b∈fp,FpOk X pins H2 b) (hcl:∀ x c,cl.lookup x=some c->X.env.cells.lookup x=some c) (hcs:∀ p∈cs,X.N[p.1]?=some p.2/\X.env.scope.names.lookup p.2=some .cell/\(relabel scope X.env).names.lookup p.2=some .cell) :
  Inv (X.inc (own++cs.map (·.2)) scope cl fp s2 H2 C) [] (List.replicate own.length none++JaA cs σ) H' s' where
 ok:=J.ok
 os:=J.os
 bare:=J.bare
 base:=J.base
 loc:=by
  obtain ⟨m,a,_⟩:=J.loc;refine ⟨m,a,fun i x v h j _=>I.capsLoc (m:=m) J.ok (fun c v ⟨x,d⟩ ⟨o,g,f⟩=>?_) hcl hcs i x v h j⟩;have e:c∉fp:=fun z=>(hf c z).2.2.2.2.1 x c (hcl x c d) rfl;by_cases a:c∈frs X.stack
  ·obtain ⟨l,z⟩:=J.base.slot c o g (I.freeC x c (hcl x c d)) a e;exact ⟨_,z,f⟩
  ·exact ⟨o,J.base.keep c o g (I.freeC x c (hcl x c d)) a e,f⟩
 cell:=J.cell
 free:=J.free
 freeC:=J.freeC
 pin:=fun p k=>by simp at k
 hok:=J.hok
 len:=by simp [JaA]
section
variable {prog:Program} {E:Value->Shared->Prop} {R:Result->Shared->Prop} {w:World} {s:Shared} {elt target iter:Expr} {pos:Pos} {it acc:Value} {env:Env}
theorem Jg9 (J:Nat->Shared->Prop)
  (turn:∀ n s,J n s->wpAny (model prog w) A (pyNext it) (fun r s1=>match r with
   | none=>R (.ok .next) s1
   | some v=>wpAny (model prog w) A (letOwnedTupleGo target it v) (fun _ s2=>wpAny (model prog w) A (assign target env v) (fun _ s3=>wpAny (model prog w) A (eval elt env) (fun x s4=>
     wpAny (model prog w) A (call (.builtin "list.append") [acc,x]) (fun _ s5=>∃ m,m<n/\J m s5) (fun _ _=>False) s4) (fun _ _=>False) s3) (fun _ _=>False) s2) (fun _ _=>False) s1) (fun _ _=>False) s) (n:Nat) (h:J n s) :
  codeAny (model prog w) A (.compLoop (.ListComp elt [⟨target,iter,[],0⟩] scope pos) 0 it acc env) R s:=by
 refine codeAny_loop rfl J (fun n s f=>?_) n h;show wpAny _ A ((compTurn (.ListComp elt [⟨target,iter,[],0⟩] scope pos) 0 it acc env).onRaise (fun y=>do noteFrame y env;theTreesLotGoes y)) _ _ s
 (refine wpAny_noted ?_;rw [compTurn_list])
 refine wpAny_bind (wpAny_standAt (wpAny_bind (wpAny_mono (turn n s f) (fun r s1 a=>?_) fun _ _ z=>z.elim)));cases r with
 | none=>exact wpAny_pure a
 | some v=>
  refine wpAny_bind (wpAny_mono a (fun _ s2 b=>wpAny_bind (wpAny_mono b (fun _ s3 d=>?_) fun _ _ z=>z.elim)) fun _ _ z=>z.elim);refine wpAny_bind (wpAny_tests_nil ?_);exact wpAny_bind (wpAny_bind (wpAny_mono d (fun x s4 e=>(wpAny_bind (wpAny_mono e (fun _ s5 c=>(wpAny_pure (wpAny_pure ⟨rfl,c⟩))) fun _ _ z=>z.elim))) fun _ _ z=>z.elim))
end
def tComp (k:Nat) (cs:List (Nat × Str)) (wi:TI) (g:TG) (te:TE):TE:=fun σ H Q=>wi σ H fun J H1=>∃ W:Nat->Nat->List V->Hp->Prop,(∃ m,W 0 m [] H1)/\∀ i m ys H2,W i m ys H2->ys.length<=sizeLine /\
  ((J.stop i H2/\∀ p,H2 p=none->Q (.ref p) (upd H2 p (.lst ys))) \/
   (J.go i H2/\∀ x H3,J.yld i H2 x H3->g x (List.replicate k none++JaA cs σ) H3 fun σ4 H4=>te σ4 H4 fun y H5=>∃ m',m'<m/\W (i+1) m' (ys++[y]) H5))
theorem lstP {us:List Value} {v:Value}:(us.toArray.push v)=(us++[v]).toArray:=by simp
variable {iter elt:Expr} {pos:Pos} {wi:TI} {te:TE}
theorem Jd9 {g:TG} (hc:X.calm=true) (hi:PI X tg iter wi)
  (hg:∀ fp s2 H2 C,PG (X.inc (own++cs.map (·.2)) scope cl fp s2 H2 C) tg g) (he:∀ fp s2 H2 C,PE (X.inc (own++cs.map (·.2)) scope cl fp s2 H2 C) elt te)
  (hclos:closureFor scope X.env=pure cl) (hcell:∀ y∈scope.names,y.2≠.cell) (hkind:scope.kind=.function) (hnames:∀ y∈scope.names,y.2=.local->scope.names.lookup y.1=some .local)
  (hcl:∀ x c,cl.lookup x=some c->X.env.cells.lookup x=some c) (hhas:∀ y,((relabel scope X.env).names.lookup y=some .cell\/(relabel scope X.env).names.lookup y=some .free)->∃ c,cl.lookup y=some c)
  (hcs:∀ p∈cs,X.N[p.1]?=some p.2/\X.env.scope.names.lookup p.2=some .cell/\(relabel scope X.env).names.lookup p.2=some .cell)
  (hs:∀ x,foldedSetIterable iter X.env x=pure x:=by intro _;rfl):PE X (.ListComp elt [⟨tg,iter,[],0⟩] scope pos) (tComp own.length cs wi g te):=by
 intro B s σ H Q I h;rw [eval_ListComp];refine wpAny_comprehension_free (use:=none) rfl hs hclos hkind hnames (thn (hi B s σ H _ I h) fun v s1 h1=>thn h1 fun b7 s2 h2=>?_);obtain ⟨it,fp,tn,J,H2,rfl,I2,T,Y,f2,W,⟨m0,w0⟩,a3⟩:=h2;have K:∀ b∈fp,b<s2.heap.objs.size:=fun b d=>by
  obtain ⟨o,e,_⟩:=T.obj _ _ Y b d;exact Heap.lt_size e
 refine wpAny_newObj_type (wpAny_newFunctionEnv hcell (by intro y hy;simp at hy) (fun h4 l j=>?_) hkind);dsimp only at l j ⊢;generalize hH3:s2.heap.push { cls:=.type "list",dict:=none,data:=.seq ([]:List Value).toArray }=H3 at l j ⊢;have a1:H3.objs.size=s2.heap.objs.size+1:=by rw [<- hH3,Heap.size_push]
 have hC:s2.heap.objs.size<=H3.objs.size:=by ac_nf
 have t:s2.heap.objs.size≠H3.objs.size:=by ac_nf
 have R:∀ b o,s2.heap.get? b=some o->h4.get? b=some o:=fun b o e=>j.extBut b o (by have:=Heap.lt_size e;exact Nat.ne_of_lt (Nat.lt_of_lt_of_le this hC)) (Heap.get?_push_of_some _ (hH3 ▸ Heap.get?_push_of_some _ e));have a6:h4.get? s2.heap.objs.size=some { cls:=.type "list",data:=.seq ([]:List Value).toArray }:=j.extBut _ _ t (Heap.get?_push_of_some _ (hH3 ▸ Heap.get?_push_size _ rfl));obtain ⟨D,f⟩:∃ D,D=s2.heap.objs.size:=⟨_,rfl⟩;obtain ⟨C,b1⟩:∃ C,C=H3.objs.size:=⟨_,rfl⟩;rw [<- b1] at a1 l j hC t ⊢;rw [<- f] at K a1 hC t a6 ⊢;have F:=I2.incOk (N':=own++cs.map (·.2)) (C:=C) f2 (fun b d=>by rw [<- f];exact K b d) hkind (by rw [<- f];exact hC) hcl hhas;have I4:Inv (X.inc (own++cs.map (·.2)) scope cl fp s2 H2 C) [] (List.replicate own.length none++JaA cs σ) H2 { s2 with heap:=h4,toks:=s2.toks+([]:List (Str × Value)).length } :=
  I2.incStart (s4:={ s2 with heap:=h4,toks:=s2.toks+([]:List (Str × Value)).length }) F R rfl rfl l (by rw [<- f];exact hC) hcl hcs
 have Dfree:H2 D=none:=I2.hok.fresh (Nat.le_of_eq f.symm);have G:∀ b o,s2.heap.get? b=some o->b≠D:=fun b o e=>by
  rw [f];exact Nat.ne_of_lt (Heap.lt_size e)
 have a9:∀ b o,s2.heap.get? b=some o->b≠C:=fun b o e=>Nat.ne_of_lt (Nat.lt_of_lt_of_le (by rw [f];exact Heap.lt_size e) hC);have Dfs:D∉frs X.stack:=fun hm=>by
  obtain ⟨_,o,e,_⟩:=I2.stack.mem hm;exact G _ _ e rfl
 have M:∀ {σ':St} {H':Hp} {s':Shared} {us:List Value} {n:Nat} {pl:List (Addr × Obj)},Inv (X.inc (own++cs.map (·.2)) scope cl fp s2 H2 C) pl σ' H' s'->s'.heap.get? D=some { cls:=.type "list",data:=.seq us.toArray n }->H' D=none ->
   Inv (X.inc (own++cs.map (·.2)) scope cl fp s2 H2 C) [(D,{ cls:=.type "list",data:=.seq us.toArray n })] σ' H' s':=fun {σ' H' s' us n pl} J' e n'=>J'.pins_of fun p S=>by
  rcases mem_singleton.mp S with rfl
  exact ⟨e,n',t,Dfs,fun v z=>by cases z⟩
 have E:∀ {H':Hp} {o:Obj},(∀ b∈fp,H' b=none)->∀ b∈fp,FpOk (X.inc (own++cs.map (·.2)) scope cl fp s2 H2 C) [(D,o)] H' b:=fun {H' o} hn b d=>by
  refine ⟨hn b d,(F.exf b d).1,F.exfs b d, .inl d,(F.exf b d).2,fun p S=>?_⟩;rcases mem_singleton.mp S with rfl
  exact Nat.ne_of_gt (K b d)
 have O:∀ s3:Shared,s3={ s2 with heap:=h4,toks:=s2.toks+([]:List (Str × Value)).length } ->
   codeAny (model X.prog X.w) X.A (.compLoop (.ListComp elt [⟨tg,iter,[],0⟩] scope pos) 0 (.ref it) (.ref D) (compEnvC scope cl C X.env)) (compPost (model X.prog X.w) X.A X.xe none (EP X B σ Q) (.ref D) C) s3:=by
  rintro s3 rfl;refine Jg9 (fun n s'=>∃ i ys us Z H',Inv (X.inc (own++cs.map (·.2)) scope cl fp s2 H2 C) [(D,{ cls:=.type "list",data:=.seq us.toArray Z })] (List.replicate own.length none++JaA cs σ) H' s'/\tn i s'.heap/\(∀ b∈fp,H' b=none)/\Vals ys us/\W i n ys H') ?_ m0
   ⟨0,[],[],0,H2,M (us:=[]) (n:=0) I4 a6 Dfree,T.keep _ _ _ Y fun b d o e=>R b o e,fun b d=>(f2 b d).1, .nil,w0⟩
  rintro n s5 ⟨i,ys,us,Z,U,I5,a8,a4,vy,w5⟩;obtain ⟨hz,⟨a5,qn⟩ | ⟨go,a7⟩⟩:=a3 i n ys U w5
  ·refine wpAny_mono (T.done (X.inc (own++cs.map (·.2)) scope cl fp s2 H2 C) rfl rfl rfl hc i _ s5 _ U (fun _ _=>False) I5 (E a4) a8 a5) (fun r s6 z=>?_) fun _ _ z=>z;obtain ⟨rfl,I6⟩:=z;obtain ⟨m6,b2,_⟩:=id I6.loc;refine ⟨m6,b2,fun h7 b4=>?_⟩;obtain ⟨pD,pN,_,_,_⟩:=I6.pin (D,{ cls:=.type "list",data:=.seq us.toArray Z }) (by simp);have k:∀ b,b≠C->h7.get? b=s6.heap.get? b:=fun b d=>b4.2 b d;have V:=a9;have u7:Un (frs X.stack) fp H2 U s2.heap h7:=⟨fun b o e n1 n2 n3=>(k b (V b o e)).trans (I6.base.keep b o e n1 n2 n3),fun b o e n1 n2 n3=>by
     obtain ⟨sl,z⟩:=I6.base.slot b o e n1 n2 n3;exact ⟨sl,(k b (V b o e)).trans z⟩,I6.base.free,fun b o e n1=>by
     obtain ⟨o',z⟩:=I6.base.there b o e n1;exact ⟨o',(k b (V b o e)).trans z⟩,I6.base.tups,I6.base.frzs,I6.base.tbls⟩
   have Cfree:U C=none:=I6.free;have a2:HOk X.prog X.w U h7:=fun a o e=>by
    refine (I6.hok a o e).stay (fun c v b3 q=>(k c ?_).trans q) (fun _ q=>q) fun _ _ q=>q;rintro rfl;rcases b3 with z | z
    ·rw [<- z] at e;rw [Cfree] at e;cases e
    ·rw [Cfree] at z;cases z
   have I7:Inv X B σ U { s6 with heap:=h7 }:=I2.call' (s':={ s6 with heap:=h7 }) I6.os u7 a2 I6.bare fun b d=>⟨(f2 b d).2.2.2.1,(f2 b d).2.1,(f2 b d).2.2.2.2.1,(f2 b d).2.2.2.2.2⟩;have I8:=I7.track (a:=D) (o:=.lst ys) pN (Heap.get?_none_of_le (by rw [f];exact I2.sz)) (by rw [f];exact Nat.ne_of_gt I2.lt) (fun x c e z=>by
     obtain ⟨v,o,ho,_⟩:=I2.cell x c e;exact G _ _ ho z) (fun p S z=>G _ _ (I2.pin p S).1 z) ⟨hz,us,Z,vy,(k D t).trans pD⟩
   exact ⟨.ref D,_,I8,rfl,qn D pN⟩
  ·refine wpAny_mono (T.item (X.inc (own++cs.map (·.2)) scope cl fp s2 H2 C) rfl rfl rfl hc i _ s5 _ U (fun _ _=>False) I5 (E a4) a8 go) (fun r s6 z=>?_) fun _ _ z=>z;obtain ⟨u,rfl,z⟩:=z;refine wpAny_mono z (fun _ s7 ζ=>?_) fun _ _ z=>z;obtain ⟨x,H7,I7,r7,y7,a0,b6⟩:=ζ;have I7':=I7.pinned (E b6) (T.obj _ _ a0);refine wpAny_mono (hg fp s2 H2 C _ s7 _ H7 x u _ I7' r7 (a7 x H7 y7)) (fun _ s8 ⟨σ8,H8,I8,q8⟩=>?_) fun _ _ z=>z;refine wpAny_mono (he fp s2 H2 C _ s8 σ8 H8 _ I8 q8) (fun uy s9 ζ=>?_) fun _ _ z=>z;obtain ⟨y,H9,I9,r9,m',b5,w9⟩:=ζ;obtain ⟨pD,pN,_,_,_⟩:=I9.pin (D,{ cls:=.type "list",data:=.seq us.toArray Z }) (by simp);refine append_at (its:=us.toArray) (n:=Z) pD (fun b0 L P=>?_) (by rw [size_toArray, <- vy.length];exact hz);have m:∀ b∈fp, ∀ o,s7.heap.get? b=some o->s9.heap.get? b=some o/\H9 b=none:=fun b d o e=>by
    have z:=I9.pin (b,o) (mem_append_right _ (mem_append_right _ (Jce d e)));exact ⟨z.1,z.2.1⟩
   have I9':Inv (X.inc (own++cs.map (·.2)) scope cl fp s2 H2 C) [] (List.replicate own.length none++JaA cs σ) H9 s9:=I2.incAgain I9 f2 hcl hcs;have I10:Inv (X.inc (own++cs.map (·.2)) scope cl fp s2 H2 C) [] (List.replicate own.length none++JaA cs σ) H9 { s9 with heap:=b0 }:=I9'.turned (it:=D) (t':=s9.toks) (fun b o d e=>(L.2 b d).trans e) pN t (.inr (Nat.le_of_eq f.symm)) (fun x c e z=>by
     obtain ⟨v,o,ho,_⟩:=I2.cell x c (hcl x c e);exact G _ _ ho z) fun p S=>by simp at S
   rw [lstP] at P;refine ⟨m',b5,i+1,ys++[y],us++[uy],Z+1,H9,M I10 P pN,T.keep _ _ _ a0 fun b d o e=>?_,fun b d=>?_,vy.append (.cons r9 .nil),w9⟩
   ·exact (L.2 b (Nat.ne_of_lt (K b d))).trans (m b d o e).1
   ·obtain ⟨o,e,_⟩:=T.obj _ _ a0 b d;exact (m b d o e).2
 exact codeAny_compStart_list (O _ rfl) (T.self _ 0 _ _ _ (T.keep _ _ _ Y fun b d o e=>R b o e) (O _ rfl))
def rInU (K:W.Frag):R2:=fun x y H Q=>match x,y with
 | .str i, .str j=>Q (.bl (!(Builtin.Str.occurrences j i 0 j.length 1).isEmpty)) H
 | x,y=>rIn K false x y H Q
theorem JlS:OpR X (compareOp .In) (rInU X.K):=fun a s σ H x y v u Q I b c q=>by
 unfold rInU at q;split at q
 ·exact Jib a s σ H _ _ v u Q I b c ⟨_,_,rfl,rfl,q⟩
 ·exact Jia a s σ H _ _ v u Q I b c q
theorem JlR {K:W.Frag} (hK:X.K=K):OpR X (compareOp .In) (rInU K):=hK ▸ JlS
theorem ix_UK {K:W.Frag} (hK:X.K=K):IxR X (rIxU K):=hK ▸ ix_U
theorem JkL {K:W.Frag} (hK:X.K=K):OpR X (binaryOp .Add) (rAddU K):=hK ▸ JaE
theorem JjV {K:W.Frag} (hK:X.K=K) (hu:X.A.units+64<cLine):OpR X (compareOp .NotEq) (rNeU K):=hK ▸ Jc8 hu
theorem y60y {K:W.Frag} {i j:Str}:rInU K (.str i) (.str j) H Q=Q (.bl (!(Builtin.Str.occurrences j i 0 j.length 1).isEmpty)) H:=rfl
theorem all_range:∀ bs:List Bool,(List.range bs.length).all (fun i=>bs.getD i false)=bs.all id:=fun bs=>by
 rw [Bool.eq_iff_iff];simp only [List.all_eq_true,List.mem_range,id];constructor
 ·intro h x b;obtain ⟨i,a,rfl⟩:=List.mem_iff_getElem.mp b;have:=h i a;simpa [List.getD_eq_getElem?_getD,a] using this
 ·intro h i a;have:=h bs[i] (List.getElem_mem a);simpa [List.getD_eq_getElem?_getD,a] using this
def rAll (K:W.Frag):List V->Hp->VK->Prop:=fun xs H Q=>∃ (p:Addr) (bs:List Bool),xs=[.ref p]/\SqL K H p (bs.map V.bl)/\Q (.bl (bs.all id)) H
theorem Jhy (hc:X.calm=true):CallR X (.builtin "all") (rAll X.K):=fun j s σ H G N Q I r q=>by
 obtain ⟨p,c,rfl,t,q⟩:=q;obtain ⟨a,g,h,F⟩:=I.list t;obtain ⟨u,rfl,o⟩:=vals1 r;cases (show u=Value.ref p from o);refine call_all_walk (wpAny_pyIter_list h.isList ?_);have f:p<s.heap.objs.size:=by
  obtain ⟨_,e,_⟩:=h.isList;exact Heap.lt_size e
 refine ⟨s.heap.objs.size,_,_,a.toArray.size,_,_,fun i=>c.getD i false,rfl,Walks.list (by show X.A.handled=none;exact I.ok.hd hc) s.heap.objs.size p (Nat.ne_of_lt f) a.toArray,⟨⟨_,Heap.get?_push_size _ rfl,rfl,rfl⟩,h.isList.push _⟩,?_,?_⟩
 ·intro i v E Q' E' D z;have d:a[i]?=some v:=by simpa using D
  have m:i<c.length:=by
   obtain ⟨M,_⟩:=List.getElem?_eq_some_iff.mp d;have l:=g.length;rw [length_map] at l;ac_nf
  obtain ⟨J,n,w⟩:=g.get (i:=i) (x:=.bl c[i]) (by simp [m]);rw [d] at n;cases n;cases (show v=Value.bool c[i] from w);refine wpAny_truthy_bool ?_;simpa [List.getD_eq_getElem?_getD,m] using z
 ·intro L C k;have l:=g.length;rw [length_map] at l;have y:(List.range a.toArray.size).all (fun i=>c.getD i false)=c.all id:=by rw [size_toArray, <- l];exact all_range c
  rw [y];exact ⟨.bl _,H,I.kept (t':=C) fun b B e=>k b B (by have:=Heap.lt_size e;simp;exact Nat.ne_of_lt this) (Heap.get?_push_of_some _ e),rfl,q⟩
def rSlS:V->Option Int->Option Int->Hp->VK->Prop:=fun x lo hi H Q=>∃ z,x=.str z/\z.length<=sizeLine/\Q (.str (Txt.slice z lo hi)) H
theorem Jl5:SlR X rSlS:=fun b s σ H x v vl o i g n Q I j d m f h=>by
 obtain ⟨z,rfl,c,q⟩:=h;obtain ⟨t,rfl⟩:=j;refine ⟨"str",_,F.slot_str_getitem.lookup,typeIs_str _ _ _,?_⟩;have a:∀ (e:Tok) (k:Nat),EP X b σ Q (.str (Txt.slice z i g) e) { s with toks:=k }:=fun e k=>⟨.str _,H,I.tok k,⟨_,rfl⟩,q⟩;cases m <;> cases f
 ·exact wpAny_getItem_str_slice (l:=none) (u:=none) (st:=none) d rfl (post_val_or_str ⟨Nat.le_trans (Txt.slice_le z _ _) c,a⟩)
 ·exact wpAny_getItem_str_slice (l:=none) (u:=some (_,_)) (st:=none) d rfl (post_val_or_str ⟨Nat.le_trans (Txt.slice_le z _ _) c,a⟩)
 ·exact wpAny_getItem_str_slice (l:=some (_,_)) (u:=none) (st:=none) d rfl (post_val_or_str ⟨Nat.le_trans (Txt.slice_le z _ _) c,a⟩)
 ·exact wpAny_getItem_str_slice (l:=some (_,_)) (u:=some (_,_)) (st:=none) d rfl (post_val_or_str ⟨Nat.le_trans (Txt.slice_le z _ _) c,a⟩)
def rSlV (K:W.Frag):V->Option Int->Option Int->Hp->VK->Prop:=fun x lo hi H Q=>rSlU K x lo hi H Q\/rSlS x lo hi H Q
theorem sl_V:SlR X (rSlV X.K):=SlR.or sl_U Jl5
theorem hcl0:∀ (x:Str) (c:Addr),([]:List (Str × Addr)).lookup x=some c->X.env.cells.lookup x=some c:=fun _ _ h=>by simp at h
theorem hcs0:∀ p∈([]:List (Nat × Str)),X.N[p.1]?=some p.2/\X.env.scope.names.lookup p.2=some .cell/\(relabel scope X.env).names.lookup p.2=some .cell:=fun _ h=>by simp at h
theorem hhas0 (h:scope.names.all (fun p=>p.2 != .free&&p.2 != .cell)=true):∀ y,((relabel scope X.env).names.lookup y=some .cell\/(relabel scope X.env).names.lookup y=some .free)->∃ c,([]:List (Str × Addr)).lookup y=some c:=fun y a=>by
 exfalso;have g:=List.all_eq_true.mp h;have f:∀ k,(relabel scope X.env).names.lookup y=some k->k≠.cell/\k≠.free:=fun k e=>by
  have m:=PySem.mem_of_lookup e;obtain ⟨⟨n,b⟩,j,i⟩:=mem_map.mp (show (y,k)∈scope.names.map _ from m);have z:=g _ j;simp only [bne_iff_ne,ne_eq,Bool.and_eq_true] at z;have d:(if (b == NameKind.free&&X.env.scope.kind == .function&&X.env.kindOf n == some .cell)=true then (n,NameKind.cell) else (n,b))=(y,k):=i;split at d
  ·rename_i c;rw [Bool.and_eq_true,Bool.and_eq_true] at c;exact absurd (beq_iff_eq.mp c.1.1) z.1
  ·cases d;exact ⟨z.2,z.1⟩
 rcases a with a | a
 ·exact (f _ a).1 rfl
 ·exact (f _ a).2 rfl
mutual
def szD:D->Prop
 | .int i=>Mth.Sz 4000 i
 | .str s=>s.length<=1000
 | .tup xs=>szL xs
 | .lst xs=>szL xs
 | _=>True
def szL:List D->Prop
 | []=>True
 | x::xs=>szD x/\szL xs
end
def lowB (c:Nat):Bool:=decide (97<=c/\c<=122)
def nameS (s:Str):Bool:=(decide (1<=s.length)&&decide (s.length<=8))&&s.cps.toList.all lowB
def nameB:D->Bool
 | .str s=>nameS s
 | _=>false
def Jme:D->Bool
 | .int _=>true
 | _=>false
def fracB:D->Bool
 | .tup [.int a, .int b]=>decide (1<=b)&&decide (Mth.g a b=1)
 | _=>false
def JjH:D->Bool
 | .non=>true
 | d=>fracB d
def JjN (d e:D):Bool:=nameB d&&nameB e&&!eqD d e
def lessD:D->D->Bool
 | .tup [.int a, .int b], .tup [.int c, .int d]=>decide (a*d<c*b)
 | _,_=>false
def Jki (l g:D):Bool:=JjH l&&JjH g&&!lessD g l
def tieB:D->Bool
 | .tup [n,s,e,l,g]=>nameB n&&JjN s e&&Jki l g
 | _=>false
theorem Jhe:(Str.ofString "abcdefghijklmnopqrstuvwxyz").cps.toList=List.range' 97 26:=by decide
theorem Jhc (c:Nat):(!(Builtin.Str.occurrences (Str.ofString "abcdefghijklmnopqrstuvwxyz") ⟨#[c]⟩ 0 (Str.ofString "abcdefghijklmnopqrstuvwxyz").length 1).isEmpty)=lowB c:=by
 rw [StrLaws.found_one,Jhe];unfold lowB
 congr 1
 rw [List.mem_range'];refine propext ⟨fun ⟨i,a,e⟩=>by ac_nf,fun h=>⟨c-97,by ac_nf,by ac_nf⟩⟩
structure KCal (P:Program) (w:World) (K:W.Frag) (mg:Str->Option Value) (base:Heap) (k:Nat) (x:Str) (C:Addr) (ps:List Str) (sp:Sp):Prop where
 ex:∃ (f:Addr) (fd:FuncData),FnOk P w K mg base (CX1 P w) k f fd ps sp/\mg x=some (.ref C)/\Mk K C f/\Binds K fd ps []
structure MCal (P:Program) (w:World) (K:W.Frag) (mg:Str->Option Value) (base:Heap) (k:Nat) (m:Str) (Cs:Addr->Prop) (ps:List Str) (sp:Sp):Prop where
 ex:∃ (f:Addr) (fd:FuncData),FnOk P w K mg base (CX1 P w) k f fd ps sp/\(∀ C,Cs C->Cls K C/\Meth K C m f)/\W.keepIn K (.ref f)=true/\Binds K fd ps []
def JiH (Cs:Addr->Prop) (m:Str) (sp:Sp) (E:XK) (ta:TE) (t:TA):TE:=fun σ H Q=>ta σ H fun x H1=>∃ a C dx fs,x=.ref a/\H1 a=some (.ins C dx fs)/\Cs C/\fs.lookup m=none/\t σ H1 fun vs H2=>sp (x::vs) H2 Q E
section
variable {k':Nat} {mn:Str} {Cs:Addr->Prop} {ps:List Str} {sp:Sp} {E:XK} {p apos:Pos} {e o:Expr} {es:List Expr} {ta:TE} {k:Nat} {t:TA}
theorem KCal.ev (G:KCal X.prog X.w X.K X.mg X.base k x C ps sp) (hr:Room k' X.A) (hk:k+1<=k') (hg:Gl X x) (hx:JbT (CX1 X.prog X.w) X E) (ha:PA X (e::es) t)
  (hdb:(x == ("__debug__" : Str))=false:=by decide) (he:starEach (e::es) X.env=(false,eval e X.env)::starEach es X.env:=by rfl) (hpl:(backTo pos (starEach es X.env)).any (·.1)=false:=by rfl) :
  PE X (.Call (.Name x p) (e::es) [] pos) (tMake C sp [] E t):=by
 obtain ⟨f,c,F,b,M,a⟩:=G.ex;exact JkX M F (hr.mono hk) hg b a .nil hx ha hdb he hpl
variable {pl:Sem Bool}
theorem MCal.m (G:MCal X.prog X.w X.K X.mg X.base k mn Cs ps sp) (hr:Room k' X.A) (hk:k<=k') (hx:JbT (CX1 X.prog X.w) X E) (ho:PE X o ta) (ha:PA X (e::es) t)
  (hst:starEach (e::es) X.env=(false,eval e X.env)::starEach es X.env:=by rfl) (hpl:(backTo pos (starEach es X.env)).any (·.1)=false:=by rfl)
  (ht:eval (.Call (.Attribute o mn apos) (e::es) [] pos) X.env=(do
   let ov <- eval o X.env
   standAt apos.atName
   let (f,first) <- holding [ov] (getMethod ov mn pl)
   callWith pos f first (backTo pos (starEach (e::es) X.env)) (backToKw pos (keywordEach [] X.env))):=by rfl) :
  PE X (.Call (.Attribute o mn apos) (e::es) [] pos) (JiH Cs mn sp E ta t):=by
 obtain ⟨f,J,F,c,j,g⟩:=G.ex;intro b s σ H Q I h;refine W.methodCall_KW (pl:=pl) (thn (ho b s σ H _ I h) fun u p ζ=>?_) ht;obtain ⟨x,n,I1,z,a,C,B,M,i,y,d,l,q⟩:=ζ;subst i;obtain rfl:u=Value.ref a:=z;refine Jez I1 y (c C d).1 (c C d).2 l ?_;refine W.callWith_K (first:=[.ref a]) (h₀:=X.base) I.ok.mod.kin j (thn (ha pos b p σ n _ I1 q) fun us L ζ=>?_) hst hpl;obtain ⟨vs,D,I2,r,v⟩:=ζ;refine ⟨I2.kIn,?_⟩;exact Jiv (us:=.ref a::us) (vs:=.ref a::vs) F (hr.mono hk) g .nil hx I2 (.cons rfl r) (by simpa using v)
theorem MCal.m0 (G:MCal X.prog X.w X.K X.mg X.base k mn Cs ps sp) (hr:Room k' X.A) (hk:k<=k') (hx:JbT (CX1 X.prog X.w) X E) (ho:PE X o ta)
  (ht:eval (.Call (.Attribute o mn apos) [] [] pos) X.env=(do
   let ov <- eval o X.env
   standAt apos.atName
   let (f,first) <- holding [ov] (getMethod ov mn pl)
   callWith pos f first (backTo pos (starEach [] X.env)) (backToKw pos (keywordEach [] X.env))):=by rfl) :
  PE X (.Call (.Attribute o mn apos) [] [] pos) (JiH Cs mn sp E ta tNil):=by
 obtain ⟨f,r,F,c,i,e⟩:=G.ex;intro b s σ H Q I h;refine W.methodCall_KW (pl:=pl) (thn (ho b s σ H _ I h) fun u t ζ=>?_) ht;obtain ⟨x,j,I1,n,a,C,p,v,g,m,d,l,q⟩:=ζ;subst g;obtain rfl:u=Value.ref a:=n;refine Jez I1 m (c C d).1 (c C d).2 l ?_;exact W.callWith_K0 (first:=[.ref a]) I1.kIn i (Jiv (us:=[.ref a]) (vs:=[.ref a]) F (hr.mono hk) e .nil hx I1 (.cons rfl .nil) (show sp ([.ref a]++[]) j Q E from q))
def rMulS:R2:=fun x y H Q=>match x,y with
 | .str z, .int n=>0<n/\n<1000/\z.length<=1000/\∀ z':Str,z'.cps.toList=(List.replicate n.toNat z.cps.toList).flatten->Q (.str z') H
 | x,y=>rMulU x y H Q
theorem JeM:∀ (l:List (Array Nat)) (acc:Array Nat),(l.foldl (· ++ ·) acc).toList=acc.toList++(l.map (·.toList)).flatten
 | [],acc=>by simp
 | x::l,acc=>by
  rw [List.foldl_cons,JeM l];simp
theorem Jic:OpR X (binaryOp .Mult) rMulS:=fun a s σ H x y v u Q I b d q=>by
 unfold rMulS at q;split at q
 ·rename_i z n;obtain ⟨f,k,h,q⟩:=q;obtain ⟨t,rfl⟩:=b;obtain ⟨j,rfl⟩:=d;have g:z.cps.size=z.length:=rfl;have i:z.length*n.toNat<=1000*1000:=Nat.mul_le_mul h ∅;refine PySem.P.mul_str (by simp;ac_nf) (fun _ _=>?_) (fun _ _=>?_) ?_
  ·have : (1000:Int)<=(2 ^ 63-1)/n:=by
    rw [Int.le_ediv_iff_mul_le f];ac_nf
   ac_nf
  ·unfold Builtin.Str.tooLong;simp;have : (1000*1000:Nat)<=sizeLine:=by decide
   ac_nf
  ·rw [if_neg ∅];split
   ·rename_i c;refine ⟨.str z,H,I,⟨_,rfl⟩,q z ?_⟩;rcases Bool.or_eq_true _ _ |>.mp c with c | c
    ·obtain rfl:n=1:=by simpa using c
     simp
    ·have e:z.cps.toList=[]:=by
      have : z.length=0:=by simpa using c
      exact List.eq_nil_of_length_eq_zero (by rw [Array.length_toList];exact this)
     rw [e];simp
   ·refine ⟨?_, .str _,H,I.tok _,⟨_,rfl⟩,q _ ?_⟩
    ·show (Array.size _)<=sizeLine;rw [<- Array.length_toList,JeM];simp;have : (1000*1000:Nat)<=sizeLine:=by decide
     rw [Nat.mul_comm,g];ac_nf
    ·rw [JeM];simp
 ·exact JkP a s σ H _ _ v u Q I b d q
def rIsN:R2:=fun x y H Q=>y=.non/\Q (.bl (decide (x=.non))) H
def rNotN:R2:=fun x y H Q=>y=.non/\Q (.bl (!decide (x=.non))) H
theorem Je6:OpR X (compareOp .Is) rIsN:=JlT
theorem Je7:OpR X (compareOp .IsNot) rNotN:=JkQ
def Jl1 (K:W.Frag):List V->Hp->VK->Prop:=fun xs H Q=>∃ p ys,xs=[.ref p]/\(SqL K H p ys\/SqT K H p ys)/\∀ l,H l=none->Q (.ref l) (upd H l (.lst ys))
theorem Jg8:CallR X (.type "list") (Jl1 X.K):=Jfy
end
section
variable {K:W.Frag} {x:V}
theorem y63y:rIsN x .non H Q=Q (.bl (decide (x=.non))) H:=by simp [rIsN]
theorem y7ay:rNotN x .non H Q=Q (.bl (!decide (x=.non))) H:=by simp [rNotN]
variable {sp:Sp} {E:XK}
theorem y69y {dvs:List V} {t:TA}:tMake C sp dvs E t σ H Q=t σ H fun vs H1=>∀ x dx,H1 x=none->H1 dx=none->dx≠x->sp (.ref x::(vs++dvs)) (upd (upd H1 dx (.own x)) x (.ins C dx [])) (fun v H2=>v=.non/\Q (.ref x) H2) E:=rfl
variable {ta:TE}
theorem y6by {Cs:Addr->Prop} {mn:Str} {t:TA}:JiH Cs mn sp E ta t σ H Q=ta σ H fun x H1=>∃ a C dx fs,x=.ref a/\H1 a=some (.ins C dx fs)/\Cs C/\fs.lookup mn=none/\t σ H1 fun vs H2=>sp (x::vs) H2 Q E:=rfl
theorem y4fy {f:Str}:tFld K ta f σ H Q=ta σ H fun x H1=>∃ a C dx fs v,x=.ref a/\H1 a=some (.ins C dx fs)/\Cls K C/\JaU K C f/\fs.lookup f=some v/\Q v H1:=rfl
variable {tv:TE} {En:Ends}
theorem y89y {f:Str}:sFld K ta tv f En σ H=tv σ H fun y H1=>ta σ H1 fun x H2=>∃ a C dx fs,x=.ref a/\H2 a=some (.ins C dx fs)/\Cls K C/\JaU K C f/\fs.length<1000/\En.nx σ (upd H2 a (.ins C dx (putF f y fs))):=rfl
theorem y2dy {T:String} {r:V->List V->Hp->VK->Prop} {to:TE} {t:TA}:tBM K T r to t σ H Q=to σ H fun x H1=>tyV K T x H1/\t σ H1 fun vs H2=>r x vs H2 Q:=rfl
variable {R:St->Hp->Prop}
theorem y5ay {g:TG} {gs:TGs}:gCons g gs (v::r) σ H R=g v σ H fun σ' H'=>gs r σ' H' R:=by
 unfold gCons;refine propext ⟨fun ⟨a,b,e,h⟩=>?_,fun h=>⟨v,r,rfl,h⟩⟩;cases e;exact h
theorem y5cy:gNil [] σ H R=R σ H:=by unfold gNil;simp
def nonD:D->Bool
 | .non=>true
 | _=>false
theorem putE {l:Addr} (e:upd H l o=H'):H' l=some o:=by rw [<- e,Jaj]
end
section
variable {En:Ends} {ta tb tc:TE} {td:TE} {K:W.Frag}
end
def Jbs (cells:List (Str × Addr)):List (Str × NameKind)->List (Str × Addr)->List (Str × Addr)
 | [],acc=>acc
 | (n,k)::r,acc=>Jbs cells r (if k == .free then (n,(cells.lookup n).getD 0)::acc else acc)
theorem Jf7 {env:Env}:∀ (names:List (Str × NameKind)) (acc:List (Str × Addr)),(∀ p∈names,p.2=.free->∃ c,env.cells.lookup p.1=some c) ->
  (forIn names acc fun (p:Str × NameKind) cs=>(if p.2 == .free then do let c <- cellOf env p.1;pure (ForInStep.yield ((p.1,c)::cs)) else pure (ForInStep.yield cs):Sem (ForInStep (List (Str × Addr)))))=(pure (Jbs env.cells names acc):Sem (List (Str × Addr)))
 | [],acc,_=>by simp [Jbs]
 | (n,k)::r,acc,h=>by
  rw [List.forIn_cons];by_cases c:(k == .free)=true
  ·obtain ⟨a,ha⟩:=h (n,k) mem_cons_self (beq_iff_eq.mp c);have e:cellOf env n=pure a:=by unfold cellOf;rw [ha]
   simp only [c,if_true,e,pure_bind];have:=Jf7 (env:=env) r ((n,a)::acc) fun p hp=>h p (mem_cons_of_mem _ hp);simp only [Jbs,c,if_true,ha,Option.getD_some];exact this
  ·have c':(k == .free)=false:=by simpa using c
   simp only [c',Bool.false_eq_true,if_false,pure_bind];have:=Jf7 (env:=env) r acc fun p hp=>h p (mem_cons_of_mem _ hp);simp only [Jbs,c',Bool.false_eq_true,if_false];exact this
variable {env:Env}
theorem Jf6 (h:∀ p∈scope.names,p.2=.free->∃ c,env.cells.lookup p.1=some c):closureFor scope env=pure (Jbs env.cells scope.names []):=by
 have:=Jf7 (env:=env) scope.names [] h;unfold closureFor;simp only [pure_bind];refine Eq.trans ?_ (congrArg (fun m:Sem (List (Str × Addr))=>m >>= pure) this |>.trans (by simp));first | rfl | (congr 1)
variable {cells:List (Str × Addr)}
theorem JcK:∀ (names:List (Str × NameKind)) (acc:List (Str × Addr)),(∀ x c,acc.lookup x=some c->cells.lookup x=some c)->(∀ p∈names,p.2=.free->∃ c,cells.lookup p.1=some c) ->
  ∀ x c,(Jbs cells names acc).lookup x=some c->cells.lookup x=some c
 | [],acc,ha,_,x,c,h=>ha x c h
 | (n,k)::r,acc,ha,hf,x,c,h=>by
  simp only [Jbs] at h;refine JcK r _ ?_ (fun p hp=>hf p (mem_cons_of_mem _ hp)) x c h;intro y d hy;by_cases f:(k == .free)=true
  ·rw [if_pos f] at hy;obtain ⟨a,e⟩:=hf (n,k) mem_cons_self (beq_iff_eq.mp f);rw [List.lookup_cons] at hy;by_cases q:(y == n)=true
   ·rw [q] at hy;have q':y=n:=beq_iff_eq.mp q;subst q';have e':cells.lookup y=some a:=e;rw [e'] at hy ⊢;simpa using hy
   ·have q':(y == n)=false:=by simpa using q
    rw [q'] at hy;exact ha y d hy
  ·rw [if_neg f] at hy;exact ha y d hy
theorem JcJ:∀ (names:List (Str × NameKind)) (acc:List (Str × Addr)) (y:Str),((∃ c,acc.lookup y=some c)\/(y,NameKind.free)∈names)->∃ c,(Jbs cells names acc).lookup y=some c
 | [],acc,y,h=>by
  rcases h with h | h
  ·exact h
  ·simp at h
 | (n,k)::r,acc,y,h=>by
  simp only [Jbs];refine JcJ r _ y ?_;rcases h with ⟨c,h⟩ | h
  ·refine .inl ?_;split
   ·rw [List.lookup_cons];cases (y == n)
    ·exact ⟨c,h⟩
    ·exact ⟨_,rfl⟩
   ·exact ⟨c,h⟩
  ·rcases mem_cons.mp h with e | h
   ·cases e;refine .inl ?_;rw [if_pos ⋯,List.lookup_cons];simp
   ·exact .inr h
theorem Jjh {g:TG} (hc:X.calm=true) (hi:PI X tg iter wi)
  (hg:∀ fp s2 H2 C,PG (X.inc (own++cs.map (·.2)) scope (Jbs X.env.cells scope.names []) fp s2 H2 C) tg g) (he:∀ fp s2 H2 C,PE (X.inc (own++cs.map (·.2)) scope (Jbs X.env.cells scope.names []) fp s2 H2 C) elt te)
  (hfree:∀ p∈scope.names,p.2=.free->X.env.scope.names.lookup p.1=some .cell) (hcell:∀ y∈scope.names,y.2≠.cell) (hkind:scope.kind=.function) (hnames:∀ y∈scope.names,y.2=.local->scope.names.lookup y.1=some .local)
  (hcs:∀ p∈cs,X.N[p.1]?=some p.2/\X.env.scope.names.lookup p.2=some .cell/\(relabel scope X.env).names.lookup p.2=some .cell)
  (hs:∀ x,foldedSetIterable iter X.env x=pure x:=by intro _;rfl):PE X (.ListComp elt [⟨tg,iter,[],0⟩] scope pos) (tComp own.length cs wi g te):=by
 intro a s σ H Q I h;have j:∀ p∈scope.names,p.2=.free->∃ c,X.env.cells.lookup p.1=some c:=fun p q f=>I.ok.has p.1 (.inl (hfree p q f));refine Jd9 hc hi hg he (Jf6 j) hcell hkind hnames (JcK scope.names [] (fun _ _ z=>by simp at z) j) (fun y b=>JcJ scope.names [] y (.inr ?_)) hcs hs a s σ H Q I h;have l:∀ k,(k=.cell\/k=.free)->(relabel scope X.env).names.lookup y=some k->(y,NameKind.free)∈scope.names:=fun k f e=>by
  have m:=PySem.mem_of_lookup e;obtain ⟨⟨n,o⟩,i,r⟩:=mem_map.mp (show (y,k)∈scope.names.map _ from m);have d:(if (o == NameKind.free&&X.env.scope.kind == .function&&X.env.kindOf n == some .cell)=true then (n,NameKind.cell) else (n,o))=(y,k):=r;split at d
  ·rename_i c;rw [Bool.and_eq_true,Bool.and_eq_true] at c;have:=beq_iff_eq.mp c.1.1;subst this;cases d;exact i
  ·cases d;rcases f with rfl | rfl
   ·exact absurd rfl (hcell _ i)
   ·exact i
 rcases b with b | b
 ·exact l _ (.inl rfl) b
 ·exact l _ (.inr rfl) b
theorem JdP {sc:Scope} (h:scope.names.all (fun p=>p.2 != .free||(sc.names.lookup p.1 == some .cell))=true):∀ p∈scope.names,p.2=.free->sc.names.lookup p.1=some .cell:=fun p a b=>by
 have z:=List.all_eq_true.mp h p a;rw [b] at z;simpa using z
theorem hcs1 {i:Nat} (a:X.N[i]?=some x) (b:X.env.scope.names.lookup x=some .cell) (c:(relabel scope X.env).names.lookup x=some .cell) :
  ∀ p∈[(i,x)],X.N[p.1]?=some p.2/\X.env.scope.names.lookup p.2=some .cell/\(relabel scope X.env).names.lookup p.2=some .cell:=fun p d=>by
 rcases mem_singleton.mp d with rfl
 exact ⟨a,b,c⟩
variable {j:Nat} {y:Str}
theorem hcs2 {i:Nat} (a:X.N[i]?=some x) (b:X.env.scope.names.lookup x=some .cell) (c:(relabel scope X.env).names.lookup x=some .cell)
  (a':X.N[j]?=some y) (b':X.env.scope.names.lookup y=some .cell) (c':(relabel scope X.env).names.lookup y=some .cell) :
  ∀ p∈[(i,x),(j,y)],X.N[p.1]?=some p.2/\X.env.scope.names.lookup p.2=some .cell/\(relabel scope X.env).names.lookup p.2=some .cell:=fun p d=>by
 rcases mem_cons.mp d with rfl | d
 ·exact ⟨a,b,c⟩
 ·rcases mem_singleton.mp d with rfl
  exact ⟨a',b',c'⟩
theorem JhS (hcell:∀ y∈scope.names,y.2≠.cell) {y:Str} (hy:(relabel scope X.env).names.lookup y=some .cell\/(relabel scope X.env).names.lookup y=some .free):(y,NameKind.free)∈scope.names:=by
 have f:∀ k,(k=.cell\/k=.free)->(relabel scope X.env).names.lookup y=some k->(y,NameKind.free)∈scope.names:=fun k h e=>by
  have m:=PySem.mem_of_lookup e;obtain ⟨⟨n,d⟩,b,g⟩:=mem_map.mp (show (y,k)∈scope.names.map _ from m);have a:(if (d == NameKind.free&&X.env.scope.kind == .function&&X.env.kindOf n == some .cell)=true then (n,NameKind.cell) else (n,d))=(y,k):=g;split at a
  ·rename_i c;rw [Bool.and_eq_true,Bool.and_eq_true] at c;have:=beq_iff_eq.mp c.1.1;subst this;cases a;exact b
  ·cases a;rcases h with rfl | rfl
   ·exact absurd rfl (hcell _ b)
   ·exact b
 rcases hy with hy | hy
 ·exact f _ (.inl rfl) hy
 ·exact f _ (.inr rfl) hy
section
variable {prog:Program} {E:Value->Shared->Prop} {R:Result->Shared->Prop} {w:World} {s:Shared} {tst:Expr}
theorem Jf8 {target:Expr} {it acc:Value} (J:Nat->Shared->Prop)
  (turn:∀ n s,J n s->wpAny (model prog w) A (pyNext it) (fun r s1=>match r with
   | none=>R (.ok .next) s1
   | some v=>wpAny (model prog w) A (letOwnedTupleGo target it v) (fun _ s2=>wpAny (model prog w) A (assign target env v) (fun _ s3=>wpAny (model prog w) A (isTrue tst env (eval tst env)) (fun b s3'=>if b=true then wpAny (model prog w) A (eval elt env) (fun x s4=>
     wpAny (model prog w) A (call (.builtin "list.append") [acc,x]) (fun _ s5=>∃ m,m<n/\J m s5) (fun _ _=>False) s4) (fun _ _=>False) s3' else ∃ m,m<n/\J m s3') (fun _ _=>False) s3) (fun _ _=>False) s2) (fun _ _=>False) s1) (fun _ _=>False) s) (n:Nat) (h:J n s) :
  codeAny (model prog w) A (.compLoop (.ListComp elt [⟨target,iter,[tst],0⟩] scope pos) 0 it acc env) R s:=by
 refine codeAny_loop rfl J (fun n s i=>?_) n h;show wpAny _ A ((compTurn (.ListComp elt [⟨target,iter,[tst],0⟩] scope pos) 0 it acc env).onRaise (fun y=>do noteFrame y env;theTreesLotGoes y)) _ _ s
 (refine wpAny_noted ?_;rw [compTurn_list])
 refine wpAny_bind (wpAny_standAt (wpAny_bind (wpAny_mono (turn n s i) (fun r s1 c=>?_) fun _ _ z=>z.elim)));cases r with
 | none=>exact wpAny_pure c
 | some v=>
  refine wpAny_bind (wpAny_mono c (fun _ s2 f=>wpAny_bind (wpAny_mono f (fun _ s3 g=>?_) fun _ _ z=>z.elim)) fun _ _ z=>z.elim);refine wpAny_bind (wpAny_tests_one (wpAny_mono g (fun b s3' a=>?_) fun _ _ z=>z.elim));cases b with
  | true=>exact wpAny_bind (wpAny_bind (wpAny_mono a (fun x s4 d=>(wpAny_bind (wpAny_mono d (fun _ s5 e=>(wpAny_pure (wpAny_pure ⟨rfl,e⟩))) fun _ _ z=>z.elim))) fun _ _ z=>z.elim))
  | false=>exact wpAny_bind (wpAny_pure (wpAny_pure ⟨rfl,a⟩))
end
def JeH (k:Nat) (cs:List (Nat × Str)) (wi:TI) (g:TG) (tt:TT) (te:TE):TE:=fun σ H Q=>wi σ H fun J H1=>∃ W:Nat->Nat->List V->Hp->Prop,(∃ m,W 0 m [] H1)/\∀ i m ys H2,W i m ys H2->ys.length<=sizeLine /\
  ((J.stop i H2/\∀ p,H2 p=none->Q (.ref p) (upd H2 p (.lst ys))) \/
   (J.go i H2/\∀ x H3,J.yld i H2 x H3->g x (List.replicate k none++JaA cs σ) H3 fun σ4 H4=>tt σ4 H4 fun b H5=>if b=true then te σ4 H5 fun y H6=>∃ m',m'<m/\W (i+1) m' (ys++[y]) H6 else ∃ m',m'<m/\W (i+1) m' ys H5))
variable {tst:Expr} {tt:TT}
theorem JdM {g:TG} {it:Addr} {tn:Nat->Heap->Prop} {J:It}
  {W:Nat->Nat->List V->Hp->Prop} {m0:Nat} {QN:List V->Hp->Prop} {RR:Value->Addr->Result->Shared->Prop} {E:Value->Shared->Prop} (hc:X.calm=true)
  (hg:∀ fp s2 H2 C,PG (X.inc (own++cs.map (·.2)) scope cl fp s2 H2 C) tg g) (ht:∀ fp s2 H2 C,PT (X.inc (own++cs.map (·.2)) scope cl fp s2 H2 C) tst tt) (he:∀ fp s2 H2 C,PE (X.inc (own++cs.map (·.2)) scope cl fp s2 H2 C) elt te)
  (hcell:∀ y∈scope.names,y.2≠.cell) (hkind:scope.kind=.function)
  (hcl:∀ x c,cl.lookup x=some c->X.env.cells.lookup x=some c) (hhas:∀ y,((relabel scope X.env).names.lookup y=some .cell\/(relabel scope X.env).names.lookup y=some .free)->∃ c,cl.lookup y=some c)
  (hcs:∀ p∈cs,X.N[p.1]?=some p.2/\X.env.scope.names.lookup p.2=some .cell/\(relabel scope X.env).names.lookup p.2=some .cell)
  (I2:Inv X pins σ H2 s2) (T:Turn X.prog X.w X.K tg J fp it tn) (st2:tn 0 s2.heap) (f2:∀ b∈fp,FpOk X pins H2 b) (w0:W 0 m0 [] H2)
  (turn:∀ i m ys H2,W i m ys H2->ys.length<=sizeLine/\((J.stop i H2/\QN ys H2)\/(J.go i H2/\∀ x H3,J.yld i H2 x H3->g x (List.replicate own.length none++JaA cs σ) H3 fun σ4 H4=>tt σ4 H4 fun b H5=>if b=true then te σ4 H5 fun y H6=>∃ m',m'<m/\W (i+1) m' (ys++[y]) H6 else ∃ m',m'<m/\W (i+1) m' ys H5)))
  (hRR:∀ (D C:Addr) (s6:Shared) (H5:Hp) (ys:List V),(∀ h7,Heap.SameBut C s6.heap h7->Inv X pins σ (upd H5 D (.lst ys)) { s6 with heap:=h7 })->H5 D=none->H5 C=none->D≠C->(∃ m,s6.heap.Ns C m)->s2.heap.objs.size<=C->QN ys H5->RR (.ref D) C (.ok .next) s6) :
  wpAny (model X.prog X.w) X.A (newList []) (fun acc s₃=>wpAny (model X.prog X.w) X.A (newFunctionEnv scope X.env.globals cl [] X.env.qual none .none (some X.env)) (fun cenv s₄=>
   codeAny (model X.prog X.w) X.A (.compStart (.ListComp elt [⟨tg,iter,[tst],0⟩] scope pos) 0 (.ref it) acc { cenv with scope:=relabel scope X.env }) (RR acc cenv.locals) s₄) E s₃) E s2:=by
 have L:∀ b∈fp,b<s2.heap.objs.size:=fun b d=>by
  obtain ⟨o,e,_⟩:=T.obj _ _ st2 b d;exact Heap.lt_size e
 refine wpAny_newObj_type (wpAny_newFunctionEnv hcell (by intro y hy;simp at hy) (fun h4 t j=>?_) hkind);dsimp only at t j ⊢;generalize hH3:s2.heap.push { cls:=.type "list",dict:=none,data:=.seq ([]:List Value).toArray }=H3 at t j ⊢;have a2:H3.objs.size=s2.heap.objs.size+1:=by rw [<- hH3,Heap.size_push]
 have hC:s2.heap.objs.size<=H3.objs.size:=by ac_nf
 have l:s2.heap.objs.size≠H3.objs.size:=by ac_nf
 have U:∀ b o,s2.heap.get? b=some o->h4.get? b=some o:=fun b o e=>j.extBut b o (by have:=Heap.lt_size e;exact Nat.ne_of_lt (Nat.lt_of_lt_of_le this hC)) (Heap.get?_push_of_some _ (hH3 ▸ Heap.get?_push_of_some _ e));have a6:h4.get? s2.heap.objs.size=some { cls:=.type "list",data:=.seq ([]:List Value).toArray }:=j.extBut _ _ l (Heap.get?_push_of_some _ (hH3 ▸ Heap.get?_push_size _ rfl));obtain ⟨D,h⟩:∃ D,D=s2.heap.objs.size:=⟨_,rfl⟩;obtain ⟨C,b1⟩:∃ C,C=H3.objs.size:=⟨_,rfl⟩;rw [<- b1] at a2 t j hC l ⊢;rw [<- h] at L a2 hC l a6 ⊢;have H:=I2.incOk (N':=own++cs.map (·.2)) (C:=C) f2 (fun b d=>by rw [<- h];exact L b d) hkind (by rw [<- h];exact hC) hcl hhas;have I4:Inv (X.inc (own++cs.map (·.2)) scope cl fp s2 H2 C) [] (List.replicate own.length none++JaA cs σ) H2 { s2 with heap:=h4,toks:=s2.toks+([]:List (Str × Value)).length } :=
  I2.incStart (s4:={ s2 with heap:=h4,toks:=s2.toks+([]:List (Str × Value)).length }) H U rfl rfl t (by rw [<- h];exact hC) hcl hcs
 have Dfree:H2 D=none:=I2.hok.fresh (Nat.le_of_eq h.symm);have I:∀ b o,s2.heap.get? b=some o->b≠D:=fun b o e=>by
  rw [h];exact Nat.ne_of_lt (Heap.lt_size e)
 have a9:∀ b o,s2.heap.get? b=some o->b≠C:=fun b o e=>Nat.ne_of_lt (Nat.lt_of_lt_of_le (by rw [h];exact Heap.lt_size e) hC);have Dfs:D∉frs X.stack:=fun hm=>by
  obtain ⟨_,o,e,_⟩:=I2.stack.mem hm;exact I _ _ e rfl
 have B:∀ {σ':St} {H':Hp} {s':Shared} {us:List Value} {n:Nat} {pl:List (Addr × Obj)},Inv (X.inc (own++cs.map (·.2)) scope cl fp s2 H2 C) pl σ' H' s'->s'.heap.get? D=some { cls:=.type "list",data:=.seq us.toArray n }->H' D=none ->
   Inv (X.inc (own++cs.map (·.2)) scope cl fp s2 H2 C) [(D,{ cls:=.type "list",data:=.seq us.toArray n })] σ' H' s':=fun {σ' H' s' us n pl} J' e n'=>J'.pins_of fun p Z=>by
  rcases mem_singleton.mp Z with rfl
  exact ⟨e,n',l,Dfs,fun v z=>by cases z⟩
 have F:∀ {H':Hp} {o:Obj},(∀ b∈fp,H' b=none)->∀ b∈fp,FpOk (X.inc (own++cs.map (·.2)) scope cl fp s2 H2 C) [(D,o)] H' b:=fun {H' o} hn b d=>by
  refine ⟨hn b d,(H.exf b d).1,H.exfs b d, .inl d,(H.exf b d).2,fun p Z=>?_⟩;rcases mem_singleton.mp Z with rfl
  exact Nat.ne_of_gt (L b d)
 have Q:∀ s3:Shared,s3={ s2 with heap:=h4,toks:=s2.toks+([]:List (Str × Value)).length } ->
   codeAny (model X.prog X.w) X.A (.compLoop (.ListComp elt [⟨tg,iter,[tst],0⟩] scope pos) 0 (.ref it) (.ref D) (compEnvC scope cl C X.env)) (RR (.ref D) C) s3:=by
  rintro s3 rfl;refine Jf8 (fun n s'=>∃ i ys us M H',Inv (X.inc (own++cs.map (·.2)) scope cl fp s2 H2 C) [(D,{ cls:=.type "list",data:=.seq us.toArray M })] (List.replicate own.length none++JaA cs σ) H' s'/\tn i s'.heap/\(∀ b∈fp,H' b=none)/\Vals ys us/\W i n ys H') ?_ m0
   ⟨0,[],[],0,H2,B (us:=[]) (n:=0) I4 a6 Dfree,T.keep _ _ _ st2 fun b d o e=>U b o e,fun b d=>(f2 b d).1, .nil,w0⟩
  rintro n s5 ⟨i,ys,us,M,H5,I5,a8,a5,vy,w5⟩;obtain ⟨hz,⟨stop,qn⟩ | ⟨go,a7⟩⟩:=turn i n ys H5 w5
  ·refine wpAny_mono (T.done (X.inc (own++cs.map (·.2)) scope cl fp s2 H2 C) rfl rfl rfl hc i _ s5 _ H5 (fun _ _=>False) I5 (F a5) a8 stop) (fun r s6 z=>?_) fun _ _ z=>z;obtain ⟨rfl,I6⟩:=z;obtain ⟨m6,b2,_⟩:=id I6.loc;obtain ⟨pD,S,_,_,_⟩:=I6.pin (D,{ cls:=.type "list",data:=.seq us.toArray M }) (by simp);have Cfree:H5 C=none:=I6.free;refine hRR D C s6 H5 ys (fun h7 b4=>?_) S Cfree l ⟨m6,b2⟩ (by rw [<- h];exact hC) qn;have k:∀ b,b≠C->h7.get? b=s6.heap.get? b:=fun b d=>b4.2 b d;have a1:=a9;have u7:Un (frs X.stack) fp H2 H5 s2.heap h7:=⟨fun b o e n1 n2 n3=>(k b (a1 b o e)).trans (I6.base.keep b o e n1 n2 n3),fun b o e n1 n2 n3=>by
     obtain ⟨sl,z⟩:=I6.base.slot b o e n1 n2 n3;exact ⟨sl,(k b (a1 b o e)).trans z⟩,I6.base.free,fun b o e n1=>by
     obtain ⟨o',z⟩:=I6.base.there b o e n1;exact ⟨o',(k b (a1 b o e)).trans z⟩,I6.base.tups,I6.base.frzs,I6.base.tbls⟩
   have a4:HOk X.prog X.w H5 h7:=fun a o e=>by
    refine (I6.hok a o e).stay (fun c v b3 q=>(k c ?_).trans q) (fun _ q=>q) fun _ _ q=>q;rintro rfl;rcases b3 with z | z
    ·rw [<- z] at e;rw [Cfree] at e;cases e
    ·rw [Cfree] at z;cases z
   have I7:Inv X pins σ H5 { s6 with heap:=h7 }:=I2.call' (s':={ s6 with heap:=h7 }) I6.os u7 a4 I6.bare fun b d=>⟨(f2 b d).2.2.2.1,(f2 b d).2.1,(f2 b d).2.2.2.2.1,(f2 b d).2.2.2.2.2⟩;exact I7.track (a:=D) (o:=.lst ys) S (Heap.get?_none_of_le (by rw [h];exact I2.sz)) (by rw [h];exact Nat.ne_of_gt I2.lt) (fun x c e z=>by
     obtain ⟨v,o,ho,_⟩:=I2.cell x c e;exact I _ _ ho z) (fun p Z z=>I _ _ (I2.pin p Z).1 z) ⟨hz,us,M,vy,(k D l).trans pD⟩
  ·refine wpAny_mono (T.item (X.inc (own++cs.map (·.2)) scope cl fp s2 H2 C) rfl rfl rfl hc i _ s5 _ H5 (fun _ _=>False) I5 (F a5) a8 go) (fun r s6 z=>?_) fun _ _ z=>z;obtain ⟨u,rfl,z⟩:=z;refine wpAny_mono z (fun _ s7 ζ=>?_) fun _ _ z=>z;obtain ⟨x,H7,I7,r7,y7,G,b5⟩:=ζ;have I7':=I7.pinned (F b5) (T.obj _ _ G);refine wpAny_mono (hg fp s2 H2 C _ s7 _ H7 x u _ I7' r7 (a7 x H7 y7)) (fun _ s8 ⟨σ8,H8,I8,q8⟩=>?_) fun _ _ z=>z;refine wpAny_mono (ht fp s2 H2 C _ s8 σ8 H8 _ I8 q8) (fun bb Y ⟨O,I8',a3⟩=>?_) fun _ _ z=>z;cases bb with
   | true=>
    refine wpAny_mono (he fp s2 H2 C _ Y σ8 O _ I8' a3) (fun uy s9 ζ=>?_) fun _ _ z=>z;obtain ⟨y,H9,I9,r9,m',a0,w9⟩:=ζ;obtain ⟨pD,S,_,_,_⟩:=I9.pin (D,{ cls:=.type "list",data:=.seq us.toArray M }) (by simp);refine append_at (its:=us.toArray) (n:=M) pD (fun b0 P R=>?_) (by rw [size_toArray, <- vy.length];exact hz);have f:∀ b∈fp, ∀ o,s7.heap.get? b=some o->s9.heap.get? b=some o/\H9 b=none:=fun b d o e=>by
     have z:=I9.pin (b,o) (mem_append_right _ (mem_append_right _ (Jce d e)));exact ⟨z.1,z.2.1⟩
    have I9':Inv (X.inc (own++cs.map (·.2)) scope cl fp s2 H2 C) [] (List.replicate own.length none++JaA cs σ) H9 s9:=I2.incAgain I9 f2 hcl hcs;have I10:Inv (X.inc (own++cs.map (·.2)) scope cl fp s2 H2 C) [] (List.replicate own.length none++JaA cs σ) H9 { s9 with heap:=b0 }:=I9'.turned (it:=D) (t':=s9.toks) (fun b o d e=>(P.2 b d).trans e) S l (.inr (Nat.le_of_eq h.symm)) (fun x c e z=>by
      obtain ⟨v,o,ho,_⟩:=I2.cell x c (hcl x c e);exact I _ _ ho z) fun p Z=>by simp at Z
    rw [lstP] at R;refine ⟨m',a0,i+1,ys++[y],us++[uy],M+1,H9,B I10 R S,T.keep _ _ _ G fun b d o e=>?_,fun b d=>?_,vy.append (.cons r9 .nil),w9⟩
    ·exact (P.2 b (Nat.ne_of_lt (L b d))).trans (f b d o e).1
    ·obtain ⟨o,e,_⟩:=T.obj _ _ G b d;exact (f b d o e).2
   | false=>
    obtain ⟨m',a0,w9⟩:=a3;obtain ⟨pD,S,_,_,_⟩:=I8'.pin (D,{ cls:=.type "list",data:=.seq us.toArray M }) (by simp);have f:∀ b∈fp, ∀ o,s7.heap.get? b=some o->Y.heap.get? b=some o/\O b=none:=fun b d o e=>by
     have z:=I8'.pin (b,o) (mem_append_right _ (mem_append_right _ (Jce d e)));exact ⟨z.1,z.2.1⟩
    have I9':Inv (X.inc (own++cs.map (·.2)) scope cl fp s2 H2 C) [] (List.replicate own.length none++JaA cs σ) O Y:=I2.incAgain I8' f2 hcl hcs;refine ⟨m',a0,i+1,ys,us,M,O,B I9' pD S,T.keep _ _ _ G fun b d o e=>(f b d o e).1,fun b d=>?_,vy,w9⟩;obtain ⟨o,e,_⟩:=T.obj _ _ G b d;exact (f b d o e).2
 exact codeAny_compStart_list (Q _ rfl) (T.self _ 0 _ _ _ (T.keep _ _ _ st2 fun b d o e=>U b o e) (Q _ rfl))
theorem Jcm {spos py:Pos} {g:TG} (hN:X.N.Nodup) (hj:X.N[j]?=some y) (hy:Loc X.env.scope y) (hc:X.calm=true) (hi:PI X tg iter wi)
  (hg:∀ fp s2 H2 C,PG (X.inc (own++cs.map (·.2)) scope (Jbs X.env.cells scope.names []) fp s2 H2 C) tg g) (ht:∀ fp s2 H2 C,PT (X.inc (own++cs.map (·.2)) scope (Jbs X.env.cells scope.names []) fp s2 H2 C) tst tt) (he:∀ fp s2 H2 C,PE (X.inc (own++cs.map (·.2)) scope (Jbs X.env.cells scope.names []) fp s2 H2 C) elt te)
  (hfree:∀ p∈scope.names,p.2=.free->X.env.scope.names.lookup p.1=some .cell) (hcell:∀ y∈scope.names,y.2≠.cell) (hkind:scope.kind=.function) (hnames:∀ y∈scope.names,y.2=.local->scope.names.lookup y.1=some .local)
  (hcs:∀ p∈cs,X.N[p.1]?=some p.2/\X.env.scope.names.lookup p.2=some .cell/\(relabel scope X.env).names.lookup p.2=some .cell)
  (hsw:swapsWith (.ListComp elt [⟨tg,iter,[tst],0⟩] scope pos) (some (.Name y py)) spos.line X.env=pure true:=by rfl)
  (hs:∀ x,foldedSetIterable iter X.env x=pure x:=by intro _;rfl) (hf:X.fn y=true\/X.env.scope.names.lookup y=some .local:=by first | exact .inl rfl | exact .inr rfl) :
  PS X (.Assign [.Name y py] (.ListComp elt [⟨tg,iter,[tst],0⟩] scope pos) spos) (tAsg (JeH own.length cs wi g tt te) (gName j)):=by
 intro d s σ H D I h;have k:∀ p∈scope.names,p.2=.free->∃ c,X.env.cells.lookup p.1=some c:=fun p B hk=>I.ok.has p.1 (.inl (hfree p B hk));have F:=JcK (cells:=X.env.cells) scope.names [] (fun _ _ z=>by simp at z) k;rw [exec_Assign_Name_used _ _ _ _ hsw];refine wpAny_bind (wpAny_standAt (wpAny_bind ?_));show wpAny _ X.A (do let _ <- comprehension (.ListComp elt [⟨tg,iter,[tst],0⟩] scope pos) scope X.env _ (newList []) false (eval iter X.env) (some (assign (.Name y py) X.env))) _ _ s;refine wpAny_bind (wpAny_mono (wpAny_comprehension_free (use:=some (assign (.Name y py) X.env)) (Q:=fun _ L=>SP X d D .next L) rfl hs (Jf6 k) hkind hnames
  (thn (hi d s σ H _ I h) fun v s1 h1=>thn h1 fun a0 s2 h2=>?_)) (fun _ L hq=>wpAny_pure (wpAny_pure hq)) fun _ _ e=>e)
 obtain ⟨it,fp,tn,J,H2,rfl,I2,T,m,O,W,⟨m0,w0⟩,i⟩:=h2;refine JdM (QN:=fun E l=>∀ p,l p=none->D.nx (σ.set j (some (.ref p))) (upd l p (.lst E))) hc hg ht he hcell hkind F (fun z M=>JcJ scope.names [] z (.inr (JhS hcell M))) hcs I2 T m O w0 i ?_;intro D' C n l E w dN V U hm f q;obtain ⟨P,G⟩:=hm;have I8:Inv X d σ (upd l D' (.lst E)) n:=w n.heap (Heap.SameBut.refl _ _);show wpAny _ X.A (assign (.Name y py) X.env (.ref D')) _ _ n;refine wpAny_assign_Name (JfX (v:=.ref D') I8 hN hj hy rfl (fun R I7 K=>?_) hf);obtain ⟨a,Y,r⟩:=K;have S:C≠a:=by
  rcases r with rfl | r
  ·exact Nat.ne_of_gt (Nat.lt_of_lt_of_le I2.lt f)
  ·obtain ⟨v,o,t,_⟩:=I2.cell y a r;exact Nat.ne_of_gt (Nat.lt_of_lt_of_le (Heap.lt_size t) f)
 refine ⟨P,G.sameBut Y S,fun h8 u=>⟨_,_,?_,q D' dN⟩⟩;exact I7.turned (it:=C) (t':=R.toks) (fun b o Z e=>(u.2 b Z).trans e) (by rw [Jag (Ne.symm U)];exact V) (Nat.ne_of_gt (Nat.lt_of_lt_of_le I2.lt f)) (.inr (Nat.le_trans I2.sz f)) (fun x c e z=>by
  obtain ⟨v,o,t,_⟩:=I2.cell x c e;exact absurd (Nat.lt_of_lt_of_le (Heap.lt_size t) f) (by rw [z];exact Nat.lt_irrefl _)) (fun p B z=>absurd (Nat.lt_of_lt_of_le (Heap.lt_size (I2.pin p B).1) f) (by rw [z];exact Nat.lt_irrefl _))
section
variable {h':Heap} {s:Shared}
end
def Itz (K:W.Frag) (a b:Addr):It :=
  ⟨fun i H=>∃ xs ys x y,SqL K H a xs/\SqL K H b ys/\xs[i]?=some x/\ys[i]?=some y,
   fun i H v H'=>∃ p x y,(∀ xs,SqL K H a xs->xs[i]?=some x)/\(∀ ys,SqL K H b ys->ys[i]?=some y)/\H p=none/\v=.ref p/\H'=upd H p (.tup [x,y]),
   fun i H=>∃ xs ys,SqL K H a xs/\SqL K H b ys/\(xs.length<=i\/ys.length<=i)⟩
variable {elts:List Expr} {x1:Nat} {tp:Pos}
def iZip (K:W.Frag) (ta:TA):TI:=fun σ H R=>ta σ H fun vs H1=>∃ a b,vs=[.ref a, .ref b]/\(∃ xs,SqL K H1 a xs)/\(∃ ys,SqL K H1 b ys)/\R (Itz K a b) H1
section
variable {ty tv tx:TE} {En:Ends} {td:TE} {K:W.Frag}
theorem y3fy:tDGet td ty σ H Q=td σ H fun x H1=>ty σ H1 fun y H2=>∃ a v,x=.ref a/\DGet H2 a y (some v)/\Q v H2:=rfl
theorem y48y:sDPut td ty tv En σ H=tv σ H fun v H1=>td σ H1 fun x H2=>ty σ H2 fun y H3=>∃ a H4,x=.ref a/\DPut H3 a y v H4/\En.nx σ H4:=rfl
theorem y45y:Jl9 σ H Q=∀ p,H p=none->Q (.ref p) (upd H p (.dT [])):=rfl
theorem y44y:Jj2 σ H Q=∀ p,H p=none->Q (.ref p) (upd H p (.dK [])):=rfl
end
theorem hu1 {a b:Nat} (h:a+64<b):a+1<b:=by ac_nf
def rMul0:R2:=fun x y H Q=>match x,y with
 | .str z, .int n=>0<=n/\n<1000/\z.length<=1000/\∀ z':Str,z'.cps.toList=(List.replicate n.toNat z.cps.toList).flatten->Q (.str z') H
 | x,y=>rMulS x y H Q
theorem JaL:OpR X (binaryOp .Mult) rMul0:=fun a s σ H x y v u Q I b c q=>by
 unfold rMul0 at q;split at q
 ·rename_i z n;obtain ⟨g,f,e,q⟩:=q;by_cases d:n=0
  ·subst d;obtain ⟨t,rfl⟩:=b;obtain ⟨h,rfl⟩:=c;exact PySem.P.mul_str_none ⋯ ⋯ ⟨.str _,H,I.tok _,⟨_,rfl⟩,q Str.empty rfl⟩
  ·exact Jic a s σ H _ _ v u Q I b c ⟨by ac_nf,f,e,q⟩
 ·exact Jic a s σ H _ _ v u Q I b c q
section
variable {ty:TE} {K:W.Frag} {td:TE}
theorem y6fy {i j:Int}:rMul0 (.int i) (.int j) H Q=(IntMulOk i j/\Q (.int (i*j)) H):=rfl
theorem y40y:Jj0 td ty σ H Q=td σ H fun x H1=>∃ a,x=.ref a/\IsD H1 a/\ty σ H1 fun y H2=>∃ o,DGet H2 a y o/\Q (o.getD .non) H2:=rfl
theorem Ji1 (h:j<=xs.length):cutV xs (some (j:Int)) none=xs.drop j:=by
 unfold cutV HT.sIx;dsimp only;rw [if_neg ∅];rw [take_of_length_le (by simp)]
 congr 1
 ac_nf
theorem Jlv (h:j<=xs.length):cutV xs none (some (j:Int))=xs.take j:=by
 unfold cutV HT.sIx;dsimp only;rw [if_neg ∅];simp only [List.drop_zero,Nat.sub_zero]
 congr 1
 ac_nf
end
variable {a:Addr}
theorem ForA.byL {K:W.Frag} {g:TG} {D:Ends} (hA:SqL K H a xs) (Pv:Nat->St->Hp->Prop) (h0:Pv 0 σ H) (hl:∀ i σ H',Pv i σ H'->SqL K H' a xs)
  (hs:∀ i x σ H,xs[i]?=some x->Pv i σ H->g x σ H fun σ2 H2=>tb { D with nx:=Pv (i+1),ct:=Pv (i+1),bk:=D.nx } σ2 H2) (hd:∀ σ H,Pv xs.length σ H->D.nx σ H):ForA K a g tb D σ H:=by
 refine .inl ⟨⟨xs,hA⟩,fun i m σ H=>Pv i σ H/\i<=xs.length/\m=xs.length-i,⟨_,h0,Nat.zero_le _,rfl⟩,?_⟩;rintro i m σ H ⟨c,h,rfl⟩;have b:=hl i σ H c;by_cases d:i<xs.length
 ·refine .inr ⟨⟨xs,xs[i],b,List.getElem?_eq_getElem d⟩,Pv (i+1),fun σ' H' p=>⟨_,Nat.sub_lt_sub_left d (Nat.lt_succ_self i),p,d,rfl⟩,?_⟩;rintro x H' ⟨rfl,f⟩;exact hs i x σ _ (f xs b) c
 ·have e:i=xs.length:=by ac_nf
  subst e;exact .inl ⟨⟨xs,b,Nat.le_refl _⟩,hd σ H c⟩
def ForJ (J:It) (g:TG) (tb:TS) (D:Ends) (σ : St) (H:Hp):Prop:=∃ W:Nat->Nat->St->Hp->Prop,(∃ m,W 0 m σ H)/\∀ i m σ H,W i m σ H ->
 (J.stop i H/\D.nx σ H)\/(J.go i H/\∃ N:St->Hp->Prop,(∀ σ' H',N σ' H'->∃ m',m'<m/\W (i+1) m' σ' H')/\∀ x H',J.yld i H x H'->g x σ H' fun σ2 H2=>tb { D with nx:=N,ct:=N,bk:=D.nx } σ2 H2)
theorem y57y {K:W.Frag} {g:TG} {D:Ends}:tFor (iZip K ta) g tb D σ H=ta σ H fun vs H1=>∃ a b,vs=[.ref a, .ref b]/\(∃ xs,SqL K H1 a xs)/\(∃ ys,SqL K H1 b ys)/\ForJ (Itz K a b) g tb D σ H1:=rfl
variable {H1:Hp}
theorem compL {K:W.Frag} {k:Nat} {g:TG} (Pv:Nat->List V->Hp->Prop) (h0:Pv 0 [] H1) (hl:∀ i ys H',i<=xs.length->Pv i ys H'->SqL K H' a xs/\ys.length<=sizeLine)
  (hs:∀ i x ys H2,xs[i]?=some x->Pv i ys H2->g x (List.replicate k none++JaA cs σ) H2 fun σ4 H4=>te σ4 H4 fun y H5=>Pv (i+1) (ys++[y]) H5) (hd:∀ ys H2,Pv xs.length ys H2->∀ p,H2 p=none->Q (.ref p) (upd H2 p (.lst ys))) :
  ∃ W:Nat->Nat->List V->Hp->Prop,(∃ m,W 0 m [] H1)/\∀ i m ys H2,W i m ys H2->ys.length<=sizeLine/\(((Itl K a).stop i H2/\∀ p,H2 p=none->Q (.ref p) (upd H2 p (.lst ys))) \/
   ((Itl K a).go i H2/\∀ x H3,(Itl K a).yld i H2 x H3->g x (List.replicate k none++JaA cs σ) H3 fun σ4 H4=>te σ4 H4 fun y H5=>∃ m',m'<m/\W (i+1) m' (ys++[y]) H5)):=by
 refine ⟨fun i m ys H2=>Pv i ys H2/\i<=xs.length/\m=xs.length-i,⟨_,h0,Nat.zero_le _,rfl⟩,?_⟩;rintro i m ys H2 ⟨c,j,rfl⟩;obtain ⟨b,h⟩:=hl i ys H2 j c;refine ⟨h,?_⟩;by_cases d:i<xs.length
 ·refine .inr ⟨⟨xs,xs[i],b,List.getElem?_eq_getElem d⟩,?_⟩;rintro x H3 ⟨rfl,f⟩;have e:(fun (σ4:St) (H4:Hp)=>te σ4 H4 fun y H5=>Pv (i+1) (ys++[y]) H5)=fun σ4 H4=>te σ4 H4 fun y H5=>∃ m',m'<xs.length-i/\Pv (i+1) (ys++[y]) H5/\i+1<=xs.length/\m'=xs.length-(i+1):=by
   funext σ4 H4
   congr 1
   funext y H5
   exact propext ⟨fun q=>⟨_,Nat.sub_lt_sub_left d (Nat.lt_succ_self i),q,d,rfl⟩,fun ζ=>by obtain ⟨_,_,q,_⟩:=ζ;exact q⟩
  rw [<- e];exact hs i x ys _ (f xs b) c
 ·have e:i=xs.length:=by ac_nf
  subst e;exact .inl ⟨⟨xs,b,Nat.le_refl _⟩,hd ys H2 c⟩
theorem Jlu {K:W.Frag} {k:Nat} {g:TG} (Pv:Nat->List V->Hp->Prop) (h0:Pv 0 [] H1) (hl:∀ i ys H',i<=xs.length->Pv i ys H'->SqL K H' a xs/\ys.length<=sizeLine)
  (hs:∀ i x ys H2,xs[i]?=some x->Pv i ys H2->g x (List.replicate k none++JaA cs σ) H2 fun σ4 H4=>tt σ4 H4 fun b H5=>if b=true then te σ4 H5 fun y H6=>Pv (i+1) (ys++[y]) H6 else Pv (i+1) ys H5) (hd:∀ ys H2,Pv xs.length ys H2->∀ p,H2 p=none->Q (.ref p) (upd H2 p (.lst ys))) :
  ∃ W:Nat->Nat->List V->Hp->Prop,(∃ m,W 0 m [] H1)/\∀ i m ys H2,W i m ys H2->ys.length<=sizeLine/\(((Itl K a).stop i H2/\∀ p,H2 p=none->Q (.ref p) (upd H2 p (.lst ys))) \/
   ((Itl K a).go i H2/\∀ x H3,(Itl K a).yld i H2 x H3->g x (List.replicate k none++JaA cs σ) H3 fun σ4 H4=>tt σ4 H4 fun b H5=>if b=true then te σ4 H5 fun y H6=>∃ m',m'<m/\W (i+1) m' (ys++[y]) H6 else ∃ m',m'<m/\W (i+1) m' ys H5)):=by
 refine ⟨fun i m ys H2=>Pv i ys H2/\i<=xs.length/\m=xs.length-i,⟨_,h0,Nat.zero_le _,rfl⟩,?_⟩;rintro i m ys H2 ⟨f,o,rfl⟩;obtain ⟨h,l⟩:=hl i ys H2 o f;refine ⟨l,?_⟩;by_cases j:i<xs.length
 ·refine .inr ⟨⟨xs,xs[i],h,List.getElem?_eq_getElem j⟩,?_⟩;rintro x H3 ⟨rfl,r⟩;have w:∀ (d:List V) (H5:Hp),Pv (i+1) d H5=∃ m',m'<xs.length-i/\Pv (i+1) d H5/\i+1<=xs.length/\m'=xs.length-(i+1):=fun d H5=>
   propext ⟨fun q=>⟨_,Nat.sub_lt_sub_left j (Nat.lt_succ_self i),q,j,rfl⟩,fun ζ=>by obtain ⟨_,_,q,_⟩:=ζ;exact q⟩
  have n:(fun (y:V) (H6:Hp)=>Pv (i+1) (ys++[y]) H6)=fun y H6=>∃ m',m'<xs.length-i/\Pv (i+1) (ys++[y]) H6/\i+1<=xs.length/\m'=xs.length-(i+1):=by
   funext y H6
   exact w _ _
  have e:(fun (σ4:St) (H4:Hp)=>tt σ4 H4 fun b H5=>if b=true then te σ4 H5 fun y H6=>Pv (i+1) (ys++[y]) H6 else Pv (i+1) ys H5)=fun σ4 H4=>tt σ4 H4 fun b H5=>if b=true then te σ4 H5 fun y H6=>∃ m',m'<xs.length-i/\Pv (i+1) (ys++[y]) H6/\i+1<=xs.length/\m'=xs.length-(i+1) else ∃ m',m'<xs.length-i/\Pv (i+1) ys H5/\i+1<=xs.length/\m'=xs.length-(i+1):=by
   funext σ4 H4
   congr 1
   funext b H5
   by_cases c:b=true
   ·rw [if_pos c,if_pos c, <- n]
   ·rw [if_neg c,if_neg c];exact w ys H5
  have:=hs i x ys _ (r xs h) f;rw [e] at this;exact this
 ·have e:i=xs.length:=by ac_nf
  subst e;exact .inl ⟨⟨xs,h,Nat.le_refl _⟩,hd ys H2 f⟩
end L2
namespace Ch
open PySem
structure TD where
 nm:Str
 st:Str
 en:Str
 lo:Option (Int × Int)
 hi:Option (Int × Int)
structure SD where
 src:Str
 dst:Str
 c:Int × Int
 nm:Str
 fw:Bool
def fwd (t:TD):List SD:=match t.hi with
 | some h=>[⟨t.st,t.en,h,t.nm,true⟩]
 | none=>[]
def bwd (t:TD):List SD:=match t.lo with
 | some l=>[⟨t.en,t.st,(-l.1,l.2),t.nm,false⟩]
 | none=>[]
def steps (t:TD):List SD:=fwd t++bwd t
def all (ts:List TD):List SD:=ts.flatMap steps
abbrev Pr:=Str × Bool
def key (s:SD):Pr:=(s.nm,s.fw)
def lastA (acc:Option SD) (ss:List SD) (k:Pr):Option SD:=ss.foldl (fun a s=>if key s=k then some s else a) acc
def last (ss:List SD) (k:Pr):Option SD:=lastA none ss k
def addF (a c:Int × Int):Int × Int:=(Mth.top (a.1*c.2+c.1*a.2) (a.2*c.2),Mth.bot (a.1*c.2+c.1*a.2) (a.2*c.2))
structure FOk (n:Nat) (a:Int × Int):Prop where
 s1:Mth.Sz n a.1
 s2:Mth.Sz n a.2
 b1:1<=a.2
 g1:Mth.g a.1 a.2=1
end Ch
namespace L2
open PySem PySem.Spec PyProof.Rows Ch
def isTF:HO->Bool
 | .tup _=>true
 | .frz _ _=>true
 | _=>false
def SameT (H H':Hp):Prop:=∀ b u,isTF u=true->H b=some u->H' b=some u
theorem SameT.refl (H:Hp):SameT H H:=fun _ _ _ h=>h
variable {H H1:Hp}
theorem SameT.trans {H2:Hp} (a:SameT H H1) (b:SameT H1 H2):SameT H H2:=fun c o t h=>b c o t (a c o t h)
variable {H':Hp}
theorem Same.t (a:Same H H'):SameT H H':=fun b u _ h=>a b u h
theorem SameT.put {l:Addr} {o o':HO} (e:upd H l o=H') (hl:H l=some o') (ht:isTF o'=false):SameT H H':=fun b u t h=>by
 rw [<- e,Jag (ne_of h hl fun q=>by rw [q,ht] at t;cases t)];exact h
variable {xs:List V}
theorem SqT.sameT {K:W.Frag} {a:Addr} (e:SameT H H') (h:SqT K H a xs):SqT K H' a xs:=by
 rcases h with (h | ⟨o,h⟩) | h
 ·exact .inl (.inl (e _ _ rfl h))
 ·exact .inl (.inr ⟨o,e _ _ rfl h⟩)
 ·exact .inr h
variable {v:V} {b:Int}
theorem FrV.sameT {K:W.Frag} {a:Int} (S:SameT H H') (h:FrV K H v a b):FrV K H' v a b:=by
 obtain ⟨p,e,q⟩:=h;exact ⟨p,e,q.sameT S⟩
def frD (a:Int × Int):D:=.tup [.int a.1, .int a.2]
def bD:Option (Int × Int)->D
 | none=>.non
 | some a=>frD a
def tdD (t:TD):D:=.tup [.str t.nm, .str t.st, .str t.en,bD t.lo,bD t.hi]
def BV (K:W.Frag) (H:Hp):Option (Int × Int)->V->Prop
 | none,v=>v=.non
 | some a,v=>FrV K H v a.1 a.2
variable {o:Option (Int × Int)}
theorem BV.rep {K:W.Frag} (h:BV K H o v):Rep K H (bD o) v:=by
 cases o with
 | none=>simp only [bD,Rep];exact h
 | some a=>exact FrV.rep h
theorem BV.sameT {K:W.Frag} (S:SameT H H') (h:BV K H o v):BV K H' o v:=by
 cases o with
 | none=>exact h
 | some a=>exact FrV.sameT S h
def TV (K:W.Frag) (H:Hp) (t:TD) (x:V):Prop:=∃ b vl vg,x=.ref b/\SqT K H b [.str t.nm, .str t.st, .str t.en,vl,vg]/\BV K H t.lo vl/\BV K H t.hi vg
def CV (H:Hp) (c:Pr) (x:V):Prop:=∃ b,x=.ref b/\H b=some (.tup [.str c.1, .bl c.2])
section
variable {K:W.Frag} {x:V}
theorem TV.sameT {t:TD} (S:SameT H H'):TV K H t x->TV K H' t x:=by rintro ⟨b,vl,d,e,q,a,c⟩;exact ⟨b,vl,d,e,q.sameT S,a.sameT S,c.sameT S⟩
variable {c:Pr}
theorem CV.sameT (S:SameT H H'):CV H c x->CV H' c x:=fun ζ=>by obtain ⟨b,e,q⟩:=ζ;exact ⟨b,e,S _ _ rfl q⟩
theorem TV.rep {t:TD}:TV K H t x->Rep K H (tdD t) x:=fun ⟨b,vl,d,e,q,a,c⟩=>by
 simp only [tdD,Rep,RepL];exact ⟨b,_,e,q,_,_,rfl,rfl,_,_,rfl,rfl,_,_,rfl,rfl,_,_,rfl,a.rep,_,_,rfl,c.rep,rfl⟩
end
variable {α:Type}
def All2 (P : α->V->Prop):List α->List V->Prop
 | [],xs=>xs=[]
 | a::as,xs=>∃ x r,xs=x::r/\P a x/\All2 P as r
section
variable {P P' : α->V->Prop}
theorem All2.mono:∀ {as:List α} {xs:List V},(∀ a x,P a x->P' a x)->All2 P as xs->All2 P' as xs
 | [],_,_,h=>h
 | a::as,xs,f,h=>by
  obtain ⟨x,r,e,h1,h2⟩:=h;exact ⟨x,r,e,f _ _ h1,All2.mono f h2⟩
theorem All2.length:∀ {as:List α} {xs:List V},All2 P as xs->xs.length=as.length
 | [],_,h=>by rw [show _=_ from h];rfl
 | a::as,xs,h=>by
  obtain ⟨x,r,e,h1,h2⟩:=h;rw [e,length_cons,length_cons,h2.length]
theorem All2.at_:∀ {as:List α} {xs:List V} {i:Nat} {x:V},All2 P as xs->xs[i]?=some x->∃ a,as[i]?=some a/\P a x
 | [],_,_,_,h,hx=>by rw [show _=_ from h] at hx;simp at hx
 | a::as,xs,i,y,h,hx=>by
  obtain ⟨x,r,e,h1,h2⟩:=h;subst e;cases i with
  | zero=>simp at hx;subst hx;exact ⟨a,rfl,h1⟩
  | succ i=>simpa using All2.at_ h2 (by simpa using hx)
theorem All2.get:∀ {as:List α} {xs:List V} {i:Nat} {a : α},All2 P as xs->as[i]?=some a->∃ x,xs[i]?=some x/\P a x
 | [],_,_,_,h,hx=>by simp at hx
 | a::as,xs,i,b,h,hx=>by
  obtain ⟨x,r,e,h1,h2⟩:=h;subst e;cases i with
  | zero=>simp at hx;subst hx;exact ⟨x,rfl,h1⟩
  | succ i=>simpa using All2.get h2 (by simpa using hx)
theorem All2.append:∀ {as bs:List α} {xs ys:List V},All2 P as xs->All2 P bs ys->All2 P (as++bs) (xs++ys)
 | [],bs,xs,ys,h,g=>by rw [show xs=[] from h];exact g
 | a::as,bs,xs,ys,h,g=>by
  obtain ⟨x,r,e,h1,h2⟩:=h;subst e;exact ⟨x,r++ys,rfl,h1,All2.append h2 g⟩
theorem All2.one {a : α} {x:V} (h:P a x):All2 P [a] [x]:=⟨x,[],rfl,h,rfl⟩
theorem All2.take:∀ {as:List α} {xs:List V} (j:Nat),All2 P as xs->All2 P (as.take j) (xs.take j)
 | as,xs,0,_=>by simp only [take_zero];exact rfl
 | [],xs,j+1,h=>by rw [show xs=[] from h];simp;exact rfl
 | a::as,xs,j+1,h=>by
  obtain ⟨x,r,e,h1,h2⟩:=h;subst e;exact ⟨x,r.take j,by simp,h1,All2.take j h2⟩
theorem All2.drop:∀ {as:List α} {xs:List V} (j:Nat),All2 P as xs->All2 P (as.drop j) (xs.drop j)
 | as,xs,0,h=>by simpa using h
 | [],xs,j+1,h=>by rw [show xs=[] from h];simp;exact rfl
 | a::as,xs,j+1,h=>by
  obtain ⟨x,r,e,h1,h2⟩:=h;subst e;simpa using All2.drop j h2
theorem All2.repL {K:W.Frag} {f : α->D} (g:∀ a x,P a x->Rep K H (f a) x):∀ {as:List α} {xs:List V},All2 P as xs->RepL K H (as.map f) xs
 | [],xs,h=>by simp only [map_nil,RepL];exact h
 | a::as,xs,h=>by
  obtain ⟨x,r,e,h1,h2⟩:=h;simp only [map_cons,RepL];exact ⟨x,r,e,g _ _ h1,All2.repL g h2⟩
end
structure TOk (t:TD):Prop where
 n1:nameS t.nm=true
 n2:nameS t.st=true
 n3:nameS t.en=true
 ne:t.st≠t.en
 lo:∀ a,t.lo=some a->FOk 600 a
 hi:∀ a,t.hi=some a->FOk 600 a
 le:lessD (bD t.hi) (bD t.lo)=false
variable {z:Str}
theorem len8 (h:nameS z=true):z.length<=8:=by
 unfold nameS at h;simp only [Bool.and_eq_true,decide_eq_true_eq] at h;exact h.1.2
section
variable {kvs:List (List Key × V)} {ss:List SD} {K:W.Frag}
end
def CompJ (J:It) (k:Nat) (cs:List (Nat × Str)) (g:TG) (te:TE) (σ : St) (Q:VK) (H1:Hp):Prop:=∃ W:Nat->Nat->List V->Hp->Prop,(∃ m,W 0 m [] H1)/\∀ i m ys H2,W i m ys H2->ys.length<=sizeLine /\
  ((J.stop i H2/\∀ p,H2 p=none->Q (.ref p) (upd H2 p (.lst ys))) \/
   (J.go i H2/\∀ x H3,J.yld i H2 x H3->g x (List.replicate k none++JaA cs σ) H3 fun σ4 H4=>te σ4 H4 fun y H5=>∃ m',m'<m/\W (i+1) m' (ys++[y]) H5))
def JbI (J:It) (k:Nat) (cs:List (Nat × Str)) (g:TG) (tt:TT) (te:TE) (σ : St) (Q:VK) (H1:Hp):Prop:=∃ W:Nat->Nat->List V->Hp->Prop,(∃ m,W 0 m [] H1)/\∀ i m ys H2,W i m ys H2->ys.length<=sizeLine /\
  ((J.stop i H2/\∀ p,H2 p=none->Q (.ref p) (upd H2 p (.lst ys))) \/
   (J.go i H2/\∀ x H3,J.yld i H2 x H3->g x (List.replicate k none++JaA cs σ) H3 fun σ4 H4=>tt σ4 H4 fun b H5=>if b=true then te σ4 H5 fun y H6=>∃ m',m'<m/\W (i+1) m' (ys++[y]) H6 else ∃ m',m'<m/\W (i+1) m' ys H5))
section
variable {cs:List (Nat × Str)} {tt:TT} {te tl:TE} {σ:St} {Q:VK} {a:Addr} {K:W.Frag} {k:Nat} {g:TG}
theorem y35y:tComp k cs (iAny K tl) g te σ H Q=tl σ H fun x H1=>∃ a,x=.ref a/\(((∃ xs,SqL K H1 a xs)/\CompJ (Itl K a) k cs g te σ Q H1)\/((∃ xs,SqT K H1 a xs)/\CompJ (Itt K a) k cs g te σ Q H1)):=rfl
theorem y37y:JeH k cs (iAny K tl) g tt te σ H Q=tl σ H fun x H1=>∃ a,x=.ref a/\(((∃ xs,SqL K H1 a xs)/\JbI (Itl K a) k cs g tt te σ Q H1)\/((∃ xs,SqT K H1 a xs)/\JbI (Itt K a) k cs g tt te σ Q H1)):=rfl
theorem CompJ.list (Pv:Nat->List V->Hp->Prop) (h0:Pv 0 [] H1) (hl:∀ i ys H',i<=xs.length->Pv i ys H'->SqL K H' a xs/\ys.length<=sizeLine)
  (hs:∀ i x ys H2,xs[i]?=some x->Pv i ys H2->g x (List.replicate k none++JaA cs σ) H2 fun σ4 H4=>te σ4 H4 fun y H5=>Pv (i+1) (ys++[y]) H5) (hd:∀ ys H2,Pv xs.length ys H2->∀ p,H2 p=none->Q (.ref p) (upd H2 p (.lst ys))) :
  CompJ (Itl K a) k cs g te σ Q H1:=compL Pv h0 hl hs hd
theorem JbI.list (Pv:Nat->List V->Hp->Prop) (h0:Pv 0 [] H1) (hl:∀ i ys H',i<=xs.length->Pv i ys H'->SqL K H' a xs/\ys.length<=sizeLine)
  (hs:∀ i x ys H2,xs[i]?=some x->Pv i ys H2->g x (List.replicate k none++JaA cs σ) H2 fun σ4 H4=>tt σ4 H4 fun b H5=>if b=true then te σ4 H5 fun y H6=>Pv (i+1) (ys++[y]) H6 else Pv (i+1) ys H5) (hd:∀ ys H2,Pv xs.length ys H2->∀ p,H2 p=none->Q (.ref p) (upd H2 p (.lst ys))) :
  JbI (Itl K a) k cs g tt te σ Q H1:=Jlu Pv h0 hl hs hd
end
theorem Ji4 {x f:Int} (h0:0<=x) (h1:x<2*f):x.fmod f=x\/x.fmod f=x-f:=by
 rw [Int.fmod_eq_emod_of_nonneg _ ∅];by_cases c:x<f
 ·exact .inl (Int.emod_eq_of_lt h0 c)
 ·refine .inr ?_;have e:(x-f+f) % f=(x-f) % f:=by simp
  rw [Int.sub_add_cancel] at e;rw [e,Int.emod_eq_of_lt ∅ ∅]
theorem JgE (x y:Str):(x++y).cps.toList=x.cps.toList++y.cps.toList:=by
 show (x.cps++y.cps).toList=_;simp
theorem JeT (z:Str):z.length=z.cps.toList.length:=by simp [Str.length]
section
variable {ss:List SD} {c:Pr} {cs:List Pr} {tot:Int × Int} {l:Str} {s:SD} {f:Str}
end
variable {n:Nat}
theorem Jc3 {f : α->D} (h:∀ a,depD (f a)<=n):∀ as:List α,depL (as.map f)<=n
 | []=>by simp [depL]
 | a::as=>by
  rw [map_cons,depL];exact Nat.max_le.mpr ⟨h a,Jc3 h as⟩
section
variable {Q:VK} {K:W.Frag}
end
section
variable {prog:Program} {A:Around} {E:Value->Shared->Prop} {w:World} {s:Shared}
end
section
variable {prog:Program} {A:Around} {E:Value->Shared->Prop} {w:World} {s:Shared}
end
section
variable {prog:Program} {A:Around} {E:Value->Shared->Prop} {w:World} {s:Shared}
end
section
variable {M:Model} {A:Around} {E:Value->Shared->Prop} {s:Shared}
end
section
variable {prog:Program} {A:Around} {E:Value->Shared->Prop} {w:World} {s:Shared}
section
variable {I a:Addr} {es:Array (Int × Value)} {ep:Nat} {Q:Option Value->Shared->Prop} {i:Nat} {t:SetTable}
end
end
section
variable {prog:Program} {A:Around} {E:Value->Shared->Prop} {w:World} {s:Shared}
end
section
variable {prog:Program} {A:Around} {E:Value->Shared->Prop} {w:World} {s:Shared}
end
theorem JkE:typeLookup (.type "list") "keys"=pure none:=by rw [typeLookup_type,builtinLookup_eq_fast];kernel_rfl
section
variable {prog:Program} {A:Around} {E:Value->Shared->Prop} {a:Addr} {its:Array Value} {w:World} {s:Shared}
theorem Jky {Q:Option Value->Shared->Prop} (hh:A.handled=none) (hx:s.heap.get? a=some { cls:=.type "list",dict:=none,data:=.seq its n,slots:=#[] })
   (q:∀ h' t',(∀ b o,s.heap.get? b=some o->h'.get? b=some o)->Q none { s with heap:=h',toks:=t' }) :
    wpAny (model prog w) A (getAttr? (.ref a) "keys") Q E s:=by
  obtain ⟨j,g,d,t,i⟩:=s;have h:∀ c,(⟨j,g,d,c,i⟩:Shared).TypeIs (.ref a) "list":=fun _=>⟨_,hx,rfl⟩;have l:=sub_AttributeError;have r:=PySem.F.slot_list_getattribute.lookup;have k:=PySem.F.slot_list_getattribute.bind (.ref a);have m:=am_list_getattr_none;unfold getAttr?;unfold getAttrBy?;unfold getAttrBy;repeat (any_goals (first | assumption | exact h _ | ((with_reducible show wpAny _ _ (call (Value.builtin "list.__getattribute__") _ _) _ _ _);refine call_meets PySem.F.slot_list_getattribute (h _) am_entry_list_getattribute (PySem.F.args_list_getattribute_2 _ _) (meets_getattribute_miss_list a its n #[] "keys" _ JkE (by decide +kernel) ⋯) ⟨hx,hh,fun h' c e f=>?_⟩) | wp_step))
  obtain ⟨t',p,u⟩:=f.there;show wpAny _ _ (getattributeRaised _ _ _ _ _ _ _) _ _ _;unfold getattributeRaised;repeat (any_goals (first | assumption | wp_step))
  exact q h' c f.keeps
end
theorem Jfz:entryFor table "dict.update.loop"=some Builtin.«dict.update.loop»:=entryFor_of_tree (by kernel_rfl)
theorem Jdc:plainId "dict.update.loop"=true:=by decide +kernel
def dkv (key:Nat->Str) (val:Nat->Value) (i:Nat):List (Key × Value):=(List.range i).foldl (fun l j=>PySem.stored l (Sum.inr (key j)) (val j)) []
theorem JeO (key:Nat->Str) (val:Nat->Value) (i:Nat):dkv key val (i+1)=PySem.stored (dkv key val i) (Sum.inr (key i)) (val i):=by
 unfold dkv;rw [List.range_succ,List.foldl_append];rfl
theorem Jgb (key:Nat->Str) (val:Nat->Value):∀ i,(dkv key val i).length<=i
 | 0=>Nat.le_refl _
 | i+1=>by
  have:=Jgb key val i;rw [JeO];unfold PySem.stored;split <;> simp <;> ac_nf
section
variable {prog:Program} {A:Around} {E:Value->Shared->Prop} {w:World} {s:Shared}
def Jdz (h:Heap) (a:Addr) (k v:Value):Prop:=∃ o c,h.get? a=some o/\o.cls=.type "tuple"/\o.data=.seq #[k,v] c
variable {h:Heap}
theorem Jdz.at_ {h':Heap} {a:Addr} {k v:Value} (x:Jdz h a k v) (m:∀ o,h.get? a=some o->h'.get? a=some o):Jdz h' a k v:=by
 obtain ⟨o,c,e,r⟩:=x;exact ⟨o,c,m o e,r⟩
theorem JkH {t:Tok}:(Jat prog w).is (Sum.inr z) (.str z t)=true:=by
 show keyIs (Sum.inr z) (.str z t)=true;simp [keyIs,Value.isStrOf]
theorem JhL {R:Result->Shared->Prop} {I:Addr} {fp wr:List Addr} {G:Array GenState->Array GenState->Prop} {P:Nat->Value->Prop} {St:Nat->Shared->Prop}
  (W:WalksS prog w A.in1 I fp wr G n P St) (d:Addr) (hdf:d∉fp) (adr:Nat->Addr) (key:Nat->Str) (val:Nat->Value) (hP:∀ i v,P i v->v=.ref (adr i)) (nd:∀ i,i<n->adr i≠d) (nw:∀ i,i<n->adr i∉wr) (hz:n<=sizeLine) :
  ∀ (k i:Nat) (s:Shared),n-i=k->i<=n->St i s->s.heap.DictOf (Jat prog w) d (dkv key val i)->(∀ j,j<n->∃ tk,Jdz s.heap (adr j) (.str (key j) tk) (val j)) ->
   (∀ s',Moved (d::wr) G s s'->s'.heap.DictOf (Jat prog w) d (dkv key val n)->R (.ok (.ret .none)) s') ->
   codeAny (model prog w) A (.builtin "dict.update.loop" ⟨[.ref d, .ref I, .int (i:Int) 0, .none],[]⟩) R s:=by
 have O:d∉wr:=fun h=>hdf (W.sub _ h);have M:∀ b∈wr,b∈d::wr:=fun b h=>mem_cons_of_mem _ h;intro k;induction k with
 | zero=>
  intro i s U X C E g q;have : i=n:=by ac_nf
  subst this;refine codeAny_builtin Jfz ?_;rw [Around.under_plainId Jdc _];refine wpAny_bind (m:=pyNext (.ref I)) (W.done s _ _ C fun s' f=>?_);refine wpAny_bind (m:=Builtin.Dict.addKeywords d []) (wpAny_pure (wpAny_pure ?_));refine q s' (f.mono M) ?_;obtain ⟨o,K,J,t,rest⟩:=E;exact ⟨o,K,J,f.heap d o O t,rest⟩
 | succ k ih=>
  intro i s U X C E g q;have c:i<n:=by ac_nf
  refine codeAny_builtin Jfz ?_;rw [Around.under_plainId Jdc _];refine wpAny_bind (m:=pyNext (.ref I)) (W.item i s _ _ c C fun v s' Z F f=>?_);rw [hP i v Z];have D:s'.heap.DictOf (Jat prog w) d (dkv key val i):=by
   obtain ⟨o,K,J,t,rest⟩:=E;exact ⟨o,K,J,f.heap d o O t,rest⟩
  have a:∀ j,j<n->∃ tk,Jdz s'.heap (adr j) (.str (key j) tk) (val j):=fun j l=>by
   obtain ⟨tk,e⟩:=g j l;exact ⟨tk,e.at_ fun o z=>f.heap _ o (nw j l) z⟩
  obtain ⟨tk,ot,ct,L,H,y⟩:=a i c;have dl:=Jgb key val i;refine wpAny_bind (wpAny_holding ?_);refine wpAny_bind (wpAny_tryCatch ?_);unfold Builtin.Dict.pairItems;refine wpAny_bind (wpAny_typeOf (T:="tuple") ⟨_,L,H⟩ ?_);rw [if_pos ⋯];unfold seqItems?;refine wpAny_bind (wpAny_bind (wpAny_load L ?_));rw [y];refine wpAny_pure (wpAny_pure ?_);show wpAny _ _ (holding [Value.str (key i) tk,val i] (dictSet d (.str (key i) tk) (val i))) _ _ _;refine wpAny_holding (wpAny_dictSet_pairs (knd:=Jat prog w) (k:=Sum.inr (key i)) JkH D (fun N Q u=>?_) ∅);have r:N.DictOf (Jat prog w) d (dkv key val (i+1)):=by
   rw [JeO];exact Q
  refine wpAny_pure ⟨plainId_quiet Jdc _,ih (i+1) { s' with heap:=N,toks:=s'.toks+1 } ∅ c (W.frame _ s' _ _ F (Nat.le_succ _) fun b B o e=>?_) r (fun j l=>?_) fun Y S p=>?_⟩
  ·rw [u.2 b (fun h:b=d=>hdf (h ▸ B))];exact e
  ·obtain ⟨x,V⟩:=a j l;exact ⟨x,V.at_ fun o z=>(u.2 _ (nd j l)).trans z⟩
  ·refine q Y (Moved.trans W.gtrans ((f.mono M).then_heap (Nat.le_succ _) fun b o B e=>?_) S) p;rw [u.2 b (fun h:b=d=>B (by rw [h];exact mem_cons_self))];exact e
variable {l:Addr}
theorem JdL {items:Array Value} {c0:Nat} {Q:Value->Shared->Prop} (hh:A.handled=none) (hl:s.heap.get? l=some { cls:=.type "list",dict:=none,data:=.seq items c0,slots:=#[] }) (adr:Nat->Addr) (key:Nat->Str) (val:Nat->Value)
  (hP:∀ (i:Nat) (v:Value),items[i]?=some v->v=.ref (adr i)) (tup:∀ j,j<items.size->∃ tk,Jdz s.heap (adr j) (.str (key j) tk) (val j)) (hz:items.size<=sizeLine)
  (q:∀ h' tk,(∀ b o,s.heap.get? b=some o->h'.get? b=some o)->h'.DictOf (Jat prog w) s.heap.objs.size (dkv key val items.size)->Q (.ref s.heap.objs.size) { s with heap:=h',toks:=tk }) :
  wpAny (model prog w) A (call (.type "dict") [.ref l]) Q E s:=by
 refine callType_codes (Q₁:=fun f D=>f=.ref s.heap.objs.size/\D={ s with heap:=s.heap.push { cls:=.type "dict",data:=.dict #[] } }) (PySem.F.kt_called_dict) (PySem.F.kt_typeCall_dict_1 _) (PySem.F.entry_dict_init) (kt_code_dict_new _ ⟨rfl,rfl⟩) ?_;rintro f D ⟨rfl,rfl⟩;have k:(s.heap.push { cls:=.type "dict",data:=.dict #[] }).DictOf (Jat prog w) s.heap.objs.size []:=Heap.DictOf.new s.heap;refine ⟨k.typeIs,PySem.F.args_dict_init_2 _ _,?_⟩;generalize h:({ cls:=.type "dict",data:=.dict #[] }:Obj)=o0 at k ⊢;have u:(s.heap.push o0).get? l=some { cls:=.type "list",dict:=none,data:=.seq items c0,slots:=#[] }:=Heap.get?_push_of_some _ hl;have K:=Heap.lt_size hl;have V:(s.heap.push o0).objs.size=s.heap.objs.size+1:=Heap.size_push ..;unfold Builtin.«dict.__init__»;refine wpAny_bind ?_;unfold Builtin.Dict.selfAndRest;refine wpAny_bind (wpAny_notOrdered_dict k.typeIs (wpAny_pure ?_));show wpAny _ _ (Builtin.Dict.updateFrom "dict.__init__" s.heap.objs.size (.ref l) [] Value.none) _ _ _;unfold Builtin.Dict.updateFrom;refine wpAny_bind (wpAny_typeOf (T:="list") ⟨_,u,rfl⟩ ?_);rw [if_pos ⋯];have P:A.in1.in1.handled=none:=by simp [hh]
 refine wpAny_bind (Jky P u fun d U g=>?_);refine wpAny_ite_split (fun _=>?_) (fun z=>absurd rfl z);refine wpAny_bind (wpAny_rule ?_);have B:=g _ _ u;have G:d.DictOf (Jat prog w) s.heap.objs.size []:=by
  obtain ⟨o,I,H,h,rest⟩:=k;exact ⟨o,I,H,g _ _ h,rest⟩
 have dlt:s.heap.objs.size<d.objs.size:=by
  obtain ⟨o,I,H,h,rest⟩:=G;exact Heap.lt_size h
 have C:d.IsList l items:=⟨_,B,rfl,c0,rfl⟩;refine wpAny_bind (wpAny_pyIter_list (s:=⟨d,s.gens,s.drawn,U,s.os⟩) C ?_);have x:∀ j,j<items.size->adr j<s.heap.objs.size:=fun j a=>by
  obtain ⟨tk,o,c,e,_⟩:=tup j a;exact Heap.lt_size e
 have n:l<d.objs.size:=Heap.lt_size B;have r:A.in1.in1.handled=none:=by simp [hh]
 refine wpAny_pure ⟨plainId_quiet Jdc _,?_⟩;refine JhL ((Walks.list r d.objs.size l (Nat.ne_of_lt n) items).toS) s.heap.objs.size (by simp only [mem_cons,not_mem_nil,or_false,not_or];exact ⟨Nat.ne_of_lt dlt,Nat.ne_of_gt K⟩) adr key val hP (fun j a=>Nat.ne_of_lt (x j a)) (fun j a=>by simp only [mem_cons,not_mem_nil,or_false];exact Nat.ne_of_lt (Nat.lt_trans (x j a) dlt)) hz items.size 0 _ ∅ (Nat.zero_le _) ⟨⟨_,Heap.get?_push_size _ rfl,rfl,rfl⟩,C.push _⟩ (G.push _) (fun j a=>?_) fun J m M=>?_
 ·obtain ⟨tk,e⟩:=tup j a;exact ⟨tk,e.at_ fun o z=>Heap.get?_push_of_some _ (g _ _ (Heap.get?_push_of_some _ z))⟩
 ·obtain ⟨h',O,R,t,p⟩:=J;have N:O=s.gens:=m.gens;have L:R=s.drawn:=m.drawn;have S:p=s.os:=m.os;subst N;subst L;subst S;refine ⟨rfl,q h' t (fun b o e=>?_) M⟩;have y:=Heap.lt_size e;refine m.heap b o ?_ (Heap.get?_push_of_some _ (g _ _ (Heap.get?_push_of_some _ e)));simp only [mem_cons,not_mem_nil,or_false,not_or];exact ⟨Nat.ne_of_lt y,Nat.ne_of_lt (Nat.lt_trans y dlt)⟩
end
section
variable {X:Cx} {pins:List (Addr × Obj)} {σ:List (Option V)} {s':Shared} {s:Shared}
def JdB (ps:List (Str × V)):List (Key × V):=ps.foldl (fun l p=>putK l (Sum.inr p.1) p.2) []
def JlZ (xs:List V) (H:Hp) (Q:VK):Prop:=∃ (l:Addr) (as:List Addr) (ps:List (Str × V)),xs=[.ref l]/\H l=some (.lst (as.map V.ref))/\as.length=ps.length/\(∀ (i:Nat) (a:Addr) (p:Str × V),as[i]?=some a->ps[i]?=some p->H a=some (.tup [.str p.1,p.2]))/\∀ d,H d=none->Q (.ref d) (upd H d (.dK (JdB ps)))
theorem Jg6 (hc:X.calm=true):CallR X (.type "dict") JlZ:=by
 intro M s σ H xs us Q I r h;obtain ⟨l,b,d,rfl,e,hl,W,q⟩:=h;obtain ⟨u,rfl,rx⟩:=vals1 r;cases rx;obtain ⟨S,D,n,ri,K,el⟩:=I.lstM e;have E:b.length<=sizeLine:=by simpa using S
 have li:D.length=b.length:=by simpa using K.symm
 have Z:∀ j,j<b.length->∃ u a p f,b[j]?=some a/\d[j]?=some p/\RelV p.2 u/\Jdz s.heap a (.str p.1 f) u:=fun j y=>by
  have C:=List.getElem?_eq_getElem y;have w:=List.getElem?_eq_getElem (l:=d) (i:=j) ∅;obtain ⟨_,ts,A,o,U,G,Y,hd⟩:=I.hok _ _ (W j _ _ C w);cases A with
  | cons r1 A=>
   cases A with
   | cons r2 A=>
    cases A;obtain ⟨f,rfl⟩:=r1;exact ⟨_,_,_,f,C,w,r2,o,Y,U,G,hd⟩
 obtain ⟨B,t⟩:=Classical.skolem.mp (show ∀ j:Nat, ∃ u:Value,j<b.length->∃ a p f,b[j]?=some a/\d[j]?=some p/\RelV p.2 u/\Jdz s.heap a (.str p.1 f) u from fun j=>by
  by_cases c:j<b.length
  ·obtain ⟨u,h⟩:=Z j c;exact ⟨u,fun _=>h⟩
  ·exact ⟨.none,fun z=>absurd z c⟩)
 have m:∀ j a,b[j]?=some a->b.getD j 0=a:=fun j a h=>by rw [List.getD_eq_getElem?_getD,h];rfl
 have g:∀ j (p:Str × V),d[j]?=some p->(d.getD j (⟨#[]⟩, .non)).1=p.1:=fun j p h=>by rw [List.getD_eq_getElem?_getD,h];rfl
 have J:D.toArray.size=b.length:=by rw [size_toArray];exact li
 refine JdL (I.ok.hd hc) el (fun j=>b.getD j 0) (fun j=>(d.getD j (⟨#[]⟩, .non)).1) B (fun j v L=>?_) (fun j y=>?_) ∅ fun h' f k P=>?_
 ·rw [List.getElem?_toArray] at L;have y:j<b.length:=by have:=(List.getElem?_eq_some_iff.mp L).1;ac_nf
  obtain ⟨u,N,T⟩:=ri.get (i:=j) (x:=.ref b[j]) (by rw [List.getElem?_map,List.getElem?_eq_getElem y];rfl);rw [L] at N;cases N;rw [m j _ (List.getElem?_eq_getElem y)];exact T
 ·obtain ⟨a,p,f,C,w,R,O⟩:=t j ∅;refine ⟨f,?_⟩;rw [m j a C,g j p w];exact O
 ·have F:∀ i,i<=b.length->KV (JdB (d.take i)) (dkv (fun j=>(d.getD j (⟨#[]⟩, .non)).1) B i):=fun i=>by
   induction i with
   | zero=>intro _;exact .nil
   | succ i ih=>
    intro hi;obtain ⟨a,p,f,C,w,R,O⟩:=t i ∅;rw [JeO,take_succ,w];unfold JdB;rw [List.foldl_append];rw [g i p w];exact (ih ∅).put _ R
  have r:=F b.length (Nat.le_refl _);rw [take_of_length_le ∅] at r;have ln:(JdB d).length<=sizeLine:=by
   rw [r.length];exact Nat.le_trans (Jgb _ _ _) E
  rw [J] at P;exact ⟨.ref s.heap.objs.size,_,I.laid (a:=s.heap.objs.size) (o:=.dK (JdB d)) (t':=f) k (Nat.le_refl _) (JgJ ln (beq_eq_false_iff_ne.mpr (Ne.symm (Nat.ne_of_lt I.big))) r P),rfl,q _ (I.hok.fresh (Nat.le_refl _))⟩
end
def negF (a:Int × Int):Int × Int:=(-a.1,a.2)
def lessF (a c:Int × Int):Bool:=decide (a.1*c.2<c.1*a.2)
structure FB (A B:Nat) (a:Int × Int):Prop where
 s1:Mth.Sz A a.1
 s2:Mth.Sz B a.2
 b1:1<=a.2
 g1:Mth.g a.1 a.2=1
variable {A B:Nat} {a:Int × Int}
theorem FB.ok (h:FB A B a) (h1:A<=n) (h2:B<=n):FOk n a:=⟨h.s1.mono h1,h.s2.mono h2,h.b1,h.g1⟩
theorem FB.neg (h:FB A B a):FB A B (negF a):=⟨by
 have:=h.s1;unfold Mth.Sz at this ⊢;unfold negF;rw [Int.natAbs_neg];exact this,h.s2,h.b1,by
 have:=h.g1;unfold Mth.g negF at *;simpa using this⟩
variable {C:Nat}
theorem FB.add {D m:Nat} {c:Int × Int} (h:FB A B a) (k:FB C D c) (h1:A+D<=n) (h2:C+B<=n) (h3:B+D<=m):FB (n+1) m (addF a c):=by
 have b:a.2*c.2≠0:=Int.mul_ne_zero (by have:=h.b1;ac_nf) (by have:=k.b1;ac_nf);have d:=(h.s1.mul k.s2).mono h1;have e:=(k.s1.mul h.s2).mono h2;exact ⟨Mth.Sz.top b (d.add e),(Mth.Sz.bot b (h.s2.mul k.s2)).mono h3,Mth.JcP b,Mth.g_low b⟩
theorem FB.low {t:Int} (hb:1<=b) (h1:Mth.Sz A t) (h2:Mth.Sz B b):FB A B (Mth.top t b,Mth.bot t b):=by
 have a:b≠0:=by ac_nf
 exact ⟨Mth.Sz.top a h1,Mth.Sz.bot a h2,Mth.JcP a,Mth.g_low a⟩
variable {X:Cx} {e:Expr} {ta:TE} {pos:Pos}
theorem JkV {K:W.Frag} {f:Str} (hK:X.K=K) (he:PE X e ta) (hb:attributeBase e f X.env (eval e X.env)=eval e X.env):PE X (.Attribute e f pos) (tFld K ta f):=by
 subst hK;exact Jas he hb
theorem JhO:∀ (ls rs:List Str),eqL (ls.map D.str) (rs.map D.str)=decide (ls=rs)
 | [],[]=>rfl
 | [],_::_=>by simp [eqL]
 | _::_,[]=>by simp [eqL]
 | a::ls,b::rs=>by
  rw [map_cons,map_cons,eqL,JhO ls rs];simp only [eqD,List.cons.injEq];by_cases c:a=b
  ·subst c;simp
  ·simp [c]
theorem Jdd {K:W.Frag}:∀ (ls:List Str),RepL K H (ls.map D.str) (ls.map V.str)
 | []=>by simp [RepL]
 | a::ls=>by
  simp only [map_cons,RepL,Rep];exact ⟨_,_,rfl,rfl,Jdd ls⟩
variable {Q:VK}
theorem JjT {K:W.Frag} {p q:Addr} {ls rs:List Str} (hp:SqL K H p (ls.map V.str)) (hq:SqL K H q (rs.map V.str)) (k:Q (.bl (!decide (ls=rs))) H):rNeU K (.ref p) (.ref q) H Q:=by
 refine ⟨.lst (ls.map D.str), .lst (rs.map D.str),by simp only [Rep];exact ⟨p,_,rfl,hp,Jdd ls⟩,by simp only [Rep];exact ⟨q,_,rfl,hq,Jdd rs⟩,?_,rfl,?_⟩
 ·have : ∀ l:List Str,depL (l.map D.str)<=10:=Jc3 (n:=10) fun a=>by simp [depD]
  rw [depD];have:=this ls;ac_nf
 ·rw [eqD,JhO];exact k
structure FW (A B:Nat) (a:Int × Int):Prop where
 s1:Mth.Sz A a.1
 s2:Mth.Sz B a.2
 b1:1<=a.2
theorem FB.w (h:FB A B a):FW A B a:=⟨h.s1,h.s2,h.b1⟩
theorem FW.mono {D:Nat} (h:FW A B a) (h1:A<=C) (h2:B<=D):FW C D a:=⟨h.s1.mono h1,h.s2.mono h2,h.b1⟩
section
variable {o:Expr} {es:List Expr} {to:TE} {name:Str} {apos cpos:Pos} {T id:String} {r:V->List V->Hp->VK->Prop} {K:W.Frag} {t:TA}
end
variable {kvs:List (Key × V)}
theorem JiQ {vs:List (Key × Value)} (r:KV kvs vs):Vals (kvs.map (·.2)) (vs.map (·.2)):=by
 unfold KV at r;induction r with
 | nil=>exact .nil
 | cons h _ ih=>exact .cons h.2 ih
section
variable {prog:Program} {A:Around} {E:Value->Shared->Prop} {w:World} {s:Shared}
end
section
variable {k':Nat} {x mn:Str} {C:Addr} {Cs:Addr->Prop} {ps:List Str} {sp:Sp} {p apos:Pos} {o:Expr} {es:List Expr} {k:Nat} {t:TA}
abbrev TX:=St->Hp->VK->XK->Prop
def xMake (C:Addr) (sp:Sp) (t:TA):TX:=fun σ H Q E=>t σ H fun vs H1=>∀ x dx,H1 x=none->H1 dx=none->dx≠x ->
 sp (.ref x::(vs++[])) (upd (upd H1 dx (.own x)) x (.ins C dx [])) (fun v H2=>v=.non/\Q (.ref x) H2) E
def xMeth (Cs:Addr->Prop) (m:Str) (sp:Sp) (ta:TE) (t:TA):TX:=fun σ H Q E=>ta σ H fun x H1=>∃ a C dx fs,x=.ref a/\H1 a=some (.ins C dx fs)/\Cs C/\fs.lookup m=none/\t σ H1 fun vs H2=>sp (x::vs) H2 Q E
end
section
variable {σ:St} {E:XK} {ty:TE} {ts:TA} {tc:TT} {u:TX} {C:Addr} {sp:Sp} {Cs:Addr->Prop} {td:TE} {t:TX} {m:Str}
theorem y9ey:xMake C sp ts σ H Q E=ts σ H fun vs H1=>∀ x dx,H1 x=none->H1 dx=none->dx≠x->sp (.ref x::(vs++[])) (upd (upd H1 dx (.own x)) x (.ins C dx [])) (fun v H2=>v=.non/\Q (.ref x) H2) E:=rfl
theorem y9fy:xMeth Cs m sp ta ts σ H Q E=ta σ H fun x H1=>∃ a C dx fs,x=.ref a/\H1 a=some (.ins C dx fs)/\Cs C/\fs.lookup m=none/\ts σ H1 fun vs H2=>sp (x::vs) H2 Q E:=rfl
theorem y42y:tDIn ty td σ H Q=ty σ H fun y H1=>td σ H1 fun x H2=>∃ a o,x=.ref a/\DGet H2 a y o/\Q (.bl o.isSome) H2:=rfl
theorem y46y:JiF ty td σ H Q=ty σ H fun y H1=>td σ H1 fun x H2=>∃ a o,x=.ref a/\DGet H2 a y o/\Q (.bl (!o.isSome)) H2:=rfl
end
section
variable {κ:Type} [DecidableEq κ] {f : α->κ} {k : κ} {u y : α}
end
section
variable {P : α->V->Prop}
end
section
variable {P P':TD->V->Prop} {ts:List TD} {t:TD}
end
theorem sub_len [DecidableEq α]:∀ (l m:List α),l.Nodup->l ⊆ m->l.length<=m.length
 | [],m,_,_=>by simp
 | a::l,m,hn,hs=>by
  rw [nodup_cons] at hn;have ha:a∈m:=hs (by simp);have:=sub_len l (m.erase a) hn.2 fun x hx=>(List.mem_erase_of_ne (show x≠a from fun e=>hn.1 (e ▸ hx))).mpr (hs (by simp [hx]));rw [List.length_erase_of_mem ha] at this;have:=List.length_pos_of_mem ha;rw [length_cons];ac_nf
abbrev BMV:List Value:=[.type "ValueError", .type "Exception", .type "BaseException", .type "object"]
structure ExcI (K:W.Frag) (C S f:Addr):Prop where
 up:W.excIn K S BMV "ValueError.__new__"=true
 at_:∃ nm q N bs sn sub ab col dd k0 k1 k2 k3 k5,K.lookup C=some (excClassObj nm q C N bs (.ref S::BMV) true sn sub ab col dd k0 k1 k2 k3 k5 "ValueError.__new__")
 init:W.findIn K (.ref C) "__init__"=some (some (.ref f))
 fn:W.isFn K (.ref f)=true
 kp:W.keepIn K (.ref C)=true
def ExcN (e C:Addr) (od:Option Addr):HO:=.ext fun h=>∃ t:Addr,h.get? e=some { cls:=.ref C,dict:=od,data:=.fields #[.ref t, .none, .none, .none, .bool false, .none] }
section
variable {prog:Program} {A:Around} {E:Value->Shared->Prop} {h:Heap} {d:Drawn} {os:OsState} {w:World} {g:Array GenState} {t:Nat} {nm q:Str} {C N:Addr} {bm bmB:List Value} {hdct ab:Bool} {sn:List Str} {col:Option Bool} {dd:Option Addr} {k0 k1 k2 k3 k5:Option Value} {B newId initId:String} {bs:List Value} {sub:List Value} {K:W.Frag}
theorem Jht (F:ExcBaseFacts B newId initId bmB) (T:OwnTail h bmB bm) {rest:List Value} {fI:Addr} {Q:Fin->Shared->Prop} (X:K.In h)
  (hC:h.get? C=some (excClassObj nm q C N bs bm hdct sn sub ab col dd k0 k1 k2 k3 k5 newId)) (hi:W.findIn K (.ref C) "__init__"=some (some (.ref fI)))
  (hfI:W.isFn K (.ref fI)=true)
  (hq:∀ h' e,Heap.MadeExcOf h h' e (.ref C) rest->h.objs.size<=e ->
   wpAny (model prog w) A (call (.ref fI) (.ref e::rest)) (fun r s'=>r=.none/\Q (.done (.ret (.ref e))) s') E ⟨h',g,d,t,os⟩) (hrest:rest.length<=sizeLine:=by size_fits) :
  wpAny (model prog w) A (Builtin.«type.__call__» ⟨.ref C::rest,[]⟩) Q E ⟨h,g,d,t,os⟩:=by
 repeat (first | with_reducible refine wpAny_loadPart_at hC ?_ | with_reducible refine wpAny_madeBy_exc hC ?_ | wp_step)
 refine codeAny_call_builtin_code (Code.quiet_builtin _ F.quiet) (wpAny_check_new_subT F T hC ?_);refine codeAny_exc_new_subT F T hC ?_ hrest;show wpAny _ _ _ _ _ _;have c:∀ b o,h.get? b=some o->((h.push { cls:=.type "tuple",data:=.seq rest.toArray }).push { cls:=.ref C,data:=.fields #[.ref h.objs.size, .none, .none, .none, .bool false, .none] }).get? b=some o:=fun b o e=>Heap.get?_push_of_some _ (Heap.get?_push_of_some _ e);have hC₁:=c _ _ hC;have X₁:=X.keeps c;have a:((h.push { cls:=.type "tuple",data:=.seq rest.toArray }).push
   { cls:=.ref C,data:=.fields #[.ref h.objs.size, .none, .none, .none, .bool false, .none] }).get? (h.objs.size+1)=some
   { cls:=.ref C,data:=.fields #[.ref h.objs.size, .none, .none, .none, .bool false, .none] }:=by heap_get
 have f:(Value.ref C::bm).contains (.ref C)=true:=by simp
 unfold isInstance;repeat (first | with_reducible refine wpAny_loadPart_at a ?_ | (with_reducible refine wpAny_isSubtype_exc hC₁ ?_;rw [f]) | wp_step)
 show wpAny _ _ (typeLookup (.ref C) _) _ _ _;refine (W.looks_findIn X₁ hi).at ?_;refine wpAny_holding (wpAny_bind ((W.bind_fn X₁ _ (beq_iff_eq.mp hfI)).at ?_));refine wpAny_bind (wpAny_mono (hq _ (h.objs.size+1) ⟨c,Heap.get?_none_of_le (Nat.le_succ _),h.objs.size,a,Heap.get?_none_of_le (Nat.le_refl _),?_⟩ (Nat.le_succ _)) (fun r s' i=>?_) fun _ _ x=>x)
 ·exact Heap.get?_push_of_some _ (Heap.get?_push_at rfl rfl)
 ·obtain ⟨rfl,j⟩:=i
  wp_walk
  exact j
theorem Jhz (F:ExcBaseFacts B newId initId bmB) (T:OwnTail h bmB bm) {rest:List Value} {fI:Addr} {Q:Value->Shared->Prop} (X:K.In h)
  (hC:h.get? C=some (excClassObj nm q C N bs bm hdct sn sub ab col dd k0 k1 k2 k3 k5 newId)) (hi:W.findIn K (.ref C) "__init__"=some (some (.ref fI)))
  (hfI:W.isFn K (.ref fI)=true)
  (hq:∀ h' e,Heap.MadeExcOf h h' e (.ref C) rest->h.objs.size<=e ->
   wpAny (model prog w) (A.under (.builtin "type.__call__" ⟨.ref C::rest,[]⟩)) (call (.ref fI) (.ref e::rest)) (fun r s'=>r=.none/\Q (.ref e) s') E ⟨h',g,d,t,os⟩) (hrest:rest.length<=sizeLine:=by size_fits) :
  wpAny (model prog w) A (call (.ref C) rest) Q E ⟨h,g,d,t,os⟩:=by
 have c:=tc_lookup;have i:=tc_bind (.ref C);have f:(⟨h,g,d,t,os⟩:Shared).TypeIs (.ref C) "type":=⟨_,hC,rfl⟩;refine wpAny_call (codeAny_of_tree ?_);show wpAny _ _ (callAny (.ref C) _) _ _ _;repeat (any_goals (first | assumption | with_reducible refine wpAny_loadPart_at hC ?_ | wp_step))
 refine ⟨rfl,?_⟩;refine codeAny_call_builtin_at (Code.quiet_builtin _ (by decide +kernel)) entry_typeCall (wpAny_check_type_call_sub hC (Jht (hrest:=hrest) F T X hC hi hfI fun h' e b a=>?_));exact hq h' e b a
end
section
variable {C S:Addr} {fd:FuncData} {ps:List Str} {sp:Sp} {E:XK} {x:Str} {p apos:Pos} {o:Expr} {es:List Expr} {k:Nat} {f:Addr} {m:Str} {t:TA} {P:Program} {h:Heap} {od:Option Addr}
theorem Jgd {w:World} {e:Addr} (z:∃ t:Addr,h.get? e=some { cls:=.ref C,dict:=od,data:=.fields #[.ref t, .none, .none, .none, .bool false, .none] }):ObjOk P w H h e (ExcN e C od) :=
 ⟨z,let ⟨_,e⟩:=z;⟨_,e⟩,fun _ _ ⟨t,e⟩ k=>⟨t,k _ e⟩⟩
theorem ExcI.cls {K:W.Frag} (M:ExcI K C S f) (Xi:K.In h):∃ nm q N bs sn sub ab col dd k0 k1 k2 k3 k5,h.get? C=some (excClassObj nm q C N bs (.ref S::BMV) true sn sub ab col dd k0 k1 k2 k3 k5 "ValueError.__new__")/\OwnTail h BMV (.ref S::BMV):=by
 obtain ⟨nm,q,N,bs,sn,sub,ab,col,dd,k0,k1,k2,k3,k5,z⟩:=M.at_;obtain ⟨_,_,_,_,_,_,_,_,_,_,_,_,_,_,_,_,_,b,c,a,_⟩:=JhQ Xi M.up;exact ⟨nm,q,N,bs,sn,sub,ab,col,dd,k0,k1,k2,k3,k5,Xi _ _ z, .own b c a .base⟩
variable {pins:List (Addr × Obj)} {σ:St}
theorem Jiw {s:Shared} {us:List Value} {vs:List V} (M:ExcI X.K C S f) (F:FnOk X.prog X.w X.K X.mg X.base (CX1 X.prog X.w) k f fd ps sp) (hr:Room (k+1) X.A) (hb:Binds X.K fd ps [])
  (hx:JbT (CX1 X.prog X.w) X E) (I:Inv X pins σ H s) (r:Vals vs us) (hz:vs.length<=sizeLine)
  (h:∀ x,H x=none->sp (.ref x::vs) (upd H x (ExcN x C none)) (fun v H2=>v=.non/\Q (.ref x) H2) E) :
  wpAny (model X.prog X.w) X.A (call (.ref C) us) (EP X pins σ Q) X.xe s:=by
 obtain ⟨W,q,N,bs,sn,B,ab,y,dd,Y,Z,k2,k3,k5,L,T⟩:=M.cls I.kIn;obtain ⟨U,g,d,j,o⟩:=s;refine Jhz PySem.F.excBase_ValueError T I.kIn L M.init M.fn (fun n b i D=>?_) (by rw [<- r.length];exact hz);have m:=h b (I.hok.isnone i.new);obtain ⟨p,z,_,_⟩:=i.there;have I2:Inv X pins σ (upd H b (ExcN b C none)) ⟨n,g,d,j,o⟩:=I.laid (t':=j) i.keeps D (Jgd ⟨p,z⟩);have l:Vals (V.ref b::vs) (Value.ref b::us):=.cons rfl r;have O:(Value.ref b::us++[]).length=ps.length:=by
  have e:=l.length;rw [F.len _ _ _ _ m] at e;simpa using e.symm
 have c:=hb ⟨n,g,d,j,o⟩ (Value.ref b::us) I2.kIn O;rw [append_nil] at c;refine wpAny_call (codeAny_mono (F.run _ X.stack _ _ ⟨Value.ref b::us,[]⟩ (Value.ref b::us) _ _ E (hr.make C us []) (I2.env0.make C us []) c l m) fun r t a=>?_);cases r with
 | error e=>exact hx pins σ _ _ e t I2 a
 | ok fl=>
  cases fl with
  | ret u=>
   obtain ⟨v,G,I3,J,R,P⟩:=I2.after a;subst R;exact ⟨J,⟨V.ref b,G,I3,rfl,P⟩⟩
  | next=>exact False.elim a
  | brk=>exact False.elim a
  | cont=>exact False.elim a
def JiG (C:Addr) (sp:Sp) (E:XK) (t:TA):TE:=fun σ H Q=>t σ H fun vs H1=>vs.length<=sizeLine/\∀ x,H1 x=none->sp (.ref x::vs) (upd H1 x (ExcN x C none)) (fun v H2=>v=.non/\Q (.ref x) H2) E
theorem Jjm (M:ExcI X.K C S f) (F:FnOk X.prog X.w X.K X.mg X.base (CX1 X.prog X.w) k f fd ps sp) (hr:Room (k+1) X.A) (hg:Gl X x) (hm:X.mg x=some (.ref C)) (hb:Binds X.K fd ps []) (hx:JbT (CX1 X.prog X.w) X E)
  (ha:PA X (e::es) t) (hdb:(x == ("__debug__" : Str))=false:=by decide) (he:starEach (e::es) X.env=(false,eval e X.env)::starEach es X.env:=by rfl) (hpl:(backTo pos (starEach es X.env)).any (·.1)=false:=by rfl) :
  PE X (.Call (.Name x p) (e::es) [] pos) (JiG C sp E t):=by
 intro a s σ H Q I h;refine wpAny_Call_Name_kw (Jck I hg hm ?_ hdb);refine W.callWith_K (h₀:=X.base) I.ok.mod.kin M.kp (thn (ha pos a s σ H _ I h) fun b c ζ=>?_) he hpl;obtain ⟨d,g,I1,r,q⟩:=ζ;refine ⟨I1.kIn,?_⟩;exact Jiw M F hr hb hx I1 r q.1 q.2
end
section
variable {P:Program} {mg:Str->Option Value} {base:Heap} {N:List Str} {qual:Str} {scope:Scope} {cdv:Value} {A:Around} {outer:List Env} {s0:Shared} {H0:Hp} {E:XK} {w:World} {K:W.Frag} {f:Addr}
def JiJ (K:W.Frag) (H0:Hp) (E:XK) (te:TE):TS:=fun _ σ H=>te σ H fun v H1=>∃ e C S f od,v=.ref e/\H1 e=some (ExcN e C od)/\ExcI K C S f/\H0 e=none/\E (.ref C) od (unt H1 e)
variable {te:TE}
theorem Jit {x:Expr} (hx:PE (cxOf (CX1 P w) P w K mg base N qual scope f cdv A outer s0 H0 E) x te) :
  PS (cxOf (CX1 P w) P w K mg base N qual scope f cdv A outer s0 H0 E) (.Raise (some x) none pos) (JiJ K H0 E te):=by
 intro a s σ H D I h;have m:(A.deeper (envOfC qual scope s0.heap.objs.size f cdv)).handled=none:=I.ok.hd rfl;rw [arm_exec_Raise];refine wpAny_bind (wpAny_standAt ?_);show wpAny _ _ (raiseStmt _ (some (do let v <- eval x _;standAt pos;pure v)) none) _ _ _;unfold raiseStmt;refine wpAny_bind (wpAny_bind (thn (hx a s σ H _ I h) fun u y ζ=>?_));obtain ⟨v,Y,I1,B,e,C,S,V,W,F,i,M,p,q⟩:=ζ;refine wpAny_bind (wpAny_standAt (wpAny_pure ?_));subst F;obtain rfl:u=Value.ref e:=B;obtain ⟨J,qn,G,Q,sn,r,R,n,dd,L,O,k2,k3,Z,l,T⟩:=M.cls I1.kIn;obtain ⟨t,j⟩:=(I1.hok e _ i).1;obtain ⟨U,g,d,tk,os⟩:=y;have c:(Value.ref C::(.ref S::BMV)).contains (.type "BaseException")=true:=by rw [List.contains_cons,T.hasType (X:="BaseException") (b:=true) ⋯,Bool.or_true]
 repeat (first | with_reducible refine wpAny_loadPart_at j ?_ | with_reducible refine wpAny_loadPart_at l ?_ | (with_reducible refine wpAny_isSubtype_exc l ?_;rw [c]) | wp_step)
 refine wpAny_raiseNew_none m ?_;refine JlK I1 i j rfl rfl rfl ?_ q;cases z:s0.heap.get? e with
 | none=>rfl
 | some o=>
  have k:=I1.base.free e o z p (by intro z;cases z);rw [i] at k;cases k
end
structure SlkI (K:W.Frag) (S:Addr):Prop where
 ga:W.specialIn K (.ref S) "__getattribute__"=some (some (.builtin "type.__getattribute__"))
 rd:W.readsIn K S (.type "type")=true
 fi:W.findCls K (.ref S) (.type "type") "__init__"=some (.val (.builtin "ValueError.__init__"))
section
variable {C S:Addr} {x:Str} {p apos:Pos} {es:List Expr} {f:Addr} {t:TA} {prog:Program} {A:Around} {E:Value->Shared->Prop} {h:Heap} {d:Drawn} {os:OsState} {a0:Addr}
theorem Jlk {w:World} {K:W.Frag} {g:Array GenState} {t:Nat} {Q:Value->Shared->Prop} {ex:Addr} {od:Option Addr} {rest:List Value}
  (M:ExcI K C S f) (Xi:K.In h) (he:h.get? ex=some { cls:=.ref C,dict:=od,data:=.fields #[.ref a0, .none, .none, .none, .bool false, .none] }) (hr:rest.length<=sizeLine)
  (hq:∀ h' t',(∃ a1:Addr,h'.get? ex=some { cls:=.ref C,dict:=od,data:=.fields #[.ref a1, .none, .none, .none, .bool false, .none] })->(∀ b u,b≠ex->h.get? b=some u->h'.get? b=some u)->Q .none ⟨h',g,d,t',os⟩) :
  wpAny (model prog w) A (call (.builtin "ValueError.__init__") (.ref ex::rest)) Q E ⟨h,g,d,t,os⟩:=by
 have F:=PySem.F.excBase_ValueError;obtain ⟨m,q,N,o,y,j,p,c,x,l,n,s,v,r,k,T⟩:=M.cls Xi;refine wpAny_call (codeAny_call_builtin F.init.plain F.initEntry (wpAny_check_init_subT F T k he rfl ?_));have a:=Heap.get?_push_of_some (h:=h) { cls:=.type "tuple",data:=.seq rest.toArray } he
 wp_walk
 refine hq _ _ ⟨h.objs.size,?_⟩ fun b u e i=>?_
 ·rw [Heap.get?_update_self _ a rfl];rfl
 ·rw [Heap.get?_update_other _ _ (Ne.symm e)];exact Heap.get?_push_of_some _ i
def JjZ (K:W.Frag) (t:TA):TE:=fun σ H Q=>t σ H fun vs H2=>∃ e rest C S f od,vs=.ref e::rest/\rest.length<=sizeLine/\H2 e=some (ExcN e C od)/\ExcI K C S f/\Q .non (upd H2 e (ExcN e C od))
theorem Jjg {pl:Sem Bool} (G:SlkI X.K S) (hg:Gl X x) (hm:X.mg x=some (.ref S)) (ha:PA X (e::es) t) (hdb:(x == ("__debug__" : Str))=false:=by decide)
  (hst:starEach (e::es) X.env=(false,eval e X.env)::starEach es X.env:=by rfl) (hpl:(backTo pos (starEach es X.env)).any (·.1)=false:=by rfl)
  (ht:eval (.Call (.Attribute (.Name x p) "__init__" apos) (e::es) [] pos) X.env=(do
   let ov <- eval (.Name x p) X.env
   standAt apos.atName
   let (f,first) <- holding [ov] (getMethod ov "__init__" pl)
   callWith pos f first (backTo pos (starEach (e::es) X.env)) (backToKw pos (keywordEach [] X.env))):=by rfl) :
  PE X (.Call (.Attribute (.Name x p) "__init__" apos) (e::es) [] pos) (JjZ X.K t):=by
 intro a s σ H Q I h;refine W.methodCall_KW (pl:=pl) (Jck I hg hm ?_ hdb) ht;refine W.method_cls I.kIn G.ga (W.cls_value I.kIn G.rd G.fi (by decide +kernel) ?_);refine PyProof.Rows.callWith_builtin1 (thn (ha pos a _ σ H _ (I.tok _) h) fun B j ζ=>?_) hst hpl;obtain ⟨q,o,I2,r,b,rest,C,n,f,w,m,i,c,M,l⟩:=ζ;subst m;cases r with
 | @cons _ u _ us' ru rr=>
 obtain rfl:u=Value.ref b:=ru;obtain ⟨y,hg⟩:=(I2.hok b _ c).1;obtain ⟨v,g,d,E,D⟩:=j;refine Jlk M I2.kIn hg (by rw [<- rr.length];exact i) fun A t' z k=>?_;exact ⟨V.non,_,I2.write (t':=t') (e:=b) (by rw [c];exact trivial) (.inl rfl) k (let ⟨_,z⟩:=z;⟨_,z⟩) (Jgd z),rfl,l⟩
end
section
open PySem.W PySem.Builtin PySem.Builtin.ObjectAttr
variable {prog:Program} {A:Around} {E:Value->Shared->Prop} {h:Heap} {d:Drawn} {os:OsState} {x C S a0:Addr} {name:Str} {v:Value} {w:World} {K:W.Frag} {g:Array GenState} {t:Nat} {f:Addr} {ox:Obj} {Q:Unit->Shared->Prop}
theorem JjE {M:Model} {nameV:Value} (Mx:ExcI K C S f) (X:K.In h) (hx:h.get? x=some ox) (hc:ox.cls=.ref C) (hq:Q () ⟨h,g,d,t,os⟩) :
  wpAny M A (checkBuiltinCall "object.__setattr__" ⟨[.ref x,nameV,v],[]⟩) Q E ⟨h,g,d,t,os⟩:=by
 have a:=PySem.F.store_ValueError;obtain ⟨l,q,N,o,y,i,p,e,w,k,n,s,u,r,j,T⟩:=Mx.cls X;have c:(Value.ref C::.ref S::BMV).contains (.type "object")=true:=by rw [List.contains_cons,T.hasType (X:="object") (b:=true) ⋯,Bool.or_true]
 have m:=a.args (.ref x) nameV v;simp only [checkBuiltinCall,a.kind,a.split];refine wpAny_bind ?_
 ·unfold isInstance;repeat (first | (with_reducible refine wpAny_loadPart_at hx ?_;rw [hc]) | (with_reducible refine wpAny_isSubtype_exc j ?_;rw [c]) | wp_step)
  exact hq
theorem JjF (M:ExcI K C S f) (X:K.In h) (sa:findIn K (.ref C) "__setattr__"=some (some (.builtin "object.__setattr__"))) (na:findIn K (.ref C) name=some none)
  (hx:h.get? x=some { cls:=.ref C,dict:=none,data:=.fields #[.ref a0, .none, .none, .none, .bool false, .none] })
  (hq:∀ h' t' dx,h.objs.size<=dx->h'.get? x=some { cls:=.ref C,dict:=some dx,data:=.fields #[.ref a0, .none, .none, .none, .bool false, .none] }->h'.Ns1 dx (fun y=>if y=name then some v else none) ->
   (∀ b u,b≠x->h.get? b=some u->h'.get? b=some u)->Q () ⟨h',g,d,t',os⟩):wpAny (model prog w) A (setAttr (.ref x) name v) Q E ⟨h,g,d,t,os⟩:=by
 have m:=PySem.F.store_ValueError;obtain ⟨Z,q,N,bs,sn,R,ab,P,dd,k0,k1,k2,k3,k5,O,T⟩:=M.cls X;have f3:=m.slot.bind (.ref x);have L1:=looks_findIn (M:=model prog w) X sa;have L2:=looks_findIn (M:=model prog w) X na;unfold setAttr callSpecial? specialOf;repeat (any_goals (first | assumption | (with_reducible refine wpAny_loadPart_at hx ?_) | lk | wp_step))
 refine wpAny_run (codeAny_call_builtin m.slot.plain m.entry (JjE M X hx rfl ?_));have I:Looks (model prog w) h (typeOf (.ref x)) (.ref C):=(Looks.ld hx).andThen .now;show wpAny _ _ (Builtin.«object.__setattr__» ⟨[.ref x, .str name t,v],[]⟩) _ _ _;rw [osa_eq,refuse_eq];refine wpAny_bind (wpAny_bind (I.at (wpAny_bind (wpAny_mroOf_exc O ?_))));rw [refuseLoop_ref,refuseLoop_ref,m.passes];refine wpAny_pure (wpAny_bind (I.at (wpAny_bind (L2.at (wpAny_bind (wpAny_pure (a:=none) ?_))))));show wpAny _ _ (storeInOwnDict (.ref x) (.ref C) (.str name t) name v false) _ _ _;obtain ⟨o,j⟩:∃ o:Obj,o={ cls:=.ref C,dict:=none,data:=.fields #[.ref a0, .none, .none, .none, .bool false, .none] }:=⟨_,rfl⟩;have V:o.cls=.ref C:=by rw [j]
 have B:o.dict=none:=by rw [j]
 have G:∀ c,o.data≠.cls c:=fun c=>by rw [j];intro z;cases z
 rw [<- j] at hx;repeat (first | (with_reducible refine wpAny_loadPart_at hx ?_;rw [V]) | with_reducible refine wpAny_loadPart_at O ?_ | wp_step)
 rw [B,if_neg (by simp [typeHasDict])];split
 ·rename_i i;cases i
 split
 ·rename_i c i;exact absurd i (G c)
 ·have hx₁ : (h.push { cls:=.type "dict",data:=.dict #[] }).get? x=some o:=Heap.get?_push_of_some _ hx;have k:x≠h.objs.size:=Nat.ne_of_lt (Heap.lt_size hx);refine wpAny_bind (wpAny_alloc' ?_);refine wpAny_bind (wpAny_update' hx₁ ?_);refine wpAny_pure ?_;have H:((h.push { cls:=.type "dict",data:=.dict #[] }).update x fun o=>{ cls:=o.cls,dict:=some h.objs.size,data:=o.data,slots:=o.slots }).get? h.objs.size
    = some { cls:=.type "dict",data:=.dict #[] } :=
   (Heap.get?_update_ne _ _ _ _ k.symm).trans (Heap.get?_push_at rfl rfl)
  have p:((h.push { cls:=.type "dict",data:=.dict #[] }).update x fun o=>{ cls:=o.cls,dict:=some h.objs.size,data:=o.data,slots:=o.slots }).Ns h.objs.size (fun _=>none) :=
   ⟨_, #[],_,H,rfl,fun e Y=>absurd Y (by simp),fun _=>rfl⟩
  show wpAny _ _ (storeInDict h.objs.size (.str name t) name v) _ _ _;unfold storeInDict newKeyGuard;refine wpAny_bind (wpAny_pure (wpAny_bind (wpAny_nsSet1 (Heap.Ns1.of_empty p) fun h' l L=>?_)));obtain ⟨oD,W,U,n,D,r⟩:=l.count (Within.cons name v Within.nil);refine wpAny_bind (wpAny_lookBehind n (by rw [D];exact pastItsLine_dict (Nat.le_trans r (by rw [length_cons,length_nil,sizeLine_eq];ac_nf))) ?_)
  wp_walk
  refine hq h' _ h.objs.size (Nat.le_refl _) ?_ l fun b ob s J=>?_
  ·refine (L.2 x k).trans ((Heap.get?_update_self _ hx₁ ?_).trans (by rw [j]));rw [j];rfl
  ·exact (L.2 b (Nat.ne_of_lt (Heap.lt_size J))).trans ((Heap.get?_update_ne _ _ _ _ s).trans (Heap.get?_push_of_some _ J))
structure ExcL (K:W.Frag) (D:Addr) (name:Str):Prop where
 hd:W.hasDictIn K D=true
 ga:W.findIn K (.ref D) "__getattribute__"=some (some (.builtin "BaseException.__getattribute__"))
 gh:W.findIn K (.ref D) "__getattr__"=some none
 na:W.findIn K (.ref D) name=some none
 mb:W.mroIn K D (.type "BaseException")=some true
variable {od:Obj}
theorem Jll {s:Shared} {expr:Bool} {Q:Value->Shared->Prop} (X:K.In s.heap) (c:ExcL K C name) (J:W.InstAt s.heap x ox C (some od)) (hl:lookIn name od=some (some v)) (hv:handedIn v=true) (q:Q v { s with toks:=s.toks+1 }) :
  wpAny (model prog w) A (getAttr (.ref x) name expr) Q E s:=by
 obtain ⟨l,o,p,d,k⟩:=s;have i:=J.type (M:=model prog w);have f:=looks_findIn (M:=model prog w) X c.ga;have e:=looks_findIn (M:=model prog w) X c.gh;have r:=looks_find (M:=model prog w) X J (findObj_own c.hd c.na rfl hl);have n:=looks_mroIn (M:=model prog w) X c.mb;have g:bindSpecial (.builtin "BaseException.__getattribute__") (.ref x)=pure (.builtin "BaseException.__getattribute__",[.ref x]):=by kernel_rfl
 have a:(expr&&onTheHeap (Value.builtin "BaseException.__getattribute__"))=false:=by cases expr <;> rfl
 unfold getAttr getAttrBy;refine wpAny_bind (wpAny_mkText (wpAny_holding (wpAny_bind (i.at (wpAny_bind (f.at ?_))))));have h:(onTheHeap (Value.ref C)&&Value.builtin "BaseException.__getattribute__" == Value.builtin "object.__getattribute__")=false:=Bool.and_eq_false_iff.mpr (.inr (by decide +kernel));show wpAny _ _ (if (onTheHeap (Value.ref C)&&Value.builtin "BaseException.__getattribute__" == Value.builtin "object.__getattribute__")=true then _ else getAttrByItsOwn _ _ _ _ _ _) _ _ _;rw [if_neg (by rw [h];decide)];unfold getAttrByItsOwn hookBefore;refine wpAny_bind ?_;rw [if_pos (show onTheHeap (Value.ref C)=true from rfl)];refine e.at ?_;refine wpAny_bind (wpAny_attempt (wpAny_holding ?_));unfold callGetattribute boundAndCalled;rw [a,if_neg ⋯,g];refine wpAny_bind (wpAny_pure ?_);refine wpAny_call (codeAny_call_builtin (by decide +kernel) PySem.F.entry_bexc_ga ?_);have j:builtinKind "BaseException.__getattribute__"=some .slot:=by decide +kernel
 have b:splitId "BaseException.__getattribute__"=some ("BaseException","__getattribute__"):=by decide +kernel
 have m:=PySem.F.args_bexc_ga (.ref x) (.str name d)
 (simp only [checkBuiltinCall,j,b];refine wpAny_bind ?_)
 unfold isInstance;repeat (first | lk | wp_step)
 show wpAny _ _ (handedOut v) _ _ _;exact W.handed_on hv q
end
section
variable {o value:Expr} {pos':Pos} {tv:TE} {f:Str}
structure ExcA (K:W.Frag) (C:Addr) (f:Str):Prop where
 sa:W.findIn K (.ref C) "__setattr__"=some (some (.builtin "object.__setattr__"))
 na:W.findIn K (.ref C) f=some none
def sFldX (K:W.Frag) (ta tv:TE) (f:Str):TS:=fun D σ H=>tv σ H fun y H1=>ta σ H1 fun x H2=>∃ e C S g,x=.ref e/\H2 e=some (ExcN e C none)/\ExcI K C S g/\ExcA K C f /\
 ∀ dx,H2 dx=none->dx≠e->D.nx σ (upd (upd H2 e (ExcN e C (some dx))) dx (.xd [(f,y)]))
theorem Jk1 (ha:PE X o ta) (hv:PE X value tv) (hs:swapsWith value (some (.Attribute o f pos')) pos.line X.env=pure false):PS X (.Assign [.Attribute o f pos'] value pos) (sFldX X.K ta tv f):=by
 intro l s σ H D I h;refine plainObj_wpAny_Assign_Attribute (thn (hv l s σ H _ I h) fun u V ζ=>?_) hs;obtain ⟨y,U,I1,ry,q⟩:=ζ;refine thn (ha l V σ U _ I1 q) fun ov Y ζ=>?_;obtain ⟨x,P,I2,rx,e,C,S,g,R,i,M,c,q2⟩:=ζ;subst R;obtain rfl:ov=Value.ref e:=rx;obtain ⟨W,O⟩:=(I2.hok e _ i).1;obtain ⟨T,gg,d,tk,os⟩:=Y;refine JjF M I2.kIn c.sa c.na O fun h' t' w A z Z k=>?_;have m:P w=none:=I2.hok.fresh A;have L:w≠e:=fun q=>by rw [q,i] at m;cases m
 have Q:T.get? w=none:=Heap.get?_none_of_le A;refine ⟨σ,_,I2.un (t':=t') ⟨fun b j z n nb _=>?_,fun b j z n nb _=>?_,fun b j z n _=>?_,fun b j z _=>?_,fun b N z=>?_,fun b j v z=>?_,fun b p z=>⟨#[],?_⟩⟩ fun a j t=>?_,q2 w m L⟩
 ·exact k b j (fun y=>by rw [y,i] at n;cases n) z
 ·exact ⟨_,k b j (fun y=>by rw [y,i] at n;cases n) z⟩
 ·rw [Jag (fun y=>by rw [y,Q] at z;cases z),Jag (fun y=>by rw [y,i] at n;cases n)];exact n
 ·by_cases y:b=e
  ·exact ⟨_,by rw [y];assumption⟩
  ·exact ⟨j,k b j y z⟩
 ·rw [Jag (Jah z m),Jag (fun y=>by rw [y,i] at z;cases z)];exact z
 ·rw [Jag (Jah z m),Jag (fun y=>by rw [y,i] at z;cases z)];exact z
 ·rw [Jag (Jah z m),Jag (fun y=>by rw [y,i] at z;cases z),z];simp
 ·by_cases G:a=w
  ·subst G;rw [Jaj] at t;cases t;refine ⟨_,Z,fun E=>?_⟩;show RelO (List.lookup E [(f,y)]) (if E=f then some u else none);by_cases q:E=f
   ·subst q;simp [List.lookup,RelO];exact ry
   ·have : (E == f)=false:=by simpa using q
    simp [List.lookup,this,q,RelO]
  ·rw [Jag G] at t;by_cases F:a=e
   ·subst F;rw [Jaj] at t;cases t;exact Jgd ⟨W,z⟩
   ·rw [Jag F] at t;refine (I2.hok a j t).stay (fun b v B J=>k b v ?_ J) (fun b r=>?_) (fun b N r=>?_)
    ·rcases B with rfl | B
     ·exact F
     ·exact fun y=>by rw [y,i] at B;cases B
    ·rw [Jag (Jah r m),Jag (fun y=>by rw [y,i] at r;cases r)];exact r
    ·rw [Jag (Jah r m),Jag (fun y=>by rw [y,i] at r;cases r)];exact r
def tFldX (K:W.Frag) (ta:TE) (f:Str):TE:=fun σ H Q=>ta σ H fun x H1=>∃ e C dx fs v,x=.ref e/\H1 e=some (ExcO e C (some dx))/\ExcL K C f/\H1 dx=some (.xd fs)/\fs.lookup f=some v/\Q v H1
theorem JkW (he:PE X e ta) (hb:attributeBase e f X.env (eval e X.env)=eval e X.env):PE X (.Attribute e f pos) (tFldX X.K ta f):=by
 intro a s σ H Q I h;refine Jhx hb (thn (he a s σ H _ I h) fun u L ζ=>?_);obtain ⟨x,w,I1,A,g,C,i,M,v,j,z,c,k,l,q⟩:=ζ;subst j;obtain rfl:u=Value.ref g:=A;obtain ⟨F,G,t,B,E,p⟩:=(I1.hok g _ z).1;obtain ⟨y,n,r⟩:=I1.hok i _ k;obtain ⟨J,b,D⟩:=JdW n;obtain ⟨u,m,d⟩:=RelO.some_of (v:=v) (o:=y f) (by rw [<- l];exact r f);refine Jll I1.kIn c ⟨t,B,by unfold W.notCls;rw [E],by rw [p];exact b⟩ (by rw [D,m]) (JfC d) ?_;exact ⟨v,w,I1.tok _,d,q⟩
end
structure XCal (P:Program) (w:World) (K:W.Frag) (mg:Str->Option Value) (base:Heap) (k:Nat) (x:Str) (C S:Addr) (ps:List Str) (sp:Sp):Prop where
 ex:∃ (f:Addr) (fd:FuncData),FnOk P w K mg base (CX1 P w) k f fd ps sp/\mg x=some (.ref C)/\ExcI K C S f/\Binds K fd ps []
section
variable {k':Nat} {x mn:Str} {C S:Addr} {Cs:Addr->Prop} {ps:List Str} {sp:Sp} {E:XK} {p apos:Pos} {o:Expr} {es:List Expr} {k:Nat} {f:Str} {t:TA} {K:W.Frag}
theorem XCal.ev (G:XCal X.prog X.w X.K X.mg X.base k x C S ps sp) (hr:Room k' X.A) (hk:k+1<=k') (hg:Gl X x) (hx:JbT (CX1 X.prog X.w) X E) (ha:PA X (e::es) t)
  (hdb:(x == ("__debug__" : Str))=false:=by decide) (he:starEach (e::es) X.env=(false,eval e X.env)::starEach es X.env:=by rfl) (hpl:(backTo pos (starEach es X.env)).any (·.1)=false:=by rfl) :
  PE X (.Call (.Name x p) (e::es) [] pos) (JiG C sp E t):=by
 obtain ⟨f,c,F,b,M,a⟩:=G.ex;exact Jjm M F (hr.mono hk) hg b a hx ha hdb he hpl
theorem Jjk (hK:X.K=K) (he:PE X e ta) (hb:attributeBase e f X.env (eval e X.env)=eval e X.env):PE X (.Attribute e f pos) (tFldX K ta f):=by
 subst hK;exact JkW he hb
end
section
variable {H0:Hp} {E:XK} {σ:St} {En:Ends} {C:Addr} {sp:Sp} {tv te:TE} {mn:Str} {Cs:Addr->Prop} {K:W.Frag} {t:TA} {f:Str}
theorem y84y:JiJ K H0 E te En σ H=te σ H fun v H1=>∃ e C S f od,v=.ref e/\H1 e=some (ExcN e C od)/\ExcI K C S f/\H0 e=none/\E (.ref C) od (unt H1 e):=rfl
theorem y6ay:JiG C sp E t σ H Q=t σ H fun vs H1=>vs.length<=sizeLine/\∀ x,H1 x=none->sp (.ref x::vs) (upd H1 x (ExcN x C none)) (fun v H2=>v=.non/\Q (.ref x) H2) E:=rfl
theorem y2cy:JjZ K t σ H Q=t σ H fun vs H2=>∃ e rest C S f od,vs=.ref e::rest/\rest.length<=sizeLine/\H2 e=some (ExcN e C od)/\ExcI K C S f/\Q .non (upd H2 e (ExcN e C od)):=rfl
theorem y8ay:sFldX K ta tv f En σ H=tv σ H fun y H1=>ta σ H1 fun x H2=>∃ e C S g,x=.ref e/\H2 e=some (ExcN e C none)/\ExcI K C S g/\ExcA K C f/\∀ dx,H2 dx=none->dx≠e->En.nx σ (upd (upd H2 e (ExcN e C (some dx))) dx (.xd [(f,y)])):=rfl
theorem y50y:tFldX K ta f σ H Q=ta σ H fun x H1=>∃ e C dx fs v,x=.ref e/\H1 e=some (ExcO e C (some dx))/\ExcL K C f/\H1 dx=some (.xd fs)/\fs.lookup f=some v/\Q v H1:=rfl
end
section
variable {pins:List (Addr × Obj)} {σ:St} {a:Addr} {u r:Value} {y:V} {A:Around} {E:Value->Shared->Prop} {s:Shared} {k:Key} {v:Option V} {o:Option Value}
theorem Jju {w:Value} (h:RelO v o) (e:o=some w):∃ x,v=some x/\RelV x w:=by
 subst e;cases v with
 | none=>exact absurd h (by simp [RelO])
 | some x=>exact ⟨x,rfl,h⟩
theorem Jjt (h:RelO v o) (e:o=none):v=none:=by
 subst e;cases v with
 | none=>rfl
 | some x=>exact absurd h (by simp [RelO])
theorem Ji2 {Q:Value->Shared->Prop} (I:Inv X pins σ H s) (e:H a=some (.dK kvs)) (ry:RelV (kV k) u) (rd:RelV y r) (hl:kvs.length<sizeLine)
  (h1:∀ v w' s',valV kvs k=some v->Inv X pins σ H s'->RelV v w'->Q w' s') (h2:∀ s',valV kvs k=none->Inv X pins σ (upd H a (.dK (putK kvs k y))) s'->Q r s') :
  wpAny (model X.prog X.w) A (call (.builtin "dict.setdefault") [.ref a,u,r]) Q E s:=by
 obtain ⟨z,f,o,b,d⟩:=dk_of I.hok e;refine call_meetsIn PySem.F.slot_dict_setdefault d.typeIs PySem.F.entry_dict_setdefault (PySem.F.args_dict_setdefault_3 _ _ _) (PySem.kt_meets_setdefault (Jat X.prog X.w) a (kV_is ry) f r) ⟨o,d,by rw [<- b.length];exact z,fun w h=>?_,fun n j c i=>?_⟩
 ·obtain ⟨x,g,m⟩:=Jju (b.val k) h;exact h1 x w _ g (I.tok _) m
 ·have t:=Jjt (b.val k) n;refine h2 _ t ?_;have p:∃ q,j.get? a=some q:=let ⟨q,_,_,hq,_⟩:=c;⟨q,hq⟩;have l:(putK kvs k y).length<=sizeLine:=by have:=Jbj kvs k y;ac_nf
  exact JeN I (by rw [e];exact True.intro) i p (JgJ l f (b.put k rd) c)
end
def tDSet (td ty tx:TE):TE:=fun σ H Q=>td σ H fun x H1=>∃ a,x=.ref a/\IsD H1 a/\ty σ H1 fun y H2=>tx σ H2 fun z H3=>∃ kvs k,H3 a=some (.dK kvs)/\y=kV k/\kvs.length<sizeLine /\
 (∀ v,valV kvs k=some v->Q v H3)/\(valV kvs k=none->Q z (upd H3 a (.dK (putK kvs k z))))
section
variable {o:Expr} {apos cpos:Pos} {ty tx:TE} {f:Expr} {td:TE}
theorem Jih (ho:PE X o td) (he:PE X e ty) (hf:PE X f tx) (m:M2 X o "setdefault" apos e f cpos):PE X (.Call (.Attribute o "setdefault" apos) [e,f] [] cpos) (tDSet td ty tx):=by
 intro b s σ H Q I h;refine wpAny_Call_method m.base m.few m.line PySem.F.plainAttrs_dict PySem.F.slot_dict_setdefault PySem.F.type_dict_setdefault (thn (ho b s σ H _ I h) fun u r ζ=>?_);obtain ⟨x,t,I1,D,a,q,d,A⟩:=ζ;subst q;obtain rfl:u=Value.ref a:=D;obtain ⟨M,J,_⟩:=JfD I1 d;refine ⟨M,J,?_⟩;rw [m.trees];refine Calls.callWith_builtin rfl (Calls.evalArgs_plain (Calls.spliced_cons (thn (he b r σ t _ I1 A) fun S w ζ=>?_)));obtain ⟨y,p,I2,E,B⟩:=ζ;refine Calls.spliced_cons (thn (hf b w σ p _ I2 B) fun O R ζ=>?_);obtain ⟨z,l,I3,i,G,k,C,N,K,L,j⟩:=ζ;refine Calls.spliced_nil ?_
 subst N;exact Ji2 I3 C E i K (fun v P n g I4 c=>⟨v,l,I4,c,L v g⟩) fun n g I4=>⟨z,_,I4,i,j g⟩
end
section
variable {σ:St} {ty tx:TE} {td:TE}
theorem y4ay:tDSet td ty tx σ H Q=td σ H fun x H1=>∃ a,x=.ref a/\IsD H1 a/\ty σ H1 fun y H2=>tx σ H2 fun z H3=>∃ kvs k,H3 a=some (.dK kvs)/\y=kV k/\kvs.length<sizeLine/\(∀ v,valV kvs k=some v->Q v H3)/\(valV kvs k=none->Q z (upd H3 a (.dK (putK kvs k z)))):=rfl
theorem y41y:Jj1 td ty tx σ H Q=td σ H fun x H1=>∃ a,x=.ref a/\IsD H1 a/\ty σ H1 fun y H2=>tx σ H2 fun z H3=>∃ o,DGet H3 a y o/\Q (o.getD z) H3:=rfl
theorem y43y {trs:List (TE × TE)}:tDisp trs σ H Q=∀ p,H p=none->JfY trs σ (upd H p (.dK [])) fun ps H2=>H2 p=some (.dK [])/\∃ kvs:List (Key × V),ps=kvs.map (fun kv=>(kV kv.1,kv.2))/\kvs.length<=15/\Q (.ref p) (upd H2 p (.dK (JeC [] kvs))):=rfl
theorem y80y {tk tv:TE} {R:List (V × V)->Hp->Prop}:JfY [(tk,tv)] σ H R=tk σ H fun x H1=>tv σ H1 fun y H2=>R [(x,y)] H2:=rfl
theorem y2ey {K:W.Frag} {T:String} {r:V->List V->Hp->VK->Prop} {to:TE}:tBM0 K T r to σ H Q=to σ H fun x H1=>tyV K T x H1/\r x [] H1 Q:=rfl
end
def BG (f : α->Str) (P : α->V->Prop) (as:List α) (kvs:List (Key × V)):Prop:=kvs.map (·.1)=as.map (fun a=>Sum.inr (f a))/\All2 P as (kvs.map (·.2))
section
variable {f : α->Str} {P P' : α->V->Prop} {as:List α} {a : α}
theorem BG.mono (h:BG f P as kvs) (m:∀ a x,P a x->P' a x):BG f P' as kvs:=⟨h.1,h.2.mono m⟩
theorem BG.length (h:BG f P as kvs):kvs.length=as.length:=by simpa using congrArg List.length h.1
theorem BG.cons:BG f P (a::as) kvs↔∃ w r,kvs=(Sum.inr (f a),w)::r/\P a w/\BG f P as r:=by
 constructor
 ·rintro ⟨b,c⟩;match kvs,b,c with
  | (k,w)::r,b,c=>
   rw [map_cons,map_cons,List.cons.injEq] at b;obtain ⟨y,g,e,p,c⟩:=c;rw [map_cons,List.cons.injEq] at e;obtain ⟨rfl,rfl⟩:=e;obtain ⟨d,b⟩:=b;have d:k=Sum.inr (f a):=d;subst d;exact ⟨_,r,rfl,p,b,c⟩
 ·rintro ⟨w,r,rfl,p,h⟩;exact ⟨by rw [map_cons,map_cons,h.1],w,r.map (·.2),rfl,p,h.2⟩
theorem BG.nil:BG f P [] kvs↔kvs=[]:=by
 constructor
 ·rintro ⟨h,_⟩;simpa using h
 ·rintro rfl;exact ⟨rfl,rfl⟩
theorem BG.any:∀ {as:List α} {kvs:List (Key × V)} {z:Str},BG f P as kvs->(kvs.any fun kv=>decide (kv.1=Sum.inr z))=decide (z∈as.map f)
 | [],kvs,z,h=>by rw [BG.nil.mp h];simp
 | a::as,kvs,z,h=>by
  obtain ⟨w,r,rfl,_,h⟩:=BG.cons.mp h;rw [any_cons,BG.any h];by_cases c:f a=z
  ·subst c;simp
  ·have c1:(Sum.inr (f a):Key)≠Sum.inr z:=fun e=>c (by injection e);have c2:z≠f a:=fun e=>c e.symm;simp [c1,c2]
theorem BG.get:∀ {as:List α} {kvs:List (Key × V)} {z:Str},BG f P as kvs->(∃ a v,a∈as/\f a=z/\valV kvs (Sum.inr z)=some v/\P a v)\/(z∉as.map f/\valV kvs (Sum.inr z)=none)
 | [],kvs,z,h=>by
  rw [BG.nil.mp h];exact .inr ⟨by simp,rfl⟩
 | a::as,kvs,z,h=>by
  obtain ⟨w,r,rfl,p,h⟩:=BG.cons.mp h;by_cases c:f a=z
  ·subst c;exact .inl ⟨a,w,by simp,rfl,Jbe rfl,p⟩
  ·have c1:(Sum.inr (f a):Key)≠Sum.inr z:=fun e=>c (by injection e);have c2:z≠f a:=fun e=>c e.symm;have e:valV ((Sum.inr (f a),w)::r) (Sum.inr z)=valV r (Sum.inr z):=by simp [valV,List.find?_cons,c1]
   rw [e];rcases BG.get h (z:=z) with ⟨b,v,h1,h2,h3,h4⟩ | ⟨h1,h2⟩
   ·exact .inl ⟨b,v,by simp [h1],h2,h3,h4⟩
   ·exact .inr ⟨by simp [c2];simpa using h1,h2⟩
theorem BG.some (h:BG f P as kvs) (hz:z∈as.map f):∃ a v,a∈as/\f a=z/\valV kvs (Sum.inr z)=some v/\P a v:=by
 rcases h.get (z:=z) with h | ⟨h,_⟩
 ·exact h
 ·exact absurd hz h
theorem BG.none (h:BG f P as kvs) (hz:z∉as.map f):valV kvs (Sum.inr z)=none:=by
 rcases h.get (z:=z) with ⟨a,v,h1,h2,_⟩ | ⟨_,h⟩
 ·exact absurd (h2 ▸ List.mem_map_of_mem (f:=f) h1) hz
 ·exact h
theorem BG.val (h:BG f P as kvs):(valV kvs (Sum.inr z)).isSome=decide (z∈as.map f):=by
 by_cases c:z∈as.map f
 ·obtain ⟨a,v,_,_,e,_⟩:=h.some c;rw [e,decide_eq_true c];rfl
 ·rw [h.none c,decide_eq_false c];rfl
theorem BG.new (h:BG f P as kvs) (hn:f a∉as.map f) (p:P a v):BG f P (as++[a]) (putK kvs (Sum.inr (f a)) v):=by
 have e:putK kvs (Sum.inr (f a)) v=kvs++[(Sum.inr (f a),v)]:=by
  unfold putK;rw [h.any,if_neg (by simpa using hn)]
 rw [e];exact ⟨by rw [map_append,map_append,h.1];rfl,by rw [map_append];exact h.2.append (.one p)⟩
end
structure PD where
 nm:Str
 st:Str
 en:Str
 sz:Int × Int
 mo:Int × Int
 wt:Int
def JdA (p:PD) (f:Str):List (Str × Pr):=if p.st=f then [(p.en,(p.nm,true))] else if p.en=f then [(p.st,(p.nm,false))] else []
def Jaz (ls:List PD) (f:Str):List (Str × Pr):=ls.flatMap fun p=>JdA p f
theorem JdT (ls:List PD) (p:PD) (f:Str):Jaz (ls++[p]) f=Jaz ls f++JdA p f:=by simp [Jaz]
variable {ls:List PD} {pr:Pr}
theorem Ja2 {f g:Str}:(g,pr)∈Jaz ls f↔∃ p∈ls,(p.st=f/\p.en=g/\pr=(p.nm,true))\/(p.st≠f/\p.en=f/\p.st=g/\pr=(p.nm,false)):=by
 unfold Jaz;rw [mem_flatMap];refine exists_congr fun p=>and_congr_right fun _=>?_;unfold JdA;by_cases a:p.st=f
 ·rw [if_pos a,mem_singleton,Prod.mk.injEq];exact ⟨fun h=>.inl ⟨a,h.1.symm,h.2⟩,fun h=>h.elim (fun h=>⟨h.2.1.symm,h.2.2⟩) fun h=>absurd a h.1⟩
 ·rw [if_neg a];by_cases b:p.en=f
  ·rw [if_pos b,mem_singleton,Prod.mk.injEq];exact ⟨fun h=>.inr ⟨a,b,h.1.symm,h.2⟩,fun h=>h.elim (fun h=>absurd h.1 a) fun h=>⟨h.2.2.1.symm,h.2.2.2⟩⟩
  ·rw [if_neg b];exact ⟨fun h=>by simp at h,fun h=>h.elim (fun h=>absurd h.1 a) fun h=>absurd h.2.1 b⟩
theorem Jgl:∀ {ls:List PD} {p q:PD},(ls.map (·.nm)).Nodup->p∈ls->q∈ls->p.nm=q.nm->p=q
 | [],_,_,_,hp,_,_=>by cases hp
 | a::ls,p,q,hn,hp,hq,e=>by
  rw [map_cons,nodup_cons] at hn;rcases mem_cons.mp hp with h1 | h1 <;> rcases mem_cons.mp hq with h2 | h2
  ·rw [h1,h2]
  ·subst h1;exact absurd (e ▸ mem_map.mpr ⟨q,h2,rfl⟩) hn.1
  ·subst h2;exact absurd (e ▸ mem_map.mpr ⟨p,h1,rfl⟩) hn.1
  ·exact Jgl hn.2 h1 h2 e
inductive JaV (ls:List PD) (a:Str):List Pr->Str->Prop
 | nil:JaV ls a [] a
 | snoc {w:List Pr} {f g:Str} {pr:Pr}:JaV ls a w f->(g,pr)∈Jaz ls f->JaV ls a (w++[pr]) g
def Conn (ls:List PD) (a b:Str):Prop:=∃ w,JaV ls a w b
variable {a b:Str} {S:List Str}
theorem Jkn (ha:a∈S) (hc:∀ f∈S, ∀ e∈Jaz ls f,e.1∈S) (h:Conn ls a b):b∈S:=by
 obtain ⟨w,h⟩:=h;induction h with
 | nil=>exact ha
 | snoc _ hm ih=>exact hc _ ih _ hm
def fcsOf (ls:List PD):List Str:=ls.flatMap fun p=>[p.st,p.en]
theorem JgP {f:Str} {e:Str × Pr} (h:e∈Jaz ls f):e.1∈fcsOf ls:=by
 obtain ⟨p,b,a⟩:=mem_flatMap.mp h;refine mem_flatMap.mpr ⟨p,b,?_⟩;unfold JdA at a;split at a
 ·rw [mem_singleton.mp a];simp
 ·split at a
  ·rw [mem_singleton.mp a];simp
  ·simp at a
theorem Jg3 {w:List Pr} (h:JaV ls a w b):b∈a::fcsOf ls:=by
 cases h with
 | nil=>simp
 | snoc _ hm=>exact mem_cons_of_mem _ (JgP hm)
theorem Jkr (ls:List PD):(fcsOf ls).length=2*ls.length:=by
 unfold fcsOf;induction ls with
 | nil=>rfl
 | cons p ls ih=>
  rw [List.flatMap_cons,length_append,ih];simp;ac_nf
section
variable {pins:List (Addr × Obj)} {σ:List (Option V)} {s':Shared} {d:Addr} {kvs':List (Key × V)} {od:Obj} {s:Shared}
theorem Inv.freeze (I:Inv X pins σ H s) (e:H d=some (.dK kvs)) (ho:s.heap.get? d=some od):Inv X pins σ (upd H d (.frz od (.dK kvs))) s:=by
 refine I.un (h':=s.heap) (t':=s.toks) ⟨fun b o q _ _ _=>q,fun b o q _ _ _=>⟨o.slots,q⟩,fun b o q n _=>?_,fun b o q _=>⟨o,q⟩,fun b h q=>?_,fun b o u q=>?_,fun b j q=>⟨#[],?_⟩⟩ fun a o q=>?_
 ·rw [Jag (fun z=>by rw [z,e] at n;cases n)];exact n
 ·rw [Jag (fun z=>by rw [z,e] at q;cases q)];exact q
 ·rw [Jag (fun z=>by rw [z,e] at q;cases q)];exact q
 ·rw [Jag (fun z=>by rw [z,e] at q;cases q),Array.append_empty];exact q
 ·have f:∀ i b,H b=some (.own i)->upd H d (.frz od (.dK kvs)) b=some (.own i):=fun i b q=>by
   rw [Jag (fun z=>by rw [z,e] at q;cases q)];exact q
  have g:∀ b h,H b=some (.tup h)->upd H d (.frz od (.dK kvs)) b=some (.tup h):=fun b h q=>by
   rw [Jag (fun z=>by rw [z,e] at q;cases q)];exact q
  by_cases c:a=d
  ·subst c;rw [Jaj] at q;cases q;exact ⟨ho,(I.hok a _ e).stay (fun _ _ _ z=>z) (f a) g⟩
  ·rw [Jag c] at q;exact (I.hok a o q).stay (fun _ _ _ z=>z) (f a) g
theorem Inv.thaw (I:Inv X pins σ H s) (e:H d=some (.dK kvs)) (I':Inv X pins σ H' s') (e':H' d=some (.frz od (.dK kvs'))):Inv X pins σ (upd H' d (.dK kvs')) s':=by
 have m:∀ {b:Addr} {o:HO},H' b=some o->(∀ u v,o≠.frz u v)->b≠d:=fun q h z=>by rw [z,e'] at q;cases q;exact h _ _ rfl
 refine ⟨I'.ok,I'.os,I'.bare,⟨I'.base.keep,I'.base.slot,fun b o q n A=>?_,I'.base.there,fun b j q=>?_,fun b o u q=>?_,fun b t q=>?_⟩,I'.loc,I'.cell,?_,fun x c z=>?_,fun p y=>?_,fun a o q=>?_,I'.len⟩
 ·have:=I'.base.free b o q n A;rw [Jag (fun z=>by rw [z,e'] at this;cases this)];exact this
 ·have:=I'.base.tups b j q;rw [Jag (m this (by intro u v z;cases z))];exact this
 ·have f:=I'.base.frzs b o u q;have g:=I.base.frzs b o u q;rw [Jag (fun z=>by rw [z,e] at g;cases g)];exact f
 ·obtain ⟨i,f⟩:=I'.base.tbls b t q;exact ⟨i,by rw [Jag (m f (by intro u v z;cases z))];exact f⟩
 ·have:=I'.free;rw [Jag (fun z=>by rw [z,e'] at this;cases this)];exact this
 ·have:=I'.freeC x c z;rw [Jag (fun z=>by rw [z,e'] at this;cases this)];exact this
 ·obtain ⟨f,g,B⟩:=I'.pin p y;exact ⟨f,by rw [Jag (fun z=>by rw [z,e'] at g;cases g)];exact g,B⟩
 ·have k:∀ r b,H' b=some (.own r)->upd H' d (.dK kvs') b=some (.own r):=fun r b q=>by
   rw [Jag (m q (by intro u v z;cases z))];exact q
  have l:∀ b j,H' b=some (.tup j)->upd H' d (.dK kvs') b=some (.tup j):=fun b j q=>by
   rw [Jag (m q (by intro u v z;cases z))];exact q
  by_cases c:a=d
  ·subst c;rw [Jaj] at q;cases q;have f:ObjOk X.prog X.w H' s'.heap a (.dK kvs'):=(I'.hok a _ e').2;exact f.stay (fun _ _ _ z=>z) (k a) l
  ·rw [Jag c] at q;exact (I'.hok a o q).stay (fun _ _ _ z=>z) (k a) l
end
def Itv (d:Addr) (od:Obj) (kvs:List (Key × V)):It :=
 ⟨fun i H=>H d=some (.frz od (.dK kvs))/\i<kvs.length,fun i H x H'=>H'=H/\(kvs.map (·.2))[i]?=some x,fun i H=>H d=some (.frz od (.dK kvs))/\kvs.length<=i⟩
variable {P:Program} {tg:Expr} {d it:Addr} {od:Obj} {vs:List (Key × Value)} {ep:Nat}
theorem JiP {w:World} {K:W.Frag} (rel:KV kvs vs) (hd:∀ h:Heap,h.get? d=some od->h.DictAt (Jat P w) d vs ep) :
  Turn P w K tg (Itv d od kvs) [it] it (fun i h=>h.IsValIter it d i vs.length ep) where
 mem:=by simp
 obj:=fun i h a b l=>by
  obtain rfl:b=it:=by simpa using l
  obtain ⟨o,e,c,z⟩:=a;exact ⟨o,e,fun v q=>by rw [z] at q;cases q⟩
 keep:=fun i h p a k=>a.at fun o e=>k it (by simp) o e
 item:=by
  intro X A t y N i f s σ H E I n a B;subst A t y;obtain ⟨j,L⟩:=B;obtain ⟨G,r,O,D,C,F⟩:=n it (by simp);have g:=(I.hok d _ j).1;have U:=rel.length;have Y:=JiQ rel;obtain ⟨x,M⟩:∃ x,(kvs.map (·.2))[i]?=some x:=⟨_,List.getElem?_eq_getElem (by rw [length_map];exact L)⟩;obtain ⟨u,J,Q⟩:=Y.get M;rw [List.getElem?_map] at J;obtain ⟨⟨k,Z⟩,T,rfl⟩:=Option.map_eq_some_iff.mp J;refine wpAny_pyNext_values_item a (hd _ g) T fun p m S=>?_;have I1:Inv X f σ H { s with heap:=p }:=I.turned (t':=s.toks) (fun b o l e=>(S.2 b l).trans e) G r D C F;obtain ⟨o,e,c,z⟩:=id m;exact ⟨_,rfl,go_of (s:={ s with heap:=p }) e c z ⋯ ⟨x,H,I1,Q,⟨rfl,M⟩,m,fun b l=>(n b l).1⟩⟩
 done:=by
  intro X A t y N i f s σ H E I n a B;subst A t y;obtain ⟨j,L⟩:=B;obtain ⟨G,r,O,D,C,F⟩:=n it (by simp);have g:=(I.hok d _ j).1;have U:=rel.length;exact wpAny_pyNext_values_end (I.ok.hd N) a (hd _ g) (List.getElem?_eq_none ∅) fun p R=>⟨rfl,I.turned (t':=s.toks) (fun b o l e=>R b o l e) G r D C F⟩
 self:=fun _ _ _ _ _ a h=>wpAny_pyIter_valiter a h
def iVals (td:TE):TI:=fun σ H R=>td σ H fun x H1=>∃ d kvs,x=.ref d/\H1 d=some (.dK kvs)/\∀ od,R (Itv d od kvs) (upd H1 d (.frz od (.dK kvs)))
variable {apos cpos:Pos}
theorem Jim {o:Expr} {td:TE} (ho:PE X o td) (hb:attributeBase o "values" X.env (eval o X.env)=eval o X.env:=by rfl) (hn:(apos.endLine == cpos.line)=true:=by rfl) :
  PI X tg (.Call (.Attribute o "values" apos) [] [] cpos) (iVals td):=by
 intro c s σ H R I h;refine wpAny_Call_method0_late hb hn (thn (ho c s σ H _ I h) fun v a ζ=>?_);obtain ⟨y,D,I1,t,d,kvs,r,e,u⟩:=ζ;subst r;obtain rfl:v=Value.ref d:=t;obtain ⟨n,A,x⟩:=JfD I1 (.inl ⟨kvs, .inl e⟩);obtain ⟨C,_,vs,g,l⟩:=dk_of I1.hok e;refine ⟨"dict","dict.values",PySem.F.plainAttrs_dict,PySem.F.slot_dict_values,PySem.F.type_dict_values,n,A,Calls.callWith_builtin rfl (PySem.evalArgs_none ?_)⟩;refine call_meetsIn PySem.F.slot_dict_values n PySem.F.entry_dict_values (PySem.F.args_dict_values_1 _) (meets_dict_values (Jat X.prog X.w) d x) ⟨⟨vs,l⟩,?_⟩;obtain ⟨ep,m⟩:=l.dictAt;obtain ⟨k,B,f,rest⟩:=id m;refine wpAny_pyIter_values (knd:=Jat X.prog X.w) (v:=a.heap.objs.size) (d:=d) (kvs:=vs) (ep:=ep) ⟨_,Heap.get?_push_size _ rfl,rfl,rfl⟩ (m.push _) ?_;have p:∀ b o,a.heap.get? b=some o->((a.heap.push { cls:=.type "dict_values",data:=.fields #[.ref d] }).push { cls:=.type "dict_valueiterator",data:=.fields #[.ref d, .int 0 0, .int vs.length 0, .int ep 0] }).get? b=some o:=fun b o z=>Heap.get?_push_of_some _ (Heap.get?_push_of_some _ z);have I2:=(I1.freeze e f).kept (t':=a.toks) p;have j:a.heap.objs.size<=(a.heap.push { cls:=.type "dict_values",data:=.fields #[.ref d] }).objs.size:=by
  rw [Heap.size_push];exact Nat.le_succ _
 refine ⟨_,[_],_,_,_,rfl,I2,JiP (vs:=vs) (ep:=ep) g (fun h q=>⟨k,B,q,rest⟩),⟨_,Heap.get?_push_size _ rfl,rfl,rfl⟩,fun b i=>?_,u k⟩;obtain rfl:=mem_singleton.mp i;exact I1.fpOk j ((I1.freeze e f).hok.fresh j)
def tThaw (t:TE):TE:=fun σ H Q=>∃ d kvs,H d=some (.dK kvs)/\t σ H fun v H'=>∃ od kvs',H' d=some (.frz od (.dK kvs'))/\Q v (upd H' d (.dK kvs'))
theorem Jgu {t:TE} (h:PE X e t):PE X e (tThaw t):=by
 intro a s σ H Q I ⟨d,j,i,q⟩;exact thn (h a s σ H _ I q) fun v m ζ=>by obtain ⟨x,l,I1,c,k,b,g,f⟩:=ζ;exact ⟨x,_,I.thaw i I1 g,c,f⟩
section
variable {cs:List (Nat × Str)} {te tl:TE} {σ:St} {k:Nat} {g:TG} {td:TE}
theorem y3cy:tThaw (tComp k cs (iVals td) g te) σ H Q=∃ d kvs,H d=some (.dK kvs)/\td σ H fun x H1=>∃ d1 kvs1,x=.ref d1/\H1 d1=some (.dK kvs1)/\∀ od,CompJ (Itv d1 od kvs1) k cs g te σ (fun v H'=>∃ od kvs',H' d=some (.frz od (.dK kvs'))/\Q v (upd H' d (.dK kvs'))) (upd H1 d1 (.frz od (.dK kvs1))):=rfl
theorem CompJ.vals (Pv:Nat->List V->Hp->Prop) (h0:Pv 0 [] H1) (hl:∀ i ys H',i<=kvs.length->Pv i ys H'->H' d=some (.frz od (.dK kvs))/\ys.length<=sizeLine)
  (hs:∀ i x ys H2,(kvs.map (·.2))[i]?=some x->Pv i ys H2->g x (List.replicate k none++JaA cs σ) H2 fun σ4 H4=>te σ4 H4 fun y H5=>Pv (i+1) (ys++[y]) H5) (hd:∀ ys H2,Pv kvs.length ys H2->∀ p,H2 p=none->Q (.ref p) (upd H2 p (.lst ys))) :
  CompJ (Itv d od kvs) k cs g te σ Q H1:=by
 refine ⟨fun i m ys H'=>Pv i ys H'/\i<=kvs.length/\m=kvs.length-i,⟨_,h0,Nat.zero_le _,rfl⟩,?_⟩;rintro i m ys H2 ⟨a,j,rfl⟩;obtain ⟨b,h⟩:=hl i ys H2 j a;refine ⟨h,?_⟩;by_cases c:i<kvs.length
 ·refine .inr ⟨⟨b,c⟩,?_⟩;rintro x f ⟨rfl,l⟩;have e:(fun (σ4:St) (H4:Hp)=>te σ4 H4 fun y H5=>Pv (i+1) (ys++[y]) H5)=fun σ4 H4=>te σ4 H4 fun y H5=>∃ m',m'<kvs.length-i/\Pv (i+1) (ys++[y]) H5/\i+1<=kvs.length/\m'=kvs.length-(i+1):=by
   funext σ4 H4
   congr 1
   funext y H5
   exact propext ⟨fun q=>⟨_,Nat.sub_lt_sub_left c (Nat.lt_succ_self i),q,c,rfl⟩,fun ζ=>by obtain ⟨_,_,q,_⟩:=ζ;exact q⟩
  rw [<- e];exact hs i x ys f l a
 ·have n:i=kvs.length:=by ac_nf
  subst n;exact .inl ⟨⟨b,Nat.le_refl _⟩,hd ys H2 a⟩
end
section
variable {k':Nat} {x:Str} {C:Addr} {ps:List Str} {sp:Sp} {E:XK} {p:Pos} {k:Nat}
theorem KCal.ev0 (G:KCal X.prog X.w X.K X.mg X.base k x C ps sp) (hr:Room k' X.A) (hk:k+1<=k') (hg:Gl X x) (hx:JbT (CX1 X.prog X.w) X E) (hdb:(x == ("__debug__" : Str))=false:=by decide) :
  PE X (.Call (.Name x p) [] [] pos) (tMake C sp [] E tNil):=by
 obtain ⟨f,c,F,b,M,a⟩:=G.ex;exact Jjl M F (hr.mono hk) hg b a .nil hx hdb
end
def wtB:D->Bool
 | .int i=>decide (1<=i)
 | _=>false
def partB:D->Bool
 | .tup [n,s,e,z,m,w]=>nameB n&&JjN s e&&(fracB z&&fracB m&&Jme w)&&(!lessD m (.tup [.int 0, .int 1])&&wtB w)
 | _=>false
def gapB:D->Bool
 | .tup [n,s,e,l,g]=>tieB (.tup [n,s,e,l,g])&&!nonD l&&!nonD g
 | _=>false
structure POk (p:PD):Prop where
 n1:nameS p.nm=true
 n2:nameS p.st=true
 n3:nameS p.en=true
 ne:p.st≠p.en
 z:FOk 200 p.sz
 m:FOk 200 p.mo
 m0:0<=p.mo.1
 w:1<=p.wt
 ws:Mth.Sz 200 p.wt
structure GD where
 nm:Str
 st:Str
 en:Str
 lo:Int × Int
 hi:Int × Int
def GD.td (g:GD):TD:=⟨g.nm,g.st,g.en,some g.lo,some g.hi⟩
def pdD (p:PD):D:=.tup [.str p.nm, .str p.st, .str p.en,frD p.sz,frD p.mo, .int p.wt]
def PDV (K:W.Frag) (H:Hp) (p:PD) (x:V):Prop:=∃ b vz vm,x=.ref b/\SqT K H b [.str p.nm, .str p.st, .str p.en,vz,vm, .int p.wt]/\FrV K H vz p.sz.1 p.sz.2/\FrV K H vm p.mo.1 p.mo.2
section
variable {K:W.Frag} {p:PD} {x:V}
theorem PDV.sameT (S:SameT H H'):PDV K H p x->PDV K H' p x:=by rintro ⟨b,a,c,e,q,d,f⟩;exact ⟨b,a,c,e,q.sameT S,d.sameT S,f.sameT S⟩
theorem PDV.rep:PDV K H p x->Rep K H (pdD p) x:=fun ⟨b,d,f,e,q,a,c⟩=>by
 simp only [pdD,Rep,RepL];exact ⟨b,_,e,q,_,_,rfl,rfl,_,_,rfl,rfl,_,_,rfl,rfl,_,_,rfl,FrV.rep a,_,_,rfl,FrV.rep c,_,_,rfl,rfl,rfl⟩
end
def LeV (H:Hp) (e:Str × Pr) (x:V):Prop:=∃ b c,x=.ref b/\H b=some (.tup [.str e.1, .ref c])/\H c=some (.tup [.str e.2.1, .bl e.2.2])
variable {e:Str × Pr}
theorem LeV.sameT {x:V} (S:SameT H H'):LeV H e x->LeV H' e x:=by rintro ⟨b,c,a,d,f⟩;exact ⟨b,c,a,S _ _ rfl d,S _ _ rfl f⟩
structure JD (H0 H:Hp) (L:Str->List (Str × Pr)) (kvs:List (Key × V)):Prop where
 at_:∀ (f:Str),(valV kvs (Sum.inr f)=none/\L f=[])\/∃ l xs,valV kvs (Sum.inr f)=some (.ref l)/\H0 l=none/\H l=some (.lst xs)/\All2 (LeV H) (L f) xs
 inj:∀ (f g:Str) (l:Addr),valV kvs (Sum.inr f)=some (.ref l)->valV kvs (Sum.inr g)=some (.ref l)->f=g
variable {H0:Hp} {L:Str->List (Str × Pr)}
theorem JD.same (S:Same H H') (h:JD H0 H L kvs):JD H0 H' L kvs where
 at_:=fun f=>by
  rcases h.at_ f with h | ⟨l,xs,h1,h2,h3,h4⟩
  ·exact .inl h
  ·exact .inr ⟨l,xs,h1,h2,S _ _ h3,h4.mono fun _ _ z=>z.sameT S.t⟩
 inj:=h.inj
theorem JD.sx {kv2:List (Key × V)} (S:∀ b u,b≠d->H b=some u->H' b=some u) (hd:H d=some (.dK kv2)) (h:JD H0 H L kvs):JD H0 H' L kvs where
 at_:=fun f=>by
  have T:SameT H H':=fun b u t q=>S b u (fun z=>by rw [z,hd] at q;cases q;simp [isTF] at t) q;rcases h.at_ f with h | ⟨l,xs,h1,h2,h3,h4⟩
  ·exact .inl h
  ·exact .inr ⟨l,xs,h1,h2,S _ _ (fun z=>by rw [z,hd] at h3;cases h3) h3,h4.mono fun _ _ z=>z.sameT T⟩
 inj:=h.inj
variable {o:HO}
theorem JD.sy {x:Addr} (S:∀ b u,b≠x->H b=some u->H' b=some u) (hx:H x=some o) (hn:∀ xs,o≠.lst xs) (ht:isTF o=false) (h:JD H0 H L kvs):JD H0 H' L kvs where
 at_:=fun f=>by
  have T:SameT H H':=fun b u t q=>S b u (fun z=>by rw [z,hx] at q;cases q;rw [ht] at t;cases t) q;rcases h.at_ f with h | ⟨l,xs,h1,h2,h3,h4⟩
  ·exact .inl h
  ·exact .inr ⟨l,xs,h1,h2,S _ _ (fun z=>by rw [z,hx] at h3;exact hn _ (Option.some.inj h3)) h3,h4.mono fun _ _ z=>z.sameT T⟩
 inj:=h.inj
theorem JD.nil:JD H0 H (fun _=>[]) []:=⟨fun f=>.inl ⟨rfl,rfl⟩,fun f g l h=>by simp [valV] at h⟩
def addL (L:Str->List (Str × Pr)) (f:Str) (e:Str × Pr):Str->List (Str × Pr):=fun g=>if g=f then L g++[e] else L g
variable {l b:Addr}
theorem JD.more {f:Str} (h:JD H0 H L kvs) (hv:valV kvs (Sum.inr f)=some (.ref l)) (hl:H l=some (.lst xs)) (hb:LeV H e (.ref b)) (e':upd H l (.lst (xs++[.ref b]))=H'):JD H0 H' (addL L f e) kvs where
 at_:=fun g=>by
  have T:SameT H H':=SameT.put e' hl rfl;have a:H' l=some (.lst (xs++[.ref b])):=by rw [<- e',Jaj]
  by_cases c:g=f
  ·subst c;rcases h.at_ g with ⟨h1,_⟩ | ⟨l2,xs2,h1,h2,h3,h4⟩
   ·rw [hv] at h1;cases h1
   ·rw [hv] at h1;cases h1;rw [hl] at h3;cases h3;refine .inr ⟨l,_,hv,h2,a,?_⟩;unfold addL;rw [if_pos rfl];exact (h4.mono fun _ _ z=>z.sameT T).append (.one (hb.sameT T))
  ·unfold addL;rw [if_neg c];rcases h.at_ g with h1 | ⟨l2,xs2,h1,h2,h3,h4⟩
   ·exact .inl h1
   ·have d:l2≠l:=fun z=>c (h.inj g f l (by rw [h1,z]) hv);exact .inr ⟨l2,xs2,h1,h2,by rw [<- e',Jag d];exact h3,h4.mono fun _ _ z=>z.sameT T⟩
 inj:=h.inj
theorem JD.first {f:Str} (h:JD H0 H L kvs) (hv:valV kvs (Sum.inr f)=none) (h0:H0 l=none) (hn:∀ g l',valV kvs (Sum.inr g)=some (.ref l')->l'≠l) (hl:H l=some (.lst [])) (hb:LeV H e (.ref b)) (e':upd H l (.lst [.ref b])=H'):JD H0 H' (addL L f e) (putK kvs (Sum.inr f) (.ref l)) where
 at_:=fun g=>by
  have T:SameT H H':=SameT.put e' hl rfl;have m:H' l=some (.lst [.ref b]):=by rw [<- e',Jaj]
  rw [Jg1];by_cases c:g=f
  ·subst c;rw [if_pos rfl];refine .inr ⟨l,_,rfl,h0,m,?_⟩;unfold addL;rw [if_pos rfl];rcases h.at_ g with ⟨_,d⟩ | ⟨l2,xs2,a,_⟩
   ·rw [d];exact .one (hb.sameT T)
   ·rw [hv] at a;cases a
  ·have o:(Sum.inr g:Key)≠Sum.inr f:=fun z=>c (by injection z);rw [if_neg o];unfold addL;rw [if_neg c];rcases h.at_ g with a | ⟨l2,xs2,a,d,h3,h4⟩
   ·exact .inl a
   ·exact .inr ⟨l2,xs2,a,d,by rw [<- e',Jag (hn g l2 a)];exact h3,h4.mono fun _ _ z=>z.sameT T⟩
 inj:=fun n j l' a d=>by
  rw [Jg1] at a d;by_cases k:(Sum.inr n:Key)=Sum.inr f
  ·by_cases i:(Sum.inr j:Key)=Sum.inr f
   ·have:=k.trans i.symm;injection this
   ·rw [if_pos k] at a;rw [if_neg i] at d;cases a;exact absurd rfl (hn j l d)
  ·by_cases i:(Sum.inr j:Key)=Sum.inr f
   ·rw [if_neg k] at a;rw [if_pos i] at d;cases d;exact absurd rfl (hn n l a)
   ·rw [if_neg k] at a;rw [if_neg i] at d;exact h.inj n j l' a d
variable {p:PD}
theorem Jc0 (h:p.st≠p.en):addL (addL (Jaz ls) p.st (p.en,(p.nm,true))) p.en (p.st,(p.nm,false))=Jaz (ls++[p]):=by
 funext g
 rw [JdT];unfold addL JdA;by_cases a:g=p.en
 ·subst a;have e:p.en≠p.st:=fun z=>h z.symm;simp [h,e]
 ·have c:p.en≠g:=fun z=>a z.symm;by_cases b:g=p.st
  ·subst b;simp [a]
  ·have d:p.st≠g:=fun z=>b z.symm;simp [a,b,c,d]
theorem JeR (ls:List PD) (f:Str):(Jaz ls f).length<=ls.length:=by
 unfold Jaz;induction ls with
 | nil=>simp
 | cons p ls ih=>
  rw [List.flatMap_cons,length_append,length_cons];have : (JdA p f).length<=1:=by
   unfold JdA;split
   ·simp
   ·split <;> simp
  ac_nf
def PWy (H H':Hp) (wl:Addr) (a:Str × List Pr) (v:V):Prop:=∃ l xs,v=.ref l/\H l=none/\l≠wl/\H' l=some (.lst xs)/\All2 (CV H') a.2 xs
structure Srch (H:Hp) (ls:List PD) (one:Str) (fd wl:Addr) (H':Hp) (ws:List (Str × List Pr)) (wt:List Str):Prop where
 same:Same H H'
 dict:∃ kvs,H' fd=some (.dK kvs)/\BG (·.1) (PWy H H' wl) ws kvs
 nd:(ws.map (·.1)).Nodup
 here:one∈ws.map (·.1)
 walk:∀ a∈ws,JaV ls one a.2 a.1
 wait:H' wl=some (.lst (wt.map V.str))
 sub:∀ f∈wt,f∈ws.map (·.1)
 lw:∀ a∈ws,a.2.length<=ws.length
 sim:∀ a∈ws,(a.2.map (·.1)).Nodup/\∀ p∈ls,p.nm∈a.2.map (·.1)->p.st∈ws.map (·.1)/\p.en∈ws.map (·.1)
section
variable {H'':Hp} {fd wl:Addr} {ws:List (Str × List Pr)} {wt:List Str} {one:Str}
theorem Srch.len (h:Srch H ls one fd wl H' ws wt) (hl:ls.length<=20):ws.length<=41:=by
 have:=sub_len (ws.map (·.1)) (one::fcsOf ls) h.nd fun z b=>by
  obtain ⟨a,c,rfl⟩:=mem_map.mp b;exact Jg3 (h.walk a c)
 rw [length_map,length_cons,Jkr] at this;ac_nf
theorem Srch.grow (h:Srch H ls one fd wl H' ws wt) (S:Same H' H''):Srch H ls one fd wl H'' ws wt:=by
 obtain ⟨b,f,k⟩:=h.dict;exact ⟨h.same.trans S,⟨b,S _ _ f,k.mono fun a v ζ=>by obtain ⟨l,d,e,j,g,c,i⟩:=ζ;exact ⟨l,d,e,j,g,S _ _ c,i.mono fun _ _ z=>z.sameT S.t⟩⟩,h.nd,h.here,h.walk,S _ _ h.wait,h.sub,h.lw,h.sim⟩
theorem Srch.wait' {wt':List Str} (h:Srch H ls one fd wl H' ws wt) (hw:H wl=none) (e:upd H' wl (.lst (wt'.map V.str))=H'') (hs:∀ f∈wt',f∈ws.map (·.1)):Srch H ls one fd wl H'' ws wt':=by
 obtain ⟨d,i,o⟩:=h.dict;have T:SameT H' H'':=SameT.put e h.wait rfl;have g:fd≠wl:=fun z=>by have:=h.wait;rw [<- z,i] at this;cases this
 refine ⟨fun b u q=>by rw [<- e,Jag (Jah q hw)];exact h.same _ _ q,⟨d,by rw [<- e,Jag g];exact i,o.mono fun a v ⟨l,k,p,n,c,j,m⟩=>⟨l,k,p,n,c,by rw [<- e,Jag c];exact j,m.mono fun _ _ z=>z.sameT T⟩⟩,h.nd,h.here,h.walk,by rw [<- e,Jaj],hs,h.lw,h.sim⟩
theorem Srch.find {g:Str} {w:List Pr} (h:Srch H ls one fd wl H' ws wt) (hk:H' fd=some (.dK kvs)) (hb:BG (·.1) (PWy H H' wl) ws kvs) (hf:H fd=none) (hg:g∉ws.map (·.1)) (hwk:JaV ls one w g) (hlw:w.length<=ws.length+1) (hsm:(w.map (·.1)).Nodup/\∀ p∈ls,p.nm∈w.map (·.1)->p.st∈(ws++[(g,w)]).map (·.1)/\p.en∈(ws++[(g,w)]).map (·.1)) (hl:H l=none) (hne:l≠wl) (hx:H' l=some (.lst xs)) (ha:All2 (CV H') w xs)
  (e:upd H' fd (.dK (putK kvs (Sum.inr g) (.ref l)))=H''):Srch H ls one fd wl H'' (ws++[(g,w)]) wt:=by
 have T:SameT H' H'':=SameT.put e hk rfl;have m:wl≠fd:=fun z=>by have:=h.wait;rw [z,hk] at this;cases this
 have c:∀ {b:Addr} {ys:List V},H' b=some (.lst ys)->H'' b=some (.lst ys):=fun q=>by rw [<- e,Jag (fun z=>by rw [z,hk] at q;cases q)];exact q
 refine ⟨fun b u q=>by rw [<- e,Jag (Jah q hf)];exact h.same _ _ q,⟨_,by rw [<- e,Jaj],?_⟩,?_,?_,?_,c h.wait,?_,?_,?_⟩
 ·have:=hb.mono (P':=PWy H H'' wl) fun a v ⟨l,xs,k,d,hne,hx,ha⟩=>⟨l,xs,k,d,hne,c hx,ha.mono fun _ _ z=>z.sameT T⟩;exact this.new (a:=(g,w)) hg ⟨l,xs,rfl,hl,hne,c hx,ha.mono fun _ _ z=>z.sameT T⟩
 ·rw [map_append,nodup_append];refine ⟨h.nd,by simp,fun a ha b hb z=>hg ?_⟩;rw [map_cons,map_nil,mem_singleton] at hb;have hb:b=g:=hb;rw [<- hb, <- z];exact ha
 ·rw [map_append];exact mem_append.mpr (.inl h.here)
 ·intro a ha;rcases mem_append.mp ha with ha | ha
  ·exact h.walk a ha
  ·rw [mem_singleton.mp ha];exact hwk
 ·intro f i;rw [map_append];exact mem_append.mpr (.inl (h.sub f i))
 ·intro a ha;rw [length_append,length_singleton];rcases mem_append.mp ha with ha | ha
  ·have:=h.lw a ha;ac_nf
  ·rw [mem_singleton.mp ha];exact hlw
 ·intro a ha;rcases mem_append.mp ha with ha | ha
  ·refine ⟨(h.sim a ha).1,fun p j d=>?_⟩;have:=(h.sim a ha).2 p j d;rw [map_append];exact ⟨mem_append.mpr (.inl this.1),mem_append.mpr (.inl this.2)⟩
  ·rw [mem_singleton.mp ha];exact hsm
end
inductive PR
 | ok (ls:List PD)
 | noPart
 | twice
 | ring
open Classical in
noncomputable def partsW:List PD->List (PD ⊕ D)->PR
 | acc,[]=>.ok acc
 | _, .inr _::_=>.noPart
 | acc, .inl p::r=>if p.nm∈acc.map (·.nm) then .twice else if Conn acc p.st p.en then .ring else partsW (acc++[p]) r
theorem JfQ {acc:List PD} {r:List (PD ⊕ D)} (h:p.nm∉acc.map (·.nm)) (hc:¬ Conn acc p.st p.en):partsW acc (.inl p::r)=partsW (acc++[p]) r:=by
 rw [partsW,if_neg h,if_neg hc]
def WOV (H:Hp) (ls:List PD) (g:GD) (v:V):Prop:=∃ l xs w,v=.ref l/\H l=some (.lst xs)/\All2 (CV H) w xs/\JaV ls g.st w g.en/\(w.map (·.1)).Nodup
theorem WOV.same {g:GD} (S:Same H H'):WOV H ls g v->WOV H' ls g v:=by rintro ⟨l,a,w,c,d,e,b⟩;exact ⟨l,a,w,c,S _ _ d,e.mono fun _ _ z=>z.sameT S.t,b⟩
variable {es:List Expr}
theorem Jij {K:W.Frag} {k:Nat} {t:TGs} (hK:X.K=K) (hc:X.calm=true) (h:PGs X es t) (hn:(assignEach es X.env).length=n:=by rfl) (hst:(assignEach es X.env).findIdx? (·.1)=none:=by rfl):PG X (.Tuple es k pos) (gTup K n t):=by
 subst hK;exact JeE hc h hn hst
abbrev Fr2:=Int × Int
section
variable {cs:List (Nat × Str)} {te:TE} {ta:TA} {σ:St} {a:Addr} {zs:List V} {K:W.Frag} {k:Nat} {g:TG}
end
section
variable {K:W.Frag}
end
section
variable {prog:Program} {A:Around} {E:Value->Shared->Prop} {w:World} {s:Shared}
end
section
variable {prog:Program} {A:Around} {E:Value->Shared->Prop} {w:World} {s:Shared}
end
variable {elts:List Expr} {x1:Nat} {tp:Pos}
section
variable {cs:List (Nat × Str)} {te:TE} {ta:TA} {σ:St} {a:Addr} {K:W.Frag} {k:Nat} {g:TG}
end
def Itq (lo c:Int) (n:Nat):It:=⟨fun i _=>i<n,fun i H x H'=>H'=H/\x=.int (lo+i*c),fun i _=>n<=i⟩
theorem JgB {w:World} {K:W.Frag} (it:Addr) (lo c:Int) (n:Nat):Turn P w K tg (Itq lo c n) [it] it (fun i h=>IsRangeIter h it (lo+(i:Nat)*c) ((n:Int)-(i:Nat)) c) where
 mem:=by simp
 obj:=fun i h a b f=>by
  have e:b=it:=by simpa using f
  subst e;exact ⟨_,a,fun v z=>by
   have L:Data.fields _=Data.cell v:=z;cases L⟩
 keep:=fun i h l a k=>k it (by simp) _ a
 item:=by
  intro X r p q A i d s σ H E I j a u;subst r p q;obtain ⟨C,m,G,y,x,B⟩:=j it (by simp);have W:=Walks.range (prog:=X.prog) (w:=X.w) (I.ok.hd A) it lo c n;refine W.item i s _ _ u a fun v l D M g F=>?_;obtain ⟨t,rfl⟩:=M;have I1:Inv X d σ H { s with heap:=l,toks:=D }:=I.turned (fun b o f e=>F b o (by simpa using f) e) C m y x B;exact ⟨_,rfl,go_of (s:={ s with heap:=l,toks:=D }) (n:="range_iterator") g rfl rfl ⋯ ⟨.int (lo+i*c),H,I1,⟨t,rfl⟩,⟨rfl,rfl⟩,g,fun b f=>(j b f).1⟩⟩
 done:=by
  intro X r p q A i d s σ H E I j a u;subst r p q;obtain ⟨C,m,G,y,x,B⟩:=j it (by simp);exact wpAny_pyNext_range_end (I.ok.hd A) a (by have : n<=i:=u;ac_nf) fun l J=>⟨rfl,I.turned (t':=s.toks) (fun b o f e=>J b o f e) C m y x B⟩
 self:=fun _ _ _ _ _ a h=>wpAny_pyIter_rangeiter a h
def rsz (lo hi c:Int):Nat:=(if lo<hi then (hi-lo-1)/c+1 else 0).toNat
variable {hi c:Int}
theorem JeF {lo:Int} (hc:1<=c):((rsz lo hi c:Nat):Int)=Builtin.Range.rangeSize lo hi c:=by
 unfold rsz Builtin.Range.rangeSize;rw [if_pos (show c > 0 by ac_nf)];split
 ·have:=Int.ediv_nonneg (a:=hi-lo-1) (b:=c) ∅ ∅;ac_nf
 ·rfl
theorem Jgw {lo:Int} (h1:0<=lo) (h2:lo<2 ^ 40) (h3:0<=hi) (h4:hi<2 ^ 40) (h5:1<=c) (h6:c<2 ^ 30):Builtin.Range.small lo hi c=true:=by
 unfold Builtin.Range.small;have e:0<=Builtin.Range.rangeSize lo hi c/\Builtin.Range.rangeSize lo hi c<2 ^ 41:=by
  rw [<- JeF h5];refine ⟨by ac_nf,?_⟩;unfold rsz;split
  ·have d:=Int.ediv_nonneg (a:=hi-lo-1) (b:=c) ∅ ∅;have f:=Int.ediv_le_self c (show 0<=hi-lo-1 by ac_nf);ac_nf
  ·simp
 generalize Builtin.Range.rangeSize lo hi c=z at e ⊢;simp only [Builtin.Range.rangeFitsLong,Bool.and_eq_true,Bool.or_eq_true,decide_eq_true_eq,beq_iff_eq];rw [if_pos ∅];simp only [Bool.and_eq_true,decide_eq_true_eq];ac_nf
variable {pins:List (Addr × Obj)} {σ:St}
theorem Jl2 {s:Shared} {R:It->Hp->Prop} {h:Heap} {lo:Int} {t':Nat} (I:Inv X pins σ H { s with heap:=h,toks:=t' }) (q:R (Itq lo c n) H) :
  PIE X pins σ tg R (.ref h.objs.size) { s with heap:=h.push { cls:=.type "range_iterator",data:=.fields #[rawInt lo,rawInt (n:Int),rawInt c] },toks:=t' }:=by
 refine ⟨h.objs.size,[h.objs.size],_,_,H,rfl,I.kept (t':=t') fun b o e=>Heap.get?_push_of_some _ e,JgB _ lo c n,?_,fun b a=>?_,q⟩
 ·have f:lo+((0:Nat):Int)*c=lo:=by simp
  have d:(n:Int)-((0:Nat):Int)=n:=by simp
  show IsRangeIter _ _ (lo+((0:Nat):Int)*c) ((n:Int)-((0:Nat):Int)) c;rw [f,d];exact Heap.get?_push_size _ rfl
 ·have e:b=h.objs.size:=by simpa using a
  subst e;exact I.fpOk (Nat.le_refl _) (I.hok.fresh (Nat.le_refl _))
def iRng3 (ta:TA):TI:=fun σ H R=>ta σ H fun vs H1=>∃ i j c:Int,vs=[.int i, .int j, .int c]/\(0<=i/\i<2 ^ 40/\0<=j/\j<2 ^ 40/\1<=c/\c<2 ^ 30)/\R (Itq i c (rsz i j c)) H1
variable {ta:TA}
theorem Jil {a b d:Expr} {p:Pos} (hg:Gl X "range") (hm:X.mg "range"=none) (ha:PA X [a,b,d] ta)
  (hs:starEach [a,b,d] X.env=[(false,eval a X.env),(false,eval b X.env),(false,eval d X.env)]:=by rfl) (hs2:starEach [b,d] X.env=[(false,eval b X.env),(false,eval d X.env)]:=by rfl):PI X tg (.Call (.Name "range" p) [a,b,d] [] pos) (iRng3 ta):=by
 intro f s σ H R I h;refine wpAny_Call_Name_kw (JeA I hg hm JiY ?_);refine PyProof.Rows.callWith_type1 (thn (ha pos f s σ H _ I h) fun A u ζ=>?_) (by rw [hs,hs2]) (by rw [hs2];rfl);obtain ⟨y,z,I1,v,g⟩:=ζ;obtain ⟨i,j,c,e,⟨g,w,x,m,k,n⟩,q⟩:=g;subst e;cases v with
 | cons r rr=>
  cases rr with
  | cons r' rr=>
   cases rr with
   | cons r'' rr=>
    cases rr;obtain ⟨t,rfl⟩:=r;obtain ⟨t',rfl⟩:=r';obtain ⟨l,rfl⟩:=r'';refine call_range_3 ∅ ?_ (Or.inl (PyProof.noPylong_small ∅));refine wpAny_pyIter_range (IsRange.new ..) (Jgw g w x m k n) ?_;rw [<- JeF k];exact Jl2 (I1.kept (t':=u.toks) fun b o e=>Heap.get?_push_of_some _ e) q
section
variable {tb:TS} {g:TG} {D:Ends}
def ForQ (lo c:Int) (n:Nat) (g:TG) (tb:TS) (D:Ends) (σ : St) (H:Hp):Prop:=∃ W:Nat->Nat->St->Hp->Prop,(∃ m,W 0 m σ H)/\∀ i m σ H,W i m σ H ->
 ((Itq lo c n).stop i H/\D.nx σ H)\/((Itq lo c n).go i H/\∃ N:St->Hp->Prop,(∀ σ' H',N σ' H'->∃ m',m'<m/\W (i+1) m' σ' H')/\∀ x H',(Itq lo c n).yld i H x H'->g x σ H' fun σ2 H2=>tb { D with nx:=N,ct:=N,bk:=D.nx } σ2 H2)
theorem y55y:tFor (iRng3 ta) g tb D σ H=ta σ H fun vs H1=>∃ i j c:Int,vs=[.int i, .int j, .int c]/\(0<=i/\i<2 ^ 40/\0<=j/\j<2 ^ 40/\1<=c/\c<2 ^ 30)/\ForQ i c (rsz i j c) g tb D σ H1:=rfl
theorem ForQ.by {lo:Int} (Pv:Nat->St->Hp->Prop) (h0:Pv 0 σ H)
  (hs:∀ i σ H,i<n->Pv i σ H->g (.int (lo+i*c)) σ H fun σ2 H2=>tb { D with nx:=Pv (i+1),ct:=Pv (i+1),bk:=D.nx } σ2 H2) (hd:∀ σ H,Pv n σ H->D.nx σ H):ForQ lo c n g tb D σ H:=by
 refine ⟨fun i m σ H=>m=n-i/\i<=n/\Pv i σ H,⟨n,by simp,Nat.zero_le _,h0⟩,?_⟩;rintro i m σ H ⟨rfl,f,p⟩;by_cases a:i<n
 ·refine .inr ⟨a,Pv (i+1),fun σ' b d=>⟨n-(i+1),by ac_nf,rfl,a,d⟩,fun x b y=>?_⟩;obtain ⟨e,y⟩:=y;subst e y;exact hs i σ _ a p
 ·have e:i=n:=by ac_nf
  subst e;exact .inl ⟨Nat.le_refl _,hd σ H p⟩
end
theorem y5fy {c:TT} {ta tb:TE}:tIf c ta tb σ H Q=c σ H fun b H1=>if b=true then ta σ H1 Q else tb σ H1 Q:=rfl
def rLenD (xs:List V) (H:Hp) (Q:VK):Prop:=∃ d kvs,xs=[.ref d]/\H d=some (.dK kvs)/\Q (.int (kvs.length:Int)) H
theorem Jfv:CallR X (.builtin "len") rLenD:=by
 intro c s σ H n o Q I r h;obtain ⟨d,a,rfl,e,q⟩:=h;obtain ⟨u,rfl,j⟩:=vals1 r;cases j;obtain ⟨l,i,f,b,k⟩:=dk_of I.hok e;have m:=JeB;have g:f.length=a.length:=b.length.symm;exact call_len_dict i k ∅ ⟨.int (a.length:Int),H,I.tok _,⟨s.toks+1,by rw [g]⟩,q⟩
def vl (a:Int × Int):Rat:=(a.1:Rat)/(a.2:Rat)
theorem JaG {a:Int} (h:1<=a):(a:Rat)≠0:=fun z=>by
 have : a=0:=by exact_mod_cast z
 ac_nf
variable {a c:Int × Int}
theorem vl_eq (ha:1<=a.2) (hc:1<=c.2):vl a=vl c↔a.1*c.2=c.1*a.2:=by
 unfold vl;have b:=JaG ha;have d:=JaG hc;have e:((a.1*c.2=c.1*a.2)↔((a.1:Rat)*(c.2:Rat)=(c.1:Rat)*(a.2:Rat))):=by
  constructor
  ·intro h;exact_mod_cast h
  ·intro h;exact_mod_cast h
 rw [e];generalize (a.1:Rat)=x at *;generalize (a.2:Rat)=y at *;generalize (c.1:Rat)=z at *;generalize (c.2:Rat)=u at *;constructor
 ·intro h;grind
 ·intro h;grind
theorem Jkb (ha:1<=a.2) (hc:1<=c.2) (h1:Mth.g a.1 a.2=1) (h2:Mth.g c.1 c.2=1) (h:vl a=vl c):a=c:=by
 have:=Mth.Jdm ha hc h1 h2 ((vl_eq ha hc).mp h);exact Prod.ext this.1 this.2
theorem Jj9 (ha:1<=a.2) (hc:1<=c.2):vl (addF a c)=vl a+vl c:=by
 have d:a.2*c.2≠0:=Int.mul_ne_zero ∅ ∅;have f:=Mth.cross (t:=a.1*c.2+c.1*a.2) d;have g:=Mth.JcP (t:=a.1*c.2+c.1*a.2) d;unfold vl addF;dsimp only;generalize Mth.top (a.1*c.2+c.1*a.2) (a.2*c.2)=t at *;generalize Mth.bot (a.1*c.2+c.1*a.2) (a.2*c.2)=b at *;have h:=JaG ha;have i:=JaG hc;have j:=JaG g;have e:(t:Rat)*((a.2:Rat)*(c.2:Rat))=((a.1:Rat)*(c.2:Rat)+(c.1:Rat)*(a.2:Rat))*(b:Rat):=by exact_mod_cast f
 generalize (a.1:Rat)=x at *;generalize (a.2:Rat)=y at *;generalize (c.1:Rat)=z at *;generalize (c.2:Rat)=u at *;generalize (t:Rat)=t at *;generalize (b:Rat)=b at *;grind
theorem JcG (a:Int × Int):vl (negF a) = - vl a:=by
 unfold vl negF;rw [Rat.intCast_neg];grind
theorem Jek (ha:1<=a.2) (hc:1<=c.2):lessF a c=true↔vl a<vl c:=by
 unfold lessF vl;rw [decide_eq_true_iff];have b:(0:Rat)<(a.2:Rat):=by exact_mod_cast (show 0<a.2 by ac_nf)
 have f:(0:Rat)<(c.2:Rat):=by exact_mod_cast (show 0<c.2 by ac_nf)
 have e:((a.1*c.2<c.1*a.2)↔((a.1:Rat)*(c.2:Rat)<(c.1:Rat)*(a.2:Rat))):=by
  constructor
  ·intro h;exact_mod_cast h
  ·intro h;exact_mod_cast h
 rw [e];rw [Rat.div_lt_iff b];generalize (a.1:Rat)=x at *;generalize (a.2:Rat)=y at *;generalize (c.1:Rat)=z at *;generalize (c.2:Rat)=u at *;have d:z/u*y=z*y/u:=by grind
 rw [d,Rat.lt_div_iff f]
variable {a b c:Str}
theorem JaV.trans {w w':List Pr} (h:JaV ls a w b) (h':JaV ls b w' c):JaV ls a (w++w') c:=by
 induction h' with
 | nil=>
  rw [append_nil];exact h
 | snoc _ hm ih=>
  rw [<- List.append_assoc];exact .snoc ih hm
theorem Conn.trans:Conn ls a b->Conn ls b c->Conn ls a c:=fun ⟨w,h⟩ ⟨e,d⟩=>⟨w++e,h.trans d⟩
theorem Conn.refl:Conn ls a a:=⟨[], .nil⟩
theorem Conn.lead {f g:Str} (h:(g,pr)∈Jaz ls f):Conn ls f g:=⟨[]++[pr], .snoc .nil h⟩
theorem Conn.symm (hn:∀ p∈ls,p.st≠p.en) {a b:Str} (h:Conn ls a b):Conn ls b a:=by
 obtain ⟨w,h⟩:=h;induction h with
 | nil=>exact .refl
 | snoc _ hm ih=>
  obtain ⟨p,c,h | h⟩:=Ja2.mp hm
  ·exact Conn.trans (.lead (Ja2.mpr ⟨p,c, .inr ⟨fun z=>hn p c (z.trans h.2.1.symm),h.2.1,h.1,rfl⟩⟩)) ih
  ·exact Conn.trans (.lead (Ja2.mpr ⟨p,c, .inl ⟨h.2.2.1,h.2.1,rfl⟩⟩)) ih
theorem Conn.mono (h:Conn ls a b):Conn (ls++[p]) a b:=by
 obtain ⟨w,h⟩:=h;refine ⟨w,?_⟩;induction h with
 | nil=>exact .nil
 | snoc _ hm ih=>exact .snoc ih (by rw [JdT];exact mem_append.mpr (.inl hm))
theorem JhD (hp:p∈ls):Conn ls p.st p.en:=.lead (pr:=(p.nm,true)) (Ja2.mpr ⟨p,hp, .inl ⟨rfl,rfl,rfl⟩⟩)
theorem Ji0 (hn:∀ p∈ls,p.st≠p.en) {a b:Str} (h:Conn ls a b) (hne:a≠b):a∈fcsOf ls/\b∈fcsOf ls:=by
 have c:∀ {a b:Str},Conn ls a b->a≠b->b∈fcsOf ls:=fun {a b} h hne=>by
  obtain ⟨w,h⟩:=h;rcases mem_cons.mp (Jg3 h) with e | e
  ·exact absurd e.symm hne
  ·exact e
 exact ⟨c (h.symm hn) (Ne.symm hne),c h hne⟩
theorem Jd7:∀ (l1 acc:List PD),partsW acc (l1.map Sum.inl)=.ok (acc++l1)->p.nm∉(acc++l1).map (·.nm)->¬ Conn (acc++l1) p.st p.en->partsW acc ((l1++[p]).map Sum.inl)=.ok (acc++(l1++[p]))
 | [],acc,_,h2,h3=>by
  rw [append_nil] at h2 h3;rw [nil_append,map_cons,map_nil,JfQ h2 h3,partsW]
 | q::l1,acc,h1,h2,h3=>by
  have ea:acc++q::l1=(acc++[q])++l1:=by simp
  rw [ea] at h1 h2 h3;rw [cons_append,map_cons];rw [map_cons,partsW] at h1;split at h1
  ·cases h1
  ·rename_i c1;split at h1
   ·cases h1
   ·rename_i c2;rw [JfQ c1 c2,Jd7 l1 (acc++[q]) h1 h2 h3];simp
variable {L:List PD}
theorem Conn.sub {L':List PD} (hs:∀ p∈L,p∈L') {a b:Str} (h:Conn L a b):Conn L' a b:=by
 obtain ⟨w,h⟩:=h;refine ⟨w,?_⟩;induction h with
 | nil=>exact .nil
 | snoc _ hm ih=>
  obtain ⟨p,c,h⟩:=Ja2.mp hm;exact .snoc ih (Ja2.mpr ⟨p,hs p c,h⟩)
def Tree (ls:List PD):Prop:=∀ p∈ls, ¬ Conn (ls.filter fun x=>decide (x.nm≠p.nm)) p.st p.en
theorem Jh0 {x:Str} (h:e∈Jaz L x):x∈fcsOf L/\e.1∈fcsOf L:=by
 refine ⟨?_,JgP h⟩;obtain ⟨p,a,h⟩:=(Ja2 (g:=e.1) (pr:=e.2)).mp h;refine mem_flatMap.mpr ⟨p,a,?_⟩;rcases h with h | h
 ·rw [<- h.1];simp
 ·rw [<- h.2.1];simp
theorem Conn.retract {q:PD} {f s0:Str} (hq:(q.st=f/\q.en=s0)\/(q.st=s0/\q.en=f)) (hf:f∉fcsOf L) {a b:Str} (h:Conn (L++[q]) a b):Conn L (if a=f then s0 else a) (if b=f then s0 else b):=by
 obtain ⟨w,h⟩:=h;induction h with
 | nil=>exact .refl
 | snoc _ hm ih=>
  refine ih.trans ?_;rw [JdT] at hm;rcases mem_append.mp hm with h | h
  ·have e:=Jh0 h;have i:∀ x∈fcsOf L,x≠f:=fun x c z=>hf (z ▸ c);rw [if_neg (i _ e.1),if_neg (i _ e.2)];exact .lead h
  ·have d:∀ x,Jaz [q] x=JdA q x:=fun x=>by simp [Jaz]
   have g:=h;rw [<- d] at g;obtain ⟨p,j,k⟩:=Ja2.mp g;rw [mem_singleton] at j;subst j;have e:∀ x:Str,x=p.st\/x=p.en->(if x=f then s0 else x)=s0:=fun x c=>by
    split
    ·rfl
    ·rename_i n;rcases hq with ⟨h1,h2⟩ | ⟨h1,h2⟩ <;> rcases c with c | c
     ·exact absurd (c.trans h1) n
     ·exact c.trans h2
     ·exact c.trans h1
     ·exact absurd (c.trans h2) n
   rcases k with k | k
   ·rw [e _ (.inl k.1.symm),e _ (.inr k.2.1.symm)];exact .refl
   ·rw [e _ (.inr k.2.1.symm),e _ (.inl k.2.2.1.symm)];exact .refl
def sgn (b:Bool) (a:Int × Int):Int × Int:=if b then a else negF a
inductive Legs (ls:List PD) (pl:Str->Int × Int):Str->List Pr->Str->Prop
 | nil {a:Str}:Legs ls pl a [] a
 | cons {a g b:Str} {p:PD} {fw:Bool} {w:List Pr}:p∈ls->vl (pl g)=vl (pl a)+vl (sgn fw p.sz)->Legs ls pl g w b->Legs ls pl a ((p.nm,fw)::w) b
variable {pl:Str->Int × Int} {fw:Bool}
theorem Legs.snoc {f g:Str} {w:List Pr} (h:Legs ls pl a w f) (hp:p∈ls) (e:vl (pl g)=vl (pl f)+vl (sgn fw p.sz)):Legs ls pl a (w++[(p.nm,fw)]) g:=by
 induction h with
 | nil=>exact .cons hp e .nil
 | cons h1 h2 _ ih=>exact .cons h1 h2 (ih e)
theorem JkC (hpl:∀ p∈ls,vl (pl p.en)=vl (pl p.st)+vl p.sz) {a b:Str} {w:List Pr} (h:JaV ls a w b):Legs ls pl a w b:=by
 induction h with
 | nil=>exact .nil
 | snoc _ hm ih=>
  obtain ⟨p,c,h | h⟩:=Ja2.mp hm
  ·obtain ⟨d,e,rfl⟩:=h;refine ih.snoc c ?_;rw [<- d, <- e];exact hpl p c
  ·obtain ⟨_,d,e,rfl⟩:=h;refine ih.snoc c ?_;have:=hpl p c;rw [<- d, <- e,this];show _=_+vl (negF p.sz);rw [JcG];grind
def nmK (s st k:Nat):Str:=⟨(if s=102 then [102+k] else List.replicate st 120++([97+k]++List.replicate (2-st) 120)).toArray⟩
variable {st j:Nat}
theorem Jdn {s i:Nat} (h:nmK s st i=nmK s st j):i=j:=by
 unfold nmK at h;injection h with h
 have h:=congrArg Array.toList h;by_cases c:s=102
 ·simp [c] at h;exact h
 ·simp [c] at h;exact h
theorem Jc5 {s k:Nat} (hs:97<=s/\s<=122) (hst:st<=3) (hk:k<=20):nameS (nmK s st k)=true:=by
 unfold nameS nmK;by_cases c:s=102
 ·simp [Str.length,lowB,c];ac_nf
 ·simp [Str.length,lowB,c];ac_nf
variable {a:Int × Int}
theorem FB.mono {D:Nat} (h:FB A B a) (h1:A<=C) (h2:B<=D):FB C D a:=⟨h.s1.mono h1,h.s2.mono h2,h.b1,h.g1⟩
theorem Jfq:FB 1 1 (0,1):=⟨.lit ⋯ ⋯, .lit ⋯ ⋯,by decide,by decide⟩
structure SpD where
 f:Str
 r:Str
 p:Int × Int
structure Grn (st:Nat) (ls:List PD) (sp:List SpD):Prop where
 nm:∀ i p,ls[i]?=some p->p.nm=nmK 112 st i
 fc:∀ i s,sp[i]?=some s->s.f=nmK 102 st i
 ok:∀ p∈ls,POk p
 sub:∀ p∈ls,p.st∈sp.map (·.f)/\p.en∈sp.map (·.f)
 con:∀ s∈sp,Conn ls s.r s.f
 pl:∀ p∈ls, ∀ s∈sp, ∀ t∈sp,s.f=p.st->t.f=p.en->vl t.p=vl s.p+vl p.sz
 fb:∀ s∈sp,FB (134+21*ls.length) (20*ls.length+1) s.p
 good:partsW [] (ls.map Sum.inl)=.ok ls
 tr:Tree ls
variable {sp:List SpD}
theorem Grn.new (h:Grn st ls sp) {n:Nat} (hn:sp.length<=n):nmK 102 st n∉sp.map (·.f):=fun z=>by
 obtain ⟨s,c,e⟩:=mem_map.mp z;obtain ⟨i,b⟩:=List.getElem?_of_mem c;have d:=(List.getElem?_eq_some_iff.mp b).1;have a:s.f=nmK 102 st n:=e;rw [h.fc i s b] at a;have:=Jdn a;ac_nf
theorem Grn.nil:Grn st [] []:=⟨by simp,by simp,by simp,by simp,by simp,by simp,by simp,by rw [map_nil,partsW],fun p a=>by cases a⟩
theorem Grn.inj (h:Grn st ls sp) {s t:SpD} (hs:s∈sp) (ht:t∈sp) (e:s.f=t.f):s=t:=by
 obtain ⟨i,b⟩:=List.getElem?_of_mem hs;obtain ⟨j,a⟩:=List.getElem?_of_mem ht;rw [h.fc i s b,h.fc j t a] at e;have:=Jdn e;subst this;rw [b] at a;exact Option.some.inj a
theorem Jbb {l:List α} {a x : α} {i:Nat} (h:(l++[a])[i]?=some x):l[i]?=some x\/(i=l.length/\x=a):=by
 by_cases c:i<l.length
 ·rw [List.getElem?_append_left c] at h;exact .inl h
 ·have b:=(List.getElem?_eq_some_iff.mp h).1;rw [length_append,length_singleton] at b;have e:i=l.length:=by ac_nf
  subst e;rw [List.getElem?_append_right (Nat.le_refl _),Nat.sub_self] at h;cases h;exact .inr ⟨rfl,rfl⟩
theorem Grn.face (h:Grn st ls sp):Grn st ls (sp++[⟨nmK 102 st sp.length,nmK 102 st sp.length,(0,1)⟩]) where
 nm:=h.nm
 fc:=fun i s f=>by
  rcases Jbb f with f | ⟨rfl,rfl⟩
  ·exact h.fc i s f
  ·rfl
 ok:=h.ok
 sub:=fun p b=>by
  rw [map_append];exact ⟨mem_append.mpr (.inl (h.sub p b).1),mem_append.mpr (.inl (h.sub p b).2)⟩
 con:=fun s a=>by
  rcases mem_append.mp a with a | a
  ·exact h.con s a
  ·rw [mem_singleton.mp a];exact .refl
 pl:=fun p b s a t c e d=>by
  have g:=h.new (Nat.le_refl sp.length);rcases mem_append.mp a with a | a
  ·rcases mem_append.mp c with c | c
   ·exact h.pl p b s a t c e d
   ·rw [mem_singleton.mp c] at d;dsimp only at d;exact absurd (d ▸ (h.sub p b).2) g
  ·rw [mem_singleton.mp a] at e;dsimp only at e;exact absurd (e ▸ (h.sub p b).1) g
 fb:=fun s a=>by
  rcases mem_append.mp a with a | a
  ·exact h.fb s a
  ·rw [mem_singleton.mp a];exact Jfq.mono ∅ ∅
 good:=h.good
 tr:=h.tr
theorem Grn.part (h:Grn st ls sp) (hst:st<=3) {s0:SpD} (h0:s0∈sp) {p:PD} {d:Bool} (hnm:p.nm=nmK 112 st ls.length)
  (h1:p.st=if d then s0.f else nmK 102 st sp.length) (h2:p.en=if d then nmK 102 st sp.length else s0.f) (hz:FB 133 20 p.sz) (hok:POk p):Grn st (ls++[p]) (sp++[⟨nmK 102 st sp.length,s0.r,addF s0.p (sgn d p.sz)⟩]):=by
 have u:=h.new (Nat.le_refl sp.length);have D:s0.f∈sp.map (·.f):=mem_map.mpr ⟨s0,h0,rfl⟩;have v:nmK 102 st sp.length≠s0.f:=fun z=>u (z ▸ D);have J:∀ q∈ls,q.st≠q.en:=fun q a=>(h.ok q a).ne;have C:nmK 102 st sp.length∉fcsOf ls:=fun z=>by
  obtain ⟨q,a,B⟩:=mem_flatMap.mp z;simp at B;rcases B with e | e
  ·exact u (e ▸ (h.sub q a).1)
  ·exact u (e ▸ (h.sub q a).2)
 have K:¬ Conn ls p.st p.en:=fun z=>by
  have:=Ji0 J z hok.ne;cases d with
  | true=>
   rw [if_pos rfl] at h1 h2;exact C (h2 ▸ this.2)
  | false=>
   rw [if_neg ⋯] at h1 h2;exact C (h1 ▸ this.1)
 have R:p.nm∉ls.map (·.nm):=fun z=>by
  obtain ⟨q,a,e⟩:=mem_map.mp z;obtain ⟨i,o⟩:=List.getElem?_of_mem a;have T:=(List.getElem?_eq_some_iff.mp o).1;have k:q.nm=p.nm:=e;rw [h.nm i q o,hnm] at k;have:=Jdn k;ac_nf
 have w:=h.fb s0 h0;have A:FB 133 20 (sgn d p.sz):=by
  cases d with
  | true=>exact hz
  | false=>exact hz.neg
 have F:FB (134+21*(ls.length+1)) (20*(ls.length+1)+1) (addF s0.p (sgn d p.sz)):=by
  have:=FB.add (n:=154+21*ls.length) (m:=20*(ls.length+1)+1) w A ∅ ∅ ∅;have e:134+21*(ls.length+1)=154+21*ls.length+1:=by ac_nf
  rw [e];exact this
 have M:vl (addF s0.p (sgn d p.sz))=vl s0.p+vl (sgn d p.sz):=Jj9 w.b1 A.b1;refine ⟨fun i q o=>?_,fun i s o=>?_,fun q a=>?_,fun q a=>?_,fun s b=>?_,fun q a s b t j l k=>?_,fun s b=>?_,?_,fun q a z=>?_⟩
 ·rcases Jbb o with o | ⟨rfl,rfl⟩
  ·exact h.nm i q o
  ·exact hnm
 ·rcases Jbb o with o | ⟨rfl,rfl⟩
  ·exact h.fc i s o
  ·rfl
 ·rcases mem_append.mp a with a | a
  ·exact h.ok q a
  ·rw [mem_singleton.mp a];exact hok
 ·rw [map_append];rcases mem_append.mp a with a | a
  ·exact ⟨mem_append.mpr (.inl (h.sub q a).1),mem_append.mpr (.inl (h.sub q a).2)⟩
  ·rw [mem_singleton.mp a,h1,h2];have I:nmK 102 st sp.length∈[(⟨nmK 102 st sp.length,s0.r,addF s0.p (sgn d p.sz)⟩:SpD)].map (·.f):=by simp
   cases d with
   | true=>exact ⟨mem_append.mpr (.inl D),mem_append.mpr (.inr I)⟩
   | false=>exact ⟨mem_append.mpr (.inr I),mem_append.mpr (.inl D)⟩
 ·rcases mem_append.mp b with b | b
  ·exact (h.con s b).mono
  ·rw [mem_singleton.mp b];have Q:p∈ls++[p]:=by simp
   have H:∀ q∈ls++[p],q.st≠q.en:=fun q a=>by
    rcases mem_append.mp a with a | a
    ·exact J q a
    ·rw [mem_singleton.mp a];exact hok.ne
   have c:=JhD Q;cases d with
   | true=>
    rw [if_pos rfl] at h1 h2;rw [h1,h2] at c;exact ((h.con s0 h0).mono).trans c
   | false=>
    rw [if_neg ⋯] at h1 h2;rw [h1,h2] at c;exact ((h.con s0 h0).mono).trans (c.symm H)
 ·rcases mem_append.mp a with a | a
  ·rcases mem_append.mp b with b | b
   ·rcases mem_append.mp j with j | j
    ·exact h.pl q a s b t j l k
    ·rw [mem_singleton.mp j] at k;dsimp only at k;exact absurd (k ▸ (h.sub q a).2) u
   ·rw [mem_singleton.mp b] at l;dsimp only at l;exact absurd (l ▸ (h.sub q a).1) u
  ·have a:=mem_singleton.mp a;subst a;cases d with
   | true=>
    rw [if_pos rfl] at h1 h2;rw [h1] at l;rw [h2] at k;have E:s=s0:=by
     rcases mem_append.mp b with b | b
     ·exact h.inj b h0 l
     ·rw [mem_singleton.mp b] at l;dsimp only at l;exact absurd l v
    have G:t.p=addF s0.p (sgn true q.sz):=by
     rcases mem_append.mp j with j | j
     ·exact absurd (k ▸ mem_map.mpr ⟨t,j,rfl⟩) u
     ·rw [mem_singleton.mp j]
    rw [E,G,M];rfl
   | false=>
    rw [if_neg ⋯] at h1 h2;rw [h1] at l;rw [h2] at k;have G:t=s0:=by
     rcases mem_append.mp j with j | j
     ·exact h.inj j h0 k
     ·rw [mem_singleton.mp j] at k;dsimp only at k;exact absurd k v
    have E:s.p=addF s0.p (sgn false q.sz):=by
     rcases mem_append.mp b with b | b
     ·exact absurd (l ▸ mem_map.mpr ⟨s,b,rfl⟩) u
     ·rw [mem_singleton.mp b]
    have P:vl (sgn false q.sz) = - vl q.sz:=JcG q.sz;rw [G,E,M,P];grind
 ·rw [length_append,length_singleton];rcases mem_append.mp b with b | b
  ·have:=h.fb s b;exact this.mono ∅ ∅
  ·rw [mem_singleton.mp b];exact F
 ·have:=Jd7 (p:=p) ls [] (by rw [nil_append];exact h.good) (by rw [nil_append];exact R) (by rw [nil_append];exact K);rw [nil_append] at this;exact this
 ·rw [filter_append] at z;rcases mem_append.mp a with a | a
  ·have N:∀ x∈ls.filter (fun x=>decide (x.nm≠q.nm)),x∈ls:=fun x g=>(mem_filter.mp g).1;have O:nmK 102 st sp.length∉fcsOf (ls.filter fun x=>decide (x.nm≠q.nm)):=fun y=>C (by
    obtain ⟨x,g,B⟩:=mem_flatMap.mp y;exact mem_flatMap.mpr ⟨x,N x g,B⟩)
   have S:Conn (ls.filter (fun x=>decide (x.nm≠q.nm))++[p]) q.st q.en:=z.sub fun x g=>by
    rcases mem_append.mp g with g | g
    ·exact mem_append.mpr (.inl g)
    ·exact mem_append.mpr (.inr (mem_filter.mp g).1)
   have:=S.retract (s0:=s0.f) (f:=nmK 102 st sp.length) (by
    cases d with
    | true=>exact .inr ⟨h1,h2⟩
    | false=>exact .inl ⟨h1,h2⟩) O
   have L:∀ x∈sp.map (·.f),x≠nmK 102 st sp.length:=fun x g y=>u (y ▸ g);rw [if_neg (L _ (h.sub q a).1),if_neg (L _ (h.sub q a).2)] at this;exact h.tr q a this
  ·rw [mem_singleton.mp a] at z;exact K (z.sub fun x g=>by
    rcases mem_append.mp g with g | g
    ·exact (mem_filter.mp g).1
    ·have:=(mem_filter.mp g);have e:=mem_singleton.mp this.1;rw [e] at this;simp at this)
theorem Grn.joined (h:Grn st ls sp) {s t:SpD} (hs:s∈sp) (ht:t∈sp) (e:s.r=t.r):Conn ls s.f t.f:=by
 have a:∀ q∈ls,q.st≠q.en:=fun q b=>(h.ok q b).ne;exact ((h.con s hs).symm a).trans (e ▸ h.con t ht)
def spOf (sp:List SpD) (f:Str):Int × Int:=((sp.find? fun s=>decide (s.f=f)).map (·.p)).getD (0,1)
theorem Grn.pl_at (h:Grn st ls sp) {s:SpD} (hs:s∈sp):spOf sp s.f=s.p:=by
 unfold spOf;cases e:sp.find? fun t=>decide (t.f=s.f) with
 | none=>
  have:=List.find?_eq_none.mp e s hs;simp at this
 | some t=>
  have c:=List.mem_of_find?_eq_some e;have a:=List.find?_some e;have b:t.f=s.f:=by simpa using a
  rw [h.inj c hs b];rfl
theorem Grn.pls (h:Grn st ls sp):∀ p∈ls,vl (spOf sp p.en)=vl (spOf sp p.st)+vl p.sz:=fun p c=>by
 obtain ⟨s,d,b⟩:=mem_map.mp (h.sub p c).1;obtain ⟨t,e,a⟩:=mem_map.mp (h.sub p c).2;have b:s.f=p.st:=b;have a:t.f=p.en:=a;rw [<- b, <- a,h.pl_at d,h.pl_at e];exact h.pl p c s d t e b a
theorem Grn.plb (h:Grn st ls sp) (hl:ls.length<=8) (f:Str):FB 302 161 (spOf sp f):=by
 unfold spOf;cases e:sp.find? fun t=>decide (t.f=f) with
 | none=>exact Jfq.mono ∅ ∅
 | some t=>
  have:=h.fb t (List.mem_of_find?_eq_some e);exact this.mono ∅ ∅
theorem JiS {t b:Int} (hb:1<=b):vl (Mth.top t b,Mth.bot t b)=(t:Rat)/(b:Rat):=by
 have a:b≠0:=by ac_nf
 have c:=Mth.cross (t:=t) a;have d:=Mth.JcP (t:=t) a;unfold vl;dsimp only;generalize Mth.top t b=x at *;generalize Mth.bot t b=y at *;have f:=JaG hb;have g:=JaG d;have e:(x:Rat)*(b:Rat)=(t:Rat)*(y:Rat):=by exact_mod_cast c
 generalize (x:Rat)=x at *;generalize (y:Rat)=y at *;generalize (t:Rat)=t at *;generalize (b:Rat)=b at *;grind
theorem FOk.fb (h:FOk n a):FB n n a:=⟨h.s1,h.s2,h.b1,h.g1⟩
def mid (pl:Str->Int × Int) (g:GD):Int × Int:=addF (pl g.en) (negF (pl g.st))
def roomF (pl:Str->Int × Int) (g:GD):Int × Int:=if lessF (addF g.hi (negF (mid pl g))) (addF (mid pl g) (negF g.lo)) then addF g.hi (negF (mid pl g)) else addF (mid pl g) (negF g.lo)
section
variable {A' B' C' D':Nat} {x y z b:Int × Int} {D:Nat} {w m:Int × Int}
theorem FB.inj (h:FB A B x) (k:FB C D y) (e:vl x=vl y):x=y:=Jkb h.b1 k.b1 h.g1 k.g1 e
theorem FB.add' (h:FB A B x) (k:FB C D y):FB (A+D+(C+B)+1) (B+D) (addF x y):=FB.add h k ∅ ∅ (Nat.le_refl _)
theorem FB.vadd (h:FB A B x) (k:FB C D y):vl (addF x y)=vl x+vl y:=Jj9 h.b1 k.b1
theorem JkB (hx:FB A B x) (hy:FB A B y) (hz:FB C D z) (hw:FB A B w) (e:vl y=vl x+vl z):addF (addF x (negF w)) z=addF y (negF w):=by
 refine FB.inj ((hx.add' hw.neg).add' hz) (hy.add' hw.neg) ?_;rw [FB.vadd (hx.add' hw.neg) hz,hx.vadd hw.neg,hy.vadd hw.neg,e,JcG];grind
theorem Ji8 (hx:FB A B x):addF x (negF x)=(0,1):=by
 refine FB.inj (hx.add' hx.neg) Jfq ?_;rw [hx.vadd hx.neg,JcG];have : vl (0,1)=0:=by
  unfold vl;grind
 rw [this];grind
theorem Jkg (hm:FB A B m) (ha:FB C D a):addF (addF m a) (negF m)=a:=by
 refine FB.inj ((hm.add' ha).add' hm.neg) ha ?_;rw [FB.vadd (hm.add' ha) hm.neg,hm.vadd ha,JcG];grind
theorem Jkh (hm:FB A B m) (hb:FB C D b):addF m (negF (addF m (negF b)))=b:=by
 have a:=hm.add' hb.neg;refine FB.inj (hm.add' a.neg) hb ?_;rw [hm.vadd a.neg,JcG,hm.vadd hb.neg,JcG];grind
theorem JlM {g:GD} (h:∀ f,FB 302 161 (pl f)):FB 464 322 (mid pl g):=FB.add (h _) (h _).neg ⋯ ⋯ ⋯
end
section
variable {f : α->Str} {l:List α} {s:Nat}
theorem Jh5 (h:∀ i a,l[i]?=some a->f a=nmK s st i):(l.map f).Nodup:=by
 rw [List.Nodup,List.pairwise_iff_getElem];intro i j c b d e;rw [length_map] at c b;rw [List.getElem_map,List.getElem_map,h i _ (List.getElem?_eq_getElem c),h j _ (List.getElem?_eq_getElem b)] at e;have:=Jdn e;ac_nf
end
section
variable {x:V} {K:W.Frag}
end
theorem JcA {b:Addr} (S:Same H0 H) (h:H b=none):H0 b=none:=by
 cases e:H0 b with
 | none=>rfl
 | some o=>rw [S _ _ e] at h;cases h
theorem Jj7 {t b:Int} (ht:0<=t) (hb:1<=b):0<=Mth.top t b:=by
 have d:=Mth.Jej (t:=t) (b:=b) ∅;have c:=Mth.g_pos (a:=t) (b:=b) ∅;have e:Mth.by_ t b=Mth.g t b:=by unfold Mth.by_;rw [if_neg ∅]
 rw [e] at d;rcases Int.lt_or_le (Mth.top t b) 0 with z | z
 ·have:=Int.mul_neg_of_neg_of_pos z c;ac_nf
 ·exact z
inductive Path (ls:List PD):Str->List Pr->Str->Prop
 | nil {a:Str}:Path ls a [] a
 | cons {a g b:Str} {p:PD} {fw:Bool} {w:List Pr}:p∈ls->(a=if fw then p.st else p.en)->(g=if fw then p.en else p.st)->Path ls g w b->Path ls a ((p.nm,fw)::w) b
variable {a:Str}
theorem Path.snoc {f g:Str} {w:List Pr} (h:Path ls a w f) (hp:p∈ls) (e1:f=if fw then p.st else p.en) (e2:g=if fw then p.en else p.st):Path ls a (w++[(p.nm,fw)]) g:=by
 induction h with
 | nil=>exact .cons hp e1 e2 .nil
 | cons h1 h2 h3 _ ih=>exact .cons h1 h2 h3 (ih e1)
theorem Jif {w:List Pr} (h:JaV ls a w b):Path ls a w b:=by
 induction h with
 | nil=>exact .nil
 | snoc _ hm ih=>
  obtain ⟨p,e,h | h⟩:=Ja2.mp hm
  ·obtain ⟨c,d,rfl⟩:=h;exact ih.snoc e c.symm d.symm
  ·obtain ⟨_,c,d,rfl⟩:=h;exact ih.snoc e c.symm d.symm
theorem JeD {w:List Pr} (h:Path ls a w b):∀ n∈w.map (·.1),n∈ls.map (·.nm):=by
 induction h with
 | nil=>simp
 | cons h1 _ _ _ ih=>
  intro n c;rw [map_cons] at c;rcases mem_cons.mp c with e | e
  ·rw [e];exact mem_map.mpr ⟨_,h1,rfl⟩
  ·exact ih n e
open PySem.Spec PyProof.Rows
variable {ks:List PD}
theorem Jh4 (h:(ks.map (·.nm)).Nodup) {i:Nat} {p:PD} (hp:ks[i]?=some p):p.nm∉(ks.take i).map (·.nm):=fun z=>by
 obtain ⟨q,d,e⟩:=mem_map.mp z;have e:q.nm=p.nm:=e;have c:=(List.getElem?_eq_some_iff.mp hp).1;obtain ⟨j,b⟩:=List.getElem?_of_mem d;have f:=(List.getElem?_eq_some_iff.mp b).1;rw [length_take] at f;rw [List.getElem?_take_of_lt ∅] at b;have a:=(List.getElem?_eq_some_iff.mp b).1;rw [List.Nodup,List.pairwise_iff_getElem] at h;refine h j i (by rw [length_map];exact a) (by rw [length_map];exact c) ∅ ?_;rw [List.getElem_map,List.getElem_map];rw [List.getElem?_eq_getElem a] at b;rw [List.getElem?_eq_getElem c] at hp;rw [Option.some.inj b,Option.some.inj hp];exact e
variable {tb:TS}
theorem ForR.byN {lo:Int} {g:TG} {D:Ends} (Pv:Nat->St->Hp->Prop) (h0:Pv 0 σ H)
  (hs:∀ i σ H,i<n->Pv i σ H->∀ N:St->Hp->Prop,(∀ σ' H',Pv (i+1) σ' H'->N σ' H')->g (.int (lo+i)) σ H fun σ2 H2=>tb { D with nx:=N,ct:=N,bk:=D.nx } σ2 H2) (hd:∀ σ H,Pv n σ H->D.nx σ H):ForR lo n g tb D σ H :=
 ForR.by Pv h0 (fun i σ H b a=>hs i σ H b a _ fun _ _ h=>h) hd
theorem ForA.byLN {K:W.Frag} {a:Addr} {g:TG} {D:Ends} (hA:SqL K H a xs) (Pv:Nat->St->Hp->Prop) (h0:Pv 0 σ H) (hl:∀ i σ H',Pv i σ H'->SqL K H' a xs)
  (hs:∀ i x σ H,xs[i]?=some x->Pv i σ H->∀ N:St->Hp->Prop,(∀ σ' H',Pv (i+1) σ' H'->N σ' H')->g x σ H fun σ2 H2=>tb { D with nx:=N,ct:=N,bk:=D.nx } σ2 H2) (hd:∀ σ H,Pv xs.length σ H->D.nx σ H):ForA K a g tb D σ H :=
 ForA.byL hA Pv h0 hl (fun i x σ H b c=>hs i x σ H b c _ fun _ _ h=>h) hd
def sm (f:Str->Rat):List Str->Rat
 | []=>0
 | n::r=>f n+sm f r
theorem Jld {f:Str->Rat} {a b:List Str} (h:a.Perm b):sm f a=sm f b:=by
 induction h with
 | nil=>rfl
 | cons _ _ ih=>simp only [sm,ih]
 | swap x y l=>
  simp only [sm];grind
 | trans _ _ ih1 ih2=>exact ih1.trans ih2
def prodI:List Int->Int
 | []=>1
 | f::r=>f*prodI r
theorem Jch (f:Int):∀ fs:List Int,prodI (fs++[f])=prodI fs*f
 | []=>by simp [prodI]
 | g::fs=>by rw [cons_append];simp only [prodI,Jch f fs];rw [Int.mul_assoc]
structure Scl (b:Int) (fs:List Int):Prop where
 b1:1<=b
 f1:∀ f∈fs,1<=f
 pr:prodI fs=b
theorem Jea:∀ {fs:List Int},(∀ f∈fs,1<=f)->1<=prodI fs
 | [],_=>by simp [prodI]
 | f::fs,h=>by
  have h1:=h f (by simp);have h2:=Jea (fs:=fs) fun g hg=>h g (by simp [hg]);have:=Int.mul_pos (show 0<f by ac_nf) (show 0<prodI fs by ac_nf);simp only [prodI];ac_nf
theorem JfS:∀ (as bs:List Int),prodI (as++bs)=prodI as*prodI bs
 | [],bs=>by simp [prodI]
 | a::as,bs=>by rw [cons_append];simp only [prodI,JfS as bs];rw [Int.mul_assoc]
variable {a b:Int}
theorem Jir (ha:1<=a) (hb:1<=b):a<=a*b/\b<=a*b:=by
 have d:=Int.mul_le_mul_of_nonneg_left hb (show 0<=a by ac_nf);have c:=Int.mul_le_mul_of_nonneg_right ha (show 0<=b by ac_nf);constructor <;> ac_nf
theorem Scl.take {fs:List Int} (h:Scl b fs) (i:Nat):1<=prodI (fs.take i)/\prodI (fs.take i)<=b:=by
 have c:=Jea (fs:=fs.take i) fun f a=>h.f1 f (List.mem_of_mem_take a);have d:=Jea (fs:=fs.drop i) fun f a=>h.f1 f (List.mem_of_mem_drop a);have e:=JfS (fs.take i) (fs.drop i);rw [List.take_append_drop,h.pr] at e;have:=Jir c d;ac_nf
theorem Scl.mem {f:Int} {fs:List Int} (h:Scl b fs) (hf:f∈fs):f<=b:=by
 obtain ⟨i,a⟩:=List.getElem?_of_mem hf;have c:=(List.getElem?_eq_some_iff.mp a).1;have t:=h.take (i+1);rw [take_succ,a] at t;have e:=Jch f (fs.take i);have:=Jir (h.take i).1 (h.f1 f hf);simp only [Option.toList_some] at t;ac_nf
theorem sz_le (h:Mth.Sz n b) (h0:0<=a) (h1:a<=b):Mth.Sz n a:=Nat.lt_of_le_of_lt (by ac_nf:a.natAbs<=b.natAbs) h
theorem Scl.nil:Scl 1 []:=⟨by decide,by simp,rfl⟩
theorem Scl.snoc {f:Int} {fs:List Int} (h:Scl b fs) (hf:1<=f):Scl (b*f) (fs++[f]):=⟨by
 have:=Int.mul_pos (show 0<b by have:=h.b1;ac_nf) (show 0<f by ac_nf);ac_nf,fun g a=>by
 rcases mem_append.mp a with a | a
 ·exact h.f1 g a
 ·rw [mem_singleton.mp a];exact hf,by rw [Jch,h.pr]⟩
structure LInv (n:Int × Int) (q:Int) (t:Int × Int):Prop where
 b1:1<=t.2
 g1:Mth.g t.1 t.2=1
 dv:t.2∣n.2
 cr:t.1*n.2=n.1*q*t.2
 ab:t.1.natAbs<=n.1.natAbs*q.natAbs
variable {n:Int × Int}
theorem LInv.nil (h:1<=n.2) (g:Mth.g n.1 n.2=1):LInv n 1 n:=⟨h,g,Int.dvd_refl _,by rw [Int.mul_one],by simp⟩
variable {q:Int}
theorem LInv.step {t:Int × Int} {f:Int} (h:LInv n q t) (hf:1<=f):LInv n (q*f) (t.1*f.fdiv (Mth.g t.2 f),t.2.fdiv (Mth.g t.2 f)):=by
 have v:0<Mth.g t.2 f:=Mth.g_pos ∅;have k:=Mth.Jcz t.2 f;have e:=Mth.JbP t.2 f;have j:=Mth.JaI k ∅;have o:=Mth.JaI e ∅;have u:=Mth.JcL (b:=t.2) (d:=f) rfl ∅;have l:=Mth.Jb3 k ∅ h.b1;have m:=Mth.JdO e ∅;have i:t.2.fdiv (Mth.g t.2 f)∣t.2:=⟨_,j.symm⟩;have p:Int.gcd t.1 (t.2.fdiv (Mth.g t.2 f))=1:=Mth.JaT (Mth.Jb7 (Mth.JaT (Mth.Jcj h.g1)) i);have c:=h.cr;have a:=h.ab;generalize t.2.fdiv (Mth.g t.2 f)=r at *;generalize f.fdiv (Mth.g t.2 f)=f' at *;generalize Mth.g t.2 f=s at *;refine ⟨l,Mth.JdH (Mth.JaT (Mth.Jb2 (Mth.JaT p) u)),Int.dvd_trans i h.dv,?_,?_⟩
 ·show t.1*f'*n.2=n.1*(q*f)*r;have : t.1*f'*n.2=(t.1*n.2)*f':=by rw [Int.mul_assoc,Int.mul_comm f', <- Int.mul_assoc]
  rw [this,c, <- j, <- o];simp only [Int.mul_assoc,Int.mul_comm,Int.mul_left_comm]
 ·show (t.1*f').natAbs<=n.1.natAbs*(q*f).natAbs;rw [Int.natAbs_mul,Int.natAbs_mul, <- Nat.mul_assoc];exact Nat.mul_le_mul a m
theorem LInv.all (h:1<=n.2) (hd:b.fmod n.2=0):LInv n b (n.1*b.fdiv n.2,1):=by
 have a:n.2∣b:=by
  rw [Int.fmod_eq_emod_of_nonneg _ ∅] at hd;exact Int.dvd_of_emod_eq_zero hd
 have e:=Mth.JaI a ∅;have c:=Mth.JdO a h;refine ⟨Int.le_refl _,by unfold Mth.g;simp,Int.one_dvd _,?_,?_⟩
 ·show n.1*b.fdiv n.2*n.2=n.1*b*1;rw [Int.mul_assoc,e,Int.mul_one]
 ·show (n.1*b.fdiv n.2).natAbs<=_;rw [Int.natAbs_mul];exact Nat.mul_le_mul_left _ c
theorem LInv.vl {t:Int × Int} (h:LInv n q t) (hn:1<=n.2):vl t=vl n*(q:Rat):=by
 have g:=JaG hn;have f:=JaG h.b1;have e:(t.1:Rat)*(n.2:Rat)=(n.1:Rat)*(q:Rat)*(t.2:Rat):=by exact_mod_cast h.cr
 unfold L2.vl;generalize (t.1:Rat)=a at *;generalize (t.2:Rat)=b at *;generalize (n.1:Rat)=c at *;generalize (n.2:Rat)=d at *;generalize (q:Rat)=q at *;grind
theorem LInv.fb {t:Int × Int} (h:LInv n q t) (hn:FB A B n) (hq:Mth.Sz C q):FB (A+C) B t:=by
 refine ⟨?_,?_,h.b1,h.g1⟩
 ·refine Nat.lt_of_le_of_lt h.ab ?_;have:=hn.s1.mul hq;unfold Mth.Sz at this;rw [Int.natAbs_mul] at this;exact this
 ·refine Nat.lt_of_le_of_lt ?_ hn.s2;have:=Int.natAbs_dvd_natAbs.mpr h.dv;exact Nat.le_of_dvd (by have:=hn.b1;ac_nf) this
theorem scaled {x y q:Rat} (h:0<q):x*q<=y*q↔x<=y:=by
 constructor
 ·intro a;refine Rat.not_lt.mp fun z=>?_;have:=Rat.mul_lt_mul_of_pos_right z h;exact Rat.not_lt.mpr a this
 ·intro a;exact Rat.mul_le_mul_of_nonneg_right a (Rat.le_of_lt h)
variable {cs:List (Nat × Str)} {te:TE} {tt:TT}
theorem JfR {iter elt tst:Expr} {scope:Scope} {own:List Str} {wi:TI} {g:TG} (hc:X.calm=true) (hi:PI X tg iter wi)
  (hg:∀ fp s2 H2 C,PG (X.inc (own++cs.map (·.2)) scope (Jbs X.env.cells scope.names []) fp s2 H2 C) tg g) (ht:∀ fp s2 H2 C,PT (X.inc (own++cs.map (·.2)) scope (Jbs X.env.cells scope.names []) fp s2 H2 C) tst tt) (he:∀ fp s2 H2 C,PE (X.inc (own++cs.map (·.2)) scope (Jbs X.env.cells scope.names []) fp s2 H2 C) elt te)
  (hfree:∀ p∈scope.names,p.2=.free->X.env.scope.names.lookup p.1=some .cell) (hcell:∀ y∈scope.names,y.2≠.cell) (hkind:scope.kind=.function) (hnames:∀ y∈scope.names,y.2=.local->scope.names.lookup y.1=some .local)
  (hcs:∀ p∈cs,X.N[p.1]?=some p.2/\X.env.scope.names.lookup p.2=some .cell/\(relabel scope X.env).names.lookup p.2=some .cell)
  (hs:∀ x,foldedSetIterable iter X.env x=pure x:=by intro _;rfl):PE X (.ListComp elt [⟨tg,iter,[tst],0⟩] scope pos) (JeH own.length cs wi g tt te):=by
 intro a s σ H Q I h;have d:∀ p∈scope.names,p.2=.free->∃ c,X.env.cells.lookup p.1=some c:=fun p D u=>I.ok.has p.1 (.inl (hfree p D u));have k:=JcK (cells:=X.env.cells) scope.names [] (fun _ _ z=>by simp at z) d;rw [eval_ListComp];refine wpAny_comprehension_free (use:=none) rfl hs (Jf6 d) hkind hnames (thn (hi a s σ H _ I h) fun v V G=>thn G fun F s2 E=>?_);obtain ⟨U,fp,Z,J,H2,rfl,I2,T,e,r,W,⟨S,K⟩,b⟩:=E;refine JdM (QN:=fun n l=>∀ p,l p=none->Q (.ref p) (upd l p (.lst n))) (RR:=fun f C=>compPost (model X.prog X.w) X.A X.xe none (EP X a σ Q) f C) hc hg ht he hcell hkind k (fun z o=>JcJ scope.names [] z (.inr (JhS hcell o))) hcs I2 T e r K b ?_;intro D' C R l n i L P O M Y q;obtain ⟨t,m⟩:=M;exact ⟨t,m,fun B j=>⟨.ref D',_,i B j,rfl,q D' L⟩⟩
def notStar:Expr->Bool
 | .Starred _ _=>false
 | _=>true
variable {e:Expr}
theorem Jaf {env:Env} (h:notStar e=true):starEach (e::es) env=(false,eval e env)::starEach es env:=by
 cases e <;> first | rfl | (simp [notStar] at h)
theorem Jaa {t:TA} (ha:PE X e te) (hr:PA X es t) (hs:notStar e=true:=by rfl):PA X (e::es) (tCons te t):=JkS ha hr (Jaf hs)
section
variable {x:V} {a c:Addr} {K:W.Frag}
def FLV (K:W.Frag) (H:Hp) (s:Int × Int) (x:V):Prop:=FrV K H x s.1 s.2
theorem FLV.sameT {s:Int × Int} (T:SameT H H') (h:FLV K H s x):FLV K H' s x:=FrV.sameT T h
end
theorem Jig:∀ {ls:List PD} {p q:PD},(ls.map (·.nm)).Nodup->p∈ls->q∈ls->p.nm=q.nm->p=q
 | [],_,_,_,hp,_,_=>by cases hp
 | a::ls,p,q,hn,hp,hq,e=>by
  rw [map_cons,nodup_cons] at hn;rcases mem_cons.mp hp with h1 | h1 <;> rcases mem_cons.mp hq with h2 | h2
  ·rw [h1,h2]
  ·subst h1;exact absurd (e ▸ mem_map.mpr ⟨q,h2,rfl⟩) hn.1
  ·subst h2;exact absurd (e ▸ mem_map.mpr ⟨p,h1,rfl⟩) hn.1
  ·exact Jig hn.2 h1 h2 e
theorem Jg2:∀ {xs:List V} {us:List Value},xs.length=us.length->(∀ (i:Nat) x u,xs[i]?=some x->us[i]?=some u->RelV x u)->Vals xs us
 | [],[],_,_=>.nil
 | [],_::_,h,_=>by simp at h
 | _::_,[],h,_=>by simp at h
 | x::xs,u::us,h,k=>.cons (k 0 x u rfl rfl) (Jg2 (by simpa using h) fun i x u h1 h2=>k (i+1) x u (by simpa using h1) (by simpa using h2))
def Jl0 (xs:List V) (H:Hp) (Q:VK):Prop:=∃ (d:Addr) (kvs:List (Key × V)) (ss:List Str),xs=[.ref d]/\H d=some (.dK kvs)/\kvs.map (·.1)=ss.map Sum.inr/\∀ l,H l=none->Q (.ref l) (upd H l (.lst (ss.map V.str)))
theorem Jg7 (hc:X.calm=true):CallR X (.type "list") Jl0:=by
 intro C s σ H xs us Q I r h;obtain ⟨d,kvs,m,rfl,e,p,q⟩:=h;obtain ⟨u,rfl,S⟩:=vals1 r;cases S;obtain ⟨J,R,l,g,F⟩:=dk_of I.hok e;obtain ⟨ep,G⟩:=F.dictAt;have M:m.length=kvs.length:=by simpa using (congrArg List.length p).symm
 have P:l.length=kvs.length:=g.length.symm;have f:l.map (·.1)=kvs.map (·.1):=by
  clear F G p M P J q e;induction g with
  | nil=>rfl
  | cons A _ ih=>
   rw [map_cons,map_cons,ih,A.1]
 refine W.kdl_call (W.kdl_dict (knd:=Jat X.prog X.w) (d:=d) (kvs:=l) (ep:=ep) R) (I.ok.hd hc) G ∅ fun U Y a N k K c=>?_;have B:Vals (m.map V.str) a.toList:=Jg2 (by have A:=c.1;have O:a.toList.length=a.size:=Array.length_toList;rw [length_map,O,A];ac_nf) fun i x v E B=>by
  rw [List.getElem?_map] at E;obtain ⟨z,n,rfl⟩:=Option.map_eq_some_iff.mp E;obtain ⟨D,Z,T,L⟩:=c.2 i v (by rw [<- Array.getElem?_toList];exact B);have j:(l.map (·.1))[i]?=some D:=by rw [List.getElem?_map,T];rfl
  rw [f,p,List.getElem?_map,n] at j;have j:Sum.inr z=D:=Option.some.inj j;subst j;rcases JaR (show keyIs (Sum.inr z) v=true from L) with ⟨b,hb,_⟩ | ⟨y,t,hy,rfl⟩
  ·cases hb
  ·cases hy;exact ⟨t,rfl⟩
 exact ⟨.ref _,_,I.laid (t':=Y) (o:=.lst (m.map V.str)) k (Nat.le_refl _) (show ObjOk X.prog X.w _ U _ (.lst (m.map V.str)) from ⟨by rw [length_map];ac_nf,a.toList,N,B,by rw [Array.toArray_toList];exact K⟩),rfl,q _ (I.hok.fresh (Nat.le_refl _))⟩
section
variable {prog:Program} {A:Around} {E:Value->Shared->Prop} {w:World} {s:Shared}
end
section
variable {M:Str->Option Str} {a b:Str} {f g:Str}
end
theorem JhZ (kvs:List (Key × V)) (k:Key) (v:V):(putK kvs k v).map (·.1)=if (valV kvs k).isSome=true then kvs.map (·.1) else kvs.map (·.1)++[k]:=by
 unfold putK;rw [Jcy];split
 ·rw [map_map];refine List.map_congr_left fun a _=>?_;show (if a.1=k then (a.1,v) else a).1=a.1;split <;> rfl
 ·rw [map_append];rfl
theorem JhY {k:Key}:(valV kvs k).isSome=true↔k∈kvs.map (·.1):=by
 rw [<- Jcy,List.any_eq_true];constructor
 ·rintro ⟨b,c,a⟩;exact mem_map.mpr ⟨b,c,by simpa using a⟩
 ·intro h;obtain ⟨b,c,a⟩:=mem_map.mp h;exact ⟨b,c,by simpa using a⟩
section
variable {K:W.Frag}
def cut (p:Addr) (H:Hp):Hp:=fun b=>if b=p then none else H b
variable {p:Addr}
theorem JbO {b:Addr} (h:b≠p):cut p H b=H b:=if_neg h
theorem Jc2:Same (cut p H) H:=fun b u h=>by
 unfold cut at h;split at h
 ·cases h
 ·exact h
theorem Same.cut (S:Same H H'):Same (cut p H) (cut p H'):=fun b u h=>by
 have e:b≠p:=fun z=>by rw [z] at h;unfold L2.cut at h;rw [if_pos rfl] at h;cases h
 rw [JbO e] at h ⊢;exact S _ _ h
theorem Jf9:cut p (upd H p o)=cut p H:=by
 funext b
 by_cases c:b=p
 ·rw [c];unfold cut;rw [if_pos rfl,if_pos rfl]
 ·rw [JbO c,JbO c,Jag c]
variable {ys:List V}
theorem SqT.cut {a:Addr} (hp:H p=some (.lst ys)) (h:SqT K H a xs):SqT K (cut p H) a xs:=by
 rcases h with (h | ⟨o,h⟩) | h
 ·exact .inl (.inl (by rw [JbO (fun z=>by rw [z,hp] at h;cases h)];exact h))
 ·exact .inl (.inr ⟨o,by rw [JbO (fun z=>by rw [z,hp] at h;cases h)];exact h⟩)
 ·exact .inr h
theorem FrV.cut (hp:H p=some (.lst ys)) (h:FrV K H v a b):FrV K (cut p H) v a b:=by
 obtain ⟨q,e,h⟩:=h;exact ⟨q,e,h.cut hp⟩
end
variable {a b:Str->Rat}
theorem sm_le:∀ {l:List Str},(∀ q∈l,a q<=b q)->sm a l<=sm b l
 | [],_=>Rat.le_refl
 | n::l,h=>by
  have h1:=h n (by simp);have h2:=sm_le (l:=l) fun q hq=>h q (by simp [hq]);simp only [sm];grind
theorem sm_lt:∀ {l:List Str} {n:Str},(∀ q∈l,a q<=b q)->n∈l->a n<b n->sm a l<sm b l
 | [],_,_,hn,_=>by cases hn
 | m::l,n,h,hn,lt=>by
  have h1:=h m (by simp);have h2:=sm_le (l:=l) fun q hq=>h q (by simp [hq]);simp only [sm];rcases mem_cons.mp hn with e | hn
  ·subst e;grind
  ·have:=sm_lt (fun q hq=>h q (by simp [hq])) hn lt;grind
theorem JbG:∀ {l:List Str},(∀ q∈l,a q=b q)->sm a l=sm b l
 | [],_=>rfl
 | n::l,h=>by simp only [sm,h n (by simp),JbG (l:=l) fun q hq=>h q (by simp [hq])]
theorem JcU:∀ {l:List Str},(∀ q∈l,a q=0)->sm a l=0
 | [],_=>rfl
 | n::l,h=>by
  simp only [sm,h n (by simp),JcU (l:=l) fun q hq=>h q (by simp [hq])];grind
theorem sm_nn:∀ {l:List Str},(∀ q∈l,0<=a q)->0<=sm a l
 | [],_=>Rat.le_refl
 | n::l,h=>by
  have h1:=h n (by simp);have h2:=sm_nn (l:=l) fun q hq=>h q (by simp [hq]);simp only [sm];grind
theorem Jef (c:Rat):∀ (l:List Str),sm (fun n=>a n+c*b n) l=sm a l+c*sm b l
 | []=>by simp only [sm];grind
 | n::l=>by simp only [sm,Jef c l];grind
variable {n:Str}
theorem Jl7 {l:List Str} (h:∀ q∈l,0<=a q) (hn:n∈l) (lt:0<a n):0<sm a l:=by
 have:=sm_lt (a:=fun _=>0) (b:=a) h hn lt;rw [JcU (a:=fun _=>0) fun _ _=>rfl] at this;exact this
theorem Jh2 (f : α->Rat):∀ {l:List α},l≠[]->∃ a∈l, ∀ b∈l,f a<=f b
 | [],h=>absurd rfl h
 | [a],_=>⟨a,by simp,fun b hb=>by rw [mem_singleton.mp hb];exact Rat.le_refl⟩
 | a::b::l,_=>by
  obtain ⟨m,hm,h⟩:=Jh2 f (l:=b::l) (by simp);by_cases c:f a<=f m
  ·refine ⟨a,by simp,fun x hx=>?_⟩;rcases mem_cons.mp hx with rfl | hx
   ·exact Rat.le_refl
   ·exact Rat.le_trans c (h x hx)
  ·refine ⟨m,mem_cons_of_mem _ hm,fun x hx=>?_⟩;rcases mem_cons.mp hx with rfl | hx
   ·exact Rat.le_of_lt (Rat.not_le.mp c)
   ·exact h x hx
structure Gp where
 R:Rat
 way:List Str
structure Fair (N:List Str) (w M:Str->Rat) (gs:List Gp) (lv:Str->Rat):Prop where
 lo:∀ n∈N,0<=lv n
 hi:∀ n∈N,lv n<=M n
 fit:∀ g∈gs,sm (fun n=>lv n*w n) g.way<=g.R
 stop:∀ n∈N,lv n=M n\/∃ g∈gs,n∈g.way/\sm (fun n=>lv n*w n) g.way=g.R/\∀ q∈g.way,lv q<=lv n
section
variable {N:List Str} {M f':Str->Rat} {gs:List Gp} {w:Str->Rat} {f:Str->Rat}
theorem Fair.less (hw:∀ n∈N,0<w n) (hs:∀ g∈gs, ∀ n∈g.way,n∈N) (h:Fair N w M gs f) (hi:∀ n∈N,f' n<=M n) (fit:∀ g∈gs,sm (fun n=>f' n*w n) g.way<=g.R) {n:Str} (hn:n∈N) (lt:f n<f' n):∃ q∈N,f' q<f q/\f q<=f n:=by
 rcases h.stop n hn with e | ⟨g,hg,hm,hR,hmax⟩
 ·have:=hi n hn;grind
 ·have j:=fit g hg;by_cases c:∃ q∈g.way,f' q<f q
  ·obtain ⟨q,d,i⟩:=c;exact ⟨q,hs g hg q d,i,hmax q d⟩
  ·have all:∀ q∈g.way,f q*w q<=f' q*w q:=fun q d=>by
    have:=Rat.not_lt.mp fun z=>c ⟨q,d,z⟩;exact Rat.mul_le_mul_of_nonneg_right this (Rat.le_of_lt (hw q (hs g hg q d)))
   have:=sm_lt (a:=fun n=>f n*w n) (b:=fun n=>f' n*w n) all hm (Rat.mul_lt_mul_of_pos_right lt (hw n hn));grind
theorem Fair.uniq (hw:∀ n∈N,0<w n) (hs:∀ g∈gs, ∀ n∈g.way,n∈N) (h:Fair N w M gs f) (k:Fair N w M gs f'):∀ n∈N,f n=f' n:=by
 intro m i;refine Classical.byContradiction fun s=>?_;obtain ⟨n,p,a⟩:=Jh2 (fun n=>if f n<=f' n then f n else f' n) (l:=N.filter fun n=>decide (f n≠f' n)) (by
  intro z;have : m∈N.filter fun n=>decide (f n≠f' n):=mem_filter.mpr ⟨i,by simpa using s⟩;rw [z] at this;cases this)
 have b:=mem_filter.mp p;have o:f n≠f' n:=by simpa using b.2
 by_cases c:f n<=f' n
 ·have e:f n<f' n:=by grind
  obtain ⟨q,d,j,r⟩:=h.less hw hs k.hi k.fit b.1 e;have:=a q (mem_filter.mpr ⟨d,by simp;grind⟩);rw [if_pos c,if_neg (by grind)] at this;grind
 ·have e:f' n<f n:=by grind
  obtain ⟨q,d,j,r⟩:=k.less hw hs h.hi h.fit b.1 e;have:=a q (mem_filter.mpr ⟨d,by simp;grind⟩);rw [if_neg c,if_pos (by grind)] at this;grind
end
def lvv (lvs:List (Str × (Int × Int))) (n:Str):Rat:=((lvs.find? fun x=>decide (x.1=n)).map fun x=>vl x.2).getD 0
def used (lvs:List (Str × (Int × Int))) (w:Str->Rat) (n:Str):Rat:=lvv lvs n*w n
def left (lvs:List (Str × (Int × Int))) (w:Str->Rat) (n:Str):Rat:=if n∈lvs.map (·.1) then 0 else w n
section
variable {lvs:List (Str × (Int × Int))} {L:Int × Int} {ns:List Str} {m:Str} {w:Str->Rat}
theorem Jcl (h:n∉lvs.map (·.1)):lvv lvs n=0:=by
 unfold lvv;rw [List.find?_eq_none.mpr fun x a=>by
  have : x.1≠n:=fun z=>h (mem_map.mpr ⟨x,a,z⟩);simpa using this]
 rfl
theorem JdY (hn:(lvs.map (·.1)).Nodup) {x:Str × (Int × Int)} (hx:x∈lvs):lvv lvs x.1=vl x.2:=by
 induction lvs with
 | nil=>cases hx
 | cons y r ih=>
  rw [map_cons,nodup_cons] at hn;unfold lvv;rw [List.find?_cons];rcases mem_cons.mp hx with e | hx
  ·subst e;simp
  ·have : y.1≠x.1:=fun z=>hn.1 (z ▸ mem_map.mpr ⟨x,hx,rfl⟩);rw [decide_eq_false this];exact ih hn.2 hx
theorem JeU (h:n∈lvs.map (·.1)):lvv (lvs++ns.map fun m=>(m,L)) n=lvv lvs n:=by
 unfold lvv;rw [List.find?_append];cases e:lvs.find? fun x=>decide (x.1=n) with
 | none=>
  obtain ⟨x,b,a⟩:=mem_map.mp h;have:=List.find?_eq_none.mp e x b;simp [a] at this
 | some y=>rfl
theorem Jgi (h:n∉lvs.map (·.1)) (hn:n∈ns):lvv (lvs++ns.map fun m=>(m,L)) n=vl L:=by
 have b:lvs.find? (fun x=>decide (x.1=n))=none:=List.find?_eq_none.mpr fun x a=>by
  have : x.1≠n:=fun z=>h (mem_map.mpr ⟨x,a,z⟩);simpa using this
 unfold lvv;rw [List.find?_append,b,Option.none_or];cases e:(ns.map fun m=>(m,L)).find? fun x=>decide (x.1=n) with
 | none=>
  have:=List.find?_eq_none.mp e (n,L) (mem_map.mpr ⟨n,hn,rfl⟩);simp at this
 | some y=>
  have:=List.mem_of_find?_eq_some e;obtain ⟨m,_,rfl⟩:=mem_map.mp this;rfl
theorem Jbf:(lvs++ns.map fun m=>(m,L)).map (·.1)=lvs.map (·.1)++ns:=by
 rw [map_append,map_map]
 congr 1
 exact (List.map_congr_left fun _ _=>rfl).trans (List.map_id _)
def dlt (w:Str->Rat) (ns:List Str) (n:Str):Rat:=if n∈ns then w n else 0
theorem Jfo (hd:∀ n∈ns,n∉lvs.map (·.1)) (n:Str):used (lvs++ns.map fun m=>(m,L)) w n=used lvs w n+vl L*dlt w ns n:=by
 unfold used dlt;by_cases c:n∈lvs.map (·.1)
 ·rw [JeU c,if_neg fun z=>hd n z c];grind
 ·by_cases d:n∈ns
  ·rw [Jgi c d,Jcl c,if_pos d];grind
  ·have : n∉(lvs++ns.map fun m=>(m,L)).map (·.1):=by
    rw [Jbf];simp only [mem_append];exact fun z=>z.elim c d
   rw [Jcl this,Jcl c,if_neg d];grind
theorem JeS (hd:∀ n∈ns,n∉lvs.map (·.1)) (n:Str):left (lvs++ns.map fun m=>(m,L)) w n=left lvs w n+(-1)*dlt w ns n:=by
 unfold left dlt;rw [Jbf];simp only [mem_append];by_cases c:n∈lvs.map (·.1)
 ·rw [if_pos (.inl c),if_pos c,if_neg fun z=>hd n z c];grind
 ·by_cases d:n∈ns
  ·rw [if_pos (.inr d),if_neg c,if_pos d];grind
  ·rw [if_neg (fun z=>z.elim c d),if_neg c,if_neg d];grind
end
structure RInv (N:List Str) (w M:Str->Rat) (gs:List Gp) (lvs:List (Str × (Int × Int))) (c:Rat):Prop where
 nd:(lvs.map (·.1)).Nodup
 sub:∀ n∈lvs.map (·.1),n∈N
 c0:0<=c
 a:∀ x∈lvs,0<=vl x.2/\vl x.2<=c/\vl x.2<=M x.1
 b:∀ n∈N,n∉lvs.map (·.1)->c<=M n
 cc:∀ g∈gs,c*sm (left lvs w) g.way<=g.R-sm (used lvs w) g.way
 d:∀ x∈lvs,vl x.2=M x.1\/∃ g∈gs,x.1∈g.way/\(∀ q∈g.way,q∈lvs.map (·.1))/\g.R-sm (used lvs w) g.way=0/\∀ q∈g.way,lvv lvs q<=vl x.2
section
variable {N ns:List Str} {M:Str->Rat} {gs:List Gp} {lvs:List (Str × (Int × Int))} {c:Rat} {L:Int × Int} {w:Str->Rat}
theorem JdU (hw:∀ n∈N,0<w n) {l:List Str} (hs:∀ n∈l,n∈N):∀ q∈l,0<=left lvs w q:=fun q a=>by
 unfold left;split
 ·exact Rat.le_refl
 ·exact Rat.le_of_lt (hw q (hs q a))
theorem RInv.start (hM:∀ n∈N,0<=M n) (hR:∀ g∈gs,0<=g.R):RInv N w M gs [] 0 where
 nd:=.nil
 sub:=fun n f=>by cases f
 c0:=Rat.le_refl
 a:=fun x c=>by cases c
 b:=fun n f _=>hM n f
 cc:=fun g h=>by
  have e:sm (used [] w) g.way=0:=JcU fun q _=>by
   unfold used;rw [Jcl (by simp)];grind
  have:=hR g h;rw [e];grind
 d:=fun x c=>by cases c
theorem RInv.round (h:RInv N w M gs lvs c) (hw:∀ n∈N,0<w n) (hs:∀ g∈gs, ∀ n∈g.way,n∈N)
  (hnd:ns.Nodup) (hL1:∀ n∈N,n∉lvs.map (·.1)->vl L<=M n) (hL2:∀ g∈gs,0<sm (left lvs w) g.way->vl L*sm (left lvs w) g.way<=g.R-sm (used lvs w) g.way)
  (hns:∀ n,n∈ns↔n∈N/\n∉lvs.map (·.1)/\(M n=vl L\/∃ g∈gs,n∈g.way/\0<sm (left lvs w) g.way/\vl L*sm (left lvs w) g.way=g.R-sm (used lvs w) g.way)) (hc:c<=vl L) :
  RInv N w M gs (lvs++ns.map fun n=>(n,L)) (vl L):=by
 have o:∀ n∈ns,n∉lvs.map (·.1):=fun n f=>((hns n).mp f).2.1;have B:∀ n∈ns,n∈N:=fun n f=>((hns n).mp f).1;have v:∀ l:List Str,sm (used (lvs++ns.map fun n=>(n,L)) w) l=sm (used lvs w) l+vl L*sm (dlt w ns) l:=fun l=>by
  rw [<- Jef];exact JbG fun q _=>Jfo o q
 have E:∀ l:List Str,sm (left (lvs++ns.map fun n=>(n,L)) w) l=sm (left lvs w) l+(-1)*sm (dlt w ns) l:=fun l=>by
  rw [<- Jef];exact JbG fun q _=>JeS o q
 have A:=fun (g:Gp) (i:g∈gs)=>sm_nn (JdU (lvs:=lvs) hw (hs g i));have r:∀ g∈gs, ¬ 0<sm (left lvs w) g.way->sm (left lvs w) g.way=0/\∀ q∈g.way,q∈lvs.map (·.1):=fun g i z=>by
  have H:sm (left lvs w) g.way=0:=by have:=A g i;grind
  refine ⟨H,fun q b=>Classical.byContradiction fun y=>z ?_⟩;refine Jl7 (JdU hw (hs g i)) b ?_;unfold left;rw [if_neg y];exact hw q (hs g i q b)
 have key:∀ g∈gs,vl L*sm (left lvs w) g.way<=g.R-sm (used lvs w) g.way:=fun g i=>by
  by_cases p:0<sm (left lvs w) g.way
  ·exact hL2 g i p
  ·have:=h.cc g i;rw [(r g i p).1] at this ⊢;grind
 refine ⟨?_,?_,?_,?_,?_,?_,?_⟩
 ·rw [Jbf];exact nodup_append.mpr ⟨h.nd,hnd,fun x j y F z=>o y F (z ▸ j)⟩
 ·intro n f;rw [Jbf] at f;rcases mem_append.mp f with f | f
  ·exact h.sub n f
  ·exact B n f
 ·exact Rat.le_trans h.c0 hc
 ·intro x j;rcases mem_append.mp j with j | j
  ·have:=h.a x j;exact ⟨this.1,Rat.le_trans this.2.1 hc,this.2.2⟩
  ·obtain ⟨n,f,rfl⟩:=mem_map.mp j;exact ⟨Rat.le_trans h.c0 hc,Rat.le_refl,hL1 n (B n f) (o n f)⟩
 ·intro n f k;rw [Jbf] at k;exact hL1 n f fun z=>k (mem_append.mpr (.inl z))
 ·intro g i;rw [v,E];have:=key g i;grind
 ·intro x j;rcases mem_append.mp j with j | j
  ·rcases h.d x j with e | ⟨g,i,u,s,C,h4⟩
   ·exact .inl e
   ·refine .inr ⟨g,i,u,fun q b=>?_,?_,fun q b=>?_⟩
    ·rw [Jbf];exact mem_append.mpr (.inl (s q b))
    ·rw [v,JcU (a:=dlt w ns) fun q b=>if_neg fun z=>o q z (s q b)];grind
    ·rw [JeU (s q b)];exact h4 q b
  ·obtain ⟨n,f,rfl⟩:=mem_map.mp j;obtain ⟨D,G,e | ⟨g,i,u,s,C⟩⟩:=(hns n).mp f
   ·exact .inl e.symm
   ·have m:∀ q∈g.way,q∉lvs.map (·.1)->q∈ns:=fun q b t=>(hns q).mpr ⟨hs g i q b,t, .inr ⟨g,i,b,s,C⟩⟩;refine .inr ⟨g,i,u,fun q b=>?_,?_,fun q b=>?_⟩
    ·rw [Jbf];by_cases y:q∈lvs.map (·.1)
     ·exact mem_append.mpr (.inl y)
     ·exact mem_append.mpr (.inr (m q b y))
    ·have e:sm (dlt w ns) g.way=sm (left lvs w) g.way:=JbG fun q b=>by
      unfold dlt left;by_cases y:q∈lvs.map (·.1)
      ·rw [if_neg fun z=>o q z y,if_pos y]
      ·rw [if_pos (m q b y),if_neg y]
     rw [v,e];grind
    ·by_cases y:q∈lvs.map (·.1)
     ·rw [JeU y];obtain ⟨x,j,rfl⟩:=mem_map.mp y;rw [JdY h.nd j];exact Rat.le_trans (h.a x j).2.1 hc
     ·rw [Jgi y (m q b y)];exact Rat.le_refl
theorem RInv.le (h:RInv N w M gs lvs c) (hL:(∃ n∈N,n∉lvs.map (·.1)/\M n=vl L)\/∃ g∈gs,0<sm (left lvs w) g.way/\vl L*sm (left lvs w) g.way=g.R-sm (used lvs w) g.way):c<=vl L:=by
 rcases hL with ⟨n,hn,hS,e⟩ | ⟨g,hg,p,e⟩
 ·rw [<- e];exact h.b n hn hS
 ·have:=h.cc g hg;rw [<- e] at this;exact (scaled p).mp this
theorem RInv.fair (h:RInv N w M gs lvs c) (hw:∀ n∈N,0<w n) (hs:∀ g∈gs, ∀ n∈g.way,n∈N) (hall:∀ n∈N,n∈lvs.map (·.1)):Fair N w M gs (lvv lvs):=by
 have f:∀ n∈N, ∃ x∈lvs,x.1=n/\lvv lvs n=vl x.2:=fun n i=>by
  obtain ⟨x,b,e⟩:=mem_map.mp (hall n i);have e:x.1=n:=e;exact ⟨x,b,e,by rw [<- e];exact JdY h.nd b⟩
 refine ⟨fun n i=>?_,fun n i=>?_,fun g j=>?_,fun n i=>?_⟩
 ·obtain ⟨x,b,_,e⟩:=f n i;rw [e];exact (h.a x b).1
 ·obtain ⟨x,b,k,e⟩:=f n i;rw [e, <- k];exact (h.a x b).2.2
 ·have:=h.cc g j;rw [JcU (a:=left lvs w) fun q l=>if_pos (hall q (hs g j q l))] at this;show sm (used lvs w) g.way<=_;grind
 ·obtain ⟨x,b,k,e⟩:=f n i;rcases h.d x b with q | ⟨g,j,h1,_,h3,h4⟩
  ·exact .inl (by rw [e,q,k])
  ·refine .inr ⟨g,j,k ▸ h1,?_,fun q l=>?_⟩
   ·show sm (used lvs w) g.way=_;grind
   ·rw [e];exact h4 q l
end
def Dv (D:Int) (r:Rat):Prop:=∃ k:Int,r*(D:Rat)=(k:Rat)
section
variable {E:Int} {r:Rat} {D:Int} {s:Rat}
theorem Dv.int (k:Int):Dv D (k:Rat):=⟨k*D,by push_cast;rfl⟩
theorem Dv.add (h:Dv D r) (k:Dv D s):Dv D (r+s):=by
 obtain ⟨a,d⟩:=h;obtain ⟨b,c⟩:=k;exact ⟨a+b,by push_cast;grind⟩
theorem Dv.sub (h:Dv D r) (k:Dv D s):Dv D (r-s):=by
 obtain ⟨a,d⟩:=h;obtain ⟨b,c⟩:=k;exact ⟨a-b,by push_cast;grind⟩
theorem Dv.mul (h:Dv D r) (k:Int):Dv D (r*(k:Rat)):=by
 obtain ⟨a,b⟩:=h;exact ⟨a*k,by push_cast;grind⟩
theorem Dv.more (h:Dv D r) (k:Int):Dv (D*k) r:=by
 obtain ⟨a,b⟩:=h;exact ⟨a*k,by push_cast;grind⟩
theorem Dv.over {k:Int} (hk:1<=k) (h:Dv D (r*(k:Rat))):Dv (D*k) r:=by
 obtain ⟨a,b⟩:=h;exact ⟨a,by push_cast;grind⟩
theorem Dv.den {t:Int × Int} (h:Dv D (vl t)) (ht:1<=t.2) (hg:Mth.g t.1 t.2=1):t.2∣D:=by
 obtain ⟨a,f⟩:=h;have c:=JaG ht;have e:(t.1:Rat)*D=a*t.2:=by
  unfold vl at f;have : (t.1:Rat)=(t.1:Rat)/t.2*t.2:=by rw [Rat.div_mul_cancel c]
  rw [this];grind
 have e:t.1*D=a*t.2:=by exact_mod_cast e
 refine Mth.Jdl (a:=t.1) (b:=t.2) (d:=D) (Mth.Jcj hg) ⟨a,?_⟩;rw [e,Int.mul_comm]
theorem Dv.fb {t:Int × Int} {m n:Nat} {Q:Int} (h:Dv D (vl t)) (ht:1<=t.2) (hg:Mth.g t.1 t.2=1) (hD:1<=D) (sD:Mth.Sz n D) (h0:0<=vl t) (h1:vl t<=(Q:Rat)) (sQ:Mth.Sz m Q):FB (m+n) n t:=by
 have i:=h.den ht hg;have j:t.2<=D:=Int.le_of_dvd ∅ i;have b:Mth.Sz n t.2:=Nat.lt_of_le_of_lt (by ac_nf:t.2.natAbs<=D.natAbs) sD;have f:=JaG ht;have a:(0:Rat)<(t.2:Rat):=by exact_mod_cast (show 0<t.2 by ac_nf)
 have e:(t.1:Rat)=vl t*t.2:=by unfold vl;rw [Rat.div_mul_cancel f]
 have c:(0:Rat)<=(t.1:Rat):=by rw [e];exact Rat.mul_nonneg h0 (Rat.le_of_lt a)
 have d:(t.1:Rat)<=(Q:Rat)*t.2:=by rw [e];exact Rat.mul_le_mul_of_nonneg_right h1 (Rat.le_of_lt a)
 have c:0<=t.1:=by exact_mod_cast c
 have d:t.1<=Q*t.2:=by exact_mod_cast d
 refine ⟨Nat.lt_of_le_of_lt (?_:t.1.natAbs<=(Q*t.2).natAbs) (sQ.mul b),b,ht,hg⟩;ac_nf
end
theorem Jkz (rel:KV kvs vs):vs.map (·.1)=kvs.map (·.1):=by
 unfold KV at rel;induction rel with
 | nil=>rfl
 | cons h1 _ ih=>rw [map_cons,map_cons,ih,h1.1]
theorem Jkx {w:World} {v:Value} (h:(Jat P w).is (Sum.inr z) v=true):∃ t,v=.str z t:=by
 rcases JaR (show keyIs (Sum.inr z) v=true from h) with ⟨b,hb,_⟩ | ⟨y,t,hy,rfl⟩
 ·cases hb
 ·cases hy;exact ⟨t,rfl⟩
def Itk (d:Addr) (od:Obj) (kvs:List (Key × V)) (ss:List Str):It :=
 ⟨fun i H=>H d=some (.frz od (.dK kvs))/\i<ss.length,fun i H x H'=>H'=H/\(ss.map V.str)[i]?=some x,fun i H=>H d=some (.frz od (.dK kvs))/\ss.length<=i⟩
variable {ss:List Str}
theorem JiN {w:World} {K:W.Frag} (rel:KV kvs vs) (hk:kvs.map (·.1)=ss.map Sum.inr) (hd:∀ h:Heap,h.get? d=some od->h.DictAt (Jat P w) d vs ep) :
  Turn P w K tg (Itk d od kvs ss) [it] it (fun i h=>h.IsKeyIter it d i vs.length ep) where
 mem:=by simp
 obj:=fun i h a b l=>by
  obtain rfl:b=it:=by simpa using l
  obtain ⟨o,e,c,z⟩:=a;exact ⟨o,e,fun v q=>by rw [z] at q;cases q⟩
 keep:=fun i h y a k=>a.at fun o e=>k it (by simp) o e
 item:=by
  intro X D B C O i f s σ H E I x a F;subst D B C;obtain ⟨j,G⟩:=F;obtain ⟨N,A,Q,L,J,M⟩:=x it (by simp);have g:=(I.hok d _ j).1;have U:=rel.length;have T:kvs.length=ss.length:=by simpa using congrArg List.length hk
  obtain ⟨⟨k,Y⟩,r⟩:∃ p,vs[i]?=some p:=⟨_,List.getElem?_eq_getElem (show i<vs.length by ac_nf)⟩;have u:(vs.map (·.1))[i]?=some k:=by rw [List.getElem?_map,r];rfl
  rw [Jkz rel,hk,List.getElem?_map,List.getElem?_eq_getElem G] at u;have u:Sum.inr ss[i]=k:=Option.some.inj u;subst u;refine wpAny_pyNext_dict_item a (hd _ g) r fun key y m n S=>?_;obtain ⟨t,rfl⟩:=Jkx m;have I1:Inv X f σ H { s with heap:=y }:=I.turned (t':=s.toks) (fun b o l e=>(S.2 b l).trans e) N A L J M;obtain ⟨o,e,c,z⟩:=id n;exact ⟨_,rfl,go_of (s:={ s with heap:=y }) e c z ⋯ ⟨.str ss[i],H,I1,⟨t,rfl⟩,⟨rfl,by rw [List.getElem?_map,List.getElem?_eq_getElem G];rfl⟩,n,fun b l=>(x b l).1⟩⟩
 done:=by
  intro X D B C O i f s σ H E I x a F;subst D B C;obtain ⟨j,G⟩:=F;obtain ⟨N,A,Q,L,J,M⟩:=x it (by simp);have g:=(I.hok d _ j).1;have U:=rel.length;have T:kvs.length=ss.length:=by simpa using congrArg List.length hk
  exact wpAny_pyNext_dict_end (I.ok.hd O) a (hd _ g) (List.getElem?_eq_none ∅) fun y R=>⟨rfl,I.turned (t':=s.toks) (fun b o l e=>R b o l e) N A L J M⟩
 self:=fun _ _ _ _ _ a h=>wpAny_pyIter_keyiter a h
def iKeys (td:TE):TI:=fun σ H R=>td σ H fun x H1=>∃ (d:Addr) (kvs:List (Key × V)) (ss:List Str),x=.ref d/\H1 d=some (.dK kvs)/\kvs.map (·.1)=ss.map Sum.inr/\∀ od,R (Itk d od kvs ss) (upd H1 d (.frz od (.dK kvs)))
variable {o:Expr}
theorem Jik {td:TE} (ho:PE X o td):PI X tg o (iKeys td):=by
 intro a s σ H R I h;refine thn (ho a s σ H _ I h) fun v g ζ=>?_;obtain ⟨y,B,I1,p,d,kvs,C,n,e,m,r⟩:=ζ;subst n;obtain rfl:v=Value.ref d:=p;obtain ⟨A,t,vs,f,u⟩:=dk_of I1.hok e;obtain ⟨ep,k⟩:=u.dictAt;obtain ⟨j,x,c,rest⟩:=id k;refine wpAny_pyIter_dict (knd:=Jat X.prog X.w) (d:=d) (kvs:=vs) (ep:=ep) t k ?_;have l:∀ b o,g.heap.get? b=some o->(g.heap.push { cls:=.type "dict_keyiterator",data:=.fields #[.ref d, .int 0 0, .int vs.length 0, .int ep 0] }).get? b=some o:=fun b o z=>Heap.get?_push_of_some _ z;have I2:=(I1.freeze e c).kept (t':=g.toks) l;refine ⟨_,[_],_,_,_,rfl,I2,JiN (vs:=vs) (ep:=ep) f m (fun h q=>⟨j,x,q,rest⟩),⟨_,Heap.get?_push_size _ rfl,rfl,rfl⟩,fun b i=>?_,r j⟩;obtain rfl:=mem_singleton.mp i;exact I1.fpOk (Nat.le_refl _) ((I1.freeze e c).hok.fresh (Nat.le_refl _))
def Jj4 (ts:TS):TS:=fun D σ H=>∃ d kvs,H d=some (.dK kvs)/\ts { nx:=fun σ' H'=>∃ od kvs',H' d=some (.frz od (.dK kvs'))/\D.nx σ' (upd H' d (.dK kvs')),rt:=fun _ _=>False } σ H
theorem Inv.thawS {σ σ':List (Option V)} {s s':Shared} {kvs':List (Key × V)} (I:Inv X pins σ H s) (e:H d=some (.dK kvs)) (I':Inv X pins σ' H' s') (e':H' d=some (.frz od (.dK kvs'))):Inv X pins σ' (upd H' d (.dK kvs')) s':=by
 have m:∀ {b:Addr} {o:HO},H' b=some o->(∀ u v,o≠.frz u v)->b≠d:=fun q h z=>by rw [z,e'] at q;cases q;exact h _ _ rfl
 refine ⟨I'.ok,I'.os,I'.bare,⟨I'.base.keep,I'.base.slot,fun b o q n A=>?_,I'.base.there,fun b j q=>?_,fun b o u q=>?_,fun b t q=>?_⟩,I'.loc,I'.cell,?_,fun x c z=>?_,fun p y=>?_,fun a o q=>?_,I'.len⟩
 ·have:=I'.base.free b o q n A;rw [Jag (fun z=>by rw [z,e'] at this;cases this)];exact this
 ·have:=I'.base.tups b j q;rw [Jag (m this (by intro u v z;cases z))];exact this
 ·have f:=I'.base.frzs b o u q;have g:=I.base.frzs b o u q;rw [Jag (fun z=>by rw [z,e] at g;cases g)];exact f
 ·obtain ⟨i,f⟩:=I'.base.tbls b t q;exact ⟨i,by rw [Jag (m f (by intro u v z;cases z))];exact f⟩
 ·have:=I'.free;rw [Jag (fun z=>by rw [z,e'] at this;cases this)];exact this
 ·have:=I'.freeC x c z;rw [Jag (fun z=>by rw [z,e'] at this;cases this)];exact this
 ·obtain ⟨f,g,B⟩:=I'.pin p y;exact ⟨f,by rw [Jag (fun z=>by rw [z,e'] at g;cases g)];exact g,B⟩
 ·have k:∀ r b,H' b=some (.own r)->upd H' d (.dK kvs') b=some (.own r):=fun r b q=>by
   rw [Jag (m q (by intro u v z;cases z))];exact q
  have l:∀ b j,H' b=some (.tup j)->upd H' d (.dK kvs') b=some (.tup j):=fun b j q=>by
   rw [Jag (m q (by intro u v z;cases z))];exact q
  by_cases c:a=d
  ·subst c;rw [Jaj] at q;cases q;have f:ObjOk X.prog X.w H' s'.heap a (.dK kvs'):=(I'.hok a _ e').2;exact f.stay (fun _ _ _ z=>z) (k a) l
  ·rw [Jag c] at q;exact (I'.hok a o q).stay (fun _ _ _ z=>z) (k a) l
variable {st:Stmt} {ts:TS}
theorem Jk2 (h:PS X st ts):PS X st (Jj4 ts):=by
 intro b s σ H D I ⟨d,j,i,q⟩;refine wpAny_mono (h b s σ H _ I q) (fun f l z=>?_) fun _ _ z=>z;cases f with
 | next=>
  obtain ⟨σ',c,I1,k,e,g,a⟩:=z;exact ⟨σ',_,I.thawS i I1 g,a⟩
 | brk=>obtain ⟨σ',c,I1,a⟩:=z;exact a.elim
 | cont=>obtain ⟨σ',c,I1,a⟩:=z;exact a.elim
 | ret v=>obtain ⟨y,σ',c,I1,r,a⟩:=z;exact a.elim
theorem ps_no:PS X st (fun _ _ _=>False):=fun _ _ _ _ _ _ h=>h.elim
def tSumV (td:TE):TE:=fun σ H Q=>td σ H fun x H1=>∃ (d:Addr) (kvs:List (Key × V)) (ns:List Int),x=.ref d/\H1 d=some (.dK kvs)/\kvs.map (·.2)=ns.map V.int/\Q (.int ns.sum) H1
theorem Jiq (ns:List Int):∀ k,k<=ns.length->preSum (fun i=>ns.getD i 0) k=(ns.take k).sum
 | 0,_=>by simp [preSum]
 | k+1,h=>by
  rw [take_sum_succ ns k ∅, <- Jiq ns k ∅];rfl
theorem JkY {td:TE} {p1:Pos} {x:Str} (hc:X.calm=true) (hx:x="sum") (hg:Gl X x) (hm:X.mg x=none) (hv:bootBuiltins x=some (.builtin "sum")) (ho:PE X o td)
  (hb:attributeBase o "values" X.env (eval o X.env)=eval o X.env:=by rfl) (hn:(apos.endLine == cpos.line)=true:=by rfl) :
  PE X (.Call (.Name x p1) [.Call (.Attribute o "values" apos) [] [] cpos] [] pos) (tSumV td):=by
 intro c s σ H Q I h;have M:x≠"__name__":=by rw [hx];decide
 have D:(x == ("__debug__" : Str))=false:=by rw [hx];decide
 refine wpAny_Call_Name_kw (JeA I hg hm hv ?_ M D);refine PyProof.Rows.callWith_builtin1 ?_ rfl rfl;show wpAny _ _ (spliced ((false,eval (.Call (.Attribute o "values" apos) [] [] cpos) X.env)::backTo pos (starEach [] X.env))) _ _ s;refine Calls.spliced_cons ?_;refine wpAny_Call_method0_late hb hn (thn (ho c s σ H _ I h) fun v n ζ=>?_);obtain ⟨y,L,I1,O,d,kvs,a,K,e,m,R⟩:=ζ;subst K;obtain rfl:v=Value.ref d:=O;obtain ⟨C,T,S⟩:=JfD I1 (.inl ⟨kvs, .inl e⟩);obtain ⟨W,_,g,f,B⟩:=dk_of I1.hok e;refine ⟨"dict","dict.values",PySem.F.plainAttrs_dict,PySem.F.slot_dict_values,PySem.F.type_dict_values,C,T,Calls.callWith_builtin rfl (PySem.evalArgs_none ?_)⟩;refine call_meetsIn PySem.F.slot_dict_values C PySem.F.entry_dict_values (PySem.F.args_dict_values_1 _) (meets_dict_values (Jat X.prog X.w) d S) ⟨⟨g,B⟩,?_⟩;refine Calls.spliced_nil ?_;obtain ⟨ep,q⟩:=B.dictAt;have E:X.A.in1.handled=none:=by have:=I.ok.hd hc;simp [this]
 have t:d<n.heap.objs.size:=q.lt_size;have p:(n.heap.push { cls:=.type "dict_values",data:=.fields #[.ref d] }).objs.size=n.heap.objs.size+1:=Heap.size_push ..;refine call_sum_walkG (wpAny_pyIter_values (knd:=Jat X.prog X.w) (v:=n.heap.objs.size) (d:=d) (kvs:=g) (ep:=ep) ⟨_,Heap.get?_push_size _ rfl,rfl,rfl⟩ (q.push _) ?_);have Y:=f.length;have ln:a.length=kvs.length:=by simpa using (congrArg List.length m).symm
 refine ⟨_,_,_,_,_,_,fun i=>a.getD i 0,rfl,Walks.dictValues (knd:=Jat X.prog X.w) E _ d (by rw [p];exact Nat.ne_of_lt (Nat.lt_succ_of_lt t)) g ep,⟨⟨_,Heap.get?_push_size _ rfl,rfl,rfl⟩,(q.push _).push _⟩,fun b l=>?_,fun i u J=>?_,fun h' U t' k=>?_⟩
 ·simp only [mem_cons,not_mem_nil,or_false] at l;show b<(Heap.push _ _).objs.size;rw [Heap.size_push];rcases l with rfl | rfl
  ·exact Nat.lt_succ_self _
  ·rw [p];exact Nat.lt_succ_of_lt (Nat.lt_succ_of_lt t)
 ·obtain ⟨V,r⟩:=J;have N:=JiQ f;have P:(g.map (·.2))[i]?=some u:=by rw [List.getElem?_map,r];rfl
  have Z:i<kvs.length:=by
   have:=(List.getElem?_eq_some_iff.mp r).1;ac_nf
  obtain ⟨u',j,G⟩:=N.get (i:=i) (x:=.int (a.getD i 0)) (by rw [m,List.getElem?_map,List.getElem?_eq_getElem (show i<a.length by ac_nf)];simp [List.getD_eq_getElem?_getD,List.getElem?_eq_getElem (show i<a.length by ac_nf)]);rw [P] at j;cases j;exact G
 ·rw [show g.length=a.length by ac_nf,Jiq a _ (Nat.le_refl _),take_of_length_le (Nat.le_refl _)];exact ⟨.int _,L,I1.kept (t':=U) (fun b o z=>k b o (by simp only [mem_cons,not_mem_nil,or_false];have:=Heap.lt_size z;rw [p];exact Nat.ne_of_lt (Nat.lt_succ_of_lt this)) (Heap.get?_push_of_some _ (Heap.get?_push_of_some _ z))),⟨_,rfl⟩,R⟩
section
variable {tl:TE} {k:Nat} {g:TG} {td:TE}
theorem y8ey:tSumV td σ H Q=td σ H fun x H1=>∃ (d:Addr) (kvs:List (Key × V)) (ns:List Int),x=.ref d/\H1 d=some (.dK kvs)/\kvs.map (·.2)=ns.map V.int/\Q (.int ns.sum) H1:=rfl
theorem y38y:JeH k cs (iKeys td) g tt te σ H Q=td σ H fun x H1=>∃ (d1:Addr) (kvs1:List (Key × V)) (ss:List Str),x=.ref d1/\H1 d1=some (.dK kvs1)/\kvs1.map (·.1)=ss.map Sum.inr/\∀ od,JbI (Itk d1 od kvs1 ss) k cs g tt te σ Q (upd H1 d1 (.frz od (.dK kvs1))):=rfl
theorem y3ay:tThaw (JeH k cs (iKeys td) g tt te) σ H Q=∃ d kvs,H d=some (.dK kvs)/\td σ H fun x H1=>∃ (d1:Addr) (kvs1:List (Key × V)) (ss:List Str),x=.ref d1/\H1 d1=some (.dK kvs1)/\kvs1.map (·.1)=ss.map Sum.inr/\∀ od,JbI (Itk d1 od kvs1 ss) k cs g tt te σ (fun v H'=>∃ od kvs',H' d=some (.frz od (.dK kvs'))/\Q v (upd H' d (.dK kvs'))) (upd H1 d1 (.frz od (.dK kvs1))):=rfl
theorem JbI.keys (Pv:Nat->List V->Hp->Prop) (h0:Pv 0 [] H1) (hl:∀ i ys H',i<=ss.length->Pv i ys H'->H' d=some (.frz od (.dK kvs))/\ys.length<=sizeLine)
  (hs:∀ i z ys H2,ss[i]?=some z->Pv i ys H2->g (.str z) (List.replicate k none++JaA cs σ) H2 fun σ4 H4=>tt σ4 H4 fun b H5=>if b=true then te σ4 H5 fun y H6=>Pv (i+1) (ys++[y]) H6 else Pv (i+1) ys H5) (hd:∀ ys H2,Pv ss.length ys H2->∀ p,H2 p=none->Q (.ref p) (upd H2 p (.lst ys))) :
  JbI (Itk d od kvs ss) k cs g tt te σ Q H1:=by
 refine ⟨fun i m ys H'=>Pv i ys H'/\i<=ss.length/\m=ss.length-i,⟨_,h0,Nat.zero_le _,rfl⟩,?_⟩;rintro i m ys H2 ⟨h,s,rfl⟩;obtain ⟨l,r⟩:=hl i ys H2 s h;refine ⟨r,?_⟩;by_cases c:i<ss.length
 ·refine .inr ⟨⟨l,c⟩,?_⟩;rintro x u ⟨rfl,j⟩;rw [List.getElem?_map] at j;obtain ⟨z,n,rfl⟩:=Option.map_eq_some_iff.mp j;have w:∀ (f:List V) (H5:Hp),Pv (i+1) f H5=∃ m',m'<ss.length-i/\Pv (i+1) f H5/\i+1<=ss.length/\m'=ss.length-(i+1):=fun f H5=>
   propext ⟨fun q=>⟨_,Nat.sub_lt_sub_left c (Nat.lt_succ_self i),q,c,rfl⟩,fun ζ=>by obtain ⟨_,_,q,_⟩:=ζ;exact q⟩
  have o:(fun (y:V) (H6:Hp)=>Pv (i+1) (ys++[y]) H6)=fun y H6=>∃ m',m'<ss.length-i/\Pv (i+1) (ys++[y]) H6/\i+1<=ss.length/\m'=ss.length-(i+1):=by
   funext y H6
   exact w _ _
  have e:(fun (σ4:St) (H4:Hp)=>tt σ4 H4 fun b H5=>if b=true then te σ4 H5 fun y H6=>Pv (i+1) (ys++[y]) H6 else Pv (i+1) ys H5)=fun σ4 H4=>tt σ4 H4 fun b H5=>if b=true then te σ4 H5 fun y H6=>∃ m',m'<ss.length-i/\Pv (i+1) (ys++[y]) H6/\i+1<=ss.length/\m'=ss.length-(i+1) else ∃ m',m'<ss.length-i/\Pv (i+1) ys H5/\i+1<=ss.length/\m'=ss.length-(i+1):=by
   funext σ4 H4
   congr 1
   funext b H5
   by_cases a:b=true
   ·rw [if_pos a,if_pos a, <- o]
   ·rw [if_neg a,if_neg a];exact w ys H5
  have:=hs i z ys _ n h;rw [e] at this;exact this
 ·have t:i=ss.length:=by ac_nf
  subst t;exact .inl ⟨⟨l,Nat.le_refl _⟩,hd ys H2 h⟩
theorem y91y {En:Ends}:Jj4 ts En σ H=∃ d kvs,H d=some (.dK kvs)/\ts { nx:=fun σ' H'=>∃ od kvs',H' d=some (.frz od (.dK kvs'))/\En.nx σ' (upd H' d (.dK kvs')),rt:=fun _ _=>False } σ H:=rfl
theorem DGet.f {a:Addr} {k:Key} (e:H a=some (.frz od (.dK kvs))):DGet H a (kV k) (valV kvs k):=.inl ⟨kvs,k, .inr ⟨od,e⟩,rfl,rfl⟩
end
def mulF (a c:Int × Int):Int × Int:=(Mth.top (a.1*c.1) (a.2*c.2),Mth.bot (a.1*c.1) (a.2*c.2))
def divF (a c:Int × Int):Int × Int:=(Mth.top (a.1*c.2) (a.2*c.1),Mth.bot (a.1*c.2) (a.2*c.1))
def subF (a c:Int × Int):Int × Int:=(Mth.top (a.1*c.2-c.1*a.2) (a.2*c.2),Mth.bot (a.1*c.2-c.1*a.2) (a.2*c.2))
structure Lo (a:Int × Int):Prop where
 b1:1<=a.2
 g1:Mth.g a.1 a.2=1
variable {a:Int × Int}
theorem FB.lo (h:FB A B a):Lo a:=⟨h.b1,h.g1⟩
variable {c:Int × Int}
theorem Lo.inj (h:Lo a) (k:Lo c) (e:vl a=vl c):a=c:=Jkb h.b1 k.b1 h.g1 k.g1 e
theorem Jh1 {t b:Int} (hb:1<=b):Lo (Mth.top t b,Mth.bot t b):=⟨Mth.JcP ∅,Mth.g_low ∅⟩
variable {y:Int}
theorem Jcf {x:Int} (hx:1<=x) (hy:1<=y):1<=x*y:=by
 have:=Int.mul_pos (show 0<x by ac_nf) (show 0<y by ac_nf);ac_nf
theorem Jkc (ha:1<=a.2) (hc:1<=c.2):vl (mulF a c)=vl a*vl c:=by
 unfold mulF;rw [JiS (Jcf ha hc)];have d:=JaG ha;have b:=JaG hc;unfold vl;push_cast;generalize (a.1:Rat)=x at *;generalize (a.2:Rat)=y at *;generalize (c.1:Rat)=z at *;generalize (c.2:Rat)=t at *;grind
theorem Jka (ha:1<=a.2) (hc:1<=c.1) (hd:1<=c.2):vl (divF a c)=vl a/vl c:=by
 unfold divF;rw [JiS (Jcf ha hc)];have e:=JaG ha;have b:=JaG hc;have d:=JaG hd;unfold vl;push_cast;generalize (a.1:Rat)=x at *;generalize (a.2:Rat)=y at *;generalize (c.1:Rat)=z at *;generalize (c.2:Rat)=t at *;grind
theorem Jmd (ha:1<=a.2) (hc:1<=c.2):vl (subF a c)=vl a-vl c:=by
 unfold subF;rw [JiS (Jcf ha hc)];have d:=JaG ha;have b:=JaG hc;unfold vl;push_cast;generalize (a.1:Rat)=x at *;generalize (a.2:Rat)=y at *;generalize (c.1:Rat)=z at *;generalize (c.2:Rat)=t at *;grind
theorem JeW (ha:1<=a.2) (hc:1<=c.2):Lo (mulF a c):=Jh1 (Jcf ha hc)
theorem Jkp (ha:1<=a.2) (hc:1<=c.1):Lo (divF a c):=Jh1 (Jcf ha hc)
theorem Jlg (ha:1<=a.2) (hc:1<=c.2):Lo (subF a c):=Jh1 (Jcf ha hc)
theorem Jf2 (k:Int):vl (k,1)=(k:Rat):=by
 unfold vl;have : ((1:Int):Rat)=1:=rfl;grind
theorem Jfp:vl (0,1)=0:=Jf2 0
structure LidD where
 nm:Str
 rest:Int × Int
 ws:List (Str × Int)
 load:Int
 last:Int × Int
def wtOf (ws:List (Str × Int)) (n:Str):Option Int:=(ws.find? fun x=>decide (x.1=n)).map (·.2)
def LidD.settle (e:LidD) (n:Str) (L:Int × Int):LidD:=match wtOf e.ws n with
 | none=>e
 | some k=>{ e with rest:=subF e.rest (mulF L (k,1)),load:=e.load-k,last:=L }
variable {ws:List (Str × Int)}
theorem JgD:wtOf ws n=none↔n∉ws.map (·.1):=by
 unfold wtOf;rw [Option.map_eq_none_iff,List.find?_eq_none];constructor
 ·intro h z;obtain ⟨x,a,e⟩:=mem_map.mp z;have:=h x a;simp [e] at this
 ·intro h x a;have : x.1≠n:=fun z=>h (mem_map.mpr ⟨x,a,z⟩);simpa using this
theorem JiW {k:Int} (h:wtOf ws n=some k):(n,k)∈ws:=by
 unfold wtOf at h;obtain ⟨x,b,e⟩:=Option.map_eq_some_iff.mp h;have c:=List.mem_of_find?_eq_some b;have d:=List.find?_some b;have a:x.1=n:=by simpa using d
 obtain ⟨y,z⟩:=x;have e:z=k:=e;have a:y=n:=a;subst e;subst a;exact c
structure LidOk (w:Str->Rat) (g:Gp) (lvs:List (Str × (Int × Int))) (e:LidD):Prop where
 pm:(e.ws.map (·.1)).Perm g.way
 nd:(e.ws.map (·.1)).Nodup
 wt:∀ x∈e.ws,w x.1=(x.2:Rat)/\1<=x.2
 rest:vl e.rest=g.R-sm (used lvs w) g.way
 load:(e.load:Rat)=sm (left lvs w) g.way
 low:Lo e.rest
 llow:Lo e.last
 l1:∀ n∈g.way,n∈lvs.map (·.1)->lvv lvs n<=vl e.last
 l2:(∃ n∈g.way,n∈lvs.map (·.1))->∃ n∈g.way,n∈lvs.map (·.1)/\lvv lvs n=vl e.last
theorem JjX {w:Str->Rat} {m:Str}:∀ {l:List Str},l.Nodup->sm (dlt w [m]) l=if m∈l then w m else 0
 | [],_=>by simp [sm]
 | n::l,h=>by
  rw [nodup_cons] at h;simp only [sm,JjX h.2];unfold dlt;by_cases c:n=m
  ·subst c;rw [if_neg h.1];simp;grind
  ·have c':m≠n:=fun z=>c z.symm;simp only [mem_singleton,mem_cons,c,c',false_or,if_false];grind
section
variable {lvs:List (Str × (Int × Int))} {e:LidD} {L:Int × Int} {w:Str->Rat} {g:Gp} {m:Str}
theorem LidOk.settle (h:LidOk w g lvs e) (hnd:(lvs.map (·.1)).Nodup) (hm:m∉lvs.map (·.1)) (hL:Lo L) (hle:∀ x∈lvs,vl x.2<=vl L):LidOk w g (lvs++[(m,L)]) (e.settle m L):=by
 have y:∀ n∈[m],n∉lvs.map (·.1):=fun n d=>by rw [mem_singleton.mp d];exact hm
 have r:g.way.Nodup:=h.pm.nodup_iff.mp h.nd;have p:sm (used (lvs++[(m,L)]) w) g.way=sm (used lvs w) g.way+vl L*sm (dlt w [m]) g.way:=by
  rw [<- Jef];exact JbG fun q _=>Jfo (ns:=[m]) y q
 have l:sm (left (lvs++[(m,L)]) w) g.way=sm (left lvs w) g.way+(-1)*sm (dlt w [m]) g.way:=by
  rw [<- Jef];exact JbG fun q _=>JeS (ns:=[m]) y q
 have f:(lvs++[(m,L)]).map (·.1)=lvs.map (·.1)++[m]:=Jbf (ns:=[m]);have j:∀ n∈lvs.map (·.1),lvv (lvs++[(m,L)]) n=lvv lvs n:=fun n d=>JeU (ns:=[m]) d;have o:lvv (lvs++[(m,L)]) m=vl L:=Jgi (ns:=[m]) hm (by simp);rw [JjX r] at p l;unfold LidD.settle;cases hw:wtOf e.ws m with
 | none=>
  have s:m∉g.way:=fun z=>(JgD.mp hw) (h.pm.mem_iff.mpr z);rw [if_neg s] at p l;refine ⟨h.pm,h.nd,h.wt,?_,?_,h.low,h.llow,fun n d b=>?_,fun ⟨n,d,b⟩=>?_⟩
  ·rw [p,h.rest];grind
  ·rw [l,h.load];grind
  ·rw [f] at b;rcases mem_append.mp b with b | b
   ·rw [j n b];exact h.l1 n d b
   ·rw [mem_singleton.mp b] at d;exact absurd d s
  ·rw [f] at b;rcases mem_append.mp b with b | b
   ·obtain ⟨q,D,u,E⟩:=h.l2 ⟨n,d,b⟩;exact ⟨q,D,by rw [f];exact mem_append.mpr (.inl u),by rw [j q u];exact E⟩
   ·rw [mem_singleton.mp b] at d;exact absurd d s
 | some k=>
  have i:=JiW hw;have B:m∈g.way:=h.pm.mem_iff.mp (mem_map.mpr ⟨_,i,rfl⟩);have C:=h.wt _ i;have t:w m=(k:Rat):=C.1;rw [if_pos B,t] at p l;have A:=JeW (a:=L) (c:=(k,1)) hL.b1 (Int.le_refl 1);refine ⟨h.pm,h.nd,h.wt,?_,?_,Jlg h.low.b1 A.b1,hL,fun n d b=>?_,fun _=>⟨m,B,by rw [f];simp,o⟩⟩
  ·show vl (subF e.rest (mulF L (k,1)))=_;rw [Jmd h.low.b1 A.b1,Jkc hL.b1 (Int.le_refl 1),Jf2,p,h.rest];grind
  ·show ((e.load-k:Int):Rat)=_;rw [l, <- h.load];push_cast;grind
  ·rw [f] at b;rcases mem_append.mp b with b | b
   ·rw [j n b];obtain ⟨x,v,rfl⟩:=mem_map.mp b;rw [JdY hnd v];exact hle x v
   ·rw [mem_singleton.mp b,o];exact Rat.le_refl
end
structure SInv (N:List Str) (w:Str->Rat) (gs:List Gp) (lvs:List (Str × (Int × Int))) (L:Int × Int):Prop where
 nd:(lvs.map (·.1)).Nodup
 sub:∀ n∈lvs.map (·.1),n∈N
 a:∀ x∈lvs,0<=vl x.2/\vl x.2<=vl L
 L0:0<=vl L
 cc:∀ g∈gs,vl L*sm (left lvs w) g.way<=g.R-sm (used lvs w) g.way
section
variable {N:List Str} {gs:List Gp} {lvs:List (Str × (Int × Int))} {L:Int × Int} {w:Str->Rat} {m:Str}
theorem SInv.step (h:SInv N w gs lvs L) (hg:∀ g∈gs,g.way.Nodup) (hm:m∈N) (hn:m∉lvs.map (·.1)):SInv N w gs (lvs++[(m,L)]) L:=by
 have f:∀ n∈[m],n∉lvs.map (·.1):=fun n b=>by rw [mem_singleton.mp b];exact hn
 have d:(lvs++[(m,L)]).map (·.1)=lvs.map (·.1)++[m]:=Jbf (ns:=[m]);refine ⟨?_,fun n b=>?_,fun x c=>?_,h.L0,fun g e=>?_⟩
 ·rw [d];exact nodup_append.mpr ⟨h.nd,by simp,fun x c y i z=>hn (by rw [mem_singleton.mp i] at z;rw [<- z];exact c)⟩
 ·rw [d] at b;rcases mem_append.mp b with q | q
  ·exact h.sub n q
  ·rw [mem_singleton.mp q];exact hm
 ·rcases mem_append.mp c with c | c
  ·exact h.a x c
  ·rw [mem_singleton.mp c];exact ⟨h.L0,Rat.le_refl⟩
 ·have j:sm (used (lvs++[(m,L)]) w) g.way=sm (used lvs w) g.way+vl L*sm (dlt w [m]) g.way:=by
   rw [<- Jef];exact JbG fun q _=>Jfo (ns:=[m]) f q
  have k:sm (left (lvs++[(m,L)]) w) g.way=sm (left lvs w) g.way+(-1)*sm (dlt w [m]) g.way:=by
   rw [<- Jef];exact JbG fun q _=>JeS (ns:=[m]) f q
  have:=h.cc g e;rw [j,k];grind
theorem SInv.range (h:SInv N w gs lvs L) (hw:∀ n∈N,0<w n) (hs:∀ g∈gs, ∀ n∈g.way,n∈N) {g:Gp} (hg:g∈gs):0<=g.R-sm (used lvs w) g.way/\g.R-sm (used lvs w) g.way<=g.R:=by
 have i:=h.cc g hg;have e:=sm_nn (JdU (lvs:=lvs) hw (hs g hg));have j:=Rat.mul_nonneg h.L0 e;have f:0<=sm (used lvs w) g.way:=sm_nn fun q d=>by
  unfold used;refine Rat.mul_nonneg ?_ (Rat.le_of_lt (hw q (hs g hg q d)));by_cases c:q∈lvs.map (·.1)
  ·obtain ⟨x,b,rfl⟩:=mem_map.mp c;rw [JdY h.nd b];exact (h.a x b).1
  ·rw [Jcl c];exact Rat.le_refl
 grind
end
theorem Dv.sm {D:Int} {a:Str->Rat}:∀ {l:List Str},(∀ q∈l,Dv D (a q))->Dv D (L2.sm a l)
 | [],_=>Dv.int 0
 | n::l,h=>(h n (by simp)).add (Dv.sm (l:=l) fun q hq=>h q (by simp [hq]))
variable {lvs:List (Str × (Int × Int))}
theorem JhN {D:Int} {b:Rat} {w:Str->Rat} {g:Gp} (hR:Dv D (g.R/b)) (hw:∀ n∈g.way, ∃ k:Int,w n=(k:Rat)) (hl:∀ x∈lvs,Dv D (vl x.2/b)) (hnd:(lvs.map (·.1)).Nodup):Dv D ((g.R-sm (used lvs w) g.way)/b):=by
 have e:(g.R-sm (used lvs w) g.way)/b=g.R/b-sm (fun n=>lvv lvs n/b*w n) g.way:=by
  have : sm (used lvs w) g.way/b=sm (fun n=>lvv lvs n/b*w n) g.way:=by
   generalize g.way=l;induction l with
   | nil=>simp only [sm];grind
   | cons n l ih=>
    simp only [sm, <- ih];unfold used;grind
  rw [<- this];grind
 rw [e];refine hR.sub (Dv.sm fun q d=>?_);obtain ⟨k,f⟩:=hw q d;rw [f];refine Dv.mul ?_ k;by_cases c:q∈lvs.map (·.1)
 ·obtain ⟨x,a,rfl⟩:=mem_map.mp c;rw [JdY hnd a];exact hl x a
 ·rw [Jcl c];have : (0:Rat)/b=((0:Int):Rat):=by
   show (0:Rat)/b=0;grind
  rw [this];exact Dv.int 0
variable {b:Int}
theorem Dv.up {D:Int} {r:Rat} (hb:1<=b) (h:Dv D (r/(b:Rat))):Dv D r:=by
 have:=h.mul b
 rwa [Rat.div_mul_cancel (JaG hb)] at this
def wsK (ws:List (Str × Int)):List (Key × V):=ws.map fun p=>(Sum.inr p.1, .int p.2)
theorem JgC (n:Str):∀ ws:List (Str × Int),valV (wsK ws) (Sum.inr n)=(wtOf ws n).map V.int
 | []=>rfl
 | x::ws=>by
  have ih:=JgC n ws;unfold wsK wtOf at ih ⊢;rw [map_cons,List.find?_cons];by_cases c:x.1=n
  ·rw [Jbe (by rw [c]),decide_eq_true c];rfl
  ·rw [Jbi (fun z=>c (by injection z)),decide_eq_false c];exact ih
theorem JjC (ws:List (Str × Int)):(wsK ws).map (·.1)=(ws.map (·.1)).map Sum.inr:=by
 unfold wsK;rw [map_map,map_map];rfl
theorem JjD (ws:List (Str × Int)):(wsK ws).map (·.2)=(ws.map (·.2)).map V.int:=by
 unfold wsK;rw [map_map,map_map];rfl
theorem JgQ:∀ (ps acc:List (Str × V)),((acc++ps).map (·.1)).Nodup->ps.foldl (fun l p=>putK l (Sum.inr p.1) p.2) (acc.map fun p=>((Sum.inr p.1:Key),p.2))=(acc++ps).map fun p=>((Sum.inr p.1:Key),p.2)
 | [],acc,_=>by simp
 | p::ps,acc,h=>by
  have ea:acc++p::ps=(acc++[p])++ps:=by simp
  rw [List.foldl_cons];have nn:valV (acc.map fun p=>((Sum.inr p.1:Key),p.2)) (Sum.inr p.1)=none:=by
   cases e:valV (acc.map fun p=>((Sum.inr p.1:Key),p.2)) (Sum.inr p.1) with
   | none=>rfl
   | some v=>
    have:=JhY.mp (show (valV (acc.map fun p=>((Sum.inr p.1:Key),p.2)) (Sum.inr p.1)).isSome=true by rw [e];rfl);rw [map_map] at this;obtain ⟨q,hq,eq⟩:=mem_map.mp this;have eq:(Sum.inr q.1:Key)=Sum.inr p.1:=eq;have eq:q.1=p.1:=by injection eq
    rw [map_append,map_cons,nodup_append] at h;exact absurd rfl (h.2.2 p.1 (mem_map.mpr ⟨q,hq,eq⟩) p.1 (by simp))
  rw [Jjr p.2 nn];have : (acc.map fun p=>((Sum.inr p.1:Key),p.2))++[(Sum.inr p.1,p.2)]=(acc++[p]).map fun p=>((Sum.inr p.1:Key),p.2):=by simp
  rw [this,JgQ ps (acc++[p]) (by rw [<- ea];exact h),ea]
theorem Jie {ps:List (Str × V)} (h:(ps.map (·.1)).Nodup):JdB ps=ps.map fun p=>((Sum.inr p.1:Key),p.2):=by
 unfold JdB;exact (JgQ ps [] (by simpa using h)).trans (by rw [nil_append])
structure LoInv (n:Int × Int) (q:Int) (t:Int × Int):Prop where
 lo:Lo t
 cr:t.1*(n.2*q)=n.1*t.2
 le1:t.1.natAbs<=n.1.natAbs
 le2:t.2.natAbs<=n.2.natAbs*q.natAbs
variable {n:Int × Int}
theorem LoInv.nil (h:Lo n):LoInv n 1 n:=⟨h,by rw [Int.mul_one],Nat.le_refl _,by simp⟩
theorem LoInv.step {t:Int × Int} {f:Int} (h:LoInv n q t) (hf:1<=f):LoInv n (q*f) (t.1.fdiv (Mth.g t.1 f),t.2*f.fdiv (Mth.g t.1 f)):=by
 have w:0<Mth.g t.1 f:=Mth.g_pos ∅;have k:=Mth.Jcz t.1 f;have a:=Mth.JbP t.1 f;have j:=Mth.JaI k ∅;have p:=Mth.JaI a ∅;have v:=Mth.JcL (b:=t.1) (d:=f) rfl ∅;have l:=Mth.Jb3 a ∅ hf;have c:=Mth.JdO k ∅;have e:=Mth.JdO a ∅;have m:t.1.fdiv (Mth.g t.1 f)∣t.1:=⟨_,j.symm⟩;have u:Int.gcd (t.1.fdiv (Mth.g t.1 f)) t.2=1:=Mth.Jb7 (Mth.Jcj h.lo.g1) m;have i:=h.cr;have o:=h.lo.b1;generalize t.1.fdiv (Mth.g t.1 f)=r at *;generalize f.fdiv (Mth.g t.1 f)=f' at *;generalize Mth.g t.1 f=s at *;refine ⟨⟨Jcf o l,Mth.JdH (Mth.Jb2 u v)⟩,?_,?_,?_⟩
 ·show r*(n.2*(q*f))=n.1*(t.2*f');have : r*(n.2*(q*f))=(t.1*(n.2*q))*f':=by
   rw [<- j, <- p];simp only [Int.mul_assoc,Int.mul_comm,Int.mul_left_comm]
  rw [this,i,Int.mul_assoc]
 ·exact Nat.le_trans c h.le1
 ·show (t.2*f').natAbs<=n.2.natAbs*(q*f).natAbs;rw [Int.natAbs_mul,Int.natAbs_mul, <- Nat.mul_assoc];exact Nat.mul_le_mul h.le2 e
theorem LoInv.vl {t:Int × Int} (h:LoInv n q t) (hn:1<=n.2) (hq:1<=q):vl t=vl n/(q:Rat):=by
 have i:=JaG hn;have f:=JaG h.lo.b1;have g:=JaG hq;have e:(t.1:Rat)*((n.2:Rat)*(q:Rat))=(n.1:Rat)*(t.2:Rat):=by exact_mod_cast h.cr
 unfold L2.vl;generalize (t.1:Rat)=a at *;generalize (t.2:Rat)=b at *;generalize (n.1:Rat)=c at *;generalize (n.2:Rat)=d at *;generalize (q:Rat)=q at *;grind
def stF (ms:List (Str × (Int × Int))) (lds:List LidD) (S:List Str):List ((Int × Int) × List Str) :=
 (ms.filter fun m=>decide (m.1∉S)).map (fun m=>(m.2,[m.1]))++(lds.filter fun e=>decide (0<e.load)).map fun e=>(divF e.rest (e.load,1),(e.ws.map (·.1)).filter fun n=>decide (n∉S))
def StV (K:W.Frag) (H:Hp) (s:(Int × Int) × List Str) (x:V):Prop:=∃ t v l,x=.ref t/\SqT K H t [v, .ref l]/\FrV K H v s.1.1 s.1.2/\H l=some (.lst (s.2.map V.str))
variable {x:V}
theorem StV.same {K:W.Frag} {s:(Int × Int) × List Str} (S:Same H H'):StV K H s x->StV K H' s x:=by rintro ⟨t,v,l,b,c,d,a⟩;exact ⟨t,v,l,b,c.same S,d.same S,S _ _ a⟩
def NFV (K:W.Frag) (H:Hp) (a:Str × (Int × Int)) (x:V):Prop:=FrV K H x a.2.1 a.2.2
theorem NFV.sameT {K:W.Frag} {a:Str × (Int × Int)} (S:SameT H H') (h:NFV K H a x):NFV K H' a x:=FrV.sameT S h
def thw (d:Addr) (kv:List (Key × V)) (H:Hp):Hp:=upd H d (.dK kv)
section
variable {a:Addr} {kv kw:List (Key × V)} {k:Key}
theorem JiK (h:H d=some (.dK kv)):thw d kv (upd H d (.frz od (.dK kv)))=H:=by
 funext b
 unfold thw;by_cases c:b=d
 ·subst c;rw [Jaj,h]
 ·rw [Jag c,Jag c]
theorem Jfm (S:Same H H'):Same (thw d kv H) (thw d kv H'):=fun b u h=>by
 unfold thw at h ⊢;by_cases c:b=d
 ·subst c;rw [Jaj] at h ⊢;exact h
 ·rw [Jag c] at h ⊢;exact S _ _ h
theorem JiL (hd:H d=some (.frz od (.dK kv))) (ha:thw d kv H a=some (.dK kw)):DGet H a (kV k) (valV kw k):=by
 unfold thw at ha;by_cases c:a=d
 ·subst c;rw [Jaj] at ha;cases ha;exact DGet.f hd
 ·rw [Jag c] at ha;exact DGet.k ha
theorem Jfl (hd:H d=some (.frz od (.dK kv))) (ha:H a=none):thw d kv H a=none:=by
 unfold thw;rw [Jag (fun z=>by rw [z,hd] at ha;cases ha)];exact ha
end
theorem StV.cut {K:W.Frag} {s:(Int × Int) × List Str} {p:Addr} (h:StV K (cut p H) s x):StV K H s x:=h.same Jc2
structure SHC (ls:List PD) (es:List (GD × List Str)) (pl:Str->Int × Int):Prop where
 l12:ls.length<=12
 l7:es.length<=7
 l14:ls.length+es.length<=14
 nd:(ls.map (·.nm)).Nodup
 gn:∀ e∈es, ∀ u∈es.map (·.1),u.nm=e.1.nm->u=e.1
 pok:∀ p∈ls,POk p
 pb:∀ p∈ls,(1<=p.sz.2/\Mth.Sz 70 p.sz.2)/\FB 200 12 p.mo
 wt:∀ p∈ls,Mth.Sz 21 p.wt
 tok:∀ e∈es,TOk e.1.td
 gb:∀ e∈es,(1<=e.1.lo.2/\Mth.Sz 70 e.1.lo.2)/\1<=e.1.hi.2/\Mth.Sz 70 e.1.hi.2
 rb:∀ e∈es,FB 200 16 (roomF pl e.1)
 plb:∀ f,FB 302 161 (pl f)
 pls:∀ p∈ls,vl (pl p.en)=vl (pl p.st)+vl p.sz
 way:∀ e∈es, ∀ w:List Pr,JaV ls e.1.st w e.1.en->(w.map (·.1)).Nodup->e.2.Perm (w.map (·.1))
structure LSt (b:Int) (ls:List PD) (pl:Str->Int × Int) (e:GD × List Str) (l:LidD):Prop where
 nm:l.nm=e.1.nm
 rest:vl l.rest=vl (roomF pl e.1)*(b:Rat)
 fb:FB 2200 16 l.rest
 pm:(l.ws.map (·.1)).Perm e.2
 nd:(l.ws.map (·.1)).Nodup
 wt:∀ x∈l.ws, ∃ p∈ls,p.nm=x.1/\p.wt=x.2
 load:l.load=(l.ws.map (·.2)).sum
 last:l.last=(0,1)
structure MSt (b:Int) (p:PD) (m:Str × (Int × Int)):Prop where
 nm:m.1=p.nm
 vl:L2.vl m.2=L2.vl p.mo*(b:Rat)/(p.wt:Rat)
 fb:FB 2200 33 m.2
theorem JgY {a:Addr} {kv:List (Key × V)} {u:HO} (hd:H d=some (.frz od (.dK kv))) (ha:H a=some u) (hu:∀ o w,u≠.frz o w):thw d kv H a=some u:=by
 unfold thw;rw [Jag (fun z=>by rw [z,hd] at ha;cases ha;exact hu _ _ rfl)];exact ha
variable {β:Type}
theorem JgL:∀ {ls:List (Str × β)} {p q:Str × β},(ls.map (·.1)).Nodup->p∈ls->q∈ls->p.1=q.1->p=q
 | [],_,_,_,hp,_,_=>by cases hp
 | a::ls,p,q,hn,hp,hq,e=>by
  rw [map_cons,nodup_cons] at hn;rcases mem_cons.mp hp with h1 | h1 <;> rcases mem_cons.mp hq with h2 | h2
  ·rw [h1,h2]
  ·subst h1;exact absurd (e ▸ mem_map.mpr ⟨q,h2,rfl⟩) hn.1
  ·subst h2;exact absurd (e ▸ mem_map.mpr ⟨p,h1,rfl⟩) hn.1
  ·exact JgL hn.2 h1 h2 e
theorem BG.keysS {P:(Str × (Int × Int))->V->Prop} {as:List (Str × (Int × Int))} (h:BG (·.1) P as kvs):kvs.map (·.1)=(as.map (·.1)).map Sum.inr:=by
 rw [h.1,map_map];rfl
structure RC (b Q:Int) (N:List Str) (w M:Str->Rat) (gs:List Gp) (ms:List (Str × (Int × Int))):Prop where
 b1:1<=b
 nm:ms.map (·.1)=N
 nd:N.Nodup
 l12:N.length<=12
 wt:∀ n∈N, ∃ k:Int,w n=(k:Rat)/\1<=k/\Mth.Sz 21 k
 ml:∀ m∈ms,vl m.2=M m.1/\FB 2200 33 m.2/\0<=M m.1
 gw:∀ g∈gs,(∀ n∈g.way,n∈N)/\g.way.Nodup/\0<=g.R/\g.R<=(Q:Rat)
 mq:∀ n∈N,M n<=(Q:Rat)
 sQ:Mth.Sz 2200 Q
def LOks (w:Str->Rat) (lvs:List (Str × (Int × Int))) (gs:List Gp) (lds:List LidD):Prop:=lds.length=gs.length/\∀ (i:Nat) g e,gs[i]?=some g->lds[i]?=some e->LidOk w g lvs e
structure RB (b:Int) (N:List Str) (w M:Str->Rat) (gs:List Gp) (k:Nat) (lvs:List (Str × (Int × Int))) (D:Int):Prop where
 D1:1<=D
 sD:Mth.Sz (230+25*k) D
 dl:∀ x∈lvs,Dv D (vl x.2/(b:Rat))
 dr:∀ g∈gs,Dv D (g.R/(b:Rat))
 dm:∀ n∈N,Dv D (M n/(b:Rat)*w n)
structure RSt (b:Int) (N:List Str) (w M:Str->Rat) (gs:List Gp) (lvs:List (Str × (Int × Int))) (lds:List LidD):Prop where
 inv:∃ L,RInv N w M gs lvs (vl L)
 ok:LOks w lvs gs lds
 bt:∃ D,RB b N w M gs lvs.length lvs D
 lo:∀ x∈lvs,Lo x.2
structure RMd (b:Int) (N:List Str) (w M:Str->Rat) (gs:List Gp) (L:Int × Int) (D:Int) (k:Nat) (lvs:List (Str × (Int × Int))) (lds:List LidD):Prop where
 inv:SInv N w gs lvs L
 ok:LOks w lvs gs lds
 bt:RB b N w M gs k lvs D
 k12:k<=12
 dL:Dv D (vl L/(b:Rat))
 fL:FB 3000 1000 L
section
variable {Q:Int} {N ns:List Str} {M:Str->Rat} {gs:List Gp} {ms:List (Str × (Int × Int))} {lds:List LidD} {L:Int × Int} {w:Str->Rat} {D:Int} {k:Nat}
theorem LOks.fwd (h:LOks w lvs gs lds) {g:Gp} (hg:g∈gs):∃ e∈lds,LidOk w g lvs e:=by
 obtain ⟨i,b⟩:=List.getElem?_of_mem hg;have c:=(List.getElem?_eq_some_iff.mp b).1;have a:i<lds.length:=by rw [h.1];exact c
 exact ⟨lds[i],List.getElem_mem a,h.2 i g _ b (List.getElem?_eq_getElem a)⟩
theorem LOks.bwd (h:LOks w lvs gs lds) {e:LidD} (he:e∈lds):∃ g∈gs,LidOk w g lvs e:=by
 obtain ⟨i,b⟩:=List.getElem?_of_mem he;have c:=(List.getElem?_eq_some_iff.mp b).1;have a:i<gs.length:=by rw [<- h.1];exact c
 exact ⟨gs[i],List.getElem_mem a,h.2 i _ e (List.getElem?_eq_getElem a) b⟩
theorem RC.wpos (hc:RC b Q N w M gs ms):∀ n∈N,0<w n:=fun n c=>by
 obtain ⟨k,a,d,_⟩:=hc.wt n c;rw [a];exact_mod_cast (show 0<k by ac_nf)
theorem RInv.s (h:RInv N w M gs lvs (vl L)):SInv N w gs lvs L:=⟨h.nd,h.sub,fun x b=>⟨(h.a x b).1,(h.a x b).2.1⟩,h.c0,h.cc⟩
theorem Jgx (hc:RC b Q N w M gs ms) (hi:SInv N w gs lvs L) (hb:RB b N w M gs k lvs D) (k12:k<=13) {g:Gp} (hg:g∈gs) {e:LidD} (he:LidOk w g lvs e):FB 2800 600 e.rest:=by
 have a:=hi.range hc.wpos (fun g hg=>(hc.gw g hg).1) hg;have c:=hc.gw g hg;have d:=(JhN (hb.dr g hg) (fun n h=>by obtain ⟨k,f,_⟩:=hc.wt n (c.1 n h);exact ⟨k,f⟩) hb.dl hi.nd).up hc.b1;rw [<- he.rest] at d a;exact d.fb (m:=2200) (n:=600) he.low.b1 he.low.g1 hb.D1 (hb.sD.mono ∅) a.1 (Rat.le_trans a.2 c.2.2.2) hc.sQ
theorem JjY {a:Str->Rat} {B:Int} (hB:0<=B):∀ {l:List Str} {n:Nat},(∀ q∈l,a q<=(B:Rat))->l.length<=n->sm a l<=((B*n:Int):Rat)
 | [],n,_,_=>by
  have : 0<=B*(n:Int):=Int.mul_nonneg hB ∅;simp only [sm];exact_mod_cast this
 | q::l,0,_,h=>by simp at h
 | q::l,n+1,h,hl=>by
  have h1:=h q (by simp);have h2:=JjY hB (l:=l) (n:=n) (fun r hr=>h r (by simp [hr])) (by simpa using hl);have e:((B*((n+1:Nat):Int):Int):Rat)=(B:Rat)+((B*(n:Int):Int):Rat):=by
   have : B*((n+1:Nat):Int)=B+B*(n:Int):=by push_cast;rw [Int.mul_add,Int.mul_one,Int.add_comm]
   rw [this];push_cast;rfl
  simp only [sm];rw [e];grind
theorem JiV (hc:RC b Q N w M gs ms) {g:Gp} (hg:g∈gs):g.way.length<=12:=Nat.le_trans (sub_len _ _ (hc.gw g hg).2.1 (hc.gw g hg).1) hc.l12
theorem Jgh (hc:RC b Q N w M gs ms) {g:Gp} (hg:g∈gs) {e:LidD} (he:LidOk w g lvs e):0<=e.load/\Mth.Sz 25 e.load:=by
 have d:=hc.gw g hg;have a:=sm_nn (JdU (lvs:=lvs) hc.wpos d.1);obtain ⟨B,l⟩:∃ B:Int,B=2097152:=⟨_,rfl⟩;have B0:0<=B:=by ac_nf
 have c:sm (left lvs w) g.way<=((B*(12:Nat):Int):Rat):=JjY B0 (fun q h=>by
  obtain ⟨k,j,i,f⟩:=hc.wt q (d.1 q h);have : k<=B:=by unfold Mth.Sz at f;ac_nf
  have : (k:Rat)<=(B:Rat):=by exact_mod_cast this
  unfold left;split
  ·exact_mod_cast B0
  ·rw [j];exact this) (JiV hc hg)
 rw [<- he.load] at a c;have a:0<=e.load:=by exact_mod_cast a
 have c:e.load<=B*(12:Nat):=Rat.intCast_le_intCast.mp c;refine ⟨a,?_⟩;unfold Mth.Sz;ac_nf
theorem JcF {s:(Int × Int) × List Str}:s∈stF ms lds S↔(∃ m∈ms,m.1∉S/\s=(m.2,[m.1]))\/∃ e∈lds,0<e.load/\s=(divF e.rest (e.load,1),(e.ws.map (·.1)).filter fun n=>decide (n∉S)):=by
 unfold stF;rw [mem_append,mem_map,mem_map];constructor
 ·rintro (⟨m,a,rfl⟩ | ⟨e,b,rfl⟩)
  ·have:=mem_filter.mp a;exact .inl ⟨m,this.1,by simpa using this.2,rfl⟩
  ·have:=mem_filter.mp b;exact .inr ⟨e,this.1,by simpa using this.2,rfl⟩
 ·rintro (⟨m,a,h,rfl⟩ | ⟨e,b,h,rfl⟩)
  ·exact .inl ⟨m,mem_filter.mpr ⟨a,by simpa using h⟩,rfl⟩
  ·exact .inr ⟨e,mem_filter.mpr ⟨b,by simpa using h⟩,rfl⟩
theorem RSt.len (hc:RC b Q N w M gs ms) (h:RSt b N w M gs lvs lds):lvs.length<=N.length:=by
 obtain ⟨L,a⟩:=h.inv;have:=sub_len _ _ a.nd a.sub;simpa using this
theorem RSt.all (hc:RC b Q N w M gs ms) (h:RSt b N w M gs lvs lds) (hl:N.length<=lvs.length):∀ n∈N,n∈lvs.map (·.1):=by
 obtain ⟨L,c⟩:=h.inv;intro n d;refine Classical.byContradiction fun z=>?_;have:=sub_len (n::lvs.map (·.1)) N (nodup_cons.mpr ⟨z,c.nd⟩) (fun q a=>by
  rcases mem_cons.mp a with e | a
  ·rw [e];exact d
  ·exact c.sub q a)
 simp at this;ac_nf
theorem RSt.lids (hc:RC b Q N w M gs ms) (h:RSt b N w M gs lvs lds):∀ e∈lds,FB 3000 1000 e.rest/\Mth.Sz 64 e.load/\e.ws.length<=12:=by
 intro e i;obtain ⟨L,j⟩:=h.inv;obtain ⟨D,d⟩:=h.bt;obtain ⟨g,a,c⟩:=h.ok.bwd i;have f:=Jgx hc j.s d (by have:=h.len hc;have:=hc.l12;ac_nf) a c;refine ⟨⟨f.s1.mono ⋯,f.s2.mono ⋯,f.b1,f.g1⟩,(Jgh hc a c).2.mono ⋯,?_⟩;have:=c.pm.length_eq;rw [length_map] at this;rw [this];exact JiV hc a
theorem RSt.some (hc:RC b Q N w M gs ms) (h:RSt b N w M gs lvs lds) (hl:lvs.length<N.length):stF ms lds (lvs.map (·.1))≠[]:=by
 intro z;have : ∀ n∈N,n∈lvs.map (·.1):=fun n a=>by
  rw [<- hc.nm] at a;obtain ⟨m,d,rfl⟩:=mem_map.mp a;refine Classical.byContradiction fun y=>?_;have : ((m.2,[m.1]):(Int × Int) × List Str)∈stF ms lds (lvs.map (·.1)):=JcF.mpr (.inl ⟨m,d,y,rfl⟩);rw [z] at this;cases this
 have:=sub_len N (lvs.map (·.1)) hc.nd (fun q c=>this q c);simp at this;ac_nf
theorem RSt.stops (hc:RC b Q N w M gs ms) (h:RSt b N w M gs lvs lds):∀ s∈stF ms lds (lvs.map (·.1)),FB 3000 1000 s.1/\∀ n∈s.2,n∈N/\n∉lvs.map (·.1):=by
 intro s i;rcases JcF.mp i with ⟨m,hm,hS,rfl⟩ | ⟨e,he,hl,rfl⟩
 ·have f:=(hc.ml m hm).2.1;refine ⟨⟨f.s1.mono ⋯,f.s2.mono ⋯,f.b1,f.g1⟩,fun n c=>?_⟩;rw [mem_singleton.mp c];exact ⟨hc.nm ▸ mem_map.mpr ⟨m,hm,rfl⟩,hS⟩
 ·obtain ⟨L,k⟩:=h.inv;obtain ⟨D,j⟩:=h.bt;obtain ⟨g,a,d⟩:=h.ok.bwd he;have f:=Jgx hc k.s j (by have:=h.len hc;have:=hc.l12;ac_nf) a d;have z:=Jgh hc a d;refine ⟨?_,fun n c=>?_⟩
  ·refine FB.low (Jcf f.b1 ∅) ?_ ?_
   ·show Mth.Sz 3000 (e.rest.1*1);rw [Int.mul_one];exact f.s1.mono ⋯
   ·exact (f.s2.mul z.2).mono ⋯
  ·have:=mem_filter.mp c;exact ⟨(hc.gw g a).1 n (d.pm.mem_iff.mp this.1),by simpa using this.2⟩
theorem RSt.first (hc:RC b Q N w M gs ms) (h:RSt b N w M gs lvs lds) (hlt:lvs.length<N.length) (hL:L∈(stF ms lds (lvs.map (·.1))).map (·.1)) (hmin:∀ s∈stF ms lds (lvs.map (·.1)),vl L<=vl s.1) (hnd:ns.Nodup) (hns:∀ n,n∈ns↔∃ s∈stF ms lds (lvs.map (·.1)),s.1=L/\n∈s.2) :
  ns≠[]/\(∀ n∈ns,n∈N/\n∉lvs.map (·.1))/\RInv N w M gs (lvs++ns.map fun n=>(n,L)) (vl L)/\∃ D,RMd b N w M gs L D (lvs.length+1) lvs lds:=by
 obtain ⟨L0,u⟩:=h.inv;obtain ⟨D,B⟩:=h.bt;have W:=h.stops hc;obtain ⟨s0,H,A⟩:=mem_map.mp hL;have S:FB 3000 1000 L:=A ▸ (W s0 H).1;have wp:=hc.wpos;have K:=fun (g:Gp) (c:g∈gs)=>(hc.gw g c).1;have X:∀ n∈N,n∉lvs.map (·.1)->vl L<=M n:=fun n f o=>by
  rw [<- hc.nm] at f;obtain ⟨m,i,rfl⟩:=mem_map.mp f;have:=hmin _ (JcF.mpr (.inl ⟨m,i,o,rfl⟩));rw [<- (hc.ml m i).1];exact this
 have P:∀ e g,g∈gs->LidOk w g lvs e->0<e.load->vl (divF e.rest (e.load,1))*sm (left lvs w) g.way=g.R-sm (used lvs w) g.way:=fun e g c d j=>by
  rw [Jka d.low.b1 (by show 1<=e.load;ac_nf) (Int.le_refl 1),Jf2, <- d.load, <- d.rest];exact Rat.div_mul_cancel (JaG ∅)
 have G:∀ g∈gs,0<sm (left lvs w) g.way->vl L*sm (left lvs w) g.way<=g.R-sm (used lvs w) g.way:=fun g c l=>by
  obtain ⟨e,E,d⟩:=h.ok.fwd c;have j:0<e.load:=by rw [<- d.load] at l;exact_mod_cast l
  have:=hmin _ (JcF.mpr (.inr ⟨e,E,j,rfl⟩));rw [<- P e g c d j];exact Rat.mul_le_mul_of_nonneg_right this (Rat.le_of_lt l)
 have key:∀ n,n∈ns↔n∈N/\n∉lvs.map (·.1)/\(M n=vl L\/∃ g∈gs,n∈g.way/\0<sm (left lvs w) g.way/\vl L*sm (left lvs w) g.way=g.R-sm (used lvs w) g.way):=fun n=>by
  rw [hns n];constructor
  ·rintro ⟨s,J,e1,T⟩;have F:=(W s J).2 n T;refine ⟨F.1,F.2,?_⟩;rcases JcF.mp J with ⟨m,i,o,rfl⟩ | ⟨e,E,j,rfl⟩
   ·left
    rw [mem_singleton.mp T, <- e1];exact (hc.ml m i).1.symm
   ·right
    obtain ⟨g,c,d⟩:=h.ok.bwd E;refine ⟨g,c,d.pm.mem_iff.mp (mem_filter.mp T).1,?_,?_⟩
    ·rw [<- d.load];exact_mod_cast j
    ·rw [<- e1];exact P e g c d j
  ·rintro ⟨f,o,e | ⟨g,c,hw,l,e⟩⟩
   ·rw [<- hc.nm] at f;obtain ⟨m,i,rfl⟩:=mem_map.mp f;exact ⟨_,JcF.mpr (.inl ⟨m,i,o,rfl⟩),(hc.ml m i).2.1.lo.inj S.lo ((hc.ml m i).1.trans e),by simp⟩
   ·obtain ⟨r,E,d⟩:=h.ok.fwd c;have j:0<r.load:=by rw [<- d.load] at l;exact_mod_cast l
    have i:((divF r.rest (r.load,1),(r.ws.map (·.1)).filter fun n=>decide (n∉lvs.map (·.1))):(Int × Int) × List Str)∈stF ms lds (lvs.map (·.1)):=JcF.mpr (.inr ⟨r,E,j,rfl⟩);refine ⟨_,i,(W _ i).1.lo.inj S.lo ?_,mem_filter.mpr ⟨d.pm.mem_iff.mpr hw,by simpa using o⟩⟩;have:=P r g c d j;rw [<- e] at this;have p':sm (left lvs w) g.way≠0:=fun z=>by rw [z] at l;exact absurd l ⋯
    show vl (divF r.rest (r.load,1))=vl L;grind
 have t:(∃ n∈N,n∉lvs.map (·.1)/\M n=vl L)\/∃ g∈gs,0<sm (left lvs w) g.way/\vl L*sm (left lvs w) g.way=g.R-sm (used lvs w) g.way/\∃ e:LidD,LidOk w g lvs e/\0<e.load/\L=divF e.rest (e.load,1):=by
  rcases JcF.mp H with ⟨m,i,o,rfl⟩ | ⟨e,E,j,rfl⟩
  ·exact .inl ⟨m.1,hc.nm ▸ mem_map.mpr ⟨m,i,rfl⟩,o,by rw [<- A];exact (hc.ml m i).1.symm⟩
  ·obtain ⟨g,c,d⟩:=h.ok.bwd E;refine .inr ⟨g,c,?_,by rw [<- A];exact P e g c d j,e,d,j,A.symm⟩;rw [<- d.load];exact_mod_cast j
 have C:vl L0<=vl L:=u.le (t.imp id fun ζ=>by obtain ⟨g,c,V,U,_⟩:=ζ;exact ⟨g,c,V,U⟩);have ne:ns≠[]:=fun z=>by
  rcases t with ⟨n,f,o,e⟩ | ⟨g,c,l,e,_⟩
  ·have:=(key n).mpr ⟨f,o, .inl e⟩;rw [z] at this;cases this
  ·have : ∃ n∈g.way,n∉lvs.map (·.1):=Classical.byContradiction fun y=>by
    rw [JcU (a:=left lvs w) fun q hq=>if_pos (Classical.byContradiction fun v=>y ⟨q,hq,v⟩)] at l;exact absurd l ⋯
   obtain ⟨n,f,o⟩:=this;have:=(key n).mpr ⟨K g c n f,o, .inr ⟨g,c,f,l,e⟩⟩;rw [z] at this;cases this
 refine ⟨ne,fun n f=>⟨((key n).mp f).1,((key n).mp f).2.1⟩,u.round wp K hnd X G key C,?_⟩;have si:SInv N w gs lvs L:=by
  refine ⟨u.nd,u.sub,fun x O=>⟨(u.a x O).1,Rat.le_trans (u.a x O).2.1 C⟩,Rat.le_trans u.c0 C,fun g c=>?_⟩;by_cases p:0<sm (left lvs w) g.way
  ·exact G g c p
  ·have e0:sm (left lvs w) g.way=0:=by have:=sm_nn (JdU (lvs:=lvs) wp (K g c));grind
   have:=u.cc g c;rw [e0] at this ⊢;grind
 obtain ⟨k,Z,ks,I⟩:∃ k:Int,1<=k/\Mth.Sz 25 k/\Dv D (vl L/(b:Rat)*(k:Rat)):=by
  rcases t with ⟨n,f,o,e⟩ | ⟨g,c,l,e,r,d,j,eL⟩
  ·obtain ⟨k,I,V,U⟩:=hc.wt n f;refine ⟨k,V,U.mono ⋯,?_⟩;have:=B.dm n f;rw [e,I] at this;exact this
  ·refine ⟨r.load,by ac_nf,(Jgh hc c d).2,?_⟩;have Y:=JhN (B.dr g c) (fun n f=>by obtain ⟨k,I,_⟩:=hc.wt n (K g c n f);exact ⟨k,I⟩) B.dl u.nd;rw [<- e, <- d.load] at Y;have : vl L/(b:Rat)*(r.load:Rat)=vl L*(r.load:Rat)/(b:Rat):=by grind
   rw [this];exact Y
 refine ⟨D*k,si,h.ok,⟨Jcf B.D1 Z,?_,fun x O=>(B.dl x O).more k,fun g c=>(B.dr g c).more k,fun n f=>(B.dm n f).more k⟩,by have:=hc.l12;ac_nf,I.over Z,S⟩;have:=B.sD.mul ks;rw [show 230+25*(lvs.length+1)=230+25*lvs.length+25 by ac_nf];exact this
theorem RMd.rest (hc:RC b Q N w M gs ms) (h:RMd b N w M gs L D k lvs lds):∀ e∈lds,FB 3000 1000 e.rest/\∀ x∈e.ws,Mth.Sz 64 x.2:=by
 intro e m;obtain ⟨g,i,a⟩:=h.ok.bwd m;have f:=Jgx hc h.inv h.bt (by have:=h.k12;ac_nf) i a;refine ⟨⟨f.s1.mono ⋯,f.s2.mono ⋯,f.b1,f.g1⟩,fun x d=>?_⟩;have c:x.1∈N:=(hc.gw g i).1 _ (a.pm.mem_iff.mp (mem_map.mpr ⟨x,d,rfl⟩));obtain ⟨k,l,_,j⟩:=hc.wt _ c;have:=(a.wt x d).1;rw [l] at this;have : k=x.2:=by exact_mod_cast this
 rw [<- this];exact j.mono ⋯
theorem RMd.step (hc:RC b Q N w M gs ms) (h:RMd b N w M gs L D k lvs lds) {n:Str} (hn:n∈N) (hS:n∉lvs.map (·.1)):RMd b N w M gs L D k (lvs++[(n,L)]) (lds.map fun e=>e.settle n L):=by
 refine ⟨h.inv.step (fun g f=>(hc.gw g f).2.1) hn hS,⟨by rw [length_map];exact h.ok.1,fun i g e f j=>?_⟩,⟨h.bt.D1,h.bt.sD,fun x c=>?_,h.bt.dr,h.bt.dm⟩,h.k12,h.dL,h.fL⟩
 ·rw [List.getElem?_map] at j;obtain ⟨l,d,rfl⟩:=Option.map_eq_some_iff.mp j;exact (h.ok.2 i g l f d).settle h.inv.nd hS h.fL.lo fun x c=>(h.inv.a x c).2
 ·rcases mem_append.mp c with c | c
  ·exact h.bt.dl x c
  ·rw [mem_singleton.mp c];exact h.dL
theorem RMd.next (hc:RC b Q N w M gs ms) (h:RMd b N w M gs L D k (lvs++ns.map fun n=>(n,L)) lds) (hi:RInv N w M gs (lvs++ns.map fun n=>(n,L)) (vl L)) (hlo:∀ x∈lvs,Lo x.2) (hk:k<=lvs.length+ns.length):RSt b N w M gs (lvs++ns.map fun n=>(n,L)) lds:=by
 refine ⟨⟨L,hi⟩,h.ok,⟨D,h.bt.D1,h.bt.sD.mono (by simp;ac_nf),h.bt.dl,h.bt.dr,h.bt.dm⟩,fun x a=>?_⟩;rcases mem_append.mp a with a | a
 ·exact hlo x a
 ·obtain ⟨n,_,rfl⟩:=mem_map.mp a;exact h.fL.lo
end
theorem All2.put {P P' : α->V->Prop}:∀ {as:List α} {xs:List V} {j:Nat} {a' : α} {x:V},All2 P as xs->xs[j]?=some x->P' a' x->(∀ (i:Nat) a y,i≠j->as[i]?=some a->xs[i]?=some y->P a y->P' a y)->All2 P' (as.set j a') xs
 | [],xs,j,a',x,h,hx,_,_=>by
  have h:xs=[]:=h;subst h;cases hx
 | a::as,xs,0,a',x,h,hx,p,m=>by
  obtain ⟨y,r,rfl,h1,h2⟩:=h;have hx:y=x:=by simpa using hx
  subst hx;refine ⟨y,r,rfl,p,?_⟩;have go:∀ {as:List α} {r:List V},All2 P as r->(∀ (i:Nat) a y,as[i]?=some a->r[i]?=some y->P a y->P' a y)->All2 P' as r:=by
   intro as;induction as with
   | nil=>intro r h _;exact h
   | cons b bs ih=>
    intro r h m;obtain ⟨z,t,rfl,h1,h2⟩:=h;exact ⟨z,t,rfl,m 0 b z rfl rfl h1,ih h2 fun i a y ha hy=>m (i+1) a y (by simpa using ha) (by simpa using hy)⟩
  exact go h2 fun i a y ha hy=>m (i+1) a y ∅ (by simpa using ha) (by simpa using hy)
 | a::as,xs,j+1,a',x,h,hx,p,m=>by
  obtain ⟨y,r,rfl,h1,h2⟩:=h;refine ⟨y,r,rfl,m 0 a y ∅ rfl rfl h1,All2.put h2 (by simpa using hx) p fun i a y ne ha hy=>m (i+1) a y ∅ (by simpa using ha) (by simpa using hy)⟩
theorem Jku {f : α->α} {ls:List α}:((ls.take j).map f++ls.drop j)[j]?=ls[j]?:=by
 by_cases c:j<=ls.length
 ·have e:((ls.take j).map f).length=j:=by rw [length_map,length_take];ac_nf
  rw [List.getElem?_append_right ∅,e,List.getElem?_drop];simp
 ·have e:((ls.take j).map f++ls.drop j).length<=j:=by simp;ac_nf
  rw [List.getElem?_eq_none e,List.getElem?_eq_none ∅]
theorem JgN {f : α->α}:∀ {ls:List α} {j:Nat} {e : α},ls[j]?=some e->((ls.take j).map f++ls.drop j).set j (f e)=(ls.take (j+1)).map f++ls.drop (j+1)
 | [],j,e,h=>by simp at h
 | a::ls,0,e,h=>by
  have h:a=e:=by simpa using h
  subst h;simp
 | a::ls,j+1,e,h=>by
  have:=JgN (f:=f) (ls:=ls) (j:=j) (e:=e) (by simpa using h);simp only [List.take_succ_cons,map_cons,List.drop_succ_cons,cons_append,List.set_cons_succ,this]
theorem JiX {ns:List α} {i:Nat} {n : α} (h:ns.Nodup) (hn:ns[i]?=some n):n∉ns.take i:=by
 intro z;rw [<- List.take_append_drop i ns,nodup_append] at h;refine h.2.2 n z n (List.mem_of_getElem? (i:=0) ?_) rfl;rw [List.getElem?_drop];exact hn
variable {n:Str} {L:Int × Int}
theorem JiB {e:LidD}:(e.settle n L).nm=e.nm:=by
 unfold LidD.settle;split <;> rfl
theorem Jhs {ls:List LidD}:(ls.map fun e=>e.settle n L).map (·.nm)=ls.map (·.nm):=by
 rw [map_map];exact List.map_congr_left fun e _=>JiB
structure ShD where
 nm:Str
 sl:Int × Int
 sp:Option Str
def wtF (ls:List PD) (n:Str):Rat:=((ls.find? fun p=>decide (p.nm=n)).map fun p=>(p.wt:Rat)).getD 0
def moF (ls:List PD) (n:Str):Rat:=((ls.find? fun p=>decide (p.nm=n)).map fun p=>vl p.mo/(p.wt:Rat)).getD 0
def gpF (es:List (GD × List Str)) (pl:Str->Int × Int):List Gp:=es.map fun e=>⟨vl (roomF pl e.1),e.2⟩
def gpB (b:Int) (es:List (GD × List Str)) (pl:Str->Int × Int):List Gp:=es.map fun e=>⟨vl (roomF pl e.1)*(b:Rat),e.2⟩
def stp (w f:Str->Rat) (pl:Str->Int × Int) (n:Str) (e:GD × List Str):Bool:=decide (n∈e.2)&&(decide (sm (fun q=>f q*w q) e.2=vl (roomF pl e.1))&&decide (∀ q∈e.2,f q<=f n))
structure ShRow (ls:List PD) (es:List (GD × List Str)) (pl:Str->Int × Int) (f:Str->Rat) (p:PD) (r:ShD):Prop where
 nm:r.nm=p.nm
 lo:Lo r.sl
 val:vl r.sl=f p.nm*(p.wt:Rat)
 sp:(r.sl=p.mo/\r.sp=none)\/(r.sl≠p.mo/\∃ e,es.find? (stp (wtF ls) f pl p.nm)=some e/\r.sp=some e.1.nm)
structure ShF (ls:List PD) (es:List (GD × List Str)) (pl:Str->Int × Int) (f:Str->Rat) (D:Int):Prop where
 sub:∀ e∈es,(∀ n∈e.2,n∈ls.map (·.nm))/\e.2.Nodup
 fair:Fair (ls.map (·.nm)) (wtF ls) (moF ls) (gpF es pl) f
 D1:1<=D
 sD:Mth.Sz 600 D
 dv:∀ n∈ls.map (·.nm),Dv D (f n)
structure ShR (ls:List PD) (es:List (GD × List Str)) (pl:Str->Int × Int) (rs:List ShD):Prop where
 len:rs.length=ls.length
 ex:∃ f D,ShF ls es pl f D/\∀ (i:Nat) p r,ls[i]?=some p->rs[i]?=some r->ShRow ls es pl f p r
theorem Jge:∀ {ls:List PD} {p:PD},(ls.map (·.nm)).Nodup->p∈ls->ls.find? (fun q=>decide (q.nm=p.nm))=some p
 | [],_,_,h=>by cases h
 | a::ls,p,hn,h=>by
  rw [map_cons,nodup_cons] at hn;rw [List.find?_cons];rcases mem_cons.mp h with e | h
  ·subst e;simp
  ·have : a.nm≠p.nm:=fun z=>hn.1 (z ▸ mem_map.mpr ⟨p,h,rfl⟩);rw [decide_eq_false this];exact Jge hn.2 h
section
variable {es:List (GD × List Str)} {f':Str->Rat} {rs rs':List ShD} {f:Str->Rat}
theorem Jg4 (hn:(ls.map (·.nm)).Nodup) (hp:p∈ls):wtF ls p.nm=(p.wt:Rat):=by
 unfold wtF;rw [Jge hn hp];rfl
theorem JfG (hn:(ls.map (·.nm)).Nodup) (hp:p∈ls):moF ls p.nm=vl p.mo/(p.wt:Rat):=by
 unfold moF;rw [Jge hn hp];rfl
theorem Jlj (hn:(ls.map (·.nm)).Nodup) (hk:∀ p∈ls,1<=p.wt):∀ n∈ls.map (·.nm),0<wtF ls n:=fun n h=>by
 obtain ⟨p,a,rfl⟩:=mem_map.mp h;rw [Jg4 hn a];have:=hk p a;exact_mod_cast (show 0<p.wt by ac_nf)
theorem Jgf {g:Gp} (h:g∈gpF es pl):∃ e∈es,g=⟨vl (roomF pl e.1),e.2⟩:=by
 obtain ⟨e,a,rfl⟩:=mem_map.mp h;exact ⟨e,a,rfl⟩
theorem ShR.uniq (hn:(ls.map (·.nm)).Nodup) (hk:∀ p∈ls,1<=p.wt) (h:ShR ls es pl rs) (k:ShR ls es pl rs'):rs=rs':=by
 obtain ⟨T,f,D,F,R⟩:=h;obtain ⟨V,o,D',F',I⟩:=k;have O:=Jlj hn hk;have M:∀ g∈gpF es pl, ∀ n∈g.way,n∈ls.map (·.nm):=fun g H=>by
  obtain ⟨e,P,rfl⟩:=Jgf H;exact (F.sub e P).1
 have e:=F.fair.uniq O M F'.fair;refine List.ext_getElem? fun i=>?_;by_cases c:i<ls.length
 ·have E:i<rs.length:=by ac_nf
  have K:i<rs'.length:=by ac_nf
  have u:=List.getElem?_eq_getElem c;have B:=List.getElem?_eq_getElem E;have z:=List.getElem?_eq_getElem K;have r:=R i _ _ u B;have s:=I i _ _ u z;rw [B,z];generalize ls[i]=p at *;generalize rs[i]=a at *;generalize rs'[i]=b at *;have v:p∈ls:=List.mem_of_getElem? u;have m:p.nm∈ls.map (·.nm):=mem_map.mpr ⟨p,v,rfl⟩;have d:a.sl=b.sl:=r.lo.inj s.lo (by rw [r.val,s.val,e _ m]);have C:es.find? (stp (wtF ls) f pl p.nm)=es.find? (stp (wtF ls) o pl p.nm):=by
   have J:∀ {t:List (GD × List Str)},(∀ x∈t,x∈es)->t.find? (stp (wtF ls) f pl p.nm)=t.find? (stp (wtF ls) o pl p.nm):=by
    intro t;induction t with
    | nil=>intro _;rfl
    | cons x t ih=>
     intro A;have : stp (wtF ls) f pl p.nm x=stp (wtF ls) o pl p.nm x:=by
      have j:=(F.sub x (A x (by simp))).1;have L:sm (fun q=>f q*wtF ls q) x.2=sm (fun q=>o q*wtF ls q) x.2:=JbG fun q l=>by rw [e q (j q l)]
      have N:(∀ q∈x.2,f q<=f p.nm)↔∀ q∈x.2,o q<=o p.nm:=by
       constructor
       ·intro h q l;rw [<- e q (j q l), <- e _ m];exact h q l
       ·intro h q l;rw [e q (j q l),e _ m];exact h q l
      unfold stp;rw [L,decide_eq_decide.mpr N]
     rw [List.find?_cons,List.find?_cons,this,ih fun y G=>A y (by simp [G])]
   exact J fun _ h=>h
  have w:a.sp=b.sp:=by
   rcases r.sp with ⟨x1,x2⟩ | ⟨x1,e1,x2,x3⟩ <;> rcases s.sp with ⟨y1,y2⟩ | ⟨y1,e2,y2,y3⟩
   ·rw [x2,y2]
   ·exact absurd (d ▸ x1) y1
   ·exact absurd (d ▸ y1) x1
   ·rw [C,y2] at x2;cases x2;rw [x3,y3]
  have nm:a.nm=b.nm:=r.nm.trans s.nm.symm;obtain ⟨U,W,Q⟩:=a;obtain ⟨Y,S,X⟩:=b;simp only at nm d w;rw [nm,d,w]
 ·rw [List.getElem?_eq_none ∅,List.getElem?_eq_none ∅]
end
theorem JjJ:∀ (fs:List (Int × Int)) (k:Nat),(∀ a∈fs,1<=a.2/\Mth.Sz 16 a.2)->fs.length<=k->∃ D:Int,1<=D/\Mth.Sz (16*k+1) D/\∀ a∈fs,Dv D (vl a)
 | [],k,_,_=>⟨1,by decide,by unfold Mth.Sz;exact Nat.one_lt_two_pow ∅,fun a ha=>by cases ha⟩
 | a::fs,0,_,h=>by simp at h
 | a::fs,k+1,h,hl=>by
  obtain ⟨D,h1,h2,h3⟩:=JjJ fs k (fun x hx=>h x (by simp [hx])) (by simpa using hl);obtain ⟨a1,a2⟩:=h a (by simp);refine ⟨D*a.2,Jcf h1 a1,?_,fun x hx=>?_⟩
  ·have:=h2.mul a2;rw [show 16*(k+1)+1=16*k+1+16 by ac_nf];exact this
  ·rcases mem_cons.mp hx with e | hx
   ·subst e;refine Dv.over a1 ?_;have : vl x*(x.2:Rat)=(x.1:Rat):=by
     unfold vl;exact Rat.div_mul_cancel (JaG a1)
    rw [this];exact Dv.int _
   ·exact (h3 x hx).more _
theorem JiR (h:1<=a.2) (h0:0<=a.1):vl a<=(a.1:Rat):=by
 unfold vl;have p:(0:Rat)<(a.2:Rat):=by exact_mod_cast (show 0<a.2 by ac_nf)
 have e:(a.1:Rat)/(a.2:Rat)*(a.2:Rat)=(a.1:Rat):=Rat.div_mul_cancel (JaG h);have q:(a.1:Rat)<=(a.1:Rat)*(a.2:Rat):=by
  have : a.1<=a.1*a.2:=by
   have:=Int.mul_le_mul_of_nonneg_left h h0;ac_nf
  exact_mod_cast this
 rw [<- scaled p,e];exact q
theorem vl_nn (h:1<=a.2):0<=vl a↔0<=a.1:=by
 unfold vl;have p:(0:Rat)<(a.2:Rat):=by exact_mod_cast (show 0<a.2 by ac_nf)
 have e:(a.1:Rat)/(a.2:Rat)*(a.2:Rat)=(a.1:Rat):=Rat.div_mul_cancel (JaG h);rw [<- scaled p,e,Rat.zero_mul];exact_mod_cast Iff.rfl
theorem JiE:∀ (ws:List (Str × Int)) (w:Str->Rat),(∀ x∈ws,w x.1=(x.2:Rat))->(((ws.map (·.2)).sum:Int):Rat)=sm w (ws.map (·.1))
 | [],_,_=>rfl
 | x::ws,w,h=>by
  have ih:=JiE ws w fun y hy=>h y (by simp [hy]);simp only [map_cons,List.sum_cons,sm,h x (by simp), <- ih];push_cast;rfl
variable {es:List (GD × List Str)} {lds:List LidD} {ms:List (Str × (Int × Int))} {q0:Int}
theorem LSt.way {e:GD × List Str} {l:LidD} (h:LSt b ls pl e l):(∀ n∈e.2,n∈ls.map (·.nm))/\e.2.Nodup:=by
 refine ⟨fun n c=>?_,h.pm.nodup_iff.mp h.nd⟩;obtain ⟨x,a,rfl⟩:=mem_map.mp (h.pm.mem_iff.mpr c);obtain ⟨p,d,e,_⟩:=h.wt x a;exact mem_map.mpr ⟨p,d,e⟩
theorem JjW (hl:lds.length=es.length) (hls:∀ (i:Nat) e l,es[i]?=some e->lds[i]?=some l->LSt b ls pl e l):∀ e∈es,(∀ n∈e.2,n∈ls.map (·.nm))/\e.2.Nodup:=fun e c=>by
 obtain ⟨i,a⟩:=List.getElem?_of_mem c;have d:=(List.getElem?_eq_some_iff.mp a).1;exact (hls i e _ a (List.getElem?_eq_getElem ∅)).way
theorem Jjx (b1:1<=b) (sb:Mth.Sz 2000 b) (hc:SHC ls es pl) (hr:∀ e∈es,0<=vl (roomF pl e.1)) (hl:lds.length=es.length) (hls:∀ (i:Nat) e l,es[i]?=some e->lds[i]?=some l->LSt b ls pl e l) (hm:ms.length=ls.length) (hms:∀ (i:Nat) p m,ls[i]?=some p->ms[i]?=some m->MSt b p m):∃ q0,RC b q0 (ls.map (·.nm)) (wtF ls) (fun n=>moF ls n*(b:Rat)) (gpB b es pl) ms/\RSt b (ls.map (·.nm)) (wtF ls) (fun n=>moF ls n*(b:Rat)) (gpB b es pl) [] lds:=by
 have J:=JjW hl hls;have z:(0:Rat)<(b:Rat):=by exact_mod_cast (show 0<b by ac_nf)
 have X:=JaG b1;have I:∀ m∈ms, ∃ p∈ls,MSt b p m:=fun m s=>by
  obtain ⟨i,M⟩:=List.getElem?_of_mem s;have Z:=(List.getElem?_eq_some_iff.mp M).1;exact ⟨ls[i]'∅,List.getElem_mem _,hms i _ m (List.getElem?_eq_getElem ∅) M⟩
 obtain ⟨B,U,R,G⟩:∃ B:Int,Mth.Sz 200 B/\0<=B/\∀ x,Mth.Sz 200 x->x<=B:=⟨2 ^ 200-1,by unfold Mth.Sz;decide,by decide,fun x k=>by unfold Mth.Sz at k;ac_nf⟩;have A:∀ g∈gpB b es pl, ∃ e∈es,g=⟨vl (roomF pl e.1)*(b:Rat),e.2⟩:=fun g A=>by
  obtain ⟨e,f,rfl⟩:=mem_map.mp A;exact ⟨e,f,rfl⟩
 have C:∀ p∈ls,1<=p.wt:=fun p d=>(hc.pok p d).w;have y:∀ p∈ls,0<=vl p.mo:=fun p d=>(vl_nn (hc.pb p d).2.b1).mpr (hc.pok p d).m0;have M0:∀ p∈ls,0<=moF ls p.nm/\moF ls p.nm<=vl p.mo:=fun p d=>by
  rw [JfG hc.nd d];have N:=C p d;have O:(0:Rat)<(p.wt:Rat):=by exact_mod_cast (show 0<p.wt by ac_nf)
  have e:vl p.mo/(p.wt:Rat)*(p.wt:Rat)=vl p.mo:=Rat.div_mul_cancel (JaG N);have L:=y p d;constructor
  ·rw [<- scaled O,e,Rat.zero_mul];exact L
  ·rw [<- scaled O,e];have : (1:Rat)<=(p.wt:Rat):=by exact_mod_cast N
   have:=Rat.mul_le_mul_of_nonneg_left this L;rw [Rat.mul_one] at this;exact this
 have top:∀ a:Int × Int,FB 200 16 a->0<=vl a->vl a<=(B:Rat):=fun a H Q=>by
  refine Rat.le_trans (JiR H.b1 ((vl_nn H.b1).mp Q)) ?_;exact_mod_cast G _ H.s1
 have v:((B*b:Int):Rat)=(B:Rat)*(b:Rat):=by push_cast;rfl
 have P:RC b (B*b) (ls.map (·.nm)) (wtF ls) (fun n=>moF ls n*(b:Rat)) (gpB b es pl) ms:=by
  refine ⟨b1,?_,hc.nd,by rw [length_map];exact hc.l12,fun n o=>?_,fun m s=>?_,fun g j=>?_,fun n o=>?_,(U.mul sb)⟩
  ·refine List.ext_getElem? fun i=>?_;rw [List.getElem?_map,List.getElem?_map];by_cases c:i<ls.length
   ·rw [List.getElem?_eq_getElem c,List.getElem?_eq_getElem (by ac_nf:i<ms.length)];exact congrArg some (hms i _ _ (List.getElem?_eq_getElem c) (List.getElem?_eq_getElem ∅)).nm
   ·rw [List.getElem?_eq_none ∅,List.getElem?_eq_none ∅];rfl
  ·obtain ⟨p,d,rfl⟩:=mem_map.mp o;exact ⟨p.wt,Jg4 hc.nd d,C p d,hc.wt p d⟩
  ·obtain ⟨p,d,h⟩:=I m s;refine ⟨?_,h.fb,?_⟩
   ·rw [h.vl,h.nm,JfG hc.nd d];grind
   ·rw [h.nm];exact Rat.mul_nonneg (M0 p d).1 (Rat.le_of_lt z)
  ·obtain ⟨e,f,rfl⟩:=A g j;refine ⟨(J e f).1,(J e f).2,Rat.mul_nonneg (hr e f) (Rat.le_of_lt z),?_⟩;rw [v];exact Rat.mul_le_mul_of_nonneg_right (top _ (hc.rb e f) (hr e f)) (Rat.le_of_lt z)
  ·obtain ⟨p,d,rfl⟩:=mem_map.mp o;rw [v];exact Rat.mul_le_mul_of_nonneg_right (Rat.le_trans (M0 p d).2 (top _ ((hc.pb p d).2.mono ⋯ ⋯) (y p d))) (Rat.le_of_lt z)
 refine ⟨_,P,⟨(0,1),?_⟩,⟨by unfold gpB;rw [length_map];exact hl,fun i g l r E=>?_⟩,?_,fun x k=>by cases k⟩
 ·rw [Jfp];refine RInv.start (fun n o=>?_) (fun g j=>(P.gw g j).2.2.1);obtain ⟨p,d,rfl⟩:=mem_map.mp o;exact Rat.mul_nonneg (M0 p d).1 (Rat.le_of_lt z)
 ·unfold gpB at r;rw [List.getElem?_map] at r;obtain ⟨e,f,rfl⟩:=Option.map_eq_some_iff.mp r;have h:=hls i e l f E;have u:∀ x∈l.ws,wtF ls x.1=(x.2:Rat)/\1<=x.2:=fun x k=>by
   obtain ⟨p,d,V,T⟩:=h.wt x k;rw [<- V, <- T];exact ⟨Jg4 hc.nd d,C p d⟩
  have S:sm (used [] (wtF ls)) e.2=0:=JcU fun q _=>by
   unfold used;rw [Jcl (by simp),Rat.zero_mul]
  refine ⟨h.pm,h.nd,u,?_,?_,h.fb.lo,?_,(fun n _ F=>by cases F),fun ζ=>by obtain ⟨n,_,F⟩:=ζ;cases F⟩
  ·rw [h.rest];show _=_-sm (used [] (wtF ls)) e.2;rw [S];grind
  ·rw [h.load,JiE l.ws (wtF ls) fun x k=>(u x k).1,Jld h.pm];exact JbG fun q _=>by unfold left;rw [if_neg (by simp)]
  ·rw [h.last];exact ⟨Int.le_refl 1,by unfold Mth.g;simp⟩
 ·obtain ⟨D,D1,W,K⟩:=JjJ (ls.map (·.mo)++es.map fun e=>roomF pl e.1) 14 (fun a t=>by
   rcases mem_append.mp t with t | t
   ·obtain ⟨p,d,rfl⟩:=mem_map.mp t;exact ⟨(hc.pb p d).2.b1,(hc.pb p d).2.s2.mono ⋯⟩
   ·obtain ⟨e,f,rfl⟩:=mem_map.mp t;exact ⟨(hc.rb e f).b1,(hc.rb e f).s2⟩) (by rw [length_append,length_map,length_map];exact hc.l14)
  refine ⟨D,D1,W.mono (by simp),fun x k=>(by cases k),fun g j=>?_,fun n o=>?_⟩
  ·obtain ⟨e,f,rfl⟩:=A g j;show Dv D (vl (roomF pl e.1)*(b:Rat)/(b:Rat));rw [show vl (roomF pl e.1)*(b:Rat)/(b:Rat)=vl (roomF pl e.1) by grind];exact K _ (mem_append.mpr (.inr (mem_map.mpr ⟨e,f,rfl⟩)))
  ·obtain ⟨p,d,rfl⟩:=mem_map.mp o;rw [JfG hc.nd d,Jg4 hc.nd d];have Y:=JaG (C p d);rw [show vl p.mo/(p.wt:Rat)*(b:Rat)/(b:Rat)*(p.wt:Rat)=vl p.mo by grind];exact K _ (mem_append.mpr (.inl (mem_map.mpr ⟨p,d,rfl⟩)))
theorem JfB {γ:Type} {P : α->Bool} {R : β->Bool} {f : α->γ} {g : β->γ}:∀ {as:List α} {bs:List β},as.length=bs.length->(∀ (i:Nat) a b,as[i]?=some a->bs[i]?=some b->P a=R b/\f a=g b)->(as.find? P).map f=(bs.find? R).map g
 | [],[],_,_=>rfl
 | [],b::bs,h,_=>by simp at h
 | a::as,[],h,_=>by simp at h
 | a::as,b::bs,h,k=>by
  obtain ⟨h1,h2⟩:=k 0 a b rfl rfl;have ih:=JfB (as:=as) (bs:=bs) (by simpa using h) fun i x y hx hy=>k (i+1) x y (by simpa using hx) (by simpa using hy);rw [List.find?_cons,List.find?_cons,h1];cases R b with
  | true=>exact congrArg some h2
  | false=>exact ih
theorem JiD {lv w:Str->Rat} {c:Rat}:∀ (l:List Str),sm (fun n=>lv n/c*w n) l=sm (fun n=>lv n*w n) l/c
 | []=>by simp only [sm];grind
 | n::l=>by
  simp only [sm,JiD l];grind
abbrev RCs (b q0:Int) (ls:List PD) (es:List (GD × List Str)) (pl:Str->Int × Int) (ms:List (Str × (Int × Int))):Prop:=RC b q0 (ls.map (·.nm)) (wtF ls) (fun n=>moF ls n*(b:Rat)) (gpB b es pl) ms
abbrev RSs (b:Int) (ls:List PD) (es:List (GD × List Str)) (pl:Str->Int × Int) (lvs:List (Str × (Int × Int))) (lds:List LidD):Prop:=RSt b (ls.map (·.nm)) (wtF ls) (fun n=>moF ls n*(b:Rat)) (gpB b es pl) lvs lds
def lvf (b:Int) (lvs:List (Str × (Int × Int))) (n:Str):Rat:=lvv lvs n/(b:Rat)
theorem Jl4 (rc:RCs b q0 ls es pl ms) (rs:RSs b ls es pl lvs lds) (hl:(ls.map (·.nm)).length<=lvs.length) {n:Str} (hn:n∈ls.map (·.nm)):∃ x∈lvs,x.1=n/\lvv lvs n=vl x.2:=by
 obtain ⟨x,a,e⟩:=mem_map.mp (rs.all rc hl n hn);obtain ⟨L,c⟩:=rs.inv;have e:x.1=n:=e;exact ⟨x,a,e,e ▸ JdY c.nd a⟩
theorem sh_at (rs:RSs b ls es pl lvs lds) {x:Str × (Int × Int)} (hx:x∈lvs):lvv lvs x.1=vl x.2:=by
 obtain ⟨L,a⟩:=rs.inv;exact JdY a.nd hx
theorem sh_lv (rc:RCs b q0 ls es pl ms) (rs:RSs b ls es pl lvs lds) {x:Str × (Int × Int)} (hx:x∈lvs):FB 2800 600 x.2:=by
 obtain ⟨L,f⟩:=rs.inv;obtain ⟨D,c⟩:=rs.bt;have d:=f.a x hx;have h:=rc.mq x.1 (f.sub _ (mem_map.mpr ⟨x,hx,rfl⟩));have e:=rs.lo x hx;have i:=rs.len rc;have g:=rc.l12;exact ((c.dl x hx).up rc.b1).fb (m:=2200) (n:=600) e.b1 e.g1 c.D1 (c.sD.mono ∅) d.1 (Rat.le_trans d.2.2 h) rc.sQ
theorem JiC (hw:∀ e∈es,(∀ n∈e.2,n∈ls.map (·.nm))/\e.2.Nodup) (rc:RCs b q0 ls es pl ms) (rs:RSs b ls es pl lvs lds) (hl:(ls.map (·.nm)).length<=lvs.length):∃ D,ShF ls es pl (lvf b lvs) D:=by
 obtain ⟨L,r⟩:=rs.inv;obtain ⟨D,i⟩:=rs.bt;have F:=r.fair rc.wpos (fun g c=>(rc.gw g c).1) (rs.all rc hl);have f:(0:Rat)<(b:Rat):=by have:=rc.b1;exact_mod_cast (show 0<b by ac_nf)
 have k:=JaG rc.b1;have e:∀ n,lvf b lvs n*(b:Rat)=lvv lvs n:=fun n=>Rat.div_mul_cancel k;have t:=rs.len rc;have o:=rc.l12;have m:∀ l,sm (fun n=>lvf b lvs n*wtF ls n) l*(b:Rat)=sm (fun n=>lvv lvs n*wtF ls n) l:=fun l=>by
  unfold lvf;rw [JiD,Rat.div_mul_cancel k]
 refine ⟨D,hw,⟨fun n a=>?_,fun n a=>?_,fun g c=>?_,fun n a=>?_⟩,i.D1,i.sD.mono ∅,fun n a=>?_⟩
 ·rw [<- scaled f,e,Rat.zero_mul];exact F.lo n a
 ·rw [<- scaled f,e];exact F.hi n a
 ·obtain ⟨x,d,rfl⟩:=Jgf c;rw [<- scaled f,m];exact F.fit ⟨vl (roomF pl x.1)*(b:Rat),x.2⟩ (mem_map.mpr ⟨x,d,rfl⟩)
 ·rcases F.stop n a with h | ⟨g,c,h1,j,h3⟩
  ·left
   have:=e n;rw [h] at this;grind
  ·right
   obtain ⟨x,d,rfl⟩:=mem_map.mp c;refine ⟨⟨vl (roomF pl x.1),x.2⟩,mem_map.mpr ⟨x,d,rfl⟩,h1,?_,fun q s=>?_⟩
   ·have j:sm (fun n=>lvv lvs n*wtF ls n) x.2=vl (roomF pl x.1)*(b:Rat):=j;rw [<- m] at j;show sm (fun n=>lvf b lvs n*wtF ls n) x.2=vl (roomF pl x.1);grind
   ·rw [<- scaled f,e,e];exact h3 q s
 ·obtain ⟨x,d,rfl,p⟩:=Jl4 rc rs hl a;unfold lvf;rw [p];exact i.dl x d
theorem JkD (rc:RCs b q0 ls es pl ms) (rs:RSs b ls es pl lvs lds) (hl:(ls.map (·.nm)).length<=lvs.length) {i:Nat} {e:GD × List Str} {l:LidD} (he:es[i]?=some e) (hli:lds[i]?=some l) {x:Str × (Int × Int)} (hx:x∈lvs):((wtOf l.ws x.1).isSome&&(decide (l.rest=(0,1))&&decide (l.last=x.2)))=stp (wtF ls) (lvf b lvs) pl x.1 e:=by
 have a:=rs.ok.2 i ⟨vl (roomF pl e.1)*(b:Rat),e.2⟩ l (by unfold gpB;rw [List.getElem?_map,he];rfl) hli;have t:(0:Rat)<(b:Rat):=by have:=rc.b1;exact_mod_cast (show 0<b by ac_nf)
 have r:=JaG rc.b1;have d:∀ n,lvf b lvs n*(b:Rat)=lvv lvs n:=fun n=>Rat.div_mul_cancel r;have y:∀ l,sm (fun n=>lvf b lvs n*wtF ls n) l*(b:Rat)=sm (fun n=>lvv lvs n*wtF ls n) l:=fun l=>by
  unfold lvf;rw [JiD,Rat.div_mul_cancel r]
 have all:=rs.all rc hl;have m:=(rc.gw ⟨vl (roomF pl e.1)*(b:Rat),e.2⟩ (by unfold gpB;exact mem_map.mpr ⟨e,List.mem_of_getElem? he,rfl⟩)).1;have f:=rs.lo x hx;have o:=sh_at rs hx;unfold stp;have B:(wtOf l.ws x.1).isSome=decide (x.1∈e.2):=by
  by_cases c:x.1∈e.2
  ·rw [decide_eq_true c];cases h:wtOf l.ws x.1 with
   | none=>exact absurd (a.pm.mem_iff.mpr c) (JgD.mp h)
   | some k=>rfl
  ·rw [decide_eq_false c,JgD.mpr fun z=>c (a.pm.mem_iff.mp z)];rfl
 have v:decide (l.rest=(0,1))=decide (sm (fun q=>lvf b lvs q*wtF ls q) e.2=vl (roomF pl e.1)):=by
  refine decide_eq_decide.mpr ?_;have j:l.rest=(0,1)↔vl l.rest=0:=by
   rw [<- Jfp];exact ⟨fun h=>by rw [h],fun h=>a.low.inj ⟨Int.le_refl 1,by unfold Mth.g;simp⟩ h⟩
  have p:vl l.rest=vl (roomF pl e.1)*(b:Rat)-sm (fun n=>lvv lvs n*wtF ls n) e.2:=a.rest;rw [j,p, <- y];constructor <;> intro h <;> grind
 rw [B,v];by_cases c:x.1∈e.2
 ·have A:decide (l.last=x.2)=decide (∀ q∈e.2,lvf b lvs q<=lvf b lvs x.1):=by
   refine decide_eq_decide.mpr ?_;have j:l.last=x.2↔vl l.last=lvv lvs x.1:=by
    rw [o];exact ⟨fun h=>by rw [h],fun h=>a.llow.inj f h⟩
   rw [j];constructor
   ·intro h q s;rw [<- scaled t,d,d, <- h];exact a.l1 q s (all q (m q s))
   ·intro h;obtain ⟨n,u,_,w⟩:=a.l2 ⟨x.1,c,all _ (m _ c)⟩;have p:=h n u;rw [<- scaled t,d,d,w] at p;have C:=a.l1 x.1 c (all _ (m _ c));grind
  rw [A]
 ·rw [decide_eq_false c];rfl
theorem Jk9 (hw:∀ e∈es,(∀ n∈e.2,n∈ls.map (·.nm))/\e.2.Nodup) (rc:RCs b q0 ls es pl ms) (rs:RSs b ls es pl lvs lds) (hl:(ls.map (·.nm)).length<=lvs.length) (hn:lds.map (·.nm)=es.map (·.1.nm)) {x:Str × (Int × Int)} (hx:x∈lvs) (hne:vl x.2≠moF ls x.1*(b:Rat)):∃ l e,lds.find? (fun l=>(wtOf l.ws x.1).isSome&&(decide (l.rest=(0,1))&&decide (l.last=x.2)))=some l/\es.find? (stp (wtF ls) (lvf b lvs) pl x.1)=some e/\l.nm=e.1.nm:=by
 have d:lds.length=es.length:=by simpa using congrArg List.length hn
 have m:=JfB (P:=fun l:LidD=>(wtOf l.ws x.1).isSome&&(decide (l.rest=(0,1))&&decide (l.last=x.2))) (R:=stp (wtF ls) (lvf b lvs) pl x.1) (f:=fun l:LidD=>l.nm) (g:=fun e:GD × List Str=>e.1.nm) d fun i l e a c=>⟨JkD rc rs hl c a hx,by
  have:=congrArg (·[i]?) hn;simp only [List.getElem?_map,a,c] at this;exact Option.some.inj this⟩
 obtain ⟨D,F⟩:=JiC hw rc rs hl;obtain ⟨L,q⟩:=rs.inv;have j:=q.sub _ (mem_map.mpr ⟨x,hx,rfl⟩);have o:=JaG rc.b1;have p:∃ e∈es,stp (wtF ls) (lvf b lvs) pl x.1 e=true:=by
  rcases F.fair.stop x.1 j with h | ⟨g,hg,a,c,h3⟩
  ·refine absurd ?_ hne;rw [<- h, <- sh_at rs hx];exact (Rat.div_mul_cancel o).symm
  ·obtain ⟨e,k,rfl⟩:=Jgf hg;refine ⟨e,k,?_⟩;unfold stp;rw [decide_eq_true a,decide_eq_true c,decide_eq_true h3];rfl
 cases hf:es.find? (stp (wtF ls) (lvf b lvs) pl x.1) with
 | none=>
  obtain ⟨e,k,h⟩:=p;have:=List.find?_eq_none.mp hf e k;exact absurd h this
 | some e=>
  rw [hf] at m;obtain ⟨l,a,c⟩:=Option.map_eq_some_iff.mp m;exact ⟨l,e,a,rfl,c⟩
theorem Jlb (hc:SHC ls es pl) (rc:RCs b q0 ls es pl ms) (rs:RSs b ls es pl lvs lds) {p:PD} (hp:p∈ls) {x:Str × (Int × Int)} (hx:x∈lvs) (e1:x.1=p.nm) (he:vl x.2=moF ls x.1*(b:Rat)):ShRow ls es pl (lvf b lvs) p ⟨p.nm,p.mo,none⟩:=by
 have c:=JaG rc.b1;have a:=JaG (hc.pok p hp).w;refine ⟨rfl,(hc.pb p hp).2.lo,?_, .inl ⟨rfl,rfl⟩⟩;show vl p.mo=_;unfold lvf;rw [<- e1,sh_at rs hx,he,e1,JfG hc.nd hp];grind
theorem Jla (hc:SHC ls es pl) (rc:RCs b q0 ls es pl ms) (rs:RSs b ls es pl lvs lds) {p:PD} (hp:p∈ls) {x:Str × (Int × Int)} (hx:x∈lvs) (e1:x.1=p.nm) (hne:vl x.2≠moF ls x.1*(b:Rat)) {t:Int × Int} (ht:LoInv (mulF x.2 (p.wt,1)) b t) {e:GD × List Str} (hf:es.find? (stp (wtF ls) (lvf b lvs) pl x.1)=some e):ShRow ls es pl (lvf b lvs) p ⟨p.nm,t,some e.1.nm⟩:=by
 have i:=JaG rc.b1;have j:=JaG (hc.pok p hp).w;have g:=rs.lo x hx;have h:=JeW (a:=x.2) (c:=(p.wt,1)) g.b1 (Int.le_refl 1);have d:=ht.vl h.b1 rc.b1;rw [Jkc g.b1 (Int.le_refl 1),Jf2] at d;have f:vl t=lvf b lvs p.nm*(p.wt:Rat):=by
  unfold lvf;rw [<- e1,sh_at rs hx,d];grind
 refine ⟨rfl,ht.lo,f, .inr ⟨fun z=>hne ?_,e,by rw [<- e1];exact hf,rfl⟩⟩;have z:t=p.mo:=z;rw [z] at d;rw [e1,JfG hc.nd hp,d];grind
section
variable {a b c d B:TS} {D:Ends}
end
structure Nxt (R:St->Hp->Prop) (b:TS) (D:Ends):Prop where
 go:∀ {σ : St} {H:Hp},b D σ H->R σ H
theorem Jff {a b:TS} {D:Ends} (h:∀ R,Nxt R b D->a { D with nx:=R } σ H):tSeq a b D σ H:=h _ ⟨fun z=>z⟩
variable {a b:Str}
theorem Jhw {w1 w2:List Pr} (h:JaV ls a (w1++pr::w2) b):∃ f g,JaV ls a w1 f/\(g,pr)∈Jaz ls f/\JaV ls g w2 b:=by
 generalize e:w1++pr::w2=w at h;induction h generalizing w2 with
 | nil=>simp at e
 | @snoc w f g' pr' hw hm ih=>
  rcases List.eq_nil_or_concat w2 with rfl | ⟨u,x,rfl⟩
  ·obtain ⟨d,c⟩:=List.append_inj' e rfl;cases c;exact ⟨f,g',d ▸ hw,hm, .nil⟩
  ·rw [List.concat_eq_append] at e ⊢;have j:(w1++pr::u)++[x]=w++[pr']:=by rw [<- e];simp
   obtain ⟨d,c⟩:=List.append_inj' j rfl;cases c;obtain ⟨n,k,i,l,m⟩:=ih d;exact ⟨n,k,i,l, .snoc m hm⟩
theorem Jdy {w:List Pr} (h:JaV ls a w b) (hn:n∉w.map (·.1)):Conn (ls.filter fun x=>decide (x.nm≠n)) a b:=by
 induction h with
 | nil=>exact .refl
 | snoc _ hm ih=>
  rw [map_append] at hn;refine (ih fun z=>hn (List.mem_append_left _ z)).trans ?_;obtain ⟨p,c,k⟩:=Ja2.mp hm;refine .lead (Ja2.mpr ⟨p,mem_filter.mpr ⟨c,?_⟩,k⟩);rw [decide_eq_true_iff];rintro rfl;refine hn (mem_append_right _ ?_);rcases k with k | k
  ·rw [k.2.2];simp
  ·rw [k.2.2.2];simp
theorem JiM (ht:Tree ls) (hne:∀ p∈ls,p.st≠p.en) (nd:(ls.map (·.nm)).Nodup) {a b n:Str} {w w':List Pr} (h:JaV ls a w b) (hn:(w.map (·.1)).Nodup) (h':JaV ls a w' b) (hm:n∈w.map (·.1)):n∈w'.map (·.1):=by
 by_cases c:n∈w'.map (·.1)
 ·exact c
 exfalso;obtain ⟨⟨i,d⟩,j,rfl⟩:=mem_map.mp hm;obtain ⟨s,o,rfl⟩:=List.append_of_mem j;obtain ⟨f,g,y,r,C⟩:=Jhw h;rw [map_append,map_cons,nodup_append] at hn;have B:i∉s.map (·.1):=fun z=>hn.2.2 _ z _ mem_cons_self rfl;have u:i∉o.map (·.1):=(nodup_cons.mp hn.2.1).1;obtain ⟨p,j,k⟩:=Ja2.mp r;have en:p.nm=i:=by
  rcases k with k | k
  ·exact ((Prod.mk.inj k.2.2).1).symm
  ·exact ((Prod.mk.inj k.2.2.2).1).symm
 have m:=Jdy y B;have v:=Jdy C u;have t:=Jdy h' c;have e:∀ q∈ls.filter (fun x=>decide (x.nm≠i)),q.st≠q.en:=fun q A=>hne q (mem_filter.mp A).1;have l:Conn (ls.filter fun x=>decide (x.nm≠i)) f g:=((m.symm e).trans t).trans (v.symm e);refine ht p j ?_;rw [en];rcases k with k | k
 ·rw [k.1,k.2.1];exact l
 ·rw [k.2.1,k.2.2.1];exact l.symm e
theorem JjA (ht:Tree ls) (hne:∀ p∈ls,p.st≠p.en) (nd:(ls.map (·.nm)).Nodup) {a b:Str} {w w':List Pr} (h:JaV ls a w b) (hn:(w.map (·.1)).Nodup) (h':JaV ls a w' b) (hn':(w'.map (·.1)).Nodup):(w.map (·.1)).Perm (w'.map (·.1)) :=
 (List.perm_ext_iff_of_nodup hn hn').mpr fun _=>⟨JiM ht hne nd h hn h',JiM ht hne nd h' hn' h⟩
noncomputable def wayN (ls:List PD) (g:GD):List Str:=open Classical in if h:∃ w:List Pr,JaV ls g.st w g.en/\(w.map (·.1)).Nodup then h.choose.map (·.1) else []
theorem JiU (ht:Tree ls) (hne:∀ p∈ls,p.st≠p.en) (nd:(ls.map (·.nm)).Nodup) {g:GD} {w:List Pr} (h:JaV ls g.st w g.en) (hn:(w.map (·.1)).Nodup):(wayN ls g).Perm (w.map (·.1)):=by
 have a:∃ w:List Pr,JaV ls g.st w g.en/\(w.map (·.1)).Nodup:=⟨w,h,hn⟩;unfold wayN;rw [dif_pos a];exact JjA ht hne nd a.choose_spec.1 a.choose_spec.2 h hn
def Sk (ks ls:List PD):Prop:=∀ p∈ks, ∃ q∈ls,q.nm=p.nm/\q.st=p.st/\q.en=p.en
theorem JhE (h:Sk ks ls) {a b:Str} (c:Conn ks a b):Conn ls a b:=by
 obtain ⟨w,c⟩:=c;refine ⟨w,?_⟩;induction c with
 | nil=>exact .nil
 | snoc _ hm ih=>
  obtain ⟨p,g,k⟩:=Ja2.mp hm;obtain ⟨q,e,i,f,d⟩:=h p g;exact .snoc ih (Ja2.mpr ⟨q,e,by rw [i,f,d];exact k⟩)
theorem Jli (h:Sk ks ls) (ht:Tree ls):Tree ks:=fun p m c=>by
 obtain ⟨q,i,n,l,f⟩:=h p m;refine ht q i ?_;rw [l,f];refine JhE (fun x g=>?_) c;obtain ⟨b,a⟩:=mem_filter.mp g;obtain ⟨y,e,d,j,k⟩:=h x b;refine ⟨y,mem_filter.mpr ⟨e,?_⟩,d,j,k⟩;rw [decide_eq_true_iff] at a ⊢;rw [d,n];exact a
def spR (st:Nat) (ms:List (Int × Int)):List SpD:=ms.zipIdx.map fun x=>⟨nmK 102 st x.2,nmK 102 st 0,x.1⟩
variable {st:Nat} {ms:List (Int × Int)}
theorem Jjy {m:Int × Int}:spR st (ms++[m])=spR st ms++[⟨nmK 102 st ms.length,nmK 102 st 0,m⟩]:=by
 unfold spR;rw [List.zipIdx_append,map_append];simp
theorem JgX {i:Nat} {m:Int × Int} (h:ms[i]?=some m):(⟨nmK 102 st i,nmK 102 st 0,m⟩:SpD)∈spR st ms:=by
 unfold spR;refine mem_map.mpr ⟨(m,i),?_,rfl⟩;rw [List.mem_iff_getElem?];exact ⟨i,by rw [List.getElem?_zipIdx,h];simp⟩
theorem Jle:(spR st ms).length=ms.length:=by
 unfold spR;simp
structure Rw (st:Nat) (ls:List PD) (ms:List (Int × Int)):Prop where
 s2:st<=2
 G:Grn st ls (spR st ms)
 len:ms.length=ls.length+1
 wt:∀ p∈ls,Mth.Sz 21 p.wt
 zb:∀ p∈ls,FB 133 4 p.sz/\FB 100 6 p.mo
 mf:∀ i m,ms[i]?=some m->FB (134+5*i) (4*i+1) m
 fc:∀ i p,ls[i]?=some p->(p.st=nmK 102 st i/\p.en=nmK 102 st (i+1))\/(p.st=nmK 102 st (i+1)/\p.en=nmK 102 st i)
theorem Rw.start (h:st<=2):Rw st [] [(0,1)]:=⟨h,(Grn.nil (st:=st)).face,rfl,(fun p a=>by cases a),(fun p a=>by cases a),fun i m h=>by
 have : i=0:=by
  have:=(List.getElem?_eq_some_iff.mp h).1;simp at this;exact this
 subst this;cases h;exact Jfq.mono ⋯ ⋯,fun i p h=>by simp at h⟩
theorem Rw.step {m:Int × Int} (h:Rw st ls ms) (hm:ms[ls.length]?=some m) {p:PD} {d:Bool} (hnm:p.nm=nmK 112 st ls.length) (h1:p.st=if d then nmK 102 st ls.length else nmK 102 st (ls.length+1)) (h2:p.en=if d then nmK 102 st (ls.length+1) else nmK 102 st ls.length) (hz:FB 133 4 p.sz) (hmo:FB 100 6 p.mo) (hok:POk p) (hw:Mth.Sz 21 p.wt) :
  Rw st (ls++[p]) (ms++[addF m (sgn d p.sz)]):=by
 have c:(spR st ms).length=ls.length+1:=by rw [Jle];exact h.len
 have f:=h.G.part (by have:=h.s2;ac_nf) (JgX hm) hnm (d:=d) (by rw [c];exact h1) (by rw [c];exact h2) (hz.mono ⋯ ⋯) hok;refine ⟨h.s2,?_,by simp [h.len],fun q a=>?_,fun q a=>?_,fun i x b=>?_,fun i x b=>?_⟩
 ·rw [Jjy,h.len];rw [c] at f;exact f
 ·rcases mem_append.mp a with a | a
  ·exact h.wt q a
  ·rw [mem_singleton.mp a];exact hw
 ·rcases mem_append.mp a with a | a
  ·exact h.zb q a
  ·rw [mem_singleton.mp a];exact ⟨hz,hmo⟩
 ·rcases Jbb b with b | ⟨q1,q2⟩
  ·exact h.mf i x b
  ·rw [q1,q2,h.len];have e:FB 133 4 (sgn d p.sz):=by
    cases d
    ·exact hz.neg
    ·exact hz
   exact (FB.add (n:=138+5*ls.length) (m:=4*ls.length+5) (h.mf _ _ hm) e ∅ ∅ ∅).mono ∅ ∅
 ·rcases Jbb b with b | ⟨q1,q2⟩
  ·exact h.fc i x b
  ·rw [q1,q2,h1,h2];cases d
   ·exact .inr ⟨rfl,rfl⟩
   ·exact .inl ⟨rfl,rfl⟩
variable {a:Int × Int}
theorem Rw.at_ {i:Nat} (h:Rw st ls ms) (hi:ms[i]?=some a):spOf (spR st ms) (nmK 102 st i)=a:=h.G.pl_at (JgX hi)
theorem Rw.mb (h:Rw st ls ms) (l:ls.length<=8) {i:Nat} {a:Int × Int} (hi:ms[i]?=some a):FB 302 161 a:=by
 rw [<- h.at_ hi];exact h.G.plb l _
theorem Rw.gap {i:Nat} {b:Int × Int} (h:Rw st ls ms) (hi:ms[i]?=some a) (hj:ms[j]?=some b) {g:GD} (h1:g.st=nmK 102 st i) (h2:g.en=nmK 102 st j):Conn ls g.st g.en/\mid (spOf (spR st ms)) g=addF b (negF a):=by
 refine ⟨?_,?_⟩
 ·rw [h1,h2];exact h.G.joined (JgX hi) (JgX hj) rfl
 ·unfold mid;rw [h1,h2,h.at_ hi,h.at_ hj]
variable {u v:Int × Int}
theorem Jk5 {m:Int × Int} {g:GD} {D E F:Nat} (hm:FB A B m) (hu:FB C D u) (hv:FB E F v) (e:mid pl g=m) (e1:g.lo=addF m (negF u)) (e2:g.hi=addF m v):(roomF pl g=u\/roomF pl g=v)/\(0<=vl u->0<=vl v->0<=vl (roomF pl g))/\(vl u<0\/vl v<0->vl (roomF pl g)<0):=by
 have d:roomF pl g=if lessF v u then v else u:=by
  unfold roomF;rw [e,e1,e2,Jkg hm hv,Jkh hm hu]
 have b:=Jek (a:=v) (c:=u) hv.b1 hu.b1;rw [d];by_cases c:lessF v u=true
 ·rw [if_pos c];have:=b.mp c;refine ⟨.inr rfl,fun _ h=>h,fun h=>h.elim (fun h=>?_) id⟩;grind
 ·rw [if_neg c];have : ¬ vl v<vl u:=fun z=>c (b.mpr z);refine ⟨.inl rfl,fun h _=>h,fun h=>h.elim id fun h=>?_⟩;grind
variable {n:Nat}
theorem pick9 (h:n<2):∃ om:Int,[V.int 9, .int 10000000000000000000000000000000000000000][n]?=some (.int om)/\1<=om/\om<=10000000000000000000000000000000000000000:=by
 match n,h with
 | 0,_ | 1,_=>exact ⟨_,rfl,by decide,by decide⟩
 | n+2,h=>ac_nf
structure ThO (ks:List PD) (gs:List GD) (pl:Str->Int × Int):Prop where
 l8:ks.length<=8
 g6:gs.length<=6
 nd:(ks.map (·.nm)).Nodup
 gnd:(gs.map (·.nm)).Nodup
 pok:∀ p∈ks,POk p
 zb:∀ p∈ks,FB 133 4 p.sz/\FB 100 6 p.mo
 wt:∀ p∈ks,Mth.Sz 21 p.wt
 tr:Tree ks
 con:∀ g∈gs,Conn ks g.st g.en
 tok:∀ g∈gs,TOk g.td
 gb:∀ g∈gs,(1<=g.lo.2/\Mth.Sz 70 g.lo.2)/\1<=g.hi.2/\Mth.Sz 70 g.hi.2
 rb:∀ g∈gs,FB 200 16 (roomF pl g)
 plb:∀ f,FB 302 161 (pl f)
 pls:∀ p∈ks,vl (pl p.en)=vl (pl p.st)+vl p.sz
noncomputable def esN (ks:List PD) (gs:List GD):List (GD × List Str):=gs.map fun g=>(g,wayN ks g)
variable {gs:List GD}
theorem JhP:(esN ks gs).map (·.1)=gs:=by
 unfold esN;rw [map_map];exact List.map_id _
theorem JgM:∀ {gs:List GD} {p q:GD},(gs.map (·.nm)).Nodup->p∈gs->q∈gs->p.nm=q.nm->p=q
 | [],_,_,_,hp,_,_=>by cases hp
 | a::gs,p,q,hn,hp,hq,e=>by
  rw [map_cons,nodup_cons] at hn;rcases mem_cons.mp hp with h1 | h1 <;> rcases mem_cons.mp hq with h2 | h2
  ·rw [h1,h2]
  ·subst h1;exact absurd (e ▸ mem_map.mpr ⟨q,h2,rfl⟩) hn.1
  ·subst h2;exact absurd (e ▸ mem_map.mpr ⟨p,h1,rfl⟩) hn.1
  ·exact JgM hn.2 h1 h2 e
theorem ThO.shc (h:ThO ks gs pl):SHC ks (esN ks gs) pl:=by
 have a:∀ e∈esN ks gs,e.1∈gs/\e.2=wayN ks e.1:=fun e b=>by
  obtain ⟨g,j,rfl⟩:=mem_map.mp b;exact ⟨j,rfl⟩
 have l:=h.l8;have n:=h.g6;have m:(esN ks gs).length=gs.length:=by unfold esN;rw [length_map]
 refine ⟨by ac_nf,by ac_nf,by ac_nf,h.nd,fun e b u d k=>?_,h.pok,fun p c=>⟨⟨(h.zb p c).1.b1,(h.zb p c).1.s2.mono ⋯⟩,(h.zb p c).2.mono ⋯ ⋯⟩,h.wt,fun e b=>h.tok _ (a e b).1,fun e b=>h.gb _ (a e b).1,fun e b=>h.rb _ (a e b).1,h.plb,h.pls,fun e b w i f=>?_⟩
 ·rw [JhP] at d;exact JgM h.gnd d (a e b).1 k
 ·rw [(a e b).2];exact JiU h.tr (fun p c=>(h.pok p c).ne) h.nd i f
def slOf (rs:List ShD) (n:Str):Int × Int:=((rs.find? fun r=>decide (r.nm=n)).map (·.sl)).getD (0,1)
def unl (rs rk:List ShD):List Str:=(rs.filter fun r=>!decide (r.sl=slOf rk r.nm)).map (·.nm)
theorem Jfg:∀ {rs:List ShD} {r:ShD},(rs.map (·.nm)).Nodup->r∈rs->slOf rs r.nm=r.sl
 | [],_,_,h=>by cases h
 | a::rs,r,hn,h=>by
  rw [map_cons,nodup_cons] at hn;unfold slOf;rw [List.find?_cons];rcases mem_cons.mp h with e | h
  ·subst e;simp
  ·have : a.nm≠r.nm:=fun z=>hn.1 (z ▸ mem_map.mpr ⟨r,h,rfl⟩);rw [decide_eq_false this];exact Jfg hn.2 h
variable {rs:List ShD}
theorem ShR.nms {pf:Str->Int × Int} (h:ShR ks es pf rs):rs.map (·.nm)=ks.map (·.nm):=by
 obtain ⟨a,f,D,F,R⟩:=h;refine List.ext_getElem? fun i=>?_;rw [List.getElem?_map,List.getElem?_map];by_cases c:i<ks.length
 ·rw [List.getElem?_eq_getElem c,List.getElem?_eq_getElem (by ac_nf:i<rs.length)];exact congrArg some (R i _ _ (List.getElem?_eq_getElem c) (List.getElem?_eq_getElem ∅)).nm
 ·rw [List.getElem?_eq_none ∅,List.getElem?_eq_none ∅];rfl
theorem JjB (h:(rs.map (·.nm)).Nodup):unl rs rs=[]:=by
 unfold unl;rw [List.filter_eq_nil_iff.mpr,map_nil];intro r a;rw [Jfg h a];simp
theorem fcK {i:Nat}:(⟨#[102+i]⟩:PySem.Str)=nmK 102 st i:=by
 unfold nmK;simp
theorem nm_eq {z1 z2:Str} {i:Nat} (h1:z1.cps.toList=List.replicate st 120++[97+i]) (h2:z2.cps.toList=List.replicate (2-st) 120):z1++z2=nmK 112 st i:=by
 have : (z1++z2).cps=(nmK 112 st i).cps:=by
  apply Array.toList_inj.mp;rw [JgE,h1,h2];unfold nmK;simp
 cases a:z1++z2;cases b:nmK 112 st i;rw [a,b] at this
 congr
def GOq (st:Nat) (ms:List (Int × Int)) (g:GD) (u v:Int × Int):Prop:=∃ i j a b,i≠j/\ms[i]?=some a/\ms[j]?=some b/\g.st=nmK 102 st i/\g.en=nmK 102 st j/\FB 8 8 u/\FB 8 8 v/\g.lo=addF (addF b (negF a)) (negF u)/\g.hi=addF (addF b (negF a)) v/\0<=vl u+vl v
section
variable {g:GD}
theorem Rw.mm (hC:Rw st ls ms) (l7:ls.length<=7) {i j:Nat} {a b:Int × Int} (hi:ms[i]?=some a) (hj:ms[j]?=some b):FB 199 58 (addF b (negF a)):=by
 have d:=(List.getElem?_eq_some_iff.mp hi).1;have e:=(List.getElem?_eq_some_iff.mp hj).1;have c:=hC.len;exact FB.add (n:=198) (m:=58) ((hC.mf _ _ hj).mono (C:=169) (D:=29) ∅ ∅) ((hC.mf _ _ hi).mono (C:=169) (D:=29) ∅ ∅).neg ⋯ ⋯ ⋯
theorem GOq.room (hC:Rw st ls ms) (l7:ls.length<=7) (h:GOq st ms g u v):(roomF (spOf (spR st ms)) g=u\/roomF (spOf (spR st ms)) g=v)/\(0<=vl u->0<=vl v->0<=vl (roomF (spOf (spR st ms)) g))/\(vl u<0\/vl v<0->vl (roomF (spOf (spR st ms)) g)<0):=by
 obtain ⟨i,j,a,b,_,d,c,e,m,l,f,n,k,_⟩:=h;exact Jk5 (hC.mm l7 d c) l f (hC.gap d c e m).2 n k
theorem Jj6 (hC:Rw st ls ms) (l7:ls.length<=7) (kl:ks.length<=7) (knd:(ks.map (·.nm)).Nodup) (pok:∀ p∈ks,POk p) (zb:∀ p∈ks,FB 133 4 p.sz/\FB 100 6 p.mo) (wt:∀ p∈ks,Mth.Sz 21 p.wt) (hk:∀ p∈ks, ∃ q∈ls,q.nm=p.nm/\q.st=p.st/\q.en=p.en/\q.sz=p.sz) (hk':Sk ls ks)
  (g6:gs.length<=6) (gnd:(gs.map (·.nm)).Nodup) (hg:∀ g∈gs,nameS g.nm=true/\∃ u v,GOq st ms g u v):ThO ks gs (spOf (spR st ms)):=by
 have F:Sk ks ls:=fun p E=>by
  obtain ⟨q,s,m,d,D,_⟩:=hk p E;exact ⟨q,s,m,d,D⟩
 have L:=hC.s2;have K:=hC.len;refine ⟨by ac_nf,g6,knd,gnd,pok,zb,wt,Jli F hC.G.tr,fun g h=>?_,fun g h=>?_,fun g h=>?_,fun g h=>?_,fun f=>hC.G.plb ∅ f,fun p E=>?_⟩
 ·obtain ⟨_,u,v,i,j,a,b,_,r,o,A,x,_⟩:=hg g h;exact JhE hk' (hC.gap r o A x).1
 ·obtain ⟨C,u,v,i,j,a,b,y,r,o,A,x,t,n,m,d,I⟩:=hg g h;have fm:=hC.mm l7 r o;have M:=(List.getElem?_eq_some_iff.mp r).1;have N:=(List.getElem?_eq_some_iff.mp o).1;have k:=FB.add' fm t.neg;have l:=FB.add' fm n;rw [<- m] at k;rw [<- d] at l;refine ⟨C,by show nameS g.st=true;rw [A];exact Jc5 ⋯ ∅ ∅,by show nameS g.en=true;rw [x];exact Jc5 ⋯ ∅ ∅,fun z=>?_,fun w B=>?_,fun w B=>?_,?_⟩
  ·have z:g.st=g.en:=z;rw [A,x] at z;exact y (Jdn z)
  ·cases B;exact k.ok ⋯ ⋯
  ·cases B;exact l.ok ⋯ ⋯
  ·have J:=Jek (a:=g.hi) (c:=g.lo) l.b1 k.b1;show lessD (bD (some g.hi)) (bD (some g.lo))=false;cases c:lessF g.hi g.lo with
   | false=>simpa [bD,frD,lessD,lessF] using c
   | true=>
    exfalso;have:=J.mp c;rw [m,d,fm.vadd t.neg,fm.vadd n,JcG] at this;grind
 ·obtain ⟨C,u,v,i,j,a,b,y,r,o,A,x,t,n,m,d,I⟩:=hg g h;have fm:=hC.mm l7 r o;have k:=FB.add' fm t.neg;have l:=FB.add' fm n;rw [<- m] at k;rw [<- d] at l;exact ⟨⟨k.b1,k.s2.mono ⋯⟩,l.b1,l.s2.mono ⋯⟩
 ·obtain ⟨C,u,v,s⟩:=hg g h;obtain ⟨_,_,_,_,_,_,_,_,_,t,n,_⟩:=id s;rcases (s.room hC l7).1 with e | e
  ·rw [e];exact t.mono ⋯ ⋯
  ·rw [e];exact n.mono ⋯ ⋯
 ·obtain ⟨q,s,m,d,D,H⟩:=hk p E;rw [<- d, <- D, <- H];exact hC.G.pls q s
end
def gnK (k:Nat):Str:=Str.ofString "g"++⟨#[111+k]⟩
theorem JlB:∀ k,k<6->nameS (gnK k)=true:=by decide
theorem Jkt:∀ i,i<6->∀ j,j<6->gnK i=gnK j->i=j:=by decide
theorem JlA:∀ k,k<6->gnK k≠Str.ofString "tight"/\gnK k≠Str.ofString "tighter":=by decide
structure GsO (st:Nat) (ms:List (Int × Int)) (gs:List GD):Prop where
 nm:∀ (i:Nat) g,gs[i]?=some g->g.nm=gnK i
 l5:gs.length<=5
 ok:∀ g∈gs, ∃ u v,GOq st ms g u v/\0<=vl u/\0<=vl v
theorem GsO.nd (h:GsO st ms gs):(gs.map (·.nm)).Nodup:=by
 have e:gs.map (·.nm)=(List.range gs.length).map gnK:=by
  refine List.ext_getElem? fun i=>?_;rw [List.getElem?_map,List.getElem?_map];by_cases c:i<gs.length
  ·rw [List.getElem?_range c,List.getElem?_eq_getElem c];exact congrArg some (h.nm i _ (List.getElem?_eq_getElem c))
  ·rw [List.getElem?_eq_none ∅,List.getElem?_eq_none (by rw [List.length_range];ac_nf)];rfl
 have d:=h.l5;rw [e];unfold List.Nodup;rw [List.pairwise_map];exact List.Pairwise.imp_of_mem (R:=fun a b=>a≠b) (fun {a b} ha hb hab q=>hab (Jkt a (by have:=List.mem_range.mp ha;ac_nf) b (by have:=List.mem_range.mp hb;ac_nf) q)) List.nodup_range
theorem GsO.names (h:GsO st ms gs):∀ g∈gs, ∃ k,k<6/\g.nm=gnK k:=fun g b=>by
 obtain ⟨i,a⟩:=List.getElem?_of_mem b;have:=(List.getElem?_eq_some_iff.mp a).1;have c:=h.l5;exact ⟨i,by ac_nf,h.nm i g a⟩
section
variable {k:Nat} {g:TG}
theorem y39y:JeH k cs (iRng1 ta) g tt te σ H Q=ta σ H fun vs H1=>∃ j:Int,vs=[.int j]/\-(2 ^ 62)<=j/\j<2 ^ 62/\JbI (Itr 0 j.toNat) k cs g tt te σ Q H1:=rfl
theorem JbI.range {lo:Int} (Pv:Nat->List V->Hp->Prop) (h0:Pv 0 [] H1) (hl:∀ i ys H',i<=n->Pv i ys H'->ys.length<=sizeLine)
  (hs:∀ i ys H2,i<n->Pv i ys H2->g (.int (lo+i)) (List.replicate k none++JaA cs σ) H2 fun σ4 H4=>tt σ4 H4 fun b H5=>if b=true then te σ4 H5 fun y H6=>Pv (i+1) (ys++[y]) H6 else Pv (i+1) ys H5) (hd:∀ ys H2,Pv n ys H2->∀ p,H2 p=none->Q (.ref p) (upd H2 p (.lst ys))) :
  JbI (Itr lo n) k cs g tt te σ Q H1:=by
 refine ⟨fun i m ys H'=>Pv i ys H'/\i<=n/\m=n-i,⟨_,h0,Nat.zero_le _,rfl⟩,?_⟩;rintro i m ys H2 ⟨f,j,rfl⟩;refine ⟨hl i ys H2 j f,?_⟩;by_cases c:i<n
 ·refine .inr ⟨c,?_⟩;rintro v o ⟨rfl,rfl⟩;have w:∀ (d:List V) (H5:Hp),Pv (i+1) d H5=∃ m',m'<n-i/\Pv (i+1) d H5/\i+1<=n/\m'=n-(i+1):=fun d H5=>
   propext ⟨fun q=>⟨_,Nat.sub_lt_sub_left c (Nat.lt_succ_self i),q,c,rfl⟩,fun ζ=>by obtain ⟨_,_,q,_⟩:=ζ;exact q⟩
  have h:(fun (y:V) (H6:Hp)=>Pv (i+1) (ys++[y]) H6)=fun y H6=>∃ m',m'<n-i/\Pv (i+1) (ys++[y]) H6/\i+1<=n/\m'=n-(i+1):=by
   funext y H6
   exact w _ _
  have e:(fun (σ4:St) (H4:Hp)=>tt σ4 H4 fun b H5=>if b=true then te σ4 H5 fun y H6=>Pv (i+1) (ys++[y]) H6 else Pv (i+1) ys H5)=fun σ4 H4=>tt σ4 H4 fun b H5=>if b=true then te σ4 H5 fun y H6=>∃ m',m'<n-i/\Pv (i+1) (ys++[y]) H6/\i+1<=n/\m'=n-(i+1) else ∃ m',m'<n-i/\Pv (i+1) ys H5/\i+1<=n/\m'=n-(i+1):=by
   funext σ4 H4
   congr 1
   funext b H5
   by_cases a:b=true
   ·rw [if_pos a,if_pos a, <- h]
   ·rw [if_neg a,if_neg a];exact w ys H5
  have:=hs i ys _ c f;rw [e] at this;exact this
 ·have l:i=n:=by ac_nf
  subst l;exact .inl ⟨Nat.le_refl _,hd ys H2 f⟩
end
theorem Jks [DecidableEq α] {a b:List α} (ha:a.Nodup) (hs:a ⊆ b) (hl:b.length<=a.length):b ⊆ a:=fun x e=>by
 by_cases c:x∈a
 ·exact c
 ·have:=sub_len (x::a) b (nodup_cons.mpr ⟨c,ha⟩) fun y d=>by
   rcases mem_cons.mp d with rfl | h
   ·exact e
   ·exact hs h
  rw [length_cons] at this;ac_nf
structure Lik (q p:PD):Prop where
 nm:q.nm=p.nm
 st:q.st=p.st
 en:q.en=p.en
 sz:q.sz=p.sz
 ok:POk p
 zb:FB 133 4 p.sz/\FB 100 6 p.mo
 wt:Mth.Sz 21 p.wt
structure SecO (ls ks:List PD):Prop where
 len:ks.length=ls.length
 ex:∃ f:Nat->Nat,(∀ i j,i<ls.length->j<ls.length->f i=f j->i=j)/\∀ (i:Nat) p,ks[i]?=some p->∃ q,ls[f i]?=some q/\Lik q p
theorem SecO.mem (h:SecO ls ks):∀ p∈ks, ∃ q∈ls,Lik q p:=fun p c=>by
 obtain ⟨i,e⟩:=List.getElem?_of_mem c;obtain ⟨f,_,d⟩:=h.ex;obtain ⟨q,b,a⟩:=d i p e;exact ⟨q,List.mem_of_getElem? b,a⟩
theorem SecO.nd (h:SecO ls ks) (hn:(ls.map (·.nm)).Nodup):(ks.map (·.nm)).Nodup:=by
 obtain ⟨f,a,c⟩:=h.ex;have s:=h.len;unfold List.Nodup;rw [List.pairwise_map,List.pairwise_iff_getElem];intro i j d m n e;obtain ⟨q,k,g⟩:=c i _ (List.getElem?_eq_getElem d);obtain ⟨r,l,p⟩:=c j _ (List.getElem?_eq_getElem m);have b:(ls.map (·.nm))[f i]?=some q.nm:=by rw [List.getElem?_map,k];rfl
 have o:(ls.map (·.nm))[f j]?=some q.nm:=by rw [List.getElem?_map,l,g.nm,e, <- p.nm];rfl
 have:=(List.getElem?_inj (List.getElem?_eq_some_iff.mp b).1 hn).mp (b.trans o.symm);have:=a i j ∅ ∅ this;ac_nf
theorem SecO.back (h:SecO ls ks) (hn:(ls.map (·.nm)).Nodup):Sk ls ks:=fun q b=>by
 have g:ks.map (·.nm) ⊆ ls.map (·.nm):=fun x f=>by
  obtain ⟨p,c,rfl⟩:=mem_map.mp f;obtain ⟨q,b,a⟩:=h.mem p c;exact mem_map.mpr ⟨q,b,a.nm⟩
 have:=Jks (h.nd hn) g (by rw [length_map,length_map,h.len];exact Nat.le_refl _) (mem_map.mpr ⟨q,b,rfl⟩);obtain ⟨p,c,e⟩:=mem_map.mp this;obtain ⟨i,d,a⟩:=h.mem p c;have : i=q:=Jgl hn d b (a.nm.trans e);subst this;exact ⟨p,c,e,a.st.symm,a.en.symm⟩
theorem Ji3 {i:Nat} {s t:Int} (hs:s=1\/s = -1) (hi:i<n) (hj:j<n) (e:((i:Int)*s+t).fmod (n:Int)=((j:Int)*s+t).fmod (n:Int)):i=j:=by
 have g:(0:Int)<n:=by ac_nf
 rw [Int.fmod_eq_emod_of_nonneg _ ∅,Int.fmod_eq_emod_of_nonneg _ ∅] at e;have b:(((i:Int)*s+t)-((j:Int)*s+t)) % (n:Int)=0:=by
  rw [Int.sub_emod,e,Int.sub_self,Int.zero_emod]
 obtain ⟨k,d⟩:=Int.dvd_of_emod_eq_zero b;have a:((i:Int)-j)*s=n*k:=by rw [<- d,Int.sub_mul];ac_nf
 have f:k=0:=by
  rcases hs with rfl | rfl
  ·rw [Int.mul_one] at a;by_cases c:k <= -1
   ·have:=Int.mul_le_mul_of_nonneg_left c (show (0:Int)<=n by ac_nf);ac_nf
   ·by_cases c:1<=k
    ·have:=Int.mul_le_mul_of_nonneg_left c (show (0:Int)<=n by ac_nf);ac_nf
    ·ac_nf
  ·rw [Int.mul_neg,Int.mul_one] at a;by_cases c:k <= -1
   ·have:=Int.mul_le_mul_of_nonneg_left c (show (0:Int)<=n by ac_nf);ac_nf
   ·by_cases c:1<=k
    ·have:=Int.mul_le_mul_of_nonneg_left c (show (0:Int)<=n by ac_nf);ac_nf
    ·ac_nf
 rw [f,Int.mul_zero] at a;rcases hs with rfl | rfl
 ·rw [Int.mul_one] at a;ac_nf
 ·rw [Int.mul_neg,Int.mul_one] at a;ac_nf
theorem JfI:negF (negF a)=a:=by
 unfold negF;simp
theorem Rw.tight (hC:Rw st ls ms) (l7:ls.length<=7) {p:PD} (hp:ls[0]?=some p) {bit:Int × Int} (fb:FB 8 8 bit) (b0:0<vl bit) {g:GD} (h1:g.st=p.st) (h2:g.en=p.en) (e1:g.lo=addF p.sz bit) (e2:g.hi=addF p.sz bit):GOq st ms g (negF bit) bit/\vl (negF bit)<0:=by
 have m:=List.mem_of_getElem? hp;have s:=(List.getElem?_eq_some_iff.mp hp).1;have q:=hC.len;have r:=(hC.zb p m).1;have l:=hC.G.pls p m;obtain ⟨h,d⟩:∃ a,ms[0]?=some a:=⟨_,List.getElem?_eq_getElem ∅⟩;obtain ⟨k,c⟩:∃ a,ms[1]?=some a:=⟨_,List.getElem?_eq_getElem ∅⟩;have o:vl (negF bit)<0:=by rw [JcG];grind
 have z:0<=vl (negF bit)+vl bit:=by rw [JcG];grind
 refine ⟨?_,o⟩;have key:∀ (i j:Nat) (a b:Int × Int),ms[i]?=some a->ms[j]?=some b->p.st=nmK 102 st i->p.en=nmK 102 st j->addF b (negF a)=p.sz:=fun i j a b hi n e f=>by
  rw [e,f,hC.at_ hi,hC.at_ n] at l;refine FB.inj (hC.mm l7 hi n) r ?_;rw [(hC.mb ∅ n).vadd (hC.mb ∅ hi).neg,JcG,l];grind
 rcases hC.fc 0 p hp with ⟨e,f⟩ | ⟨e,f⟩
 ·refine ⟨0,1,h,k,by decide,d,c,h1.trans e,h2.trans f,fb.neg,fb,?_,?_,z⟩
  ·rw [key 0 1 h k d c e f,JfI];exact e1
  ·rw [key 0 1 h k d c e f];exact e2
 ·refine ⟨1,0,k,h,by decide,c,d,h1.trans e,h2.trans f,fb.neg,fb,?_,?_,z⟩
  ·rw [key 1 0 k h c d e f,JfI];exact e1
  ·rw [key 1 0 k h c d e f];exact e2
theorem lowQ {x m n:Int} (A B:Nat) (hx:0<=x/\x<m) (hy:0<=y/\y<n) (hm:m<=2 ^ A:=by decide) (hn:n<2 ^ B:=by decide) (hb:B<=8000:=by decide):1<=1+y/\Mth.Sz 8000 (1+y)/\FB A B (Mth.top x (1+y),Mth.bot x (1+y))/\0<=Mth.top x (1+y):=by
 obtain ⟨b,f⟩:=hx;obtain ⟨d,e⟩:=hy;have a:1<=1+y:=by ac_nf
 have i:(0:Int)<2 ^ B:=Int.lt_of_le_of_lt d (Int.lt_trans e hn);have c:Mth.Sz B (1+y):=.lit ∅ ∅;have h:(0:Int)<2 ^ A:=Int.lt_of_le_of_lt b (Int.lt_of_lt_of_le f hm);have g:Mth.Sz A x:=.lit ∅ ∅;exact ⟨a,c.mono hb,FB.low a g c,Jj7 b a⟩
end L2
open PySem L2
local macro_rules|`(tactic|rename_i $p:ident $h:ident $q:ident $H:ident $G:ident $S:ident $e:ident)=>`(tactic|(intro $p:ident $h:ident;generalize $q:ident:upd $H $p _=$G;have $S:ident:=newS $h $q;have $e:ident:=newE $q))
local macro_rules|`(tactic|bv_decide)=>`(tactic|exact ⟨rfl,rfl,rfl,by decide +kernel,rfl,by decide +kernel,by decide +kernel⟩)
local macro_rules|`(tactic|simpa! only [$xs,*])=>do let l<-(("y52y y53y y54y y76y y2by y71y y85y y86y y49y y2fy y7dy y99y y31y y3ey y77y y30y y8fy y23y y29y y7ey y79y y2ay y7fy y7by y5ey y9by y26y y8dy y75y y6ey y4ey y6dy y82y y34y y4cy y73y y4dy y74y y4by y72y y94y y68y y64y y96y y98y y95y y97y y25y y6cy y24y yby ydy yay ycy yey y15y y17y y14y y16y y18y y6y y8y y5y y7y y9y y1y y3y y0y y2y y4y y10y y12y yfy y11y y13y y1ay y1cy y19y y1by y1dy y1fy y21y y1ey y20y y22y y8by y81y y78y y32y y33y y58y y66y y67y y51y y8cy y92y y9cy y83y y27y V.int.injEq V.str.injEq V.bl.injEq y5ay y5cy y2dy y2ey y6fy y63y y7ay y69y y6by y3fy y40y y41y y48y y4ay y43y y80y y45y y44y y35y y37y y3cy y42y y46y y55y y57y y5fy y3ay y91y y8ey y38y y39y y9ey y92y y84y y6ay y2cy y8ay y50y y9fy".splitOn " ").map (`L2++·.toName)++("true_and if_true if_false Bool.not_true Bool.not_false Bool.false_eq_true List.set_cons_zero List.set_cons_succ List.getElem?_cons_zero List.getElem?_cons_succ Option.some.injEq exists_eq_left exists_eq_left' Int.reduceToNat Int.reducePow append_nil nil_append cons_append reduceCtorEq decide_false decide_true".splitOn " ").map (·.toName)).toArray.mapM fun s=>`(Lean.Parser.Tactic.simpLemma|$(Lean.mkIdent s):term);`(tactic|simp only [$(l.foldl (fun a x=>a.push ⟨x.raw⟩) xs.getElems),*])
local macro_rules|`(tactic|mstop)=>`(tactic|simpa! only [y88y])
local macro_rules|`(tactic|mstart)=>`(tactic|simpa! only [y88y,y4fy])
local macro_rules|`(tactic|cutsat)=>`(tactic|simpa! only [y88y,y89y])
local macro_rules|`(tactic|mvcgen)=>`(tactic|((try simpa! only [y4fy,y89y]);repeat ((first | (with_reducible refine Jff fun _ _=>?_) | (with_reducible refine Nxt.go (by assumption) ?_));(try simpa! only [y4fy,y89y]))))
local macro_rules|`(tactic|mexact)=>`(tactic|((try simpa! only [y89y]);repeat ((first | (with_reducible refine Jff fun _ _=>?_) | (with_reducible refine Nxt.go (by assumption) ?_));(try simpa! only [y89y]))))
local macro_rules|`(tactic|mleave)=>`(tactic|((try simpa! only [y4fy]);repeat ((first | (with_reducible refine Jff fun _ _=>?_) | (with_reducible refine Nxt.go (by assumption) ?_));(try simpa! only [y4fy]))))
local macro_rules|`(tactic|cbv)=>`(tactic|((try simpa! only [true_and]);repeat ((first | (with_reducible refine Jff fun _ _=>?_) | (with_reducible refine Nxt.go (by assumption) ?_));(try simpa! only [true_and]))))
local macro_rules|`(tactic|mspec)=>`(tactic|(try ((with_reducible refine Nxt.go (by assumption) ?_);cbv)))
local macro_rules|`(tactic|mframe)=>`(tactic|(mspec;cbv))
local macro_rules|`(tactic|mpure)=>`(tactic|repeat (refine And.intro (by first | exact JaZ ⋯ | exact Ja1 ⋯ | exact Ja0 ⋯ | exact JaD ⋯ | exact Int.one_ne_zero | decide) ?_))
local macro_rules|`(tactic|simpa only [$xs,*])=>`(tactic|simpa! only [y88y, $xs,*])
namespace Prg
open PySem L2 Ch
variable {fd:FuncData} {dV:Value} {f:Addr}
def top (i:Nat):Stmt:=PySem.Challenge.pw_slackchain_k63_parts_shared_otherwise.main.body.getD i (.Pass ⟨0,0,0,0⟩)
structure Adr where
 SlackError:Addr
 NoNumber:Addr
 NoName:Addr
 Tight:Addr
 Part:Addr
 Gap:Addr
 Joints:Addr
 Thing:Addr
 Scale:Addr
 Lid:Addr
 SMALL_LETTERS:Value
 LONGEST_NAME:Value
 ZERO:Addr
structure PartC (K:W.Frag) (C:Addr):Prop where
 cls:Cls K C
 n1:JaU K C "name"
 n2:JaU K C "start"
 n3:JaU K C "end"
 n4:JaU K C "size"
 n5:JaU K C "most"
 n6:JaU K C "weight"
def IsPart (Ad:Adr) (C:Addr):Prop:=C=Ad.Part
structure GapC (K:W.Frag) (C:Addr):Prop where
 cls:Cls K C
 n1:JaU K C "name"
 n2:JaU K C "one"
 n3:JaU K C "other"
 n4:JaU K C "low"
 n5:JaU K C "high"
def IsGap (Ad:Adr) (C:Addr):Prop:=C=Ad.Gap
structure Jkd (K:W.Frag) (C:Addr):Prop where
 cls:Cls K C
 n1:JaU K C "leads"
def JcZ (Ad:Adr) (C:Addr):Prop:=C=Ad.Joints
structure Jln (K:W.Frag) (C:Addr):Prop where
 cls:Cls K C
 n1:JaU K C "parts_by_name"
 n2:JaU K C "gaps_by_name"
 n3:JaU K C "ways"
def Ja9 (Ad:Adr) (C:Addr):Prop:=C=Ad.Thing
structure Jlm (K:W.Frag) (C:Addr):Prop where
 cls:Cls K C
 n1:JaU K C "bottom"
 n2:JaU K C "factors"
def Jdk (Ad:Adr) (C:Addr):Prop:=C=Ad.Scale
structure LidC (K:W.Frag) (C:Addr):Prop where
 cls:Cls K C
 n1:JaU K C "name"
 n2:JaU K C "rest"
 n3:JaU K C "weights"
 n4:JaU K C "load"
 n5:JaU K C "last_level"
def IsLid (Ad:Adr) (C:Addr):Prop:=C=Ad.Lid
variable {H:Hp} {a C:Addr} {xs:List V}
theorem SqT.put {K:W.Frag} {x dx:Addr} {fs fs':List (Str × V)} (hx:H x=some (.ins C dx fs)) (h:SqT K H a xs):SqT K (upd H x (.ins C dx fs')) a xs:=by
 rcases h with (h | ⟨o,h⟩) | h
 ·exact .inl (.inl (by rw [Jag (ne_of h hx (by intro z;cases z))];exact h))
 ·exact .inl (.inr ⟨o,by rw [Jag (ne_of h hx (by intro z;cases z))];exact h⟩)
 ·exact .inr h
def partF (n s e z m w:V):List (Str × V):=[("name",n),("start",s),("end",e),("size",z),("most",m),("weight",w)]
def gapF (n s e l g:V):List (Str × V):=[("name",n),("one",s),("other",e),("low",l),("high",g)]
structure Txt (K:W.Frag) (mg:Str->Option Value) (Ad:Adr):Prop where
 BdC:mg "abs"=none
 Baz:mg "isinstance"=none
 BbQ:mg "len"=none
 BdP:mg "int"=none
 BdL:mg "bool"=none
 Bda:mg "tuple"=none
 BdQ:mg "str"=none
 Bb9:mg "range"=none
 Bds:mg "list"=none
 BdR:mg "min"=none
 BdM:mg "sorted"=none
 BdS:mg "all"=none
 n_sum:mg "sum"=none
 n_dict:mg "dict"=none
 m_SlackError:mg "SlackError"=some (.ref Ad.SlackError)
 m_NoNumber:mg "NoNumber"=some (.ref Ad.NoNumber)
 BdD:mg "NoName"=some (.ref Ad.NoName)
 m_Tight:mg "Tight"=some (.ref Ad.Tight)
 BdV:mg "Part"=some (.ref Ad.Part)
 BdW:mg "Gap"=some (.ref Ad.Gap)
 BdN:mg "Joints"=some (.ref Ad.Joints)
 BdT:mg "Thing"=some (.ref Ad.Thing)
 BdU:mg "Scale"=some (.ref Ad.Scale)
 m_Lid:mg "Lid"=some (.ref Ad.Lid)
 Bca:mg "SMALL_LETTERS"=some Ad.SMALL_LETTERS
 Bcb:RelV (.str "abcdefghijklmnopqrstuvwxyz") Ad.SMALL_LETTERS
 Bcy:mg "LONGEST_NAME"=some Ad.LONGEST_NAME
 Bcz:RelV (.int 8) Ad.LONGEST_NAME
 Bc7:mg "ZERO"=some (.ref Ad.ZERO)
 Bc8:RelV (.ref Ad.ZERO) (.ref Ad.ZERO)
 Bc9:∀ H:Hp,SqT K H Ad.ZERO [.int 0, .int 1]
 x_SlackError:W.excIn K Ad.SlackError [.type "ValueError", .type "Exception", .type "BaseException", .type "object"] "ValueError.__new__"=true
 x_NoNumber:W.excIn K Ad.NoNumber [.type "ValueError", .type "Exception", .type "BaseException", .type "object"] "ValueError.__new__"=true
 BbS:W.excIn K Ad.NoName [.type "ValueError", .type "Exception", .type "BaseException", .type "object"] "ValueError.__new__"=true
 BcA:∀ C,IsPart Ad C->PartC K C
 Bdt:∀ C,IsGap Ad C->GapC K C
 BbT:∀ C,JcZ Ad C->Jkd K C
 Ba9:∀ C,Ja9 Ad C->Jln K C
 Bcc:∀ C,Jdk Ad C->Jlm K C
 c_Lid:∀ C,IsLid Ad C->LidC K C
 xa:ExcA K Ad.Tight "tight_gap"
 xl:ExcL K Ad.Tight "tight_gap"
 slk:SlkI K Ad.SlackError
 xc:JeJ K Ad.Tight Ad.Tight
def PEV (K:W.Frag) (H:Hp) (e:PD ⊕ D) (x:V):Prop:=match e with
 | .inl p=>PDV K H p x/\POk p
 | .inr c=>Rep K H c x/\szD c/\partB c=false
def GEV (K:W.Frag) (H:Hp) (e:GD ⊕ D) (x:V):Prop:=match e with
 | .inl g=>TV K H g.td x/\TOk g.td
 | .inr c=>Rep K H c x/\szD c/\gapB c=false
def POV (K:W.Frag) (Ad:Adr) (H:Hp) (p:PD) (v:V):Prop:=∃ q dx vz vm,v=.ref q/\H q=some (.ins Ad.Part dx (partF (.str p.nm) (.str p.st) (.str p.en) vz vm (.int p.wt)))/\FrV K H vz p.sz.1 p.sz.2/\FrV K H vm p.mo.1 p.mo.2
def GOV (K:W.Frag) (Ad:Adr) (H:Hp) (g:GD) (v:V):Prop:=∃ q dx vl vg,v=.ref q/\H q=some (.ins Ad.Gap dx (gapF (.str g.nm) (.str g.st) (.str g.en) vl vg))/\FrV K H vl g.lo.1 g.lo.2/\FrV K H vg g.hi.1 g.hi.2
section
variable {Ad:Adr} {H':Hp} {v x:V} {K:W.Frag}
def isTI:HO->Bool
 | .ins _ _ _=>true
 | u=>isTF u
def SameI (H H':Hp):Prop:=∀ b u,isTI u=true->H b=some u->H' b=some u
theorem SameI.t (S:SameI H H'):SameT H H':=fun b u t h=>S b u (by cases u <;> first | exact t | (simp [isTF] at t)) h
theorem Same.i (S:Same H H'):SameI H H':=fun b u _ h=>S b u h
theorem PEV.same {e:PD ⊕ D} (S:Same H H') (h:PEV K H e x):PEV K H' e x:=by
 match e,h with
 | .inl t,h=>exact ⟨h.1.sameT S.t,h.2⟩
 | .inr c,h=>exact ⟨h.1.same S,h.2⟩
theorem GEV.same {e:GD ⊕ D} (S:Same H H') (h:GEV K H e x):GEV K H' e x:=by
 match e,h with
 | .inl t,h=>exact ⟨h.1.sameT S.t,h.2⟩
 | .inr c,h=>exact ⟨h.1.same S,h.2⟩
theorem POV.si {p:PD} (S:SameI H H'):POV K Ad H p v->POV K Ad H' p v:=by rintro ⟨q,a,b,c,e,f,g,d⟩;exact ⟨q,a,b,c,e,S _ _ rfl f,g.sameT S.t,d.sameT S.t⟩
theorem GOV.si {g:GD} (S:SameI H H'):GOV K Ad H g v->GOV K Ad H' g v:=by rintro ⟨q,a,b,c,e,f,h,d⟩;exact ⟨q,a,b,c,e,S _ _ rfl f,h.sameT S.t,d.sameT S.t⟩
end
def JK (Ad:Adr) (H0 H:Hp) (j d:Addr) (ls:List PD):Prop:=(∃ dx,H j=some (.ins Ad.Joints dx [("leads", .ref d)]))/\H0 d=none/\∃ kvs,H d=some (.dK kvs)/\kvs.length<=2*ls.length/\JD H0 H (Jaz ls) kvs
variable {Ad:Adr} {H0 H':Hp} {d:Addr} {ls:List PD}
theorem JK.same {j:Addr} (S:Same H H'):JK Ad H0 H j d ls->JK Ad H0 H' j d ls:=fun ⟨⟨b,e⟩,g,a,h,c,f⟩=>⟨⟨b,S _ _ e⟩,g,a,S _ _ h,c,f.same S⟩
def TK (K:W.Frag) (Ad:Adr) (H:Hp) (x:Addr) (ls:List PD) (gs:List GD):Prop:=∃ dx d1 d2 d3 k1 k2 k3,H x=some (.ins Ad.Thing dx [("parts_by_name", .ref d1),("gaps_by_name", .ref d2),("ways", .ref d3)])/\H d1=some (.dK k1)/\BG (·.nm) (POV K Ad H) ls k1/\H d2=some (.dK k2)/\BG (·.nm) (GOV K Ad H) gs k2/\H d3=some (.dK k3)/\BG (·.nm) (WOV H ls) gs k3
variable {x:Addr}
theorem TK.same {K:W.Frag} {gs:List GD} (S:Same H H'):TK K Ad H x ls gs->TK K Ad H' x ls gs:=by rintro ⟨a,c,b,d,k,g,h,e,f,l,m,o,n,j⟩;exact ⟨a,c,b,d,k,g,h,S _ _ e,S _ _ f,l.mono fun _ _ z=>z.si (Same.i S),S _ _ m,o.mono fun _ _ z=>z.si (Same.i S),S _ _ n,j.mono fun _ _ z=>z.same S⟩
def SameJ (d:Addr) (H H':Hp):Prop:=∀ b u,b≠d->(∀ xs,u≠.lst xs)->H b=some u->H' b=some u
variable {n:Nat}
theorem Jgk {α:Type} {f : α->Str} {ls l0:List α} {p : α} (h:ls++[p]=l0.take n) (hn:(l0.map f).Nodup):f p∉ls.map f:=fun a=>by
 have:=((List.take_sublist n l0).map f).nodup hn;rw [<- h,map_append] at this;exact (nodup_append.mp this).2.2 _ a _ (by simp) rfl
theorem Jfn (ht:Tree ls) (hn:(ls.map (·.nm)).Nodup) (i:Nat) (p:PD) (hp:ls[i]?=some p):¬ Conn (ls.take i) p.st p.en:=fun z=>ht p (List.mem_of_getElem? hp) (z.sub fun x a=>mem_filter.mpr ⟨List.mem_of_mem_take a,by
 rw [decide_eq_true_iff];exact fun e=>Jgk (f:=(·.nm)) (p:=p) (n:=i+1) (by rw [take_succ,hp];rfl) hn (by rw [<- e];exact mem_map.mpr ⟨x,a,rfl⟩)⟩)
def SCK (Ad:Adr) (H:Hp) (x:Addr) (b:Int) (fs:List Int):Prop:=∃ dx fl,H x=some (.ins Ad.Scale dx [("bottom", .int b),("factors", .ref fl)])/\H fl=some (.lst (fs.map V.int))/\Scl b fs/\Mth.Sz 2000 b/\fs.length<=30
theorem SCK.same {b:Int} {fs:List Int} (S:Same H H'):SCK Ad H x b fs->SCK Ad H' x b fs:=by rintro ⟨a,d,c,e,f⟩;exact ⟨a,d,S _ _ c,S _ _ e,f⟩
def LDV (K:W.Frag) (Ad:Adr) (H:Hp) (e:LidD) (v:V):Prop:=∃ q dx vr vt wd,v=.ref q/\H q=some (.ins Ad.Lid dx [("name", .str e.nm),("rest",vr),("weights", .ref wd),("load", .int e.load),("last_level",vt)])/\FrV K H vr e.rest.1 e.rest.2/\FrV K H vt e.last.1 e.last.2/\H wd=some (.dK (wsK e.ws))
variable {e:LidD} {v:V}
theorem LDV.same {K:W.Frag} (S:Same H H'):LDV K Ad H e v->LDV K Ad H' e v:=by rintro ⟨q,a,j,f,b,d,h,i,c,g⟩;exact ⟨q,a,j,f,b,d,S _ _ h,i.same S,c.same S,S _ _ g⟩
theorem LDV.keep {K:W.Frag} {q dq:Addr} {fs:List (Str × V)} (S:∀ b u,b≠q->H b=some u->H' b=some u) (hq:H q=some (.ins C dq fs)) (hne:v≠.ref q):LDV K Ad H e v->LDV K Ad H' e v:=fun ⟨m,d,j,i,f,c,k,l,g,a⟩=>by
 have T:SameT H H':=fun b u t h=>S b u (fun z=>by rw [z,hq] at h;cases h;simp [isTF] at t) h;exact ⟨m,d,j,i,f,c,S _ _ (fun z=>hne (by rw [c,z])) k,l.sameT T,g.sameT T,S _ _ (fun z=>by rw [z,hq] at a;cases a) a⟩
theorem Same.cutN (S:Same H H') (hd:H d=none):Same H (cut d H'):=fun b u h=>by
 rw [JbO (fun z=>by rw [z,hd] at h;cases h)];exact S b u h
theorem SameT.cutO {o:HO} (h:H d=some o) (ho:isTF o=false):SameT H (cut d H):=fun b u t a=>by
 rw [JbO (fun z=>by rw [z,h] at a;cases a;rw [ho] at t;cases t)];exact a
theorem LDV.notin {K:W.Frag} {es:List LidD} {u:HO} (hX:All2 (LDV K Ad H) es xs) (h:H a=some u) (hu:∀ dx fs,u≠.ins Ad.Lid dx fs):V.ref a∉xs:=fun z=>by
 obtain ⟨i,c⟩:=List.getElem?_of_mem z;obtain ⟨e,_,q,dx,j,g,f,b,d,_⟩:=hX.at_ c;have b:a=q:=by injection b
 rw [b,d] at h;exact hu _ _ (Option.some.inj h).symm
theorem LDV.dict {K:W.Frag} {kv:List (Key × V)} (S:∀ b u,b≠d->H b=some u->H' b=some u) (hd:H d=some (.dK kv)) (hn:∀ wd,v=.ref wd->True) (h0:∀ q dx vr vt wd,H q=some (.ins Ad.Lid dx [("name", .str e.nm),("rest",vr),("weights", .ref wd),("load", .int e.load),("last_level",vt)])->v=.ref q->wd≠d):LDV K Ad H e v->LDV K Ad H' e v:=fun ⟨j,dx,vr,vt,wd,c,a,i,f,g⟩=>by
 have T:SameT H H':=fun b u t h=>S b u (fun z=>by rw [z,hd] at h;cases h;simp [isTF] at t) h;exact ⟨j,dx,vr,vt,wd,c,S _ _ (fun z=>by rw [z,hd] at a;cases a) a,i.sameT T,f.sameT T,S _ _ (h0 _ _ _ _ _ a c) g⟩
def ShV (K:W.Frag) (H:Hp) (r:ShD) (v:V):Prop:=∃ p vs t,v=.ref p/\SqT K H p [.str r.nm,vs, .ref t]/\FrV K H vs r.sl.1 r.sl.2/\SqT K H t (match r.sp with | none=>[.str (Str.ofString "most")] | some g=>[.str (Str.ofString "gap"), .str g])
variable {r:ShD}
theorem ShV.sameT {K:W.Frag} (S:SameT H H'):ShV K H r v->ShV K H' r v:=by rintro ⟨p,c,t,b,d,e,a⟩;exact ⟨p,c,t,b,d.sameT S,e.sameT S,a.sameT S⟩
def shD (r:ShD):D:=.tup [.str r.nm,frD r.sl, .tup (match r.sp with | none=>[.str (Str.ofString "most")] | some g=>[.str (Str.ofString "gap"), .str g])]
theorem ShV.rep {K:W.Frag} (h:ShV K H r v):Rep K H (shD r) v:=by
 obtain ⟨p,d,t,rfl,c,b,a⟩:=h;have b:=FrV.rep b;cases e:r.sp with
 | none=>
  rw [e] at a;unfold shD;rw [e];simp only [Rep,RepL];exact ⟨p,_,rfl,c,_,_,rfl,rfl,_,_,rfl,by simpa only [Rep,RepL,frD] using b,_,_,rfl,⟨t,_,rfl,a,_,_,rfl,rfl,rfl⟩,rfl⟩
 | some g=>
  rw [e] at a;unfold shD;rw [e];simp only [Rep,RepL];exact ⟨p,_,rfl,c,_,_,rfl,rfl,_,_,rfl,by simpa only [Rep,RepL,frD] using b,_,_,rfl,⟨t,_,rfl,a,_,_,rfl,rfl,_,_,rfl,rfl,rfl⟩,rfl⟩
section
variable {P:Program} {mg:Str->Option Value} {base:Heap} {w:World} {K:W.Frag}
seal PE PA PS PSs PT PW PG PGs PI PO
abbrev Baj:Stmt:=top 11
theorem JaQ:Jan ["one","other","greater","lesser","rest"] ["one","other"] (Jae Baj):=by bv_decide
def JaB  : Sp:=fun vs H Q E=>∃ (a b:Int),vs=[.int a, .int b]/\Q (.int (Mth.g a b)) H
theorem Jds (F:FunD K "common_divisor" "common_divisor" Baj dV f fd) (T:Txt K mg Ad)  : FnOk P w K mg base (CX1 P w) 1 f fd ["one","other"] (JaB):=by
 refine F.okn JaQ (by subst_eqs) (fun n A d s H p Q E r h=>?_)
 obtain ⟨a,b,rfl,h⟩:=h;have j:=r.units;refine ⟨_,(Jab (Jak 2 JaQ.nd (Jau Jc1 rfl T.BdC JgF (Jaa (pv 0) Jad))) (Jab (Jak 3 JaQ.nd (Jau Jc1 rfl T.BdC JgF (Jaa (pv 1) Jad))) (Jab (JdI PassesOwn.never (JaC (Jc8 j) (pv 3) Jac (Jaw _)) (Jab (Jak 4 JaQ.nd (pe_op Jay (pv 2) (pv 3))) (Jab (Jak 2 JaQ.nd (pv 3)) (Jai (Jak 3 JaQ.nd (pv 4)))))) (Jai (Jaq (pv 2)))))),?_⟩
 clear j;show tSeq _ _ _ [some (.int a),some (.int b),none,none,none] H;try mstop
 refine ⟨fun m σ l=>∃ (x y:Int) (z:Option V),σ=[some (.int a),some (.int b),some (.int x),some (.int y),z]/\l=H/\0<=x/\0<=y/\Mth.g x y=Mth.g a b/\y.toNat=m,⟨_,_,_,none,rfl,rfl,Mth.JjG a,Mth.JjG b,Mth.BdO a b,rfl⟩,?_⟩;rintro m σ l ⟨x,y,z,rfl,rfl,t,o,k,rfl⟩;try mstop
 by_cases c:y=0
 ·subst c;rw [if_neg (by simp)];have e:Mth.g a b=x:=by rw [<- k,Mth.JjQ];ac_nf
  rw [e] at h;exact h
 ·rw [if_pos (by simp [c])];have f:=Mth.fm (x:=x) (y:=y) ∅;exact ⟨_,fun _ _ q=>q,c,(x.fmod y).toNat,by ac_nf,y,x.fmod y,_,rfl,rfl,o,f.1,by rw [Mth.JhT ∅];exact k,rfl⟩
abbrev BcB:Stmt:=top 12
theorem Jfd:Jan ["one","other","shared","top","rest"] ["one","other"] (Jae BcB):=by bv_decide
def Jfj (K:W.Frag):Sp:=fun vs H Q E=>∃ (x y:V) (a b c d:Int),vs=[x,y]/\FrV K H x a b/\FrV K H y c d/\Mth.Sz 4000 a/\Mth.Sz 4000 b/\Mth.Sz 4000 c/\Mth.Sz 4000 d/\1<=b/\1<=d/\Mth.g a b=1/\Mth.g c d=1/\∀ p H',Same H H'->H' p=some (.tup [.int (Mth.top (a*d+c*b) (b*d)), .int (Mth.bot (a*d+c*b) (b*d))])->Q (.ref p) H'
theorem JkK (F:FunD K "plus" "plus" BcB dV f fd) (T:Txt K mg Ad) (Bac:Cal P w K mg base 1 "common_divisor" ["one","other"] [] (JaB)):FnOk P w K mg base (CX1 P w) 2 f fd ["one","other"] (Jfj K):=by
 refine F.okn Jfd (by subst_eqs) (fun C A n s H G Q E v h=>?_)
 obtain ⟨x,y,a,b,c,d,rfl,h⟩:=h;refine ⟨_,(Jab (Jak 2 Jfd.nd (Bac.ev v ⋯ rfl passF (Jaa (pe_ix ix_U (pv 0) Jac) (Jaa (pe_ix ix_U (pv 1) Jac) Jad)))) (Jab (Jak 3 Jfd.nd (pe_op JaE (pe_op JaL (pe_ix ix_U (pv 0) Jac) (pe_op Jar (pe_ix ix_U (pv 1) Jac) (pv 2))) (pe_op JaL (pe_ix ix_U (pv 1) Jac) (pe_op Jar (pe_ix ix_U (pv 0) Jac) (pv 2))))) (Jab (Jak 4 Jfd.nd (Bac.ev v ⋯ rfl passF (Jaa (pv 3) (Jaa (pv 2) Jad)))) (Jai (Jaq (JaO (Jaa (pe_op Jar (pv 3) (pv 4)) (Jaa (pe_op JaL (pe_op Jar (pe_ix ix_U (pv 0) Jac) (pv 2)) (pe_op Jar (pe_ix ix_U (pv 1) Jac) (pv 4))) Jad)))))))),?_⟩
 obtain ⟨j,e,W,B,U,o,D,V,M,X,k⟩:=h;show tSeq _ _ _ [some x,some y,none,none,none] H;try mstop
 refine ixF1 j (ixF1 e ?_);try mstop
 refine ⟨_,_,rfl,?_⟩;try mstop
 have Y:=Mth.g_pos (a:=b) (b:=d) ∅;have L:=Mth.Jcz b d;have u:=Mth.JbP b d;have q:Mth.Sz 4000 (Mth.g b d):=Nat.lt_of_le_of_lt (by have:=Mth.g_le (a:=b) (b:=d) ∅;ac_nf:(Mth.g b d).natAbs<=d.natAbs) o;have l:DivOk (Mth.g b d):=divOk ∅ q;have r:=B.fdiv L ∅;have R:=o.fdiv u ∅;refine ixF0 j (ixF1 e ?_);try mstop
 refine ⟨l,mulOk W R,ixF0 e (ixF1 j ?_)⟩;try mstop
 refine ⟨l,mulOk U r,?_⟩;refine ⟨_,_,rfl,?_⟩;have m:=Mth.JkZ D V M X (s:=Mth.g b d) rfl rfl rfl;generalize ht:a*d.fdiv (Mth.g b d)+c*b.fdiv (Mth.g b d)=t at m ⊢;have Z:=Mth.g_pos (a:=t) (b:=Mth.g b d) ∅;have O:=Mth.JbP t (Mth.g b d);have J:Mth.Sz 4000 (Mth.g t (Mth.g b d)):=Nat.lt_of_le_of_lt (by have:=Mth.g_le (a:=t) (b:=Mth.g b d) ∅;ac_nf:(Mth.g t (Mth.g b d)).natAbs<=(Mth.g b d).natAbs) q;have z:DivOk (Mth.g t (Mth.g b d)):=divOk ∅ J;try mstop
 refine ⟨z,ixF1 j ?_⟩;try mstop
 refine ⟨l,ixF1 e ?_⟩;try mstop
 refine ⟨z,mulOk r (o.fdiv (Int.dvd_trans O u) ∅),len2,?_⟩;refine JdZ fun p N S I=>k p N S ?_;rw [I,m.1,m.2]
abbrev BbV:Stmt:=top 13
theorem Jjv:Jan ["one","other"] ["one","other"] (Jae BbV):=by bv_decide
def Jdh (K:W.Frag):Sp:=fun vs H Q E=>∃ (x y:V) (a b c d:Int),vs=[x,y]/\FrV K H x a b/\FrV K H y c d/\Mth.Sz 4000 a/\Mth.Sz 4000 b/\Mth.Sz 4000 c/\Mth.Sz 4000 d/\1<=b/\1<=d/\Mth.g a b=1/\Mth.g c d=1/\∀ p H',Same H H'->H' p=some (.tup [.int (Mth.top (a*d-c*b) (b*d)), .int (Mth.bot (a*d-c*b) (b*d))])->Q (.ref p) H'
theorem Jjb (F:FunD K "minus" "minus" BbV dV f fd) (T:Txt K mg Ad) (BcC:Cal P w K mg base 2 "plus" ["one","other"] [] (Jfj K)):FnOk P w K mg base (CX1 P w) 3 f fd ["one","other"] (Jdh K):=by
 refine F.okn Jjv (by subst_eqs) (fun j A e s H r Q E v h=>?_)
 obtain ⟨x,y,a,b,c,d,rfl,h⟩:=h;refine ⟨_,(Jai (Jaq (BcC.ev v ⋯ rfl passF (Jaa (pv 0) (Jaa (JaO (Jaa (pe_un JeI (pe_ix ix_U (pv 1) Jac)) (Jaa (pe_ix ix_U (pv 1) Jac) Jad))) Jad))))),?_⟩;obtain ⟨t,g,J,i,G,B,m,I,u,L,k⟩:=h;show tRet _ _ [some x,some y] H;try mstop
 refine ixF0 g ?_;try mstop
 refine ixF1 g ?_;try mstop
 refine ⟨len2,?_⟩;rename_i p l z H M S q;refine ⟨_,_,a,b, -c,d,rfl,t.same S,FrV.of q,J,i,G.neg,B,m,I,u,by rw [Mth.g_neg];exact L,fun C n D o=>k C n (S.trans D) ?_⟩;rw [o,Int.neg_mul, <- Int.sub_eq_add_neg]
abbrev BbW:Stmt:=top 14
theorem Jfe:Jan ["one","other","across","back"] ["one","other"] (Jae BbW):=by bv_decide
def Jdi (K:W.Frag):Sp:=fun vs H Q E=>∃ (x y:V) (a b c d:Int),vs=[x,y]/\FrV K H x a b/\FrV K H y c d/\Mth.Sz 4000 a/\Mth.Sz 4000 b/\Mth.Sz 4000 c/\Mth.Sz 4000 d/\1<=b/\1<=d/\Mth.g a b=1/\Mth.g c d=1/\∀ p H',Same H H'->H' p=some (.tup [.int (Mth.top (a*c) (b*d)), .int (Mth.bot (a*c) (b*d))])->Q (.ref p) H'
theorem Jjd (F:FunD K "times" "times" BbW dV f fd) (T:Txt K mg Ad) (Bac:Cal P w K mg base 1 "common_divisor" ["one","other"] [] (JaB)):FnOk P w K mg base (CX1 P w) 2 f fd ["one","other"] (Jdi K):=by
 refine F.okn Jfe (by subst_eqs) (fun D A l s H J Q E q h=>?_)
 obtain ⟨x,y,a,b,c,d,rfl,h⟩:=h;refine ⟨_,(Jab (Jak 2 Jfe.nd (Bac.ev q ⋯ rfl passF (Jaa (pe_ix ix_U (pv 0) Jac) (Jaa (pe_ix ix_U (pv 1) Jac) Jad)))) (Jab (Jak 3 Jfe.nd (Bac.ev q ⋯ rfl passF (Jaa (pe_ix ix_U (pv 1) Jac) (Jaa (pe_ix ix_U (pv 0) Jac) Jad)))) (Jai (Jaq (JaO (Jaa (pe_op JaL (pe_op Jar (pe_ix ix_U (pv 0) Jac) (pv 2)) (pe_op Jar (pe_ix ix_U (pv 1) Jac) (pv 3))) (Jaa (pe_op JaL (pe_op Jar (pe_ix ix_U (pv 0) Jac) (pv 3)) (pe_op Jar (pe_ix ix_U (pv 1) Jac) (pv 2))) Jad))))))),?_⟩
 obtain ⟨j,e,V,m,R,t,I,U,N,W,k⟩:=h;show tSeq _ _ _ [some x,some y,none,none] H;try mstop
 refine ixF0 j (ixF1 e ?_);try mstop
 refine ⟨_,_,rfl,?_⟩;refine ixF0 e (ixF1 j ?_);try mstop
 refine ⟨_,_,rfl,?_⟩;try mstop
 have X:=Mth.g_pos (a:=a) (b:=d) ∅;have Y:=Mth.g_pos (a:=c) (b:=b) ∅;have B:=Mth.Jcz a d;have G:=Mth.JbP a d;have C:=Mth.Jcz c b;have z:=Mth.JbP c b;have O:Mth.Sz 4000 (Mth.g a d):=Nat.lt_of_le_of_lt (by have:=Mth.g_le (a:=a) (b:=d) ∅;ac_nf:(Mth.g a d).natAbs<=d.natAbs) t;have vl:Mth.Sz 4000 (Mth.g c b):=Nat.lt_of_le_of_lt (by have:=Mth.g_le (a:=c) (b:=b) ∅;ac_nf:(Mth.g c b).natAbs<=b.natAbs) m;have r:DivOk (Mth.g a d):=divOk ∅ O;have n:DivOk (Mth.g c b):=divOk ∅ vl;have o:=Mth.Jjz I U N W (u:=Mth.g a d) (v:=Mth.g c b) rfl rfl;refine ixF0 j ?_;try mstop
 refine ⟨r,ixF0 e ?_⟩;try mstop
 refine ⟨n,mulOk (V.fdiv B ∅) (R.fdiv C ∅),ixF1 j ?_⟩;try mstop
 refine ⟨n,ixF1 e ?_⟩;try mstop
 refine ⟨r,mulOk (m.fdiv z ∅) (t.fdiv G ∅),len2,?_⟩;refine JdZ fun p M S L=>k p M S ?_;rw [L,o.1,o.2]
abbrev BcD:Stmt:=top 15
theorem Jk7:Jan ["one","other"] ["one","other"] (Jae BcD):=by bv_decide
def Jfi (K:W.Frag) (Ad:Adr):Sp:=fun vs H Q E=>∃ (x y:V) (a b c d:Int),vs=[x,y]/\FrV K H x a b/\FrV K H y c d/\Mth.Sz 4000 a/\Mth.Sz 4000 b/\Mth.Sz 4000 c/\Mth.Sz 4000 d/\1<=b/\1<=d/\Mth.g a b=1/\Mth.g c d=1/\(c=0->E (.ref Ad.NoNumber) none H)/\(c≠0->∀ p H',Same H H'->H' p=some (.tup [.int (Mth.top (a*d) (b*c)), .int (Mth.bot (a*d) (b*c))])->Q (.ref p) H')
theorem JkJ (F:FunD K "over" "over" BcD dV f fd) (T:Txt K mg Ad) (Bbf:Cal P w K mg base 2 "times" ["one","other"] [] (Jdi K)):FnOk P w K mg base (CX1 P w) 3 f fd ["one","other"] (Jfi K Ad):=by
 refine F.okx Jk7 (fun U H Q E h=>?_) (fun R A o s H U Q E r h=>?_)
 ·obtain ⟨x,y,a,b,c,d,rfl,_⟩:=h;rfl
 obtain ⟨x,y,a,b,c,d,rfl,h⟩:=h;have B:=r.units;refine ⟨_,(Jab (ps_if (JaC (JbJ B) (pe_ix ix_U (pv 1) Jac) Jac (Jaw _)) (Jai (JgV PySem.F.excBase_ValueError T.x_NoNumber rfl T.m_NoNumber (Jaa Jbk Jad)))
   Jax) (Jab (ps_if (JaC JfP (pe_ix ix_U (pv 1) Jac) Jac (Jaw _)) (Jai (Jaq (Bbf.ev r ⋯ rfl pass1 (Jaa (pv 0) (Jaa (JaO (Jaa (pe_un JeI (pe_ix ix_U (pv 1) Jac)) (Jaa (pe_un JeI (pe_ix ix_U (pv 1) Jac)) Jad))) Jad)))))
   Jax) (Jai (Jaq (Bbf.ev r ⋯ rfl pass1 (Jaa (pv 0) (Jaa (JaO (Jaa (pe_ix ix_U (pv 1) Jac) (Jaa (pe_ix ix_U (pv 1) Jac) Jad))) Jad))))))),?_⟩
 clear B;obtain ⟨G,g,N,C,M,L,D,W,I,J,O,k⟩:=h;show tSeq _ _ _ [some x,some y] H;try mstop
 refine ixF0 g ?_;try mstop
 by_cases i:c=0
 ·rw [if_pos (by simpa using i)];try mstop
  exact ⟨by decide,O i⟩
 ·rw [if_neg (by simpa using i)];refine ixF0 g ?_;try mstop
  by_cases j:c<0
  ·rw [if_pos (by simpa using j)];refine ixF1 g ?_;try mstop
   refine ixF0 g ?_;try mstop
   refine ⟨len2,?_⟩;rename_i p l u H V S q;refine ⟨_,_,a,b, -d, -c,rfl,G.same S,FrV.of q,N,C,L.neg,M.neg,D,by ac_nf,I,by rw [Mth.g_neg,Mth.Jly,Mth.JjP];exact J,fun v m z n=>k i v m (S.trans z) ?_⟩;have e:=Mth.JkG (t:=a*d) (b:=b*c) (Int.mul_neg_of_pos_of_neg ∅ j);rw [n,Int.mul_neg,Int.mul_neg,e.1,e.2]
  ·rw [if_neg (by simpa using j)];refine ixF1 g ?_;try mstop
   refine ixF0 g ?_;try mstop
   refine ⟨len2,?_⟩;rename_i p l u H V S q;exact ⟨_,_,a,b,d,c,rfl,G.same S,FrV.of q,N,C,L,M,D,by ac_nf,I,by rw [Mth.JjP];exact J,fun v m z n=>k i v m (S.trans z) n⟩
abbrev BbX:Stmt:=top 16
theorem Jjw:Jan ["one","other"] ["one","other"] (Jae BbX):=by bv_decide
def Jcx (K:W.Frag):Sp:=fun vs H Q E=>∃ (x y:V) (a b c d:Int),vs=[x,y]/\FrV K H x a b/\FrV K H y c d/\Mth.Sz 4000 a/\Mth.Sz 4000 b/\Mth.Sz 4000 c/\Mth.Sz 4000 d/\Q (.bl (decide (a*d<c*b))) H
theorem Jje (F:FunD K "under" "under" BbX dV f fd) (T:Txt K mg Ad)  : FnOk P w K mg base (CX1 P w) 1 f fd ["one","other"] (Jcx K):=by
 refine F.okn Jjw (by subst_eqs) (fun l A e s H m Q E q h=>?_)
 obtain ⟨x,y,a,b,c,d,rfl,h⟩:=h;refine ⟨_,(Jai (Jaq (Jbc JfP (pe_op JaL (pe_ix ix_U (pv 0) Jac) (pe_ix ix_U (pv 1) Jac)) (pe_op JaL (pe_ix ix_U (pv 1) Jac) (pe_ix ix_U (pv 0) Jac)) (Jaw _)))),?_⟩;obtain ⟨i,g,p,j,o,n,k⟩:=h;show tRet _ _ [some x,some y] H;cbv;refine ixF0 i (ixF1 g ?_);cbv;refine ⟨mulOk p n,ixF0 g (ixF1 i ?_)⟩;cbv;exact ⟨mulOk o j,k⟩
abbrev Bbo:Stmt:=top 22
theorem Jho:Jan ["thing"] ["thing"] (Jae Bbo):=by bv_decide
def Jci (K:W.Frag):Sp:=fun vs H Q E=>∃ (z:Str),vs=[.str z]/\nameS z=true/\∀ H',Same H H'->Q (.bl true) H'
theorem Jhh (F:FunD K "is_name" "is_name" Bbo dV f fd) (T:Txt K mg Ad)  : FnOk P w K mg base (CX1 P w) 1 f fd ["thing"] (Jci K):=by
 refine F.okn Jho (by subst_eqs) (fun r A g s H y Q E J h=>?_)
 obtain ⟨z,rfl,h⟩:=h;refine ⟨_,(Jab (ps_if (JbQ (Jbh (Jau JaK rfl T.Baz Ja7 (Jaa (pv 0) (Jaa (JcQ (v:=.ty "str") rfl T.BdQ Jls rfl) Jad))))) (Jai (Jaq pe_bl))
   Jax) (Jab (ps_if (PW.pt (pw_or (JaC JfP (Jau JaW rfl T.BbQ JbN (Jaa (pv 0) Jad)) Jac (Jaw _)) (JcO (JaC JfO (Jau JaW rfl T.BbQ JbN (Jaa (pv 0) Jad)) (JcR (v:=.int 8) rfl T.Bcy T.Bcz) (Jaw _))))) (Jai (Jaq pe_bl))
   Jax) (Jai (Jaq (Jau (Jhy rfl) rfl T.BdS Jlp (Jaa (Jd9 (own:=["sign"]) (cs:=[]) (cl:=[]) rfl (JlY (pv 0)) (fun _ _ _ _=>(Jap 0 (show [("sign" : Str)].Nodup by decide))) (fun _ _ _ _=>(Jbc (JlR (K:=K) rfl) (pv 0) (JcR (v:=.str "abcdefghijklmnopqrstuvwxyz") rfl T.Bca T.Bcb) (by with_unfolding_all rfl))) rfl ⋯ rfl ⋯ hcl0 (hhas0 ⋯) hcs0) Jad)))))),?_⟩
 obtain ⟨b,k⟩:=h;show tSeq _ _ _ [some (.str z)] H;cbv;have t:=len8 b;have l:z.length<=sizeLine:=Nat.le_trans t ⋯;unfold nameS at b;simp only [Bool.and_eq_true,decide_eq_true_eq] at b;obtain ⟨⟨I,M⟩,a⟩:=b
 mframe;refine ⟨l,?_⟩;cbv;rw [if_neg (by simp;ac_nf)];cbv;refine ⟨l,?_⟩;cbv;rw [if_neg (by simp;ac_nf)];cbv;cbv;simpa only [tComp,iStr];refine ⟨fun i m o e=>e=H/\i<=z.cps.size/\m=z.cps.size-i/\o=(z.cps.toList.take i).map fun c=>V.bl (lowB c),⟨_,rfl,Nat.zero_le _,rfl,by simp⟩,?_⟩;rintro i m o e ⟨rfl,G,rfl,rfl⟩;have L:z.cps.size=z.length:=rfl;refine ⟨by simp;ac_nf,?_⟩;by_cases j:i<z.cps.size
 ·refine .inr ⟨j,?_⟩;rintro x n ⟨rfl,c,B,rfl⟩;simpa only [length_singleton,List.replicate,JaA,map_nil,y60y,Jhc];refine ⟨_,Nat.sub_lt_sub_left j (Nat.lt_succ_self i),j,rfl,?_⟩;have d:z.cps.toList[i]?=some c:=by simpa using B
  rw [take_succ,d];simp
 ·have q:i=z.cps.size:=by ac_nf
  refine .inl ⟨q,?_⟩;subst q;rw [take_of_length_le (by simp)];rename_i p D C e n S u;refine ⟨p,z.cps.toList.map lowB,rfl,SqL.of (by rw [u,map_map];rfl),?_⟩;have:=k n S;simpa [List.all_map,a] using this
abbrev Ba2:Stmt:=top 23
theorem Jgz:Jan ["thing"] ["thing"] (Jae Ba2):=by bv_decide
def Jct (K:W.Frag):Sp:=fun vs H Q E=>∃ (i:Int),vs=[.int i]/\Q (.bl true) H
theorem Jgo (F:FunD K "is_whole" "is_whole" Ba2 dV f fd) (T:Txt K mg Ad)  : FnOk P w K mg base (CX1 P w) 1 f fd ["thing"] (Jct K):=by
 refine F.okn Jgz (by subst_eqs) (fun c A a s H b Q E d h=>?_)
 obtain ⟨i,rfl,h⟩:=h;refine ⟨_,(Jai (Jaq (Jcg (Jau JaK rfl T.Baz Ja7 (Jaa (pv 0) (Jaa (JcQ (v:=.ty "int") rfl T.BdP Jlq rfl) Jad))) (Jda (Jii (Jau JaK rfl T.Baz Ja7 (Jaa (pv 0) (Jaa (JcQ (v:=.ty "bool") rfl T.BdL Jkj rfl) Jad)))))))),?_⟩;show tRet _ _ [some (.int i)] H;cbv;exact h
abbrev BaC:Stmt:=top 24
theorem Jeu:Jan ["thing"] ["thing"] (Jae BaC):=by bv_decide
def JbH (K:W.Frag):Sp:=fun vs H Q E=>∃ (x:V) (a b:Int),vs=[x]/\FrV K H x a b/\1<=b/\Mth.g a b=1/\Q (.bl true) H
theorem Jep (F:FunD K "is_fraction" "is_fraction" BaC dV f fd) (T:Txt K mg Ad) (BaU:Cal P w K mg base 1 "is_whole" ["thing"] [] (Jct K)) (Bac:Cal P w K mg base 1 "common_divisor" ["one","other"] [] (JaB)):FnOk P w K mg base (CX1 P w) 2 f fd ["thing"] (JbH K):=by
 refine F.okn Jeu (by subst_eqs) (fun i A g s H j Q E d h=>?_)
 obtain ⟨x,a,b,rfl,h⟩:=h;have e:=d.units;refine ⟨_,(Jab (ps_if (PW.pt (pw_or (JbQ (Jbh (Jau JaK rfl T.Baz Ja7 (Jaa (pv 0) (Jaa (JcQ (v:=.ty "tuple") rfl T.Bda JeL rfl) Jad))))) (JcO (JaC (Jc8 e) (Jau JaW rfl T.BbQ JbN (Jaa (pv 0) Jad)) Jac (Jaw _))))) (Jai (Jaq pe_bl))
   Jax) (Jab (ps_if (PW.pt (pw_or (JbQ (Jbh (BaU.ev d ⋯ rfl passF (Jaa (pe_ix ix_U (pv 0) Jac) Jad)))) (JcO (JbQ (Jbh (BaU.ev d ⋯ rfl passF (Jaa (pe_ix ix_U (pv 0) Jac) Jad))))))) (Jai (Jaq pe_bl))
   Jax) (Jai (Jaq (Jcg (Jbc JjU (pe_ix ix_U (pv 0) Jac) Jac (Jaw _)) (Jda (Jbc (JbJ e) (Bac.ev d ⋯ rfl passF (Jaa (pe_ix ix_U (pv 0) Jac) (Jaa (pe_ix ix_U (pv 0) Jac) Jad))) Jac (Jaw _)))))))),?_⟩
 clear e;obtain ⟨⟨p,rfl,c⟩,m,l,k⟩:=h;show tSeq _ _ _ [some (.ref p)] H;cbv;refine ⟨_, .inr ⟨rfl,_,c⟩,?_⟩
 mframe;refine ⟨_, .inr c,?_⟩;simpa only [length_cons,length_nil]
 (rw [if_neg (by simp)])
 cbv;refine ixT0 c ?_;refine ⟨a,rfl,?_⟩;cbv;refine ixT1 c ?_;refine ⟨b,rfl,?_⟩;cbv;refine ixT1 c ?_;cbv;rw [if_pos (by simpa using m)];cbv;refine ixT0 c (ixT1 c ?_);refine ⟨_,_,rfl,?_⟩;cbv;simpa [l] using k
abbrev Ba3:Stmt:=top 25
theorem Jgy:Jan ["thing"] ["thing"] (Jae Ba3):=by bv_decide
def JcW (K:W.Frag):Sp:=fun vs H Q E=>∃ (x:V) (a b:Int),vs=[x]/\FrV K H x a b/\1<=b/\Mth.g a b=1/\Q (.bl true) H
theorem Jgn (F:FunD K "is_bound" "is_bound" Ba3 dV f fd) (T:Txt K mg Ad) (Bar:Cal P w K mg base 2 "is_fraction" ["thing"] [] (JbH K)):FnOk P w K mg base (CX1 P w) 3 f fd ["thing"] (JcW K):=by
 refine F.okn Jgy (by subst_eqs) (fun e A c s H i Q E l h=>?_)
 obtain ⟨x,a,b,rfl,h⟩:=h;refine ⟨_,(Jai (Jaq (pe_or (Jbc Je6 (pv 0) JdC (Jaw _)) (Jda (Bar.ev l ⋯ rfl passF (Jaa (pv 0) Jad)))))),?_⟩;obtain ⟨d,m,j,k⟩:=h;show tRet _ _ [some x] H;cbv;have g:x≠.non:=by
  obtain ⟨p,rfl,_⟩:=d;intro z;cases z
 rw [if_neg (by simpa using g)];cbv;exact ⟨x,a,b,rfl,d,m,j,k⟩
abbrev BaV:Stmt:=top 26
theorem JfV:Jan ["one","other"] ["one","other"] (Jae BaV):=by bv_decide
def Jb5 (K:W.Frag):Sp:=fun vs H Q E=>∃ (z w:Str),vs=[.str z, .str w]/\nameS z=true/\nameS w=true/\z≠w/\∀ H',Same H H'->Q (.bl true) H'
theorem JfL (F:FunD K "are_faces" "are_faces" BaV dV f fd) (T:Txt K mg Ad) (BaI:Cal P w K mg base 1 "is_name" ["thing"] [] (Jci K)):FnOk P w K mg base (CX1 P w) 2 f fd ["one","other"] (Jb5 K):=by
 refine F.okn JfV (by subst_eqs) (fun i A a s H l Q E b h=>?_)
 obtain ⟨z,w,rfl,h⟩:=h;have c:=b.units;refine ⟨_,(Jai (Jaq (Jcg (BaI.ev b ⋯ rfl passF (Jaa (pv 0) Jad)) (Jcg (BaI.ev b ⋯ rfl passF (Jaa (pv 1) Jad)) (Jda (Jbc (Jc8 c) (pv 0) (pv 1) (Jaw _))))))),?_⟩;clear c;obtain ⟨e,d,g,k⟩:=h;show tRet _ _ [some (.str z),some (.str w)] H;cbv;refine ⟨z,rfl,e,fun o n=>?_⟩;cbv;refine ⟨w,rfl,d,fun j m=>?_⟩;cbv;have:=k j (n.trans m);simpa [g] using this
abbrev BaL:Stmt:=top 27
theorem Jfb:Jan ["least","greatest"] ["least","greatest"] (Jae BaL):=by bv_decide
def Jcs (K:W.Frag):Sp:=fun vs H Q E=>∃ (x y:V) (a b:Int × Int),vs=[x,y]/\FrV K H x a.1 a.2/\FrV K H y b.1 b.2/\FOk 600 a/\FOk 600 b/\¬ b.1*a.2<a.1*b.2/\Q (.bl true) H
theorem Je2 (F:FunD K "are_bounds" "are_bounds" BaL dV f fd) (T:Txt K mg Ad) (BbL:Cal P w K mg base 3 "is_bound" ["thing"] [] (JcW K)) (BaJ:Cal P w K mg base 1 "under" ["one","other"] [] (Jcx K)):FnOk P w K mg base (CX1 P w) 4 f fd ["least","greatest"] (Jcs K):=by
 refine F.okn Jfb (by subst_eqs) (fun n A g s H q Q E j h=>?_)
 obtain ⟨x,y,a,b,rfl,h⟩:=h;refine ⟨_,(Jab (ps_if (PW.pt (pw_or (JbQ (Jbh (BbL.ev j ⋯ rfl passF (Jaa (pv 0) Jad)))) (JcO (JbQ (Jbh (BbL.ev j ⋯ rfl passF (Jaa (pv 1) Jad))))))) (Jai (Jaq pe_bl))
   Jax) (Jab (ps_if (PW.pt (pw_or (JaC Je6 (pv 0) JdC (Jaw _)) (JcO (JaC Je6 (pv 1) JdC (Jaw _))))) (Jai (Jaq pe_bl))
   Jax) (Jai (Jaq (Jii (BaJ.ev j ⋯ rfl passF (Jaa (pv 1) (Jaa (pv 0) Jad)))))))),?_⟩
 obtain ⟨i,e,d,c,l,k⟩:=h;show tSeq _ _ _ [some x,some y] H;cbv;refine ⟨x,_,_,rfl,i,d.b1,d.g1,?_⟩;cbv;refine ⟨y,_,_,rfl,e,c.b1,c.g1,?_⟩;cbv;have o:x≠.non:=by
  obtain ⟨p,rfl,_⟩:=i;intro z;cases z
 have m:y≠.non:=by
  obtain ⟨p,rfl,_⟩:=e;intro z;cases z
 rw [if_neg (by simpa using o),if_neg (by simpa using m)];cbv;cbv;refine ⟨y,x,_,_,_,_,rfl,e,i,c.s1.mono ⋯,c.s2.mono ⋯,d.s1.mono ⋯,d.s2.mono ⋯,?_⟩;cbv;simpa [l] using k
abbrev BbM:Stmt:=top 28
theorem Jiz:Jan ["thing"] ["thing"] (Jae BbM):=by bv_decide
def Jei (K:W.Frag):Sp:=fun vs H Q E=>∃ (x:V) (g:GD),vs=[x]/\TV K H g.td x/\TOk g.td/\∀ H',Same H H'->Q (.bl true) H'
theorem Jh9 (F:FunD K "is_tie" "is_tie" BbM dV f fd) (T:Txt K mg Ad) (BaI:Cal P w K mg base 1 "is_name" ["thing"] [] (Jci K)) (BaW:Cal P w K mg base 2 "are_faces" ["one","other"] [] (Jb5 K)) (BbC:Cal P w K mg base 4 "are_bounds" ["least","greatest"] [] (Jcs K)):FnOk P w K mg base (CX1 P w) 5 f fd ["thing"] (Jei K):=by
 refine F.okn Jiz (by subst_eqs) (fun q A j s H t Q E e h=>?_)
 obtain ⟨x,g,rfl,h⟩:=h;have o:=e.units;refine ⟨_,(Jab (ps_if (PW.pt (pw_or (JbQ (Jbh (Jau JaK rfl T.Baz Ja7 (Jaa (pv 0) (Jaa (JcQ (v:=.ty "tuple") rfl T.Bda JeL rfl) Jad))))) (JcO (JaC (Jc8 o) (Jau JaW rfl T.BbQ JbN (Jaa (pv 0) Jad)) Jac (Jaw _))))) (Jai (Jaq pe_bl))
   Jax) (Jai (Jaq (Jcg (BaI.ev e ⋯ rfl passF (Jaa (pe_ix ix_U (pv 0) Jac) Jad)) (Jcg (BaW.ev e ⋯ rfl passF (Jaa (pe_ix ix_U (pv 0) Jac) (Jaa (pe_ix ix_U (pv 0) Jac) Jad))) (Jda (BbC.ev e ⋯ rfl passF (Jaa (pe_ix ix_U (pv 0) Jac) (Jaa (pe_ix ix_U (pv 0) Jac) Jad))))))))),?_⟩
 clear o;obtain ⟨⟨a,vl,p,rfl,c,n,l⟩,d,k⟩:=h;replace n:FrV K H vl g.lo.1 g.lo.2:=n;replace l:FrV K H p g.hi.1 g.hi.2:=l;show tSeq _ _ _ [some (.ref a)] H;cbv;refine ⟨_, .inr ⟨rfl,_,c⟩,?_⟩
 mframe;refine ⟨_, .inr c,?_⟩;simpa only [length_cons,length_nil]
 (rw [if_neg (by simp)])
 cbv;refine ixT (i:=0) c rfl ?_;refine ⟨g.nm,rfl,d.n1,fun y m=>?_⟩;cbv;refine ixT (i:=1) (c.same m) rfl ?_;refine ixT (i:=2) (c.same m) rfl ?_;refine ⟨g.st,g.en,rfl,d.n2,d.n3,d.ne,fun r u=>?_⟩;cbv;have b:=m.trans u;refine ixT (i:=3) (c.same b) rfl ?_;refine ixT (i:=4) (c.same b) rfl ?_;refine ⟨vl,p,g.lo,g.hi,rfl,n.same b,l.same b,d.lo _ rfl,d.hi _ rfl,?_,k r b⟩;have this : decide (g.hi.1*g.lo.2<g.lo.1*g.hi.2)=false:=d.le;simpa using this
abbrev Bap:Stmt:=inClass (top 44) 0
theorem JdF:Jan ["self","row"] ["self","row"] (Jae Bap):=by bv_decide
def JbL (K:W.Frag):Sp:=fun vs H Q E=>∃ (x C dx a:Addr) (n st en z m wt:V),vs=[.ref x, .ref a]/\H x=some (.ins C dx [])/\PartC K C/\SqT K H a [n,st,en,z,m,wt]/\∀ H',H' x=some (.ins C dx (partF n st en z m wt))->(∀ b,b≠x->H' b=H b)->Q .non H'
theorem JdD (F:FunD K "__init__" "Part.__init__" Bap dV f fd) (T:Txt K mg Ad)  : FnOk P w K mg base (CX1 P w) 1 f fd ["self","row"] (JbL K):=by
 refine F.okn JdF (by subst_eqs) (fun N A v s H S Q E Y h=>?_)
 obtain ⟨x,C,d,a,n,g,j,z,m,y,rfl,h⟩:=h;refine ⟨_,(Jab (Ja6 (pv 0) (pe_ix ix_U (pv 1) Jac) rfl) (Jab (Ja6 (pv 0) (pe_ix ix_U (pv 1) Jac) rfl) (Jab (Ja6 (pv 0) (pe_ix ix_U (pv 1) Jac) rfl) (Jab (Ja6 (pv 0) (pe_ix ix_U (pv 1) Jac) rfl) (Jab (Ja6 (pv 0) (pe_ix ix_U (pv 1) Jac) rfl) (Jai (Ja6 (pv 0) (pe_ix ix_U (pv 1) Jac) rfl))))))),?_⟩
 obtain ⟨I,e,t,k⟩:=h;show tSeq _ _ _ [some (.ref x),some (.ref a)] H;mexact;refine ixT (i:=0) t rfl ?_;mexact;refine ⟨x,C,d,_,rfl,I,e.cls,e.n1,by simp,?_⟩;have r:=SqT.put (fs':=putF "name" n []) I t;generalize u0:upd H x _=H1 at r ⊢;mexact;have L:H1 x=some (.ins C d [("name",n)]):=by rw [<- u0];exact Jaj.trans rfl
 have R:∀ b,b≠x->H1 b=H b:=fun b c=>by rw [<- u0,Jag c]
 mexact;refine ixT (i:=1) r rfl ?_;mexact;refine ⟨x,C,d,_,rfl,L,e.cls,e.n2,by simp,?_⟩;have p:=SqT.put (fs':=putF "start" g [("name",n)]) L r;generalize u1:upd H1 x _=H2 at p ⊢;mexact;have J:H2 x=some (.ins C d [("name",n),("start",g)]):=by rw [<- u1];exact Jaj.trans rfl
 have U:∀ b,b≠x->H2 b=H1 b:=fun b c=>by rw [<- u1,Jag c]
 mexact;refine ixT (i:=2) p rfl ?_;mexact;refine ⟨x,C,d,_,rfl,J,e.cls,e.n3,by simp,?_⟩;have o:=SqT.put (fs':=putF "end" j [("name",n),("start",g)]) J p;generalize u2:upd H2 x _=H3 at o ⊢;mexact;have G:H3 x=some (.ins C d [("name",n),("start",g),("end",j)]):=by rw [<- u2];exact Jaj.trans rfl
 have W:∀ b,b≠x->H3 b=H2 b:=fun b c=>by rw [<- u2,Jag c]
 mexact;refine ixT (i:=3) o rfl ?_;mexact;refine ⟨x,C,d,_,rfl,G,e.cls,e.n4,by simp,?_⟩;have l:=SqT.put (fs':=putF "size" z [("name",n),("start",g),("end",j)]) G o;generalize u3:upd H3 x _=H4 at l ⊢;mexact;have D:H4 x=some (.ins C d [("name",n),("start",g),("end",j),("size",z)]):=by rw [<- u3];exact Jaj.trans rfl
 have M:∀ b,b≠x->H4 b=H3 b:=fun b c=>by rw [<- u3,Jag c]
 mexact;refine ixT (i:=4) l rfl ?_;mexact;refine ⟨x,C,d,_,rfl,D,e.cls,e.n5,by simp,?_⟩;have q:=SqT.put (fs':=putF "most" m [("name",n),("start",g),("end",j),("size",z)]) D l;generalize u4:upd H4 x _=H5 at q ⊢;mexact;have B:H5 x=some (.ins C d [("name",n),("start",g),("end",j),("size",z),("most",m)]):=by rw [<- u4];exact Jaj.trans rfl
 have O:∀ b,b≠x->H5 b=H4 b:=fun b c=>by rw [<- u4,Jag c]
 mexact;refine ixT (i:=5) q rfl ?_;mexact;refine ⟨x,C,d,_,rfl,B,e.cls,e.n6,by simp,?_⟩;have u:=SqT.put (fs':=putF "weight" y [("name",n),("start",g),("end",j),("size",z),("most",m)]) B q;generalize u5:upd H5 x _=H6 at u ⊢;mexact;have V:H6 x=some (.ins C d [("name",n),("start",g),("end",j),("size",z),("most",m),("weight",y)]):=by rw [<- u5];exact Jaj.trans rfl
 have X:∀ b,b≠x->H6 b=H5 b:=fun b c=>by rw [<- u5,Jag c]
 mexact;exact k H6 V fun b c=>by rw [X b c,O b c,M b c,W b c,U b c,R b c]
abbrev BaM:Stmt:=inClass (top 44) 1
theorem Je9:Jan ["self"] ["self"] (Jae BaM):=by bv_decide
def Jcq (K:W.Frag) (Ad:Adr):Sp:=fun vs H Q E=>∃ (p dx:Addr) (n st en z m wt:V),vs=[.ref p]/\H p=some (.ins Ad.Part dx (partF n st en z m wt))/\∀ q H',Same H H'->H' q=some (.tup [n,st,en,z,m,wt])->Q (.ref q) H'
theorem JeZ (F:FunD K "plain" "Part.plain" BaM dV f fd) (T:Txt K mg Ad)  : FnOk P w K mg base (CX1 P w) 1 f fd ["self"] (Jcq K Ad):=by
 refine F.okn Je9 (by subst_eqs) (fun l A d s H o Q E t h=>?_)
 obtain ⟨p,b,n,g,j,z,m,i,rfl,h⟩:=h;refine ⟨_,(Jai (Jaq (JaO (Jaa (Jas (pv 0) rfl) (Jaa (Jas (pv 0) rfl) (Jaa (Jas (pv 0) rfl) (Jaa (Jas (pv 0) rfl) (Jaa (Jas (pv 0) rfl) (Jaa (Jas (pv 0) rfl) Jad))))))))),?_⟩;obtain ⟨c,k⟩:=h;have a:=T.BcA Ad.Part rfl;show tRet _ _ [some (.ref p)] H;mleave;refine ⟨p,_,b,_,n,rfl,c,a.cls,a.n1,rfl,?_⟩;refine ⟨p,_,b,_,g,rfl,c,a.cls,a.n2,rfl,?_⟩;refine ⟨p,_,b,_,j,rfl,c,a.cls,a.n3,rfl,?_⟩;refine ⟨p,_,b,_,z,rfl,c,a.cls,a.n4,rfl,?_⟩;refine ⟨p,_,b,_,m,rfl,c,a.cls,a.n5,rfl,?_⟩;refine ⟨p,_,b,_,i,rfl,c,a.cls,a.n6,rfl,?_⟩;mleave;refine ⟨by show 6<=sizeLine;decide,?_⟩;exact JdZ fun q r S e=>k q r S e
abbrev Bas:Stmt:=inClass (top 45) 0
theorem Jec:Jan ["self","row"] ["self","row"] (Jae Bas):=by bv_decide
def JbW (K:W.Frag):Sp:=fun vs H Q E=>∃ (x C dx a:Addr) (n st en l g:V),vs=[.ref x, .ref a]/\H x=some (.ins C dx [])/\GapC K C/\SqT K H a [n,st,en,l,g]/\∀ H',H' x=some (.ins C dx (gapF n st en l g))->(∀ b,b≠x->H' b=H b)->Q .non H'
theorem Jd0 (F:FunD K "__init__" "Gap.__init__" Bas dV f fd) (T:Txt K mg Ad)  : FnOk P w K mg base (CX1 P w) 1 f fd ["self","row"] (JbW K):=by
 refine F.okn Jec (by subst_eqs) (fun L A u s H O Q E U h=>?_)
 obtain ⟨x,C,d,a,n,j,r,l,g,rfl,h⟩:=h;refine ⟨_,(Jab (Ja6 (pv 0) (pe_ix ix_U (pv 1) Jac) rfl) (Jab (Ja6 (pv 0) (pe_ix ix_U (pv 1) Jac) rfl) (Jab (Ja6 (pv 0) (pe_ix ix_U (pv 1) Jac) rfl) (Jab (Ja6 (pv 0) (pe_ix ix_U (pv 1) Jac) rfl) (Jai (Ja6 (pv 0) (pe_ix ix_U (pv 1) Jac) rfl)))))),?_⟩
 obtain ⟨B,e,t,k⟩:=h;show tSeq _ _ _ [some (.ref x),some (.ref a)] H;mexact;refine ixT (i:=0) t rfl ?_;mexact;refine ⟨x,C,d,_,rfl,B,e.cls,e.n1,by simp,?_⟩;have q:=SqT.put (fs':=putF "name" n []) B t;generalize u0:upd H x _=H1 at q ⊢;mexact;have G:H1 x=some (.ins C d [("name",n)]):=by rw [<- u0];exact Jaj.trans rfl
 have N:∀ b,b≠x->H1 b=H b:=fun b c=>by rw [<- u0,Jag c]
 mexact;refine ixT (i:=1) q rfl ?_;mexact;refine ⟨x,C,d,_,rfl,G,e.cls,e.n2,by simp,?_⟩;have p:=SqT.put (fs':=putF "one" j [("name",n)]) G q;generalize u1:upd H1 x _=H2 at p ⊢;mexact;have D:H2 x=some (.ins C d [("name",n),("one",j)]):=by rw [<- u1];exact Jaj.trans rfl
 have R:∀ b,b≠x->H2 b=H1 b:=fun b c=>by rw [<- u1,Jag c]
 mexact;refine ixT (i:=2) p rfl ?_;mexact;refine ⟨x,C,d,_,rfl,D,e.cls,e.n3,by simp,?_⟩;have o:=SqT.put (fs':=putF "other" r [("name",n),("one",j)]) D p;generalize u2:upd H2 x _=H3 at o ⊢;mexact;have z:H3 x=some (.ins C d [("name",n),("one",j),("other",r)]):=by rw [<- u2];exact Jaj.trans rfl
 have S:∀ b,b≠x->H3 b=H2 b:=fun b c=>by rw [<- u2,Jag c]
 mexact;refine ixT (i:=3) o rfl ?_;mexact;refine ⟨x,C,d,_,rfl,z,e.cls,e.n4,by simp,?_⟩;have m:=SqT.put (fs':=putF "low" l [("name",n),("one",j),("other",r)]) z o;generalize u3:upd H3 x _=H4 at m ⊢;mexact;have y:H4 x=some (.ins C d [("name",n),("one",j),("other",r),("low",l)]):=by rw [<- u3];exact Jaj.trans rfl
 have J:∀ b,b≠x->H4 b=H3 b:=fun b c=>by rw [<- u3,Jag c]
 mexact;refine ixT (i:=4) m rfl ?_;mexact;refine ⟨x,C,d,_,rfl,y,e.cls,e.n5,by simp,?_⟩;have v:=SqT.put (fs':=putF "high" g [("name",n),("one",j),("other",r),("low",l)]) y m;generalize u4:upd H4 x _=H5 at v ⊢;mexact;have I:H5 x=some (.ins C d [("name",n),("one",j),("other",r),("low",l),("high",g)]):=by rw [<- u4];exact Jaj.trans rfl
 have M:∀ b,b≠x->H5 b=H4 b:=fun b c=>by rw [<- u4,Jag c]
 mexact;exact k H5 I fun b c=>by rw [M b c,J b c,S b c,R b c,N b c]
abbrev BaX:Stmt:=inClass (top 45) 1
theorem JfT:Jan ["self"] ["self"] (Jae BaX):=by bv_decide
def JcC (K:W.Frag) (Ad:Adr):Sp:=fun vs H Q E=>∃ (p dx:Addr) (n st en l g:V),vs=[.ref p]/\H p=some (.ins Ad.Gap dx (gapF n st en l g))/\∀ q H',Same H H'->H' q=some (.tup [n,st,en,l,g])->Q (.ref q) H'
theorem JfJ (F:FunD K "plain" "Gap.plain" BaX dV f fd) (T:Txt K mg Ad)  : FnOk P w K mg base (CX1 P w) 1 f fd ["self"] (JcC K Ad):=by
 refine F.okn JfT (by subst_eqs) (fun m A d s H o Q E t h=>?_)
 obtain ⟨p,b,n,i,j,l,g,rfl,h⟩:=h;refine ⟨_,(Jai (Jaq (JaO (Jaa (Jas (pv 0) rfl) (Jaa (Jas (pv 0) rfl) (Jaa (Jas (pv 0) rfl) (Jaa (Jas (pv 0) rfl) (Jaa (Jas (pv 0) rfl) Jad)))))))),?_⟩;obtain ⟨c,k⟩:=h;have a:=T.Bdt Ad.Gap rfl;show tRet _ _ [some (.ref p)] H;mleave;refine ⟨p,_,b,_,n,rfl,c,a.cls,a.n1,rfl,?_⟩;refine ⟨p,_,b,_,i,rfl,c,a.cls,a.n2,rfl,?_⟩;refine ⟨p,_,b,_,j,rfl,c,a.cls,a.n3,rfl,?_⟩;refine ⟨p,_,b,_,l,rfl,c,a.cls,a.n4,rfl,?_⟩;refine ⟨p,_,b,_,g,rfl,c,a.cls,a.n5,rfl,?_⟩;mleave;refine ⟨by show 5<=sizeLine;decide,?_⟩;exact JdZ fun q r S e=>k q r S e
abbrev Bbp:Stmt:=top 42
theorem Jhp:Jan ["thing"] ["thing"] (Jae Bbp):=by bv_decide
def Jdv (K:W.Frag):Sp:=fun vs H Q E=>∃ (x:V) (p:PD),vs=[x]/\PDV K H p x/\POk p/\∀ H',Same H H'->Q (.bl true) H'
theorem Jhi (F:FunD K "is_part" "is_part" Bbp dV f fd) (T:Txt K mg Ad) (BaI:Cal P w K mg base 1 "is_name" ["thing"] [] (Jci K)) (BaW:Cal P w K mg base 2 "are_faces" ["one","other"] [] (Jb5 K)) (Bar:Cal P w K mg base 2 "is_fraction" ["thing"] [] (JbH K)) (BaU:Cal P w K mg base 1 "is_whole" ["thing"] [] (Jct K)) (BaJ:Cal P w K mg base 1 "under" ["one","other"] [] (Jcx K)):FnOk P w K mg base (CX1 P w) 5 f fd ["thing"] (Jdv K):=by
 refine F.okn Jhp (by subst_eqs) (fun q A g s H t Q E e h=>?_)
 obtain ⟨x,p,rfl,h⟩:=h;have n:=e.units;refine ⟨_,(Jab (ps_if (PW.pt (pw_or (JbQ (Jbh (Jau JaK rfl T.Baz Ja7 (Jaa (pv 0) (Jaa (JcQ (v:=.ty "tuple") rfl T.Bda JeL rfl) Jad))))) (JcO (JaC (Jc8 n) (Jau JaW rfl T.BbQ JbN (Jaa (pv 0) Jad)) Jac (Jaw _))))) (Jai (Jaq pe_bl))
   Jax) (Jab (ps_if (PW.pt (pw_or (JbQ (Jbh (BaI.ev e ⋯ rfl passF (Jaa (pe_ix ix_U (pv 0) Jac) Jad)))) (JcO (JbQ (Jbh (BaW.ev e ⋯ rfl passF (Jaa (pe_ix ix_U (pv 0) Jac) (Jaa (pe_ix ix_U (pv 0) Jac) Jad)))))))) (Jai (Jaq pe_bl))
   Jax) (Jab (ps_if (PW.pt (pw_or (JbQ (Jbh (Bar.ev e ⋯ rfl passF (Jaa (pe_ix ix_U (pv 0) Jac) Jad)))) (pw_or (JbQ (Jbh (Bar.ev e ⋯ rfl passF (Jaa (pe_ix ix_U (pv 0) Jac) Jad)))) (JcO (JbQ (Jbh (BaU.ev e ⋯ rfl passF (Jaa (pe_ix ix_U (pv 0) Jac) Jad)))))))) (Jai (Jaq pe_bl))
   Jax) (Jai (Jaq (Jcg (Jii (BaJ.ev e ⋯ rfl passF (Jaa (pe_ix ix_U (pv 0) Jac) (Jaa (JcR (v:=.ref _) rfl T.Bc7 T.Bc8) Jad)))) (Jda (Jbc JjU (pe_ix ix_U (pv 0) Jac) Jac (Jaw _))))))))),?_⟩
 clear n;obtain ⟨⟨a,u,l,rfl,d,B,o⟩,c,k⟩:=h;show tSeq _ _ _ [some (.ref a)] H;cbv;refine ⟨_, .inr ⟨rfl,_,d⟩,?_⟩
 mframe;refine ⟨_, .inr d,?_⟩;simpa only [length_cons,length_nil]
 (rw [if_neg (by simp)])
 cbv;refine ixT (i:=0) d rfl ?_;refine ⟨p.nm,rfl,c.n1,fun D j=>?_⟩;cbv;refine ixT (i:=1) (d.same j) rfl ?_;refine ixT (i:=2) (d.same j) rfl ?_;refine ⟨p.st,p.en,rfl,c.n2,c.n3,c.ne,fun r y=>?_⟩;cbv;have b:=j.trans y;refine ixT (i:=3) (d.same b) rfl ?_;refine ⟨u,_,_,rfl,B.same b,c.z.b1,c.z.g1,?_⟩;cbv;refine ixT (i:=4) (d.same b) rfl ?_;refine ⟨l,_,_,rfl,o.same b,c.m.b1,c.m.g1,?_⟩;cbv;refine ixT (i:=5) (d.same b) rfl ?_;refine ⟨p.wt,rfl,?_⟩;cbv;refine ixT (i:=4) (d.same b) rfl ?_;refine ⟨l, .ref Ad.ZERO,p.mo.1,p.mo.2,0,1,rfl,o.same b,⟨Ad.ZERO,rfl,T.Bc9 _⟩,c.m.s1.mono ⋯,c.m.s2.mono ⋯, .lit ⋯ ⋯, .lit ⋯ ⋯,?_⟩;cbv;have C:=c.m0;rw [if_pos (by simp;ac_nf)];cbv;refine ixT (i:=5) (d.same b) rfl ?_;cbv;have:=k r b;simpa [c.w] using this
abbrev BbN:Stmt:=top 43
theorem Jiy:Jan ["thing"] ["thing"] (Jae BbN):=by bv_decide
def Jeh (K:W.Frag):Sp:=fun vs H Q E=>∃ (x:V) (g:GD),vs=[x]/\TV K H g.td x/\TOk g.td/\∀ H',Same H H'->Q (.bl true) H'
theorem Jh8 (F:FunD K "is_gap" "is_gap" BbN dV f fd) (T:Txt K mg Ad) (BcF:Cal P w K mg base 5 "is_tie" ["thing"] [] (Jei K)):FnOk P w K mg base (CX1 P w) 6 f fd ["thing"] (Jeh K):=by
 refine F.okn Jiy (by subst_eqs) (fun j A b s H l Q E n h=>?_)
 obtain ⟨x,g,rfl,h⟩:=h;refine ⟨_,(Jai (Jaq (Jcg (BcF.ev n ⋯ rfl passF (Jaa (pv 0) Jad)) (Jcg (Jbc Je7 (pe_ix ix_U (pv 0) Jac) JdC (Jaw _)) (Jda (Jbc Je7 (pe_ix ix_U (pv 0) Jac) JdC (Jaw _))))))),?_⟩;obtain ⟨d,o,k⟩:=h;show tRet _ _ [some x] H;cbv;refine ⟨x,g,rfl,d,o,fun m c=>?_⟩;obtain ⟨a,vl,p,rfl,e,⟨_,rfl,_⟩,⟨_,rfl,_⟩⟩:=d;cbv;refine ixT (i:=3) (e.same c) rfl ?_;cbv;refine ixT (i:=4) (e.same c) rfl ?_;cbv;exact k m c
abbrev Bbq:Stmt:=top 46
theorem Jhq:Jan ["thing"] ["thing"] (Jae Bbq):=by bv_decide
def Jdx (K:W.Frag) (Ad:Adr):Sp:=fun vs H Q E=>∃ (x:V) (p:PD),vs=[x]/\PDV K H p x/\POk p/\∀ v H',Same H H'->POV K Ad H' p v->Q v H'
theorem Jhl (F:FunD K "part_of" "part_of" Bbq dV f fd) (T:Txt K mg Ad) (Bcd:Cal P w K mg base 5 "is_part" ["thing"] [] (Jdv K)) (Bdu:KCal P w K mg base 1 "Part" Ad.Part ["self","row"] (JbL K)):FnOk P w K mg base (CX1 P w) 6 f fd ["thing"] (Jdx K Ad):=by
 refine F.okn Jhq (by subst_eqs) (fun C A d s H D Q E n h=>?_)
 obtain ⟨x,p,rfl,h⟩:=h;refine ⟨_,(Jab (ps_if (JbQ (Jbh (Bcd.ev n ⋯ rfl passF (Jaa (pv 0) Jad)))) (Jai ps_no)
   Jax) (Jai (Jaq (Bdu.ev n ⋯ rfl passF (Jaa (pv 0) Jad))))),?_⟩
 obtain ⟨z,J,k⟩:=h;show tSeq _ _ _ [some x] H;cbv;refine ⟨x,p,rfl,z,J,fun m v=>?_⟩;cbv;obtain ⟨b,l,i,rfl,G,B,I⟩:=z;intro y a j g L;have t:Same m (upd (upd m a (.own y)) y (.ins Ad.Part a [])):=fun b u q=>by rw [Jag (Jah q j),Jag (Jah q g)];exact q
 refine ⟨y,_,a,b,_,_,_,l,i,_,rfl,Jaj,T.BcA _ rfl,(G.same v).same t,fun r e o=>⟨rfl,?_⟩⟩;have c:Same H r:=v.trans fun b u q=>by rw [o b (Jah q j)];exact t _ _ q
 exact k _ r c ⟨y,a,l,i,rfl,e,B.same c,I.same c⟩
abbrev BbO:Stmt:=top 47
theorem Jix:Jan ["thing"] ["thing"] (Jae BbO):=by bv_decide
def Jeg (K:W.Frag) (Ad:Adr):Sp:=fun vs H Q E=>∃ (x:V) (g:GD),vs=[x]/\TV K H g.td x/\TOk g.td/\∀ v H',Same H H'->GOV K Ad H' g v->Q v H'
theorem Jh7 (F:FunD K "gap_of" "gap_of" BbO dV f fd) (T:Txt K mg Ad) (BcG:Cal P w K mg base 6 "is_gap" ["thing"] [] (Jeh K)) (BdH:KCal P w K mg base 1 "Gap" Ad.Gap ["self","row"] (JbW K)):FnOk P w K mg base (CX1 P w) 7 f fd ["thing"] (Jeg K Ad):=by
 refine F.okn Jix (by subst_eqs) (fun D A j s H G Q E t h=>?_)
 obtain ⟨x,g,rfl,h⟩:=h;refine ⟨_,(Jab (ps_if (JbQ (Jbh (BcG.ev t ⋯ rfl passF (Jaa (pv 0) Jad)))) (Jai ps_no)
   Jax) (Jai (Jaq (BdH.ev t ⋯ rfl passF (Jaa (pv 0) Jad))))),?_⟩
 obtain ⟨C,J,k⟩:=h;show tSeq _ _ _ [some x] H;cbv;refine ⟨x,g,rfl,C,J,fun r B=>?_⟩;cbv;obtain ⟨b,l,c,rfl,I,i,n⟩:=C;replace i:FrV K H l g.lo.1 g.lo.2:=i;replace n:FrV K H c g.hi.1 g.hi.2:=n;intro y a p m L;have z:Same r (upd (upd r a (.own y)) y (.ins Ad.Gap a [])):=fun b u q=>by rw [Jag (Jah q p),Jag (Jah q m)];exact q
 refine ⟨y,_,a,b,_,_,_,l,c,rfl,Jaj,T.Bdt _ rfl,(I.same B).same z,fun v e o=>⟨rfl,?_⟩⟩;have d:Same H v:=B.trans fun b u q=>by rw [o b (Jah q p)];exact z _ _ q
 exact k _ v d ⟨y,a,l,c,rfl,e,i.same d,n.same d⟩
abbrev Bah:Stmt:=inClass (top 48) 0
theorem Jde:Jan ["self"] ["self"] (Jae Bah):=by bv_decide
def Jbn (K:W.Frag) (Ad:Adr):Sp:=fun vs H Q E=>∃ (x dx:Addr),vs=[.ref x]/\H x=some (.ins Ad.Joints dx [])/\∀ d H',H d=none->d≠x->H' x=some (.ins Ad.Joints dx [("leads", .ref d)])->H' d=some (.dK [])->(∀ b u,b≠x->H b=some u->H' b=some u)->Q .non H'
theorem Jc6 (F:FunD K "__init__" "Joints.__init__" Bah dV f fd) (T:Txt K mg Ad)  : FnOk P w K mg base (CX1 P w) 1 f fd ["self"] (Jbn K Ad):=by
 refine F.okn Jde (by subst_eqs) (fun m A c s H o Q E t h=>?_)
 obtain ⟨x,e,rfl,h⟩:=h;refine ⟨_,(Jai (Ja6 (pv 0) JbC rfl)),?_⟩;obtain ⟨j,k⟩:=h;have g:=T.BbT _ rfl;show sFld _ _ _ _ _ [some (.ref x)] H;mexact;rename_i d a q H r l p;mexact;refine ⟨x,_,e,_,rfl,l _ _ j,g.cls,g.n1,by simp,?_⟩;have i:d≠x:=fun z=>by rw [z,j] at a;cases a
 exact k d _ a i (Jaj.trans rfl) (by rw [Jag i];exact p) fun b u n h=>by rw [Jag n];exact l _ _ h
abbrev BaD:Stmt:=inClass (top 48) 1
theorem Jes:Jan ["self","part"] ["self","part"] (Jae BaD):=by bv_decide
def Jca (K:W.Frag) (Ad:Adr):Sp:=fun vs H Q E=>∃ (j d:Addr) (v:V) (ls:List PD) (p:PD) (H0:Hp),vs=[.ref j,v]/\JK Ad H0 H j d ls/\Same H0 H/\POV K Ad H p v/\p.st≠p.en/\ls.length<=20/\∀ H',Same H0 H'->SameJ d H H'->JK Ad H0 H' j d (ls++[p])->Q .non H'
theorem Jem (F:FunD K "link" "Joints.link" BaD dV f fd) (T:Txt K mg Ad)  : FnOk P w K mg base (CX1 P w) 1 f fd ["self","part"] (Jca K Ad):=by
 refine F.okn Jes (by subst_eqs) (fun f5 A f2 s H vs Q E hr h=>?_)
 obtain ⟨j,d,v,ls,p,H0,rfl,h⟩:=h;refine ⟨_,(Jab (Jba (pe_bm PySem.F.plainAttrs_list PySem.F.slot_list_append PySem.F.type_list_append Ja3 (Jih (Jas (pv 0) rfl) (Jas (pv 1) rfl) (Jbg Jad) ⟨rfl,rfl,rfl,rfl⟩) (Jaa (JaO (Jaa (Jas (pv 1) rfl) (Jaa (JaO (Jaa (Jas (pv 1) rfl) (Jaa pe_bl Jad))) Jad))) Jad) (hs:=by exact Jaf rfl))) (Jai (Jba (pe_bm PySem.F.plainAttrs_list PySem.F.slot_list_append PySem.F.type_list_append Ja3 (Jih (Jas (pv 0) rfl) (Jas (pv 1) rfl) (Jbg Jad) ⟨rfl,rfl,rfl,rfl⟩) (Jaa (JaO (Jaa (Jas (pv 1) rfl) (Jaa (JaO (Jaa (Jas (pv 1) rfl) (Jaa pe_bl Jad))) Jad))) Jad) (hs:=by exact Jaf rfl))))),?_⟩
 obtain ⟨⟨⟨dx,d1⟩,b7,x,a3,hk,d5⟩,e2,hv,d6,hl,k⟩:=h;obtain ⟨q,dq,vz,vm,rfl,a4,hz,hm⟩:=hv;have sl:(1000:Nat)<=sizeLine:=by decide
 have jc:=T.BbT _ rfl;have C:=T.BcA _ rfl;have nj:j≠d:=fun z=>by rw [z,a3] at d1;cases d1
 have nq:q≠d:=fun z=>by rw [z,a3] at a4;cases a4
 have f1:∀ f,(Jaz ls f).length<=20:=fun f=>by have:=JeR ls f;ac_nf
 show tSeq _ _ _ [some (.ref j),some (.ref q)] H;mleave;obtain ⟨H1,hH⟩:∃ H',H'=H:=⟨_,rfl⟩;subst hH;refine ⟨j,_,dx,_, .ref d,rfl,d1,jc.cls,jc.n1,rfl,?_⟩;mleave;refine ⟨d,rfl, .inl ⟨x, .inl a3⟩,?_⟩;refine ⟨q,_,dq,_, .str p.st,rfl,a4,C.cls,C.n2,rfl,?_⟩;mleave;refine ⟨len0,?_⟩;rename_i l1 Z f4 H1 f0 c4 f3;mleave;refine ⟨x,Sum.inr p.st,c4 _ _ a3,rfl,by ac_nf,fun v hv=>?_,fun hv=>?_⟩
 ·obtain ⟨l,r,c9,d3,a7,d2⟩:∃ l r,v=.ref l/\H0 l=none/\H1 l=some (.lst r)/\All2 (LeV H1) ((Jaz ls) p.st) r:=by
   rcases d5.at_ p.st with ⟨h1,_⟩ | ⟨l,r,h1,h2,h3,h4⟩
   ·rw [hv] at h1;cases h1
   ·rw [hv] at h1;cases h1;exact ⟨l,r,rfl,h2,h3,h4⟩
  subst c9;have e8:r.length<=20:=by rw [d2.length];exact f1 _
  refine ⟨.inl ⟨rfl,_,SqL.of (c4 _ _ a7)⟩,?_⟩;mleave;have a:=c4 _ _ a4;obtain ⟨b3,M⟩:∃ H',H'=f0:=⟨_,rfl⟩;rw [<- M] at a ⊢;refine ⟨q,_,dq,_, .str p.en,rfl,a,C.cls,C.n3,rfl,?_⟩;mleave;refine ⟨q,_,dq,_, .str p.nm,rfl,a,C.cls,C.n1,rfl,?_⟩;mleave;refine ⟨len2,?_⟩;rename_i e1 d7 e3 b3 e7 e4 d8;mleave;refine ⟨len2,?_⟩;rename_i d0 e6 e5 e7 b0 c8 d9;mleave;have d4:LeV b0 (p.en,(p.nm,true)) (.ref d0):=⟨d0,e1,rfl,d9,c8 _ _ d8⟩;have I:=e4.trans c8;have i:=I _ _ (by rw [M];exact c4 _ _ a7:b3 l=some (.lst r));refine ⟨l,r,_,rfl,rfl,i,by ac_nf,?_⟩;generalize u2:upd b0 l _=W;mleave;have m:Same H1 b0:=fun b u h=>I _ _ (by rw [M];exact c4 _ _ h);have a2:=(d5.same m).more hv i d4 u2;have a1:SameJ d H1 W:=fun b u _ Y h=>by rw [<- u2,Jag (fun z=>by have:=m _ _ h;rw [z,i] at this;cases this;exact Y _ rfl)];exact m _ _ h
  have t:W d=some (.dK x):=by rw [<- u2,Jag (fun z=>by have:=m _ _ a3;rw [z,i] at this;cases this)];exact m _ _ a3
  have b5:Same H0 W:=fun b u h=>by rw [<- u2,Jag (Jah h d3)];exact m _ _ (e2 _ _ h)
  have c3:=a1 _ _ nj (by intro r z;cases z) d1;have O:=a1 _ _ nq (by intro r z;cases z) a4;have c6:∀ f,(addL (Jaz ls) p.st (p.en,(p.nm,true)) f).length<=21:=fun f=>by
   have:=JeR ls f;unfold addL;split
   ·rw [length_append,length_singleton];ac_nf
   ·ac_nf
  mleave;refine ⟨j,_,dx,_, .ref d,rfl,c3,jc.cls,jc.n1,rfl,?_⟩;mleave;refine ⟨d,rfl, .inl ⟨x, .inl t⟩,?_⟩;refine ⟨q,_,dq,_, .str p.en,rfl,O,C.cls,C.n3,rfl,?_⟩;mleave;refine ⟨len0,?_⟩;rename_i X n e9 W c7 G e0;mleave;refine ⟨x,Sum.inr p.en,G _ _ t,rfl,by ac_nf,fun v hv=>?_,fun hv=>?_⟩
  ·obtain ⟨l,r,c9,d3,a7,d2⟩:∃ l r,v=.ref l/\H0 l=none/\W l=some (.lst r)/\All2 (LeV W) ((addL (Jaz ls) p.st (p.en,(p.nm,true))) p.en) r:=by
    rcases a2.at_ p.en with ⟨h1,_⟩ | ⟨l,r,h1,h2,h3,h4⟩
    ·rw [hv] at h1;cases h1
    ·rw [hv] at h1;cases h1;exact ⟨l,r,rfl,h2,h3,h4⟩
   subst c9;have e8:r.length<=21:=by rw [d2.length];exact c6 _
   refine ⟨.inl ⟨rfl,_,SqL.of (G _ _ a7)⟩,?_⟩;mleave;have a:=G _ _ O;obtain ⟨B,M⟩:∃ H',H'=c7:=⟨_,rfl⟩;rw [<- M] at a ⊢;refine ⟨q,_,dq,_, .str p.st,rfl,a,C.cls,C.n2,rfl,?_⟩;mleave;refine ⟨q,_,dq,_, .str p.nm,rfl,a,C.cls,C.n1,rfl,?_⟩;mleave;refine ⟨len2,?_⟩;rename_i c2 b6 b9 B b1 c1 b4;mleave;refine ⟨len2,?_⟩;rename_i R b8 a9 b1 y L b2;mleave;have S:LeV y (p.st,(p.nm,false)) (.ref R):=⟨R,c2,rfl,b2,L _ _ b4⟩;have c:=c1.trans L;have i:=c _ _ (by rw [M];exact G _ _ a7:B l=some (.lst r));refine ⟨l,r,_,rfl,rfl,i,by ac_nf,?_⟩;generalize u3:upd y l _=H3;mleave;have m:Same W y:=fun b u h=>c _ _ (by rw [M];exact G _ _ h);have U:=(a2.same m).more hv i S u3;have N:SameJ d W H3:=fun b u _ Y h=>by rw [<- u3,Jag (fun z=>by have:=m _ _ h;rw [z,i] at this;cases this;exact Y _ rfl)];exact m _ _ h
   have a0:H3 d=some (.dK x):=by rw [<- u3,Jag (fun z=>by have:=m _ _ t;rw [z,i] at this;cases this)];exact m _ _ t
   have c0:Same H0 H3:=fun b u h=>by rw [<- u3,Jag (Jah h d3)];exact m _ _ (b5 _ _ h)
   rw [Jc0 d6] at U;refine k H3 c0 (fun b u J Y h=>N b u J Y (a1 b u J Y h)) ⟨⟨dx,N _ _ nj (by intro r z;cases z) c3⟩,b7,_,a0,?_,U⟩;rw [length_append,length_singleton];ac_nf
  ·have a8:H0 X=none:=by
    cases e:H0 X with
    | none=>rfl
    | some o=>rw [b5 _ _ e] at n;cases n
   generalize uc:upd c7 d _=B;mleave;have nd:X≠d:=fun z=>by rw [z,t] at n;cases n
   have a5:B X=some (.lst []):=by rw [<- uc,Jag nd];exact e0
   have D:∀ b u,b≠d->W b=some u->B b=some u:=fun b u J h=>by rw [<- uc,Jag J];exact G _ _ h
   have c5:B d=some (.dK (putK x (Sum.inr p.en) (.ref X))):=by rw [<- uc,Jaj]
   refine ⟨.inl ⟨rfl,_,SqL.of a5⟩,?_⟩;mleave;have a:=D _ _ (fun z=>by rw [z,t] at O;cases O) O;refine ⟨q,_,dq,_, .str p.st,rfl,a,C.cls,C.n2,rfl,?_⟩;mleave;refine ⟨q,_,dq,_, .str p.nm,rfl,a,C.cls,C.n1,rfl,?_⟩;mleave;refine ⟨len2,?_⟩;rename_i c2 b6 b9 B b1 c1 b4;mleave;refine ⟨len2,?_⟩;rename_i R b8 a9 b1 y L b2;mleave;have S:LeV y (p.st,(p.nm,false)) (.ref R):=⟨R,c2,rfl,b2,L _ _ b4⟩;have c:=c1.trans L;have i:=c _ _ a5;refine ⟨X,[],_,rfl,rfl,i,by show 0<sizeLine;ac_nf,?_⟩;generalize u3:upd y X _=H3;mleave;have U:=((a2.sx D t).same c).first hv a8 (fun g l' a6 z=>by
    rcases a2.at_ g with ⟨h1,_⟩ | ⟨X,xs2,h1,_,h3,_⟩
    ·rw [a6] at h1;cases h1
    ·rw [a6] at h1;cases h1;rw [z,n] at h3;cases h3) i S u3
   have N:SameJ d W H3:=fun b u J Y h=>by rw [<- u3,Jag (fun z=>by rw [z,n] at h;cases h)];exact c _ _ (D _ _ J h)
   have a0:=c _ _ c5;rw [show y d=H3 d by rw [<- u3,Jag (Ne.symm nd)]] at a0;have c0:Same H0 H3:=fun b u h=>by rw [<- u3,Jag (Jah h a8)];exact c _ _ (D _ _ (Jah h b7) (b5 _ _ h))
   have lp:=Jbj x (Sum.inr p.en) (V.ref X);rw [Jc0 d6] at U;refine k H3 c0 (fun b u J Y h=>N b u J Y (a1 b u J Y h)) ⟨⟨dx,N _ _ nj (by intro r z;cases z) c3⟩,b7,_,a0,?_,U⟩;rw [length_append,length_singleton];ac_nf
 ·have a8:H0 l1=none:=by
   cases e:H0 l1 with
   | none=>rfl
   | some o=>rw [e2 _ _ e] at Z;cases Z
  generalize uc:upd f0 d _=b3;mleave;have nd:l1≠d:=fun z=>by rw [z,a3] at Z;cases Z
  have a5:b3 l1=some (.lst []):=by rw [<- uc,Jag nd];exact f3
  have D:∀ b u,b≠d->H1 b=some u->b3 b=some u:=fun b u J h=>by rw [<- uc,Jag J];exact c4 _ _ h
  have c5:b3 d=some (.dK (putK x (Sum.inr p.st) (.ref l1))):=by rw [<- uc,Jaj]
  refine ⟨.inl ⟨rfl,_,SqL.of a5⟩,?_⟩;mleave;have a:=D _ _ (fun z=>by rw [z,a3] at a4;cases a4) a4;refine ⟨q,_,dq,_, .str p.en,rfl,a,C.cls,C.n3,rfl,?_⟩;mleave;refine ⟨q,_,dq,_, .str p.nm,rfl,a,C.cls,C.n1,rfl,?_⟩;mleave;refine ⟨len2,?_⟩;rename_i e1 d7 e3 b3 e7 e4 d8;mleave;refine ⟨len2,?_⟩;rename_i d0 e6 e5 e7 b0 c8 d9;mleave;have d4:LeV b0 (p.en,(p.nm,true)) (.ref d0):=⟨d0,e1,rfl,d9,c8 _ _ d8⟩;have I:=e4.trans c8;have i:=I _ _ a5;refine ⟨l1,[],_,rfl,rfl,i,by show 0<sizeLine;ac_nf,?_⟩;generalize u2:upd b0 l1 _=W;mleave;have a2:=((d5.sx D a3).same I).first hv a8 (fun g l' a6 z=>by
   rcases d5.at_ g with ⟨h1,_⟩ | ⟨X,xs2,h1,_,h3,_⟩
   ·rw [a6] at h1;cases h1
   ·rw [a6] at h1;cases h1;rw [z,Z] at h3;cases h3) i d4 u2
  have a1:SameJ d H1 W:=fun b u J Y h=>by rw [<- u2,Jag (fun z=>by rw [z,Z] at h;cases h)];exact I _ _ (D _ _ J h)
  have t:=I _ _ c5;rw [show b0 d=W d by rw [<- u2,Jag (Ne.symm nd)]] at t;have b5:Same H0 W:=fun b u h=>by rw [<- u2,Jag (Jah h a8)];exact I _ _ (D _ _ (Jah h b7) (e2 _ _ h))
  have lp:=Jbj x (Sum.inr p.st) (V.ref l1);have c3:=a1 _ _ nj (by intro r z;cases z) d1;have O:=a1 _ _ nq (by intro r z;cases z) a4;have c6:∀ f,(addL (Jaz ls) p.st (p.en,(p.nm,true)) f).length<=21:=fun f=>by
   have:=JeR ls f;unfold addL;split
   ·rw [length_append,length_singleton];ac_nf
   ·ac_nf
  mleave;refine ⟨j,_,dx,_, .ref d,rfl,c3,jc.cls,jc.n1,rfl,?_⟩;mleave;refine ⟨d,rfl, .inl ⟨(putK x (Sum.inr p.st) (V.ref l1)), .inl t⟩,?_⟩;refine ⟨q,_,dq,_, .str p.en,rfl,O,C.cls,C.n3,rfl,?_⟩;mleave;refine ⟨len0,?_⟩;rename_i X n e9 W c7 G e0;mleave;refine ⟨(putK x (Sum.inr p.st) (V.ref l1)),Sum.inr p.en,G _ _ t,rfl,by ac_nf,fun v hv=>?_,fun hv=>?_⟩
  ·obtain ⟨l,r,c9,d3,a7,d2⟩:∃ l r,v=.ref l/\H0 l=none/\W l=some (.lst r)/\All2 (LeV W) ((addL (Jaz ls) p.st (p.en,(p.nm,true))) p.en) r:=by
    rcases a2.at_ p.en with ⟨h1,_⟩ | ⟨l,r,h1,h2,h3,h4⟩
    ·rw [hv] at h1;cases h1
    ·rw [hv] at h1;cases h1;exact ⟨l,r,rfl,h2,h3,h4⟩
   subst c9;have e8:r.length<=21:=by rw [d2.length];exact c6 _
   refine ⟨.inl ⟨rfl,_,SqL.of (G _ _ a7)⟩,?_⟩;mleave;have a:=G _ _ O;obtain ⟨B,M⟩:∃ H',H'=c7:=⟨_,rfl⟩;rw [<- M] at a ⊢;refine ⟨q,_,dq,_, .str p.st,rfl,a,C.cls,C.n2,rfl,?_⟩;mleave;refine ⟨q,_,dq,_, .str p.nm,rfl,a,C.cls,C.n1,rfl,?_⟩;mleave;refine ⟨len2,?_⟩;rename_i c2 b6 b9 B b1 c1 b4;mleave;refine ⟨len2,?_⟩;rename_i R b8 a9 b1 y L b2;mleave;have S:LeV y (p.st,(p.nm,false)) (.ref R):=⟨R,c2,rfl,b2,L _ _ b4⟩;have c:=c1.trans L;have i:=c _ _ (by rw [M];exact G _ _ a7:B l=some (.lst r));refine ⟨l,r,_,rfl,rfl,i,by ac_nf,?_⟩;generalize u3:upd y l _=H3;mleave;have m:Same W y:=fun b u h=>c _ _ (by rw [M];exact G _ _ h);have U:=(a2.same m).more hv i S u3;have N:SameJ d W H3:=fun b u _ Y h=>by rw [<- u3,Jag (fun z=>by have:=m _ _ h;rw [z,i] at this;cases this;exact Y _ rfl)];exact m _ _ h
   have a0:H3 d=some (.dK (putK x (Sum.inr p.st) (V.ref l1))):=by rw [<- u3,Jag (fun z=>by have:=m _ _ t;rw [z,i] at this;cases this)];exact m _ _ t
   have c0:Same H0 H3:=fun b u h=>by rw [<- u3,Jag (Jah h d3)];exact m _ _ (b5 _ _ h)
   rw [Jc0 d6] at U;refine k H3 c0 (fun b u J Y h=>N b u J Y (a1 b u J Y h)) ⟨⟨dx,N _ _ nj (by intro r z;cases z) c3⟩,b7,_,a0,?_,U⟩;rw [length_append,length_singleton];ac_nf
  ·have a8:H0 X=none:=by
    cases e:H0 X with
    | none=>rfl
    | some o=>rw [b5 _ _ e] at n;cases n
   generalize uc:upd c7 d _=B;mleave;have nd:X≠d:=fun z=>by rw [z,t] at n;cases n
   have a5:B X=some (.lst []):=by rw [<- uc,Jag nd];exact e0
   have D:∀ b u,b≠d->W b=some u->B b=some u:=fun b u J h=>by rw [<- uc,Jag J];exact G _ _ h
   have c5:B d=some (.dK (putK (putK x (Sum.inr p.st) (V.ref l1)) (Sum.inr p.en) (.ref X))):=by rw [<- uc,Jaj]
   refine ⟨.inl ⟨rfl,_,SqL.of a5⟩,?_⟩;mleave;have a:=D _ _ (fun z=>by rw [z,t] at O;cases O) O;refine ⟨q,_,dq,_, .str p.st,rfl,a,C.cls,C.n2,rfl,?_⟩;mleave;refine ⟨q,_,dq,_, .str p.nm,rfl,a,C.cls,C.n1,rfl,?_⟩;mleave;refine ⟨len2,?_⟩;rename_i c2 b6 b9 B b1 c1 b4;mleave;refine ⟨len2,?_⟩;rename_i R b8 a9 b1 y L b2;mleave;have S:LeV y (p.st,(p.nm,false)) (.ref R):=⟨R,c2,rfl,b2,L _ _ b4⟩;have c:=c1.trans L;have i:=c _ _ a5;refine ⟨X,[],_,rfl,rfl,i,by show 0<sizeLine;ac_nf,?_⟩;generalize u3:upd y X _=H3;mleave;have U:=((a2.sx D t).same c).first hv a8 (fun g l' a6 z=>by
    rcases a2.at_ g with ⟨h1,_⟩ | ⟨X,xs2,h1,_,h3,_⟩
    ·rw [a6] at h1;cases h1
    ·rw [a6] at h1;cases h1;rw [z,n] at h3;cases h3) i S u3
   have N:SameJ d W H3:=fun b u J Y h=>by rw [<- u3,Jag (fun z=>by rw [z,n] at h;cases h)];exact c _ _ (D _ _ J h)
   have a0:=c _ _ c5;rw [show y d=H3 d by rw [<- u3,Jag (Ne.symm nd)]] at a0;have c0:Same H0 H3:=fun b u h=>by rw [<- u3,Jag (Jah h a8)];exact c _ _ (D _ _ (Jah h b7) (b5 _ _ h))
   have lp:=Jbj (putK x (Sum.inr p.st) (V.ref l1)) (Sum.inr p.en) (V.ref X);rw [Jc0 d6] at U;refine k H3 c0 (fun b u J Y h=>N b u J Y (a1 b u J Y h)) ⟨⟨dx,N _ _ nj (by intro r z;cases z) c3⟩,b7,_,a0,?_,U⟩;rw [length_append,length_singleton];ac_nf
abbrev Bae:Stmt:=inClass (top 48) 2
theorem JaH:Jan ["self","one","other","found","waiting","face","lead"] ["self","one","other"] (Jae Bae):=by bv_decide
def Jbd (K:W.Frag) (Ad:Adr):Sp:=fun vs H Q E=>∃ (j d:Addr) (one other:Str) (ls:List PD) (H0:Hp),vs=[.ref j, .str one, .str other]/\JK Ad H0 H j d ls/\ls.length<=20/\(ls.map (·.nm)).Nodup/\(¬ Conn ls one other->∀ H',Same H H'->Q .non H')/\(∀ w l xs H',Same H H'->H l=none->H' l=some (.lst xs)->All2 (CV H') w xs->JaV ls one w other->(w.map (·.1)).Nodup->Q (.ref l) H')
theorem JcB (F:FunD K "way_between" "Joints.way_between" Bae dV f fd) (T:Txt K mg Ad)  : FnOk P w K mg base (CX1 P w) 1 f fd ["self","one","other"] (Jbd K Ad):=by
 refine F.okn JaH (by subst_eqs) (fun i8 A e5 s H vs Q E hr h=>?_)
 obtain ⟨j,d,one,other,M,H0,rfl,h⟩:=h;have hu:=hr.units;refine ⟨_,(Jab (Jak 3 JaH.nd (JkU (Jjp (pv 1) (Jbg Jad) Jk0) rfl rfl (by simp) ⋯)) (Jab (Jak 4 JaH.nd (Jbg (Jaa (pv 1) Jad))) (Jab (JdI PassesOwn.never (JaC JfO (Jau JaW rfl T.BbQ JbN (Jaa (pv 4) Jad)) Jac (Jaw _)) (Jab (Jak 5 JaH.nd (JlV PySem.F.plainAttrs_list PySem.F.slot_list_pop PySem.F.type_list_pop JlN (pv 4))) (Jai (Ja8 PassesOwn.never rfl (pi_U (Jjj (hu1 hu) (Jas (pv 0) rfl) (pv 5) (Jbg Jad) ⟨rfl,rfl,rfl,rfl⟩)) (Jap 6 JaH.nd) (Jai (ps_if (Jeb (Jc9 (hu1 hu) (pe_ix ix_U (pv 6) Jac) (pv 3)) (by with_unfolding_all rfl)) (Jab (Jb8 (hu1 hu) (pv 3) (pe_ix ix_U (pv 6) Jac) (pe_op JaE (JbU (hu1 hu) (pv 3) (pv 5) (fun _ _=>rfl)) (Jbg (Jaa (pe_ix ix_U (pv 6) Jac) Jad))) rfl) (Jai (Jba (pe_bm PySem.F.plainAttrs_list PySem.F.slot_list_append PySem.F.type_list_append Ja3 (pv 4) (Jaa (pe_ix ix_U (pv 6) Jac) Jad) (hs:=by exact Jaf rfl)))))
   Jax)))))) (Jai (Jaq (Jji (hu1 hu) (pv 3) (pv 2) ⟨rfl,rfl,rfl,rfl⟩)))))),?_⟩
 clear hu;obtain ⟨⟨⟨dx,hj⟩,i5,b8,hd,hk,hJ⟩,hl,d8,k1,k2⟩:=h;have sl:(1000:Nat)<=sizeLine:=by decide
 have jc:=T.BbT _ rfl;show tSeq _ _ _ [some (.ref j),some (.str one),some (.str other),none,none,none,none] H;mleave;rename_i fd b0 h8 H H1 S1 e1;mleave;refine ⟨len0,?_⟩;rename_i l0 N h0 H1 H2 S2 e2;mleave;refine ⟨S2 _ _ e1,[(Sum.inr one, .ref l0)],rfl,by show 1<=15;ac_nf,?_⟩;generalize u3:upd H2 fd _=H3;mleave;have e3:H3 fd=some (.dK [(Sum.inr one, .ref l0)]):=by rw [<- u3];exact Jaj.trans rfl
 have d9:l0≠fd:=fun z=>by rw [z,e1] at N;cases N
 have c4:H3 l0=some (.lst []):=by rw [<- u3,Jag d9];exact e2
 have d1:Same H H3:=fun b u h=>by rw [<- u3,Jag (Jah h b0)];exact S2 _ _ (S1 _ _ h)
 have g5:H l0=none:=by
  cases e:H l0 with
  | none=>rfl
  | some o=>rw [S1 _ _ e] at N;cases N
 refine ⟨by show 1<=sizeLine;ac_nf,?_⟩;rename_i I G h9 H3 H4 S4 e4;mleave;have b2:H I=none:=by
  cases e:H I with
  | none=>rfl
  | some o=>rw [d1 _ _ e] at G;cases G
 have f7:l0≠I:=fun z=>by rw [<- z,c4] at G;cases G
 have i2:fd≠I:=fun z=>by rw [<- z,e3] at G;cases G
 have f2:Srch H M one fd I H4 [(one,[])] [one]:=⟨d1.trans S4,⟨_,S4 _ _ e3,rfl, .ref l0,[],rfl,⟨l0,[],rfl,g5,f7,S4 _ _ c4,rfl⟩,rfl⟩,by simp,by simp,fun a J=>by rw [mem_singleton.mp J];exact .nil,e4,by simp,by simp,fun a J=>by rw [mem_singleton.mp J];simp⟩;refine ⟨fun m σ H'=>∃ (v5 v6:Option V) (ws:List (Str × List Pr)) (wt:List Str),σ=[some (.ref j),some (.str one),some (.str other),some (.ref fd),some (.ref I),v5,v6]/\Srch H M one fd I H' ws wt/\(∀ a∈ws,a.1∉wt->∀ e∈Jaz M a.1,e.1∈ws.map (·.1))/\m=2*(41-ws.length)+wt.length/\m<=81,⟨_,none,none,[(one,[])],[one],rfl,f2,fun a J hn=>absurd (by rw [mem_singleton.mp J];simp) hn,rfl,by simp⟩,?_⟩;rintro m σ H5 ⟨v5,v6,ws,wt,rfl,O,cl,rfl,b1⟩;mleave;refine ⟨_, .inl (SqL.of O.wait),?_⟩;mleave;rcases List.eq_nil_or_concat wt with rfl | ⟨wt',face,rfl⟩
 ·rw [if_neg (by simp)];mleave;obtain ⟨g8,d2,g1⟩:=O.dict;mleave;refine ⟨fd,rfl, .inl ⟨g8, .inl d2⟩,_,DGet.k (k:=Sum.inr other) d2,?_⟩;rcases g1.get (z:=other) with ⟨a,v,R,h2,h3,l,xs,rfl,h4,_,h5,h6⟩ | ⟨R,h2⟩
  ·rw [h3];exact k2 a.2 l xs H5 O.same h4 h5 h6 (by rw [<- h2];exact O.walk a R) (O.sim a R).1
  ·rw [h2];refine k1 (fun hc=>R (Jkn O.here (fun f hf e he=>?_) hc)) H5 O.same;obtain ⟨a,J,rfl⟩:=mem_map.mp hf;exact cl a J (by simp) e he
 ·rw [if_pos (by simp)];mleave;rw [List.concat_eq_append] at O cl b1 ⊢;refine ⟨_,fun _ _ q=>q,?_⟩;mleave;refine ⟨.inl ⟨rfl,_,SqL.of O.wait⟩,?_⟩;refine ⟨I,_, .str face,rfl,rfl,O.wait,by simp,?_⟩;generalize u6:upd H5 I _=H6;mleave;have ed:((wt'++[face]).map V.str).dropLast=wt'.map V.str:=by simp
  rw [ed] at u6;have a6:Srch H M one fd I H6 ws wt':=O.wait' b2 u6 fun f hf=>O.sub f (by simp [hf]);have b4:=O.sub face (by simp);mleave;refine ⟨j,_,dx,_, .ref d,rfl,a6.same _ _ hj,jc.cls,jc.n1,rfl,?_⟩;mleave;refine ⟨d,rfl, .inl ⟨b8, .inl (a6.same _ _ hd)⟩,len0,?_⟩;rename_i le c6 i1 H6 H7 S7 e7;mleave;have a2:=a6.grow S7;have g3:le≠I:=fun z=>by have:=a6.wait;rw [<- z,c6] at this;cases this
  refine ⟨_,DGet.k (k:=Sum.inr face) (a2.same _ _ hd),?_⟩;obtain ⟨la,xs,g4,c7,c3,f0⟩:∃ la xs,(valV b8 (Sum.inr face)).getD (.ref le)=.ref la/\H7 la=some (.lst xs)/\All2 (LeV H7) (Jaz M face) xs/\la≠I:=by
   rcases hJ.at_ face with ⟨R,h2⟩ | ⟨l,xs,R,h2,h3,h4⟩
   ·exact ⟨le,[],by rw [R];rfl,e7,by rw [h2];rfl,g3⟩
   ·exact ⟨l,xs,by rw [R];rfl,a2.same _ _ h3,h4.mono fun _ _ z=>z.sameT a2.same.t,Jah h3 b2⟩
  have lx:=c3.length;have j1:=a2.len hl;refine ⟨la,g4,ForA.byL (xs:=xs) (SqL.of c7) (fun i σ H'=>i<=xs.length/\∃ (v6:Option V) (r:List (Str × List Pr)) (B:List Str),σ=[some (.ref j),some (.str one),some (.str other),some (.ref fd),some (.ref I),some (.str face),v6]/\Srch H M one fd I H' r B/\H' la=some (.lst xs)/\SameT H7 H'/\(∀ a∈r,a.1∉B->a.1≠face->∀ e∈Jaz M a.1,e.1∈r.map (·.1))/\(∀ e∈(Jaz M face).take i,e.1∈r.map (·.1))/\face∈r.map (·.1)/\2*(41-r.length)+B.length<=2*(41-ws.length)+wt'.length) ⟨Nat.zero_le _,v6,ws,wt',rfl,a2,c7,SameT.refl _,fun a J R h2=>cl a J (by simp [R,h2]),by simp,b4,Nat.le_refl _⟩ (fun i σ H' z=>by obtain ⟨_,_,_,_,_,_,z,_⟩:=z;exact SqL.of z) ?_ ?_⟩
  ·rintro i y σ H8 hy ⟨hi,v6,r,B,rfl,C,W,Y,a4,a0,a1,d5⟩;have li:i<xs.length:=(List.getElem?_eq_some_iff.mp hy).1;obtain ⟨e,he,b,c,rfl,f4,f5⟩:=c3.at_ hy;have a3:=Y _ _ rfl f4;have f1:=Y _ _ rfl f5;have b6:(Jaz M face).take (i+1)=(Jaz M face).take i++[e]:=by rw [take_succ,he];rfl
   have b9:e∈Jaz M face:=List.mem_of_getElem? he;obtain ⟨j2,Z,a7⟩:=C.dict;mleave;refine ixT (i:=0) (SqT.of a3) rfl ?_;refine ⟨fd,_,rfl,DGet.k (k:=Sum.inr e.1) Z,?_⟩;rw [a7.val];by_cases S:e.1∈r.map (·.1)
   ·rw [decide_eq_true S];mleave;refine ⟨li,_,r,B,rfl,C,W,Y,a4,fun e' L=>?_,a1,d5⟩;rw [b6] at L;rcases mem_append.mp L with h' | h'
    ·exact a0 e' h'
    ·rw [mem_singleton.mp h'];exact S
   ·rw [decide_eq_false S];mleave;obtain ⟨a,v,J,e8,hv,l,xw,rfl,i9,i4,b5,c0⟩:=a7.some a1;have i7:=C.lw a J;have j0:=C.len hl;have i6:=c0.length;refine ⟨fd, .ref l,rfl,by rw [<- hv];exact DGet.k (k:=Sum.inr face) Z,?_⟩;refine ixT (i:=1) (SqT.of a3) rfl ?_;refine ⟨by show 1<=sizeLine;ac_nf,?_⟩;rename_i ln h7 i0 H8 H9 S9 e9;mleave;refine .inl ⟨l,ln,xw,_,rfl,rfl,S9 _ _ b5,e9,by simp;ac_nf,?_⟩;rename_i lr X g9 H9 U e0 f3;mleave;mleave;have n:=S9.trans e0;have c8:=C.grow n;refine ixT (i:=0) (SqT.of (n _ _ a3)) rfl ?_;have lk:=a7.length;refine ⟨fd,_,rfl,DPut.k (k:=Sum.inr e.1) (n _ _ Z) ∅,?_⟩;generalize b3:upd U fd _=a8;mleave;have n0:H lr=none:=by
     cases e:H lr with
     | none=>rfl
     | some o=>rw [S9 _ _ (C.same _ _ e)] at X;cases X
    have f6:lr≠I:=fun z=>by have:=(C.grow S9).wait;rw [<- z,X] at this;cases this
    have f9:JaV M one (a.2++[e.2]) e.1:=.snoc (by rw [<- e8];exact C.walk a J) b9;have a9:=n _ _ Z;have d3:=a7.mono (P':=PWy H U I) fun a v ζ=>(by obtain ⟨l,xs,e1,hn,g2,hx,J⟩:=ζ;exact ⟨l,xs,e1,hn,g2,n _ _ hx,J.mono fun _ _ z=>z.sameT n.t⟩);have cv:CV U e.2 (.ref c):=⟨c,rfl,n _ _ f1⟩;obtain ⟨pp,c2,c1⟩:=(Ja2 (g:=e.1) (pr:=e.2)).mp b9;have c9:e.2.1=pp.nm:=by rcases c1 with h | h;rw [h.2.2];rw [h.2.2.2]
    have d4:(pp.st=face/\pp.en=e.1)\/(pp.en=face/\pp.st=e.1):=by rcases c1 with h | h;exact .inl ⟨h.1,h.2.1⟩;exact .inr ⟨h.2.1,h.2.2.1⟩
    have g7:((a.2++[e.2]).map (·.1)).Nodup/\∀ p∈M,p.nm∈(a.2++[e.2]).map (·.1)->p.st∈(r++[(e.1,a.2++[e.2])]).map (·.1)/\p.en∈(r++[(e.1,a.2++[e.2])]).map (·.1):=by
     have sm:=C.sim a J;have e6:e.2.1∉a.2.map (·.1):=fun z=>by
      have:=sm.2 pp c2 (c9 ▸ z);rcases d4 with h | h
      ·exact S (h.2 ▸ this.2)
      ·exact S (h.2 ▸ this.1)
     rw [map_append,map_append,map_cons,map_nil,map_cons,map_nil];refine ⟨nodup_append.mpr ⟨sm.1,by simp,fun x hx y hy z=>e6 (by rw [mem_singleton] at hy;rw [<- hy, <- z];exact hx)⟩,fun p hp hn=>?_⟩;rcases mem_append.mp hn with hn | hn
     ·have:=sm.2 p hp hn;exact ⟨mem_append.mpr (.inl this.1),mem_append.mpr (.inl this.2)⟩
     ·have ep:=Jgl d8 hp c2 ((mem_singleton.mp hn).trans c9);subst ep;have m1:e.1∈r.map (·.1)++[e.1]:=mem_append.mpr (.inr (by simp));have m2:face∈r.map (·.1)++[e.1]:=mem_append.mpr (.inl a1);rcases d4 with h | h
      ·rw [h.1,h.2];exact ⟨m2,m1⟩
      ·rw [h.1,h.2];exact ⟨m1,m2⟩
    have D:=c8.find a9 d3 b0 S f9 (by simp;ac_nf) g7 n0 f6 f3 ((c0.mono (P':=CV U) fun _ _ z=>z.sameT n.t).append (.one cv)) b3;have b7:SameT U a8:=SameT.put b3 a9 rfl;have d7:la≠fd:=fun z=>by rw [z,Z] at W;cases W
    have c5:a8 la=some (.lst xs):=by rw [<- b3,Jag d7];exact n _ _ W
    have g6:=D.len hl;rw [length_append,length_singleton] at g6;have i3:(B.map V.str).length<=81:=by
     rw [length_map];rw [length_append,length_singleton] at b1;ac_nf
    refine ⟨.inl ⟨rfl,_,SqL.of D.wait⟩,?_⟩;refine ixT (i:=0) (SqT.of (b7 _ _ rfl (n _ _ a3))) rfl ?_;refine ⟨I,_,_,rfl,rfl,D.wait,by ac_nf,?_⟩;generalize a5:upd a8 I _=d6;mleave;have ea:B.map V.str++[V.str e.1]=(B++[e.1]).map V.str:=by simp
    rw [ea] at a5;have d0:=D.wait' b2 a5 (fun f hf=>by
     rcases mem_append.mp hf with h' | h'
     ·exact D.sub f h'
     ·rw [mem_singleton.mp h',map_append];simp)
    have g0:SameT a8 d6:=SameT.put a5 D.wait rfl;refine ⟨li,_,r++[(e.1,a.2++[e.2])],B++[e.1],rfl,d0,by rw [<- a5,Jag f0];exact c5,Y.trans (n.t.trans (b7.trans g0)),fun a' f8 R h2 e' L=>?_,fun e' L=>?_,?_,?_⟩
    ·rw [map_append];rcases mem_append.mp f8 with h' | h'
     ·exact mem_append.mpr (.inl (a4 a' h' (fun z=>R (by simp [z])) h2 e' L))
     ·refine absurd ?_ R;rw [mem_singleton.mp h'];simp
    ·rw [map_append];rw [b6] at L;rcases mem_append.mp L with h' | h'
     ·exact mem_append.mpr (.inl (a0 e' h'))
     ·rw [mem_singleton.mp h'];simp
    ·rw [map_append];exact mem_append.mpr (.inl a1)
    ·rw [length_append,length_append,length_singleton,length_singleton];ac_nf
  ·rintro σ H8 ⟨hi,v6,r,B,rfl,C,W,Y,a4,a0,a1,d5⟩;rw [length_append,length_singleton] at b1;refine ⟨_,by rw [length_append,length_singleton];ac_nf,some (.str face),v6,r,B,rfl,C,fun a J hn e he=>?_,rfl,by ac_nf⟩;by_cases c:a.1=face
   ·rw [take_of_length_le ∅] at a0;rw [c] at he;exact a0 e he
   ·exact a4 a J hn c e he
abbrev Bak:Stmt:=inClass (top 49) 0
theorem JaF:Jan ["self","parts","gaps","joints","row","part","gap","found"] ["self","parts","gaps"] (Jae Bak):=by bv_decide
def Jby (K:W.Frag) (Ad:Adr):Sp:=fun vs H Q E=>∃ (x dx a c:Addr) (xs zs:List V) (ls0:List PD) (gs0:List GD) (H0:Hp),vs=[.ref x, .ref a, .ref c]/\H x=some (.ins Ad.Thing dx [])/\H0 x=none/\Same H0 H/\SqL K H0 a xs/\All2 (PDV K H0) ls0 xs/\SqL K H0 c zs/\All2 (fun (g:GD) v=>TV K H0 g.td v) gs0 zs/\ls0.length<=20/\gs0.length<=20/\(∀ p∈ls0,POk p)/\(∀ g∈gs0,TOk g.td)/\(ls0.map (·.nm)).Nodup/\(gs0.map (·.nm)).Nodup/\(∀ (i:Nat) p,ls0[i]?=some p->¬ Conn (ls0.take i) p.st p.en)/\(∀ g∈gs0,Conn ls0 g.st g.en)/\∀ H',Same H0 H'->TK K Ad H' x ls0 gs0->Q .non H'
theorem Jdq (F:FunD K "__init__" "Thing.__init__" Bak dV f fd) (T:Txt K mg Ad) (BcH:KCal P w K mg base 1 "Joints" Ad.Joints ["self"] (Jbn K Ad)) (Bce:Cal P w K mg base 6 "part_of" ["thing"] [] (Jdx K Ad)) (BcI:Cal P w K mg base 7 "gap_of" ["thing"] [] (Jeg K Ad)) (Ba1:MCal P w K mg base 1 "way_between" (JcZ Ad) ["self","one","other"] (Jbd K Ad)) (Bdv:MCal P w K mg base 1 "link" (JcZ Ad) ["self","part"] (Jca K Ad)):FnOk P w K mg base (CX1 P w) 9 f fd ["self","parts","gaps"] (Jby K Ad):=by
 refine F.okn JaF (by subst_eqs) (fun o3 A k6 s H vs Q E hr h=>?_)
 obtain ⟨x,Y,a,c,xs,zs,f5,f7,N,rfl,h⟩:=h;have hu:=hr.units;refine ⟨_,(Jab (Jak 3 JaF.nd (BcH.ev0 hr ⋯ rfl passF)) (Jab (Ja6 (pv 0) JbC rfl) (Jab (Ja8 PassesOwn.never rfl (pi_U (pv 1)) (Jap 4 JaF.nd) (Jab (Jak 5 JaF.nd (Bce.ev hr ⋯ rfl passF (Jaa (pv 4) Jad))) (Jab (ps_if (Jeb (JgR (hu1 hu) (Jas (pv 5) rfl) (Jas (pv 0) rfl)) (by with_unfolding_all rfl)) (Jai ps_no)
   Jax) (Jab (ps_if (JaC Je7 (Ba1.m hr ⋯ passF (pv 3) (Jaa (Jas (pv 5) rfl) (Jaa (Jas (pv 5) rfl) Jad))) JdC (Jaw _)) (Jai ps_no)
   Jax) (Jab (Jba (Bdv.m hr ⋯ passF (pv 3) (Jaa (pv 5) Jad))) (Jai (Jb8 (hu1 hu) (Jas (pv 0) rfl) (Jas (pv 5) rfl) (pv 5) rfl))))))) (Jab (Ja6 (pv 0) JbC rfl) (Jab (Ja6 (pv 0) JbC rfl) (Jai (Ja8 PassesOwn.never rfl (pi_U (pv 2)) (Jap 4 JaF.nd) (Jab (Jak 6 JaF.nd (BcI.ev hr ⋯ rfl passF (Jaa (pv 4) Jad))) (Jab (ps_if (Jeb (JgR (hu1 hu) (Jas (pv 6) rfl) (Jas (pv 0) rfl)) (by with_unfolding_all rfl)) (Jai ps_no)
   Jax) (Jab (Jak 7 JaF.nd (Ba1.m hr ⋯ passF (pv 3) (Jaa (Jas (pv 6) rfl) (Jaa (Jas (pv 6) rfl) Jad)))) (Jab (ps_if (JaC Je6 (pv 7) JdC (Jaw _)) (Jai ps_no)
   Jax) (Jab (Jb8 (hu1 hu) (Jas (pv 0) rfl) (Jas (pv 6) rfl) (pv 6) rfl) (Jai (Jb8 (hu1 hu) (Jas (pv 0) rfl) (Jas (pv 6) rfl) (pv 7) rfl)))))))))))))),?_⟩
 clear hu;obtain ⟨hx,d9,S0,hS,hE,hC,hG,hl,hg,m5,k9,m6,n4,k0,l9,k⟩:=h;have X:=T.Ba9 _ rfl;have pc:=T.BcA _ rfl;have gc:=T.Bdt _ rfl;have sl:(1000:Nat)<=sizeLine:=by decide
 have le:=hE.length;have lg:=hG.length;show tSeq _ _ _ [some (.ref x),some (.ref a),some (.ref c),none,none,none,none,none] H;mvcgen;intro j dj hj l0 nj;have Sm:Same H (upd (upd H dj (.own j)) j (.ins Ad.Joints dj [])):=fun b u q=>by rw [Jag (Jah q hj),Jag (Jah q l0)];exact q
 generalize um:upd (upd H dj (.own j)) j (.ins Ad.Joints dj [])=Hm at Sm ⊢;mvcgen;have em:Hm j=some (.ins Ad.Joints dj []):=by rw [<- um,Jaj]
 refine ⟨j,dj,rfl,em,fun d H1 m9 n9 m8 c0 g5=>⟨rfl,?_⟩⟩;have I:∀ {H:Hp} {b:Addr},Same N H->H b=none->N b=none:=fun {H b} S h=>by
  cases e:N b with
  | none=>rfl
  | some o=>rw [S _ _ e] at h;cases h
 have f2:∀ {H B:Hp} {d:Addr} {kv:List (Key × V)},(∀ b u,b≠d->H b=some u->B b=some u)->H d=some (.dK kv)->SameI H B:=fun {H B d kv} S hd b u t h=>S b u (fun z=>by rw [z,hd] at h;cases h;simp [isTI,isTF] at t) h;have j6:∀ {H B:Hp} {d b:Addr} {kv:List (Key × V)} {ys:List V},(∀ b u,b≠d->H b=some u->B b=some u)->H d=some (.dK kv)->H b=some (.lst ys)->B b=some (.lst ys):=fun {H B d b kv ys} S hd h=>S _ _ (fun z=>by rw [z,hd] at h;cases h) h;have e4:∀ {H B:Hp} {e:Addr} {kv:List (Key × V)} {G:List PD},(∀ b u,b≠e->H b=some u->B b=some u)->H e=some (.dK kv)->e≠d->JK Ad N H j d G->JK Ad N B j d G:=fun {H B e kv G} S he ne ⟨⟨dj,h1⟩,h2,kvs,h3,h4,h5⟩=>⟨⟨dj,S _ _ (fun z=>by rw [z,he] at h1;cases h1) h1⟩,h2,kvs,S _ _ (Ne.symm ne) h3,h4,h5.sx S he⟩;have j0:=I S0 hj;have h8:Same N H1:=fun b u h=>g5 b u (Jah h j0) (Sm _ _ (S0 _ _ h));have f4:x≠j:=Jah hx hj;have d7:H1 x=some (.ins Ad.Thing Y []):=g5 x _ f4 (Sm _ _ hx);have d0:N d=none:=I (S0.trans Sm) m9
 (try ((with_reducible refine Nxt.go (by assumption) ?_);mvcgen))
 rename_i M W n8 H1 H2 S2 e2;mvcgen;mvcgen;refine ⟨x,_,Y,_,rfl,S2 _ _ d7,X.cls,X.n1,by simp,?_⟩;generalize u3:upd H2 x _=H3;mvcgen;have e3:H3 x=some (.ins Ad.Thing Y [("parts_by_name", .ref M)]):=by rw [<- u3];exact Jaj.trans rfl
 have c3:∀ b u,b≠x->H2 b=some u->H3 b=some u:=fun b u hb h=>by rw [<- u3,Jag hb];exact h
 have j3:Same N H3:=fun b u h=>c3 _ _ (Jah h d9) (S2 _ _ (h8 _ _ h));have d5:d≠x:=fun z=>by rw [z,d7] at c0;cases c0
 have a5:M≠x:=fun z=>by rw [z,d7] at W;cases W
 have c6:M≠d:=fun z=>by rw [z,c0] at W;cases W
 have h0:H3 M=some (.dK []):=c3 _ _ a5 e2;have l5:=I h8 W;have l7:JK Ad N H3 j d []:=⟨⟨dj,c3 _ _ (Ne.symm f4) (S2 _ _ m8)⟩,d0,[],c3 _ _ d5 (S2 _ _ c0),by simp,JD.nil⟩;refine ⟨a,rfl,ForA.byL (xs:=xs) (hS.same j3) (fun i σ B=>i<=xs.length/\∃ (v4 v5:Option V) (k1:List (Key × V)) (G:List PD),σ=[some (.ref x),some (.ref a),some (.ref c),some (.ref j),v4,v5,none,none]/\Same N B/\B x=some (.ins Ad.Thing Y [("parts_by_name", .ref M)])/\JK Ad N B j d G/\B M=some (.dK k1)/\BG (·.nm) (POV K Ad B) G k1/\G.length=i/\(G.map (·.nm)).Nodup/\G=f5.take i) ⟨Nat.zero_le _,none,none,[],[],rfl,j3,e3,l7,h0,⟨rfl,rfl⟩,rfl, .nil,rfl⟩ (fun i σ B z=>by obtain ⟨_,_,_,_,_,_,z,_⟩:=z;exact hS.same z) ?_ ?_⟩
 ·rintro i y σ H4 hy ⟨hi,v4,v5,k1,G,rfl,S4,a2,f0,b1,c2,i7,b6,hw⟩;have li:i<xs.length:=(List.getElem?_eq_some_iff.mp hy).1;obtain ⟨p,hp,f6⟩:=hE.at_ hy;have ok:=m5 p (List.mem_of_getElem? hp);have h9:G++[p]=f5.take (i+1):=by rw [hw,take_succ,hp];rfl
  have cn:p.nm∉G.map (·.nm):=Jgk h9 m6;have lk:=c2.length;mvcgen;refine ⟨y,p,rfl,f6.sameT S4.t,ok,fun v H5 S5 pv=>?_⟩;obtain ⟨q,dq,vz,vm,rfl,c1,hz,hm⟩:=id pv;have e9:=S5 _ _ a2;have g4:=S5 _ _ b1;have e0:=f0.same S5;have i0:=c2.mono (P':=POV K Ad H5) fun _ _ z=>z.si (Same.i S5);obtain ⟨⟨i1,i6⟩,_⟩:=id e0;mvcgen;refine ⟨q,_,dq,_, .str p.nm,rfl,c1,pc.cls,pc.n1,rfl,?_⟩;refine ⟨x,_,Y,_, .ref M,rfl,e9,X.cls,X.n1,rfl,?_⟩;refine ⟨M,_,rfl,DGet.k (k:=Sum.inr p.nm) g4,?_⟩;rw [i0.val];rw [decide_eq_false cn];mvcgen;refine ⟨j,_,i1,_,rfl,i6,rfl,rfl,?_⟩;mvcgen;refine ⟨q,_,dq,_, .str p.st,rfl,c1,pc.cls,pc.n2,rfl,?_⟩;refine ⟨q,_,dq,_, .str p.en,rfl,c1,pc.cls,pc.n3,rfl,?_⟩;refine ⟨j,d,p.st,p.en,G,N,rfl,e0,by ac_nf,b6,fun hc H6 S6=>?_,fun w l yy H6 S6 o2 e6 i2 f1 _=>absurd (show Conn G p.st p.en from ⟨w,f1⟩) (by rw [hw];exact k0 i p hp)⟩;mvcgen;have g1:=e0.same S6;have g0:=S4.trans (S5.trans S6);refine ⟨j,_,i1,_,rfl,S6 _ _ i6,rfl,rfl,?_⟩;mvcgen;refine ⟨j,d, .ref q,G,p,N,rfl,g1,g0,pv.si (Same.i S6),ok.ne,by ac_nf,fun H7 m7 sj m2=>?_⟩;have nd:∀ {b:Addr} {C dd:Addr} {ff:List (Str × V)},H6 b=some (.ins C dd ff)->H7 b=some (.ins C dd ff):=fun {b C dd ff} h=>by
   obtain ⟨_,_,_,f8,_⟩:=g1;exact sj _ _ (fun z=>by rw [z,f8] at h;cases h) (by intro xs z;cases z) h
  have SI:SameI H6 H7:=fun b u t h=>by
   obtain ⟨_,_,_,f8,_⟩:=g1;exact sj b u (fun z=>by rw [z,f8] at h;cases h;simp [isTI,isTF] at t) (fun xs z=>by rw [z] at t;simp [isTI,isTF] at t) h
  have f9:H7 M=some (.dK k1):=sj _ _ c6 (by intro xs z;cases z) (S6 _ _ g4);have m1:=i0.mono (P':=POV K Ad H7) fun _ _ z=>(z.si (Same.i S6)).si SI;have m0:=(pv.si (Same.i S6)).si SI;mvcgen;refine ⟨x,_,Y,_, .ref M,rfl,nd (S6 _ _ e9),X.cls,X.n1,rfl,?_⟩;refine ⟨q,_,dq,_, .str p.nm,rfl,nd (S6 _ _ c1),pc.cls,pc.n1,rfl,?_⟩;refine ⟨M,_,rfl,DPut.k (k:=Sum.inr p.nm) f9 ∅,?_⟩;generalize u8:upd H7 M _=H8;mvcgen;have e8:=putE u8;have b9:∀ b u,b≠M->H7 b=some u->H8 b=some u:=fun b u hb h=>by rw [<- u8,Jag hb];exact h
  have l6:=f2 b9 f9;refine ⟨li,_,_,_,G++[p],rfl,fun b u h=>b9 _ _ (Jah h l5) (m7 _ _ h),b9 _ _ (Ne.symm a5) (nd (S6 _ _ e9)),e4 b9 f9 c6 m2,e8,?_,by simp [i7],by rw [map_append];exact nodup_append.mpr ⟨b6,by simp,fun u hu v hv z=>cn (by have e:v=p.nm:=mem_singleton.mp hv;rw [<- e, <- z];exact hu)⟩,h9⟩;exact (m1.new (a:=p) cn m0).mono fun _ _ z=>z.si l6
 ·rintro σ H4 ⟨hi,v4,v5,k1,G,rfl,S4,a2,f0,b1,c2,i7,b6,hw⟩;rw [take_of_length_le ∅] at hw;subst hw;mvcgen;obtain ⟨⟨l8,m3⟩,_,l3,a6,j7,k7⟩:=id f0;rename_i Z J n5 H4 H5 S5 e5;mvcgen;refine ⟨x,_,Y,_,rfl,S5 _ _ a2,X.cls,X.n2,by simp,?_⟩;generalize u6:upd H5 x _=H6;mvcgen;have e6:H6 x=some (.ins Ad.Thing Y [("parts_by_name", .ref M),("gaps_by_name", .ref Z)]):=by rw [<- u6];exact Jaj.trans rfl
  have b5:∀ b u,b≠x->H5 b=some u->H6 b=some u:=fun b u hb h=>by rw [<- u6,Jag hb];exact h
  mvcgen;rename_i d3 n n6 H6 H7 S7 e7;mvcgen;refine ⟨x,_,Y,_,rfl,S7 _ _ e6,X.cls,X.n3,by simp,?_⟩;generalize u8:upd H7 x _=H8;mvcgen;have e8:H8 x=some (.ins Ad.Thing Y [("parts_by_name", .ref M),("gaps_by_name", .ref Z),("ways", .ref d3)]):=by rw [<- u8];exact Jaj.trans rfl
  have e1:∀ b u,b≠x->H7 b=some u->H8 b=some u:=fun b u hb h=>by rw [<- u8,Jag hb];exact h
  have a1:∀ b u,b≠x->H4 b=some u->H8 b=some u:=fun b u hb h=>e1 _ _ hb (S7 _ _ (b5 _ _ hb (S5 _ _ h)));have b3:Z≠x:=fun z=>by rw [z,a2] at J;cases J
  have f3:Z≠M:=fun z=>by rw [z,b1] at J;cases J
  have i9:Z≠d:=fun z=>by rw [z,a6] at J;cases J
  have c5:d3≠x:=fun z=>by rw [z,e6] at n;cases n
  have g3:=b5 _ _ a5 (S5 _ _ b1);have k5:=b5 _ _ d5 (S5 _ _ a6);have c8:=b5 _ _ b3 e5;have d6:d3≠M:=fun z=>by rw [z,g3] at n;cases n
  have h7:d3≠d:=fun z=>by rw [z,k5] at n;cases n
  have b2:d3≠Z:=fun z=>by rw [z,c8] at n;cases n
  have j9:=I S4 J;have g0:Same N H6:=fun b u h=>b5 _ _ (Jah h d9) (S5 _ _ (S4 _ _ h));have l2:=I g0 n;have g6:Same N H8:=fun b u h=>a1 _ _ (Jah h d9) (S4 _ _ h);have g8:SameT H4 H8:=fun b u t h=>a1 _ _ (fun z=>by rw [z,a2] at h;cases h;simp [isTF] at t) h;have k4:JK Ad N H8 j d G:=⟨⟨l8,a1 _ _ (Ne.symm f4) m3⟩,d0,l3,a1 _ _ d5 a6,j7,k7.sy a1 a2 (by intro xs z;cases z) rfl⟩;have n0:BG (·.nm) (POV K Ad H8) G k1:=c2.mono fun p v ⟨q,dq,vz,vm,h1,h2,h3,h4⟩=>⟨q,dq,vz,vm,h1,a1 _ _ (ne_of h2 a2 (by
   intro z;injection z with _ _ z3
   have:=congrArg List.length z3;simp [partF] at this)) h2,h3.sameT g8,h4.sameT g8⟩
  refine ⟨c,rfl,ForA.byL (xs:=zs) (hC.same g6) (fun i σ B=>i<=zs.length/\∃ (v4 v6 v7:Option V) (k2 k3:List (Key × V)) (gs:List GD),σ=[some (.ref x),some (.ref a),some (.ref c),some (.ref j),v4,v5,v6,v7]/\Same N B/\B x=some (.ins Ad.Thing Y [("parts_by_name", .ref M),("gaps_by_name", .ref Z),("ways", .ref d3)])/\JK Ad N B j d G/\B M=some (.dK k1)/\BG (·.nm) (POV K Ad B) G k1/\B Z=some (.dK k2)/\BG (·.nm) (GOV K Ad B) gs k2/\B d3=some (.dK k3)/\BG (·.nm) (WOV B G) gs k3/\gs.length=i/\gs=f7.take i) ⟨Nat.zero_le _,v4,none,none,[],[],[],rfl,g6,e8,k4,a1 _ _ a5 b1,n0,e1 _ _ b3 (S7 _ _ c8),⟨rfl,rfl⟩,e1 _ _ c5 e7,⟨rfl,rfl⟩,rfl,rfl⟩ (fun i σ B z=>by obtain ⟨_,_,_,_,_,_,_,_,z,_⟩:=z;exact hC.same z) ?_ ?_⟩
  ·rintro i y σ H9 hy ⟨hi,v4,v6,v7,k2,k3,gs,rfl,S9,a7,j2,b4,d8,a4,b0,a8,c4,j4,b8⟩;have li:i<zs.length:=(List.getElem?_eq_some_iff.mp hy).1;obtain ⟨g,d4,f6⟩:=hG.at_ hy;have ok:=k9 g (List.mem_of_getElem? d4);have i3:gs++[g]=f7.take (i+1):=by rw [b8,take_succ,d4];rfl
   have cn:g.nm∉gs.map (·.nm):=Jgk i3 n4;have lk:=b0.length;have o1:=c4.length;mvcgen;refine ⟨y,g,rfl,TV.sameT S9.t f6,ok,fun v o0 b7 gv=>?_⟩;obtain ⟨q,dq,vl,vg,rfl,O,hz,hm⟩:=id gv;have j5:=b7 _ _ a7;have i5:=b7 _ _ a4;have a9:=j2.same b7;obtain ⟨⟨g7,i8⟩,_⟩:=id a9;mvcgen;refine ⟨q,_,dq,_, .str g.nm,rfl,O,gc.cls,gc.n1,rfl,?_⟩;refine ⟨x,_,Y,_, .ref Z,rfl,j5,X.cls,X.n2,rfl,?_⟩;refine ⟨Z,_,rfl,DGet.k (k:=Sum.inr g.nm) i5,?_⟩;rw [b0.val];rw [decide_eq_false cn];mvcgen;refine ⟨j,_,g7,_,rfl,i8,rfl,rfl,?_⟩;mvcgen;refine ⟨q,_,dq,_, .str g.st,rfl,O,gc.cls,gc.n2,rfl,?_⟩;refine ⟨q,_,dq,_, .str g.en,rfl,O,gc.cls,gc.n3,rfl,?_⟩;refine ⟨j,d,g.st,g.en,G,N,rfl,a9,by ac_nf,b6,fun hc a3 a0=>absurd (l9 g (List.mem_of_getElem? d4)) hc,fun w l yy a3 a0 n7 l1 i2 f1 k8=>?_⟩;mvcgen;have r:=b7.trans a0;have U:=r _ _ a4;refine ⟨x,_,Y,_, .ref Z,rfl,r _ _ a7,X.cls,X.n2,rfl,?_⟩;refine ⟨q,_,dq,_, .str g.nm,rfl,a0 _ _ O,gc.cls,gc.n1,rfl,?_⟩;refine ⟨Z,_,rfl,DPut.k (k:=Sum.inr g.nm) U ∅,?_⟩;generalize g9:upd a3 Z _=c9;mvcgen;have m4:=putE g9;have D:∀ b u,b≠Z->a3 b=some u->c9 b=some u:=fun b u hb h=>by rw [<- g9,Jag hb];exact h
   have i4:=f2 D U;have c7:=D _ _ (Ne.symm b3) (r _ _ a7);have j8:=D _ _ (fun z=>by have:=a0 _ _ O;rw [z,U] at this;cases this) (a0 _ _ O);have R:=D _ _ b2 (r _ _ a8);mvcgen;refine ⟨x,_,Y,_, .ref d3,rfl,c7,X.cls,X.n3,rfl,?_⟩;refine ⟨q,_,dq,_, .str g.nm,rfl,j8,gc.cls,gc.n1,rfl,?_⟩;refine ⟨d3,_,rfl,DPut.k (k:=Sum.inr g.nm) R ∅,?_⟩;generalize h6:upd c9 d3 _=g2;mvcgen;have l4:=putE h6;have L:∀ b u,b≠d3->c9 b=some u->g2 b=some u:=fun b u hb h=>by rw [<- h6,Jag hb];exact h
   have j1:=f2 L R;have SI:SameI a3 g2:=fun b u t h=>j1 b u t (i4 b u t h);have wv:∀ {g:GD} {v:V},WOV a3 G g v->WOV g2 G g v:=fun {g v} ⟨l,xs,w,h1,h2,h3,h4⟩=>⟨l,xs,w,h1,j6 L R (j6 D U h2),h3.mono fun _ _ z=>z.sameT SI.t,h4⟩;refine ⟨li,_,_,_,_,_,gs++[g],rfl,fun b u h=>L _ _ (Jah h l2) (D _ _ (Jah h j9) (r _ _ (S9 _ _ h))),L _ _ (Ne.symm c5) c7,e4 L R h7 (e4 D U i9 (a9.same a0)),L _ _ (Ne.symm d6) (D _ _ (Ne.symm f3) (r _ _ b4)),d8.mono fun _ _ z=>(z.si (Same.i r)).si SI,L _ _ (Ne.symm b2) m4,?_,l4,?_,by simp [j4],i3⟩
   ·exact ((b0.mono (P':=GOV K Ad a3) fun _ _ z=>z.si (Same.i r)).new (a:=g) cn (gv.si (Same.i a0))).mono fun _ _ z=>z.si SI
   ·exact ((c4.mono (P':=WOV a3 G) fun _ _ z=>z.same r).new (a:=g) cn ⟨l,yy,w,rfl,l1,i2,f1,k8⟩).mono fun _ _ z=>wv z
  ·rintro σ H9 ⟨hi,v4,v6,v7,k2,k3,gs,rfl,S9,a7,j2,b4,d8,a4,b0,a8,c4,j4,b8⟩;rw [take_of_length_le ∅] at b8;subst b8;mvcgen;exact k H9 S9 ⟨Y,M,Z,d3,k1,k2,k3,a7,b4,d8,a4,b0,a8,c4⟩
abbrev BaE:Stmt:=inClass (top 49) 1
theorem Jet:Jan ["self"] ["self"] (Jae BaE):=by bv_decide
def JaY (K:W.Frag) (Ad:Adr):Sp:=fun vs H Q E=>∃ (x:Addr) (ls:List PD) (gs:List GD),vs=[.ref x]/\TK K Ad H x ls gs/\ls.length<=20/\∀ l ys H',Same H H'->H l=none->H' l=some (.lst ys)->All2 (PDV K H') ls ys->Q (.ref l) H'
theorem Jen (F:FunD K "parts" "Thing.parts" BaE dV f fd) (T:Txt K mg Ad) (Bdb:MCal P w K mg base 1 "plain" (IsPart Ad) ["self"] (Jcq K Ad)):FnOk P w K mg base (CX1 P w) 2 f fd ["self"] (JaY K Ad):=by
 refine F.okn Jet (by subst_eqs) (fun a1 A R s H vs Q E hr h=>?_)
 obtain ⟨x,ls,gs,rfl,h⟩:=h;refine ⟨_,(Jai (Jaq (Jgu (Jd9 (own:=["part"]) (cs:=[]) (cl:=[]) rfl (Jim (Jas (pv 0) rfl)) (fun _ _ _ _=>(Jap 0 (show [("part" : Str)].Nodup by decide))) (fun _ _ _ _=>(Bdb.m0 hr ⋯ passF (pv 0))) rfl ⋯ rfl ⋯ hcl0 (hhas0 ⋯) hcs0)))),?_⟩;obtain ⟨⟨dx,a,d2,d3,l,k2,k3,hx,j,b1,_⟩,hl,k⟩:=h;have tc:=T.Ba9 _ rfl;have sl:(1000:Nat)<=sizeLine:=by decide
 have lk:=b1.length;show tRet _ _ [some (.ref x)] H;mleave;refine ⟨a,l,j,x,_,dx,_, .ref a,rfl,hx,tc.cls,tc.n1,rfl,a,l,rfl,j,fun I=>?_⟩;generalize uf:upd H a (.frz I (.dK l))=Z;mleave;have f1:Z a=some (.frz I (.dK l)):=by rw [<- uf,Jaj]
 have o1:∀ b u,b≠a->H b=some u->Z b=some u:=fun b u O h=>by rw [<- uf,Jag O];exact h
 refine CompJ.vals (fun i m B=>B a=some (.frz I (.dK l))/\(∀ b u,b≠a->H b=some u->B b=some u)/\(∀ b u,b≠a->B b=some u->H b=none->True)/\All2 (PDV K B) (ls.take i) m) ⟨f1,o1,fun _ _ _ _ _=>trivial,rfl⟩ (fun i m B hi z=>⟨z.1,by have:=z.2.2.2.length;rw [length_take] at this;ac_nf⟩) ?_ ?_
 ·rintro i v m G hv ⟨D,C,_,L⟩;simpa only [length_singleton,List.replicate,JaA,map_cons,map_nil,Option.join_some];obtain ⟨p,hp,q,dq,J,N,rfl,hq,hz,hm⟩:=b1.2.at_ hv;have S:∀ {b:Addr} {u:HO},H b=some u->isTI u=true->G b=some u:=fun {b u} h t=>C _ _ (fun z=>by rw [z,j] at h;cases h;simp [isTI,isTF] at t) h;have Y:SameT H G:=fun b u t h=>S h (by cases u <;> first | exact t | (simp [isTF] at t));refine ⟨q,_,dq,_,rfl,S hq rfl,rfl,rfl,q,dq,_,_,_,J,N,_,rfl,S hq rfl,fun r y d W=>?_⟩;refine ⟨d _ _ D,fun b u O h=>d _ _ (C _ _ O h),fun _ _ _ _ _=>trivial,?_⟩;rw [take_succ,hp];exact (L.mono (P':=PDV K y) fun _ _ z=>z.sameT d.t).append (.one ⟨r,J,N,rfl,SqT.of W,(hz.sameT Y).sameT d.t,(hm.sameT Y).sameT d.t⟩)
 ·rintro m G ⟨D,C,_,L⟩;rw [take_of_length_le ∅] at L;rename_i r g a0 G y d W;mleave;refine ⟨I,l,d _ _ D,?_⟩;generalize n:upd y a (.dK l)=M;mleave;have nr:r≠a:=fun z=>by rw [z,D] at g;cases g
  have e4:M r=some (.lst m):=by rw [<- n,Jag nr];exact W
  have U:Same H M:=fun b u h=>by
   by_cases c:b=a
   ·subst c;rw [j] at h;cases h;rw [<- n,Jaj]
   ·rw [<- n,Jag c];exact d _ _ (C _ _ c h)
  have f3:=d _ _ D;have X:∀ {b:Addr} {xs:List V},SqT K y b xs->SqT K M b xs:=fun {b xs} h=>by
   rcases h with (h | ⟨o,h⟩) | h
   ·exact .inl (.inl (by rw [<- n,Jag (fun z=>by rw [z,f3] at h;cases h)];exact h))
   ·exact .inl (.inr ⟨o,by rw [<- n,Jag (fun z=>by rw [z,f3] at h;cases h)];exact h⟩)
   ·exact .inr h
  have hn:H r=none:=by
   cases e:H r with
   | none=>rfl
   | some o=>rw [C _ _ nr e] at g;cases g
  exact k r m M U hn e4 ((L.mono (P':=PDV K y) fun _ _ z=>z.sameT d.t).mono fun p v ⟨b,J,N,h1,h2,⟨pz,h3,h4⟩,⟨pm,h5,h6⟩⟩=>⟨b,J,N,h1,X h2,⟨pz,h3,X h4⟩,⟨pm,h5,X h6⟩⟩)
abbrev BaN:Stmt:=inClass (top 49) 2
theorem Jfa:Jan ["self"] ["self"] (Jae BaN):=by bv_decide
def Jbq (K:W.Frag) (Ad:Adr):Sp:=fun vs H Q E=>∃ (x:Addr) (ls:List PD) (gs:List GD),vs=[.ref x]/\TK K Ad H x ls gs/\gs.length<=20/\∀ l ys H',Same H H'->H l=none->H' l=some (.lst ys)->All2 (fun (g:GD) v=>TV K H' g.td v) gs ys->Q (.ref l) H'
theorem Je0 (F:FunD K "gaps" "Thing.gaps" BaN dV f fd) (T:Txt K mg Ad) (Bcf:MCal P w K mg base 1 "plain" (IsGap Ad) ["self"] (JcC K Ad)):FnOk P w K mg base (CX1 P w) 2 f fd ["self"] (Jbq K Ad):=by
 refine F.okn Jfa (by subst_eqs) (fun a1 A S s H vs Q E hr h=>?_)
 obtain ⟨x,ls,gs,rfl,h⟩:=h;refine ⟨_,(Jai (Jaq (Jgu (Jd9 (own:=["gap"]) (cs:=[]) (cl:=[]) rfl (Jim (Jas (pv 0) rfl)) (fun _ _ _ _=>(Jap 0 (show [("gap" : Str)].Nodup by decide))) (fun _ _ _ _=>(Bcf.m0 hr ⋯ passF (pv 0))) rfl ⋯ rfl ⋯ hcl0 (hhas0 ⋯) hcs0)))),?_⟩;obtain ⟨⟨dx,d1,a,d3,k1,m,k3,hx,_,_,l,b2,_⟩,hl,k⟩:=h;have tc:=T.Ba9 _ rfl;have sl:(1000:Nat)<=sizeLine:=by decide
 have lk:=b2.length;show tRet _ _ [some (.ref x)] H;mleave;refine ⟨a,m,l,x,_,dx,_, .ref a,rfl,hx,tc.cls,tc.n2,rfl,a,m,rfl,l,fun I=>?_⟩;generalize uf:upd H a (.frz I (.dK m))=H1;mleave;have f1:H1 a=some (.frz I (.dK m)):=by rw [<- uf,Jaj]
 have o1:∀ b u,b≠a->H b=some u->H1 b=some u:=fun b u R h=>by rw [<- uf,Jag R];exact h
 refine CompJ.vals (fun i n M=>M a=some (.frz I (.dK m))/\(∀ b u,b≠a->H b=some u->M b=some u)/\All2 (fun (g:GD) v=>TV K M g.td v) (gs.take i) n) ⟨f1,o1,rfl⟩ (fun i n M hi z=>⟨z.1,by have:=z.2.2.length;rw [length_take] at this;ac_nf⟩) ?_ ?_
 ·rintro i v n G hv ⟨D,C,L⟩;simpa only [length_singleton,List.replicate,JaA,map_cons,map_nil,Option.join_some];obtain ⟨p,hp,q,dq,J,O,rfl,hq,hz,hm⟩:=b2.2.at_ hv;have U:∀ {b:Addr} {u:HO},H b=some u->isTI u=true->G b=some u:=fun {b u} h t=>C _ _ (fun z=>by rw [z,l] at h;cases h;simp [isTI,isTF] at t) h;have Z:SameT H G:=fun b u t h=>U h (by cases u <;> first | exact t | (simp [isTF] at t));refine ⟨q,_,dq,_,rfl,U hq rfl,rfl,rfl,q,dq,_,_,_,J,O,rfl,U hq rfl,fun r B d X=>?_⟩;refine ⟨d _ _ D,fun b u R h=>d _ _ (C _ _ R h),?_⟩;rw [take_succ,hp];exact (L.mono (P':=fun (g:GD) v=>TV K B g.td v) fun _ _ z=>z.sameT d.t).append (.one ⟨r,J,O,rfl,SqT.of X,(hz.sameT Z).sameT d.t,(hm.sameT Z).sameT d.t⟩)
 ·rintro n G ⟨D,C,L⟩;rw [take_of_length_le ∅] at L;rename_i r j a0 G B d X;mleave;refine ⟨I,m,d _ _ D,?_⟩;generalize y:upd B a (.dK m)=N;mleave;have nr:r≠a:=fun z=>by rw [z,D] at j;cases j
  have e4:N r=some (.lst n):=by rw [<- y,Jag nr];exact X
  have W:Same H N:=fun b u h=>by
   by_cases c:b=a
   ·subst c;rw [l] at h;cases h;rw [<- y,Jaj]
   ·rw [<- y,Jag c];exact d _ _ (C _ _ c h)
  have f3:=d _ _ D;have Y:∀ {b:Addr} {xs:List V},SqT K B b xs->SqT K N b xs:=fun {b xs} h=>by
   rcases h with (h | ⟨o,h⟩) | h
   ·exact .inl (.inl (by rw [<- y,Jag (fun z=>by rw [z,f3] at h;cases h)];exact h))
   ·exact .inl (.inr ⟨o,by rw [<- y,Jag (fun z=>by rw [z,f3] at h;cases h)];exact h⟩)
   ·exact .inr h
  have hn:H r=none:=by
   cases e:H r with
   | none=>rfl
   | some o=>rw [C _ _ nr e] at j;cases j
  exact k r n N W hn e4 ((L.mono (P':=fun (g:GD) v=>TV K B g.td v) fun _ _ z=>z.sameT d.t).mono fun p v ⟨b,J,O,h1,h2,⟨pz,h3,h4⟩,⟨pm,h5,h6⟩⟩=>⟨b,J,O,h1,Y h2,⟨pz,h3,Y h4⟩,⟨pm,h5,Y h6⟩⟩)
abbrev BaY:Stmt:=inClass (top 49) 3
theorem JfU:Jan ["self","name"] ["self","name"] (Jae BaY):=by bv_decide
def Jb4 (K:W.Frag) (Ad:Adr):Sp:=fun vs H Q E=>∃ (x:Addr) (z:Str) (ls:List PD) (gs:List GD),vs=[.ref x, .str z]/\TK K Ad H x ls gs/\(z∉gs.map (·.nm)->E (.ref Ad.NoName) none H)/\(∀ g∈gs,g.nm=z->∀ l xs w H',Same H H'->H l=none->H' l=some (.lst xs)->All2 (CV H') w xs->JaV ls g.st w g.en->(w.map (·.1)).Nodup->Q (.ref l) H')
theorem JfK (F:FunD K "way" "Thing.way" BaY dV f fd) (T:Txt K mg Ad)  : FnOk P w K mg base (CX1 P w) 1 f fd ["self","name"] (Jb4 K Ad):=by
 refine F.okx JfU (fun M H Q E h=>?_) (fun J A j s H M Q E S h=>?_)
 ·obtain ⟨x,z,C,r,rfl,_⟩:=h;rfl
 obtain ⟨x,z,C,r,rfl,h⟩:=h;have e:=S.units;refine ⟨_,(Jab (ps_if (Jeb (Jc9 (hu1 e) (pv 1) (Jas (pv 0) rfl)) (by with_unfolding_all rfl)) (Jai (JgV PySem.F.excBase_ValueError T.BbS rfl T.BdD (Jaa Jbk Jad)))
   Jax) (Jai (Jaq (Jd8 Jg8 rfl T.Bds Jf5 (Jaa (JbU (hu1 e) (Jas (pv 0) rfl) (pv 1) (fun _ _=>rfl)) Jad))))),?_⟩
 clear e;obtain ⟨⟨p,d1,d2,d,Y,k2,k3,u,U,b1,G,Z,a,y⟩,R,k⟩:=h;have b:=T.Ba9 _ rfl;show tSeq _ _ _ [some (.ref x),some (.str z)] H;mleave;refine ⟨x,_,p,_, .ref d,rfl,u,b.cls,b.n3,rfl,?_⟩;refine ⟨d,_,rfl,DGet.k (k:=Sum.inr z) a,?_⟩;rw [y.val];by_cases c:z∈r.map (·.nm)
 ·rw [decide_eq_true c];mleave;obtain ⟨g,v,L,I,X,W,q,w,rfl,i,o,D,n⟩:=y.some c;refine ⟨x,_,p,_, .ref d,rfl,u,b.cls,b.n3,rfl,?_⟩;refine ⟨d,_,rfl,by rw [<- X];exact DGet.k (k:=Sum.inr z) a,?_⟩;refine ⟨W,q,rfl, .inl (SqL.of i),?_⟩;rename_i l m N H O B V;mleave;exact k g L I l q w O B m V (o.mono fun _ _ z=>z.sameT B.t) D n
 ·rw [decide_eq_false c];mleave;exact ⟨by show 1<=sizeLine;decide,R c⟩
abbrev Bat:Stmt:=inClass (top 49) 4
theorem Ja4:Jan ["self","name","total","part","forward","size"] ["self","name"] (Jae Bat):=by bv_decide
def JbY (K:W.Frag) (Ad:Adr):Sp:=fun vs H Q E=>∃ (x:Addr) (z:Str) (ls:List PD) (gs:List GD),vs=[.ref x, .str z]/\TK K Ad H x ls gs/\(z∉gs.map (·.nm)->E (.ref Ad.NoName) none H)/\(∀ g∈gs,g.nm=z->∃ pl:Str->Fr2,(∀ u∈gs,u.nm=z->u=g)/\(∀ p∈ls, ∀ q∈ls,p.nm=q.nm->p=q)/\(∀ p∈ls,POk p)/\(∀ f,FB 302 161 (pl f))/\(∀ p∈ls,vl (pl p.en)=vl (pl p.st)+vl p.sz)/\∀ v H',Same H H'->FrV K H' v (mid pl g).1 (mid pl g).2->Q v H')
theorem Jd3 (F:FunD K "middle" "Thing.middle" Bat dV f fd) (T:Txt K mg Ad) (Bdr:MCal P w K mg base 1 "way" (Ja9 Ad) ["self","name"] (Jb4 K Ad)) (BcC:Cal P w K mg base 2 "plus" ["one","other"] [] (Jfj K)) (Bbg:Cal P w K mg base 3 "minus" ["one","other"] [] (Jdh K)):FnOk P w K mg base (CX1 P w) 4 f fd ["self","name"] (JbY K Ad):=by
 refine F.okx Ja4 (fun vs H Q E h=>?_) (fun a5 A O s H vs Q E N h=>?_)
 ·obtain ⟨x,z,J,gs,rfl,_⟩:=h;rfl
 obtain ⟨x,z,J,gs,rfl,h⟩:=h;have hu:=N.units;refine ⟨_,(Jab (Jak 2 Ja4.nd (JcR (v:=.ref _) rfl T.Bc7 T.Bc8)) (Jab (Ja8 PassesOwn.leaving rfl (pi_U (Bdr.m N ⋯ pass1 (pv 0) (Jaa (pv 1) Jad))) (JeE rfl (JaJ (Jap 3 Ja4.nd) (JaJ (Jap 4 Ja4.nd) JcS))) (Jab (Jak 5 Ja4.nd (Jas (JbU (hu1 hu) (Jas (pv 0) rfl) (pv 3) (fun _ _=>rfl)) rfl)) (Jai (Jak 2 Ja4.nd (JgS (Jbh (pv 4)) (BcC.ev N ⋯ rfl pass1 (Jaa (pv 2) (Jaa (pv 5) Jad))) (Bbg.ev N ⋯ rfl pass1 (Jaa (pv 2) (Jaa (pv 5) Jad)))))))) (Jai (Jaq (pv 2))))),?_⟩
 clear hu;obtain ⟨ht,kn,k⟩:=h;obtain ⟨dx,d1,d2,d3,k1,k2,k3,hx,a2,b1,_⟩:=id ht;have tc:=T.Ba9 _ rfl;have pc:=T.BcA _ rfl;show tSeq _ _ _ [some (.ref x),some (.str z),none,none,none,none] H;mleave;refine ⟨x,_,dx,_,rfl,hx,rfl,rfl,x,z,J,gs,rfl,ht,kn,fun g hg hz l xs w H1 S1 a3 e1 D hw _=>?_⟩;obtain ⟨c,a4,hN,hP,n,hV,k⟩:=k g hg hz;have lg:=JkC hV hw;have lx:=D.length;refine ⟨l,rfl,ForA.byL (xs:=xs) (SqL.of e1) (fun i σ Z=>i<=xs.length/\∃ (v3 X v5:Option V) (t:V) (f:Str),σ=[some (.ref x),some (.str z),some t,v3,X,v5]/\Same H1 Z/\FrV K Z t (addF (c f) (negF (c g.st))).1 (addF (c f) (negF (c g.st))).2/\Legs J c f (w.drop i) g.en) ⟨Nat.zero_le _,none,none,none, .ref Ad.ZERO,g.st,rfl,Same.refl _,by rw [Ji8 (n _)];exact ⟨Ad.ZERO,rfl,T.Bc9 _⟩,lg⟩ (fun i σ Z q=>by obtain ⟨_,_,_,_,_,_,_,q,_⟩:=q;exact SqL.of (q _ _ e1)) ?_ ?_⟩
 ·rintro i y σ S hy ⟨hi,v3,X,v5,t,f,rfl,u,L,B⟩;have li:i<xs.length:=(List.getElem?_eq_some_iff.mp hy).1;obtain ⟨pr,C,b,rfl,hb⟩:=D.at_ hy;have G:i<w.length:=by ac_nf
  have R:w.drop i=pr::w.drop (i+1):=by
   rw [List.drop_eq_getElem_cons G];rw [List.getElem?_eq_getElem G] at C;rw [Option.some.inj C]
  rw [R] at B;have d:=S1.trans u;obtain ⟨p,o,j,rfl,hp,hv,I⟩:∃ p o j,pr=(p.nm,o)/\p∈J/\vl (c j)=vl (c f)+vl (sgn o p.sz)/\Legs J c j (w.drop (i+1)) g.en:=by
   cases B with
   | cons h1 h2 h3=>exact ⟨_,_,_,rfl,h1,h2,h3⟩
  mleave;refine ⟨b,_,rfl,SqT.of (u _ _ hb),rfl,?_⟩;mleave;obtain ⟨q,v,hq,W,U,qa,dq,M,vm,rfl,a0,a1,hm⟩:=b1.some (z:=p.nm) (mem_map.mpr ⟨p,hp,rfl⟩);have eq:=hN q hq p hp W;subst eq;refine ⟨x,_,dx,_, .ref d1,rfl,d _ _ hx,tc.cls,tc.n1,rfl,?_⟩;refine ⟨d1,_,rfl,by rw [<- U];exact DGet.k (k:=Sum.inr q.nm) (d _ _ a2),?_⟩;refine ⟨qa,_,dq,_,M,rfl,d _ _ a0,pc.cls,pc.n4,rfl,?_⟩;have a:=(hP q hq).z;have e:FB 464 322 (addF (c f) (negF (c g.st))):=FB.add (n _) (n _).neg ⋯ ⋯ ⋯;have fz:FrV K S M q.sz.1 q.sz.2:=a1.same d;have st:=JkB (n f) (n j) (z:=sgn o q.sz) (by cases o;exact (L2.FOk.fb a).neg;exact L2.FOk.fb a) (n g.st) hv;mleave;cases o with
  | true=>
   mleave;refine ⟨t,M,_,_,_,_,rfl,L,fz,e.s1.mono ⋯,e.s2.mono ⋯,a.s1.mono ⋯,a.s2.mono ⋯,e.b1,a.b1,e.g1,a.g1,fun r H3 Y e3=>?_⟩;exact ⟨li,_,_,_, .ref r,j,rfl,u.trans Y,by rw [<- st];exact FrV.of e3,I⟩
  | false=>
   mleave;refine ⟨t,M,_,_,_,_,rfl,L,fz,e.s1.mono ⋯,e.s2.mono ⋯,a.s1.mono ⋯,a.s2.mono ⋯,e.b1,a.b1,e.g1,a.g1,fun r H3 Y e3=>?_⟩;refine ⟨li,_,_,_, .ref r,j,rfl,u.trans Y,?_,I⟩;rw [<- st];refine FrV.of ?_;rw [e3];show _=some (HO.tup [.int (Mth.top (_*q.sz.2 + -q.sz.1*_) _), .int (Mth.bot (_*q.sz.2 + -q.sz.1*_) _)]);rw [Int.neg_mul, <- Int.sub_eq_add_neg];rfl
 ·rintro σ S ⟨hi,v3,X,v5,t,f,rfl,u,L,B⟩;rw [List.drop_eq_nil_of_le ∅] at B;cases B;mleave;exact k t S (S1.trans u) L
abbrev BaO:Stmt:=inClass (top 49) 5
theorem Jbl:Jan ["self","name","middle","gap","above","below"] ["self","name"] (Jae BaO):=by bv_decide
def Jcr (K:W.Frag) (Ad:Adr):Sp:=fun vs H Q E=>∃ (x:Addr) (z:Str) (ls:List PD) (gs:List GD),vs=[.ref x, .str z]/\TK K Ad H x ls gs/\(z∉gs.map (·.nm)->E (.ref Ad.NoName) none H)/\(∀ g∈gs,g.nm=z->∃ pl:Str->Fr2,(∀ u∈gs,u.nm=z->u=g)/\(∀ p∈ls, ∀ q∈ls,p.nm=q.nm->p=q)/\(∀ p∈ls,POk p)/\(∀ f,FB 302 161 (pl f))/\(∀ p∈ls,vl (pl p.en)=vl (pl p.st)+vl p.sz)/\TOk g.td/\∀ v H',Same H H'->FrV K H' v (roomF pl g).1 (roomF pl g).2->Q v H')
theorem Je1 (F:FunD K "room" "Thing.room" BaO dV f fd) (T:Txt K mg Ad) (BcJ:MCal P w K mg base 4 "middle" (Ja9 Ad) ["self","name"] (JbY K Ad)) (Bbg:Cal P w K mg base 3 "minus" ["one","other"] [] (Jdh K)) (BaJ:Cal P w K mg base 1 "under" ["one","other"] [] (Jcx K)):FnOk P w K mg base (CX1 P w) 5 f fd ["self","name"] (Jcr K Ad):=by
 refine F.okx Jbl (fun vs H Q E h=>?_) (fun a0 A I s H vs Q E n h=>?_)
 ·obtain ⟨x,z,O,gs,rfl,_⟩:=h;rfl
 obtain ⟨x,z,O,gs,rfl,h⟩:=h;have W:=n.units;refine ⟨_,(Jab (Jak 2 Jbl.nd (BcJ.m n ⋯ pass1 (pv 0) (Jaa (pv 1) Jad))) (Jab (Jak 3 Jbl.nd (JbU (hu1 W) (Jas (pv 0) rfl) (pv 1) (fun _ _=>rfl))) (Jab (Jak 4 Jbl.nd (Bbg.ev n ⋯ rfl pass1 (Jaa (Jas (pv 3) rfl) (Jaa (pv 2) Jad)))) (Jab (Jak 5 Jbl.nd (Bbg.ev n ⋯ rfl pass1 (Jaa (pv 2) (Jaa (Jas (pv 3) rfl) Jad)))) (Jai (Jaq (JgS (Jbh (BaJ.ev n ⋯ rfl pass1 (Jaa (pv 4) (Jaa (pv 5) Jad)))) (pv 4) (pv 5)))))))),?_⟩
 clear W;obtain ⟨ht,kn,k⟩:=h;obtain ⟨N,d1,X,d3,k1,k2,k3,hx,a1,b1,C,b2,_⟩:=id ht;have S:=T.Ba9 _ rfl;have u:=T.Bdt _ rfl;show tSeq _ _ _ [some (.ref x),some (.str z),none,none,none,none] H;mleave;refine ⟨x,_,N,_,rfl,hx,rfl,rfl,x,z,O,gs,rfl,ht,kn,fun g Y R=>?_⟩;obtain ⟨pl,j,hN,hP,hB,hV,hT,k⟩:=k g Y R;refine ⟨pl,j,hN,hP,hB,hV,fun v H1 r fm=>?_⟩;have b:=JlM (g:=g) hB;unfold roomF at k;generalize mid pl g=m at *;mleave;obtain ⟨a,v',G,D,J,U,V,l,q,rfl,p,L,M⟩:=b2.some (z:=z) (mem_map.mpr ⟨g,Y,R⟩);have eg:=j a G D;subst eg;have o:=hT.lo _ rfl;have e:=hT.hi _ rfl;refine ⟨x,_,N,_, .ref X,rfl,r _ _ hx,S.cls,S.n2,rfl,?_⟩;refine ⟨X,_,rfl,by rw [<- J];exact DGet.k (k:=Sum.inr z) (r _ _ C),?_⟩;mleave;refine ⟨U,_,V,_,q,rfl,r _ _ p,u.cls,u.n5,rfl,?_⟩;refine ⟨q,v,_,_,_,_,rfl,M.same r,fm,e.s1.mono ⋯,e.s2.mono ⋯,b.s1.mono ⋯,b.s2.mono ⋯,e.b1,b.b1,e.g1,b.g1,fun r1 H2 S2 e2=>?_⟩;mleave;have d:=r.trans S2;refine ⟨U,_,V,_,l,rfl,d _ _ p,u.cls,u.n4,rfl,?_⟩;refine ⟨v,l,_,_,_,_,rfl,fm.same S2,L.same d,b.s1.mono ⋯,b.s2.mono ⋯,o.s1.mono ⋯,o.s2.mono ⋯,b.b1,o.b1,b.g1,o.g1,fun r2 t y e3=>?_⟩;mleave;have ea:addF a.hi (negF m)=(Mth.top (a.hi.1*m.2-m.1*a.hi.2) (a.hi.2*m.2),Mth.bot (a.hi.1*m.2-m.1*a.hi.2) (a.hi.2*m.2)):=by
  unfold addF negF;dsimp only;rw [Int.neg_mul, <- Int.sub_eq_add_neg]
 have eb:addF m (negF a.lo)=(Mth.top (m.1*a.lo.2-a.lo.1*m.2) (m.2*a.lo.2),Mth.bot (m.1*a.lo.2-a.lo.1*m.2) (m.2*a.lo.2)):=by
  unfold addF negF;dsimp only;rw [Int.neg_mul, <- Int.sub_eq_add_neg]
 have fa:FrV K t (.ref r1) (addF a.hi (negF m)).1 (addF a.hi (negF m)).2:=by rw [ea];exact FrV.of (y _ _ e2)
 have Z:FrV K t (.ref r2) (addF m (negF a.lo)).1 (addF m (negF a.lo)).2:=by rw [eb];exact FrV.of e3
 have ba:=FB.add' (L2.FOk.fb e) b.neg;have bb:=FB.add' b (L2.FOk.fb o).neg;generalize addF a.hi (negF m)=A at *;generalize addF m (negF a.lo)=B at *;refine ⟨.ref r1, .ref r2,A.1,A.2,B.1,B.2,rfl,fa,Z,ba.s1.mono ⋯,ba.s2.mono ⋯,bb.s1.mono ⋯,bb.s2.mono ⋯,?_⟩;mleave;by_cases c:lessF A B=true
 ·rw [if_pos c] at k;rw [if_pos (show decide (A.1*B.2<B.1*A.2)=true from c)];mleave;exact k _ t (d.trans y) fa
 ·rw [if_neg c] at k;rw [if_neg (show ¬ decide (A.1*B.2<B.1*A.2)=true from c)];mleave;exact k _ t (d.trans y) Z
abbrev Bal:Stmt:=inClass (top 17) 0
theorem Jbu:Jan ["self","numbers","number","factor"] ["self","numbers"] (Jae Bal):=by bv_decide
def Jbx (K:W.Frag) (Ad:Adr):Sp:=fun vs H Q E=>∃ (x dx a:Addr) (xs:List V) (ns:List Fr2),vs=[.ref x, .ref a]/\H x=some (.ins Ad.Scale dx [])/\H a=some (.lst xs)/\All2 (FLV K H) ns xs/\ns.length<=28/\(∀ n∈ns,1<=n.2/\Mth.Sz 70 n.2)/\∀ b fs fl H',H' x=some (.ins Ad.Scale dx [("bottom", .int b),("factors", .ref fl)])->H fl=none->H' fl=some (.lst (fs.map V.int))->(∀ c u,c≠x->H c=some u->H' c=some u)->Scl b fs->Mth.Sz 2000 b->fs.length<=30->Q .non H'
theorem Jdp (F:FunD K "__init__" "Scale.__init__" Bal dV f fd) (T:Txt K mg Ad) (Bac:Cal P w K mg base 1 "common_divisor" ["one","other"] [] (JaB)):FnOk P w K mg base (CX1 P w) 2 f fd ["self","numbers"] (Jbx K Ad):=by
 refine F.okn Jbu (by subst_eqs) (fun a4 A a0 s H vs Q E hr h=>?_)
 obtain ⟨x,j,a,xs,ns,rfl,h⟩:=h;refine ⟨_,(Jab (Ja6 (pv 0) Jac rfl) (Jab (Ja6 (pv 0) (Jbg Jad) rfl) (Jai (Ja8 PassesOwn.never rfl (pi_U (pv 1)) (Jap 2 Jbu.nd) (Jab (Jak 3 Jbu.nd (pe_op Jar (pe_ix ix_U (pv 2) Jac) (Bac.ev hr ⋯ rfl passF (Jaa (Jas (pv 0) rfl) (Jaa (pe_ix ix_U (pv 2) Jac) Jad))))) (Jai (ps_if (JaC JfO (pv 3) Jac (Jaw _)) (Jab (Ja6 (pv 0) (pe_op JaL (Jas (pv 0) rfl) (pv 3)) rfl) (Jai (Jba (pe_bm PySem.F.plainAttrs_list PySem.F.slot_list_append PySem.F.type_list_append Ja3 (Jas (pv 0) rfl) (Jaa (pv 3) Jad) (hs:=by exact Jaf rfl)))))
   Jax))))))),?_⟩
 obtain ⟨e0,O,hN,hl,a2,k⟩:=h;have e:=T.Bcc Ad.Scale rfl;have sl:(1000:Nat)<=sizeLine:=by decide
 have lx:=hN.length;show tSeq _ _ _ [some (.ref x),some (.ref a),none,none] H;mvcgen;refine ⟨x,_,j,_,rfl,e0,e.cls,e.n1,by simp,?_⟩;generalize Z:upd H x _=H1;mvcgen;have e1:H1 x=some (.ins Ad.Scale j [("bottom", .int 1)]):=by rw [<- Z];exact Jaj.trans rfl
 have o1:∀ b,b≠x->H1 b=H b:=fun b hb=>by rw [<- Z,Jag hb]
 mvcgen;refine ⟨len0,?_⟩;rename_i d l a3 H1 H2 S e2;mvcgen;mvcgen;refine ⟨x,_,j,_,rfl,S _ _ e1,e.cls,e.n2,by simp,?_⟩;generalize R:upd H2 x _=M;mvcgen;have e3:M x=some (.ins Ad.Scale j [("bottom", .int 1),("factors", .ref d)]):=by rw [<- R];exact Jaj.trans rfl
 have Y:d≠x:=fun z=>by rw [z,e1] at l;cases l
 have f3:M d=some (.lst []):=by rw [<- R,Jag Y];exact e2
 have o3:∀ c u,c≠x->H c=some u->M c=some u:=fun c u I h=>by rw [<- R,Jag I];exact S _ _ (by rw [o1 c I];exact h)
 have o:H d=none:=by rw [<- o1 d Y];exact l
 have C:a≠x:=fun z=>by rw [z,e0] at O;cases O
 have a1:SameT H M:=(SameT.put Z e0 rfl).trans (S.t.trans (SameT.put R (S _ _ e1) rfl));mvcgen;refine ⟨a,rfl,ForA.byL (xs:=xs) (SqL.of (o3 _ _ C O)) (fun i σ D=>i<=xs.length/\∃ (v2 v3:Option V) (b:Int) (m:List Int),σ=[some (.ref x),some (.ref a),v2,v3]/\D x=some (.ins Ad.Scale j [("bottom", .int b),("factors", .ref d)])/\D d=some (.lst (m.map V.int))/\(∀ c u,c≠x->H c=some u->D c=some u)/\SameT H D/\Scl b m/\Mth.Sz (1+70*i) b/\m.length<=i) ⟨Nat.zero_le _,none,none,1,[],rfl,e3,f3,o3,a1,Scl.nil, .lit ⋯ ⋯,Nat.le_refl _⟩ (fun i σ D q=>by obtain ⟨_,_,_,_,_,_,_,_,q,_⟩:=q;exact SqL.of (q _ _ C O)) ?_ ?_⟩
 ·rintro i y σ G hy ⟨hi,v2,v3,b,m,rfl,p,X,U,L,hs,v,lf⟩;have li:=(List.getElem?_eq_some_iff.mp hy).1;obtain ⟨n,hn,J⟩:=hN.at_ hy;have J:FrV K G y n.1 n.2:=FrV.sameT L J;have r:=a2 n (List.mem_of_getElem? hn);have v:Mth.Sz 2000 b:=v.mono ∅;have gp:=Mth.g_pos (a:=b) (b:=n.2) ∅;have gd:=Mth.JbP b n.2;have gl:=Mth.g_le (a:=b) (b:=n.2) ∅;have d1:DivOk (Mth.g b n.2):=divOk (n:=70) ∅ (Nat.lt_of_le_of_lt (by ac_nf:(Mth.g b n.2).natAbs<=n.2.natAbs) r.2);have f1:=Mth.Jb3 gd ∅ r.1;have sf:Mth.Sz 70 (n.2.fdiv (Mth.g b n.2)):=r.2.fdiv gd ∅;mvcgen;refine ixF1 J ?_;refine ⟨x,_,j,_, .int b,rfl,p,e.cls,e.n1,rfl,?_⟩;refine ixF1 J ?_;mvcgen;refine ⟨_,_,rfl,?_⟩;mvcgen;refine ⟨d1,?_⟩;generalize n.2.fdiv (Mth.g b n.2)=f at *;mvcgen;by_cases c:1<f
  ·rw [if_pos (by simpa using c)];mvcgen;try simpa only [y4fy,y89y]
   refine ⟨x,_,j,_, .int b,rfl,p,e.cls,e.n1,rfl,?_⟩;try simpa only [y4fy,y89y]
   refine ⟨mulOk v sf,?_⟩;refine ⟨x,_,j,_,rfl,p,e.cls,e.n1,by simp,?_⟩;generalize W:upd G x _=B;mvcgen;have e5:B x=some (.ins Ad.Scale j [("bottom", .int (b*f)),("factors", .ref d)]):=by rw [<- W];exact Jaj.trans rfl
   have f5:B d=some (.lst (m.map V.int)):=by rw [<- W,Jag Y];exact X
   have T5:SameT G B:=SameT.put W p rfl;try simpa only [y4fy,y89y]
   refine ⟨x,_,j,_, .ref d,rfl,e5,e.cls,e.n2,rfl,?_⟩;refine ⟨.inl ⟨rfl,_,SqL.of f5⟩,?_⟩;mvcgen;refine ⟨d,_,_,rfl,rfl,f5,by rw [length_map];ac_nf,?_⟩;generalize N:upd B d _=H6;mvcgen;have f6:=putE N;have T6:SameT B H6:=SameT.put N f5 rfl;mvcgen;refine ⟨li,_,_,b*f,m++[f],rfl,by rw [<- N,Jag (Ne.symm Y)];exact e5,by rw [f6];simp,fun c u I h=>by rw [<- N,Jag (Jah h o), <- W,Jag I];exact U c u I h,L.trans (T5.trans T6),hs.snoc ∅,?_,by simp;ac_nf⟩;have:=(show Mth.Sz (1+70*i) b by assumption).mul sf;exact this.mono ∅
  ·rw [if_neg (by simpa using c)];mvcgen;mvcgen;exact ⟨li,_,_,b,m,rfl,p,X,U,L,hs,(show Mth.Sz (1+70*i) b by assumption).mono ∅,by ac_nf⟩
 ·rintro σ G ⟨hi,v2,v3,b,m,rfl,p,X,U,L,hs,v,lf⟩;mvcgen;exact k b m d G p o X U hs (v.mono ∅) ∅
abbrev Bau:Stmt:=inClass (top 17) 1
theorem JaS:Jan ["self","number","top","rest","factor","shared"] ["self","number"] (Jae Bau):=by bv_decide
def Jbp (K:W.Frag) (Ad:Adr):Sp:=fun vs H Q E=>∃ (x:Addr) (v:V) (n:Fr2) (b:Int) (fs:List Int),vs=[.ref x,v]/\SCK Ad H x b fs/\FrV K H v n.1 n.2/\FB 200 56 n/\∀ p (t:Fr2) H',Same H H'->H' p=some (.tup [.int t.1, .int t.2])->LInv n b t->Q (.ref p) H'
theorem Jd2 (F:FunD K "lifted" "Scale.lifted" Bau dV f fd) (T:Txt K mg Ad) (Bac:Cal P w K mg base 1 "common_divisor" ["one","other"] [] (JaB)):FnOk P w K mg base (CX1 P w) 2 f fd ["self","number"] (Jbp K Ad):=by
 refine F.okn JaS (by subst_eqs) (fun a0 A J s H vs Q E hr h=>?_)
 obtain ⟨x,v,n,b,d,rfl,h⟩:=h;have Y:=hr.units;refine ⟨_,(Jab (ps_if (JaC (JbJ Y) (pe_op Jay (Jas (pv 0) rfl) (pe_ix ix_U (pv 1) Jac)) Jac (Jaw _)) (Jai (Jaq (JaO (Jaa (pe_op JaL (pe_ix ix_U (pv 1) Jac) (pe_op Jar (Jas (pv 0) rfl) (pe_ix ix_U (pv 1) Jac))) (Jaa Jac Jad)))))
   Jax) (Jab (Jak 2 JaS.nd (pe_ix ix_U (pv 1) Jac)) (Jab (Jak 3 JaS.nd (pe_ix ix_U (pv 1) Jac)) (Jab (Ja8 PassesOwn.never rfl (pi_U (Jas (pv 0) rfl)) (Jap 4 JaS.nd) (Jab (Jak 5 JaS.nd (Bac.ev hr ⋯ rfl passF (Jaa (pv 3) (Jaa (pv 4) Jad)))) (Jab (Jak 2 JaS.nd (pe_op JaL (pv 2) (pe_op Jar (pv 4) (pv 5)))) (Jai (Jak 3 JaS.nd (pe_op Jar (pv 3) (pv 5))))))) (Jai (Jaq (JaO (Jaa (pv 2) (Jaa (pv 3) Jad))))))))),?_⟩
 clear Y;obtain ⟨⟨D,X,M,hf,u,G,a1⟩,o,m,k⟩:=h;have j:=T.Bcc Ad.Scale rfl;have sl:(1000:Nat)<=sizeLine:=by decide
 have R:=m.b1;have b1:=u.b1;have d1:DivOk n.2:=divOk (n:=56) ∅ m.s2;show tSeq _ _ _ [some (.ref x),some v,none,none,none,none] H;mleave;refine ⟨x,_,D,_, .int b,rfl,M,j.cls,j.n1,rfl,?_⟩;refine ixF1 o ?_;mleave;refine ⟨by ac_nf,?_⟩;by_cases c:b.fmod n.2=0
 ·rw [if_pos (by simpa using c)];mleave;mleave;refine ixF0 o ?_;refine ⟨x,_,D,_, .int b,rfl,M,j.cls,j.n1,rfl,?_⟩;refine ixF1 o ?_;mleave;have dv:n.2∣b:=by
   rw [Int.fmod_eq_emod_of_nonneg _ ∅] at c;exact Int.dvd_of_emod_eq_zero c
  refine ⟨d1,mulOk m.s1 (G.fdiv dv R),len2,?_⟩;rename_i p I N H L U S;mleave;exact k p (n.1*b.fdiv n.2,1) L U S (LInv.all R c)
 ·rw [if_neg (by simpa using c)];mleave;mleave;refine ixF0 o ?_;mleave;refine ixF1 o ?_;mleave;refine ⟨x,_,D,_, .ref X,rfl,M,j.cls,j.n2,rfl,?_⟩;refine ⟨X,rfl,ForA.byL (xs:=d.map V.int) (SqL.of hf) (fun i σ z=>i<=(d.map V.int).length/\z=H/\∃ (t:Fr2) (W O:Option V),σ=[some (.ref x),some v,some (.int t.1),some (.int t.2),W,O]/\LInv n (prodI (d.take i)) t) ⟨Nat.zero_le _,rfl,n,none,none,rfl,LInv.nil R m.g1⟩ (fun i σ z q=>by rw [q.2.1];exact SqL.of hf) ?_ ?_⟩
  ·rintro i y σ z l ⟨hi,rfl,t,W,O,rfl,r⟩;have C:=(List.getElem?_eq_some_iff.mp l).1;rw [length_map] at C;rw [List.getElem?_map,List.getElem?_eq_getElem C] at l;obtain ⟨f,e⟩:∃ f,f=d[i]:=⟨_,rfl⟩;rw [<- e] at l;have l:y=.int f:=(Option.some.inj l).symm;subst l;have fm:f∈d:=by rw [e];exact List.getElem_mem C
   have f1:=u.f1 f fm;have B:Mth.Sz 2000 f:=sz_le G ∅ (u.mem fm);have tk:=u.take i;have tb:=r.fb m (sz_le G ∅ tk.2);have gp:=Mth.g_pos (a:=t.2) (b:=f) ∅;have gl:=Mth.g_le (a:=t.2) (b:=f) ∅;have Z:DivOk (Mth.g t.2 f):=divOk (n:=2000) ∅ (Nat.lt_of_le_of_lt (by ac_nf:(Mth.g t.2 f).natAbs<=f.natAbs) B);have qf:=B.fdiv (Mth.JbP t.2 f) ∅;have st:=r.step f1;have et:prodI (d.take (i+1))=prodI (d.take i)*f:=by
    rw [take_succ,List.getElem?_eq_getElem C, <- e];exact Jch f _
   mleave;refine ⟨_,_,rfl,?_⟩;mleave;refine ⟨Z,mulOk tb.s1 qf,?_⟩;mleave;refine ⟨Z,?_⟩;mleave;exact ⟨by rw [length_map];ac_nf,(t.1*f.fdiv (Mth.g t.2 f),t.2.fdiv (Mth.g t.2 f)),_,_,rfl,by rw [et];exact st⟩
  ·rintro σ z ⟨hi,rfl,t,W,O,rfl,r⟩;rw [take_of_length_le (by rw [length_map];ac_nf),u.pr] at r;mleave;refine ⟨len2,?_⟩;rename_i p I N z L U S;mleave;exact k p t L U S r
abbrev Baq:Stmt:=inClass (top 17) 2
theorem JaM:Jan ["self","number","top","bottom","factor","shared"] ["self","number"] (Jae Baq):=by bv_decide
def JbM (K:W.Frag) (Ad:Adr):Sp:=fun vs H Q E=>∃ (x:Addr) (v:V) (n:Fr2) (b:Int) (fs:List Int),vs=[.ref x,v]/\SCK Ad H x b fs/\FrV K H v n.1 n.2/\FB 3000 1000 n/\∀ p (t:Fr2) H',Same H H'->H' p=some (.tup [.int t.1, .int t.2])->LoInv n b t->Q (.ref p) H'
theorem JdE (F:FunD K "lowered" "Scale.lowered" Baq dV f fd) (T:Txt K mg Ad) (Bac:Cal P w K mg base 1 "common_divisor" ["one","other"] [] (JaB)):FnOk P w K mg base (CX1 P w) 2 f fd ["self","number"] (JbM K Ad):=by
 refine F.okn JaM (by subst_eqs) (fun R A z s H W Q E hr h=>?_)
 obtain ⟨x,v,n,b,c,rfl,h⟩:=h;refine ⟨_,(Jab (Jak 2 JaM.nd (pe_ix ix_U (pv 1) Jac)) (Jab (Jak 3 JaM.nd (pe_ix ix_U (pv 1) Jac)) (Jab (Ja8 PassesOwn.never rfl (pi_U (Jas (pv 0) rfl)) (Jap 4 JaM.nd) (Jab (Jak 5 JaM.nd (Bac.ev hr ⋯ rfl passF (Jaa (pv 2) (Jaa (pv 4) Jad)))) (Jab (Jak 2 JaM.nd (pe_op Jar (pv 2) (pv 5))) (Jai (Jak 3 JaM.nd (pe_op JaL (pv 3) (pe_op Jar (pv 4) (pv 5)))))))) (Jai (Jaq (JaO (Jaa (pv 2) (Jaa (pv 3) Jad)))))))),?_⟩
 obtain ⟨⟨N,G,Z,M,l,I,a1⟩,L,u,k⟩:=h;have D:=T.Bcc Ad.Scale rfl;have n1:=u.b1;have b1:=l.b1;show tSeq _ _ _ [some (.ref x),some v,none,none,none,none] H;mleave;refine ixF0 L ?_;mleave;refine ixF1 L ?_;mleave;refine ⟨x,_,N,_, .ref G,rfl,Z,D.cls,D.n2,rfl,?_⟩;refine ⟨G,rfl,ForA.byL (xs:=c.map V.int) (SqL.of M) (fun i σ m=>i<=(c.map V.int).length/\m=H/\∃ (t:Fr2) (C B:Option V),σ=[some (.ref x),some v,some (.int t.1),some (.int t.2),C,B]/\LoInv n (prodI (c.take i)) t) ⟨Nat.zero_le _,rfl,n,none,none,rfl,LoInv.nil u.lo⟩ (fun i σ m q=>by rw [q.2.1];exact SqL.of M) ?_ ?_⟩
 ·rintro i y σ m e ⟨X,rfl,t,C,B,rfl,j⟩;have r:=(List.getElem?_eq_some_iff.mp e).1;rw [length_map] at r;rw [List.getElem?_map,List.getElem?_eq_getElem r] at e;obtain ⟨f,d⟩:∃ f,f=c[i]:=⟨_,rfl⟩;rw [<- d] at e;have e:y=.int f:=(Option.some.inj e).symm;subst e;have fm:f∈c:=by rw [d];exact List.getElem_mem r
  have O:=l.f1 f fm;have o:Mth.Sz 2000 f:=sz_le I ∅ (l.mem fm);have tk:=l.take i;have pb:Mth.Sz 2000 (prodI (c.take i)):=sz_le I ∅ tk.2;have t2:Mth.Sz 3000 t.2:=by
   refine Nat.lt_of_le_of_lt j.le2 ?_;have:=u.s2.mul pb;unfold Mth.Sz at this;rw [Int.natAbs_mul] at this;exact this
  have gp:=Mth.g_pos (a:=t.1) (b:=f) ∅;have gl:=Mth.g_le (a:=t.1) (b:=f) ∅;have J:DivOk (Mth.g t.1 f):=divOk (n:=2000) ∅ (Nat.lt_of_le_of_lt (by ac_nf:(Mth.g t.1 f).natAbs<=f.natAbs) o);have qf:=o.fdiv (Mth.JbP t.1 f) ∅;have U:=j.step O;have et:prodI (c.take (i+1))=prodI (c.take i)*f:=by
   rw [take_succ,List.getElem?_eq_getElem r, <- d];exact Jch f _
  mleave;refine ⟨_,_,rfl,?_⟩;mleave;refine ⟨J,?_⟩;mleave;refine ⟨J,mulOk t2 qf,?_⟩;mleave;exact ⟨by rw [length_map];ac_nf,(t.1.fdiv (Mth.g t.1 f),t.2*f.fdiv (Mth.g t.1 f)),_,_,rfl,by rw [et];exact U⟩
 ·rintro σ m ⟨X,rfl,t,C,B,rfl,j⟩;rw [take_of_length_le (by rw [length_map];ac_nf),l.pr] at j;mleave;refine ⟨len2,?_⟩;rename_i p S a0 m Y S1 e1;mleave;exact k p t Y S1 e1 j
abbrev Ba4:Stmt:=top 30
theorem Jco:Jan ["thing","numbers","part","gap"] ["thing"] (Jae Ba4):=by bv_decide
def JcY (K:W.Frag) (Ad:Adr):Sp:=fun vs H Q E=>∃ (x:Addr) (ls:List PD) (gs:List GD),vs=[.ref x]/\TK K Ad H x ls gs/\ls.length<=12/\gs.length<=7/\ls.length+gs.length<=14/\(∀ p∈ls,(1<=p.sz.2/\Mth.Sz 70 p.sz.2)/\1<=p.mo.2/\Mth.Sz 70 p.mo.2)/\(∀ g∈gs,(1<=g.lo.2/\Mth.Sz 70 g.lo.2)/\1<=g.hi.2/\Mth.Sz 70 g.hi.2)/\∀ s b fs H',Same H H'->SCK Ad H' s b fs->Q (.ref s) H'
theorem Jgs (F:FunD K "scale_of" "scale_of" Ba4 dV f fd) (T:Txt K mg Ad) (BaK:MCal P w K mg base 2 "parts" (Ja9 Ad) ["self"] (JaY K Ad)) (BbU:MCal P w K mg base 2 "gaps" (Ja9 Ad) ["self"] (Jbq K Ad)) (Bdc:KCal P w K mg base 2 "Scale" Ad.Scale ["self","numbers"] (Jbx K Ad)):FnOk P w K mg base (CX1 P w) 4 f fd ["thing"] (JcY K Ad):=by
 refine F.okn Jco (by subst_eqs) (fun b7 A a7 s H vs Q E hr h=>?_)
 obtain ⟨x,ls,gs,rfl,h⟩:=h;refine ⟨_,(Jab (Jak 1 Jco.nd (Jbg Jad)) (Jab (Ja8 PassesOwn.never rfl (pi_U (BaK.m0 hr ⋯ passF (pv 0))) (Jap 2 Jco.nd) (Jai (Jba (pe_bm PySem.F.plainAttrs_list PySem.F.slot_list_extend PySem.F.type_list_extend JfH (pv 1) (Jaa (Jbg (Jaa (pe_ix ix_U (pv 2) Jac) (Jaa (pe_ix ix_U (pv 2) Jac) Jad))) Jad))))) (Jab (Ja8 PassesOwn.never rfl (pi_U (BbU.m0 hr ⋯ passF (pv 0))) (Jap 3 Jco.nd) (Jai (Jba (pe_bm PySem.F.plainAttrs_list PySem.F.slot_list_extend PySem.F.type_list_extend JfH (pv 1) (Jaa (Jbg (Jaa (pe_ix ix_U (pv 3) Jac) (Jaa (pe_ix ix_U (pv 3) Jac) Jad))) Jad))))) (Jai (Jaq (Bdc.ev hr ⋯ rfl passF (Jaa (pv 1) Jad))))))),?_⟩
 obtain ⟨ht,h7,h6,b6,b2,a9,k⟩:=h;obtain ⟨dx,d1,d2,d3,k1,k2,k3,hx,_⟩:=id ht;have sl:(1000:Nat)<=sizeLine:=by decide
 show tSeq _ _ _ [some (.ref x),none,none,none] H;cbv;refine ⟨len0,?_⟩;rename_i r J b5 H H1 S1 e1;cbv;cbv;refine ⟨x,_,dx,_,rfl,S1 _ _ hx,rfl,rfl,x,ls,gs,rfl,ht.same S1,by ac_nf,fun l ys H2 S2 U e2 hY=>?_⟩;have lY:=hY.length;have a8:l≠r:=fun z=>by rw [z,e1] at U;cases U
 cbv;refine ⟨l,rfl,ForA.byL (xs:=ys) (SqL.of e2) (fun i σ B=>i<=ys.length/\∃ (N M:Option V) (j:List V) (e:List Fr2),σ=[some (.ref x),some (.ref r),N,M]/\(∀ c u,c≠r->H2 c=some u->B c=some u)/\SameT H2 B/\B r=some (.lst j)/\All2 (FLV K B) e j/\(∀ n∈e,1<=n.2/\Mth.Sz 70 n.2)/\e.length=2*i) ⟨Nat.zero_le _,none,none,[],[],rfl,fun _ _ _ h=>h,(Same.refl _).t,S2 _ _ e1,rfl,(fun n d=>by cases d),rfl⟩ (fun i σ B q=>by obtain ⟨_,_,_,_,_,_,q,_⟩:=q;exact SqL.of (q _ _ a8 e2)) ?_ ?_⟩
 ·rintro i y σ H3 hy ⟨hi,N,M,j,e,rfl,ho,W,o,v,a,ln⟩;have li:=(List.getElem?_eq_some_iff.mp hy).1;have la:=v.length;obtain ⟨p,hp,b,Z,vm,rfl,hb,hz,hm⟩:=hY.at_ hy;have a4:=b2 p (List.mem_of_getElem? hp);have S:=hb.sameT W;cbv;refine ⟨.inl ⟨rfl,_,SqL.of o⟩,?_⟩;refine ixT (i:=3) S rfl ?_;refine ixT (i:=4) S rfl ?_;cbv;refine ⟨len2,?_⟩;rename_i tl a3 a1 H3 H4 L e4;cbv;refine ⟨r,tl,j,_,rfl,rfl,L _ _ o,e4,by simp only [length_cons,length_nil];ac_nf,?_⟩;generalize u5:upd H4 r _=D;cbv;have e5:=putE u5;have T5:SameT H4 D:=SameT.put u5 (L _ _ o) rfl;have G:SameT H3 D:=L.t.trans T5;cbv;refine ⟨li,_,_,j++[Z,vm],e++[p.sz,p.mo],rfl,fun c u hc h=>by rw [<- u5,Jag hc];exact L _ _ (ho c u hc h),W.trans G,e5,(v.mono (P':=FLV K D) fun _ _ z=>z.sameT G).append ⟨Z,_,rfl,FrV.sameT (W.trans G) hz,vm,_,rfl,FrV.sameT (W.trans G) hm,rfl⟩,fun n d=>?_,by simp;ac_nf⟩;rcases mem_append.mp d with d | d
  ·exact a n d
  ·rcases mem_cons.mp d with rfl | d
   ·exact a4.1
   ·rw [mem_singleton.mp d];exact a4.2
 ·rintro σ H3 ⟨hi,N,M,j,e,rfl,ho,W,o,v,a,ln⟩;have O:Same H H3:=fun c u h=>ho c u (Jah h J) (S2 _ _ (S1 _ _ h));cbv;refine ⟨x,_,dx,_,rfl,O _ _ hx,rfl,rfl,x,ls,gs,rfl,ht.same O,by ac_nf,fun m zs H4 L X e4 hZ=>?_⟩;have lZ:=hZ.length;have a5:m≠r:=fun z=>by rw [z,o] at X;cases X
  have la:=v.length;cbv;refine ⟨m,rfl,ForA.byL (xs:=zs) (SqL.of e4) (fun i σ B=>i<=zs.length/\∃ (N M:Option V) (j:List V) (e:List Fr2),σ=[some (.ref x),some (.ref r),N,M]/\(∀ c u,c≠r->H4 c=some u->B c=some u)/\SameT H4 B/\B r=some (.lst j)/\All2 (FLV K B) e j/\(∀ n∈e,1<=n.2/\Mth.Sz 70 n.2)/\e.length<=2*ls.length+2*i) ⟨Nat.zero_le _,N,M,j,e,rfl,fun _ _ _ h=>h,(Same.refl _).t,L _ _ o,v.mono (fun _ _ z=>z.sameT L.t),a,by ac_nf⟩ (fun i σ B q=>by obtain ⟨_,_,_,_,_,_,q,_⟩:=q;exact SqL.of (q _ _ a5 e4)) ?_ ?_⟩
  ·clear v a ln o la;rintro i y σ D hy ⟨hi,N,M,j,e,rfl,R,C,o,v,a,ln⟩;have li:=(List.getElem?_eq_some_iff.mp hy).1;have la:=v.length;obtain ⟨g,hg,b,Z,vm,rfl,hb,hz,hm⟩:=hZ.at_ hy;have a0:=a9 g (List.mem_of_getElem? hg);have a2:=hb.sameT C;cbv;refine ⟨.inl ⟨rfl,_,SqL.of o⟩,?_⟩;refine ixT (i:=3) a2 rfl ?_;refine ixT (i:=4) a2 rfl ?_;cbv;refine ⟨len2,?_⟩;rename_i tl a3 a1 D H6 S6 e6;cbv;refine ⟨r,tl,j,_,rfl,rfl,S6 _ _ o,e6,by simp only [length_cons,length_nil];ac_nf,?_⟩;generalize u7:upd H6 r _=H7;cbv;have e7:=putE u7;have T7:SameT H6 H7:=SameT.put u7 (S6 _ _ o) rfl;have I:SameT D H7:=S6.t.trans T7;cbv;refine ⟨li,_,_,j++[Z,vm],e++[g.lo,g.hi],rfl,fun c u hc h=>by rw [<- u7,Jag hc];exact S6 _ _ (R c u hc h),C.trans I,e7,(v.mono (P':=FLV K H7) fun _ _ z=>z.sameT I).append ⟨Z,_,rfl,FrV.sameT (C.trans I) hz,vm,_,rfl,FrV.sameT (C.trans I) hm,rfl⟩,fun n d=>?_,by simp;ac_nf⟩;rcases mem_append.mp d with d | d
   ·exact a n d
   ·rcases mem_cons.mp d with rfl | d
    ·exact a0.1
    ·rw [mem_singleton.mp d];exact a0.2
  ·clear v a ln o la;rintro σ D ⟨hi,N,M,j,e,rfl,R,C,o,v,a,ln⟩;have Y:Same H D:=fun c u h=>R c u (Jah h J) (L _ _ (O _ _ h));cbv;intro s ds hs b0 b4;have Sm:Same D (upd (upd D ds (.own s)) s (.ins Ad.Scale ds [])):=fun b u q=>by rw [Jag (Jah q hs),Jag (Jah q b0)];exact q
   refine ⟨s,ds,r,j,e,rfl,Jaj,Sm _ _ o,v.mono (fun _ _ z=>z.sameT Sm.t),by ac_nf,a,fun b fs fl H6 h1 h2 h3 h4 a6 b1 b3=>⟨rfl,k s b fs H6 (fun c u h=>?_) ⟨ds,fl,h1,h3,a6,b1,b3⟩⟩⟩;exact h4 c u (Jah (Y _ _ h) hs) (Sm _ _ (Y _ _ h))
abbrev BaP:Stmt:=top 31
theorem Jfc:Jan ["thing","gap_name"] ["thing","gap_name"] (Jae BaP):=by bv_decide
def Jcv (K:W.Frag) (Ad:Adr):Sp:=fun vs H Q E=>∃ (x:Addr) (ls:List PD) (gs:List GD) (g:GD),vs=[.ref x, .str g.nm]/\TK K Ad H x ls gs/\(ls.map (·.nm)).Nodup/\ls.length<=12/\g∈gs/\(∀ u∈gs,u.nm=g.nm->u=g)/\∀ l (w:List Pr) H',Same H H'->H' l=some (.lst ((w.map (·.1)).map V.str))->JaV ls g.st w g.en->(w.map (·.1)).Nodup->Q (.ref l) H'
theorem Je4 (F:FunD K "part_names" "part_names" BaP dV f fd) (T:Txt K mg Ad) (Bdr:MCal P w K mg base 1 "way" (Ja9 Ad) ["self","name"] (Jb4 K Ad)):FnOk P w K mg base (CX1 P w) 2 f fd ["thing","gap_name"] (Jcv K Ad):=by
 refine F.okn Jfc (by subst_eqs) (fun N A q s H vs Q E hr h=>?_)
 obtain ⟨x,j,C,g,rfl,h⟩:=h;refine ⟨_,(Jai (Jaq (Jd9 (own:=["name","forward"]) (cs:=[]) (cl:=[]) rfl (pi_U (Bdr.m hr ⋯ passF (pv 0) (Jaa (pv 1) Jad))) (fun _ _ _ _=>(Jij (K:=K) (n:=2) rfl rfl (JaJ (Jap 0 (show [("name" : Str),("forward" : Str)].Nodup by decide) (hf:=Or.inr rfl)) (JaJ (Jap 1 (show [("name" : Str),("forward" : Str)].Nodup by decide) (hf:=Or.inr rfl)) JcS)))) (fun _ _ _ _=>(pv 0)) rfl ⋯ rfl ⋯ hcl0 (hhas0 ⋯) hcs0))),?_⟩;obtain ⟨B,L,h8,U,u,k⟩:=h;obtain ⟨I,d1,d2,d3,k1,k2,k3,hx,_⟩:=id B;have sl:(1000:Nat)<=sizeLine:=by decide
 show tRet _ _ [some (.ref x),some (.str g.nm)] H;cbv;refine ⟨x,_,I,_,rfl,hx,rfl,rfl,x,g.nm,j,C,rfl,B,fun z=>absurd (mem_map.mpr ⟨g,U,rfl⟩) z,fun X t J l xs w H1 S1 Z G d v a=>?_⟩;have e:=u X t J;subst e;have lx:=d.length;have lw:w.length<=12:=by
  have:=sub_len (w.map (·.1)) (j.map (·.nm)) a fun n M=>JeD (Jif v) n M;rw [length_map,length_map] at this;ac_nf
 cbv;refine ⟨l,rfl, .inl ⟨⟨xs,SqL.of G⟩,CompJ.list (xs:=xs) (fun i D c=>c=H1/\D=((w.take i).map (·.1)).map V.str) ⟨rfl,rfl⟩ (fun i D c hi z=>⟨by rw [z.1];exact SqL.of G,by rw [z.2,length_map,length_map,length_take];ac_nf⟩) ?_ ?_⟩⟩
 ·rintro i y o c O ⟨rfl,rfl⟩;obtain ⟨pr,p,b,rfl,S⟩:=d.at_ O;simpa only [length_singleton,length_cons,length_nil,List.replicate,JaA,map_cons,map_nil,Option.join_some];refine ⟨b,_,rfl,SqT.of S,rfl,?_⟩;cbv;rw [take_succ,p];simp
 ·rintro o c ⟨rfl,rfl⟩;rw [take_of_length_le ∅];rename_i r R a0 c W S2 Y;cbv;exact k r w W (S1.trans S2) Y v a
abbrev Bav:Stmt:=inClass (top 32) 0
theorem Jed:Jan ["self","name","rest","weights"] ["self","name","rest","weights"] (Jae Bav):=by bv_decide
def JbX (K:W.Frag) (Ad:Adr):Sp:=fun vs H Q E=>∃ (x dx wd:Addr) (nm:Str) (vr:V) (ws:List (Str × Int)),vs=[.ref x, .str nm,vr, .ref wd]/\H x=some (.ins Ad.Lid dx [])/\H wd=some (.dK (wsK ws))/\∀ H',H' x=some (.ins Ad.Lid dx [("name", .str nm),("rest",vr),("weights", .ref wd),("load", .int (ws.map (·.2)).sum),("last_level", .ref Ad.ZERO)])->(∀ b,b≠x->H' b=H b)->Q .non H'
theorem Jd1 (F:FunD K "__init__" "Lid.__init__" Bav dV f fd) (T:Txt K mg Ad)  : FnOk P w K mg base (CX1 P w) 1 f fd ["self","name","rest","weights"] (JbX K Ad):=by
 refine F.okn Jed (by subst_eqs) (fun N A o s H U Q E X h=>?_)
 obtain ⟨x,c,e,g,j,i,rfl,h⟩:=h;refine ⟨_,(Jab (Ja6 (pv 0) (pv 1) rfl) (Jab (Ja6 (pv 0) (pv 2) rfl) (Jab (Ja6 (pv 0) (pv 3) rfl) (Jab (Ja6 (pv 0) (JkY rfl rfl rfl T.n_sum Jlt (pv 3)) rfl) (Jai (Ja6 (pv 0) (JcR (v:=.ref _) rfl T.Bc7 T.Bc8) rfl)))))),?_⟩
 obtain ⟨B,l,k⟩:=h;have d:=T.c_Lid Ad.Lid rfl;have q:e≠x:=fun z=>by rw [z,B] at l;cases l
 show tSeq _ _ _ [some (.ref x),some (.str g),some j,some (.ref e)] H;mexact;refine ⟨x,_,c,_,rfl,B,d.cls,d.n1,by simp,?_⟩;generalize t:upd H x _=p;mexact;have W:p x=some (.ins Ad.Lid c [("name", .str g)]):=by rw [<- t];exact Jaj.trans rfl
 have R:∀ b,b≠x->p b=H b:=fun b a=>by rw [<- t,Jag a]
 mexact;refine ⟨x,_,c,_,rfl,W,d.cls,d.n2,by simp,?_⟩;generalize u:upd p x _=n;mexact;have S:n x=some (.ins Ad.Lid c [("name", .str g),("rest",j)]):=by rw [<- u];exact Jaj.trans rfl
 have V:∀ b,b≠x->n b=H b:=fun b a=>by rw [<- u,Jag a];exact R b a
 mexact;refine ⟨x,_,c,_,rfl,S,d.cls,d.n3,by simp,?_⟩;generalize G:upd n x _=m;mexact;have O:m x=some (.ins Ad.Lid c [("name", .str g),("rest",j),("weights", .ref e)]):=by rw [<- G];exact Jaj.trans rfl
 have I:∀ b,b≠x->m b=H b:=fun b a=>by rw [<- G,Jag a];exact V b a
 mexact;refine ⟨e,wsK i,i.map (·.2),rfl,by rw [I e q];exact l,JjD i,?_⟩;mexact;refine ⟨x,_,c,_,rfl,O,d.cls,d.n4,by simp,?_⟩;generalize C:upd m x _=r;mexact;have M:r x=some (.ins Ad.Lid c [("name", .str g),("rest",j),("weights", .ref e),("load", .int (i.map (·.2)).sum)]):=by rw [<- C];exact Jaj.trans rfl
 have L:∀ b,b≠x->r b=H b:=fun b a=>by rw [<- C,Jag a];exact I b a
 mexact;refine ⟨x,_,c,_,rfl,M,d.cls,d.n5,by simp,?_⟩;generalize y:upd r x _=D;mexact;have J:D x=some (.ins Ad.Lid c [("name", .str g),("rest",j),("weights", .ref e),("load", .int (i.map (·.2)).sum),("last_level", .ref Ad.ZERO)]):=by rw [<- y];exact Jaj.trans rfl
 exact k D J fun b a=>by rw [<- y,Jag a];exact L b a
abbrev Bam:Stmt:=inClass (top 32) 1
theorem Jdt:Jan ["self"] ["self"] (Jae Bam):=by bv_decide
def Jbw (K:W.Frag) (Ad:Adr):Sp:=fun vs H Q E=>∃ (q:Addr) (e:LidD),vs=[.ref q]/\LDV K Ad H e (.ref q)/\FB 3000 1000 e.rest/\1<=e.load/\Mth.Sz 64 e.load/\∀ p H',Same H H'->H' p=some (.tup [.int (divF e.rest (e.load,1)).1, .int (divF e.rest (e.load,1)).2])->Q (.ref p) H'
theorem Jdo (F:FunD K "full_level" "Lid.full_level" Bam dV f fd) (T:Txt K mg Ad) (BcE:Cal P w K mg base 3 "over" ["one","other"] [] (Jfi K Ad)):FnOk P w K mg base (CX1 P w) 4 f fd ["self"] (Jbw K Ad):=by
 refine F.okn Jdt (by subst_eqs) (fun o A c s H v Q E d h=>?_)
 obtain ⟨q,e,rfl,h⟩:=h;refine ⟨_,(Jai (Jaq (BcE.ev d ⋯ rfl passF (Jaa (Jas (pv 0) rfl) (Jaa (JaO (Jaa (Jas (pv 0) rfl) (Jaa Jac Jad))) Jad))))),?_⟩;obtain ⟨⟨O,i,m,J,N,D,j,d,L,G⟩,b,I,n,k⟩:=h;cases D;have a:=T.c_Lid Ad.Lid rfl;show tRet _ _ [some (.ref q)] H;mleave;refine ⟨q,_,i,_,m,rfl,j,a.cls,a.n2,rfl,?_⟩;refine ⟨q,_,i,_, .int e.load,rfl,j,a.cls,a.n4,rfl,?_⟩;mleave;refine ⟨len2,?_⟩;rename_i p r x H M l y;mleave;refine ⟨m, .ref p,_,_,e.load,1,rfl,d.same l,FrV.of y,b.s1.mono ⋯,b.s2.mono ⋯,n.mono ⋯, .lit ⋯ ⋯,b.b1,by decide,b.g1,by unfold Mth.g;simp,fun z=>absurd z ∅,fun _ B t C u=>?_⟩;exact k B t (l.trans C) u
abbrev BaQ:Stmt:=inClass (top 32) 2
theorem Jdg:Jan ["self","part","level","weight"] ["self","part","level"] (Jae BaQ):=by bv_decide
def Jcp (K:W.Frag) (Ad:Adr):Sp:=fun vs H Q E=>∃ (q:Addr) (n:Str) (lv:V) (e:LidD) (L:Fr2),vs=[.ref q, .str n,lv]/\LDV K Ad H e (.ref q)/\FrV K H lv L.1 L.2/\FB 3000 1000 e.rest/\FB 3000 1000 L/\(∀ x∈e.ws,Mth.Sz 64 x.2)/\∀ H',(∀ b u,b≠q->H b=some u->H' b=some u)->LDV K Ad H' (e.settle n L) (.ref q)->(∀ d kv,H d=some (.dK kv)->LDV K Ad (cut d H) e (.ref q)->LDV K Ad (cut d H') (e.settle n L) (.ref q))->Q .non H'
theorem JeY (F:FunD K "settle" "Lid.settle" BaQ dV f fd) (T:Txt K mg Ad) (Bbg:Cal P w K mg base 3 "minus" ["one","other"] [] (Jdh K)) (Bbf:Cal P w K mg base 2 "times" ["one","other"] [] (Jdi K)):FnOk P w K mg base (CX1 P w) 4 f fd ["self","part","level"] (Jcp K Ad):=by
 refine F.okn Jdg (by subst_eqs) (fun b4 A a0 s H vs Q E R h=>?_)
 obtain ⟨q,n,G,e,L,rfl,h⟩:=h;have hu:=R.units;refine ⟨_,(Jai (ps_if (Jeb (JgR (hu1 hu) (pv 1) (Jas (pv 0) rfl)) (by with_unfolding_all rfl)) (Jab (Jak 3 Jdg.nd (JbU (hu1 hu) (Jas (pv 0) rfl) (pv 1) (fun _ _=>rfl))) (Jab (Ja6 (pv 0) (Bbg.ev R ⋯ rfl passF (Jaa (Jas (pv 0) rfl) (Jaa (Bbf.ev R ⋯ rfl passF (Jaa (pv 2) (Jaa (JaO (Jaa (pv 3) (Jaa Jac Jad))) Jad))) Jad))) rfl) (Jab (Ja6 (pv 0) (pe_op Jid (Jas (pv 0) rfl) (pv 3)) rfl) (Jai (Ja6 (pv 0) (pv 2) rfl)))))
   Jax)),?_⟩
 clear hu;obtain ⟨hd,hl,fr,o,a2,k⟩:=h;obtain ⟨q',l,vr,vt,m,hv,v,R,ht,X⟩:=id hd;cases hv;have j:=T.c_Lid Ad.Lid rfl;have U:m≠q:=fun z=>by rw [z,v] at X;cases X
 have gw:=DGet.k (k:=Sum.inr n) X;rw [JgC] at gw;show tIfS _ _ _ _ [some (.ref q),some (.str n),some G,none] H;try simpa only [y4fy,y89y]
 refine ⟨q,_,l,_, .ref m,rfl,v,j.cls,j.n3,rfl,?_⟩;refine ⟨m,_,rfl,gw,?_⟩;cases hwt:wtOf e.ws n with
 | none=>
  rw [show ((none:Option Int).map V.int).isSome=false from rfl];try simpa only [y4fy,y89y]
  have Y:e.settle n L=e:=by unfold LidD.settle;rw [hwt]
  exact k H (fun b u _ h=>h) (by rw [Y];exact hd) (fun d kv _ h=>by rw [Y];exact h)
 | some w=>
  rw [hwt] at gw;have Y:e.settle n L={ e with rest:=subF e.rest (mulF L (w,1)),load:=e.load-w,last:=L }:=by unfold LidD.settle;rw [hwt]
  have sw:=a2 _ (JiW hwt);rw [show ((some w).map V.int).isSome=true from rfl];try simpa only [y4fy,y89y]
  refine ⟨q,_,l,_, .ref m,rfl,v,j.cls,j.n3,rfl,?_⟩;refine ⟨m, .int w,rfl,gw,?_⟩;try simpa only [y4fy,y89y]
  refine ⟨q,_,l,_,vr,rfl,v,j.cls,j.n2,rfl,?_⟩;try simpa only [y4fy,y89y]
  refine ⟨len2,?_⟩;rename_i p a8 a9 H H1 S1 e1;mvcgen;refine ⟨G, .ref p,_,_,w,1,rfl,hl.same S1,FrV.of e1,o.s1.mono ⋯,o.s2.mono ⋯,sw.mono ⋯, .lit ⋯ ⋯,o.b1,by decide,o.g1,by unfold Mth.g;simp,fun p2 H2 S2 e2=>?_⟩;have M:=S1.trans S2;have ml:=JeW (a:=L) (c:=(w,1)) o.b1 (Int.le_refl 1);have a3:Mth.Sz 4000 (mulF L (w,1)).1:=(Mth.Sz.top (by have:=o.b1;show L.2*1≠0;ac_nf) (o.s1.mul sw)).mono ⋯;have a5:Mth.Sz 4000 (mulF L (w,1)).2:=(Mth.Sz.bot (t:=L.1*w) (b:=L.2*1) (by have:=o.b1;ac_nf) (by rw [Int.mul_one];exact o.s2)).mono ⋯;have e2:H2 p2=some (.tup [.int (mulF L (w,1)).1, .int (mulF L (w,1)).2]):=e2;try simpa only [y4fy,y89y]
  refine ⟨vr, .ref p2,_,_,_,_,rfl,R.same M,FrV.of e2,fr.s1.mono ⋯,fr.s2.mono ⋯,a3,a5,fr.b1,ml.b1,fr.g1,ml.g1,fun N H3 S3 e3=>?_⟩;have B:=M.trans S3;have J:=B _ _ v;try simpa only [y4fy,y89y]
  refine ⟨q,_,l,_,rfl,J,j.cls,j.n2,by simp,?_⟩;generalize u4:upd H3 q _=W;mvcgen;have e4:W q=some (.ins Ad.Lid l [("name", .str e.nm),("rest", .ref N),("weights", .ref m),("load", .int e.load),("last_level",vt)]):=by rw [<- u4];exact Jaj.trans rfl
  have o4:∀ b u,b≠q->H b=some u->W b=some u:=fun b u I h=>by rw [<- u4,Jag I];exact B _ _ h
  have T4:SameT H3 W:=SameT.put u4 J rfl;try simpa only [y4fy,y89y]
  refine ⟨q,_,l,_, .int e.load,rfl,e4,j.cls,j.n4,rfl,?_⟩;try simpa only [y4fy,y89y]
  refine ⟨q,_,l,_,rfl,e4,j.cls,j.n4,by simp,?_⟩;generalize u5:upd W q _=H5;mvcgen;have e5:H5 q=some (.ins Ad.Lid l [("name", .str e.nm),("rest", .ref N),("weights", .ref m),("load", .int (e.load-w)),("last_level",vt)]):=by rw [<- u5];exact Jaj.trans rfl
  have T5:SameT W H5:=SameT.put u5 e4 rfl;try simpa only [y4fy,y89y]
  refine ⟨q,_,l,_,rfl,e5,j.cls,j.n5,by simp,?_⟩;generalize u6:upd H5 q _=D;mvcgen;have e6:D q=some (.ins Ad.Lid l [("name", .str e.nm),("rest", .ref N),("weights", .ref m),("load", .int (e.load-w)),("last_level",G)]):=by rw [<- u6];exact Jaj.trans rfl
  have T6:SameT H5 D:=SameT.put u6 e5 rfl;have S:=T4.trans (T5.trans T6);have Z:∀ b u,b≠q->H b=some u->D b=some u:=fun b u I h=>by rw [<- u6,Jag I, <- u5,Jag I];exact o4 b u I h
  have f3:=FrV.of (K:=K) (S _ _ rfl e3);have fl:=(hl.same B).sameT S;refine k D Z ?_ fun d b3 O a4=>?_
  ·rw [Y];exact ⟨q,l, .ref N,G,m,rfl,e6,f3,fl,Z _ _ U X⟩
  ·obtain ⟨q',a7,b2,b0,a1,x,y,_,_,r⟩:=a4;have x:q=q':=by injection x
   subst x;have C:q≠d:=fun z=>by rw [z,O] at v;cases v
   rw [JbO C,v] at y;simp only [Option.some.injEq,HO.ins.injEq,List.cons.injEq,Prod.mk.injEq,V.ref.injEq,true_and,and_true] at y;have ew:m=a1:=y.2.2.1;subst ew;have a6:m≠d:=fun z=>by
    rw [z] at r;unfold cut at r;rw [if_pos rfl] at r;cases r
   have Tc:SameT D (cut d D):=SameT.cutO (Z _ _ C.symm O) rfl;rw [Y];exact ⟨q,l, .ref N,G,m,rfl,by rw [JbO C];exact e6,f3.sameT Tc,fl.sameT Tc,by rw [JbO a6];exact Z _ _ U X⟩
abbrev Bai:Stmt:=inClass (top 32) 3
theorem Jdf:Jan ["self","part","level"] ["self","part","level"] (Jae Bai):=by bv_decide
def Jbo (K:W.Frag) (Ad:Adr):Sp:=fun vs H Q E=>∃ (q:Addr) (n:Str) (lv:V) (e:LidD) (L:Fr2),vs=[.ref q, .str n,lv]/\LDV K Ad H e (.ref q)/\FrV K H lv L.1 L.2/\Q (.bl ((wtOf e.ws n).isSome&&(decide (e.rest=(0,1))&&decide (e.last=L)))) H
theorem Jc7 (F:FunD K "has_stopped" "Lid.has_stopped" Bai dV f fd) (T:Txt K mg Ad)  : FnOk P w K mg base (CX1 P w) 1 f fd ["self","part","level"] (Jbo K Ad):=by
 refine F.okn Jdf (by subst_eqs) (fun p A d s H x Q E i h=>?_)
 obtain ⟨q,n,l,e,L,rfl,h⟩:=h;have b:=i.units;refine ⟨_,(Jai (Jaq (Jcg (JlW (JgR (hu1 b) (pv 1) (Jas (pv 0) rfl)) (by with_unfolding_all rfl)) (Jcg (Jbc (JbJ b) (Jas (pv 0) rfl) (JcR (v:=.ref _) rfl T.Bc7 T.Bc8) (Jaw _)) (Jda (Jbc (JbJ b) (Jas (pv 0) rfl) (pv 2) (Jaw _))))))),?_⟩;clear b;obtain ⟨⟨D,c,C,r,m,B,g,i,u,o⟩,z,k⟩:=h;cases B;have a:=T.c_Lid Ad.Lid rfl;have j:=DGet.k (k:=Sum.inr n) o;rw [JgC] at j;have y:decide (e.rest=(0,1))=(decide (e.rest.1=0)&&decide (e.rest.2=1)):=by
  rw [<- Bool.decide_and];exact decide_eq_decide.mpr Prod.ext_iff
 have t:decide (e.last=L)=(decide (e.last.1=L.1)&&decide (e.last.2=L.2)):=by
  rw [<- Bool.decide_and];exact decide_eq_decide.mpr Prod.ext_iff
 rw [y,t] at k;show tRet _ _ [some (.ref q),some (.str n),some l] H;mleave;refine ⟨q,_,c,_, .ref m,rfl,g,a.cls,a.n3,rfl,?_⟩;refine ⟨m,_,rfl,j,?_⟩;rw [show ((wtOf e.ws n).map V.int).isSome=(wtOf e.ws n).isSome by cases wtOf e.ws n <;> rfl];cases c1:(wtOf e.ws n).isSome with
 | false=>
  rw [c1] at k;mleave;exact k
 | true=>
  rw [c1] at k;mleave;refine ⟨q,_,c,_,C,rfl,g,a.cls,a.n2,rfl,?_⟩;refine eqF i ⟨Ad.ZERO,rfl,T.Bc9 _⟩ ?_;cases c2:(decide (e.rest.1=0)&&decide (e.rest.2=1)) with
  | false=>
   rw [c2] at k;mleave;exact k
  | true=>
   rw [c2] at k;mleave;refine ⟨q,_,c,_,r,rfl,g,a.cls,a.n5,rfl,?_⟩;refine eqF u z ?_;exact k
abbrev Ban:Stmt:=inClass (top 9) 0
theorem Jdu:Jan ["self","words","tight_gap"] ["self","words","tight_gap"] (Jae Ban):=by bv_decide
def Jbz (K:W.Frag) (Ad:Adr):Sp:=fun vs H Q E=>∃ (e:Addr) (w z:Str) (S f:Addr),vs=[.ref e, .str w, .str z]/\H e=some (ExcN e Ad.Tight none)/\ExcI K Ad.Tight S f/\∀ (dx:Addr) (H':Hp),(∀ b u,b≠e->H b=some u->H' b=some u)->H dx=none->dx≠e->H' e=some (ExcN e Ad.Tight (some dx))->H' dx=some (.xd [("tight_gap", .str z)])->Q .non H'
theorem Jdr (F:FunD K "__init__" "Tight.__init__" Ban dV f fd) (T:Txt K mg Ad)  : FnOk P w K mg base (CX1 P w) 1 f fd ["self","words","tight_gap"] (Jbz K Ad):=by
 refine F.okn Jdu (by subst_eqs) (fun m A g s H o Q E p h=>?_)
 obtain ⟨e,w,z,S,f,rfl,h⟩:=h;refine ⟨_,(Jab (Jba (Jjg T.slk rfl T.m_SlackError (Jaa (pv 0) (Jaa (pv 1) Jad)))) (Jai (Jk1 (pv 0) (pv 2) rfl))),?_⟩
 obtain ⟨i,j,k⟩:=h;show tSeq _ _ _ [some (.ref e),some (.str w),some (.str z)] H;cbv;refine ⟨e,_,_,_,_,_,rfl,by show 1<=sizeLine;decide,i,j,?_⟩;rw [show upd H e (ExcN e Ad.Tight none)=H from funext fun b=>by
  by_cases c:b=e
  ·rw [c,Jaj,i]
  ·rw [Jag c]]
 mframe;refine ⟨e,_,S,f,rfl,i,j,T.xa,fun l d a=>?_⟩;exact k l _ (fun b u n h=>by rw [Jag (Jah h d),Jag n];exact h) d a (by rw [Jag (Ne.symm a),Jaj]) Jaj
abbrev Bbr:Stmt:=top 33
theorem Jbv:Jan ["thing","scale","weights","part","lids","gap","room","on_way"] ["thing","scale"] (Jae Bbr):=by bv_decide
def Jdw (K:W.Frag) (Ad:Adr):Sp:=fun vs H Q E=>∃ (x sc:Addr) (ls:List PD) (es:List (GD × List Str)) (pl:Str->Fr2) (b:Int) (fs:List Int),vs=[.ref x, .ref sc]/\TK K Ad H x ls (es.map (·.1))/\SCK Ad H sc b fs/\SHC ls es pl/\((∀ e∈es,0<=vl (roomF pl e.1))->∀ ll xs lds H',Same H H'->H ll=none->H' ll=some (.lst xs)->All2 (LDV K Ad H') lds xs->xs.Nodup->(∀ v∈xs, ∃ q,v=.ref q/\H q=none)->lds.length=es.length->(∀ (i:Nat) e l,es[i]?=some e->lds[i]?=some l->LSt b ls pl e l)->Q (.ref ll) H')/\∀ (i:Nat) (e:GD × List Str),es[i]?=some e->vl (roomF pl e.1)<0->(∀ e'∈es.take i,0<=vl (roomF pl e'.1))->∀ (dx:Addr) (H':Hp),Same H H'->H dx=none->H' dx=some (.xd [("tight_gap", .str e.1.nm)])->E (.ref Ad.Tight) (some dx) H'
theorem Jhk (F:FunD K "lids_of" "lids_of" Bbr dV f fd) (T:Txt K mg Ad) (BaK:MCal P w K mg base 2 "parts" (Ja9 Ad) ["self"] (JaY K Ad)) (BbU:MCal P w K mg base 2 "gaps" (Ja9 Ad) ["self"] (Jbq K Ad)) (Bdw:MCal P w K mg base 5 "room" (Ja9 Ad) ["self","name"] (Jcr K Ad)) (BaJ:Cal P w K mg base 1 "under" ["one","other"] [] (Jcx K)) (BbD:Cal P w K mg base 2 "part_names" ["thing","gap_name"] [] (Jcv K Ad)) (k_Lid:KCal P w K mg base 1 "Lid" Ad.Lid ["self","name","rest","weights"] (JbX K Ad)) (BbP:MCal P w K mg base 2 "lifted" (Jdk Ad) ["self","number"] (Jbp K Ad)) (k_Tight:XCal P w K mg base 1 "Tight" Ad.Tight Ad.SlackError ["self","words","tight_gap"] (Jbz K Ad)):FnOk P w K mg base (CX1 P w) 7 f fd ["thing","scale"] (Jdw K Ad):=by
 refine F.okx Jbv (fun vs H Q E h=>?_) (fun k9 A g4 s H vs Q E hr h=>?_)
 ·obtain ⟨x,sc,ls,es,pl,b,fs,rfl,_⟩:=h;rfl
 obtain ⟨x,sc,ls,es,pl,b,fs,rfl,h⟩:=h;have hu:=hr.units;refine ⟨_,(Jab (Jak 2 Jbv.nd JbC rfl (Or.inr rfl)) (Jab (Ja8 PassesOwn.leaving rfl (pi_U (BaK.m0 hr ⋯ pass1 (pv 0))) (Jap 3 Jbv.nd) (Jai (Jb8 (hu1 hu) (pv 2) (pe_ix ix_U (pv 3) Jac) (pe_ix ix_U (pv 3) Jac) rfl))) (Jab (Jak 4 Jbv.nd (Jbg Jad)) (Jab (Ja8 PassesOwn.leaving rfl (pi_U (BbU.m0 hr ⋯ pass1 (pv 0))) (Jap 5 Jbv.nd) (Jab (Jak 6 Jbv.nd (Bdw.m hr ⋯ pass1 (pv 0) (Jaa (pe_ix ix_U (pv 5) Jac) Jad))) (Jab (ps_if (Jbh (BaJ.ev hr ⋯ rfl pass1 (Jaa (pv 6) (Jaa (JcR (v:=.ref _) rfl T.Bc7 T.Bc8) Jad)))) (Jai (Jit (k_Tight.ev hr ⋯ rfl pass1 (Jaa Jbk (Jaa (pe_ix ix_U (pv 5) Jac) Jad)))))
   Jax) (Jab (Jak 7 Jbv.nd (Jd8 (Jg6 rfl) rfl T.n_dict Jkk (Jaa (Jjh (own:=["name"]) (cs:=[(2,"weights")]) rfl (pi_U (BbD.ev hr ⋯ rfl pass1 (Jaa (pv 0) (Jaa (pe_ix ix_U (pv 5) Jac) Jad)))) (fun _ _ _ _=>(Jap 0 (show [("name" : Str),("weights" : Str)].Nodup by decide))) (fun _ _ _ _=>(JaO (Jaa (pv 0) (Jaa (JbU (hu1 hu) (pv 1) (pv 0) (fun _ _=>rfl)) Jad)))) (JdP rfl) ⋯ rfl ⋯
   (hcs1 rfl rfl rfl)) Jad))) (Jai (Jba (pe_bm PySem.F.plainAttrs_list PySem.F.slot_list_append PySem.F.type_list_append Ja3 (pv 4) (Jaa (k_Lid.ev hr ⋯ rfl pass1 (Jaa (pe_ix ix_U (pv 5) Jac) (Jaa (BbP.m hr ⋯ pass1 (pv 1) (Jaa (pv 6) Jad)) (Jaa (pv 7) Jad)))) Jad) (hs:=by exact Jaf rfl)))))))) (Jai (Jaq (pv 4))))))),?_⟩
 clear hu;obtain ⟨ht,c9,O,k,kT⟩:=h;obtain ⟨dx,d1,d2,d3,k1,k2,k3,hx,_⟩:=id ht;obtain ⟨g6,fl,d0,_,j2,sb,_⟩:=id c9;have sl:(1000:Nat)<=sizeLine:=by decide
 have k8:=O.l12;have l7:=O.l7;show tSeq _ _ _ [some (.ref x),some (.ref sc),none,none,none,none,none,none] H;cbv;rename_i wd f8 j6 H H1 S1 e1;cbv;refine ⟨x,_,dx,_,rfl,S1 _ _ hx,rfl,rfl,x,ls,_,rfl,ht.same S1,by ac_nf,fun l ys H2 S2 d5 e2 hY=>?_⟩;have lY:=hY.length;have i3:l≠wd:=fun z=>by rw [z,e1] at d5;cases d5
 have h8:=S1.trans S2;cbv;refine ⟨l,rfl,ForA.byLN (xs:=ys) (SqL.of e2) (fun i σ N=>i<=ys.length/\∃ (v3:Option V) (kv:List (Key × V)),σ=[some (.ref x),some (.ref sc),some (.ref wd),v3,none,none,none,none]/\(∀ c u,c≠wd->H2 c=some u->N c=some u)/\SameT H2 N/\N wd=some (.dK kv)/\BG (·.nm) (fun p v=>v=.int p.wt) (ls.take i) kv) ⟨Nat.zero_le _,none,[],rfl,fun _ _ _ h=>h,SameT.refl _,S2 _ _ e1,⟨rfl,rfl⟩⟩ (fun i σ N q=>by obtain ⟨_,_,_,_,q,_⟩:=q;exact SqL.of (q _ _ i3 e2)) ?_ ?_⟩
 ·rintro i y σ H3 W ⟨hi,v3,kv,rfl,ho,hT,a2,hB⟩ N0 c1;have li:=(List.getElem?_eq_some_iff.mp W).1;obtain ⟨p,hp,b_,vz,vm,rfl,hb,_,_⟩:=hY.at_ W;have lB:=hB.length;rw [length_take] at lB;have d4:=hb.sameT hT;cbv;refine ixT (i:=5) d4 rfl ?_;cbv;refine ixT (i:=0) d4 rfl ?_;refine ⟨wd,_,rfl,DPut.k (k:=Sum.inr p.nm) a2 ∅,?_⟩;generalize u4:upd H3 wd _=H4;cbv;have e4:=putE u4;have T4:SameT H3 H4:=SameT.put u4 a2 rfl;refine c1 _ _ ⟨li,_,_,rfl,fun c u X h=>by rw [<- u4,Jag X];exact ho c u X h,hT.trans T4,e4,?_⟩;rw [take_succ,hp];exact hB.new (a:=p) (Jh4 O.nd hp) rfl
 ·rintro σ H3 ⟨hi,v3,kv,rfl,ho,hT,a2,hB⟩;rw [take_of_length_le ∅] at hB;have f9:Same H H3:=fun c u h=>ho c u (Jah h f8) (h8 _ _ h);cbv;refine ⟨len0,?_⟩;rename_i G Z j5 H3 H4 S4 e4;cbv;have c4:=f9.trans S4;have a0:H G=none:=JcA f9 Z;refine ⟨x,_,dx,_,rfl,c4 _ _ hx,rfl,rfl,x,ls,_,rfl,ht.same c4,by rw [length_map];ac_nf,fun m zs H5 S5 e3 e5 hZ=>?_⟩;have lZ:=hZ.length;rw [length_map] at lZ;have i0:m≠G:=fun z=>by rw [z,e4] at e3;cases e3
  have e6:=c4.trans S5;have d6:=S5 _ _ (S4 _ _ a2);cbv;refine ⟨m,rfl,ForA.byLN (xs:=zs) (SqL.of e5) (fun i σ N=>i<=zs.length/\(∀ e∈es.take i,0<=vl (roomF pl e.1))/\∃ (v5 v6 v7:Option V) (xs:List V) (I:List LidD),σ=[some (.ref x),some (.ref sc),some (.ref wd),v3,some (.ref G),v5,v6,v7]/\(∀ c u,c≠G->H5 c=some u->N c=some u)/\N G=some (.lst xs)/\All2 (LDV K Ad (cut G N)) I xs/\xs.Nodup/\(∀ v∈xs, ∃ q,v=.ref q/\H q=none/\N q≠none)/\I.length=i/\∀ (j:Nat) e l,es[j]?=some e->I[j]?=some l->LSt b ls pl e l) ⟨Nat.zero_le _,(fun e he=>by simp at he),none,none,none,[],[],rfl,fun _ _ _ h=>h,S5 _ _ e4,rfl, .nil,(fun v hv=>by cases hv),rfl,fun j e l _ h=>by simp at h⟩ (fun i σ N q=>by obtain ⟨_,_,_,_,_,_,_,_,q,_⟩:=q;exact SqL.of (q _ _ i0 e5)) ?_ ?_⟩
  ·rintro i y σ H6 W ⟨hi,b0,v5,v6,v7,xs,I,rfl,S,ex,hX,b8,a3,c2,b6⟩ N0 c1;have li:=(List.getElem?_eq_some_iff.mp W).1;have lX:=hX.length;obtain ⟨g,a7,a_,k5,j9,rfl,hb,_,_⟩:=hZ.at_ W;obtain ⟨e,a8,rfl⟩:∃ e,es[i]?=some e/\e.1=g:=by
    rw [List.getElem?_map] at a7;exact Option.map_eq_some_iff.mp a7
   have he:=List.mem_of_getElem? a8;have gm:e.1∈es.map (·.1):=mem_map.mpr ⟨e,he,rfl⟩;have C:Same H H6:=fun c u h=>S c u (Jah h a0) (e6 _ _ h);have g9:SameT H5 H6:=fun c u t h=>S c u (fun z=>by have:=S5 _ _ e4;rw [<- z,h] at this;cases this;simp [isTF] at t) h;have h9:wd≠G:=fun z=>by rw [<- z,a2] at Z;cases Z
   have g2:=S _ _ h9 d6;have a5:=hb.sameT g9;cbv;refine ⟨x,_,dx,_,rfl,C _ _ hx,rfl,rfl,?_⟩;refine ixT (i:=0) a5 rfl ?_;refine ⟨x,e.1.nm,ls,es.map (·.1),rfl,ht.same C,fun z=>absurd (mem_map.mpr ⟨e.1,gm,rfl⟩) z,fun g' a7 hz=>?_⟩;have i1:=O.gn e he g' a7 hz;subst i1;refine ⟨pl,O.gn e he,fun p hp q hq h=>Jig O.nd hp hq h,O.pok,O.plb,O.pls,O.tok e he,fun v H7 S7 fv=>?_⟩;have rb:=O.rb e he;have l0:=Jek (a:=roomF pl e.1) (c:=(0,1)) rb.b1 ⋯;rw [Jfp] at l0;unfold lessF at l0;cbv;refine ⟨v, .ref Ad.ZERO,_,_,0,1,rfl,fv,⟨Ad.ZERO,rfl,T.Bc9 _⟩,rb.s1.mono ⋯,rb.s2.mono ⋯, .lit ⋯ ⋯, .lit ⋯ ⋯,?_⟩;cbv;by_cases Y:vl (roomF pl e.1)<0
   ·rw [if_pos (l0.mpr Y)];cbv;refine ixT (i:=0) (a5.same S7) rfl ?_;refine ⟨by show 2<=sizeLine;ac_nf,fun ex g0=>?_⟩;obtain ⟨fI,k6,_,_,hI,_⟩:=k_Tight.ex;have g3:=JcA (C.trans S7) g0;refine ⟨ex,_,_,_,fI,rfl,Jaj,hI,fun f3 H8 i7 f5 f1 h7 i6=>⟨rfl,ex,_,_,fI,some f3,rfl,h7,hI,g3,?_⟩⟩;rw [Jag f1] at f5;have S8:∀ b u,H7 b=some u->unt H8 ex b=some u:=fun b u h=>by
     have hb:=Jah h g0;rw [Jdj hb];exact i7 b u hb (by rw [Jag hb];exact h)
    exact kT i e a8 Y b0 f3 (unt H8 ex) (fun b u h=>S8 _ _ ((C.trans S7) _ _ h)) (JcA (C.trans S7) f5) (by rw [Jdj f1];exact i6)
   have e0:0<=vl (roomF pl e.1):=Rat.not_lt.mp Y;have h5:∀ e'∈es.take (i+1),0<=vl (roomF pl e'.1):=fun e' d8=>by
    rw [take_succ,a8] at d8;rcases mem_append.mp d8 with q | q
    ·exact b0 e' q
    ·rw [mem_singleton.mp q];exact e0
   rw [if_neg (fun z=>absurd (l0.mp z) (Rat.not_lt.mpr e0))];cbv;have i8:=C.trans S7;refine ixT (i:=0) (a5.same S7) rfl ?_;refine ⟨x,ls,es.map (·.1),e.1,rfl,ht.same i8,O.nd,by ac_nf,gm,O.gn e he,fun nl w H8 S8 e8 hw b7=>?_⟩;have c5:=S7.trans S8;have f0:=c5 _ _ g2;have g1:∀ n∈w.map (·.1),n∈ls.map (·.nm):=fun n hn=>JeD (Jif hw) n hn;have lw:w.length<=12:=by
    have:=sub_len (w.map (·.1)) (ls.map (·.nm)) b7 fun n hn=>g1 n hn;rw [length_map,length_map] at this;ac_nf
   cbv;refine ⟨nl,rfl, .inl ⟨⟨_,SqL.of e8⟩,CompJ.list (xs:=(w.map (·.1)).map V.str) (fun j qs N=>Same H8 N/\∃ (as:List Addr) (D:List (Str × Int)),qs=as.map V.ref/\as.length=D.length/\(∀ (i:Nat) (a:Addr) (p:Str × Int),as[i]?=some a->D[i]?=some p->N a=some (.tup [.str p.1, .int p.2]))/\D.map (·.1)=(w.map (·.1)).take j/\∀ y∈D, ∃ p∈ls,p.nm=y.1/\p.wt=y.2) ⟨Same.refl _,[],[],rfl,rfl,(fun i a p h=>by simp at h),rfl,(fun y W=>by cases W)⟩ (fun j qs N hj z=>by
    obtain ⟨z1,as,D,rfl,B,_,d,_⟩:=z;have:=congrArg List.length d;rw [length_map,length_take,length_map] at this;exact ⟨SqL.of (z1 _ _ e8),by rw [length_map];ac_nf⟩) ?_ ?_⟩⟩
   ·rintro j y' qs H9 U ⟨S9,as,D,rfl,c6,c3,o,c0⟩;have lj:=(List.getElem?_eq_some_iff.mp U).1;rw [length_map] at lj;rw [List.getElem?_map,List.getElem?_eq_getElem lj] at U;obtain ⟨n,hn⟩:∃ n,n=(w.map (·.1))[j]:=⟨_,rfl⟩;rw [<- hn] at U;have U:y'=.str n:=(Option.some.inj U).symm;subst U;have i2:n∈ls.map (·.nm):=g1 n (by rw [hn];exact List.getElem_mem lj);obtain ⟨p,v',h0,i5,hv,j1⟩:=hB.some (z:=n) i2;simpa only [length_singleton,length_cons,length_nil,List.replicate,JaA,map_cons,map_nil,Option.join_some];refine ⟨wd,_,rfl,by rw [<- hv];exact DGet.k (k:=Sum.inr n) (S9 _ _ f0),?_⟩;rw [j1];refine ⟨by show 2<=sizeLine;ac_nf,?_⟩;rename_i t k7 k4 H9 d9 R b9;cbv;refine ⟨S9.trans R,as++[t],D++[(n,p.wt)],by simp,by simp [c6],fun i' a' p' B d=>?_,?_,fun y W=>?_⟩
    ·rcases Jbb B with B | ⟨q1,q2⟩
     ·rcases Jbb d with d | ⟨q3,q4⟩
      ·exact R _ _ (c3 i' a' p' B d)
      ·have:=(List.getElem?_eq_some_iff.mp B).1;ac_nf
     ·rcases Jbb d with d | ⟨q3,q4⟩
      ·have:=(List.getElem?_eq_some_iff.mp d).1;ac_nf
      ·rw [q2,q4];exact b9
    ·rw [map_append,o,take_succ,List.getElem?_eq_getElem lj, <- hn];rfl
    ·rcases mem_append.mp W with W | W
     ·exact c0 y W
     ·rw [mem_singleton.mp W];exact ⟨p,h0,i5,rfl⟩
   ·rintro qs H9 ⟨S9,as,D,rfl,c6,c3,o,c0⟩;rw [length_map,take_of_length_le (Nat.le_refl _)] at o;have k0:D.length<=12:=by have:=congrArg List.length o;rw [length_map,length_map] at this;ac_nf
    have f6:(D.map (·.1)).Nodup:=by rw [o];exact b7
    rename_i ql j3 j8 H9 d9 R b9;cbv;refine ⟨ql,as,D.map fun p=>(p.1,V.int p.2),rfl,b9,by rw [length_map];exact c6,fun i' a' p' B d=>?_,?_⟩
    ·rw [List.getElem?_map] at d;obtain ⟨h6,h3,rfl⟩:=Option.map_eq_some_iff.mp d;exact R _ _ (c3 i' a' h6 B h3)
    have i9:JdB (D.map fun p=>(p.1,V.int p.2))=wsK D:=by
     rw [Jie (by rw [map_map];exact f6),map_map];rfl
    rw [i9];rename_i od b4 j4 d9 l1 g8 e7;cbv;have b3:=S9.trans (R.trans g8);have r:=c5.trans b3;have c7:=C.trans r;have f2:=r _ _ ex;refine ⟨.inl ⟨rfl,_,SqL.of f2⟩,?_⟩;refine ixT (i:=0) (a5.same r) rfl ?_;refine ⟨sc,_,g6,_,rfl,c7 _ _ d0,rfl,rfl,?_⟩;refine ⟨sc,v,roomF pl e.1,b,fs,rfl,c9.same c7,FrV.same (S8.trans b3) fv,rb.mono ⋯ ⋯,fun pr t b5 a6 i4 hL=>?_⟩;cbv;intro q dq hq g5 j7;have e9:Same b5 (upd (upd b5 dq (.own q)) q (.ins Ad.Lid dq [])):=fun b u z=>by rw [Jag (Jah z hq),Jag (Jah z g5)];exact z
    refine ⟨q,dq,od,e.1.nm, .ref pr,D,rfl,Jaj,e9 _ _ (a6 _ _ e7),fun a9 f4 g7=>⟨rfl,?_⟩⟩;have J:Same b5 a9:=fun b u z=>by rw [g7 b (Jah z hq)];exact e9 _ _ z
    have M:=r.trans (a6.trans J);have b2:=M _ _ ex;have a4:H6 q=none:=JcA (r.trans a6) hq;refine ⟨G,xs,_,rfl,rfl,b2,by ac_nf,?_⟩;generalize a1:upd a9 G _=f7;cbv;have c8:=putE a1;have ec:cut G f7=cut G a9:=by rw [<- a1];exact Jf9
    have d7:q≠G:=fun z=>by rw [z,ex] at a4;cases a4
    have j0:od≠G:=fun z=>by rw [z,(c5.trans (S9.trans R)) _ _ ex] at b4;cases b4
    refine c1 _ _ ⟨li,h5,_,_,_,xs++[.ref q],I++[⟨e.1.nm,t,D,(D.map (·.2)).sum,(0,1)⟩],rfl,fun c u X h=>by rw [<- a1,Jag X];exact M _ _ (S c u X h),c8,?_,?_,fun v' L=>?_,by simp [c2],fun j e' l' B d=>?_⟩
    ·rw [ec];refine (hX.mono (P':=LDV K Ad (cut G a9)) fun _ _ z=>z.same M.cut).append (.one ⟨q,dq, .ref pr, .ref Ad.ZERO,od,rfl,?_,?_,⟨Ad.ZERO,rfl,T.Bc9 _⟩,?_⟩)
     ·rw [JbO d7];exact f4
     ·exact (FrV.of (J _ _ i4)).cut b2
     ·rw [JbO j0];exact J _ _ (a6 _ _ e7)
    ·refine nodup_append.mpr ⟨b8,by simp,fun u hu v' L z=>?_⟩;rw [mem_singleton.mp L] at z;obtain ⟨q',B,_,d⟩:=a3 u hu;rw [B] at z;cases z;exact d a4
    ·have h4:∀ c,H6 c≠none->f7 c≠none:=fun c h=>by
      by_cases cc:c=G
      ·rw [cc,c8];intro y;cases y
      ·cases hh:H6 c with
       | none=>exact absurd hh h
       | some u=>rw [<- a1,Jag cc,M _ _ hh];intro y;cases y
     rcases mem_append.mp L with L | L
     ·obtain ⟨q',B,d,h3⟩:=a3 v' L;exact ⟨q',B,d,h4 q' h3⟩
     ·rw [mem_singleton.mp L];exact ⟨q,rfl,JcA C a4,by rw [<- a1,Jag d7,f4];intro y;cases y⟩
    ·rcases Jbb d with d | ⟨q1,q2⟩
     ·exact b6 j e' l' B d
     ·rw [q1,c2,a8] at B;cases B;rw [q2];exact ⟨rfl,hL.vl rb.b1,(hL.fb rb sb).mono ⋯ ⋯,by rw [o];exact (O.way e he w hw b7).symm,f6,c0,rfl,rfl⟩
  ·rintro σ H6 ⟨hi,b0,v5,v6,v7,xs,I,rfl,S,ex,hX,b8,a3,c2,b6⟩;cbv;exact k (fun e he=>b0 e (by rw [take_of_length_le ∅];exact he)) G xs I H6 (fun c u h=>S c u (Jah h a0) (e6 _ _ h)) a0 ex (hX.mono fun _ _ z=>z.same Jc2) b8 (fun v hv=>by obtain ⟨q,B,d,_⟩:=a3 v hv;exact ⟨q,B,d⟩) ∅ b6
abbrev BaF:Stmt:=top 34
theorem Jb9:Jan ["thing","scale","told","part"] ["thing","scale"] (Jae BaF):=by bv_decide
def Jcd (K:W.Frag) (Ad:Adr):Sp:=fun vs H Q E=>∃ (x sc:Addr) (ls:List PD) (gs:List GD) (b:Int) (fs:List Int),vs=[.ref x, .ref sc]/\TK K Ad H x ls gs/\SCK Ad H sc b fs/\ls.length<=12/\(ls.map (·.nm)).Nodup/\(∀ p∈ls,FB 200 12 p.mo/\1<=p.wt/\Mth.Sz 21 p.wt)/\∀ md kv ms H',Same H H'->H md=none->H' md=some (.dK kv)->BG (·.1) (NFV K H') ms kv->ms.length=ls.length->(∀ (i:Nat) p m,ls[i]?=some p->ms[i]?=some m->MSt b p m)->Q (.ref md) H'
theorem Jer (F:FunD K "most_levels" "most_levels" BaF dV f fd) (T:Txt K mg Ad) (BaK:MCal P w K mg base 2 "parts" (Ja9 Ad) ["self"] (JaY K Ad)) (BbP:MCal P w K mg base 2 "lifted" (Jdk Ad) ["self","number"] (Jbp K Ad)) (BcE:Cal P w K mg base 3 "over" ["one","other"] [] (Jfi K Ad)):FnOk P w K mg base (CX1 P w) 4 f fd ["thing","scale"] (Jcd K Ad):=by
 refine F.okn Jb9 (by subst_eqs) (fun b2 A a1 s H vs Q E hr h=>?_)
 obtain ⟨x,U,ls,gs,b,fs,rfl,h⟩:=h;have hu:=hr.units;refine ⟨_,(Jab (Jak 2 Jb9.nd JbC) (Jab (Ja8 PassesOwn.never rfl (pi_U (BaK.m0 hr ⋯ passF (pv 0))) (Jap 3 Jb9.nd) (Jai (Jb8 (hu1 hu) (pv 2) (pe_ix ix_U (pv 3) Jac) (BcE.ev hr ⋯ rfl passF (Jaa (BbP.m hr ⋯ passF (pv 1) (Jaa (pe_ix ix_U (pv 3) Jac) Jad)) (Jaa (JaO (Jaa (pe_ix ix_U (pv 3) Jac) (Jaa Jac Jad))) Jad))) rfl))) (Jai (Jaq (pv 2))))),?_⟩
 clear hu;obtain ⟨ht,I,b0,a0,a3,k⟩:=h;obtain ⟨dx,d1,d2,d3,k1,k2,k3,hx,_⟩:=id ht;obtain ⟨a2,fl,J,_,L,sb,_⟩:=id I;have sl:(1000:Nat)<=sizeLine:=by decide
 have b1:=L.b1;show tSeq _ _ _ [some (.ref x),some (.ref U),none,none] H;cbv;rename_i C e a9 H H1 S1 e1;cbv;refine ⟨x,_,dx,_,rfl,S1 _ _ hx,rfl,rfl,x,ls,_,rfl,ht.same S1,by ac_nf,fun l ys H2 S2 N e2 hY=>?_⟩;have lY:=hY.length;have a6:l≠C:=fun z=>by rw [z,e1] at N;cases N
 have O:=S1.trans S2;cbv;refine ⟨l,rfl,ForA.byLN (xs:=ys) (SqL.of e2) (fun i σ S=>i<=ys.length/\∃ (v3:Option V) (M:List (Key × V)) (r:List (Str × Fr2)),σ=[some (.ref x),some (.ref U),some (.ref C),v3]/\(∀ c u,c≠C->H2 c=some u->S c=some u)/\SameT H2 S/\S C=some (.dK M)/\BG (·.1) (NFV K S) r M/\r.map (·.1)=(ls.take i).map (·.nm)/\∀ (j:Nat) p m,ls[j]?=some p->r[j]?=some m->MSt b p m) ⟨Nat.zero_le _,none,[],[],rfl,fun _ _ _ h=>h,SameT.refl _,S2 _ _ e1,⟨rfl,rfl⟩,rfl,fun j p m _ h=>by simp at h⟩ (fun i σ S q=>by obtain ⟨_,_,_,_,_,q,_⟩:=q;exact SqL.of (q _ _ a6 e2)) ?_ ?_⟩
 ·rintro i y σ Y hy ⟨hi,v3,M,r,rfl,ho,X,v,hB,d,D⟩ N0 a4;have li:=(List.getElem?_eq_some_iff.mp hy).1;obtain ⟨p,Z,b_,vz,vm,rfl,hb,_,hm⟩:=hY.at_ hy;obtain ⟨mb,w1,ws⟩:=a3 p (List.mem_of_getElem? Z);have lB:=hB.length;have a5:r.length=i:=by have:=congrArg List.length d;rw [length_map,length_map,length_take] at this;ac_nf
  have B:=hb.sameT X;have W:Same H Y:=fun c u h=>ho c u (Jah h e) (O _ _ h);cbv;refine ⟨U,_,a2,_,rfl,W _ _ J,rfl,rfl,?_⟩;refine ixT (i:=4) B rfl ?_;refine ⟨U,vm,p.mo,b,fs,rfl,I.same W,hm.sameT X,mb.mono ⋯ ⋯,fun pr t H4 S4 e4 hL=>?_⟩;cbv;refine ixT (i:=5) (B.same S4) rfl ?_;cbv;refine ⟨len2,?_⟩;rename_i wp a7 a8 H4 H5 S5 e5;cbv;have o:=hL.fb mb sb;refine ⟨.ref pr, .ref wp,_,_,p.wt,1,rfl,FrV.of (S5 _ _ e4),FrV.of e5,o.s1.mono ⋯,o.s2.mono ⋯,ws.mono ⋯, .lit ⋯ ⋯,o.b1,by decide,o.g1,by unfold Mth.g;simp,fun z=>absurd z ∅,fun _ p2 H6 S6 e6=>?_⟩;have e6:H6 p2=some (.tup [.int (divF t (p.wt,1)).1, .int (divF t (p.wt,1)).2]):=e6;have n:=S4.trans (S5.trans S6);cbv;refine ixT (i:=0) (B.same n) rfl ?_;refine ⟨C,_,rfl,DPut.k (k:=Sum.inr p.nm) (n _ _ v) ∅,?_⟩;generalize u7:upd H6 C _=H7;cbv;have e7:=putE u7;have T7:SameT H6 H7:=SameT.put u7 (n _ _ v) rfl;have R:SameT Y H7:=n.t.trans T7;have nn:p.nm∉r.map (·.1):=by rw [d];exact Jh4 a0 Z
  refine a4 _ _ ⟨li,_,_,r++[(p.nm,divF t (p.wt,1))],rfl,fun c u G h=>by rw [<- u7,Jag G];exact n _ _ (ho c u G h),X.trans R,e7,?_,?_,fun j p' m' h1 h2=>?_⟩
  ·exact (hB.mono (P':=NFV K H7) fun _ _ z=>z.sameT R).new (a:=(p.nm,divF t (p.wt,1))) nn (FrV.of (T7 _ _ rfl e6))
  ·rw [map_append,d,take_succ,Z,map_append];rfl
  ·rcases Jbb h2 with h2 | ⟨q1,q2⟩
   ·exact D j p' m' h1 h2
   ·rw [q1,a5,Z] at h1;cases h1;rw [q2];have dl:=Jkp (a:=t) (c:=(p.wt,1)) o.b1 w1;refine ⟨rfl,?_,?_,?_,dl.b1,dl.g1⟩
    ·show vl (divF t (p.wt,1))=_;rw [Jka o.b1 w1 (Int.le_refl 1),Jf2,hL.vl mb.b1]
    ·exact Mth.Sz.top (by have:=Jcf o.b1 w1;show t.2*p.wt≠0;ac_nf) (by rw [Int.mul_one];exact o.s1)
    ·exact (Mth.Sz.bot (t:=t.1*1) (b:=t.2*p.wt) (by have:=Jcf o.b1 w1;ac_nf) (o.s2.mul ws)).mono ⋯
 ·rintro σ Y ⟨hi,v3,M,r,rfl,ho,X,v,hB,d,D⟩;rw [take_of_length_le ∅] at d;cbv;exact k C M r Y (fun c u h=>ho c u (Jah h e) (O _ _ h)) e v hB (by simpa using congrArg List.length d) D
abbrev Baw:Stmt:=top 35
theorem JbV:Jan ["mosts","lids","levels","stops","lid"] ["mosts","lids","levels"] (Jae Baw):=by bv_decide
def JbZ (K:W.Frag) (Ad:Adr):Sp:=fun vs H Q E=>∃ (md ll ld:Addr) (kvm:List (Key × V)) (ms:List (Str × Fr2)) (xs:List V) (lds:List LidD) (kvl:List (Key × V)) (lvs:List (Str × Fr2)),vs=[.ref md, .ref ll, .ref ld]/\H md=some (.dK kvm)/\BG (·.1) (NFV K H) ms kvm/\H ll=some (.lst xs)/\All2 (LDV K Ad H) lds xs/\H ld=some (.dK kvl)/\BG (·.1) (NFV K H) lvs kvl/\ms.length<=12/\lds.length<=7/\(∀ e∈lds,FB 3000 1000 e.rest/\Mth.Sz 64 e.load/\e.ws.length<=12)/\(ms.map (·.1)).Nodup/\∀ sl ys H',Same H H'->H' sl=some (.lst ys)->All2 (StV K H') (stF ms lds (lvs.map (·.1))) ys->Q (.ref sl) H'
theorem Jd4 (F:FunD K "coming_stops" "coming_stops" Baw dV f fd) (T:Txt K mg Ad) (m_full_level:MCal P w K mg base 4 "full_level" (IsLid Ad) ["self"] (Jbw K Ad)):FnOk P w K mg base (CX1 P w) 5 f fd ["mosts","lids","levels"] (JbZ K Ad):=by
 refine F.okn JbV (by subst_eqs) (fun e2 A b7 s H vs Q E hr h=>?_)
 obtain ⟨r,ll,ld,c,ms,xs,I,d6,a,rfl,h⟩:=h;have hu:=hr.units;refine ⟨_,(Jab (Jk2 (Jcm (j:=3) (own:=["name"]) (cs:=[(0,"mosts"),(2,"levels")]) JbV.nd rfl (Or.inl rfl) rfl (Jik (pv 0)) (fun _ _ _ _=>(Jap 0 (show [("name" : Str),("mosts" : Str),("levels" : Str)].Nodup by decide))) (fun _ _ _ _=>(Jeb (Jc9 (hu1 hu) (pv 0) (pv 2)) (by with_unfolding_all rfl))) (fun _ _ _ _=>(JaO (Jaa (JbU (hu1 hu) (pv 1) (pv 0) (fun _ _=>rfl)) (Jaa (Jbg (Jaa (pv 0) Jad)) Jad)))) (JdP rfl) ⋯ rfl ⋯ (hcs2 rfl rfl rfl rfl rfl rfl))) (Jab (Ja8 PassesOwn.never rfl (pi_U (pv 1)) (Jap 4 JbV.nd) (Jai (ps_if (JaC JfO (Jas (pv 4) rfl) Jac (Jaw _)) (Jai (Jba (pe_bm PySem.F.plainAttrs_list PySem.F.slot_list_append PySem.F.type_list_append Ja3 (pv 3) (Jaa (JaO (Jaa (m_full_level.m0 hr ⋯ passF (pv 4)) (Jaa (Jgu (JfR (own:=["name"]) (cs:=[(2,"levels")]) rfl (Jik (Jas (pv 4) rfl)) (fun _ _ _ _=>(Jap 0 (show [("name" : Str),("levels" : Str)].Nodup by decide))) (fun _ _ _ _=>(Jeb (Jc9 (hu1 hu) (pv 0) (pv 1)) (by with_unfolding_all rfl))) (fun _ _ _ _=>(pv 0)) (JdP rfl) ⋯ rfl ⋯ (hcs1 rfl rfl rfl))) Jad))) Jad) (hs:=by exact Jaf rfl))))
   Jax))) (Jai (Jaq (pv 3))))),?_⟩
 clear hu;obtain ⟨hm,bm,hl,hX,hv,bl,d3,l7,d2,c8,k⟩:=h;have sz:(1000:Nat)<=sizeLine:=by decide
 have lX:=hX.length;show tSeq _ _ _ [some (.ref r),some (.ref ll),some (.ref ld),none,none] H;mleave;refine ⟨r,c,hm,r,c,ms.map (·.1),rfl,hm,bm.keysS,fun od=>?_⟩;generalize uf:upd H r (.frz od (.dK c))=H1;mleave;have f1:H1 r=some (.frz od (.dK c)):=by rw [<- uf,Jaj]
 have t1:thw r c H1=H:=by rw [<- uf];exact JiK hm
 refine JbI.keys (fun i Y C=>C r=some (.frz od (.dK c))/\Same H (thw r c C)/\All2 (StV K (thw r c C)) (((ms.take i).filter fun m=>decide (m.1∉a.map (·.1))).map fun m=>(m.2,[m.1])) Y) ⟨f1,by rw [t1];exact Same.refl _,rfl⟩ (fun i Y C hi z=>⟨z.1,by
  have h1:=z.2.2.length;rw [length_map] at h1;have h2:=length_filter_le (fun m:Str × Fr2=>decide (m.1∉a.map (·.1))) (ms.take i);rw [length_take] at h2;ac_nf⟩) ?_ ?_
 ·rintro i z Y H2 hz ⟨L,S2,hA⟩;rw [List.getElem?_map] at hz;obtain ⟨m,S,W⟩:=Option.map_eq_some_iff.mp hz;have W:m.1=z:=W;subst W;have a8:=List.mem_of_getElem? S;simpa only [length_singleton,length_cons,length_nil,List.replicate,JaA,map_cons,map_nil,Option.join_some];refine ⟨ld,_,rfl,JiL (k:=Sum.inr m.1) L (S2 _ _ hv),?_⟩;rw [bl.val];by_cases g:m.1∈a.map (·.1)
  ·rw [decide_eq_true g];mleave;refine ⟨L,S2,?_⟩;rw [take_succ,S,filter_append,map_append];have : [m].filter (fun m=>decide (m.1∉a.map (·.1)))=[]:=List.filter_eq_nil_iff.mpr fun x G=>by rw [mem_singleton.mp G];simpa using g
   rw [show (some m).toList=[m] from rfl,this,map_nil,append_nil];exact hA
  ·rw [decide_eq_false g];mleave;obtain ⟨a',v,d0,b8,c7,c2⟩:=bm.some (z:=m.1) (mem_map.mpr ⟨m,a8,rfl⟩);have ea:=JgL c8 d0 a8 b8;subst ea;refine ⟨r,v,rfl,by rw [<- c7];exact DGet.f (k:=Sum.inr a'.1) L,?_⟩;mleave;refine ⟨by show 1<=sizeLine;ac_nf,?_⟩;rename_i l a7 d4 H2 H3 S3 e3;mleave;refine ⟨by show 2<=sizeLine;ac_nf,?_⟩;rename_i t c9 c6 H3 H4 S4 e4;mleave;have b5:=S3.trans S4;have f4:=b5 _ _ L;have St:=Jfm (d:=r) (kv:=c) b5;refine ⟨f4,S2.trans St,?_⟩;rw [take_succ,S,filter_append,map_append];have : [a'].filter (fun m=>decide (m.1∉a.map (·.1)))=[a']:=List.filter_eq_self.mpr fun x G=>by rw [mem_singleton.mp G];simpa using g
   rw [show (some a').toList=[a'] from rfl,this];exact (hA.mono (P':=StV K (thw r c H4)) fun _ _ z=>z.same St).append (.one ⟨t,v,l,rfl,SqT.of (JgY f4 e4 (by intro o w z;cases z)),FrV.same (S2.trans St) c2,JgY f4 (S4 _ _ e3) (by intro o w z;cases z)⟩)
 ·rintro Y H2 ⟨L,S2,hA⟩;rw [length_map,take_of_length_le (Nat.le_refl _)] at hA;rename_i B R d7 H2 H3 S3 e3;mleave;refine ⟨od,c,S3 _ _ L,?_⟩;obtain ⟨H4,a1⟩:∃ H4,H4=thw r c H3:=⟨_,rfl⟩;rw [show upd H3 r (.dK c)=H4 from a1.symm];mleave;have St:=Jfm (d:=r) (kv:=c) S3;rw [<- a1] at St;have b4:=S2.trans St;have e4:H4 B=some (.lst Y):=by rw [a1];exact JgY (S3 _ _ L) e3 (by intro o w z;cases z)
  have O:H B=none:=JcA S2 (Jfl L R);have c4:All2 (StV K (cut B H4)) ((ms.filter fun m=>decide (m.1∉a.map (·.1))).map fun m=>(m.2,[m.1])) Y:=hA.mono fun _ _ z=>z.same fun b u h=>by
   rw [JbO (fun y=>by rw [y,Jfl L R] at h;cases h)];exact St b u h
  have d8:(ms.filter fun m=>decide (m.1∉a.map (·.1))).length<=12:=Nat.le_trans (length_filter_le _ _) d3;have d9:ll≠B:=fun z=>by rw [z,O] at hl;cases hl
  refine ⟨ll,rfl,ForA.byLN (xs:=xs) (SqL.of (b4 _ _ hl)) (fun i σ C=>i<=xs.length/\∃ (v4:Option V) (N:List V) (st:List (Fr2 × List Str)),σ=[some (.ref r),some (.ref ll),some (.ref ld),some (.ref B),v4]/\Same H C/\C B=some (.lst N)/\All2 (StV K (cut B C)) st N/\st.length<=12+i/\st=(ms.filter fun m=>decide (m.1∉a.map (·.1))).map (fun m=>(m.2,[m.1]))++((I.take i).filter fun e=>decide (0<e.load)).map fun e=>(divF e.rest (e.load,1),(e.ws.map (·.1)).filter fun n=>decide (n∉a.map (·.1)))) ⟨Nat.zero_le _,none,Y,_,rfl,b4,e4,c4,by rw [length_map];ac_nf,by rw [take_zero];simp⟩ (fun i σ C q=>by obtain ⟨_,_,_,_,_,q,_⟩:=q;exact SqL.of (q _ _ hl)) ?_ ?_⟩
  ·rintro i y σ H5 hy ⟨hi,v4,N,st,rfl,S5,ez,hZ,c1,D⟩ N0 a9;have li:=(List.getElem?_eq_some_iff.mp hy).1;obtain ⟨e,b2,hd⟩:=hX.at_ hy;have c5:=List.mem_of_getElem? b2;obtain ⟨c3,b9,e0⟩:=d2 e c5;have a5:=hd.same S5;obtain ⟨q,dx,vr,vt,J,rfl,hq,hr,e1,hw⟩:=id a5;have tc:=T.c_Lid Ad.Lid rfl;have lZ:=hZ.length;mleave;refine ⟨q,_,dx,_, .int e.load,rfl,hq,tc.cls,tc.n4,rfl,?_⟩;mleave;have a6:I.take (i+1)=I.take i++[e]:=by rw [take_succ,b2];rfl
   by_cases c0:0<e.load
   ·rw [if_pos (by simpa using c0)];mleave;refine ⟨.inl ⟨rfl,_,SqL.of ez⟩,?_⟩;refine ⟨q,_,dx,_,rfl,hq,rfl,rfl,?_⟩;refine ⟨q,e,rfl,a5,c3,by ac_nf,b9,fun p H6 S6 e6=>?_⟩;mleave;have a0:=S6 _ _ hw;refine ⟨J,_,a0,q,_,dx,_, .ref J,rfl,S6 _ _ hq,tc.cls,tc.n3,rfl,J,wsK e.ws,e.ws.map (·.1),rfl,a0,JjC e.ws,fun a2=>?_⟩;generalize ug:upd H6 J (.frz a2 (.dK (wsK e.ws)))=H7;mleave;have f7:H7 J=some (.frz a2 (.dK (wsK e.ws))):=by rw [<- ug,Jaj]
    have t7:thw J (wsK e.ws) H7=H6:=by rw [<- ug];exact JiK a0
    have d1:=S5.trans S6;refine JbI.keys (fun j qs C=>C=H7/\qs=(((e.ws.map (·.1)).take j).filter fun n=>decide (n∉a.map (·.1))).map V.str) ⟨rfl,by rw [take_zero];rfl⟩ (fun j qs C hj z=>⟨by rw [z.1];exact f7,by
     rw [z.2,length_map];have h2:=length_filter_le (fun n:Str=>decide (n∉a.map (·.1))) ((e.ws.map (·.1)).take j);rw [length_take,length_map] at h2;ac_nf⟩) ?_ ?_
    ·rintro j z qs H8 hz ⟨Z,M⟩;subst Z;subst M;simpa only [length_singleton,length_cons,length_nil,List.replicate,JaA,map_cons,map_nil,Option.join_some];refine ⟨ld,_,rfl,JiL (k:=Sum.inr z) f7 (by rw [t7];exact d1 _ _ hv),?_⟩;rw [bl.val];have b0:(e.ws.map (·.1)).take (j+1)=(e.ws.map (·.1)).take j++[z]:=by rw [take_succ,hz];rfl
     by_cases g:z∈a.map (·.1)
     ·rw [decide_eq_true g];mleave;rw [b0,filter_append,show [z].filter (fun n=>decide (n∉a.map (·.1)))=[] from List.filter_eq_nil_iff.mpr fun x G=>by rw [mem_singleton.mp G];simpa using g,append_nil]
     ·rw [decide_eq_false g];mleave;rw [b0,filter_append,show [z].filter (fun n=>decide (n∉a.map (·.1)))=[z] from List.filter_eq_self.mpr fun x G=>by rw [mem_singleton.mp G];simpa using g,map_append];rfl
    ·rintro qs H8 ⟨Z,M⟩;subst Z;rw [take_of_length_le (Nat.le_refl _)] at M;subst M;rename_i l a7 d4 H8 H9 S9 e9;mleave;refine ⟨a2,_,S9 _ _ f7,?_⟩;obtain ⟨HA,X⟩:∃ HA,HA=thw J (wsK e.ws) H9:=⟨_,rfl⟩;rw [show upd H9 J (.dK (wsK e.ws))=HA from X.symm];have Su:=Jfm (d:=J) (kv:=wsK e.ws) S9;rw [t7, <- X] at Su;have eA:HA l=some (.lst (((e.ws.map (·.1)).filter fun n=>decide (n∉a.map (·.1))).map V.str)):=by rw [X];exact JgY (S9 _ _ f7) e9 (by intro o w z;cases z)
     mleave;refine ⟨len2,?_⟩;rename_i t c9 c6 HA HB SB eB;mleave;have a3:=S6.trans (Su.trans SB);have a4:=a3 _ _ ez;refine ⟨B,N,_,rfl,rfl,a4,by ac_nf,?_⟩;generalize U:upd HB B _=b6;mleave;have d5:=putE U;have ec:cut B b6=cut B HB:=by rw [<- U];exact Jf9
     have b3:H6 l=none:=by rw [<- t7];exact Jfl f7 a7
     have b1:l≠B:=fun z=>by rw [z,S6 _ _ ez] at b3;cases b3
     refine a9 _ _ ⟨li,_,N++[.ref t],st++[(divF e.rest (e.load,1),(e.ws.map (·.1)).filter fun n=>decide (n∉a.map (·.1)))],rfl,fun b u h=>by rw [<- U,Jag (Jah h O)];exact a3 _ _ (S5 _ _ h),d5,?_,by simp;ac_nf,?_⟩
     ·rw [ec];refine (hZ.mono (P':=StV K (cut B HB)) fun _ _ z=>z.same a3.cut).append (.one ⟨t, .ref p,l,rfl,SqT.cut a4 (SqT.of eB),FrV.cut a4 (FrV.of (SB _ _ (Su _ _ e6))),?_⟩);rw [JbO b1];exact SB _ _ eA
     ·rw [D,a6,filter_append,show [e].filter (fun e=>decide (0<e.load))=[e] from List.filter_eq_self.mpr fun x G=>by rw [mem_singleton.mp G];simpa using c0,map_append, <- List.append_assoc];rfl
   ·rw [if_neg (by simpa using c0)];mleave;refine a9 _ _ ⟨li,_,N,st,rfl,S5,ez,hZ,by ac_nf,?_⟩;rw [D,a6,filter_append,show [e].filter (fun e=>decide (0<e.load))=[] from List.filter_eq_nil_iff.mpr fun x G=>by rw [mem_singleton.mp G];simpa using c0,append_nil]
  ·rintro σ H5 ⟨hi,v4,N,st,rfl,S5,ez,hZ,c1,D⟩;rw [take_of_length_le ∅] at D;mleave;refine k B N H5 S5 ez ?_;unfold stF;rw [<- D];exact hZ.mono fun _ _ z=>z.cut
abbrev BaG:Stmt:=top 36
theorem JbD:Jan ["stops","found","stop"] ["stops"] (Jae BaG):=by bv_decide
def Jcb (K:W.Frag):Sp:=fun vs H Q E=>∃ (sl:Addr) (ys:List V) (st:List (Fr2 × List Str)),vs=[.ref sl]/\SqL K H sl ys/\All2 (StV K H) st ys/\st≠[]/\(∀ s∈st,FB 3000 1200 s.1)/\∀ v (L:Fr2),L∈st.map (·.1)->(∀ s∈st,vl L<=vl s.1)->FrV K H v L.1 L.2->Q v H
theorem Jeo (F:FunD K "first_level" "first_level" BaG dV f fd) (T:Txt K mg Ad) (BaJ:Cal P w K mg base 1 "under" ["one","other"] [] (Jcx K)):FnOk P w K mg base (CX1 P w) 2 f fd ["stops"] (Jcb K):=by
 refine F.okn JbD (by subst_eqs) (fun a0 A R s H vs Q E hr h=>?_)
 obtain ⟨p,U,O,rfl,h⟩:=h;refine ⟨_,(Jab (Jak 1 JbD.nd (pe_ix ix_U (pe_ix ix_U (pv 0) Jac) Jac)) (Jab (Ja8 PassesOwn.never rfl (pi_U (pv 0)) (Jap 2 JbD.nd) (Jai (ps_if (Jbh (BaJ.ev hr ⋯ rfl passF (Jaa (pe_ix ix_U (pv 2) Jac) (Jaa (pv 1) Jad)))) (Jai (Jak 1 JbD.nd (pe_ix ix_U (pv 2) Jac)))
   Jax))) (Jai (Jaq (pv 1))))),?_⟩
 obtain ⟨Z,X,W,j,k⟩:=h;have lA:=X.length;obtain ⟨g,r,rfl⟩:∃ g r,O=g::r:=by cases O with | nil=>exact absurd rfl W | cons a b=>exact ⟨a,b,rfl⟩
 obtain ⟨y0,N,t0,v0,l0,rfl,G,S,_⟩:=X.get (i:=0) rfl;show tSeq _ _ _ [some (.ref p),none,none] H;cbv;refine ixL (i:=0) Z N ?_;cbv;refine ixT (i:=0) G rfl ?_;cbv;refine ⟨p,rfl,ForA.byLN (xs:=U) Z (fun i σ x=>i<=U.length/\x=H/\∃ (v:V) (L:Fr2) (D:Option V),σ=[some (.ref p),some v,D]/\FrV K H v L.1 L.2/\L∈(g::r).map (·.1)/\∀ s∈(g::r).take i,vl L<=vl s.1) ⟨Nat.zero_le _,rfl,v0,g.1,none,rfl,S,by simp,(fun s n=>by simp at n)⟩ (fun i σ x q=>by rw [q.2.1];exact Z) ?_ ?_⟩
 ·rintro i y σ x hy ⟨hi,rfl,v,L,D,rfl,B,u,d⟩ N0 o;have li:=(List.getElem?_eq_some_iff.mp hy).1;obtain ⟨s,n,t,w,l,rfl,ht,hw,_⟩:=X.at_ hy;have fs:=j s (List.mem_of_getElem? n);obtain ⟨sL,Y,J⟩:=mem_map.mp u;have I:FB 3000 1200 L:=J ▸ j sL Y;have m:(g::r).take (i+1)=(g::r).take i++[s]:=by rw [take_succ,n];rfl
  have M:=Jek (a:=s.1) (c:=L) fs.b1 I.b1;unfold lessF at M;cbv;refine ixT (i:=0) ht rfl ?_;refine ⟨w,v,_,_,_,_,rfl,hw,B,fs.s1.mono ⋯,fs.s2.mono ⋯,I.s1.mono ⋯,I.s2.mono ⋯,?_⟩;cbv;by_cases c:decide (s.1.1*L.2<L.1*s.1.2)=true
  ·rw [if_pos c];cbv;refine ixT (i:=0) ht rfl ?_;cbv;have lt:=M.mp c;refine o _ _ ⟨li,rfl,w,s.1,_,rfl,hw,mem_map.mpr ⟨s,List.mem_of_getElem? n,rfl⟩,fun C e=>?_⟩;rw [m] at e;rcases mem_append.mp e with h | h
   ·exact Rat.le_trans (Rat.le_of_lt lt) (d C h)
   ·rw [mem_singleton.mp h];exact Rat.le_refl
  ·rw [if_neg c];cbv;refine o _ _ ⟨li,rfl,v,L,_,rfl,B,u,fun C e=>?_⟩;rw [m] at e;rcases mem_append.mp e with h | h
   ·exact d C h
   ·rw [mem_singleton.mp h];exact Rat.not_lt.mp fun z=>c (M.mpr z)
 ·rintro σ x ⟨hi,rfl,v,L,D,rfl,B,u,d⟩;rw [take_of_length_le ∅] at d;cbv;exact k v L u d B
abbrev BaR:Stmt:=top 37
theorem JbR:Jan ["stops","level","names","stop","name"] ["stops","level"] (Jae BaR):=by bv_decide
def Jcw (K:W.Frag):Sp:=fun vs H Q E=>∃ (sl:Addr) (lv:V) (ys:List V) (st:List (Fr2 × List Str)) (L:Fr2) (N:List Str),vs=[.ref sl,lv]/\SqL K H sl ys/\All2 (StV K H) st ys/\FrV K H lv L.1 L.2/\N.length<=20/\(∀ s∈st, ∀ n∈s.2,n∈N)/\∀ (l:Addr) (ns:List Str) (H':Hp),Same H H'->H' l=some (.lst (ns.map V.str))->ns.Nodup->(∀ n,n∈ns↔∃ s∈st,s.1=L/\n∈s.2)->Q (.ref l) H'
theorem Je5 (F:FunD K "stopped_at" "stopped_at" BaR dV f fd) (T:Txt K mg Ad)  : FnOk P w K mg base (CX1 P w) 1 f fd ["stops","level"] (Jcw K):=by
 refine F.okn JbR (by subst_eqs) (fun a8 A a1 s H vs Q E hr h=>?_)
 obtain ⟨sl,lv,ys,st,L,N,rfl,h⟩:=h;have hu:=hr.units;refine ⟨_,(Jab (Jak 2 JbR.nd JbC) (Jab (Ja8 PassesOwn.never rfl (pi_U (pv 0)) (Jap 3 JbR.nd) (Jai (ps_if (JaC (JbJ hu) (pe_ix ix_U (pv 3) Jac) (pv 1) (Jaw _)) (Jai (Ja8 PassesOwn.never rfl (pi_U (pe_ix ix_U (pv 3) Jac)) (Jap 4 JbR.nd) (Jai (Jb8 (hu1 hu) (pv 2) (pv 4) pe_bl rfl))))
   Jax))) (Jai (Jaq (Jd8 (Jg7 rfl) rfl T.Bds Jf5 (Jaa (pv 2) Jad)))))),?_⟩
 clear hu;obtain ⟨hS,hA,hL,a5,hN,k⟩:=h;have sz:(1000:Nat)<=sizeLine:=by decide
 have lA:=hA.length;show tSeq _ _ _ [some (.ref sl),some lv,none,none,none] H;cbv;rename_i R M a3 H H1 S1 e1;cbv;refine ⟨sl,rfl,ForA.byLN (xs:=ys) (hS.same S1) (fun i σ U=>i<=ys.length/\∃ (v3 O:Option V) (r:List (Key × V)) (B:List Str),σ=[some (.ref sl),some lv,some (.ref R),v3,O]/\Same H U/\U R=some (.dK r)/\r.map (·.1)=B.map Sum.inr/\B.Nodup/\∀ n,n∈B↔∃ s∈st.take i,s.1=L/\n∈s.2) ⟨Nat.zero_le _,none,none,[],[],rfl,S1,e1,rfl, .nil,fun n=>by simp⟩ (fun i σ U q=>by obtain ⟨_,_,_,_,_,_,q,_⟩:=q;exact hS.same q) ?_ ?_⟩
 ·rintro i y σ H2 hy ⟨hi,v3,O,r,B,rfl,G,e2,hk,C,d⟩ N0 Y;have li:=(List.getElem?_eq_some_iff.mp hy).1;obtain ⟨s,hs,t,w,l,rfl,ht,hw,hl⟩:=hA.at_ hy;have a2:=List.mem_of_getElem? hs;have X:st.take (i+1)=st.take i++[s]:=by rw [take_succ,hs];rfl
  cbv;refine ixT (i:=0) (ht.same G) rfl ?_;refine eqF (hw.same G) (hL.same G) ?_;have ee:(decide (s.1.1=L.1)&&decide (s.1.2=L.2))=decide (s.1=L):=by
   rw [<- Bool.decide_and];exact decide_eq_decide.mpr Prod.ext_iff.symm
  rw [ee];cbv;by_cases c:s.1=L
  ·rw [if_pos (by simpa using c)];cbv;refine ixT (i:=1) (ht.same G) rfl ?_;cbv;have a6:l≠R:=Jah hl M;refine ⟨l,rfl,ForA.byLN (xs:=s.2.map V.str) (SqL.of (G _ _ hl)) (fun j σ U=>j<=(s.2.map V.str).length/\∃ (O:Option V) (r:List (Key × V)) (ns':List Str),σ=[some (.ref sl),some lv,some (.ref R),some (.ref t),O]/\Same H U/\U R=some (.dK r)/\r.map (·.1)=ns'.map Sum.inr/\ns'.Nodup/\∀ n,n∈ns'↔n∈B\/n∈s.2.take j) ⟨Nat.zero_le _,O,r,B,rfl,G,e2,hk,C,fun n=>by simp⟩ (fun j σ U q=>by obtain ⟨_,_,_,_,_,q,_⟩:=q;exact SqL.of (q _ _ hl)) ?_ ?_⟩
   ·rintro j z σ H3 hz ⟨hj,O,D,e,rfl,Z,e3,o,m,a⟩ N1 a0;have lj:=(List.getElem?_eq_some_iff.mp hz).1;rw [List.getElem?_map] at hz;obtain ⟨n,hn,rfl⟩:=Option.map_eq_some_iff.mp hz;have lk:D.length=e.length:=by simpa using congrArg List.length o
    have lN:e.length<=N.length:=sub_len e N m fun x hx=>by
     rcases (a x).mp hx with h | h
     ·obtain ⟨I,g,_,p⟩:=(d x).mp h;exact hN I (List.mem_of_mem_take g) x p
     ·exact hN s a2 x (List.mem_of_mem_take h)
    cbv;refine ⟨R,_,rfl,DPut.k (k:=Sum.inr n) e3 ∅,?_⟩;generalize u4:upd H3 R _=H4;cbv;have e4:=putE u4;have W:s.2.take (j+1)=s.2.take j++[n]:=by rw [take_succ,hn];rfl
    have S4:Same H H4:=fun b u h=>by rw [<- u4,Jag (Jah h M)];exact Z _ _ h
    have S:=JhY (kvs:=D) (k:=Sum.inr n);rw [o] at S;by_cases cn:n∈e
    ·refine a0 _ _ ⟨lj,_,_,e,rfl,S4,e4,?_,m,fun x=>?_⟩
     ·rw [JhZ,if_pos (S.mpr (mem_map.mpr ⟨n,cn,rfl⟩))];exact o
     ·rw [a x,W,mem_append,mem_singleton];refine ⟨fun h=>h.elim .inl fun h=>.inr (.inl h),fun h=>?_⟩;rcases h with h | h | h
      ·exact .inl h
      ·exact .inr h
      ·rw [h];exact (a n).mp cn
    ·refine a0 _ _ ⟨lj,_,_,e++[n],rfl,S4,e4,?_,?_,fun x=>?_⟩
     ·rw [JhZ,if_neg (fun z=>cn (by obtain ⟨q,hq,eq⟩:=mem_map.mp (S.mp z);have eq:q=n:=(by injection eq);exact eq ▸ hq)),o,map_append];rfl
     ·exact nodup_append.mpr ⟨m,by simp,fun u hu v hv z=>cn (by rw [mem_singleton.mp hv] at z;rw [<- z];exact hu)⟩
     ·rw [mem_append,mem_singleton,a x,W,mem_append,mem_singleton];grind
   ·rintro σ H3 ⟨hj,O,D,e,rfl,Z,e3,o,m,a⟩;rw [length_map,take_of_length_le (Nat.le_refl _)] at a;refine Y _ _ ⟨li,_,_,D,e,rfl,Z,e3,o,m,fun n=>?_⟩;rw [a n,d n,X];constructor
    ·rintro (⟨I,g,p,J⟩ | h)
     ·exact ⟨I,mem_append.mpr (.inl g),p,J⟩
     ·exact ⟨s,mem_append.mpr (.inr (by simp)),c,h⟩
    ·rintro ⟨I,g,p,J⟩;rcases mem_append.mp g with g | g
     ·exact .inl ⟨I,g,p,J⟩
     ·rw [mem_singleton.mp g] at J;exact .inr J
  ·rw [if_neg (by simpa using c)];cbv;refine Y _ _ ⟨li,_,_,r,B,rfl,G,e2,hk,C,fun n=>?_⟩;rw [d n,X];constructor
   ·rintro ⟨I,g,p,J⟩;exact ⟨I,mem_append.mpr (.inl g),p,J⟩
   ·rintro ⟨I,g,p,J⟩;rcases mem_append.mp g with g | g
    ·exact ⟨I,g,p,J⟩
    ·rw [mem_singleton.mp g] at p;exact absurd p c
 ·rintro σ H2 ⟨hi,v3,O,r,B,rfl,G,e2,hk,C,d⟩;rw [take_of_length_le ∅] at d;cbv;refine ⟨R,r,B,rfl,e2,hk,?_⟩;rename_i l a4 a7 H2 H3 Z e3;cbv;exact k l B H3 (G.trans Z) e3 C d
abbrev Bax:Stmt:=top 38
theorem Ja5:Jan ["mosts","lids","levels","stops","level","name","lid"] ["mosts","lids"] (Jae Bax):=by bv_decide
def Jb1 (K:W.Frag) (Ad:Adr):Sp:=fun vs H Q E=>∃ (md ll:Addr) (kvm:List (Key × V)) (ms:List (Str × Fr2)) (xs:List V) (lds:List LidD) (b q0:Int) (N:List Str) (w M:Str->Rat) (gs:List Gp),vs=[.ref md, .ref ll]/\H md=some (.dK kvm)/\BG (·.1) (NFV K H) ms kvm/\H ll=some (.lst xs)/\All2 (LDV K Ad H) lds xs/\xs.Nodup/\lds.length<=7/\RC b q0 N w M gs ms/\RSt b N w M gs [] lds/\∀ (ld:Addr) (kv:List (Key × V)) (lvs:List (Str × Fr2)) (lds':List LidD) (H':Hp),(∀ a u,V.ref a∉xs->H a=some u->H' a=some u)->H ld=none->H' ld=some (.dK kv)->BG (·.1) (NFV K H') lvs kv->All2 (LDV K Ad H') lds' xs->RSt b N w M gs lvs lds'->N.length<=lvs.length->lds'.map (·.nm)=lds.map (·.nm)->Q (.ref ld) H'
theorem Jd5 (F:FunD K "risen_levels" "risen_levels" Bax dV f fd) (T:Txt K mg Ad) (Bbh:Cal P w K mg base 5 "coming_stops" ["mosts","lids","levels"] [] (JbZ K Ad)) (Bbt:Cal P w K mg base 2 "first_level" ["stops"] [] (Jcb K)) (BbE:Cal P w K mg base 1 "stopped_at" ["stops","level"] [] (Jcw K)) (m_settle:MCal P w K mg base 4 "settle" (IsLid Ad) ["self","part","level"] (Jcp K Ad)):FnOk P w K mg base (CX1 P w) 7 f fd ["mosts","lids"] (Jb1 K Ad):=by
 refine F.okn Ja5 (by subst_eqs) (fun g2 A c8 s H vs Q E hr h=>?_)
 obtain ⟨md,ll,O,ms,xs,G,b,q0,N,w,M,gs,rfl,h⟩:=h;have hu:=hr.units;refine ⟨_,(Jab (Jak 2 Ja5.nd JbC) (Jab (JdI PassesOwn.never (JaC JfP (Jau Jfv rfl T.BbQ JbN (Jaa (pv 2) Jad)) (Jau Jfv rfl T.BbQ JbN (Jaa (pv 0) Jad)) (Jaw _)) (Jab (Jak 3 Ja5.nd (Bbh.ev hr ⋯ rfl passF (Jaa (pv 0) (Jaa (pv 1) (Jaa (pv 2) Jad))))) (Jab (Jak 4 Ja5.nd (Bbt.ev hr ⋯ rfl passF (Jaa (pv 3) Jad))) (Jai (Ja8 PassesOwn.never rfl (pi_U (BbE.ev hr ⋯ rfl passF (Jaa (pv 3) (Jaa (pv 4) Jad)))) (Jap 5 Ja5.nd) (Jab (Jb8 (hu1 hu) (pv 2) (pv 5) (pv 4) rfl) (Jai (Ja8 PassesOwn.never rfl (pi_U (pv 1)) (Jap 6 Ja5.nd) (Jai (Jba (m_settle.m hr ⋯ passF (pv 6) (Jaa (pv 5) (Jaa (pv 4) Jad))))))))))))) (Jai (Jaq (pv 2))))),?_⟩
 clear hu;obtain ⟨hm,bm,hl,hX,f1,l7,Y,c9,k⟩:=h;show tSeq _ _ _ [some (.ref md),some (.ref ll),none,none,none,none,none] H;cbv;rename_i g X f5 H H1 S1 e1;cbv;refine ⟨fun m σ C=>∃ (v3 v4 v5 v6:Option V) (kv:List (Key × V)) (d:List (Str × Fr2)) (o:List LidD),σ=[some (.ref md),some (.ref ll),some (.ref g),v3,v4,v5,v6]/\(∀ a u,V.ref a∉xs->H a=some u->C a=some u)/\C g=some (.dK kv)/\BG (·.1) (NFV K C) d kv/\All2 (LDV K Ad (cut g C)) o xs/\RSt b N w M gs d o/\o.map (·.nm)=G.map (·.nm)/\m=N.length-d.length,⟨_,none,none,none,none,[],[],G,rfl,fun a u _ h=>S1 _ _ h,e1,⟨rfl,rfl⟩,hX.mono fun _ _ h=>h.same (Same.cutN S1 X),c9,rfl,rfl⟩,?_⟩;rintro m σ H2 ⟨v3,v4,v5,v6,kv,d,o,rfl,S2,e2,b2,a8,st,b7,rfl⟩;have x2:All2 (LDV K Ad H2) o xs:=a8.mono fun _ _ z=>z.same Jc2;cbv;have f9:=Y.l12;have c2:=S2 md _ (LDV.notin hX hm (fun _ _ z=>by cases z)) hm;have W:=S2 ll _ (LDV.notin hX hl (fun _ _ z=>by cases z)) hl;have T2:SameT H H2:=fun c u t h=>S2 c u (LDV.notin hX h (fun _ _ z=>by rw [z] at t;simp [isTF] at t)) h;have d0:BG (·.1) (NFV K H2) ms O:=bm.mono fun _ _ z=>z.sameT T2;have lk:=b2.length;have lm:=bm.length;have lN:ms.length=N.length:=by rw [<- Y.nm,length_map]
 have sz:(1000:Nat)<=sizeLine:=by decide
 have f6:=hX.length;have f7:=x2.length;refine ⟨g,kv,rfl,e2,md,O,rfl,c2,?_⟩;cbv;by_cases c:d.length<N.length
 ·rw [if_pos (by simpa using (by ac_nf:kv.length<O.length))];cbv;refine ⟨_,fun σ' C h=>h,?_⟩;cbv;refine ⟨md,ll,g,O,ms,xs,o,kv,d,rfl,c2,d0,W,x2,e2,b2,by ac_nf,by ac_nf,st.lids Y,by rw [Y.nm];exact Y.nd,fun sl ys H3 S3 e3 hY=>?_⟩;cbv;have x:=st.stops Y;refine ⟨sl,ys,_,rfl,SqL.of e3,hY,st.some Y c,fun s hs=>⟨(x s hs).1.s1,(x s hs).1.s2.mono ⋯,(x s hs).1.b1,(x s hs).1.g1⟩,fun v L hL b4 hv=>?_⟩;cbv;refine ⟨sl,v,ys,_,L,N,rfl,SqL.of e3,hY,hv,by ac_nf,fun s hs n hn=>((x s hs).2 n hn).1,fun l J H4 S4 e4 c1 f4=>?_⟩;obtain ⟨c7,d8,c6,D,e9⟩:=st.first Y c hL b4 c1 f4;have R:=S3.trans S4;have x4:All2 (LDV K Ad H4) o xs:=x2.mono fun _ _ z=>z.same R;have a0:=R _ _ e2;have f2:l≠g:=fun z=>by rw [z,a0] at e4;cases e4
  have d9:=LDV.notin x4 e4 (fun _ _ z=>by cases z);have a2:=LDV.notin x4 a0 (fun _ _ z=>by cases z);have c0:ll≠g:=fun z=>by rw [z,e2] at W;cases W
  have a5:=LDV.notin x2 W (fun _ _ z=>by cases z);have d3:=hv.same S4;cbv;refine ⟨l,rfl,ForA.byLN (xs:=J.map V.str) (SqL.of e4) (fun i σ C=>i<=(J.map V.str).length/\∃ (v5 v6:Option V) (kv':List (Key × V)) (lds':List LidD),σ=[some (.ref md),some (.ref ll),some (.ref g),some (.ref sl),some v,v5,v6]/\(∀ a u,V.ref a∉xs->a≠g->H4 a=some u->C a=some u)/\C g=some (.dK kv')/\BG (·.1) (NFV K C) (d++(J.take i).map fun n=>(n,L)) kv'/\All2 (LDV K Ad (cut g C)) lds' xs/\RMd b N w M gs L D (d.length+1) (d++(J.take i).map fun n=>(n,L)) lds'/\lds'.map (·.nm)=G.map (·.nm)) ⟨Nat.zero_le _,v5,v6,kv,o,rfl,fun _ _ _ _ h=>h,a0,by rw [take_zero,map_nil,append_nil];exact b2.mono fun _ _ z=>z.sameT fun c u _ h=>R _ _ h,a8.mono (fun _ _ z=>z.same R.cut),by rw [take_zero,map_nil,append_nil];exact e9,b7⟩ (fun i σ C q=>by obtain ⟨_,_,_,_,_,_,q,_⟩:=q;exact SqL.of (q _ _ d9 f2 e4)) ?_ ?_⟩
  ·rintro i y σ H5 hy ⟨hi,d1,b9,a7,p,rfl,S5,e5,b5,I,B,S⟩ N0 d6;have li:=(List.getElem?_eq_some_iff.mp hy).1;rw [length_map] at li;rw [List.getElem?_map] at hy;obtain ⟨n,hn,rfl⟩:=Option.map_eq_some_iff.mp hy;have d2:=List.mem_of_getElem? hn;have hN:=d8 n d2;have c5:J.take (i+1)=J.take i++[n]:=by rw [take_succ,hn];rfl
   have a4:(d++(J.take (i+1)).map fun n=>(n,L))=(d++(J.take i).map fun n=>(n,L))++[(n,L)]:=by rw [c5,map_append, <- List.append_assoc];rfl
   have hS:n∉(d++(J.take i).map fun n=>(n,L)).map (·.1):=by
    rw [Jbf];intro z;rcases mem_append.mp z with z | z
    ·exact hN.2 z
    ·exact JiX c1 hn z
   have T5:SameT H4 H5:=fun c u t h=>S5 c u (LDV.notin x4 h (fun _ _ z=>by rw [z] at t;simp [isTF] at t)) (fun z=>by rw [z,a0] at h;cases h;simp [isTF] at t) h;have f8:=b5.length;have l5:(d++(J.take i).map fun n=>(n,L)).length<=N.length:=by
    have:=sub_len _ _ B.inv.nd B.inv.sub;simpa using this
   have g0:=I.length;cbv;refine ⟨g,_,rfl,DPut.k (k:=Sum.inr n) e5 ∅,?_⟩;generalize u6:upd H5 g _=Z;cbv;have e6:=putE u6;have T6:SameT H5 Z:=SameT.put u6 e5 rfl;have o6:∀ a u,a≠g->H5 a=some u->Z a=some u:=fun a u ne h=>by rw [<- u6,Jag ne];exact h
   have d4:cut g Z=cut g H5:=by rw [<- u6];exact Jf9
   rw [<- d4] at I;have x6:All2 (LDV K Ad Z) p xs:=I.mono fun _ _ z=>z.same Jc2;have b8:=(d3.sameT T5).sameT T6;have b6:BG (·.1) (NFV K Z) (d++(J.take (i+1)).map fun n=>(n,L)) (putK a7 (Sum.inr n) v):=by
    rw [a4];exact (b5.mono (P':=NFV K Z) fun _ _ z=>z.sameT T6).new (a:=(n,L)) hS b8
   have b0:Z ll=some (.lst xs):=o6 _ _ c0 (S5 _ _ a5 c0 (R _ _ W));have U:=B.rest Y;have e0:=B.step Y hN.1 hS;cbv;refine ⟨ll,rfl,ForA.byLN (xs:=xs) (SqL.of b0) (fun j σ C=>j<=xs.length/\∃ (v6:Option V),σ=[some (.ref md),some (.ref ll),some (.ref g),some (.ref sl),some v,some (.str n),v6]/\(∀ a u,V.ref a∉xs->Z a=some u->C a=some u)/\All2 (LDV K Ad (cut g C)) ((p.take j).map (fun e=>e.settle n L)++p.drop j) xs) ⟨Nat.zero_le _,b9,rfl,fun _ _ _ h=>h,by rw [take_zero,map_nil,List.drop_zero,nil_append];exact I⟩ (fun j σ C q=>by obtain ⟨_,_,_,q,_⟩:=q;exact SqL.of (q _ _ a5 b0)) ?_ ?_⟩
   ·rintro j z σ H7 hz ⟨hj,a9,rfl,S7,x7⟩ N1 f0;have lj:=(List.getElem?_eq_some_iff.mp hz).1;obtain ⟨e,a6,a3⟩:=x7.at_ hz;rw [Jku] at a6;have b3:=List.mem_of_getElem? a6;have c3:=a3.same Jc2;obtain ⟨q,dx,vr,vt,wd,rfl,hq,_⟩:=id c3;have T7:SameT Z H7:=fun c u t h=>S7 c u (LDV.notin x6 h (fun _ _ z=>by rw [z] at t;simp [isTF] at t)) h;have e7:=S7 _ _ a2 e6;have d5:V.ref q∈xs:=List.mem_of_getElem? hz;cbv;refine ⟨q,_,dx,_,rfl,hq,rfl,rfl,?_⟩;refine ⟨q,n,v,e,L,rfl,c3,b8.sameT T7,(U e b3).1,B.fL,(U e b3).2,fun H8 S8 _ d7=>?_⟩;cbv;have c4:g≠q:=fun z=>by rw [<- z,e7] at hq;cases hq
    have e8:=S8 _ _ c4 e7;refine f0 _ _ ⟨lj,_,rfl,fun a u hx h=>S8 a u (fun z=>hx (z ▸ d5)) (S7 a u hx h),?_⟩;rw [<- JgN a6];refine x7.put hz (d7 g _ e7 a3) fun i' a y ne ha hy a1=>?_;have qc:cut g H7 q=_:=(JbO c4.symm).trans hq;refine a1.keep (q:=q) (fun b u nb h=>?_) qc (fun z=>ne ?_)
    ·have f3:b≠g:=fun z=>by rw [z] at h;unfold cut at h;rw [if_pos rfl] at h;cases h
     rw [JbO f3] at h ⊢;exact S8 b u nb h
    ·rw [z, <- hz] at hy;exact ((List.getElem?_inj lj f1).mp hy.symm).symm
   ·rintro σ H7 ⟨hj,a9,rfl,S7,x7⟩;rw [take_of_length_le ∅,List.drop_eq_nil_of_le ∅,append_nil] at x7;have T7:SameT Z H7:=fun c u t h=>S7 c u (LDV.notin x6 h (fun _ _ z=>by rw [z] at t;simp [isTF] at t)) h;refine d6 _ _ ⟨by rw [length_map];ac_nf,_,_,_,_,rfl,fun a u hx a1 h=>S7 a u hx (o6 a u a1 (S5 a u hx a1 h)),S7 _ _ a2 e6,b6.mono fun _ _ z=>z.sameT T7,x7,by rw [a4];exact e0,Jhs.trans S⟩
  ·rintro σ H5 ⟨hi,d1,b9,a7,p,rfl,S5,e5,b5,I,B,S⟩;rw [length_map,take_of_length_le (Nat.le_refl _)] at b5 B;have ln:1<=J.length:=by cases J with | nil=>exact absurd rfl c7 | cons a r=>simp
   refine ⟨_,?_,_,_,_,_,a7,_,p,rfl,fun a u hx h=>S5 a u hx (fun z=>by rw [z,X] at h;cases h) (R _ _ (S2 a u hx h)),e5,b5,I,B.next Y c6 st.lo ∅,S,rfl⟩;rw [length_append,length_map];ac_nf
 ·rw [if_neg (by simpa using (by ac_nf:¬ kv.length<O.length))];cbv;exact k g kv d o H2 S2 X e2 b2 x2 st ∅ b7
abbrev Ba5:Stmt:=top 39
theorem Jee:Jan ["lids","name","level","full"] ["lids","name","level"] (Jae Ba5):=by bv_decide
def JcV (K:W.Frag) (Ad:Adr):Sp:=fun vs H Q E=>∃ (ll:Addr) (n:Str) (lv:V) (xs:List V) (lds:List LidD) (L:Fr2) (e:LidD),vs=[.ref ll, .str n,lv]/\H ll=some (.lst xs)/\All2 (LDV K Ad H) lds xs/\lds.length<=7/\FrV K H lv L.1 L.2/\lds.find? (fun l=>(wtOf l.ws n).isSome&&(decide (l.rest=(0,1))&&decide (l.last=L)))=some e/\∀ p H',Same H H'->H' p=some (.tup [.str (Str.ofString "gap"), .str e.nm])->Q (.ref p) H'
theorem Jgm (F:FunD K "gap_stop" "gap_stop" Ba5 dV f fd) (T:Txt K mg Ad) (m_has_stopped:MCal P w K mg base 1 "has_stopped" (IsLid Ad) ["self","part","level"] (Jbo K Ad)):FnOk P w K mg base (CX1 P w) 2 f fd ["lids","name","level"] (JcV K Ad):=by
 refine F.okn Jee (by subst_eqs) (fun a0 A t s H vs Q E hr h=>?_)
 obtain ⟨o,n,v,xs,a,L,e,rfl,h⟩:=h;refine ⟨_,(Jab (Jcm (j:=3) (own:=["lid"]) (cs:=[(1,"name"),(2,"level")]) Jee.nd rfl (Or.inl rfl) rfl (pi_U (pv 0)) (fun _ _ _ _=>(Jap 0 (show [("lid" : Str),("name" : Str),("level" : Str)].Nodup by decide))) (fun _ _ _ _=>(Jbh (m_has_stopped.m hr ⋯ passF (pv 0) (Jaa (pv 1) (Jaa (pv 2) Jad))))) (fun _ _ _ _=>(JkV (K:=K) rfl (pv 0) rfl)) (JdP rfl) ⋯ rfl ⋯ (hcs2 rfl rfl rfl rfl rfl rfl)) (Jai (Jaq (JaO (Jaa Jbk (Jaa (pe_ix ix_U (pv 3) Jac) Jad)))))),?_⟩
 obtain ⟨R,J,l7,hv,M,k⟩:=h;have lX:=J.length;have sz:(1000:Nat)<=sizeLine:=by decide
 show tSeq _ _ _ [some (.ref o),some (.str n),some v,none] H;mleave;obtain ⟨P,G⟩:∃ P:LidD->Bool,P=fun l=>(wtOf l.ws n).isSome&&(decide (l.rest=(0,1))&&decide (l.last=L)):=⟨_,rfl⟩;rw [<- G] at M;refine ⟨o,rfl, .inl ⟨⟨xs,SqL.of R⟩,JbI.list (xs:=xs) (fun i g O=>O=H/\g=((a.take i).filter P).map fun e=>V.str e.nm) ⟨rfl,by rw [take_zero];rfl⟩ (fun i g O hi z=>⟨by rw [z.1];exact SqL.of R,by
  rw [z.2,length_map];have h2:=length_filter_le P (a.take i);rw [length_take] at h2;ac_nf⟩) ?_ ?_⟩⟩
 ·rintro i y g I hy ⟨c,b⟩;subst c;subst b;obtain ⟨l,r,U⟩:=J.at_ hy;obtain ⟨q,B,vr,vt,wd,rfl,N,_⟩:=id U;have D:=T.c_Lid Ad.Lid rfl;have d:a.take (i+1)=a.take i++[l]:=by rw [take_succ,r];rfl
  simpa only [length_singleton,length_cons,length_nil,List.replicate,JaA,map_cons,map_nil,Option.join_some];refine ⟨q,_,B,_,rfl,N,rfl,rfl,?_⟩;refine ⟨q,n,v,l,L,rfl,U,hv,?_⟩;mleave;rw [show ((wtOf l.ws n).isSome&&(decide (l.rest=(0,1))&&decide (l.last=L)))=P l by rw [G]];cases cp:P l with
  | false=>
   mleave;rw [d,filter_append,show [l].filter P=[] from List.filter_eq_nil_iff.mpr fun x u=>by rw [mem_singleton.mp u,cp];decide,append_nil]
  | true=>
   mleave;refine ⟨q,_,B,_, .str l.nm,rfl,N,D.cls,D.n1,rfl,?_⟩;mleave;rw [d,filter_append,show [l].filter P=[l] from List.filter_eq_self.mpr fun x u=>by rw [mem_singleton.mp u,cp],map_append];rfl
 ·rintro g I ⟨c,b⟩;subst c;rw [take_of_length_le ∅] at b;have W:g[0]?=some (.str e.nm):=by
   have h1:(a.filter P).head?=some e:=by rw [List.head?_filter];exact M
   rw [b,List.getElem?_map, <- List.head?_eq_getElem?,h1];rfl
  rename_i fl C S I H3 X e3;mleave;mleave;refine ixL (i:=0) (SqL.of e3) W ?_;mleave;refine ⟨len2,?_⟩;rename_i p a1 a2 H3 H4 Y Z;mleave;exact k p H4 (X.trans Y) Z
abbrev BbY:Stmt:=top 40
theorem JbF:Jan ["thing","scale","lids","mosts","levels","told","part","name","level","slack"] ["thing"] (Jae BbY):=by bv_decide
def JdJ (K:W.Frag) (Ad:Adr):Sp:=fun vs H Q E=>∃ (x:Addr) (ls:List PD) (es:List (GD × List Str)) (pl:Str->Fr2),vs=[.ref x]/\TK K Ad H x ls (es.map (·.1))/\SHC ls es pl/\((∀ e∈es,0<=vl (roomF pl e.1))->∀ (tl:Addr) (zs:List V) (rs:List ShD) (H':Hp),Same H H'->H tl=none->H' tl=some (.lst zs)->All2 (ShV K H') rs zs->ShR ls es pl rs->Q (.ref tl) H')/\∀ (i:Nat) (e:GD × List Str),es[i]?=some e->vl (roomF pl e.1)<0->(∀ e'∈es.take i,0<=vl (roomF pl e'.1))->∀ (dx:Addr) (H':Hp),Same H H'->H dx=none->H' dx=some (.xd [("tight_gap", .str e.1.nm)])->E (.ref Ad.Tight) (some dx) H'
theorem Jjc (F:FunD K "share" "share" BbY dV f fd) (T:Txt K mg Ad) (BbZ:Cal P w K mg base 4 "scale_of" ["thing"] [] (JcY K Ad)) (Bcg:Cal P w K mg base 7 "lids_of" ["thing","scale"] [] (Jdw K Ad)) (Bbu:Cal P w K mg base 4 "most_levels" ["thing","scale"] [] (Jcd K Ad)) (Bbi:Cal P w K mg base 7 "risen_levels" ["mosts","lids"] [] (Jb1 K Ad)) (BaK:MCal P w K mg base 2 "parts" (Ja9 Ad) ["self"] (JaY K Ad)) (m_lowered:MCal P w K mg base 2 "lowered" (Jdk Ad) ["self","number"] (JbM K Ad)) (Bbf:Cal P w K mg base 2 "times" ["one","other"] [] (Jdi K)) (Bb0:Cal P w K mg base 2 "gap_stop" ["lids","name","level"] [] (JcV K Ad)):FnOk P w K mg base (CX1 P w) 9 f fd ["thing"] (JdJ K Ad):=by
 refine F.okx JbF (fun vs H Q E h=>?_) (fun j4 A e1 s H vs Q E hr h=>?_)
 ·obtain ⟨x,W,es,pl,rfl,_⟩:=h;rfl
 obtain ⟨x,W,es,pl,rfl,h⟩:=h;have hu:=hr.units;refine ⟨_,(Jab (Jak 1 JbF.nd (BbZ.ev hr ⋯ rfl pass1 (Jaa (pv 0) Jad))) (Jab (Jak 2 JbF.nd (Bcg.ev hr ⋯ rfl pass1 (Jaa (pv 0) (Jaa (pv 1) Jad)))) (Jab (Jak 3 JbF.nd (Bbu.ev hr ⋯ rfl pass1 (Jaa (pv 0) (Jaa (pv 1) Jad)))) (Jab (Jak 4 JbF.nd (Bbi.ev hr ⋯ rfl pass1 (Jaa (pv 3) (Jaa (pv 2) Jad)))) (Jab (Jak 5 JbF.nd (Jbg Jad)) (Jab (Ja8 PassesOwn.leaving rfl (pi_U (BaK.m0 hr ⋯ pass1 (pv 0))) (Jap 6 JbF.nd) (Jab (Jak 7 JbF.nd (pe_ix ix_U (pv 6) Jac)) (Jab (Jak 8 JbF.nd (JbU (hu1 hu) (pv 4) (pv 7) (fun _ _=>rfl))) (Jai (ps_if (JaC (JbJ hu) (pv 8) (JbU (hu1 hu) (pv 3) (pv 7) (fun _ _=>rfl)) (Jaw _)) (Jai (Jba (pe_bm PySem.F.plainAttrs_list PySem.F.slot_list_append PySem.F.type_list_append Ja3 (pv 5) (Jaa (JaO (Jaa (pv 7) (Jaa (pe_ix ix_U (pv 6) Jac) (Jaa (JaO (Jaa Jbk Jad)) Jad)))) Jad) (hs:=by exact Jaf rfl)))) (Jab (Jak 9 JbF.nd (m_lowered.m hr ⋯ pass1 (pv 1) (Jaa (Bbf.ev hr ⋯ rfl pass1 (Jaa (pv 8) (Jaa (JaO (Jaa (pe_ix ix_U (pv 6) Jac) (Jaa Jac Jad))) Jad))) Jad))) (Jai (Jba (pe_bm PySem.F.plainAttrs_list PySem.F.slot_list_append PySem.F.type_list_append Ja3 (pv 5) (Jaa (JaO (Jaa (pv 7) (Jaa (pv 9) (Jaa (Bb0.ev hr ⋯ rfl pass1 (Jaa (pv 2) (Jaa (pv 7) (Jaa (pv 8) Jad)))) Jad)))) Jad) (hs:=by exact Jaf rfl)))))))))) (Jai (Jaq (pv 5))))))))),?_⟩
 clear hu;obtain ⟨ht,n,k,kT⟩:=h;obtain ⟨dx,d1,d2,d3,k1,k2,k3,hx,_⟩:=id ht;have sl:(1000:Nat)<=sizeLine:=by decide
 have j2:=n.l12;have l7:=n.l7;show tSeq _ _ _ [some (.ref x),none,none,none,none,none,none,none,none,none] H;cbv;refine ⟨x,W,_,rfl,ht,n.l12,by rw [length_map];exact n.l7,by rw [length_map];exact n.l14,fun p M=>⟨(n.pb p M).1,(n.pb p M).2.b1,(n.pb p M).2.s2.mono ⋯⟩,fun g hg=>by obtain ⟨e,he,rfl⟩:=mem_map.mp hg;exact n.gb e he,fun sc b fs H1 S1 Z=>?_⟩;obtain ⟨f3,fl,b9,_,c0,sb,_⟩:=id Z;have b1:=c0.b1;cbv;refine ⟨x,sc,W,es,pl,b,fs,rfl,ht.same S1,Z,n,fun d0 ll xs a7 H2 S2 i2 e2 hX h9 f4 c3 a8=>?_,fun i e h1 h2 h3 g2 H2 S2 h4 h5=>kT i e h1 h2 h3 g2 H2 (S1.trans S2) (JcA S1 h4) h5⟩;cbv;have g4:=S1.trans S2;refine ⟨x,sc,W,_,b,fs,rfl,ht.same g4,Z.same S2,n.l12,n.nd,fun p M=>⟨(n.pb p M).2,(n.pok p M).w,n.wt p M⟩,fun md c9 ms H3 S3 i6 e3 bm g9 f6=>?_⟩;obtain ⟨q0,rc,d9⟩:=Jjx b1 sb n d0 c3 a8 g9 f6;have hw:=JjW c3 a8;cbv;have x3:All2 (LDV K Ad H3) a7 xs:=hX.mono fun _ _ z=>z.same S3;refine ⟨md,ll,c9,ms,xs,a7,b,q0,_,_,_,_,rfl,e3,bm,S3 _ _ e2,x3,h9,by ac_nf,rc,d9,fun ld kv h7 R H4 S4 i5 e4 b4 x4 X O f5=>?_⟩;have b2:Same H1 H4:=fun c u h=>S4 c u (fun z=>by obtain ⟨q,eq,hq⟩:=f4 _ z;have eq:c=q:=(by injection eq);rw [<- eq,h] at hq;cases hq) (S3 _ _ (S2 _ _ h));have a2:=S1.trans b2;have T4:SameT H3 H4:=fun c u t h=>S4 c u (LDV.notin x3 h (fun _ _ z=>by rw [z] at t;simp [isTF] at t)) h;have g3:=S4 _ _ (LDV.notin x3 e3 (fun _ _ z=>by cases z)) e3;have g8:=S4 _ _ (LDV.notin x3 (S3 _ _ e2) (fun _ _ z=>by cases z)) (S3 _ _ e2);have h0:BG (·.1) (NFV K H4) ms c9:=bm.mono fun _ _ z=>z.sameT T4;have c8:R.map (·.nm)=es.map (·.1.nm):=by
  rw [f5];refine List.ext_getElem? fun i=>?_;rw [List.getElem?_map,List.getElem?_map];by_cases c:i<es.length
  ·rw [List.getElem?_eq_getElem c,List.getElem?_eq_getElem (by ac_nf:i<a7.length)];exact congrArg some (a8 i _ _ (List.getElem?_eq_getElem c) (List.getElem?_eq_getElem ∅)).nm
  ·rw [List.getElem?_eq_none ∅,List.getElem?_eq_none ∅];rfl
 have j3:R.length=es.length:=by simpa using congrArg List.length c8
 cbv;refine ⟨Nat.zero_le _,?_⟩;rename_i Y a6 i4 H4 H5 S5 e5;cbv;have a3:H Y=none:=JcA a2 a6;refine ⟨x,_,dx,_,rfl,S5 _ _ (a2 _ _ hx),rfl,rfl,x,W,_,rfl,ht.same (a2.trans S5),by ac_nf,fun l ys H6 S6 c4 e6 hY=>?_⟩;have lY:=hY.length;have h6:l≠Y:=fun z=>by rw [z,e5] at c4;cases c4
 have c5:=Same.trans S5 S6;cbv;refine ⟨l,rfl,ForA.byLN (xs:=ys) (SqL.of e6) (fun i σ H'=>i<=ys.length/\∃ (v6 v7 v8 v9:Option V) (zs:List V) (X:List ShD),σ=[some (.ref x),some (.ref sc),some (.ref ll),some (.ref md),some (.ref ld),some (.ref Y),v6,v7,v8,v9]/\(∀ c u,c≠Y->H6 c=some u->H' c=some u)/\SameT H6 H'/\H' Y=some (.lst zs)/\All2 (ShV K H') X zs/\X.length=i/\∀ (j:Nat) p r,W[j]?=some p->X[j]?=some r->ShRow W es pl (lvf b h7) p r) ⟨Nat.zero_le _,none,none,none,none,[],[],rfl,fun _ _ _ h=>h,SameT.refl _,S6 _ _ e5,rfl,rfl,fun j p r _ h=>by simp at h⟩ (fun i σ H' q=>by obtain ⟨_,_,_,_,_,_,_,_,q,_⟩:=q;exact SqL.of (q _ _ h6 e6)) ?_ ?_⟩
 ·rintro i y σ H7 hy ⟨hi,v6,v7,v8,v9,zs,a0,rfl,ho,hT,ez,hZ,S,I⟩ N0 d4;have li:=(List.getElem?_eq_some_iff.mp hy).1;obtain ⟨p,M,b_,vz,vm,rfl,hb,_,hm⟩:=hY.at_ hy;have a1:=List.mem_of_getElem? M;have a9:=hb.sameT hT;have B:Same H4 H7:=fun c u h=>ho c u (Jah h a6) (c5 _ _ h);have d7:p.nm∈W.map (·.nm):=mem_map.mpr ⟨p,a1,rfl⟩;obtain ⟨a,U,ha,J,c1,f2⟩:=b4.some (z:=p.nm) (X.all rc O _ d7);have J:a.1=p.nm:=J;obtain ⟨m,b3,f7,b6,b8,f8⟩:=h0.some (z:=p.nm) (by rw [rc.nm];exact d7);have b6:m.1=p.nm:=b6;have fa:=sh_lv rc X ha;have ml:=rc.ml m f7;have d8:vl m.2=moF W a.1*(b:Rat):=by rw [ml.1,b6,J]
  have g7:DGet H7 ld (.str p.nm) (some U):=by rw [<- c1];exact DGet.k (k:=Sum.inr p.nm) (B _ _ e4)
  have g5:DGet H7 md (.str p.nm) (some b3):=by rw [<- b8];exact DGet.k (k:=Sum.inr p.nm) (B _ _ g3)
  have b5:FrV K H7 U a.2.1 a.2.2:=FrV.same B f2;have i0:FrV K H7 b3 m.2.1 m.2.2:=FrV.same B f8;have lZ:=hZ.length;cbv;refine ixT (i:=0) a9 rfl ?_;cbv;refine ⟨ld,U,rfl,g7,?_⟩;cbv;refine ⟨md,b3,rfl,g5,?_⟩;refine eqF b5 i0 ?_;have ee:(decide (a.2.1=m.2.1)&&decide (a.2.2=m.2.2))=decide (a.2=m.2):=by
   rw [<- Bool.decide_and];exact decide_eq_decide.mpr Prod.ext_iff.symm
  rw [ee];cbv;by_cases c:a.2=m.2
  ·rw [if_pos (by simpa using c)];cbv;refine ⟨.inl ⟨rfl,_,SqL.of ez⟩,?_⟩;refine ixT (i:=4) a9 rfl ?_;cbv;refine ⟨by show 1<=sizeLine;ac_nf,?_⟩;rename_i t j1 j0 H7 H8 S8 e8;cbv;cbv;refine ⟨by show 3<=sizeLine;ac_nf,?_⟩;rename_i pr d6 c2 H8 H9 S9 e9;cbv;have o:=Same.trans S8 S9;have N:=o _ _ ez;cbv;refine ⟨Y,zs,_,rfl,rfl,N,by ac_nf,?_⟩;generalize G:upd H9 Y _=C;cbv;have b7:=putE G;have d:SameT H9 C:=SameT.put G N rfl;have T7:=o.t.trans d;refine d4 _ _ ⟨li,_,_,_,_,_,a0++[(⟨p.nm,p.mo,none⟩:ShD)],rfl,fun c u L h=>by rw [<- G,Jag L];exact o _ _ (ho c u L h),hT.trans T7,b7,(hZ.mono (P':=ShV K C) fun _ _ z=>z.sameT T7).append (.one (show ShV K C (⟨p.nm,p.mo,none⟩:ShD) (.ref pr) from ⟨pr,_,t,rfl,SqT.of (d _ _ rfl e9),((hm.sameT hT).same o).sameT d,SqT.of (d _ _ rfl (S9 _ _ e8))⟩)),by rw [length_append,S];rfl,fun j p' r' h1 h2=>?_⟩;rcases Jbb h2 with h2 | ⟨q1,q2⟩
   ·exact I j p' r' h1 h2
   ·rw [q1,S,M] at h1;cases h1;rw [q2];exact Jlb n rc X a1 ha J (by rw [c];exact d8)
  ·rw [if_neg (by simpa using c)];cbv;have d5:vl a.2≠moF W a.1*(b:Rat):=fun z=>c (fa.lo.inj ml.2.1.lo (z.trans d8.symm));obtain ⟨l0,e0,f9,h8,g6⟩:=Jk9 hw rc X O c8 ha d5;have wp:=n.wt p a1;refine ⟨sc,_,f3,_,rfl,B _ _ (b2 _ _ b9),rfl,rfl,?_⟩;refine ixT (i:=5) a9 rfl ?_;cbv;refine ⟨len2,?_⟩;rename_i w1 i7 i3 H7 H8 S8 e8;cbv;refine ⟨U, .ref w1,_,_,p.wt,1,rfl,b5.same S8,FrV.of e8,fa.s1.mono ⋯,fa.s2.mono ⋯,wp.mono ⋯, .lit ⋯ ⋯,fa.b1,by decide,fa.g1,by unfold Mth.g;simp,fun p2 H9 S9 e9=>?_⟩;have e9:H9 p2=some (.tup [.int (mulF a.2 (p.wt,1)).1, .int (mulF a.2 (p.wt,1)).2]):=e9;have a4:=Same.trans S8 S9;have i8:=JeW (a:=a.2) (c:=(p.wt,1)) fa.b1 (Int.le_refl 1);have f1:FB 3000 1000 (mulF a.2 (p.wt,1)):=by
    refine FB.low (Jcf fa.b1 (Int.le_refl 1)) ((fa.s1.mul wp).mono ⋯) ?_;show Mth.Sz 1000 (a.2.2*1);rw [Int.mul_one];exact fa.s2.mono ⋯
   cbv;refine ⟨sc, .ref p2,_,b,fs,rfl,Z.same (b2.trans (B.trans a4)),FrV.of e9,f1,fun p3 tt i9 e7 g0 f0=>?_⟩;have v:=a4.trans e7;cbv;refine ⟨.inl ⟨rfl,_,SqL.of (v _ _ ez)⟩,?_⟩;cbv;refine ⟨ll,p.nm,U,xs,R,a.2,l0,rfl,v _ _ (B _ _ g8),x4.mono (fun _ _ z=>z.same (B.trans v)),by ac_nf,b5.same v,by rw [<- J];exact f9,fun t i1 c6 c7=>?_⟩;cbv;refine ⟨by show 3<=sizeLine;ac_nf,?_⟩;rename_i pr d6 c2 i1 a5 b0 e9;cbv;have o:=v.trans (c6.trans b0);have N:=o _ _ ez;cbv;refine ⟨Y,zs,_,rfl,rfl,N,by ac_nf,?_⟩;generalize G:upd a5 Y _=C;cbv;have b7:=putE G;have d:SameT a5 C:=SameT.put G N rfl;have T7:=o.t.trans d;refine d4 _ _ ⟨li,_,_,_,_,_,a0++[(⟨p.nm,tt,some e0.1.nm⟩:ShD)],rfl,fun c u L h=>by rw [<- G,Jag L];exact o _ _ (ho c u L h),hT.trans T7,b7,(hZ.mono (P':=ShV K C) fun _ _ z=>z.sameT T7).append (.one (show ShV K C (⟨p.nm,tt,some e0.1.nm⟩:ShD) (.ref pr) from ⟨pr,_,t,rfl,SqT.of (d _ _ rfl e9),FrV.of (d _ _ rfl (b0 _ _ (c6 _ _ g0))),by rw [g6] at c7;exact SqT.of (d _ _ rfl (b0 _ _ c7))⟩)),by rw [length_append,S];rfl,fun j p' r' h1 h2=>?_⟩;rcases Jbb h2 with h2 | ⟨q1,q2⟩
   ·exact I j p' r' h1 h2
   ·rw [q1,S,M] at h1;cases h1;rw [q2];exact Jla n rc X a1 ha J d5 f0 h8
 ·rintro σ H7 ⟨hi,v6,v7,v8,v9,zs,a0,rfl,ho,hT,ez,hZ,S,I⟩;cbv;obtain ⟨D,F⟩:=JiC hw rc X O;exact k d0 Y zs a0 H7 (fun c u h=>ho c u (Jah h a3) (c5 _ _ (a2 _ _ h))) a3 ez hZ ⟨by have:=hZ.length;ac_nf,_,D,F,I⟩
abbrev Bay:Stmt:=top 51
theorem Jbm:Jan ["thing","other","ones","others","row"] ["thing","other"] (Jae Bay):=by bv_decide
def Jbr (K:W.Frag) (Ad:Adr):Sp:=fun vs H Q E=>∃ (x y:Addr) (ls:List PD) (es:List (GD × List Str)) (pl:Str->Fr2) (ks:List PD) (fs:List (GD × List Str)) (pk:Str->Fr2),vs=[.ref x, .ref y]/\TK K Ad H x ls (es.map (·.1))/\SHC ls es pl/\TK K Ad H y ks (fs.map (·.1))/\SHC ks fs pk/\(∀ n∈ls.map (·.nm),n∈ks.map (·.nm))/\((∀ e∈es,0<=vl (roomF pl e.1))->(∀ e∈fs,0<=vl (roomF pk e.1))->∀ (l:Addr) (rs rk:List ShD) (H':Hp),Same H H'->H l=none->ShR ls es pl rs->ShR ks fs pk rk->H' l=some (.lst ((unl rs rk).map V.str))->Q (.ref l) H')/\(∀ (i:Nat) (e:GD × List Str),es[i]?=some e->vl (roomF pl e.1)<0->(∀ e'∈es.take i,0<=vl (roomF pl e'.1))->∀ (dx:Addr) (H':Hp),Same H H'->H dx=none->H' dx=some (.xd [("tight_gap", .str e.1.nm)])->E (.ref Ad.Tight) (some dx) H')/\((∀ e∈es,0<=vl (roomF pl e.1))->∀ (i:Nat) (e:GD × List Str),fs[i]?=some e->vl (roomF pk e.1)<0->(∀ e'∈fs.take i,0<=vl (roomF pk e'.1))->∀ (dx:Addr) (H':Hp),Same H H'->H dx=none->H' dx=some (.xd [("tight_gap", .str e.1.nm)])->E (.ref Ad.Tight) (some dx) H')
theorem Jd6 (F:FunD K "unlike_parts" "unlike_parts" Bay dV f fd) (T:Txt K mg Ad) (BbF:Cal P w K mg base 9 "share" ["thing"] [] (JdJ K Ad)):FnOk P w K mg base (CX1 P w) 10 f fd ["thing","other"] (Jbr K Ad):=by
 refine F.okx Jbm (fun vs H Q E h=>?_) (fun c5 A a4 s H vs Q E p h=>?_)
 ·obtain ⟨x,y,ls,es,pl,ks,fs,pk,rfl,_⟩:=h;rfl
 obtain ⟨x,y,ls,es,pl,ks,fs,pk,rfl,h⟩:=h;have hu:=p.units;refine ⟨_,(Jab (Jak 2 Jbm.nd (BbF.ev p ⋯ rfl pass1 (Jaa (pv 0) Jad))) (Jab (Jak 3 Jbm.nd JbC rfl (Or.inr rfl)) (Jab (Ja8 PassesOwn.leaving rfl (pi_U (BbF.ev p ⋯ rfl pass1 (Jaa (pv 1) Jad))) (Jap 4 Jbm.nd) (Jai (Jb8 (hu1 hu) (pv 3) (pe_ix ix_U (pv 4) Jac) (pe_ix ix_U (pv 4) Jac) rfl))) (Jai (Jaq (JfR (own:=["row"]) (cs:=[(3,"others")]) rfl (pi_U (pv 2)) (fun _ _ _ _=>(Jap 0 (show [("row" : Str),("others" : Str)].Nodup by decide))) (fun _ _ _ _=>(JaC (JjV (K:=K) rfl hu) (pe_ix (ix_UK (K:=K) rfl) (pv 0) Jac) (JbU (hu1 hu) (pv 1) (pe_ix (ix_UK (K:=K) rfl) (pv 0) Jac) (fun _ _=>rfl)) (Jaw _))) (fun _ _ _ _=>(pe_ix (ix_UK (K:=K) rfl) (pv 0) Jac)) (JdP rfl) ⋯ rfl ⋯ (hcs1 rfl rfl rfl))))))),?_⟩
 clear hu;obtain ⟨ht,hc,b0,J,a0,k,kT,b5⟩:=h;have sl:(1000:Nat)<=sizeLine:=by decide
 have c2:=hc.l12;have b8:=J.l12;show tSeq _ _ _ [some (.ref x),some (.ref y),none,none,none] H;cbv;refine ⟨x,ls,es,pl,rfl,ht,hc,fun r1 tl zs rs H1 S1 b9 e1 hZ hR=>?_,kT⟩;have a6:=hR.nms;have c4:=hR.len;have lZ:=hZ.length
 mframe;rename_i n b b7 H1 H2 S2 e2;cbv
 mframe;have o:=S1.trans S2;refine ⟨y,ks,fs,pk,rfl,b0.same o,J,fun r2 X a3 g H3 Z d e3 O D=>?_,fun i e h1 h2 h3 dx H3 Z h4 h5=>b5 r1 i e h1 h2 h3 dx H3 (o.trans Z) (JcA o h4) h5⟩;have a1:=D.nms;have c0:=D.len;have c1:=O.length;have a2:(g.map (·.nm)).Nodup:=by rw [a1];exact J.nd
 have b2:X≠n:=fun z=>by rw [z,e2] at d;cases d
 have b6:tl≠n:=fun z=>by rw [<- z,e1] at b;cases b
 cbv;refine ⟨X,rfl,ForA.byLN (xs:=a3) (SqL.of e3) (fun i σ C=>i<=a3.length/\∃ (v4:Option V) (kv:List (Key × V)),σ=[some (.ref x),some (.ref y),some (.ref tl),some (.ref n),v4]/\(∀ c u,c≠n->H3 c=some u->C c=some u)/\SameT H3 C/\C n=some (.dK kv)/\BG (·.nm) (fun (r:ShD) v=>FrV K C v r.sl.1 r.sl.2) (g.take i) kv) ⟨Nat.zero_le _,none,[],rfl,fun _ _ _ h=>h,SameT.refl _,Z _ _ e2,⟨rfl,rfl⟩⟩ (fun i σ C q=>by obtain ⟨_,_,_,_,q,_⟩:=q;exact SqL.of (q _ _ b2 e3)) ?_ ?_⟩
 ·rintro i z σ M hz ⟨hi,v4,kv,rfl,ho,S,B,hB⟩ N0 a9;have li:=(List.getElem?_eq_some_iff.mp hz).1;obtain ⟨r,p,b_,b3,t_,rfl,hb,hf,_⟩:=O.at_ hz;have lB:=hB.length;rw [length_take] at lB;have Y:=hb.sameT S;cbv;refine ixT (i:=1) Y rfl ?_;cbv;refine ixT (i:=0) Y rfl ?_;refine ⟨n,_,rfl,DPut.k (k:=Sum.inr r.nm) B ∅,?_⟩;generalize u5:upd M n _=W;cbv;have e5:=putE u5;have T5:SameT M W:=SameT.put u5 B rfl;refine a9 _ _ ⟨li,_,_,rfl,fun c u m h=>by rw [<- u5,Jag m];exact ho c u m h,S.trans T5,e5,?_⟩;rw [take_succ,p];refine (hB.mono (P':=fun (r:ShD) v=>FrV K W v r.sl.1 r.sl.2) fun _ _ z=>FrV.sameT T5 z).new (a:=r) ?_ ((FrV.sameT S hf).sameT T5);intro hm;rw [List.map_take] at hm;have h1:(g.map (·.nm))[i]?=some r.nm:=by rw [List.getElem?_map,p];rfl
  obtain ⟨j,hj⟩:=List.getElem?_of_mem hm;have lj:=(List.getElem?_eq_some_iff.mp hj).1;rw [length_take] at lj;rw [List.getElem?_take_of_lt ∅] at hj;have:=(List.getElem?_inj (by rw [length_map];ac_nf) a2).mp (hj.trans h1.symm);ac_nf
 rintro σ M ⟨hi,v4,kv,rfl,ho,S,B,hB⟩;rw [take_of_length_le ∅] at hB;have G:∀ c u,c≠n->H2 c=some u->M c=some u:=fun c u m h=>ho c u m (Z _ _ h);have N:=G _ _ b6 (S2 _ _ e1);have U:SameT H1 M:=S2.t.trans (Z.t.trans S);cbv;refine ⟨tl,rfl, .inl ⟨⟨_,SqL.of N⟩,JbI.list (xs:=zs) (fun i ys C=>C=M/\ys=((rs.take i).filter fun r=>!decide (r.sl=slOf g r.nm)).map fun r=>V.str r.nm) ⟨rfl,by rw [take_zero];rfl⟩ (fun i ys C hi z=>⟨by rw [z.1];exact SqL.of N,by
  rw [z.2,length_map];have h2:=length_filter_le (fun r:ShD=>!decide (r.sl=slOf g r.nm)) (rs.take i);rw [length_take] at h2;ac_nf⟩) ?_ ?_⟩⟩
 ·rintro i z ys W hz ⟨rfl,rfl⟩;obtain ⟨r,p,b_,b3,t_,rfl,hb,hf,_⟩:=hZ.at_ hz;have I:=hb.sameT U;have b1:=FrV.sameT U hf;have hm:r.nm∈g.map (·.nm):=by
   rw [a1];refine a0 _ ?_;rw [<- a6];exact mem_map.mpr ⟨r,List.mem_of_getElem? p,rfl⟩
  obtain ⟨r',v',a8,L,R,hP⟩:=hB.some (z:=r.nm) hm;have L:r'.nm=r.nm:=L;have a7:slOf g r.nm=r'.sl:=by rw [<- L];exact Jfg a2 a8
  simpa only [length_singleton,length_cons,length_nil,List.replicate,JaA,map_cons,map_nil,Option.join_some];refine ixT (i:=1) I rfl ?_;cbv;refine ixT (i:=0) I rfl ?_;refine ⟨n,v',rfl,by rw [<- R];exact DGet.k (k:=Sum.inr r.nm) B,?_⟩;refine neF b1 hP ?_;have ee:(decide (r.sl.1=r'.sl.1)&&decide (r.sl.2=r'.sl.2))=decide (r.sl=slOf g r.nm):=by
   rw [a7, <- Bool.decide_and];exact decide_eq_decide.mpr Prod.ext_iff.symm
  rw [ee,take_succ,p];cases cp:decide (r.sl=slOf g r.nm) with
  | true=>
   cbv;simp [filter_append,cp]
  | false=>
   cbv;refine ixT (i:=0) I rfl ?_;cbv;simp [filter_append,cp]
 ·rintro ys W ⟨rfl,rfl⟩;rw [take_of_length_le ∅];rename_i l a5 c3 W H6 S6 e6;cbv;have b4:Same H H6:=fun c u h=>S6 _ _ (G c u (Jah (S1 _ _ h) b) (o _ _ h));refine k r1 r2 l rs g H6 b4 (JcA S1 ?_) hR D ?_
  ·cases e:H1 l with
   | none=>rfl
   | some u=>
    have:=G l u (Jah e b) (S2 _ _ e);rw [a5] at this;cases this
  ·rw [e6];unfold unl;rw [map_map];rfl
abbrev Ba6:Stmt:=top 53
theorem Jcn:Jan ["_law_script","_law_k","_law_total","_law_j"] ["_law_script","_law_k"] (Jae Ba6):=by bv_decide
def JbA (K:W.Frag):Sp:=fun vs H Q E=>∃ (a:Addr) (ns:List Int) (k:Int),vs=[.ref a, .int k]/\SqL K H a (ns.map V.int)/\ns.length<=63/\0<=k/\k<=1000/\∀ v:Int,Q (.int v) H
theorem Jgp (F:FunD K "_law_cell" "_law_cell" Ba6 dV f fd) (T:Txt K mg Ad)  : FnOk P w K mg base (CX1 P w) 1 f fd ["_law_script","_law_k"] (JbA K):=by
 refine F.okn Jcn (by subst_eqs) (fun l A b s H o Q E r h=>?_)
 obtain ⟨a,e,k,rfl,h⟩:=h;refine ⟨_,(Jab (Jak 2 Jcn.nd Jac) (Jab (Ja8 PassesOwn.never rfl (Jil rfl T.Bb9 (Jaa (pv 1) (Jaa (Jau (JhB rfl) rfl T.BdR Jlr (Jaa (Jau JaW rfl T.BbQ JbN (Jaa (pv 0) Jad)) (Jaa Jac Jad))) (Jaa Jac Jad)))) (Jap 3 Jcn.nd) (Jai (Jak 2 Jcn.nd (pe_op JaE (pv 2) (pe_op JaL (pe_ix ix_U (pv 0) (pv 3)) (pe_op JaE Jac (pv 3))))))) (Jai (Jaq (pv 2))))),?_⟩
 obtain ⟨g,u,j,p,q⟩:=h;obtain ⟨k,rfl⟩:=Int.eq_ofNat_of_zero_le j;show tSeq _ _ _ [some (.ref a),some (.int (k:Int)),none,none] H;cbv;refine ⟨_, .inl g,?_⟩;simpa only [length_map];refine ⟨_,_,_,rfl,⟨by ac_nf,by ac_nf,by split <;> ac_nf,by split <;> ac_nf,by decide,by decide⟩,?_⟩;refine ForQ.by (fun i σ d=>∃ (t:Int) (v:Option V),σ=[some (.ref a),some (.int (k:Int)),some (.int t),v]/\d=H) ⟨0,none,rfl,rfl⟩ ?_ ?_
 ·rintro i σ d c ⟨t,v,rfl,rfl⟩;have n:k+i*30<e.length:=by
   unfold rsz at c;split at c <;> split at c <;> ac_nf
  have m:(k:Int)+(i:Int)*30=((k+i*30:Nat):Int):=by ac_nf
  rw [m];cbv;refine ixL g (by rw [List.getElem?_map,List.getElem?_eq_getElem n];rfl) ?_;cbv;exact ⟨JjS (.lit ∅ ∅),_,_,rfl,trivial⟩
 ·rintro σ d ⟨t,v,rfl,rfl⟩;cbv;exact q t
abbrev Bbs:Stmt:=top 54
theorem JbS:Jan ["_law_top","_law_bottom","_law_one","_law_other","_law_rest"] ["_law_top","_law_bottom"] (Jae Bbs):=by bv_decide
def JbB  : Sp:=fun vs H Q E=>∃ (t b:Int),vs=[.int t, .int b]/\1<=b/\Mth.Sz 8000 b/\∀ p H',Same H H'->H' p=some (.tup [.int (Mth.top t b), .int (Mth.bot t b)])->Q (.ref p) H'
theorem Jhj (F:FunD K "_law_low" "_law_low" Bbs dV f fd) (T:Txt K mg Ad)  : FnOk P w K mg base (CX1 P w) 1 f fd ["_law_top","_law_bottom"] (JbB):=by
 refine F.okn JbS (by subst_eqs) (fun v A j s H B Q E I h=>?_)
 obtain ⟨t,b,rfl,h⟩:=h;have l:=I.units;refine ⟨_,(Jab (Jak 2 JbS.nd (pv 0)) (Jab (Jak 3 JbS.nd (pv 1)) (Jab (JdI PassesOwn.never (JaC (Jc8 l) (pv 3) Jac (Jaw _)) (Jab (Jak 4 JbS.nd (pe_op Jay (pv 2) (pv 3))) (Jab (Jak 2 JbS.nd (pv 3)) (Jai (Jak 3 JbS.nd (pv 4)))))) (Jai (Jaq (JaO (Jaa (pe_op Jar (pv 0) (Jau Jc1 rfl T.BdC JgF (Jaa (pv 2) Jad))) (Jaa (pe_op Jar (pv 1) (Jau Jc1 rfl T.BdC JgF (Jaa (pv 2) Jad))) Jad)))))))),?_⟩
 clear l;obtain ⟨L,G,k⟩:=h;show tSeq _ _ _ [some (.int t),some (.int b),none,none,none] H;cbv;refine ⟨fun m σ u=>∃ (x y:Int) (z:Option V),σ=[some (.int t),some (.int b),some (.int x),some (.int y),z]/\u=H/\0<=y/\Mth.g x y=Mth.g t b/\y.toNat=m,⟨_,_,_,none,rfl,rfl,by ac_nf,rfl,rfl⟩,?_⟩;rintro m σ u ⟨x,y,z,rfl,rfl,J,o,rfl⟩;cbv;by_cases c:y=0
 ·subst c;rw [if_neg (by simp)];cbv;have M:=Mth.g_pos (a:=t) (b:=b) ∅;have N:=Mth.g_le (a:=t) (b:=b) ∅;have r:DivOk (Mth.g t b):=divOk (n:=8000) ∅ (Nat.lt_of_le_of_lt (by ac_nf:(Mth.g t b).natAbs<=b.natAbs) G);have e:(if x<0 then -x else x)=Mth.g t b:=by
   rw [<- o,Mth.JjQ];split <;> ac_nf
  cbv;rw [e];refine ⟨r,r,len2,?_⟩;refine JdZ fun p D S C=>k p D S ?_;rw [C];unfold Mth.top Mth.bot Mth.by_;rw [if_neg ∅];cbv
 ·rw [if_pos (by simp [c])];cbv;have f:=Mth.fm (x:=x) (y:=y) ∅;refine ⟨_,fun _ _ q=>q,?_⟩;cbv;have d:Mth.g y (x.fmod y)=Mth.g t b:=by rw [Mth.JhT ∅];exact o
  refine ⟨c,?_⟩;cbv;first
   | exact ⟨(x.fmod y).toNat,by ac_nf,y,x.fmod y,_,rfl,f.1,d,rfl⟩
   | exact ⟨(x.fmod y).toNat,by ac_nf,y,x.fmod y,_,rfl,rfl,f.1,d,rfl⟩
abbrev Ba7:Stmt:=top 55
theorem JgA:Jan ["_law_one","_law_other","_law_sign"] ["_law_one","_law_other","_law_sign"] (Jae Ba7):=by bv_decide
def Jb0 (K:W.Frag):Sp:=fun vs H Q E=>∃ (x y:V) (g:Int) (a c:Fr2) (s:Bool),vs=[x,y, .int g]/\(g=if s then 1 else -1)/\FrV K H x a.1 a.2/\FrV K H y c.1 c.2/\FW 3000 3000 a/\FW 3000 3000 c/\∀ p H',Same H H'->H' p=some (.tup [.int (addF a (sgn s c)).1, .int (addF a (sgn s c)).2])->Q (.ref p) H'
theorem Jgr (F:FunD K "_law_plus" "_law_plus" Ba7 dV f fd) (T:Txt K mg Ad) (Baf:Cal P w K mg base 1 "_law_low" ["_law_top","_law_bottom"] [] (JbB)):FnOk P w K mg base (CX1 P w) 2 f fd ["_law_one","_law_other","_law_sign"] (Jb0 K):=by
 refine F.okn JgA (by subst_eqs) (fun o A l s H r Q E u h=>?_)
 obtain ⟨x,y,g,a,c,s,rfl,h⟩:=h;refine ⟨_,(Jai (Jaq (Baf.ev u ⋯ rfl passF (Jaa (pe_op JaE (pe_op JaL (pe_ix ix_U (pv 0) Jac) (pe_ix ix_U (pv 1) Jac)) (pe_op JaL (pe_op JaL (pv 2) (pe_ix ix_U (pv 1) Jac)) (pe_ix ix_U (pv 0) Jac))) (Jaa (pe_op JaL (pe_ix ix_U (pv 0) Jac) (pe_ix ix_U (pv 1) Jac)) Jad))))),?_⟩;obtain ⟨n,m,j,d,b,k⟩:=h;have i:Mth.Sz 4 g:=by
  rw [n];cases s
  ·exact .lit ⋯ ⋯
  ·exact .lit ⋯ ⋯
 have v:(sgn s c).1=g*c.1:=by
  rw [n];cases s
  ·show -c.1 = -1*c.1;ac_nf
  ·show c.1=1*c.1;ac_nf
 have q:(sgn s c).2=c.2:=by cases s <;> rfl
 unfold addF at k;rw [v,q] at k;show tRet _ _ [some x,some y,some (.int g)] H;cbv;refine ixF0 m (ixF1 j ?_);cbv;refine ⟨mulOk d.s1 b.s2,ixF0 j ?_⟩;cbv;refine ⟨mulOk i b.s1,ixF1 m ?_⟩;cbv;refine ⟨mulOk (i.mul b.s1) d.s2,ixF1 m (ixF1 j ?_)⟩;cbv;refine ⟨mulOk d.s2 b.s2,_,_,rfl,?_,(d.s2.mul b.s2).mono ⋯,fun p t S e=>k p t S e⟩;have:=Int.mul_pos (show 0<a.2 by have:=d.b1;ac_nf) (show 0<c.2 by have:=b.b1;ac_nf);ac_nf
abbrev BaZ:Stmt:=top 56
theorem JaP:Jan ["_law_script","_law_parts_here","_law_places","_law_style","_law_k","_law_cell_here","_law_mixed","_law_size","_law_name","_law_most"] ["_law_script"] (Jae BaZ):=by bv_decide
def JcD (K:W.Frag):Sp:=fun vs H Q E=>∃ (a:Addr) (ns:List Int),vs=[.ref a]/\SqL K H a (ns.map V.int)/\ns.length<=63/\∀ (q pl ml:Addr) (px mx:List V) (st:Nat) (ls:List PD) (ms:List Fr2) (H':Hp),Same H H'->H' q=some (.tup [.ref pl, .ref ml])->H' pl=some (.lst px)->All2 (PDV K H') ls px->H' ml=some (.lst mx)->All2 (fun (m:Fr2) v=>FrV K H' v m.1 m.2) ms mx->Rw st ls ms->1<=ls.length->ls.length<=7->Q (.ref q) H'
theorem JfM (F:FunD K "_law_parts" "_law_parts" BaZ dV f fd) (T:Txt K mg Ad) (Bad:Cal P w K mg base 1 "_law_cell" ["_law_script","_law_k"] [] (JbA K)) (Baf:Cal P w K mg base 1 "_law_low" ["_law_top","_law_bottom"] [] (JbB)) (Bao:Cal P w K mg base 2 "_law_plus" ["_law_one","_law_other","_law_sign"] [] (Jb0 K)):FnOk P w K mg base (CX1 P w) 3 f fd ["_law_script"] (JcD K):=by
 refine F.okn JaP (by subst_eqs) (fun f7 A c5 s H vs Q E hr h=>?_)
 obtain ⟨a,ns,rfl,h⟩:=h;refine ⟨_,(Jab (Jak 1 JaP.nd (Jbg Jad)) (Jab (Jak 2 JaP.nd (Jbg (Jaa (JaO (Jaa Jac (Jaa Jac Jad))) Jad))) (Jab (Jak 3 JaP.nd (pe_op Jay (Bad.ev hr ⋯ rfl passF (Jaa (pv 0) (Jaa Jac Jad))) Jac)) (Jab (Ja8 PassesOwn.never rfl (Jdb rfl T.Bb9 (Jaa (pe_op JaE Jac (pe_op Jay (Bad.ev hr ⋯ rfl passF (Jaa (pv 0) (Jaa Jac Jad))) Jac)) Jad)) (Jap 4 JaP.nd) (Jab (Jak 5 JaP.nd (Bad.ev hr ⋯ rfl passF (Jaa (pv 0) (Jaa (pe_op JaE Jac (pv 4)) Jad)))) (Jab (Jak 6 JaP.nd (pe_op Jar (pe_op Jay (pe_op JaL (pv 5) Jac) Jac) Jac)) (Jab (Jak 7 JaP.nd (Baf.ev hr ⋯ rfl passF (Jaa (pe_op Jay (pv 5) (pe_ix ix_U (Jbg (Jaa Jac (Jaa (pe_op JkR Jac Jac) Jad))) (pe_op Jay (pe_op Jar (pv 6) Jac) Jac))) (Jaa (pe_op JaE Jac (pe_op Jay (pe_op Jar (pv 6) Jac) Jac)) Jad)))) (Jab (Jak 8 JaP.nd (pe_op JaE (pe_op JaE (pe_op JaL Jbk (pv 3)) (pe_ix ix_U Jbk (pv 4))) (pe_op JaL Jbk (pe_op Jid Jac (pv 3))))) (Jab (Jak 9 JaP.nd (Baf.ev hr ⋯ rfl passF (Jaa (pe_op Jay (pe_op Jar (pv 6) Jac) Jac) (Jaa (pe_op JaE Jac (pe_op Jay (pe_op Jar (pv 6) Jac) Jac)) Jad)))) (Jab (Jba (pe_bm PySem.F.plainAttrs_list PySem.F.slot_list_append PySem.F.type_list_append Ja3 (pv 1) (Jaa (JaO (Jaa (pv 8) (Jaa (pe_ix ix_U Jbk (pv 4)) (Jaa (pe_ix ix_U Jbk (pe_op JaE (pv 4) Jac)) (Jaa (pv 7) (Jaa (pv 9) (Jaa (pe_op JaE Jac (pe_op Jay (pe_op Jar (pv 6) Jac) Jac)) Jad))))))) Jad) (hs:=by exact Jaf rfl))) (Jai (Jba (pe_bm PySem.F.plainAttrs_list PySem.F.slot_list_append PySem.F.type_list_append Ja3 (pv 2) (Jaa (Bao.ev hr ⋯ rfl passF (Jaa (pe_ix ix_U (pv 2) (pv 4)) (Jaa (pv 7) (Jaa Jac Jad)))) Jad) (hs:=by exact Jaf rfl))))))))))) (Jai (Jaq (JaO (Jaa (pv 1) (Jaa (pv 2) Jad))))))))),?_⟩
 obtain ⟨hS,hl,k⟩:=h;have sl:(1000:Nat)<=sizeLine:=by decide
 have R:(Str.ofString "x").cps.toList=[120]:=by decide
 have f2:(Str.ofString "x").length=1:=by decide
 have b6:(Str.ofString "fghijklmn").cps.toList=List.range' 102 9:=by decide
 have d8:(Str.ofString "abcdefgh").cps.toList=List.range' 97 8:=by decide
 show tSeq _ _ _ [some (.ref a),none,none,none,none,none,none,none,none,none] H;cbv;refine ⟨len0,?_⟩;rename_i X b0 f3 H H1 S1 e1;cbv
 mframe;refine ⟨len2,?_⟩;rename_i m0 d9 e0 H1 H2 S2 e2;cbv;refine ⟨by show 1<=sizeLine;ac_nf,?_⟩;rename_i U C f0 H2 H3 S3 e3;cbv
 mframe;have a0:=S1.trans (S2.trans S3);refine ⟨a,ns,1,rfl,hS.same a0,hl,by decide,by decide,fun cs=>?_⟩;cbv;mpure
 have q3:=Mth.fm (x:=cs) (y:=3) ⋯;obtain ⟨st,a8⟩:=Int.eq_ofNat_of_zero_le q3.1;rw [a8] at q3 ⊢
 mframe;refine ⟨a,ns,0,rfl,hS.same a0,hl,by decide,by decide,fun c0=>?_⟩;cbv;mpure
 have q0:=Mth.fm (x:=c0) (y:=7) ⋯;refine ⟨_,rfl,by ac_nf,by ac_nf,?_⟩;have d2:st<=2:=by ac_nf
 have a6:X≠U:=fun z=>by rw [<- z,S2 _ _ e1] at C;cases C
 have c2:=JcA (S1.trans S2) C;clear q3 a8;refine ForR.byN (fun i σ H'=>∃ (v4 v5 v6 v7 v8 v9:Option V) (N u:List V) (Z:List PD) (ms:List Fr2),σ=[some (.ref a),some (.ref X),some (.ref U),some (.int (st:Int)),v4,v5,v6,v7,v8,v9]/\Same H H'/\H' X=some (.lst N)/\All2 (PDV K H') Z N/\H' U=some (.lst u)/\All2 (fun (m:Fr2) v=>FrV K H' v m.1 m.2) ms u/\Rw st Z ms/\Z.length=i) ⟨none,none,none,none,none,none,[],[.ref m0],[],[(0,1)],rfl,a0,S3 _ _ (S2 _ _ e1),rfl,e3, .one (FrV.of (S3 _ _ e2)),Rw.start d2,rfl⟩ ?_ ?_
 ·rintro i σ H4 hi ⟨v4,v5,v6,v7,v8,v9,N,u,Z,ms,rfl,S4,ep,hP,em,hM,hC,o⟩ N0 d1;have i7:i<7:=by ac_nf
  clear hi q0;have lp:=hP.length;have lm:=hM.length;have f6:=hC.len;simpa only [Int.zero_add];refine ⟨a,ns,_,rfl,hS.same S4,hl,by ac_nf,by ac_nf,fun c1=>?_⟩
  mframe;mpure
  mspec
  generalize ((c1*48271).fmod 2147483647).fdiv 37=w;cbv;mpure
  rename_i ol e4 e9 H4 H6 S6 e6;cbv;mpure
  have q5:=Mth.fm (x:=w.fdiv 64) (y:=2) ⋯;obtain ⟨n5,b9⟩:=Int.eq_ofNat_of_zero_le q5.1;rw [b9] at q5 ⊢;obtain ⟨mo,d3,m1,m2⟩:∃ mo:Int,[V.int 9, .int 10000000000000000000000000000000000000000][n5]?=some (.int mo)/\1<=mo/\mo<=10000000000000000000000000000000000000000:=pick9 ∅;refine ixL (i:=n5) (SqL.of e6) d3 ?_;clear q5 b9;cbv;refine ⟨by ac_nf,?_⟩;mpure
  obtain ⟨b1,b2,zb,_⟩:=lowQ 133 4 (Mth.fm (x:=c1) (y:=mo) ∅) (Mth.fm (x:=w.fdiv 128) (y:=12) ⋯) (Int.le_trans m2 ⋯);refine ⟨_,_,rfl,b1,b2,fun fz H7 S7 e7=>?_⟩;obtain ⟨G,n⟩:∃ G:Fr2,G=(Mth.top (c1.fmod mo) (1+(w.fdiv 128).fmod 12),Mth.bot (c1.fmod mo) (1+(w.fdiv 128).fmod 12)):=⟨_,rfl⟩;rw [<- n] at zb;have e7:H7 fz=some (.tup [.int G.1, .int G.2]):=by rw [e7,n]
  clear b1 b2 m1 m2 n
  mframe;refine ⟨by ac_nf,by ac_nf,by ac_nf,fun z1 n=>?_⟩;have a2:z1.cps.toList=List.replicate st 120:=by
   rw [n,R];simp
  refine ⟨97+i,by decide,by rw [d8];exact Jb6 (by rw [List.getElem?_range' ∅,Nat.one_mul]),?_⟩;cbv;have l1:z1.length=st:=by rw [JeT,a2,List.length_replicate]
  have Y:(z1++(⟨#[97+i]⟩:Str)).cps.toList=List.replicate st 120++[97+i]:=by rw [JgE,a2]
  have d5:(z1++(⟨#[97+i]⟩:Str)).length=st+1:=by rw [JeT,Y];simp
  have lc:(⟨#[97+i]⟩:Str).length=1:=rfl;refine ⟨by ac_nf,?_⟩;cbv;refine ⟨by ac_nf,by ac_nf,by ac_nf,fun z2 g=>?_⟩;have a3:z2.cps.toList=List.replicate (2-st) 120:=by
   rw [g,R];have : ((2:Int)-(st:Int)).toNat=2-st:=by ac_nf
   rw [this];simp
  have l3:z2.length=2-st:=by rw [JeT,a3,List.length_replicate]
  cbv;refine ⟨by ac_nf,?_⟩;rw [nm_eq Y a3];clear l3 a3 lc d5 Y l1 a2 n g
  mframe;mpure
  obtain ⟨b1,b2,mb,mn⟩:=lowQ 100 6 (Mth.fm (x:=w.fdiv 16) (y:=13) ⋯) (Mth.fm (x:=w.fdiv 4096) (y:=6) ⋯);refine ⟨_,_,rfl,b1,b2,fun fm H8 S8 e8=>?_⟩;obtain ⟨D,g⟩:∃ D:Fr2,D=(Mth.top ((w.fdiv 16).fmod 13) (1+(w.fdiv 4096).fmod 6),Mth.bot ((w.fdiv 16).fmod 13) (1+(w.fdiv 4096).fmod 6)):=⟨_,rfl⟩;rw [<- g] at mb;have mn:0<=D.1:=by rw [g];exact mn
  have e8:H8 fm=some (.tup [.int D.1, .int D.2]):=by rw [e8,g]
  clear b1 b2 g
  mframe;have b3:=S6.trans (S7.trans S8);refine ⟨.inl ⟨rfl,_,SqL.of (b3 _ _ ep)⟩,?_⟩;cbv;refine ⟨102+i,by decide,by rw [b6];exact Jb6 (by rw [List.getElem?_range' ∅,Nat.one_mul]),?_⟩;cbv;rw [show (i:Int)+1=((i+1:Nat):Int) from rfl];refine ⟨102+(i+1),by decide,by rw [b6];exact Jb6 (by rw [List.getElem?_range' ∅,Nat.one_mul]),?_⟩;rw [fcK (st:=st),fcK (st:=st)];cbv;mpure
  have qw:=Mth.fm (x:=w.fdiv 8) (y:=5) ⋯;obtain ⟨W,c8⟩:∃ W:Int,W=1+(w.fdiv 8).fmod 5:=⟨_,rfl⟩;rw [<- c8];refine ⟨by show 6<=sizeLine;ac_nf,?_⟩;rename_i pt f4 f1 H8 a5 b4 d4;cbv;have e:=b3.trans b4;refine ⟨X,N,_,rfl,rfl,e _ _ ep,by ac_nf,?_⟩;generalize J:upd a5 X _=j;cbv;have c9:j X=some (.lst (N++[.ref pt])):=putE J;have a4:SameT a5 j:=SameT.put J (e _ _ ep) rfl;have l:j U=some (.lst u):=by rw [<- J,Jag (Ne.symm a6)];exact e _ _ em
  have O:SameT H8 j:=b4.t.trans a4;have S:FrV K j (.ref fz) G.1 G.2:=FrV.of (O _ _ rfl (S8 _ _ e7));have b5:FrV K j (.ref fm) D.1 D.2:=FrV.of (O _ _ rfl e8);have r:SameT H4 j:=e.t.trans a4;obtain ⟨mv,a9⟩:∃ mv,u[i]?=some mv:=⟨_,List.getElem?_eq_getElem (by ac_nf:i<u.length)⟩;obtain ⟨m,a7,d0⟩:=hM.at_ a9
  mframe;refine ⟨.inl ⟨rfl,_,SqL.of l⟩,?_⟩;cbv;refine ixL (i:=i) (SqL.of l) a9 ?_;cbv;refine ⟨mv, .ref fz,_,m,G,true,rfl,rfl,FrV.sameT r d0,S,(hC.mb ∅ a7).w.mono ⋯ ⋯,zb.w.mono ⋯ ⋯,fun np b8 B c3=>?_⟩;cbv;refine ⟨U,u,_,rfl,rfl,B _ _ l,by ac_nf,?_⟩;generalize I:upd b8 U _=L;cbv;have d6:L U=some (.lst (u++[.ref np])):=putE I;have b7:SameT b8 L:=SameT.put I (B _ _ l) rfl;have a1:nameS (nmK 112 st i)=true:=Jc5 ⋯ ∅ ∅;have c6:nameS (nmK 102 st i)=true:=Jc5 ⋯ ∅ ∅;have c4:nameS (nmK 102 st (i+1))=true:=Jc5 ⋯ ∅ ∅;have nw:nmK 102 st i≠nmK 102 st (i+1):=fun z=>by have:=Jdn z;ac_nf
  have M:Mth.Sz 21 W:=.lit ∅ ∅;have d7:POk ⟨nmK 112 st i,nmK 102 st i,nmK 102 st (i+1),G,D,W⟩:=⟨a1,c6,c4,nw,zb.ok ⋯ ⋯,mb.ok ⋯ ⋯,mn,by show 1<=W;ac_nf,M.mono ⋯⟩;have c7:=hC.step (m:=m) (by rw [o];exact a7) (p:=⟨nmK 112 st i,nmK 102 st i,nmK 102 st (i+1),G,D,W⟩) (d:=true) (by rw [o]) (by rw [o];rfl) (by rw [o];rfl) zb mb d7 M;have c:=B.t.trans b7;refine d1 _ _ ⟨_,_,_,_,_,_,N++[.ref pt],u++[.ref np],Z++[⟨nmK 112 st i,nmK 102 st i,nmK 102 st (i+1),G,D,W⟩],_,rfl,fun b w h=>?_,?_,?_,d6,?_,c7,by simp [o]⟩
  ·rw [<- I,Jag (Jah h c2)];refine B _ _ ?_;rw [<- J,Jag (Jah h b0)];exact e _ _ (S4 _ _ h)
  ·rw [<- I,Jag a6];exact B _ _ c9
  ·exact (hP.mono (P':=PDV K L) fun _ _ z=>z.sameT (r.trans c)).append (.one ⟨pt,_,_,rfl,SqT.of ((a4.trans c) _ _ rfl d4),S.sameT c,b5.sameT c⟩)
  ·exact (hM.mono (P':=fun (m:Fr2) v=>FrV K L v m.1 m.2) fun _ _ z=>FrV.sameT (r.trans c) z).append (.one (FrV.of (b7 _ _ rfl c3)))
 ·rintro σ H4 ⟨v4,v5,v6,v7,v8,v9,N,u,Z,ms,rfl,S4,ep,hP,em,hM,hC,o⟩;cbv;refine ⟨len2,?_⟩;rename_i q f8 f5 H4 H5 S5 e5;cbv;exact k q X U N u st Z ms H5 (S4.trans S5) e5 (S5 _ _ ep) (hP.mono fun _ _ z=>z.sameT S5.t) (S5 _ _ em) (hM.mono fun _ _ z=>FrV.same S5 z) hC ∅ ∅
abbrev Ba8:Stmt:=top 57
theorem JaX:Jan ["_law_script","_law_places","_law_name","_law_gaps_here","_law_k","_law_mixed","_law_one","_law_two","_law_middle","_law_other","_law_low_here","_law_high"] ["_law_script","_law_places","_law_name"] (Jae Ba8):=by bv_decide
def JcX (K:W.Frag):Sp:=fun vs H Q E=>∃ (a ml:Addr) (ns:List Int) (mx:List V) (ms:List Fr2) (ls:List PD) (st:Nat),vs=[.ref a, .ref ml, .str (Str.ofString "g")]/\SqL K H a (ns.map V.int)/\ns.length<=63/\H ml=some (.lst mx)/\All2 (fun (m:Fr2) v=>FrV K H v m.1 m.2) ms mx/\Rw st ls ms/\1<=ls.length/\ls.length<=7/\∀ (gl:Addr) (gx:List V) (gs:List GD) (H':Hp),Same H H'->H gl=none->H' gl=some (.lst gx)->All2 (fun (g:GD) v=>TV K H' g.td v) gs gx->GsO st ms gs->Q (.ref gl) H'
theorem Jgq (F:FunD K "_law_gaps" "_law_gaps" Ba8 dV f fd) (T:Txt K mg Ad) (Bad:Cal P w K mg base 1 "_law_cell" ["_law_script","_law_k"] [] (JbA K)) (Baf:Cal P w K mg base 1 "_law_low" ["_law_top","_law_bottom"] [] (JbB)) (Bao:Cal P w K mg base 2 "_law_plus" ["_law_one","_law_other","_law_sign"] [] (Jb0 K)):FnOk P w K mg base (CX1 P w) 3 f fd ["_law_script","_law_places","_law_name"] (JcX K):=by
 refine F.okn JaX (by subst_eqs) (fun b9 A a5 s H vs Q E n h=>?_)
 obtain ⟨a,ml,ns,R,ms,ls,st,rfl,h⟩:=h;refine ⟨_,(Jab (Jak 3 JaX.nd (Jbg Jad)) (Jab (Ja8 PassesOwn.never rfl (Jdb rfl T.Bb9 (Jaa (pe_op Jay (Bad.ev n ⋯ rfl passF (Jaa (pv 0) (Jaa Jac Jad))) Jac) Jad)) (Jap 4 JaX.nd) (Jab (Jak 5 JaX.nd (pe_op Jar (pe_op Jay (pe_op JaL (Bad.ev n ⋯ rfl passF (Jaa (pv 0) (Jaa (pe_op JaE Jac (pe_op JaL Jac (pv 4))) Jad))) Jac) Jac) Jac)) (Jab (Jak 6 JaX.nd (pe_op Jay (pv 5) (Jau JaW rfl T.BbQ JbN (Jaa (pv 1) Jad)))) (Jab (Jak 7 JaX.nd (pe_op Jay (pe_op JaE (pe_op JaE (pv 6) Jac) (pe_op Jay (pe_op Jar (pv 5) Jac) (pe_op Jid (Jau JaW rfl T.BbQ JbN (Jaa (pv 1) Jad)) Jac))) (Jau JaW rfl T.BbQ JbN (Jaa (pv 1) Jad)))) (Jab (Jak 8 JaX.nd (Bao.ev n ⋯ rfl passF (Jaa (pe_ix ix_U (pv 1) (pv 7)) (Jaa (pe_ix ix_U (pv 1) (pv 6)) (Jaa (pe_un JeI Jac) Jad))))) (Jab (Jak 9 JaX.nd (Bad.ev n ⋯ rfl passF (Jaa (pv 0) (Jaa (pe_op JaE Jac (pe_op JaL Jac (pv 4))) Jad)))) (Jab (Jak 10 JaX.nd (Bao.ev n ⋯ rfl passF (Jaa (pv 8) (Jaa (Baf.ev n ⋯ rfl passF (Jaa (pe_op Jay (pv 9) Jac) (Jaa (pe_op JaE Jac (pe_op Jay (pe_op Jar (pv 5) Jac) Jac)) Jad))) (Jaa (pe_un JeI Jac) Jad))))) (Jab (Jak 11 JaX.nd (Bao.ev n ⋯ rfl passF (Jaa (pv 8) (Jaa (Baf.ev n ⋯ rfl passF (Jaa (pe_op Jay (pe_op Jar (pv 9) Jac) Jac) (Jaa (pe_op JaE Jac (pe_op Jay (pe_op Jar (pv 5) Jac) Jac)) Jad))) (Jaa Jac Jad))))) (Jai (Jba (pe_bm PySem.F.plainAttrs_list PySem.F.slot_list_append PySem.F.type_list_append Ja3 (pv 3) (Jaa (JaO (Jaa (pe_op JaE (pv 2) (pe_ix ix_U Jbk (pv 4))) (Jaa (pe_ix ix_U Jbk (pv 6)) (Jaa (pe_ix ix_U Jbk (pv 7)) (Jaa (pv 10) (Jaa (pv 11) Jad)))))) Jad) (hs:=by exact Jaf rfl)))))))))))) (Jai (Jaq (pv 3))))),?_⟩
 obtain ⟨hS,hl,em,hM,hC,l1,l7,k⟩:=h;have sl:(1000:Nat)<=sizeLine:=by decide
 have a2:(Str.ofString "fghijklmn").cps.toList=List.range' 102 9:=by decide
 have a9:(Str.ofString "opqrst").cps.toList=List.range' 111 6:=by decide
 have lm:=hM.length;have b6:=hC.len;show tSeq _ _ _ [some (.ref a),some (.ref ml),some (.str (Str.ofString "g")),none,none,none,none,none,none,none,none,none] H;cbv;refine ⟨len0,?_⟩;rename_i W l b4 H H1 S1 e1;cbv
 mframe;refine ⟨a,ns,2,rfl,hS.same S1,hl,by decide,by decide,fun c0=>?_⟩;cbv;mpure
 have q0:=Mth.fm (x:=c0) (y:=6) ⋯;refine ⟨_,rfl,by ac_nf,by ac_nf,?_⟩;refine ForR.byN (fun i σ H'=>∃ (v4 v5 v6 v7 v8 v9 D r:Option V) (N:List V) (p:List GD),σ=[some (.ref a),some (.ref ml),some (.str (Str.ofString "g")),some (.ref W),v4,v5,v6,v7,v8,v9,D,r]/\Same H H'/\H' W=some (.lst N)/\All2 (fun (g:GD) v=>TV K H' g.td v) p N/\p.length=i/\(∀ (i:Nat) g,p[i]?=some g->g.nm=gnK i)/\∀ g∈p, ∃ u v,GOq st ms g u v/\0<=vl u/\0<=vl v) ⟨none,none,none,none,none,none,none,none,[],[],rfl,S1,e1,rfl,rfl,(fun i g h=>by simp at h),(fun g G=>by cases G)⟩ ?_ ?_
 ·rintro i σ H2 hi ⟨v4,v5,v6,v7,v8,v9,D,r,N,p,rfl,o,eg,hX,M,C,J⟩ N0 a7;have i5:i<5:=by ac_nf
  have lX:=hX.length;clear hi q0;simpa only [Int.zero_add];mpure
  refine ⟨a,ns,_,rfl,hS.same o,hl,by ac_nf,by ac_nf,fun c1=>?_⟩;cbv;mpure
  mspec
  generalize ((c1*39373).fmod 2147483629).fdiv 37=w;cbv;have c:=o _ _ em;refine ⟨_, .inl (SqL.of c),?_⟩;cbv;refine ⟨by ac_nf,?_⟩
  mframe;mpure
  refine ⟨_, .inl (SqL.of c),?_⟩;cbv;refine ⟨by ac_nf,_, .inl (SqL.of c),?_⟩;cbv;refine ⟨by ac_nf,?_⟩;obtain ⟨f,hf⟩:∃ f,f=R.length:=⟨_,rfl⟩;rw [<- hf];have q1:=Mth.fm (x:=w) (y:=(f:Int)) ∅;have q2:=Mth.fm (x:=w.fdiv 64) (y:=(f:Int)-1) ∅;have a1:=Ji4 (x:=w.fmod (f:Int)+1+(w.fdiv 64).fmod ((f:Int)-1)) (f:=(f:Int)) ∅ ∅;have q7:=Mth.fm (x:=w.fmod (f:Int)+1+(w.fdiv 64).fmod ((f:Int)-1)) (y:=(f:Int)) ∅;obtain ⟨B,S⟩:=Int.eq_ofNat_of_zero_le q1.1;obtain ⟨q,a3⟩:=Int.eq_ofNat_of_zero_le q7.1;have a8:B≠q:=fun z=>by
   have : w.fmod (f:Int)=(w.fmod (f:Int)+1+(w.fdiv 64).fmod ((f:Int)-1)).fmod (f:Int):=by rw [a3,S,z]
   rcases a1 with e | e <;> ac_nf
  rw [a3,S];have a6:B<R.length:=by ac_nf
  have b0:q<R.length:=by ac_nf
  obtain ⟨va,X⟩:∃ va,R[B]?=some va:=⟨_,List.getElem?_eq_getElem a6⟩;obtain ⟨vb,a0⟩:∃ vb,R[q]?=some vb:=⟨_,List.getElem?_eq_getElem b0⟩;obtain ⟨ma,L,fa⟩:=hM.at_ X;obtain ⟨mb,I,fb⟩:=hM.at_ a0;clear a1 q2 q7 q1
  mframe;refine ixL (i:=q) (SqL.of c) a0 ?_;cbv;refine ixL (i:=B) (SqL.of c) X ?_;cbv;refine ⟨vb,va,_,mb,ma,false,rfl,rfl,FrV.same o fb,FrV.same o fa,(hC.mb ∅ I).w.mono ⋯ ⋯,(hC.mb ∅ L).w.mono ⋯ ⋯,fun pm H3 S3 e3=>?_⟩;have fm:=hC.mm l7 L I;obtain ⟨m,hm⟩:∃ m,m=addF mb (negF ma):=⟨_,rfl⟩;have e3:H3 pm=some (.tup [.int m.1, .int m.2]):=by rw [e3,hm];rfl
  rw [<- hm] at fm
  mframe;mpure
  refine ⟨a,ns,_,rfl,(hS.same o).same S3,hl,by ac_nf,by ac_nf,fun O=>?_⟩
  mframe;mpure
  obtain ⟨b1,b2,fu,Z⟩:=lowQ 8 8 (Mth.fm (x:=O) (y:=23) ⋯) (Mth.fm (x:=w.fdiv 1024) (y:=5) ⋯);refine ⟨_,_,rfl,b1,b2,fun pu H4 S4 e4=>?_⟩;replace Z:=(vl_nn fu.b1).mpr Z;obtain ⟨u,hu⟩:∃ u:Fr2,u=(Mth.top (O.fmod 23) (1+(w.fdiv 1024).fmod 5),Mth.bot (O.fmod 23) (1+(w.fdiv 1024).fmod 5)):=⟨_,rfl⟩;rw [<- hu] at fu Z;have e4:H4 pu=some (.tup [.int u.1, .int u.2]):=by rw [e4,hu]
  clear b1 b2 hu;cbv;refine ⟨.ref pm, .ref pu,_,m,u,false,rfl,rfl,FrV.of (S4 _ _ e3),FrV.of e4,fm.w.mono ⋯ ⋯,fu.w.mono ⋯ ⋯,fun b8 H5 S5 e5=>?_⟩
  mframe;mpure
  obtain ⟨b1,b2,fv,U⟩:=lowQ 8 8 (Mth.fm (x:=O.fdiv 23) (y:=23) ⋯) (Mth.fm (x:=w.fdiv 8192) (y:=5) ⋯);refine ⟨_,_,rfl,b1,b2,fun pv H6 S6 e6=>?_⟩;replace U:=(vl_nn fv.b1).mpr U;obtain ⟨v,hv⟩:∃ v:Fr2,v=(Mth.top ((O.fdiv 23).fmod 23) (1+(w.fdiv 8192).fmod 5),Mth.bot ((O.fdiv 23).fmod 23) (1+(w.fdiv 8192).fmod 5)):=⟨_,rfl⟩;rw [<- hv] at fv U;have e6:H6 pv=some (.tup [.int v.1, .int v.2]):=by rw [e6,hv]
  clear b1 b2 hv;cbv;have a4:=S4.trans (S5.trans S6);refine ⟨.ref pm, .ref pv,_,m,v,true,rfl,rfl,FrV.of (a4 _ _ e3),FrV.of e6,fm.w.mono ⋯ ⋯,fv.w.mono ⋯ ⋯,fun b7 H7 S7 e7=>?_⟩;have Y:=S3.trans (a4.trans S7)
  mframe;refine ⟨.inl ⟨rfl,_,SqL.of (Y _ _ eg)⟩,?_⟩;cbv;refine ⟨111+i,by decide,by rw [a9];exact Jb6 (by rw [List.getElem?_range' ∅,Nat.one_mul]),?_⟩;cbv;refine ⟨by show 2<=sizeLine;ac_nf,?_⟩;cbv;refine ⟨102+B,by decide,by rw [a2];exact Jb6 (by rw [List.getElem?_range' ∅,Nat.one_mul]),?_⟩;cbv;refine ⟨102+q,by decide,by rw [a2];exact Jb6 (by rw [List.getElem?_range' ∅,Nat.one_mul]),?_⟩;rw [fcK (st:=st),fcK (st:=st)];cbv;refine ⟨len5,?_⟩;rename_i px b5 b3 H7 H8 S8 e8;cbv;have d:=Y.trans S8;refine ⟨W,N,_,rfl,rfl,d _ _ eg,by ac_nf,?_⟩;generalize u9:upd H8 W _=H9;cbv;have e9:=putE u9;have T9:SameT H8 H9:=SameT.put u9 (d _ _ eg) rfl;refine a7 _ _ ⟨_,_,_,_,_,_,_,_,N++[.ref px],p++[⟨gnK i,nmK 102 st B,nmK 102 st q,addF m (negF u),addF m v⟩],rfl,fun b w h=>?_,e9,?_,by simp [M],fun j g hj=>?_,fun g G=>?_⟩
  ·rw [<- u9,Jag (Jah h l)];exact d _ _ (o _ _ h)
  ·refine (hX.mono (P':=fun (g:GD) v=>TV K H9 g.td v) fun _ _ z=>(TV.sameT d.t z).sameT T9).append (.one ?_);exact TV.sameT T9 ⟨px,_,_,rfl,SqT.of e8,FrV.of (S8 _ _ (S7 _ _ (S6 _ _ e5))),FrV.of (S8 _ _ e7)⟩
  ·rcases Jbb hj with hj | ⟨q1,q2⟩
   ·exact C j g hj
   ·rw [q1,q2,M]
  ·rcases mem_append.mp G with G | G
   ·exact J g G
   ·rw [mem_singleton.mp G];refine ⟨u,v,⟨B,q,ma,mb,a8,L,I,rfl,rfl,fu,fv,by rw [hm],by rw [hm],Rat.add_nonneg Z U⟩,Z,U⟩
 ·rintro σ H2 ⟨v4,v5,v6,v7,v8,v9,D,r,N,p,rfl,o,eg,hX,M,C,J⟩;cbv;exact k W N p H2 o l eg hX ⟨C,by ac_nf,J⟩
abbrev BaS:Stmt:=top 58
theorem Jav:Jan ["_law_script","_law_parts_here","_law_gaps_here","_law_cell_here","_law_others","_law_k","_law_name","_law_start","_law_end","_law_size","_law_most","_law_weight","_law_mixed","_law_left"] ["_law_script","_law_parts_here","_law_gaps_here"] (Jae BaS):=by bv_decide
def Jcu (K:W.Frag):Sp:=fun vs H Q E=>∃ (a pl gl:Addr) (ns:List Int) (px gx:List V) (ls:List PD) (gs:List GD),vs=[.ref a, .ref pl, .ref gl]/\SqL K H a (ns.map V.int)/\ns.length<=63/\H pl=some (.lst px)/\All2 (PDV K H) ls px/\(∀ p∈ls,Lik p p)/\1<=ls.length/\ls.length<=7/\H gl=some (.lst gx)/\All2 (fun (g:GD) v=>TV K H g.td v) gs gx/\gs.length<=5/\∀ (q ol lf:Addr) (ox lx:List V) (ks:List PD) (hs:List GD) (H':Hp),Same H H'->H' q=some (.tup [.ref ol, .ref lf])->H' ol=some (.lst ox)->All2 (PDV K H') ks ox->SecO ls ks->H' lf=some (.lst lx)->All2 (fun (g:GD) v=>TV K H' g.td v) hs lx->hs.Sublist gs->Q (.ref q) H'
theorem Je3 (F:FunD K "_law_second" "_law_second" BaS dV f fd) (T:Txt K mg Ad) (Bad:Cal P w K mg base 1 "_law_cell" ["_law_script","_law_k"] [] (JbA K)) (Baf:Cal P w K mg base 1 "_law_low" ["_law_top","_law_bottom"] [] (JbB)):FnOk P w K mg base (CX1 P w) 3 f fd ["_law_script","_law_parts_here","_law_gaps_here"] (Jcu K):=by
 refine F.okn Jav (by subst_eqs) (fun d1 A b2 s H vs Q E hr h=>?_)
 obtain ⟨a,pl,gl,ns,l,gx,ls,gs,rfl,h⟩:=h;have hu:=hr.units;refine ⟨_,(Jab (Jak 3 Jav.nd (Bad.ev hr ⋯ rfl passF (Jaa (pv 0) (Jaa Jac Jad))) rfl (Or.inr rfl)) (Jab (Jak 4 Jav.nd (Jbg Jad)) (Jab (Ja8 PassesOwn.never rfl (Jdb rfl T.Bb9 (Jaa (Jau JaW rfl T.BbQ JbN (Jaa (pv 1) Jad)) Jad)) (Jap 5 Jav.nd) (Jab (Jis (pe_ix ix_U (pv 1) (pe_op Jay (pe_op JaE (pe_op JaL (pv 5) (pe_ix ix_U (Jbg (Jaa Jac (Jaa (pe_un JeI Jac) Jad))) (pe_op Jay (pv 3) Jac))) (pe_op Jar (pv 3) Jac)) (Jau JaW rfl T.BbQ JbN (Jaa (pv 1) Jad)))) (JeE rfl (JaJ (Jap 6 Jav.nd) (JaJ (Jap 7 Jav.nd) (JaJ (Jap 8 Jav.nd) (JaJ (Jap 9 Jav.nd) (JaJ (Jap 10 Jav.nd) (JaJ (Jap 11 Jav.nd) JcS)))))))) (Jab (Jak 12 Jav.nd (pe_op Jar (pe_op Jay (pe_op JaL (Bad.ev hr ⋯ rfl passF (Jaa (pv 0) (Jaa (pe_op JaE Jac (pv 5)) Jad))) Jac) Jac) Jac)) (Jab (ps_if (JaC (JbJ hu) (pe_op Jay (pv 12) Jac) Jac (Jaw _)) (Jai (Jak 10 Jav.nd (Baf.ev hr ⋯ rfl passF (Jaa (pe_op Jay (pe_op Jar (pv 12) Jac) Jac) (Jaa Jac Jad)))))
   Jax) (Jab (ps_if (JaC (JbJ hu) (pe_op Jay (pe_op Jar (pv 12) Jac) Jac) Jac (Jaw _)) (Jai (Jak 11 Jav.nd (pe_op JaE Jac (pe_op Jay (pe_op Jar (pv 12) Jac) Jac))))
   Jax) (Jai (Jba (pe_bm PySem.F.plainAttrs_list PySem.F.slot_list_append PySem.F.type_list_append Ja3 (pv 4) (Jaa (JaO (Jaa (pv 6) (Jaa (pv 7) (Jaa (pv 8) (Jaa (pv 9) (Jaa (pv 10) (Jaa (pv 11) Jad))))))) Jad) (hs:=by exact Jaf rfl))))))))) (Jab (Jcm (j:=13) (own:=["_law_k"]) (cs:=[(2,"_law_gaps_here"),(3,"_law_cell_here")]) Jav.nd rfl (Or.inl rfl) rfl (Jdb rfl T.Bb9 (Jaa (Jau JaW rfl T.BbQ JbN (Jaa (pv 2) Jad)) Jad)) (fun _ _ _ _=>(Jap 0 (show [("_law_k" : Str),("_law_gaps_here" : Str),("_law_cell_here" : Str)].Nodup by decide))) (fun _ _ _ _=>(JaC JfO (pe_op Jay (pe_op Jar (pv 2) (pe_op (JkL (K:=K) rfl) Jac (pe_op JaL (pv 0) (pv 0)))) Jac) Jac (Jaw _))) (fun _ _ _ _=>(pe_ix (ix_UK (K:=K) rfl) (pv 1) (pv 0))) (JdP rfl) ⋯ rfl ⋯ (hcs2 rfl rfl rfl rfl rfl rfl)) (Jai (Jaq (JaO (Jaa (pv 4) (Jaa (pv 13) Jad))))))))),?_⟩
 clear hu;obtain ⟨hS,hl,ep,hP,a6,l1,l7,eg,hX,g5,k⟩:=h;have sl:(1000:Nat)<=sizeLine:=by decide
 have lp:=hP.length;have lX:=hX.length;show tSeq _ _ _ [some (.ref a),some (.ref pl),some (.ref gl),none,none,none,none,none,none,none,none,none,none,none] H;cbv;refine ⟨a,ns,22,rfl,hS,hl,by decide,by decide,fun o=>?_⟩
 mframe;refine ⟨len0,?_⟩;rename_i U a7 c4 H H1 S1 e1;cbv
 mframe;refine ⟨_, .inl (SqL.of (S1 _ _ ep)),?_⟩;cbv;refine ⟨_,rfl,by ac_nf,by ac_nf,?_⟩;have q2:=Mth.fm (x:=o) (y:=2) ⋯;obtain ⟨n2,b8⟩:=Int.eq_ofNat_of_zero_le q2.1;obtain ⟨r,b3,b4⟩:∃ r:Int,[V.int 1,V.int (-1)][n2]?=some (.int r)/\(r=1\/r = -1):=by
  have : n2=0\/n2=1:=by ac_nf
  rcases this with rfl | rfl
  ·exact ⟨1,rfl, .inl rfl⟩
  ·exact ⟨-1,rfl, .inr rfl⟩
 obtain ⟨f,hf⟩:∃ f:Nat->Nat,f=fun i:Nat=>(((i:Int)*r+o.fdiv 2).fmod (l.length:Int)).toNat:=⟨_,rfl⟩;have Z:∀ i:Nat,0<=((i:Int)*r+o.fdiv 2).fmod (l.length:Int)/\((i:Int)*r+o.fdiv 2).fmod (l.length:Int)<l.length:=fun i=>Mth.fm ∅;have b5:∀ i j,i<ls.length->j<ls.length->f i=f j->i=j:=fun i j hi hj e=>by
  rw [hf] at e;have a1:=Z i;have a2:=Z j;have e:(((i:Int)*r+o.fdiv 2).fmod (l.length:Int)).toNat=(((j:Int)*r+o.fdiv 2).fmod (l.length:Int)).toNat:=e;exact Ji3 (t:=o.fdiv 2) b4 (n:=l.length) ∅ ∅ ∅
 refine ForR.byN (fun i σ H'=>∃ (v5 v6 v7 v8 v9 W O Y:Option V) (R:List V) (S:List PD),σ=[some (.ref a),some (.ref pl),some (.ref gl),some (.int o),some (.ref U),v5,v6,v7,v8,v9,W,O,Y,none]/\Same H H'/\H' U=some (.lst R)/\All2 (PDV K H') S R/\S.length=i/\∀ (i:Nat) p,S[i]?=some p->∃ q,ls[f i]?=some q/\Lik q p) ⟨none,none,none,none,none,none,none,none,[],[],rfl,S1,e1,rfl,rfl,fun i p h=>by simp at h⟩ ?_ ?_
 ·rintro i σ H2 hi ⟨v5,v6,v7,v8,v9,W,O,Y,R,S,rfl,I,eo,hO,a0,N⟩ N0 b6;have i7:i<l.length:=by ac_nf
  have lO:=hO.length;simpa only [Int.zero_add];refine ⟨len2,?_⟩;rename_i tl c6 c3 H2 H3 S3 e3;cbv;mpure
  rw [b8];refine ixL (i:=n2) (SqL.of e3) b3 ?_;cbv;refine ⟨mulOk (n:=8) (m:=8) (.lit ∅ ∅) (.lit ∅ ∅),?_⟩;mpure
  have a9:=S3 _ _ (I _ _ ep);refine ⟨_, .inl (SqL.of a9),?_⟩;cbv;refine ⟨by ac_nf,?_⟩;have b7:=Z i;have b1:((i:Int)*r+o.fdiv 2).fmod (l.length:Int)=(f i:Int):=by rw [hf];show _=(((((i:Int)*r+o.fdiv 2).fmod (l.length:Int)).toNat:Nat):Int);ac_nf
  rw [b1] at b7 ⊢;obtain ⟨vp,a8⟩:∃ vp,l[f i]?=some vp:=⟨_,List.getElem?_eq_getElem ∅⟩;obtain ⟨p,hp,b,vz,vm,rfl,hb,hz,hm⟩:=hP.at_ a8;have d:=a6 p (List.mem_of_getElem? hp);refine ixL (i:=f i) (SqL.of a9) a8 ?_;cbv;refine ⟨b,_,rfl,hb.same (I.trans S3),rfl,?_⟩;cbv;have b0:=I.trans S3
  mframe;refine ⟨a,ns,_,rfl,hS.same b0,hl,by ac_nf,by ac_nf,fun c1=>?_⟩;cbv;mpure
  mspec
  generalize ((c1*69621).fmod 2147483587).fdiv 37=w;cbv;mpure
  rename_i N2 d2;have M:∀ (G:V) (mo:Fr2) (C:Hp),Same H3 C->FrV K C G mo.1 mo.2->FB 100 6 mo->0<=mo.1->N2 [some (.ref a),some (.ref pl),some (.ref gl),some (.int o),some (.ref U),some (.int (i:Int)),some (.str p.nm),some (.str p.st),some (.str p.en),some vz,some G,some (.int p.wt),some (.int w),none] C:=by
   intro G mo C S4 fm mb m0
   mframe;mpure
   rename_i N3 c9;have L:∀ wt:Int,1<=wt->Mth.Sz 21 wt->N3 [some (.ref a),some (.ref pl),some (.ref gl),some (.int o),some (.ref U),some (.int (i:Int)),some (.str p.nm),some (.str p.st),some (.str p.en),some vz,some G,some (.int wt),some (.int w),none] C:=by
    intro wt w1 J
    mframe;refine ⟨.inl ⟨rfl,_,SqL.of (S4 _ _ (S3 _ _ eo))⟩,?_⟩;cbv;refine ⟨by show 6<=sizeLine;ac_nf,?_⟩;rename_i t6 c5 c7 C H5 S5 e5;cbv;have B:=S3.trans (S4.trans S5);refine ⟨U,R,_,rfl,rfl,B _ _ eo,by ac_nf,?_⟩;generalize u6:upd H5 U _=H6;cbv;have e6:=putE u6;have T6:SameT H5 H6:=SameT.put u6 (B _ _ eo) rfl;refine b6 _ _ ⟨_,_,_,_,_,_,_,_,R++[.ref t6],S++[⟨p.nm,p.st,p.en,p.sz,mo,wt⟩],rfl,fun c u h=>?_,e6,?_,by simp [a0],fun j p' hj=>?_⟩
    ·rw [<- u6,Jag (Jah h a7)];exact B _ _ (I _ _ h)
    ·refine (hO.mono (P':=PDV K H6) fun _ _ z=>(z.sameT B.t).sameT T6).append (.one ?_);exact PDV.sameT T6 ⟨t6,_,_,rfl,SqT.of e5,FrV.same (I.trans B) hz,fm.same S5⟩
    ·rcases Jbb hj with hj | ⟨q1,q2⟩
     ·exact N j p' hj
     ·rw [q1,q2,a0];obtain ⟨o1,o2,o3,o4,o5,o6,o7,o8,o9⟩:=d.ok;exact ⟨p,hp,rfl,rfl,rfl,rfl,⟨o1,o2,o3,o4,o5,mb.ok ⋯ ⋯,m0,w1,J.mono ⋯⟩,⟨d.zb.1,mb⟩,J⟩
   split
   ·cbv;mpure
    have qw:=Mth.fm (x:=w.fdiv 512) (y:=5) ⋯;exact L _ ∅ (.lit ∅ ∅)
   ·exact L _ d.ok.w d.wt
  split
  ·cbv;mpure
   have qw:=Mth.fm (x:=w.fdiv 64) (y:=9) ⋯;refine ⟨_,_,rfl,by decide, .lit ⋯ ⋯,fun pm C S4 e4=>?_⟩;exact M (.ref pm) (Mth.top ((w.fdiv 64).fmod 9) 2,Mth.bot ((w.fdiv 64).fmod 9) 2) C S4 (FrV.of e4) (FB.low ⋯ (.lit ∅ ∅) (.lit ⋯ ⋯)) (Jj7 qw.1 ⋯)
  ·exact M _ p.mo H3 (Same.refl _) (FrV.same b0 hm) d.zb.2 d.ok.m0
 ·rintro σ H2 ⟨v5,v6,v7,v8,v9,W,O,Y,R,S,rfl,I,eo,hO,a0,N⟩;cbv;have a3:=I _ _ eg;refine ⟨_, .inl (SqL.of a3),?_⟩;cbv;refine ⟨_,rfl,by ac_nf,by ac_nf,?_⟩;rw [Int.toNat_natCast];refine JbI.range (n:=gx.length) (fun i J H'=>H'=H2/\∃ hs:List GD,All2 (fun (g:GD) v=>TV K H2 g.td v) hs J/\hs.Sublist (gs.take i)) ⟨rfl,[],rfl,by simp⟩ (fun i J H' hi z=>by
   obtain ⟨_,hs,h1,X⟩:=z;have:=h1.length;have:=X.length_le;rw [length_take] at this;ac_nf) ?_ ?_
  ·rintro i J H3 hi ⟨rfl,hs,h1,X⟩;simpa only [length_singleton,length_cons,length_nil,List.replicate,JaA,map_cons,map_nil,Option.join_some];mpure
   try simpa only [Int.zero_add]
   refine ⟨mulOk (n:=8) (m:=8) (.lit ∅ ∅) (.lit ∅ ∅),?_⟩;have sq:0<=(i:Int)*(i:Int):=Int.mul_nonneg ∅ ∅;have c8:(i:Int)*(i:Int)<=36:=by
    have h6:(i:Int)<=6:=by ac_nf
    have:=Int.mul_le_mul h6 h6 ∅ ⋯;ac_nf
   refine ⟨divOk (n:=8) ∅ (.lit ∅ ∅),?_⟩;mpure
   cbv;obtain ⟨vg,a5⟩:∃ vg,gx[i]?=some vg:=⟨_,List.getElem?_eq_getElem hi⟩;obtain ⟨g,hg,tv⟩:=hX.at_ a5;have a4:gs.take (i+1)=gs.take i++[g]:=by rw [take_succ,hg];rfl
   split
   ·cbv;refine ixL (i:=i) (SqL.of a3) a5 ?_;cbv;exact ⟨hs++[g],h1.append (.one (TV.sameT I.t tv)),by rw [a4];exact X.append (List.Sublist.refl _)⟩
   ·exact ⟨hs,h1,X.trans (by rw [a4];exact List.sublist_append_left _ _)⟩
  ·rintro J H3 ⟨rfl,hs,h1,X⟩;rw [take_of_length_le ∅] at X;rename_i lf c2 b9 H3 C S4 e4;cbv;cbv;refine ⟨len2,?_⟩;rename_i q d3 d0 C H5 S5 e5;cbv;have D:=S4.trans S5;exact k q U lf R J S hs H5 (I.trans D) e5 (D _ _ eo) (hO.mono fun _ _ z=>z.sameT D.t) ⟨by ac_nf,f,b5,N⟩ (S5 _ _ e4) (h1.mono fun _ _ z=>TV.sameT D.t z) X
abbrev Ba0:Stmt:=top 59
theorem JbK:Jan ["_law_gaps_here","_law_parts_here","_law_cell_here","_law_name","_law_size","_law_bit","_law_gap","_law_at"] ["_law_gaps_here","_law_parts_here","_law_cell_here","_law_name"] (Jae Ba0):=by bv_decide
def JcE (K:W.Frag):Sp:=fun vs H Q E=>∃ (gl pl:Addr) (c:Int) (z:Str) (gx px:List V) (gs:List GD) (ls:List PD) (ms:List Fr2) (st:Nat),vs=[.ref gl, .ref pl, .int c, .str z]/\H gl=some (.lst gx)/\All2 (fun (g:GD) v=>TV K H g.td v) gs gx/\gs.length<=5/\H pl=some (.lst px)/\All2 (PDV K H) ls px/\Rw st ls ms/\1<=ls.length/\ls.length<=7/\∀ (q:Addr) (tx:List V) (j:Nat) (tg:GD) (H':Hp),Same H H'->H' q=some (.lst tx)->All2 (fun (g:GD) v=>TV K H' g.td v) (gs.take j++tg::gs.drop j) tx->j<=gs.length->tg.nm=z->(∃ u v,GOq st ms tg u v/\vl u<0)->Q (.ref q) H'
theorem JfN (F:FunD K "_law_tight" "_law_tight" Ba0 dV f fd) (T:Txt K mg Ad) (Baf:Cal P w K mg base 1 "_law_low" ["_law_top","_law_bottom"] [] (JbB)) (Bao:Cal P w K mg base 2 "_law_plus" ["_law_one","_law_other","_law_sign"] [] (Jb0 K)):FnOk P w K mg base (CX1 P w) 3 f fd ["_law_gaps_here","_law_parts_here","_law_cell_here","_law_name"] (JcE K):=by
 refine F.okn JbK (by subst_eqs) (fun b2 A R s H vs Q E hr h=>?_)
 obtain ⟨I,pl,c,z,gx,px,gs,ls,ms,st,rfl,h⟩:=h;refine ⟨_,(Jab (Jak 4 JbK.nd (pe_ix ix_U (pe_ix ix_U (pv 1) Jac) Jac)) (Jab (Jak 5 JbK.nd (Baf.ev hr ⋯ rfl passF (Jaa Jac (Jaa (pe_op JaE Jac (pe_op Jay (pv 2) Jac)) Jad)))) (Jab (Jak 6 JbK.nd (JaO (Jaa (pv 3) (Jaa (pe_ix ix_U (pe_ix ix_U (pv 1) Jac) Jac) (Jaa (pe_ix ix_U (pe_ix ix_U (pv 1) Jac) Jac) (Jaa (Bao.ev hr ⋯ rfl passF (Jaa (pv 4) (Jaa (pv 5) (Jaa Jac Jad)))) (Jaa (Bao.ev hr ⋯ rfl passF (Jaa (pv 4) (Jaa (pv 5) (Jaa Jac Jad)))) Jad))))))) (Jab (Jak 7 JbK.nd (pe_op Jay (pe_op Jar (pv 2) Jac) (pe_op JaE (Jau JaW rfl T.BbQ JbN (Jaa (pv 0) Jad)) Jac))) (Jai (Jaq (pe_op JaE (pe_op JaE (JgT sl_V (pv 0) Jin (Jio (pv 7))) (Jbg (Jaa (pv 6) Jad))) (JgT sl_V (pv 0) (Jio (pv 7)) Jin)))))))),?_⟩
 obtain ⟨eg,hX,g5,W,hP,hC,l1,l7,k⟩:=h;have sl:(1000:Nat)<=sizeLine:=by decide
 have lp:=hP.length;have lX:=hX.length;obtain ⟨vp,l⟩:∃ vp,px[0]?=some vp:=⟨_,List.getElem?_eq_getElem ∅⟩;obtain ⟨p,hp,b,vz,vm,rfl,O,hz,_⟩:=hP.at_ l;have zb:=(hC.zb p (List.mem_of_getElem? hp)).1;show tSeq _ _ _ [some (.ref I),some (.ref pl),some (.int c),some (.str z),none,none,none,none] H;cbv;refine ixL (i:=0) (SqL.of W) l ?_;cbv;refine ixT (i:=3) O rfl ?_
 mframe;mpure
 have qc:=Mth.fm (x:=c) (y:=100) ⋯;refine ⟨_,_,rfl,by ac_nf, .lit ∅ ∅,fun pb H1 r J=>?_⟩;have C:FB 8 8 (Mth.top 1 (1+c.fmod 100),Mth.bot 1 (1+c.fmod 100)):=FB.low ∅ (.lit ⋯ ⋯) (.lit ∅ ∅);have b0:0<vl (Mth.top 1 (1+c.fmod 100),Mth.bot 1 (1+c.fmod 100)):=by
  have t1:Mth.top 1 (1+c.fmod 100)=1:=by
   unfold Mth.top Mth.by_ Mth.g;rw [if_neg ∅];cbv;simp
  have:=(Jek (a:=(0,1)) (c:=(Mth.top 1 (1+c.fmod 100),Mth.bot 1 (1+c.fmod 100))) ⋯ C.b1).mp (by unfold lessF;simp [t1]);rw [Jfp] at this;exact this
 obtain ⟨d,e⟩:∃ d:Fr2,d=(Mth.top 1 (1+c.fmod 100),Mth.bot 1 (1+c.fmod 100)):=⟨_,rfl⟩;rw [<- e] at C b0;have J:H1 pb=some (.tup [.int d.1, .int d.2]):=by rw [J,e]
 clear qc e
 mframe;refine ixL (i:=0) (SqL.of (r _ _ W)) l ?_;cbv;refine ixT (i:=1) (O.same r) rfl ?_;cbv;refine ixL (i:=0) (SqL.of (r _ _ W)) l ?_;cbv;refine ixT (i:=2) (O.same r) rfl ?_;cbv;refine ⟨vz, .ref pb,_,p.sz,d,true,rfl,rfl,FrV.same r hz,FrV.of J,zb.w.mono ⋯ ⋯,C.w.mono ⋯ ⋯,fun lo H2 S2 e2=>?_⟩;have B:=r.trans S2;cbv;refine ⟨vz, .ref pb,_,p.sz,d,true,rfl,rfl,FrV.same B hz,FrV.of (S2 _ _ J),zb.w.mono ⋯ ⋯,C.w.mono ⋯ ⋯,fun b3 H3 S3 e3=>?_⟩;cbv;refine ⟨len5,?_⟩;rename_i U a8 a9 H3 H4 Z e4;cbv;have m:=B.trans (S3.trans Z);obtain ⟨ht,n⟩:=hC.tight l7 hp C b0 (g:=⟨z,p.st,p.en,addF p.sz d,addF p.sz d⟩) rfl rfl rfl rfl;have tv:TV K H4 (GD.td ⟨z,p.st,p.en,addF p.sz d,addF p.sz d⟩) (.ref U):=⟨U,_,_,rfl,SqT.of e4,FrV.of (Z _ _ (S3 _ _ e2)),FrV.of (Z _ _ e3)⟩
 mframe;mpure
 refine ⟨_, .inl (SqL.of (m _ _ eg)),?_⟩;cbv;refine ⟨by ac_nf,?_⟩;have qj:=Mth.fm (x:=c.fdiv 100) (y:=(gx.length:Int)+1) ∅;obtain ⟨j,hj⟩:=Int.eq_ofNat_of_zero_le qj.1;rw [hj] at qj ⊢
 mframe;have D:=m _ _ eg;refine .inl (.inl ⟨I,_,rfl,SqL.of D,?_⟩);rw [Jlv ∅];rename_i a6 a3 a7 H4 H5 S5 e5;cbv;cbv;refine ⟨by show 1<=sizeLine;ac_nf,?_⟩;rename_i a1 Y M H5 H6 S6 e6;cbv;refine .inl ⟨a6,a1,_,_,rfl,rfl,S6 _ _ e5,e6,by simp only [length_take,length_singleton];ac_nf,?_⟩;rename_i S V N H6 H7 S7 e7;cbv;cbv;have G:=S5.trans (S6.trans S7);refine .inl (.inl ⟨I,_,rfl,SqL.of (G _ _ D),?_⟩);rw [Ji1 ∅];rename_i L a0 a4 H7 H8 S8 e8;cbv;refine .inl ⟨S,L,_,_,rfl,rfl,S8 _ _ e7,e8,by simp only [length_append,length_take,List.length_drop,length_singleton];ac_nf,?_⟩;rename_i X a2 a5 H8 H9 S9 e9;cbv;have q:=G.trans (S8.trans S9);refine k X _ j ⟨z,p.st,p.en,addF p.sz d,addF p.sz d⟩ H9 (m.trans q) e9 ?_ ∅ rfl ⟨_,_,ht,n⟩;have u:=hX.mono (P':=fun (g:GD) v=>TV K H9 g.td v) fun _ _ z=>TV.sameT (m.trans q).t z;rw [List.append_assoc];have o:All2 (fun (g:GD) v=>TV K H9 g.td v) [⟨z,p.st,p.en,addF p.sz d,addF p.sz d⟩] [.ref U]:=.one (tv.sameT q.t);exact (u.take j).append (o.append (u.drop j))
abbrev BaH:Stmt:=top 60
theorem JbE:Jan ["_law_one","_law_other","_law_value","e"] ["_law_one","_law_other"] (Jae BaH):=by bv_decide
def Jcc (K:W.Frag) (Ad:Adr):Sp:=fun vs H Q E=>∃ (x y:Addr) (ls:List PD) (es:List (GD × List Str)) (pl:Str->Fr2) (ks:List PD) (fs:List (GD × List Str)) (pk:Str->Fr2) (z:Str),vs=[.ref x, .ref y]/\TK K Ad H x ls (es.map (·.1))/\SHC ls es pl/\TK K Ad H y ks (fs.map (·.1))/\SHC ks fs pk/\(∀ n∈ls.map (·.nm),n∈ks.map (·.nm))/\((∃ (i:Nat) (e:GD × List Str),es[i]?=some e/\vl (roomF pl e.1)<0/\(∀ e'∈es.take i,0<=vl (roomF pl e'.1))/\e.1.nm=z)\/((∀ e∈es,0<=vl (roomF pl e.1))/\(∃ (i:Nat) (e:GD × List Str),fs[i]?=some e/\vl (roomF pk e.1)<0/\(∀ e'∈fs.take i,0<=vl (roomF pk e'.1))/\e.1.nm=z)))/\∀ H',Same H H'->Q (.str z) H'
theorem Jeq (F:FunD K "_law_refused" "_law_refused" BaH dV f fd) (T:Txt K mg Ad) (Bag:Cal P w K mg base 10 "unlike_parts" ["thing","other"] [] (Jbr K Ad)):FnOk P w K mg base (CX1 P w) 11 f fd ["_law_one","_law_other"] (Jcc K Ad):=by
 refine F.okn JbE (by subst_eqs) (fun X A L s H Z Q E hr h=>?_)
 obtain ⟨x,y,R,l,o,U,W,S,z,rfl,h⟩:=h;refine ⟨_,(Jab (Jak 2 JbE.nd JdC) (Jab (Jjq (i:=3) JbE.nd rfl rfl (Bag.tr hr ⋯ rfl (Jaa (pv 0) (Jaa (pv 1) Jad))) rfl T.m_Tight (fun _=>
   (Jai (Jak 2 JbE.nd (Jjk (K:=K) rfl (pv 3) rfl))))) (Jai (Jaq (pv 2))))),?_⟩
 obtain ⟨Y,hc,M,I,v,a,k⟩:=h;have V:∀ {l:List (GD × List Str)} {o:Str->Fr2} {i j:Nat} {e m:GD × List Str},l[i]?=some e->vl (roomF o e.1)<0->(∀ e'∈l.take i,0<=vl (roomF o e'.1))->l[j]?=some m->vl (roomF o m.1)<0->(∀ e'∈l.take j,0<=vl (roomF o e'.1))->e=m:=by
  intro l o i j e m c g D n p t;have C:∀ {i j:Nat} {e:GD × List Str},l[i]?=some e->i<j->e∈l.take j:=fun {i j e} h hij=>List.mem_of_getElem? (i:=i) (by rw [List.getElem?_take_of_lt hij];exact h);rcases Nat.lt_trichotomy i j with q | q | q
  ·exact absurd g (Rat.not_lt.mpr (t e (C c q)))
  ·rw [q,n] at c;exact (Option.some.inj c).symm
  ·exact absurd p (Rat.not_lt.mpr (D m (C n q)))
 show tSeq _ _ _ [some (.ref x),some (.ref y),none,none] H;cbv
 mframe;refine ⟨x,y,R,l,o,U,W,S,rfl,Y,hc,M,I,v,fun B r2=>?_,fun i e c g D G H1 O h4 r=>?_,fun B i e c g D G H1 O h4 r=>?_⟩
 ·refine False.elim ?_;rcases a with ⟨i,e,c,g,_⟩ | ⟨_,i,e,c,g,_⟩
  ·exact absurd g (Rat.not_lt.mpr (B e (List.mem_of_getElem? c)))
  ·exact absurd g (Rat.not_lt.mpr (r2 e (List.mem_of_getElem? c)))
 ·have J:e.1.nm=z:=by
   rcases a with ⟨j,m,n,p,t,g4⟩ | ⟨B,_⟩
   ·rw [V c g D n p t];exact g4
   ·exact absurd g (Rat.not_lt.mpr (B e (List.mem_of_getElem? c)))
  rw [J] at r;refine ⟨_,rfl,T.xc,fun N d=>⟨N,_,G,_, .str z,rfl,Jaj,T.xl,by rw [Jag (Jah r d)];exact r,rfl,?_⟩⟩
  mframe;exact k _ (O.trans fun b u h=>by rw [Jag (Jah h d)];exact h)
 ·have J:e.1.nm=z:=by
   rcases a with ⟨j,m,n,p,_⟩ | ⟨_,j,m,n,p,t,g4⟩
   ·exact absurd p (Rat.not_lt.mpr (B m (List.mem_of_getElem? n)))
   ·rw [V c g D n p t];exact g4
  rw [J] at r;refine ⟨_,rfl,T.xc,fun N d=>⟨N,_,G,_, .str z,rfl,Jaj,T.xl,by rw [Jag (Jah r d)];exact r,rfl,?_⟩⟩
  mframe;exact k _ (O.trans fun b u h=>by rw [Jag (Jah h d)];exact h)
abbrev BcK:Stmt:=top 61
theorem Jbt:Jan ["_law_script","_law_parts_here","_law_places","_law_gaps_here","_law_others","_law_left","_law_way","_law_cell_here","_law_one","_law_other","_law_tight_here","_law_second_here","_law_theirs","_law_name","_law_slack","_law_stop","_law_due","_law_found"] ["_law_script"] (Jae BcK):=by bv_decide
def Bc6 (K:W.Frag):Sp:=fun vs H Q E=>∃ (a:Addr) (ns:List Int),vs=[.ref a]/\SqL K H a (ns.map V.int)/\ns.length<=63/\∀ H',Q (.bl true) H'
theorem JlO (F:FunD K "law" "law" BcK dV f fd) (T:Txt K mg Ad) (Bad:Cal P w K mg base 1 "_law_cell" ["_law_script","_law_k"] [] (JbA K)) (BbR:Cal P w K mg base 3 "_law_parts" ["_law_script"] [] (JcD K)) (Bb1:Cal P w K mg base 3 "_law_gaps" ["_law_script","_law_places","_law_name"] [] (JcX K)) (BbG:Cal P w K mg base 3 "_law_second" ["_law_script","_law_parts_here","_law_gaps_here"] [] (Jcu K)) (Bbv:Cal P w K mg base 3 "_law_tight" ["_law_gaps_here","_law_parts_here","_law_cell_here","_law_name"] [] (JcE K)) (Bb2:KCal P w K mg base 9 "Thing" Ad.Thing ["self","parts","gaps"] (Jby K Ad)) (BaT:Cal P w K mg base 11 "_law_refused" ["_law_one","_law_other"] [] (Jcc K Ad)) (BbF:Cal P w K mg base 9 "share" ["thing"] [] (JdJ K Ad)) (Bag:Cal P w K mg base 10 "unlike_parts" ["thing","other"] [] (Jbr K Ad)) (BaK:MCal P w K mg base 2 "parts" (Ja9 Ad) ["self"] (JaY K Ad)) (BbU:MCal P w K mg base 2 "gaps" (Ja9 Ad) ["self"] (Jbq K Ad)):FnOk P w K mg base (CX1 P w) 12 f fd ["_law_script"] (Bc6 K):=by
 refine F.okn Jbt (by subst_eqs) (fun q1 A m6 s H vs Q E J h=>?_)
 obtain ⟨a,ns,rfl,h⟩:=h;have Y:=J.units;refine ⟨_,(Jab (Jis (BbR.ev J ⋯ rfl passF (Jaa (pv 0) Jad)) (JeE rfl (JaJ (Jap 1 Jbt.nd) (JaJ (Jap 2 Jbt.nd) JcS)))) (Jab (Jak 3 Jbt.nd (Bb1.ev J ⋯ rfl passF (Jaa (pv 0) (Jaa (pv 2) (Jaa Jbk Jad))))) (Jab (Jis (BbG.ev J ⋯ rfl passF (Jaa (pv 0) (Jaa (pv 1) (Jaa (pv 3) Jad)))) (JeE rfl (JaJ (Jap 4 Jbt.nd) (JaJ (Jap 5 Jbt.nd) JcS)))) (Jab (Jak 6 Jbt.nd (pe_op Jay (pe_op Jar (Bad.ev J ⋯ rfl passF (Jaa (pv 0) (Jaa Jac Jad))) Jac) Jac)) (Jab (Jak 7 Jbt.nd (pe_op Jar (Bad.ev J ⋯ rfl passF (Jaa (pv 0) (Jaa Jac Jad))) Jac)) (Jab (Jak 8 Jbt.nd (Bb2.ev J ⋯ rfl passF (Jaa (pv 1) (Jaa (pv 3) Jad)))) (Jab (Jak 9 Jbt.nd (Bb2.ev J ⋯ rfl passF (Jaa (pv 4) (Jaa (pv 5) Jad)))) (Jab (ps_if (JaC JfP (pv 6) Jac (Jaw _)) (Jab (Jak 10 Jbt.nd (Bb2.ev J ⋯ rfl passF (Jaa (pv 1) (Jaa (Bbv.ev J ⋯ rfl passF (Jaa (pv 3) (Jaa (pv 1) (Jaa (pv 7) (Jaa Jbk Jad))))) Jad)))) (Jab (Jak 11 Jbt.nd (Bb2.ev J ⋯ rfl passF (Jaa (pv 1) (Jaa (Bbv.ev J ⋯ rfl passF (Jaa (pv 5) (Jaa (pv 1) (Jaa (pv 7) (Jaa Jbk Jad))))) Jad)))) (Jab (ps_if (JaC (JbJ Y) (pv 6) Jac (Jaw _)) (Jai (Jaq (Jbc (JbJ Y) (BaT.ev J ⋯ rfl passF (Jaa (pv 8) (Jaa (pv 11) Jad))) Jbk (Jaw _))))
   Jax) (Jab (ps_if (JaC (JbJ Y) (pv 6) Jac (Jaw _)) (Jai (Jaq (Jbc (JbJ Y) (BaT.ev J ⋯ rfl passF (Jaa (pv 10) (Jaa (pv 9) Jad))) Jbk (Jaw _))))
   Jax) (Jai (Jaq (Jbc (JbJ Y) (BaT.ev J ⋯ rfl passF (Jaa (pv 10) (Jaa (pv 11) Jad))) Jbk (Jaw _))))))))
   Jax) (Jab (Jak 12 Jbt.nd JbC rfl (Or.inr rfl)) (Jab (Ja8 PassesOwn.never rfl (pi_U (BbF.ev J ⋯ rfl passF (Jaa (pv 9) Jad))) (JeE rfl (JaJ (Jap 13 Jbt.nd) (JaJ (Jap 14 Jbt.nd) (JaJ (Jap 15 Jbt.nd) JcS)))) (Jai (Jb8 (hu1 Y) (pv 12) (pv 13) (pv 14) rfl))) (Jab (Jcm (j:=16) (own:=["_law_name","_law_slack","_law_stop"]) (cs:=[(12,"_law_theirs")]) Jbt.nd rfl (Or.inl rfl) rfl (pi_U (BbF.ev J ⋯ rfl passF (Jaa (pv 8) Jad))) (fun _ _ _ _=>(Jij (K:=K) (n:=3) rfl rfl (JaJ (Jap 0 (show [("_law_name" : Str),("_law_slack" : Str),("_law_stop" : Str),("_law_theirs" : Str)].Nodup by decide) (hf:=Or.inr rfl)) (JaJ (Jap 1 (show [("_law_name" : Str),("_law_slack" : Str),("_law_stop" : Str),("_law_theirs" : Str)].Nodup by decide) (hf:=Or.inr rfl)) (JaJ (Jap 2 (show [("_law_name" : Str),("_law_slack" : Str),("_law_stop" : Str),("_law_theirs" : Str)].Nodup by decide) (hf:=Or.inr rfl)) JcS))))) (fun _ _ _ _=>(JaC (JjV (K:=K) rfl Y) (JbU (hu1 Y) (pv 3) (pv 0) (fun _ _=>rfl)) (pv 1) (Jaw _))) (fun _ _ _ _=>(pv 0)) (JdP rfl) ⋯ rfl ⋯ (hcs1 rfl rfl rfl)) (Jab (Jak 17 Jbt.nd (Bag.ev J ⋯ rfl passF (Jaa (pv 8) (Jaa (pv 9) Jad)))) (Jab (ps_if (PW.pt (pw_or (JbQ (Jbh (Jau JaK rfl T.Baz Ja7 (Jaa (pv 17) (Jaa (JcQ (v:=.ty "list") rfl T.Bds Jf5 rfl) Jad))))) (pw_or (JaC (Jc8 Y) (pv 17) (pv 16) (Jaw _)) (JcO (JaC (Jc8 Y) (Bag.ev J ⋯ rfl passF (Jaa (pv 8) (Jaa (pv 8) Jad))) (Jbg Jad) (Jaw _)))))) (Jai (Jaq pe_bl))
   Jax) (Jab (Jba (pe_bm PySem.F.plainAttrs_list PySem.F.slot_list_append PySem.F.type_list_append Ja3 (pv 17) (Jaa Jac Jad) (hs:=by exact Jaf rfl))) (Jai (Jaq (Jcg (Jbc (JbJ Y) (Bag.ev J ⋯ rfl passF (Jaa (pv 8) (Jaa (pv 9) Jad))) (pv 16) (Jaw _)) (Jcg (Jbc (JbJ Y) (BaK.m0 J ⋯ passF (pv 8)) (pv 1) (Jaw _)) (Jda (Jbc (JbJ Y) (BbU.m0 J ⋯ passF (pv 9)) (pv 5) (Jaw _))))))))))))))))))))),?_⟩
 clear Y;obtain ⟨hS,hl,k⟩:=h;have sl:(1000:Nat)<=sizeLine:=by decide
 show tSeq _ _ _ [some (.ref a),none,none,none,none,none,none,none,none,none,none,none,none,none,none,none,none,none] H;cbv;refine ⟨a,ns,rfl,hS,hl,fun q pl ml px mx st ls ms H1 S1 eq ep hP em hM Z l1 l7=>?_⟩;cbv;refine ⟨q,_,rfl,SqT.of eq,rfl,?_⟩;cbv
 mframe;refine ⟨a,ml,ns,mx,ms,ls,st,rfl,hS.same S1,hl,em,hM,Z,l1,l7,fun gl gx R H2 S2 p2 eg hX hG=>?_⟩
 mframe;have f3:∀ p∈ls,Lik p p:=fun p N=>⟨rfl,rfl,rfl,rfl,Z.G.ok p N,Z.zb p N,Z.wt p N⟩;have g5:=hG.l5;refine ⟨a,pl,gl,ns,px,gx,ls,R,rfl,(hS.same S1).same S2,hl,S2 _ _ ep,hP.mono (fun _ _ z=>z.sameT S2.t),f3,l1,l7,eg,hX,g5,fun q2 ol lf ox lx O hs H3 S3 j4 eo hO L f4 hL X=>?_⟩;cbv;refine ⟨q2,_,rfl,SqT.of j4,rfl,?_⟩;cbv
 mframe;have i9:=S1.trans (S2.trans S3);refine ⟨a,ns,2,rfl,hS.same i9,hl,by decide,by decide,fun cw=>?_⟩;cbv;mpure
 mspec
 generalize (cw.fdiv 6).fmod 15=way;cbv;refine ⟨a,ns,22,rfl,hS.same i9,hl,by decide,by decide,fun l2=>?_⟩;cbv;mpure
 mspec
 generalize l2.fdiv 7=cc;cbv;have h4:=S2.trans S3;have h6:All2 (PDV K H3) ls px:=hP.mono fun _ _ z=>z.sameT h4.t;have i0:=h4 _ _ ep;have f2:All2 (fun (g:GD) v=>TV K H3 g.td v) R gx:=hX.mono fun _ _ z=>TV.sameT S3.t z;have i6:=S3 _ _ eg;have W:(ls.map (·.nm)).Nodup:=Jh5 Z.G.nm;have m3:∀ p∈ls, ∃ q∈ls,q.nm=p.nm/\q.st=p.st/\q.en=p.en/\q.sz=p.sz:=fun p N=>⟨p,N,rfl,rfl,rfl,rfl⟩;have m2:Sk ls ls:=fun p N=>⟨p,N,rfl,rfl,rfl⟩;have c4:∀ g∈R,nameS g.nm=true/\∃ u v,GOq st ms g u v:=fun g C=>by
  obtain ⟨j,hj,e⟩:=hG.names g C;obtain ⟨u,v,h,_⟩:=hG.ok g C;exact ⟨by rw [e];exact JlB j hj,u,v,h⟩
 have o8:=X.length_le;have b7:∀ d:List GD,d.length<=6->(d.map (·.nm)).Nodup->(∀ g∈d,nameS g.nm=true/\∃ u v,GOq st ms g u v)->ThO ls d (spOf (spR st ms)):=fun d U S h3=>Jj6 Z l7 l7 W (fun p N=>Z.G.ok p N) Z.zb Z.wt m3 m2 U S h3;have m:=b7 R ∅ hG.nd c4;have f7:(hs.map (·.nm)).Nodup:=(X.map (·.nm)).nodup hG.nd;have kn:=L.nd W;have o5:=L.len;have o:ThO O hs (spOf (spR st ms)):=Jj6 Z l7 ∅ kn (fun p N=>by obtain ⟨_,_,h⟩:=L.mem p N;exact h.ok) (fun p N=>by obtain ⟨_,_,h⟩:=L.mem p N;exact h.zb) (fun p N=>by obtain ⟨_,_,h⟩:=L.mem p N;exact h.wt) (fun p N=>by obtain ⟨q,hq,h⟩:=L.mem p N;exact ⟨q,hq,h.nm,h.st,h.en,h.sz⟩) (L.back W) ∅ f7 (fun g C=>c4 g (X.subset C));have r0:∀ g∈R,0<=vl (roomF (spOf (spR st ms)) g):=fun g C=>by
  obtain ⟨u,v,h,u0,v0⟩:=hG.ok g C;exact (h.room Z l7).2.1 u0 v0
 have rE:∀ (O:List PD) (d:List GD),(∀ g∈d,g∈R)->∀ e∈esN O d,0<=vl (roomF (spOf (spR st ms)) e.1):=fun O d h e he=>by
  obtain ⟨g,C,rfl⟩:=mem_map.mp he;exact r0 g (h g C)
 have a0:∀ n∈ls.map (·.nm),n∈O.map (·.nm):=fun n hn=>by
  obtain ⟨p,N,rfl⟩:=mem_map.mp hn;obtain ⟨q,hq,e,_⟩:=L.back W p N;exact mem_map.mpr ⟨q,hq,e⟩
 intro x1 c7 i4 h0 p1;have k6:Same H3 (upd (upd H3 c7 (.own x1)) x1 (.ins Ad.Thing c7 [])):=fun b u q=>by rw [Jag (Jah q i4),Jag (Jah q h0)];exact q
 refine ⟨x1,c7,pl,gl,px,gx,ls,R,H3,rfl,Jaj,i4,k6,SqL.of (i0),(h6),SqL.of (i6),(f2),Nat.le_trans m.l8 ⋯,Nat.le_trans m.g6 ⋯,m.pok,m.tok,m.nd,m.gnd,Jfn m.tr m.nd,m.con,fun H4 S4 j8=>⟨rfl,?_⟩⟩
 mframe;have l4:All2 (PDV K H4) O ox:=hO.mono fun _ _ z=>z.sameT S4.t;have g4:All2 (fun (g:GD) v=>TV K H4 g.td v) hs lx:=hL.mono fun _ _ z=>TV.sameT S4.t z;intro x2 d4 i5 i2 o9;have m9:Same H4 (upd (upd H4 d4 (.own x2)) x2 (.ins Ad.Thing d4 [])):=fun b u q=>by rw [Jag (Jah q i5),Jag (Jah q i2)];exact q
 refine ⟨x2,d4,ol,lf,ox,lx,O,hs,H4,rfl,Jaj,i5,m9,SqL.of (S4 _ _ eo),(l4),SqL.of (S4 _ _ f4),(g4),Nat.le_trans o.l8 ⋯,Nat.le_trans o.g6 ⋯,o.pok,o.tok,o.nd,o.gnd,Jfn o.tr o.nd,o.con,fun H5 S5 a3=>⟨rfl,?_⟩⟩;have a6:=S4.trans S5;have M:=j8.same S5
 mframe;have j7:=f2.mono (P':=fun (g:GD) v=>TV K H5 g.td v) fun _ _ z=>TV.sameT a6.t z;have j9:=a6 _ _ i6;have a4:=h6.mono (P':=PDV K H5) fun _ _ z=>z.sameT a6.t;have a8:=a6 _ _ i0;have h7:=g4.mono (P':=fun (g:GD) v=>TV K H5 g.td v) fun _ _ z=>TV.sameT S5.t z;have b8:=a6 _ _ f4;have tT:∀ (d:List GD) (j:Nat) (tg:GD) (z:Str),d.Sublist R->tg.nm=z->(z=Str.ofString "tight"\/z=Str.ofString "tighter")->(∃ u v,GOq st ms tg u v/\vl u<0)->ThO ls (d.take j++tg::d.drop j) (spOf (spR st ms))/\∃ (i:Nat) (e:GD × List Str),(esN ls (d.take j++tg::d.drop j))[i]?=some e/\vl (roomF (spOf (spR st ms)) e.1)<0/\(∀ e'∈(esN ls (d.take j++tg::d.drop j)).take i,0<=vl (roomF (spOf (spR st ms)) e'.1))/\e.1.nm=z:=by
  intro d j tg z a7 ez hz ⟨u,v,hq,Y⟩;have pm:(d.take j++tg::d.drop j).Perm (tg::d):=by
   have:=List.perm_middle (a:=tg) (l₁:=d.take j) (l₂:=d.drop j);rw [List.take_append_drop] at this;exact this
  have ll:=a7.length_le;refine ⟨b7 _ (by rw [pm.length_eq,length_cons];ac_nf) ?_ fun g C=>?_,(d.take j).length,(tg,wayN ls tg),?_,(hq.room Z l7).2.2 (.inl Y),fun e' c1=>?_,ez⟩
  ·refine ((pm.map (·.nm)).nodup_iff).mpr ?_;rw [map_cons];refine nodup_cons.mpr ⟨fun hm=>?_,(a7.map (·.nm)).nodup hG.nd⟩;obtain ⟨g,C,e⟩:=mem_map.mp hm;obtain ⟨i,hi,e2⟩:=hG.names g (a7.subset C);have:=JlA i hi;rw [<- e2,e,ez] at this;rcases hz with rfl | rfl
   ·exact this.1 rfl
   ·exact this.2 rfl
  ·rcases mem_cons.mp (pm.mem_iff.mp C) with rfl | C
   ·refine ⟨?_,u,v,hq⟩;rw [ez];rcases hz with rfl | rfl <;> decide
   ·exact c4 g (a7.subset C)
  ·unfold esN;rw [List.getElem?_map,List.getElem?_append_right (Nat.le_refl _),Nat.sub_self];rfl
  ·unfold esN at c1;rw [<- List.map_take,List.take_left] at c1;obtain ⟨g,C,rfl⟩:=mem_map.mp c1;exact r0 g (a7.subset (List.mem_of_mem_take C))
 have I:∀ {O:List PD} {R:List GD} {H':Hp} {x:Addr},TK K Ad H' x O R->TK K Ad H' x O ((esN O R).map (·.1)):=fun h=>by rw [JhP];exact h
 by_cases c3:way<3
 ·rw [if_pos (by simpa using c3)];cbv;cbv;refine ⟨gl,pl,cc,_,gx,px,R,ls,ms,st,rfl,j9,j7,g5,a8,a4,Z,l1,l7,fun tq tx j tg H6 S6 e6 hT hj n3 k0=>?_⟩;cbv;obtain ⟨y,i1⟩:=tT R j tg _ (List.Sublist.refl _) n3 (.inl rfl) k0;intro x3 d8 h5 e4 p4;have k9:Same H6 (upd (upd H6 d8 (.own x3)) x3 (.ins Ad.Thing d8 [])):=fun b u q=>by rw [Jag (Jah q h5),Jag (Jah q e4)];exact q
  refine ⟨x3,d8,pl,tq,px,tx,ls,_,H6,rfl,Jaj,h5,k9,SqL.of (S6 _ _ a8),(a4.mono (P':=PDV K H6) fun _ _ z=>z.sameT S6.t),SqL.of (e6),(hT),Nat.le_trans y.l8 ⋯,Nat.le_trans y.g6 ⋯,y.pok,y.tok,y.nd,y.gnd,Jfn y.tr y.nd,y.con,fun H7 S7 f6=>⟨rfl,?_⟩⟩;have a9:=S6.trans S7
  mframe;refine ⟨lf,pl,cc,_,lx,px,hs,ls,ms,st,rfl,a9 _ _ b8,h7.mono (fun _ _ z=>TV.sameT a9.t z),by ac_nf,a9 _ _ a8,a4.mono (fun _ _ z=>z.sameT a9.t),Z,l1,l7,fun o0 m8 j2 k4 H8 S8 e8 j1 q7 f1 i8=>?_⟩;cbv;obtain ⟨B,o1⟩:=tT hs j2 k4 _ X f1 (.inr rfl) i8;have a1:=a9.trans S8;intro x4 c9 g1 h9 o4;have l9:Same H8 (upd (upd H8 c9 (.own x4)) x4 (.ins Ad.Thing c9 [])):=fun b u q=>by rw [Jag (Jah q g1),Jag (Jah q h9)];exact q
  refine ⟨x4,c9,pl,o0,px,m8,ls,_,H8,rfl,Jaj,g1,l9,SqL.of (a1 _ _ a8),(a4.mono (P':=PDV K H8) fun _ _ z=>z.sameT a1.t),SqL.of (e8),(j1),Nat.le_trans B.l8 ⋯,Nat.le_trans B.g6 ⋯,B.pok,B.tok,B.nd,B.gnd,Jfn B.tr B.nd,B.con,fun H9 S9 g0=>⟨rfl,?_⟩⟩;have g8:=a1.trans S9
  mframe;by_cases w0:way=0
  ·rw [if_pos (by simpa using w0)];cbv;cbv;refine ⟨x1,x4,ls,esN ls R,_,ls,esN ls _,_,_,rfl,I (M.same g8),m.shc,I g0,B.shc,fun n hn=>hn, .inr ⟨rE ls R fun g C=>C,o1⟩,fun HA SA=>?_⟩;try simpa only [decide_true]
   exact k _
  ·rw [if_neg (by simpa using w0)];cbv
   mframe;by_cases w1:way=1
   ·rw [if_pos (by simpa using w1)];cbv;cbv;refine ⟨x3,x2,ls,esN ls _,_,O,esN O hs,_,_,rfl,I (f6.same (S8.trans S9)),y.shc,I (a3.same g8),o.shc,a0, .inl i1,fun HA SA=>?_⟩;try simpa only [decide_true]
    exact k _
   ·rw [if_neg (by simpa using w1)];cbv
    mframe;refine ⟨x3,x4,ls,esN ls _,_,ls,esN ls _,_,_,rfl,I (f6.same (S8.trans S9)),y.shc,I g0,B.shc,fun n hn=>hn, .inl i1,fun HA SA=>?_⟩;try simpa only [decide_true]
    exact k _
 rw [if_neg (by simpa using c3)];cbv
 mframe;rename_i td f5 o7 H5 H6 S6 e6;cbv
 mframe;have nE:∀ {O:List PD} {d:List GD} {P:Prop},(∀ g∈d,g∈R)->∀ (i:Nat) (e:GD × List Str),(esN O d)[i]?=some e->vl (roomF (spOf (spR st ms)) e.1)<0->P:=fun h i e U S=>absurd S (Rat.not_lt.mpr (rE _ _ h e (List.mem_of_getElem? U)));have d7:∀ g∈hs,g∈R:=fun g C=>X.subset C;refine ⟨x2,O,esN O hs,_,rfl,I (a3.same S6),o.shc,fun _ tl zs rk H7 S7 c0 e7 hZ hR=>?_,fun i e U S=>nE d7 i e U S⟩;have h8:=hR.nms;have p5:=hR.len;have lZ:=hZ.length;have i7:(rk.map (·.nm)).Nodup:=by rw [h8];exact kn
 have n8:tl≠td:=fun z=>by rw [z,e6] at c0;cases c0
 cbv;refine ⟨tl,rfl,ForA.byLN (xs:=zs) (SqL.of e7) (fun i σ H'=>i<=zs.length/\∃ (e1 e0 d6:Option V) (kv:List (Key × V)),σ=[some (.ref a),some (.ref pl),some (.ref ml),some (.ref gl),some (.ref ol),some (.ref lf),some (.int way),some (.int cc),some (.ref x1),some (.ref x2),none,none,some (.ref td),e1,e0,d6,none,none]/\(∀ c u,c≠td->H7 c=some u->H' c=some u)/\SameT H7 H'/\H' td=some (.dK kv)/\BG (·.nm) (fun (r:ShD) v=>FrV K H' v r.sl.1 r.sl.2) (rk.take i) kv) ⟨Nat.zero_le _,none,none,none,[],rfl,fun _ _ _ h=>h,SameT.refl _,S7 _ _ e6,⟨rfl,rfl⟩⟩ (fun i σ H' q=>by obtain ⟨_,_,_,_,_,_,q,_⟩:=q;exact SqL.of (q _ _ n8 e7)) ?_ ?_⟩
 ·rintro i z σ H8 hz ⟨hi,e1,e0,d6,kv,rfl,ho,hT,b6,hB⟩ N0 k7;have li:=(List.getElem?_eq_some_iff.mp hz).1;obtain ⟨r,J,b_,n9,t_,rfl,hb,hf,_⟩:=hZ.at_ hz;have lB:=hB.length;rw [length_take] at lB;cbv;refine ⟨b_,_,rfl,hb.sameT hT,rfl,?_⟩;cbv;refine ⟨td,_,rfl,DPut.k (k:=Sum.inr r.nm) b6 ∅,?_⟩;generalize u9:upd H8 td _=H9;cbv;have e9:=putE u9;have T9:SameT H8 H9:=SameT.put u9 b6 rfl;refine k7 _ _ ⟨li,_,_,_,_,rfl,fun c u i3 h=>by rw [<- u9,Jag i3];exact ho c u i3 h,hT.trans T9,e9,?_⟩;rw [take_succ,J];refine (hB.mono (P':=fun (r:ShD) v=>FrV K H9 v r.sl.1 r.sl.2) fun _ _ z=>FrV.sameT T9 z).new (a:=r) ?_ ((FrV.sameT hT hf).sameT T9);intro hm;rw [List.map_take] at hm;have U:(rk.map (·.nm))[i]?=some r.nm:=by rw [List.getElem?_map,J];rfl
  obtain ⟨j,hj⟩:=List.getElem?_of_mem hm;have lj:=(List.getElem?_eq_some_iff.mp hj).1;rw [length_take] at lj;rw [List.getElem?_take_of_lt ∅] at hj;have:=(List.getElem?_inj (by rw [length_map];ac_nf) i7).mp (hj.trans U.symm);ac_nf
 rintro σ H8 ⟨hi,e1,e0,d6,kv,rfl,ho,hT,b6,hB⟩;rw [take_of_length_le ∅] at hB;have a1:Same H5 H8:=fun c u h=>ho c u (Jah h f5) (S7 _ _ (S6 _ _ h));cbv;refine ⟨x1,ls,esN ls R,_,rfl,I (M.same a1),m.shc,fun _ n7 n5 rs H9 S9 n1 e9 j0 a2=>?_,fun i e U S=>nE (fun g C=>C) i e U S⟩;have f9:=a2.nms;have q0:=a2.len;have q3:=j0.length;have e5:=S9 _ _ b6;cbv;refine ⟨n7,rfl, .inl ⟨⟨_,SqL.of e9⟩,JbI.list (xs:=n5) (fun i ys H'=>H'=H9/\ys=((rs.take i).filter fun r=>!decide (r.sl=slOf rk r.nm)).map fun r=>V.str r.nm) ⟨rfl,by rw [take_zero];rfl⟩ (fun i ys H' hi z=>⟨by rw [z.1];exact SqL.of e9,by
  rw [z.2,length_map];have S:=length_filter_le (fun r:ShD=>!decide (r.sl=slOf rk r.nm)) (rs.take i);rw [length_take] at S;ac_nf⟩) ?_ ?_⟩⟩
 ·rintro i z ys HA hz ⟨rfl,rfl⟩;obtain ⟨r,J,b_,n9,t_,rfl,hb,hf,_⟩:=j0.at_ hz;have hm:r.nm∈rk.map (·.nm):=by
   rw [h8];refine a0 _ ?_;rw [<- f9];exact mem_map.mpr ⟨r,List.mem_of_getElem? J,rfl⟩
  obtain ⟨r',v',j5,c6,f0,n6⟩:=hB.some (z:=r.nm) hm;have c6:r'.nm=r.nm:=c6;have l3:slOf rk r.nm=r'.sl:=by rw [<- c6];exact Jfg i7 j5
  simpa only [length_singleton,length_cons,length_nil,List.replicate,JaA,map_cons,map_nil,Option.join_some];refine ⟨b_,_,rfl,hb,rfl,?_⟩;cbv;refine ⟨td,v',rfl,by rw [<- f0];exact DGet.k (k:=Sum.inr r.nm) e5,?_⟩;refine neF (FrV.same S9 n6) hf ?_;have ee:(decide (r'.sl.1=r.sl.1)&&decide (r'.sl.2=r.sl.2))=decide (r.sl=slOf rk r.nm):=by
   rw [l3, <- Bool.decide_and];exact decide_eq_decide.mpr (Prod.ext_iff.symm.trans eq_comm)
  rw [ee,take_succ,J];cases cp:decide (r.sl=slOf rk r.nm) with
  | true=>
   cbv;simp [filter_append,cp]
  | false=>
   cbv;simp [filter_append,cp]
 rintro ys HA ⟨rfl,rfl⟩;rw [take_of_length_le ∅];rename_i du p3 p0 HA HB SB eB;cbv;have eB:HB du=some (.lst ((unl rs rk).map V.str)):=by
  rw [eB];unfold unl;rw [map_map];rfl
 have b1:=a1.trans (S9.trans SB);have n4:(rs.map (·.nm)).Nodup:=by rw [f9];exact W
 have b3:∀ p∈ls,1<=p.wt:=fun p N=>(Z.G.ok p N).w;have g7:∀ p∈O,1<=p.wt:=fun p N=>(o.pok p N).w
 mframe;refine ⟨x1,x2,ls,esN ls R,_,O,esN O hs,_,rfl,I (M.same b1),m.shc,I (a3.same b1),o.shc,a0,fun _ _ fl b2 b0 HC SC b9 g9 m7 eC=>?_,fun i e U S=>nE (fun g C=>C) i e U S,fun _ i e U S=>nE d7 i e U S⟩;have : b2=rs:=g9.uniq W b3 a2;subst this;have : b0=rk:=m7.uniq kn g7 hR;subst this;have o6:(unl b2 b0).length<=12:=by
  unfold unl;rw [length_map];have:=length_filter_le (fun r:ShD=>!decide (r.sl=slOf b0 r.nm)) b2;ac_nf
 mframe;refine ⟨"list", .inl ⟨rfl,_,SqL.of eC⟩,?_⟩;cbv;refine JjT (SqL.of eC) (SqL.of (SC _ _ eB)) ?_;rw [decide_eq_true rfl];cbv;have c5:=b1.trans SC;refine ⟨x1,x1,ls,esN ls R,_,ls,esN ls R,_,rfl,I (M.same c5),m.shc,I (M.same c5),m.shc,fun n hn=>hn,fun _ _ q5 g3 c2 HD SD _ n0 k5 eD=>?_,fun i e U S=>nE (fun g C=>C) i e U S,fun _ i e U S=>nE (fun g C=>C) i e U S⟩;have : g3=b2:=n0.uniq W b3 a2;subst this;have : c2=g3:=k5.uniq W b3 a2;subst this;rw [JjB n4] at eD;cbv;refine ⟨len0,?_⟩;rename_i el o3 o2 HD HE SE eE;cbv;refine JjT (ls:=[]) (rs:=[]) (SqL.of (SE _ _ eD)) (SqL.of eE) ?_;rw [decide_eq_true rfl];cbv;have d9:=SD.trans SE
 mframe;have d5:=d9 _ _ eC;refine ⟨.inl ⟨rfl,_,SqL.of d5⟩,?_⟩;cbv;refine ⟨fl,_,_,rfl,rfl,d5,by rw [length_map];ac_nf,?_⟩;generalize c8:upd HE fl _=HF;cbv;have TF:SameT HE HF:=SameT.put c8 d5 rfl;have d0:∀ b u,H5 b=some u->HF b=some u:=fun b u h=>by
  rw [<- c8,Jag (Jah (b1 _ _ h) b9)];exact d9 _ _ (c5 _ _ h)
 have l0:HF du=some (.lst ((unl c2 b0).map V.str)):=by
  rw [<- c8,Jag (Jah eB b9)];exact d9 _ _ (SC _ _ eB)
 mframe;refine ⟨x1,x2,ls,esN ls R,_,O,esN O hs,_,rfl,I (M.same d0),m.shc,I (a3.same d0),o.shc,a0,fun _ _ l6 b4 b5 HG SG _ k8 m1 eG=>?_,fun i e U S=>nE (fun g C=>C) i e U S,fun _ i e U S=>nE d7 i e U S⟩;have : b4=c2:=k8.uniq W b3 a2;subst this;have : b5=b0:=m1.uniq kn g7 hR;subst this;cbv;have e3:Same H5 HG:=fun b u h=>SG _ _ (d0 b u h);refine ⟨.lst ((unl b4 b5).map D.str), .lst ((unl b4 b5).map D.str),?_,?_,?_,rfl,?_⟩
 ·simp only [Rep];exact ⟨l6,_,rfl,SqL.of eG,Jdd _⟩
 ·simp only [Rep];exact ⟨du,_,rfl,SqL.of (SG _ _ l0),Jdd _⟩
 ·have:=Jc3 (n:=10) (f:=D.str) (fun a=>by simp [depD]) (unl b4 b5);simp only [depD];ac_nf
 rw [JcM];cbv;obtain ⟨xd,d1,d2,d3,k1,k2,k3,j6,_⟩:=id M;refine ⟨x1,_,xd,_,rfl,e3 _ _ j6,rfl,rfl,x1,ls,R,rfl,M.same e3,by ac_nf,fun m5 y1 HH SH _ eH hY=>?_⟩;cbv;have a5:=e3.trans SH;refine ⟨.lst (ls.map pdD), .lst (ls.map pdD),?_,?_,?_,rfl,?_⟩
 ·simp only [Rep];exact ⟨m5,y1,rfl,SqL.of eH,hY.repL fun _ _ z=>z.rep⟩
 ·simp only [Rep];exact ⟨pl,px,rfl,SqL.of (a5 _ _ a8),(a4.mono (P':=PDV K HH) fun _ _ z=>z.sameT a5.t).repL fun _ _ z=>z.rep⟩
 ·have:=Jc3 (n:=10) (f:=pdD) (fun a=>by simp [pdD,frD,depD,depL]) ls;simp only [depD];ac_nf
 rw [JcM];cbv;obtain ⟨m4,p7,q4,p8,p6,p9,q6,g2,_⟩:=id a3;refine ⟨x2,_,m4,_,rfl,a5 _ _ g2,rfl,rfl,x2,O,hs,rfl,a3.same a5,by ac_nf,fun n2 y2 HI SI _ eI j3=>?_⟩;cbv;have f8:=a5.trans SI;refine ⟨.lst (hs.map fun g=>tdD g.td), .lst (hs.map fun g=>tdD g.td),?_,?_,?_,rfl,?_⟩
 ·simp only [Rep];exact ⟨n2,y2,rfl,SqL.of eI,j3.repL fun _ _ z=>z.rep⟩
 ·simp only [Rep];exact ⟨lf,lx,rfl,SqL.of (f8 _ _ b8),(h7.mono (P':=fun (g:GD) v=>TV K HI g.td v) fun _ _ z=>TV.sameT f8.t z).repL fun _ _ z=>z.rep⟩
 ·have:=Jc3 (n:=10) (f:=fun g:GD=>tdD g.td) (fun g=>by simp [tdD,GD.td,bD,frD,depD,depL]) hs;simp only [depD];ac_nf
 rw [JcM];cbv;exact k _
end
theorem lenE1 {α} {P:List α->Prop} (h:∀ a,P [a]):∀ us:List α,us.length=1->P us|[a],_=>h a
theorem lenE2 {α} {P:List α->Prop} (h:∀ a b,P [a,b]):∀ us:List α,us.length=2->P us|[a,b],_=>h a b
theorem lenE3 {α} {P:List α->Prop} (h:∀ a b c,P [a,b,c]):∀ us:List α,us.length=3->P us|[a,b,c],_=>h a b c
theorem lenE4 {α} {P:List α->Prop} (h:∀ a b c d,P [a,b,c,d]):∀ us:List α,us.length=4->P us|[a,b,c,d],_=>h a b c d
theorem lenD3 {α} {P:List α->Prop} {ds:List α} (h:∀ a b c,P [a,b,c]) (e:ds.length+3=n) (us:List α) (k:(us++ds).length=n):P us:=lenE3 h us (by rw [length_append] at k;ac_nf)
def FnG (K:W.Frag) (f:Addr) (n q:Str) (s:Stmt) (d:Value):Prop:=∃ fd,FunD K n q s d f fd/\W.keepIn K (.ref f)=true
def FnA (K:W.Frag) (f:Addr) (n:Str) (s:Stmt):Prop:=∃ fd,FunD K n n s .none f fd/\W.keepIn K (.ref f)=true/\W.nsIn K mainGlobals n=some (some (.ref f))
variable {x:Str} {st:Stmt} {oc dc pm cd ct:Value} {od an:Option Addr} {sl:Array (Option Value)}
theorem fnG {K:W.Frag} {f:Addr} {q:Str} {d:Value} {kV:Value} (l:K.lookup f=some ⟨oc,od, .func (W.fnOf x q (Jam st) (Jal st) (Jae st) d kV dc pm an cd ct),sl⟩) (c:W.codeIn K cd q=true) (k:W.keepIn K (.ref f)=true):FnG K f x q st d:=⟨_,Jao l c k,k⟩
theorem fnA {K:W.Frag} {f:Addr} {kV:Value} (a:W.nsIn K mainGlobals x=some (some (.ref f))) (l:K.lookup f=some ⟨oc,od, .func (W.fnOf x x (Jam st) (Jal st) (Jae st) .none kV dc pm an cd ct),sl⟩) (c:W.codeIn K cd x=true) (k:W.keepIn K (.ref f)=true):FnA K f x st:=⟨_,Jao l c k,k,a⟩
local macro_rules|`(∅)=>`(⟨$(Lean.mkIdent `SlackError),$(Lean.mkIdent `NoNumber),$(Lean.mkIdent `NoName),$(Lean.mkIdent `Tight),$(Lean.mkIdent `Part),$(Lean.mkIdent `Gap),$(Lean.mkIdent `Joints),$(Lean.mkIdent `Thing),$(Lean.mkIdent `Scale),$(Lean.mkIdent `Lid),(.str "abcdefghijklmnopqrstuvwxyz" $(Lean.mkIdent `Baa)),(.int 8 $(Lean.mkIdent `Bab)),$(Lean.mkIdent `ZERO)⟩)
local macro_rules|`($f:ident∘$n:str)=>`(W.nsIn $(Lean.mkIdent `K) mainGlobals $n=some (some (.ref $f)))|`($i:num∘$n:str∘$t:ident)=>`(FnA $(Lean.mkIdent `K) $(Lean.mkIdent (.mkSimple s!"f{i.getNat}")) $n $t)|`($i:num∘$n:str∘$q:str∘$t:ident)=>`(FnG $(Lean.mkIdent `K) $(Lean.mkIdent (.mkSimple s!"f{i.getNat}")) $n $q $t .none)
local macro_rules|`($c:ident∣$n:str)=>`(W.codeIn $(Lean.mkIdent `K) $c $n=true)
local macro_rules|`(-$f)=>`(W.keepIn $(Lean.mkIdent `K) (.ref $f)=true)
local macro_rules|`($f:ident/$n:str)=>`(W.findIn $(Lean.mkIdent `K) (.ref $f) $n=some none)|`($f:ident/$n:str/$g:ident)=>`(W.findIn $(Lean.mkIdent `K) (.ref $f) $n=some (some (.ref $g)))
local macro_rules|`(!$f:ident)=>`(FunD.binds $f (by bv_omega))
local macro_rules|`(tactic|bv_omega)=>`(tactic|first|exact fun _ _ _ _ _ _=>lenE1 fun _=>rfl|exact fun _ _ _ _ _ _=>lenE2 fun _ _=>rfl|exact fun _ _ _ _ _ _=>lenE3 fun _ _ _=>rfl|exact fun _ _ _ _ _ _=>lenE4 fun _ _ _ _=>rfl)
theorem all_mk {l:W.OpenLaw} {w:World} {K:W.Frag} {h:Heap} {mg:Str->Option Value} {fa:Addr} {SlackError NoNumber NoName Tight Part Gap Joints Thing Scale Lid f1 f2 f3 f4 f5 f6 f7 f8 f9 f10 f11 f12 f13 f14 f15 f16 f17 f18 f19 f20 f21 f22 f23 f24 f25 f26 f27 f28 f29 f30 f31 f32 f33 f34 f35 f36 f37 f38 f39 f40 T40 f41 f42 f43 f44 f45 f46 f47 f48 f49 f50 f51 f52 f53 f54 f55 f56 f57 f58 ZERO xN_Tight:Addr} {tc40:Value} {td40:Option Addr} {tn40:Nat} {ts40:Array (Option Value)} {tk40a tk40b:Tok} {od58 an58:Option Addr} {sl58:Array (Option Value)} {oc58 kV58 dc58 pm58 cd58 ct58:Value} {Baa:Tok} {Bab:Tok} {BdI:Option Addr} {BdJ:Nat} {BdK:Array (Option Value)} {BdE BdF:Tok} {xd_Tight:Option Addr} {xnm_Tight xq_Tight:Str} {xbs_Tight xsub_Tight:List Value} {xsn_Tight:List Str} {xab_Tight:Bool} {xcol_Tight:Option Bool} {xk0_Tight xk1_Tight xk2_Tight xk3_Tight xk5_Tight:Option Value} (X:K.In h) (G:h.Ns mainGlobals mg) (hfa:mg "law"=some (.ref fa))
 (aa:SlackError∘"SlackError") (ab:NoNumber∘"NoNumber") (ac:NoName∘"NoName") (ad:Tight∘"Tight") (ae:Part∘"Part") (af:Gap∘"Gap") (ag:Joints∘"Joints") (ah:Thing∘"Thing") (ai:Scale∘"Scale") (aj:Lid∘"Lid") (l1:1∘"common_divisor"∘Baj) (l2:2∘"plus"∘BcB) (l3:3∘"minus"∘BbV) (l4:4∘"times"∘BbW) (l5:5∘"over"∘BcD) (l6:6∘"under"∘BbX) (l7:7∘"is_name"∘Bbo) (l8:8∘"is_whole"∘Ba2) (l9:9∘"is_fraction"∘BaC) (l10:10∘"is_bound"∘Ba3) (l11:11∘"are_faces"∘BaV) (l12:12∘"are_bounds"∘BaL) (l13:13∘"is_tie"∘BbM) (a14:Part/"__init__"/f14) (l14:14∘"__init__"∘"Part.__init__"∘Bap) (a15:Part/"plain"/f15) (l15:15∘"plain"∘"Part.plain"∘BaM) (a16:Gap/"__init__"/f16) (l16:16∘"__init__"∘"Gap.__init__"∘Bas) (a17:Gap/"plain"/f17) (l17:17∘"plain"∘"Gap.plain"∘BaX) (l18:18∘"is_part"∘Bbp) (l19:19∘"is_gap"∘BbN) (l20:20∘"part_of"∘Bbq) (l21:21∘"gap_of"∘BbO) (a22:Joints/"__init__"/f22) (l22:22∘"__init__"∘"Joints.__init__"∘Bah) (a23:Joints/"link"/f23) (l23:23∘"link"∘"Joints.link"∘BaD) (a24:Joints/"way_between"/f24) (l24:24∘"way_between"∘"Joints.way_between"∘Bae) (a25:Thing/"__init__"/f25) (l25:25∘"__init__"∘"Thing.__init__"∘Bak) (a26:Thing/"parts"/f26) (l26:26∘"parts"∘"Thing.parts"∘BaE) (a27:Thing/"gaps"/f27) (l27:27∘"gaps"∘"Thing.gaps"∘BaN) (a28:Thing/"way"/f28) (l28:28∘"way"∘"Thing.way"∘BaY) (a29:Thing/"middle"/f29) (l29:29∘"middle"∘"Thing.middle"∘Bat) (a30:Thing/"room"/f30) (l30:30∘"room"∘"Thing.room"∘BaO) (a31:Scale/"__init__"/f31) (l31:31∘"__init__"∘"Scale.__init__"∘Bal) (a32:Scale/"lifted"/f32) (l32:32∘"lifted"∘"Scale.lifted"∘Bau) (a33:Scale/"lowered"/f33) (l33:33∘"lowered"∘"Scale.lowered"∘Baq) (l34:34∘"scale_of"∘Ba4) (l35:35∘"part_names"∘BaP) (a36:Lid/"__init__"/f36) (l36:36∘"__init__"∘"Lid.__init__"∘Bav) (a37:Lid/"full_level"/f37) (l37:37∘"full_level"∘"Lid.full_level"∘Bam) (a38:Lid/"settle"/f38) (l38:38∘"settle"∘"Lid.settle"∘BaQ) (a39:Lid/"has_stopped"/f39) (l39:39∘"has_stopped"∘"Lid.has_stopped"∘Bai) (a40:Tight/"__init__"/f40) (l40:FnG K f40 "__init__" "Tight.__init__" Ban (.ref T40)) (t40:K.lookup T40=some ⟨tc40,td40, .seq #[.str "" tk40a, .str "" tk40b] tn40,ts40⟩) (l41:41∘"lids_of"∘Bbr) (l42:42∘"most_levels"∘BaF) (l43:43∘"coming_stops"∘Baw) (l44:44∘"first_level"∘BaG) (l45:45∘"stopped_at"∘BaR) (l46:46∘"risen_levels"∘Bax) (l47:47∘"gap_stop"∘Ba5) (l48:48∘"share"∘BbY) (l49:49∘"unlike_parts"∘Bay) (l50:50∘"_law_cell"∘Ba6) (l51:51∘"_law_low"∘Bbs) (l52:52∘"_law_plus"∘Ba7) (l53:53∘"_law_parts"∘BaZ) (l54:54∘"_law_gaps"∘Ba8) (l55:55∘"_law_second"∘BaS) (l56:56∘"_law_tight"∘Ba0) (l57:57∘"_law_refused"∘BaH) (a58:f58∘"law") (l58:K.lookup f58=some ⟨oc58,od58, .func (W.fnOf "law" "law" (Jam BcK) (Jal BcK) (Jae BcK) .none kV58 dc58 pm58 an58 cd58 ct58),sl58⟩) (c58:cd58∣"law") (k58:-f58) (ak:W.nsIn K mainGlobals "abs"=some none) (al:W.nsIn K mainGlobals "isinstance"=some none) (am:W.nsIn K mainGlobals "len"=some none) (an:W.nsIn K mainGlobals "int"=some none) (ao:W.nsIn K mainGlobals "bool"=some none) (ap:W.nsIn K mainGlobals "tuple"=some none) (aq:W.nsIn K mainGlobals "str"=some none) (ar:W.nsIn K mainGlobals "range"=some none) (au:W.nsIn K mainGlobals "list"=some none) (av:W.nsIn K mainGlobals "min"=some none) (aw:W.nsIn K mainGlobals "sorted"=some none) (ax:W.nsIn K mainGlobals "all"=some none) (ay:W.nsIn K mainGlobals "sum"=some none) (az:W.nsIn K mainGlobals "dict"=some none) (aA:W.nsIn K mainGlobals "SMALL_LETTERS"=some (some (.str "abcdefghijklmnopqrstuvwxyz" Baa))) (aB:W.nsIn K mainGlobals "LONGEST_NAME"=some (some (.int 8 Bab))) (aC:ZERO∘"ZERO") (aD:K.lookup ZERO=some ⟨.type "tuple",BdI, .seq #[.int 0 BdE, .int 1 BdF] BdJ,BdK⟩) (aE:W.excIn K SlackError [.type "ValueError", .type "Exception", .type "BaseException", .type "object"] "ValueError.__new__"=true) (aF:W.excIn K NoNumber [.type "ValueError", .type "Exception", .type "BaseException", .type "object"] "ValueError.__new__"=true) (aG:W.excIn K NoName [.type "ValueError", .type "Exception", .type "BaseException", .type "object"] "ValueError.__new__"=true) (aH:K.lookup Tight=some (excClassObj xnm_Tight xq_Tight Tight xN_Tight xbs_Tight (.ref SlackError::BMV) true xsn_Tight xsub_Tight xab_Tight xcol_Tight xd_Tight xk0_Tight xk1_Tight xk2_Tight xk3_Tight xk5_Tight "ValueError.__new__")) (aI:Mk K Part f14) (aJ:Mk K Gap f16) (aK:Mk K Joints f22) (aL:Mk K Thing f25) (aM:Mk K Scale f31) (aN:Mk K Lid f36) (aO:W.isFn K (.ref f15)=true) (aP:W.isFn K (.ref f17)=true) (aQ:W.isFn K (.ref f23)=true) (aR:W.isFn K (.ref f24)=true) (aS:W.isFn K (.ref f26)=true) (aT:W.isFn K (.ref f27)=true) (aU:W.isFn K (.ref f28)=true) (aV:W.isFn K (.ref f29)=true) (aW:W.isFn K (.ref f30)=true) (aX:W.isFn K (.ref f32)=true) (aY:W.isFn K (.ref f33)=true) (aZ:W.isFn K (.ref f37)=true) (a0:W.isFn K (.ref f38)=true) (ba:W.isFn K (.ref f39)=true) (bb:W.isFn K (.ref f40)=true) (bc:-Tight) (bd:PartC K Part) (be:GapC K Gap) (bf:Jkd K Joints) (bg:Jln K Thing) (bh:Jlm K Scale) (bi:LidC K Lid) (bj:W.findIn K (.ref Tight) "__setattr__"=some (some (.builtin "object.__setattr__"))) (bk:Tight/"tight_gap") (bl:W.hasDictIn K Tight=true) (bm:W.findIn K (.ref Tight) "__getattribute__"=some (some (.builtin "BaseException.__getattribute__"))) (bn:Tight/"__getattr__") (bo:W.mroIn K Tight (.type "BaseException")=some true) (bp:W.specialIn K (.ref SlackError) "__getattribute__"=some (some (.builtin "type.__getattribute__"))) (bq:W.readsIn K SlackError (.type "type")=true) (br:W.findCls K (.ref SlackError) (.type "type") "__init__"=some (.val (.builtin "ValueError.__init__"))) (bs:W.typeIn K (.ref Tight)=some (.type "type")) (bt:W.mroIn K Tight (.ref Tight)=some true)
  : ∃ fd:FuncData,(∀ (s:Shared) (v:Value),BindsTo s fd ⟨[v],[]⟩ [("_law_script",v)])/\∀ base:Heap,K.In base->base.Ns mainGlobals mg->FnOk l.prog w K mg base (CX1 l.prog w) 12 fa fd ["_law_script"] (Bc6 K):=by
 have e:=hfa.symm.trans (W.mg_of X G a58);cases e;have o:∀ {x:Str} {v:Value},W.nsIn K mainGlobals x=some (some v)->mg x=some v:=fun h=>W.mg_of X G h;have n:∀ {x:Str},W.nsIn K mainGlobals x=some none->mg x=none:=fun h=>W.mg_none_of X G h;have T:Txt K mg ∅:=⟨n ak,n al,n am,n an,n ao,n ap,n aq,n ar,n au,n av,n aw,n ax,n ay,n az,o aa,o ab,o ac,o ad,o ae,o af,o ag,o ah,o ai,o aj,o aA,⟨_,rfl⟩,o aB,⟨_,rfl⟩,o aC,rfl,fun H=>.inr ⟨_,_,_,aD,rfl,rfl,by show 2<=sizeLine;decide, .cons ⟨_,rfl⟩ (.cons ⟨_,rfl⟩ (.nil))⟩,aE,aF,aG,(fun C hC=>by cases hC;exact bd),(fun C hC=>by cases hC;exact be),(fun C hC=>by cases hC;exact bf),(fun C hC=>by cases hC;exact bg),(fun C hC=>by cases hC;exact bh),(fun C hC=>by cases hC;exact bi),⟨bj,bk⟩,⟨bl,bm,bn,bk,bo⟩,⟨bp,bq,br⟩,⟨bl,bs,bo,bt⟩⟩;obtain ⟨_,F1,k1,a1⟩:=l1;obtain ⟨_,F2,k2,a2⟩:=l2;obtain ⟨_,F3,k3,a3⟩:=l3;obtain ⟨_,F4,k4,a4⟩:=l4;obtain ⟨_,F5,k5,a5⟩:=l5;obtain ⟨_,F6,k6,a6⟩:=l6;obtain ⟨_,F7,k7,a7⟩:=l7;obtain ⟨_,F8,k8,a8⟩:=l8;obtain ⟨_,F9,k9,a9⟩:=l9;obtain ⟨_,F10,k10,a10⟩:=l10;obtain ⟨_,F11,k11,a11⟩:=l11;obtain ⟨_,F12,k12,a12⟩:=l12;obtain ⟨_,F13,k13,a13⟩:=l13;obtain ⟨_,F14,k14⟩:=l14;obtain ⟨_,F15,k15⟩:=l15;obtain ⟨_,F16,k16⟩:=l16;obtain ⟨_,F17,k17⟩:=l17;obtain ⟨_,F18,k18,a18⟩:=l18;obtain ⟨_,F19,k19,a19⟩:=l19;obtain ⟨_,F20,k20,a20⟩:=l20;obtain ⟨_,F21,k21,a21⟩:=l21;obtain ⟨_,F22,k22⟩:=l22;obtain ⟨_,F23,k23⟩:=l23;obtain ⟨_,F24,k24⟩:=l24;obtain ⟨_,F25,k25⟩:=l25;obtain ⟨_,F26,k26⟩:=l26;obtain ⟨_,F27,k27⟩:=l27;obtain ⟨_,F28,k28⟩:=l28;obtain ⟨_,F29,k29⟩:=l29;obtain ⟨_,F30,k30⟩:=l30;obtain ⟨_,F31,k31⟩:=l31;obtain ⟨_,F32,k32⟩:=l32;obtain ⟨_,F33,k33⟩:=l33;obtain ⟨_,F34,k34,a34⟩:=l34;obtain ⟨_,F35,k35,a35⟩:=l35;obtain ⟨_,F36,k36⟩:=l36;obtain ⟨_,F37,k37⟩:=l37;obtain ⟨_,F38,k38⟩:=l38;obtain ⟨_,F39,k39⟩:=l39;obtain ⟨_,F40,k40⟩:=l40;have b40:=F40.bindsD (ps:=["self","words","tight_gap"]) t40 rfl [] fun _ _ _ _ _ _=>lenD3 (fun _ _ _=>⟨_,rfl,rfl⟩) rfl;obtain ⟨_,F41,k41,a41⟩:=l41;obtain ⟨_,F42,k42,a42⟩:=l42;obtain ⟨_,F43,k43,a43⟩:=l43;obtain ⟨_,F44,k44,a44⟩:=l44;obtain ⟨_,F45,k45,a45⟩:=l45;obtain ⟨_,F46,k46,a46⟩:=l46;obtain ⟨_,F47,k47,a47⟩:=l47;obtain ⟨_,F48,k48,a48⟩:=l48;obtain ⟨_,F49,k49,a49⟩:=l49;obtain ⟨_,F50,k50,a50⟩:=l50;obtain ⟨_,F51,k51,a51⟩:=l51;obtain ⟨_,F52,k52,a52⟩:=l52;obtain ⟨_,F53,k53,a53⟩:=l53;obtain ⟨_,F54,k54,a54⟩:=l54;obtain ⟨_,F55,k55,a55⟩:=l55;obtain ⟨_,F56,k56,a56⟩:=l56;obtain ⟨_,F57,k57,a57⟩:=l57;have F58:=Jao l58 c58 k58;refine ⟨W.fnOf "law" "law" (Jam BcK) (Jal BcK) (Jae BcK) .none kV58 dc58 pm58 an58 cd58 ct58,fun s v=>.of_eq rfl,fun base _ _=>?_⟩;have cC:∀ {ps:List Str} {sp:Sp} {fd:FuncData} {k:Nat} {x:Str} {f:Addr},FnOk l.prog w K mg base (CX1 l.prog w) k f fd ps sp->W.nsIn K mainGlobals x=some (some (.ref f))->W.keepIn K (.ref f)=true->Binds K fd ps []->Cal l.prog w K mg base k x ps [] sp:=fun h a c b=>⟨_,_,[],h,o a,c,b, .nil⟩;have cK:∀ {ps:List Str} {sp:Sp} {fd:FuncData} {k:Nat} {x:Str} {f C:Addr},FnOk l.prog w K mg base (CX1 l.prog w) k f fd ps sp->W.nsIn K mainGlobals x=some (some (.ref C))->Mk K C f->Binds K fd ps []->KCal l.prog w K mg base k x C ps sp:=fun h a c b=>⟨_,_,h,o a,c,b⟩;have cM:∀ {ps:List Str} {sp:Sp} {fd:FuncData} {k:Nat} {m:Str} {Cs:Addr->Prop} {f:Addr},FnOk l.prog w K mg base (CX1 l.prog w) k f fd ps sp->(∀ C,Cs C->Cls K C/\Meth K C m f)->W.keepIn K (.ref f)=true->Binds K fd ps []->MCal l.prog w K mg base k m Cs ps sp:=fun h a c b=>⟨_,_,h,a,c,b⟩;have bu:=cC (Jds F1 T) a1 k1 (!F1);have bv:=cC (JkK F2 T bu) a2 k2 (!F2);have bw:=cC (Jjb F3 T bv) a3 k3 (!F3);have bx:=cC (Jjd F4 T bu) a4 k4 (!F4);have bz:=cC (JkJ F5 T bx) a5 k5 (!F5);have bA:=cC (Jje F6 T) a6 k6 (!F6);have bB:=cC (Jhh F7 T) a7 k7 (!F7);have bC:=cC (Jgo F8 T) a8 k8 (!F8);have bD:=cC (Jep F9 T bC bu) a9 k9 (!F9);have bE:=cC (Jgn F10 T bD) a10 k10 (!F10);have bF:=cC (JfL F11 T bB) a11 k11 (!F11);have bG:=cC (Je2 F12 T bE bA) a12 k12 (!F12);have bH:=cC (Jh9 F13 T bB bF bG) a13 k13 (!F13);have bI:=cK (JdD F14 T) ae aI (!F14);have bJ:=cM (m:="plain") (Cs:=IsPart ∅) (JeZ F15 T) (fun C hC=>⟨(T.BcA C hC).cls,(by cases hC;exact ⟨a15,aO,k15⟩)⟩) k15 (!F15);have bK:=cK (Jd0 F16 T) af aJ (!F16);have bL:=cM (m:="plain") (Cs:=IsGap ∅) (JfJ F17 T) (fun C hC=>⟨(T.Bdt C hC).cls,(by cases hC;exact ⟨a17,aP,k17⟩)⟩) k17 (!F17);have bM:=cC (Jhi F18 T bB bF bD bC bA) a18 k18 (!F18);have bN:=cC (Jh8 F19 T bH) a19 k19 (!F19);have bO:=cC (Jhl F20 T bM bI) a20 k20 (!F20);have bP:=cC (Jh7 F21 T bN bK) a21 k21 (!F21);have bQ:=cK (Jc6 F22 T) ag aK (!F22);have bR:=cM (m:="link") (Cs:=JcZ ∅) (Jem F23 T) (fun C hC=>⟨(T.BbT C hC).cls,(by cases hC;exact ⟨a23,aQ,k23⟩)⟩) k23 (!F23);have bS:=cM (m:="way_between") (Cs:=JcZ ∅) (JcB F24 T) (fun C hC=>⟨(T.BbT C hC).cls,(by cases hC;exact ⟨a24,aR,k24⟩)⟩) k24 (!F24);have bT:=cK (Jdq F25 T bQ bO bP bS bR) ah aL (!F25);have bU:=cM (m:="parts") (Cs:=Ja9 ∅) (Jen F26 T bJ) (fun C hC=>⟨(T.Ba9 C hC).cls,(by cases hC;exact ⟨a26,aS,k26⟩)⟩) k26 (!F26);have bV:=cM (m:="gaps") (Cs:=Ja9 ∅) (Je0 F27 T bL) (fun C hC=>⟨(T.Ba9 C hC).cls,(by cases hC;exact ⟨a27,aT,k27⟩)⟩) k27 (!F27);have bW:=cM (m:="way") (Cs:=Ja9 ∅) (JfK F28 T) (fun C hC=>⟨(T.Ba9 C hC).cls,(by cases hC;exact ⟨a28,aU,k28⟩)⟩) k28 (!F28);have bX:=cM (m:="middle") (Cs:=Ja9 ∅) (Jd3 F29 T bW bv bw) (fun C hC=>⟨(T.Ba9 C hC).cls,(by cases hC;exact ⟨a29,aV,k29⟩)⟩) k29 (!F29);have bY:=cM (m:="room") (Cs:=Ja9 ∅) (Je1 F30 T bX bw bA) (fun C hC=>⟨(T.Ba9 C hC).cls,(by cases hC;exact ⟨a30,aW,k30⟩)⟩) k30 (!F30);have bZ:=cK (Jdp F31 T bu) ai aM (!F31);have b0:=cM (m:="lifted") (Cs:=Jdk ∅) (Jd2 F32 T bu) (fun C hC=>⟨(T.Bcc C hC).cls,(by cases hC;exact ⟨a32,aX,k32⟩)⟩) k32 (!F32);have ca:=cM (m:="lowered") (Cs:=Jdk ∅) (JdE F33 T bu) (fun C hC=>⟨(T.Bcc C hC).cls,(by cases hC;exact ⟨a33,aY,k33⟩)⟩) k33 (!F33);have cb:=cC (Jgs F34 T bU bV bZ) a34 k34 (!F34);have cc:=cC (Je4 F35 T bW) a35 k35 (!F35);have cd:=cK (Jd1 F36 T) aj aN (!F36);have ce:=cM (m:="full_level") (Cs:=IsLid ∅) (Jdo F37 T bz) (fun C hC=>⟨(T.c_Lid C hC).cls,(by cases hC;exact ⟨a37,aZ,k37⟩)⟩) k37 (!F37);have cf:=cM (m:="settle") (Cs:=IsLid ∅) (JeY F38 T bw bx) (fun C hC=>⟨(T.c_Lid C hC).cls,(by cases hC;exact ⟨a38,a0,k38⟩)⟩) k38 (!F38);have cg:=cM (m:="has_stopped") (Cs:=IsLid ∅) (Jc7 F39 T) (fun C hC=>⟨(T.c_Lid C hC).cls,(by cases hC;exact ⟨a39,ba,k39⟩)⟩) k39 (!F39);have K40:=Jdr (P:=l.prog) (w:=w) (base:=base) F40 T;have ch:XCal l.prog w K mg base 1 "Tight" Tight SlackError ["self","words","tight_gap"] (Jbz K ∅):=⟨f40,_,K40,W.mg_of X G ad,⟨aE,⟨_,_,_,_,_,_,_,_,_,_,_,_,_,_,aH⟩,a40,bb,bc⟩,b40⟩;have ci:=cC (Jhk F41 T bU bV bY bA cc cd b0 ch) a41 k41 (!F41);have cj:=cC (Jer F42 T bU b0 bz) a42 k42 (!F42);have ck:=cC (Jd4 F43 T ce) a43 k43 (!F43);have cl:=cC (Jeo F44 T bA) a44 k44 (!F44);have cm:=cC (Je5 F45 T) a45 k45 (!F45);have cn:=cC (Jd5 F46 T ck cl cm cf) a46 k46 (!F46);have co:=cC (Jgm F47 T cg) a47 k47 (!F47);have cp:=cC (Jjc F48 T cb ci cj cn bU ca bx co) a48 k48 (!F48);have cq:=cC (Jd6 F49 T cp) a49 k49 (!F49);have cr:=cC (Jgp F50 T) a50 k50 (!F50);have cs:=cC (Jhj F51 T) a51 k51 (!F51);have ct:=cC (Jgr F52 T cs) a52 k52 (!F52);have cu:=cC (JfM F53 T cr cs ct) a53 k53 (!F53);have cv:=cC (Jgq F54 T cr cs ct) a54 k54 (!F54);have cw:=cC (Je3 F55 T cr cs) a55 k55 (!F55);have cx:=cC (JfN F56 T cs ct) a56 k56 (!F56);have cy:=cC (Jeq F57 T cq) a57 k57 (!F57);exact JlO F58 T cr cu cv cw cx bT cy cp cq bU bV
theorem walk {l:PySem.W.OpenLaw} {q:Program} {loose:List Str} {XP:(Str->Option Value)->Heap->Prop} {YP:World->Heap->Prop} {d:DefRec} {K:Params->PySem.W.Frag} (hn:l.most=some 63) (hdf:d.params.defaults=[])
  (hY:∀ (w:World) (h:Heap),YP w h->(K w.params).In h)
  (F:∀ (w:World) (mg:Str->Option Value) (fa:Addr) (h:Heap),(K w.params).In h->h.Ns mainGlobals mg->mg d.name=some (.ref fa) ->
   ∃ fd:FuncData,(∀ (s:Shared) (u:Value),BindsTo s fd ⟨[u],[]⟩ [("_law_script",u)])/\∀ base:Heap,(K w.params).In base->base.Ns mainGlobals mg->FnOk l.prog w (K w.params) mg base (CX1 l.prog w) 12 fa fd ["_law_script"] (Bc6 (K w.params))) :
  PySem.W.WalkO q loose XP YP l.row.toRowW d [] (fun f vs=>PySem.call f vs) :=
 L2.JiT (n:=63) (k:=12) (x:="_law_script") (CX:=fun w=>CX1 l.prog w) (sp:=fun w=>Bc6 (K w.params)) hn (by decide) hdf ⟨rfl,by decide,by decide⟩ hY F (fun _ _ a ns hl _ hS=>⟨a,ns,rfl,hS,hl,fun _=>rfl⟩) fun _ _ _ _ _ z=>by
  obtain ⟨_,_,_,_,_,_,_,_,_,_,_,_,z⟩:=z;exact z
end Prg
open PySem PySem.W PyProof.Rows
local macro_rules|`(command|universe $xs*)=>do return Lean.mkNullNode (<-xs.mapM fun x=>`(command|noncomputable def $(Lean.mkIdent (.str `PySem.W.Fast s!"tw{x.getId.toString.foldl (fun a c=>a*52+(c.toNat-if c.toNat<97 then 39 else 97)) 0}")):ident:Nat:=0))
universe brkUukUjycig brArJVnBCyuO gZIbVIVtcdT brYmjgwZynDM bshyzqkYZnNU bsicNfNjidaI bsIYUVXqeSdG heMUJDXcEgE hgHgvLSjhxB btqTLcunBQHZ btxcbmdaDyrF btzYQXbYusel btQvItTZojaL btYBTYfIesZn buzClDzREDmg buPhacSnRyQX buYairxIYRPM buYOZPWkLGqE bvgCSmynUosF hqLnVQjZzqH bvnDbmaKQNij bvAGwATVuoYB bvAJfGxrvEwZ bvEnfVYYvlFM bwdqFFPAmFrc bwvdkeCaphco bwxvqGliXloM bwCGNuqNpxAA bwDTrWKTsbHt hxZyQSgnAvK bwNcZaWfiRlQ bwUfgGBkpwLS bwVkVTjohAFc hzZQZPIqHiq bxcxJZyWolLT bxsLCmyrtfXq bxuoeUkecrxZ bxJikhzxtBqj bxUvtcBHxkzT bycdnuDTbApu byunNEqzSgJT byvCzEaJCxMT byNgyzRyQAlt byNrQiKIkQgR bySuUExtkhED byWUtzZCgvtj bzkRIYbEjrFa bzYqjlJBBIsI bAfzJlqeoqvc bAgfumtGKKSO bAkZsJZxEVRD hRrRVtMDFLK bAHmFZWKigST hUWwkXMdFbT bBitSVkWAtHG bBkvkxuyySAM bBTKlKhzfhQI bBUbcUGnDMch ibJKBGmXcNV bCvSRONplXcT bCztYfRwjNvL bCLJEvKnXPnz iekkgWTPfGE bDBEAjlyDAiF iimsqNUTIiL bDNZfsBriUHd bDVvuzHhKVvC bEfeDOenaVHK QMJsykCDmA bEqLXoEzCSto bEPtrFjiXbpI bFfhtGBmMGHa iqBDkZUNkCb bFIgGNMhikDp bGtOBOKmGIjA bGBCzAUHVJjQ izsfpUzhzIq bGXfXiiUxarf bHbwxfCMBGyo bHbOSNTehbqX bHqitIhVrbqd bHFgIjUCvwVh bHFJxWctNeMs bHUhWOvKRkHc bHVxWWIsGnpi bIsvAWCSKTsX bItpmhpYDDYZ iIhtQDLURYT bIMmPxsgOfbo iJAokeTZbQN bITRdBwrJNpw bJNQMXoTmmVC bJUTelLiOGUI bJVLCGlZmglQ bJYhXgDQMJDr bKBMvgGlCfQI iTBnMrUvQes iTOppaChpex bKTuFxtZXPfI bLetaxOOIZeM bLfTCLwIDdFs bLiRpXhMKrKr bLqSkoGtTXBi bLKbprhUveSv bLRiciLMSOvk bLVfEUkEZNLo bLVEQKyxEzwm jcYaitukqyj bMHLEMSEOwsT bMLKpVBgqalC bMULTRRiBFaH bNaXdGpgbudF bNEtwkvNbAyg bNWsiVAKmDed bOSOlVSSXktz bPkETpXWWfBD bPyWpXZwmHOy bPKuYNyMZstl jvBywiGmTeV bQqMIwpVNTUy jwFrEdJkCuF bQEyhyFeRWyo bQOhxbtViOqg bRbnTjlMruDd bRcWmxPgYoPL jABjkZSucwz bRrHguqsEMEb bRzspgjFPPpr bRYfXrjWjtPC bSeJNDFReizZ jFLXBRzBTyT jGXccLKcDNb bSBOIhpSrpFB bTdqqDsGtdIf bTicaFsJefWY bTuqcogasANl bTxXlepDnqyt bTUNzJQrPQOt bUbtCPobZARl bUfmBzhVMBNL jQBhDMRxqLx bUmIkPmthQXo bUzWYlpJrQKy bUBhcHEHHmax bUItgogWOxza bUJvYIVYIhAo bUQNyDFSCTyS bUQUzFSxBvtq bUTAFDqTntpb bVbreMYKOLde bVfRLEeOlkiH bVkJKjkozyAZ bVmdyzHJUalL bVRDqUxngOXx bVWItZIpWJXM bWjTLbnYgWJN bWpUDkgRkGHQ bWyaldLWqqqD bWGwsxjvPzTo bWNFNaAhUPWF bWSqDeLUPFuG bXgslMqlBLbT bXjEMPECBkuy bXyKstcVLSSF bYOidpxsRZSj bYTVRIjLPCBo bZjpaJPUIMCJ bZjAqKzEnHti bZkIPiOeBvbu bZrAHbHhywLe krJIGILjLAM bZvXzhkxTnSD bZFNUqSuJUqR bZLDhyDsDBFR bZOdxrtTPNnv bZWkbbiUZlBa caBnRjSZpkiz caYXXbGIGUer cbcPNUUeWXbs cbkZdujaaGKi cboIvzUVfAMH cbsRcxqnJPKG cbBjNLdvdFME bcTrMzCkfJW cbLoXTEhCoJi cbTKhurwrtOY ccLFdIZgnhrf ccMFGTratZbt ccMRbgQywYnk cdupECVnOrGF kMyxgyGXoSI cdwGxkpxvydL cdxXEVxmEiYx cdAEKQhjGCJe cdAOvZwUhlJA cdCwjlHtUlQn cdNBhrZcdTbc kPiaIrRfwFL cegmjfKwtWcF cemRjVZZlitc ceoYyZsKctcG cexJKCZUArLK cezjYkzOamgc kSkeLiIWDhS ceJBniwvgtZI ceTKnoJiiEQF ceUlGabpRSPj ceYsnEOKahhq cfjksksyYxfx cfjqGdGwWTxZ cfpoxLEUYuHQ kWWwSFhpTra cfGvIfoeyEDx cfHixYwrfkmZ cfUFLNQSJdiF cfWxiEiRaAzx cgiGMVwysKSo cgmBvwxfGGbB cgLBBcBEoXXQ cgWyRnUKfkUf fOeIVumMAW chgxxIGaghGP chtsETcJZrYF chGjlhuSwzcC cicsdoQWclgN cidKTBghenww ciKDjhYerIKV ciOFuKeSrlkS ciPGHygFuNpe ciRqkarqXdwy cjaawrMLonum cjkxkmRpKUEy cjpwWAykPhUD cjtEeNtIKjwV cjwBFhziPeHa cjFGnXZRmYLM cjGTbCpJJHLt cjPfZDsgOwQx cjTuiVziEGMF luyZMlGFnrl ckhYyPDvJCiM ckpXfgZXUHZC ckuwviUkiugI ckuJsJNCTkfq ckOIQlAnPNnt ckWspARnPeal clcELPihwkgj clFWXkYHixTU lEBLcRgGBnP cmtJVYXokgEc cmGiBhCybzaO cmGQUhbnJOHr cmKlCkJNVJGk lISTvRZQQak biQpmxPytPD cndGNfXxwJDj cnfsErCIHOUz cnQqOtYeMnAf coyPvGtxDVTl coIwYZZZiFdy coQoHdnTXZLr cpqbDsiZLYri cpvytrktZzSK cpxZCxWmdfZt cpCOQCMnGiSO cpNZFzWpgUMc cqhbzeaWtfEa cqjkccwnoEDv cqqPjAjqKPOb cqBQoGRMtccF cqCwKgaSgfAI cqKfVIFaQHHN cqQzhKpNacOO crfCUernOaGX crrijuBpVmUM crrptChJThjL crrwhMKvAwDt crrKizwHloMg crLSXwkaQfeq cshqmPWaOnCJ csjmDGOhbfeQ cslQZWvsqjBu csvPoWTtDUJC csLgERoOOvtw ctlWsdqwRnoK ctrKStisriWh ctvHRmweczSJ ctxGIhlKdRfG ctMpOzMkpkFp ctUCVjJvAsfQ ctXZfSKdxsfB cuudchmVIian cuFmERCqLTsr cuJDijoiUbBt cveGMtecNxcl cvlxlIfrtafz cvrKSteUYOdA cvxwmFjwbDtx mDqIYJdynyi cvMgFQjpScaV cwgslrDvdxTa cwgLNHCbOXXP cwIAZnaGNyKZ cwJFMdQMkJCk mJVcUudvvBn cxebcpbrWNrw cxlaOvwLbTHk cxDumPooUChp mRznGamScFi mUFYnemIegt npAwTJnTMbC nvDWxcTzMKG nFYJtTYKzrm ollcYdAAobg olMUxVwDiGr oSDAsLkJBPG ptNgBONiciF pwLsoliTMUY pBRnzVbDygE pUpyfNebtxT pVtlSBBABrM qEHrlWSKLaa rfMqpzKXxSF bLlxNkXiYSc rooFwvdaEoe bMCnEoZSoll rJyAVOkpMyk rOuqHRjemJK shHcAdYDbES siwLpXTurZL sjlwzjvoxur smwFwfulMWa sPtHnQNxeVY tMKJNLmWzvT cdoxwxBDBfG uMdhULrZuqh uPoLHHVLQkD ceApMmEbEQg uTRdGuzQmHQ uWXzMrJqsGx vcTlaRZuSMB vltUfjSNNUN vqflsTpGkJm vusgZvLXMcn vKcXYCSLppW vQqFzKzNOAa vXVUiCLcrbF wfXkbfPnKmX wuTrkzlwbgT wxjwTxXcPoJ wMuIJnCQvzG wVjbdzOHLGv wZwALjVRxfQ mjgygELsdo xDMhxxSzBsv xGqteDBfoXV yeyUuVoiGoP yeZhekJyyjB yldXxEiXlxI ypKNpzCCgec yBSwFpPWuVU cyebmGjhSgx yUedZSSguPQ zmjNOgALruN zsGtBLMiujx zxtojOjyfsk zCeClYRhQqP zIPvpnPAUag zNPbRHzSGEc zUOZYzDVzkM zYGXKUQPKHL AhDKXXfgLqn AksFsanUwey AlSXovCywjv ApPqCrQWJcE cHaQXFCoyZE AGBvAxeKbRy AInoZoPIsJT AYhvGMYIAEk cKZiiEKilJX BiWhIcNCkhD BpkdGWWfyHd BJWkBlMJAbL BKXqRujaGbf CvJiKMWIZWS CvYnaasEToq CAJmWjaGbiU CUxIjwQyrCY DcBXrCbJJSn cVHIdGopfzG DotNxgprBFJ DrsmLjFNgRK DFGVSzzJbBq DIdGGXgmbog DKvPQHnMEcH EpFfQusEiMX EypBirOKXvN EzyEhiyiwlU EDBJCgnFpCF EJYDrJGZEVo ELrLEoMAUlG EYKhpqSpdvj FcivAgrRPbw FcvzWJvaZON FAPaNnwYaxU FFHdaaPRZYj FSdGHpGvXxE FUgslpfAZRJ FUSqLoHxfDA GIWsnIlkfHq HfaJkoZsUjr HhkfFapDMSV HvcduBKJAMR IaMPjxeKPkX IivbxEbKZAv dwlvtVrFCEU IvphLHQFylN JAUiLaEtLTm JLwlCaExngv JLXBuuMOmsk KlrXkqYlCWh KtqJCFfXEwx KvsvFHJsxyU tfSLhCzQaT LalsTWBdbeT LmSzKovLYrj LSBpgNUjQSA MQHNZBLbIVQ NhWasOzUkbP NkRxVpfbJuJ NnvNNHFffjp NsDZXXkeRry NuUfKSGdACK NvfRnuMZjxk NEvyGUKJyYy dXURDwBNSlN NZXVwxMPeNs OgkYYHtTZtq OjEJFaCftIv OnAtRVrNUEN OByLTlOcAZN ORCRRETRNSh OYVkRwZuOiF OZHVqhzwhdl PfwFQqDbAOy PhvatIduLxr PPliOSjrqGJ PTKMJKEOwAW PYFYdWvneJp QdcvbBzbjRO QkRZeMNedHl QtVHPCZzGvO QGlmoLiGOzs QLcBDUtkVZH QYVrYVyNLps RhnKrEvOPxw RJtnejLrCRe RKmcovYNVzv RTrYXTcwmfF RVKoJgrYEGY RZNhWjIRqDC SlpNygmHjSe SlRRzjxilQA SzMUGLTQfmp SItfodZMLus TkAHfAprZmz TFuSAGQsKpm TIIOLdkuDYq TPNMsqGAzVP TTWoaWQCszG TWaaTcsAnUp TWQyhfOGCcc UbCsoXYZLIu UduAMhdCJMW UeSxQVqnnqG UlgHfxEdulz eITLtqbwWlC eJoDeogQFzF UYRrXPwkChU VfjhsTklMhg VgwvHSEXxXi VxDzWDneEGB VSlNHvYkpzd WfsXFjsvVRq WULmkelsWIR WYgOhjKkbwB XdpnEOWrXwo XfoSwJKYAcM XlSBSsplmxv XLMEgzInnZl XRNCexpjZPi YmSSjaEHNnt fcwffayjSqr fcHgkPUyZcI YUhAGiKNTya ZcpHBYEuWzY ZewBsvbunSA ZjgqoyJdmXM ZrvMWdiAlFw ZvxmTJdGynG ZxjIlkLyYbe ZAriiPvepFU ZVUyxITitjm baddpWdvcvTh baKNaasOtiMJ baMZkpoPJSXD bblimQogcTVU bbTlIMkyMYUm fuRRGCihayY bcgUgzukpNHT bchllQZpHbJr bcjxuqHuemUM fyVcZrtfqjp bdnGFuSJpwPc bdyzcgKyIsIv bdAVuxjcLIoJ bdFlKnmFNgtT bdJNHduxdCgS bdJXCCXThKvE bdWXPbCctrAY beFVKYTQBBmv beItIPvUEydg beUSiPeluJjR bfajALEbmpod bfkfzIimfroK bfuwxvcDHTeZ bfYnzEQbueGs bgdwejxpnaEl bgsSzrjcZoRk bguznmjrxoYe bgDxkapfKqfy bgEKCiTyoeiK bgOLrJkBRwQh bhsHMWALDYZs bhEPLrVumyCQ bhHqenerbJcS bisilfwHYEHv biyIHSdyWKhM biKGXahMRVZd biWuoxHEgXlF bjeSmzMHBJgK bjIsrIdakwGi bjKFKIxSVpux gjNOzeieKVa bjWhKZtoIcpm bkfUWiaWSHVy bkzzisziBGOq bkKxQXzzoZBI bkQrFjpdzskU bkVyUxgwOapd blkcYuekkUyL bllPMPeuVjhZ blBuJuOTUgkT bmgXXjWjRVVR bmtQjvwmwlsz bnrSrSRovmKx bnzsaJsAtlnK bnESyuXMImJL bnRJhDTSVuWr bnZsQmVXvUEP bnZvCczXDFkc boHBaQIrMkMm bpgwIobCDwvs bpkhfGYnAGyj bpkxDAuguDdP bpFuIpEPOuKL bpIuQBwbMtif bpJIHdtdSVrB bpRxjjeHwmdA bqiUyOaVHGro bqjtDLDfJioi bqBIbArTIDHl bqFFUzhhsiKi gSNFOiQvqtD bqLVofdqIIAi bqNVBiWGCJGG bqPaDrvjaPQK bqSWzHjDgicJ bqXOUVoBUvNP brcBKWiiymyy breFigClfQnl
set_option maxRecDepth 100000 in
set_option maxHeartbeats 0 in
theorem PySem.Challenge.cw_slackchain_k63_parts_shared_otherwise_holds : PySem.Challenge.rw_slackchain_k63_parts_shared_otherwise.Holds := by
 w_on;o_law;k_head;(case hw=>w_witness2)
 k_fill
 refine Prg.walk (l:=PySem.Challenge.rw_slackchain_k63_parts_shared_otherwise) rfl rfl (fun w h Y=>PySem.W.kIn_of Y) ?F;case F=>
  intro w mg fa h KX G hmg;refine' Prg.all_mk KX G hmg ?_ ?_ ?_ ?_ ?_ ?_ ?_ ?_ ?_ ?_ (Prg.fnA ?_ ?_ ?_ ?_) (Prg.fnA ?_ ?_ ?_ ?_) (Prg.fnA ?_ ?_ ?_ ?_) (Prg.fnA ?_ ?_ ?_ ?_) (Prg.fnA ?_ ?_ ?_ ?_) (Prg.fnA ?_ ?_ ?_ ?_) (Prg.fnA ?_ ?_ ?_ ?_) (Prg.fnA ?_ ?_ ?_ ?_) (Prg.fnA ?_ ?_ ?_ ?_) (Prg.fnA ?_ ?_ ?_ ?_) (Prg.fnA ?_ ?_ ?_ ?_) (Prg.fnA ?_ ?_ ?_ ?_) (Prg.fnA ?_ ?_ ?_ ?_) ?_ (Prg.fnG ?_ ?_ ?_) ?_ (Prg.fnG ?_ ?_ ?_) ?_ (Prg.fnG ?_ ?_ ?_) ?_ (Prg.fnG ?_ ?_ ?_) (Prg.fnA ?_ ?_ ?_ ?_) (Prg.fnA ?_ ?_ ?_ ?_) (Prg.fnA ?_ ?_ ?_ ?_) (Prg.fnA ?_ ?_ ?_ ?_) ?_ (Prg.fnG ?_ ?_ ?_) ?_ (Prg.fnG ?_ ?_ ?_) ?_ (Prg.fnG ?_ ?_ ?_) ?_ (Prg.fnG ?_ ?_ ?_) ?_ (Prg.fnG ?_ ?_ ?_) ?_ (Prg.fnG ?_ ?_ ?_) ?_ (Prg.fnG ?_ ?_ ?_) ?_ (Prg.fnG ?_ ?_ ?_) ?_ (Prg.fnG ?_ ?_ ?_) ?_ (Prg.fnG ?_ ?_ ?_) ?_ (Prg.fnG ?_ ?_ ?_) ?_ (Prg.fnG ?_ ?_ ?_) (Prg.fnA ?_ ?_ ?_ ?_) (Prg.fnA ?_ ?_ ?_ ?_) ?_ (Prg.fnG ?_ ?_ ?_) ?_ (Prg.fnG ?_ ?_ ?_) ?_ (Prg.fnG ?_ ?_ ?_) ?_ (Prg.fnG ?_ ?_ ?_) ?_ (Prg.fnG ?_ ?_ ?_) ?_ (Prg.fnA ?_ ?_ ?_ ?_) (Prg.fnA ?_ ?_ ?_ ?_) (Prg.fnA ?_ ?_ ?_ ?_) (Prg.fnA ?_ ?_ ?_ ?_) (Prg.fnA ?_ ?_ ?_ ?_) (Prg.fnA ?_ ?_ ?_ ?_) (Prg.fnA ?_ ?_ ?_ ?_) (Prg.fnA ?_ ?_ ?_ ?_) (Prg.fnA ?_ ?_ ?_ ?_) (Prg.fnA ?_ ?_ ?_ ?_) (Prg.fnA ?_ ?_ ?_ ?_) (Prg.fnA ?_ ?_ ?_ ?_) (Prg.fnA ?_ ?_ ?_ ?_) (Prg.fnA ?_ ?_ ?_ ?_) (Prg.fnA ?_ ?_ ?_ ?_) (Prg.fnA ?_ ?_ ?_ ?_) (Prg.fnA ?_ ?_ ?_ ?_) ?_ ?_ ?_ ?_ ?_ ?_ ?_ ?_ ?_ ?_ ?_ ?_ ?_ ?_ ?_ ?_ ?_ ?_ ?_ ?_ ?_ ?_ ?_ ?_ ?_ ?_ ⟨?_,?_,?_,?_⟩ ⟨?_,?_,?_,?_⟩ ⟨?_,?_,?_,?_⟩ ⟨?_,?_,?_,?_⟩ ⟨?_,?_,?_,?_⟩ ⟨?_,?_,?_,?_⟩ ?_ ?_ ?_ ?_ ?_ ?_ ?_ ?_ ?_ ?_ ?_ ?_ ?_ ?_ ?_ ?_ ⟨⟨?_,?_,?_,?_⟩,?_,?_,?_,?_,?_,?_⟩ ⟨⟨?_,?_,?_,?_⟩,?_,?_,?_,?_,?_⟩ ⟨⟨?_,?_,?_,?_⟩,?_⟩ ⟨⟨?_,?_,?_,?_⟩,?_,?_,?_⟩ ⟨⟨?_,?_,?_,?_⟩,?_,?_⟩ ⟨⟨?_,?_,?_,?_⟩,?_,?_,?_,?_,?_⟩ ?_ ?_ ?_ ?_ ?_ ?_ ?_ ?_ ?_ ?_ ?_;all_goals try first|k_is|k_exc|(show _=_;k_is)|kit_is
