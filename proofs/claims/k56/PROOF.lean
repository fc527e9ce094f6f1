import PyProof.Rows.All
import Wide.All
import OpenK.AllK
import Wide.FinOn
import Lean
import PyProof.EqAt
import PyProof.EqKinds
import PyProof.TupleCall
import PyProof.ZipIter
import PyProof.Rows.SetFrom
import PyProof.Rows.SortStr
import KE.KDictList
import PyProof.AttrMissHeap
import KE.KDictOf
import KE.KDictLaws
import KE.KRevIter
import PyProof.CollectIter
import PyProof.FactsAll.range_2
import PyProof.FactsAll.range_iterator_1
import PyProof.WalksEnum
import PyProof.EnumMake
import PyProof.Rows.Range3
import PySem.Challenge.RW_slackchain_k56_too_tight
set_option Elab.async false
set_option linter.all false
set_option maxRecDepth 100000
open List (mem_filter mem_cons_self mem_cons_of_mem mem_cons mem_append mem_append_right length_cons map_cons length_map append_nil nodup_cons length_take length_append length_replicate size_toArray any_cons length_singleton map_nil cons_append length_nil not_mem_nil mem_singleton mem_map take_succ take_of_length_le map_append mem_flatMap nodup_append nil_append filter_append map_map length_filter_le take_zero)
local macro_rules|`(tactic|ac_nf)=>`(tactic|first|lia|omega)
local macro_rules|`(⋯)=>`(by decide)
local macro_rules|`(∅)=>`(by ac_nf)
local macro_rules|`(tactic|subst_eqs)=>`(tactic|(intro _ _ _ _ h;(repeat obtain ⟨_,h⟩:=h);subst_vars;rfl))
namespace L2
open PySem PySem.Spec PyProof.Rows
abbrev Key:=Sum Bool Str
def isBoolOf:Bool->Value->Bool
 | b, .bool c=>b == c
 | _,_=>false
variable {b:Bool}
theorem Jep {v:Value} (h:isBoolOf b v=true):v=.bool b:=by
 cases v <;> simp_all [isBoolOf]
def keyIs:Key->Value->Bool
 | .inl k,v=>isBoolOf k v
 | .inr x,v=>Value.isStrOf x v
def keyH (w:World):Key->Int
 | .inl k=>hashInt (if k then 1 else 0)
 | .inr x=>hashStr w x
theorem JaS:∀ {k:Key} {v:Value},keyIs k v=true->(∃ i,k=Sum.inl i/\v=Value.bool i)\/(∃ x t,k=Sum.inr x/\v=Value.str x t)
 | .inl i,v,h=>.inl ⟨i,rfl,Jep h⟩
 | .inr x,v,h=>by
  obtain ⟨t,e⟩:=Value.isStrOf_shape (x:=x) (v:=v) h;exact .inr ⟨x,t,rfl,e⟩
theorem Jhh (i:Bool):keyIs (.inl i) (.bool i)=true:=by simp [keyIs,isBoolOf]
theorem Jh3 (x:Str) (t:Tok):keyIs (.inr x) (.str x t)=true:=by simp [keyIs,Value.isStrOf]
theorem JlI (a b:Bool):decide ((Sum.inl a:Key)=Sum.inl b)=(a == b):=by cases a <;> cases b <;> rfl
theorem JlL (a b:Str):decide ((Sum.inr a:Key)=Sum.inr b)=decide (a=b):=by
 by_cases e:a=b
 ·subst e;simp
 ·have h:¬ (Sum.inr a:Key)=Sum.inr b:=fun q=>e (Sum.inr.inj q);rw [decide_eq_false h,decide_eq_false e]
theorem JlJ (a:Bool) (b:Str):decide ((Sum.inl a:Key)=Sum.inr b)=false:=decide_eq_false (fun q=>nomatch q)
theorem JlK (a:Str) (b:Bool):decide ((Sum.inr a:Key)=Sum.inl b)=false:=decide_eq_false (fun q=>nomatch q)
variable {prog:Program} {A:Around} {E:Value->Shared->Prop}
theorem Jgv {w:World} {s:Shared} {Q:Int->Shared->Prop} (h:Q (hashInt (if b then 1 else 0)) { s with toks:=s.toks+1 }) :
  wpAny (model prog w) A (pyHash (.bool b)) Q E s:=by
 have c:=rawHash_range (if b then 1 else 0);have a:s.TypeIs (.bool b) "bool":=rfl;unfold pyHash;have d:[Value.bool b].any Value.onHeap=false:=rfl;refine wpAny_bind ?_;rw [cRoomFor,if_neg (by rw [d];exact Bool.false_ne_true)];refine wpAny_pure ?_;refine wpAny_bind (wpAny_specialOf a F.slot_bool_hash.lookup ?_);show wpAny _ _ (if (some (Value.builtin "int.__hash__") == some Value.none)=true then _ else _) Q E s;rw [if_neg (by rw [beq_builtin_none];exact Bool.false_ne_true)];refine wpAny_bind (wpAny_specialOf a F.slot_bool_hash.lookup ?_);show wpAny _ _ (callSpecialIfBoundUnlessNone? (.bool b) "__hash__" _ >>= _) Q E s;refine wpAny_bind (wpAny_callSpecialIfBoundUnlessNone?_slot a F.slot_bool_hash
  (wpAny_call_entry F.slot_bool_hash a entry_int_hash
   (show wpAny _ _ (do ret (<- mkInt (rawHash (if b then 1 else 0)))) _ _ s from wpAny_ret_mkInt ?_) (args_int_hash _)))
 show wpAny _ _ (if (decide (-(2:Int) ^ 63<=rawHash (if b then 1 else 0))&&decide (rawHash (if b then 1 else 0)<2 ^ 63))=true then _ else _) Q E _;rw [if_pos (by rw [decide_eq_true c.1,decide_eq_true c.2];rfl)];exact wpAny_pure h
def Jau (prog:Program) (w:World):PySem.KeyKind prog w Key where
 is:=keyIs
 hash:=keyH w
 inj:=fun v a b ha hb=>by
  rcases JaS ha with ⟨i,rfl,rfl⟩ | ⟨x,t,rfl,rfl⟩
  ·rcases JaS hb with ⟨j,rfl,e⟩ | ⟨y,u,rfl,e⟩
   ·injection e with e1;rw [e1]
   ·exact nomatch e
  ·rcases JaS hb with ⟨j,rfl,e⟩ | ⟨y,u,rfl,e⟩
   ·exact nomatch e
   ·injection e with e1 _;rw [e1]
 byValue:=fun k v h=>by
  rcases JaS h with ⟨i,rfl,rfl⟩ | ⟨x,t,rfl,rfl⟩ <;> rfl
 pyHash:=fun hv h=>by
  rcases JaS hv with ⟨i,rfl,rfl⟩ | ⟨x,t,rfl,rfl⟩
  ·exact Jgv h
  ·exact wpAny_pyHash_str h
 eqBool:=fun hu hv h=>by
  rcases JaS hu with ⟨i,rfl,rfl⟩ | ⟨x,t,rfl,rfl⟩
  ·rcases JaS hv with ⟨j,rfl,rfl⟩ | ⟨y,u,rfl,rfl⟩
   ·rw [JlI] at h;exact SeqAt.EqAt.bool_bool i j _ _ _ _ h
   ·rw [JlJ] at h;exact SeqAt.EqAt.bool_str i y u _ _ _ _ h
  ·rcases JaS hv with ⟨j,rfl,rfl⟩ | ⟨y,u,rfl,rfl⟩
   ·rw [JlK] at h;exact SeqAt.EqAt.str_bool x t j _ _ _ _ h
   ·rw [JlL] at h;exact wpAny_eqBool_str h
 «strs»:=fun k x t v h=>by
  rcases JaS h with ⟨i,rfl,e⟩ | ⟨y,u,rfl,e⟩
  ·exact nomatch e
  ·injection e with e1 _
   subst e1;cases v <;> rfl
theorem JfK (prog:Program) (w:World) (i:Bool):(Jau prog w).is (.inl i) (.bool i)=true:=Jhh i
theorem Jgh (prog:Program) (w:World) (x:Str) (t:Tok):(Jau prog w).is (.inr x) (.str x t)=true:=Jh3 x t
inductive V where
 | non | bl (b:Bool) | int (i:Int) | str (x:Str) | byt (b:Array UInt8) | flt (b:UInt64) | ref (a:Addr) | ty (n:String)
 deriving DecidableEq
def RelV:V->Value->Prop
 | .non,u=>u=Value.none
 | .bl b,u=>u=Value.bool b
 | .int i,u=>∃ t,u=Value.int i t
 | .str x,u=>∃ t,u=Value.str x t
 | .byt b,u=>∃ t,u=Value.bytes b t
 | .flt b,u=>∃ t,u=Value.float b t
 | .ref a,u=>u=Value.ref a
 | .ty n,u=>u=Value.type n
abbrev Vals:List V->List Value->Prop:=Paired RelV
variable {xs:List V} {us:List Value}
theorem Vals.length (r:Vals xs us):xs.length=us.length:=Paired.length r
theorem Vals.get:∀ {xs:List V} {us:List Value} {i:Nat} {x:V},Vals xs us->xs[i]?=some x->∃ u,us[i]?=some u/\RelV x u
 | _,_,_,_, .nil,e=>by simp at e
 | _,_,0,_, .cons r _,e=>by simp at e;subst e;exact ⟨_,rfl,r⟩
 | _,_,i+1,x, .cons _ t,e=>by
  obtain ⟨u,h1,h2⟩:=Vals.get (i:=i) (x:=x) t (by simpa using e);exact ⟨u,by simpa using h1,h2⟩
theorem Vals.append:∀ {xs ys:List V} {us ws:List Value},Vals xs us->Vals ys ws->Vals (xs++ys) (us++ws)
 | _,_,_,_, .nil,s=>s
 | _,_,_,_, .cons r t,s=>.cons r (Vals.append t s)
def RelO:Option V->Option Value->Prop
 | some v,some u=>RelV v u
 | none,none=>True
 | _,_=>False
def KV {κ:Type}:List (κ × V)->List (κ × Value)->Prop:=Paired fun (p : κ × V) (q : κ × Value)=>p.1=q.1/\RelV p.2 q.2
def kV:Key->V
 | .inl i=>.bl i
 | .inr x=>.str x
inductive HO where
 | lst (xs:List V)
 | tup (xs:List V)
 | dK (kvs:List (Key × V)) | dT (kvs:List (List Key × V))
 | set (S:Int->Bool) (n:Nat)
 | ins (C dx:Addr) (fs:List (Str × V))
 | own (x:Addr)
 | xd (fs:List (Str × V))
 | met (f x:Addr)
 | rng (lo hi:Int)
 | frz (o:Obj) (u:HO)
 | tbl (ps:Array Value)
 | ext (φ : Heap->Prop)
abbrev Hp:=Addr->Option HO
def upd (H:Hp) (a:Addr) (o:HO):Hp:=fun b=>if b=a then some o else H b
variable {H:Hp} {a:Addr} {o:HO}
theorem Jaj:upd H a o a=some o:=by unfold upd;rw [if_pos rfl]
variable {b:Addr}
theorem Jag (h:b≠a):upd H a o b=H b:=by unfold upd;rw [if_neg h]
variable {u:HO}
theorem ne_of (h:H a=some o) (h':H b=some u) (d:o≠u):a≠b:=by
 intro e;subst e;rw [h] at h';exact d (Option.some.inj h')
theorem Jah (h:H a=some o) (h':H b=none):a≠b:=by
 intro e;subst e;rw [h] at h';cases h'
section
variable (P:Program) (w:World)
def ObjOk (H:Hp) (h:Heap) (a:Addr):HO->Prop
 | .lst xs=>xs.length<=sizeLine/\∃ (its:List Value) (n:Nat),Vals xs its/\h.get? a=some { cls:=.type "list",data:=.seq its.toArray n }
 | .tup xs=>xs.length<=sizeLine/\∃ its:List Value,Vals xs its/\IsTup h a its.toArray
 | .dK kvs=>kvs.length<=sizeLine/\(a == sysModules)=false/\∃ vs,KV kvs vs/\h.DictOf (Jau P w) a vs
 | .dT kvs=>kvs.length<=sizeLine/\(a == sysModules)=false/\∃ xs:List (List Key × Addr × Value),
   Paired (fun (p:List Key × V) (q:List Key × Addr × Value)=>p.1=q.1/\H q.2.1=some (.tup (p.1.map kV))/\RelV p.2 q.2.2) kvs xs /\
   ∃ o es ep,h.get? a=some o/\o.ExactDict/\o.data=.dict es ep/\es.toList=xs.map (entryOfKey (tupleKind (Jau P w)))/\(xs.map (·.1)).Nodup
 | .set S n=>h.SetOf (intKind P w) a S n
 | .ins C dx fs=>H dx=some (.own a)/\fs.length<=1000/\dx≠a/\h.get? a=some (W.instObj C dx) /\
   ∃ mA,h.Ns1 dx mA/\(∀ f,RelO (fs.lookup f) (mA f))/\PySem.Within mA (fs.map (·.1))
 | .own _=>∃ o,h.get? a=some o
 | .xd fs=>∃ mA,h.Ns1 a mA/\∀ f,RelO (fs.lookup f) (mA f)
 | .rng lo hi=>∃ t u v,h.get? a=some { cls:=.type "range",data:=.fields #[.int lo t, .int hi u, .int 1 v] }
 | .frz o u=>h.get? a=some o/\ObjOk H h a u
 | .tbl ps=>h.get? a=some { cls:=.none,data:=.fields ps }
 | .met f x=>h.get? a=some (W.methodObj (.ref f) (.ref x))
 | .ext φ=>φ h/\(∃ o,h.get? a=some o)/\∀ h1 h2:Heap,φ h1->(∀ o,h1.get? a=some o->h2.get? a=some o)->φ h2
def HOk (H:Hp) (h:Heap):Prop:=∀ a o,H a=some o->ObjOk P w H h a o
end
section
variable {P:Program} {H':Hp} {h h':Heap} {w:World}
theorem ObjOk.lt (x:ObjOk P w H h a o):a<h.objs.size:=by
 cases o with
 | lst xs=>obtain ⟨_,_,_,_,e⟩:=x;exact Heap.lt_size e
 | tup xs=>obtain ⟨_,_,_,p⟩:=x;exact p.lt
 | dK kvs=>obtain ⟨_,_,_,_,o,_,_,e,_⟩:=x;exact Heap.lt_size e
 | dT kvs=>obtain ⟨_,_,_,_,o,_,_,e,_⟩:=x;exact Heap.lt_size e
 | set S n=>obtain ⟨o,_,_,_,e,_⟩:=x;exact Heap.lt_size e
 | ins C dx fs=>obtain ⟨_,_,_,e,_⟩:=x;exact Heap.lt_size e
 | own y=>obtain ⟨_,e⟩:=x;exact Heap.lt_size e
 | xd fs=>obtain ⟨_,⟨_,_,_,e,_⟩,_⟩:=x;exact Heap.lt_size e
 | rng lo hi=>obtain ⟨_,_,_,e⟩:=x;exact Heap.lt_size e
 | frz ob u=>obtain ⟨e,_⟩:=x;exact Heap.lt_size e
 | tbl ps=>exact Heap.lt_size (show h.get? a=some _ from x)
 | met f y=>exact Heap.lt_size (show h.get? a=some _ from x)
 | ext φ=>obtain ⟨_,⟨_,e⟩,_⟩:=x;exact Heap.lt_size e
variable {α:Type}
theorem Paired.mapP {β:Type} {F G : α->β->Prop}:∀ {l₁ : List α} {l₂ : List β},Paired F l₁ l₂->(∀ a b,F a b->G a b)->Paired G l₁ l₂
 | _,_, .nil,_=>.nil
 | _,_, .cons r t,f=>.cons (f _ _ r) (Paired.mapP t f)
theorem ObjOk.stay (x:ObjOk P w H h a o) (k:∀ b u,(b=a\/H b=some (.own a))->h.get? b=some u->h'.get? b=some u)
  (ho:∀ b,H b=some (.own a)->H' b=some (.own a)) (ht:∀ b xs,H b=some (.tup xs)->H' b=some (.tup xs)):ObjOk P w H' h' a o:=by
 induction o with
 | lst xs=>obtain ⟨z,l,n,r,e⟩:=x;exact ⟨z,l,n,r,k _ _ (.inl rfl) e⟩
 | tup xs=>obtain ⟨z,l,r,g,e,c⟩:=x;exact ⟨z,l,r,g,k _ _ (.inl rfl) e,c⟩
 | dK kvs=>obtain ⟨z,y,B,r,g,i,j,e,c⟩:=x;exact ⟨z,y,B,r,g,i,j,k _ _ (.inl rfl) e,c⟩
 | dT kvs=>
  obtain ⟨z,y,xs,r,g,i,j,e,c⟩:=x;exact ⟨z,y,xs,Paired.mapP r fun p q z=>⟨z.1,ht _ _ z.2.1,z.2.2⟩,g,i,j,k _ _ (.inl rfl) e,c⟩
 | set S n=>obtain ⟨g,i,j,t,e,c⟩:=x;exact ⟨g,i,j,t,k _ _ (.inl rfl) e,c⟩
 | ins C dx fs=>
  obtain ⟨d,z,D,e,s,⟨m,i,j,E,c⟩,r⟩:=x;exact ⟨ho _ d,z,D,k _ _ (.inl rfl) e,s,⟨m,i,j,k _ _ (.inr d) E,c⟩,r⟩
 | own y=>obtain ⟨g,e⟩:=x;exact ⟨g,k _ _ (.inl rfl) e⟩
 | xd fs=>obtain ⟨s,⟨m,i,j,e,c⟩,r⟩:=x;exact ⟨s,⟨m,i,j,k _ _ (.inl rfl) e,c⟩,r⟩
 | rng lo hi=>obtain ⟨t,u,v,e⟩:=x;exact ⟨t,u,v,k _ _ (.inl rfl) e⟩
 | frz g u ih=>obtain ⟨e,q⟩:=x;exact ⟨k _ _ (.inl rfl) e,ih q⟩
 | tbl ps=>
  have e:h.get? a=some { cls:=.none,data:=.fields ps }:=x;show h'.get? a=some { cls:=.none,data:=.fields ps };exact k a _ (.inl rfl) e
 | met f y=>
  have e:h.get? a=some (W.methodObj (.ref f) (.ref y)):=x;show h'.get? a=some (W.methodObj (.ref f) (.ref y));exact k a _ (.inl rfl) e
 | ext φ=>obtain ⟨p,⟨o,e⟩,A⟩:=x;exact ⟨A _ _ p fun o q=>k _ _ (.inl rfl) q,⟨o,k _ _ (.inl rfl) e⟩,A⟩
theorem HOk.lt (x:HOk P w H h) (e:H a=some o):a<h.objs.size:=(x a o e).lt
theorem HOk.fresh (x:HOk P w H h) (e:h.objs.size<=a):H a=none:=by
 cases q:H a with
 | none=>rfl
 | some u=>exact absurd (Nat.lt_of_lt_of_le (x.lt q) e) (Nat.lt_irrefl _)
theorem HOk.kept (x:HOk P w H h) (k:∀ b u,h.get? b=some u->h'.get? b=some u):HOk P w H h':=fun a o e=>
 (x a o e).stay (fun b u _ q=>k b u q) (fun _ q=>q) fun _ _ q=>q
theorem HOk.laid (x:HOk P w H h) (k:∀ b u,h.get? b=some u->h'.get? b=some u) (hp:h.objs.size<=a) (new:ObjOk P w (upd H a o) h' a o):HOk P w (upd H a o) h':=fun b u e=>by
 have f:=x.fresh hp;by_cases d:b=a
 ·subst d;rw [Jaj] at e;cases e;exact new
 ·rw [Jag d] at e;exact (x b u e).stay (fun c v _ q=>k c v q) (fun c q=>by rw [Jag (Jah q f)];exact q) fun c g q=>by rw [Jag (Jah q f)];exact q
end
def Rd (H:Hp) (a:Addr) (u:HO):Prop:=H a=some u\/∃ o,H a=some (.frz o u)
variable {P:Program} {h:Heap}
theorem Rd.ok {w:World} (r:Rd H a u) (x:HOk P w H h):ObjOk P w H h a u:=by
 rcases r with r | ⟨o,r⟩
 ·exact x a u r
 ·obtain ⟨_,q⟩:=x a _ r;exact q
def Mut:Option HO->Prop
 | some (.lst _)=>True
 | some (.dK _)=>True
 | some (.dT _)=>True
 | some (.set _ _)=>True
 | some (.ins _ _ _)=>True
 | some (.ext _)=>True
 | _=>False
section
variable {h':Heap} {x e:Addr} {o':HO} {w:World}
theorem HOk.write (ok:HOk P w H h) (mu:Mut (H x)) (he:e=x\/H e=some (.own x)) (k:∀ b u,b≠e->h.get? b=some u->h'.get? b=some u) (heo:∃ u,h'.get? e=some u)
  (new:ObjOk P w (upd H x o') h' x o'):HOk P w (upd H x o') h':=fun b u q=>by
 have d:∀ c y,H c=some (.own y)->c≠x:=fun c y r z=>by subst z;rw [r] at mu;exact mu
 have f:∀ c i,H c=some (.tup i)->c≠x:=fun c i r z=>by subst z;rw [r] at mu;exact mu
 by_cases j:b=x
 ·subst j;rw [Jaj] at q;cases q;exact new
 ·rw [Jag j] at q;by_cases a:b=e
  ·have l:H b=some (.own x):=by
    rcases he with z | z
    ·exact absurd (a.trans z) j
    ·rw [a];exact z
   rw [q] at l;cases l;obtain ⟨v,m⟩:=heo;exact ⟨v,by rw [a];exact m⟩
  ·refine (ok b u q).stay (fun c v g r=>k c v ?_ r) (fun c r=>by rw [Jag (d c b r)];exact r) fun c i r=>by rw [Jag (f c i r)];exact r
   rcases g with rfl | g
   ·exact a
   ·rintro rfl;rcases he with z | z
    ·exact d c b g z
    ·rw [g] at z;cases z;exact j rfl
end
structure Un (fs ex:List Addr) (H H':Hp) (h h':Heap):Prop where
 keep:∀ b o,h.get? b=some o->H b=none->b∉fs->b∉ex->h'.get? b=some o
 slot:∀ b o,h.get? b=some o->H b=none->b∈fs->b∉ex->∃ sl,h'.get? b=some { o with slots:=sl }
 free:∀ b o,h.get? b=some o->H b=none->b∉ex->H' b=none
 there:∀ b o,h.get? b=some o->b∉ex->∃ o',h'.get? b=some o'
 tups:∀ b xs,H b=some (.tup xs)->H' b=some (.tup xs)
 frzs:∀ b o u,H b=some (.frz o u)->H' b=some (.frz o u)
 tbls:∀ b ps,H b=some (.tbl ps)->∃ more,H' b=some (.tbl (ps++more))
section
variable {fs' ex ex':List Addr} {H1 H2:Hp} {h1 h2 h':Heap} {x e:Addr} {fs:List Addr}
theorem Un.any (u:Un fs ex H H1 h h1) {b:Addr} {ob:Obj} (q:h.get? b=some ob) (n:H b=none) (hx:b∉ex):∃ sl,h1.get? b=some { ob with slots:=sl }:=by
 by_cases a:b∈fs
 ·exact u.slot b ob q n a hx
 ·exact ⟨ob.slots,u.keep b ob q n a hx⟩
theorem Un.kept (k:∀ b u,h.get? b=some u->h'.get? b=some u):Un fs ex H H h h' :=
 ⟨fun b a q _ _ _=>k b a q,fun b a q _ _ _=>⟨a.slots,k b a q⟩,fun _ _ _ n _=>n,fun b a q _=>⟨a,k b a q⟩,fun _ _ q=>q,fun _ _ _ q=>q,fun _ c q=>⟨#[],by rw [q];simp⟩⟩
theorem Un.refl:Un fs ex H H h h:=Un.kept fun _ _ q=>q
theorem Un.laid (k:∀ b u,h.get? b=some u->h'.get? b=some u) (hp:h.objs.size<=a) (hn:H a=none):Un fs ex H (upd H a o) h h' where
 keep:=fun b u q _ _ _=>k b u q
 slot:=fun b u q _ _ _=>⟨u.slots,k b u q⟩
 free:=fun b u q n _=>by rw [Jag (Nat.ne_of_lt (Nat.lt_of_lt_of_le (Heap.lt_size q) hp))];exact n
 there:=fun b u q _=>⟨u,k b u q⟩
 tups:=fun b c q=>by rw [Jag (Jah q hn)];exact q
 frzs:=fun b u c q=>by rw [Jag (Jah q hn)];exact q
 tbls:=fun b d q=>⟨#[],by rw [Jag (Jah q hn),q];simp⟩
theorem Un.write (mu:Mut (H x)) (he:e=x\/H e=some (.own x)) (k:∀ b u,b≠e->h.get? b=some u->h'.get? b=some u) (heo:∃ u,h'.get? e=some u):Un fs ex H (upd H x o) h h':=by
 have f:∀ b,H b=none->b≠x:=fun b n z=>by subst z;rw [n] at mu;exact mu
 have d:∀ b,H b=none->b≠e:=fun b n z=>by
  subst z;rcases he with r | r
  ·exact f b n r
  ·rw [n] at r;cases r
 have c:∀ b u,H b=some u->¬ Mut (some u)->b≠x:=fun b u q i z=>by subst z;rw [q] at mu;exact i mu
 refine ⟨fun b u q n _ _=>k b u (d b n) q,fun b u q n _ _=>⟨u.slots,k b u (d b n) q⟩,fun b u q n _=>by rw [Jag (f b n)];exact n,fun b u q _=>?_,
  fun b g q=>by rw [Jag (c b _ q fun z=>z)];exact q,fun b u g q=>by rw [Jag (c b _ q fun z=>z)];exact q,fun b j q=>⟨#[],by rw [Jag (c b _ q fun z=>z),q];simp⟩⟩
 by_cases a:b=e
 ·subst a;exact heo
 ·exact ⟨u,k b u a q⟩
end
def trk (h:Heap) (H:Hp):List Addr:=(List.range h.objs.size).filter fun a=>(H a).isSome
def hidT (h:Heap) (H:Hp):Heap:=W.hideAll h (trk h H)
theorem Jh0 (h:Heap) (H:Hp):(hidT h H).objs.size=h.objs.size:=W.hideAll_size _ _
variable {o:Obj}
theorem Jjd (e:h.get? b=some o) (n:H b=none):(hidT h H).get? b=some o :=
 W.hideAll_get _ e fun a=>by
  have q:(H b).isSome=true:=(mem_filter.mp a).2;rw [n] at q;simp at q
theorem JkP (e:(hidT h H).get? b=some o):h.get? b=some o/\H b=none:=by
 have a:h.get? b=some o:=W.of_hideAll (trk h H) e;refine ⟨a,?_⟩;cases q:H b with
 | none=>rfl
 | some x=>
  have c:b∈trk h H:=mem_filter.mpr ⟨List.mem_range.mpr (Heap.lt_size a),by simp [q]⟩;have z:(hidT h H).get? b=none:=W.hideAll_none (trk h H) c;rw [z] at e;cases e
def Jkn (g h:Heap) (L:Addr):List (Addr × Obj):=(List.range h.objs.size).filterMap fun a=>if a=L\/(g.get? a).isSome=true then none else (h.get? a).map fun o=>(a,o)
def rest (g h:Heap) (L d:Addr):List (Addr × Obj):=(Jkn g h L).filter fun p=>decide (p.1≠d)
structure Mod (K:W.Frag) (mg:Str->Option Value) (base:Heap):Prop where
 kin:K.In base
 glob:base.Ns mainGlobals mg
 blt:∃ mb,base.Ns builtinsNs mb/\∀ x:Str,x≠"__name__"->mb x=bootBuiltins x
 nolimit:base.NoLimit
structure Cx where
 prog:Program
 w:World
 K:W.Frag
 mg:Str->Option Value
 base:Heap
 A:Around
 N:List Str
 s₀ : Shared
 H₀ : Hp
 env:Env
 outer:List Env
 stack:List Env
 ex:List Addr
 fn:Str->Bool
 calm:Bool
 pn:List (Addr × Obj)
 xe:Value->Shared->Prop
def frs (l:List Env):List Addr:=l.filterMap (·.frame)
abbrev Cx.fs (X:Cx):List Addr:=frs X.outer
def Vis (sc:Scope) (x:Str):Prop:=sc.names.lookup x=some .local\/sc.names.lookup x=some .cell\/sc.names.lookup x=some .free
def Loc (sc:Scope) (x:Str):Prop:=sc.names.lookup x=some .local\/sc.names.lookup x=some .cell
def Look (env:Env) (h:Heap) (m:Str->Option Value) (x:Str) (u:Value):Prop :=
 (env.kindOf x=some .local/\m x=some u)\/((env.kindOf x=some .cell\/env.kindOf x=some .free)/\∃ c,env.cells.lookup x=some c/\h.IsCell c (some u))
structure Cx.Ok (X:Cx):Prop where
 mod:Mod X.K X.mg X.base
 kind:X.env.scope.kind=.function
 glob:X.env.globals=mainGlobals
 blt:X.env.builtins=builtinsNs
 above:X.s₀.heap.objs.size<=X.env.locals
 inj:∀ x y c,X.env.cells.lookup x=some c->X.env.cells.lookup y=some c->x=y
 has:∀ x,(X.env.kindOf x=some .cell\/X.env.kindOf x=some .free)->∃ c,X.env.cells.lookup x=some c
 cab:∀ x c,X.fn x=true->X.env.cells.lookup x=some c->X.s₀.heap.objs.size<=c
 hd:X.calm=true->X.A.handled=none
 frames:X.A.frames=some X.stack
 stk:X.stack=X.outer\/(X.stack=X.env::X.outer/\X.env.frame=some X.env.locals)
 exf:∀ b∈X.ex,b≠X.env.locals/\∀ x c,X.env.cells.lookup x=some c->c≠b
 bs:∀ b o,X.base.get? b=some o->X.s₀.heap.get? b=some o/\X.H₀ b=none
 bsz:X.base.objs.size<=X.s₀.heap.objs.size
 noex:∀ b o,X.base.get? b=some o->b∉X.ex
 exfs:∀ b∈X.ex,b∉X.fs
 funs:X.s₀.heap.FunFrames X.base X.outer
 frf:∀ b∈X.fs,X.H₀ b=none
structure Inv (X:Cx) (pins:List (Addr × Obj)) (σ : List (Option V)) (H:Hp) (s:Shared):Prop where
 ok:X.Ok
 os:s.os=X.s₀.os
 bare:AllBare s.gens
 base:Un X.fs X.ex X.H₀ H X.s₀.heap s.heap
 loc:∃ m,s.heap.Ns X.env.locals m/\∀ (i:Nat) (x:Str) (v:V),X.N[i]?=some x->σ[i]?=some (some v)->Vis X.env.scope x->∃ u,RelV v u/\Look X.env s.heap m x u
 cell:∀ x c,X.env.cells.lookup x=some c->∃ v,s.heap.IsCell c v
 free:H X.env.locals=none
 freeC:∀ x c,X.env.cells.lookup x=some c->H c=none
 pin:∀ p∈X.pn++pins,s.heap.get? p.1=some p.2/\H p.1=none/\p.1≠X.env.locals/\p.1∉X.fs/\∀ v,p.2.data≠.cell v
 hok:HOk X.prog X.w H s.heap
 len : σ.length=X.N.length
section
variable {X:Cx} {pins:List (Addr × Obj)} {σ:List (Option V)} {H':Hp} {h':Heap} {s:Shared}
theorem Cx.Ok.nofr (ok:X.Ok) {b:Addr} {o:Obj} (e:X.base.get? b=some o):b∉X.fs:=fun a=>by
 have:=(ok.funs.mem a).1;rw [e] at this;cases this
theorem Inv.bs (I:Inv X pins σ H s):∀ b o,X.base.get? b=some o->s.heap.get? b=some o/\H b=none:=fun b o e=>
 ⟨I.base.keep b o (I.ok.bs b o e).1 (I.ok.bs b o e).2 (I.ok.nofr e) (I.ok.noex b o e),I.base.free b o (I.ok.bs b o e).1 (I.ok.bs b o e).2 (I.ok.noex b o e)⟩
theorem Inv.bk (I:Inv X pins σ H s):∀ b o,X.base.get? b=some o->s.heap.get? b=some o:=fun b o e=>(I.bs b o e).1
theorem Inv.mod (I:Inv X pins σ H s):Mod X.K X.mg X.base:=I.ok.mod
theorem Inv.kIn (I:Inv X pins σ H s):X.K.In s.heap:=I.ok.mod.kin.keeps I.bk
theorem Inv.lt (I:Inv X pins σ H s):X.env.locals<s.heap.objs.size:=let ⟨_,hn,_⟩:=I.loc;hn.lt
theorem Inv.sz (I:Inv X pins σ H s):X.s₀.heap.objs.size<=s.heap.objs.size:=Nat.le_trans I.ok.above (Nat.le_of_lt I.lt)
theorem Inv.nofs (I:Inv X pins σ H s) {a:Addr} (h:s.heap.objs.size<=a):a∉X.fs:=fun c=>by
 obtain ⟨_,o,b,_⟩:=I.ok.funs.mem c;exact absurd (Nat.lt_of_lt_of_le (Heap.lt_size b) (Nat.le_trans I.sz h)) (Nat.lt_irrefl _)
theorem Inv.cne (I:Inv X pins σ H s):∀ x c,X.env.cells.lookup x=some c->c≠X.env.locals:=fun x c e z=>by
 obtain ⟨v,o,f,d⟩:=I.cell x c e;obtain ⟨m,⟨h,i,g,a,b,_⟩,_⟩:=I.loc;rw [z,a] at f;cases f;rw [b] at d;cases d
theorem Inv.funs (I:Inv X pins σ H s):s.heap.FunFrames X.base X.outer:=by
 have all:∀ (l:List Env),(∀ b∈frs l,b∈X.fs)->X.s₀.heap.FunFrames X.base l->s.heap.FunFrames X.base l:=by
  intro l;induction l with
  | nil=>intro _ _;trivial
  | cons env r ih=>
   intro f g;obtain ⟨k,⟨L,o,a,m,i,h⟩,j⟩:=g;have d:L∈X.fs:=f L (by unfold frs;rw [List.filterMap_cons,a];exact mem_cons_self);obtain ⟨n,e⟩:=I.base.slot L o i (I.ok.frf L d) d fun z=>I.ok.exfs L z d;exact ⟨k,⟨L,_,a,m,e,h⟩,ih (fun b c=>f b (by unfold frs;rw [List.filterMap_cons,a];exact mem_cons_of_mem _ c)) j⟩
 exact all X.outer (fun _ c=>c) I.ok.funs
theorem Inv.stack (I:Inv X pins σ H s):s.heap.FunFrames X.base X.stack:=by
 rcases I.ok.stk with e | ⟨e,hf⟩
 ·rw [e];exact I.funs
 ·rw [e];obtain ⟨m,a,_⟩:=I.loc;refine .cons (by rw [I.ok.kind];decide) hf a ?_ I.funs;exact Heap.get?_none_of_le (Nat.le_trans I.ok.bsz I.ok.above)
theorem Inv.stkSub (I:Inv X pins σ H s):∀ b∈frs X.stack,b∈X.env.locals::X.fs:=fun b a=>by
 rcases I.ok.stk with e | ⟨e,hf⟩
 ·rw [e] at a;exact mem_cons_of_mem _ a
 ·rw [e] at a;unfold frs at a;rw [List.filterMap_cons,hf] at a;exact a
theorem Inv.stkFree (I:Inv X pins σ H s):∀ b∈frs X.stack,H b=none:=fun b a=>by
 rcases mem_cons.mp (I.stkSub b a) with e | a
 ·rw [e];exact I.free
 ·obtain ⟨_,o,c,_⟩:=I.ok.funs.mem a;exact I.base.free b o c (I.ok.frf b a) fun z=>I.ok.exfs b z a
variable {g':Array GenState} {t':Nat} {d':Drawn} {ch:List Addr}
theorem Inv.step (I:Inv X pins σ H s)
  (hch:∀ b∈ch,(b∈X.ex\/X.s₀.heap.objs.size<=b)/\b≠X.env.locals/\(∀ x c,X.env.cells.lookup x=some c->c≠b)/\∀ p∈X.pn++pins,p.1≠b)
  (keep:∀ b o,b≠X.env.locals->b∉X.fs->b∉ch->s.heap.get? b=some o->H b=none->h'.get? b=some o)
  (slot:∀ b o,b≠X.env.locals->b∈X.fs->b∉ch->s.heap.get? b=some o->H b=none->∃ sl,h'.get? b=some { o with slots:=sl }) (free:∀ b o,b∉ch->s.heap.get? b=some o->H b=none->H' b=none)
  (there:∀ b o,b∉ch->s.heap.get? b=some o->∃ o',h'.get? b=some o')
  (tups:∀ b xs,H b=some (.tup xs)->H' b=some (.tup xs)) (frzs:∀ b o u,H b=some (.frz o u)->H' b=some (.frz o u)) (tbls:∀ b ps,H b=some (.tbl ps)->∃ more,H' b=some (.tbl (ps++more)))
  (ns:∀ m,s.heap.Ns X.env.locals m->h'.Ns X.env.locals m) (hok:HOk X.prog X.w H' h') (hg:AllBare g') :
  Inv X pins σ H' { s with heap:=h',gens:=g',drawn:=d',toks:=t' }:=by
 have A:∀ b o,X.s₀.heap.get? b=some o->b≠X.env.locals:=fun b o e=>Nat.ne_of_lt (Nat.lt_of_lt_of_le (Heap.lt_size e) I.ok.above);have h:∀ b o,X.s₀.heap.get? b=some o->b∉X.ex->b∉ch:=fun b o e a t=>by
  rcases (hch b t).1 with z | z
  ·exact a z
  ·exact absurd (Nat.lt_of_lt_of_le (Heap.lt_size e) z) (Nat.lt_irrefl _)
 have g:∀ x c,X.env.cells.lookup x=some c->∀ v,s.heap.IsCell c v->h'.IsCell c v:=fun x c e v ⟨o,y,C⟩=>by
  have f:c∉ch:=fun z=>(hch c z).2.2.1 x c e rfl;by_cases E:c∈X.fs
  ·obtain ⟨sl,q⟩:=slot c o (I.cne x c e) E f y (I.freeC x c e);exact ⟨_,q,C⟩
  ·exact ⟨o,keep c o (I.cne x c e) E f y (I.freeC x c e),C⟩
 refine ⟨I.ok,I.os,hg,⟨fun b o e n t a=>?_,fun b o e n t a=>?_,fun b o e n a=>?_,fun b o e a=>?_,fun b xs e=>tups b xs (I.base.tups b xs e),fun b o xs e=>frzs b o xs (I.base.frzs b o xs e),fun b ps e=>?_⟩,?_,fun x c e=>?_,?_,fun x c e=>?_,fun p J=>?_,hok,I.len⟩
 ·exact keep b o (A b o e) t (h b o e a) (I.base.keep b o e n t a) (I.base.free b o e n a)
 ·obtain ⟨sl,j⟩:=I.base.slot b o e n t a;obtain ⟨D,B⟩:=slot b _ (A b o e) t (h b o e a) j (I.base.free b o e n a);exact ⟨D,B⟩
 ·obtain ⟨o',j⟩:=I.base.there b o e a;exact free b o' (h b o e a) j (I.base.free b o e n a)
 ·obtain ⟨o',j⟩:=I.base.there b o e a;exact there b o' (h b o e a) j
 ·obtain ⟨L,j⟩:=I.base.tbls b ps e;obtain ⟨K,B⟩:=tbls b _ j;exact ⟨L++K,by rw [B,Array.append_assoc]⟩
 ·obtain ⟨m,M,N⟩:=I.loc;refine ⟨m,ns m M,fun i x v j B O=>?_⟩;obtain ⟨u,r,l⟩:=N i x v j B O;refine ⟨u,r,?_⟩;rcases l with l | ⟨k,c,e,z⟩
  ·exact .inl l
  ·exact .inr ⟨k,c,e,g x c e _ z⟩
 ·obtain ⟨v,z⟩:=I.cell x c e;exact ⟨v,g x c e v z⟩
 ·obtain ⟨m,⟨o,_,_,y,_⟩,_⟩:=I.loc;exact free _ o (fun z=>(hch _ z).2.1 rfl) y I.free
 ·obtain ⟨v,o,y,C⟩:=I.cell x c e;exact free c o (fun z=>(hch c z).2.2.1 x c e rfl) y (I.freeC x c e)
 ·obtain ⟨e,n,F,G,d⟩:=I.pin p J;have f:p.1∉ch:=fun z=>(hch p.1 z).2.2.2 p J rfl;exact ⟨keep p.1 p.2 F G f e n,free p.1 p.2 f e n,F,G,d⟩
theorem Inv.un (I:Inv X pins σ H s) (u:Un X.fs [] H H' s.heap h') (hok:HOk X.prog X.w H' h'):Inv X pins σ H' { s with heap:=h',toks:=t' }:=by
 obtain ⟨m,⟨o,p,q,g,r⟩,_⟩:=id I.loc;obtain ⟨t,h⟩:=u.any g I.free (by simp);exact I.step (g':=s.gens) (d':=s.drawn) (ch:=[]) (fun _ z=>nomatch z) (fun b o _ d _ e n=>u.keep b o e n d (by simp)) (fun b o _ d _ e n=>u.slot b o e n d (by simp)) (fun b o _ e n=>u.free b o e n (by simp)) (fun b o _ e=>u.there b o e (by simp)) u.tups u.frzs u.tbls (fun k j=>by
  obtain ⟨l,f,c,a,i⟩:=j;rw [g] at a;cases a;exact ⟨_,f,c,h,i⟩) hok I.bare
theorem Inv.call (I:Inv X pins σ H s) (u:Un (frs X.stack) ch H H' s.heap h') (hok:HOk X.prog X.w H' h') (hg:AllBare g')
  (hch:∀ b∈ch,(b∈X.ex\/X.s₀.heap.objs.size<=b)/\b≠X.env.locals/\(∀ x c,X.env.cells.lookup x=some c->c≠b)/\∀ p∈X.pn++pins,p.1≠b) :
  Inv X pins σ H' { s with heap:=h',gens:=g',drawn:=d',toks:=t' }:=by
 obtain ⟨m,⟨o,v,y,i,r⟩,_⟩:=id I.loc;obtain ⟨A,f⟩:=u.any i I.free fun z=>(hch _ z).2.1 rfl;exact I.step (ch:=ch) hch (fun b o f l a e n=>u.keep b o e n (fun z=>(mem_cons.mp (I.stkSub b z)).elim f l) a) (fun b o _ _ a e n=>u.any e n a) (fun b o a e n=>u.free b o e n a) (fun b o a e=>u.there b o e a) u.tups u.frzs u.tbls (fun q k=>by
  obtain ⟨t,h,g,d,j⟩:=k;rw [i] at d;cases d;exact ⟨_,h,g,f,j⟩) hok hg
variable {it:Addr}
theorem Inv.turned (I:Inv X pins σ H s) (k:∀ b o,b≠it->s.heap.get? b=some o->h'.get? b=some o) (hn:H it=none) (hL:it≠X.env.locals)
  (h1:it∈X.ex\/X.s₀.heap.objs.size<=it) (h2:∀ x c,X.env.cells.lookup x=some c->c≠it) (h3:∀ p∈X.pn++pins,p.1≠it):Inv X pins σ H { s with heap:=h',toks:=t' }:=by
 have d:∀ b u,H b=some u->b≠it:=fun b u e z=>by rw [z,hn] at e;cases e
 refine I.step (g':=s.gens) (d':=s.drawn) (ch:=[it]) (fun b i=>?_) (fun b o _ _ a e _=>k b o (fun z=>a (by simp [z])) e) (fun b o _ _ a e _=>⟨o.slots,k b o (fun z=>a (by simp [z])) e⟩) (fun _ _ _ _ n=>n)
  (fun b o a e=>⟨o,k b o (fun z=>a (by simp [z])) e⟩) (fun _ _ e=>e) (fun _ _ _ e=>e) (fun b l e=>⟨#[],by rw [e];simp⟩) (fun m f=>?_) (fun b u e=>?_) I.bare
 ·have e:b=it:=by simpa using i
  subst e;exact ⟨h1,hL,h2,h3⟩
 ·obtain ⟨o,g,h,j,r⟩:=f;exact ⟨o,g,h,k _ o (Ne.symm hL) j,r⟩
 ·refine (I.hok b u e).stay (fun c v a q=>k c v ?_ q) (fun _ q=>q) fun _ _ q=>q;rcases a with z | z
  ·rw [z];exact d b u e
  ·exact d c _ z
theorem Inv.tok (I:Inv X pins σ H s) (t:Nat):Inv X pins σ H { s with toks:=t }:=I.un (h':=s.heap) (t':=t) Un.refl I.hok
theorem Inv.kept (I:Inv X pins σ H s) (k:∀ b u,s.heap.get? b=some u->h'.get? b=some u):Inv X pins σ H { s with heap:=h',toks:=t' }:=I.un (Un.kept k) (I.hok.kept k)
variable {o:HO}
theorem Inv.laid (I:Inv X pins σ H s) (k:∀ b u,s.heap.get? b=some u->h'.get? b=some u) (hp:s.heap.objs.size<=a) (new:ObjOk X.prog X.w (upd H a o) h' a o) :
  Inv X pins σ (upd H a o) { s with heap:=h',toks:=t' }:=I.un (Un.laid k hp (I.hok.fresh hp)) (I.hok.laid k hp new)
theorem Inv.write {x e:Addr} (I:Inv X pins σ H s) (mu:Mut (H x)) (he:e=x\/H e=some (.own x)) (k:∀ b u,b≠e->s.heap.get? b=some u->h'.get? b=some u) (heo:∃ u,h'.get? e=some u)
  (new:ObjOk X.prog X.w (upd H x o) h' x o):Inv X pins σ (upd H x o) { s with heap:=h',toks:=t' }:=I.un (Un.write mu he k heo) (I.hok.write mu he k heo new)
theorem Inv.pins_of {pins':List (Addr × Obj)} (I:Inv X pins σ H s) (h:∀ p∈pins',s.heap.get? p.1=some p.2/\H p.1=none/\p.1≠X.env.locals/\p.1∉X.fs/\∀ v,p.2.data≠.cell v):Inv X pins' σ H s :=
 ⟨I.ok,I.os,I.bare,I.base,I.loc,I.cell,I.free,I.freeC,fun p a=>(mem_append.mp a).elim (fun z=>I.pin p (List.mem_append_left _ z)) (h p),I.hok,I.len⟩
variable {N:List Str}
theorem Je3 (hN:N.Nodup) {i j:Nat} {x:Str} (a:N[i]?=some x) (b:N[j]?=some x):i=j:=by
 obtain ⟨e,c⟩:=List.getElem?_eq_some_iff.mp a;obtain ⟨f,d⟩:=List.getElem?_eq_some_iff.mp b;exact (List.getElem_inj hN).mp (c.trans d.symm)
variable {M:Model} {x:Str} {v:V} {u:Value} {Q:Unit->Shared->Prop}
theorem Jen {i:Nat} (I:Inv X pins σ H s) (hN:X.N.Nodup) (hi:X.N[i]?=some x) (hx:Loc X.env.scope x) (r:RelV v u)
  (h:∀ s',Inv X pins (σ.set i (some v)) H s'->(∃ a,Heap.SameBut a s.heap s'.heap/\(a=X.env.locals\/X.env.cells.lookup x=some a))->Q () s') (hf:X.fn x=true\/X.env.scope.names.lookup x=some .local:=by first | exact .inl rfl | exact .inr rfl | assumption):wpAny M A (storeName X.env x u) Q E s:=by
 obtain ⟨m,hn,hl⟩:=id I.loc;have R:(X.env.scope.kind == .class||(X.env.scope.kind == .module&&X.env.locals != X.env.globals))=false:=by rw [I.ok.kind];rfl
 have hiσ : i<σ.length:=by rw [I.len];exact (List.getElem?_eq_some_iff.mp hi).1
 have G:=I.cne;have g:∀ {a:Addr} {K:Heap},(∃ o,s.heap.get? a=some o/\H a=none)->Heap.SameBut a s.heap K->HOk X.prog X.w H K:=fun {a K} ha f b ob e=>by
  obtain ⟨_,_,B⟩:=ha;refine (I.hok b ob e).stay (fun c U t q=>(f.2 c ?_).trans q) (fun _ q=>q) fun _ _ q=>q;rintro rfl;rcases t with rfl | t
  ·rw [B] at e;cases e
  ·rw [B] at t;cases t
 rcases hx with hk | hk
 ·refine wpAny_storeName_local hk hn (fun K Z f=>?_) R;obtain ⟨oL,_,_,a0,_⟩:=id hn;refine h _ ⟨I.ok,I.os,I.bare,⟨fun b o e n J hx=>?_,fun b o e n J hx=>?_,I.base.free,fun b o e hx=>?_,I.base.tups,I.base.frzs,I.base.tbls⟩,⟨_,Z,fun j y v' l C e3=>?_⟩,fun y c e=>?_,I.free,I.freeC,fun p hp=>?_,g ⟨oL,a0,I.free⟩ f,by simpa using I.len⟩ ⟨_,f, .inl rfl⟩
  ·exact (f.2 b (Nat.ne_of_lt (Nat.lt_of_lt_of_le (Heap.lt_size e) I.ok.above))).trans (I.base.keep b o e n J hx)
  ·obtain ⟨sl,l⟩:=I.base.slot b o e n J hx;exact ⟨sl,(f.2 b (Nat.ne_of_lt (Nat.lt_of_lt_of_le (Heap.lt_size e) I.ok.above))).trans l⟩
  ·obtain ⟨Y,l⟩:=I.base.there b o e hx;exact ⟨Y,(f.2 b (Nat.ne_of_lt (Nat.lt_of_lt_of_le (Heap.lt_size e) I.ok.above))).trans l⟩
  ·by_cases F:j=i
   ·subst F;rw [hi] at l;cases l;rw [List.getElem?_set_self hiσ] at C;cases C;exact ⟨u,r, .inl ⟨hk,by simp⟩⟩
   ·rw [List.getElem?_set_ne (Ne.symm F)] at C;obtain ⟨u',r',q⟩:=hl j y v' l C e3;refine ⟨u',r',?_⟩;rcases q with ⟨k,e⟩ | ⟨k,c,e,z⟩
    ·refine .inl ⟨k,?_⟩;have : y≠x:=fun e=>F (Je3 hN l (e ▸ hi));simp [this,e]
    ·exact .inr ⟨k,c,e,z.sameBut f (G y c e)⟩
  ·obtain ⟨U,z⟩:=I.cell y c e;exact ⟨U,z.sameBut f (G y c e)⟩
  ·obtain ⟨e,n,W,nf,d⟩:=I.pin p hp;exact ⟨(f.2 p.1 W).trans e,n,W,nf,d⟩
 ·have D:X.fn x=true:=by
   rcases hf with z | z
   ·exact z
   ·rw [z] at hk;cases hk
  obtain ⟨c,t⟩:=I.ok.has x (.inl hk);obtain ⟨U,z⟩:=I.cell x c t;refine wpAny_storeName_cell I.ok.kind hk t z (fun K P f=>?_);obtain ⟨oc,L,S⟩:=id z;refine h { s with heap:=K } ⟨I.ok,I.os,I.bare,⟨fun b o e n J hx=>?_,fun b o e n J hx=>?_,I.base.free,fun b o e hx=>?_,I.base.tups,I.base.frzs,I.base.tbls⟩,⟨m,hn.sameBut f (Ne.symm (G x c t)),fun j y v' l C e3=>?_⟩,fun y T e=>?_,I.free,I.freeC,fun p hp=>?_,g ⟨oc,L,I.freeC x c t⟩ f,by simpa using I.len⟩ ⟨c,f, .inr t⟩
  ·exact (f.2 b (Nat.ne_of_lt (Nat.lt_of_lt_of_le (Heap.lt_size e) (I.ok.cab x c D t)))).trans (I.base.keep b o e n J hx)
  ·obtain ⟨sl,l⟩:=I.base.slot b o e n J hx;exact ⟨sl,(f.2 b (Nat.ne_of_lt (Nat.lt_of_lt_of_le (Heap.lt_size e) (I.ok.cab x c D t)))).trans l⟩
  ·obtain ⟨Y,l⟩:=I.base.there b o e hx;exact ⟨Y,(f.2 b (Nat.ne_of_lt (Nat.lt_of_lt_of_le (Heap.lt_size e) (I.ok.cab x c D t)))).trans l⟩
  ·by_cases F:j=i
   ·subst F;rw [hi] at l;cases l;rw [List.getElem?_set_self hiσ] at C;cases C;exact ⟨u,r, .inr ⟨.inl hk,c,t,P⟩⟩
   ·rw [List.getElem?_set_ne (Ne.symm F)] at C;obtain ⟨u',r',q⟩:=hl j y v' l C e3;refine ⟨u',r',?_⟩;rcases q with q | ⟨k,T,e,z'⟩
    ·exact .inl q
    ·refine .inr ⟨k,T,e,z'.sameBut f ?_⟩;rintro rfl;exact F (Je3 hN l (I.ok.inj _ _ _ e t ▸ hi))
  ·by_cases O:T=c
   ·subst O;exact ⟨_,P⟩
   ·obtain ⟨w2,z2⟩:=I.cell y T e;exact ⟨w2,z2.sameBut f O⟩
  ·obtain ⟨e,n,W,nf,d⟩:=I.pin p hp;refine ⟨(f.2 p.1 ?_).trans e,n,W,nf,d⟩;intro q;rw [q,L] at e;have q':oc=p.2:=Option.some.inj e;exact d U (by rw [<- q'];exact S)
theorem Jfr {i:Nat} (I:Inv X pins σ H s) (hN:X.N.Nodup) (hi:X.N[i]?=some x) (hx:Loc X.env.scope x) (r:RelV v u)
  (h:∀ s',Inv X pins (σ.set i (some v)) H s'->Q () s') (hf:X.fn x=true\/X.env.scope.names.lookup x=some .local:=by first | exact .inl rfl | exact .inr rfl | assumption):wpAny M A (storeName X.env x u) Q E s :=
 Jen I hN hi hx r (fun s' I' _=>h s' I') hf
variable {s':Shared}
theorem Inv.call' (I:Inv X pins σ H s) (ho:s'.os=s.os) (u:Un (frs X.stack) ch H H' s.heap s'.heap) (hok:HOk X.prog X.w H' s'.heap) (hg:AllBare s'.gens)
  (hch:∀ b∈ch,(b∈X.ex\/X.s₀.heap.objs.size<=b)/\b≠X.env.locals/\(∀ x c,X.env.cells.lookup x=some c->c≠b)/\∀ p∈X.pn++pins,p.1≠b):Inv X pins σ H' s':=by
 obtain ⟨d,g',d',t',a⟩:=s';have e:a=s.os:=ho;subst e;exact I.call (g':=g') (t':=t') (d':=d') u hok hg hch
end
abbrev XK:=Value->Option Addr->Hp->Prop
abbrev St:=List (Option V)
abbrev VK:=V->Hp->Prop
abbrev TE:=St->Hp->VK->Prop
abbrev TT:=St->Hp->(Bool->Hp->Prop)->Prop
abbrev TA:=St->Hp->(List V->Hp->Prop)->Prop
structure Ends where
 nx:St->Hp->Prop
 rt:VK
 bk:St->Hp->Prop:=fun _ _=>False
 ct:St->Hp->Prop:=fun _ _=>False
abbrev TS:=Ends->St->Hp->Prop
def EP (X:Cx) (pins:List (Addr × Obj)) (σ : St) (Q:VK) (u:Value) (s':Shared):Prop:=∃ v H',Inv X pins σ H' s'/\RelV v u/\Q v H'
def TP (X:Cx) (pins:List (Addr × Obj)) (σ : St) (Q:Bool->Hp->Prop) (b:Bool) (s':Shared):Prop:=∃ H',Inv X pins σ H' s'/\Q b H'
def AP (X:Cx) (pins:List (Addr × Obj)) (σ : St) (Q:List V->Hp->Prop) (us:List Value) (s':Shared):Prop:=∃ vs H',Inv X pins σ H' s'/\Vals vs us/\Q vs H'
def SP (X:Cx) (pins:List (Addr × Obj)) (D:Ends) (f:Flow) (s':Shared):Prop :=
 match f with
 | .next=>∃ σ' H',Inv X pins σ' H' s'/\D.nx σ' H'
 | .brk=>∃ σ' H',Inv X pins σ' H' s'/\D.bk σ' H'
 | .cont=>∃ σ' H',Inv X pins σ' H' s'/\D.ct σ' H'
 | .ret u=>∃ v σ' H',Inv X pins σ' H' s'/\RelV v u/\D.rt v H'
def PE (X:Cx) (e:Expr) (t:TE):Prop :=
 ∀ (pins:List (Addr × Obj)) (s:Shared) (σ : St) (H:Hp) (Q:VK),Inv X pins σ H s->t σ H Q->wpAny (model X.prog X.w) X.A (eval e X.env) (EP X pins σ Q) X.xe s
def PT (X:Cx) (e:Expr) (t:TT):Prop :=
 ∀ (pins:List (Addr × Obj)) (s:Shared) (σ : St) (H:Hp) (Q:Bool->Hp->Prop),Inv X pins σ H s->t σ H Q->wpAny (model X.prog X.w) X.A (isTrue e X.env (eval e X.env)) (TP X pins σ Q) X.xe s
def PW (X:Cx) (e:Expr) (t:TT):Prop :=
 ∀ (whole:Sem Value) (pins:List (Addr × Obj)) (s:Shared) (σ : St) (H:Hp) (Q:Bool->Hp->Prop),Inv X pins σ H s->t σ H Q->wpAny (model X.prog X.w) X.A (isTrue e X.env whole) (TP X pins σ Q) X.xe s
variable {X:Cx} {e:Expr}
theorem PW.pt {t:TT} (h:PW X e t):PT X e t:=h _
def PA (X:Cx) (es:List Expr) (t:TA):Prop :=
 ∀ (pos:Pos) (pins:List (Addr × Obj)) (s:Shared) (σ : St) (H:Hp) (Q:List V->Hp->Prop),Inv X pins σ H s->t σ H Q->wpAny (model X.prog X.w) X.A (spliced (backTo pos (starEach es X.env))) (AP X pins σ Q) X.xe s
def PS (X:Cx) (st:Stmt) (t:TS):Prop :=
 ∀ (pins:List (Addr × Obj)) (s:Shared) (σ : St) (H:Hp) (D:Ends),Inv X pins σ H s->t D σ H->wpAny (model X.prog X.w) X.A (exec st X.env) (SP X pins D) X.xe s
def PSs (X:Cx) (st:List Stmt) (t:TS):Prop :=
 ∀ (pins:List (Addr × Obj)) (s:Shared) (σ : St) (H:Hp) (D:Ends),Inv X pins σ H s->t D σ H->wpAny (model X.prog X.w) X.A (execs st X.env) (SP X pins D) X.xe s
variable {M:Model}
theorem thn {α:Type} {t:Sem α} {Q Q' : α->Shared->Prop} {s:Shared} (h:wpAny M A t Q E s) (hQ:∀ a s,Q a s->Q' a s):wpAny M A t Q' E s:=wpAny_mono h hQ fun _ _ x=>x
section
def tVar (i:Nat):TE:=fun σ H Q=>∃ v,σ[i]?=some (some v)/\Q v H
def tC (v:V):TE:=fun _ H Q=>Q v H
variable {x:Str} {pos:Pos}
theorem Jl2 {i:Nat} (hN:X.N[i]?=some x) (hv:Vis X.env.scope x) (hd:(x == ("__debug__" : Str))=false:=by decide) (hcd:(x == ("__classdict__" : Str))=false:=by decide):PE X (.Name x pos) (tVar i):=by
 intro b s σ H Q I h;obtain ⟨v,e,h⟩:=h;obtain ⟨m,f,d⟩:=I.loc;obtain ⟨u,r,l⟩:=d i x v hN e hv;have a:EP X b σ Q u s:=⟨v,H,I,r,h⟩;rcases l with ⟨hk,hm⟩ | ⟨hk,c,hc,hcell⟩
 ·exact wpAny_Name (wpAny_loadName_local I.ok.kind hk f hm a) hd
 ·rcases hk with hk | hk
  ·exact wpAny_Name (wpAny_loadName_cell I.ok.kind hk hc hcell a) hd
  ·exact wpAny_Name (wpAny_loadName_free I.ok.kind hk hc hcell a hcd) hd
theorem Jad {i j pos}:PE X (.Constant (.int i) j pos) (tC (.int i)):=fun _ _ _ H _ I h=>wpAny_Constant_int ⟨.int i,H,I.tok _,⟨_,rfl⟩,h⟩
theorem pe_bl {b j pos}:PE X (.Constant (.bool b) j pos) (tC (.bl b)):=fun _ _ _ H _ I h=>Constant_bool ⟨.bl b,H,I,rfl,h⟩
theorem JcS {j pos}:PE X (.Constant .none j pos) (tC .non):=fun _ _ _ H _ I h=>Constant_none ⟨.non,H,I,rfl,h⟩
theorem JbU {x j pos}:PE X (.Constant (.str x) j pos) (tC (.str x)):=fun _ _ _ H _ I h=>Calls.Constant_str ⟨.str x,H,I.tok _,⟨_,rfl⟩,h⟩
def Gl (X:Cx) (x:Str):Prop:=X.env.kindOf x=some .globalImplicit
variable {pins:List (Addr × Obj)} {σ:St} {u:Value} {Q:Value->Shared->Prop}
theorem Jcl {s:Shared} (I:Inv X pins σ H s) (hg:Gl X x) (hm:X.mg x=some u) (h:Q u s)
  (hd:(x == ("__debug__" : Str))=false:=by decide):wpAny (model X.prog X.w) X.A (eval (.Name x pos) X.env) Q E s :=
 Calls.Name_function_global I.ok.kind hg (Calls.loadGlobal_global (by rw [I.ok.glob];exact I.mod.glob.keeps I.bk) hm h) hd
theorem JdX {s:Shared} (I:Inv X pins σ H s) (hg:Gl X x) (hm:X.mg x=none) (hv:bootBuiltins x=some u) (h:Q u s)
  (hn:x≠"__name__":=by decide) (hd:(x == ("__debug__" : Str))=false:=by decide):wpAny (model X.prog X.w) X.A (eval (.Name x pos) X.env) Q E s:=by
 obtain ⟨c,a,b⟩:=I.mod.blt;exact Calls.Name_function_global I.ok.kind hg (Calls.loadGlobal_builtin (by rw [I.ok.glob];exact I.mod.glob.keeps I.bk) hm (by rw [I.ok.blt];exact a.keeps I.bk) ((b x hn).trans hv) h) hd
variable {v:V}
theorem JaW (hg:Gl X x) (hm:X.mg x=some u) (r:RelV v u) (hd:(x == ("__debug__" : Str))=false:=by decide):PE X (.Name x pos) (tC v) :=
 fun _ _ _ H _ I h=>Jcl I hg hm ⟨v,H,I,r,h⟩ hd
theorem JcV (hg:Gl X x) (hm:X.mg x=none) (hv:bootBuiltins x=some u) (r:RelV v u) (hn:x≠"__name__":=by decide) (hd:(x == ("__debug__" : Str))=false:=by decide):PE X (.Name x pos) (tC v) :=
 fun _ _ _ H _ I h=>JdX I hg hm hv ⟨v,H,I,r,h⟩ hn hd
variable {a b:Expr} {ta tb:TE}
def PC (X:Cx) (op:CmpOp) (a b:Expr) (t:TE):Prop :=
 ∀ (pins:List (Addr × Obj)) (s:Shared) (σ : St) (H:Hp) (Q:VK),Inv X pins σ H s->t σ H Q ->
  wpAny (model X.prog X.w) X.A (eval a X.env) (fun v s₁=>wpAny (model X.prog X.w) X.A (eval b X.env) (fun u s₂=>wpAny (model X.prog X.w) X.A (compareOp op v u) (EP X pins σ Q) X.xe s₂) X.xe s₁) X.xe s
def tB (t:TE):TT:=fun σ H Q=>t σ H fun x H1=>∃ c,x=.bl c/\Q c H1
variable {op:CmpOp}
theorem Jl1 {t:TE} (h:PC X op a b t) (h1:behindInMarks op b=false:=by first | exact nobehind _ ⋯ ⋯ | rfl):PE X (.Compare a [op] [b] pos) t:=fun c s σ H Q I d=>wpAny_Compare1 (h c s σ H Q I d) h1
theorem Jee {t:TE} (h:PC X op a b t) (h1:behindInMarks op b=false:=by first | exact nobehind _ ⋯ ⋯ | rfl):PT X (.Compare a [op] [b] pos) (tB t):=by
 intro e s σ H Q I k;refine wpAny_isTrue_Compare1 (thn (h e s σ H _ I k) fun v n h1=>thn h1 fun u m g=>thn g fun c l ζ=>?_) h1;obtain ⟨x,f,I1,j,i⟩:=ζ;obtain ⟨d,rfl,q⟩:=i;cases j;exact wpAny_truthy_bool ⟨f,I1,q⟩
theorem Ja7 {t:TE} (h:PE X e t) (he:∀ whole,isTrue e X.env whole=(do let v <- whole;standAt e.pos;holding [v] (truthy v)):=by intro _;rfl):PT X e (tB t):=by
 intro a s σ H Q I f;refine isTrue_plain (thn (h a s σ H _ I f) fun v i ζ=>?_) (he _);obtain ⟨x,b,I1,g,c⟩:=ζ;obtain ⟨d,rfl,q⟩:=c;cases g;exact wpAny_truthy_bool ⟨b,I1,q⟩
variable {tA tB':TT} {rest:List Expr}
def tAnd (t u:TT):TT:=fun σ H Q=>t σ H fun c H1=>if c=true then u σ H1 Q else Q false H1
def tOr (t u:TT):TT:=fun σ H Q=>t σ H fun c H1=>if c=true then Q true H1 else u σ H1 Q
def tNot (t:TT):TT:=fun σ H Q=>t σ H fun c H1=>Q (!c) H1
theorem Jb3 (ha:PT X a tA):PW X (.BoolOp .Or [a] pos) tA:=by
 intro d b s σ H Q I h;refine isTrue_or (thn (ha b s σ H Q I h) fun c f e=>?_);cases c with
 | false=>exact isTrue_or_nil e
 | true=>exact e
theorem pw_or (ha:PT X a tA) (hb:PW X (.BoolOp .Or (b::rest) pos) tB'):PW X (.BoolOp .Or (a::b::rest) pos) (tOr tA tB'):=by
 intro g d s σ H Q I h;refine isTrue_or (thn (ha d s σ H _ I h) fun c i ζ=>?_);obtain ⟨e,I1,f⟩:=ζ;cases c with
 | true=>exact ⟨e,I1,f⟩
 | false=>exact hb g d i σ e Q I1 f
theorem Jbt (ha:PT X a tA):PT X (.UnaryOp .Not a pos) (tNot tA):=by
 intro b s σ H Q I h;exact isTrue_not (ha b s σ H (fun c d=>Q (!c) d) I h)
def tAndV (ta tb:TE):TE:=fun σ H Q=>ta σ H fun x H1=>∃ c,x=.bl c/\if c=true then tb σ H1 Q else Q (.bl false) H1
def tOrV (ta tb:TE):TE:=fun σ H Q=>ta σ H fun x H1=>∃ c,x=.bl c/\if c=true then Q (.bl true) H1 else tb σ H1 Q
def tNotV (ta:TE):TE:=fun σ H Q=>ta σ H fun x H1=>∃ c,x=.bl c/\Q (.bl (!c)) H1
theorem Jdd {op} {t:TE} (h:PE X a t):PE X (.BoolOp op [a] pos) t:=fun b s σ H Q I c=>BoolOp_one (h b s σ H Q I c)
theorem JcG (ha:PE X a ta) (hb:PE X (.BoolOp .And (b::rest) pos) tb):PE X (.BoolOp .And (a::b::rest) pos) (tAndV ta tb):=by
 intro d s σ H Q I h;refine BoolOp_and (thn (ha d s σ H _ I h) fun v i ζ=>?_);obtain ⟨x,f,I1,g,e⟩:=ζ;obtain ⟨c,rfl,e⟩:=e;cases g;refine wpAny_truthy_bool ?_;cases c with
 | true=>exact hb d i σ f Q I1 e
 | false=>exact ⟨.bl false,f,I1,rfl,e⟩
theorem pe_or (ha:PE X a ta) (hb:PE X (.BoolOp .Or (b::rest) pos) tb):PE X (.BoolOp .Or (a::b::rest) pos) (tOrV ta tb):=by
 intro d s σ H Q I h;refine BoolOp_or (thn (ha d s σ H _ I h) fun v i ζ=>?_);obtain ⟨x,f,I1,g,e⟩:=ζ;obtain ⟨c,rfl,e⟩:=e;cases g;refine wpAny_truthy_bool ?_;cases c with
 | false=>exact hb d i σ f Q I1 e
 | true=>exact ⟨.bl true,f,I1,rfl,e⟩
theorem JgY (ha:PE X a ta):PE X (.UnaryOp .Not a pos) (tNotV ta):=by
 intro b s σ H Q I h;refine UnaryOp_ (thn (ha b s σ H _ I h) fun v g ζ=>?_);obtain ⟨x,e,I1,f,d⟩:=ζ;obtain ⟨c,rfl,d⟩:=d;cases f;exact not_of (wpAny_truthy_bool ⟨.bl (!c),e,I1,rfl,d⟩)
def tIf (t:TT) (ta tb:TE):TE:=fun σ H Q=>t σ H fun c H1=>if c=true then ta σ H1 Q else tb σ H1 Q
variable {c:Expr}
theorem JgX (hc:PT X c tA) (ha:PE X a ta) (hb:PE X b tb):PE X (.IfExp c a b pos) (tIf tA ta tb):=by
 intro e s σ H Q I h;refine wpAny_IfExp (thn (hc e s σ H _ I h) fun d i ζ=>?_);obtain ⟨f,I1,g⟩:=ζ;cases d with
 | true=>exact ha e i σ f Q I1 g
 | false=>exact hb e i σ f Q I1 g
end
def SqL (K:W.Frag) (H:Hp) (a:Addr) (xs:List V):Prop :=
 Rd H a (.lst xs) \/
  ∃ (o:Obj) (its:Array Value) (n:Nat),K.lookup a=some o/\o.cls=.type "list"/\o.dict=none/\o.data=.seq its n/\its.size<=sizeLine/\Vals xs its.toList
def SqT (K:W.Frag) (H:Hp) (a:Addr) (xs:List V):Prop :=
 Rd H a (.tup xs) \/
  ∃ (o:Obj) (its:Array Value) (n:Nat),K.lookup a=some o/\o.cls=.type "tuple"/\o.data=.seq its n/\its.size<=sizeLine/\Vals xs its.toList
def absV:Value->Option V
 | .none=>some .non
 | .bool b=>some (.bl b)
 | .int i _=>some (.int i)
 | .str x _=>some (.str x)
 | .bytes b _=>some (.byt b)
 | .float b _=>some (.flt b)
 | .ref a=>some (.ref a)
 | .type n=>some (.ty n)
 | _=>none
variable {x:V} {u:Value}
theorem RelV.abs (r:RelV x u):absV u=some x:=by
 cases x with
 | non=>cases r;rfl
 | bl _=>cases r;rfl
 | int _=>obtain ⟨t,rfl⟩:=r;rfl
 | str _=>obtain ⟨t,rfl⟩:=r;rfl
 | byt _=>obtain ⟨t,rfl⟩:=r;rfl
 | flt _=>obtain ⟨t,rfl⟩:=r;rfl
 | ref _=>cases r;rfl
 | ty _=>cases r;rfl
variable {y:V}
theorem RelV.inj (r:RelV x u) (q:RelV y u):x=y:=Option.some.inj (r.abs.symm.trans q.abs)
theorem Vals.inj:∀ {xs ys:List V} {us:List Value},Vals xs us->Vals ys us->xs=ys
 | _,_,_, .nil, .nil=>rfl
 | _,_,_, .cons r t, .cons r' t'=>by rw [r.inj r',Vals.inj t t']
section
variable {pins:List (Addr × Obj)} {σ:St} {ys:List V} {s:Shared}
theorem SqL.of {K:W.Frag} (h:H a=some (.lst xs)):SqL K H a xs:=.inl (.inl h)
theorem SqT.of {K:W.Frag} (h:H a=some (.tup xs)):SqT K H a xs:=.inl (.inl h)
theorem Inv.list (I:Inv X pins σ H s) (h:SqL X.K H a xs):∃ its:List Value,Vals xs its/\PlainL s.heap a its.toArray/\xs.length<=sizeLine:=by
 rcases h with h | ⟨o,its,n,hk,hc,hd,hs,hz,r⟩
 ·obtain ⟨z,its,n,r,e⟩:=h.ok I.hok;exact ⟨its,r,⟨_,n,e,rfl,rfl,rfl⟩,z⟩
 ·refine ⟨its.toList,r,⟨o,n,I.kIn a o hk,hc,hd,by simpa using hs⟩,?_⟩;have e:=r.length;simp only [Array.length_toList] at e;ac_nf
theorem Inv.tuple (I:Inv X pins σ H s) (h:SqT X.K H a xs):∃ its:List Value,Vals xs its/\IsTup s.heap a its.toArray/\xs.length<=sizeLine:=by
 rcases h with h | ⟨o,its,n,hk,hc,hs,hz,r⟩
 ·obtain ⟨z,its,r,p⟩:=h.ok I.hok;exact ⟨its,r,p,z⟩
 ·refine ⟨its.toList,r,⟨o,I.kIn a o hk,hc,n,by simpa using hs⟩,?_⟩;have e:=r.length;simp only [Array.length_toList] at e;ac_nf
theorem Inv.list_inj (I:Inv X pins σ H s) (h:SqL X.K H a xs) (h':SqL X.K H a ys):xs=ys:=by
 obtain ⟨c,r,⟨o,n,e,_,_,d⟩,_⟩:=I.list h;obtain ⟨b,i,⟨j,k,f,_,_,g⟩,_⟩:=I.list h';rw [e] at f;cases f;rw [d] at g;injection g with d1 _
 have : c=b:=by simpa using congrArg Array.toList d1
 subst this;exact r.inj i
theorem Inv.tuple_inj (I:Inv X pins σ H s) (h:SqT X.K H a xs) (h':SqT X.K H a ys):xs=ys:=by
 obtain ⟨c,r,⟨o,e,_,n,d⟩,_⟩:=I.tuple h;obtain ⟨b,i,⟨j,f,_,k,g⟩,_⟩:=I.tuple h';rw [e] at f;cases f;rw [d] at g;injection g with d1 _
 have : c=b:=by simpa using congrArg Array.toList d1
 subst this;exact r.inj i
end
abbrev Cx.wish (X:Cx) (E:Value->Shared->Prop):Cx:={ X with xe:=E }
abbrev Cx.nox (X:Cx):Cx:=X.wish fun _ _=>False
theorem Cx.Ok.wish (ok:X.Ok) (E:Value->Shared->Prop):(X.wish E).Ok :=
 ⟨ok.mod,ok.kind,ok.glob,ok.blt,ok.above,ok.inj,ok.has,ok.cab,ok.hd,ok.frames,ok.stk,ok.exf,ok.bs,ok.bsz,ok.noex,ok.exfs,ok.funs,ok.frf⟩
theorem Cx.Ok.unwish (ok:(X.wish E).Ok):X.Ok :=
 ⟨ok.mod,ok.kind,ok.glob,ok.blt,ok.above,ok.inj,ok.has,ok.cab,ok.hd,ok.frames,ok.stk,ok.exf,ok.bs,ok.bsz,ok.noex,ok.exfs,ok.funs,ok.frf⟩
section
variable {pins:List (Addr × Obj)} {σ:St} {s:Shared}
theorem Inv.wish (I:Inv X pins σ H s) (E:Value->Shared->Prop):Inv (X.wish E) pins σ H s:=⟨I.ok.wish E,I.os,I.bare,I.base,I.loc,I.cell,I.free,I.freeC,I.pin,I.hok,I.len⟩
theorem Inv.unwish (I:Inv (X.wish E) pins σ H s):Inv X pins σ H s:=⟨I.ok.unwish,I.os,I.bare,I.base,I.loc,I.cell,I.free,I.freeC,I.pin,I.hok,I.len⟩
variable {s':Shared}
theorem SP.unwish {D:Ends} {f:Flow} (h:SP (X.wish E) pins D f s'):SP X pins D f s':=by
 cases f with
 | next=>obtain ⟨σ',a,I,q⟩:=h;exact ⟨σ',a,I.unwish,q⟩
 | brk=>obtain ⟨σ',a,I,q⟩:=h;exact ⟨σ',a,I.unwish,q⟩
 | cont=>obtain ⟨σ',a,I,q⟩:=h;exact ⟨σ',a,I.unwish,q⟩
 | ret u=>obtain ⟨v,σ',a,I,r,q⟩:=h;exact ⟨v,σ',a,I.unwish,r,q⟩
theorem PSs.nox {st:List Stmt} {t:TS} (h:PSs X.nox st t):PSs X st t:=fun a s σ H D I b=>
 wpAny_mono (h a s σ H D (I.wish _) b) (fun _ _ q=>q.unwish) fun _ _ z=>False.elim z
end
section
variable {st:Stmt} {u:TS} {te:TE} {pos:Pos} {rest:List Stmt} {t:TS}
def tNext:TS:=fun D σ H=>D.nx σ H
def tSeq (t u:TS):TS:=fun D σ H=>t { D with nx:=u D } σ H
theorem Jaw:PSs X [] tNext:=fun _ _ σ H _ I h=>wpAny_execs_nil ⟨σ,H,I,h⟩
theorem Jab (h1:PS X st t) (h2:PSs X rest u):PSs X (st::rest) (tSeq t u):=by
 intro a s σ H D I h;refine wpAny_execs_cons (thn (h1 a s σ H { D with nx:=u D } I h) fun f c q=>?_);cases f with
 | next=>
  obtain ⟨σ',b,I',q⟩:=q;exact h2 a c σ' b D I' q
 | ret v=>exact q
 | brk=>exact q
 | cont=>exact q
theorem Jai (h1:PS X st t):PSs X [st] t:=by
 intro a s σ H D I h;refine wpAny_execs_cons (thn (h1 a s σ H D I h) fun f b q=>?_);cases f with
 | next=>exact wpAny_execs_nil q
 | ret v=>exact q
 | brk=>exact q
 | cont=>exact q
variable {pins:List (Addr × Obj)} {σ:St}
theorem Inv.quiet {s:Shared} (I:Inv X pins σ H s):interactive X.env=false:=by simp [interactive,I.ok.kind]
def tDrop (te:TE):TS:=fun D σ H=>te σ H fun _ H1=>D.nx σ H1
theorem Jbb (he:PE X e te) (hs:swapsWith e none pos.line X.env=pure false:=by rfl):PS X (.Expr e pos) (tDrop te):=by
 intro a s σ H D I h;exact wpAny_Expr_any (thn (he a s σ H _ I h) fun v f ζ=>by obtain ⟨x,b,I1,d,c⟩:=ζ;exact ⟨σ,b,I1,c⟩) I.quiet hs
def tRet (te:TE):TS:=fun D σ H=>te σ H D.rt
theorem Jaq (he:PE X e te):PS X (.Return (some e) pos) (tRet te):=by
 intro a s σ H D I h;exact wpAny_Return_some (thn (he a s σ H _ I h) fun v f ζ=>by obtain ⟨x,b,I1,d,c⟩:=ζ;exact ⟨x,σ,b,I1,d,c⟩)
def tRetN:TS:=fun D _ H=>D.rt .non H
def tIfS (c:TT) (t u:TS):TS:=fun D σ H=>c σ H fun b H1=>if b=true then t D σ H1 else u D σ H1
variable {c:Expr} {tc:TT}
theorem ps_if {a b:List Stmt} (hc:PT X c tc) (ha:PSs X a t) (hb:PSs X b u):PS X (.If c a b pos) (tIfS tc t u):=by
 intro e s σ H D I h;refine wpAny_If (thn (hc e s σ H _ I h) fun d i ζ=>?_);obtain ⟨f,I1,g⟩:=ζ;cases d with
 | true=>exact ha e i σ f D I1 g
 | false=>exact hb e i σ f D I1 g
end
abbrev TG:=V->St->Hp->(St->Hp->Prop)->Prop
abbrev TGs:=List V->St->Hp->(St->Hp->Prop)->Prop
def PG (X:Cx) (target:Expr) (t:TG):Prop :=
 ∀ (pins:List (Addr × Obj)) (s:Shared) (σ : St) (H:Hp) (v:V) (u:Value) (Q:St->Hp->Prop),Inv X pins σ H s->RelV v u->t v σ H Q ->
  wpAny (model X.prog X.w) X.A (assign target X.env u) (fun _ s'=>∃ σ' H',Inv X pins σ' H' s'/\Q σ' H') X.xe s
def PGs (X:Cx) (ts:List Expr) (t:TGs):Prop :=
 ∀ (pins:List (Addr × Obj)) (s:Shared) (σ : St) (H:Hp) (vs:List V) (us:List Value) (Q:St->Hp->Prop),Inv X pins σ H s->Vals vs us->t vs σ H Q ->
  wpAny (model X.prog X.w) X.A (assignInOrder ((assignEach ts X.env).map (·.2)) us) (fun _ s'=>∃ σ' H',Inv X pins σ' H' s'/\Q σ' H') X.xe s
variable {pos:Pos}
def gName (i:Nat):TG:=fun v σ H Q=>Q (σ.set i (some v)) H
variable {x:Str}
theorem Jar (i:Nat) (hN:X.N.Nodup) (hi:X.N[i]?=some x:=by exact rfl) (hx:Loc X.env.scope x:=by exact Or.inl rfl) (hf:X.fn x=true\/X.env.scope.names.lookup x=some .local:=by first | exact .inl rfl | exact .inr rfl | assumption):PG X (.Name x pos) (gName i):=by
 intro a s σ H v u Q I r h;exact wpAny_assign_Name (Jfr I hN hi hx r (fun b I'=>⟨_,H,I',h⟩) hf)
def gNil:TGs:=fun vs σ H Q=>vs=[]/\Q σ H
def gCons (t:TG) (u:TGs):TGs:=fun vs σ H Q=>∃ v r,vs=v::r/\t v σ H fun σ' H'=>u r σ' H' Q
theorem Jdw:PGs X [] gNil:=by
 intro a s σ H c b Q I r h;obtain ⟨e,h⟩:=h;subst e;cases r;exact assignInOrder_nil ⟨σ,H,I,h⟩
variable {es:List Expr}
theorem Jbj {t:TG} {u:TGs} (h1:PG X e t) (h2:PGs X es u)
  (hs:(assignEach (e::es) X.env).map (·.2)=assign e X.env::(assignEach es X.env).map (·.2):=by rfl):PGs X (e::es) (gCons t u):=by
 intro a s σ H j g Q I r h;obtain ⟨v,i,c,h⟩:=h;subst c;cases r with
 | cons r rr=>
  rw [hs];refine assignInOrder_cons (thn (h1 a s σ H _ _ _ I r h) fun _ f ζ=>?_);obtain ⟨σ1,b,I1,d⟩:=ζ;exact h2 a f σ1 b _ _ Q I1 rr d
def gTup (K:W.Frag) (n:Nat) (t:TGs):TG:=fun v σ H Q=>∃ a xs,v=.ref a/\SqT K H a xs/\xs.length=n/\t xs σ H Q
theorem JeJ {k:Nat} {t:TGs} {n:Nat} (hc:X.calm=true) (h:PGs X es t)
  (hn:(assignEach es X.env).length=n:=by rfl) (hst:(assignEach es X.env).findIdx? (·.1)=none:=by rfl):PG X (.Tuple es k pos) (gTup X.K n t):=by
 intro c s σ H v u Q I r d;obtain ⟨a,q,p,w,m,d⟩:=d;subst p;cases r;obtain ⟨g,f,l,x⟩:=I.tuple w;refine assign_Tuple_tuple (I.ok.hd hc) l (by simp [hn, <- m,f.length]) hst fun j i=>?_;have I1:Inv X c σ H { s with heap:=j }:=I.kept (t':=s.toks) fun b o e=>i b o (Nat.ne_of_lt (Heap.lt_size e)) e;exact h c _ σ H q _ Q I1 (by simpa using f) d
def tAsg (te:TE) (g:TG):TS:=fun D σ H=>te σ H fun x H1=>g x σ H1 D.nx
variable {tg:Expr} {te:TE}
theorem Jj5 {g:TG} (he:PE X e te) (hg:PG X tg g) (hs:swapsWithSole [tg] e pos.line X.env=pure false:=by rfl) (hw:swappedStores [tg] e X.env=pure none:=by rfl)
  (h1:(assignEach [tg] X.env).map (·.2)=[assign tg X.env]:=by rfl):PS X (.Assign [tg] e pos) (tAsg te g):=by
 intro a s σ H D I h;refine wpAny_Assign_stores (thn (he a s σ H _ I h) fun v f ζ=>?_) hs hw;obtain ⟨x,b,I1,d,c⟩:=ζ;rw [h1];exact thn (hg a f σ b x v _ I1 d c) fun _ i q=>q
variable {pos':Pos}
theorem Jak (i:Nat) (hN:X.N.Nodup) (he:PE X e te) (hi:X.N[i]?=some x:=by exact rfl) (hx:Loc X.env.scope x:=by exact Or.inl rfl) (hs:swapsWith e (some (.Name x pos')) pos.line X.env=pure false:=by rfl) (hf:X.fn x=true\/X.env.scope.names.lookup x=some .local:=by first | exact .inl rfl | exact .inr rfl | assumption) :
  PS X (.Assign [.Name x pos'] e pos) (tAsg te (gName i)):=by
 intro a s σ H D I h;refine wpAny_Assign_Name (thn (he a s σ H _ I h) fun v g ζ=>?_) hs;obtain ⟨y,b,I1,d,c⟩:=ζ;exact Jfr I1 hN hi hx d (fun f I2=>⟨_,b,I2,c⟩) hf
def Jmc (c:TT) (tb:TS):TS:=fun D σ H=>∃ W:Nat->St->Hp->Prop,(∃ m,W m σ H)/\∀ m σ H,W m σ H ->
 c σ H fun b H1=>if b=true then ∃ N:St->Hp->Prop,(∀ σ' H',N σ' H'->∃ m',m'<m/\W m' σ' H')/\tb { D with nx:=N,ct:=N,bk:=D.nx } σ H1 else D.nx σ H1
variable {c:Expr} {body:List Stmt} {tb:TS}
theorem JdO {tc:TT} (hp:PassesOwn (model X.prog X.w) X.A X.env X.xe) (hc:PT X c tc) (hb:PSs X body tb):PS X (.While c body [] pos) (Jmc tc tb):=by
 intro a s σ H D I h;obtain ⟨W,⟨x,r⟩,e⟩:=h;refine wpAny_While (codeAny_whileLoop (fun n t=>∃ σ' H',Inv X a σ' H' t/\W n σ' H') ?_ x ⟨σ,H,I,r⟩);rintro n z ⟨σ1,p,I1,y⟩;refine wpAny_passesOwn hp (thn (hc a z σ1 p _ I1 (e n σ1 p y)) fun b u ζ=>?_);obtain ⟨q,I2,g⟩:=ζ;cases b with
 | true=>
  obtain ⟨N,o,g⟩:=g;rw [if_pos rfl];refine wpAny_passesOwn hp (thn (hb a u σ1 q _ I2 g) fun f B i=>?_);cases f with
  | next=>
   obtain ⟨σ3,d,I3,m⟩:=i;obtain ⟨j,l,k⟩:=o σ3 d m;exact ⟨j,l,σ3,d,I3,k⟩
  | cont=>
   obtain ⟨σ3,d,I3,m⟩:=i;obtain ⟨j,l,k⟩:=o σ3 d m;exact ⟨j,l,σ3,d,I3,k⟩
  | brk=>exact i
  | ret v=>exact i
 | false=>
  rw [if_neg Bool.false_ne_true];exact wpAny_execs_nil ⟨σ1,q,I2,g⟩
structure It where
 go:Nat->Hp->Prop
 yld:Nat->Hp->V->Hp->Prop
 stop:Nat->Hp->Prop
def FpOk (X:Cx) (pins:List (Addr × Obj)) (H:Hp) (b:Addr):Prop :=
 H b=none/\b≠X.env.locals/\b∉X.fs/\(b∈X.ex\/X.s₀.heap.objs.size<=b)/\(∀ x c,X.env.cells.lookup x=some c->c≠b)/\∀ p∈X.pn++pins,p.1≠b
variable {pins:List (Addr × Obj)} {σ:St} {H':Hp}
theorem Inv.fpOk {s:Shared} (I:Inv X pins σ H s) (hb:s.heap.objs.size<=b) (hn:H' b=none):FpOk X pins H' b:=by
 refine ⟨hn,Nat.ne_of_gt (Nat.lt_of_lt_of_le I.lt hb),I.nofs hb, .inr (Nat.le_trans I.sz hb),fun x c e z=>?_,fun p a z=>?_⟩
 ·obtain ⟨v,q⟩:=I.cell x c e;exact absurd (Nat.lt_of_lt_of_le q.lt (by rw [z];exact hb)) (Nat.lt_irrefl _)
 ·exact absurd (Nat.lt_of_lt_of_le (Heap.lt_size (I.pin p a).1) (by rw [z];exact hb)) (Nat.lt_irrefl _)
structure Turn (P:Program) (w:World) (K:W.Frag) (tg:Expr) (J:It) (fp:List Addr) (it:Addr) (tn:Nat->Heap->Prop):Prop where
 mem:it∈fp
 obj:∀ i h,tn i h->∀ b∈fp, ∃ o,h.get? b=some o/\∀ v,o.data≠.cell v
 keep:∀ i h h',tn i h->(∀ b∈fp, ∀ o,h.get? b=some o->h'.get? b=some o)->tn i h'
 item:∀ (X:Cx),X.prog=P->X.w=w->X.K=K->X.calm=true->∀ (i:Nat) (pins:List (Addr × Obj)) (s:Shared) (σ : St) (H:Hp) (E:Value->Shared->Prop),Inv X pins σ H s->(∀ b∈fp,FpOk X pins H b)->tn i s.heap->J.go i H ->
  wpAny (model P w) X.A (pyNext (.ref it)) (fun r s1=>∃ u,r=some u /\
   wpAny (model P w) X.A (letOwnedTupleGo tg (.ref it) u) (fun _ s2=>∃ x H',Inv X pins σ H' s2/\RelV x u/\J.yld i H x H'/\tn (i+1) s2.heap/\∀ b∈fp,H' b=none) E s1) E s
 done:∀ (X:Cx),X.prog=P->X.w=w->X.K=K->X.calm=true->∀ (i:Nat) (pins:List (Addr × Obj)) (s:Shared) (σ : St) (H:Hp) (E:Value->Shared->Prop),Inv X pins σ H s->(∀ b∈fp,FpOk X pins H b)->tn i s.heap->J.stop i H ->
  wpAny (model P w) X.A (pyNext (.ref it)) (fun r s1=>r=none/\Inv X pins σ H s1) E s
 self:∀ (A:Around) (i:Nat) (s:Shared) (Q:Value->Shared->Prop) (E:Value->Shared->Prop),tn i s.heap->Q (.ref it) s->wpAny (model P w) A (pyIter (.ref it)) Q E s
abbrev TI:=St->Hp->(It->Hp->Prop)->Prop
def PIE (X:Cx) (pins:List (Addr × Obj)) (σ : St) (tg:Expr) (R:It->Hp->Prop) (itv:Value) (s2:Shared):Prop :=
 ∃ (it:Addr) (fp:List Addr) (tn:Nat->Heap->Prop) (J:It) (H':Hp),itv=.ref it/\Inv X pins σ H' s2/\Turn X.prog X.w X.K tg J fp it tn/\tn 0 s2.heap/\(∀ b∈fp,FpOk X pins H' b)/\R J H'
def PI (X:Cx) (tg iter:Expr) (wi:TI):Prop :=
 ∀ (pins:List (Addr × Obj)) (s:Shared) (σ : St) (H:Hp) (R:It->Hp->Prop),Inv X pins σ H s->wi σ H R ->
  wpAny (model X.prog X.w) X.A (eval iter X.env) (fun v s1=>wpAny (model X.prog X.w) X.A (pyIter v) (PIE X pins σ tg R) X.xe s1) X.xe s
theorem go_of {s:Shared} {it:Addr} {n:String} {vs:Array Value} {Q:Unit->Shared->Prop} (ho:s.heap.get? it=some o) (hc:o.cls=.type n) (hd:o.data=.fields vs)
    (hn:["enumerate","zip","dict_itemiterator","dict_reverseitemiterator","odict_iterator","itertools.zip_longest","itertools.pairwise"].contains n=false) (hQ:Q () s):wpAny M A (letOwnedTupleGo tg (.ref it) u) Q E s:=by
  unfold letOwnedTupleGo;cases tg <;> first
    | exact wpAny_pure hQ
    | (cases u <;> first
        | exact wpAny_pure hQ
        | (refine wpAny_bind (wpAny_load ho ?_)
           rw [hc,hd];show wpAny M A (if (["enumerate","zip","dict_itemiterator","dict_reverseitemiterator","odict_iterator","itertools.zip_longest","itertools.pairwise"].contains n&&vs[0]? == some (rawInt _))=true then _ else _) Q E s;rw [if_neg (by intro h;rw [hn,Bool.false_and] at h;cases h)];exact wpAny_pure hQ))
def Itl (K:W.Frag) (a:Addr):It :=
 ⟨fun i H=>∃ xs x,SqL K H a xs/\xs[i]?=some x,fun i H x H'=>H'=H/\∀ xs,SqL K H a xs->xs[i]?=some x,fun i H=>∃ xs,SqL K H a xs/\xs.length<=i⟩
def Itt (K:W.Frag) (a:Addr):It :=
 ⟨fun i H=>∃ xs x,SqT K H a xs/\xs[i]?=some x,fun i H x H'=>H'=H/\∀ xs,SqT K H a xs->xs[i]?=some x,fun i H=>∃ xs,SqT K H a xs/\xs.length<=i⟩
def Itr (lo:Int) (n:Nat):It:=⟨fun i _=>i<n,fun i H x H'=>H'=H/\x=.int (lo+i),fun i _=>n<=i⟩
theorem JiT {w:World} {K:W.Frag} (a it:Addr):Turn P w K tg (Itl K a) [it] it (fun i h=>h.IsListIter it a i) where
 mem:=by simp
 obj:=fun i h f b j=>by
  have e:b=it:=by simpa using j
  subst e;obtain ⟨o,e,c,d⟩:=f;exact ⟨o,e,fun v z=>by rw [d] at z;cases z⟩
 keep:=fun i h m f k=>f.at fun o e=>k it (by simp) o e
 item:=by
  intro X r L B N i g s σ H E I n f C;subst r L B;obtain ⟨Y,x,q,A⟩:=C;obtain ⟨y,t,p,S⟩:=I.list q;obtain ⟨u,O,Q⟩:=t.get A;obtain ⟨J,M,U,G,D,F⟩:=n it (by simp);refine wpAny_pyNext_list_item f p.isList (x:=u) (by simpa using O) fun m l R=>?_;have I1:Inv X g σ H { s with heap:=m }:=I.turned (t':=s.toks) (fun b o j e=>(R.2 b j).trans e) J M G D F;obtain ⟨o,e,c,d⟩:=id l;exact ⟨u,rfl,go_of (s:={ s with heap:=m }) e c d ⋯ ⟨x,H,I1,Q,⟨rfl,fun Z T=>by rw [I.list_inj T q];exact A⟩,l,fun b j=>(n b j).1⟩⟩
 done:=by
  intro X r L B N i g s σ H E I n f C;subst r L B;obtain ⟨Y,q,A⟩:=C;obtain ⟨y,t,p,S⟩:=I.list q;obtain ⟨J,M,U,G,D,F⟩:=n it (by simp);have hl:=t.length;exact wpAny_pyNext_list_end (I.ok.hd N) f p.isList (by simp;ac_nf) fun m V=>⟨rfl,I.turned (t':=s.toks) (fun b o j e=>V b o j e) J M G D F⟩
 self:=fun _ _ _ _ _ f h=>wpAny_pyIter_listiter f h
theorem Jhz {w:World} {K:W.Frag} (a it:Addr):Turn P w K tg (Itt K a) [it] it (fun i h=>h.IsTupleIter it a i) where
 mem:=by simp
 obj:=fun i h f b l=>by
  have e:b=it:=by simpa using l
  subst e;obtain ⟨o,e,c,d⟩:=f;exact ⟨o,e,fun v z=>by rw [d] at z;cases z⟩
 keep:=fun i h n f k=>f.at fun o e=>k it (by simp) o e
 item:=by
  intro X t L B N i g s σ H E I q f C;subst t L B;obtain ⟨Y,x,r,A⟩:=C;obtain ⟨j,y,p,S⟩:=I.tuple r;obtain ⟨u,O,Q⟩:=y.get A;obtain ⟨J,M,U,G,D,F⟩:=q it (by simp);refine wpAny_pyNext_tuple_item f (show s.heap.IsTuple a j.toArray from p) (x:=u) (by simpa using O) fun n m R=>?_;have I1:Inv X g σ H { s with heap:=n }:=I.turned (t':=s.toks) (fun b o l e=>(R.2 b l).trans e) J M G D F;obtain ⟨o,e,c,d⟩:=id m;exact ⟨u,rfl,go_of (s:={ s with heap:=n }) e c d ⋯ ⟨x,H,I1,Q,⟨rfl,fun Z T=>by rw [I.tuple_inj T r];exact A⟩,m,fun b l=>(q b l).1⟩⟩
 done:=by
  intro X t L B N i g s σ H E I q f C;subst t L B;obtain ⟨Y,r,A⟩:=C;obtain ⟨j,y,p,S⟩:=I.tuple r;obtain ⟨J,M,U,G,D,F⟩:=q it (by simp);have hl:=y.length;exact wpAny_pyNext_tuple_end (I.ok.hd N) f (show s.heap.IsTuple a j.toArray from p) (by simp;ac_nf) fun n V=>⟨rfl,I.turned (t':=s.toks) (fun b o l e=>V b o l e) J M G D F⟩
 self:=fun _ _ _ _ _ f h=>wpAny_pyIter_tupleiter f h
theorem Jhy {w:World} {K:W.Frag} (it:Addr) (lo:Int) (n:Nat):Turn P w K tg (Itr lo n) [it] it (fun i h=>IsRangeIter h it (lo+(i:Nat)*1) ((n:Int)-(i:Nat)) 1) where
 mem:=by simp
 obj:=fun i h a b d=>by
  have e:b=it:=by simpa using d
  subst e;exact ⟨_,a,fun v z=>by
   have J:Data.fields _=Data.cell v:=z;cases J⟩
 keep:=fun i h g a k=>k it (by simp) _ a
 item:=by
  intro X l A m p i c s σ H E I j a q;subst l A m;obtain ⟨y,B,F,x,r,u⟩:=j it (by simp);have W:=Walks.range (prog:=X.prog) (w:=X.w) (I.ok.hd p) it lo 1 n;refine W.item i s _ _ q a fun v g C L f D=>?_;obtain ⟨t,rfl⟩:=L;have I1:Inv X c σ H { s with heap:=g,toks:=C }:=I.turned (fun b o d e=>D b o (by simpa using d) e) y B x r u;refine ⟨_,rfl,go_of (s:={ s with heap:=g,toks:=C }) (n:="range_iterator") f rfl rfl ⋯ ⟨.int (lo+i),H,I1,⟨t,?_⟩,⟨rfl,rfl⟩,f,fun b d=>(j b d).1⟩⟩;rw [Int.mul_one]
 done:=by
  intro X l A m p i c s σ H E I j a q;subst l A m;obtain ⟨y,B,F,x,r,u⟩:=j it (by simp);exact wpAny_pyNext_range_end (I.ok.hd p) a (by have : n<=i:=q;ac_nf) fun g G=>⟨rfl,I.turned (t':=s.toks) (fun b o d e=>G b o d e) y B x r u⟩
 self:=fun _ _ _ _ _ a h=>wpAny_pyIter_rangeiter a h
theorem JjA {s:Shared} {R:It->Hp->Prop} {lo hi:Int} {t u v:Tok} {tk:Nat} (I:Inv X pins σ H s) (h1 : -(2 ^ 62)<=lo) (h2:lo<2 ^ 62) (h3 : -(2 ^ 62)<=hi) (h4:hi<2 ^ 62)
  (q:R (Itr lo (hi-lo).toNat) H):wpAny (model X.prog X.w) X.A (pyIter (.ref s.heap.objs.size)) (PIE X pins σ tg R) E { s with heap:=s.heap.push { cls:=.type "range",data:=.fields #[.int lo t, .int hi u, .int 1 v] },toks:=tk }:=by
 refine wpAny_pyIter_range (IsRange.new ..) (small_one h1 h2 h3 h4) ?_;have I1:Inv X pins σ H { s with heap:=s.heap.push { cls:=.type "range",data:=.fields #[.int lo t, .int hi u, .int 1 v] },toks:=tk }:=I.kept fun b o e=>Heap.get?_push_of_some _ e;refine ⟨(s.heap.push { cls:=.type "range",data:=.fields #[.int lo t, .int hi u, .int 1 v] }).objs.size,[(s.heap.push { cls:=.type "range",data:=.fields #[.int lo t, .int hi u, .int 1 v] }).objs.size],_,_,H,rfl,
  I1.kept (t':=tk) fun b o e=>Heap.get?_push_of_some _ e,Jhy _ lo (hi-lo).toNat,?_,fun b c=>?_,q⟩
 ·have a:lo+((0:Nat):Int)*1=lo:=by simp
  have d:(((hi-lo).toNat:Nat):Int)-((0:Nat):Int)=Builtin.Range.rangeSize lo hi 1:=by rw [rangeSize_one];split <;> ac_nf
  show IsRangeIter _ _ (lo+((0:Nat):Int)*1) ((((hi-lo).toNat:Nat):Int)-((0:Nat):Int)) 1;rw [a,d];exact Heap.get?_push_size _ rfl
 ·have e:b=(s.heap.push { cls:=.type "range",data:=.fields #[.int lo t, .int hi u, .int 1 v] }).objs.size:=by simpa using c
  subst e;exact I1.fpOk (Nat.le_refl _) (I1.hok.fresh (Nat.le_refl _))
def iRng1 (ta:TA):TI:=fun σ H R=>ta σ H fun vs H1=>∃ j:Int,vs=[.int j]/\-(2 ^ 62)<=j/\j<2 ^ 62/\R (Itr 0 j.toNat) H1
def iRng2 (ta:TA):TI:=fun σ H R=>ta σ H fun vs H1=>∃ i j:Int,vs=[.int i, .int j]/\(-(2 ^ 62)<=i/\i<2 ^ 62/\-(2 ^ 62)<=j/\j<2 ^ 62)/\R (Itr i (j-i).toNat) H1
variable {a:Expr}
theorem Jde {ta:TA} {p:Pos} (hg:Gl X "range") (hm:X.mg "range"=none) (ha:PA X [a] ta) (hs:starEach [a] X.env=[(false,eval a X.env)]:=by rfl):PI X tg (.Call (.Name "range" p) [a] [] pos) (iRng1 ta):=by
 intro b s σ H R I h;refine Call_ (JdX I hg hm boot_range (PyProof.Rows.callWith_type1 (thn (ha pos b s σ H _ I h) fun i l ζ=>?_) hs rfl));obtain ⟨k,g,I1,f,c⟩:=ζ;obtain ⟨j,e,c,d,q⟩:=c;subst e;cases f with
 | cons r rr=>
  cases rr;obtain ⟨t,rfl⟩:=r;exact call_range_1 (JjA I1 ∅ ∅ c d (by simpa using q))
def tFor (wi:TI) (g:TG) (tb:TS):TS:=fun D σ H=>wi σ H fun J H1=>∃ W:Nat->Nat->St->Hp->Prop,(∃ m,W 0 m σ H1)/\∀ i m σ H,W i m σ H ->
 (J.stop i H/\D.nx σ H)\/(J.go i H/\∃ N:St->Hp->Prop,(∀ σ' H',N σ' H'->∃ m',m'<m/\W (i+1) m' σ' H')/\∀ x H',J.yld i H x H'->g x σ H' fun σ2 H2=>tb { D with nx:=N,ct:=N,bk:=D.nx } σ2 H2)
def JgZ (fp:List Addr) (h:Heap):List (Addr × Obj):=fp.filterMap fun b=>(h.get? b).map fun o=>(b,o)
variable {fp:List Addr}
theorem JbQ (hb:b∈fp) (e:h.get? b=some o):(b,o)∈JgZ fp h:=List.mem_filterMap.mpr ⟨b,hb,by rw [e];rfl⟩
theorem Jic {p:Addr × Obj} (hp:p∈JgZ fp h):p.1∈fp/\h.get? p.1=some p.2:=by
 obtain ⟨b,c,e⟩:=List.mem_filterMap.mp hp;cases q:h.get? b with
 | none=>rw [q] at e;cases e
 | some o=>
  rw [q] at e;have a:(b,o)=p:=Option.some.inj e;subst a;exact ⟨c,q⟩
theorem Inv.pinned {s:Shared} (I:Inv X pins σ H s) (hf:∀ b∈fp,FpOk X pins H b) (ho:∀ b∈fp, ∃ o,s.heap.get? b=some o/\∀ v,o.data≠.cell v):Inv X (pins++JgZ fp s.heap) σ H s :=
 I.pins_of fun p h=>(mem_append.mp h).elim (fun z=>I.pin p (mem_append_right _ z)) fun z=>by
  obtain ⟨c,e⟩:=Jic z;obtain ⟨i,f,g,_⟩:=hf p.1 c;obtain ⟨o,a,d⟩:=ho p.1 c;rw [e] at a;cases a;exact ⟨e,i,f,g,d⟩
theorem Inv.unpinned {pl:List (Addr × Obj)} {s:Shared} (I:Inv X (pins++pl) σ H s):Inv X pins σ H s:=I.pins_of fun p a=>I.pin p (mem_append_right _ (List.mem_append_left _ a))
theorem Ja6 {iter:Expr} {wi:TI} {g:TG} (hp:PassesOwn (model X.prog X.w) X.A X.env X.xe) (hc:X.calm=true) (hi:PI X tg iter wi) (hg:PG X tg g) (hb:PSs X body tb)
  (hs:∀ x,foldedSetIterable iter X.env x=pure x:=by intro _;rfl):PS X (.For tg iter body [] pos) (tFor wi g tb):=by
 intro a s σ H D I h;refine wpAny_For (thn (hi a s σ H _ I h) fun v s1 h1=>thn h1 fun a0 s2 Y=>?_) hs;obtain ⟨it,y,Q,J,H2,e,I2,T,K,R,W,⟨m0,S⟩,z⟩:=Y;subst e;have k:∀ {H':Hp},(∀ b∈y,H' b=none)->∀ b∈y,FpOk X a H' b:=fun hn b hb=>⟨hn b hb,(R b hb).2⟩;refine codeAny_forLoop_any (fun n O=>∃ i σ' H',Inv X a σ' H' O/\Q i O.heap/\(∀ b∈y,H' b=none)/\W i n σ' H') ?_ m0 ⟨0,σ,H2,I2,K,fun b hb=>(R b hb).1,S⟩;rintro n M ⟨i,σ3,C,I3,q,t,V⟩;rcases z i n σ3 C V with ⟨stop,qn⟩ | ⟨go,N,hN,step⟩
 ·refine wpAny_passesOwn hp (thn (T.done X rfl rfl rfl hc i a M σ3 C X.xe I3 (k t) q stop) fun r s4 ⟨G,I4⟩=>?_);subst G;exact wpAny_execs_nil ⟨σ3,C,I4,qn⟩
 ·refine wpAny_passesOwn hp (thn (T.item X rfl rfl rfl hc i a M σ3 C X.xe I3 (k t) q go) fun r s4 ζ=>?_);obtain ⟨u,G,h4⟩:=ζ;subst G;refine wpAny_passesOwn hp (thn h4 fun _ P ζ=>?_);obtain ⟨x,L,I5,r5,y5,p,F⟩:=ζ;have I5':=I5.pinned (k F) (T.obj _ _ p);refine wpAny_passesOwn hp (thn (hg _ P σ3 L x u _ I5' r5 (step x L y5)) fun _ s6 ζ=>?_);obtain ⟨σ6,H6,I6,q6⟩:=ζ;refine wpAny_passesOwn hp (thn (hb _ s6 σ6 H6 _ I6 q6) fun f E l=>?_);have c:∀ {σ7:St} {j:Hp},Inv X (a++JgZ y P.heap) σ7 j E->N σ7 j->∃ m,m<n/\∃ i σ' H',Inv X a σ' H' E/\Q i E.heap/\(∀ b∈y,H' b=none)/\W i m σ' H':=fun {σ7 j} I7 B=>by
   obtain ⟨U,Z,w7⟩:=hN σ7 j B;refine ⟨U,Z,i+1,σ7,j,I7.unpinned,T.keep _ _ _ p fun b hb o e=>(I7.pin (b,o) (mem_append_right _ (mem_append_right _ (JbQ hb e)))).1,fun b hb=>?_,w7⟩;obtain ⟨o,e,d⟩:=T.obj _ _ p b hb;exact (I7.pin (b,o) (mem_append_right _ (mem_append_right _ (JbQ hb e)))).2.1
  cases f with
  | next=>obtain ⟨σ7,j,I7,B⟩:=l;exact c I7 B
  | cont=>obtain ⟨σ7,j,I7,B⟩:=l;exact c I7 B
  | brk=>obtain ⟨σ7,j,I7,l⟩:=l;exact ⟨σ7,j,I7.unpinned,l⟩
  | ret v=>obtain ⟨x7,σ7,j,I7,r7,l⟩:=l;exact ⟨x7,σ7,j,I7.unpinned,r7,l⟩
variable {n:Nat}
theorem JhX {lo:Int} {g:TG} {D:Ends} (Pv:Nat->St->Hp->Prop) (h0:Pv 0 σ H)
  (hs:∀ i σ H,i<n->Pv i σ H->g (.int (lo+i)) σ H fun σ2 H2=>tb { D with nx:=Pv (i+1),ct:=Pv (i+1),bk:=D.nx } σ2 H2) (hd:∀ σ H,Pv n σ H->D.nx σ H) :
  ∃ W:Nat->Nat->St->Hp->Prop,(∃ m,W 0 m σ H)/\∀ i m σ H,W i m σ H ->
   ((Itr lo n).stop i H/\D.nx σ H)\/((Itr lo n).go i H/\∃ N:St->Hp->Prop,(∀ σ' H',N σ' H'->∃ m',m'<m/\W (i+1) m' σ' H')/\∀ x H',(Itr lo n).yld i H x H'->g x σ H' fun σ2 H2=>tb { D with nx:=N,ct:=N,bk:=D.nx } σ2 H2):=by
 refine ⟨fun i m σ H=>m=n-i/\i<=n/\Pv i σ H,⟨n,by simp,Nat.zero_le _,h0⟩,?_⟩;rintro i m σ H ⟨rfl,c,p⟩;by_cases a:i<n
 ·refine .inr ⟨a,Pv (i+1),fun σ' H' b=>⟨n-(i+1),by ac_nf,rfl,a,b⟩,fun x H' y=>?_⟩;obtain ⟨e,y⟩:=y;subst e y;exact hs i σ _ a p
 ·have e:i=n:=by ac_nf
  subst e;exact .inl ⟨Nat.le_refl _,hd σ H p⟩
abbrev R2:=V->V->Hp->VK->Prop
def OpR (X:Cx) (f:Value->Value->Sem Value) (r:R2):Prop :=
 ∀ (pins:List (Addr × Obj)) (s:Shared) (σ : St) (H:Hp) (x y:V) (v u:Value) (Q:VK),Inv X pins σ H s->RelV x v->RelV y u->r x y H Q ->
  wpAny (model X.prog X.w) X.A (f v u) (EP X pins σ Q) X.xe s
def UnR (X:Cx) (f:Value->Sem Value) (r:V->Hp->VK->Prop):Prop :=
 ∀ (pins:List (Addr × Obj)) (s:Shared) (σ : St) (H:Hp) (x:V) (v:Value) (Q:VK),Inv X pins σ H s->RelV x v->r x H Q ->
  wpAny (model X.prog X.w) X.A (f v) (EP X pins σ Q) X.xe s
def CallR (X:Cx) (f:Value) (r:List V->Hp->VK->Prop):Prop :=
 ∀ (pins:List (Addr × Obj)) (s:Shared) (σ : St) (H:Hp) (xs:List V) (us:List Value) (Q:VK),Inv X pins σ H s->Vals xs us->r xs H Q ->
  wpAny (model X.prog X.w) X.A (call f us) (EP X pins σ Q) X.xe s
def tOp (r:R2) (ta tb:TE):TE:=fun σ H Q=>ta σ H fun x H1=>tb σ H1 fun y H2=>r x y H2 Q
def tUn (r:V->Hp->VK->Prop) (ta:TE):TE:=fun σ H Q=>ta σ H fun x H1=>r x H1 Q
def rI (C:Int->Int->Prop) (g:Int->Int->V):R2:=fun x y H Q=>∃ i j,x=.int i/\y=.int j/\C i j/\Q (g i j) H
def rI0 (g:Int->Int->V):R2:=fun x y H Q=>∃ i j,x=.int i/\y=.int j/\Q (g i j) H
def rU (g:Int->V):V->Hp->VK->Prop:=fun x H Q=>∃ i,x=.int i/\Q (g i) H
variable {b:Expr} {ta tb tc:TE}
theorem binT (ha:PE X a ta) (hb:PE X b tb) {pins:List (Addr × Obj)} {s:Shared} {σ : St} {H:Hp} {R:V->V->Hp->Prop} (I:Inv X pins σ H s)
  (h:ta σ H fun x H1=>tb σ H1 fun y H2=>R x y H2) {Q:Value->Shared->Prop} {f:Value->Value->Sem Value}
  (hf:∀ v u s2 x y H2,Inv X pins σ H2 s2->RelV x v->RelV y u->R x y H2->wpAny (model X.prog X.w) X.A (f v u) Q X.xe s2) :
  wpAny (model X.prog X.w) X.A (eval a X.env) (fun v s₁=>wpAny (model X.prog X.w) X.A (eval b X.env) (fun u s₂=>wpAny (model X.prog X.w) X.A (f v u) Q X.xe s₂) X.xe s₁) X.xe s:=by
 refine thn (ha pins s σ H _ I h) fun v i ζ=>?_;obtain ⟨x,H1,I1,e,d⟩:=ζ;refine thn (hb pins i σ H1 _ I1 d) fun u s2 ζ=>?_;obtain ⟨y,H2,I2,g,c⟩:=ζ;exact hf v u s2 x y H2 I2 e g c
theorem pe_op {op:Operator} {r:R2} (ho:OpR X (binaryOp op) r) (ha:PE X a ta) (hb:PE X b tb):PE X (.BinOp a op b pos) (tOp r ta tb):=by
 intro c s σ H Q I h;exact wpAny_BinOp (binT ha hb I h fun v u e x y f I2 g d q=>ho c e σ f x y v u Q I2 g d q)
theorem pe_un {op:UnaryOp} {r:V->Hp->VK->Prop} (ho:UnR X (unaryOp op) r) (ha:PE X a ta):PE X (.UnaryOp op a pos) (tUn r ta):=by
 intro b s σ H Q I h;exact UnaryOp_ (thn (ha b s σ H _ I h) fun v f ζ=>by obtain ⟨x,c,I1,e,d⟩:=ζ;exact ho b f σ c x v Q I1 e d)
theorem opI {f:Value->Value->Sem Value} {C:Int->Int->Prop} {g:Int->Int->Int}
  (rule:∀ (i j:Int) (t u:Tok) (s:Shared) (Q:Value->Shared->Prop) (E:Value->Shared->Prop),C i j->Q (.int (g i j) s.toks) { s with toks:=s.toks+1 }->wpAny (model X.prog X.w) X.A (f (.int i t) (.int j u)) Q E s) :
  OpR X f (rI C fun i j=>.int (g i j)):=by
 intro a s σ H x y v u Q I d c h;obtain ⟨i,j,rfl,rfl,b,q⟩:=h;obtain ⟨t,rfl⟩:=d;obtain ⟨e,rfl⟩:=c;exact rule i j t e s _ _ b ⟨.int (g i j),H,I.tok _,⟨_,rfl⟩,q⟩
theorem opI0 {f:Value->Value->Sem Value} {g:Int->Int->Int}
  (rule:∀ (i j:Int) (t u:Tok) (s:Shared) (Q:Value->Shared->Prop) (E:Value->Shared->Prop),Q (.int (g i j) s.toks) { s with toks:=s.toks+1 }->wpAny (model X.prog X.w) X.A (f (.int i t) (.int j u)) Q E s) :
  OpR X f (rI0 fun i j=>.int (g i j)):=by
 intro a s σ H x y v u Q I c b h;obtain ⟨i,j,rfl,rfl,q⟩:=h;obtain ⟨t,rfl⟩:=c;obtain ⟨d,rfl⟩:=b;exact rule i j t d s _ _ ⟨.int (g i j),H,I.tok _,⟨_,rfl⟩,q⟩
theorem opB0 {f:Value->Value->Sem Value} {g:Int->Int->Bool}
  (rule:∀ (i j:Int) (t u:Tok) (s:Shared) (Q:Value->Shared->Prop) (E:Value->Shared->Prop),Q (.bool (g i j)) s->wpAny (model X.prog X.w) X.A (f (.int i t) (.int j u)) Q E s) :
  OpR X f (rI0 fun i j=>.bl (g i j)):=by
 intro a s σ H x y v u Q I c b h;obtain ⟨i,j,rfl,rfl,q⟩:=h;obtain ⟨t,rfl⟩:=c;obtain ⟨d,rfl⟩:=b;exact rule i j t d s _ _ ⟨.bl (g i j),H,I,rfl,q⟩
def CPow (i j:Int):Prop:=0<=j/\j<=1000000/\i.natAbs<2 ^ 64
theorem JlU:OpR X (binaryOp .Add) (rI0 fun i j=>.int (i+j)):=opI0 fun _ _ _ _ _ _ _ q=>add_int q
theorem JeI:OpR X (binaryOp .Sub) (rI0 fun i j=>.int (i-j)):=opI0 fun _ _ _ _ _ _ _ q=>sub_int q
theorem JkU:OpR X (binaryOp .Mod) (rI (fun _ j=>j≠0) fun i j=>.int (i.fmod j)):=opI fun _ _ _ _ _ _ _ a q=>mod_int' a q
theorem JlY:OpR X (binaryOp .Pow) (rI CPow fun i j=>.int (i ^ j.toNat)):=opI fun _ _ _ _ _ _ _ a q=>pow_int_small a.1 a.2.1 a.2.2 q
theorem unI {f:Value->Sem Value} {g:Int->Int}
  (rule:∀ (i:Int) (t:Tok) (s:Shared) (Q:Value->Shared->Prop) (E:Value->Shared->Prop),Q (.int (g i) s.toks) { s with toks:=s.toks+1 }->wpAny (model X.prog X.w) X.A (f (.int i t)) Q E s) :
  UnR X f (rU fun i=>.int (g i)):=by
 intro a s σ H x v Q I b h;obtain ⟨i,rfl,q⟩:=h;obtain ⟨t,rfl⟩:=b;exact rule i t s _ _ ⟨.int (g i),H,I.tok _,⟨_,rfl⟩,q⟩
theorem Jf0:UnR X (unaryOp .USub) (rU fun i=>.int (-i)):=unI fun _ _ _ _ _ q=>neg_int q
def scal:V->V->Bool
 | .non, .non=>true | .non, .int _=>true | .int _, .non=>true | .non, .bl _=>true | .bl _, .non=>true | .non, .str _=>true | .str _, .non=>true
 | .int _, .int _=>true | .bl _, .bl _=>true | .str _, .str _=>true | .byt _, .byt _=>true
 | .int _, .str _=>true | .str _, .int _=>true | .bl _, .str _=>true | .str _, .bl _=>true
 | _,_=>false
def rEq:R2:=fun x y H Q=>scal x y=true/\Q (.bl (decide (x=y))) H
def rNe:R2:=fun x y H Q=>scal x y=true/\Q (.bl (!decide (x=y))) H
theorem JhO {i j:Int}:decide (V.int i=V.int j)=(i == j):=by
 rw [Bool.eq_iff_iff];simp
theorem JjR {i j:Bool}:decide (V.bl i=V.bl j)=(i == j):=by
 rw [Bool.eq_iff_iff];simp
theorem JhP {i j:Str}:decide (V.str i=V.str j)=(i == j):=by
 rw [Bool.eq_iff_iff];simp
theorem JhN {i j:Array UInt8}:decide (V.byt i=V.byt j)=(i.toList == j.toList):=by
 rw [Bool.eq_iff_iff];cases i;cases j;simp
theorem JaL {s:Shared} {Q:VK} {k k':Bool} (I:Inv X pins σ H s) (q:Q (.bl k) H) (e:k=k'):EP X pins σ Q (.bool k') s:=by
 subst e;exact ⟨.bl k,H,I,rfl,q⟩
theorem op_eq:OpR X (compareOp .Eq) rEq:=by
 intro e s σ H x y v u Q I d a h;obtain ⟨c,q⟩:=h;cases x with
 | non=>
  cases d;cases y with
  | non=>cases a;exact PySem.EqNone.eq_none_none (JaL I q (by simp))
  | bl j=>cases a;exact PySem.EqNone.eq_none_bool (JaL I q (by simp))
  | int j=>obtain ⟨b,rfl⟩:=a;exact PySem.EqNone.eq_none_int (JaL I q (by simp))
  | str j=>obtain ⟨b,rfl⟩:=a;exact PySem.EqNone.eq_none_str (JaL I q (by simp))
  | _=>exact absurd (show false=true from c) Bool.false_ne_true
 | bl i=>
  cases d;cases y with
  | non=>cases a;exact PySem.EqNone.eq_bool_none (JaL I q (by simp))
  | bl j=>cases a;exact eq_bool (JaL I q JjR)
  | str j=>obtain ⟨b,rfl⟩:=a;exact PySem.EqMixed.eq_bool_str (JaL I q (by simp))
  | _=>exact absurd (show false=true from c) Bool.false_ne_true
 | int i=>
  obtain ⟨t,rfl⟩:=d;cases y with
  | non=>cases a;exact PySem.EqNone.eq_int_none (JaL I q (by simp))
  | int j=>obtain ⟨b,rfl⟩:=a;exact eq_int (JaL I q JhO)
  | str j=>obtain ⟨b,rfl⟩:=a;exact PySem.EqMixed.eq_int_str (JaL I q (by simp))
  | _=>exact absurd (show false=true from c) Bool.false_ne_true
 | str i=>
  obtain ⟨t,rfl⟩:=d;cases y with
  | non=>cases a;exact PySem.EqNone.eq_str_none (JaL I q (by simp))
  | bl j=>cases a;exact PySem.EqMixed.eq_str_bool (JaL I q (by simp))
  | int j=>obtain ⟨b,rfl⟩:=a;exact PySem.EqMixed.eq_str_int (JaL I q (by simp))
  | str j=>obtain ⟨b,rfl⟩:=a;exact eq_str (JaL I q JhP)
  | _=>exact absurd (show false=true from c) Bool.false_ne_true
 | byt i=>
  obtain ⟨t,rfl⟩:=d;cases y with
  | byt j=>obtain ⟨b,rfl⟩:=a;exact W.eq_bytes (JaL I q JhN)
  | _=>exact absurd (show false=true from c) Bool.false_ne_true
 | _=>cases y <;> exact absurd (show false=true from c) Bool.false_ne_true
theorem op_ne:OpR X (compareOp .NotEq) rNe:=by
 intro e s σ H x y v u Q I d a h;obtain ⟨c,q⟩:=h;cases x with
 | non=>
  cases d;cases y with
  | non=>cases a;exact PySem.EqNone.ne_none_none (JaL I q (by simp))
  | bl j=>cases a;exact PySem.EqNone.ne_none_bool (JaL I q (by simp))
  | int j=>obtain ⟨b,rfl⟩:=a;exact PySem.EqNone.ne_none_int (JaL I q (by simp))
  | str j=>obtain ⟨b,rfl⟩:=a;exact PySem.EqNone.ne_none_str (JaL I q (by simp))
  | _=>exact absurd (show false=true from c) Bool.false_ne_true
 | bl i=>
  cases d;cases y with
  | non=>cases a;exact PySem.EqNone.ne_bool_none (JaL I q (by simp))
  | bl j=>cases a;exact ne_bool (JaL I q (congrArg not JjR))
  | str j=>obtain ⟨b,rfl⟩:=a;exact PySem.EqMixed.ne_bool_str (JaL I q (by simp))
  | _=>exact absurd (show false=true from c) Bool.false_ne_true
 | int i=>
  obtain ⟨t,rfl⟩:=d;cases y with
  | non=>cases a;exact PySem.EqNone.ne_int_none (JaL I q (by simp))
  | int j=>obtain ⟨b,rfl⟩:=a;exact ne_int (JaL I q (congrArg not JhO))
  | str j=>obtain ⟨b,rfl⟩:=a;exact PySem.EqMixed.ne_int_str (JaL I q (by simp))
  | _=>exact absurd (show false=true from c) Bool.false_ne_true
 | str i=>
  obtain ⟨t,rfl⟩:=d;cases y with
  | non=>cases a;exact PySem.EqNone.ne_str_none (JaL I q (by simp))
  | bl j=>cases a;exact PySem.EqMixed.ne_str_bool (JaL I q (by simp))
  | int j=>obtain ⟨b,rfl⟩:=a;exact PySem.EqMixed.ne_str_int (JaL I q (by simp))
  | str j=>obtain ⟨b,rfl⟩:=a;exact ne_str (JaL I q (congrArg not JhP))
  | _=>exact absurd (show false=true from c) Bool.false_ne_true
 | byt i=>
  obtain ⟨t,rfl⟩:=d;cases y with
  | byt j=>obtain ⟨b,rfl⟩:=a;exact W.ne_bytes (JaL I q (congrArg not JhN))
  | _=>exact absurd (show false=true from c) Bool.false_ne_true
 | _=>cases y <;> exact absurd (show false=true from c) Bool.false_ne_true
theorem op_lt:OpR X (compareOp .Lt) (rI0 fun i j=>.bl (decide (i<j))):=opB0 fun _ _ _ _ _ _ _ q=>lt_int q
theorem op_gt:OpR X (compareOp .Gt) (rI0 fun i j=>.bl (decide (j<i))):=opB0 fun _ _ _ _ _ _ _ q=>gt_int q
theorem op_ge:OpR X (compareOp .GtE) (rI0 fun i j=>.bl (decide (j<=i))):=opB0 fun _ _ _ _ _ _ _ q=>ge_int q
theorem Jii:OpR X (compareOp .In) (fun x y H Q=>∃ i j,x=.str i/\y=.str j/\Q (.bl (!(Builtin.Str.occurrences j i 0 j.length 1).isEmpty)) H):=by
 intro a s σ H x y v u Q I c b h;obtain ⟨i,j,rfl,rfl,q⟩:=h;obtain ⟨t,rfl⟩:=c;obtain ⟨d,rfl⟩:=b;exact in_str (JaL I q rfl)
theorem JlX:OpR X (compareOp .Is) (fun x y H Q=>y=.non/\Q (.bl (decide (x=.non))) H):=by
 intro b s σ H x y v u Q I a c h;obtain ⟨rfl,q⟩:=h;cases c;refine is_none_gen (JaL I q ?_);cases x <;> first
  | (cases a;rfl)
  | (obtain ⟨t,rfl⟩:=a;rfl)
theorem JkY:OpR X (compareOp .IsNot) (fun x y H Q=>y=.non/\Q (.bl (!decide (x=.non))) H):=by
 intro b s σ H x y v u Q I a c h;obtain ⟨rfl,q⟩:=h;cases c;refine isnot_none_gen (JaL I q ?_);cases x <;> first
  | (cases a;rfl)
  | (obtain ⟨t,rfl⟩:=a;rfl)
theorem JaA (b:Expr) {op:CmpOp} (h:op≠.In:=by decide) (h2:op≠.NotIn:=by decide):behindInMarks op b=false:=by
 have a:(op == CmpOp.In)=false:=by cases op <;> first | rfl | exact absurd rfl h
 have c:(op == CmpOp.NotIn)=false:=by cases op <;> first | rfl | exact absurd rfl h2
 cases b <;> simp [behindInMarks,a,c]
variable {op:CmpOp} {r:R2}
theorem Jbn (ho:OpR X (compareOp op) r) (ha:PE X a ta) (hb:PE X b tb) (hm:behindInMarks op b=false):PE X (.Compare a [op] [b] pos) (tOp r ta tb):=by
 intro c s σ H Q I h;exact wpAny_Compare1 (binT ha hb I h fun v u e x y f I2 g d q=>ho c e σ f x y v u Q I2 g d q) hm
def tTest (t:TE):TT:=fun σ H Q=>t σ H fun x H'=>∃ k,x=.bl k/\Q k H'
theorem Jaz (ho:OpR X (compareOp op) r) (ha:PE X a ta) (hb:PE X b tb) (hm:behindInMarks op b=false):PT X (.Compare a [op] [b] pos) (tTest (tOp r ta tb)):=by
 intro d s σ H Q I h;refine wpAny_isTrue_Compare1 (thn (ha d s σ H _ I h) fun v t ζ=>?_) hm;obtain ⟨x,j,I1,q,m⟩:=ζ;refine thn (hb d t σ j _ I1 m) fun u l ζ=>?_;obtain ⟨y,o,I2,g,f⟩:=ζ;refine thn (ho d l σ o x y v u _ I2 q g f) fun c w ζ=>?_;obtain ⟨z,n,I3,p,k,e,i⟩:=ζ
 subst e;cases p;exact wpAny_truthy_bool ⟨n,I3,i⟩
theorem JeG:(sizeLine:Nat)<2 ^ 63:=by rw [sizeLine_eq];decide
theorem Jhq:OpR X (binaryOp .Add) (fun x y H Q=>∃ i j,x=.str i/\y=.str j/\i.length+j.length<=sizeLine/\Q (.str (i++j)) H):=by
 intro a s σ H x y v u Q I d e h;obtain ⟨i,j,rfl,rfl,c,q⟩:=h;obtain ⟨t,rfl⟩:=d;obtain ⟨b,rfl⟩:=e;exact add_str (fun b f=>⟨.str (i++j),H,I.tok _,⟨_,rfl⟩,q⟩) c
variable {x:V}
theorem vals1 (r:Vals [x] us):∃ u,us=[u]/\RelV x u:=by
 cases r with
 | cons r1 r2=>cases r2;exact ⟨_,rfl,r1⟩
theorem vals2 (r:Vals [x,y] us):∃ u w',us=[u,w']/\RelV x u/\RelV y w':=by
 cases r with
 | cons r1 r2=>
  cases r2 with
  | cons r3 r4=>cases r4;exact ⟨_,_,rfl,r1,r3⟩
theorem Ji8:CallR X (.builtin "abs") (fun xs H Q=>∃ i,xs=[.int i]/\Q (.int (if i<0 then -i else i)) H):=by
 intro a s σ H xs b Q I r h;obtain ⟨i,rfl,q⟩:=h;obtain ⟨u,rfl,t,rfl⟩:=vals1 r;exact call_abs_int fun u c=>⟨.int (if i<0 then -i else i),H,I.tok _,⟨_,rfl⟩,q⟩
theorem JhG (hc:X.calm=true):CallR X (.builtin "min") (fun xs H Q=>∃ i j,xs=[.int i, .int j]/\Q (.int (if j<i then j else i)) H):=by
 intro b s σ H xs c Q I r h;obtain ⟨i,j,rfl,q⟩:=h;obtain ⟨u,g,rfl,⟨t,rfl⟩,⟨e,rfl⟩⟩:=vals2 r;refine min_two_ints (I.ok.hd hc) fun f d k=>⟨_,H,I.kept k,?_,q⟩;by_cases a:j<i
 ·rw [if_pos a,if_pos a];exact ⟨_,rfl⟩
 ·rw [if_neg a,if_neg a];exact ⟨_,rfl⟩
structure ObjM (h:Heap) (x dx C:Addr) (mA:Str->Option Value):Prop where
 obj:h.get? x=some (W.instObj C dx)
 ns:h.Ns1 dx mA
 ne:dx≠x
variable {dx:Addr} {mA:Str->Option Value}
theorem Jd1 (n:h.Ns1 dx mA):∃ od,h.get? dx=some od/\∀ name,W.lookIn name od=some (mA name):=by
 obtain ⟨o,c,l,i,f,j,_,k⟩:=n;refine ⟨o,i,fun name=>?_⟩;have e:=k name;unfold nsFind findBy at e;rw [<- Array.find?_toList] at e;unfold W.lookIn;rw [f];dsimp only;split
 ·rename_i y q;rw [q] at e;exact congrArg some e
 ·rename_i q;rw [q] at e;have a:c.toList.any (·.refKey)=false:=by
   rw [List.any_eq_false];intro y d;obtain ⟨z,t,b⟩:=j y (Array.mem_toList_iff.mp d);simp [DictEntry.refKey,b]
  have g:¬ c.toList.any (·.refKey)=true:=by rw [a];exact Bool.false_ne_true
  rw [if_neg g];exact congrArg some e
variable {x C:Addr}
theorem ObjM.look (I:ObjM h x dx C mA):∃ od,W.InstAt h x (W.instObj C dx) C (some od)/\∀ name,W.lookIn name od=some (mA name) :=
 let ⟨od,ho,hl⟩:=Jd1 I.ns
 ⟨od,⟨I.obj,rfl,rfl,ho⟩,hl⟩
section
variable {name:Str} {v:Value} {w:World} {s:Shared} {K:W.Frag} {f:Addr}
theorem get_map {expr:Bool} {Q:Value->Shared->Prop} (X:K.In s.heap) (I:ObjM s.heap x dx C mA) (hg:W.plainGet K C name=true) (hh:W.hasDictIn K C=true)
  (ha:W.findIn K (.ref C) name=some none) (hv:mA name=some v) (hv':W.handedIn v=true) (h:Q v { s with toks:=s.toks+1 }) :
  wpAny (model prog w) A (getAttr (.ref x) name expr) Q E s:=by
 obtain ⟨b,J,a⟩:=I.look;exact W.get_value X J (W.plainGet_of hg).1 (W.findObj_own hh ha rfl (by rw [a,hv])) hv' h
variable {pl:Sem Bool}
theorem Jjc {Q:Value × List Value->Shared->Prop} (X:K.In s.heap) (I:ObjM s.heap x dx C mA) (hg:W.plainGet K C name=true)
  (hf:W.findIn K (.ref C) name=some (some (.ref f))) (ht:W.isFn K (.ref f)=true) (hv:mA name=none) (h:Q (.ref f,[.ref x]) s) :
  wpAny (model prog w) A (getMethod (.ref x) name pl) Q E s:=by
 obtain ⟨b,J,a⟩:=I.look;exact W.method_fn X J (W.plainGet_of hg).1 (W.plainGet_of hg).2 hf (beq_iff_eq.mp ht) (by show (W.lookIn name b).map (·.isSome)=some false;rw [a,hv];rfl) h
theorem Jlg {ns:List Str} {Q:Unit->Shared->Prop} (X:K.In s.heap) (I:ObjM s.heap x dx C mA)
  (hs:W.findIn K (.ref C) "__setattr__"=some (some (.builtin "object.__setattr__"))) (hp:W.plainOver K C=true) (ht:W.takerIn K C name=some none) (hh:W.hasDictIn K C=true)
  (hw:PySem.Within mA ns) (hsz:ns.length<=sizeLine)
  (h:∀ h',ObjM h' x dx C (fun y=>if y=name then some v else mA y)->Heap.SameBut dx s.heap h'->Q () { s with heap:=h',toks:=s.toks+2 }) :
  wpAny (model prog w) A (setAttr (.ref x) name v) Q E s:=by
 obtain ⟨p,J,n⟩:=I.look;refine W.set_plain X J hs (W.osa_open (s:={ s with toks:=s.toks+1 }) (r:=none) X J hp ht fun b=>?_);obtain ⟨q,j,g⟩:=W.any_some hh;have l:s.heap.get? x=some ⟨.ref C,some dx, .plain, #[]⟩:=I.obj;refine wpAny_bind (wpAny_pure (wpAny_bind (wpAny_bind (wpAny_loadPart l (wpAny_bind (W.Looks.here (s:={ s with toks:=s.toks+1 }) (W.looks_clsIn X j) ?_))))));rw [g];refine wpAny_pure (a:=some dx) (wpAny_bind (wpAny_pure (wpAny_bind ?_)));refine wpAny_nsSet1 (s:={ s with toks:=s.toks+1 }) I.ns fun h' d c=>?_;obtain ⟨o,k,m,i,f,e⟩:=d.count (PySem.Within.cons name v hw);refine wpAny_bind (wpAny_lookBehind i (by rw [f];exact pastItsLine_dict (Nat.le_trans e (by rw [length_cons];ac_nf))) ?_);exact wpAny_pure (h _ ⟨(c.2 _ (Ne.symm I.ne)).trans I.obj,d,I.ne⟩ c)
variable {kw:List (Str × Value)}
theorem Jji {R:Result->Shared->Prop} {vs:List Value} (X:K.In s.heap) (hm:W.makesIn K C=true)
  (hi:W.findIn K (.ref C) "__init__"=some (some (.ref f))) (hf:W.typeIn K (.ref f)=some (.type "function"))
  (h:codeAny (model prog w) (A.under (.builtin "type.__call__" ⟨.ref C::vs,kw⟩)) (.call (.ref f) ⟨.ref (s.heap.objs.size+1)::vs,kw⟩) (W.InitBack (s.heap.objs.size+1) R)
   { s with heap:=(s.heap.push W.emptyDict).push (W.instObj C s.heap.objs.size) }) :
  codeAny (model prog w) A (.call (.ref C) ⟨vs,kw⟩) R s:=by
 obtain ⟨c,g,d,t,b⟩:=s;exact W.make_core (W.makes_of X hm) (W.looks_findIn X hi) (fun a=>W.bind_fn X a hf) (.inl rfl) h
end
def putF (f:Str) (v:V):List (Str × V)->List (Str × V)
 | []=>[(f,v)]
 | (g,x)::r=>if g=f then (g,v)::r else (g,x)::putF f v r
theorem Jd2 (f g:Str) (v:V):∀ fs:List (Str × V),(putF f v fs).lookup g=if g=f then some v else fs.lookup g
 | []=>by
  show List.lookup g [(f,v)]=_;by_cases h:g=f
  ·have hb:(g == f)=true:=beq_iff_eq.mpr h;simp only [List.lookup,hb,if_pos h]
  ·have hb:(g == f)=false:=beq_eq_false_iff_ne.mpr h;simp only [List.lookup,hb,if_neg h]
 | (k,x)::r=>by
  have ih:=Jd2 f g v r;rw [show putF f v ((k,x)::r)=(if k=f then (k,v)::r else (k,x)::putF f v r) from rfl];by_cases hk:k=f
  ·rw [if_pos hk];by_cases h:g=k
   ·have hb:(g == k)=true:=beq_iff_eq.mpr h;simp only [List.lookup,hb,if_pos (h.trans hk)]
   ·have hb:(g == k)=false:=beq_eq_false_iff_ne.mpr h;simp only [List.lookup,hb,if_neg (fun e:g=f=>h (e.trans hk.symm))]
  ·rw [if_neg hk];by_cases h:g=k
   ·have hb:(g == k)=true:=beq_iff_eq.mpr h;simp only [List.lookup,hb,if_neg (fun e:g=f=>hk (h.symm.trans e))]
   ·have hb:(g == k)=false:=beq_eq_false_iff_ne.mpr h;simp only [List.lookup,hb];exact ih
theorem JdW (f:Str) (v:V):∀ fs:List (Str × V),f∈(putF f v fs).map (·.1)/\∀ g,g∈fs.map (·.1)->g∈(putF f v fs).map (·.1)
 | []=>⟨by simp [putF],fun g h=>by simp at h⟩
 | (k,x)::r=>by
  obtain ⟨i1,i2⟩:=JdW f v r;rw [show putF f v ((k,x)::r)=(if k=f then (k,v)::r else (k,x)::putF f v r) from rfl];by_cases hk:k=f
  ·rw [if_pos hk];subst hk;exact ⟨by simp,fun g h=>by simpa using h⟩
  ·rw [if_neg hk];refine ⟨?_,fun g h=>?_⟩
   ·rw [map_cons];exact mem_cons_of_mem _ i1
   ·rw [map_cons] at h ⊢;rcases mem_cons.mp h with e | e
    ·exact mem_cons.mpr (.inl e)
    ·exact mem_cons_of_mem _ (i2 g e)
theorem Jd0 (f:Str) (v:V):∀ fs:List (Str × V),(putF f v fs).length<=fs.length+1
 | []=>by simp [putF]
 | (k,x)::r=>by
  have ih:=Jd0 f v r;rw [show putF f v ((k,x)::r)=(if k=f then (k,v)::r else (k,x)::putF f v r) from rfl];by_cases hk:k=f
  ·rw [if_pos hk,length_cons,length_cons];ac_nf
  ·rw [if_neg hk,length_cons,length_cons];ac_nf
variable {v:V} {o:Option Value}
theorem RelO.some_of (r:RelO (some v) o):∃ u,o=some u/\RelV v u:=by
 cases o with
 | none=>exact (show False from r).elim
 | some u=>exact ⟨u,rfl,r⟩
theorem RelO.none_of (r:RelO none o):o=none:=by
 cases o with
 | none=>rfl
 | some u=>exact (show False from r).elim
theorem JfG (r:RelV v u):W.handedIn u=true:=by
 cases v with
 | non=>cases (show u=Value.none from r);rfl
 | bl b=>cases (show u=Value.bool b from r);rfl
 | int i=>obtain ⟨t,e⟩:=(show ∃ t,u=Value.int i t from r);cases e;rfl
 | str x=>obtain ⟨t,e⟩:=(show ∃ t,u=Value.str x t from r);cases e;rfl
 | byt b=>obtain ⟨t,e⟩:=(show ∃ t,u=Value.bytes b t from r);cases e;rfl
 | flt b=>obtain ⟨t,e⟩:=(show ∃ t,u=Value.float b t from r);cases e;rfl
 | ref a=>cases (show u=Value.ref a from r);rfl
 | ty n=>cases (show u=Value.type n from r);rfl
section
variable {h':Heap} {a:Addr} {fs':List (Str × V)} {w:World} {fs:List (Str × V)}
theorem JeX (hok:HOk P w H h) (e:H a=some (.ins C dx fs)):∃ mA,ObjM h a dx C mA/\(∀ f,RelO (fs.lookup f) (mA f))/\PySem.Within mA (fs.map (·.1))/\fs.length<=1000/\H dx=some (.own a):=by
 obtain ⟨d,z,c,b,mA,n,r,q⟩:=(show ObjOk P w H h a (.ins C dx fs) from hok a _ e);exact ⟨mA,⟨b,n,c⟩,r,q,z,d⟩
end
structure Cls (K:W.Frag) (C:Addr):Prop where
 pg:W.plainGet K C Str.empty=true
 hd:W.hasDictIn K C=true
 po:W.plainOver K C=true
 sa:W.findIn K (.ref C) "__setattr__"=some (some (.builtin "object.__setattr__"))
theorem Cls.get {K:W.Frag} (c:Cls K C) (f:Str):W.plainGet K C f=true:=c.pg
def JaV (K:W.Frag) (C:Addr) (f:Str):Prop:=W.findIn K (.ref C) f=some none
theorem JaV.taker {K:W.Frag} {f:Str} (n:JaV K C f):W.takerIn K C f=some none:=by
 unfold W.takerIn;rw [show W.findIn K (.ref C) f=some none from n];rfl
structure Meth (K:W.Frag) (C:Addr) (m:Str) (f:Addr):Prop where
 at_:W.findIn K (.ref C) m=some (some (.ref f))
 fn:W.isFn K (.ref f)=true
 kp:W.keepIn K (.ref f)=true
section
variable {a:Addr} {s:Shared} {fs:List (Str × V)} {f:Str} {b:Bool}
theorem Jhf {Q:Value->Shared->Prop} (I:Inv X pins σ H s) (e:H a=some (.ins C dx fs)) (c:Cls X.K C) (n:JaV X.K C f) (l:fs.lookup f=some v)
  (h:∀ u s',Inv X pins σ H s'->RelV v u->Q u s'):wpAny (model X.prog X.w) A (getAttr (.ref a) f b) Q E s:=by
 obtain ⟨g,O,r,_,_,_⟩:=JeX I.hok e;obtain ⟨u,i,d⟩:=RelO.some_of (v:=v) (o:=g f) (by rw [<- l];exact r f);exact get_map I.kIn O (c.get f) c.hd n i (JfG d) (h u _ (I.tok _) d)
theorem JeF {m:Str} {g:Addr} {pl:Sem Bool} {Q:Value × List Value->Shared->Prop} (I:Inv X pins σ H s) (e:H a=some (.ins C dx fs)) (c:Cls X.K C) (k:Meth X.K C m g) (l:fs.lookup m=none)
  (h:Q (.ref g,[.ref a]) s):wpAny (model X.prog X.w) A (getMethod (.ref a) m pl) Q E s:=by
 obtain ⟨b,O,r,_,_,_⟩:=JeX I.hok e;have d:b m=none:=RelO.none_of (by rw [<- l];exact r m);exact Jjc I.kIn O (c.get m) k.at_ k.fn d h
theorem Jhv {Q:Unit->Shared->Prop} (I:Inv X pins σ H s) (e:H a=some (.ins C dx fs)) (c:Cls X.K C) (n:JaV X.K C f) (hl:fs.length<1000) (ry:RelV y u)
  (h:∀ s',Inv X pins σ (upd H a (.ins C dx (putF f y fs))) s'->Q () s'):wpAny (model X.prog X.w) A (setAttr (.ref a) f u) Q E s:=by
 obtain ⟨j,O,r,d,_,i⟩:=JeX I.hok e;have v:(fs.map (·.1)).length<=sizeLine:=by rw [length_map,sizeLine_eq];ac_nf
 refine Jlg I.kIn O c.sa c.po n.taker c.hd d v fun k O' m=>h _ ?_;have l:∃ o,k.get? dx=some o:=let ⟨o,_,_,e',_⟩:=O'.ns;⟨o,e'⟩;refine I.write (x:=a) (e:=dx) (by rw [e];exact True.intro) (.inr i) (fun b q t z=>(m.2 b t).trans z) l ?_;refine ⟨by rw [Jag O.ne];exact i,?_,O.ne,O'.obj,_,O'.ns,fun g=>?_,fun g p=>?_⟩
 ·have:=Jd0 f y fs;ac_nf
 ·show RelO ((putF f y fs).lookup g) (if g=f then some u else j g);rw [Jd2];by_cases q:g=f
  ·rw [if_pos q,if_pos q];exact ry
  ·rw [if_neg q,if_neg q];exact r g
 ·by_cases q:g=f
  ·rw [q];exact (JdW f y fs).1
  ·refine (JdW f y fs).2 g (d g fun z=>p ?_);show (if g=f then some u else j g)=none;rw [if_neg q];exact z
theorem Inv.made (I:Inv X pins σ H s):Inv X pins σ (upd (upd H s.heap.objs.size (.own (s.heap.objs.size+1))) (s.heap.objs.size+1) (.ins C s.heap.objs.size []))
  { s with heap:=(s.heap.push W.emptyDict).push (W.instObj C s.heap.objs.size) }:=by
 have c:(s.heap.push W.emptyDict).get? s.heap.objs.size=some W.emptyDict:=Heap.get?_push_size s.heap rfl;have i:((s.heap.push W.emptyDict).push (W.instObj C s.heap.objs.size)).get? (s.heap.objs.size+1)=some (W.instObj C s.heap.objs.size):=by
  have:=Heap.get?_push_size (s.heap.push W.emptyDict) (o:=W.instObj C s.heap.objs.size) rfl
  rwa [Heap.size_push] at this
 have h:(s.heap.push W.emptyDict).Ns s.heap.objs.size (fun _=>none):=⟨W.emptyDict, #[],_,c,rfl,(fun e g=>absurd g (by simp)),fun _=>rfl⟩;have I1:=I.laid (a:=s.heap.objs.size) (o:=.own (s.heap.objs.size+1)) (h':=s.heap.push W.emptyDict) (t':=s.toks) (fun b u q=>Heap.get?_push_of_some _ q) (Nat.le_refl _) ⟨_,c⟩;refine I1.laid (a:=s.heap.objs.size+1) (o:=.ins C s.heap.objs.size []) (t':=s.toks) (fun b u q=>Heap.get?_push_of_some _ q) (Nat.le_of_eq (Heap.size_push _ _)) ?_;have d:s.heap.objs.size≠s.heap.objs.size+1:=Nat.ne_of_lt (Nat.lt_succ_self _);refine ⟨by rw [Jag d,Jaj],Nat.zero_le _,d,i,fun _=>none,(Heap.Ns1.of_empty h).at fun o q=>Heap.get?_push_of_some _ q,fun _=>True.intro,fun y f=>absurd rfl f⟩
variable {Q:Value->Shared->Prop}
theorem JhB {w:World} {env:Env} {f:Str} {s:Shared} (hb:attributeBase e f env (eval e env)=eval e env)
  (h:wpAny (model prog w) A (eval e env) (fun o s₁=>wpAny (model prog w) A (getAttr o f true) Q E s₁) E s):wpAny (model prog w) A (eval (.Attribute e f pos) env) Q E s :=
 Attribute_any_ h (by rw [arm_eval_Attribute,hb])
end
def tFld (K:W.Frag) (ta:TE) (f:Str):TE:=fun σ H Q=>ta σ H fun x H1=>∃ a C dx fs v,x=.ref a/\H1 a=some (.ins C dx fs)/\Cls K C/\JaV K C f/\fs.lookup f=some v/\Q v H1
def sFld (K:W.Frag) (ta tv:TE) (f:Str):TS:=fun D σ H=>tv σ H fun y H1=>ta σ H1 fun x H2=>∃ a C dx fs,x=.ref a/\H2 a=some (.ins C dx fs)/\Cls K C/\JaV K C f/\fs.length<1000 /\
 D.nx σ (upd H2 a (.ins C dx (putF f y fs)))
section
variable {o value:Expr} {tpos:Pos} {tv:TE} {f:Str}
theorem Jat (he:PE X e ta) (hb:attributeBase e f X.env (eval e X.env)=eval e X.env):PE X (.Attribute e f pos) (tFld X.K ta f):=by
 intro b s σ H Q I h;refine JhB hb (thn (he b s σ H _ I h) fun u t ζ=>?_);obtain ⟨x,g,I1,j,a,C,r,p,v,k,d,c,n,l,q⟩:=ζ;subst k;obtain rfl:u=Value.ref a:=j;exact Jhf I1 d c n l fun o m I2 i=>⟨v,g,I2,i,q⟩
theorem Ja5 (ha:PE X o ta) (hv:PE X value tv) (hs:swapsWith value (some (.Attribute o f pos')) pos.line X.env=pure false):PS X (.Assign [.Attribute o f pos'] value pos) (sFld X.K ta tv f):=by
 intro b s σ H D I h;refine plainObj_wpAny_Assign_Attribute (thn (hv b s σ H _ I h) fun u p ζ=>?_) hs;obtain ⟨y,g,I1,m,q⟩:=ζ;refine thn (ha b p σ g _ I1 q) fun k t ζ=>?_;obtain ⟨x,v,I2,i,a,C,z,w,j,e,c,n,l,d⟩:=ζ;subst j;obtain rfl:k=Value.ref a:=i;exact Jhv I2 e c n l m fun r I3=>⟨σ,_,I3,d⟩
end
section
variable {Q:Value->Shared->Prop} {c:Value} {b:Bool} {s:Shared}
inductive TyOf (K:W.Frag) (H:Hp):V->Value->Prop where
 | non:TyOf K H .non (.type "NoneType")
 | bl (x:Bool):TyOf K H (.bl x) (.type "bool")
 | int (i:Int):TyOf K H (.int i) (.type "int")
 | str (x:Str):TyOf K H (.str x) (.type "str")
 | flt (x:UInt64):TyOf K H (.flt x) (.type "float")
 | lst {a:Addr} {xs:List V} (e:H a=some (.lst xs)):TyOf K H (.ref a) (.type "list")
 | frz {a:Addr} {o:Obj} {xs:List V} (e:H a=some (.frz o (.lst xs))):TyOf K H (.ref a) (.type "list")
 | tup {a:Addr} {xs:List V} (e:H a=some (.tup xs)):TyOf K H (.ref a) (.type "tuple")
 | dK {a:Addr} {kvs:List (Key × V)} (e:H a=some (.dK kvs)):TyOf K H (.ref a) (.type "dict")
 | dT {a:Addr} {kvs:List (List Key × V)} (e:H a=some (.dT kvs)):TyOf K H (.ref a) (.type "dict")
 | ins {a C dx:Addr} {fs:List (Str × V)} (e:H a=some (.ins C dx fs)) (cl:Cls K C) (ha:W.findIn K (.ref C) "__class__"=some (some (.builtin "object.__class__")))
   (hn:W.specialIn K (.builtin "object.__class__") "__get__"=some (some (.builtin "getset_descriptor.__get__"))) (htk:W.takesIn K (.builtin "object.__class__")=some true)
   (hm:W.mroIn K C (.type "object")=some true):TyOf K H (.ref a) (.ref C)
theorem Jh2 {x:V} {t:Value} (I:Inv X pins σ H s) (rx:RelV x u) (ty:TyOf X.K H x t) (e:W.kitOne X.K t c=some b) (h:∀ tk,Q (.bool b) { s with toks:=tk }) :
  wpAny (model X.prog X.w) A (call (.builtin "isinstance") [u,c]) Q E s:=by
 cases ty with
 | non=>cases (show u=Value.none from rx);exact W.kia_one W.kitx_none I.kIn True.intro e (fun z=>nomatch z) h
 | bl y=>cases (show u=Value.bool y from rx);exact W.kia_one W.kitx_bool I.kIn True.intro e (fun z=>nomatch z) h
 | int i=>obtain ⟨t,q⟩:=(show ∃ t,u=Value.int i t from rx);cases q;exact W.kia_one W.kitx_int I.kIn True.intro e (fun z=>nomatch z) h
 | str y=>obtain ⟨t,q⟩:=(show ∃ t,u=Value.str y t from rx);cases q;exact W.kia_one W.kitx_str I.kIn True.intro e (fun z=>nomatch z) h
 | flt y=>obtain ⟨t,q⟩:=(show ∃ t,u=Value.float y t from rx);cases q;exact W.kia_one W.kitx_float I.kIn True.intro e (fun z=>nomatch z) h
 | @lst a f ea=>
  cases (show u=Value.ref a from rx);obtain ⟨_,_,n,_,d⟩:=(show ObjOk X.prog X.w H s.heap a (.lst f) from I.hok a _ ea);exact W.kia_one W.kitx_list I.kIn ⟨_,d,rfl⟩ e (fun z=>nomatch z) h
 | @frz a ob f ea=>
  cases (show u=Value.ref a from rx);obtain ⟨_,_,_,n,_,d⟩:=(show ObjOk X.prog X.w H s.heap a (.frz ob (.lst f)) from I.hok a _ ea);exact W.kia_one W.kitx_list I.kIn ⟨_,d,rfl⟩ e (fun z=>nomatch z) h
 | @tup a f ea=>
  cases (show u=Value.ref a from rx);obtain ⟨_,_,_,p⟩:=(show ObjOk X.prog X.w H s.heap a (.tup f) from I.hok a _ ea);obtain ⟨o,d,g,_⟩:=p;exact W.kia_one W.kitx_tuple I.kIn ⟨o,d,g⟩ e (fun z=>nomatch z) h
 | @dK a kvs ea=>
  cases (show u=Value.ref a from rx);obtain ⟨_,_,m,_,p⟩:=(show ObjOk X.prog X.w H s.heap a (.dK kvs) from I.hok a _ ea);obtain ⟨o,k,j,d,g,_⟩:=p;exact W.kia_one W.kitx_dict I.kIn ⟨o,d,g.1⟩ e (fun z=>nomatch z) h
 | @dT a kvs ea=>
  cases (show u=Value.ref a from rx);obtain ⟨_,_,f,_,o,k,j,d,g,_⟩:=(show ObjOk X.prog X.w H s.heap a (.dT kvs) from I.hok a _ ea);exact W.kia_one W.kitx_dict I.kIn ⟨o,d,g.1⟩ e (fun z=>nomatch z) h
 | @ins a C dx fs ea cl ha hn htk hm=>
  cases (show u=Value.ref a from rx);obtain ⟨l,O,_⟩:=JeX I.hok ea;obtain ⟨r,J,_⟩:=O.look;exact W.kia_one (W.kitx_own (cl.get _) cl.hd ha hn htk hm) I.kIn J e (fun z=>nomatch z) h
end
structure Room (k:Nat) (A:Around):Prop where
 hd:A.handled=none
 dp:A.depth+3*k+5<recursionLimit
 un:A.units+16*k+200<cLine
theorem Room.mono {j k:Nat} (r:Room k A) (h:j<=k):Room j A:=⟨r.hd,by have:=r.dp;ac_nf,by have:=r.un;ac_nf⟩
theorem Room.deeper {k:Nat} (r:Room (k+1) A) (env:Env):Room k (A.deeper env) :=
 ⟨r.hd,by have:=r.dp;show A.depth+1+3*k+5<_;ac_nf,by have:=r.un;show A.units+3+16*k+200<_;ac_nf⟩
variable {kw:List (Str × Value)}
theorem Jhj:(A.under (.builtin "type.__call__" ⟨.ref C::us,kw⟩)).depth=A.depth+1:=by
 first | rfl | simp [Around.under,Code.weight,Code.isCreation,Code.isGuard,Code.isCaller,Code.frames,Code.isFrame,guardIds]
theorem Jhk:(A.under (.builtin "type.__call__" ⟨.ref C::us,kw⟩)).units=A.units+1:=by
 first | rfl | simp [Around.under,Code.cUnits,Code.frames,Code.isFrame]
theorem Room.make {k:Nat} (r:Room (k+1) A) (C:Addr) (us:List Value) (kw:List (Str × Value)):Room k (A.under (.builtin "type.__call__" ⟨.ref C::us,kw⟩)) :=
 ⟨r.hd,by have:=r.dp;rw [Jhj];ac_nf,by have:=r.un;rw [Jhk];ac_nf⟩
theorem Room.depth {k:Nat} (r:Room k A):A.depth<recursionLimit:=by have:=r.dp;ac_nf
theorem Room.units {k:Nat} (r:Room k A):A.units+64<cLine:=by have:=r.un;ac_nf
def tNil:TA:=fun _ H Q=>Q [] H
def tCons (ta:TE) (tr:TA):TA:=fun σ H Q=>ta σ H fun x H1=>tr σ H1 fun xs H2=>Q (x::xs) H2
section
variable {t:TA}
theorem Jac:PA X [] tNil:=fun _ _ _ _ H Q I h=>Calls.spliced_nil ⟨[],H,I, .nil,h⟩
theorem JkZ (ha:PE X e te) (hr:PA X es t) (hs:starEach (e::es) X.env=(false,eval e X.env)::starEach es X.env:=by rfl):PA X (e::es) (tCons te t):=by
 intro b a s σ H Q I h;rw [hs];show wpAny _ _ (spliced ((false,eval e X.env)::backTo b (starEach es X.env))) _ _ s;refine Calls.spliced_cons (thn (ha a s σ H _ I h) fun u l ζ=>?_);obtain ⟨x,f,I1,j,g⟩:=ζ;exact thn (hr b a l σ f _ I1 g) fun m n ζ=>by obtain ⟨k,i,I2,d,c⟩:=ζ;exact ⟨x::k,i,I2, .cons j d,c⟩
def tTup (t:TA):TE:=fun σ H Q=>t σ H fun xs H1=>xs.length<=sizeLine/\∀ p,H1 p=none->Q (.ref p) (upd H1 p (.tup xs))
def tLst (t:TA):TE:=fun σ H Q=>t σ H fun xs H1=>xs.length<=sizeLine/\∀ p,H1 p=none->Q (.ref p) (upd H1 p (.lst xs))
theorem JaD {x1} (h:PA X es t):PE X (.Tuple es x1 pos) (tTup t):=by
 intro a s σ H Q I i;refine wpAny_Tuple_spliced (thn (h pos a s σ H _ I i) fun f c ζ=>?_);obtain ⟨g,d,I1,r,z,q⟩:=ζ;refine ⟨by rw [<- r.length];exact z,?_⟩;have j:d c.heap.objs.size=none:=I1.hok.fresh (Nat.le_refl _);refine ⟨.ref c.heap.objs.size,upd d c.heap.objs.size (.tup g),I1.laid (t':=c.toks) (fun b u e=>Heap.get?_push_of_some _ e) (Nat.le_refl _) ?_,rfl,q _ j⟩;exact ⟨z,f,r,⟨_,Heap.get?_push_size _ rfl,rfl,_,rfl⟩⟩
theorem Jba (h:PA X es t):PE X (.List es pos) (tLst t):=by
 intro a s σ H Q I i;refine wpAny_List_spliced (thn (h pos a s σ H _ I i) fun f c ζ=>?_);obtain ⟨g,d,I1,r,z,q⟩:=ζ;refine ⟨by rw [<- r.length];exact z,?_⟩;have j:d c.heap.objs.size=none:=I1.hok.fresh (Nat.le_refl _);refine ⟨.ref c.heap.objs.size,upd d c.heap.objs.size (.lst g),I1.laid (t':=c.toks) (fun b u e=>Heap.get?_push_of_some _ e) (Nat.le_refl _) ?_,rfl,q _ j⟩;exact ⟨z,f,0,r,Heap.get?_push_size _ rfl⟩
end
abbrev Sp:=List V->Hp->VK->XK->Prop
abbrev CXT:=List Env->Hp->Shared->XK->Value->Shared->Prop
structure Env0 (P:Program) (w:World) (K:W.Frag) (mg:Str->Option Value) (base:Heap) (A:Around) (outer:List Env) (s:Shared) (H:Hp):Prop where
 frames:A.frames=some outer
 mod:Mod K mg base
 bs:∀ b o,base.get? b=some o->s.heap.get? b=some o/\H b=none
 bsz:base.objs.size<=s.heap.objs.size
 funs:s.heap.FunFrames base outer
 frf:∀ b∈frs outer,H b=none
 hok:HOk P w H s.heap
 bare:AllBare s.gens
def CE (outer:List Env) (P:Program) (w:World) (H:Hp) (s:Shared) (Q:VK) (u:Value) (s':Shared):Prop :=
 ∃ v H',s'.os=s.os/\AllBare s'.gens/\Un (frs outer) [] H H' s.heap s'.heap/\HOk P w H' s'.heap/\RelV v u/\Q v H'
def CR (CX:CXT) (outer:List Env) (P:Program) (w:World) (H:Hp) (s:Shared) (Q:VK) (E:XK) (r:Result) (s':Shared):Prop :=
 match r with
 | .ok (.ret u)=>CE outer P w H s Q u s'
 | .ok _=>False
 | .error e=>CX outer H s E e s'
structure FnOk (P:Program) (w:World) (K:W.Frag) (mg:Str->Option Value) (base:Heap) (CX:CXT) (k:Nat) (f:Addr) (fd:FuncData) (ps:List Str) (sp:Sp):Prop where
 len:∀ vs H Q E,sp vs H Q E->vs.length=ps.length
 run:∀ (A:Around) (outer:List Env) (s:Shared) (H:Hp) (args:Args) (us:List Value) (vs:List V) (Q:VK) (E:XK),Room k A->Env0 P w K mg base A outer s H->BindsTo s fd args (ps.zip us)->Vals vs us->sp vs H Q E ->
  codeAny (model P w) A (.call (.ref f) args) (CR CX outer P w H s Q E) s
variable {mg:Str->Option Value} {base:Heap} {outer:List Env}
theorem Env0.make {w:World} {K:W.Frag} {s:Shared} (e:Env0 P w K mg base A outer s H) (C:Addr) (us:List Value) (kw:List (Str × Value)) :
  Env0 P w K mg base (A.under (.builtin "type.__call__" ⟨.ref C::us,kw⟩)) outer s H:=⟨by first | exact e.frames | (simpa [Around.under,Code.envs,Code.isFrame,pushEnvs] using e.frames),e.mod,e.bs,e.bsz,e.funs,e.frf,e.hok,e.bare⟩
section
variable {s':Shared} {s:Shared}
theorem Inv.env0 (I:Inv X pins σ H s):Env0 X.prog X.w X.K X.mg X.base X.A X.stack s H :=
 ⟨I.ok.frames,I.ok.mod,I.bs,Nat.le_trans I.ok.bsz I.sz,I.stack,I.stkFree,I.hok,I.bare⟩
variable {Q:VK}
theorem Inv.after (I:Inv X pins σ H s) (h:CE X.stack X.prog X.w H s Q u s'):EP X pins σ Q u s':=by
 obtain ⟨v,i,j,a,f,c,r,q⟩:=h;obtain ⟨k,g,d,t,e⟩:=s';obtain rfl:e=s.os:=j;exact ⟨v,i,I.call (h':=k) (g':=g) (d':=d) (t':=t) (ch:=[]) f c a (fun b z=>absurd z (by simp)),r,q⟩
end
def tCall (sp:Sp) (dvs:List V) (E:XK) (t:TA):TE:=fun σ H Q=>t σ H fun vs H1=>sp (vs++dvs) H1 Q E
def tMake (C:Addr) (sp:Sp) (dvs:List V) (E:XK) (t:TA):TE:=fun σ H Q=>t σ H fun vs H1=>∀ x dx,H1 x=none->H1 dx=none->dx≠x ->
 sp (.ref x::(vs++dvs)) (upd (upd H1 dx (.own x)) x (.ins C dx [])) (fun v H2=>v=.non/\Q (.ref x) H2) E
def Binds (K:W.Frag) (fd:FuncData) (ps:List Str) (ds:List Value):Prop :=
 ∀ (s:Shared) (us:List Value),K.In s.heap->(us++ds).length=ps.length->BindsTo s fd ⟨us,[]⟩ (ps.zip (us++ds))
variable {fd:FuncData} {ps:List Str}
theorem Binds.all {K:W.Frag} (h:∀ us:List Value,us.length=ps.length->bindArgs fd ⟨us,[]⟩=pure (ps.zip us)):Binds K fd ps []:=fun s us _ a=>by
 rw [append_nil] at a ⊢;exact .of_eq (h us a)
def JbS (CX:CXT) (X:Cx) (E:XK):Prop:=∀ (pins:List (Addr × Obj)) (σ : St) (H:Hp) (s:Shared) (e:Value) (s':Shared),Inv X pins σ H s->CX X.stack H s E e s'->X.xe e s'
section
variable {CX:CXT} {sp:Sp} {dvs:List V} {ds:List Value} {E:XK} {x:Str} {p apos:Pos} {o:Expr} {k:Nat} {f:Addr} {m:Str} {t:TA} {Q:VK} {vs:List V}
theorem Jiy {s:Shared} (F:FnOk X.prog X.w X.K X.mg X.base CX k f fd ps sp) (hr:Room k X.A) (hb:Binds X.K fd ps ds) (hd:Vals dvs ds) (hx:JbS CX X E)
  (I:Inv X pins σ H s) (r:Vals vs us) (h:sp (vs++dvs) H Q E):wpAny (model X.prog X.w) X.A (call (.ref f) us) (EP X pins σ Q) X.xe s:=by
 have b:Vals (vs++dvs) (us++ds):=r.append hd;have c:(us++ds).length=ps.length:=by rw [<- b.length];exact F.len _ _ _ _ h
 refine wpAny_call (codeAny_mono (F.run X.A X.stack s H ⟨us,[]⟩ (us++ds) (vs++dvs) Q E hr I.env0 (hb s us I.kIn c) b h) fun r d a=>?_);cases r with
 | error e=>exact hx pins σ H s e d I a
 | ok fl=>
  cases fl with
  | ret u=>exact I.after a
  | next=>exact False.elim a
  | brk=>exact False.elim a
  | cont=>exact False.elim a
theorem Jk0 (F:FnOk X.prog X.w X.K X.mg X.base CX k f fd ps sp) (hr:Room k X.A) (hg:Gl X x) (hm:X.mg x=some (.ref f)) (hk:W.keepIn X.K (.ref f)=true) (hb:Binds X.K fd ps ds) (hd:Vals dvs ds) (hx:JbS CX X E)
  (ha:PA X (e::es) t) (hdb:(x == ("__debug__" : Str))=false:=by decide) (he:starEach (e::es) X.env=(false,eval e X.env)::starEach es X.env:=by rfl) (hpl:(backTo pos (starEach es X.env)).any (·.1)=false:=by rfl) :
  PE X (.Call (.Name x p) (e::es) [] pos) (tCall sp dvs E t):=by
 intro a s σ H Q I h;refine wpAny_Call_Name_kw (Jcl I hg hm ?_ hdb);refine W.callWith_K (h₀:=X.base) I.ok.mod.kin hk (thn (ha pos a s σ H _ I h) fun c g ζ=>?_) he hpl;obtain ⟨d,b,I1,r,q⟩:=ζ;refine ⟨I1.kIn,?_⟩;exact Jiy F hr hb hd hx I1 r q
structure Mk (K:W.Frag) (C f:Addr):Prop where
 makes:W.makesIn K C=true
 init:W.findIn K (.ref C) "__init__"=some (some (.ref f))
 fn:W.isFn K (.ref f)=true
 kp:W.keepIn K (.ref C)=true
theorem Jg1 {s:Shared} (M:Mk X.K C f) (F:FnOk X.prog X.w X.K X.mg X.base CX k f fd ps sp) (hr:Room (k+1) X.A) (hb:Binds X.K fd ps ds) (hd:Vals dvs ds)
  (hx:JbS CX X E) (I:Inv X pins σ H s) (r:Vals vs us)
  (h:∀ x dx,H x=none->H dx=none->dx≠x->sp (.ref x::(vs++dvs)) (upd (upd H dx (.own x)) x (.ins C dx [])) (fun v H2=>v=.non/\Q (.ref x) H2) E) :
  wpAny (model X.prog X.w) X.A (call (.ref C) us) (EP X pins σ Q) X.xe s:=by
 have c:=h (s.heap.objs.size+1) s.heap.objs.size (I.hok.fresh (Nat.le_succ _)) (I.hok.fresh (Nat.le_refl _)) (Nat.ne_of_lt (Nat.lt_succ_self _));have I2:=Inv.made (C:=C) I;have b:Vals (V.ref (s.heap.objs.size+1)::(vs++dvs)) (Value.ref (s.heap.objs.size+1)::(us++ds)):=.cons rfl (r.append hd);have d:(Value.ref (s.heap.objs.size+1)::us++ds).length=ps.length:=by
  have e:=b.length;rw [F.len _ _ _ _ c] at e;exact e.symm
 refine wpAny_call (Jji (f:=f) I.kIn M.makes M.init (beq_iff_eq.mp M.fn) (codeAny_mono (F.run _ X.stack _ _ ⟨Value.ref (s.heap.objs.size+1)::us,[]⟩ (Value.ref (s.heap.objs.size+1)::(us++ds)) _ _ E (hr.make C us [])
  (I2.env0.make C us []) (hb _ (Value.ref (s.heap.objs.size+1)::us) I2.kIn d) b c) fun r l a=>?_))
 cases r with
 | error e=>exact hx pins σ _ _ e l I2 a
 | ok fl=>
  cases fl with
  | ret u=>
   obtain ⟨v,g,I3,i,j,m⟩:=I2.after a;subst j;exact ⟨i,⟨V.ref (s.heap.objs.size+1),g,I3,rfl,m⟩⟩
  | next=>exact False.elim a
  | brk=>exact False.elim a
  | cont=>exact False.elim a
theorem Jk4 (M:Mk X.K C f) (F:FnOk X.prog X.w X.K X.mg X.base CX k f fd ps sp) (hr:Room (k+1) X.A) (hg:Gl X x) (hm:X.mg x=some (.ref C)) (hb:Binds X.K fd ps ds) (hd:Vals dvs ds) (hx:JbS CX X E)
  (ha:PA X (e::es) t) (hdb:(x == ("__debug__" : Str))=false:=by decide) (he:starEach (e::es) X.env=(false,eval e X.env)::starEach es X.env:=by rfl) (hpl:(backTo pos (starEach es X.env)).any (·.1)=false:=by rfl) :
  PE X (.Call (.Name x p) (e::es) [] pos) (tMake C sp dvs E t):=by
 intro a s σ H Q I h;refine wpAny_Call_Name_kw (Jcl I hg hm ?_ hdb);refine W.callWith_K (h₀:=X.base) I.ok.mod.kin M.kp (thn (ha pos a s σ H _ I h) fun c g ζ=>?_) he hpl;obtain ⟨d,b,I1,r,q⟩:=ζ;refine ⟨I1.kIn,?_⟩;exact Jg1 M F hr hb hd hx I1 r q
theorem Jjv (M:Mk X.K C f) (F:FnOk X.prog X.w X.K X.mg X.base CX k f fd ps sp) (hr:Room (k+1) X.A) (hg:Gl X x) (hm:X.mg x=some (.ref C)) (hb:Binds X.K fd ps ds) (hd:Vals dvs ds) (hx:JbS CX X E)
  (hdb:(x == ("__debug__" : Str))=false:=by decide):PE X (.Call (.Name x p) [] [] pos) (tMake C sp dvs E tNil):=by
 intro a s σ H Q I h;refine wpAny_Call_Name_kw (Jcl I hg hm ?_ hdb);exact W.callWith_K0 I.kIn M.kp (Jg1 (us:=[]) M F hr hb hd hx I .nil h)
end
section
variable {CX:CXT} {ks:List Str} {sp:Sp} {E:XK} {x:Str} {p apos kpos:Pos} {o:Expr} {kws:List Keyword} {tk:TA} {nm:Option Str} {k:Nat} {f:Addr} {m:Str} {t:TA} {gV:List V->List V->List V} {g:List Value->List Value->List Value}
end
structure Jan (N P:List Str) (sc:Scope):Prop where
 kind:sc.kind=.function
 co:sc.isCoroutine=false
 gen:sc.isGenerator=false
 nd:N.Nodup
 pre:N.take P.length=P
 par:∀ x∈P,sc.names.lookup x=some .local\/sc.names.lookup x=some .cell
 nofree:∀ y∈sc.names,y.2≠.free
variable {kindOf:Str->Option NameKind} {x:Str}
theorem Jfy:∀ {binds:List (Str × Value)} {m:Str->Option Value},(∀ v,(x,v)∉binds)->bindL kindOf binds m x=m x
 | [],_,_=>rfl
 | (n,v)::r,m,h=>by
  unfold bindL;rw [Jfy fun w hw=>h w (mem_cons_of_mem _ hw)];split
  ·have : x≠n:=by rintro rfl;exact h v mem_cons_self
   simp [this]
  ·rfl
theorem Jfw:∀ {binds:List (Str × Value)} {m:Str->Option Value},(∀ v,(x,v)∉binds)->bindC kindOf binds m x=m x
 | [],_,_=>rfl
 | (n,v)::r,m,h=>by
  unfold bindC;rw [Jfw fun w hw=>h w (mem_cons_of_mem _ hw)];split
  ·rfl
  ·have : x≠n:=by rintro rfl;exact h v mem_cons_self
   simp [this]
variable {v:Value}
theorem Jfx:∀ {P:List Str} {vs:List Value} {i:Nat} {m:Str->Option Value},P.Nodup->P[i]?=some x->vs[i]?=some v->kindOf x=some .local ->
  bindL kindOf (P.zip vs) m x=some v
 | [],_,_,_,_,h,_,_=>by simp at h
 | _::_,[],_,_,_,_,h,_=>by simp at h
 | p::P,w::vs,0,m,nd,h1,h2,hk=>by
  simp at h1 h2;subst h1;subst h2;show bindL kindOf ((p,w)::P.zip vs) m p=_;unfold bindL;rw [Jfy fun v hv=>(nodup_cons.mp nd).1 (List.of_mem_zip hv).1,if_pos hk];simp
 | p::P,w::vs,i+1,m,nd,h1,h2,hk=>by
  show bindL kindOf ((p,w)::P.zip vs) m x=_;unfold bindL;exact Jfx (i:=i) (nodup_cons.mp nd).2 (by simpa using h1) (by simpa using h2) hk
theorem Jfv:∀ {P:List Str} {vs:List Value} {i:Nat} {m:Str->Option Value},P.Nodup->P[i]?=some x->vs[i]?=some v->kindOf x≠some .local ->
  bindC kindOf (P.zip vs) m x=some v
 | [],_,_,_,_,h,_,_=>by simp at h
 | _::_,[],_,_,_,_,h,_=>by simp at h
 | p::P,w::vs,0,m,nd,h1,h2,hk=>by
  simp at h1 h2;subst h1;subst h2;show bindC kindOf ((p,w)::P.zip vs) m p=_;unfold bindC;rw [Jfw fun v hv=>(nodup_cons.mp nd).1 (List.of_mem_zip hv).1,if_neg hk];simp
 | p::P,w::vs,i+1,m,nd,h1,h2,hk=>by
  show bindC kindOf ((p,w)::P.zip vs) m x=_;unfold bindC;exact Jfv (i:=i) (nodup_cons.mp nd).2 (by simpa using h1) (by simpa using h2) hk
def start (N:List Str) (vs:List V):St:=vs.map some++List.replicate (N.length-vs.length) none
def cxOf (CX:CXT) (P:Program) (w:World) (K:W.Frag) (mg:Str->Option Value) (base:Heap) (N:List Str) (qual:Str) (scope:Scope) (f:Addr) (cd:Value) (A:Around) (outer:List Env) (s:Shared) (H:Hp) (E:XK):Cx where
 prog:=P
 w:=w
 K:=K
 mg:=mg
 base:=base
 A:=A.deeper (envOfC qual scope s.heap.objs.size f cd)
 N:=N
 s₀:=s
 H₀:=H
 env:=envOfC qual scope s.heap.objs.size f cd
 outer:=outer
 stack:=envOfC qual scope s.heap.objs.size f cd::outer
 ex:=[]
 calm:=true
 fn:=fun _=>true
 pn:=[]
 xe:=fun e s'=>wpAny (model P w) (A.deeper (envOfC qual scope s.heap.objs.size f cd)) (leaving (envOfC qual scope s.heap.objs.size f cd) e) (fun _ s''=>CX outer H s E e s'') (fun e' s''=>CX outer H s E e' s'') s'
theorem JgJ {sc:Scope} (h:sc.names.lookup x=some .cell):∃ c,(cellsFrom n sc.names []).lookup x=some c:=by
 have q:=W.cellsFrom_some sc.names n [] (.inl h);exact Option.isSome_iff_exists.mp q
variable {CX:CXT} {qual:Str} {scope:Scope}
theorem Jh1 {w:World} {K:W.Frag} {N:List Str} {f:Addr} {cd:Value} {s s1:Shared} {E:XK} {vs:List V}
  (S:Jan N ps scope) (hd:A.handled=none) (e0:Env0 P w K mg base A outer s H) (hl:vs.length=ps.length) (r:Vals vs us)
  (x:InCallC s s.heap.objs.size (bindL (envOfC qual scope s.heap.objs.size f cd).kindOf (ps.zip us) fun _=>none) (cellsFrom (s.heap.objs.size+1) scope.names []) (bindC (envOfC qual scope s.heap.objs.size f cd).kindOf (ps.zip us) fun _=>none) s1) :
  Inv (cxOf CX P w K mg base N qual scope f cd A outer s H E) [] (start N vs) H s1:=by
 have G:ps.length<=N.length:=by have:=congrArg List.length S.pre;rw [length_take] at this;ac_nf
 obtain ⟨t,I,rfl,C⟩:=x.done;have g:∀ b:Addr,b∉(cxOf CX P w K mg base N qual scope f cd A outer s H E).ex:=fun b z=>absurd (show b∈([]:List Addr) from z) (by simp);refine ⟨⟨e0.mod,S.kind,rfl,rfl,Nat.le_refl _,fun y z c t d=>?_,fun y j=>?_,fun y c _ h=>?_,fun _=>hd,Around.frames_deeper e0.frames, .inr ⟨rfl,rfl⟩,fun b z=>absurd z (g b),e0.bs,e0.bsz,fun b _ _=>g b,fun b z=>absurd z (g b),e0.funs,e0.frf⟩,
  rfl,e0.bare,Un.kept C,⟨_,x.toInCall.ns,fun i y v t d J=>?_⟩,fun y c h=>⟨_,x.cell y c h⟩,e0.hok.fresh (Nat.le_refl _),fun y c h=>?_,fun p l=>absurd (show p∈([]:List (Addr × Obj)) from l) (by simp),e0.hok.kept C,?_⟩
 ·exact name_of_addr x.apart (PySem.mem_of_lookup t) (PySem.mem_of_lookup d)
 ·have j:scope.names.lookup y=some .cell\/scope.names.lookup y=some .free:=j;rcases j with j | j
  ·exact JgJ j
  ·exact absurd rfl (S.nofree _ (PySem.mem_of_lookup j))
 ·exact Nat.le_of_lt (x.above y c (PySem.mem_of_lookup h))
 ·have o:i<vs.length:=by
   unfold start at d;by_cases o:i<vs.length
   ·exact o
   ·rw [List.getElem?_append_right (by simpa using o)] at d;rw [List.getElem?_replicate] at d;split at d <;> cases d
  have D:vs[i]?=some v:=by
   unfold start at d;rw [List.getElem?_append_left (by simpa using o),List.getElem?_map] at d;cases e:vs[i]? with
   | none=>rw [e] at d;cases d
   | some a=>rw [e] at d;cases d;rfl
  obtain ⟨u,B,F⟩:=r.get D;have l:ps[i]?=some y:=by
   rw [<- S.pre,List.getElem?_take_of_lt ∅];exact t
  have m:ps.Nodup:=by rw [<- S.pre];exact S.nd.sublist (List.take_sublist _ _)
  refine ⟨u,F,?_⟩;rcases S.par y (List.mem_of_getElem? l) with k | k
  ·exact .inl ⟨k,Jfx m l B k⟩
  ·obtain ⟨c,e⟩:=JgJ (n:=s.heap.objs.size+1) k;refine .inr ⟨.inl k,c,e,?_⟩;have q:=x.cell y c e;rw [Jfv m l B (by show scope.names.lookup y≠_;rw [k];decide)] at q;exact q
 ·exact e0.hok.fresh (Nat.le_of_lt (x.above y c (PySem.mem_of_lookup h)))
 ·unfold start;show _=N.length;rw [length_append,length_map,length_replicate];ac_nf
theorem fn_of {w:World} {K:W.Frag} {k:Nat} {f:Addr} {name:Str} {params:Arguments} {dV kV doc pm cdv ct oc:Value} {an od:Option Addr}
  {osl:Array (Option Value)} {N ps:List Str} {sp:Sp} (lk:K.lookup f=some ⟨oc,od, .func (W.fnOf name qual params body scope dV kV doc pm an cdv ct),osl⟩) (hcd:W.codeIn K cdv qual=true) (S:Jan N ps scope)
  (len:∀ vs H Q E,sp vs H Q E->vs.length=ps.length)
  (hbody:∀ (A:Around) (outer:List Env) (s:Shared) (H:Hp) (vs:List V) (Q:VK) (E:XK),Room k (A.deeper (envOfC qual scope s.heap.objs.size f cdv))->sp vs H Q E ->
   ∃ t,PSs (cxOf CX P w K mg base N qual scope f cdv A outer s H E) body t/\t { nx:=fun _ H'=>Q .non H',rt:=Q } (start N vs) H) :
  FnOk P w K mg base CX (k+1) f (W.fnOf name qual params body scope dV kV doc pm an cdv ct) ps sp:=by
 refine ⟨len,fun A outer s H p B vs Q E m d L r h=>?_⟩;have F:=len _ _ _ _ h;have KX:K.In s.heap:=d.mod.kin.keeps fun b o e=>(d.bs b o e).1;have j:s.heap.NoLimit:=d.mod.nolimit.keeps fun b o e=>(d.bs b o e).1;have a:∀ y∈ps.zip B,scope.names.lookup y.1=some .local\/(scope.names.lookup y.1=some .cell/\((cellsFrom (s.heap.objs.size+1) scope.names []).lookup y.1).isSome=true):=fun ⟨n,v⟩ G=>by
  rcases S.par n (List.of_mem_zip G).1 with q | q
  ·exact .inl q
  ·exact .inr ⟨q,W.cellsFrom_some _ _ _ (.inl q)⟩
 refine codeAny_call_function m.depth (KX _ _ lk) rfl S.co S.gen rfl (W.codeRec_of KX hcd) (L _ _ _ _ ?_);refine wpAny_newFunctionEnv_cells S.kind a fun M D z x=>?_;subst D;refine ⟨j.keeps x.toInCall.keep,codeAny_func ?_⟩;obtain ⟨t,C,R⟩:=hbody A outer s H vs Q E (m.deeper _) h;have I:Inv (cxOf CX P w K mg base N qual scope f cdv A outer s H E) [] (start N vs) H z:=Jh1 S m.hd d F r x;refine wpAny_mono (C [] z (start N vs) H _ I R) (fun O l c=>?_) fun e l c=>c;have g:∀ {σ':St} {H':Hp} {v:V} {u:Value},Inv (cxOf CX P w K mg base N qual scope f cdv A outer s H E) [] σ' H' l->RelV v u->Q v H'->CE outer P w H s Q u l :=
  fun {σ' H' v u} J i q=>⟨v,H',J.os,J.bare,J.base,J.hok,i,q⟩
 cases O with
 | ret u=>
  obtain ⟨v,σ',H',J,i,q⟩:=c;exact g J i q
 | next=>
  obtain ⟨σ',H',J,q⟩:=c;exact g (v:=V.non) (u:=Value.none) J rfl q
 | brk=>
  obtain ⟨_,_,_,q⟩:=c;exact False.elim q
 | cont=>
  obtain ⟨_,_,_,q⟩:=c;exact False.elim q
section
variable {p:Pos} {id T:String} {r:List V->Hp->VK->Prop} {t:TA}
def tCB (r:List V->Hp->VK->Prop) (t:TA):TE:=fun σ H Q=>t σ H fun vs H1=>r vs H1 Q
theorem Jay (hc:CallR X (.builtin id) r) (hg:Gl X x) (hm:X.mg x=none) (hv:bootBuiltins x=some (.builtin id)) (ha:PA X (e::es) t) (hn:x≠"__name__":=by decide) (hdb:(x == ("__debug__" : Str))=false:=by decide)
  (he:starEach (e::es) X.env=(false,eval e X.env)::starEach es X.env:=by rfl) (hpl:(backTo pos (starEach es X.env)).any (·.1)=false:=by rfl):PE X (.Call (.Name x p) (e::es) [] pos) (tCB r t):=by
 intro a s σ H Q I h;refine wpAny_Call_Name_kw (JdX I hg hm hv ?_ hn hdb);exact PyProof.Rows.callWith_builtin1 (thn (ha pos a s σ H _ I h) fun c i ζ=>by obtain ⟨f,b,I1,g,d⟩:=ζ;exact hc a i σ b f c Q I1 g d) he hpl
theorem Jec (hc:CallR X (.type T) r) (hg:Gl X x) (hm:X.mg x=none) (hv:bootBuiltins x=some (.type T)) (ha:PA X (e::es) t) (hn:x≠"__name__":=by decide) (hdb:(x == ("__debug__" : Str))=false:=by decide)
  (he:starEach (e::es) X.env=(false,eval e X.env)::starEach es X.env:=by rfl) (hpl:(backTo pos (starEach es X.env)).any (·.1)=false:=by rfl):PE X (.Call (.Name x p) (e::es) [] pos) (tCB r t):=by
 intro a s σ H Q I h;refine wpAny_Call_Name_kw (JdX I hg hm hv ?_ hn hdb);exact PyProof.Rows.callWith_type1 (thn (ha pos a s σ H _ I h) fun c i ζ=>by obtain ⟨f,b,I1,g,d⟩:=ζ;exact hc a i σ b f c Q I1 g d) he hpl
end
end L2
namespace HT
open PySem PyProof.Rows
section
open PySem.SeqAt
open PySem.AutoSeq1 (wpAny_loadPart')
open PySem.MeetsSeq PySem.MeetsSeq2 PySem.MeetsSeq3
end
section
variable {prog:Program} {A:Around} {E:Value->Shared->Prop} {w:World} {s:Shared}
theorem cat_tup {t b:Addr} {vs ws:List Value} {Q:Value->Shared->Prop} (ht:IsTup s.heap t vs.toArray) (hb:IsTup s.heap b ws.toArray) (hv:vs≠[])
  (h1:ws=[]->Q (.ref t) s) (h2:ws≠[]->Q (.ref s.heap.objs.size) { s with heap:=s.heap.push { cls:=.type "tuple",data:=.seq (vs++ws).toArray } })
  (hsz:vs.length+ws.length<=sizeLine):wpAny (model prog w) A (binaryOp .Add (.ref t) (.ref b)) Q E s:=by
 obtain ⟨⟨cls,p,data,q⟩,h,k,n,l⟩:=id ht;obtain ⟨⟨m,f,j,c⟩,a,g,o,d⟩:=id hb;simp only at k l g d;subst k l g d;have e:vs.toArray++ws.toArray=(vs++ws).toArray:=by simp
 by_cases i:ws=[]
 ·exact concat_meets ⟨_,h,rfl⟩ ⟨_,a,rfl⟩ noFill_tuple_add seq_tuple_add PySem.F.slot_tuple_add PySem.F.entry_tuple_add (PySem.F.args_tuple_add_2 _ _)
   (tuple_addW1 t b vs.toArray ws.toArray n o p f q c (by simpa using hv) (by simp [i])) ⟨h,a,h1 i⟩
 ·refine concat_meets ⟨_,h,rfl⟩ ⟨_,a,rfl⟩ noFill_tuple_add seq_tuple_add PySem.F.slot_tuple_add PySem.F.entry_tuple_add (PySem.F.args_tuple_add_2 _ _)
   (tuple_addW2 t b vs.toArray ws.toArray n o p f q c (by simpa using hv) (by simpa using i) (by rw [size_toArray,size_toArray];exact hsz)) ⟨h,a,?_⟩
  rw [e];exact h2 i
end
end HT
namespace L2
open PySem PySem.Spec PyProof.Rows
abbrev TO:=St->Hp->(Option Int->Hp->Prop)->Prop
def PO (X:Cx) (e:Option Expr) (t:TO):Prop :=
 ∀ (pins:List (Addr × Obj)) (s:Shared) (σ : St) (H:Hp) (Q:Option Int->Hp->Prop),Inv X pins σ H s->t σ H Q ->
  wpAny (model X.prog X.w) X.A (evalPart e X.env) (fun u s'=>∃ o H',Inv X pins σ H' s'/\IsPart u o/\Q o H') X.xe s
section
variable {X:Cx} {e:Expr} {te:TE} {hi:Option Expr} {tl th:TO} {pos p2:Pos} {lo:Option Expr}
def rCatT (K:W.Frag):R2:=fun x y H Q=>∃ a b xs ys,x=.ref a/\y=.ref b/\SqT K H a xs/\SqT K H b ys/\xs≠[]/\xs.length+ys.length<=sizeLine /\
 (ys=[]->Q (.ref a) H)/\(ys≠[]->∀ p,H p=none->Q (.ref p) (upd H p (.tup (xs++ys))))
variable {xs:List V} {us:List Value}
theorem Vals.nil_iff (r:Vals xs us):us=[]↔xs=[]:=by
 cases r with
 | nil=>simp
 | cons _ _=>simp
theorem JkT:OpR X (binaryOp .Add) (rCatT X.K):=by
 intro f s σ H x y v u Q I r t h;obtain ⟨a,b,C,k,rfl,rfl,j,A,n,e,p,i⟩:=h;cases r;cases t;obtain ⟨l,d,B,_⟩:=I.tuple j;obtain ⟨g,c,m,_⟩:=I.tuple A;refine HT.cat_tup B m (fun z=>n (d.nil_iff.mp z)) (fun z=>⟨.ref a,H,I,rfl,p (c.nil_iff.mp z)⟩) (fun z=>?_) (by rw [<- d.length, <- c.length];exact e);refine ⟨.ref s.heap.objs.size,_,I.laid (t':=s.toks) (o:=.tup (C++k)) (fun b D q=>Heap.get?_push_of_some _ q) (Nat.le_refl _) ?_,rfl,i (fun w=>z (c.nil_iff.mpr w)) _ (I.hok.fresh (Nat.le_refl _))⟩;exact ⟨by rw [length_append];exact e,_,d.append c,IsTup.new _ _⟩
end
def ixN (n:Nat) (i:Int):Option Nat:=if 0<=i then (if i<n then some i.toNat else none) else if -(n:Int)<=i then some (i+n).toNat else none
variable {α:Type}
def atI (xs:List α) (i:Int):Option α:=(ixN xs.length i).bind fun j=>xs[j]?
variable {n j:Nat}
theorem JkC {i:Int} (h:ixN n i=some j):seqIndex? i n=some j/\j<n/\-(n:Int)<=i/\i<n:=by
 unfold ixN at h;by_cases b:0<=i
 ·rw [if_pos b] at h;by_cases a:i<n
  ·rw [if_pos a] at h;have e:i.toNat=j:=Option.some.inj h;exact ⟨by rw [seqIndex_of b a,e],by ac_nf,by ac_nf,a⟩
  ·rw [if_neg a] at h;cases h
 ·rw [if_neg b] at h;by_cases a : -(n:Int)<=i
  ·rw [if_pos a] at h;have e:(i+n).toNat=j:=Option.some.inj h;exact ⟨by rw [seqIndex_neg ∅ a,e],by ac_nf,a,by ac_nf⟩
  ·rw [if_neg a] at h;cases h
theorem Jf5 {xs:List α} {i:Int} {v : α} (h:atI xs i=some v):∃ j,seqIndex? i xs.length=some j/\xs[j]?=some v/\j<xs.length/\-(xs.length:Int)<=i/\i<xs.length:=by
 unfold atI at h;cases e:ixN xs.length i with
 | none=>rw [e] at h;cases h
 | some j=>
  rw [e] at h;obtain ⟨a,b,d,c⟩:=JkC e;exact ⟨j,a,h,b,d,c⟩
theorem Jb6 {xs:List α} {v : α} (h:xs[j]?=some v):atI xs (j:Int)=some v:=by
 have a:j<xs.length:=(List.getElem?_eq_some_iff.mp h).1;have e:ixN xs.length (j:Int)=some j:=by
  unfold ixN;rw [if_pos ∅,if_pos ∅];simp
 unfold atI;rw [e];exact h
def Jkm (b:Expr):Prop:=∀ o i,subscripted b false o i=operate [o,i] (getItem o i)
def IxR (X:Cx) (r:R2):Prop :=
 ∀ (value slice:Expr) (pins:List (Addr × Obj)) (s:Shared) (σ : St) (H:Hp) (x y:V) (v u:Value) (Q:VK),Inv X pins σ H s->RelV x v->RelV y u->r x y H Q ->
  subscripted slice false v u=operate [v,u] (getItem v u)->wpAny (model X.prog X.w) X.A (subscriptTail value slice v u) (EP X pins σ Q) X.xe s
def MtR (X:Cx) (id:String) (r:V->List V->Hp->VK->Prop):Prop :=
 ∀ (pins:List (Addr × Obj)) (s:Shared) (σ : St) (H:Hp) (x:V) (xs:List V) (v:Value) (us:List Value) (Q:VK),Inv X pins σ H s->RelV x v->Vals xs us->r x xs H Q ->
  wpAny (model X.prog X.w) X.A (call (.builtin id) (v::us)) (EP X pins σ Q) X.xe s
section
variable {X:Cx} {a b:Expr} {ta tb:TE} {pos:Pos}
theorem pe_ix {r:R2} (hr:IxR X r) (ha:PE X a ta) (hb:PE X b tb) (hs:Jkm b:=by exact fun _ _=>rfl):PE X (.Subscript a b pos) (tOp r ta tb):=by
 intro c s σ H Q I h;exact Subscript_ (binT ha hb I h fun v u e x y f I2 g d q=>hr a b c e σ f x y v u Q I2 g d q (hs _ _))
def rIxL (K:W.Frag):R2:=fun x y H Q=>∃ p xs i v,x=.ref p/\y=.int i/\SqL K H p xs/\atI xs i=some v/\Q v H
def rIxT (K:W.Frag):R2:=fun x y H Q=>∃ p xs i v,x=.ref p/\y=.int i/\SqT K H p xs/\atI xs i=some v/\Q v H
def rIxS:R2:=fun x y H Q=>∃ z i c,x=.str z/\y=.int i/\z.length<=sizeLine/\atI z.cps.toList i=some c/\Q (.str ⟨#[c]⟩) H
theorem JkD:IxR X (rIxL X.K):=by
 intro k d a s σ H x y v u Q I E G h n;obtain ⟨p,O,i,z,rfl,rfl,J,D,q⟩:=h;cases E;obtain ⟨t,rfl⟩:=G;obtain ⟨f,r,l,N⟩:=I.list J;obtain ⟨j,c,C,P,L,B⟩:=Jf5 D;obtain ⟨w,m,g⟩:=r.get C;have F:=r.length;have M:=JeG;have b:EP X a σ Q w s:=⟨z,H,I,g,q⟩;by_cases o:0<=i
 ·have e:i.toNat=j:=by
   rw [seqIndex_of o B] at c;exact Option.some.inj c
  exact item_listR l.isList o ∅ (by rw [e];simpa using m) b n
 ·have e:(i+(f.toArray.size:Int)).toNat=j:=by
   rw [seqIndex_neg ∅ L] at c;rw [size_toArray, <- F];exact Option.some.inj c
  exact subscriptTail_builtinR (x:=w) l.isList.typeIs slot_list_getitem.lookup
   (wpAny_getItem_list_neg (Q:=fun r A=>r=w/\EP X a σ Q r A) l.isList ∅ (by rw [size_toArray] <;> ac_nf) ∅ (by rw [e];simpa using m) ⟨rfl,b⟩) n
theorem JlH:IxR X (rIxT X.K):=by
 intro e b a s σ H x y v u Q I n B h D;obtain ⟨p,L,i,z,rfl,rfl,E,m,q⟩:=h;cases n;obtain ⟨t,rfl⟩:=B;obtain ⟨g,r,f,J⟩:=I.tuple E;obtain ⟨j,C,l,N,M,F⟩:=Jf5 m;obtain ⟨w,o,d⟩:=r.get l;have A:=r.length;have G:=JeG;have c:EP X a σ Q w s:=⟨z,H,I,d,q⟩;exact subscriptTail_builtinR (x:=w) f.typeIs slot_tuple_getitem.lookup
  (getItem_tuple (j:=j) (Q:=fun r k=>r=w/\EP X a σ Q r k) f ∅ ∅ (by rw [size_toArray, <- A];exact C) (by simpa using o) ⟨rfl,c⟩) D
theorem JlG:IxR X rIxS:=by
 intro b a d s σ H x y v u Q I l m h p;obtain ⟨z,i,c,rfl,rfl,C,k,q⟩:=h;obtain ⟨t,rfl⟩:=l;obtain ⟨A,rfl⟩:=m;obtain ⟨j,e,g,D,r,f⟩:=Jf5 k;have n:z.cps.toList.length=z.length:=by simp [Str.length]
 rw [n] at e r f;have B:=JeG;exact tail_any (typeIs_str s z t) slot_str_getitem.lookup (getItem_str (c:=c) (by
  have o:decide (i < -(2 ^ 63:Int))=false:=decide_eq_false ∅;have w:decide (i ≥ 2 ^ 63)=false:=decide_eq_false ∅;rw [o,w,Bool.or_false]) (by rw [e];simpa using g) ⟨.str ⟨#[c]⟩,H,I.tok _,⟨_,rfl⟩,q⟩) p
def flatV:V->Bool
 | .non=>true
 | .bl _=>true
 | .int _=>true
 | .str _=>true
 | _=>false
def eqV:V->V->Bool
 | .non, .non=>true
 | .bl a, .bl b=>a == b
 | .bl a, .int b=>(if a then 1 else 0) == b
 | .int a, .bl b=>a == (if b then 1 else 0)
 | .int a, .int b=>a == b
 | .str a, .str b=>a == b
 | _,_=>false
variable {A:Around} {y x:V} {u v:Value}
theorem JjU {s:Shared} (ry:RelV y u) (rx:RelV x v) (fy:flatV y=true) (fx:flatV x=true):SeqAt.EqAt A s u v (eqV y x):=by
 cases y with
 | non=>
  cases ry;cases x with
  | non=>cases rx;exact SeqAt.EqAt.same _
  | bl b=>cases rx;exact SeqAt.EqAt.none_bool b
  | int b=>obtain ⟨t,rfl⟩:=rx;exact SeqAt.EqAt.none_int b t
  | str b=>obtain ⟨t,rfl⟩:=rx;exact SeqAt.EqAt.none_str b t
  | _=>exact absurd (show false=true from fx) Bool.false_ne_true
 | bl a=>
  cases ry;cases x with
  | non=>cases rx;exact SeqAt.EqAt.bool_none a
  | bl b=>cases rx;exact SeqAt.EqAt.bool_bool a b
  | int b=>obtain ⟨t,rfl⟩:=rx;exact SeqAt.EqAt.bool_int a b t
  | str b=>obtain ⟨t,rfl⟩:=rx;exact SeqAt.EqAt.bool_str a b t
  | _=>exact absurd (show false=true from fx) Bool.false_ne_true
 | int a=>
  obtain ⟨c,rfl⟩:=ry;cases x with
  | non=>cases rx;exact SeqAt.EqAt.int_none a c
  | bl b=>cases rx;exact SeqAt.EqAt.int_bool a c b
  | int b=>obtain ⟨t,rfl⟩:=rx;exact SeqAt.EqAt.int_int a c b t
  | str b=>obtain ⟨t,rfl⟩:=rx;exact SeqAt.EqAt.int_str a c b t
  | _=>exact absurd (show false=true from fx) Bool.false_ne_true
 | str a=>
  obtain ⟨c,rfl⟩:=ry;cases x with
  | non=>cases rx;exact SeqAt.EqAt.str_none a c
  | bl b=>cases rx;exact SeqAt.EqAt.str_bool a c b
  | int b=>obtain ⟨t,rfl⟩:=rx;exact SeqAt.EqAt.str_int a c b t
  | str b=>obtain ⟨t,rfl⟩:=rx;exact SeqAt.EqAt.str_str a c b t
  | _=>exact absurd (show false=true from fx) Bool.false_ne_true
 | _=>exact absurd (show false=true from fy) Bool.false_ne_true
def eqU (x:V) (u:Value):Bool:=match u with
 | .none=>eqV .non x
 | .bool b=>eqV (.bl b) x
 | .int i _=>eqV (.int i) x
 | .str z _=>eqV (.str z) x
 | _=>false
theorem JjW (r:RelV y u) (f:flatV y=true):eqU x u=eqV y x:=by
 cases y with
 | non=>cases r;rfl
 | bl b=>cases r;rfl
 | int i=>obtain ⟨t,rfl⟩:=r;rfl
 | str z=>obtain ⟨t,rfl⟩:=r;rfl
 | _=>exact absurd (show false=true from f) Bool.false_ne_true
theorem Jf4:∀ {xs:List V} {us:List Value},Vals xs us->xs.all flatV=true->us.any (eqU x)=xs.any fun y=>eqV y x
 | _,_, .nil,_=>rfl
 | y::xs,u::us, .cons r t,f=>by
  rw [List.all_cons,Bool.and_eq_true] at f;rw [any_cons,any_cons,JjW r f.1,Jf4 t f.2]
theorem Je1 {s:Shared} (rx:RelV x v) (fx:flatV x=true):∀ {xs:List V} {us:List Value},Vals xs us->xs.all flatV=true->∀ u∈us,SeqAt.EqAt A s u v (eqU x u)
 | _,_, .nil,_=>fun u hu=>by cases hu
 | y::xs,u::us, .cons r t,f=>fun u' hu=>by
  rw [List.all_cons,Bool.and_eq_true] at f;rcases mem_cons.mp hu with rfl | hu
  ·rw [JjW r f.1];exact JjU r rx f.1 fx
  ·exact Je1 rx fx t f.2 u' hu
def inV (x:V) (xs:List V):Bool:=xs.any fun y=>eqV y x
def rIn (K:W.Frag) (neg:Bool):R2:=fun x y H Q=>∃ p xs,y=.ref p/\(SqL K H p xs\/SqT K H p xs)/\flatV x=true/\xs.all flatV=true/\Q (.bl (if neg then !inV x xs else inV x xs)) H
theorem Jih:OpR X (compareOp .In) (rIn X.K false):=by
 intro g s σ H x y v u Q I f k h;obtain ⟨p,l,rfl,b,i,c,q⟩:=h;cases k;rcases b with b | b
 ·obtain ⟨a,r,e,j⟩:=I.list b;refine SeqAt.in_listAt (eqU x) e.isList (fun w d=>Je1 f i r c w (by simpa using d)) ⟨.bl _,H,I,rfl,?_⟩;rw [show a.toArray.any (eqU x)=a.any (eqU x) by simp,Jf4 r c];exact q
 ·obtain ⟨a,r,e,j⟩:=I.tuple b;refine SeqAt.in_tupleAt (eqU x) e (fun w d=>Je1 f i r c w (by simpa using d)) ⟨.bl _,H,I,rfl,?_⟩;rw [show a.toArray.any (eqU x)=a.any (eqU x) by simp,Jf4 r c];exact q
theorem JfA:CallR X (.builtin "len") (fun xs H Q=>∃ p ys,xs=[.ref p]/\(SqL X.K H p ys\/SqT X.K H p ys)/\Q (.int ys.length) H):=by
 intro f s σ H xs j Q I r h;obtain ⟨p,ys,rfl,b,q⟩:=h;obtain ⟨u,rfl,i⟩:=vals1 r;cases i;have k:=JeG;rcases b with b | b
 ·obtain ⟨c,d,e,g⟩:=I.list b;have a:=d.length;exact Calls.call_len_list e.isList (by simp only [size_toArray] <;> ac_nf) ⟨.int ys.length,H,I.tok _,⟨s.toks+1,by rw [size_toArray,a]⟩,q⟩
 ·obtain ⟨c,d,e,g⟩:=I.tuple b;have a:=d.length;exact len_tuple e (by simp only [size_toArray] <;> ac_nf) ⟨.int ys.length,H,I.tok _,⟨s.toks+1,by rw [size_toArray,a]⟩,q⟩
theorem JfB:CallR X (.builtin "len") (fun xs H Q=>∃ z,xs=[.str z]/\z.length<=sizeLine/\Q (.int z.length) H):=by
 intro a s σ H xs b Q I r h;obtain ⟨z,rfl,d,q⟩:=h;obtain ⟨u,rfl,t,rfl⟩:=vals1 r;have c:=JeG;exact len_str ∅ ⟨.int z.length,H,I.tok _,⟨_,rfl⟩,q⟩
theorem JfC:CallR X (.type "list") (fun xs H Q=>∃ p ys,xs=[.ref p]/\(SqL X.K H p ys\/SqT X.K H p ys)/\∀ l,H l=none->Q (.ref l) (upd H l (.lst ys))):=by
 intro k s σ H xs B Q I r h;obtain ⟨p,ys,rfl,t,q⟩:=h;obtain ⟨u,rfl,A⟩:=vals1 r;cases A;have g:∀ (a:List Value),Vals ys a->ys.length<=sizeLine->∀ (c:Heap) (d:Nat),(∀ b o',s.heap.get? b=some o'->c.get? b=some o') ->
   c.get? s.heap.objs.size=some { cls:=.type "list",dict:=none,data:=.seq a.toArray d,slots:=#[] }->EP X k σ Q (.ref s.heap.objs.size) { s with heap:=c }:=fun a f i c d m e=>
  ⟨.ref s.heap.objs.size,_,I.laid (t':=s.toks) m (Nat.le_refl _) (show ObjOk X.prog X.w _ c _ (.lst ys) from ⟨i,a,d,f,e⟩),rfl,q _ (I.hok.fresh (Nat.le_refl _))⟩
 rcases t with t | t
 ·obtain ⟨a,f,y,i⟩:=I.list t;have j:=f.length;obtain ⟨o,z,x,n,v⟩:=y.isList;exact call_list_seq p (.inl rfl) z x v (fun c d m e=>g a f i c d m e) (by simp only [size_toArray] <;> ac_nf)
 ·obtain ⟨a,f,y,i⟩:=I.tuple t;have j:=f.length;obtain ⟨o,z,x,n,v⟩:=y;exact call_list_seq p (.inr rfl) z x v (fun c d m e=>g a f i c d m e) (by simp only [size_toArray] <;> ac_nf)
def tyV (K:W.Frag) (T:String) (x:V) (H:Hp):Prop:=match x with
 | .str _=>T="str"
 | .int _=>T="int"
 | .ref p=>(T="list"/\∃ xs,SqL K H p xs)\/(T="tuple"/\∃ o,K.lookup p=some o/\o.cls=.type "tuple"/\o.dict=none) \/
   (T="dict"/\((∃ kvs,H p=some (.dK kvs))\/∃ kvs,H p=some (.dT kvs)))\/(T="set"/\∃ S n,H p=some (.set S n))
 | _=>False
variable {pins:List (Addr × Obj)} {σ:St} {H:Hp} {T:String}
theorem Jkg {s:Shared} (I:Inv X pins σ H s) (r:RelV x v) (ty:tyV X.K T x H) :
  s.TypeIs v T/\∀ a,v=.ref a->∃ ob,s.heap.get? a=some ob/\ob.dict=none:=by
 cases x with
 | str z=>
  obtain ⟨t,rfl⟩:=r;cases (show T="str" from ty);exact ⟨typeIs_str s z t,fun _ e=>nomatch e⟩
 | int i=>
  obtain ⟨t,rfl⟩:=r;cases (show T="int" from ty);exact ⟨typeIs_int s i t,fun _ e=>nomatch e⟩
 | ref p=>
  cases r;rcases ty with ⟨rfl,xs,hq⟩ | ⟨rfl,o,hk,hc,d⟩ | ⟨rfl,hk⟩ | ⟨rfl,S,n,hk⟩
  ·obtain ⟨h,_,g,_⟩:=I.list hq;refine ⟨g.isList.typeIs,fun a e=>?_⟩;cases e;obtain ⟨o,n,e,c,d,_⟩:=g;exact ⟨o,e,d⟩
  ·refine ⟨⟨o,I.kIn p o hk,hc⟩,fun a e=>?_⟩;cases e;exact ⟨o,I.kIn _ o hk,d⟩
  ·have z:∃ o,s.heap.get? p=some o/\o.ExactDict:=by
    rcases hk with ⟨kvs,hk⟩ | ⟨kvs,hk⟩
    ·obtain ⟨_,_,_,_,o,_,_,e,b,_⟩:=I.hok p _ hk;exact ⟨o,e,b⟩
    ·obtain ⟨_,_,_,_,o,_,_,e,b,_⟩:=I.hok p _ hk;exact ⟨o,e,b⟩
   obtain ⟨o,e,b⟩:=z;refine ⟨⟨o,e,b.1⟩,fun a f=>?_⟩;cases f;exact ⟨o,e,b.2.1⟩
  ·obtain ⟨o,_,_,_,e,b,_⟩:=I.hok p _ hk;refine ⟨⟨o,e,b.1⟩,fun a f=>?_⟩;cases f;exact ⟨o,e,b.2.1⟩
 | _=>exact False.elim ty
def tBM0 (K:W.Frag) (T:String) (r:V->List V->Hp->VK->Prop) (to:TE):TE:=fun σ H Q=>to σ H fun x H1=>tyV K T x H1/\r x [] H1 Q
def tBM (K:W.Frag) (T:String) (r:V->List V->Hp->VK->Prop) (to:TE) (t:TA):TE:=fun σ H Q=>to σ H fun x H1=>tyV K T x H1/\t σ H1 fun xs H2=>r x xs H2 Q
variable {o e:Expr} {es:List Expr} {to:TE} {name:Str} {apos cpos:Pos} {id:String} {r:V->List V->Hp->VK->Prop} {t:TA}
theorem Jl0 (pa:PlainAttrs T) (slot:Slot T name id) (hty:typeOf (.builtin id)=pure (.type "method_descriptor")) (hm:MtR X id r) (ho:PE X o to)
  (hbase:attributeBase o name X.env (eval o X.env)=eval o X.env:=by rfl) (hline:(apos.endLine == cpos.line)=true:=by rfl):PE X (.Call (.Attribute o name apos) [] [] cpos) (tBM0 X.K T r to):=by
 intro a s σ H Q I h;refine wpAny_Call_method0_late hbase hline (thn (ho a s σ H _ I h) fun v i ζ=>?_);obtain ⟨x,c,I1,b,g,f⟩:=ζ;obtain ⟨d,e⟩:=Jkg I1 b g;exact ⟨T,id,pa,slot,hty,d,e,Calls.callWith_builtin rfl (PySem.evalArgs_none (hm a i σ c x [] v [] Q I1 b .nil f))⟩
theorem pe_bm (pa:PlainAttrs T) (slot:Slot T name id) (hty:typeOf (.builtin id)=pure (.type "method_descriptor")) (hm:MtR X id r) (ho:PE X o to) (ha:PA X (e::es) t)
  (hbase:attributeBase o name X.env (eval o X.env)=eval o X.env:=by rfl)
  (hfew:((backTo cpos (starEach (e::es) X.env)).all (fun x=>!x.1)&&(backToKw cpos (keywordEach [] X.env)).all (fun x=>x.1.isSome)
   && decide ((e::es).length+([]:List Keyword).length+(if ([]:List Keyword).isEmpty then 0 else 1)<30))=true:=by rfl)
  (hline:(apos.endLine == cpos.line)=true:=by rfl) (hs:starEach (e::es) X.env=(false,eval e X.env)::starEach es X.env:=by rfl) (hplain:(backTo cpos (starEach es X.env)).any (·.1)=false:=by rfl) :
  PE X (.Call (.Attribute o name apos) (e::es) [] cpos) (tBM X.K T r to t):=by
 intro a s σ H Q I h;refine wpAny_Call_method_late hbase hfew hline rfl (thn (ho a s σ H _ I h) fun v u ζ=>?_);obtain ⟨x,k,I1,b,g,n⟩:=ζ;obtain ⟨q,m⟩:=Jkg I1 b g;refine ⟨T,id,pa,slot,hty,q,m,?_⟩;have c:=ha cpos a u σ k _ I1 n;rw [hs] at c ⊢;refine Calls.callWith_builtin (by show (false||(backTo cpos (starEach es X.env)).any (·.1))=false;rw [hplain] <;> rfl) (Calls.evalArgs_plain ?_);exact thn c fun f l ζ=>by obtain ⟨i,p,I2,j,d⟩:=ζ;exact hm a l σ p x i v f Q I2 b j d
end
def MtM (X:Cx) (id:String) (r:V->List V->Hp->VK->Prop):Prop :=
 ∀ (pins:List (Addr × Obj)) (s:Shared) (σ : St) (H:Hp) (x:V) (xs:List V) (v:Value) (us:List Value) (Q:VK),Inv X pins σ H s->RelV x v->Vals xs us->r x xs H Q ->
  wpAny (model X.prog X.w) X.A (call (.builtin id) (v::us)) (EP X pins σ Q) X.xe s
theorem Vals.one:∀ {x:V} {us:List Value},Vals [x] us->∃ u,us=[u]/\RelV x u
 | _,_, .cons r .nil=>⟨_,rfl,r⟩
theorem Vals.zero:∀ {us:List Value},Vals [] us->us=[]
 | _, .nil=>rfl
variable {xs:List V}
theorem Vals.dropLast {us:List Value} (h:Vals xs us):Vals xs.dropLast us.dropLast:=by
 induction h with
 | nil=>exact .nil
 | cons r t ih=>
  cases t with
  | nil=>exact .nil
  | cons q t'=>exact .cons r ih
theorem Jhe (l:List α):l.eraseIdx (l.length-1)=l.dropLast:=by
 induction l with
 | nil=>rfl
 | cons a r ih=>
  cases r with
  | nil=>rfl
  | cons b r=>
   have e:(a::b::r).length-1=((b::r).length-1)+1:=by
    have c:(a::b::r).length=r.length+2:=rfl;have d:(b::r).length=r.length+1:=rfl;ac_nf
   rw [e,List.eraseIdx_cons_succ,ih];all_goals rfl
section
variable {X:Cx} {pins:List (Addr × Obj)} {σ:St} {H:Hp} {l b:Addr} {ys zs:List V} {s:Shared} {its:List Value} {t':Nat}
theorem Inv.lset {its':List Value} {f:Array Value->Array Value} (I:Inv X pins σ H s) (hH:H l=some (.lst xs))
  (e:s.heap.get? l=some { cls:=.type "list",data:=.seq its.toArray n }) (hf:f its.toArray=its'.toArray) (hv:Vals ys its') (hz:ys.length<=sizeLine) :
  Inv X pins σ (upd H l (.lst ys)) { s with heap:=s.heap.update l (Obj.mapSeq f),toks:=t' }:=by
 have q:=PySem.IsL.update e f;rw [hf] at q;refine I.write (x:=l) (e:=l) (by rw [hH];exact trivial) (.inl rfl) (fun c u a b=>(Heap.get?_update_other s.heap (Obj.mapSeq f) (Ne.symm a)).trans b) ⟨_,q⟩ ?_;exact ⟨hz,its',_,hv,q⟩
theorem Inv.lnew (I:Inv X pins σ H s) (hv:Vals ys its) (hz:ys.length<=sizeLine) :
  Inv X pins σ (upd H s.heap.objs.size (.lst ys)) { s with heap:=s.heap.push { cls:=.type "list",data:=.seq its.toArray },toks:=t' } :=
 I.laid (fun _ _ q=>Heap.get?_push_of_some _ q) (Nat.le_refl _) ⟨hz,its,0,hv,Heap.get?_push_size _ rfl⟩
theorem Inv.fresh (I:Inv X pins σ H s):H s.heap.objs.size=none:=I.hok.fresh (Nat.le_refl _)
theorem Inv.lstM (I:Inv X pins σ H s) (hH:H l=some (.lst xs)):xs.length<=sizeLine/\∃ (its:List Value) (n:Nat),Vals xs its/\xs.length=its.length/\s.heap.get? l=some { cls:=.type "list",data:=.seq its.toArray n }:=by
 obtain ⟨z,its,n,r,e⟩:=I.hok l _ hH;exact ⟨z,its,n,r,r.length,e⟩
theorem Jjk (h:n<=sizeLine):Builtin.List.listTooLong n=false:=by
 unfold Builtin.List.listTooLong;exact decide_eq_false ∅
end
variable {X:Cx}
def Jlb:V->List V->Hp->VK->Prop:=fun x vs H Q=>∃ l xs y,x=.ref l/\vs=[y]/\H l=some (.lst xs)/\xs.length<sizeLine/\Q .non (upd H l (.lst (xs++[y])))
theorem Ja9:MtM X "list.append" Jlb:=by
 intro c s σ H x j v i Q I g d h;obtain ⟨l,o,y,rfl,rfl,b,k,q⟩:=h;cases g;obtain ⟨u,rfl,f⟩:=d.one;obtain ⟨z,a,n,r,m,e⟩:=I.lstM b;refine call_meets F.slot_list_append ⟨_,e,rfl⟩ F.entry_list_append (F.args_list_append_2 _ _) (PySem.list_append l a.toArray n u (by rw [size_toArray];ac_nf)) ⟨e,?_⟩;refine ⟨.non,_,I.lset (its':=a++[u]) b e (by simp) (r.append (.cons f .nil)) ?_,rfl,q⟩;rw [length_append,length_singleton];ac_nf
def Jlc:V->List V->Hp->VK->Prop:=fun x vs H Q=>∃ l b xs zs,x=.ref l/\vs=[.ref b]/\H l=some (.lst xs)/\H b=some (.lst zs)/\xs.length+zs.length<=sizeLine/\Q .non (upd H l (.lst (xs++zs)))
theorem JfM:MtM X "list.extend" Jlc:=by
 intro i s σ H x D v B Q I t k h;obtain ⟨l,b,J,A,rfl,rfl,g,m,E,q⟩:=h;cases t;obtain ⟨u,rfl,p⟩:=k.one;cases p;obtain ⟨z,c,n,r,G,e⟩:=I.lstM g;obtain ⟨C,a,w,o,j,y⟩:=I.lstM m;have f:c.toArray.size+a.toArray.size<=sizeLine:=by rw [size_toArray,size_toArray];ac_nf
 have d:¬ (!c.toArray.isEmpty&&Builtin.List.listTooLong (c.toArray.size+a.toArray.size))=true:=by
  rw [Jjk f,Bool.and_false];exact Bool.false_ne_true
 refine call_meets F.slot_list_extend ⟨_,e,rfl⟩ F.entry_list_extend (F.args_list_extend_2 _ _)
  (AutoSeq1.list_extend_list_list_0 l c.toArray n b a.toArray w d (by rw [size_toArray];ac_nf) ∅) ⟨e,y,?_⟩
 refine ⟨.non,_,I.lset (its':=c++a) g e (by simp) (r.append o) ?_,rfl,q⟩;rw [length_append];ac_nf
def rPop:V->List V->Hp->VK->Prop:=fun x vs H Q=>∃ l xs y,x=.ref l/\vs=[]/\H l=some (.lst xs)/\xs[xs.length-1]?=some y/\Q y (upd H l (.lst xs.dropLast))
theorem JlR:MtM X "list.pop" rPop:=by
 intro f s σ H x t v p Q I k g h;obtain ⟨l,w,y,rfl,rfl,d,o,q⟩:=h;cases k;have c:=g.zero;subst c;obtain ⟨z,a,n,r,m,e⟩:=I.lstM d;obtain ⟨u,i,j⟩:=r.get o;have b:a.toArray[a.toArray.size-1]?=some u:=by
  show a.toArray[a.length-1]?=some u;rw [<- Array.getElem?_toList, <- m];exact i
 refine call_meets F.slot_list_pop ⟨_,e,rfl⟩ F.entry_list_pop (F.args_list_pop_1 _) (MeetsSeq.list_pop_last l a.toArray n u b (by rw [size_toArray];ac_nf)) ⟨e,?_⟩;refine ⟨y,_,I.lset (its':=a.dropLast) d e ?_ r.dropLast ?_,j,q⟩
 ·show a.toArray.eraseIdxIfInBounds (a.toArray.size-1)=a.dropLast.toArray;rw [size_toArray,List.eraseIdxIfInBounds_toArray,Jhe]
 ·rw [List.length_dropLast];ac_nf
def rCat:R2:=fun x y H Q=>∃ l b xs zs,x=.ref l/\y=.ref b/\H l=some (.lst xs)/\H b=some (.lst zs)/\xs.length+zs.length<=sizeLine/\∀ p,H p=none->Q (.ref p) (upd H p (.lst (xs++zs)))
theorem JlV:OpR X (binaryOp .Add) rCat:=by
 intro d s σ H x y v u Q I m o h;obtain ⟨l,b,C,t,rfl,rfl,f,j,A,q⟩:=h;cases m;cases o;obtain ⟨z,c,n,r,B,e⟩:=I.lstM f;obtain ⟨w,a,D,k,g,p⟩:=I.lstM j;refine PySem.P.add_list e p ?_ (by rw [size_toArray,size_toArray];ac_nf);have i:c.toArray++a.toArray=(c++a).toArray:=by simp
 rw [i];exact ⟨.ref _,_,I.lnew (t':=s.toks) (r.append k) (by rw [length_append];ac_nf),rfl,q _ I.fresh⟩
section
variable {prog:Program} {A:Around} {E:Value->Shared->Prop} {w:World} {s:Shared}
end
end L2
namespace Att
open PySem PySem.W PySem.Calls PyProof.Rows
theorem JdU {P:Params} {h:Heap}:∀ (ns:List Int) (vs:List Value),WellAll P h vs (ns.map WData.int)->IntsAre vs ns:=by
 intro ns;induction ns with
 | nil=>
  intro vs w;rw [map_nil] at w;cases w;exact .nil
 | cons n ns ih=>
  intro vs w;rw [map_cons] at w;cases w with
  | cons a b=>
   cases a;exact .cons _ _ (ih _ b)
variable {l:OpenLaw} {n:Nat}
theorem JiD (hn:l.most=some n) {P:Params} {h:Heap} {args:List WData} {vals:List Value}
  (hpre:l.row.toRowW.claim.pre args=true) (hwl:WellAll P h vals args) :
  ∃ a vs ns,vals=[Value.ref a]/\args=[WData.list (ns.map WData.int)]/\h.get? a=some { cls:=.type "list",data:=.seq vs.toArray }/\IntsAre vs ns/\ns.length<=n:=by
 have f:WShape.hasAll [] args [.list .int]=true:=(pre_splitW hpre).1;have g:l.pre.holds [] { args:=args }=true:=(pre_splitW hpre).2;obtain ⟨d,r,rfl,i,j⟩:=hasAllW_cons f;obtain rfl:=hasAllW_nil j;obtain ⟨o,rfl,m⟩:=hasW_list i;obtain ⟨ns,rfl⟩:=items_int m;have b:ns.length<=n:=by
  unfold OpenLaw.pre at g;have e:(WTm.not (.lt (.lit (.int (n:Int))) (.len (.arg 0)))).holds [] { args:=[.list (ns.map .int)] }=true:=by
   have e:=(holds_andW g).1;rw [hn] at e;exact e
  have c:=condW_of e (w_not (w_lt w_lit (w_len_list (w_arg rfl))));rw [length_map] at c;refine Nat.le_of_not_lt fun q=>?_;have k:(n:Int)<((ns.length:Nat):Int):=by ac_nf
  first
   | (rw [decide_eq_true k] at c;exact absurd c ⋯)
   | (simp at c;ac_nf)
 cases hwl with
 | cons w1 w2=>
  cases w2;cases w1 with
  | list ho hall=>exact ⟨_,_,ns,rfl,rfl,ho,JdU ns _ hall,b⟩
theorem Jis (l:OpenLaw) (args:List WData):l.row.toRowW.claim.post args (.bool true) args=true :=
 postW_of (r:=l.row.toRowW) (X:=(true == true))
  (show WShape.has [] (.bool true) .bool=true by first | rfl | decide | simp [WShape.has,WShape.arms,WShape.armsAll])
  (show (WTm.eq .res (.lit (.bool true))).value [] { args:=args,res:=some (.bool true),after:=args }=some (.bool (true == true)) from w_eq_bool (w_res rfl) w_lit) rfl
theorem attach_call {q:Program} {loose:List Str} {XP:(Str->Option Value)->Heap->Prop} {YP:World->Heap->Prop} {d:DefRec}
  (hn:l.most=some n) (hdf:d.params.defaults=[])
  (call:∀ (w:World) (s₀ s₁ : Shared) (mg mb:Str->Option Value) (fa:Addr) (o:Obj) (pm cd doc:Value) (a:Addr) (vs:List Value) (ns:List Int),
   Ground q loose [] XP w s₀ mg mb s₁.heap->YP w s₁.heap ->
   s₁.heap.get? fa=some o->o.data=.func (docDef d.name d.params d.body d.scope pm cd doc)->s₁.heap.CodeRec cd d.name->mg d.name=some (.ref fa) ->
   s₁.heap.get? a=some { cls:=.type "list",data:=.seq vs.toArray }->IntsAre vs ns->ns.length<=n->s₁.gens=#[] ->
   codeAny (model l.prog w) callerA (.call (.ref fa) ⟨[.ref a],[]⟩) (fun r s'=>r=.ok (.ret (.bool true))/\OldK s₁.heap s'.heap/\s'.os=s₁.os/\AllBare s'.gens) s₁) :
  WalkO q loose XP YP l.row.toRowW d [] (fun f vs=>PySem.call f vs):=by
 intro w s₀ s₁ mg mb G Y fa o pm cd doc A kV B u h m i x t p H g k z j F;obtain rfl:A=.none:=Dflts.none m hdf;obtain rfl:kV=.none:=Dflts.noKw m;obtain ⟨a,vs,ns,rfl,rfl,c,b,e⟩:=JiD hn g j;refine enter_call (codeAny_mono (call w s₀ s₁ mg mb fa o pm cd doc a vs ns G Y B (fd_plain u) h i c b e x) fun r s' C=>?_);obtain ⟨rfl,v,E,D⟩:=C;exact ⟨.inl ⟨.bool true, .bool true,[],rfl,fun _=>rfl, .bool true,Jis l _,fun _=>⟨List.Pairwise.nil,fun _ y=>(nomatch y)⟩⟩,v,E,D⟩
section
variable {prog:Program} {A:Around} {E:Value->Shared->Prop} {K:Frag} {w:World} {s:Shared}
end
end Att
namespace L2
open PySem PySem.Spec PyProof.Rows
theorem Jf2:∀ {vs:List Value} {ns:List Int},IntsAre vs ns->Vals (ns.map V.int) vs
 | _,_, .nil=>.nil
 | _,_, .cons n t h=>.cons ⟨t,rfl⟩ (Jf2 h)
def Only (H:Hp):Prop:=∀ b,H b=none\/∃ o xs,H b=some (.frz o (.lst xs))
variable {P:Program} {mg:Str->Option Value} {a:Addr} {fd:FuncData} {x:Str}
theorem Jjf {w:World} {K:W.Frag} {mb:Str->Option Value} {CX:CXT} {k:Nat} {fa:Addr} {sp:Sp} {s₁:Shared} {vs:List Value} {ns:List Int}
  (KX:K.In s₁.heap) (hns:s₁.heap.Ns mainGlobals mg) (hb:s₁.heap.Ns builtinsNs mb) (hbb:∀ x:Str,x≠"__name__"->mb x=bootBuiltins x) (hlim:s₁.heap.NoLimit) (hg:s₁.gens=#[])
  (ha:s₁.heap.get? a=some { cls:=.type "list",data:=.seq vs.toArray }) (hi:IntsAre vs ns) (hl:ns.length<=sizeLine) (hr:Room k callerA)
  (F:∀ base:Heap,K.In base->base.Ns mainGlobals mg->FnOk P w K mg base CX k fa fd [x] sp) (hbind:∀ (s:Shared) (u:Value),BindsTo s fd ⟨[u],[]⟩ [(x,u)])
  (hsp:∀ H:Hp,Only H->SqL K H a (ns.map V.int)->sp [.ref a] H (fun v _=>v=.bl true) fun _ _ _=>False)
  (hCX:∀ H e s',CX [] H s₁ (fun _ _ _=>False) e s'->False) :
  codeAny (model P w) callerA (.call (.ref fa) ⟨[.ref a],[]⟩) (fun r s'=>r=.ok (.ret (.bool true))/\OldK s₁.heap s'.heap/\s'.os=s₁.os/\AllBare s'.gens) s₁:=by
 have C:=Jf2 hi;have l:=hi.length;have g:∀ H:Hp,Only H->SqL K H a (ns.map V.int)->HOk P w H s₁.heap->(∀ b,H b≠none->b=a)->(H a≠none->K.lookup a=none) ->
   codeAny (model P w) callerA (.call (.ref fa) ⟨[.ref a],[]⟩) (fun r s'=>r=.ok (.ret (.bool true))/\OldK s₁.heap s'.heap/\s'.os=s₁.os/\AllBare s'.gens) s₁:=by
  intro H D Q i I O;have c:∀ {b:Addr} {o:Obj},s₁.heap.get? b=some o->H b=none->(hidT s₁.heap H).get? b=some o:=fun e n=>Jjd e n;have B:∀ {b:Addr} {o:Obj} {es:Array DictEntry} {ep:Nat},s₁.heap.get? b=some o->o.data=.dict es ep->H b=none:=fun {b o es ep} e d=>by
   cases q:H b with
   | none=>rfl
   | some u=>
    have A:b=a:=I b (by rw [q];simp);subst A;rw [ha] at e;cases e;have M:Data.seq vs.toArray _=Data.dict es ep:=d;cases M
  have f:∀ {b:Addr} {m:Str->Option Value},s₁.heap.Ns b m->(hidT s₁.heap H).Ns b m:=fun {b m} ⟨o,es,ep,e,d,r⟩=>⟨o,es,ep,c e (B e d),d,r⟩;have y:K.In (hidT s₁.heap H):=fun b o e=>c (KX b o e) (by
   cases q:H b with
   | none=>rfl
   | some u=>
    have A:b=a:=I b (by rw [q];simp);subst A;rw [O (by rw [q];simp)] at e;cases e)
  have R:Mod K mg (hidT s₁.heap H):=⟨y,f hns,⟨mb,f hb,hbb⟩,let ⟨mc,h1,h2⟩:=hlim;⟨mc,f h1,h2⟩⟩;have J:Env0 P w K mg (hidT s₁.heap H) callerA [] s₁ H:=⟨rfl,R,fun b o e=>JkP e,Nat.le_of_eq (Jh0 _ _),trivial,fun b hb=>absurd (show b∈([]:List Addr) from hb) (by simp),i, .of_eq hg⟩;refine codeAny_mono ((F _ y (f hns)).run callerA [] s₁ H ⟨[.ref a],[]⟩ [.ref a] [.ref a] _ _ hr J (hbind s₁ (.ref a)) (.cons rfl .nil) (hsp H D Q)) fun r s' h=>?_;cases r with
  | error e=>exact (hCX H e s' h).elim
  | ok fl=>
   cases fl with
   | next=>exact False.elim h
   | brk=>exact False.elim h
   | cont=>exact False.elim h
   | ret u=>
    obtain ⟨v,U,os,j,G,p,N,q⟩:=h;have S:v=.bl true:=q;subst S;obtain rfl:u=Value.bool true:=N;refine ⟨rfl,OldK.of_keep fun b o e=>?_,os,j⟩;cases q:H b with
    | none=>exact G.keep b o e q (by intro z;exact absurd (show b∈([]:List Addr) from z) (by simp)) (by simp)
    | some u=>
     rcases D b with z | ⟨ob,xs,z⟩
     ·rw [q] at z;cases z
     ·have L:=G.frzs b ob _ z;obtain ⟨E,_⟩:=i b _ z;obtain ⟨T,_⟩:=p b _ L;rw [e] at E;cases E;exact T
 cases hk:K.lookup a with
 | some o=>
  have e:=KX a o hk;rw [ha] at e;cases e;refine g (fun _=>none) (fun _=>.inl rfl) (.inr ⟨_,vs.toArray,_,hk,rfl,rfl,rfl,by rw [size_toArray,l];exact hl,by simpa using C⟩) (fun b u z=>by have t:(none:Option HO)=some u:=z;cases t) (fun b z=>absurd rfl z) fun z=>absurd rfl z
 | none=>
  refine g (fun b=>if b=a then some (.frz { cls:=.type "list",data:=.seq vs.toArray } (.lst (ns.map V.int))) else none) (fun b=>?_) (.inl (.inr ⟨{ cls:=.type "list",data:=.seq vs.toArray },if_pos rfl⟩)) (fun b u z=>?_) (fun b z=>?_) fun _=>hk
  ·by_cases hb:b=a
   ·exact .inr ⟨_,_,if_pos hb⟩
   ·exact .inl (if_neg hb)
  ·by_cases hb:b=a
   ·have t:=(if_pos hb).symm.trans z;cases t;subst hb;exact ⟨ha,by rw [length_map];exact hl,vs,_,C,ha⟩
   ·have t:=(if_neg hb).symm.trans z;cases t
  ·by_cases hb:b=a
   ·exact hb
   ·exact absurd (if_neg hb) z
abbrev KOf {K:W.Frag} {h:Heap} (_:K.In h):W.Frag:=K
theorem Ji0 {l:W.OpenLaw} {n k:Nat} {q:Program} {loose:List Str} {XP:(Str->Option Value)->Heap->Prop} {YP:World->Heap->Prop} {d:DefRec} {K:Params->W.Frag} {CX:World->CXT} {sp:World->Sp}
  (hn:l.most=some n) (hn2:n<=sizeLine) (hdf:d.params.defaults=[]) (hr:Room k callerA)
  (hY:∀ (w:World) (h:Heap),YP w h->(K w.params).In h)
  (F:∀ (w:World) (mg:Str->Option Value) (fa:Addr) (h:Heap),(K w.params).In h->h.Ns mainGlobals mg->mg d.name=some (.ref fa) ->
   ∃ fd:FuncData,(∀ (s:Shared) (u:Value),BindsTo s fd ⟨[u],[]⟩ [(x,u)]) /\
    ∀ base:Heap,(K w.params).In base->base.Ns mainGlobals mg->FnOk l.prog w (K w.params) mg base (CX w) k fa fd [x] (sp w))
  (hsp:∀ (w:World) (H:Hp) (a:Addr) (ns:List Int),ns.length<=n->Only H->SqL (K w.params) H a (ns.map V.int)->sp w [.ref a] H (fun v _=>v=.bl true) fun _ _ _=>False)
  (hCX:∀ (w:World) (H:Hp) (s:Shared) (e:Value) (s':Shared),CX w [] H s (fun _ _ _=>False) e s'->False) :
  W.WalkO q loose XP YP l.row.toRowW d [] (fun f vs=>PySem.call f vs):=by
 refine Att.attach_call hn hdf fun w s₀ s₁ mg I fa o E J y a vs ns G Y D C t m j i c r=>?_;have KX:=hY w _ Y;obtain ⟨fd,z,A⟩:=F w mg fa _ KX G.T.g m;exact Jjf KX G.T.g G.T.b G.T.builtins G.T.nolimit r j i (Nat.le_trans c hn2) hr A z (fun H p B=>hsp w H a ns c p B) fun H e s'=>hCX w H s₁ e s'
def inClass (s:Stmt) (j:Nat):Stmt:=match s with
 | .ClassDef _ _ _ body _ _ _ _ _ _ _=>body.getD j (.Pass ⟨0,0,0,0⟩)
 | _=>.Pass ⟨0,0,0,0⟩
def Jam (s:Stmt):Arguments:=match s with
 | .FunctionDef _ a _ _ _ _ _ _ _ _=>a
 | _=>{ posonlyargs:=[],args:=[],vararg:=none,kwonlyargs:=[],kw_defaults:=[],kwarg:=none,defaults:=[] }
def Jal (s:Stmt):List Stmt:=match s with
 | .FunctionDef _ _ b _ _ _ _ _ _ _=>b
 | _=>[]
def Jae (s:Stmt):Scope:=match s with
 | .FunctionDef _ _ _ _ _ _ sc _ _ _=>sc
 | _=>{ kind:=.function,names:=[],isGenerator:=false,isCoroutine:=false }
abbrev E0:XK:=fun _ _ _=>False
structure Fun (K:W.Frag) (x qual:Str) (st:Stmt) (f:Addr) (fd:FuncData):Prop where
 ex:∃ (oc:Value) (od:Option Addr) (kV doc pm:Value) (an:Option Addr) (cdv ct:Value) (osl:Array (Option Value)),
  fd=W.fnOf x qual (Jam st) (Jal st) (Jae st) .none kV doc pm an cdv ct/\K.lookup f=some ⟨oc,od, .func fd,osl⟩/\W.codeIn K cdv qual=true
 kp:W.keepIn K (.ref f)=true
section
variable {base:Heap} {w:World} {K:W.Frag}
theorem Fun.binds {qual:Str} {st:Stmt} {f:Addr} {ps:List Str} (F:Fun K x qual st f fd)
  (h:∀ (kV doc pm:Value) (an:Option Addr) (cdv ct:Value) (us:List Value),us.length=ps.length->bindArgs (W.fnOf x qual (Jam st) (Jal st) (Jae st) .none kV doc pm an cdv ct) ⟨us,[]⟩=pure (ps.zip us)):Binds K fd ps []:=by
 obtain ⟨e,d,kV,doc,pm,an,cdv,ct,a,rfl,c,b⟩:=F.ex;exact .all (h kV doc pm an cdv ct)
end
variable {X:Cx}
theorem pv (i:Nat) {x:Str} {pos:Pos} (hN:X.N[i]?=some x:=by rfl) (hv:Vis X.env.scope x:=by first | exact Or.inl rfl | exact Or.inr (Or.inl rfl) | exact Or.inr (Or.inr rfl)) (hd:(x == ("__debug__" : Str))=false:=by decide)
  (hcd:(x == ("__classdict__" : Str))=false:=by decide):PE X (.Name x pos) (tVar i):=Jl2 hN hv hd hcd
def Same (H H':Hp):Prop:=∀ b o,H b=some o->H' b=some o
theorem Same.refl (H:Hp):Same H H:=fun _ _ h=>h
variable {H:Hp}
theorem Same.trans {H1 H2:Hp} (a:Same H H1) (b:Same H1 H2):Same H H2:=fun c o h=>b c o (a c o h)
theorem Same.seq {K:W.Frag} {H':Hp} {xs:List V} (e:Same H H') (h:SqL K H a xs):SqL K H' a xs:=by
 rcases h with (h | ⟨o,h⟩) | h
 ·exact .inl (.inl (e _ _ h))
 ·exact .inl (.inr ⟨o,e _ _ h⟩)
 ·exact .inr h
end L2
set_option maxHeartbeats 4000000
namespace L2
open PySem PySem.Spec PyProof.Rows
section
variable {κ:Type} [DecidableEq κ]
def valV (kvs:List (κ × V)) (k : κ):Option V:=(kvs.find? fun kv=>decide (kv.1=k)).map (·.2)
def putK (kvs:List (κ × V)) (k : κ) (v:V):List (κ × V) :=
 if (kvs.any fun kv=>decide (kv.1=k))=true then kvs.map (fun kv=>if kv.1=k then (kv.1,v) else kv) else kvs++[(k,v)]
theorem Jbe {p : κ × V} {r:List (κ × V)} {k : κ} (e:p.1=k):valV (p::r) k=some p.2:=by simp [valV,List.find?_cons,e]
theorem Jbk {p : κ × V} {r:List (κ × V)} {k : κ} (e:¬ p.1=k):valV (p::r) k=valV r k:=by simp [valV,List.find?_cons,e]
theorem JcC (k : κ):∀ kvs:List (κ × V),(kvs.any fun kv=>decide (kv.1=k))=(valV kvs k).isSome
 | []=>rfl
 | p::r=>by
  rw [any_cons];by_cases e:p.1=k
  ·simp only [Jbe e,decide_eq_true e,Bool.true_or,Option.isSome_some]
  ·rw [Jbk e,decide_eq_false e,Bool.false_or];exact JcC k r
theorem Jg6 (k j : κ) (y:V):∀ kvs:List (κ × V),valV (kvs.map fun kv=>if kv.1=k then (kv.1,y) else kv) j=(valV kvs j).map fun x=>if j=k then y else x
 | []=>rfl
 | p::r=>by
  have ih:=Jg6 k j y r;rw [map_cons];by_cases h:p.1=k
  ·rw [if_pos h];by_cases e:p.1=j
   ·rw [Jbe (p:=(p.1,y)) e,Jbe e,Option.map_some,if_pos (e.symm.trans h)]
   ·rw [Jbk (p:=(p.1,y)) e,Jbk e,ih]
  ·rw [if_neg h];by_cases e:p.1=j
   ·rw [Jbe (p:=p) e,Jbe e,Option.map_some,if_neg (fun z=>h (e.trans z))]
   ·rw [Jbk (p:=p) e,Jbk e,ih]
theorem Jf1 (k j : κ) (y:V):∀ kvs:List (κ × V),valV kvs k=none->valV (kvs++[(k,y)]) j=if j=k then some y else valV kvs j
 | [],_=>by
  by_cases e:k=j
  ·rw [if_pos e.symm];exact Jbe (p:=(k,y)) e
  ·rw [if_neg (fun z=>e z.symm)];exact Jbk (p:=(k,y)) e
 | p::r,hn=>by
  rw [cons_append];have hk:¬ p.1=k:=fun z=>by rw [Jbe z] at hn;cases hn
  rw [Jbk hk] at hn;have ih:=Jf1 k j y r hn;by_cases e:p.1=j
  ·rw [Jbe e,Jbe e,if_neg (fun z=>hk (e.trans z))]
  ·rw [Jbk e,Jbk e,ih]
theorem Jg7 (kvs:List (κ × V)) (k j : κ) (y:V):valV (putK kvs k y) j=if j=k then some y else valV kvs j:=by
 unfold putK;by_cases a:(kvs.any fun b=>decide (b.1=k))=true
 ·rw [if_pos a,Jg6];rw [JcC] at a;by_cases e:j=k
  ·obtain ⟨x,c⟩:=Option.isSome_iff_exists.mp a;rw [if_pos e,e,c,Option.map_some,if_pos rfl]
  ·rw [if_neg e];cases valV kvs j with
   | none=>rfl
   | some x=>rw [Option.map_some,if_neg e]
 ·rw [if_neg a];refine Jf1 k j y kvs ?_;rw [JcC] at a;cases q:valV kvs k with
  | none=>rfl
  | some x=>rw [q] at a;exact (a rfl).elim
theorem Jbl (kvs:List (κ × V)) (k : κ) (v:V):(putK kvs k v).length<=kvs.length+1:=by
 unfold putK;split
 ·rw [length_map];ac_nf
 ·rw [length_append,length_cons,length_nil];ac_nf
theorem Jjz {kvs:List (κ × V)} {k : κ} (v:V) (h:valV kvs k=none):putK kvs k v=kvs++[(k,v)]:=by
 unfold putK;rw [JcC,h];exact if_neg ⋯
variable {o:Option V} {u:Option Value}
theorem RelO.isSome_eq (r:RelO o u):o.isSome=u.isSome:=by
 cases o with
 | none=>cases u with
  | none=>rfl
  | some _=>exact (show False from r).elim
 | some _=>cases u with
  | none=>exact (show False from r).elim
  | some _=>rfl
variable {d:V}
theorem RelO.getD {d':Value} (r:RelO o u) (rd:RelV d d'):RelV (o.getD d) (u.getD d'):=by
 cases o with
 | none=>cases u with
  | none=>exact rd
  | some _=>exact (show False from r).elim
 | some _=>cases u with
  | none=>exact (show False from r).elim
  | some _=>exact r
theorem KV.val {kvs:List (κ × V)} {vs:List (κ × Value)} (r:KV kvs vs) (k : κ):RelO (valV kvs k) (valueAt vs k):=by
 unfold KV at r;induction r with
 | nil=>exact True.intro
 | @cons p q ps qs h t ih=>
  obtain ⟨c,d⟩:=h;by_cases e:p.1=k
  ·have a:q.1=k:=c.symm.trans e;have b:valueAt (q::qs) k=some q.2:=by simp [valueAt,List.find?_cons,a]
   rw [Jbe e,b];exact d
  ·have a:¬ q.1=k:=fun z=>e (c.trans z);have b:valueAt (q::qs) k=valueAt qs k:=by simp [valueAt,List.find?_cons,a]
   rw [Jbk e,b];exact ih
theorem KV.any {kvs:List (κ × V)} {vs:List (κ × Value)} (r:KV kvs vs) (k : κ):(kvs.any fun kv=>decide (kv.1=k))=vs.any fun kv=>decide (kv.1=k):=by
 unfold KV at r;induction r with
 | nil=>rfl
 | cons h t ih=>rw [any_cons,any_cons,ih,h.1]
theorem KV.repl {kvs:List (κ × V)} {vs:List (κ × Value)} (r:KV kvs vs) (k : κ) {y:V} {u:Value} (ry:RelV y u) :
  KV (kvs.map fun kv=>if kv.1=k then (kv.1,y) else kv) (vs.map fun kv=>if kv.1=k then (kv.1,u) else kv):=by
 unfold KV at r ⊢;induction r with
 | nil=>exact .nil
 | @cons p q ps qs h t ih=>
  rw [map_cons,map_cons];refine .cons ?_ ih;obtain ⟨a,b⟩:=h;by_cases e:p.1=k
  ·rw [if_pos e,if_pos (a.symm.trans e)];exact ⟨a,ry⟩
  ·rw [if_neg e,if_neg (fun z=>e (a.trans z))];exact ⟨a,b⟩
theorem KV.put {kvs:List (κ × V)} {vs:List (κ × Value)} (r:KV kvs vs) (k : κ) {y:V} {u:Value} (ry:RelV y u):KV (putK kvs k y) (stored vs k u):=by
 unfold putK stored;rw [r.any k];by_cases e:(vs.any fun a=>decide (a.1=k))=true
 ·rw [if_pos e,if_pos e];exact r.repl k ry
 ·rw [if_neg e,if_neg e];exact Paired.snoc r ⟨rfl,ry⟩
theorem KV.length {kvs:List (κ × V)} {vs:List (κ × Value)} (r:KV kvs vs):kvs.length=vs.length:=Paired.length r
end
variable {P:Program}
theorem kV_is {w:World} {k:Key} {u:Value} (r:RelV (kV k) u):(Jau P w).is k u=true:=by
 cases k with
 | inl i=>have e:=(show u=Value.bool i from r);subst e;exact JfK P w i
 | inr x=>obtain ⟨t,e⟩:=(show ∃ t,u=Value.str x t from r);subst e;exact Jgh P w x t
theorem JfJ {w:World}:∀ {ks:List Key} {us:List Value},Vals (ks.map kV) us->ItemsAre (Jau P w) ks us
 | [],_,r=>by rw [map_nil] at r;cases r;exact .nil
 | k::ks,_,r=>by
  rw [map_cons] at r;cases r with
  | cons h t=>exact .cons (kV_is h) (JfJ t)
abbrev KT (H:Hp):List (List Key × V)->List (List Key × Addr × Value)->Prop:=Paired fun p q=>p.1=q.1/\H q.2.1=some (.tup (p.1.map kV))/\RelV p.2 q.2.2
variable {H:Hp} {kvs:List (List Key × V)} {xs:List (List Key × Addr × Value)}
theorem KT.val (r:KT H kvs xs) (k:List Key):RelO (valV kvs k) ((atKey xs k).map (·.2)):=by
 induction r with
 | nil=>exact True.intro
 | @cons p q ps qs h t ih=>
  obtain ⟨c,_,d⟩:=h;by_cases e:p.1=k
  ·have a:q.1=k:=c.symm.trans e;have b:atKey (q::qs) k=some q.2:=by simp [atKey,List.find?_cons,a]
   rw [Jbe e,b];exact d
  ·have a:¬ q.1=k:=fun z=>e (c.trans z);have b:atKey (q::qs) k=atKey qs k:=by simp [atKey,List.find?_cons,a]
   rw [Jbk e,b];exact ih
theorem KT.repl (r:KT H kvs xs) (k:List Key) {y:V} {u:Value} (ry:RelV y u) :
  KT H (kvs.map fun kv=>if kv.1=k then (kv.1,y) else kv) (xs.map (putAt k u)):=by
 induction r with
 | nil=>exact .nil
 | @cons p q ps qs h t ih=>
  rw [map_cons,map_cons];refine .cons ?_ ih;obtain ⟨a,b,c⟩:=h;unfold putAt;by_cases e:p.1=k
  ·rw [if_pos e,if_pos (a.symm.trans e)];exact ⟨a,b,ry⟩
  ·rw [if_neg e,if_neg (fun z=>e (a.trans z))];exact ⟨a,b,c⟩
theorem KT.put (r:KT H kvs xs) (k:List Key) {b:Addr} {y:V} {u:Value} (hb:H b=some (.tup (k.map kV))) (ry:RelV y u) :
  KT H (putK kvs k y) (storedH xs k b u):=by
 have e:(kvs.any fun a=>decide (a.1=k))=(atKey xs k).isSome:=by
  rw [JcC,(r.val k).isSome_eq,Option.isSome_map]
 unfold putK storedH;rw [e];by_cases q:(atKey xs k).isSome=true
 ·rw [if_pos q,if_pos q];exact r.repl k ry
 ·rw [if_neg q,if_neg q];exact Paired.snoc r ⟨rfl,hb,ry⟩
variable {H':Hp}
theorem KT.keeps (r:KT H kvs xs) (ht:∀ b ys,H b=some (.tup ys)->H' b=some (.tup ys)):KT H' kvs xs :=
 Paired.mapP r fun _ _ z=>⟨z.1,ht _ _ z.2.1,z.2.2⟩
section
variable {h:Heap} {a:Addr} {w:World}
theorem y7cy {u:HO} (ok:HOk P w H h) (e:Rd H a u):ObjOk P w H h a u:=e.ok ok
variable {kvs:List (Key × V)}
theorem dk_rd (ok:HOk P w H h) (e:Rd H a (.dK kvs)):kvs.length<=sizeLine/\(a == sysModules)=false/\∃ vs,KV kvs vs/\h.DictOf (Jau P w) a vs :=
 show ObjOk P w H h a (.dK kvs) from y7cy ok e
theorem dk_of (ok:HOk P w H h) (e:H a=some (.dK kvs)):kvs.length<=sizeLine/\(a == sysModules)=false/\∃ vs,KV kvs vs/\h.DictOf (Jau P w) a vs:=dk_rd ok (.inl e)
theorem JdV {ks:List Key} (ok:HOk P w H h) (e:H a=some (.tup (ks.map kV))):(tupleKind (Jau P w)).is h ks a:=by
 obtain ⟨_,b,r,o,c,d,n,f⟩:=(show ObjOk P w H h a (.tup (ks.map kV)) from ok a _ e);exact ⟨o,b.toArray,n,c,d,f,by simpa using JfJ r⟩
variable {kvs:List (List Key × V)}
theorem dt_rd (ok:HOk P w H h) (e:Rd H a (.dT kvs)):kvs.length<=sizeLine/\(a == sysModules)=false /\
  ∃ xs,KT H kvs xs/\h.DictOfH (tupleKind (Jau P w)) a xs:=by
 obtain ⟨z,y,xs,r,o,k,g,d,f,j,i,c⟩:=(show ObjOk P w H h a (.dT kvs) from y7cy ok e);refine ⟨z,y,xs,r,o,k,g,d,f,j,i,fun x b=>?_,c⟩;have all:∀ {l:List (List Key × V)} {m:List (List Key × Addr × Value)},KT H l m->∀ x∈m,(tupleKind (Jau P w)).is h x.1 x.2.1:=by
  intro l m q;induction q with
  | nil=>intro x b;exact nomatch b
  | @cons p q ps qs hq t ih=>
   intro x b;rcases mem_cons.mp b with e | b
   ·subst e;exact JdV ok (by rw [<- hq.1];exact hq.2.1)
   ·exact ih x b
 exact all r x b
theorem dt_of (ok:HOk P w H h) (e:H a=some (.dT kvs)):kvs.length<=sizeLine/\(a == sysModules)=false /\
  ∃ xs,KT H kvs xs/\h.DictOfH (tupleKind (Jau P w)) a xs:=dt_rd ok (.inl e)
end
def DGet (H:Hp) (a:Addr) (y:V) (r:Option V):Prop :=
 (∃ kvs k,Rd H a (.dK kvs)/\y=kV k/\r=valV kvs k)\/∃ kvs k b,Rd H a (.dT kvs)/\y=.ref b/\H b=some (.tup (k.map kV))/\r=valV kvs k
def DPut (H:Hp) (a:Addr) (y v:V) (H':Hp):Prop :=
 (∃ kvs k,H a=some (.dK kvs)/\y=kV k/\kvs.length<sizeLine/\H'=upd H a (.dK (putK kvs k v))) \/
 ∃ kvs k b,H a=some (.dT kvs)/\y=.ref b/\H b=some (.tup (k.map kV))/\kvs.length<sizeLine/\H'=upd H a (.dT (putK kvs k v))
variable {a:Addr} {kvs:List (Key × V)}
theorem DGet.k {k:Key} (e:H a=some (.dK kvs)):DGet H a (kV k) (valV kvs k):=.inl ⟨kvs,k, .inl e,rfl,rfl⟩
variable {v:V}
theorem DPut.k {k:Key} (e:H a=some (.dK kvs)) (hl:kvs.length<sizeLine):DPut H a (kV k) v (upd H a (.dK (putK kvs k v))):=.inl ⟨kvs,k,e,rfl,hl,rfl⟩
section
variable {X:Cx} {pins:List (Addr × Obj)} {σ:St} {y:V} {u r:Value} {o:Option V} {A:Around} {E:Value->Shared->Prop} {s:Shared}
theorem Inv.big (I:Inv X pins σ H s):sysModules<s.heap.objs.size:=by
 have h:mainGlobals<s.heap.objs.size:=(I.mod.glob.keeps I.bk).lt;exact Nat.lt_trans ⋯ h
variable {Q:Value->Shared->Prop}
theorem JhL (hu:A.units+1<cLine) (I:Inv X pins σ H s) (g:DGet H a y (some v)) (ry:RelV y u) (h:∀ w' s',Inv X pins σ H s'->RelV v w'->Q w' s') :
  wpAny (model X.prog X.w) A (getItem (.ref a) u) Q E s:=by
 rcases g with ⟨kvs,k,e,ey,l⟩ | ⟨kvs,k,b,e,ey,eb,l⟩
 ·subst ey;obtain ⟨z,m,q,c,i⟩:=dk_rd I.hok e;obtain ⟨w',j,d⟩:=RelO.some_of (v:=v) (o:=valueAt q k) (by rw [l];exact c.val k);exact wpAny_getItem_of (kV_is ry) i.mapOf j (h w' _ (I.tok _) d)
 ·subst ey;cases (show u=Value.ref b from ry);obtain ⟨z,m,n,c,i⟩:=dt_rd I.hok e;obtain ⟨w',j,d⟩:=RelO.some_of (v:=v) (o:=(atKey n k).map (·.2)) (by rw [l];exact c.val k);obtain ⟨p,r,f⟩:=Option.map_eq_some_iff.mp j;refine wpAny_getItem_heap (tupleKind_room_in1 hu) (JdV I.hok eb) i r ?_;rw [f];exact h w' _ (I.tok _) d
theorem d_in (hu:A.units+1<cLine) (I:Inv X pins σ H s) (g:DGet H a y o) (ry:RelV y u) (h:∀ s',Inv X pins σ H s'->Q (.bool o.isSome) s') :
  wpAny (model X.prog X.w) A (compareOp .In u (.ref a)) Q E s:=by
 rcases g with ⟨kvs,k,e,ey,l⟩ | ⟨kvs,k,b,e,ey,eb,l⟩
 ·subst ey;obtain ⟨z,d,j,c,f⟩:=dk_rd I.hok e;refine wpAny_in_of (kV_is ry) d f.mapOf ?_;rw [<- (c.val k).isSome_eq, <- l];exact h _ (I.tok _)
 ·subst ey;cases (show u=Value.ref b from ry);obtain ⟨z,d,i,c,f⟩:=dt_rd I.hok e;refine wpAny_in_heap (tupleKind_room_in1 hu) (JdV I.hok eb) d f ?_;have q:=(c.val k).isSome_eq;rw [Option.isSome_map] at q;rw [<- q, <- l];exact h _ (I.tok _)
theorem Jkw (hu:A.units+1<cLine) (I:Inv X pins σ H s) (g:DGet H a y o) (ry:RelV y u) (h:∀ s',Inv X pins σ H s'->Q (.bool (!o.isSome)) s') :
  wpAny (model X.prog X.w) A (compareOp .NotIn u (.ref a)) Q E s:=by
 rcases g with ⟨kvs,k,e,ey,l⟩ | ⟨kvs,k,b,e,ey,eb,l⟩
 ·subst ey;obtain ⟨z,d,j,c,f⟩:=dk_rd I.hok e;refine wpAny_notIn_of (kV_is ry) d f.mapOf ?_;rw [<- (c.val k).isSome_eq, <- l];exact h _ (I.tok _)
 ·subst ey;cases (show u=Value.ref b from ry);obtain ⟨z,d,i,c,f⟩:=dt_rd I.hok e;refine wpAny_notIn_heap (tupleKind_room_in1 hu) (JdV I.hok eb) d f ?_;have q:=(c.val k).isSome_eq;rw [Option.isSome_map] at q;rw [<- q, <- l];exact h _ (I.tok _)
variable {h':Heap} {t':Nat}
theorem JeS {ob:HO} (I:Inv X pins σ H s) (mu:Mut (H a)) (hs:Heap.SameBut a s.heap h') (he:∃ q,h'.get? a=some q) (new:ObjOk X.prog X.w (upd H a ob) h' a ob) :
  Inv X pins σ (upd H a ob) { s with heap:=h',toks:=t' } :=
 I.write (x:=a) (e:=a) mu (.inl rfl) (fun b q c z=>(hs.2 b c).trans z) he new
theorem JgN {w:World} {vs:List (Key × Value)} (z:kvs.length<=sizeLine) (hd:(a == sysModules)=false) (rel:KV kvs vs) (dd:h'.DictOf (Jau P w) a vs) :
  ObjOk P w H' h' a (.dK kvs):=⟨z,hd,vs,rel,dd⟩
theorem JhM {Q:Unit->Shared->Prop} (hu:A.units+1<cLine) (I:Inv X pins σ H s) (g:DPut H a y v H') (ry:RelV y u) (rv:RelV v r) (h:∀ s',Inv X pins σ H' s'->Q () s') :
  wpAny (model X.prog X.w) A (setItem (.ref a) u r) Q E s:=by
 rcases g with ⟨kvs,k,e,ey,l,eH⟩ | ⟨kvs,k,b,e,ey,eb,l,eH⟩
 ·subst ey eH;obtain ⟨z,j,B,d,p⟩:=dk_of I.hok e;have m:B.length<=sizeLine:=by rw [<- d.length];exact z
  have n:(putK kvs k v).length<=sizeLine:=by have:=Jbl kvs k v;ac_nf
  refine wpAny_setItem_pairs (hsz:=m) (kV_is ry) p fun x f o=>h _ ?_;have F:∃ q,x.get? a=some q:=let ⟨q,_,_,i,_⟩:=f;⟨q,i⟩;exact JeS I (by rw [e];exact True.intro) o F (JgN n j (d.put k rv) f)
 ·subst ey eH;cases (show u=Value.ref b from ry);obtain ⟨z,j,K,d,p⟩:=dt_of I.hok e;have m:K.length<=sizeLine:=by rw [<- Paired.length d];exact z
  have n:(putK kvs k v).length<=sizeLine:=by have:=Jbl kvs k v;ac_nf
  refine wpAny_setItem_heap (hsz:=m) (tupleKind_room_in1 hu) (JdV I.hok eb) p fun x f o=>h _ ?_;obtain ⟨q,G,J,i,D,M,L,_,C⟩:=f;refine JeS I (by rw [e];exact True.intro) o ⟨q,i⟩ ⟨n,j,_,(d.put k eb rv).keeps fun c N t=>?_,q,G,J,i,D,M,L,C⟩;rw [Jag (ne_of t e (fun z=>nomatch z))];exact t
end
section
variable {X:Cx} {pins:List (Addr × Obj)} {σ:St} {u:Value} {A:Around} {E:Value->Shared->Prop} {s:Shared} {k:Key}
end
def NoSl (i:Expr):Prop:=∀ ov iv,subscripted i false ov iv=operate [ov,iv] (getItem ov iv)
variable {A:Around} {E Q:Value->Shared->Prop} {env:Env} {value:Expr} {pos:Pos}
theorem Jll {prog:Program} {w:World} {s:Shared} {slice:Expr} {T id:String}
  (hl:typeLookup (.type T) "__getitem__"=pure (some (.builtin id))) (hs:NoSl slice)
  (h:wpAny (model prog w) A (eval value env) (fun o s₁=>wpAny (model prog w) A (eval slice env) (fun i s₂=>s₂.TypeIs o T/\wpAny (model prog w) A (getItem o i) Q E s₂) E s₁) E s) :
  wpAny (model prog w) A (eval (.Subscript value slice pos) env) Q E s:=by
 refine Subscript_ (wpAny_mono h (fun o s₁ h₁=>wpAny_mono h₁ (fun i s₂ h₂=>?_) fun _ _ x=>x) fun _ _ x=>x);obtain ⟨b,h₂⟩:=h₂;unfold subscriptTail;refine wpAny_bind ?_;rw [getitemInPython_of_ne b.not_modules];refine wpAny_bind (wpAny_specialOf b hl ?_);have a:wpAny (model prog w) A (subscripted slice false o i) (fun r s₃=>wpAny (model prog w) A (letTemporaryGo value o r >>= fun _=>pure r) Q E s₃) E s₂:=by
  rw [hs o i];exact wpAny_operating (wpAny_mono h₂ (fun r s₃ h₃=>wpAny_bind (wpAny_letTemporaryGo (wpAny_pure h₃))) fun _ _ x=>x)
 first
  | exact wpAny_pure (wpAny_bind a)
  | exact wpAny_bind (wpAny_pure (wpAny_bind a))
  | exact wpAny_bind a
variable {X:Cx} {pins:List (Addr × Obj)} {σ:St} {y:V}
theorem Jf9 {s:Shared} {o:Option V} (I:Inv X pins σ H s) (g:DGet H a y o):s.TypeIs (.ref a) "dict":=by
 rcases g with ⟨kvs,k,e,_,_⟩ | ⟨kvs,k,b,e,_,_,_⟩
 ·obtain ⟨_,_,d,_,c⟩:=dk_rd I.hok e;exact c.typeIs
 ·obtain ⟨_,_,f,_,c⟩:=dt_rd I.hok e;exact c.typeIs
def tDGet (td ty:TE):TE:=fun σ H Q=>td σ H fun x H1=>ty σ H1 fun y H2=>∃ a v,x=.ref a/\DGet H2 a y (some v)/\Q v H2
def tDIn (ty td:TE):TE:=fun σ H Q=>ty σ H fun y H1=>td σ H1 fun x H2=>∃ a o,x=.ref a/\DGet H2 a y o/\Q (.bl o.isSome) H2
def JiK (ty td:TE):TE:=fun σ H Q=>ty σ H fun y H1=>td σ H1 fun x H2=>∃ a o,x=.ref a/\DGet H2 a y o/\Q (.bl (!o.isSome)) H2
def sDPut (td ty tv:TE):TS:=fun D σ H=>tv σ H fun v H1=>td σ H1 fun x H2=>ty σ H2 fun y H3=>∃ a H4,x=.ref a/\DPut H3 a y v H4/\D.nx σ H4
section
variable {o e:Expr} {pos' tpos:Pos} {ty tv:TE} {i:Expr} {td:TE}
theorem Jb8 (hu:X.A.units+1<cLine) (ho:PE X o td) (hi:PE X i ty) (hs:NoSl i):PE X (.Subscript o i pos) (tDGet td ty):=by
 intro b s σ H Q I h;refine Jll PySem.F.slot_dict_getitem.lookup hs (thn (ho b s σ H _ I h) fun u n ζ=>?_);obtain ⟨x,e,I1,k,f⟩:=ζ;refine thn (hi b n σ e _ I1 f) fun t q ζ=>?_;obtain ⟨y,j,I2,m,a,v,l,g,d⟩:=ζ;subst l;obtain rfl:u=Value.ref a:=k;exact ⟨Jf9 I2 g,JhL hu I2 g m fun r p I3 c=>⟨v,j,I3,c,d⟩⟩
theorem JgW (hu:X.A.units+1<cLine) (hi:PE X i ty) (ho:PE X o td):PC X .In i o (tDIn ty td):=by
 intro b s σ H Q I h;refine thn (hi b s σ H _ I h) fun r n ζ=>?_;obtain ⟨y,d,I1,m,e⟩:=ζ;refine thn (ho b n σ d _ I1 e) fun u q ζ=>?_;obtain ⟨x,f,I2,j,a,l,k,g,c⟩:=ζ;subst k;obtain rfl:u=Value.ref a:=j;exact d_in hu I2 g m fun p I3=>⟨.bl l.isSome,f,I3,rfl,c⟩
theorem Jdc (hu:X.A.units+1<cLine) (hi:PE X i ty) (ho:PE X o td):PC X .NotIn i o (JiK ty td):=by
 intro b s σ H Q I h;refine thn (hi b s σ H _ I h) fun r n ζ=>?_;obtain ⟨y,d,I1,m,e⟩:=ζ;refine thn (ho b n σ d _ I1 e) fun u q ζ=>?_;obtain ⟨x,f,I2,j,a,l,k,g,c⟩:=ζ;subst k;obtain rfl:u=Value.ref a:=j;exact Jkw hu I2 g m fun p I3=>⟨.bl (!l.isSome),f,I3,rfl,c⟩
theorem Jco (hu:X.A.units+1<cLine) (ho:PE X o td) (hi:PE X i ty) (hv:PE X value tv) (hs:swapsWith value (some (.Subscript o i pos')) pos.line X.env=pure false) :
  PS X (.Assign [.Subscript o i pos'] value pos) (sDPut td ty tv):=by
 intro b s σ H D I h;refine wpAny_Assign_Subscript (thn (hv b s σ H _ I h) fun r t ζ=>?_) hs;obtain ⟨v,f,I1,d,k⟩:=ζ;refine thn (ho b t σ f _ I1 k) fun u j ζ=>?_;obtain ⟨x,m,I2,n,c⟩:=ζ;refine thn (hi b j σ m _ I2 c) fun C w ζ=>?_;obtain ⟨y,z,I3,q,a,l,p,g,e⟩:=ζ;subst p;obtain rfl:u=Value.ref a:=n;exact JhM hu I3 g q d fun B I4=>⟨σ,l,I4,e⟩
end
theorem JgM {w:World} (h:Heap) (hb:sysModules<h.objs.size):ObjOk P w H (h.push { cls:=.type "dict",data:=.dict #[] }) h.objs.size (.dK []) :=
 ⟨Nat.zero_le _,beq_eq_false_iff_ne.mpr (Ne.symm (Nat.ne_of_lt hb)),[], .nil,Heap.DictOf.new h⟩
def Jkc:TE:=fun _ H Q=>∀ p,H p=none->Q (.ref p) (upd H p (.dK []))
theorem JbJ:PE X (.Dict [] [] pos) Jkc:=fun b s σ H Q I h=>
 wpAny_Dict_empty ⟨.ref s.heap.objs.size,_,I.laid (a:=s.heap.objs.size) (o:=.dK []) (t':=s.toks) (fun _ _ q=>Heap.get?_push_of_some _ q) (Nat.le_refl _) (JgM s.heap I.big),rfl,h _ (I.hok.fresh (Nat.le_refl _))⟩
def JfY:List (TE × TE)->St->Hp->(List (V × V)->Hp->Prop)->Prop
 | [],_,H,Q=>Q [] H
 | (tk,tv)::r,σ,H,Q=>tk σ H fun x H1=>tv σ H1 fun y H2=>JfY r σ H2 fun ps H3=>Q ((x,y)::ps) H3
abbrev VV:List (V × V)->List (Value × Value)->Prop:=Paired fun p q=>RelV p.1 q.1/\RelV p.2 q.2
def PPs (X:Cx) (pos:Pos) (keys:List (Option Expr)) (values:List Expr) (trs:List (TE × TE)):Prop :=
 ∀ (pins:List (Addr × Obj)) (s:Shared) (σ : St) (H:Hp) (Q:List (V × V)->Hp->Prop),Inv X pins σ H s->JfY trs σ H Q ->
  wpAny (model X.prog X.w) X.A (evalPairs (pairTrees keys values X.env pos)) (fun vs s'=>∃ ps H',Inv X pins σ H' s'/\VV ps vs/\Q ps H') X.xe s
theorem Jk8:PPs X pos [] [] []:=fun a s σ H Q I h=>pairTrees_nil_walk ⟨[],H,I, .nil,h⟩
variable {trs:List (TE × TE)}
theorem Jjy {k v:Expr} {ks:List (Option Expr)} {vs:List Expr} {tk tv:TE} (hk:PE X k tk) (hv:PE X v tv) (hr:PPs X pos ks vs trs) :
  PPs X pos (some k::ks) (v::vs) ((tk,tv)::trs):=fun a s σ H Q I h=>
 pairTrees_cons_walk (thn (hk a s σ H _ I h) fun u o ζ=>by obtain ⟨x,e,I1,l,g⟩:=ζ;exact thn (hv a o σ e _ I1 g) fun q f ζ=>by obtain ⟨y,j,I2,n,c⟩:=ζ;exact thn (hr a f σ j _ I2 c) fun r p ζ=>by obtain ⟨m,i,I3,b,d⟩:=ζ;exact ⟨(x,y)::m,i,I3, .cons ⟨l,n⟩ b,d⟩)
def JeH (kvs more:List (Key × V)):List (Key × V):=more.foldl (fun acc kv=>putK acc kv.1 kv.2) kvs
theorem KV.merge:∀ {more:List (Key × V)} {rs:List (Key × Value)} {kvs:List (Key × V)} {vs:List (Key × Value)},KV more rs->KV kvs vs->KV (JeH kvs more) (merged vs rs):=by
 intro more rs kvs vs r;unfold KV at r;induction r generalizing kvs vs with
 | nil=>intro q;exact q
 | @cons p q ps qs h t ih=>
  intro a;have e:KV (putK kvs p.1 p.2) (stored vs q.1 q.2):=by
   have:=a.put p.1 h.2;rw [<- h.1];exact this
  exact ih e
theorem Jc7:∀ (more kvs:List (Key × V)),(JeH kvs more).length<=kvs.length+more.length
 | [],kvs=>by show kvs.length<=kvs.length+0;ac_nf
 | p::r,kvs=>by
  have h1:=Jc7 r (putK kvs p.1 p.2);have h2:=Jbl kvs p.1 p.2;show (JeH (putK kvs p.1 p.2) r).length<=_;rw [length_cons];ac_nf
theorem JeA {P:Program} {w:World}:∀ {kvs:List (Key × V)} {ws:List (Value × Value)},VV (kvs.map fun kv=>(kV kv.1,kv.2)) ws->∃ rs,Carries (Jau P w) ws rs/\KV kvs rs
 | [],_,r=>by rw [map_nil] at r;cases r;exact ⟨[],True.intro, .nil⟩
 | p::kvs,_,r=>by
  rw [map_cons] at r;cases r with
  | @cons a b as bs h t=>
   obtain ⟨rs,c,q⟩:=JeA (P:=P) (w:=w) t;obtain ⟨b1,b2⟩:=b;exact ⟨(p.1,b2)::rs,⟨kV_is h.1,rfl,c⟩, .cons ⟨rfl,h.2⟩ q⟩
def tDisp (trs:List (TE × TE)):TE:=fun σ H Q=>∀ p,H p=none->JfY trs σ (upd H p (.dK [])) fun ps H2=>H2 p=some (.dK [])/\∃ kvs:List (Key × V),ps=kvs.map (fun kv=>(kV kv.1,kv.2))/\kvs.length<=15/\Q (.ref p) (upd H2 p (.dK (JeH [] kvs)))
theorem Jk1 {keys:List (Option Expr)} {values:List Expr} (h:PPs X pos keys values trs) (hall:keys.all (·.isSome)=true) (hl:keys.length=values.length) (h0:keys≠[])
  (h15:keys.length<=15):PE X (.Dict keys values pos) (tDisp trs):=by
 intro f s σ H Q I q;have m:=I.hok.fresh (Nat.le_refl s.heap.objs.size);have I1:=I.laid (a:=s.heap.objs.size) (o:=.dK []) (h':=s.heap.push { cls:=.type "dict",data:=.dict #[] }) (t':=s.toks) (fun _ _ q=>Heap.get?_push_of_some _ q) (Nat.le_refl _) (JgM s.heap I.big);refine wpAny_Dict_walk (knd:=Jau X.prog X.w) hall hl h0 h15 (thn (h f _ σ _ _ I1 (q _ m)) fun E A ζ=>?_);obtain ⟨D,C,I2,g,e,d,r,B,i⟩:=ζ;subst r;obtain ⟨k,c,x⟩:=JeA (P:=X.prog) (w:=X.w) g;obtain ⟨z,j,y,v,u⟩:=dk_of I2.hok e;cases v;refine ⟨k,c,u,fun h' b t=>⟨.ref s.heap.objs.size,_,?_,rfl,i⟩⟩;have n:(JeH [] d).length<=sizeLine:=by
  have p:=Jc7 d [];rw [length_nil] at p;rw [sizeLine_eq];ac_nf
 have l:∃ q,h'.get? s.heap.objs.size=some q:=let ⟨q,_,_,hq,_⟩:=b;⟨q,hq⟩;exact JeS I2 (by rw [e];exact True.intro) t l (JgN n j (x.merge .nil) b)
structure M1 (X:Cx) (o:Expr) (m:Str) (apos:Pos) (e:Expr) (cpos:Pos):Prop where
 base:attributeBase o m X.env (eval o X.env)=eval o X.env
 few:((backTo cpos (starEach [e] X.env)).all (fun x=>!x.1)&&(backToKw cpos (keywordEach [] X.env)).all (fun x=>x.1.isSome)
  && decide (([e]:List Expr).length+([]:List Keyword).length+(if ([]:List Keyword).isEmpty then 0 else 1)<30))=true
 line:(apos.endLine == cpos.line)=true
 trees:backTo cpos (starEach [e] X.env)=[(false,eval e X.env)]
structure M2 (X:Cx) (o:Expr) (m:Str) (apos:Pos) (e f:Expr) (cpos:Pos):Prop where
 base:attributeBase o m X.env (eval o X.env)=eval o X.env
 few:((backTo cpos (starEach [e,f] X.env)).all (fun x=>!x.1)&&(backToKw cpos (keywordEach [] X.env)).all (fun x=>x.1.isSome)
  && decide (([e,f]:List Expr).length+([]:List Keyword).length+(if ([]:List Keyword).isEmpty then 0 else 1)<30))=true
 line:(apos.endLine == cpos.line)=true
 trees:backTo cpos (starEach [e,f] X.env)=[(false,eval e X.env),(false,eval f X.env)]
def IsD (H:Hp) (a:Addr):Prop:=(∃ kvs,Rd H a (.dK kvs))\/∃ kvs,Rd H a (.dT kvs)
theorem JfH {s:Shared} (I:Inv X pins σ H s) (d:IsD H a) :
  s.TypeIs (.ref a) "dict"/\(∀ b,Value.ref a=.ref b->∃ ob,s.heap.get? b=some ob/\ob.dict=none)/\(a == sysModules)=false:=by
 rcases d with ⟨kvs,e⟩ | ⟨kvs,e⟩
 ·obtain ⟨_,h,j,_,c⟩:=dk_rd I.hok e;refine ⟨c.typeIs,fun b q=>?_,h⟩;cases q;obtain ⟨ob,_,_,f,g,_⟩:=c;exact ⟨ob,f,g.2.1⟩
 ·obtain ⟨_,h,i,_,c⟩:=dt_rd I.hok e;refine ⟨c.typeIs,fun b q=>?_,h⟩;cases q;obtain ⟨ob,_,_,f,g,_⟩:=c;exact ⟨ob,f,g.2.1⟩
section
variable {d:V} {u r:Value} {o:Option V} {s:Shared}
theorem JlB (hu:A.units+1<cLine) (I:Inv X pins σ H s) (g:DGet H a y o) (ry:RelV y u) (h:∀ w' s',Inv X pins σ H s'->RelV (o.getD .non) w'->Q w' s') :
  wpAny (model X.prog X.w) A (call (.builtin "dict.get") [.ref a,u]) Q E s:=by
 rcases g with ⟨kvs,k,e,ey,l⟩ | ⟨kvs,k,b,e,ey,eb,l⟩
 ·subst ey;obtain ⟨z,f,j,c,d⟩:=dk_rd I.hok e;refine call_meetsIn PySem.F.slot_dict_get d.typeIs PySem.F.entry_dict_get (PySem.F.args_dict_get_2 _ _) (meets_dict_get (Jau X.prog X.w) a (kV_is ry) f) ⟨_,d.mapOf,h _ _ (I.tok _) ?_⟩;rw [l];exact (c.val k).getD rfl
 ·subst ey;cases (show u=Value.ref b from ry);obtain ⟨z,f,i,c,d⟩:=dt_rd I.hok e;refine call_meetsIn PySem.F.slot_dict_get d.typeIs PySem.F.entry_dict_get (PySem.F.args_dict_get_2 _ _) (meetsH_dict_get (tupleKind (Jau X.prog X.w)) a b f) ⟨tupleKind_room_in1 hu,k,i,JdV I.hok eb,d,h _ _ (I.tok _) ?_⟩;rw [l];exact (c.val k).getD rfl
theorem JlC (hu:A.units+1<cLine) (I:Inv X pins σ H s) (g:DGet H a y o) (ry:RelV y u) (rd:RelV d r) (h:∀ w' s',Inv X pins σ H s'->RelV (o.getD d) w'->Q w' s') :
  wpAny (model X.prog X.w) A (call (.builtin "dict.get") [.ref a,u,r]) Q E s:=by
 rcases g with ⟨kvs,k,e,ey,l⟩ | ⟨kvs,k,b,e,ey,eb,l⟩
 ·subst ey;obtain ⟨z,i,m,c,f⟩:=dk_rd I.hok e;refine call_meetsIn PySem.F.slot_dict_get f.typeIs PySem.F.entry_dict_get (PySem.F.args_dict_get_3 _ _ _) (meets_dict_get_default (Jau X.prog X.w) a (kV_is ry) i r) ⟨_,f.mapOf,h _ _ (I.tok _) ?_⟩;rw [l];exact (c.val k).getD rd
 ·subst ey;cases (show u=Value.ref b from ry);obtain ⟨z,i,j,c,f⟩:=dt_rd I.hok e;refine call_meetsIn PySem.F.slot_dict_get f.typeIs PySem.F.entry_dict_get (PySem.F.args_dict_get_3 _ _ _) (meetsH_dict_get_default (tupleKind (Jau X.prog X.w)) a b i r) ⟨tupleKind_room_in1 hu,k,j,JdV I.hok eb,f,h _ _ (I.tok _) ?_⟩;rw [l];exact (c.val k).getD rd
end
def Jka (td ty:TE):TE:=fun σ H Q=>td σ H fun x H1=>∃ a,x=.ref a/\IsD H1 a/\ty σ H1 fun y H2=>∃ o,DGet H2 a y o/\Q (o.getD .non) H2
def Jkb (td ty tx:TE):TE:=fun σ H Q=>td σ H fun x H1=>∃ a,x=.ref a/\IsD H1 a/\ty σ H1 fun y H2=>tx σ H2 fun z H3=>∃ o,DGet H3 a y o/\Q (o.getD z) H3
section
variable {o e:Expr} {apos cpos:Pos} {ty tx:TE} {f:Expr} {td:TE}
theorem Jjs (hu:X.A.units+1<cLine) (ho:PE X o td) (he:PE X e ty) (m:M1 X o "get" apos e cpos):PE X (.Call (.Attribute o "get" apos) [e] [] cpos) (Jka td ty):=by
 intro b s σ H Q I h;refine wpAny_Call_method m.base m.few m.line PySem.F.plainAttrs_dict PySem.F.slot_dict_get PySem.F.type_dict_get (thn (ho b s σ H _ I h) fun u t ζ=>?_);obtain ⟨x,k,I1,p,a,q,d,l⟩:=ζ;subst q;obtain rfl:u=Value.ref a:=p;obtain ⟨j,i,_⟩:=JfH I1 d;refine ⟨j,i,?_⟩;rw [m.trees];refine Calls.callWith_builtin rfl (Calls.evalArgs_plain (Calls.spliced_cons (thn (he b t σ k _ I1 l) fun C w ζ=>?_)));obtain ⟨y,n,I2,r,B,g,f⟩:=ζ;refine Calls.spliced_nil ?_;exact JlB hu I2 g r fun z v I3 c=>⟨_,n,I3,c,f⟩
theorem Jjt (hu:X.A.units+1<cLine) (ho:PE X o td) (he:PE X e ty) (hf:PE X f tx) (m:M2 X o "get" apos e f cpos):PE X (.Call (.Attribute o "get" apos) [e,f] [] cpos) (Jkb td ty tx):=by
 intro b s σ H Q I h;refine wpAny_Call_method m.base m.few m.line PySem.F.plainAttrs_dict PySem.F.slot_dict_get PySem.F.type_dict_get (thn (ho b s σ H _ I h) fun u D ζ=>?_);obtain ⟨x,p,I1,w,a,B,d,r⟩:=ζ;subst B;obtain rfl:u=Value.ref a:=w;obtain ⟨l,k,_⟩:=JfH I1 d;refine ⟨l,k,?_⟩;rw [m.trees];refine Calls.callWith_builtin rfl (Calls.evalArgs_plain (Calls.spliced_cons (thn (he b D σ p _ I1 r) fun M q ζ=>?_)));obtain ⟨y,v,I2,C,j⟩:=ζ;refine Calls.spliced_cons (thn (hf b q σ v _ I2 j) fun G E ζ=>?_);obtain ⟨z,t,I3,i,K,g,n⟩:=ζ;refine Calls.spliced_nil ?_
 exact JlC hu I3 g C i fun J L I4 c=>⟨_,t,I4,c,n⟩
end
section
variable {s:Shared}
end
section
variable {u:Value} {s:Shared}
end
section
variable {κ:Type} [DecidableEq κ]
end
def DictAt (h:Heap) (e:Addr) (od:Option Addr):Prop:=∃ o,h.get? e=some o/\o.dict=od
theorem JhS (o:Obj) (f):(o.mapFields f).dict=o.dict:=by
 obtain ⟨c,d,a,b⟩:=o;cases a <;> rfl
section
variable {M:Model} {base:Heap} {outer l:List Env} {L e:Addr} {oe:Obj} {vs:Array Value} {head a0 fl:Value} {od:Option Addr} {Q:Unit->Shared->Prop} {s:Shared} {cls:Value}
theorem JjT {hadNext:Bool} (hfr:A.frames=some (env::outer)) (hl:s.heap.FunFrames base (env::outer)) (hf:env.frame=some L)
  (he:s.heap.get? e=some oe) (hkb:base.StaysIn s.heap) (hen:base.get? e=none) (hd:oe.data=.fields vs) (hsz:1<vs.size) (h0:vs[0]?=some a0)
  (h:∀ h',Heap.NotedW base (env::outer) e oe.cls a0 (rawInt L) s.heap h'->DictAt h' e oe.dict->Q () { s with heap:=h' }) :
  wpAny M A (do let a <- frameOf env;let pl <- entryPlaceOf L hadNext;let b <- EntryCells.newEntry head a .none (rawInt L) .none pl;setField (.ref e) 1 b) Q E s:=by
 have C:e∉(env::outer).filterMap (·.frame):=fun u=>by
  obtain ⟨_,o,x,f⟩:=hl.mem u;rw [he] at x;cases x;exact f vs hd
 refine wpAny_bind (wpAny_frameOf_fun hfr hl hf fun h₁ p=>wpAny_bind (wpAny_entryPlaceOf fun pl j=>?_));unfold EntryCells.newEntry newFields;refine wpAny_bind (wpAny_newObj_type ?_ (j.sizeOk5 _ _ _ _ _));have g:h₁.get? e=some oe:=(p.2.1 e C).trans he;have i:base.StaysIn h₁:=fun b o c=>(p.2.1 b fun u=>by rw [(hl.mem u).1] at c;cases c).trans (hkb b o c);generalize B:({ cls:=.type "traceback",dict:=none,data:=.fields ([head, .ref L, .none,rawInt L, .none]++(if pl.isEmpty then List.replicate 6 Value.none else pl)).toArray }:Obj)=r;have m:=Heap.get?_push_of_some (h:=h₁) r g;refine wpAny_setField m hd hsz ?_;have y:h₁.objs.size≠e:=Nat.ne_of_gt (Heap.lt_size g);have l:=Obj.data_mapFields hd (·.setIfInBounds 1 (Value.ref h₁.objs.size));have k:=Heap.get?_update_self (Obj.mapFields (·.setIfInBounds 1 (Value.ref h₁.objs.size))) m (Obj.isFreed_of_fields l);have t:=(Heap.get?_update_other (h₁.push r) (Obj.mapFields (·.setIfInBounds 1 (Value.ref h₁.objs.size))) (Ne.symm y)).trans (Heap.get?_push_size h₁ (by rw [<- B];rfl));have d:∀ b o,b≠e->h₁.get? b=some o->((h₁.push r).update e (Obj.mapFields (·.setIfInBounds 1 (Value.ref h₁.objs.size)))).get? b=some o:=fun b o n c=>by
  rw [Heap.get?_update_other _ _ (Ne.symm n)];exact Heap.get?_push_of_some _ c
 have w:∀ b o,s.heap.get? b=some o->(∀ vs,o.data≠.fields vs)->b≠e:=fun b o c f q=>by
  rw [q,he] at c;cases c;exact f vs hd
 refine h _ ⟨fun b o c=>d b o (fun q=>by rw [q,hen] at c;cases c) (i b o c),hl.of_keeps fun b o c f=>?_,?_,fun b o c f=>?_⟩ ⟨_,k,JhS _ _⟩
 ·obtain ⟨v,z⟩:=p.2.2 b o c;exact ⟨_,d b _ (w b o c f) z,rfl⟩
 ·refine ⟨_,_,h₁.objs.size,r,_,k,⟨Obj.cls_mapFields _ _,by rw [Array.getElem?_setIfInBounds_ne ⋯];exact h0⟩,l,by simp [hsz],i.fresh,y,t,by rw [<- B],?_⟩;first | (simp;done) | (rcases j with rfl | ⟨_,_,_,_,_,_,_,rfl⟩ <;> simp)
 ·obtain ⟨v,z⟩:=p.2.2 b o c;exact ⟨v,d b _ (w b o c f) z⟩
theorem noteD (hfr:A.frames=some (env::outer)) (hf:env.frame=some L) (hfl:Heap.FlyingW base (env::outer) e cls a0 s.heap) (hdc:DictAt s.heap e od)
  (h:∀ h',Heap.HeldW base (env::outer) e cls a0 L h'->s.heap.UpToSlots h'->DictAt h' e od->Q () { s with heap:=h' }):wpAny M A (noteFrame (.ref e) env) Q E s:=by
 obtain ⟨p,j,F,K,u,T,J,B,m,⟨i,H⟩,t,v,l,n,r,d,x⟩:=hfl;subst i;obtain ⟨D,g,k⟩:=hdc;rw [m] at g;cases g;unfold noteFrame;simp only [hf];refine wpAny_bind (wpAny_field m t v ?_);rw [if_pos (show (Value.ref T != Value.none)=true from by simp)];refine wpAny_bind (wpAny_field r d x ?_);rw [if_neg (show ¬ ((Value.none == rawInt L)=true) from by simp [rawInt])];refine wpAny_bind (wpAny_setField r d (Array.getElem?_eq_some_iff.mp x).1 ?_);have a:∀ b,b≠T->(s.heap.update T (Obj.mapFields (·.setIfInBounds 3 Value.none))).get? b=s.heap.get? b:=fun b c=>Heap.get?_update_other _ _ (Ne.symm c);have w:∀ b o,s.heap.get? b=some o->(∀ u,o.data≠.fields u)->b≠T:=fun b o c f q=>by
  rw [q,r] at c;cases c;exact f B d
 refine JjT hfr (F.of_keeps fun b o c f=>⟨o,(a b (w b o c f)).trans c,rfl⟩) hf ((a e (Ne.symm n)).trans m)
  (fun b o c=>(a b fun q=>by rw [q,l] at c;cases c).trans (p b o c)) j t (Array.getElem?_eq_some_iff.mp v).1 H fun h' ⟨y,I,C,z⟩ G=>?_
 exact h h' ⟨y,j,I,C⟩ (fun b o c f=>z b o ((a b (w b o c f)).trans c) f) (k ▸ G)
theorem JeW (hkb:base.StaysIn s.heap) (hl:s.heap.FunFrames base l) (ht:s.heap.TracedAtW base e cls a0 fl) (hdc:DictAt s.heap e od)
  (h:∀ h',base.StaysIn h'->h'.FunFrames base l->h'.TracedW base e cls a0->s.heap.UpToSlots h'->DictAt h' e od->Q () { s with heap:=h' }):wpAny M A (setFlight (.ref e) none) Q E s:=by
 obtain ⟨y,p,T,B,x,u,m,t,n,i,g,r,d,z⟩:=ht;have j:=(Array.getElem?_eq_some_iff.mp z).1;have a:∀ b,b≠T->(s.heap.update T (Obj.mapFields (·.setIfInBounds 3 ((none:Option Addr).elim Value.none fun f=>rawInt f)))).get? b=s.heap.get? b:=fun b c=>Heap.get?_update_other _ _ (Ne.symm c);have v:∀ b o,s.heap.get? b=some o->(∀ p,o.data≠.fields p)->b≠T:=fun b o c k q=>by
  rw [q,r] at c;cases c;exact k x d
 unfold setFlight;refine wpAny_bind (wpAny_field u t n ?_);rw [if_pos (show (Value.ref T != Value.none)=true from by simp)];refine wpAny_setField r d j (h _ (fun b o c=>(a b fun q=>by rw [q,i] at c;cases c).trans (hkb b o c)) (hl.of_keeps fun b o c k=>⟨o,(a b (v b o c k)).trans c,rfl⟩) ?_ (fun b o c k=>⟨o.slots,(a b (v b o c k)).trans c⟩) ?_)
 ·exact ⟨y,p,T,_,_,(a e (Ne.symm g)).trans u,m,t,n,i,g,Heap.get?_update_self _ r (Obj.isFreed_of_fields (Obj.data_mapFields d _)),Obj.data_mapFields d _,by simp [j]⟩
 ·obtain ⟨o,n,w⟩:=hdc;exact ⟨o,(a e (Ne.symm g)).trans n,w⟩
theorem JkH (hfr:A.frames=some (env::outer)) (hf:env.frame=some L) (hfl:Heap.FlyingW base (env::outer) e cls a0 s.heap) (hdc:DictAt s.heap e od)
  (hQ:∀ h',Heap.FlyingW base outer e cls a0 h'->s.heap.UpToSlots h'->DictAt h' e od->Q () { s with heap:=h' }):wpAny M A (leaving env (.ref e)) Q E s:=by
 unfold leaving;refine wpAny_bind (noteD hfr hf hfl hdc fun a f g i=>?_);obtain ⟨d,o,k,b⟩:=f;refine JeW (s:={ s with heap:=a }) d k b i fun c n ⟨_,_,j⟩ h m l=>hQ c ⟨n,o,j,h⟩ (g.trans m) l
theorem JlM (hh:Heap.HeldW base l e cls a0 L s.heap) (hdc:DictAt s.heap e od) (hQ:∀ h',Heap.FlyingW base l e cls a0 h'->s.heap.UpToSlots h'->DictAt h' e od->Q () { s with heap:=h' }):wpAny M A (setFlight (.ref e) none) Q E s:=by
 obtain ⟨c,k,g,a⟩:=hh;exact JeW c g a hdc fun b j f d i h=>hQ b ⟨j,k,f,d⟩ i h
theorem Jlu (hh:Heap.FlyingW base l e cls a0 s.heap) (hdc:DictAt s.heap e od) (hQ:∀ h',Heap.FlyingW base l e cls a0 h'->s.heap.UpToSlots h'->DictAt h' e od->Q () { s with heap:=h' }):wpAny M A (setFlight (.ref e) none) Q E s:=by
 obtain ⟨c,k,g,a⟩:=hh;exact JeW c g a.at hdc fun b j f d i h=>hQ b ⟨j,k,f,d⟩ i h
theorem JjY (hfr:A.frames=some (env::outer)) (hl:s.heap.FunFrames base (env::outer)) (hf:env.frame=some L) (he:s.heap.get? e=some oe) (hkb:base.StaysIn s.heap) (hen:base.get? e=none) (hd:oe.data=.fields vs) (h1:vs[1]?=some .none) (h0:vs[0]?=some a0)
  (hQ:∀ h',Heap.FlyingW base outer e oe.cls a0 h'->s.heap.UpToSlots h'->DictAt h' e oe.dict->Q () { s with heap:=h' }):wpAny M A (leaving env (.ref e)) Q E s:=by
 unfold leaving noteFrame;simp only [hf];refine wpAny_bind (wpAny_bind (wpAny_field he hd h1 ?_));rw [if_neg ⋯];refine JjT hfr hl hf he hkb hen hd (Array.getElem?_eq_some_iff.mp h1).1 h0 fun b ⟨d,h,c,a⟩ j=>?_;refine JeW (s:={ s with heap:=b }) d h c j fun f m ⟨_,_,i⟩ g l k=>hQ f ⟨m,hen,i,g⟩ (Heap.UpToSlots.trans a l) k
end
variable {h:Heap}
theorem ObjOk.is_there {w:World} {o:HO} (x:ObjOk P w H h a o):∃ ob,h.get? a=some ob:=by
 cases o with
 | lst xs=>obtain ⟨_,_,_,_,e⟩:=x;exact ⟨_,e⟩
 | tup xs=>obtain ⟨_,_,_,p⟩:=x;obtain ⟨o,e,_⟩:=p;exact ⟨_,e⟩
 | dK kvs=>obtain ⟨_,_,_,_,o,_,_,e,_⟩:=x;exact ⟨_,e⟩
 | dT kvs=>obtain ⟨_,_,_,_,o,_,_,e,_⟩:=x;exact ⟨_,e⟩
 | set S n=>
  obtain ⟨o,_,_,_,e,_⟩:=x;exact ⟨_,e⟩
 | ins C dx fs=>obtain ⟨_,_,_,e,_⟩:=x;exact ⟨_,e⟩
 | own y=>exact x
 | xd fs=>obtain ⟨c,n,_⟩:=x;obtain ⟨b,e,_⟩:=Jd1 n;exact ⟨_,e⟩
 | rng lo hi=>obtain ⟨_,_,_,e⟩:=x;exact ⟨_,e⟩
 | frz ob u=>exact ⟨_,x.1⟩
 | tbl ps=>exact ⟨_,x⟩
 | met f y=>exact ⟨_,x⟩
 | ext φ=>exact x.2.1
theorem HOk.isnone {w:World} (x:HOk P w H h) (e:h.get? a=none):H a=none:=by
 cases q:H a with
 | none=>rfl
 | some u=>
  obtain ⟨b,z⟩:=(x a u q).is_there;rw [e] at z;cases z
structure Fly (l:List Env) (H':Hp) (h0:Heap) (ea:Addr) (od:Option Addr) (cls a0:Value) (B h:Heap):Prop where
 fly:Heap.FlyingW B l ea cls a0 h
 free:H' ea=none
 new:h0.get? ea=none
 dct:DictAt h ea od
 kept:∀ b o,h.get? b=some o->((∃ o',h0.get? b=some o')\/∃ u,H' b=some u)->b∉frs l->B.get? b=some o
def CX1 (P:Program) (w:World):CXT:=fun outer H s E e s'=>
 ∃ (ea:Addr) (od:Option Addr) (cls a0:Value) (B:Heap) (H':Hp),e=.ref ea/\s'.os=s.os/\AllBare s'.gens/\Un (frs outer) [] H H' s.heap s'.heap/\HOk P w H' s'.heap /\
  Fly outer H' s.heap ea od cls a0 B s'.heap/\E cls od H'
section
variable {l l':List Env} {h0 h' B:Heap} {ea:Addr} {od:Option Addr} {a0:Value} {w:World} {cls:Value}
theorem Fly.next (u:Un (frs l) [] H H' h0 h) (hok:HOk P w H' h) (F:Fly l H' h0 ea od cls a0 B h) (fr:∀ b∈frs l,H' b=none) (k:B.StaysIn h') (sl:h.UpToSlots h') :
  HOk P w H' h'/\Un (frs l) [] H H' h0 h'/\∀ b o,h.get? b=some o->((∃ o',h0.get? b=some o')\/∃ u,H' b=some u)->b∉frs l->h'.get? b=some o:=by
 have c:∀ b o,h.get? b=some o->((∃ o',h0.get? b=some o')\/∃ u,H' b=some u)->b∉frs l->h'.get? b=some o:=fun b o q r n=>k b o (F.kept b o q r n);have d:∀ b o,b∈frs l->h.get? b=some o->∃ f,h'.get? b=some { o with slots:=f }:=fun b o m q=>by
  obtain ⟨_,o',t,x⟩:=F.fly.2.2.1.mem m;rw [q] at t;cases t;exact sl b o q x
 refine ⟨fun a o e=>?_,⟨fun b o q n s _=>?_,fun b o q n m _=>?_,u.free,fun b o q y=>?_,u.tups,u.frzs,u.tbls⟩,c⟩
 ·have p:∀ b u,H' b=some u->b∉frs l:=fun b u q m=>by
   rw [fr b m] at q;cases q
  refine (hok a o e).stay (fun b v i q=>?_) (fun _ r=>r) (fun _ _ r=>r);rcases i with rfl | i
  ·exact c _ _ q (.inr ⟨_,e⟩) (p _ _ e)
  ·exact c _ _ q (.inr ⟨_,i⟩) (p _ _ i)
 ·exact c b o (u.keep b o q n s (by simp)) (.inl ⟨o,q⟩) s
 ·obtain ⟨z,g⟩:=u.slot b o q n m (by simp);obtain ⟨f,j⟩:=d b _ m g;exact ⟨f,j⟩
 ·obtain ⟨o',g⟩:=u.there b o q (by simp);by_cases m:b∈frs l
  ·obtain ⟨f,j⟩:=d b _ m g;exact ⟨_,j⟩
  ·exact ⟨o',c b o' g (.inl ⟨o,q⟩) m⟩
end
section
variable {h' B:Heap} {ea:Addr} {od:Option Addr} {a0:Value} {s:Shared} {cls:Value}
theorem Inv.out (I:Inv X pins σ H s) (hex:X.ex=[]) (u:Un (frs X.stack) [] H H' s.heap h'):Un X.fs [] X.H₀ H' X.s₀.heap h':=by
 have J:=I.base;rw [hex] at J;have i:∀ b o,X.s₀.heap.get? b=some o->b≠X.env.locals:=fun b o q z=>by
  have f:=Heap.lt_size q;have k:=I.ok.above;rw [z] at f;exact absurd (Nat.lt_of_lt_of_le f k) (Nat.lt_irrefl _)
 have r:∀ b o,X.s₀.heap.get? b=some o->b∉X.fs->b∉frs X.stack:=fun b o q c m=>by
  rcases mem_cons.mp (I.stkSub b m) with z | z
  ·exact i b o q z
  ·exact c z
 refine ⟨fun b o q n c _=>?_,fun b o q n m _=>?_,fun b o q n _=>?_,fun b o q _=>?_,fun b g q=>u.tups b g (J.tups b g q),fun b o v q=>u.frzs b o v (J.frzs b o v q),fun b p q=>?_⟩
 ·exact u.keep b o (J.keep b o q n c (by simp)) (J.free b o q n (by simp)) (r b o q c) (by simp)
 ·obtain ⟨t,a⟩:=J.slot b o q n m (by simp);obtain ⟨j,e⟩:=u.any a (J.free b o q n (by simp)) (by simp);exact ⟨j,e⟩
 ·obtain ⟨d,a⟩:=J.there b o q (by simp);exact u.free b d a (J.free b o q n (by simp)) (by simp)
 ·obtain ⟨d,a⟩:=J.there b o q (by simp);exact u.there b d a (by simp)
 ·obtain ⟨l,a⟩:=J.tbls b p q;obtain ⟨h,e⟩:=u.tbls b _ a;exact ⟨l++h,by rw [e,Array.append_assoc]⟩
theorem Inv.stkFree' (I:Inv X pins σ H s) (u:Un (frs X.stack) [] H H' s.heap h):∀ b∈frs X.stack,H' b=none:=fun b m=>by
 obtain ⟨_,o,q,_⟩:=I.stack.mem m;exact u.free b o q (I.stkFree b m) (by simp)
end
section
variable {mg:Str->Option Value} {base:Heap} {N:List Str} {qual:Str} {scope:Scope} {cdv:Value} {outer:List Env} {s0:Shared} {H0:Hp} {E:XK} {w:World} {K:W.Frag} {f:Addr}
theorem pass1:JbS (CX1 P w) (cxOf (CX1 P w) P w K mg base N qual scope f cdv A outer s0 H0 E) E:=by
 intro G σ H s e C I Q;obtain ⟨i,X,cls,a0,B,J,rfl,t,U,u,k,F,T⟩:=Q;have x:=I.stkFree' u;show wpAny (model P w) (A.deeper (envOfC qual scope s0.heap.objs.size f cdv)) (leaving (envOfC qual scope s0.heap.objs.size f cdv) (.ref i)) (fun _ h=>CX1 P w outer H0 s0 E (.ref i) h) (fun L h=>CX1 P w outer H0 s0 E L h) C;refine JkH (base:=B) (cls:=cls) (a0:=a0) I.ok.frames rfl F.fly F.dct fun R g n p=>?_;obtain ⟨l,W,Z⟩:=F.next u k x g.1 n;have j:s0.heap.get? i=none:=by
  cases q:s0.heap.get? i with
  | none=>rfl
  | some o=>
   obtain ⟨a,V⟩:=I.base.there i o q (by intro z;cases z);have:=F.new;rw [V] at this;cases this
 refine ⟨i,X,cls,a0,B,J,rfl,t.trans I.os,U,I.out rfl W,l,⟨g,F.free,j,p,fun b o q r S=>?_⟩,T⟩;have O:b≠s0.heap.objs.size:=fun z=>by
  rcases r with ⟨a,c⟩ | ⟨v,c⟩
  ·have:=Heap.lt_size c;rw [z] at this;exact absurd this (Nat.lt_irrefl _)
  ·have M:=x s0.heap.objs.size (by
    show s0.heap.objs.size∈frs (envOfC qual scope s0.heap.objs.size f cdv::outer);exact List.mem_filterMap.mpr ⟨_,mem_cons_self ..,rfl⟩)
   rw [z,M] at c;cases c
 have Y:b∉frs (envOfC qual scope s0.heap.objs.size f cdv::outer):=fun m=>by
  rcases mem_cons.mp (I.stkSub b m) with z | z
  ·exact O z
  ·exact S z
 have D:(∃ a,s.heap.get? b=some a)\/∃ v,J b=some v:=by
  rcases r with ⟨a,c⟩ | r
  ·exact .inl (I.base.there b a c (by intro z;cases z))
  ·exact .inr r
 have d:∃ a,C.heap.get? b=some a:=by
  rcases D with ⟨a,c⟩ | ⟨v,c⟩
  ·exact u.there b a c (by simp)
  ·exact (k b v c).is_there
 obtain ⟨a,c⟩:=d;have z:=F.kept b a c D Y;have y:=g.1 b a z;rw [show R.get? b=some o from q] at y;cases y;exact z
end
theorem passF {w:World}:JbS (CX1 P w) X E0:=fun _ _ _ _ _ _ _ h=>by
 obtain ⟨_,_,_,_,_,_,_,_,_,_,_,_,z⟩:=h;exact False.elim z
def unt (H:Hp) (a:Addr):Hp:=fun b=>if b=a then none else H b
theorem Jg5:unt H a a=none:=if_pos rfl
theorem Jdn {b:Addr} (h:b≠a):unt H a b=H b:=if_neg h
variable {C:Addr} {bmB:List Value} {newId:String}
theorem JhW {K:W.Frag} (X:K.In h) (q:W.excIn K C bmB newId=true) :
  ∃ (bm:List Value) (N:Addr) (nm qn:Str) (bs:List Value) (hdct:Bool) (sn:List Str) (sub:List Value) (ab:Bool) (col:Option Bool) (dd:Option Addr) (k0 k1 k2 k3 k5:Option Value) (mN:Str->Option Value),
   h.get? C=some (excClassObj nm qn C N bs bm hdct sn sub ab col dd k0 k1 k2 k3 k5 newId)/\h.Ns N mN/\mN "__init__"=none/\OwnTail h bmB bm:=by
 unfold W.excIn at q;split at q
 next dd cd sl ho=>
  split at q
  next C' bm k0 k1 k2 k3 n k5 hm hs=>
   have o:((((C'=C/\n=newId)/\cd.hasDel=false)/\W.tailIn K bmB bm=true)/\W.nsOkIn K cd.ns=true)/\W.nsIn K cd.ns "__init__"=some none:=by simpa using q
   obtain ⟨⟨⟨⟨⟨j,p⟩,k⟩,l⟩,e⟩,g⟩:=o;obtain ⟨nm,bs,c,m,qn,f,sn,sub,ab,col,b⟩:=cd;have i:sl=#[k0,k1,k2,k3,some (.builtin n),k5]:=by
    cases sl;exact congrArg Array.mk hs
   subst j;subst p;subst i;have a:c=.ref C'::bm:=hm;subst a;have d:b=false:=k;subst d;exact ⟨bm,m,nm,qn,bs,f,sn,sub,ab,col,dd,k0,k1,k2,k3,k5,_,X _ _ ho, .of_isNs (W.isNs_of_in X e),W.nsMap_none_of_in X e g,W.tail_of_in X l⟩
  next=>cases q
 next=>cases q
section
variable {mg:Str->Option Value} {base:Heap} {N:List Str} {qual:Str} {scope:Scope} {cdv:Value} {outer:List Env} {s0:Shared} {H0:Hp} {E:XK} {w:World} {K:W.Frag} {f:Addr} {h':Heap} {e:Addr} {us:List Value}
theorem JlN {s:Shared} {cls:Value}
  (I:Inv (cxOf (CX1 P w) P w K mg base N qual scope f cdv A outer s0 H0 E) pins σ H s) (hm:Heap.MadeExcOf s.heap h' e cls us) (q:E cls none H) :
  (cxOf (CX1 P w) P w K mg base N qual scope f cdv A outer s0 H0 E).xe (.ref e) { s with heap:=h' }:=by
 show wpAny (model P w) (A.deeper (envOfC qual scope s0.heap.objs.size f cdv)) (leaving (envOfC qual scope s0.heap.objs.size f cdv) (.ref e)) (fun _ k=>CX1 P w outer H0 s0 E (.ref e) k) (fun S k=>CX1 P w outer H0 s0 E S k) { s with heap:=h' };have T:=I.stkFree;have L:∀ j∈(envOfC qual scope s0.heap.objs.size f cdv::outer), ∀ b,j.frame=some b->b∈frs (envOfC qual scope s0.heap.objs.size f cdv::outer):=fun j G b i=>List.mem_filterMap.mpr ⟨j,G,i⟩;obtain ⟨t,G,_,_⟩:=hm.there;refine JjY (s:={ s with heap:=h' }) (base:=W.hideAll s.heap (frs (envOfC qual scope s0.heap.objs.size f cdv::outer))) I.ok.frames ((W.funFrames_hide I.stack L).of_keeps fun b o i hn=>⟨o,hm.keeps b o i,rfl⟩) rfl G (fun b o z=>hm.keeps b o (W.of_hideAll _ z)) ?_ rfl rfl rfl fun C B x J=>?_
 ·cases z:(W.hideAll s.heap (frs (envOfC qual scope s0.heap.objs.size f cdv::outer))).get? e with
  | none=>rfl
  | some o=>
   have O:=W.of_hideAll _ z;rw [hm.new] at O;cases O
 have h:H e=none:=I.hok.isnone hm.new;have c:∀ b o,s.heap.get? b=some o->b∉frs (envOfC qual scope s0.heap.objs.size f cdv::outer)->C.get? b=some o:=fun b o z n=>B.1 b o (W.hideAll_get _ z n);have u:Un (frs (envOfC qual scope s0.heap.objs.size f cdv::outer)) [] H H s.heap C:=by
  refine ⟨fun b o z _ n _=>c b o z n,fun b o z _ m _=>?_,fun _ _ _ n _=>n,fun b o z _=>?_,fun _ _ z=>z,fun _ _ _ z=>z,fun _ ps z=>⟨#[],by rw [z];simp⟩⟩
  ·obtain ⟨_,g,d,M⟩:=I.stack.mem m;rw [z] at d;cases d;exact x b o (hm.keeps b o z) M
  ·by_cases m:b∈frs (envOfC qual scope s0.heap.objs.size f cdv::outer)
   ·obtain ⟨_,g,d,M⟩:=I.stack.mem m;rw [z] at d;cases d;obtain ⟨Z,Y⟩:=x b o (hm.keeps b o z) M;exact ⟨_,Y⟩
   ·exact ⟨o,c b o z m⟩
 have D:∀ b v,H b=some v->b∉frs (envOfC qual scope s0.heap.objs.size f cdv::outer):=fun b v z m=>by
  rw [T b m] at z;cases z
 have F:HOk P w H C:=fun a o z=>by
  refine (I.hok a o z).stay (fun b v i p=>?_) (fun _ r=>r) (fun _ _ r=>r);rcases i with rfl | i
  ·exact c _ _ p (D _ _ z)
  ·exact c _ _ p (D _ _ i)
 have l:s0.heap.get? e=none:=by
  cases z:s0.heap.get? e with
  | none=>rfl
  | some o=>
   obtain ⟨g,X⟩:=I.base.there e o z (by intro z;cases z);have:=hm.new;rw [X] at this;cases this
 refine ⟨e,none,cls, .ref t,_,H,rfl,I.os,I.bare,I.out rfl u,F,⟨B,h,l,J,fun b o z r V=>?_⟩,q⟩;have U:∃ g,s.heap.get? b=some g:=by
  rcases r with ⟨g,d⟩ | ⟨v,d⟩
  ·exact I.base.there b g d (by intro z;cases z)
  ·exact (I.hok b v d).is_there
 have R:b∉frs (envOfC qual scope s0.heap.objs.size f cdv::outer):=fun m=>by
  rcases mem_cons.mp (I.stkSub b m) with y | y
  ·rcases r with ⟨g,d⟩ | ⟨v,d⟩
   ·have Q:=Heap.lt_size d;rw [y] at Q;exact absurd Q (Nat.lt_irrefl _)
   ·exact D b v d m
  ·exact V y
 obtain ⟨g,d⟩:=U;have p:=c b g d R;rw [show C.get? b=some o from z] at p;cases p;exact W.hideAll_get _ d R
variable {oe:Obj} {a0:Value}
theorem JlO {s:Shared} {vs:Array Value} {φ:Heap->Prop}
  (I:Inv (cxOf (CX1 P w) P w K mg base N qual scope f cdv A outer s0 H0 E) pins σ H s) (ht:H e=some (.ext φ)) (he:s.heap.get? e=some oe) (hd:oe.data=.fields vs) (h1:vs[1]?=some .none) (h0:vs[0]?=some a0) (new0:s0.heap.get? e=none) (q:E oe.cls oe.dict (unt H e)) :
  (cxOf (CX1 P w) P w K mg base N qual scope f cdv A outer s0 H0 E).xe (.ref e) s:=by
 show wpAny (model P w) (A.deeper (envOfC qual scope s0.heap.objs.size f cdv)) (leaving (envOfC qual scope s0.heap.objs.size f cdv) (.ref e)) (fun _ l=>CX1 P w outer H0 s0 E (.ref e) l) (fun O l=>CX1 P w outer H0 s0 E O l) s;have Q:=I.stkFree;have L:∀ k∈(envOfC qual scope s0.heap.objs.size f cdv::outer), ∀ b,k.frame=some b->b∈e::frs (envOfC qual scope s0.heap.objs.size f cdv::outer):=fun k he b j=>.tail _ (List.mem_filterMap.mpr ⟨k,he,j⟩);refine JjY (base:=W.hideAll s.heap (e::frs (envOfC qual scope s0.heap.objs.size f cdv::outer))) I.ok.frames (W.funFrames_hide I.stack L) rfl he (fun b o z=>W.of_hideAll _ z) (W.hideAll_none _ (.head _)) hd h1 h0 fun B t J C=>?_;have c:∀ b o,s.heap.get? b=some o->b≠e->b∉frs (envOfC qual scope s0.heap.objs.size f cdv::outer)->B.get? b=some o:=fun b o z p n=>t.1 b o (W.hideAll_get _ z fun m=>(mem_cons.mp m).elim p n);have x:∀ b,H b=none->b≠e:=fun b z y=>by rw [y,ht] at z;cases z
 have g:∀ b o,s.heap.get? b=some o->b∈frs (envOfC qual scope s0.heap.objs.size f cdv::outer)->∃ sl,B.get? b=some { o with slots:=sl }:=fun b o z m=>by
  obtain ⟨_,h,d,V⟩:=I.stack.mem m;rw [z] at d;cases d;exact J b o z V
 have u:Un (frs (envOfC qual scope s0.heap.objs.size f cdv::outer)) [] H (unt H e) s.heap B:=by
  refine ⟨fun b o z n m _=>c b o z (x b n) m,fun b o z _ m _=>g b o z m,fun b _ _ n _=>by rw [Jdn (x b n)];exact n,fun b o z _=>?_,fun b Z z=>?_,fun b o v z=>?_,fun b Y z=>⟨#[],?_⟩⟩
  ·by_cases y:b=e
   ·obtain ⟨T,i,_⟩:=C;exact ⟨T,y ▸ i⟩
   ·by_cases m:b∈frs (envOfC qual scope s0.heap.objs.size f cdv::outer)
    ·obtain ⟨X,U⟩:=g b o z m;exact ⟨_,U⟩
    ·exact ⟨o,c b o z y m⟩
  ·rw [Jdn (fun y=>by rw [y,ht] at z;cases z)];exact z
  ·rw [Jdn (fun y=>by rw [y,ht] at z;cases z)];exact z
  ·rw [Jdn (fun y=>by rw [y,ht] at z;cases z),z];simp
 have F:∀ b v,H b=some v->b∉frs (envOfC qual scope s0.heap.objs.size f cdv::outer):=fun b v z m=>by
  rw [Q b m] at z;cases z
 have D:∀ b v,unt H e b=some v->b≠e/\H b=some v:=fun b v z=>by
  by_cases y:b=e
  ·rw [y,Jg5] at z;cases z
  ·exact ⟨y,(Jdn y).symm.trans z⟩
 have G:HOk P w (unt H e) B:=fun a o z=>by
  obtain ⟨p,z⟩:=D a o z;refine (I.hok a o z).stay (fun b v j i=>?_) (fun b r=>by rw [Jdn (fun y=>by rw [y,ht] at r;cases r)];exact r) (fun b _ r=>by rw [Jdn (fun y=>by rw [y,ht] at r;cases r)];exact r);rcases j with rfl | j
  ·exact c _ _ i p (F _ _ z)
  ·exact c _ _ i (fun y=>by rw [y,ht] at j;cases j) (F _ _ j)
 refine ⟨e,oe.dict,oe.cls,a0,_,unt H e,rfl,I.os,I.bare,I.out rfl u,G,⟨t,Jg5,new0,C,fun b o z r S=>?_⟩,q⟩;have p:b≠e:=fun y=>by
  rcases r with ⟨h,d⟩ | ⟨v,d⟩
  ·rw [y,new0] at d;cases d
  ·exact (D _ _ d).1 y
 have R:∃ h,s.heap.get? b=some h:=by
  rcases r with ⟨h,d⟩ | ⟨v,d⟩
  ·exact I.base.there b h d (by intro z;cases z)
  ·exact (I.hok b v (D _ _ d).2).is_there
 have M:b∉frs (envOfC qual scope s0.heap.objs.size f cdv::outer):=fun m=>by
  rcases mem_cons.mp (I.stkSub b m) with y | y
  ·rcases r with ⟨h,d⟩ | ⟨v,d⟩
   ·have h1:=Heap.lt_size d;rw [y] at h1;exact absurd h1 (Nat.lt_irrefl _)
   ·exact F b v (D _ _ d).2 m
  ·exact S y
 obtain ⟨h,d⟩:=R;have i:=c b h d p M;rw [show B.get? b=some o from z] at i;cases i;exact W.hideAll_get _ d fun m=>(mem_cons.mp m).elim p M
def Jkd (E:XK) (C:Addr) (ta:TA):TS:=fun _ σ H=>ta σ H fun vs H1=>vs.length<=sizeLine/\E (.ref C) none H1
variable {x:Str} {np:Pos} {e:Expr} {es:List Expr}
theorem Jg0 {cpos:Pos} {B initId:String} {ta:TA} (FB:ExcBaseFacts B newId initId bmB) (hx:W.excIn K C bmB newId=true)
  (hg:Gl (cxOf (CX1 P w) P w K mg base N qual scope f cdv A outer s0 H0 E) x) (hm:mg x=some (.ref C)) (ha:PA (cxOf (CX1 P w) P w K mg base N qual scope f cdv A outer s0 H0 E) (e::es) ta)
  (he:starEach (e::es) (envOfC qual scope s0.heap.objs.size f cdv)=(false,eval e (envOfC qual scope s0.heap.objs.size f cdv))::starEach es (envOfC qual scope s0.heap.objs.size f cdv):=by rfl)
  (hpl:(backTo cpos (starEach es (envOfC qual scope s0.heap.objs.size f cdv))).any (·.1)=false:=by rfl) (hdb:(x == ("__debug__" : Str))=false:=by decide) :
  PS (cxOf (CX1 P w) P w K mg base N qual scope f cdv A outer s0 H0 E) (.Raise (some (.Call (.Name x np) (e::es) [] cpos)) none pos) (Jkd E C ta):=by
 intro a s σ H D I h;obtain ⟨bm,l,nm,g,bs,hdct,sn,sub,ab,col,dd,k0,k1,k2,k3,k5,mN,m,d,b,T⟩:=JhW I.mod.kin hx;have j:(A.deeper (envOfC qual scope s0.heap.objs.size f cdv)).handled=none:=I.ok.hd rfl;refine wpAny_Raise_call_subT (C:=C) (nm:=nm) (q:=g) (N:=l) (bs:=bs) (bm:=bm) (hdct:=hdct) (sn:=sn) (sub:=sub) (ab:=ab) (col:=col) (dd:=dd) (k0:=k0) (k1:=k1) (k2:=k2) (k3:=k3) (k5:=k5)
  FB (mN:=mN) (T.hasType FB.hasBase) j ?_ b (Jcl I hg hm ⟨rfl,?_⟩ hdb)
 ·show (backTo cpos (starEach (e::es) (envOfC qual scope s0.heap.objs.size f cdv))).any (·.1)=false;rw [he];show (false||(backTo cpos (starEach es (envOfC qual scope s0.heap.objs.size f cdv))).any (·.1))=false;rw [hpl];rfl
 ·have z:=ha cpos a s σ H _ I h;show wpAny _ _ (evalArgs (.ref C) true (backTo cpos (starEach (e::es) (envOfC qual scope s0.heap.objs.size f cdv))) []) _ _ _;have i:=he;rw [he];refine Calls.evalArgs_plain ?_;have c:wpAny (model P w) (A.deeper (envOfC qual scope s0.heap.objs.size f cdv)) (spliced (backTo cpos (starEach (e::es) (envOfC qual scope s0.heap.objs.size f cdv)))) _ _ s:=z;rw [he] at c;refine thn c fun n u ζ=>?_;obtain ⟨o,p,I1,r,k,q⟩:=ζ;exact ⟨rfl,by rw [<- r.length];exact k,I1.bk _ _ m,d.keeps I1.bk,T.keeps I1.bk,fun t e hm=>JlN I1 hm q⟩
end
def PEx (X:Cx) (e:Expr) (t:St->Hp->VK->XK->Prop):Prop :=
 ∀ (pins:List (Addr × Obj)) (s:Shared) (σ : St) (H:Hp) (Q:VK) (E:XK),Inv X pins σ H s->t σ H Q E ->
  wpAny (model X.prog X.w) X.A (eval e X.env) (EP X pins σ Q) (fun ev s'=>∃ H1 s1,Inv X pins σ H1 s1/\CX1 X.prog X.w X.stack H1 s1 E ev s') s
def xCall (sp:Sp) (dvs:List V) (t:TA):St->Hp->VK->XK->Prop:=fun σ H Q E=>t σ H fun vs H1=>sp (vs++dvs) H1 Q E
section
variable {fd:FuncData} {ps:List Str} {sp:Sp} {dvs:List V} {ds:List Value} {E:XK} {x:Str} {p apos:Pos} {e o:Expr} {es:List Expr} {ta:TE} {k:Nat} {f:Addr} {m:Str} {t:TA}
theorem Jle {s:Shared} {Q:VK} {us:List Value} {vs:List V} (F:FnOk X.prog X.w X.K X.mg X.base (CX1 X.prog X.w) k f fd ps sp) (hr:Room k X.A) (hb:Binds X.K fd ps ds) (hd:Vals dvs ds)
  (I:Inv X pins σ H s) (r:Vals vs us) (h:sp (vs++dvs) H Q E):wpAny (model X.prog X.w) X.A (call (.ref f) us) (EP X pins σ Q) (fun ev s'=>∃ H1 s1,Inv X pins σ H1 s1/\CX1 X.prog X.w X.stack H1 s1 E ev s') s:=by
 have c:Vals (vs++dvs) (us++ds):=r.append hd;have d:(us++ds).length=ps.length:=(c.length.symm).trans (F.len _ _ _ _ h);have g:=F.run X.A X.stack s H ⟨us,[]⟩ (us++ds) (vs++dvs) Q E hr I.env0 (hb s us I.kIn d) c h;refine wpAny_call (codeAny_mono g fun b s' a=>?_);match b,a with
 | .error e,a=>exact ⟨H,s,I,a⟩
 | .ok (.ret u),a=>exact I.after a
 | .ok .next,a=>exact a.elim
 | .ok .brk,a=>exact a.elim
 | .ok .cont,a=>exact a.elim
theorem Jjx (F:FnOk X.prog X.w X.K X.mg X.base (CX1 X.prog X.w) k f fd ps sp) (hr:Room k X.A) (hg:Gl X x) (hm:X.mg x=some (.ref f)) (hk:W.keepIn X.K (.ref f)=true) (hb:Binds X.K fd ps ds) (hd:Vals dvs ds)
  (ha:PA X.nox (e::es) t) (hdb:(x == ("__debug__" : Str))=false:=by decide) (he:starEach (e::es) X.env=(false,eval e X.env)::starEach es X.env:=by rfl) (hpl:(backTo pos (starEach es X.env)).any (·.1)=false:=by rfl) :
  PEx X (.Call (.Name x p) (e::es) [] pos) (xCall sp dvs t):=by
 intro a s σ H Q E I h;refine wpAny_Call_Name_kw (Jcl I hg hm ?_ hdb);have z:=ha pos a s σ H _ (I.wish _) h;refine W.callWith_K (h₀:=X.base) I.ok.mod.kin hk (wpAny_mono z (fun c g ζ=>?_) fun _ _ y=>y.elim) he hpl;obtain ⟨d,b,I1,r,q⟩:=ζ;refine ⟨I1.unwish.kIn,?_⟩;exact Jle F hr hb hd I1.unwish r q
end
section
variable {s':Shared} {h' B:Heap} {ea:Addr} {od:Option Addr} {a0:Value} {s:Shared} {cls:Value}
theorem Inv.track {o:HO} (I:Inv X pins σ H s) (hn:H a=none) (h1:X.s₀.heap.get? a=none) (h2:a≠X.env.locals) (h3:∀ x c,X.env.cells.lookup x=some c->c≠a) (h4:∀ p∈X.pn++pins,p.1≠a)
  (ok:ObjOk X.prog X.w (upd H a o) s.heap a o):Inv X pins σ (upd H a o) s:=by
 have d:∀ b u,H b=some u->b≠a:=fun b u q=>Jah q hn;refine ⟨I.ok,I.os,I.bare,⟨I.base.keep,I.base.slot,fun b f q n l=>?_,I.base.there,fun b g q=>?_,fun b f u q=>?_,fun b j q=>?_⟩,I.loc,I.cell,?_,fun x c e=>?_,fun p i=>?_,fun b u q=>?_,I.len⟩
 ·have : b≠a:=fun z=>by rw [z,h1] at q;cases q
  rw [Jag this];exact I.base.free b f q n l
 ·have z:=I.base.tups b g q;rw [Jag (d _ _ z)];exact z
 ·have z:=I.base.frzs b f u q;rw [Jag (d _ _ z)];exact z
 ·obtain ⟨k,z⟩:=I.base.tbls b j q;exact ⟨k,by rw [Jag (d _ _ z)];exact z⟩
 ·rw [Jag (Ne.symm h2)];exact I.free
 ·rw [Jag (h3 x c e)];exact I.freeC x c e
 ·obtain ⟨e,n,r⟩:=I.pin p i;exact ⟨e,by rw [Jag (h4 p i)];exact n,r⟩
 ·by_cases h:b=a
  ·subst h;rw [Jaj] at q;cases q;exact ok
  ·rw [Jag h] at q;exact (I.hok b u q).stay (fun _ _ _ z=>z) (fun c z=>by rw [Jag (d _ _ z)];exact z) (fun c g z=>by rw [Jag (d _ _ z)];exact z)
def ExcO (e C:Addr) (od:Option Addr:=none):HO:=.ext fun h=>∃ ox vs,h.get? e=some ox/\ox.cls=.ref C/\ox.data=.fields vs/\ox.dict=od
theorem Inv.landed {sF:Shared} (I:Inv X pins σ H s) (hex:X.ex=[]) (u:Un (frs X.stack) [] H H' s.heap s'.heap) (hok:HOk X.prog X.w H' s'.heap) (F:Fly X.stack H' s.heap ea od (.ref C) a0 B s'.heap) (hos:s'.os=s.os) (hg:AllBare s'.gens)
  (hfl:Heap.FlyingW B X.stack ea (.ref C) a0 h') (hup:s'.heap.UpToSlots h') (hdc:DictAt h' ea od) (hs:sF={ s' with heap:=h' }):Inv X pins σ (upd H' ea (ExcO ea C od)) sF:=by
 subst hs;obtain ⟨f,G,_⟩:=F.next u hok (I.stkFree' u) hfl.1 hup;have I2:Inv X pins σ H' { s' with heap:=h' }:=I.call' (s':={ s' with heap:=h' }) hos G f hg (fun b z=>absurd z (by simp));have a:∀ b o,s.heap.get? b=some o->b≠ea:=fun b o q z=>by
  have:=F.new;rw [<- z,q] at this;cases this
 obtain ⟨m,D,_⟩:=I.loc;obtain ⟨Q,_,_,l,_⟩:=D;refine I2.track F.free ?_ (Ne.symm (a _ _ l)) (fun x c e z=>?_) (fun p A z=>?_) ?_
 ·cases q:X.s₀.heap.get? ea with
  | none=>rfl
  | some o=>
   obtain ⟨N,n⟩:=I.base.there ea o q (by rw [hex];simp);exact absurd rfl (a _ _ n)
 ·obtain ⟨v,i⟩:=I.cell x c e;obtain ⟨R,h,_⟩:=i;exact a _ _ h z
 ·obtain ⟨e,_⟩:=I.pin p A;exact a _ _ e z
 ·obtain ⟨r,y,j,i,t,_⟩:=hfl.first;obtain ⟨E,d,g⟩:=hdc;rw [show h'.get? ea=some r from j] at d;cases d;exact ⟨⟨r,y,j,i,t,g⟩,⟨_,j⟩,fun P O ⟨K,L,n,M,J⟩ k=>⟨K,L,k _ n,M,J⟩⟩
abbrev Cx.inx (X:Cx) (e:Addr):Cx:={ X with A:=X.A.mark (some (.ref e)),calm:=false,xe:=fun _ _=>False }
theorem Cx.Ok.inx (ok:X.Ok) (e:Addr):(X.inx e).Ok :=
 ⟨ok.mod,ok.kind,ok.glob,ok.blt,ok.above,ok.inj,ok.has,ok.cab,fun z=>(by cases z),ok.frames,ok.stk,ok.exf,ok.bs,ok.bsz,ok.noex,ok.exfs,ok.funs,ok.frf⟩
theorem Inv.inx (I:Inv X pins σ H s) (e:Addr):Inv (X.inx e) pins σ H s :=
 ⟨I.ok.inx e,I.os,I.bare,I.base,I.loc,I.cell,I.free,I.freeC,I.pin,I.hok,I.len⟩
variable {e:Addr}
theorem Inv.outx (I:Inv (X.inx e) pins σ H s) (ok:X.Ok):Inv X pins σ H s :=
 ⟨ok,I.os,I.bare,I.base,I.loc,I.cell,I.free,I.freeC,I.pin,I.hok,I.len⟩
variable {x:Str}
theorem Inv.goes {i:Nat} {t':Nat} {m m':Str->Option Value} (I:Inv X pins σ H s) (hN:X.N.Nodup) (hi:X.N[i]?=some x) (hs:Heap.SameBut X.env.locals s.heap h')
  (hn:s.heap.Ns X.env.locals m) (hn':h'.Ns X.env.locals m') (hm:∀ y,y≠x->m' y=m y):Inv X pins (σ.set i none) H { s with heap:=h',toks:=t' }:=by
 obtain ⟨K,t,A⟩:=I.loc;have O:K=m:=(Heap.Ns.eq_nsMap t).trans (Heap.Ns.eq_nsMap hn).symm;subst O;have w:∀ b o,X.s₀.heap.get? b=some o->b≠X.env.locals:=fun b o e=>Nat.ne_of_lt (Nat.lt_of_lt_of_le (Heap.lt_size e) I.ok.above);refine ⟨I.ok,I.os,I.bare,⟨fun b o e n B h=>?_,fun b o e n B h=>?_,I.base.free,fun b o e h=>?_,I.base.tups,I.base.frzs,I.base.tbls⟩,⟨m',hn',fun j y v f g G=>?_⟩,fun y c e=>?_,I.free,I.freeC,fun p M=>?_,fun a o e=>?_,by rw [List.length_set];exact I.len⟩
 ·exact (hs.2 b (w b o e)).trans (I.base.keep b o e n B h)
 ·obtain ⟨J,f⟩:=I.base.slot b o e n B h;exact ⟨J,(hs.2 b (w b o e)).trans f⟩
 ·obtain ⟨E,f⟩:=I.base.there b o e h;exact ⟨E,(hs.2 b (w b o e)).trans f⟩
 ·have C:j≠i:=fun z=>by
   subst z;by_cases A:j<σ.length
   ·rw [List.getElem?_set_self A] at g;cases g
   ·rw [List.getElem?_eq_none (by rw [List.length_set];ac_nf)] at g;cases g
  rw [List.getElem?_set_ne (Ne.symm C)] at g;obtain ⟨u,r,q⟩:=A j y v f g G;have F:y≠x:=fun z=>C (Je3 hN f (z ▸ hi));refine ⟨u,r,?_⟩;rcases q with ⟨k,e⟩ | ⟨k,c,e,z⟩
  ·exact .inl ⟨k,(hm y F).trans e⟩
  ·exact .inr ⟨k,c,e,z.sameBut hs (I.cne y c e)⟩
 ·obtain ⟨v,z⟩:=I.cell y c e;exact ⟨v,z.sameBut hs (I.cne y c e)⟩
 ·obtain ⟨e,n,D,L,d⟩:=I.pin p M;exact ⟨(hs.2 p.1 D).trans e,n,D,L,d⟩
 ·refine (I.hok a o e).stay (fun c v l q=>(hs.2 c ?_).trans q) (fun _ q=>q) fun _ _ q=>q;rintro rfl;rcases l with z | l
  ·rw [<- z] at e;rw [I.free] at e;cases e
  ·rw [I.free] at l;cases l
end
structure JeM (K:W.Frag) (C D:Addr):Prop where
 cl:W.hasDictIn K D=true
 ty:W.typeIn K (.ref D)=some (.type "type")
 ex:W.mroIn K D (.type "BaseException")=some true
 ab:W.mroIn K C (.ref D)=some true
variable {M:Model}
theorem JfI {K:W.Frag} {D:Addr} (X:K.In h) (c:W.hasDictIn K D=true):W.Looks M h (isType (.ref D)) true:=by
 obtain ⟨b,a,_⟩:=W.any_some c;unfold W.clsIn at a;split at a
 next c' d' cd' sl' ho=>
  intro A' Q' E' d k q;unfold isType loadHead;exact wpAny_bind (wpAny_loadPart (k _ _ (X _ _ ho)) (wpAny_pure q))
 next=>cases a
theorem JfE {K:W.Frag} {s:Shared} {e D:Addr} {oe:Obj} {Q:Bool->Shared->Prop} (X:K.In s.heap) (he:s.heap.get? e=some oe) (hc:oe.cls=.ref C) (c:JeM K C D) (h:Q true s) :
  wpAny M A (excMatches (.ref e) (.ref D)) Q E s:=by
 obtain ⟨a,g,d,t,b⟩:=s;have L0:W.Looks M a (typeOf (.ref e)) (.ref C):=hc ▸ (W.Looks.ld he).andThen .now;have L1:=W.looks_typeIn (M:=M) X c.ty;have L2:=W.looks_mroIn (M:=M) X c.ex;have L3:=W.looks_mroIn (M:=M) X c.ab;have L4:=JfI (M:=M) X c.cl;have f:=tc_notTuple;unfold excMatches isInstance isExcClass;repeat (first | lk | wp_step)
 exact h
section
variable {ce:Expr} {epos hpos np:Pos} {x n:Str} {b0:Stmt} {suite:List Stmt} {ts:TS} {D:Addr} {t:St->Hp->VK->XK->Prop}
def Jkf (K:W.Frag) (D:Addr) (i:Nat) (t:St->Hp->VK->XK->Prop) (ts:TS):TS:=fun Dn σ H=>t σ H (fun _ H1=>Dn.nx σ H1) fun cls od H1=>∃ C,cls=.ref C/\JeM K C D /\
 ∀ ea,H1 ea=none->ts { nx:=fun σ' H'=>Dn.nx (σ'.set i none) H',rt:=Dn.rt,bk:=fun σ' H'=>Dn.bk (σ'.set i none) H',ct:=fun σ' H'=>Dn.ct (σ'.set i none) H' } (σ.set i (some (.ref ea))) (upd H1 ea (ExcO ea C od))
end
inductive D where
 | non | bl (b:Bool) | int (i:Int) | str (x:Str) | tup (xs:List D) | lst (xs:List D)
mutual
def Rep (K:W.Frag) (H:Hp):D->V->Prop
 | .non,v=>v=.non
 | .bl b,v=>v=.bl b
 | .int i,v=>v=.int i
 | .str x,v=>v=.str x
 | .tup ds,v=>∃ a xs,v=.ref a/\SqT K H a xs/\RepL K H ds xs
 | .lst ds,v=>∃ a xs,v=.ref a/\SqL K H a xs/\RepL K H ds xs
def RepL (K:W.Frag) (H:Hp):List D->List V->Prop
 | [],vs=>vs=[]
 | d::ds,vs=>∃ v r,vs=v::r/\Rep K H d v/\RepL K H ds r
end
mutual
def eqD:D->D->Bool
 | .non, .non=>true
 | .bl a, .bl b=>a == b
 | .int a, .int b=>a == b
 | .bl a, .int b=>(if a then 1 else 0) == b
 | .int a, .bl b=>a == (if b then 1 else 0)
 | .str a, .str b=>a == b
 | .tup xs, .tup ys=>eqL xs ys
 | .lst xs, .lst ys=>eqL xs ys
 | _,_=>false
def eqL:List D->List D->Bool
 | [],[]=>true
 | x::xs,y::ys=>eqD x y&&eqL xs ys
 | _,_=>false
end
mutual
def depD:D->Nat
 | .tup xs=>depL xs+1
 | .lst xs=>depL xs+1
 | _=>0
def depL:List D->Nat
 | []=>0
 | x::xs=>max (depD x) (depL xs)
end
theorem JeE:∀ {xs ys:List D},eqL xs ys=true->xs.length=ys.length
 | [],[],_=>rfl
 | [],_::_,h=>by simp [eqL] at h
 | _::_,[],h=>by simp [eqL] at h
 | x::xs,y::ys,h=>by
  simp only [eqL,Bool.and_eq_true] at h;simp only [length_cons,JeE h.2]
mutual
theorem JeU:∀ d:D,eqD d d=true
 | .non=>by simp [eqD]
 | .bl b=>by simp [eqD]
 | .int i=>by simp [eqD]
 | .str x=>by simp [eqD]
 | .tup xs=>by simp only [eqD];exact JeV xs
 | .lst xs=>by simp only [eqD];exact JeV xs
theorem JeV:∀ d:List D,eqL d d=true
 | []=>by simp [eqL]
 | x::xs=>by simp only [eqL,Bool.and_eq_true];exact ⟨JeU x,JeV xs⟩
end
theorem RepL.length {K:W.Frag}:∀ {ds:List D} {vs:List V},RepL K H ds vs->ds.length=vs.length
 | [],vs,h=>by
  simp only [RepL] at h;rw [h];rfl
 | d::ds,vs,h=>by
  simp only [RepL] at h;obtain ⟨v,r,rfl,_,h2⟩:=h;simp only [length_cons,RepL.length h2]
theorem RepL.get {K:W.Frag}:∀ {ds:List D} {vs:List V} {i:Nat} {d:D},RepL K H ds vs->ds[i]?=some d->∃ v,vs[i]?=some v/\Rep K H d v
 | [],_,_,_,_,e=>by simp at e
 | d::ds,vs,i,d',h,e=>by
  simp only [RepL] at h;obtain ⟨v,r,rfl,h1,h2⟩:=h;cases i with
  | zero=>simp at e;subst e;exact ⟨v,rfl,h1⟩
  | succ i=>
   obtain ⟨v',e',h'⟩:=RepL.get h2 (by simpa using e);exact ⟨v',by simpa using e',h'⟩
variable {xs:List V}
theorem SqL.same {K:W.Frag} (e:Same H H') (h:SqL K H a xs):SqL K H' a xs:=e.seq h
theorem SqT.same {K:W.Frag} (e:Same H H') (h:SqT K H a xs):SqT K H' a xs:=by
 rcases h with (h | ⟨o,h⟩) | h
 ·exact .inl (.inl (e _ _ h))
 ·exact .inl (.inr ⟨o,e _ _ h⟩)
 ·exact .inr h
mutual
theorem Rep.same {K:W.Frag} (e:Same H H'):∀ {d:D} {v:V},Rep K H d v->Rep K H' d v
 | .non,_,h=>by simpa only [Rep] using h
 | .bl _,_,h=>by simpa only [Rep] using h
 | .int _,_,h=>by simpa only [Rep] using h
 | .str _,_,h=>by simpa only [Rep] using h
 | .tup ds,_,h=>by
  simp only [Rep] at h ⊢;obtain ⟨a,xs,h1,h2,h3⟩:=h;exact ⟨a,xs,h1,h2.same e,RepL.same e h3⟩
 | .lst ds,_,h=>by
  simp only [Rep] at h ⊢;obtain ⟨a,xs,h1,h2,h3⟩:=h;exact ⟨a,xs,h1,h2.same e,RepL.same e h3⟩
theorem RepL.same {K:W.Frag} (e:Same H H'):∀ {d:List D} {v:List V},RepL K H d v->RepL K H' d v
 | [],_,h=>by simpa only [RepL] using h
 | x::xs,_,h=>by
  simp only [RepL] at h ⊢;obtain ⟨v,r,h1,h2,h3⟩:=h;exact ⟨v,r,h1,Rep.same e h2,RepL.same e h3⟩
end
section
variable {s:Shared}
theorem Inv.list_tuple (I:Inv X pins σ H s) {a:Addr} {xs ys:List V} (h:SqL X.K H a xs) (h':SqT X.K H a ys):False:=by
 obtain ⟨_,_,p,_⟩:=I.list h;obtain ⟨_,_,q,_⟩:=I.tuple h';obtain ⟨o,_,d,e,_⟩:=p;obtain ⟨f,c,b,_⟩:=q;rw [d] at c;cases c;rw [e] at b;exact absurd b ⋯
mutual
theorem Inv.rep_inj (I:Inv X pins σ H s):∀ {d e:D} {v:V},Rep X.K H d v->Rep X.K H e v->d=e
 | .non,e,v,h,h'=>by
  simp only [Rep] at h;subst h;cases e <;> simp [Rep] at h' ⊢
 | .bl _,e,v,h,h'=>by
  simp only [Rep] at h;subst h;cases e <;> simp [Rep] at h' ⊢
  exact h'
 | .int _,e,v,h,h'=>by
  simp only [Rep] at h;subst h;cases e <;> simp [Rep] at h' ⊢
  exact h'
 | .str _,e,v,h,h'=>by
  simp only [Rep] at h;subst h;cases e <;> simp [Rep] at h' ⊢
  exact h'
 | .tup ds,e,v,h,h'=>by
  simp only [Rep] at h;obtain ⟨a,xs,rfl,h2,h3⟩:=h;cases e with
  | tup es=>
   simp only [Rep] at h';obtain ⟨a',ys,q,g2,g3⟩:=h';cases q;have:=I.tuple_inj h2 g2;subst this;rw [Inv.repL_inj I h3 g3]
  | lst es=>
   simp only [Rep] at h';obtain ⟨a',ys,q,g2,g3⟩:=h';cases q;exact (I.list_tuple g2 h2).elim
  | _=>simp [Rep] at h'
 | .lst ds,e,v,h,h'=>by
  simp only [Rep] at h;obtain ⟨a,xs,rfl,h2,h3⟩:=h;cases e with
  | lst es=>
   simp only [Rep] at h';obtain ⟨a',ys,q,g2,g3⟩:=h';cases q;have:=I.list_inj h2 g2;subst this;rw [Inv.repL_inj I h3 g3]
  | tup es=>
   simp only [Rep] at h';obtain ⟨a',ys,q,g2,g3⟩:=h';cases q;exact (I.list_tuple h2 g2).elim
  | _=>simp [Rep] at h'
theorem Inv.repL_inj (I:Inv X pins σ H s):∀ {d e:List D} {v:List V},RepL X.K H d v->RepL X.K H e v->d=e
 | [],e,v,h,h'=>by
  simp only [RepL] at h;subst h;cases e <;> simp [RepL] at h' ⊢
 | x::xs,e,v,h,h'=>by
  simp only [RepL] at h;obtain ⟨u,r,rfl,h1,h2⟩:=h;cases e with
  | nil=>simp [RepL] at h'
  | cons y ys=>
   simp only [RepL] at h';obtain ⟨u',r',q,g1,g2⟩:=h';cases q;rw [Inv.rep_inj I h1 g1,Inv.repL_inj I h2 g2]
end
end
variable {α β:Type}
def JcM (f : α->β->Bool):List α->List β->Bool
 | [],[]=>true
 | x::xs,y::ys=>f x y&&JcM f xs ys
 | _,_=>false
def atB (f : α->β->Bool) (xs:List α) (ys:List β) (j:Nat):Bool:=match xs[j]?,ys[j]? with
 | some x,some y=>f x y
 | _,_=>true
theorem JcN (f : α->β->Bool):∀ (xs:List α) (ys:List β),
  ((List.range (min xs.length ys.length)).all (atB f xs ys)&&(xs.length == ys.length))=JcM f xs ys
 | [],[]=>by simp [JcM]
 | [],_::_=>by simp [JcM]
 | _::_,[]=>by simp [JcM]
 | x::xs,y::ys=>by
  have ih:=JcN f xs ys;simp only [JcM,length_cons];rw [<- ih,Nat.succ_min_succ,List.range_succ_eq_map,List.all_cons,List.all_map];have e:((List.range (min xs.length ys.length)).all (atB f (x::xs) (y::ys) ∘ Nat.succ))=(List.range (min xs.length ys.length)).all (atB f xs ys):=by
   congr 1
  rw [e];have e0:atB f (x::xs) (y::ys) 0=f x y:=by unfold atB;simp
  rw [e0,Bool.and_assoc]
  congr 2
  simp
theorem Jgb:∀ xs ys:List D,eqL xs ys=JcM eqD xs ys
 | [],[]=>by simp [eqL,JcM]
 | [],_::_=>by simp [eqL,JcM]
 | _::_,[]=>by simp [eqL,JcM]
 | x::xs,y::ys=>by simp only [eqL,JcM,Jgb xs ys]
theorem JgK:∀ {ds:List D} {d:D},d∈ds->depD d<=depL ds
 | [],_,h=>by simp at h
 | x::xs,d,h=>by
  simp only [depL];rcases mem_cons.mp h with rfl | h
  ·exact Nat.le_max_left ..
  ·exact Nat.le_trans (JgK h) (Nat.le_max_right ..)
def flatD:D->Bool
 | .tup _=>false
 | .lst _=>false
 | _=>true
def valD:D->V
 | .bl b=>.bl b
 | .int i=>.int i
 | .str x=>.str x
 | _=>.non
variable {d:D}
theorem Jff {K:W.Frag} (f:flatD d=true) (h:Rep K H d v):v=valD d:=by
 cases d <;> simp_all [flatD,Rep,valD]
theorem JgO (f:flatD d=true):flatV (valD d)=true:=by
 cases d <;> simp_all [flatD,valD,flatV]
theorem Jky {e:D} (f:flatD d=true) (g:flatD e=true):eqV (valD d) (valD e)=eqD d e:=by
 cases d <;> cases e <;> simp_all [flatD,valD,eqV,eqD]
section
variable {s:Shared}
theorem in1_units (A:Around):A.in1.units=A.units+1:=rfl
def EqP (X:Cx) (H:Hp) (s:Shared) (n:Nat):Prop:=∀ (d e:D) (A:Around) (x y:V) (u v:Value),depD d<=n->Rep X.K H d x->Rep X.K H e y->RelV x u->RelV y v->A.units+n<cLine->SeqAt.EqAt A s u v (eqD d e)
variable {n:Nat}
theorem JgS (ih:EqP X H s n) {ds es:List D} {xs ys:List V} {its jts:List Value} (h3:RepL X.K H ds xs) (g3:RepL X.K H es ys) (vi:Vals xs its) (vj:Vals ys jts) (hds:depL ds<=n) {A:Around} (hA:A.units+n<cLine) :
  ∀ j (p1:j<its.toArray.size) (p2:j<jts.toArray.size),SeqAt.EqAt A s its.toArray[j] jts.toArray[j] (atB eqD ds es j):=by
 intro j p1 p2;have g:its.length=ds.length:=by rw [h3.length,vi.length]
 have h:jts.length=es.length:=by rw [g3.length,vj.length]
 have a:j<ds.length:=by rw [<- g];simpa using p1
 have b:j<es.length:=by rw [<- h];simpa using p2
 obtain ⟨u,k,i⟩:=h3.get (List.getElem?_eq_getElem a);obtain ⟨v,o,e⟩:=g3.get (List.getElem?_eq_getElem b);obtain ⟨r,q,t⟩:=vi.get k;obtain ⟨m,l,f⟩:=vj.get o;have c:its.toArray[j]=r:=by
  have:=q;rw [List.getElem?_eq_getElem (by simpa using p1)] at this;simpa using this
 have d:jts.toArray[j]=m:=by
  have:=l;rw [List.getElem?_eq_getElem (by simpa using p2)] at this;simpa using this
 rw [c,d];have p:atB eqD ds es j=eqD ds[j] es[j]:=by
  unfold atB;rw [List.getElem?_eq_getElem a,List.getElem?_eq_getElem b]
 rw [p];exact ih _ _ _ _ _ _ _ (Nat.le_trans (JgK (List.getElem_mem a)) hds) i e t f hA
theorem Jmg (I:Inv X pins σ H s) {n:Nat} (ih:EqP X H s n) {ds es:List D} {a b:Addr} {xs ys:List V} (h2:SqT X.K H a xs) (h3:RepL X.K H ds xs) (g2:SqT X.K H b ys) (g3:RepL X.K H es ys) (hds:depL ds<=n) {A:Around} (hA:A.units+(n+1)<cLine) :
  SeqAt.RcAt A s (.ref a) (.ref b) (eqD (.tup ds) (.tup es))/\SeqAt.RcNeAt A s (.ref a) (.ref b) (!eqD (.tup ds) (.tup es)):=by
 obtain ⟨c,h,e,_⟩:=I.tuple h2;obtain ⟨d,f,i,_⟩:=I.tuple g2;have k:c.length=ds.length:=by rw [h3.length,h.length]
 have l:d.length=es.length:=by rw [g3.length,f.length]
 have g:=JgS ih h3 g3 h f hds (A:=A.in1) (by rw [in1_units];ac_nf);have j:eqD (.tup ds) (.tup es)=((List.range (min c.toArray.size d.toArray.size)).all (atB eqD ds es)&&c.toArray.size == d.toArray.size):=by
  simp only [eqD,Jgb];rw [<- JcN];simp only [size_toArray,k,l]
 rw [j];exact ⟨SeqAt.RcAt.tuples e i ∅ g,SeqAt.RcNeAt.tuples e i ∅ g⟩
theorem JlP (I:Inv X pins σ H s) {n:Nat} (ih:EqP X H s n) {ds es:List D} {a b:Addr} {xs ys:List V} (h2:SqL X.K H a xs) (h3:RepL X.K H ds xs) (g2:SqL X.K H b ys) (g3:RepL X.K H es ys) (hds:depL ds<=n) {A:Around} (hA:A.units+(n+1)<cLine) :
  SeqAt.RcAt A s (.ref a) (.ref b) (eqD (.lst ds) (.lst es))/\SeqAt.RcNeAt A s (.ref a) (.ref b) (!eqD (.lst ds) (.lst es)):=by
 obtain ⟨d,m,f,_⟩:=I.list h2;obtain ⟨j,k,h,_⟩:=I.list g2;have e:d.length=ds.length:=by rw [h3.length,m.length]
 have g:j.length=es.length:=by rw [g3.length,k.length]
 have l:=JgS ih h3 g3 m k hds (A:=A.in1) (by rw [in1_units];ac_nf);by_cases c:ds.length=es.length
 ·have i:eqD (.lst ds) (.lst es)=(List.range d.toArray.size).all (atB eqD ds es):=by
   simp only [eqD,Jgb];rw [<- JcN];simp [e,c]
  rw [i];exact ⟨SeqAt.RcAt.lists f.isList h.isList (by simp [e,g,c]) ∅ l,SeqAt.RcNeAt.lists f.isList h.isList (by simp [e,g,c]) ∅ l⟩
 ·have i:eqD (.lst ds) (.lst es)=false:=by
   cases q:eqD (.lst ds) (.lst es) with
   | false=>rfl
   | true=>simp only [eqD] at q;exact absurd (JeE q) c
  rw [i];exact ⟨SeqAt.RcAt.lists_lengths f.isList h.isList (by simp [e,g,c]) ∅,SeqAt.RcNeAt.lists_lengths f.isList h.isList (by simp [e,g,c]) ∅⟩
theorem JcW {K:W.Frag} {x:V} (h:Rep K H d x):(flatD d=true/\x=valD d)\/(∃ ds a xs,d=.tup ds/\x=.ref a/\SqT K H a xs/\RepL K H ds xs)\/∃ ds a xs,d=.lst ds/\x=.ref a/\SqL K H a xs/\RepL K H ds xs:=by
 cases d with
 | tup ds=>simp only [Rep] at h;obtain ⟨a,xs,b,c,e⟩:=h;exact .inr (.inl ⟨ds,a,xs,rfl,b,c,e⟩)
 | lst ds=>simp only [Rep] at h;obtain ⟨a,xs,b,c,e⟩:=h;exact .inr (.inr ⟨ds,a,xs,rfl,b,c,e⟩)
 | _=>exact .inl ⟨rfl,Jff rfl h⟩
theorem JcQ (I:Inv X pins σ H s) {d e:D} {x y:V} {u v:Value} (hd:Rep X.K H d x) (he:Rep X.K H e y) (ru:RelV x u) (rv:RelV y v) (m:flatD d=!flatD e) {A:Around} (hA:A.units<cLine) :
  eqD d e=false/\SeqAt.EqAt A s u v false/\SeqAt.RcAt A s u v false/\SeqAt.RcNeAt A s u v true:=by
 rcases JcW hd with ⟨fd,rfl⟩ | ⟨ds,a,xs,rfl,rfl,h2,h3⟩ | ⟨ds,a,xs,rfl,rfl,h2,h3⟩
 ·rcases JcW he with ⟨fe,rfl⟩ | ⟨es,b,ys,rfl,rfl,g2,g3⟩ | ⟨es,b,ys,rfl,rfl,g2,g3⟩
  ·rw [fd,fe] at m;cases m
  ·obtain rfl:v=Value.ref b:=rv;obtain ⟨f,g,c,_⟩:=I.tuple g2;refine ⟨by cases d <;> simp [eqD,flatD] at fd ⊢,?_⟩;cases d <;> simp only [valD,RelV] at ru <;> first | (simp [flatD] at fd;done) | skip
   ·subst ru;exact ⟨SeqAt.EqAt.none_tuple c hA,SeqAt.RcAt.none_tuple c hA,SeqAt.RcNeAt.none_tuple c hA⟩
   ·subst ru;exact ⟨SeqAt.EqAt.bool_tuple _ c hA,SeqAt.RcAt.bool_tuple _ c hA,SeqAt.RcNeAt.bool_tuple _ c hA⟩
   ·obtain ⟨t,rfl⟩:=ru;exact ⟨SeqAt.EqAt.int_tuple _ _ c hA,SeqAt.RcAt.int_tuple _ _ c hA,SeqAt.RcNeAt.int_tuple _ _ c hA⟩
   ·obtain ⟨t,rfl⟩:=ru;exact ⟨SeqAt.EqAt.str_tuple _ _ c hA,SeqAt.RcAt.str_tuple _ _ c hA,SeqAt.RcNeAt.str_tuple _ _ c hA⟩
  ·obtain rfl:v=Value.ref b:=rv;obtain ⟨f,g,c,_⟩:=I.list g2;have c:=c.isList;refine ⟨by cases d <;> simp [eqD,flatD] at fd ⊢,?_⟩;cases d <;> simp only [valD,RelV] at ru <;> first | (simp [flatD] at fd;done) | skip
   ·subst ru;exact ⟨SeqAt.EqAt.none_list c hA,SeqAt.RcAt.none_list c hA,SeqAt.RcNeAt.none_list c hA⟩
   ·subst ru;exact ⟨SeqAt.EqAt.bool_list _ c hA,SeqAt.RcAt.bool_list _ c hA,SeqAt.RcNeAt.bool_list _ c hA⟩
   ·obtain ⟨t,rfl⟩:=ru;exact ⟨SeqAt.EqAt.int_list _ _ c hA,SeqAt.RcAt.int_list _ _ c hA,SeqAt.RcNeAt.int_list _ _ c hA⟩
   ·obtain ⟨t,rfl⟩:=ru;exact ⟨SeqAt.EqAt.str_list _ _ c hA,SeqAt.RcAt.str_list _ _ c hA,SeqAt.RcNeAt.str_list _ _ c hA⟩
 ·rcases JcW he with ⟨fe,rfl⟩ | ⟨es,b,ys,rfl,rfl,g2,g3⟩ | ⟨es,b,ys,rfl,rfl,g2,g3⟩
  ·obtain rfl:u=Value.ref a:=ru;obtain ⟨f,g,c,_⟩:=I.tuple h2;refine ⟨by cases e <;> simp [eqD,flatD] at fe ⊢,?_⟩;cases e <;> simp only [valD,RelV] at rv <;> first | (simp [flatD] at fe;done) | skip
   ·subst rv;exact ⟨SeqAt.EqAt.tuple_none c hA,SeqAt.RcAt.tuple_none c hA,SeqAt.RcNeAt.tuple_none c hA⟩
   ·subst rv;exact ⟨SeqAt.EqAt.tuple_bool _ c hA,SeqAt.RcAt.tuple_bool _ c hA,SeqAt.RcNeAt.tuple_bool _ c hA⟩
   ·obtain ⟨t,rfl⟩:=rv;exact ⟨SeqAt.EqAt.tuple_int _ _ c hA,SeqAt.RcAt.tuple_int _ _ c hA,SeqAt.RcNeAt.tuple_int _ _ c hA⟩
   ·obtain ⟨t,rfl⟩:=rv;exact ⟨SeqAt.EqAt.tuple_str _ _ c hA,SeqAt.RcAt.tuple_str _ _ c hA,SeqAt.RcNeAt.tuple_str _ _ c hA⟩
  ·simp [flatD] at m
  ·simp [flatD] at m
 ·rcases JcW he with ⟨fe,rfl⟩ | ⟨es,b,ys,rfl,rfl,g2,g3⟩ | ⟨es,b,ys,rfl,rfl,g2,g3⟩
  ·obtain rfl:u=Value.ref a:=ru;obtain ⟨f,g,c,_⟩:=I.list h2;have c:=c.isList;refine ⟨by cases e <;> simp [eqD,flatD] at fe ⊢,?_⟩;cases e <;> simp only [valD,RelV] at rv <;> first | (simp [flatD] at fe;done) | skip
   ·subst rv;exact ⟨SeqAt.EqAt.list_none c hA,SeqAt.RcAt.list_none c hA,SeqAt.RcNeAt.list_none c hA⟩
   ·subst rv;exact ⟨SeqAt.EqAt.list_bool _ c hA,SeqAt.RcAt.list_bool _ c hA,SeqAt.RcNeAt.list_bool _ c hA⟩
   ·obtain ⟨t,rfl⟩:=rv;exact ⟨SeqAt.EqAt.list_int _ _ c hA,SeqAt.RcAt.list_int _ _ c hA,SeqAt.RcNeAt.list_int _ _ c hA⟩
   ·obtain ⟨t,rfl⟩:=rv;exact ⟨SeqAt.EqAt.list_str _ _ c hA,SeqAt.RcAt.list_str _ _ c hA,SeqAt.RcNeAt.list_str _ _ c hA⟩
  ·simp [flatD] at m
  ·simp [flatD] at m
theorem seq_eq (I:Inv X pins σ H s) {n:Nat} (ih:EqP X H s n) {d e:D} {x y:V} {u v:Value} (hn:depD d<=n+1) (hd:Rep X.K H d x) (he:Rep X.K H e y) (ru:RelV x u) (rv:RelV y v) (fd:flatD d=false) (fe:flatD e=false) {A:Around} (hA:A.units+(n+1)<cLine) :
  SeqAt.EqAt A s u v (eqD d e)/\SeqAt.RcAt A s u v (eqD d e)/\SeqAt.RcNeAt A s u v (!eqD d e):=by
 have j:=hd;have k:=he;rcases JcW hd with ⟨f,_⟩ | ⟨ds,a,xs,rfl,rfl,h2,h3⟩ | ⟨ds,a,xs,rfl,rfl,h2,h3⟩
 ·rw [f] at fd;cases fd
 ·obtain rfl:u=Value.ref a:=ru;have h:depL ds<=n:=by simp only [depD] at hn;ac_nf
  rcases JcW he with ⟨f,_⟩ | ⟨es,b,ys,rfl,rfl,g2,g3⟩ | ⟨es,b,ys,rfl,rfl,g2,g3⟩
  ·rw [f] at fe;cases fe
  ·obtain rfl:v=Value.ref b:=rv;have R:=Jmg I ih h2 h3 g2 g3 h hA;refine ⟨?_,R.1,R.2⟩;by_cases c:a=b
   ·subst c;rw [I.rep_inj j k,JeU];exact SeqAt.EqAt.same _
   ·exact SeqAt.EqAt.of_refs c R.1
  ·obtain rfl:v=Value.ref b:=rv;obtain ⟨l,_,g,_⟩:=I.tuple h2;obtain ⟨m,_,i,_⟩:=I.list g2;exact ⟨SeqAt.EqAt.tuple_list g i.isList ∅,SeqAt.RcAt.tuple_list g i.isList ∅,SeqAt.RcNeAt.tuple_list g i.isList ∅⟩
 ·obtain rfl:u=Value.ref a:=ru;have h:depL ds<=n:=by simp only [depD] at hn;ac_nf
  rcases JcW he with ⟨f,_⟩ | ⟨es,b,ys,rfl,rfl,g2,g3⟩ | ⟨es,b,ys,rfl,rfl,g2,g3⟩
  ·rw [f] at fe;cases fe
  ·obtain rfl:v=Value.ref b:=rv;obtain ⟨l,_,g,_⟩:=I.list h2;obtain ⟨m,_,i,_⟩:=I.tuple g2;exact ⟨SeqAt.EqAt.list_tuple g.isList i ∅,SeqAt.RcAt.list_tuple g.isList i ∅,SeqAt.RcNeAt.list_tuple g.isList i ∅⟩
  ·obtain rfl:v=Value.ref b:=rv;have R:=JlP I ih h2 h3 g2 g3 h hA;refine ⟨?_,R.1,R.2⟩;by_cases c:a=b
   ·subst c;rw [I.rep_inj j k,JeU];exact SeqAt.EqAt.same _
   ·exact SeqAt.EqAt.of_refs c R.1
theorem Inv.eqP (I:Inv X pins σ H s):∀ n,EqP X H s n
 | 0=>fun d e A x y u v hn hd he ru rv hA=>by
  have fd:flatD d=true:=by
   cases d <;> simp [depD,flatD] at hn ⊢
  cases fe:flatD e with
  | true=>
   have ex:=Jff fd hd;have ey:=Jff fe he;subst ex ey;rw [<- Jky fd fe];exact JjU ru rv (JgO fd) (JgO fe)
  | false=>
   obtain ⟨e1,e2,_⟩:=JcQ I hd he ru rv (by rw [fd,fe];rfl) (A:=A) ∅;rw [e1];exact e2
 | n+1=>fun d e A x y u v hn hd he ru rv hA=>by
  cases fd:flatD d with
  | true=>
   have h0:depD d<=n:=by cases d <;> simp [depD,flatD] at fd ⊢
   exact Inv.eqP I n d e A x y u v h0 hd he ru rv ∅
  | false=>
   cases fe:flatD e with
   | true=>
    obtain ⟨e1,e2,_⟩:=JcQ I hd he ru rv (by rw [fd,fe];rfl) (A:=A) ∅;rw [e1];exact e2
   | false=>exact (seq_eq I (Inv.eqP I n) hn hd he ru rv fd fe hA).1
def rEqU (K:W.Frag):R2:=fun x y H Q=>match x,y with
 | .int i, .int j=>Q (.bl (decide (i=j))) H
 | .str i, .str j=>Q (.bl (decide (i=j))) H
 | .bl i, .bl j=>Q (.bl (decide (i=j))) H
 | .non, .non=>Q (.bl true) H
 | x,y=>∃ d e,Rep K H d x/\Rep K H e y/\depD d<=50/\(flatD d&&flatD e)=false/\Q (.bl (eqD d e)) H
def rNeU (K:W.Frag):R2:=fun x y H Q=>match x,y with
 | .int i, .int j=>Q (.bl (!decide (i=j))) H
 | .str i, .str j=>Q (.bl (!decide (i=j))) H
 | .bl i, .bl j=>Q (.bl (!decide (i=j))) H
 | .non, .non=>Q (.bl false) H
 | x,y=>∃ d e,Rep K H d x/\Rep K H e y/\depD d<=50/\(flatD d&&flatD e)=false/\Q (.bl (!eqD d e)) H
theorem JbT (hu:X.A.units+64<cLine):OpR X (compareOp .Eq) (rEqU X.K):=fun a s σ H x y v u Q I b c q=>by
 unfold rEqU at q;split at q
 ·rename_i i j;exact op_eq a s σ H _ _ v u Q I b c ⟨rfl,by rw [show decide (V.int i=V.int j)=decide (i=j) from by simp];exact q⟩
 ·rename_i i j;exact op_eq a s σ H _ _ v u Q I b c ⟨rfl,by rw [show decide (V.str i=V.str j)=decide (i=j) from by simp];exact q⟩
 ·rename_i i j;exact op_eq a s σ H _ _ v u Q I b c ⟨rfl,by rw [show decide (V.bl i=V.bl j)=decide (i=j) from by simp];exact q⟩
 ·exact op_eq a s σ H _ _ v u Q I b c ⟨rfl,by simpa using q⟩
 ·obtain ⟨d,e,f,g,m,l,q⟩:=q;show wpAny (model X.prog X.w) X.A (richCompare .Eq v u) (EP X a σ Q) X.xe s;cases fd:flatD d with
  | true=>
   cases fe:flatD e with
   | true=>rw [fd,fe] at l;cases l
   | false=>
    obtain ⟨h,_,k,_⟩:=JcQ I f g b c (by rw [fd,fe];rfl) (A:=X.A) ∅;rw [h] at q;exact k _ _ _ _ ⟨V.bl _,H,I,rfl,q⟩
  | false=>
   cases fe:flatD e with
   | true=>
    obtain ⟨h,_,k,_⟩:=JcQ I f g b c (by rw [fd,fe];rfl) (A:=X.A) ∅;rw [h] at q;exact k _ _ _ _ ⟨V.bl _,H,I,rfl,q⟩
   | false=>exact (seq_eq I (I.eqP 49) m f g b c fd fe ∅).2.1 _ _ _ _ ⟨V.bl _,H,I,rfl,q⟩
theorem Jdb (hu:X.A.units+64<cLine):OpR X (compareOp .NotEq) (rNeU X.K):=fun a s σ H x y v u Q I b c q=>by
 unfold rNeU at q;split at q
 ·rename_i i j;exact op_ne a s σ H _ _ v u Q I b c ⟨rfl,by rw [show decide (V.int i=V.int j)=decide (i=j) from by simp];exact q⟩
 ·rename_i i j;exact op_ne a s σ H _ _ v u Q I b c ⟨rfl,by rw [show decide (V.str i=V.str j)=decide (i=j) from by simp];exact q⟩
 ·rename_i i j;exact op_ne a s σ H _ _ v u Q I b c ⟨rfl,by rw [show decide (V.bl i=V.bl j)=decide (i=j) from by simp];exact q⟩
 ·exact op_ne a s σ H _ _ v u Q I b c ⟨rfl,by simpa using q⟩
 ·obtain ⟨d,e,f,g,m,l,q⟩:=q;show wpAny (model X.prog X.w) X.A (richCompare .NotEq v u) (EP X a σ Q) X.xe s;cases fd:flatD d with
  | true=>
   cases fe:flatD e with
   | true=>rw [fd,fe] at l;cases l
   | false=>
    obtain ⟨h,_,_,k⟩:=JcQ I f g b c (by rw [fd,fe];rfl) (A:=X.A) ∅;rw [h] at q;exact k _ _ _ _ ⟨V.bl _,H,I,rfl,q⟩
  | false=>
   cases fe:flatD e with
   | true=>
    obtain ⟨h,_,_,k⟩:=JcQ I f g b c (by rw [fd,fe];rfl) (A:=X.A) ∅;rw [h] at q;exact k _ _ _ _ ⟨V.bl _,H,I,rfl,q⟩
   | false=>exact (seq_eq I (I.eqP 49) m f g b c fd fe ∅).2.2 _ _ _ _ ⟨V.bl _,H,I,rfl,q⟩
end
def DivOk (j:Int):Prop:=j≠0/\j.natAbs.log2<9000
def rAddU (K:W.Frag):R2:=fun x y H Q=>match x,y with
 | .int i, .int j=>Q (.int (i+j)) H
 | .str i, .str j=>i.length+j.length<=sizeLine/\Q (.str (i++j)) H
 | .ref a, .ref b=>rCat (.ref a) (.ref b) H Q\/rCatT K (.ref a) (.ref b) H Q
 | _,_=>False
theorem JaI:OpR X (binaryOp .Add) (rAddU X.K):=fun a s σ H x y v u Q I c b q=>by
 unfold rAddU at q;split at q
 ·exact JlU a s σ H _ _ v u Q I c b ⟨_,_,rfl,rfl,q⟩
 ·exact Jhq a s σ H _ _ v u Q I c b ⟨_,_,rfl,rfl,q.1,q.2⟩
 ·rcases q with q | q
  ·exact JlV a s σ H _ _ v u Q I c b q
  ·exact JkT a s σ H _ _ v u Q I c b q
 ·exact q.elim
def rMulU:R2:=fun x y H Q=>match x,y with
 | .int i, .int j=>IntMulOk i j/\Q (.int (i*j)) H
 | _,_=>False
theorem JkV:OpR X (binaryOp .Mult) (rI IntMulOk fun i j=>.int (i*j)):=opI fun _ _ _ _ _ _ _ a q=>mul_int q a
theorem JkW:OpR X (binaryOp .Mult) rMulU:=fun a s σ H x y v u Q I c b q=>by
 unfold rMulU at q;split at q
 ·exact JkV a s σ H _ _ v u Q I c b ⟨_,_,rfl,rfl,q.1,q.2⟩
 ·exact q.elim
def Jix:R2:=fun x y H Q=>match x,y with
 | .int i, .int j=>DivOk j/\Q (.int (i.fdiv j)) H
 | _,_=>False
theorem Jjp:OpR X (binaryOp .FloorDiv) (rI (fun _ j=>DivOk j) fun i j=>.int (i.fdiv j)):=opI fun _ _ _ _ _ _ _ a q=>floordiv_int a.1 q (.inl (PyProof.noPylong_of_log2 a.2))
theorem Jav:OpR X (binaryOp .FloorDiv) Jix:=fun a s σ H x y v u Q I c b q=>by
 unfold Jix at q;split at q
 ·exact Jjp a s σ H _ _ v u Q I c b ⟨_,_,rfl,rfl,q.1,q.2⟩
 ·exact q.elim
def rModU:R2:=fun x y H Q=>match x,y with
 | .int i, .int j=>j≠0/\Q (.int (i.fmod j)) H
 | _,_=>False
theorem JaJ:OpR X (binaryOp .Mod) rModU:=fun a s σ H x y v u Q I c b q=>by
 unfold rModU at q;split at q
 ·exact JkU a s σ H _ _ v u Q I c b ⟨_,_,rfl,rfl,q.1,q.2⟩
 ·exact q.elim
def rPowU:R2:=fun x y H Q=>match x,y with
 | .int i, .int j=>CPow i j/\Q (.int (i ^ j.toNat)) H
 | _,_=>False
theorem Jik:OpR X (binaryOp .Pow) rPowU:=fun a s σ H x y v u Q I c b q=>by
 unfold rPowU at q;split at q
 ·exact JlY a s σ H _ _ v u Q I c b ⟨_,_,rfl,rfl,q.1,q.2⟩
 ·exact q.elim
def rCmpU (p:Int->Int->Bool):R2:=fun x y H Q=>match x,y with
 | .int i, .int j=>Q (.bl (p i j)) H
 | _,_=>False
theorem Jgr {op:CmpOp} {p:Int->Int->Bool} (h:OpR X (compareOp op) (rI0 fun i j=>.bl (p i j))):OpR X (compareOp op) (rCmpU p):=fun a s σ H x y v u Q I c b q=>by
 unfold rCmpU at q;split at q
 ·exact h a s σ H _ _ v u Q I c b ⟨_,_,rfl,rfl,q⟩
 ·exact q.elim
theorem JfS:OpR X (compareOp .Lt) (rCmpU fun i j=>decide (i<j)):=Jgr op_lt
theorem JfR:OpR X (compareOp .Gt) (rCmpU fun i j=>decide (j<i)):=Jgr op_gt
theorem Jj3:OpR X (compareOp .GtE) (rCmpU fun i j=>decide (j<=i)):=Jgr op_ge
def SqA (K:W.Frag) (H:Hp) (a:Addr) (xs:List V):Prop:=SqL K H a xs\/SqT K H a xs
def rIxU (K:W.Frag):R2:=fun x y H Q=>match x,y with
 | .ref p, .int i=>∃ xs v,SqA K H p xs/\atI xs i=some v/\Q v H
 | .str z, .int i=>∃ c,z.length<=sizeLine/\atI z.cps.toList i=some c/\Q (.str ⟨#[c]⟩) H
 | _,_=>False
theorem ix_U:IxR X (rIxU X.K):=fun b a d s σ H x y v u Q I f g q i=>by
 unfold rIxU at q;split at q
 ·obtain ⟨l,w,h | h,e,q⟩:=q
  ·exact JkD b a d s σ H _ _ v u Q I f g ⟨_,_,_,_,rfl,rfl,h,e,q⟩ i
  ·exact JlH b a d s σ H _ _ v u Q I f g ⟨_,_,_,_,rfl,rfl,h,e,q⟩ i
 ·obtain ⟨c,k,j,q⟩:=q;exact JlG b a d s σ H _ _ v u Q I f g ⟨_,_,_,rfl,rfl,k,j,q⟩ i
 ·exact q.elim
def rLen (K:W.Frag):List V->Hp->VK->Prop:=fun xs H Q=>match xs with
 | [.ref p]=>∃ ys,SqA K H p ys/\Q (.int ys.length) H
 | [.str z]=>z.length<=sizeLine/\Q (.int z.length) H
 | _=>False
theorem JaY:CallR X (.builtin "len") (rLen X.K):=fun a s σ H c b Q I r q=>by
 unfold rLen at q;split at q
 ·obtain ⟨d,h,q⟩:=q;exact JfA a s σ H _ b Q I r ⟨_,_,rfl,h,q⟩
 ·exact JfB a s σ H _ b Q I r ⟨_,rfl,q.1,q.2⟩
 ·exact q.elim
def rAbs:List V->Hp->VK->Prop:=fun xs H Q=>match xs with
 | [.int i]=>Q (.int (if i<0 then -i else i)) H
 | _=>False
theorem Jc5:CallR X (.builtin "abs") rAbs:=fun a s σ H c b Q I r q=>by
 unfold rAbs at q;split at q
 ·exact Ji8 a s σ H _ b Q I r ⟨_,rfl,q⟩
 ·exact q.elim
def rMin:List V->Hp->VK->Prop:=fun xs H Q=>match xs with
 | [.int i, .int j]=>Q (.int (if j<i then j else i)) H
 | _=>False
theorem JhH (hc:X.calm=true):CallR X (.builtin "min") rMin:=fun a s σ H c b Q I r q=>by
 unfold rMin at q;split at q
 ·exact JhG hc a s σ H _ b Q I r ⟨_,_,rfl,q⟩
 ·exact q.elim
def isiB (t T:String):Bool:=t == T||(t == "bool"&&T == "int")
def tyN (K:W.Frag) (H:Hp) (x:V) (t:String):Prop:=match x with
 | .int _=>t="int"
 | .str _=>t="str"
 | .bl _=>t="bool"
 | .non=>t="NoneType"
 | .ref a=>(t="list"/\∃ xs,SqL K H a xs)\/(t="tuple"/\∃ xs,SqT K H a xs)
 | _=>False
theorem kit_b (K:W.Frag) {t T:String} (ht:t∈["int","str","bool","NoneType","list","tuple"]) (hT:T∈["int","str","bool","list","tuple"]):W.kitOne K (.type t) (.type T)=some (isiB t T):=by
 simp only [mem_cons,not_mem_nil,or_false] at ht hT;rcases ht with rfl | rfl | rfl | rfl | rfl | rfl <;> rcases hT with rfl | rfl | rfl | rfl | rfl <;> with_unfolding_all rfl
def rIsi (K:W.Frag):List V->Hp->VK->Prop:=fun xs H Q=>match xs with
 | [x, .ty T]=>T∈["int","str","bool","list","tuple"]/\∃ t,tyN K H x t/\Q (.bl (isiB t T)) H
 | _=>False
theorem JaX:CallR X (.builtin "isinstance") (rIsi X.K):=fun g s σ H v n Q I r q=>by
 unfold rIsi at q;split at q
 ·rename_i x T;obtain ⟨e,t,d,q⟩:=q;obtain ⟨u,c,rfl,f,m⟩:=vals2 r;obtain rfl:c=Value.type T:=m;have b:∀ i,EP X g σ Q (.bool (isiB t T)) { s with toks:=i }:=fun i=>⟨V.bl _,H,I.tok i,rfl,q⟩;unfold tyN at d;split at d
  ·subst d;obtain ⟨_,rfl⟩:=f;exact W.kia_one W.kitx_int I.kIn True.intro (kit_b _ ⋯ e) (fun z=>nomatch z) b
  ·subst d;obtain ⟨_,rfl⟩:=f;exact W.kia_one W.kitx_str I.kIn True.intro (kit_b _ ⋯ e) (fun z=>nomatch z) b
  ·subst d;cases (show u=Value.bool _ from f);exact W.kia_one W.kitx_bool I.kIn True.intro (kit_b _ ⋯ e) (fun z=>nomatch z) b
  ·subst d;cases (show u=Value.none from f);exact W.kia_one W.kitx_none I.kIn True.intro (kit_b _ ⋯ e) (fun z=>nomatch z) b
  ·rename_i a;cases (show u=Value.ref a from f);rcases d with ⟨rfl,ys,h⟩ | ⟨rfl,ys,h⟩
   ·obtain ⟨j,_,p,_⟩:=I.list h;obtain ⟨o,_,l,k,_⟩:=p;exact W.kia_one W.kitx_list I.kIn ⟨o,l,k⟩ (kit_b _ ⋯ e) (fun z=>nomatch z) b
   ·obtain ⟨j,_,p,_⟩:=I.tuple h;obtain ⟨o,l,k,_⟩:=p;exact W.kia_one W.kitx_tuple I.kIn ⟨o,l,k⟩ (kit_b _ ⋯ e) (fun z=>nomatch z) b
  ·exact d.elim
 ·exact q.elim
variable {tg:Expr}
def iAny (K:W.Frag) (tl:TE):TI:=fun σ H R=>tl σ H fun x H1=>∃ a,x=.ref a/\(((∃ xs,SqL K H1 a xs)/\R (Itl K a) H1)\/((∃ xs,SqT K H1 a xs)/\R (Itt K a) H1))
theorem pi_U {l:Expr} {tl:TE} (hl:PE X l tl):PI X tg l (iAny X.K tl):=fun f s σ H R I h=>by
 refine thn (hl f s σ H _ I h) fun v c ζ=>?_;obtain ⟨x,i,I1,m,a,n,q⟩:=ζ;subst n;cases m;rcases q with ⟨⟨xs,hq⟩,q⟩ | ⟨⟨xs,hq⟩,q⟩
 ·obtain ⟨d,j,p,k⟩:=I1.list hq;refine wpAny_pyIter_list p.isList ?_;refine ⟨c.heap.objs.size,[c.heap.objs.size],_,_,i,rfl,I1.kept (t':=c.toks) fun b o e=>Heap.get?_push_of_some _ e,JiT a _,⟨_,Heap.get?_push_size _ rfl,rfl,rfl⟩,fun b g=>?_,q⟩;have e:b=c.heap.objs.size:=by simpa using g
  subst e;exact I1.fpOk (Nat.le_refl _) (I1.hok.fresh (Nat.le_refl _))
 ·obtain ⟨d,j,p,k⟩:=I1.tuple hq;refine wpAny_pyIter_tuple (show c.heap.IsTuple a d.toArray from p) ?_;refine ⟨c.heap.objs.size,[c.heap.objs.size],_,_,i,rfl,I1.kept (t':=c.toks) fun b o e=>Heap.get?_push_of_some _ e,Jhz a _,⟨_,Heap.get?_push_size _ rfl,rfl,rfl⟩,fun b g=>?_,q⟩;have e:b=c.heap.objs.size:=by simpa using g
  subst e;exact I1.fpOk (Nat.le_refl _) (I1.hok.fresh (Nat.le_refl _))
structure FunD (K:W.Frag) (x qual:Str) (st:Stmt) (dV:Value) (f:Addr) (fd:FuncData):Prop where
 ex:∃ (oc:Value) (od:Option Addr) (kV doc pm:Value) (an:Option Addr) (cdv ct:Value) (osl:Array (Option Value)),
  fd=W.fnOf x qual (Jam st) (Jal st) (Jae st) dV kV doc pm an cdv ct/\K.lookup f=some ⟨oc,od, .func fd,osl⟩/\W.codeIn K cdv qual=true
 kp:W.keepIn K (.ref f)=true
section
variable {mg:Str->Option Value} {base:Heap} {w:World} {K:W.Frag} {x qual:Str} {st:Stmt} {dV:Value} {fd:FuncData} {N ps:List Str} {sp:Sp}
theorem FunD.okn {f:Addr} {k:Nat} (F:FunD K x qual st dV f fd) (S:Jan N ps (Jae st)) (len:∀ vs H Q E,sp vs H Q E->vs.length=ps.length)
  (hbody:∀ (cdv:Value) (A:Around) (outer:List Env) (s:Shared) (H:Hp) (vs:List V) (Q:VK) (E:XK),Room k (A.deeper (envOfC qual (Jae st) s.heap.objs.size f cdv))->sp vs H Q E ->
   ∃ t,PSs (cxOf (CX1 P w) P w K mg base N qual (Jae st) f cdv A outer s H E).nox (Jal st) t/\t { nx:=fun _ H'=>Q .non H',rt:=Q } (start N vs) H):FnOk P w K mg base (CX1 P w) (k+1) f fd ps sp:=by
 obtain ⟨n,l,kV,e,m,j,cdv,i,c,rfl,d,a⟩:=F.ex;refine fn_of d a S len fun A outer s H vs Q E g b=>?_;obtain ⟨t,h,q⟩:=hbody cdv A outer s H vs Q E g b;exact ⟨t,h.nox,q⟩
theorem FunD.okx {f:Addr} {k:Nat} (F:FunD K x qual st dV f fd) (S:Jan N ps (Jae st)) (len:∀ vs H Q E,sp vs H Q E->vs.length=ps.length)
  (hbody:∀ (cdv:Value) (A:Around) (outer:List Env) (s:Shared) (H:Hp) (vs:List V) (Q:VK) (E:XK),Room k (A.deeper (envOfC qual (Jae st) s.heap.objs.size f cdv))->sp vs H Q E ->
   ∃ t,PSs (cxOf (CX1 P w) P w K mg base N qual (Jae st) f cdv A outer s H E) (Jal st) t/\t { nx:=fun _ H'=>Q .non H',rt:=Q } (start N vs) H):FnOk P w K mg base (CX1 P w) (k+1) f fd ps sp:=by
 obtain ⟨m,j,kV,e,l,i,cdv,h,c,rfl,d,a⟩:=F.ex;exact fn_of d a S len fun A outer s H vs Q E g b=>hbody cdv A outer s H vs Q E g b
theorem FunD.binds {f:Addr} (F:FunD K x qual st dV f fd)
  (h:∀ (kV doc pm:Value) (an:Option Addr) (cdv ct:Value) (us:List Value),us.length=ps.length->bindArgs (W.fnOf x qual (Jam st) (Jal st) (Jae st) dV kV doc pm an cdv ct) ⟨us,[]⟩=pure (ps.zip us)):Binds K fd ps []:=by
 obtain ⟨e,d,kV,doc,pm,an,cdv,ct,a,rfl,c,b⟩:=F.ex;exact .all (h kV doc pm an cdv ct)
theorem FunD.bindsD {T:Addr} {f:Addr} {o:Obj} {items:Array Value} {n:Nat} (F:FunD K x qual st (.ref T) f fd) (hT:K.lookup T=some o) (hs:o.data=.seq items n) (ds:List Value)
  (h:∀ (kV doc pm:Value) (an:Option Addr) (cdv ct:Value) (us:List Value),(us++ds).length=ps.length->∃ k,bindArgs (W.fnOf x qual (Jam st) (Jal st) (Jae st) (.ref T) kV doc pm an cdv ct) ⟨us,[]⟩=seqItems? (.ref T) >>= k/\k (some items)=pure (ps.zip (us++ds))):Binds K fd ps ds:=by
 obtain ⟨j,i,kV,doc,pm,an,cdv,ct,d,rfl,g,e⟩:=F.ex;intro s us X a;obtain ⟨k,b,c⟩:=h kV doc pm an cdv ct us a;exact BindsTo.of_defaults (T:=T) rfl (X _ _ hT) hs b c
theorem Jao {f:Addr} {oc:Value} {od an:Option Addr} {osl:Array (Option Value)} {kV doc pm cdv ct:Value} (l:K.lookup f=some ⟨oc,od, .func (W.fnOf x qual (Jam st) (Jal st) (Jae st) dV kV doc pm an cdv ct),osl⟩)
  (c:W.codeIn K cdv qual=true) (k:W.keepIn K (.ref f)=true):FunD K x qual st dV f (W.fnOf x qual (Jam st) (Jal st) (Jae st) dV kV doc pm an cdv ct):=⟨⟨oc,od,kV,doc,pm,an,cdv,ct,osl,rfl,l,c⟩,k⟩
end
structure Cal (P:Program) (w:World) (K:W.Frag) (mg:Str->Option Value) (base:Heap) (k:Nat) (x:Str) (ps:List Str) (dvs:List V) (sp:Sp):Prop where
 ex:∃ (f:Addr) (fd:FuncData) (ds:List Value),FnOk P w K mg base (CX1 P w) k f fd ps sp/\mg x=some (.ref f)/\W.keepIn K (.ref f)=true/\Binds K fd ps ds/\Vals dvs ds
section
variable {k':Nat} {x:Str} {ps:List Str} {dvs:List V} {sp:Sp} {E:XK} {p:Pos} {e:Expr} {es:List Expr} {k:Nat} {t:TA}
theorem Cal.ev (G:Cal X.prog X.w X.K X.mg X.base k x ps dvs sp) (hr:Room k' X.A) (hk:k<=k') (hg:Gl X x) (hx:JbS (CX1 X.prog X.w) X E) (ha:PA X (e::es) t)
  (hdb:(x == ("__debug__" : Str))=false:=by decide) (he:starEach (e::es) X.env=(false,eval e X.env)::starEach es X.env:=by first|exact Jaf rfl|rfl) (hpl:(backTo pos (starEach es X.env)).any (·.1)=false:=by rfl) :
  PE X (.Call (.Name x p) (e::es) [] pos) (tCall sp dvs E t):=by
 obtain ⟨f,h,g,F,c,a,d,b⟩:=G.ex;exact Jk0 F (hr.mono hk) hg c a d b hx ha hdb he hpl
theorem Cal.tr (G:Cal X.prog X.w X.K X.mg X.base k x ps dvs sp) (hr:Room k' X.A) (hk:k<=k') (hg:Gl X x) (ha:PA X.nox (e::es) t)
  (hdb:(x == ("__debug__" : Str))=false:=by decide) (he:starEach (e::es) X.env=(false,eval e X.env)::starEach es X.env:=by rfl) (hpl:(backTo pos (starEach es X.env)).any (·.1)=false:=by rfl) :
  PEx X (.Call (.Name x p) (e::es) [] pos) (xCall sp dvs t):=by
 obtain ⟨f,h,g,F,c,a,d,b⟩:=G.ex;exact Jjx F (hr.mono hk) hg c a d b ha hdb he hpl
end
end L2
namespace Mth
def g (a b:Int):Int:=(Int.gcd a b:Nat)
theorem Jj0 (a:Int):g a 0=(a.natAbs:Int):=by unfold g;rw [Int.gcd_zero_right]
theorem g_pos {a b:Int} (h:b≠0):0<g a b:=by
 unfold g;exact Int.natCast_pos.mpr (Int.gcd_pos_of_ne_zero_right a h)
theorem JcE (a b:Int):g a b∣a:=Int.gcd_dvd_left ..
theorem JbI (a b:Int):g a b∣b:=Int.gcd_dvd_right ..
theorem JlE (a b:Int):g b (a % b)=g a b:=by
 unfold g;rw [Int.gcd_comm b (a % b)];first
  | rw [Int.gcd_emod_left]
  | (rw [Int.emod_def];simp [Int.gcd_comm])
theorem BdZ (a b:Int):g (if a<0 then -a else a) (if b<0 then -b else b)=g a b:=by
 unfold g;split <;> split <;> simp [Int.neg_gcd,Int.gcd_neg]
theorem JjO (a:Int):0<=(if a<0 then -a else a):=by split <;> ac_nf
theorem g_le {a b:Int} (h:b≠0):g a b<=(b.natAbs:Int):=by
 unfold g;exact Int.ofNat_le.mpr (Nat.le_of_dvd ∅ (Int.natAbs_dvd_natAbs.mpr (by simpa using Int.gcd_dvd_right (a:=a) (b:=b)) |> fun z=>by simpa using z))
theorem fm {x y:Int} (h:0<y):0<=x.fmod y/\x.fmod y<y:=by
 rw [Int.fmod_eq_emod_of_nonneg _ ∅];exact ⟨Int.emod_nonneg _ ∅,Int.emod_lt_of_pos _ h⟩
theorem JhY {x y:Int} (h:0<y):g y (x.fmod y)=g x y:=by
 rw [Int.fmod_eq_emod_of_nonneg _ ∅];exact JlE x y
def by_ (t b:Int):Int:=if b<0 then -(g t b) else g t b
def top (t b:Int):Int:=t.fdiv (by_ t b)
def bot (t b:Int):Int:=b.fdiv (by_ t b)
theorem by_ne {t b:Int} (h:b≠0):by_ t b≠0:=by
 have:=g_pos (a:=t) h;unfold by_;split <;> ac_nf
theorem Jkt (t b:Int):by_ t b∣t:=by
 unfold by_;split
 ·exact Int.neg_dvd.mpr (JcE t b)
 ·exact JcE t b
theorem Jku (t b:Int):by_ t b∣b:=by
 unfold by_;split
 ·exact Int.neg_dvd.mpr (JbI t b)
 ·exact JbI t b
theorem JaH {a d:Int} (h:d∣a) (hd:d≠0):a.fdiv d*d=a:=by
 obtain ⟨k,rfl⟩:=h;rw [Int.mul_comm d k,Int.mul_fdiv_cancel _ hd]
theorem Jeo {t b:Int} (h:b≠0):top t b*by_ t b=t:=JaH (Jkt t b) (by_ne h)
theorem JdP {t b:Int} (h:b≠0):bot t b*by_ t b=b:=JaH (Jku t b) (by_ne h)
theorem JcU {t b:Int} (h:b≠0):1<=bot t b:=by
 have c:=JdP (t:=t) h;have d:=g_pos (a:=t) h;by_cases f:b<0
 ·have e:by_ t b = -(g t b):=by unfold by_;rw [if_pos f]
  rw [e] at c;have i:bot t b*g t b = -b:=by rw [Int.mul_neg] at c;ac_nf
  rcases Int.lt_trichotomy (bot t b) 0 with z | z | z
  ·have:=Int.mul_neg_of_neg_of_pos z d;ac_nf
  ·rw [z] at i;ac_nf
  ·ac_nf
 ·have e:by_ t b=g t b:=by unfold by_;rw [if_neg f]
  rw [e] at c;rcases Int.lt_trichotomy (bot t b) 0 with z | z | z
  ·have:=Int.mul_neg_of_neg_of_pos z d;ac_nf
  ·rw [z] at c;ac_nf
  ·ac_nf
theorem cross {t b:Int} (h:b≠0):top t b*b=t*bot t b:=by
 have a:=Jeo (t:=t) h;have c:=JdP (t:=t) h
 calc top t b*b=top t b*(bot t b*by_ t b):=by rw [c]
  _=(top t b*by_ t b)*bot t b:=by rw [Int.mul_comm (bot t b),Int.mul_assoc]
  _=t*bot t b:=by rw [a]
theorem Jh9 (t b:Int):(by_ t b).natAbs=Int.gcd t b:=by
 unfold by_ g;split <;> simp
theorem g_low {t b:Int} (h:b≠0):g (top t b) (bot t b)=1:=by
 have a:0<Int.gcd t b:=Int.gcd_pos_of_ne_zero_right t h;have e:Int.gcd (top t b*by_ t b) (bot t b*by_ t b)=Int.gcd (top t b) (bot t b)*(by_ t b).natAbs:=Int.gcd_mul_right ..;rw [Jeo h,JdP h,Jh9] at e;have : Int.gcd (top t b) (bot t b)=1:=by
  rcases Nat.lt_trichotomy (Int.gcd (top t b) (bot t b)) 1 with z | z | z
  ·have : Int.gcd (top t b) (bot t b)=0:=by ac_nf
   rw [this] at e;ac_nf
  ·exact z
  ·have:=Nat.mul_le_mul_right (Int.gcd t b) z;ac_nf
 unfold g;rw [this];rfl
theorem Jdo {a b d:Int} (g1:Int.gcd a b=1) (h:b∣a*d):b∣d:=by
 have e:b.natAbs∣a.natAbs*d.natAbs:=by rw [<- Int.natAbs_mul];exact Int.natAbs_dvd_natAbs.mpr h
 have c:Nat.Coprime b.natAbs a.natAbs:=by
  unfold Nat.Coprime;rw [Nat.gcd_comm];exact g1
 exact Int.natAbs_dvd_natAbs.mp (c.dvd_of_dvd_mul_left e)
theorem Jdp {a b c d:Int} (hb:1<=b) (hd:1<=d) (h1:g a b=1) (h2:g c d=1) (e:a*d=c*b):a=c/\b=d:=by
 have k:Int.gcd a b=1:=by unfold g at h1;ac_nf
 have i:Int.gcd c d=1:=by unfold g at h2;ac_nf
 have j:b∣d:=by
  have : b∣a*d:=⟨c,by rw [e,Int.mul_comm]⟩;exact Jdo k this
 have f:d∣b:=by
  have : d∣c*b:=⟨a,by rw [<- e,Int.mul_comm]⟩;exact Jdo i this
 have h:b=d:=Int.dvd_antisymm ∅ ∅ j f;subst h;refine ⟨?_,rfl⟩;exact Int.eq_of_mul_eq_mul_right ∅ e
theorem Jme {t b:Int} (h:b≠0):(top t b).natAbs<=t.natAbs:=by
 have c:=Jeo (t:=t) h;have d:(by_ t b).natAbs≠0:=by have:=by_ne (t:=t) h;ac_nf
 have a:=congrArg Int.natAbs c;rw [Int.natAbs_mul] at a;rw [<- a];exact Nat.le_mul_of_pos_right _ ∅
theorem bot_le {t b:Int} (h:b≠0):(bot t b).natAbs<=b.natAbs:=by
 have c:=JdP (t:=t) h;have d:(by_ t b).natAbs≠0:=by have:=by_ne (t:=t) h;ac_nf
 have a:=congrArg Int.natAbs c;rw [Int.natAbs_mul] at a
 calc (bot t b).natAbs<=(bot t b).natAbs*(by_ t b).natAbs:=Nat.le_mul_of_pos_right _ ∅
  _=b.natAbs:=a
theorem Jj1 {t b:Int} (h:b≠0):(if b<0 then -t else t).fdiv (g (if b<0 then -t else t) (if b<0 then -b else b))=top t b/\(if b<0 then -b else b).fdiv (g (if b<0 then -t else t) (if b<0 then -b else b))=bot t b:=by
 have d:=Jeo (t:=t) h;have f:=JdP (t:=t) h;have j:=g_pos (a:=t) h;by_cases c:b<0
 ·have e:by_ t b = -(g t b):=by unfold by_;rw [if_pos c]
  simp only [if_pos c];have i:g (-t) (-b)=g t b:=by unfold g;simp [Int.neg_gcd,Int.gcd_neg]
  rw [i];rw [e,Int.mul_neg] at d f;constructor
  ·have : -t=top t b*g t b:=by ac_nf
   rw [this,Int.mul_fdiv_cancel _ ∅]
  ·have : -b=bot t b*g t b:=by ac_nf
   rw [this,Int.mul_fdiv_cancel _ ∅]
 ·have e:by_ t b=g t b:=by unfold by_;rw [if_neg c]
  simp only [if_neg c];unfold top bot;rw [e];exact ⟨rfl,rfl⟩
theorem JkM {n k:Nat} (h:n<2 ^ k) (hk:k<9000):n.log2<9000:=by
 by_cases z:n=0
 ·rw [z];decide
 ·exact Nat.lt_trans ((Nat.log2_lt z).mpr h) hk
def Sz (n:Nat) (i:Int):Prop:=i.natAbs<2 ^ n
theorem Sz.mono {m n:Nat} {i:Int} (h:Sz m i) (k:m<=n):Sz n i:=Nat.lt_of_lt_of_le h (Nat.pow_le_pow_right ⋯ k)
theorem Sz.mul {m n:Nat} {i j:Int} (h:Sz m i) (k:Sz n j):Sz (m+n) (i*j):=by
 unfold Sz at *;rw [Int.natAbs_mul,Nat.pow_add];exact Nat.mul_lt_mul'' h k
theorem Sz.add {n:Nat} {i j:Int} (h:Sz n i) (k:Sz n j):Sz (n+1) (i+j):=by
 unfold Sz at *;have:=Int.natAbs_add_le i j;rw [Nat.pow_succ];ac_nf
theorem Sz.neg {n:Nat} {i:Int} (h:Sz n i):Sz n (-i):=by
 unfold Sz at *;rw [Int.natAbs_neg];exact h
theorem Sz.top {n:Nat} {t b:Int} (hb:b≠0) (h:Sz n t):Sz n (Mth.top t b):=Nat.lt_of_le_of_lt (Jme hb) h
theorem Sz.bot {n:Nat} {t b:Int} (hb:b≠0) (h:Sz n b):Sz n (Mth.bot t b):=Nat.lt_of_le_of_lt (bot_le hb) h
theorem Sz.lit {n:Nat} {i:Int} (h1 : -(2 ^ n)<i) (h2:i<2 ^ n):Sz n i:=by
 unfold Sz;have e:((2 ^ n:Nat):Int)=2 ^ n:=by simp
 ac_nf
end Mth
namespace Mth
theorem Jck {a b:Int} (h:g a b=1):Int.gcd a b=1:=by unfold g at h;ac_nf
theorem JdL {a b:Int} (h:Int.gcd a b=1):g a b=1:=by unfold g;rw [h];rfl
theorem Jb1 {t x y:Int} (h1:Int.gcd t x=1) (h2:Int.gcd t y=1):Int.gcd t (x*y)=1:=by
 unfold Int.gcd at *;rw [Int.natAbs_mul];exact Nat.Coprime.mul_right h1 h2
theorem JeC {x y:Int} (h:∀ k:Int,k∣x->k∣y->k∣1):Int.gcd x y=1:=by
 have:=h (Int.gcd x y:Nat) (Int.gcd_dvd_left ..) (Int.gcd_dvd_right ..);have z:=Int.natAbs_dvd_natAbs.mpr this;simp at z;exact z
theorem JeD {k x y:Int} (h:Int.gcd x y=1) (h1:k∣x) (h2:k∣y):k∣1:=by
 have z:=Int.dvd_coe_gcd h1 h2;rw [h] at z;exact z
theorem Jb7 {t u x:Int} (h:Int.gcd t x=1) (d:u∣t):Int.gcd u x=1:=JeC fun k a b=>JeD h (Int.dvd_trans a d) b
theorem JaU {x y:Int} (h:Int.gcd x y=1):Int.gcd y x=1:=by rw [Int.gcd_comm];exact h
theorem JhK {a b c d:Int} (h1:Int.gcd a b=1) (h2:Int.gcd d b=1):Int.gcd (a*d+c*b) b=1:=by
 have : Int.gcd b (a*d)=1:=Jb1 (JaU h1) (JaU h2);refine JeC fun k g f=>JeD this f ?_;have : k∣(a*d+c*b)-c*b:=Int.dvd_sub g (Int.dvd_mul_of_dvd_right f);have e:(a*d+c*b)-c*b=a*d:=by ac_nf
 rwa [e] at this
theorem Jb2 {a d:Int} (h:d∣a) (hd:1<=d) (ha:1<=a):1<=a.fdiv d:=by
 have e:=JaH h ∅;rcases Int.lt_trichotomy (a.fdiv d) 0 with z | z | z
 ·have:=Int.mul_neg_of_neg_of_pos z (show 0<d by ac_nf);ac_nf
 ·rw [z] at e;ac_nf
 ·ac_nf
theorem JcO {b d s:Int} (hs:s=g b d) (p:1<=s):Int.gcd (b.fdiv s) (d.fdiv s)=1:=by
 have a:b.fdiv s*s=b:=JaH (by rw [hs];exact JcE ..) ∅;have c:d.fdiv s*s=d:=JaH (by rw [hs];exact JbI ..) ∅;have e:Int.gcd (b.fdiv s*s) (d.fdiv s*s)=Int.gcd (b.fdiv s) (d.fdiv s)*s.natAbs:=Int.gcd_mul_right ..;rw [a,c] at e;have f:Int.gcd b d=s.natAbs:=by rw [hs];unfold g;simp
 rw [f] at e;rcases Nat.lt_trichotomy (Int.gcd (b.fdiv s) (d.fdiv s)) 1 with z | z | z
 ·have : Int.gcd (b.fdiv s) (d.fdiv s)=0:=by ac_nf
  rw [this] at e;ac_nf
 ·exact z
 ·have:=Nat.mul_le_mul_right s.natAbs z;ac_nf
theorem Jk7 {a b c d:Int} (hb:1<=b) (hd:1<=d) (h1:g a b=1) (h2:g c d=1) {s t r:Int} (hs:s=g b d) (ht:t=a*d.fdiv s+c*b.fdiv s) (hr:r=g t s) :
  t.fdiv r=top (a*d+c*b) (b*d)/\b.fdiv s*d.fdiv r=bot (a*d+c*b) (b*d):=by
 have q:1<=s:=by rw [hs];have:=g_pos (a:=b) (b:=d) ∅;ac_nf
 have w:1<=r:=by rw [hr];have:=g_pos (a:=t) (b:=s) ∅;ac_nf
 have B:s∣b:=by rw [hs];exact JcE ..
 have n:s∣d:=by rw [hs];exact JbI ..
 have C:r∣t:=by rw [hr];exact JcE ..
 have A:r∣s:=by rw [hr];exact JbI ..
 have z:r∣d:=Int.dvd_trans A n;have v:=JaH B ∅;have l:=JaH n ∅;have y:=JaH C ∅;have x:=JaH z ∅;have J:=JaH A ∅;have M:=Jb2 B q hb;have N:=Jb2 n q hd;have I:=Jb2 z w hd;have i:=JcO hs q;have m:Int.gcd (t.fdiv r) (s.fdiv r)=1:=JcO hr w;have u:d.fdiv r=d.fdiv s*s.fdiv r:=by
  refine Int.eq_of_mul_eq_mul_right (a:=r) ∅ ?_;rw [x,Int.mul_assoc,J,l]
 have F:Int.gcd a (b.fdiv s)=1:=JaU (Jb7 (JaU (Jck h1)) ⟨s,v.symm⟩);have H:Int.gcd c (d.fdiv s)=1:=JaU (Jb7 (JaU (Jck h2)) ⟨s,l.symm⟩);have G:Int.gcd t (b.fdiv s)=1:=by rw [ht];exact JhK F (JaU i)
 have E:Int.gcd t (d.fdiv s)=1:=by rw [ht,Int.add_comm];exact JhK H i
 have o:g (t.fdiv r) (b.fdiv s*d.fdiv r)=1:=JdL (by
  rw [u];have k:t.fdiv r∣t:=⟨r,y.symm⟩;exact Jb1 (Jb7 G k) (Jb1 (Jb7 E k) m))
 have e:b*d≠0:=Int.mul_ne_zero ∅ ∅;have f:=g_low (t:=a*d+c*b) e;have h:=JcU (t:=a*d+c*b) e;have j:=cross (t:=a*d+c*b) e;have p:1<=b.fdiv s*d.fdiv r:=by
  have:=Int.mul_pos (show 0<b.fdiv s by ac_nf) (show 0<d.fdiv r by ac_nf);ac_nf
 have L:t*s=a*d+c*b:=by
  rw [ht,Int.add_mul,Int.mul_assoc,Int.mul_assoc,l,v]
 have D:t.fdiv r*(b*d)=(a*d+c*b)*(b.fdiv s*d.fdiv r):=by
  have K:(t.fdiv r*(b*d))*r=((a*d+c*b)*(b.fdiv s*d.fdiv r))*r:=by
   calc (t.fdiv r*(b*d))*r=(t.fdiv r*r)*(b*d):=by ac_rfl
    _=t*((b.fdiv s*s)*d):=by rw [y,v]
    _=(t*s)*(b.fdiv s*d):=by ac_rfl
    _=(a*d+c*b)*(b.fdiv s*(d.fdiv r*r)):=by rw [L,x]
    _=((a*d+c*b)*(b.fdiv s*d.fdiv r))*r:=by ac_rfl
  exact Int.eq_of_mul_eq_mul_right ∅ K
 refine Jdp p h o f ?_;refine Int.eq_of_mul_eq_mul_right (a:=b*d) e ?_
 calc (t.fdiv r*bot (a*d+c*b) (b*d))*(b*d)=(t.fdiv r*(b*d))*bot (a*d+c*b) (b*d):=by ac_rfl
  _=((a*d+c*b)*bot (a*d+c*b) (b*d))*(b.fdiv s*d.fdiv r):=by rw [D];ac_rfl
  _=(top (a*d+c*b) (b*d)*(b*d))*(b.fdiv s*d.fdiv r):=by rw [j]
  _=(top (a*d+c*b) (b*d)*(b.fdiv s*d.fdiv r))*(b*d):=by ac_rfl
theorem JdS {a d:Int} (h:d∣a) (hd:1<=d):(a.fdiv d).natAbs<=a.natAbs:=by
 have e:=congrArg Int.natAbs (JaH h (show d≠0 by ac_nf));rw [Int.natAbs_mul] at e
 calc (a.fdiv d).natAbs<=(a.fdiv d).natAbs*d.natAbs:=Nat.le_mul_of_pos_right _ ∅
  _=a.natAbs:=e
theorem Sz.fdiv {n:Nat} {a d:Int} (h:Sz n a) (k:d∣a) (hd:1<=d):Sz n (a.fdiv d):=Nat.lt_of_le_of_lt (JdS k hd) h
theorem g_neg {a b:Int}:g (-a) b=g a b:=by unfold g;simp [Int.neg_gcd]
end Mth
namespace Mth
theorem JjH {a b c d:Int} (hb:1<=b) (hd:1<=d) (h1:g a b=1) (h2:g c d=1) {u v:Int} (hu:u=g a d) (hv:v=g c b) :
  a.fdiv u*c.fdiv v=top (a*c) (b*d)/\b.fdiv v*d.fdiv u=bot (a*c) (b*d):=by
 have q:1<=u:=by rw [hu];have:=g_pos (a:=a) (b:=d) ∅;ac_nf
 have o:1<=v:=by rw [hv];have:=g_pos (a:=c) (b:=b) ∅;ac_nf
 have A:u∣a:=by rw [hu];exact JcE ..
 have r:u∣d:=by rw [hu];exact JbI ..
 have z:v∣c:=by rw [hv];exact JcE ..
 have p:v∣b:=by rw [hv];exact JbI ..
 have n:=JaH A ∅;have m:=JaH r ∅;have l:=JaH z ∅;have s:=JaH p ∅;have D:=Jb2 p o hb;have E:=Jb2 r q hd;have y:=JcO hu q;have x:=JcO hv o;have C:Int.gcd (a.fdiv u) (b.fdiv v)=1:=JaU (Jb7 (JaU (Jb7 (Jck h1) ⟨u,n.symm⟩)) ⟨v,s.symm⟩);have B:Int.gcd (c.fdiv v) (d.fdiv u)=1:=JaU (Jb7 (JaU (Jb7 (Jck h2) ⟨v,l.symm⟩)) ⟨u,m.symm⟩);have j:g (a.fdiv u*c.fdiv v) (b.fdiv v*d.fdiv u)=1:=JdL (JaU (Jb1 (JaU (Jb1 C y)) (JaU (Jb1 x B))));have e:b*d≠0:=Int.mul_ne_zero ∅ ∅;have f:=g_low (t:=a*c) e;have h:=JcU (t:=a*c) e;have i:=cross (t:=a*c) e;have k:1<=b.fdiv v*d.fdiv u:=by
  have:=Int.mul_pos (show 0<b.fdiv v by ac_nf) (show 0<d.fdiv u by ac_nf);ac_nf
 have w:(a.fdiv u*c.fdiv v)*(b*d)=(a*c)*(b.fdiv v*d.fdiv u):=by
  calc (a.fdiv u*c.fdiv v)*(b*d)=(a.fdiv u*c.fdiv v)*((b.fdiv v*v)*(d.fdiv u*u)):=by rw [s,m]
   _=((a.fdiv u*u)*(c.fdiv v*v))*(b.fdiv v*d.fdiv u):=by ac_rfl
   _=(a*c)*(b.fdiv v*d.fdiv u):=by rw [n,l]
 refine Jdp k h j f ?_;refine Int.eq_of_mul_eq_mul_right (a:=b*d) e ?_
 calc ((a.fdiv u*c.fdiv v)*bot (a*c) (b*d))*(b*d)=((a.fdiv u*c.fdiv v)*(b*d))*bot (a*c) (b*d):=by ac_rfl
  _=((a*c)*bot (a*c) (b*d))*(b.fdiv v*d.fdiv u):=by rw [w];ac_rfl
  _=(top (a*c) (b*d)*(b*d))*(b.fdiv v*d.fdiv u):=by rw [i]
  _=(top (a*c) (b*d)*(b.fdiv v*d.fdiv u))*(b*d):=by ac_rfl
theorem JkN {t b:Int} (h:b<0):top (-t) (-b)=top t b/\bot (-t) (-b)=bot t b:=by
 have a:=Jj1 (t:=t) (b:=b) ∅;have c:=Jj1 (t:=-t) (b:=-b) ∅;rw [if_pos h,if_pos h] at a;rw [if_neg ∅,if_neg ∅] at c;exact ⟨c.1.symm.trans a.1,c.2.symm.trans a.2⟩
theorem JlD {a b:Int}:g a (-b)=g a b:=by unfold g;simp [Int.gcd_neg]
theorem JjZ (a b:Int):g a b=g b a:=by unfold g;rw [Int.gcd_comm]
end Mth
namespace L2
open PySem PySem.Spec PyProof.Rows
section
variable {σ:St} {H:Hp} {Q:VK} {u:TS} {ta tb te:TE} {tA:TA} {r:R2} {E:XK} {sp:Sp} {D:Ends} {t:TS} {g:TG} {K:W.Frag}
theorem y88y:tSeq t u D σ H=t { D with nx:=u D } σ H:=rfl
theorem y76y:tNext D σ H=D.nx σ H:=rfl
theorem y2by:tAsg te g D σ H=te σ H fun x H1=>g x σ H1 D.nx:=rfl
variable {v:V}
theorem y71y {i:Nat} {R:St->Hp->Prop}:gName i v σ H R=R (σ.set i (some v)) H:=rfl
theorem y85y:tRet te D σ H=te σ H D.rt:=rfl
theorem y86y:tRetN D σ H=D.rt .non H:=rfl
theorem y49y:tDrop te D σ H=te σ H fun _ H1=>D.nx σ H1:=rfl
theorem y2fy:tC v σ H Q=Q v H:=rfl
theorem y7dy:tOp r ta tb σ H Q=ta σ H fun x H1=>tb σ H1 fun y H2=>r x y H2 Q:=rfl
theorem y99y {f:V->Hp->VK->Prop}:tUn f ta σ H Q=ta σ H fun x H1=>f x H1 Q:=rfl
theorem y31y {f:List V->Hp->VK->Prop}:tCB f tA σ H Q=tA σ H fun vs H1=>f vs H1 Q:=rfl
variable {R:List V->Hp->Prop}
theorem y3ey:tCons ta tA σ H R=ta σ H fun x H1=>tA σ H1 fun xs H2=>R (x::xs) H2:=rfl
theorem y77y:tNil σ H R=R [] H:=rfl
variable {dvs:List V}
theorem y30y:tCall sp dvs E tA σ H Q=tA σ H fun vs H1=>sp (vs++dvs) H1 Q E:=rfl
variable {R:Bool->Hp->Prop}
theorem y8fy:tTest te σ H R=te σ H fun x H'=>∃ k,x=.bl k/\R k H':=rfl
theorem y23y:tB te σ H R=te σ H fun x H'=>∃ k,x=.bl k/\R k H':=rfl
variable {a b:TT}
theorem y29y:tAnd a b σ H R=a σ H fun c H1=>if c=true then b σ H1 R else R false H1:=rfl
theorem y7ey:tOr a b σ H R=a σ H fun c H1=>if c=true then R true H1 else b σ H1 R:=rfl
theorem y79y:tNot a σ H R=a σ H fun c H1=>R (!c) H1:=rfl
theorem y2ay:tAndV ta tb σ H Q=ta σ H fun x H1=>∃ c,x=.bl c/\if c=true then tb σ H1 Q else Q (.bl false) H1:=rfl
theorem y7fy:tOrV ta tb σ H Q=ta σ H fun x H1=>∃ c,x=.bl c/\if c=true then Q (.bl true) H1 else tb σ H1 Q:=rfl
theorem y7by:tNotV ta σ H Q=ta σ H fun x H1=>∃ c,x=.bl c/\Q (.bl (!c)) H1:=rfl
theorem y5ey {c:TT}:tIfS c t u D σ H=c σ H fun b H1=>if b=true then t D σ H1 else u D σ H1:=rfl
theorem y9by {i:Nat}:tVar i σ H Q=∃ v,σ[i]?=some (some v)/\Q v H:=rfl
theorem y26y {i j:Int}:rAddU K (.int i) (.int j) H Q=Q (.int (i+j)) H:=rfl
theorem y27y {i j:Str}:rAddU K (.str i) (.str j) H Q=(i.length+j.length<=sizeLine/\Q (.str (i++j)) H):=rfl
variable {j:Int}
theorem y8dy {f:Int->Int->V} {i:Int}:rI0 f (.int i) (.int j) H Q=Q (f i j) H:=by
 unfold rI0;simp
theorem y75y {f:Int->V} {i:Int}:rU f (.int i) H Q=Q (f i) H:=by
 unfold rU;simp
theorem y6ey {i:Int}:rMulU (.int i) (.int j) H Q=(IntMulOk i j/\Q (.int (i*j)) H):=rfl
theorem y4ey {i:Int}:Jix (.int i) (.int j) H Q=(DivOk j/\Q (.int (i.fdiv j)) H):=rfl
theorem y6dy {i:Int}:rModU (.int i) (.int j) H Q=(j≠0/\Q (.int (i.fmod j)) H):=rfl
theorem y82y {i:Int}:rPowU (.int i) (.int j) H Q=(CPow i j/\Q (.int (i ^ j.toNat)) H):=rfl
theorem y34y {p:Int->Int->Bool} {i:Int}:rCmpU p (.int i) (.int j) H Q=Q (.bl (p i j)) H:=rfl
theorem y4cy {i:Int}:rEqU K (.int i) (.int j) H Q=Q (.bl (decide (i=j))) H:=rfl
theorem y73y {i:Int}:rNeU K (.int i) (.int j) H Q=Q (.bl (!decide (i=j))) H:=rfl
variable {j:Str}
theorem y4dy {i:Str}:rEqU K (.str i) (.str j) H Q=Q (.bl (decide (i=j))) H:=rfl
theorem y74y {i:Str}:rNeU K (.str i) (.str j) H Q=Q (.bl (!decide (i=j))) H:=rfl
variable {j:Bool}
theorem y4by {i:Bool}:rEqU K (.bl i) (.bl j) H Q=Q (.bl (decide (i=j))) H:=rfl
theorem y72y {i:Bool}:rNeU K (.bl i) (.bl j) H Q=Q (.bl (!decide (i=j))) H:=rfl
theorem y94y:tTup tA σ H Q=tA σ H fun xs H1=>xs.length<=sizeLine/\∀ p,H1 p=none->Q (.ref p) (upd H1 p (.tup xs)):=rfl
theorem y68y:tLst tA σ H Q=tA σ H fun xs H1=>xs.length<=sizeLine/\∀ p,H1 p=none->Q (.ref p) (upd H1 p (.lst xs)):=rfl
variable {x:V} {T:String}
theorem y64y:rIsi K [x, .ty T] H Q=(T∈["int","str","bool","list","tuple"]/\∃ t,tyN K H x t/\Q (.bl (isiB t T)) H):=rfl
theorem y25y {i:Int}:rAbs [.int i] H Q=Q (.int (if i<0 then -i else i)) H:=rfl
variable {j:Int}
theorem y6cy {i:Int}:rMin [.int i, .int j] H Q=Q (.int (if j<i then j else i)) H:=rfl
theorem y96y {i:Int} {s:String}:tyN K H (.int i) s=(s="int"):=rfl
theorem y98y {i:Str} {s:String}:tyN K H (.str i) s=(s="str"):=rfl
theorem y95y {i:Bool} {s:String}:tyN K H (.bl i) s=(s="bool"):=rfl
theorem y97y {s:String}:tyN K H .non s=(s="NoneType"):=rfl
end
theorem JgI:bootBuiltins "abs"=some (.builtin "abs"):=by decide +kernel
theorem JbG:bootBuiltins "len"=some (.builtin "len"):=by decide +kernel
theorem Jlx:bootBuiltins "min"=some (.builtin "min"):=by decide +kernel
theorem Jlz:bootBuiltins "sum"=some (.builtin "sum"):=by decide +kernel
theorem Jap:bootBuiltins "isinstance"=some (.builtin "isinstance"):=by decide +kernel
theorem Jlv:bootBuiltins "all"=some (.builtin "all"):=by decide +kernel
theorem Jlw:bootBuiltins "int"=some (.type "int"):=by decide +kernel
theorem Jly:bootBuiltins "str"=some (.type "str"):=by decide +kernel
theorem Jkr:bootBuiltins "bool"=some (.type "bool"):=by decide +kernel
theorem JhD:bootBuiltins "list"=some (.type "list"):=by decide +kernel
theorem JeP:bootBuiltins "tuple"=some (.type "tuple"):=by decide +kernel
theorem Jks:bootBuiltins "dict"=some (.type "dict"):=by decide +kernel
theorem Ji7:bootBuiltins "range"=some (.type "range"):=by decide +kernel
theorem JjQ:bootBuiltins "zip"=some (.type "zip"):=by decide +kernel
theorem JeO:bootBuiltins "ValueError"=some (.type "ValueError"):=by decide +kernel
theorem yby:isiB "int" "int"=true:=by decide
theorem ydy:isiB "int" "str"=false:=by decide
theorem yay:isiB "int" "bool"=false:=by decide
theorem ycy:isiB "int" "list"=false:=by decide
theorem yey:isiB "int" "tuple"=false:=by decide
theorem y15y:isiB "str" "int"=false:=by decide
theorem y17y:isiB "str" "str"=true:=by decide
theorem y14y:isiB "str" "bool"=false:=by decide
theorem y16y:isiB "str" "list"=false:=by decide
theorem y18y:isiB "str" "tuple"=false:=by decide
theorem y6y:isiB "bool" "int"=true:=by decide
theorem y8y:isiB "bool" "str"=false:=by decide
theorem y5y:isiB "bool" "bool"=true:=by decide
theorem y7y:isiB "bool" "list"=false:=by decide
theorem y9y:isiB "bool" "tuple"=false:=by decide
theorem y1y:isiB "NoneType" "int"=false:=by decide
theorem y3y:isiB "NoneType" "str"=false:=by decide
theorem y0y:isiB "NoneType" "bool"=false:=by decide
theorem y2y:isiB "NoneType" "list"=false:=by decide
theorem y4y:isiB "NoneType" "tuple"=false:=by decide
theorem y10y:isiB "list" "int"=false:=by decide
theorem y12y:isiB "list" "str"=false:=by decide
theorem yfy:isiB "list" "bool"=false:=by decide
theorem y11y:isiB "list" "list"=true:=by decide
theorem y13y:isiB "list" "tuple"=false:=by decide
theorem y1ay:isiB "tuple" "int"=false:=by decide
theorem y1cy:isiB "tuple" "str"=false:=by decide
theorem y19y:isiB "tuple" "bool"=false:=by decide
theorem y1by:isiB "tuple" "list"=false:=by decide
theorem y1dy:isiB "tuple" "tuple"=true:=by decide
theorem y1fy:("int"∈["int","str","bool","list","tuple"])=True:=by simp
theorem y21y:("str"∈["int","str","bool","list","tuple"])=True:=by simp
theorem y1ey:("bool"∈["int","str","bool","list","tuple"])=True:=by simp
theorem y20y:("list"∈["int","str","bool","list","tuple"])=True:=by simp
theorem y22y:("tuple"∈["int","str","bool","list","tuple"])=True:=by simp
variable {P:Program} {scope:Scope} {A:Around} {H:Hp}
theorem y24y {CX:CXT} {w:World} {K:W.Frag} {mg:Str->Option Value} {base:Heap} {N:List Str} {qual:Str} {f:Addr} {cd:Value} {outer:List Env} {s:Shared} {E:XK}:(cxOf CX P w K mg base N qual scope f cd A outer s H E).K=K:=rfl
def ForR (lo:Int) (n:Nat) (g:TG) (tb:TS) (D:Ends) (σ : St) (H:Hp):Prop:=∃ W:Nat->Nat->St->Hp->Prop,(∃ m,W 0 m σ H)/\∀ i m σ H,W i m σ H ->
 ((Itr lo n).stop i H/\D.nx σ H)\/((Itr lo n).go i H/\∃ N:St->Hp->Prop,(∀ σ' H',N σ' H'->∃ m',m'<m/\W (i+1) m' σ' H')/\∀ x H',(Itr lo n).yld i H x H'->g x σ H' fun σ2 H2=>tb { D with nx:=N,ct:=N,bk:=D.nx } σ2 H2)
def ForA (K:W.Frag) (a:Addr) (g:TG) (tb:TS) (D:Ends) (σ : St) (H:Hp):Prop :=
 ((∃ xs,SqL K H a xs)/\∃ W:Nat->Nat->St->Hp->Prop,(∃ m,W 0 m σ H)/\∀ i m σ H,W i m σ H ->
  ((Itl K a).stop i H/\D.nx σ H)\/((Itl K a).go i H/\∃ N:St->Hp->Prop,(∀ σ' H',N σ' H'->∃ m',m'<m/\W (i+1) m' σ' H')/\∀ x H',(Itl K a).yld i H x H'->g x σ H' fun σ2 H2=>tb { D with nx:=N,ct:=N,bk:=D.nx } σ2 H2)) \/
 ((∃ xs,SqT K H a xs)/\∃ W:Nat->Nat->St->Hp->Prop,(∃ m,W 0 m σ H)/\∀ i m σ H,W i m σ H ->
  ((Itt K a).stop i H/\D.nx σ H)\/((Itt K a).go i H/\∃ N:St->Hp->Prop,(∀ σ' H',N σ' H'->∃ m',m'<m/\W (i+1) m' σ' H')/\∀ x H',(Itt K a).yld i H x H'->g x σ H' fun σ2 H2=>tb { D with nx:=N,ct:=N,bk:=D.nx } σ2 H2))
variable {ta:TA} {tb:TS} {σ:St}
theorem y52y {g:TG} {D:Ends}:tFor (iRng1 ta) g tb D σ H=ta σ H fun vs H1=>∃ j:Int,vs=[.int j]/\-(2 ^ 62)<=j/\j<2 ^ 62/\ForR 0 j.toNat g tb D σ H1:=rfl
theorem y53y {g:TG} {D:Ends}:tFor (iRng2 ta) g tb D σ H=ta σ H fun vs H1=>∃ i j:Int,vs=[.int i, .int j]/\(-(2 ^ 62)<=i/\i<2 ^ 62/\-(2 ^ 62)<=j/\j<2 ^ 62)/\ForR i (j-i).toNat g tb D σ H1:=rfl
variable {tl:TE}
theorem y54y {K:W.Frag} {g:TG} {D:Ends}:tFor (iAny K tl) g tb D σ H=tl σ H fun x H1=>∃ a,x=.ref a/\ForA K a g tb D σ H1:=rfl
variable {n:Nat}
theorem ForR.by {lo:Int} {g:TG} {D:Ends} (Pv:Nat->St->Hp->Prop) (h0:Pv 0 σ H)
  (hs:∀ i σ H,i<n->Pv i σ H->g (.int (lo+i)) σ H fun σ2 H2=>tb { D with nx:=Pv (i+1),ct:=Pv (i+1),bk:=D.nx } σ2 H2) (hd:∀ σ H,Pv n σ H->D.nx σ H):ForR lo n g tb D σ H:=JhX Pv h0 hs hd
variable {o:HO}
theorem Jd4 {R:V->Hp->Prop} (h:∀ p H1,Same H H1->H1 p=some o->R (.ref p) H1):∀ p,H p=none->R (.ref p) (upd H p o):=fun p a=>
 h p _ (fun b u q=>by rw [Jag (Jah q a)];exact q) Jaj
variable {H':Hp} {p:Addr}
theorem newS (h:H p=none) (e:upd H p o=H'):Same H H':=fun b u q=>by rw [<- e,Jag (Jah q h)];exact q
theorem newE (e:upd H p o=H'):H' p=some o:=by rw [<- e,Jaj]
theorem JeN {i:Int} (h:Mth.Sz n i):Builtin.Int.intBits i<=n:=by
 unfold Builtin.Int.intBits;split
 ·exact Nat.zero_le _
 ·rename_i z;have : i.natAbs.log2<n:=(Nat.log2_lt (by simpa using z)).mpr h;ac_nf
variable {j:Int}
theorem mulOk {m:Nat} {i:Int} (h:Mth.Sz m i) (k:Mth.Sz n j) (hm:m<=2 ^ 20:=by decide) (hn:n<=2 ^ 20:=by decide):IntMulOk i j:=IntMulOk.of_bits (Nat.le_trans (JeN h) hm) (Nat.le_trans (JeN k) hn)
theorem Jj2 {i:Int} (h:Mth.Sz 64 j):IntMulOk i j:=IntMulOk.of_right (JeN h)
theorem divOk (h:j≠0) (k:Mth.Sz n j) (hn:n<9000:=by decide):DivOk j:=⟨h,Mth.JkM k hn⟩
theorem len0:([]:List V).length<=sizeLine:=by decide
variable {a b:V}
theorem len2:[a,b].length<=sizeLine:=by show 2<=sizeLine;decide
theorem len5 {c d e:V}:[a,b,c,d,e].length<=sizeLine:=by show 5<=sizeLine;decide
theorem Jbf (h:decide (j≠0/\j.natAbs<2 ^ 64)=true):DivOk j:=by
 have z:=of_decide_eq_true h;exact divOk z.1 (n:=64) z.2
theorem Jbg {i:Int} (h:decide (j.natAbs<2 ^ 64)=true):IntMulOk i j:=by
 have z:j.natAbs<2 ^ 64:=of_decide_eq_true h;exact Jj2 z
theorem JaZ {i:Int} (h:decide (i.natAbs<2 ^ 64)=true):IntMulOk i j:=by
 have z:i.natAbs<2 ^ 64:=of_decide_eq_true h;exact IntMulOk.of_left (JeN (n:=64) z)
theorem Jbi {i:Int} (h:decide (0<=j/\j<=1000000/\i.natAbs<2 ^ 64)=true):CPow i j:=by
 have z:0<=j/\j<=1000000/\i.natAbs<2 ^ 64:=of_decide_eq_true h;exact z
def FrV (K:W.Frag) (H:Hp) (v:V) (a b:Int):Prop:=∃ p,v=.ref p/\SqT K H p [.int a, .int b]
variable {v:V} {a b:Int}
theorem FrV.same {K:W.Frag} (S:Same H H') (h:FrV K H v a b):FrV K H' v a b:=by
 obtain ⟨p,e,q⟩:=h;exact ⟨p,e,q.same S⟩
theorem FrV.of {K:W.Frag} (h:H p=some (.tup [.int a, .int b])):FrV K H (.ref p) a b:=⟨p,rfl,SqT.of h⟩
variable {x:V} {r:List V} {Q:VK}
theorem ixT0 {K:W.Frag} (h:SqT K H p (x::r)) (q:Q x H):rIxU K (.ref p) (.int 0) H Q:=⟨_,x, .inr h,Jb6 (j:=0) rfl,q⟩
variable {y:V}
theorem ixT1 {K:W.Frag} (h:SqT K H p (x::y::r)) (q:Q y H):rIxU K (.ref p) (.int 1) H Q:=⟨_,y, .inr h,Jb6 (j:=1) rfl,q⟩
theorem ixF0 {K:W.Frag} (h:FrV K H v a b) (q:Q (.int a) H):rIxU K v (.int 0) H Q:=by
 obtain ⟨p,rfl,z⟩:=h;exact ixT0 z q
theorem ixF1 {K:W.Frag} (h:FrV K H v a b) (q:Q (.int b) H):rIxU K v (.int 1) H Q:=by
 obtain ⟨p,rfl,z⟩:=h;exact ixT1 z q
theorem FrV.rep {K:W.Frag} (h:FrV K H v a b):Rep K H (.tup [.int a, .int b]) v:=by
 obtain ⟨p,rfl,z⟩:=h;simp only [Rep,RepL];exact ⟨p,_,rfl,z,_,_,rfl,rfl,_,_,rfl,rfl,rfl⟩
theorem eqF {K:W.Frag} {c d:Int} (h:FrV K H x a b) (g:FrV K H y c d) (q:Q (.bl (decide (a=c)&&decide (b=d))) H):rEqU K x y H Q:=by
 have e:eqD (.tup [.int a, .int b]) (.tup [.int c, .int d])=(decide (a=c)&&decide (b=d)):=by
  simp only [eqD,eqL,Bool.and_true]
  congr 1 <;> simp [BEq.beq]
 have f:=h.rep;have i:=g.rep;obtain ⟨p,rfl,_⟩:=h;obtain ⟨j,rfl,_⟩:=g;exact ⟨_,_,f,i,by simp [depD,depL],rfl,by rw [e];exact q⟩
variable {xs:List V}
theorem ixT {K:W.Frag} {i:Nat} (h:SqT K H p xs) (e:xs[i]?=some v) (q:Q v H):rIxU K (.ref p) (.int (i:Int)) H Q:=⟨xs,v, .inr h,Jb6 e,q⟩
theorem ixL {K:W.Frag} {i:Nat} (h:SqL K H p xs) (e:xs[i]?=some v) (q:Q v H):rIxU K (.ref p) (.int (i:Int)) H Q:=⟨xs,v, .inl h,Jb6 e,q⟩
section
open PySem.W PySem.Builtin PySem.Builtin.ObjectAttr PySem.Builtin.Getset_descriptor
variable {prog:Program} {E:Value->Shared->Prop} {K:Frag} {x:Addr} {ox:Obj} {w:World} {s:Shared} {D:Addr} {M:Model} {h:Heap}
theorem JgG (hx:h.get? x=some ox) (hc:ox.cls=.ref D):Looks M h (typeOf (.ref x)) (.ref D):=hc ▸ (Looks.ld hx).andThen .now
structure ExcC (K:W.Frag) (D:Addr):Prop where
 cl:W.hasDictIn K D=true
 ga:W.findIn K (.ref D) "__getattribute__"=some (some (.builtin "BaseException.__getattribute__"))
 gh:W.findIn K (.ref D) "__getattr__"=some none
 ca:W.findIn K (.ref D) "__class__"=some (some (.builtin "object.__class__"))
 cg:W.specialIn K (.builtin "object.__class__") "__get__"=some (some (.builtin "getset_descriptor.__get__"))
 ct:W.takesIn K (.builtin "object.__class__")=some true
 mo:W.mroIn K D (.type "object")=some true
 mb:W.mroIn K D (.type "BaseException")=some true
theorem Jlp (X:K.In h) (c:ExcC K D):Looks M h (find (.ref x) (.ref D) "__class__") (.bind (.builtin "getset_descriptor.__get__") (.builtin "object.__class__")):=by
 have L1:=looks_findIn (M:=M) X c.ca;have L2:Looks M h (getOf (some (.builtin "object.__class__"))) (some (.builtin "getset_descriptor.__get__")):=looks_specialIn X c.cg;have L3:=looks_takesIn (M:=M) X c.ct;refine L1.andThen (L2.andThen ((show Looks M h (dataDescriptor? (some (.builtin "object.__class__")) (some (.builtin "getset_descriptor.__get__"))) (some (.builtin "getset_descriptor.__get__", .builtin "object.__class__")) from L3.andThen .now).andThen (Looks.tag .now)))
variable {R:Result->Shared->Prop}
theorem Jmj {tp:Value} (X:K.In s.heap) (hx:s.heap.get? x=some ox) (hc:ox.cls=.ref D) (c:ExcC K D) (q:R (.ok (.ret (.ref D))) s) :
  codeAny (model prog w) A (.call (.builtin "getset_descriptor.__get__") ⟨[.builtin "object.__class__", .ref x,tp],[]⟩) R s:=by
 obtain ⟨h,e,d,f,b⟩:=s;have g:=JgG (M:=model prog w) hx hc;have a:=looks_mroIn (M:=model prog w) X c.mo;refine codeAny_call_builtin (KF.slot_gs.plain) (KF.entry_gs) (KF.slot_gs.check _ _ _ _ _ _ _ _ (KF.type_class) (KF.args_gs _ _ _) ?_)
 (unfold Builtin.«getset_descriptor.__get__»;unfold descrGet)
 (rw [dga_obj];refine wpAny_bind (wpAny_pure ?_))
 (unfold descrGetter;unfold descrCheckInstance;unfold descrNameAndClass;unfold isInstance)
 (simp only [KF.owner_class];repeat lk)
 refine And.intro (Code.quiet_builtin _ (by decide +kernel)) (codeAny_builtin (KF.entry_class) ?_)
 (unfold Builtin.«object.__class__»;unfold shownTypeOf;repeat lk)
 exact q
theorem Jlo {Q:Option Value->Shared->Prop} (X:K.In s.heap) (hx:s.heap.get? x=some ox) (hc:ox.cls=.ref D) (c:ExcC K D) (q:Q (some (.ref D)) { s with toks:=s.toks+1 }) :
  wpAny (model prog w) A (getAttr? (.ref x) "__class__") Q E s:=by
 obtain ⟨p,l,k,e,j⟩:=s;have f:=JgG (M:=model prog w) hx hc;have a:=looks_findIn (M:=model prog w) X c.ga;have b:=looks_findIn (M:=model prog w) X c.gh;have o:=Jlp (M:=model prog w) (x:=x) X c;have n:=looks_mroIn (M:=model prog w) X c.mb;have g:bindSpecial (.builtin "BaseException.__getattribute__") (.ref x)=pure (.builtin "BaseException.__getattribute__",[.ref x]):=by kernel_rfl
 unfold getAttr? getAttrBy? getAttrBy;refine wpAny_bind (wpAny_mkText (wpAny_bind (wpAny_attempt (wpAny_holding (wpAny_bind (f.at (wpAny_bind (a.at ?_))))))));have i:(onTheHeap (Value.ref D)&&Value.builtin "BaseException.__getattribute__" == Value.builtin "object.__getattribute__")=false:=Bool.and_eq_false_iff.mpr (.inr (by decide +kernel));show wpAny _ _ (if (onTheHeap (Value.ref D)&&Value.builtin "BaseException.__getattribute__" == Value.builtin "object.__getattribute__")=true then _ else getAttrByItsOwn _ _ _ _ _ _) _ _ _;rw [if_neg (by rw [i];decide)];unfold getAttrByItsOwn hookBefore;refine wpAny_bind ?_;rw [if_pos (show onTheHeap (Value.ref D)=true from rfl)];refine b.at ?_;refine wpAny_bind (wpAny_attempt (wpAny_holding ?_));unfold callGetattribute boundAndCalled;rw [if_neg ⋯,g];refine wpAny_bind (wpAny_pure ?_);refine wpAny_call (codeAny_call_builtin (by decide +kernel) F.entry_bexc_ga ?_);have h:builtinKind "BaseException.__getattribute__"=some .slot:=by decide +kernel
 have d:splitId "BaseException.__getattribute__"=some ("BaseException","__getattribute__"):=by decide +kernel
 have m:=F.args_bexc_ga (.ref x) (.str "__class__" e)
 (simp only [checkBuiltinCall,h,d];refine wpAny_bind ?_)
 unfold isInstance;repeat (first | lk | wp_step)
 refine wpAny_run (Jmj X hx hc c ?_);repeat (first | lk | wp_step)
 exact q
theorem Jje (c:ExcC K D):KitX K (.ref x) (.ref D) (fun h=>∃ ox,h.get? x=some ox/\ox.cls=.ref D) where
 ty:=fun _ _ _ ⟨ox,e,b⟩=>JgG e b
 it:=fun _ _ X _=>JfI X c.cl
 ne:=fun h f j g n k X d=>by
  refine Bool.eq_false_iff.mpr fun q=>?_;obtain rfl:D=f:=Value.ref.inj (beq_iff_eq.mp q);obtain ⟨i,a,_⟩:=any_some c.cl
  (unfold clsIn at a;split at a)
  next ho=>have z:=X _ _ ho;rw [d] at z;cases z
  next=>cases a
 ca:=fun X ⟨ox,e,b⟩ q=>Jlo X e b c q
end
variable {X:Cx}
def clsV:V->Value
 | .ty T=>.type T
 | .ref C=>.ref C
 | _=>.none
inductive TyU (K:W.Frag) (H:Hp):V->Value->Prop where
 | of {x:V} {t:Value} (h:TyOf K H x t):TyU K H x t
 | sql {a:Addr} {xs:List V} (h:SqL K H a xs):TyU K H (.ref a) (.type "list")
 | sqt {a:Addr} {xs:List V} (h:SqT K H a xs):TyU K H (.ref a) (.type "tuple")
 | exc {a C:Addr} {od:Option Addr} (e:H a=some (ExcO a C od)) (c:ExcC K C):TyU K H (.ref a) (.ref C)
def rIsiC (K:W.Frag):List V->Hp->VK->Prop:=fun xs H Q=>∃ x c t b,xs=[x,c]/\((∃ T,c=.ty T)\/∃ C,c=.ref C)/\TyU K H x t/\W.kitOne K t (clsV c)=some b/\Q (.bl b) H
theorem JdG:CallR X (.builtin "isinstance") (rIsiC X.K):=fun g s σ H n E Q I r q=>by
 obtain ⟨x,c,t,b,rfl,y,w,e,q⟩:=q;obtain ⟨u,A,rfl,j,m⟩:=vals2 r;have v:A=clsV c:=by
  rcases y with ⟨T,rfl⟩ | ⟨C,rfl⟩
  ·exact m
  ·exact m
 subst v;have d:∀ k,EP X g σ Q (.bool b) { s with toks:=k }:=fun k=>⟨V.bl _,H,I.tok k,rfl,q⟩;cases w with
 | of h=>exact Jh2 I j h e d
 | @sql a n h=>
  cases (show u=Value.ref a from j);obtain ⟨l,_,p,_⟩:=I.list h;obtain ⟨o,_,i,f,_⟩:=p;exact W.kia_one W.kitx_list I.kIn ⟨o,i,f⟩ e (fun z=>nomatch z) d
 | @sqt a n h=>
  cases (show u=Value.ref a from j);obtain ⟨l,_,p,_⟩:=I.tuple h;obtain ⟨o,i,f,_⟩:=p;exact W.kia_one W.kitx_tuple I.kIn ⟨o,i,f⟩ e (fun z=>nomatch z) d
 | @exc a C od ea cc=>
  cases (show u=Value.ref a from j);have D:=I.hok a _ ea;obtain ⟨⟨B,F,i,f,_⟩,_⟩:=D;exact W.kia_one (Jje cc) I.kIn ⟨B,i,f⟩ e (fun z=>nomatch z) d
section
variable {En:Ends} {u:TS} {ta tb te tc:TE} {gs:TGs} {tA:TA} {E:XK} {sp:Sp} {t:TS} {td:TE} {g:TG} {K:W.Frag}
theorem y92y {D0:Addr} {i:Nat} {tx:St->Hp->VK->XK->Prop} {ts:TS}:Jkf K D0 i tx ts En σ H=tx σ H (fun _ H1=>En.nx σ H1) fun cls od H1=>∃ C,cls=.ref C/\JeM K C D0 /\
 ∀ ea,H1 ea=none->ts { nx:=fun σ' H'=>En.nx (σ'.set i none) H',rt:=En.rt,bk:=fun σ' H'=>En.bk (σ'.set i none) H',ct:=fun σ' H'=>En.ct (σ'.set i none) H' } (σ.set i (some (.ref ea))) (upd H1 ea (ExcO ea C od)):=rfl
variable {dvs:List V}
theorem y9cy {Qx:VK} {Ex:XK}:xCall sp dvs tA σ H Qx Ex=tA σ H fun vs H1=>sp (vs++dvs) H1 Qx Ex:=rfl
variable {C:Addr}
theorem y83y:Jkd E C tA En σ H=tA σ H fun vs H1=>vs.length<=sizeLine/\E (.ref C) none H1:=rfl
variable {a:Addr} {od:Option Addr} {b:Bool}
theorem isiX {c:V} (e:H a=some (ExcO a C od)) (x:ExcC K C) (hc:(∃ T,c=.ty T)\/∃ C,c=.ref C) (k:W.kitOne K (.ref C) (clsV c)=some b) (q:Q (.bl b) H):rIsiC K [.ref a,c] H Q :=
 ⟨_,_,_,b,rfl,hc, .exc e x,k,q⟩
theorem isiXr {c:Addr} (e:H a=some (ExcO a C od)) (x:ExcC K C) (k:W.kitOne K (.ref C) (.ref c)=some b) (q:Q (.bl b) H):rIsiC K [.ref a, .ref c] H Q:=isiX e x (.inr ⟨_,rfl⟩) k q
variable {T:String}
theorem isiXt (e:H a=some (ExcO a C od)) (x:ExcC K C) (k:W.kitOne K (.ref C) (.type T)=some b) (q:Q (.bl b) H):rIsiC K [.ref a, .ty T] H Q:=isiX e x (.inl ⟨_,rfl⟩) k q
theorem Jgx:∀ bs:List Bool,RepL K H (bs.map D.bl) (bs.map V.bl)
 | []=>by simp only [map_nil,RepL]
 | b::bs=>by simp only [map_cons,RepL,Rep];exact ⟨_,_,rfl,rfl,Jgx bs⟩
theorem JjV:∀ as bs:List Bool,eqL (as.map D.bl) (bs.map D.bl)=decide (as=bs)
 | [],[]=>by simp [eqL]
 | [],_::_=>by simp [eqL]
 | _::_,[]=>by simp [eqL]
 | a::as,b::bs=>by
  simp only [map_cons,eqL,eqD,JjV as bs,List.cons.injEq];cases a <;> cases b <;> simp
theorem JhQ:∀ bs:List Bool,depL (bs.map D.bl)=0
 | []=>by simp [depL]
 | b::bs=>by simp [depL,depD,JhQ bs]
theorem eqBL {l m:Addr} {as bs:List Bool} (h:H l=some (.lst (as.map V.bl))) (g:H m=some (.lst (bs.map V.bl))) (q:Q (.bl (decide (as=bs))) H):rEqU K (.ref l) (.ref m) H Q:=by
 refine ⟨.lst (as.map D.bl), .lst (bs.map D.bl),?_,?_,?_,rfl,?_⟩
 ·simp only [Rep];exact ⟨_,_,rfl,SqL.of h,Jgx as⟩
 ·simp only [Rep];exact ⟨_,_,rfl,SqL.of g,Jgx bs⟩
 ·simp only [depD,JhQ];decide
 ·simp only [eqD,JjV];exact q
theorem Jbo {K:W.Frag} (hK:X.K=K) {x:Str} {p pos:Pos} {e:Expr} {es:List Expr} {t:TA} (hg:Gl X x) (hm:X.mg x=none) (hv:bootBuiltins x=some (.builtin "isinstance")) (ha:PA X (e::es) t) (hn:x≠"__name__":=by decide)
  (hdb:(x == ("__debug__" : Str))=false:=by decide) (he:starEach (e::es) X.env=(false,eval e X.env)::starEach es X.env:=by rfl) (hpl:(backTo pos (starEach es X.env)).any (·.1)=false:=by rfl) :
  PE X (.Call (.Name x p) (e::es) [] pos) (tCB (rIsiC K) t):=hK ▸ Jay JdG hg hm hv ha hn hdb he hpl
end
def Its (x:Str):It:=⟨fun i _=>i<x.cps.size,fun i H v H'=>H'=H/\∃ c,x.cps[i]?=some c/\v=.str ⟨#[c]⟩,fun i _=>i=x.cps.size⟩
variable {tg:Expr} {x:Str}
theorem JfZ {w:World} {K:W.Frag} {it:Addr} {n:String} {St:Nat->Heap->Prop} (hn:["enumerate","zip","dict_itemiterator","dict_reverseitemiterator","odict_iterator","itertools.zip_longest","itertools.pairwise"].contains n=false)
  (hst:∀ i h,St i h->∃ o vs,h.get? it=some o/\o.cls=.type n/\o.data=.fields vs) (mk:∀ A:Around,A.handled=none->Walks P w A it [it] [it] x.cps.size (SignAt x) St)
  (hself:∀ (A:Around) (i:Nat) (s:Shared) (Q:Value->Shared->Prop) (E:Value->Shared->Prop),St i s.heap->Q (.ref it) s->wpAny (model P w) A (pyIter (.ref it)) Q E s):Turn P w K tg (Its x) [it] it St where
 mem:=by simp
 obj:=fun i h g b a=>by
  obtain rfl:b=it:=by simpa using a
  obtain ⟨o,vs,e,_,d⟩:=hst i h g;exact ⟨o,e,fun v z=>by rw [d] at z;cases z⟩
 keep:=fun i h j g k=>(mk {} rfl).frame i h j g fun b a o e=>k b a o e
 item:=by
  intro X q M t y i f s σ H E I m g D;subst q M t;obtain ⟨L,N,S,J,F,G⟩:=m it (by simp);refine (mk X.A (I.ok.hd y)).item i s _ _ D g fun v j p T l C=>?_;obtain ⟨c,u,B,rfl⟩:=T;have I1:Inv X f σ H { s with heap:=j,toks:=p }:=I.turned (fun b o a e=>C b o (by simpa using a) e) L N J F G;obtain ⟨o,vs,O,U,R⟩:=hst _ _ l;exact ⟨_,rfl,go_of (s:={ s with heap:=j,toks:=p }) O U R hn ⟨.str ⟨#[c]⟩,H,I1,⟨u,rfl⟩,⟨rfl,c,B,rfl⟩,l,fun b a=>(m b a).1⟩⟩
 done:=by
  intro X q M t y i f s σ H E I m g D;subst q M t;obtain ⟨L,N,S,J,F,G⟩:=m it (by simp);have r:i=x.cps.size:=D;subst r;exact (mk X.A (I.ok.hd y)).done s _ _ g fun j p C=>⟨rfl,I.turned (fun b o a e=>C b o (by simpa using a) e) L N J F G⟩
 self:=hself
def iStr (tl:TE):TI:=fun σ H R=>tl σ H fun x H1=>∃ z,x=.str z/\R (Its z) H1
theorem Jl3 {l:Expr} (hl:PE X l tl):PI X tg l (iStr tl):=fun f s σ H R I h=>by
 refine thn (hl f s σ H _ I h) fun v d ζ=>?_;obtain ⟨x,k,I1,p,z,r,q⟩:=ζ;subst r;obtain ⟨t,rfl⟩:=p;have key:∀ (n:String),(n="str_ascii_iterator"\/n="str_iterator")->PIE X f σ tg R (.ref d.heap.objs.size) { d with heap:=d.heap.push { cls:=.type n,data:=.fields #[.str z t, .int 0 0] } }:=fun n m=>by
  have y:Turn X.prog X.w X.K tg (Its z) [d.heap.objs.size] d.heap.objs.size (fun i h=>h.IsStrIter d.heap.objs.size n z t i):=by
   rcases m with rfl | rfl
   ·exact JfZ (n:="str_ascii_iterator") ⋯ (fun i h g=>let ⟨o,a,b,c⟩:=g;⟨o,_,a,b,c⟩) (fun A j=>Walks.strAscii j _ z t) fun A i s Q E g q=>wpAny_pyIter_striter_ascii g q
   ·exact JfZ (n:="str_iterator") ⋯ (fun i h g=>let ⟨o,a,b,c⟩:=g;⟨o,_,a,b,c⟩) (fun A j=>Walks.strWide j _ z t) fun A i s Q E g q=>wpAny_pyIter_striter_wide g q
  refine ⟨d.heap.objs.size,[d.heap.objs.size],_,_,k,rfl,I1.kept (t':=d.toks) fun b o e=>Heap.get?_push_of_some _ e,y,⟨_,Heap.get?_push_size _ rfl,rfl,rfl⟩,fun b u=>?_,q⟩;obtain rfl:b=d.heap.objs.size:=by simpa using u
  exact I1.fpOk (Nat.le_refl _) (I1.hok.fresh (Nat.le_refl _))
 cases ha:z.cps.all (· < 128)
 ·exact wpAny_pyIter_wide ha (key _ (.inr rfl))
 ·exact wpAny_pyIter_ascii ha (key _ (.inl rfl))
abbrev Cx.inc (X:Cx) (N':List Str) (scope:Scope) (cl:List (Str × Addr)) (fp:List Addr) (s2:Shared) (H2:Hp) (C:Addr):Cx :=
 { X with N:=N',s₀:=s2,H₀:=H2,env:=compEnvC scope cl C X.env,outer:=X.stack,ex:=fp,fn:=fun _=>false,pn:=[],xe:=fun _ _=>False }
variable {pins:List (Addr × Obj)} {H2:Hp} {s2:Shared} {N':List Str} {cl:List (Str × Addr)} {fp:List Addr} {C:Addr}
theorem Inv.incOk (I:Inv X pins σ H2 s2) (hf:∀ b∈fp,FpOk X pins H2 b) (hfp:∀ b∈fp,b<s2.heap.objs.size) (hk:scope.kind=.function) (hC:s2.heap.objs.size<=C) (hcl:∀ x c,cl.lookup x=some c->X.env.cells.lookup x=some c)
  (hhas:∀ y,((relabel scope X.env).names.lookup y=some .cell\/(relabel scope X.env).names.lookup y=some .free)->∃ c,cl.lookup y=some c):(X.inc N' scope cl fp s2 H2 C).Ok where
 mod:=I.ok.mod
 kind:=hk
 glob:=I.ok.glob
 blt:=I.ok.blt
 above:=hC
 inj:=fun x y c f g=>I.ok.inj x y c (hcl x c f) (hcl y c g)
 has:=fun y d=>hhas y d
 cab:=fun x c h=>by cases h
 hd:=I.ok.hd
 frames:=I.ok.frames
 stk:=.inl rfl
 exf:=fun b a=>⟨Nat.ne_of_lt (Nat.lt_of_lt_of_le (hfp b a) hC),fun x c e=>(hf b a).2.2.2.2.1 x c (hcl x c e)⟩
 bs:=I.bs
 bsz:=Nat.le_trans I.ok.bsz I.sz
 noex:=fun b o e a=>by
  rcases (hf b a).2.2.2.1 with z | z
  ·exact I.ok.noex b o e z
  ·exact absurd (Nat.lt_of_lt_of_le (Nat.lt_of_lt_of_le (Heap.lt_size e) I.ok.bsz) z) (Nat.lt_irrefl _)
 exfs:=fun b a i=>by
  rcases mem_cons.mp (I.stkSub b i) with z | z
  ·exact (hf b a).2.1 z
  ·exact (hf b a).2.2.1 z
 funs:=I.stack
 frf:=I.stkFree
def Jax (cs:List (Nat × Str)) (σ : St):St:=cs.map fun p=>(σ[p.1]?).join
variable {s4:Shared} {own:List Str} {cs:List (Nat × Str)}
theorem Inv.capsLoc {m:Str->Option Value} (I:Inv X pins σ H2 s2) (ok:(X.inc (own++cs.map (·.2)) scope cl fp s2 H2 C).Ok) (kept:∀ c v,(∃ x,cl.lookup x=some c)->s2.heap.IsCell c v->s4.heap.IsCell c v)
  (hcl:∀ x c,cl.lookup x=some c->X.env.cells.lookup x=some c) (hcs:∀ p∈cs,X.N[p.1]?=some p.2/\X.env.scope.names.lookup p.2=some .cell/\(relabel scope X.env).names.lookup p.2=some .cell) :
  ∀ (i:Nat) (x:Str) (v:V),(own++cs.map (·.2))[i]?=some x->(List.replicate own.length none++Jax cs σ)[i]?=some (some v)->∃ u,RelV v u/\Look (compEnvC scope cl C X.env) s4.heap m x u:=fun i x v w d=>by
  by_cases j:i<own.length
  ·rw [List.getElem?_append_left (by simpa using j),List.getElem?_replicate,if_pos j] at d;cases d
  ·have b:(Jax cs σ)[i-own.length]?=some (some v):=by rw [List.getElem?_append_right (by simp;ac_nf)] at d;simpa using d
   have a:(cs.map (·.2))[i-own.length]?=some x:=by
    rwa [List.getElem?_append_right ∅] at w
   unfold Jax at b;rw [List.getElem?_map] at a b;cases q:cs[i-own.length]? with
   | none=>rw [q] at a;cases a
   | some p=>
    rw [q] at a b;obtain rfl:p.2=x:=by simpa using a
    have e:(σ[p.1]?).join=some v:=by simpa using b
    have f : σ[p.1]?=some (some v):=by
     cases z : σ[p.1]? with
     | none=>rw [z] at e;cases e
     | some o=>rw [z] at e;exact congrArg some e
    obtain ⟨n,h,l⟩:=hcs p (List.mem_of_getElem? q);obtain ⟨y,_,t⟩:=I.loc;obtain ⟨u,r,s⟩:=t p.1 p.2 v n f (.inr (.inl h));refine ⟨u,r, .inr ⟨.inl l,?_⟩⟩;obtain ⟨c,g⟩:=ok.has p.2 (.inl l);refine ⟨c,g,?_⟩;rcases s with ⟨k,_⟩ | ⟨_,c',e',hcell⟩
    ·have k:X.env.scope.names.lookup p.2=some .local:=k;rw [h] at k;cases k
    ·rw [hcl _ _ g] at e';cases e';exact kept _ _ ⟨_,g⟩ hcell
theorem Inv.incStart {m:Str->Option Value} (I:Inv X pins σ H2 s2) (ok:(X.inc (own++cs.map (·.2)) scope cl fp s2 H2 C).Ok) (kept:∀ b o,s2.heap.get? b=some o->s4.heap.get? b=some o) (hos:s4.os=s2.os) (hg:s4.gens=s2.gens) (hm:s4.heap.Ns C m)
  (hC:s2.heap.objs.size<=C) (hcl:∀ x c,cl.lookup x=some c->X.env.cells.lookup x=some c)
  (hcs:∀ p∈cs,X.N[p.1]?=some p.2/\X.env.scope.names.lookup p.2=some .cell/\(relabel scope X.env).names.lookup p.2=some .cell) :
  Inv (X.inc (own++cs.map (·.2)) scope cl fp s2 H2 C) [] (List.replicate own.length none++Jax cs σ) H2 s4 where
 ok:=ok
 os:=hos
 bare:=by rw [hg];exact I.bare
 base:=Un.kept kept
 loc:=⟨m,hm,fun i x v f g _=>I.capsLoc (m:=m) ok (fun c v _ ⟨o,d,a⟩=>⟨o,kept _ _ d,a⟩) hcl hcs i x v f g⟩
 cell:=fun x c e=>by
  obtain ⟨v,o,d,a⟩:=I.cell x c (hcl x c e);exact ⟨v,o,kept _ _ d,a⟩
 free:=I.hok.fresh hC
 freeC:=fun x c e=>I.freeC x c (hcl x c e)
 pin:=fun p h=>by simp at h
 hok:=I.hok.kept kept
 len:=by simp [Jax]
theorem Inv.incAgain {s':Shared} {σ':St} {pl:List (Addr × Obj)} (I:Inv X pins σ H2 s2) (J:Inv (X.inc (own++cs.map (·.2)) scope cl fp s2 H2 C) pl σ' H' s')
  (hf:∀ b∈fp,FpOk X pins H2 b) (hcl:∀ x c,cl.lookup x=some c->X.env.cells.lookup x=some c) (hcs:∀ p∈cs,X.N[p.1]?=some p.2/\X.env.scope.names.lookup p.2=some .cell/\(relabel scope X.env).names.lookup p.2=some .cell) :
  Inv (X.inc (own++cs.map (·.2)) scope cl fp s2 H2 C) [] (List.replicate own.length none++Jax cs σ) H' s' where
 ok:=J.ok
 os:=J.os
 bare:=J.bare
 base:=J.base
 loc:=by
  obtain ⟨m,a,_⟩:=J.loc;refine ⟨m,a,fun i x v h j _=>I.capsLoc (m:=m) J.ok (fun c v ⟨x,d⟩ ⟨o,f,e⟩=>?_) hcl hcs i x v h j⟩;have g:c∉fp:=fun z=>(hf c z).2.2.2.2.1 x c (hcl x c d) rfl;by_cases a:c∈frs X.stack
  ·obtain ⟨l,z⟩:=J.base.slot c o f (I.freeC x c (hcl x c d)) a g;exact ⟨_,z,e⟩
  ·exact ⟨o,J.base.keep c o f (I.freeC x c (hcl x c d)) a g,e⟩
 cell:=J.cell
 free:=J.free
 freeC:=J.freeC
 pin:=fun p k=>by simp at k
 hok:=J.hok
 len:=by simp [Jax]
section
variable {prog:Program} {E:Value->Shared->Prop} {R:Result->Shared->Prop} {w:World} {s:Shared} {elt target iter:Expr} {pos:Pos} {acc:Value} {env:Env}
theorem JeB {it:Value} (J:Nat->Shared->Prop)
  (turn:∀ n s,J n s->wpAny (model prog w) A (pyNext it) (fun r s1=>match r with
   | none=>R (.ok .next) s1
   | some v=>wpAny (model prog w) A (letOwnedTupleGo target it v) (fun _ s2=>wpAny (model prog w) A (assign target env v) (fun _ s3=>wpAny (model prog w) A (eval elt env) (fun x s4=>
     wpAny (model prog w) A (call (.builtin "list.append") [acc,x]) (fun _ s5=>∃ m,m<n/\J m s5) (fun _ _=>False) s4) (fun _ _=>False) s3) (fun _ _=>False) s2) (fun _ _=>False) s1) (fun _ _=>False) s) (n:Nat) (h:J n s) :
  codeAny (model prog w) A (.compLoop (.ListComp elt [⟨target,iter,[],0⟩] scope pos) 0 it acc env) R s:=by
 refine codeAny_loop rfl J (fun n s d=>?_) n h;show wpAny _ A ((compTurn (.ListComp elt [⟨target,iter,[],0⟩] scope pos) 0 it acc env).onRaise (fun y=>do noteFrame y env;theTreesLotGoes y)) _ _ s
 (refine wpAny_noted ?_;rw [compTurn_list])
 refine wpAny_bind (wpAny_standAt (wpAny_bind (wpAny_mono (turn n s d) (fun r s1 a=>?_) fun _ _ z=>z.elim)));cases r with
 | none=>exact wpAny_pure a
 | some v=>
  refine wpAny_bind (wpAny_mono a (fun _ s2 c=>wpAny_bind (wpAny_mono c (fun _ s3 f=>?_) fun _ _ z=>z.elim)) fun _ _ z=>z.elim);refine wpAny_bind (wpAny_tests_nil ?_);exact wpAny_bind (wpAny_bind (wpAny_mono f (fun x s4 e=>(wpAny_bind (wpAny_mono e (fun _ s5 b=>(wpAny_pure (wpAny_pure ⟨rfl,b⟩))) fun _ _ z=>z.elim))) fun _ _ z=>z.elim))
end
def tComp (k:Nat) (cs:List (Nat × Str)) (wi:TI) (g:TG) (te:TE):TE:=fun σ H Q=>wi σ H fun J H1=>∃ W:Nat->Nat->List V->Hp->Prop,(∃ m,W 0 m [] H1)/\∀ i m ys H2,W i m ys H2->ys.length<=sizeLine /\
  ((J.stop i H2/\∀ p,H2 p=none->Q (.ref p) (upd H2 p (.lst ys))) \/
   (J.go i H2/\∀ x H3,J.yld i H2 x H3->g x (List.replicate k none++Jax cs σ) H3 fun σ4 H4=>te σ4 H4 fun y H5=>∃ m',m'<m/\W (i+1) m' (ys++[y]) H5))
theorem lstP {us:List Value} {v:Value}:(us.toArray.push v)=(us++[v]).toArray:=by simp
variable {iter elt:Expr} {pos:Pos} {wi:TI} {te:TE}
theorem Jcn {g:TG} (hc:X.calm=true) (hi:PI X tg iter wi)
  (hg:∀ fp s2 H2 C,PG (X.inc (own++cs.map (·.2)) scope cl fp s2 H2 C) tg g) (he:∀ fp s2 H2 C,PE (X.inc (own++cs.map (·.2)) scope cl fp s2 H2 C) elt te)
  (hclos:closureFor scope X.env=pure cl) (hcell:∀ y∈scope.names,y.2≠.cell) (hkind:scope.kind=.function) (hnames:∀ y∈scope.names,y.2=.local->scope.names.lookup y.1=some .local)
  (hcl:∀ x c,cl.lookup x=some c->X.env.cells.lookup x=some c) (hhas:∀ y,((relabel scope X.env).names.lookup y=some .cell\/(relabel scope X.env).names.lookup y=some .free)->∃ c,cl.lookup y=some c)
  (hcs:∀ p∈cs,X.N[p.1]?=some p.2/\X.env.scope.names.lookup p.2=some .cell/\(relabel scope X.env).names.lookup p.2=some .cell)
  (hs:∀ x,foldedSetIterable iter X.env x=pure x:=by intro _;rfl):PE X (.ListComp elt [⟨tg,iter,[],0⟩] scope pos) (tComp own.length cs wi g te):=by
 intro B s σ H Q I h;rw [eval_ListComp];refine wpAny_comprehension_free (use:=none) rfl hs hclos hkind hnames (thn (hi B s σ H _ I h) fun v s1 h1=>thn h1 fun b7 s2 h2=>?_);obtain ⟨it,fp,tn,J,H2,rfl,I2,T,Y,Z,W,⟨m0,w0⟩,a1⟩:=h2;have K:∀ b∈fp,b<s2.heap.objs.size:=fun b d=>by
  obtain ⟨o,e,_⟩:=T.obj _ _ Y b d;exact Heap.lt_size e
 refine wpAny_newObj_type (wpAny_newFunctionEnv hcell (by intro y hy;simp at hy) (fun h4 m j=>?_) hkind);dsimp only at m j ⊢;generalize hH3:s2.heap.push { cls:=.type "list",dict:=none,data:=.seq ([]:List Value).toArray }=H3 at m j ⊢;have a3:H3.objs.size=s2.heap.objs.size+1:=by rw [<- hH3,Heap.size_push]
 have hC:s2.heap.objs.size<=H3.objs.size:=by ac_nf
 have t:s2.heap.objs.size≠H3.objs.size:=by ac_nf
 have S:∀ b o,s2.heap.get? b=some o->h4.get? b=some o:=fun b o e=>j.extBut b o (by have:=Heap.lt_size e;exact Nat.ne_of_lt (Nat.lt_of_lt_of_le this hC)) (Heap.get?_push_of_some _ (hH3 ▸ Heap.get?_push_of_some _ e));have a6:h4.get? s2.heap.objs.size=some { cls:=.type "list",data:=.seq ([]:List Value).toArray }:=j.extBut _ _ t (Heap.get?_push_of_some _ (hH3 ▸ Heap.get?_push_size _ rfl));obtain ⟨D,f⟩:∃ D,D=s2.heap.objs.size:=⟨_,rfl⟩;obtain ⟨C,b4⟩:∃ C,C=H3.objs.size:=⟨_,rfl⟩;rw [<- b4] at a3 m j hC t ⊢;rw [<- f] at K a3 hC t a6 ⊢;have F:=I2.incOk (N':=own++cs.map (·.2)) (C:=C) Z (fun b d=>by rw [<- f];exact K b d) hkind (by rw [<- f];exact hC) hcl hhas;have I4:Inv (X.inc (own++cs.map (·.2)) scope cl fp s2 H2 C) [] (List.replicate own.length none++Jax cs σ) H2 { s2 with heap:=h4,toks:=s2.toks+([]:List (Str × Value)).length } :=
  I2.incStart (s4:={ s2 with heap:=h4,toks:=s2.toks+([]:List (Str × Value)).length }) F S rfl rfl m (by rw [<- f];exact hC) hcl hcs
 have Dfree:H2 D=none:=I2.hok.fresh (Nat.le_of_eq f.symm);have G:∀ b o,s2.heap.get? b=some o->b≠D:=fun b o e=>by
  rw [f];exact Nat.ne_of_lt (Heap.lt_size e)
 have b2:∀ b o,s2.heap.get? b=some o->b≠C:=fun b o e=>Nat.ne_of_lt (Nat.lt_of_lt_of_le (by rw [f];exact Heap.lt_size e) hC);have Dfs:D∉frs X.stack:=fun hm=>by
  obtain ⟨_,o,e,_⟩:=I2.stack.mem hm;exact G _ _ e rfl
 have L:∀ {σ':St} {H':Hp} {s':Shared} {us:List Value} {n:Nat} {pl:List (Addr × Obj)},Inv (X.inc (own++cs.map (·.2)) scope cl fp s2 H2 C) pl σ' H' s'->s'.heap.get? D=some { cls:=.type "list",data:=.seq us.toArray n }->H' D=none ->
   Inv (X.inc (own++cs.map (·.2)) scope cl fp s2 H2 C) [(D,{ cls:=.type "list",data:=.seq us.toArray n })] σ' H' s':=fun {σ' H' s' us n pl} J' e n'=>J'.pins_of fun p V=>by
  rcases mem_singleton.mp V with rfl
  exact ⟨e,n',t,Dfs,fun v z=>by cases z⟩
 have E:∀ {H':Hp} {o:Obj},(∀ b∈fp,H' b=none)->∀ b∈fp,FpOk (X.inc (own++cs.map (·.2)) scope cl fp s2 H2 C) [(D,o)] H' b:=fun {H' o} hn b d=>by
  refine ⟨hn b d,(F.exf b d).1,F.exfs b d, .inl d,(F.exf b d).2,fun p V=>?_⟩;rcases mem_singleton.mp V with rfl
  exact Nat.ne_of_gt (K b d)
 have P:∀ s3:Shared,s3={ s2 with heap:=h4,toks:=s2.toks+([]:List (Str × Value)).length } ->
   codeAny (model X.prog X.w) X.A (.compLoop (.ListComp elt [⟨tg,iter,[],0⟩] scope pos) 0 (.ref it) (.ref D) (compEnvC scope cl C X.env)) (compPost (model X.prog X.w) X.A X.xe none (EP X B σ Q) (.ref D) C) s3:=by
  rintro s3 rfl;refine JeB (fun n s'=>∃ i ys us nn H',Inv (X.inc (own++cs.map (·.2)) scope cl fp s2 H2 C) [(D,{ cls:=.type "list",data:=.seq us.toArray nn })] (List.replicate own.length none++Jax cs σ) H' s'/\tn i s'.heap/\(∀ b∈fp,H' b=none)/\Vals ys us/\W i n ys H') ?_ m0
   ⟨0,[],[],0,H2,L (us:=[]) (n:=0) I4 a6 Dfree,T.keep _ _ _ Y fun b d o e=>S b o e,fun b d=>(Z b d).1, .nil,w0⟩
  rintro n s5 ⟨i,ys,us,nn,R,I5,a2,a4,vy,w5⟩;obtain ⟨hz,⟨a7,qn⟩ | ⟨go,a5⟩⟩:=a1 i n ys R w5
  ·refine wpAny_mono (T.done (X.inc (own++cs.map (·.2)) scope cl fp s2 H2 C) rfl rfl rfl hc i _ s5 _ R (fun _ _=>False) I5 (E a4) a2 a7) (fun r s6 z=>?_) fun _ _ z=>z;obtain ⟨rfl,I6⟩:=z;obtain ⟨m6,b1,_⟩:=id I6.loc;refine ⟨m6,b1,fun h7 b0=>?_⟩;obtain ⟨pD,pN,_,_,_⟩:=I6.pin (D,{ cls:=.type "list",data:=.seq us.toArray nn }) (by simp);have k:∀ b,b≠C->h7.get? b=s6.heap.get? b:=fun b d=>b0.2 b d;have U:=b2;have u7:Un (frs X.stack) fp H2 R s2.heap h7:=⟨fun b o e n1 n2 n3=>(k b (U b o e)).trans (I6.base.keep b o e n1 n2 n3),fun b o e n1 n2 n3=>by
     obtain ⟨sl,z⟩:=I6.base.slot b o e n1 n2 n3;exact ⟨sl,(k b (U b o e)).trans z⟩,I6.base.free,fun b o e n1=>by
     obtain ⟨o',z⟩:=I6.base.there b o e n1;exact ⟨o',(k b (U b o e)).trans z⟩,I6.base.tups,I6.base.frzs,I6.base.tbls⟩
   have Cfree:R C=none:=I6.free;have a8:HOk X.prog X.w R h7:=fun a o e=>by
    refine (I6.hok a o e).stay (fun c v b3 q=>(k c ?_).trans q) (fun _ q=>q) fun _ _ q=>q;rintro rfl;rcases b3 with z | z
    ·rw [<- z] at e;rw [Cfree] at e;cases e
    ·rw [Cfree] at z;cases z
   have I7:Inv X B σ R { s6 with heap:=h7 }:=I2.call' (s':={ s6 with heap:=h7 }) I6.os u7 a8 I6.bare fun b d=>⟨(Z b d).2.2.2.1,(Z b d).2.1,(Z b d).2.2.2.2.1,(Z b d).2.2.2.2.2⟩;have I8:=I7.track (a:=D) (o:=.lst ys) pN (Heap.get?_none_of_le (by rw [f];exact I2.sz)) (by rw [f];exact Nat.ne_of_gt I2.lt) (fun x c e z=>by
     obtain ⟨v,o,ho,_⟩:=I2.cell x c e;exact G _ _ ho z) (fun p V z=>G _ _ (I2.pin p V).1 z) ⟨hz,us,nn,vy,(k D t).trans pD⟩
   exact ⟨.ref D,_,I8,rfl,qn D pN⟩
  ·refine wpAny_mono (T.item (X.inc (own++cs.map (·.2)) scope cl fp s2 H2 C) rfl rfl rfl hc i _ s5 _ R (fun _ _=>False) I5 (E a4) a2 go) (fun r s6 z=>?_) fun _ _ z=>z;obtain ⟨u,rfl,z⟩:=z;refine wpAny_mono z (fun _ s7 ζ=>?_) fun _ _ z=>z;obtain ⟨x,H7,I7,r7,y7,a0,b5⟩:=ζ;have I7':=I7.pinned (E b5) (T.obj _ _ a0);refine wpAny_mono (hg fp s2 H2 C _ s7 _ H7 x u _ I7' r7 (a5 x H7 y7)) (fun _ s8 ⟨σ8,H8,I8,q8⟩=>?_) fun _ _ z=>z;refine wpAny_mono (he fp s2 H2 C _ s8 σ8 H8 _ I8 q8) (fun uy s9 ζ=>?_) fun _ _ z=>z;obtain ⟨y,H9,I9,r9,m',a9,w9⟩:=ζ;obtain ⟨pD,pN,_,_,_⟩:=I9.pin (D,{ cls:=.type "list",data:=.seq us.toArray nn }) (by simp);refine append_at (its:=us.toArray) (n:=nn) pD (fun b6 M O=>?_) (by rw [size_toArray, <- vy.length];exact hz);have l:∀ b∈fp, ∀ o,s7.heap.get? b=some o->s9.heap.get? b=some o/\H9 b=none:=fun b d o e=>by
    have z:=I9.pin (b,o) (mem_append_right _ (mem_append_right _ (JbQ d e)));exact ⟨z.1,z.2.1⟩
   have I9':Inv (X.inc (own++cs.map (·.2)) scope cl fp s2 H2 C) [] (List.replicate own.length none++Jax cs σ) H9 s9:=I2.incAgain I9 Z hcl hcs;have I10:Inv (X.inc (own++cs.map (·.2)) scope cl fp s2 H2 C) [] (List.replicate own.length none++Jax cs σ) H9 { s9 with heap:=b6 }:=I9'.turned (it:=D) (t':=s9.toks) (fun b o d e=>(M.2 b d).trans e) pN t (.inr (Nat.le_of_eq f.symm)) (fun x c e z=>by
     obtain ⟨v,o,ho,_⟩:=I2.cell x c (hcl x c e);exact G _ _ ho z) fun p V=>by simp at V
   rw [lstP] at O;refine ⟨m',a9,i+1,ys++[y],us++[uy],nn+1,H9,L I10 O pN,T.keep _ _ _ a0 fun b d o e=>?_,fun b d=>?_,vy.append (.cons r9 .nil),w9⟩
   ·exact (M.2 b (Nat.ne_of_lt (K b d))).trans (l b d o e).1
   ·obtain ⟨o,e,_⟩:=T.obj _ _ a0 b d;exact (l b d o e).2
 exact codeAny_compStart_list (P _ rfl) (T.self _ 0 _ _ _ (T.keep _ _ _ Y fun b d o e=>S b o e) (P _ rfl))
def rInU (K:W.Frag):R2:=fun x y H Q=>match x,y with
 | .str i, .str j=>Q (.bl (!(Builtin.Str.occurrences j i 0 j.length 1).isEmpty)) H
 | x,y=>rIn K false x y H Q
theorem Jig:OpR X (compareOp .In) (rInU X.K):=fun a s σ H x y v u Q I c b q=>by
 unfold rInU at q;split at q
 ·exact Jii a s σ H _ _ v u Q I c b ⟨_,_,rfl,rfl,q⟩
 ·exact Jih a s σ H _ _ v u Q I c b q
theorem JlW {K:W.Frag} (hK:X.K=K):OpR X (compareOp .In) (rInU K):=hK ▸ Jig
theorem ix_UK {K:W.Frag} (hK:X.K=K):IxR X (rIxU K):=hK ▸ ix_U
theorem y60y {K:W.Frag} {i j:Str}:rInU K (.str i) (.str j) H Q=Q (.bl (!(Builtin.Str.occurrences j i 0 j.length 1).isEmpty)) H:=rfl
theorem all_range:∀ bs:List Bool,(List.range bs.length).all (fun i=>bs.getD i false)=bs.all id:=fun bs=>by
 rw [Bool.eq_iff_iff];simp only [List.all_eq_true,List.mem_range,id];constructor
 ·intro h x b;obtain ⟨i,a,rfl⟩:=List.mem_iff_getElem.mp b;have:=h i a;simpa [List.getD_eq_getElem?_getD,a] using this
 ·intro h i a;have:=h bs[i] (List.getElem_mem a);simpa [List.getD_eq_getElem?_getD,a] using this
def rAll (K:W.Frag):List V->Hp->VK->Prop:=fun xs H Q=>∃ (p:Addr) (bs:List Bool),xs=[.ref p]/\SqL K H p (bs.map V.bl)/\Q (.bl (bs.all id)) H
theorem JhE (hc:X.calm=true):CallR X (.builtin "all") (rAll X.K):=fun m s σ H N E Q I r q=>by
 obtain ⟨p,c,rfl,w,q⟩:=q;obtain ⟨a,g,h,L⟩:=I.list w;obtain ⟨u,rfl,y⟩:=vals1 r;cases (show u=Value.ref p from y);refine call_all_walk (wpAny_pyIter_list h.isList ?_);have f:p<s.heap.objs.size:=by
  obtain ⟨_,e,_⟩:=h.isList;exact Heap.lt_size e
 refine ⟨s.heap.objs.size,_,_,a.toArray.size,_,_,fun i=>c.getD i false,rfl,Walks.list (by show X.A.handled=none;exact I.ok.hd hc) s.heap.objs.size p (Nat.ne_of_lt f) a.toArray,⟨⟨_,Heap.get?_push_size _ rfl,rfl,rfl⟩,h.isList.push _⟩,?_,?_⟩
 ·intro i v F Q' E' C B;have d:a[i]?=some v:=by simpa using C
  have j:i<c.length:=by
   obtain ⟨M,_⟩:=List.getElem?_eq_some_iff.mp d;have l:=g.length;rw [length_map] at l;ac_nf
  obtain ⟨J,n,D⟩:=g.get (i:=i) (x:=.bl c[i]) (by simp [j]);rw [d] at n;cases n;cases (show v=Value.bool c[i] from D);refine wpAny_truthy_bool ?_;simpa [List.getD_eq_getElem?_getD,j] using B
 ·intro G o k;have l:=g.length;rw [length_map] at l;have t:(List.range a.toArray.size).all (fun i=>c.getD i false)=c.all id:=by rw [size_toArray, <- l];exact all_range c
  rw [t];exact ⟨.bl _,H,I.kept (t':=o) fun b z e=>k b z (by have:=Heap.lt_size e;simp;exact Nat.ne_of_lt this) (Heap.get?_push_of_some _ e),rfl,q⟩
theorem hcl0:∀ (x:Str) (c:Addr),([]:List (Str × Addr)).lookup x=some c->X.env.cells.lookup x=some c:=fun _ _ h=>by simp at h
theorem hcs0:∀ p∈([]:List (Nat × Str)),X.N[p.1]?=some p.2/\X.env.scope.names.lookup p.2=some .cell/\(relabel scope X.env).names.lookup p.2=some .cell:=fun _ h=>by simp at h
theorem hhas0 (h:scope.names.all (fun p=>p.2 != .free&&p.2 != .cell)=true):∀ y,((relabel scope X.env).names.lookup y=some .cell\/(relabel scope X.env).names.lookup y=some .free)->∃ c,([]:List (Str × Addr)).lookup y=some c:=fun y a=>by
 exfalso;have g:=List.all_eq_true.mp h;have f:∀ k,(relabel scope X.env).names.lookup y=some k->k≠.cell/\k≠.free:=fun k e=>by
  have m:=PySem.mem_of_lookup e;obtain ⟨⟨n,d⟩,j,i⟩:=mem_map.mp (show (y,k)∈scope.names.map _ from m);have z:=g _ j;simp only [bne_iff_ne,ne_eq,Bool.and_eq_true] at z;have b:(if (d == NameKind.free&&X.env.scope.kind == .function&&X.env.kindOf n == some .cell)=true then (n,NameKind.cell) else (n,d))=(y,k):=i;split at b
  ·rename_i c;rw [Bool.and_eq_true,Bool.and_eq_true] at c;exact absurd (beq_iff_eq.mp c.1.1) z.1
  ·cases b;exact ⟨z.2,z.1⟩
 rcases a with a | a
 ·exact (f _ a).1 rfl
 ·exact (f _ a).2 rfl
mutual
def szD:D->Prop
 | .int i=>Mth.Sz 4000 i
 | .str s=>s.length<=1000
 | .tup xs=>szL xs
 | .lst xs=>szL xs
 | _=>True
def szL:List D->Prop
 | []=>True
 | x::xs=>szD x/\szL xs
end
def lowB (c:Nat):Bool:=decide (97<=c/\c<=122)
def nameS (s:Str):Bool:=(decide (1<=s.length)&&decide (s.length<=8))&&s.cps.toList.all lowB
def nameB:D->Bool
 | .str s=>nameS s
 | _=>false
def Jmi:D->Bool
 | .int _=>true
 | _=>false
def fracB:D->Bool
 | .tup [.int a, .int b]=>decide (1<=b)&&decide (Mth.g a b=1)
 | _=>false
def JjP:D->Bool
 | .non=>true
 | d=>fracB d
def JjX (d e:D):Bool:=nameB d&&nameB e&&!eqD d e
def lessD:D->D->Bool
 | .tup [.int a, .int b], .tup [.int c, .int d]=>decide (a*d<c*b)
 | _,_=>false
def Jkq (l g:D):Bool:=JjP l&&JjP g&&!lessD g l
def tieB:D->Bool
 | .tup [n,s,e,l,g]=>nameB n&&JjX s e&&Jkq l g
 | _=>false
theorem Jhi:(Str.ofString "abcdefghijklmnopqrstuvwxyz").cps.toList=List.range' 97 26:=by decide
theorem Jhg (c:Nat):(!(Builtin.Str.occurrences (Str.ofString "abcdefghijklmnopqrstuvwxyz") ⟨#[c]⟩ 0 (Str.ofString "abcdefghijklmnopqrstuvwxyz").length 1).isEmpty)=lowB c:=by
 rw [StrLaws.found_one,Jhi];unfold lowB
 congr 1
 rw [List.mem_range'];refine propext ⟨fun ⟨i,a,e⟩=>by ac_nf,fun h=>⟨c-97,by ac_nf,by ac_nf⟩⟩
structure KCal (P:Program) (w:World) (K:W.Frag) (mg:Str->Option Value) (base:Heap) (k:Nat) (x:Str) (C:Addr) (ps:List Str) (sp:Sp):Prop where
 ex:∃ (f:Addr) (fd:FuncData),FnOk P w K mg base (CX1 P w) k f fd ps sp/\mg x=some (.ref C)/\Mk K C f/\Binds K fd ps []
structure MCal (P:Program) (w:World) (K:W.Frag) (mg:Str->Option Value) (base:Heap) (k:Nat) (m:Str) (Cs:Addr->Prop) (ps:List Str) (sp:Sp):Prop where
 ex:∃ (f:Addr) (fd:FuncData),FnOk P w K mg base (CX1 P w) k f fd ps sp/\(∀ C,Cs C->Cls K C/\Meth K C m f)/\W.keepIn K (.ref f)=true/\Binds K fd ps []
def JiM (Cs:Addr->Prop) (m:Str) (sp:Sp) (E:XK) (ta:TE) (t:TA):TE:=fun σ H Q=>ta σ H fun x H1=>∃ a C dx fs,x=.ref a/\H1 a=some (.ins C dx fs)/\Cs C/\fs.lookup m=none/\t σ H1 fun vs H2=>sp (x::vs) H2 Q E
section
variable {k':Nat} {mn:Str} {Cs:Addr->Prop} {ps:List Str} {sp:Sp} {E:XK} {p apos:Pos} {e o:Expr} {es:List Expr} {ta:TE} {k:Nat} {t:TA}
theorem KCal.ev (G:KCal X.prog X.w X.K X.mg X.base k x C ps sp) (hr:Room k' X.A) (hk:k+1<=k') (hg:Gl X x) (hx:JbS (CX1 X.prog X.w) X E) (ha:PA X (e::es) t)
  (hdb:(x == ("__debug__" : Str))=false:=by decide) (he:starEach (e::es) X.env=(false,eval e X.env)::starEach es X.env:=by rfl) (hpl:(backTo pos (starEach es X.env)).any (·.1)=false:=by rfl) :
  PE X (.Call (.Name x p) (e::es) [] pos) (tMake C sp [] E t):=by
 obtain ⟨f,c,F,b,M,a⟩:=G.ex;exact Jk4 M F (hr.mono hk) hg b a .nil hx ha hdb he hpl
variable {pl:Sem Bool}
theorem MCal.m (G:MCal X.prog X.w X.K X.mg X.base k mn Cs ps sp) (hr:Room k' X.A) (hk:k<=k') (hx:JbS (CX1 X.prog X.w) X E) (ho:PE X o ta) (ha:PA X (e::es) t)
  (hst:starEach (e::es) X.env=(false,eval e X.env)::starEach es X.env:=by rfl) (hpl:(backTo pos (starEach es X.env)).any (·.1)=false:=by rfl)
  (ht:eval (.Call (.Attribute o mn apos) (e::es) [] pos) X.env=(do
   let ov <- eval o X.env
   standAt apos.atName
   let (f,first) <- holding [ov] (getMethod ov mn pl)
   callWith pos f first (backTo pos (starEach (e::es) X.env)) (backToKw pos (keywordEach [] X.env))):=by rfl) :
  PE X (.Call (.Attribute o mn apos) (e::es) [] pos) (JiM Cs mn sp E ta t):=by
 obtain ⟨f,B,F,c,v,y⟩:=G.ex;intro b s σ H Q I h;refine W.methodCall_KW (pl:=pl) (thn (ho b s σ H _ I h) fun u z ζ=>?_) ht;obtain ⟨x,j,I1,n,a,C,M,L,p,i,d,l,q⟩:=ζ;subst p;obtain rfl:u=Value.ref a:=n;refine JeF I1 i (c C d).1 (c C d).2 l ?_;refine W.callWith_K (first:=[.ref a]) (h₀:=X.base) I.ok.mod.kin v (thn (ha pos b z σ j _ I1 q) fun us D ζ=>?_) hst hpl;obtain ⟨vs,J,I2,r,g⟩:=ζ;refine ⟨I2.kIn,?_⟩;exact Jiy (us:=.ref a::us) (vs:=.ref a::vs) F (hr.mono hk) y .nil hx I2 (.cons rfl r) (by simpa using g)
theorem MCal.m0 (G:MCal X.prog X.w X.K X.mg X.base k mn Cs ps sp) (hr:Room k' X.A) (hk:k<=k') (hx:JbS (CX1 X.prog X.w) X E) (ho:PE X o ta)
  (ht:eval (.Call (.Attribute o mn apos) [] [] pos) X.env=(do
   let ov <- eval o X.env
   standAt apos.atName
   let (f,first) <- holding [ov] (getMethod ov mn pl)
   callWith pos f first (backTo pos (starEach [] X.env)) (backToKw pos (keywordEach [] X.env))):=by rfl) :
  PE X (.Call (.Attribute o mn apos) [] [] pos) (JiM Cs mn sp E ta tNil):=by
 obtain ⟨f,p,F,c,m,n⟩:=G.ex;intro b s σ H Q I h;refine W.methodCall_KW (pl:=pl) (thn (ho b s σ H _ I h) fun u v ζ=>?_) ht;obtain ⟨x,g,I1,i,a,C,t,r,j,e,d,l,q⟩:=ζ;subst j;obtain rfl:u=Value.ref a:=i;refine JeF I1 e (c C d).1 (c C d).2 l ?_;exact W.callWith_K0 (first:=[.ref a]) I1.kIn m (Jiy (us:=[.ref a]) (vs:=[.ref a]) F (hr.mono hk) n .nil hx I1 (.cons rfl .nil) (show sp ([.ref a]++[]) g Q E from q))
def rMulS:R2:=fun x y H Q=>match x,y with
 | .str z, .int n=>0<n/\n<1000/\z.length<=1000/\∀ z':Str,z'.cps.toList=(List.replicate n.toNat z.cps.toList).flatten->Q (.str z') H
 | x,y=>rMulU x y H Q
theorem JeQ:∀ (l:List (Array Nat)) (acc:Array Nat),(l.foldl (· ++ ·) acc).toList=acc.toList++(l.map (·.toList)).flatten
 | [],acc=>by simp
 | x::l,acc=>by
  rw [List.foldl_cons,JeQ l];simp
theorem Jij:OpR X (binaryOp .Mult) rMulS:=fun a s σ H x y v u Q I b d q=>by
 unfold rMulS at q;split at q
 ·rename_i z n;obtain ⟨i,k,g,q⟩:=q;obtain ⟨t,rfl⟩:=b;obtain ⟨j,rfl⟩:=d;have h:z.cps.size=z.length:=rfl;have f:z.length*n.toNat<=1000*1000:=Nat.mul_le_mul g ∅;refine PySem.P.mul_str (by simp;ac_nf) (fun _ _=>?_) (fun _ _=>?_) ?_
  ·have : (1000:Int)<=(2 ^ 63-1)/n:=by
    rw [Int.le_ediv_iff_mul_le i];ac_nf
   ac_nf
  ·unfold Builtin.Str.tooLong;simp;have : (1000*1000:Nat)<=sizeLine:=by decide
   ac_nf
  ·rw [if_neg ∅];split
   ·rename_i c;refine ⟨.str z,H,I,⟨_,rfl⟩,q z ?_⟩;rcases Bool.or_eq_true _ _ |>.mp c with c | c
    ·obtain rfl:n=1:=by simpa using c
     simp
    ·have e:z.cps.toList=[]:=by
      have : z.length=0:=by simpa using c
      exact List.eq_nil_of_length_eq_zero (by rw [Array.length_toList];exact this)
     rw [e];simp
   ·refine ⟨?_, .str _,H,I.tok _,⟨_,rfl⟩,q _ ?_⟩
    ·show (Array.size _)<=sizeLine;rw [<- Array.length_toList,JeQ];simp;have : (1000*1000:Nat)<=sizeLine:=by decide
     rw [Nat.mul_comm,h];ac_nf
    ·rw [JeQ];simp
 ·exact JkW a s σ H _ _ v u Q I b d q
def rIsN:R2:=fun x y H Q=>y=.non/\Q (.bl (decide (x=.non))) H
def rNotN:R2:=fun x y H Q=>y=.non/\Q (.bl (!decide (x=.non))) H
theorem Jfd:OpR X (compareOp .Is) rIsN:=JlX
theorem JdN:OpR X (compareOp .IsNot) rNotN:=JkY
def Jl7 (K:W.Frag):List V->Hp->VK->Prop:=fun xs H Q=>∃ p ys,xs=[.ref p]/\(SqL K H p ys\/SqT K H p ys)/\∀ l,H l=none->Q (.ref l) (upd H l (.lst ys))
theorem Jhc:CallR X (.type "list") (Jl7 X.K):=JfC
end
section
variable {K:W.Frag} {x:V}
theorem y63y:rIsN x .non H Q=Q (.bl (decide (x=.non))) H:=by simp [rIsN]
theorem y7ay:rNotN x .non H Q=Q (.bl (!decide (x=.non))) H:=by simp [rNotN]
variable {sp:Sp} {E:XK}
theorem y69y {dvs:List V} {t:TA}:tMake C sp dvs E t σ H Q=t σ H fun vs H1=>∀ x dx,H1 x=none->H1 dx=none->dx≠x->sp (.ref x::(vs++dvs)) (upd (upd H1 dx (.own x)) x (.ins C dx [])) (fun v H2=>v=.non/\Q (.ref x) H2) E:=rfl
variable {ta:TE}
theorem y6by {Cs:Addr->Prop} {mn:Str} {t:TA}:JiM Cs mn sp E ta t σ H Q=ta σ H fun x H1=>∃ a C dx fs,x=.ref a/\H1 a=some (.ins C dx fs)/\Cs C/\fs.lookup mn=none/\t σ H1 fun vs H2=>sp (x::vs) H2 Q E:=rfl
theorem y4fy {f:Str}:tFld K ta f σ H Q=ta σ H fun x H1=>∃ a C dx fs v,x=.ref a/\H1 a=some (.ins C dx fs)/\Cls K C/\JaV K C f/\fs.lookup f=some v/\Q v H1:=rfl
variable {tv:TE} {En:Ends}
theorem y89y {f:Str}:sFld K ta tv f En σ H=tv σ H fun y H1=>ta σ H1 fun x H2=>∃ a C dx fs,x=.ref a/\H2 a=some (.ins C dx fs)/\Cls K C/\JaV K C f/\fs.length<1000/\En.nx σ (upd H2 a (.ins C dx (putF f y fs))):=rfl
theorem y2dy {T:String} {r:V->List V->Hp->VK->Prop} {to:TE} {t:TA}:tBM K T r to t σ H Q=to σ H fun x H1=>tyV K T x H1/\t σ H1 fun vs H2=>r x vs H2 Q:=rfl
variable {R:St->Hp->Prop}
theorem y5ay {g:TG} {gs:TGs}:gCons g gs (v::r) σ H R=g v σ H fun σ' H'=>gs r σ' H' R:=by
 unfold gCons;refine propext ⟨fun ⟨a,b,e,h⟩=>?_,fun h=>⟨v,r,rfl,h⟩⟩;cases e;exact h
theorem y5cy:gNil [] σ H R=R σ H:=by unfold gNil;simp
def nonD:D->Bool
 | .non=>true
 | _=>false
theorem putE {l:Addr} (e:upd H l o=H'):H' l=some o:=by rw [<- e,Jaj]
end
section
variable {En:Ends} {ta tb tc:TE} {td:TE} {K:W.Frag}
end
def Jbm (cells:List (Str × Addr)):List (Str × NameKind)->List (Str × Addr)->List (Str × Addr)
 | [],acc=>acc
 | (n,k)::r,acc=>Jbm cells r (if k == .free then (n,(cells.lookup n).getD 0)::acc else acc)
theorem Jf6 {env:Env}:∀ (names:List (Str × NameKind)) (acc:List (Str × Addr)),(∀ p∈names,p.2=.free->∃ c,env.cells.lookup p.1=some c) ->
  (forIn names acc fun (p:Str × NameKind) cs=>(if p.2 == .free then do let c <- cellOf env p.1;pure (ForInStep.yield ((p.1,c)::cs)) else pure (ForInStep.yield cs):Sem (ForInStep (List (Str × Addr)))))=(pure (Jbm env.cells names acc):Sem (List (Str × Addr)))
 | [],acc,_=>by simp [Jbm]
 | (n,k)::r,acc,h=>by
  rw [List.forIn_cons];by_cases c:(k == .free)=true
  ·obtain ⟨a,ha⟩:=h (n,k) mem_cons_self (beq_iff_eq.mp c);have e:cellOf env n=pure a:=by unfold cellOf;rw [ha]
   simp only [c,if_true,e,pure_bind];have:=Jf6 (env:=env) r ((n,a)::acc) fun p hp=>h p (mem_cons_of_mem _ hp);simp only [Jbm,c,if_true,ha,Option.getD_some];exact this
  ·have c':(k == .free)=false:=by simpa using c
   simp only [c',Bool.false_eq_true,if_false,pure_bind];have:=Jf6 (env:=env) r acc fun p hp=>h p (mem_cons_of_mem _ hp);simp only [Jbm,c',Bool.false_eq_true,if_false];exact this
variable {env:Env}
theorem JeR (h:∀ p∈scope.names,p.2=.free->∃ c,env.cells.lookup p.1=some c):closureFor scope env=pure (Jbm env.cells scope.names []):=by
 have:=Jf6 (env:=env) scope.names [] h;unfold closureFor;simp only [pure_bind];refine Eq.trans ?_ (congrArg (fun m:Sem (List (Str × Addr))=>m >>= pure) this |>.trans (by simp));first | rfl | (congr 1)
variable {cells:List (Str × Addr)}
theorem Jcf:∀ (names:List (Str × NameKind)) (acc:List (Str × Addr)),(∀ x c,acc.lookup x=some c->cells.lookup x=some c)->(∀ p∈names,p.2=.free->∃ c,cells.lookup p.1=some c) ->
  ∀ x c,(Jbm cells names acc).lookup x=some c->cells.lookup x=some c
 | [],acc,ha,_,x,c,h=>ha x c h
 | (n,k)::r,acc,ha,hf,x,c,h=>by
  simp only [Jbm] at h;refine Jcf r _ ?_ (fun p hp=>hf p (mem_cons_of_mem _ hp)) x c h;intro y d hy;by_cases f:(k == .free)=true
  ·rw [if_pos f] at hy;obtain ⟨a,e⟩:=hf (n,k) mem_cons_self (beq_iff_eq.mp f);rw [List.lookup_cons] at hy;by_cases q:(y == n)=true
   ·rw [q] at hy;have q':y=n:=beq_iff_eq.mp q;subst q';have e':cells.lookup y=some a:=e;rw [e'] at hy ⊢;simpa using hy
   ·have q':(y == n)=false:=by simpa using q
    rw [q'] at hy;exact ha y d hy
  ·rw [if_neg f] at hy;exact ha y d hy
theorem Jce:∀ (names:List (Str × NameKind)) (acc:List (Str × Addr)) (y:Str),((∃ c,acc.lookup y=some c)\/(y,NameKind.free)∈names)->∃ c,(Jbm cells names acc).lookup y=some c
 | [],acc,y,h=>by
  rcases h with h | h
  ·exact h
  ·simp at h
 | (n,k)::r,acc,y,h=>by
  simp only [Jbm];refine Jce r _ y ?_;rcases h with ⟨c,h⟩ | h
  ·refine .inl ?_;split
   ·rw [List.lookup_cons];cases (y == n)
    ·exact ⟨c,h⟩
    ·exact ⟨_,rfl⟩
   ·exact ⟨c,h⟩
  ·rcases mem_cons.mp h with e | h
   ·cases e;refine .inl ?_;rw [if_pos ⋯,List.lookup_cons];simp
   ·exact .inr h
theorem Jjr {g:TG} (hc:X.calm=true) (hi:PI X tg iter wi)
  (hg:∀ fp s2 H2 C,PG (X.inc (own++cs.map (·.2)) scope (Jbm X.env.cells scope.names []) fp s2 H2 C) tg g) (he:∀ fp s2 H2 C,PE (X.inc (own++cs.map (·.2)) scope (Jbm X.env.cells scope.names []) fp s2 H2 C) elt te)
  (hfree:∀ p∈scope.names,p.2=.free->X.env.scope.names.lookup p.1=some .cell) (hcell:∀ y∈scope.names,y.2≠.cell) (hkind:scope.kind=.function) (hnames:∀ y∈scope.names,y.2=.local->scope.names.lookup y.1=some .local)
  (hcs:∀ p∈cs,X.N[p.1]?=some p.2/\X.env.scope.names.lookup p.2=some .cell/\(relabel scope X.env).names.lookup p.2=some .cell)
  (hs:∀ x,foldedSetIterable iter X.env x=pure x:=by intro _;rfl):PE X (.ListComp elt [⟨tg,iter,[],0⟩] scope pos) (tComp own.length cs wi g te):=by
 intro a s σ H Q I h;have o:∀ p∈scope.names,p.2=.free->∃ c,X.env.cells.lookup p.1=some c:=fun p r f=>I.ok.has p.1 (.inl (hfree p r f));refine Jcn hc hi hg he (JeR o) hcell hkind hnames (Jcf scope.names [] (fun _ _ z=>by simp at z) o) (fun y b=>Jce scope.names [] y (.inr ?_)) hcs hs a s σ H Q I h;have l:∀ k,(k=.cell\/k=.free)->(relabel scope X.env).names.lookup y=some k->(y,NameKind.free)∈scope.names:=fun k f e=>by
  have m:=PySem.mem_of_lookup e;obtain ⟨⟨n,j⟩,d,q⟩:=mem_map.mp (show (y,k)∈scope.names.map _ from m);have i:(if (j == NameKind.free&&X.env.scope.kind == .function&&X.env.kindOf n == some .cell)=true then (n,NameKind.cell) else (n,j))=(y,k):=q;split at i
  ·rename_i c;rw [Bool.and_eq_true,Bool.and_eq_true] at c;have:=beq_iff_eq.mp c.1.1;subst this;cases i;exact d
  ·cases i;rcases f with rfl | rfl
   ·exact absurd rfl (hcell _ d)
   ·exact d
 rcases b with b | b
 ·exact l _ (.inl rfl) b
 ·exact l _ (.inr rfl) b
theorem JdT {sc:Scope} (h:scope.names.all (fun p=>p.2 != .free||(sc.names.lookup p.1 == some .cell))=true):∀ p∈scope.names,p.2=.free->sc.names.lookup p.1=some .cell:=fun p a b=>by
 have z:=List.all_eq_true.mp h p a;rw [b] at z;simpa using z
theorem hcs1 {i:Nat} (a:X.N[i]?=some x) (b:X.env.scope.names.lookup x=some .cell) (c:(relabel scope X.env).names.lookup x=some .cell) :
  ∀ p∈[(i,x)],X.N[p.1]?=some p.2/\X.env.scope.names.lookup p.2=some .cell/\(relabel scope X.env).names.lookup p.2=some .cell:=fun p d=>by
 rcases mem_singleton.mp d with rfl
 exact ⟨a,b,c⟩
variable {j:Nat} {y:Str}
theorem hcs2 {i:Nat} (a:X.N[i]?=some x) (b:X.env.scope.names.lookup x=some .cell) (c:(relabel scope X.env).names.lookup x=some .cell)
  (a':X.N[j]?=some y) (b':X.env.scope.names.lookup y=some .cell) (c':(relabel scope X.env).names.lookup y=some .cell) :
  ∀ p∈[(i,x),(j,y)],X.N[p.1]?=some p.2/\X.env.scope.names.lookup p.2=some .cell/\(relabel scope X.env).names.lookup p.2=some .cell:=fun p d=>by
 rcases mem_cons.mp d with rfl | d
 ·exact ⟨a,b,c⟩
 ·rcases mem_singleton.mp d with rfl
  exact ⟨a',b',c'⟩
variable {tn:Nat->Heap->Prop} {J:It}
theorem Jhd {g:TG} {it:Addr}
  {W:Nat->Nat->List V->Hp->Prop} {m0:Nat} {QN:List V->Hp->Prop} {RR:Value->Addr->Result->Shared->Prop} {E:Value->Shared->Prop} (hc:X.calm=true)
  (hg:∀ fp s2 H2 C,PG (X.inc (own++cs.map (·.2)) scope cl fp s2 H2 C) tg g) (he:∀ fp s2 H2 C,PE (X.inc (own++cs.map (·.2)) scope cl fp s2 H2 C) elt te)
  (hcell:∀ y∈scope.names,y.2≠.cell) (hkind:scope.kind=.function)
  (hcl:∀ x c,cl.lookup x=some c->X.env.cells.lookup x=some c) (hhas:∀ y,((relabel scope X.env).names.lookup y=some .cell\/(relabel scope X.env).names.lookup y=some .free)->∃ c,cl.lookup y=some c)
  (hcs:∀ p∈cs,X.N[p.1]?=some p.2/\X.env.scope.names.lookup p.2=some .cell/\(relabel scope X.env).names.lookup p.2=some .cell)
  (I2:Inv X pins σ H2 s2) (T:Turn X.prog X.w X.K tg J fp it tn) (st2:tn 0 s2.heap) (f2:∀ b∈fp,FpOk X pins H2 b) (w0:W 0 m0 [] H2)
  (turn:∀ i m ys H2,W i m ys H2->ys.length<=sizeLine/\((J.stop i H2/\QN ys H2)\/(J.go i H2/\∀ x H3,J.yld i H2 x H3->g x (List.replicate own.length none++Jax cs σ) H3 fun σ4 H4=>te σ4 H4 fun y H5=>∃ m',m'<m/\W (i+1) m' (ys++[y]) H5)))
  (hRR:∀ (D C:Addr) (s6:Shared) (H5:Hp) (ys:List V),(∀ h7,Heap.SameBut C s6.heap h7->Inv X pins σ (upd H5 D (.lst ys)) { s6 with heap:=h7 })->H5 D=none->H5 C=none->D≠C->(∃ m,s6.heap.Ns C m)->s2.heap.objs.size<=C->QN ys H5->RR (.ref D) C (.ok .next) s6) :
  wpAny (model X.prog X.w) X.A (newList []) (fun acc s₃=>wpAny (model X.prog X.w) X.A (newFunctionEnv scope X.env.globals cl [] X.env.qual none .none (some X.env)) (fun cenv s₄=>
   codeAny (model X.prog X.w) X.A (.compStart (.ListComp elt [⟨tg,iter,[],0⟩] scope pos) 0 (.ref it) acc { cenv with scope:=relabel scope X.env }) (RR acc cenv.locals) s₄) E s₃) E s2:=by
 have H:∀ b∈fp,b<s2.heap.objs.size:=fun b d=>by
  obtain ⟨o,e,_⟩:=T.obj _ _ st2 b d;exact Heap.lt_size e
 refine wpAny_newObj_type (wpAny_newFunctionEnv hcell (by intro y hy;simp at hy) (fun h4 t h=>?_) hkind);dsimp only at t h ⊢;generalize hH3:s2.heap.push { cls:=.type "list",dict:=none,data:=.seq ([]:List Value).toArray }=H3 at t h ⊢;have a1:H3.objs.size=s2.heap.objs.size+1:=by rw [<- hH3,Heap.size_push]
 have Y:s2.heap.objs.size<=H3.objs.size:=by ac_nf
 have k:s2.heap.objs.size≠H3.objs.size:=by ac_nf
 have P:∀ b o,s2.heap.get? b=some o->h4.get? b=some o:=fun b o e=>h.extBut b o (by have:=Heap.lt_size e;exact Nat.ne_of_lt (Nat.lt_of_lt_of_le this Y)) (Heap.get?_push_of_some _ (hH3 ▸ Heap.get?_push_of_some _ e));have a4:h4.get? s2.heap.objs.size=some { cls:=.type "list",data:=.seq ([]:List Value).toArray }:=h.extBut _ _ k (Heap.get?_push_of_some _ (hH3 ▸ Heap.get?_push_size _ rfl));obtain ⟨D,f⟩:∃ D,D=s2.heap.objs.size:=⟨_,rfl⟩;obtain ⟨C,b1⟩:∃ C,C=H3.objs.size:=⟨_,rfl⟩;rw [<- b1] at a1 t h Y k ⊢;rw [<- f] at H a1 Y k a4 ⊢;have F:=I2.incOk (N':=own++cs.map (·.2)) (C:=C) f2 (fun b d=>by rw [<- f];exact H b d) hkind (by rw [<- f];exact Y) hcl hhas;have I4:Inv (X.inc (own++cs.map (·.2)) scope cl fp s2 H2 C) [] (List.replicate own.length none++Jax cs σ) H2 { s2 with heap:=h4,toks:=s2.toks+([]:List (Str × Value)).length } :=
  I2.incStart (s4:={ s2 with heap:=h4,toks:=s2.toks+([]:List (Str × Value)).length }) F P rfl rfl t (by rw [<- f];exact Y) hcl hcs
 have Dfree:H2 D=none:=I2.hok.fresh (Nat.le_of_eq f.symm);have G:∀ b o,s2.heap.get? b=some o->b≠D:=fun b o e=>by
  rw [f];exact Nat.ne_of_lt (Heap.lt_size e)
 have a9:∀ b o,s2.heap.get? b=some o->b≠C:=fun b o e=>Nat.ne_of_lt (Nat.lt_of_lt_of_le (by rw [f];exact Heap.lt_size e) Y);have Dfs:D∉frs X.stack:=fun hm=>by
  obtain ⟨_,o,e,_⟩:=I2.stack.mem hm;exact G _ _ e rfl
 have I:∀ {σ':St} {H':Hp} {s':Shared} {us:List Value} {n:Nat} {pl:List (Addr × Obj)},Inv (X.inc (own++cs.map (·.2)) scope cl fp s2 H2 C) pl σ' H' s'->s'.heap.get? D=some { cls:=.type "list",data:=.seq us.toArray n }->H' D=none ->
   Inv (X.inc (own++cs.map (·.2)) scope cl fp s2 H2 C) [(D,{ cls:=.type "list",data:=.seq us.toArray n })] σ' H' s':=fun {σ' H' s' us n pl} J' e n'=>J'.pins_of fun p R=>by
  rcases mem_singleton.mp R with rfl
  exact ⟨e,n',k,Dfs,fun v z=>by cases z⟩
 have B:∀ {H':Hp} {o:Obj},(∀ b∈fp,H' b=none)->∀ b∈fp,FpOk (X.inc (own++cs.map (·.2)) scope cl fp s2 H2 C) [(D,o)] H' b:=fun {H' o} hn b d=>by
  refine ⟨hn b d,(F.exf b d).1,F.exfs b d, .inl d,(F.exf b d).2,fun p R=>?_⟩;rcases mem_singleton.mp R with rfl
  exact Nat.ne_of_gt (H b d)
 have O:∀ s3:Shared,s3={ s2 with heap:=h4,toks:=s2.toks+([]:List (Str × Value)).length } ->
   codeAny (model X.prog X.w) X.A (.compLoop (.ListComp elt [⟨tg,iter,[],0⟩] scope pos) 0 (.ref it) (.ref D) (compEnvC scope cl C X.env)) (RR (.ref D) C) s3:=by
  rintro s3 rfl;refine JeB (fun n s'=>∃ i ys us S H',Inv (X.inc (own++cs.map (·.2)) scope cl fp s2 H2 C) [(D,{ cls:=.type "list",data:=.seq us.toArray S })] (List.replicate own.length none++Jax cs σ) H' s'/\tn i s'.heap/\(∀ b∈fp,H' b=none)/\Vals ys us/\W i n ys H') ?_ m0
   ⟨0,[],[],0,H2,I (us:=[]) (n:=0) I4 a4 Dfree,T.keep _ _ _ st2 fun b d o e=>P b o e,fun b d=>(f2 b d).1, .nil,w0⟩
  rintro n s5 ⟨i,ys,us,S,H5,I5,a0,a2,vy,w5⟩;obtain ⟨hz,⟨stop,qn⟩ | ⟨go,a3⟩⟩:=turn i n ys H5 w5
  ·refine wpAny_mono (T.done (X.inc (own++cs.map (·.2)) scope cl fp s2 H2 C) rfl rfl rfl hc i _ s5 _ H5 (fun _ _=>False) I5 (B a2) a0 stop) (fun r s6 z=>?_) fun _ _ z=>z;obtain ⟨rfl,I6⟩:=z;obtain ⟨m6,a8,_⟩:=id I6.loc;obtain ⟨pD,Z,_,_,_⟩:=I6.pin (D,{ cls:=.type "list",data:=.seq us.toArray S }) (by simp);have Cfree:H5 C=none:=I6.free;refine hRR D C s6 H5 ys (fun h7 a7=>?_) Z Cfree k ⟨m6,a8⟩ (by rw [<- f];exact Y) qn;have j:∀ b,b≠C->h7.get? b=s6.heap.get? b:=fun b d=>a7.2 b d;have Q:=a9;have u7:Un (frs X.stack) fp H2 H5 s2.heap h7:=⟨fun b o e n1 n2 n3=>(j b (Q b o e)).trans (I6.base.keep b o e n1 n2 n3),fun b o e n1 n2 n3=>by
     obtain ⟨sl,z⟩:=I6.base.slot b o e n1 n2 n3;exact ⟨sl,(j b (Q b o e)).trans z⟩,I6.base.free,fun b o e n1=>by
     obtain ⟨o',z⟩:=I6.base.there b o e n1;exact ⟨o',(j b (Q b o e)).trans z⟩,I6.base.tups,I6.base.frzs,I6.base.tbls⟩
   have a5:HOk X.prog X.w H5 h7:=fun a o e=>by
    refine (I6.hok a o e).stay (fun c v b0 q=>(j c ?_).trans q) (fun _ q=>q) fun _ _ q=>q;rintro rfl;rcases b0 with z | z
    ·rw [<- z] at e;rw [Cfree] at e;cases e
    ·rw [Cfree] at z;cases z
   have I7:Inv X pins σ H5 { s6 with heap:=h7 }:=I2.call' (s':={ s6 with heap:=h7 }) I6.os u7 a5 I6.bare fun b d=>⟨(f2 b d).2.2.2.1,(f2 b d).2.1,(f2 b d).2.2.2.2.1,(f2 b d).2.2.2.2.2⟩;exact I7.track (a:=D) (o:=.lst ys) Z (Heap.get?_none_of_le (by rw [f];exact I2.sz)) (by rw [f];exact Nat.ne_of_gt I2.lt) (fun x c e z=>by
     obtain ⟨v,o,ho,_⟩:=I2.cell x c e;exact G _ _ ho z) (fun p R z=>G _ _ (I2.pin p R).1 z) ⟨hz,us,S,vy,(j D k).trans pD⟩
  ·refine wpAny_mono (T.item (X.inc (own++cs.map (·.2)) scope cl fp s2 H2 C) rfl rfl rfl hc i _ s5 _ H5 (fun _ _=>False) I5 (B a2) a0 go) (fun r s6 z=>?_) fun _ _ z=>z;obtain ⟨u,rfl,z⟩:=z;refine wpAny_mono z (fun _ s7 ζ=>?_) fun _ _ z=>z;obtain ⟨x,H7,I7,r7,y7,U,b2⟩:=ζ;have I7':=I7.pinned (B b2) (T.obj _ _ U);refine wpAny_mono (hg fp s2 H2 C _ s7 _ H7 x u _ I7' r7 (a3 x H7 y7)) (fun _ s8 ⟨σ8,H8,I8,q8⟩=>?_) fun _ _ z=>z;refine wpAny_mono (he fp s2 H2 C _ s8 σ8 H8 _ I8 q8) (fun uy s9 ζ=>?_) fun _ _ z=>z;obtain ⟨y,H9,I9,r9,m',a6,w9⟩:=ζ;obtain ⟨pD,Z,_,_,_⟩:=I9.pin (D,{ cls:=.type "list",data:=.seq us.toArray S }) (by simp);refine append_at (its:=us.toArray) (n:=S) pD (fun b3 L M=>?_) (by rw [size_toArray, <- vy.length];exact hz);have l:∀ b∈fp, ∀ o,s7.heap.get? b=some o->s9.heap.get? b=some o/\H9 b=none:=fun b d o e=>by
    have z:=I9.pin (b,o) (mem_append_right _ (mem_append_right _ (JbQ d e)));exact ⟨z.1,z.2.1⟩
   have I9':Inv (X.inc (own++cs.map (·.2)) scope cl fp s2 H2 C) [] (List.replicate own.length none++Jax cs σ) H9 s9:=I2.incAgain I9 f2 hcl hcs;have I10:Inv (X.inc (own++cs.map (·.2)) scope cl fp s2 H2 C) [] (List.replicate own.length none++Jax cs σ) H9 { s9 with heap:=b3 }:=I9'.turned (it:=D) (t':=s9.toks) (fun b o d e=>(L.2 b d).trans e) Z k (.inr (Nat.le_of_eq f.symm)) (fun x c e z=>by
     obtain ⟨v,o,ho,_⟩:=I2.cell x c (hcl x c e);exact G _ _ ho z) fun p R=>by simp at R
   rw [lstP] at M;refine ⟨m',a6,i+1,ys++[y],us++[uy],S+1,H9,I I10 M Z,T.keep _ _ _ U fun b d o e=>?_,fun b d=>?_,vy.append (.cons r9 .nil),w9⟩
   ·exact (L.2 b (Nat.ne_of_lt (H b d))).trans (l b d o e).1
   ·obtain ⟨o,e,_⟩:=T.obj _ _ U b d;exact (l b d o e).2
 exact codeAny_compStart_list (O _ rfl) (T.self _ 0 _ _ _ (T.keep _ _ _ st2 fun b d o e=>P b o e) (O _ rfl))
theorem Jge (hcell:∀ y∈scope.names,y.2≠.cell) {y:Str} (hy:(relabel scope X.env).names.lookup y=some .cell\/(relabel scope X.env).names.lookup y=some .free):(y,NameKind.free)∈scope.names:=by
 have f:∀ k,(k=.cell\/k=.free)->(relabel scope X.env).names.lookup y=some k->(y,NameKind.free)∈scope.names:=fun k h e=>by
  have m:=PySem.mem_of_lookup e;obtain ⟨⟨n,d⟩,a,g⟩:=mem_map.mp (show (y,k)∈scope.names.map _ from m);have b:(if (d == NameKind.free&&X.env.scope.kind == .function&&X.env.kindOf n == some .cell)=true then (n,NameKind.cell) else (n,d))=(y,k):=g;split at b
  ·rename_i c;rw [Bool.and_eq_true,Bool.and_eq_true] at c;have:=beq_iff_eq.mp c.1.1;subst this;cases b;exact a
  ·cases b;rcases h with rfl | rfl
   ·exact absurd rfl (hcell _ a)
   ·exact a
 rcases hy with hy | hy
 ·exact f _ (.inl rfl) hy
 ·exact f _ (.inr rfl) hy
variable {spos py:Pos}
theorem Jhr {g:TG} (hN:X.N.Nodup) (hj:X.N[j]?=some y) (hy:Loc X.env.scope y) (hc:X.calm=true) (hi:PI X tg iter wi)
  (hg:∀ fp s2 H2 C,PG (X.inc (own++cs.map (·.2)) scope (Jbm X.env.cells scope.names []) fp s2 H2 C) tg g) (he:∀ fp s2 H2 C,PE (X.inc (own++cs.map (·.2)) scope (Jbm X.env.cells scope.names []) fp s2 H2 C) elt te)
  (hfree:∀ p∈scope.names,p.2=.free->X.env.scope.names.lookup p.1=some .cell) (hcell:∀ y∈scope.names,y.2≠.cell) (hkind:scope.kind=.function) (hnames:∀ y∈scope.names,y.2=.local->scope.names.lookup y.1=some .local)
  (hcs:∀ p∈cs,X.N[p.1]?=some p.2/\X.env.scope.names.lookup p.2=some .cell/\(relabel scope X.env).names.lookup p.2=some .cell)
  (hsw:swapsWith (.ListComp elt [⟨tg,iter,[],0⟩] scope pos) (some (.Name y py)) spos.line X.env=pure true:=by rfl)
  (hs:∀ x,foldedSetIterable iter X.env x=pure x:=by intro _;rfl) (hf:X.fn y=true\/X.env.scope.names.lookup y=some .local:=by first | exact .inl rfl | exact .inr rfl) :
  PS X (.Assign [.Name y py] (.ListComp elt [⟨tg,iter,[],0⟩] scope pos) spos) (tAsg (tComp own.length cs wi g te) (gName j)):=by
 intro d s σ H D I h;have i:∀ p∈scope.names,p.2=.free->∃ c,X.env.cells.lookup p.1=some c:=fun p K Z=>I.ok.has p.1 (.inl (hfree p K Z));have B:=Jcf (cells:=X.env.cells) scope.names [] (fun _ _ z=>by simp at z) i;rw [exec_Assign_Name_used _ _ _ _ hsw];refine wpAny_bind (wpAny_standAt (wpAny_bind ?_));show wpAny _ X.A (do let _ <- comprehension (.ListComp elt [⟨tg,iter,[],0⟩] scope pos) scope X.env _ (newList []) false (eval iter X.env) (some (assign (.Name y py) X.env))) _ _ s;refine wpAny_bind (wpAny_mono (wpAny_comprehension_free (use:=some (assign (.Name y py) X.env)) (Q:=fun _ L=>SP X d D .next L) rfl hs (JeR i) hkind hnames
  (thn (hi d s σ H _ I h) fun v s1 h1=>thn h1 fun a0 s2 S=>?_)) (fun _ L hq=>wpAny_pure (wpAny_pure hq)) fun _ _ e=>e)
 obtain ⟨it,fp,tn,J,H2,rfl,I2,T,E,f2,W,⟨m0,M⟩,k⟩:=S;refine Jhd (QN:=fun r l=>∀ p,l p=none->D.nx (σ.set j (some (.ref p))) (upd l p (.lst r))) hc hg he hcell hkind B (fun z hz=>Jce scope.names [] z (.inr (Jge hcell hz))) hcs I2 T E f2 M k ?_;intro D' C w l r t dN P dc Y f q;obtain ⟨V,G⟩:=Y;have I8:Inv X d σ (upd l D' (.lst r)) w:=t w.heap (Heap.SameBut.refl _ _);show wpAny _ X.A (assign (.Name y py) X.env (.ref D')) _ _ w;refine wpAny_assign_Name (Jen (v:=.ref D') I8 hN hj hy rfl (fun R I7 u=>?_) hf);obtain ⟨a,U,m⟩:=u;have O:C≠a:=by
  rcases m with rfl | m
  ·exact Nat.ne_of_gt (Nat.lt_of_lt_of_le I2.lt f)
  ·obtain ⟨v,o,F,_⟩:=I2.cell y a m;exact Nat.ne_of_gt (Nat.lt_of_lt_of_le (Heap.lt_size F) f)
 refine ⟨V,G.sameBut U O,fun h8 n=>⟨_,_,?_,q D' dN⟩⟩;exact I7.turned (it:=C) (t':=R.toks) (fun b o hb e=>(n.2 b hb).trans e) (by rw [Jag (Ne.symm dc)];exact P) (Nat.ne_of_gt (Nat.lt_of_lt_of_le I2.lt f)) (.inr (Nat.le_trans I2.sz f)) (fun x c e z=>by
  obtain ⟨v,o,F,_⟩:=I2.cell x c e;exact absurd (Nat.lt_of_lt_of_le (Heap.lt_size F) f) (by rw [z];exact Nat.lt_irrefl _)) (fun p K z=>absurd (Nat.lt_of_lt_of_le (Heap.lt_size (I2.pin p K).1) f) (by rw [z];exact Nat.lt_irrefl _))
section
variable {prog:Program} {E:Value->Shared->Prop} {R:Result->Shared->Prop} {w:World} {s:Shared} {tst:Expr}
theorem Jf7 {target:Expr} {it acc:Value} (J:Nat->Shared->Prop)
  (turn:∀ n s,J n s->wpAny (model prog w) A (pyNext it) (fun r s1=>match r with
   | none=>R (.ok .next) s1
   | some v=>wpAny (model prog w) A (letOwnedTupleGo target it v) (fun _ s2=>wpAny (model prog w) A (assign target env v) (fun _ s3=>wpAny (model prog w) A (isTrue tst env (eval tst env)) (fun b s3'=>if b=true then wpAny (model prog w) A (eval elt env) (fun x s4=>
     wpAny (model prog w) A (call (.builtin "list.append") [acc,x]) (fun _ s5=>∃ m,m<n/\J m s5) (fun _ _=>False) s4) (fun _ _=>False) s3' else ∃ m,m<n/\J m s3') (fun _ _=>False) s3) (fun _ _=>False) s2) (fun _ _=>False) s1) (fun _ _=>False) s) (n:Nat) (h:J n s) :
  codeAny (model prog w) A (.compLoop (.ListComp elt [⟨target,iter,[tst],0⟩] scope pos) 0 it acc env) R s:=by
 refine codeAny_loop rfl J (fun n s g=>?_) n h;show wpAny _ A ((compTurn (.ListComp elt [⟨target,iter,[tst],0⟩] scope pos) 0 it acc env).onRaise (fun y=>do noteFrame y env;theTreesLotGoes y)) _ _ s
 (refine wpAny_noted ?_;rw [compTurn_list])
 refine wpAny_bind (wpAny_standAt (wpAny_bind (wpAny_mono (turn n s g) (fun r s1 c=>?_) fun _ _ z=>z.elim)));cases r with
 | none=>exact wpAny_pure c
 | some v=>
  refine wpAny_bind (wpAny_mono c (fun _ s2 d=>wpAny_bind (wpAny_mono d (fun _ s3 f=>?_) fun _ _ z=>z.elim)) fun _ _ z=>z.elim);refine wpAny_bind (wpAny_tests_one (wpAny_mono f (fun b s3' a=>?_) fun _ _ z=>z.elim));cases b with
  | true=>exact wpAny_bind (wpAny_bind (wpAny_mono a (fun x s4 i=>(wpAny_bind (wpAny_mono i (fun _ s5 e=>(wpAny_pure (wpAny_pure ⟨rfl,e⟩))) fun _ _ z=>z.elim))) fun _ _ z=>z.elim))
  | false=>exact wpAny_bind (wpAny_pure (wpAny_pure ⟨rfl,a⟩))
end
def JeL (k:Nat) (cs:List (Nat × Str)) (wi:TI) (g:TG) (tt:TT) (te:TE):TE:=fun σ H Q=>wi σ H fun J H1=>∃ W:Nat->Nat->List V->Hp->Prop,(∃ m,W 0 m [] H1)/\∀ i m ys H2,W i m ys H2->ys.length<=sizeLine /\
  ((J.stop i H2/\∀ p,H2 p=none->Q (.ref p) (upd H2 p (.lst ys))) \/
   (J.go i H2/\∀ x H3,J.yld i H2 x H3->g x (List.replicate k none++Jax cs σ) H3 fun σ4 H4=>tt σ4 H4 fun b H5=>if b=true then te σ4 H5 fun y H6=>∃ m',m'<m/\W (i+1) m' (ys++[y]) H6 else ∃ m',m'<m/\W (i+1) m' ys H5))
variable {tst:Expr} {tt:TT}
theorem JdR {g:TG} {it:Addr}
  {W:Nat->Nat->List V->Hp->Prop} {m0:Nat} {QN:List V->Hp->Prop} {RR:Value->Addr->Result->Shared->Prop} {E:Value->Shared->Prop} (hc:X.calm=true)
  (hg:∀ fp s2 H2 C,PG (X.inc (own++cs.map (·.2)) scope cl fp s2 H2 C) tg g) (ht:∀ fp s2 H2 C,PT (X.inc (own++cs.map (·.2)) scope cl fp s2 H2 C) tst tt) (he:∀ fp s2 H2 C,PE (X.inc (own++cs.map (·.2)) scope cl fp s2 H2 C) elt te)
  (hcell:∀ y∈scope.names,y.2≠.cell) (hkind:scope.kind=.function)
  (hcl:∀ x c,cl.lookup x=some c->X.env.cells.lookup x=some c) (hhas:∀ y,((relabel scope X.env).names.lookup y=some .cell\/(relabel scope X.env).names.lookup y=some .free)->∃ c,cl.lookup y=some c)
  (hcs:∀ p∈cs,X.N[p.1]?=some p.2/\X.env.scope.names.lookup p.2=some .cell/\(relabel scope X.env).names.lookup p.2=some .cell)
  (I2:Inv X pins σ H2 s2) (T:Turn X.prog X.w X.K tg J fp it tn) (st2:tn 0 s2.heap) (f2:∀ b∈fp,FpOk X pins H2 b) (w0:W 0 m0 [] H2)
  (turn:∀ i m ys H2,W i m ys H2->ys.length<=sizeLine/\((J.stop i H2/\QN ys H2)\/(J.go i H2/\∀ x H3,J.yld i H2 x H3->g x (List.replicate own.length none++Jax cs σ) H3 fun σ4 H4=>tt σ4 H4 fun b H5=>if b=true then te σ4 H5 fun y H6=>∃ m',m'<m/\W (i+1) m' (ys++[y]) H6 else ∃ m',m'<m/\W (i+1) m' ys H5)))
  (hRR:∀ (D C:Addr) (s6:Shared) (H5:Hp) (ys:List V),(∀ h7,Heap.SameBut C s6.heap h7->Inv X pins σ (upd H5 D (.lst ys)) { s6 with heap:=h7 })->H5 D=none->H5 C=none->D≠C->(∃ m,s6.heap.Ns C m)->s2.heap.objs.size<=C->QN ys H5->RR (.ref D) C (.ok .next) s6) :
  wpAny (model X.prog X.w) X.A (newList []) (fun acc s₃=>wpAny (model X.prog X.w) X.A (newFunctionEnv scope X.env.globals cl [] X.env.qual none .none (some X.env)) (fun cenv s₄=>
   codeAny (model X.prog X.w) X.A (.compStart (.ListComp elt [⟨tg,iter,[tst],0⟩] scope pos) 0 (.ref it) acc { cenv with scope:=relabel scope X.env }) (RR acc cenv.locals) s₄) E s₃) E s2:=by
 have O:∀ b∈fp,b<s2.heap.objs.size:=fun b d=>by
  obtain ⟨o,e,_⟩:=T.obj _ _ st2 b d;exact Heap.lt_size e
 refine wpAny_newObj_type (wpAny_newFunctionEnv hcell (by intro y hy;simp at hy) (fun h4 t j=>?_) hkind);dsimp only at t j ⊢;generalize hH3:s2.heap.push { cls:=.type "list",dict:=none,data:=.seq ([]:List Value).toArray }=H3 at t j ⊢;have a3:H3.objs.size=s2.heap.objs.size+1:=by rw [<- hH3,Heap.size_push]
 have hC:s2.heap.objs.size<=H3.objs.size:=by ac_nf
 have l:s2.heap.objs.size≠H3.objs.size:=by ac_nf
 have U:∀ b o,s2.heap.get? b=some o->h4.get? b=some o:=fun b o e=>j.extBut b o (by have:=Heap.lt_size e;exact Nat.ne_of_lt (Nat.lt_of_lt_of_le this hC)) (Heap.get?_push_of_some _ (hH3 ▸ Heap.get?_push_of_some _ e));have a6:h4.get? s2.heap.objs.size=some { cls:=.type "list",data:=.seq ([]:List Value).toArray }:=j.extBut _ _ l (Heap.get?_push_of_some _ (hH3 ▸ Heap.get?_push_size _ rfl));obtain ⟨D,h⟩:∃ D,D=s2.heap.objs.size:=⟨_,rfl⟩;obtain ⟨C,b2⟩:∃ C,C=H3.objs.size:=⟨_,rfl⟩;rw [<- b2] at a3 t j hC l ⊢;rw [<- h] at O a3 hC l a6 ⊢;have H:=I2.incOk (N':=own++cs.map (·.2)) (C:=C) f2 (fun b d=>by rw [<- h];exact O b d) hkind (by rw [<- h];exact hC) hcl hhas;have I4:Inv (X.inc (own++cs.map (·.2)) scope cl fp s2 H2 C) [] (List.replicate own.length none++Jax cs σ) H2 { s2 with heap:=h4,toks:=s2.toks+([]:List (Str × Value)).length } :=
  I2.incStart (s4:={ s2 with heap:=h4,toks:=s2.toks+([]:List (Str × Value)).length }) H U rfl rfl t (by rw [<- h];exact hC) hcl hcs
 have Dfree:H2 D=none:=I2.hok.fresh (Nat.le_of_eq h.symm);have L:∀ b o,s2.heap.get? b=some o->b≠D:=fun b o e=>by
  rw [h];exact Nat.ne_of_lt (Heap.lt_size e)
 have b0:∀ b o,s2.heap.get? b=some o->b≠C:=fun b o e=>Nat.ne_of_lt (Nat.lt_of_lt_of_le (by rw [h];exact Heap.lt_size e) hC);have Dfs:D∉frs X.stack:=fun hm=>by
  obtain ⟨_,o,e,_⟩:=I2.stack.mem hm;exact L _ _ e rfl
 have B:∀ {σ':St} {H':Hp} {s':Shared} {us:List Value} {n:Nat} {pl:List (Addr × Obj)},Inv (X.inc (own++cs.map (·.2)) scope cl fp s2 H2 C) pl σ' H' s'->s'.heap.get? D=some { cls:=.type "list",data:=.seq us.toArray n }->H' D=none ->
   Inv (X.inc (own++cs.map (·.2)) scope cl fp s2 H2 C) [(D,{ cls:=.type "list",data:=.seq us.toArray n })] σ' H' s':=fun {σ' H' s' us n pl} J' e n'=>J'.pins_of fun p Z=>by
  rcases mem_singleton.mp Z with rfl
  exact ⟨e,n',l,Dfs,fun v z=>by cases z⟩
 have F:∀ {H':Hp} {o:Obj},(∀ b∈fp,H' b=none)->∀ b∈fp,FpOk (X.inc (own++cs.map (·.2)) scope cl fp s2 H2 C) [(D,o)] H' b:=fun {H' o} hn b d=>by
  refine ⟨hn b d,(H.exf b d).1,H.exfs b d, .inl d,(H.exf b d).2,fun p Z=>?_⟩;rcases mem_singleton.mp Z with rfl
  exact Nat.ne_of_gt (O b d)
 have R:∀ s3:Shared,s3={ s2 with heap:=h4,toks:=s2.toks+([]:List (Str × Value)).length } ->
   codeAny (model X.prog X.w) X.A (.compLoop (.ListComp elt [⟨tg,iter,[tst],0⟩] scope pos) 0 (.ref it) (.ref D) (compEnvC scope cl C X.env)) (RR (.ref D) C) s3:=by
  rintro s3 rfl;refine Jf7 (fun n s'=>∃ i ys us M H',Inv (X.inc (own++cs.map (·.2)) scope cl fp s2 H2 C) [(D,{ cls:=.type "list",data:=.seq us.toArray M })] (List.replicate own.length none++Jax cs σ) H' s'/\tn i s'.heap/\(∀ b∈fp,H' b=none)/\Vals ys us/\W i n ys H') ?_ m0
   ⟨0,[],[],0,H2,B (us:=[]) (n:=0) I4 a6 Dfree,T.keep _ _ _ st2 fun b d o e=>U b o e,fun b d=>(f2 b d).1, .nil,w0⟩
  rintro n s5 ⟨i,ys,us,M,H5,I5,a2,a4,vy,w5⟩;obtain ⟨hz,⟨stop,qn⟩ | ⟨go,a5⟩⟩:=turn i n ys H5 w5
  ·refine wpAny_mono (T.done (X.inc (own++cs.map (·.2)) scope cl fp s2 H2 C) rfl rfl rfl hc i _ s5 _ H5 (fun _ _=>False) I5 (F a4) a2 stop) (fun r s6 z=>?_) fun _ _ z=>z;obtain ⟨rfl,I6⟩:=z;obtain ⟨m6,a9,_⟩:=id I6.loc;obtain ⟨pD,pN,_,_,_⟩:=I6.pin (D,{ cls:=.type "list",data:=.seq us.toArray M }) (by simp);have Cfree:H5 C=none:=I6.free;refine hRR D C s6 H5 ys (fun h7 a8=>?_) pN Cfree l ⟨m6,a9⟩ (by rw [<- h];exact hC) qn;have k:∀ b,b≠C->h7.get? b=s6.heap.get? b:=fun b d=>a8.2 b d;have Y:=b0;have u7:Un (frs X.stack) fp H2 H5 s2.heap h7:=⟨fun b o e n1 n2 n3=>(k b (Y b o e)).trans (I6.base.keep b o e n1 n2 n3),fun b o e n1 n2 n3=>by
     obtain ⟨sl,z⟩:=I6.base.slot b o e n1 n2 n3;exact ⟨sl,(k b (Y b o e)).trans z⟩,I6.base.free,fun b o e n1=>by
     obtain ⟨o',z⟩:=I6.base.there b o e n1;exact ⟨o',(k b (Y b o e)).trans z⟩,I6.base.tups,I6.base.frzs,I6.base.tbls⟩
   have a7:HOk X.prog X.w H5 h7:=fun a o e=>by
    refine (I6.hok a o e).stay (fun c v b1 q=>(k c ?_).trans q) (fun _ q=>q) fun _ _ q=>q;rintro rfl;rcases b1 with z | z
    ·rw [<- z] at e;rw [Cfree] at e;cases e
    ·rw [Cfree] at z;cases z
   have I7:Inv X pins σ H5 { s6 with heap:=h7 }:=I2.call' (s':={ s6 with heap:=h7 }) I6.os u7 a7 I6.bare fun b d=>⟨(f2 b d).2.2.2.1,(f2 b d).2.1,(f2 b d).2.2.2.2.1,(f2 b d).2.2.2.2.2⟩;exact I7.track (a:=D) (o:=.lst ys) pN (Heap.get?_none_of_le (by rw [h];exact I2.sz)) (by rw [h];exact Nat.ne_of_gt I2.lt) (fun x c e z=>by
     obtain ⟨v,o,ho,_⟩:=I2.cell x c e;exact L _ _ ho z) (fun p Z z=>L _ _ (I2.pin p Z).1 z) ⟨hz,us,M,vy,(k D l).trans pD⟩
  ·refine wpAny_mono (T.item (X.inc (own++cs.map (·.2)) scope cl fp s2 H2 C) rfl rfl rfl hc i _ s5 _ H5 (fun _ _=>False) I5 (F a4) a2 go) (fun r s6 z=>?_) fun _ _ z=>z;obtain ⟨u,rfl,z⟩:=z;refine wpAny_mono z (fun _ s7 ζ=>?_) fun _ _ z=>z;obtain ⟨x,H7,I7,r7,y7,G,b3⟩:=ζ;have I7':=I7.pinned (F b3) (T.obj _ _ G);refine wpAny_mono (hg fp s2 H2 C _ s7 _ H7 x u _ I7' r7 (a5 x H7 y7)) (fun _ s8 ⟨σ8,H8,I8,q8⟩=>?_) fun _ _ z=>z;refine wpAny_mono (ht fp s2 H2 C _ s8 σ8 H8 _ I8 q8) (fun bb a0 ⟨I,I8',a1⟩=>?_) fun _ _ z=>z;cases bb with
   | true=>
    refine wpAny_mono (he fp s2 H2 C _ a0 σ8 I _ I8' a1) (fun uy s9 ζ=>?_) fun _ _ z=>z;obtain ⟨y,H9,I9,r9,m',S,w9⟩:=ζ;obtain ⟨pD,pN,_,_,_⟩:=I9.pin (D,{ cls:=.type "list",data:=.seq us.toArray M }) (by simp);refine append_at (its:=us.toArray) (n:=M) pD (fun b4 P Q=>?_) (by rw [size_toArray, <- vy.length];exact hz);have f:∀ b∈fp, ∀ o,s7.heap.get? b=some o->s9.heap.get? b=some o/\H9 b=none:=fun b d o e=>by
     have z:=I9.pin (b,o) (mem_append_right _ (mem_append_right _ (JbQ d e)));exact ⟨z.1,z.2.1⟩
    have I9':Inv (X.inc (own++cs.map (·.2)) scope cl fp s2 H2 C) [] (List.replicate own.length none++Jax cs σ) H9 s9:=I2.incAgain I9 f2 hcl hcs;have I10:Inv (X.inc (own++cs.map (·.2)) scope cl fp s2 H2 C) [] (List.replicate own.length none++Jax cs σ) H9 { s9 with heap:=b4 }:=I9'.turned (it:=D) (t':=s9.toks) (fun b o d e=>(P.2 b d).trans e) pN l (.inr (Nat.le_of_eq h.symm)) (fun x c e z=>by
      obtain ⟨v,o,ho,_⟩:=I2.cell x c (hcl x c e);exact L _ _ ho z) fun p Z=>by simp at Z
    rw [lstP] at Q;refine ⟨m',S,i+1,ys++[y],us++[uy],M+1,H9,B I10 Q pN,T.keep _ _ _ G fun b d o e=>?_,fun b d=>?_,vy.append (.cons r9 .nil),w9⟩
    ·exact (P.2 b (Nat.ne_of_lt (O b d))).trans (f b d o e).1
    ·obtain ⟨o,e,_⟩:=T.obj _ _ G b d;exact (f b d o e).2
   | false=>
    obtain ⟨m',S,w9⟩:=a1;obtain ⟨pD,pN,_,_,_⟩:=I8'.pin (D,{ cls:=.type "list",data:=.seq us.toArray M }) (by simp);have f:∀ b∈fp, ∀ o,s7.heap.get? b=some o->a0.heap.get? b=some o/\I b=none:=fun b d o e=>by
     have z:=I8'.pin (b,o) (mem_append_right _ (mem_append_right _ (JbQ d e)));exact ⟨z.1,z.2.1⟩
    have I9':Inv (X.inc (own++cs.map (·.2)) scope cl fp s2 H2 C) [] (List.replicate own.length none++Jax cs σ) I a0:=I2.incAgain I8' f2 hcl hcs;refine ⟨m',S,i+1,ys,us,M,I,B I9' pD pN,T.keep _ _ _ G fun b d o e=>(f b d o e).1,fun b d=>?_,vy,w9⟩;obtain ⟨o,e,_⟩:=T.obj _ _ G b d;exact (f b d o e).2
 exact codeAny_compStart_list (R _ rfl) (T.self _ 0 _ _ _ (T.keep _ _ _ st2 fun b d o e=>U b o e) (R _ rfl))
theorem Jcp {g:TG} (hN:X.N.Nodup) (hj:X.N[j]?=some y) (hy:Loc X.env.scope y) (hc:X.calm=true) (hi:PI X tg iter wi)
  (hg:∀ fp s2 H2 C,PG (X.inc (own++cs.map (·.2)) scope (Jbm X.env.cells scope.names []) fp s2 H2 C) tg g) (ht:∀ fp s2 H2 C,PT (X.inc (own++cs.map (·.2)) scope (Jbm X.env.cells scope.names []) fp s2 H2 C) tst tt) (he:∀ fp s2 H2 C,PE (X.inc (own++cs.map (·.2)) scope (Jbm X.env.cells scope.names []) fp s2 H2 C) elt te)
  (hfree:∀ p∈scope.names,p.2=.free->X.env.scope.names.lookup p.1=some .cell) (hcell:∀ y∈scope.names,y.2≠.cell) (hkind:scope.kind=.function) (hnames:∀ y∈scope.names,y.2=.local->scope.names.lookup y.1=some .local)
  (hcs:∀ p∈cs,X.N[p.1]?=some p.2/\X.env.scope.names.lookup p.2=some .cell/\(relabel scope X.env).names.lookup p.2=some .cell)
  (hsw:swapsWith (.ListComp elt [⟨tg,iter,[tst],0⟩] scope pos) (some (.Name y py)) spos.line X.env=pure true:=by rfl)
  (hs:∀ x,foldedSetIterable iter X.env x=pure x:=by intro _;rfl) (hf:X.fn y=true\/X.env.scope.names.lookup y=some .local:=by first | exact .inl rfl | exact .inr rfl) :
  PS X (.Assign [.Name y py] (.ListComp elt [⟨tg,iter,[tst],0⟩] scope pos) spos) (tAsg (JeL own.length cs wi g tt te) (gName j)):=by
 intro d s σ H D I h;have i:∀ p∈scope.names,p.2=.free->∃ c,X.env.cells.lookup p.1=some c:=fun p K Z=>I.ok.has p.1 (.inl (hfree p K Z));have B:=Jcf (cells:=X.env.cells) scope.names [] (fun _ _ z=>by simp at z) i;rw [exec_Assign_Name_used _ _ _ _ hsw];refine wpAny_bind (wpAny_standAt (wpAny_bind ?_));show wpAny _ X.A (do let _ <- comprehension (.ListComp elt [⟨tg,iter,[tst],0⟩] scope pos) scope X.env _ (newList []) false (eval iter X.env) (some (assign (.Name y py) X.env))) _ _ s;refine wpAny_bind (wpAny_mono (wpAny_comprehension_free (use:=some (assign (.Name y py) X.env)) (Q:=fun _ L=>SP X d D .next L) rfl hs (JeR i) hkind hnames
  (thn (hi d s σ H _ I h) fun v s1 h1=>thn h1 fun a0 s2 S=>?_)) (fun _ L hq=>wpAny_pure (wpAny_pure hq)) fun _ _ e=>e)
 obtain ⟨it,fp,tn,J,H2,rfl,I2,T,E,f2,W,⟨m0,M⟩,k⟩:=S;refine JdR (QN:=fun r l=>∀ p,l p=none->D.nx (σ.set j (some (.ref p))) (upd l p (.lst r))) hc hg ht he hcell hkind B (fun z hz=>Jce scope.names [] z (.inr (Jge hcell hz))) hcs I2 T E f2 M k ?_;intro D' C w l r t dN P dc Y f q;obtain ⟨V,G⟩:=Y;have I8:Inv X d σ (upd l D' (.lst r)) w:=t w.heap (Heap.SameBut.refl _ _);show wpAny _ X.A (assign (.Name y py) X.env (.ref D')) _ _ w;refine wpAny_assign_Name (Jen (v:=.ref D') I8 hN hj hy rfl (fun R I7 u=>?_) hf);obtain ⟨a,U,m⟩:=u;have O:C≠a:=by
  rcases m with rfl | m
  ·exact Nat.ne_of_gt (Nat.lt_of_lt_of_le I2.lt f)
  ·obtain ⟨v,o,F,_⟩:=I2.cell y a m;exact Nat.ne_of_gt (Nat.lt_of_lt_of_le (Heap.lt_size F) f)
 refine ⟨V,G.sameBut U O,fun h8 n=>⟨_,_,?_,q D' dN⟩⟩;exact I7.turned (it:=C) (t':=R.toks) (fun b o hb e=>(n.2 b hb).trans e) (by rw [Jag (Ne.symm dc)];exact P) (Nat.ne_of_gt (Nat.lt_of_lt_of_le I2.lt f)) (.inr (Nat.le_trans I2.sz f)) (fun x c e z=>by
  obtain ⟨v,o,F,_⟩:=I2.cell x c e;exact absurd (Nat.lt_of_lt_of_le (Heap.lt_size F) f) (by rw [z];exact Nat.lt_irrefl _)) (fun p K z=>absurd (Nat.lt_of_lt_of_le (Heap.lt_size (I2.pin p K).1) f) (by rw [z];exact Nat.lt_irrefl _))
section
variable {h':Heap} {s:Shared}
theorem Inv.turnedL {t':Nat} {ch:List Addr} (I:Inv X pins σ H s) (k:∀ b o,b∉ch->s.heap.get? b=some o->h'.get? b=some o) (hf:∀ b∈ch,FpOk X pins H b):Inv X pins σ H { s with heap:=h',toks:=t' }:=by
 have d:∀ b u,H b=some u->b∉ch:=fun b u e z=>by rw [(hf b z).1] at e;cases e
 refine I.step (g':=s.gens) (d':=s.drawn) (ch:=ch) (fun b l=>?_) (fun b o _ _ a e _=>k b o a e) (fun b o _ _ a e _=>⟨o.slots,k b o a e⟩) (fun _ _ _ _ n=>n)
  (fun b o a e=>⟨o,k b o a e⟩) (fun _ _ e=>e) (fun _ _ _ e=>e) (fun b x e=>⟨#[],by rw [e];simp⟩) (fun m f=>?_) (fun b u e=>?_) I.bare
 ·obtain ⟨_,w,_,p,g,j⟩:=hf b l;exact ⟨p,w,g,j⟩
 ·obtain ⟨o,h,i,t,r⟩:=f;exact ⟨o,h,i,k _ o (fun z=>(hf _ z).2.1 rfl) t,r⟩
 ·refine (I.hok b u e).stay (fun c v a q=>k c v ?_ q) (fun _ q=>q) fun _ _ q=>q;rcases a with z | z
  ·rw [z];exact d b u e
  ·exact d c _ z
end
theorem za (n a b:Nat) (h1:a<n) (h2:b<n):ZipApart (n+4) (n+2) (n+3) n (n+1) a b where
 TIz:=Nat.ne_of_lt (show n+2<n+4 by ac_nf)
 TOz:=Nat.ne_of_lt (show n+3<n+4 by ac_nf)
 i1z:=Nat.ne_of_lt (show n<n+4 by ac_nf)
 i2z:=Nat.ne_of_lt (show n+1<n+4 by ac_nf)
 TITO:=Nat.ne_of_lt (show n+2<n+3 by ac_nf)
 TIi1:=Nat.ne_of_gt (show n<n+2 by ac_nf)
 TIi2:=Nat.ne_of_gt (show n+1<n+2 by ac_nf)
 TOi1:=Nat.ne_of_gt (show n<n+3 by ac_nf)
 TOi2:=Nat.ne_of_gt (show n+1<n+3 by ac_nf)
 i12:=Nat.ne_of_lt (show n<n+1 by ac_nf)
 l1z:=Nat.ne_of_lt (show a<n+4 by ac_nf)
 l1TO:=Nat.ne_of_lt (show a<n+3 by ac_nf)
 l1i1:=Nat.ne_of_lt (show a<n by ac_nf)
 l1i2:=Nat.ne_of_lt (show a<n+1 by ac_nf)
 l2z:=Nat.ne_of_lt (show b<n+4 by ac_nf)
 l2TO:=Nat.ne_of_lt (show b<n+3 by ac_nf)
 l2i1:=Nat.ne_of_lt (show b<n by ac_nf)
 l2i2:=Nat.ne_of_lt (show b<n+1 by ac_nf)
def Itz (K:W.Frag) (a b:Addr):It :=
  ⟨fun i H=>∃ xs ys x y,SqL K H a xs/\SqL K H b ys/\xs[i]?=some x/\ys[i]?=some y,
   fun i H v H'=>∃ p x y,(∀ xs,SqL K H a xs->xs[i]?=some x)/\(∀ ys,SqL K H b ys->ys[i]?=some y)/\H p=none/\v=.ref p/\H'=upd H p (.tup [x,y]),
   fun i H=>∃ xs ys,SqL K H a xs/\SqL K H b ys/\(xs.length<=i\/ys.length<=i)⟩
variable {elts:List Expr} {x1:Nat} {tp:Pos}
theorem JjJ {w:World} {K:W.Frag} {z TI TO i1 i2 a b:Addr} (D:ZipApart z TI TO i1 i2 a b) :
  Turn P w K (.Tuple elts x1 tp) (Itz K a b) [z,TI,TO,i1,i2] z (fun i h=>IsZip h z TI TO .none/\IsPair h TI (.ref i1) (.ref i2)/\(∃ u v,IsPair h TO u v)/\h.IsListIter i1 a i/\h.IsListIter i2 b i) where
 mem:=by simp
 obj:=fun i h m c f=>by
  obtain ⟨r,g,⟨u,v,j⟩,C,F⟩:=m;simp only [mem_cons,not_mem_nil,or_false] at f;rcases f with rfl | rfl | rfl | rfl | rfl
  ·exact ⟨_,r,fun v z=>by cases z⟩
  ·exact ⟨_,g,fun v z=>by cases z⟩
  ·exact ⟨_,j,fun v z=>by cases z⟩
  ·obtain ⟨o,e,c,d⟩:=C;exact ⟨o,e,fun v z=>by rw [d] at z;cases z⟩
  ·obtain ⟨o,e,c,d⟩:=F;exact ⟨o,e,fun v z=>by rw [d] at z;cases z⟩
 keep:=fun i h h' m k=>by
  obtain ⟨r,g,⟨u,v,j⟩,C,F⟩:=m;exact ⟨k z (by simp) _ r,k TI (by simp) _ g,⟨u,v,k TO (by simp) _ j⟩,C.at fun o e=>k i1 (by simp) o e,F.at fun o e=>k i2 (by simp) o e⟩
 item:=by
  intro X T hw Y f i B s σ H E I N m hg;subst T hw Y;obtain ⟨r,g,⟨u,v,j⟩,C,F⟩:=m;obtain ⟨xs,ys,x,y,L,J,hx,hy⟩:=hg;obtain ⟨U,rx,R,zx⟩:=I.list L;obtain ⟨a9,ry,Z,zy⟩:=I.list J;obtain ⟨ux,a8,S⟩:=rx.get hx;obtain ⟨uy,a7,V⟩:=ry.get hy;refine wpAny_pyNext_zip_item D r g j C F R.isList Z.isList (x:=ux) (y:=uy) (by simpa using a8) (by simpa using a7) fun h' a1 a2 a3 a4 a5 a6 M=>?_;refine ⟨_,rfl,?_⟩;refine wpAny_letOwnedTupleGo_zip (s:={ s with heap:=h' }) a1 fun G a0 l=>?_;have t:∀ {c o},s.heap.get? c=some o->c≠s.heap.objs.size:=fun e=>Nat.ne_of_lt (Heap.lt_size e);have nz:s.heap.objs.size≠z:=fun q=>t r q.symm;have I1:Inv X B σ H { s with heap:=G,toks:=s.toks }:=I.turnedL (ch:=[z,TI,TO,i1,i2]) (fun c o f e=>by
   simp only [mem_cons,not_mem_nil,or_false,not_or] at f;exact l.extBut _ _ f.1 (M c o f.1 f.2.2.1 f.2.2.2.1 f.2.2.2.2 e)) N
  have fr:H s.heap.objs.size=none:=I.hok.fresh (Nat.le_refl _);have hT:G.get? s.heap.objs.size=some { cls:=.type "tuple",data:=.seq #[ux,uy] }:=l.extBut _ _ nz a5;have I2:=I1.track (a:=s.heap.objs.size) (o:=.tup [x,y]) fr (Heap.get?_none_of_le I.sz) (Nat.ne_of_gt I.lt) (fun n c e q=>by
   obtain ⟨v,o,ho,_⟩:=I.cell n c e;exact t ho q) (fun p hp q=>t (I.pin p hp).1 q) ⟨by show 2<=sizeLine;decide,[ux,uy], .cons S (.cons V .nil),⟨_,hT,rfl,_,rfl⟩⟩
  refine ⟨.ref s.heap.objs.size,_,I2,rfl,⟨_,x,y,fun zs q=>by rw [I.list_inj q L];exact hx,fun zs q=>by rw [I.list_inj q J];exact hy,fr,rfl,rfl⟩,?_,fun c f=>?_⟩
  ·exact ⟨a0,l.extBut _ _ D.TIz (M _ _ D.TIz D.TITO D.TIi1 D.TIi2 g),⟨_,_,l.extBut _ _ D.TOz a2⟩,a3.extBut l.extBut D.i1z,a4.extBut l.extBut D.i2z⟩
  ·have ne:c≠s.heap.objs.size:=by
    simp only [mem_cons,not_mem_nil,or_false] at f;rcases f with rfl | rfl | rfl | rfl | rfl
    ·exact t r
    ·exact t g
    ·exact t j
    ·obtain ⟨o,e,_⟩:=C;exact t e
    ·obtain ⟨o,e,_⟩:=F;exact t e
   rw [Jag ne];exact (N c f).1
 done:=by
  intro X T hw Y f i B s σ H E I N m hg;subst T hw Y;obtain ⟨r,g,⟨u,v,j⟩,C,F⟩:=m;obtain ⟨xs,ys,L,J,O⟩:=hg;obtain ⟨U,rx,R,zx⟩:=I.list L;obtain ⟨a9,ry,Z,zy⟩:=I.list J;have lx:=rx.length;have ly:=ry.length;refine wpAny_pyNext_zip_end (I.ok.hd f) D r g j C F R.isList Z.isList (by
   rcases O with O | O
   ·exact .inl (by simp;ac_nf)
   ·exact .inr (by simp;ac_nf)) fun h' M=>⟨rfl,?_⟩
  exact I.turnedL (t':=s.toks) (ch:=[z,TI,TO,i1,i2]) (fun c o f e=>by
   simp only [mem_cons,not_mem_nil,or_false,not_or] at f;exact M c o f.1 f.2.2.1 f.2.2.2.1 f.2.2.2.2 e) N
 self:=fun A i s Q E m q=>wpAny_pyIter_zip m.1 q
def iZip (K:W.Frag) (ta:TA):TI:=fun σ H R=>ta σ H fun vs H1=>∃ a b,vs=[.ref a, .ref b]/\(∃ xs,SqL K H1 a xs)/\(∃ ys,SqL K H1 b ys)/\R (Itz K a b) H1
theorem Jj4 {a b:Expr} {p:Pos} (hg:Gl X "zip") (hm:X.mg "zip"=none) (hv:bootBuiltins "zip"=some (.type "zip")) (ha:PA X [a,b] ta)
  (he:starEach [a,b] X.env=(false,eval a X.env)::starEach [b] X.env:=by rfl) (hpl:(backTo pos (starEach [b] X.env)).any (·.1)=false:=by rfl) :
  PI X (.Tuple elts x1 tp) (.Call (.Name "zip" p) [a,b] [] pos) (iZip X.K ta):=by
 intro g s σ H R I h;refine wpAny_Call_Name_kw (JdX I hg hm hv ?_);refine PyProof.Rows.callWith_type1 (thn (ha pos g s σ H _ I h) fun M d ζ=>?_) he hpl;obtain ⟨N,x,I1,D,A⟩:=ζ;obtain ⟨i,j,e,⟨W,y⟩,⟨O,w⟩,q⟩:=A;subst e;obtain ⟨u,v,rfl,z,r⟩:=vals2 D;cases (show u=Value.ref i from z);cases (show v=Value.ref j from r);obtain ⟨t,S,n,U⟩:=I1.list y;obtain ⟨L,T,k,Q⟩:=I1.list w;have G:i<d.heap.objs.size:=by obtain ⟨_,e,_⟩:=n.isList;exact Heap.lt_size e
 have J:j<d.heap.objs.size:=by obtain ⟨_,e,_⟩:=k.isList;exact Heap.lt_size e
 refine call_zip_2 n.isList k.isList fun P l o E C F V B=>?_;have ZA:ZipApart (d.heap.objs.size+4) (d.heap.objs.size+2) (d.heap.objs.size+3) d.heap.objs.size (d.heap.objs.size+1) i j:=za _ i j G J;refine wpAny_pyIter_zip l ?_;refine ⟨d.heap.objs.size+4,[d.heap.objs.size+4,d.heap.objs.size+2,d.heap.objs.size+3,d.heap.objs.size,d.heap.objs.size+1],_,_,x,rfl,I1.kept (t':=d.toks) B,JjJ ZA,⟨l,o,⟨_,_,E⟩,C,F⟩,fun c m=>?_,q⟩;have f:d.heap.objs.size<=c:=by
  simp only [mem_cons,not_mem_nil,or_false] at m;rcases m with rfl | rfl | rfl | rfl | rfl
  ·exact Nat.le_add_right _ _
  ·exact Nat.le_add_right _ _
  ·exact Nat.le_add_right _ _
  ·exact Nat.le_refl _
  ·exact Nat.le_add_right _ _
 exact I1.fpOk f (I1.hok.fresh f)
section
variable {ty tv tx:TE} {En:Ends} {td:TE} {K:W.Frag}
theorem y3fy:tDGet td ty σ H Q=td σ H fun x H1=>ty σ H1 fun y H2=>∃ a v,x=.ref a/\DGet H2 a y (some v)/\Q v H2:=rfl
theorem y48y:sDPut td ty tv En σ H=tv σ H fun v H1=>td σ H1 fun x H2=>ty σ H2 fun y H3=>∃ a H4,x=.ref a/\DPut H3 a y v H4/\En.nx σ H4:=rfl
theorem y44y:Jkc σ H Q=∀ p,H p=none->Q (.ref p) (upd H p (.dK [])):=rfl
end
theorem hu1 {a b:Nat} (h:a+64<b):a+1<b:=by ac_nf
def rMul0:R2:=fun x y H Q=>match x,y with
 | .str z, .int n=>0<=n/\n<1000/\z.length<=1000/\∀ z':Str,z'.cps.toList=(List.replicate n.toNat z.cps.toList).flatten->Q (.str z') H
 | x,y=>rMulS x y H Q
theorem JaM:OpR X (binaryOp .Mult) rMul0:=fun a s σ H x y v u Q I b c q=>by
 unfold rMul0 at q;split at q
 ·rename_i z n;obtain ⟨h,f,d,q⟩:=q;by_cases e:n=0
  ·subst e;obtain ⟨t,rfl⟩:=b;obtain ⟨g,rfl⟩:=c;exact PySem.P.mul_str_none ⋯ ⋯ ⟨.str _,H,I.tok _,⟨_,rfl⟩,q Str.empty rfl⟩
  ·exact Jij a s σ H _ _ v u Q I b c ⟨by ac_nf,f,d,q⟩
 ·exact Jij a s σ H _ _ v u Q I b c q
section
variable {ty:TE} {K:W.Frag} {td:TE}
theorem y6fy {i j:Int}:rMul0 (.int i) (.int j) H Q=(IntMulOk i j/\Q (.int (i*j)) H):=rfl
theorem y40y:Jka td ty σ H Q=td σ H fun x H1=>∃ a,x=.ref a/\IsD H1 a/\ty σ H1 fun y H2=>∃ o,DGet H2 a y o/\Q (o.getD .non) H2:=rfl
end
variable {a:Addr}
theorem ForA.byL {K:W.Frag} {g:TG} {D:Ends} (hA:SqL K H a xs) (Pv:Nat->St->Hp->Prop) (h0:Pv 0 σ H) (hl:∀ i σ H',Pv i σ H'->SqL K H' a xs)
  (hs:∀ i x σ H,xs[i]?=some x->Pv i σ H->g x σ H fun σ2 H2=>tb { D with nx:=Pv (i+1),ct:=Pv (i+1),bk:=D.nx } σ2 H2) (hd:∀ σ H,Pv xs.length σ H->D.nx σ H):ForA K a g tb D σ H:=by
 refine .inl ⟨⟨xs,hA⟩,fun i m σ H=>Pv i σ H/\i<=xs.length/\m=xs.length-i,⟨_,h0,Nat.zero_le _,rfl⟩,?_⟩;rintro i m σ H ⟨d,h,rfl⟩;have c:=hl i σ H d;by_cases b:i<xs.length
 ·refine .inr ⟨⟨xs,xs[i],c,List.getElem?_eq_getElem b⟩,Pv (i+1),fun σ' H' p=>⟨_,Nat.sub_lt_sub_left b (Nat.lt_succ_self i),p,b,rfl⟩,?_⟩;rintro x H' ⟨rfl,f⟩;exact hs i x σ _ (f xs c) d
 ·have e:i=xs.length:=by ac_nf
  subst e;exact .inl ⟨⟨xs,c,Nat.le_refl _⟩,hd σ H d⟩
def ForJ (J:It) (g:TG) (tb:TS) (D:Ends) (σ : St) (H:Hp):Prop:=∃ W:Nat->Nat->St->Hp->Prop,(∃ m,W 0 m σ H)/\∀ i m σ H,W i m σ H ->
 (J.stop i H/\D.nx σ H)\/(J.go i H/\∃ N:St->Hp->Prop,(∀ σ' H',N σ' H'->∃ m',m'<m/\W (i+1) m' σ' H')/\∀ x H',J.yld i H x H'->g x σ H' fun σ2 H2=>tb { D with nx:=N,ct:=N,bk:=D.nx } σ2 H2)
theorem y57y {K:W.Frag} {g:TG} {D:Ends}:tFor (iZip K ta) g tb D σ H=ta σ H fun vs H1=>∃ a b,vs=[.ref a, .ref b]/\(∃ xs,SqL K H1 a xs)/\(∃ ys,SqL K H1 b ys)/\ForJ (Itz K a b) g tb D σ H1:=rfl
theorem ForJ.zip {K:W.Frag} {b:Addr} {ys:List V} {g:TG} {D:Ends} (Pv:Nat->St->Hp->Prop) (h0:Pv 0 σ H) (hl:∀ i σ H',Pv i σ H'->SqL K H' a xs/\SqL K H' b ys)
  (hs:∀ i x y σ H p H',xs[i]?=some x->ys[i]?=some y->Pv i σ H->H p=none->Same H H'->H' p=some (.tup [x,y])->g (.ref p) σ H' fun σ2 H2=>tb { D with nx:=Pv (i+1),ct:=Pv (i+1),bk:=D.nx } σ2 H2)
  (hd:∀ σ H,Pv (min xs.length ys.length) σ H->D.nx σ H):ForJ (Itz K a b) g tb D σ H:=by
 refine ⟨fun i m σ H=>Pv i σ H/\i<=min xs.length ys.length/\m=min xs.length ys.length-i,⟨_,h0,Nat.zero_le _,rfl⟩,?_⟩;rintro i m σ H ⟨c,q,rfl⟩;obtain ⟨f,d⟩:=hl i σ H c;by_cases j:i<min xs.length ys.length
 ·have l:i<xs.length:=by ac_nf
  have n:i<ys.length:=by ac_nf
  refine .inr ⟨⟨xs,ys,xs[i],ys[i],f,d,List.getElem?_eq_getElem l,List.getElem?_eq_getElem n⟩,Pv (i+1),fun σ' H' p=>⟨_,Nat.sub_lt_sub_left j (Nat.lt_succ_self i),p,j,rfl⟩,?_⟩;rintro v H' ⟨p,x,y,k,o,h,rfl,rfl⟩;exact hs i x y σ H p _ (k xs f) (o ys d) c h (newS h rfl) (newE rfl)
 ·have e:i=min xs.length ys.length:=by ac_nf
  subst e;exact .inl ⟨⟨xs,ys,f,d,by ac_nf⟩,hd σ H c⟩
variable {H1:Hp}
theorem compL {K:W.Frag} {k:Nat} {g:TG} (Pv:Nat->List V->Hp->Prop) (h0:Pv 0 [] H1) (hl:∀ i ys H',i<=xs.length->Pv i ys H'->SqL K H' a xs/\ys.length<=sizeLine)
  (hs:∀ i x ys H2,xs[i]?=some x->Pv i ys H2->g x (List.replicate k none++Jax cs σ) H2 fun σ4 H4=>te σ4 H4 fun y H5=>Pv (i+1) (ys++[y]) H5) (hd:∀ ys H2,Pv xs.length ys H2->∀ p,H2 p=none->Q (.ref p) (upd H2 p (.lst ys))) :
  ∃ W:Nat->Nat->List V->Hp->Prop,(∃ m,W 0 m [] H1)/\∀ i m ys H2,W i m ys H2->ys.length<=sizeLine/\(((Itl K a).stop i H2/\∀ p,H2 p=none->Q (.ref p) (upd H2 p (.lst ys))) \/
   ((Itl K a).go i H2/\∀ x H3,(Itl K a).yld i H2 x H3->g x (List.replicate k none++Jax cs σ) H3 fun σ4 H4=>te σ4 H4 fun y H5=>∃ m',m'<m/\W (i+1) m' (ys++[y]) H5)):=by
 refine ⟨fun i m ys H2=>Pv i ys H2/\i<=xs.length/\m=xs.length-i,⟨_,h0,Nat.zero_le _,rfl⟩,?_⟩;rintro i m ys H2 ⟨c,h,rfl⟩;obtain ⟨d,f⟩:=hl i ys H2 h c;refine ⟨f,?_⟩;by_cases b:i<xs.length
 ·refine .inr ⟨⟨xs,xs[i],d,List.getElem?_eq_getElem b⟩,?_⟩;rintro x H3 ⟨rfl,j⟩;have e:(fun (σ4:St) (H4:Hp)=>te σ4 H4 fun y H5=>Pv (i+1) (ys++[y]) H5)=fun σ4 H4=>te σ4 H4 fun y H5=>∃ m',m'<xs.length-i/\Pv (i+1) (ys++[y]) H5/\i+1<=xs.length/\m'=xs.length-(i+1):=by
   funext σ4 H4
   congr 1
   funext y H5
   exact propext ⟨fun q=>⟨_,Nat.sub_lt_sub_left b (Nat.lt_succ_self i),q,b,rfl⟩,fun ζ=>by obtain ⟨_,_,q,_⟩:=ζ;exact q⟩
  rw [<- e];exact hs i x ys _ (j xs d) c
 ·have e:i=xs.length:=by ac_nf
  subst e;exact .inl ⟨⟨xs,d,Nat.le_refl _⟩,hd ys H2 c⟩
theorem JlA {K:W.Frag} {k:Nat} {g:TG} (Pv:Nat->List V->Hp->Prop) (h0:Pv 0 [] H1) (hl:∀ i ys H',i<=xs.length->Pv i ys H'->SqL K H' a xs/\ys.length<=sizeLine)
  (hs:∀ i x ys H2,xs[i]?=some x->Pv i ys H2->g x (List.replicate k none++Jax cs σ) H2 fun σ4 H4=>tt σ4 H4 fun b H5=>if b=true then te σ4 H5 fun y H6=>Pv (i+1) (ys++[y]) H6 else Pv (i+1) ys H5) (hd:∀ ys H2,Pv xs.length ys H2->∀ p,H2 p=none->Q (.ref p) (upd H2 p (.lst ys))) :
  ∃ W:Nat->Nat->List V->Hp->Prop,(∃ m,W 0 m [] H1)/\∀ i m ys H2,W i m ys H2->ys.length<=sizeLine/\(((Itl K a).stop i H2/\∀ p,H2 p=none->Q (.ref p) (upd H2 p (.lst ys))) \/
   ((Itl K a).go i H2/\∀ x H3,(Itl K a).yld i H2 x H3->g x (List.replicate k none++Jax cs σ) H3 fun σ4 H4=>tt σ4 H4 fun b H5=>if b=true then te σ4 H5 fun y H6=>∃ m',m'<m/\W (i+1) m' (ys++[y]) H6 else ∃ m',m'<m/\W (i+1) m' ys H5)):=by
 refine ⟨fun i m ys H2=>Pv i ys H2/\i<=xs.length/\m=xs.length-i,⟨_,h0,Nat.zero_le _,rfl⟩,?_⟩;rintro i m ys H2 ⟨j,n,rfl⟩;obtain ⟨h,o⟩:=hl i ys H2 n j;refine ⟨o,?_⟩;by_cases f:i<xs.length
 ·refine .inr ⟨⟨xs,xs[i],h,List.getElem?_eq_getElem f⟩,?_⟩;rintro x H3 ⟨rfl,l⟩;have w:∀ (d:List V) (H5:Hp),Pv (i+1) d H5=∃ m',m'<xs.length-i/\Pv (i+1) d H5/\i+1<=xs.length/\m'=xs.length-(i+1):=fun d H5=>
   propext ⟨fun q=>⟨_,Nat.sub_lt_sub_left f (Nat.lt_succ_self i),q,f,rfl⟩,fun ζ=>by obtain ⟨_,_,q,_⟩:=ζ;exact q⟩
  have r:(fun (y:V) (H6:Hp)=>Pv (i+1) (ys++[y]) H6)=fun y H6=>∃ m',m'<xs.length-i/\Pv (i+1) (ys++[y]) H6/\i+1<=xs.length/\m'=xs.length-(i+1):=by
   funext y H6
   exact w _ _
  have e:(fun (σ4:St) (H4:Hp)=>tt σ4 H4 fun b H5=>if b=true then te σ4 H5 fun y H6=>Pv (i+1) (ys++[y]) H6 else Pv (i+1) ys H5)=fun σ4 H4=>tt σ4 H4 fun b H5=>if b=true then te σ4 H5 fun y H6=>∃ m',m'<xs.length-i/\Pv (i+1) (ys++[y]) H6/\i+1<=xs.length/\m'=xs.length-(i+1) else ∃ m',m'<xs.length-i/\Pv (i+1) ys H5/\i+1<=xs.length/\m'=xs.length-(i+1):=by
   funext σ4 H4
   congr 1
   funext b H5
   by_cases c:b=true
   ·rw [if_pos c,if_pos c, <- r]
   ·rw [if_neg c,if_neg c];exact w ys H5
  have:=hs i x ys _ (l xs h) j;rw [e] at this;exact this
 ·have e:i=xs.length:=by ac_nf
  subst e;exact .inl ⟨⟨xs,h,Nat.le_refl _⟩,hd ys H2 j⟩
end L2
namespace Ch
open PySem
structure TD where
 nm:Str
 st:Str
 en:Str
 lo:Option (Int × Int)
 hi:Option (Int × Int)
structure SD where
 src:Str
 dst:Str
 c:Int × Int
 nm:Str
 fw:Bool
def fwd (t:TD):List SD:=match t.hi with
 | some h=>[⟨t.st,t.en,h,t.nm,true⟩]
 | none=>[]
def bwd (t:TD):List SD:=match t.lo with
 | some l=>[⟨t.en,t.st,(-l.1,l.2),t.nm,false⟩]
 | none=>[]
def steps (t:TD):List SD:=fwd t++bwd t
def all (ts:List TD):List SD:=ts.flatMap steps
abbrev Pr:=Str × Bool
def key (s:SD):Pr:=(s.nm,s.fw)
def lastA (acc:Option SD) (ss:List SD) (k:Pr):Option SD:=ss.foldl (fun a s=>if key s=k then some s else a) acc
def last (ss:List SD) (k:Pr):Option SD:=lastA none ss k
def addF (a c:Int × Int):Int × Int:=(Mth.top (a.1*c.2+c.1*a.2) (a.2*c.2),Mth.bot (a.1*c.2+c.1*a.2) (a.2*c.2))
structure FOk (n:Nat) (a:Int × Int):Prop where
 s1:Mth.Sz n a.1
 s2:Mth.Sz n a.2
 b1:1<=a.2
 g1:Mth.g a.1 a.2=1
end Ch
namespace L2
open PySem PySem.Spec PyProof.Rows Ch
def isTF:HO->Bool
 | .tup _=>true
 | .frz _ _=>true
 | _=>false
def SameT (H H':Hp):Prop:=∀ b u,isTF u=true->H b=some u->H' b=some u
theorem SameT.refl (H:Hp):SameT H H:=fun _ _ _ h=>h
variable {H H1:Hp}
theorem SameT.trans {H2:Hp} (a:SameT H H1) (b:SameT H1 H2):SameT H H2:=fun c o t h=>b c o t (a c o t h)
variable {H':Hp}
theorem Same.t (a:Same H H'):SameT H H':=fun b u _ h=>a b u h
theorem SameT.put {l:Addr} {o o':HO} (e:upd H l o=H') (hl:H l=some o') (ht:isTF o'=false):SameT H H':=fun b u t h=>by
 rw [<- e,Jag (ne_of h hl fun q=>by rw [q,ht] at t;cases t)];exact h
variable {xs:List V}
theorem SqT.sameT {K:W.Frag} {a:Addr} (e:SameT H H') (h:SqT K H a xs):SqT K H' a xs:=by
 rcases h with (h | ⟨o,h⟩) | h
 ·exact .inl (.inl (e _ _ rfl h))
 ·exact .inl (.inr ⟨o,e _ _ rfl h⟩)
 ·exact .inr h
variable {v:V} {b:Int}
theorem FrV.sameT {K:W.Frag} {a:Int} (S:SameT H H') (h:FrV K H v a b):FrV K H' v a b:=by
 obtain ⟨p,e,q⟩:=h;exact ⟨p,e,q.sameT S⟩
def frD (a:Int × Int):D:=.tup [.int a.1, .int a.2]
def bD:Option (Int × Int)->D
 | none=>.non
 | some a=>frD a
def BV (K:W.Frag) (H:Hp):Option (Int × Int)->V->Prop
 | none,v=>v=.non
 | some a,v=>FrV K H v a.1 a.2
theorem BV.sameT {K:W.Frag} {o:Option (Int × Int)} (S:SameT H H') (h:BV K H o v):BV K H' o v:=by
 cases o with
 | none=>exact h
 | some a=>exact FrV.sameT S h
def TV (K:W.Frag) (H:Hp) (t:TD) (x:V):Prop:=∃ b vl vg,x=.ref b/\SqT K H b [.str t.nm, .str t.st, .str t.en,vl,vg]/\BV K H t.lo vl/\BV K H t.hi vg
def CV (H:Hp) (c:Pr) (x:V):Prop:=∃ b,x=.ref b/\H b=some (.tup [.str c.1, .bl c.2])
section
variable {K:W.Frag} {x:V}
theorem TV.sameT {t:TD} (S:SameT H H'):TV K H t x->TV K H' t x:=by rintro ⟨b,vl,d,e,q,a,c⟩;exact ⟨b,vl,d,e,q.sameT S,a.sameT S,c.sameT S⟩
variable {c:Pr}
theorem CV.sameT (S:SameT H H'):CV H c x->CV H' c x:=fun ζ=>by obtain ⟨b,e,q⟩:=ζ;exact ⟨b,e,S _ _ rfl q⟩
end
variable {α:Type}
def All2 (P : α->V->Prop):List α->List V->Prop
 | [],xs=>xs=[]
 | a::as,xs=>∃ x r,xs=x::r/\P a x/\All2 P as r
section
variable {P P' : α->V->Prop}
theorem All2.mono:∀ {as:List α} {xs:List V},(∀ a x,P a x->P' a x)->All2 P as xs->All2 P' as xs
 | [],_,_,h=>h
 | a::as,xs,f,h=>by
  obtain ⟨x,r,e,h1,h2⟩:=h;exact ⟨x,r,e,f _ _ h1,All2.mono f h2⟩
theorem All2.length:∀ {as:List α} {xs:List V},All2 P as xs->xs.length=as.length
 | [],_,h=>by rw [show _=_ from h];rfl
 | a::as,xs,h=>by
  obtain ⟨x,r,e,h1,h2⟩:=h;rw [e,length_cons,length_cons,h2.length]
theorem All2.at_:∀ {as:List α} {xs:List V} {i:Nat} {x:V},All2 P as xs->xs[i]?=some x->∃ a,as[i]?=some a/\P a x
 | [],_,_,_,h,hx=>by rw [show _=_ from h] at hx;simp at hx
 | a::as,xs,i,y,h,hx=>by
  obtain ⟨x,r,e,h1,h2⟩:=h;subst e;cases i with
  | zero=>simp at hx;subst hx;exact ⟨a,rfl,h1⟩
  | succ i=>simpa using All2.at_ h2 (by simpa using hx)
theorem All2.get:∀ {as:List α} {xs:List V} {i:Nat} {a : α},All2 P as xs->as[i]?=some a->∃ x,xs[i]?=some x/\P a x
 | [],_,_,_,h,hx=>by simp at hx
 | a::as,xs,i,b,h,hx=>by
  obtain ⟨x,r,e,h1,h2⟩:=h;subst e;cases i with
  | zero=>simp at hx;subst hx;exact ⟨x,rfl,h1⟩
  | succ i=>simpa using All2.get h2 (by simpa using hx)
theorem All2.append:∀ {as bs:List α} {xs ys:List V},All2 P as xs->All2 P bs ys->All2 P (as++bs) (xs++ys)
 | [],bs,xs,ys,h,g=>by rw [show xs=[] from h];exact g
 | a::as,bs,xs,ys,h,g=>by
  obtain ⟨x,r,e,h1,h2⟩:=h;subst e;exact ⟨x,r++ys,rfl,h1,All2.append h2 g⟩
theorem All2.one {a : α} {x:V} (h:P a x):All2 P [a] [x]:=⟨x,[],rfl,h,rfl⟩
end
structure TOk (t:TD):Prop where
 n1:nameS t.nm=true
 n2:nameS t.st=true
 n3:nameS t.en=true
 ne:t.st≠t.en
 lo:∀ a,t.lo=some a->FOk 600 a
 hi:∀ a,t.hi=some a->FOk 600 a
 le:lessD (bD t.hi) (bD t.lo)=false
variable {z:Str}
theorem len8 (h:nameS z=true):z.length<=8:=by
 unfold nameS at h;simp only [Bool.and_eq_true,decide_eq_true_eq] at h;exact h.1.2
section
variable {kvs:List (List Key × V)} {ss:List SD} {K:W.Frag}
end
def CompJ (J:It) (k:Nat) (cs:List (Nat × Str)) (g:TG) (te:TE) (σ : St) (Q:VK) (H1:Hp):Prop:=∃ W:Nat->Nat->List V->Hp->Prop,(∃ m,W 0 m [] H1)/\∀ i m ys H2,W i m ys H2->ys.length<=sizeLine /\
  ((J.stop i H2/\∀ p,H2 p=none->Q (.ref p) (upd H2 p (.lst ys))) \/
   (J.go i H2/\∀ x H3,J.yld i H2 x H3->g x (List.replicate k none++Jax cs σ) H3 fun σ4 H4=>te σ4 H4 fun y H5=>∃ m',m'<m/\W (i+1) m' (ys++[y]) H5))
def JbF (J:It) (k:Nat) (cs:List (Nat × Str)) (g:TG) (tt:TT) (te:TE) (σ : St) (Q:VK) (H1:Hp):Prop:=∃ W:Nat->Nat->List V->Hp->Prop,(∃ m,W 0 m [] H1)/\∀ i m ys H2,W i m ys H2->ys.length<=sizeLine /\
  ((J.stop i H2/\∀ p,H2 p=none->Q (.ref p) (upd H2 p (.lst ys))) \/
   (J.go i H2/\∀ x H3,J.yld i H2 x H3->g x (List.replicate k none++Jax cs σ) H3 fun σ4 H4=>tt σ4 H4 fun b H5=>if b=true then te σ4 H5 fun y H6=>∃ m',m'<m/\W (i+1) m' (ys++[y]) H6 else ∃ m',m'<m/\W (i+1) m' ys H5))
section
variable {cs:List (Nat × Str)} {tt:TT} {te tl:TE} {σ:St} {Q:VK} {a:Addr} {K:W.Frag} {k:Nat} {g:TG}
theorem y35y:tComp k cs (iAny K tl) g te σ H Q=tl σ H fun x H1=>∃ a,x=.ref a/\(((∃ xs,SqL K H1 a xs)/\CompJ (Itl K a) k cs g te σ Q H1)\/((∃ xs,SqT K H1 a xs)/\CompJ (Itt K a) k cs g te σ Q H1)):=rfl
theorem y37y:JeL k cs (iAny K tl) g tt te σ H Q=tl σ H fun x H1=>∃ a,x=.ref a/\(((∃ xs,SqL K H1 a xs)/\JbF (Itl K a) k cs g tt te σ Q H1)\/((∃ xs,SqT K H1 a xs)/\JbF (Itt K a) k cs g tt te σ Q H1)):=rfl
theorem CompJ.list (Pv:Nat->List V->Hp->Prop) (h0:Pv 0 [] H1) (hl:∀ i ys H',i<=xs.length->Pv i ys H'->SqL K H' a xs/\ys.length<=sizeLine)
  (hs:∀ i x ys H2,xs[i]?=some x->Pv i ys H2->g x (List.replicate k none++Jax cs σ) H2 fun σ4 H4=>te σ4 H4 fun y H5=>Pv (i+1) (ys++[y]) H5) (hd:∀ ys H2,Pv xs.length ys H2->∀ p,H2 p=none->Q (.ref p) (upd H2 p (.lst ys))) :
  CompJ (Itl K a) k cs g te σ Q H1:=compL Pv h0 hl hs hd
theorem JbF.list (Pv:Nat->List V->Hp->Prop) (h0:Pv 0 [] H1) (hl:∀ i ys H',i<=xs.length->Pv i ys H'->SqL K H' a xs/\ys.length<=sizeLine)
  (hs:∀ i x ys H2,xs[i]?=some x->Pv i ys H2->g x (List.replicate k none++Jax cs σ) H2 fun σ4 H4=>tt σ4 H4 fun b H5=>if b=true then te σ4 H5 fun y H6=>Pv (i+1) (ys++[y]) H6 else Pv (i+1) ys H5) (hd:∀ ys H2,Pv xs.length ys H2->∀ p,H2 p=none->Q (.ref p) (upd H2 p (.lst ys))) :
  JbF (Itl K a) k cs g tt te σ Q H1:=JlA Pv h0 hl hs hd
end
theorem Jjb {x f:Int} (h0:0<=x) (h1:x<2*f):x.fmod f=x\/x.fmod f=x-f:=by
 rw [Int.fmod_eq_emod_of_nonneg _ ∅];by_cases c:x<f
 ·exact .inl (Int.emod_eq_of_lt h0 c)
 ·refine .inr ?_;have e:(x-f+f) % f=(x-f) % f:=by simp
  rw [Int.sub_add_cancel] at e;rw [e,Int.emod_eq_of_lt ∅ ∅]
theorem JdK (x y:Str):(x++y).cps.toList=x.cps.toList++y.cps.toList:=by
 show (x.cps++y.cps).toList=_;simp
theorem JcP (z:Str):z.length=z.cps.toList.length:=by simp [Str.length]
section
variable {ss:List SD} {c:Pr} {cs:List Pr} {tot:Int × Int} {l:Str} {s:SD} {f:Str}
end
variable {n:Nat}
theorem JgL {f : α->D} (h:∀ a,depD (f a)<=n):∀ as:List α,depL (as.map f)<=n
 | []=>by simp [depL]
 | a::as=>by
  rw [map_cons,depL];exact Nat.max_le.mpr ⟨h a,JgL h as⟩
section
variable {Q:VK} {K:W.Frag}
end
section
variable {prog:Program} {A:Around} {E:Value->Shared->Prop} {w:World} {s:Shared}
end
section
variable {prog:Program} {A:Around} {E:Value->Shared->Prop} {w:World} {s:Shared}
end
section
variable {prog:Program} {A:Around} {E:Value->Shared->Prop} {w:World} {s:Shared}
end
section
variable {M:Model} {A:Around} {E:Value->Shared->Prop} {s:Shared}
end
section
variable {prog:Program} {A:Around} {E:Value->Shared->Prop} {w:World} {s:Shared}
section
variable {I a:Addr} {es:Array (Int × Value)} {ep:Nat} {Q:Option Value->Shared->Prop} {i:Nat} {t:SetTable}
end
end
section
variable {prog:Program} {A:Around} {E:Value->Shared->Prop} {w:World} {s:Shared}
end
section
variable {prog:Program} {A:Around} {E:Value->Shared->Prop} {w:World} {s:Shared}
end
theorem JkL:typeLookup (.type "list") "keys"=pure none:=by rw [typeLookup_type,builtinLookup_eq_fast];kernel_rfl
section
variable {prog:Program} {A:Around} {E:Value->Shared->Prop} {a:Addr} {its:Array Value} {w:World} {s:Shared}
theorem JkF {Q:Option Value->Shared->Prop} (hh:A.handled=none) (hx:s.heap.get? a=some { cls:=.type "list",dict:=none,data:=.seq its n,slots:=#[] })
   (q:∀ h' t',(∀ b o,s.heap.get? b=some o->h'.get? b=some o)->Q none { s with heap:=h',toks:=t' }) :
    wpAny (model prog w) A (getAttr? (.ref a) "keys") Q E s:=by
  obtain ⟨j,g,d,p,i⟩:=s;have h:∀ c,(⟨j,g,d,c,i⟩:Shared).TypeIs (.ref a) "list":=fun _=>⟨_,hx,rfl⟩;have r:=sub_AttributeError;have t:=PySem.F.slot_list_getattribute.lookup;have u:=PySem.F.slot_list_getattribute.bind (.ref a);have m:=am_list_getattr_none;unfold getAttr?;unfold getAttrBy?;unfold getAttrBy;repeat (any_goals (first | assumption | exact h _ | ((with_reducible show wpAny _ _ (call (Value.builtin "list.__getattribute__") _ _) _ _ _);refine call_meets PySem.F.slot_list_getattribute (h _) am_entry_list_getattribute (PySem.F.args_list_getattribute_2 _ _) (meets_getattribute_miss_list a its n #[] "keys" _ JkL (by decide +kernel) ⋯) ⟨hx,hh,fun h' c e f=>?_⟩) | wp_step))
  obtain ⟨t',k,l⟩:=f.there;show wpAny _ _ (getattributeRaised _ _ _ _ _ _ _) _ _ _;unfold getattributeRaised;repeat (any_goals (first | assumption | wp_step))
  exact q h' c f.keeps
end
theorem JfD:entryFor table "dict.update.loop"=some Builtin.«dict.update.loop»:=entryFor_of_tree (by kernel_rfl)
theorem Jdf:plainId "dict.update.loop"=true:=by decide +kernel
def dkv (key:Nat->Str) (val:Nat->Value) (i:Nat):List (Key × Value):=(List.range i).foldl (fun l j=>PySem.stored l (Sum.inr (key j)) (val j)) []
theorem JeT (key:Nat->Str) (val:Nat->Value) (i:Nat):dkv key val (i+1)=PySem.stored (dkv key val i) (Sum.inr (key i)) (val i):=by
 unfold dkv;rw [List.range_succ,List.foldl_append];rfl
theorem Jga (key:Nat->Str) (val:Nat->Value):∀ i,(dkv key val i).length<=i
 | 0=>Nat.le_refl _
 | i+1=>by
  have:=Jga key val i;rw [JeT];unfold PySem.stored;split <;> simp <;> ac_nf
section
variable {prog:Program} {A:Around} {E:Value->Shared->Prop} {w:World} {s:Shared}
def JdD (h:Heap) (a:Addr) (k v:Value):Prop:=∃ o c,h.get? a=some o/\o.cls=.type "tuple"/\o.data=.seq #[k,v] c
variable {h:Heap}
theorem JdD.at_ {h':Heap} {a:Addr} {k v:Value} (x:JdD h a k v) (m:∀ o,h.get? a=some o->h'.get? a=some o):JdD h' a k v:=by
 obtain ⟨o,c,e,r⟩:=x;exact ⟨o,c,m o e,r⟩
theorem JkO {t:Tok}:(Jau prog w).is (Sum.inr z) (.str z t)=true:=by
 show keyIs (Sum.inr z) (.str z t)=true;simp [keyIs,Value.isStrOf]
theorem JhR {R:Result->Shared->Prop} {I:Addr} {fp wr:List Addr} {G:Array GenState->Array GenState->Prop} {P:Nat->Value->Prop} {St:Nat->Shared->Prop}
  (W:WalksS prog w A.in1 I fp wr G n P St) (d:Addr) (hdf:d∉fp) (adr:Nat->Addr) (key:Nat->Str) (val:Nat->Value) (hP:∀ i v,P i v->v=.ref (adr i)) (nd:∀ i,i<n->adr i≠d) (nw:∀ i,i<n->adr i∉wr) (hz:n<=sizeLine) :
  ∀ (k i:Nat) (s:Shared),n-i=k->i<=n->St i s->s.heap.DictOf (Jau prog w) d (dkv key val i)->(∀ j,j<n->∃ tk,JdD s.heap (adr j) (.str (key j) tk) (val j)) ->
   (∀ s',Moved (d::wr) G s s'->s'.heap.DictOf (Jau prog w) d (dkv key val n)->R (.ok (.ret .none)) s') ->
   codeAny (model prog w) A (.builtin "dict.update.loop" ⟨[.ref d, .ref I, .int (i:Int) 0, .none],[]⟩) R s:=by
 have N:d∉wr:=fun h=>hdf (W.sub _ h);have O:∀ b∈wr,b∈d::wr:=fun b h=>mem_cons_of_mem _ h;intro k;induction k with
 | zero=>
  intro i s U V F C l q;have : i=n:=by ac_nf
  subst this;refine codeAny_builtin JfD ?_;rw [Around.under_plainId Jdf _];refine wpAny_bind (m:=pyNext (.ref I)) (W.done s _ _ F fun s' f=>?_);refine wpAny_bind (m:=Builtin.Dict.addKeywords d []) (wpAny_pure (wpAny_pure ?_));refine q s' (f.mono O) ?_;obtain ⟨o,t,x,J,rest⟩:=C;exact ⟨o,t,x,f.heap d o N J,rest⟩
 | succ k ih=>
  intro i s U V F C l q;have c:i<n:=by ac_nf
  refine codeAny_builtin JfD ?_;rw [Around.under_plainId Jdf _];refine wpAny_bind (m:=pyNext (.ref I)) (W.item i s _ _ c F fun v s' Y r f=>?_);rw [hP i v Y];have H:s'.heap.DictOf (Jau prog w) d (dkv key val i):=by
   obtain ⟨o,t,x,J,rest⟩:=C;exact ⟨o,t,x,f.heap d o N J,rest⟩
  have a:∀ j,j<n->∃ tk,JdD s'.heap (adr j) (.str (key j) tk) (val j):=fun j g=>by
   obtain ⟨tk,e⟩:=l j g;exact ⟨tk,e.at_ fun o z=>f.heap _ o (nw j g) z⟩
  obtain ⟨tk,ot,ct,L,K,E⟩:=a i c;have dl:=Jga key val i;refine wpAny_bind (wpAny_holding ?_);refine wpAny_bind (wpAny_tryCatch ?_);unfold Builtin.Dict.pairItems;refine wpAny_bind (wpAny_typeOf (T:="tuple") ⟨_,L,K⟩ ?_);rw [if_pos ⋯];unfold seqItems?;refine wpAny_bind (wpAny_bind (wpAny_load L ?_));rw [E];refine wpAny_pure (wpAny_pure ?_);show wpAny _ _ (holding [Value.str (key i) tk,val i] (dictSet d (.str (key i) tk) (val i))) _ _ _;refine wpAny_holding (wpAny_dictSet_pairs (knd:=Jau prog w) (k:=Sum.inr (key i)) JkO H (fun M X p=>?_) ∅);have u:M.DictOf (Jau prog w) d (dkv key val (i+1)):=by
   rw [JeT];exact X
  refine wpAny_pure ⟨plainId_quiet Jdf _,ih (i+1) { s' with heap:=M,toks:=s'.toks+1 } ∅ c (W.frame _ s' _ _ r (Nat.le_succ _) fun b y o e=>?_) u (fun j g=>?_) fun S Q D=>?_⟩
  ·rw [p.2 b (fun h:b=d=>hdf (h ▸ y))];exact e
  ·obtain ⟨B,Z⟩:=a j g;exact ⟨B,Z.at_ fun o z=>(p.2 _ (nd j g)).trans z⟩
  ·refine q S (Moved.trans W.gtrans ((f.mono O).then_heap (Nat.le_succ _) fun b o y e=>?_) Q) D;rw [p.2 b (fun h:b=d=>y (by rw [h];exact mem_cons_self))];exact e
variable {l:Addr}
theorem JdQ {items:Array Value} {c0:Nat} {Q:Value->Shared->Prop} (hh:A.handled=none) (hl:s.heap.get? l=some { cls:=.type "list",dict:=none,data:=.seq items c0,slots:=#[] }) (adr:Nat->Addr) (key:Nat->Str) (val:Nat->Value)
  (hP:∀ (i:Nat) (v:Value),items[i]?=some v->v=.ref (adr i)) (tup:∀ j,j<items.size->∃ tk,JdD s.heap (adr j) (.str (key j) tk) (val j)) (hz:items.size<=sizeLine)
  (q:∀ h' tk,(∀ b o,s.heap.get? b=some o->h'.get? b=some o)->h'.DictOf (Jau prog w) s.heap.objs.size (dkv key val items.size)->Q (.ref s.heap.objs.size) { s with heap:=h',toks:=tk }) :
  wpAny (model prog w) A (call (.type "dict") [.ref l]) Q E s:=by
 refine callType_codes (Q₁:=fun f I=>f=.ref s.heap.objs.size/\I={ s with heap:=s.heap.push { cls:=.type "dict",data:=.dict #[] } }) (PySem.F.kt_called_dict) (PySem.F.kt_typeCall_dict_1 _) (PySem.F.entry_dict_init) (kt_code_dict_new _ ⟨rfl,rfl⟩) ?_;rintro f I ⟨rfl,rfl⟩;have h:(s.heap.push { cls:=.type "dict",data:=.dict #[] }).DictOf (Jau prog w) s.heap.objs.size []:=Heap.DictOf.new s.heap;refine ⟨h.typeIs,PySem.F.args_dict_init_2 _ _,?_⟩;generalize m:({ cls:=.type "dict",data:=.dict #[] }:Obj)=o0 at h ⊢;have p:(s.heap.push o0).get? l=some { cls:=.type "list",dict:=none,data:=.seq items c0,slots:=#[] }:=Heap.get?_push_of_some _ hl;have R:=Heap.lt_size hl;have V:(s.heap.push o0).objs.size=s.heap.objs.size+1:=Heap.size_push ..;unfold Builtin.«dict.__init__»;refine wpAny_bind ?_;unfold Builtin.Dict.selfAndRest;refine wpAny_bind (wpAny_notOrdered_dict h.typeIs (wpAny_pure ?_));show wpAny _ _ (Builtin.Dict.updateFrom "dict.__init__" s.heap.objs.size (.ref l) [] Value.none) _ _ _;unfold Builtin.Dict.updateFrom;refine wpAny_bind (wpAny_typeOf (T:="list") ⟨_,p,rfl⟩ ?_);rw [if_pos ⋯];have N:A.in1.in1.handled=none:=by simp [hh]
 refine wpAny_bind (JkF N p fun d K k=>?_);refine wpAny_ite_split (fun _=>?_) (fun z=>absurd rfl z);refine wpAny_bind (wpAny_rule ?_);have B:=k _ _ p;have y:d.DictOf (Jau prog w) s.heap.objs.size []:=by
  obtain ⟨o,C,D,m,rest⟩:=h;exact ⟨o,C,D,k _ _ m,rest⟩
 have dlt:s.heap.objs.size<d.objs.size:=by
  obtain ⟨o,C,D,m,rest⟩:=y;exact Heap.lt_size m
 have x:d.IsList l items:=⟨_,B,rfl,c0,rfl⟩;refine wpAny_bind (wpAny_pyIter_list (s:=⟨d,s.gens,s.drawn,K,s.os⟩) x ?_);have G:∀ j,j<items.size->adr j<s.heap.objs.size:=fun j a=>by
  obtain ⟨tk,o,c,e,_⟩:=tup j a;exact Heap.lt_size e
 have t:l<d.objs.size:=Heap.lt_size B;have n:A.in1.in1.handled=none:=by simp [hh]
 refine wpAny_pure ⟨plainId_quiet Jdf _,?_⟩;refine JhR ((Walks.list n d.objs.size l (Nat.ne_of_lt t) items).toS) s.heap.objs.size (by simp only [mem_cons,not_mem_nil,or_false,not_or];exact ⟨Nat.ne_of_lt dlt,Nat.ne_of_gt R⟩) adr key val hP (fun j a=>Nat.ne_of_lt (G j a)) (fun j a=>by simp only [mem_cons,not_mem_nil,or_false];exact Nat.ne_of_lt (Nat.lt_trans (G j a) dlt)) hz items.size 0 _ ∅ (Nat.zero_le _) ⟨⟨_,Heap.get?_push_size _ rfl,rfl,rfl⟩,x.push _⟩ (y.push _) (fun j a=>?_) fun M g S=>?_
 ·obtain ⟨tk,e⟩:=tup j a;exact ⟨tk,e.at_ fun o z=>Heap.get?_push_of_some _ (k _ _ (Heap.get?_push_of_some _ z))⟩
 ·obtain ⟨h',O,L,u,r⟩:=M;have U:O=s.gens:=g.gens;have J:L=s.drawn:=g.drawn;have P:r=s.os:=g.os;subst U;subst J;subst P;refine ⟨rfl,q h' u (fun b o e=>?_) S⟩;have H:=Heap.lt_size e;refine g.heap b o ?_ (Heap.get?_push_of_some _ (k _ _ (Heap.get?_push_of_some _ e)));simp only [mem_cons,not_mem_nil,or_false,not_or];exact ⟨Nat.ne_of_lt H,Nat.ne_of_lt (Nat.lt_trans H dlt)⟩
end
section
variable {X:Cx} {pins:List (Addr × Obj)} {σ:List (Option V)} {s':Shared} {s:Shared}
def JdF (ps:List (Str × V)):List (Key × V):=ps.foldl (fun l p=>putK l (Sum.inr p.1) p.2) []
def Jl5 (xs:List V) (H:Hp) (Q:VK):Prop:=∃ (l:Addr) (as:List Addr) (ps:List (Str × V)),xs=[.ref l]/\H l=some (.lst (as.map V.ref))/\as.length=ps.length/\(∀ (i:Nat) (a:Addr) (p:Str × V),as[i]?=some a->ps[i]?=some p->H a=some (.tup [.str p.1,p.2]))/\∀ d,H d=none->Q (.ref d) (upd H d (.dK (JdF ps)))
theorem Jha (hc:X.calm=true):CallR X (.type "dict") Jl5:=by
 intro N s σ H xs us Q I r h;obtain ⟨l,b,f,rfl,e,hl,hp,q⟩:=h;obtain ⟨u,rfl,rx⟩:=vals1 r;cases rx;obtain ⟨hz,B,n,Y,F,el⟩:=I.lstM e;have K:b.length<=sizeLine:=by simpa using hz
 have S:B.length=b.length:=by simpa using F.symm
 have pr:∀ j,j<b.length->∃ u a p d,b[j]?=some a/\f[j]?=some p/\RelV p.2 u/\JdD s.heap a (.str p.1 d) u:=fun j A=>by
  have C:=List.getElem?_eq_getElem A;have w:=List.getElem?_eq_getElem (l:=f) (i:=j) ∅;obtain ⟨_,ts,y,o,ho,G,W,T⟩:=I.hok _ _ (hp j _ _ C w);cases y with
  | cons r1 y=>
   cases y with
   | cons r2 y=>
    cases y;obtain ⟨d,rfl⟩:=r1;exact ⟨_,_,_,d,C,w,r2,o,W,ho,G,T⟩
 obtain ⟨D,t⟩:=Classical.skolem.mp (show ∀ j:Nat, ∃ u:Value,j<b.length->∃ a p d,b[j]?=some a/\f[j]?=some p/\RelV p.2 u/\JdD s.heap a (.str p.1 d) u from fun j=>by
  by_cases c:j<b.length
  ·obtain ⟨u,h⟩:=pr j c;exact ⟨u,fun _=>h⟩
  ·exact ⟨.none,fun z=>absurd z c⟩)
 have g:∀ j a,b[j]?=some a->b.getD j 0=a:=fun j a h=>by rw [List.getD_eq_getElem?_getD,h];rfl
 have m:∀ j (p:Str × V),f[j]?=some p->(f.getD j (⟨#[]⟩, .non)).1=p.1:=fun j p h=>by rw [List.getD_eq_getElem?_getD,h];rfl
 have E:B.toArray.size=b.length:=by rw [size_toArray];exact S
 refine JdQ (I.ok.hd hc) el (fun j=>b.getD j 0) (fun j=>(f.getD j (⟨#[]⟩, .non)).1) D (fun j v L=>?_) (fun j A=>?_) ∅ fun h' d k O=>?_
 ·rw [List.getElem?_toArray] at L;have A:j<b.length:=by have:=(List.getElem?_eq_some_iff.mp L).1;ac_nf
  obtain ⟨u,M,Z⟩:=Y.get (i:=j) (x:=.ref b[j]) (by rw [List.getElem?_map,List.getElem?_eq_getElem A];rfl);rw [L] at M;cases M;rw [g j _ (List.getElem?_eq_getElem A)];exact Z
 ·obtain ⟨a,p,d,C,w,R,P⟩:=t j ∅;refine ⟨d,?_⟩;rw [g j a C,m j p w];exact P
 ·have J:∀ i,i<=b.length->KV (JdF (f.take i)) (dkv (fun j=>(f.getD j (⟨#[]⟩, .non)).1) D i):=fun i=>by
   induction i with
   | zero=>intro _;exact .nil
   | succ i ih=>
    intro hi;obtain ⟨a,p,d,C,w,R,P⟩:=t i ∅;rw [JeT,take_succ,w];unfold JdF;rw [List.foldl_append];rw [m i p w];exact (ih ∅).put _ R
  have r:=J b.length (Nat.le_refl _);rw [take_of_length_le ∅] at r;have U:(JdF f).length<=sizeLine:=by
   rw [r.length];exact Nat.le_trans (Jga _ _ _) K
  rw [E] at O;exact ⟨.ref s.heap.objs.size,_,I.laid (a:=s.heap.objs.size) (o:=.dK (JdF f)) (t':=d) k (Nat.le_refl _) (JgN U (beq_eq_false_iff_ne.mpr (Ne.symm (Nat.ne_of_lt I.big))) r O),rfl,q _ (I.hok.fresh (Nat.le_refl _))⟩
end
def negF (a:Int × Int):Int × Int:=(-a.1,a.2)
def lessF (a c:Int × Int):Bool:=decide (a.1*c.2<c.1*a.2)
structure FB (A B:Nat) (a:Int × Int):Prop where
 s1:Mth.Sz A a.1
 s2:Mth.Sz B a.2
 b1:1<=a.2
 g1:Mth.g a.1 a.2=1
variable {A B:Nat} {a:Int × Int}
theorem FB.ok (h:FB A B a) (h1:A<=n) (h2:B<=n):FOk n a:=⟨h.s1.mono h1,h.s2.mono h2,h.b1,h.g1⟩
theorem FB.neg (h:FB A B a):FB A B (negF a):=⟨by
 have:=h.s1;unfold Mth.Sz at this ⊢;unfold negF;rw [Int.natAbs_neg];exact this,h.s2,h.b1,by
 have:=h.g1;unfold Mth.g negF at *;simpa using this⟩
variable {C:Nat}
theorem FB.add {D m:Nat} {c:Int × Int} (h:FB A B a) (k:FB C D c) (h1:A+D<=n) (h2:C+B<=n) (h3:B+D<=m):FB (n+1) m (addF a c):=by
 have b:a.2*c.2≠0:=Int.mul_ne_zero (by have:=h.b1;ac_nf) (by have:=k.b1;ac_nf);have e:=(h.s1.mul k.s2).mono h1;have d:=(k.s1.mul h.s2).mono h2;exact ⟨Mth.Sz.top b (e.add d),(Mth.Sz.bot b (h.s2.mul k.s2)).mono h3,Mth.JcU b,Mth.g_low b⟩
theorem FB.low {t:Int} (hb:1<=b) (h1:Mth.Sz A t) (h2:Mth.Sz B b):FB A B (Mth.top t b,Mth.bot t b):=by
 have a:b≠0:=by ac_nf
 exact ⟨Mth.Sz.top a h1,Mth.Sz.bot a h2,Mth.JcU a,Mth.g_low a⟩
variable {X:Cx} {e:Expr} {ta:TE} {pos:Pos}
theorem Jk2 {K:W.Frag} {f:Str} (hK:X.K=K) (he:PE X e ta) (hb:attributeBase e f X.env (eval e X.env)=eval e X.env):PE X (.Attribute e f pos) (tFld K ta f):=by
 subst hK;exact Jat he hb
theorem JhU:∀ (ls rs:List Str),eqL (ls.map D.str) (rs.map D.str)=decide (ls=rs)
 | [],[]=>rfl
 | [],_::_=>by simp [eqL]
 | _::_,[]=>by simp [eqL]
 | a::ls,b::rs=>by
  rw [map_cons,map_cons,eqL,JhU ls rs];simp only [eqD,List.cons.injEq];by_cases c:a=b
  ·subst c;simp
  ·simp [c]
theorem Jfg {K:W.Frag}:∀ (ls:List Str),RepL K H (ls.map D.str) (ls.map V.str)
 | []=>by simp [RepL]
 | a::ls=>by
  simp only [map_cons,RepL,Rep];exact ⟨_,_,rfl,rfl,Jfg ls⟩
variable {Q:VK}
theorem JlS {K:W.Frag} {p q:Addr} {ls rs:List Str} (hp:SqL K H p (ls.map V.str)) (hq:SqL K H q (rs.map V.str)) (k:Q (.bl (!decide (ls=rs))) H):rNeU K (.ref p) (.ref q) H Q:=by
 refine ⟨.lst (ls.map D.str), .lst (rs.map D.str),by simp only [Rep];exact ⟨p,_,rfl,hp,Jfg ls⟩,by simp only [Rep];exact ⟨q,_,rfl,hq,Jfg rs⟩,?_,rfl,?_⟩
 ·have : ∀ l:List Str,depL (l.map D.str)<=10:=JgL (n:=10) fun a=>by simp [depD]
  rw [depD];have:=this ls;ac_nf
 ·rw [eqD,JhU];exact k
structure FW (A B:Nat) (a:Int × Int):Prop where
 s1:Mth.Sz A a.1
 s2:Mth.Sz B a.2
 b1:1<=a.2
theorem FB.w (h:FB A B a):FW A B a:=⟨h.s1,h.s2,h.b1⟩
theorem FW.mono {D:Nat} (h:FW A B a) (h1:A<=C) (h2:B<=D):FW C D a:=⟨h.s1.mono h1,h.s2.mono h2,h.b1⟩
section
variable {o:Expr} {es:List Expr} {to:TE} {name:Str} {apos cpos:Pos} {T id:String} {r:V->List V->Hp->VK->Prop} {K:W.Frag} {t:TA}
end
variable {kvs:List (Key × V)}
theorem JiW {vs:List (Key × Value)} (r:KV kvs vs):Vals (kvs.map (·.2)) (vs.map (·.2)):=by
 unfold KV at r;induction r with
 | nil=>exact .nil
 | cons h _ ih=>exact .cons h.2 ih
section
variable {prog:Program} {A:Around} {E:Value->Shared->Prop} {w:World} {s:Shared}
end
section
variable {k':Nat} {x mn:Str} {C:Addr} {Cs:Addr->Prop} {ps:List Str} {sp:Sp} {p apos:Pos} {o:Expr} {es:List Expr} {k:Nat} {t:TA}
abbrev TX:=St->Hp->VK->XK->Prop
def PB (X:Cx) (b:List Stmt) (t:TX):Prop :=
 ∀ (pins:List (Addr × Obj)) (s:Shared) (σ : St) (H:Hp) (Q:VK) (E:XK),Inv X pins σ H s->t σ H Q E ->
  wpAny (model X.prog X.w) X.A (execs b X.env) (fun f s1=>f=.next/\∃ v H1,Inv X pins σ H1 s1/\Q v H1) (fun ev s'=>∃ H1 s1,Inv X pins σ H1 s1/\CX1 X.prog X.w X.stack H1 s1 E ev s') s
def PB1 (X:Cx) (b:Stmt) (t:TX):Prop :=
 ∀ (pins:List (Addr × Obj)) (s:Shared) (σ : St) (H:Hp) (Q:VK) (E:XK),Inv X pins σ H s->t σ H Q E ->
  wpAny (model X.prog X.w) X.A (exec b X.env) (fun f s1=>f=.next/\∃ v H1,Inv X pins σ H1 s1/\Q v H1) (fun ev s'=>∃ H1 s1,Inv X pins σ H1 s1/\CX1 X.prog X.w X.stack H1 s1 E ev s') s
def xNil:TX:=fun _ H Q _=>Q .non H
def xSeq (t u:TX):TX:=fun σ H Q E=>t σ H (fun _ H1=>u σ H1 Q E) E
def Ji5 (tc:TT) (t u:TX):TX:=fun σ H Q E=>tc σ H fun b H1=>if b=true then t σ H1 Q E else u σ H1 Q E
theorem Jim:PB X [] xNil:=fun a s σ H Q E I q=>wpAny_execs_nil ⟨rfl, .non,H,I,q⟩
variable {b:List Stmt} {u:TX}
theorem Jgs {a:Stmt} {t:TX} (ha:PB1 X a t) (hb:PB X b u):PB X (a::b) (xSeq t u):=fun c s σ H Q E I q=>
 wpAny_execs_cons (wpAny_mono (ha c s σ H _ E I q) (fun f h ⟨g,v,d,I1,e⟩=>by subst g;exact hb c h σ d Q E I1 e) fun _ _ z=>z)
theorem JgV {ce:Expr} {epos:Pos} {t:TX} (h:PEx X ce t) (hs:swapsWith ce none epos.line X.env=pure false:=by rfl):PB1 X (.Expr ce epos) t:=fun a s σ H Q E I q=>
 wpAny_Expr_any (wpAny_mono (h a s σ H Q E I q) (fun v e ⟨y,b,I1,d,c⟩=>⟨rfl,y,b,I1,c⟩) fun _ _ z=>z) I.quiet hs
variable {tc:TT}
theorem JlZ {c:Expr} {a:List Stmt} {t:TX} (hc:PT X.nox c tc) (ha:PB X a t) (hb:PB X b u):PB1 X (.If c a b pos) (Ji5 tc t u):=fun e s σ H Q E I q=>by
 refine wpAny_If (wpAny_mono (hc e s σ H _ (I.wish _) q) (fun d h ⟨f,I1,g⟩=>?_) fun _ _ y=>y.elim);cases d with
 | true=>exact ha e h σ f Q E I1.unwish g
 | false=>exact hb e h σ f Q E I1.unwish g
def xMeth (Cs:Addr->Prop) (m:Str) (sp:Sp) (ta:TE) (t:TA):TX:=fun σ H Q E=>ta σ H fun x H1=>∃ a C dx fs,x=.ref a/\H1 a=some (.ins C dx fs)/\Cs C/\fs.lookup m=none/\t σ H1 fun vs H2=>sp (x::vs) H2 Q E
end
variable {x:Str}
theorem Jiw {hpos np:Pos} {n:Str} {b0:Stmt} {b suite:List Stmt} {D:Addr} {t:TX} {ts:TS} {i:Nat} (hN:X.N.Nodup) (hi:X.N[i]?=some n) (hl:X.env.scope.names.lookup n=some .local) (hcall:PB X b t) (hg:Gl X x) (hm:X.mg x=some (.ref D)) (hsu:∀ e,PSs (X.inx e) (b0::suite) ts)
  (hex:X.ex=[]:=by rfl) (hst:X.stack=X.env::X.outer:=by rfl) (hfl:X.env.frame=some X.env.locals:=by rfl) (hdb:(x == ("__debug__" : Str))=false:=by decide) :
  PS X (.Try b [.ExceptHandler (some (.Name x np)) (some n) (b0::suite) hpos] [] [] pos) (Jkf X.K D i t ts):=by
 intro c s σ H Dn I h;refine wpAny_Try_except (wpAny_mono (hcall c s σ H _ _ I h) (fun f s1 ⟨e,y,H1,I1,q1⟩=>?_) (fun ev s1 hx=>?_))
 ·subst e;exact wpAny_execs_nil ⟨σ,H1,I1,q1⟩
 ·obtain ⟨H1,s0,I1,o,od,a2,a0,B,H',rfl,T,hb,u,G,F,C,rfl,M,hq⟩:=hx;have V:X.A.frames=some (X.env::X.outer):=by rw [<- hst];exact I.ok.frames
  have F':=F.fly;rw [hst] at F';refine noteD V hfl F' F.dct fun h4 E S a1=>?_;refine JlM E a1 fun h5 d U Q=>?_;have L:=S.trans U;have j:=d;rw [<- hst] at j;have I5:=I1.landed hex u G F T hb j L Q rfl;obtain ⟨oe,vs,he,hc,_,_⟩:=d.first;refine wpAny_handleBy_cons (codeAny_handlers_test (Jcl (X:=X.inx o) (I5.inx o) hg hm ?_ hdb)) (by intro z;cases z);refine JfE I5.kIn he hc M (codeAny_handlers_suite_as ?_);refine Jlu d Q fun h6 O P Z=>?_;have g:=O;rw [<- hst] at g;have I6:=I1.landed hex u G F T hb g (L.trans P) Z rfl;refine Jfr (X:=X) (v:=.ref o) I6 hN hi (.inl hl) rfl (fun s7 I7=>?_) (.inr hl);refine wpAny_mono (hsu o c s7 _ _ _ (I7.inx o) (hq o F.free)) (fun f s2 z=>?_) (fun _ _ z=>z.elim);have a:∀ {σ':St} {p:Hp} {R:Flow->Shared->Prop} {E2:Value->Shared->Prop},Inv (X.inx o) c σ' p s2->(∀ l,Inv X c (σ'.set i none) p l->R f l) ->
    wpAny (model X.prog X.w) X.A (do bindName X.env n .none;unbindBehindTheSuite X.env n hpos) (fun _ l=>R f l) E2 s2:=fun {σ' p R E2} J k=>by
   have J':=J.outx I.ok;obtain ⟨m,hn,_⟩:=J'.loc;refine wpAny_nameGoes_keeps hl hn (by rw [I.ok.kind];rfl) fun h' v Y W=>k _ (J'.goes hN hi W hn Y fun y hy=>if_neg hy)
  cases f with
  | next=>obtain ⟨σ',p,J,q⟩:=z;exact a J fun l J3=>⟨_,_,J3,q⟩
  | brk=>obtain ⟨σ',p,J,q⟩:=z;exact a J fun l J3=>⟨_,_,J3,q⟩
  | cont=>obtain ⟨σ',p,J,q⟩:=z;exact a J fun l J3=>⟨_,_,J3,q⟩
  | ret v=>obtain ⟨y,σ',p,J,r,q⟩:=z;exact a J fun l J3=>⟨y,_,_,J3,r,q⟩
section
variable {σ:St} {E:XK} {ty:TE} {ts:TA} {tc:TT} {u:TX} {C:Addr} {sp:Sp} {Cs:Addr->Prop} {td:TE} {t:TX} {m:Str}
theorem ya0y:xNil σ H Q E=Q .non H:=rfl
theorem ya1y:xSeq t u σ H Q E=t σ H (fun _ H1=>u σ H1 Q E) E:=rfl
theorem y9dy:Ji5 tc t u σ H Q E=tc σ H fun b H1=>if b=true then t σ H1 Q E else u σ H1 Q E:=rfl
theorem y9fy:xMeth Cs m sp ta ts σ H Q E=ta σ H fun x H1=>∃ a C dx fs,x=.ref a/\H1 a=some (.ins C dx fs)/\Cs C/\fs.lookup m=none/\ts σ H1 fun vs H2=>sp (x::vs) H2 Q E:=rfl
theorem y42y:tDIn ty td σ H Q=ty σ H fun y H1=>td σ H1 fun x H2=>∃ a o,x=.ref a/\DGet H2 a y o/\Q (.bl o.isSome) H2:=rfl
theorem y46y:JiK ty td σ H Q=ty σ H fun y H1=>td σ H1 fun x H2=>∃ a o,x=.ref a/\DGet H2 a y o/\Q (.bl (!o.isSome)) H2:=rfl
end
section
variable {κ:Type} [DecidableEq κ] {f : α->κ} {k : κ} {u y : α}
end
section
variable {P : α->V->Prop}
end
section
variable {P P':TD->V->Prop} {ts:List TD} {t:TD}
end
theorem sub_len [DecidableEq α]:∀ (l m:List α),l.Nodup->l ⊆ m->l.length<=m.length
 | [],m,_,_=>by simp
 | a::l,m,hn,hs=>by
  rw [nodup_cons] at hn;have ha:a∈m:=hs (by simp);have:=sub_len l (m.erase a) hn.2 fun x hx=>(List.mem_erase_of_ne (show x≠a from fun e=>hn.1 (e ▸ hx))).mpr (hs (by simp [hx]));rw [List.length_erase_of_mem ha] at this;have:=List.length_pos_of_mem ha;rw [length_cons];ac_nf
abbrev BMV:List Value:=[.type "ValueError", .type "Exception", .type "BaseException", .type "object"]
structure ExcI (K:W.Frag) (C S f:Addr):Prop where
 up:W.excIn K S BMV "ValueError.__new__"=true
 at_:∃ nm q N bs sn sub ab col dd k0 k1 k2 k3 k5,K.lookup C=some (excClassObj nm q C N bs (.ref S::BMV) true sn sub ab col dd k0 k1 k2 k3 k5 "ValueError.__new__")
 init:W.findIn K (.ref C) "__init__"=some (some (.ref f))
 fn:W.isFn K (.ref f)=true
 kp:W.keepIn K (.ref C)=true
def ExcN (e C:Addr) (od:Option Addr):HO:=.ext fun h=>∃ t:Addr,h.get? e=some { cls:=.ref C,dict:=od,data:=.fields #[.ref t, .none, .none, .none, .bool false, .none] }
section
variable {prog:Program} {A:Around} {E:Value->Shared->Prop} {h:Heap} {d:Drawn} {os:OsState} {w:World} {g:Array GenState} {t:Nat} {nm q:Str} {C N:Addr} {bm bmB:List Value} {hdct ab:Bool} {sn:List Str} {col:Option Bool} {dd:Option Addr} {k0 k1 k2 k3 k5:Option Value} {B newId initId:String} {bs:List Value} {sub:List Value} {K:W.Frag}
theorem Jhx (F:ExcBaseFacts B newId initId bmB) (T:OwnTail h bmB bm) {rest:List Value} {fI:Addr} {Q:Fin->Shared->Prop} (X:K.In h)
  (hC:h.get? C=some (excClassObj nm q C N bs bm hdct sn sub ab col dd k0 k1 k2 k3 k5 newId)) (hi:W.findIn K (.ref C) "__init__"=some (some (.ref fI)))
  (hfI:W.isFn K (.ref fI)=true)
  (hq:∀ h' e,Heap.MadeExcOf h h' e (.ref C) rest->h.objs.size<=e ->
   wpAny (model prog w) A (call (.ref fI) (.ref e::rest)) (fun r s'=>r=.none/\Q (.done (.ret (.ref e))) s') E ⟨h',g,d,t,os⟩) (hrest:rest.length<=sizeLine:=by size_fits) :
  wpAny (model prog w) A (Builtin.«type.__call__» ⟨.ref C::rest,[]⟩) Q E ⟨h,g,d,t,os⟩:=by
 repeat (first | with_reducible refine wpAny_loadPart_at hC ?_ | with_reducible refine wpAny_madeBy_exc hC ?_ | wp_step)
 refine codeAny_call_builtin_code (Code.quiet_builtin _ F.quiet) (wpAny_check_new_subT F T hC ?_);refine codeAny_exc_new_subT F T hC ?_ hrest;show wpAny _ _ _ _ _ _;have c:∀ b o,h.get? b=some o->((h.push { cls:=.type "tuple",data:=.seq rest.toArray }).push { cls:=.ref C,data:=.fields #[.ref h.objs.size, .none, .none, .none, .bool false, .none] }).get? b=some o:=fun b o e=>Heap.get?_push_of_some _ (Heap.get?_push_of_some _ e);have hC₁:=c _ _ hC;have X₁:=X.keeps c;have a:((h.push { cls:=.type "tuple",data:=.seq rest.toArray }).push
   { cls:=.ref C,data:=.fields #[.ref h.objs.size, .none, .none, .none, .bool false, .none] }).get? (h.objs.size+1)=some
   { cls:=.ref C,data:=.fields #[.ref h.objs.size, .none, .none, .none, .bool false, .none] }:=by heap_get
 have f:(Value.ref C::bm).contains (.ref C)=true:=by simp
 unfold isInstance;repeat (first | with_reducible refine wpAny_loadPart_at a ?_ | (with_reducible refine wpAny_isSubtype_exc hC₁ ?_;rw [f]) | wp_step)
 show wpAny _ _ (typeLookup (.ref C) _) _ _ _;refine (W.looks_findIn X₁ hi).at ?_;refine wpAny_holding (wpAny_bind ((W.bind_fn X₁ _ (beq_iff_eq.mp hfI)).at ?_));refine wpAny_bind (wpAny_mono (hq _ (h.objs.size+1) ⟨c,Heap.get?_none_of_le (Nat.le_succ _),h.objs.size,a,Heap.get?_none_of_le (Nat.le_refl _),?_⟩ (Nat.le_succ _)) (fun r s' j=>?_) fun _ _ x=>x)
 ·exact Heap.get?_push_of_some _ (Heap.get?_push_at rfl rfl)
 ·obtain ⟨rfl,i⟩:=j
  wp_walk
  exact i
theorem JhF (F:ExcBaseFacts B newId initId bmB) (T:OwnTail h bmB bm) {rest:List Value} {fI:Addr} {Q:Value->Shared->Prop} (X:K.In h)
  (hC:h.get? C=some (excClassObj nm q C N bs bm hdct sn sub ab col dd k0 k1 k2 k3 k5 newId)) (hi:W.findIn K (.ref C) "__init__"=some (some (.ref fI)))
  (hfI:W.isFn K (.ref fI)=true)
  (hq:∀ h' e,Heap.MadeExcOf h h' e (.ref C) rest->h.objs.size<=e ->
   wpAny (model prog w) (A.under (.builtin "type.__call__" ⟨.ref C::rest,[]⟩)) (call (.ref fI) (.ref e::rest)) (fun r s'=>r=.none/\Q (.ref e) s') E ⟨h',g,d,t,os⟩) (hrest:rest.length<=sizeLine:=by size_fits) :
  wpAny (model prog w) A (call (.ref C) rest) Q E ⟨h,g,d,t,os⟩:=by
 have c:=tc_lookup;have f:=tc_bind (.ref C);have i:(⟨h,g,d,t,os⟩:Shared).TypeIs (.ref C) "type":=⟨_,hC,rfl⟩;refine wpAny_call (codeAny_of_tree ?_);show wpAny _ _ (callAny (.ref C) _) _ _ _;repeat (any_goals (first | assumption | with_reducible refine wpAny_loadPart_at hC ?_ | wp_step))
 refine ⟨rfl,?_⟩;refine codeAny_call_builtin_at (Code.quiet_builtin _ (by decide +kernel)) entry_typeCall (wpAny_check_type_call_sub hC (Jhx (hrest:=hrest) F T X hC hi hfI fun h' e a b=>?_));exact hq h' e a b
end
section
variable {C S:Addr} {fd:FuncData} {ps:List Str} {sp:Sp} {E:XK} {p apos:Pos} {o:Expr} {es:List Expr} {k:Nat} {f:Addr} {m:Str} {t:TA} {P:Program} {h:Heap} {od:Option Addr}
theorem Jgc {w:World} {e:Addr} (z:∃ t:Addr,h.get? e=some { cls:=.ref C,dict:=od,data:=.fields #[.ref t, .none, .none, .none, .bool false, .none] }):ObjOk P w H h e (ExcN e C od) :=
 ⟨z,let ⟨_,e⟩:=z;⟨_,e⟩,fun _ _ ⟨t,e⟩ k=>⟨t,k _ e⟩⟩
theorem ExcI.cls {K:W.Frag} (M:ExcI K C S f) (Xi:K.In h):∃ nm q N bs sn sub ab col dd k0 k1 k2 k3 k5,h.get? C=some (excClassObj nm q C N bs (.ref S::BMV) true sn sub ab col dd k0 k1 k2 k3 k5 "ValueError.__new__")/\OwnTail h BMV (.ref S::BMV):=by
 obtain ⟨nm,q,N,bs,sn,sub,ab,col,dd,k0,k1,k2,k3,k5,z⟩:=M.at_;obtain ⟨_,_,_,_,_,_,_,_,_,_,_,_,_,_,_,_,_,c,b,a,_⟩:=JhW Xi M.up;exact ⟨nm,q,N,bs,sn,sub,ab,col,dd,k0,k1,k2,k3,k5,Xi _ _ z, .own c b a .base⟩
variable {pins:List (Addr × Obj)} {σ:St}
theorem Jiz {s:Shared} {us:List Value} {vs:List V} (M:ExcI X.K C S f) (F:FnOk X.prog X.w X.K X.mg X.base (CX1 X.prog X.w) k f fd ps sp) (hr:Room (k+1) X.A) (hb:Binds X.K fd ps [])
  (hx:JbS (CX1 X.prog X.w) X E) (I:Inv X pins σ H s) (r:Vals vs us) (hz:vs.length<=sizeLine)
  (h:∀ x,H x=none->sp (.ref x::vs) (upd H x (ExcN x C none)) (fun v H2=>v=.non/\Q (.ref x) H2) E) :
  wpAny (model X.prog X.w) X.A (call (.ref C) us) (EP X pins σ Q) X.xe s:=by
 obtain ⟨nm,q,N,bs,W,O,ab,P,dd,k0,Z,U,k3,k5,R,T⟩:=M.cls I.kIn;obtain ⟨Y,g,d,i,n⟩:=s;refine JhF PySem.F.excBase_ValueError T I.kIn R M.init M.fn (fun m b j L=>?_) (by rw [<- r.length];exact hz);have o:=h b (I.hok.isnone j.new);obtain ⟨D,B,_,_⟩:=j.there;have I2:Inv X pins σ (upd H b (ExcN b C none)) ⟨m,g,d,i,n⟩:=I.laid (t':=i) j.keeps L (Jgc ⟨D,B⟩);have l:Vals (V.ref b::vs) (Value.ref b::us):=.cons rfl r;have G:(Value.ref b::us++[]).length=ps.length:=by
  have e:=l.length;rw [F.len _ _ _ _ o] at e;simpa using e.symm
 have c:=hb ⟨m,g,d,i,n⟩ (Value.ref b::us) I2.kIn G;rw [append_nil] at c;refine wpAny_call (codeAny_mono (F.run _ X.stack _ _ ⟨Value.ref b::us,[]⟩ (Value.ref b::us) _ _ E (hr.make C us []) (I2.env0.make C us []) c l o) fun r y a=>?_);cases r with
 | error e=>exact hx pins σ _ _ e y I2 a
 | ok fl=>
  cases fl with
  | ret u=>
   obtain ⟨v,J,I3,p,t,z⟩:=I2.after a;subst t;exact ⟨p,⟨V.ref b,J,I3,rfl,z⟩⟩
  | next=>exact False.elim a
  | brk=>exact False.elim a
  | cont=>exact False.elim a
def JiL (C:Addr) (sp:Sp) (E:XK) (t:TA):TE:=fun σ H Q=>t σ H fun vs H1=>vs.length<=sizeLine/\∀ x,H1 x=none->sp (.ref x::vs) (upd H1 x (ExcN x C none)) (fun v H2=>v=.non/\Q (.ref x) H2) E
theorem Jjw (M:ExcI X.K C S f) (F:FnOk X.prog X.w X.K X.mg X.base (CX1 X.prog X.w) k f fd ps sp) (hr:Room (k+1) X.A) (hg:Gl X x) (hm:X.mg x=some (.ref C)) (hb:Binds X.K fd ps []) (hx:JbS (CX1 X.prog X.w) X E)
  (ha:PA X (e::es) t) (hdb:(x == ("__debug__" : Str))=false:=by decide) (he:starEach (e::es) X.env=(false,eval e X.env)::starEach es X.env:=by rfl) (hpl:(backTo pos (starEach es X.env)).any (·.1)=false:=by rfl) :
  PE X (.Call (.Name x p) (e::es) [] pos) (JiL C sp E t):=by
 intro a s σ H Q I h;refine wpAny_Call_Name_kw (Jcl I hg hm ?_ hdb);refine W.callWith_K (h₀:=X.base) I.ok.mod.kin M.kp (thn (ha pos a s σ H _ I h) fun c g ζ=>?_) he hpl;obtain ⟨d,b,I1,r,q⟩:=ζ;refine ⟨I1.kIn,?_⟩;exact Jiz M F hr hb hx I1 r q.1 q.2
end
section
variable {P:Program} {mg:Str->Option Value} {base:Heap} {N:List Str} {qual:Str} {scope:Scope} {cdv:Value} {A:Around} {outer:List Env} {s0:Shared} {H0:Hp} {E:XK} {w:World} {K:W.Frag} {f:Addr}
def JiN (K:W.Frag) (H0:Hp) (E:XK) (te:TE):TS:=fun _ σ H=>te σ H fun v H1=>∃ e C S f od,v=.ref e/\H1 e=some (ExcN e C od)/\ExcI K C S f/\H0 e=none/\E (.ref C) od (unt H1 e)
variable {te:TE}
theorem Jiv {x:Expr} (hx:PE (cxOf (CX1 P w) P w K mg base N qual scope f cdv A outer s0 H0 E) x te) :
  PS (cxOf (CX1 P w) P w K mg base N qual scope f cdv A outer s0 H0 E) (.Raise (some x) none pos) (JiN K H0 E te):=by
 intro a s σ H D I h;have p:(A.deeper (envOfC qual scope s0.heap.objs.size f cdv)).handled=none:=I.ok.hd rfl;rw [arm_exec_Raise];refine wpAny_bind (wpAny_standAt ?_);show wpAny _ _ (raiseStmt _ (some (do let v <- eval x _;standAt pos;pure v)) none) _ _ _;unfold raiseStmt;refine wpAny_bind (wpAny_bind (thn (hx a s σ H _ I h) fun u F ζ=>?_));obtain ⟨v,O,I1,m,e,C,S,fI,od,n,i,M,r,q⟩:=ζ;refine wpAny_bind (wpAny_standAt (wpAny_pure ?_));subst n;obtain rfl:u=Value.ref e:=m;obtain ⟨Z,J,W,bs,U,y,ab,B,dd,V,Y,L,k3,k5,l,T⟩:=M.cls I1.kIn;obtain ⟨t,k⟩:=(I1.hok e _ i).1;obtain ⟨Q,g,d,G,R⟩:=F;have c:(Value.ref C::(.ref S::BMV)).contains (.type "BaseException")=true:=by rw [List.contains_cons,T.hasType (X:="BaseException") (b:=true) ⋯,Bool.or_true]
 repeat (first | with_reducible refine wpAny_loadPart_at k ?_ | with_reducible refine wpAny_loadPart_at l ?_ | (with_reducible refine wpAny_isSubtype_exc l ?_;rw [c]) | wp_step)
 refine wpAny_raiseNew_none p ?_;refine JlO I1 i k rfl rfl rfl ?_ q;cases z:s0.heap.get? e with
 | none=>rfl
 | some o=>
  have j:=I1.base.free e o z r (by intro z;cases z);rw [i] at j;cases j
end
structure SlkI (K:W.Frag) (S:Addr):Prop where
 ga:W.specialIn K (.ref S) "__getattribute__"=some (some (.builtin "type.__getattribute__"))
 rd:W.readsIn K S (.type "type")=true
 fi:W.findCls K (.ref S) (.type "type") "__init__"=some (.val (.builtin "ValueError.__init__"))
section
variable {C S:Addr} {p apos:Pos} {es:List Expr} {f:Addr} {t:TA} {prog:Program} {A:Around} {E:Value->Shared->Prop} {h:Heap} {d:Drawn} {os:OsState} {a0:Addr}
theorem Jlq {w:World} {K:W.Frag} {g:Array GenState} {t:Nat} {Q:Value->Shared->Prop} {ex:Addr} {od:Option Addr} {rest:List Value}
  (M:ExcI K C S f) (Xi:K.In h) (he:h.get? ex=some { cls:=.ref C,dict:=od,data:=.fields #[.ref a0, .none, .none, .none, .bool false, .none] }) (hr:rest.length<=sizeLine)
  (hq:∀ h' t',(∃ a1:Addr,h'.get? ex=some { cls:=.ref C,dict:=od,data:=.fields #[.ref a1, .none, .none, .none, .bool false, .none] })->(∀ b u,b≠ex->h.get? b=some u->h'.get? b=some u)->Q .none ⟨h',g,d,t',os⟩) :
  wpAny (model prog w) A (call (.builtin "ValueError.__init__") (.ref ex::rest)) Q E ⟨h,g,d,t,os⟩:=by
 have F:=PySem.F.excBase_ValueError;obtain ⟨o,q,N,s,m,i,v,j,p,y,n,l,x,r,k,T⟩:=M.cls Xi;refine wpAny_call (codeAny_call_builtin F.init.plain F.initEntry (wpAny_check_init_subT F T k he rfl ?_));have a:=Heap.get?_push_of_some (h:=h) { cls:=.type "tuple",data:=.seq rest.toArray } he
 wp_walk
 refine hq _ _ ⟨h.objs.size,?_⟩ fun b u e c=>?_
 ·rw [Heap.get?_update_self _ a rfl];rfl
 ·rw [Heap.get?_update_other _ _ (Ne.symm e)];exact Heap.get?_push_of_some _ c
def Jj9 (K:W.Frag) (t:TA):TE:=fun σ H Q=>t σ H fun vs H2=>∃ e rest C S f od,vs=.ref e::rest/\rest.length<=sizeLine/\H2 e=some (ExcN e C od)/\ExcI K C S f/\Q .non (upd H2 e (ExcN e C od))
theorem Jjq {pl:Sem Bool} (G:SlkI X.K S) (hg:Gl X x) (hm:X.mg x=some (.ref S)) (ha:PA X (e::es) t) (hdb:(x == ("__debug__" : Str))=false:=by decide)
  (hst:starEach (e::es) X.env=(false,eval e X.env)::starEach es X.env:=by rfl) (hpl:(backTo pos (starEach es X.env)).any (·.1)=false:=by rfl)
  (ht:eval (.Call (.Attribute (.Name x p) "__init__" apos) (e::es) [] pos) X.env=(do
   let ov <- eval (.Name x p) X.env
   standAt apos.atName
   let (f,first) <- holding [ov] (getMethod ov "__init__" pl)
   callWith pos f first (backTo pos (starEach (e::es) X.env)) (backToKw pos (keywordEach [] X.env))):=by rfl) :
  PE X (.Call (.Attribute (.Name x p) "__init__" apos) (e::es) [] pos) (Jj9 X.K t):=by
 intro a s σ H Q I h;refine W.methodCall_KW (pl:=pl) (Jcl I hg hm ?_ hdb) ht;refine W.method_cls I.kIn G.ga (W.cls_value I.kIn G.rd G.fi (by decide +kernel) ?_);refine PyProof.Rows.callWith_builtin1 (thn (ha pos a _ σ H _ (I.tok _) h) fun n l ζ=>?_) hst hpl;obtain ⟨q,A,I2,r,b,rest,C,E,f,B,j,m,c,M,i⟩:=ζ;subst j;cases r with
 | @cons _ u _ us' ru rr=>
 obtain rfl:u=Value.ref b:=ru;obtain ⟨v,hg⟩:=(I2.hok b _ c).1;obtain ⟨D,g,d,o,y⟩:=l;refine Jlq M I2.kIn hg (by rw [<- rr.length];exact m) fun w t' z k=>?_;exact ⟨V.non,_,I2.write (t':=t') (e:=b) (by rw [c];exact trivial) (.inl rfl) k (let ⟨_,z⟩:=z;⟨_,z⟩) (Jgc z),rfl,i⟩
end
section
open PySem.W PySem.Builtin PySem.Builtin.ObjectAttr
variable {prog:Program} {A:Around} {E:Value->Shared->Prop} {h:Heap} {d:Drawn} {os:OsState} {x C S a0:Addr} {name:Str} {v:Value} {w:World} {K:W.Frag} {g:Array GenState} {t:Nat} {f:Addr} {ox:Obj} {Q:Unit->Shared->Prop}
theorem JjM {M:Model} {nameV:Value} (Mx:ExcI K C S f) (X:K.In h) (hx:h.get? x=some ox) (hc:ox.cls=.ref C) (hq:Q () ⟨h,g,d,t,os⟩) :
  wpAny M A (checkBuiltinCall "object.__setattr__" ⟨[.ref x,nameV,v],[]⟩) Q E ⟨h,g,d,t,os⟩:=by
 have a:=PySem.F.store_ValueError;obtain ⟨o,q,N,s,m,e,u,i,p,y,n,l,w,r,j,T⟩:=Mx.cls X;have c:(Value.ref C::.ref S::BMV).contains (.type "object")=true:=by rw [List.contains_cons,T.hasType (X:="object") (b:=true) ⋯,Bool.or_true]
 have k:=a.args (.ref x) nameV v;simp only [checkBuiltinCall,a.kind,a.split];refine wpAny_bind ?_
 ·unfold isInstance;repeat (first | (with_reducible refine wpAny_loadPart_at hx ?_;rw [hc]) | (with_reducible refine wpAny_isSubtype_exc j ?_;rw [c]) | wp_step)
  exact hq
theorem JjN (M:ExcI K C S f) (X:K.In h) (sa:findIn K (.ref C) "__setattr__"=some (some (.builtin "object.__setattr__"))) (na:findIn K (.ref C) name=some none)
  (hx:h.get? x=some { cls:=.ref C,dict:=none,data:=.fields #[.ref a0, .none, .none, .none, .bool false, .none] })
  (hq:∀ h' t' dx,h.objs.size<=dx->h'.get? x=some { cls:=.ref C,dict:=some dx,data:=.fields #[.ref a0, .none, .none, .none, .bool false, .none] }->h'.Ns1 dx (fun y=>if y=name then some v else none) ->
   (∀ b u,b≠x->h.get? b=some u->h'.get? b=some u)->Q () ⟨h',g,d,t',os⟩):wpAny (model prog w) A (setAttr (.ref x) name v) Q E ⟨h,g,d,t,os⟩:=by
 have m:=PySem.F.store_ValueError;obtain ⟨nm,q,N,bs,sn,W,ab,Y,dd,k0,k1,Z,k3,k5,O,T⟩:=M.cls X;have f3:=m.slot.bind (.ref x);have L1:=looks_findIn (M:=model prog w) X sa;have L2:=looks_findIn (M:=model prog w) X na;unfold setAttr callSpecial? specialOf;repeat (any_goals (first | assumption | (with_reducible refine wpAny_loadPart_at hx ?_) | lk | wp_step))
 refine wpAny_run (codeAny_call_builtin m.slot.plain m.entry (JjM M X hx rfl ?_));have L:Looks (model prog w) h (typeOf (.ref x)) (.ref C):=(Looks.ld hx).andThen .now;show wpAny _ _ (Builtin.«object.__setattr__» ⟨[.ref x, .str name t,v],[]⟩) _ _ _;rw [osa_eq,refuse_eq];refine wpAny_bind (wpAny_bind (L.at (wpAny_bind (wpAny_mroOf_exc O ?_))));rw [refuseLoop_ref,refuseLoop_ref,m.passes];refine wpAny_pure (wpAny_bind (L.at (wpAny_bind (L2.at (wpAny_bind (wpAny_pure (a:=none) ?_))))));show wpAny _ _ (storeInOwnDict (.ref x) (.ref C) (.str name t) name v false) _ _ _;obtain ⟨o,j⟩:∃ o:Obj,o={ cls:=.ref C,dict:=none,data:=.fields #[.ref a0, .none, .none, .none, .bool false, .none] }:=⟨_,rfl⟩;have P:o.cls=.ref C:=by rw [j]
 have B:o.dict=none:=by rw [j]
 have G:∀ c,o.data≠.cls c:=fun c=>by rw [j];intro z;cases z
 rw [<- j] at hx;repeat (first | (with_reducible refine wpAny_loadPart_at hx ?_;rw [P]) | with_reducible refine wpAny_loadPart_at O ?_ | wp_step)
 rw [B,if_neg (by simp [typeHasDict])];split
 ·rename_i i;cases i
 split
 ·rename_i c i;exact absurd i (G c)
 ·have hx₁ : (h.push { cls:=.type "dict",data:=.dict #[] }).get? x=some o:=Heap.get?_push_of_some _ hx;have l:x≠h.objs.size:=Nat.ne_of_lt (Heap.lt_size hx);refine wpAny_bind (wpAny_alloc' ?_);refine wpAny_bind (wpAny_update' hx₁ ?_);refine wpAny_pure ?_;have D:((h.push { cls:=.type "dict",data:=.dict #[] }).update x fun o=>{ cls:=o.cls,dict:=some h.objs.size,data:=o.data,slots:=o.slots }).get? h.objs.size
    = some { cls:=.type "dict",data:=.dict #[] } :=
   (Heap.get?_update_ne _ _ _ _ l.symm).trans (Heap.get?_push_at rfl rfl)
  have p:((h.push { cls:=.type "dict",data:=.dict #[] }).update x fun o=>{ cls:=o.cls,dict:=some h.objs.size,data:=o.data,slots:=o.slots }).Ns h.objs.size (fun _=>none) :=
   ⟨_, #[],_,D,rfl,fun e R=>absurd R (by simp),fun _=>rfl⟩
  show wpAny _ _ (storeInDict h.objs.size (.str name t) name v) _ _ _;unfold storeInDict newKeyGuard;refine wpAny_bind (wpAny_pure (wpAny_bind (wpAny_nsSet1 (Heap.Ns1.of_empty p) fun h' k J=>?_)));obtain ⟨oD,V,U,r,s,n⟩:=k.count (Within.cons name v Within.nil);refine wpAny_bind (wpAny_lookBehind r (by rw [s];exact pastItsLine_dict (Nat.le_trans n (by rw [length_cons,length_nil,sizeLine_eq];ac_nf))) ?_)
  wp_walk
  refine hq h' _ h.objs.size (Nat.le_refl _) ?_ k fun b ob H I=>?_
  ·refine (J.2 x l).trans ((Heap.get?_update_self _ hx₁ ?_).trans (by rw [j]));rw [j];rfl
  ·exact (J.2 b (Nat.ne_of_lt (Heap.lt_size I))).trans ((Heap.get?_update_ne _ _ _ _ H).trans (Heap.get?_push_of_some _ I))
structure ExcL (K:W.Frag) (D:Addr) (name:Str):Prop where
 hd:W.hasDictIn K D=true
 ga:W.findIn K (.ref D) "__getattribute__"=some (some (.builtin "BaseException.__getattribute__"))
 gh:W.findIn K (.ref D) "__getattr__"=some none
 na:W.findIn K (.ref D) name=some none
 mb:W.mroIn K D (.type "BaseException")=some true
variable {od:Obj}
theorem Jlr {s:Shared} {expr:Bool} {Q:Value->Shared->Prop} (X:K.In s.heap) (c:ExcL K C name) (J:W.InstAt s.heap x ox C (some od)) (hl:lookIn name od=some (some v)) (hv:handedIn v=true) (q:Q v { s with toks:=s.toks+1 }) :
  wpAny (model prog w) A (getAttr (.ref x) name expr) Q E s:=by
 obtain ⟨r,m,l,f,k⟩:=s;have g:=J.type (M:=model prog w);have b:=looks_findIn (M:=model prog w) X c.ga;have d:=looks_findIn (M:=model prog w) X c.gh;have p:=looks_find (M:=model prog w) X J (findObj_own c.hd c.na rfl hl);have o:=looks_mroIn (M:=model prog w) X c.mb;have h:bindSpecial (.builtin "BaseException.__getattribute__") (.ref x)=pure (.builtin "BaseException.__getattribute__",[.ref x]):=by kernel_rfl
 have a:(expr&&onTheHeap (Value.builtin "BaseException.__getattribute__"))=false:=by cases expr <;> rfl
 unfold getAttr getAttrBy;refine wpAny_bind (wpAny_mkText (wpAny_holding (wpAny_bind (g.at (wpAny_bind (b.at ?_))))));have j:(onTheHeap (Value.ref C)&&Value.builtin "BaseException.__getattribute__" == Value.builtin "object.__getattribute__")=false:=Bool.and_eq_false_iff.mpr (.inr (by decide +kernel));show wpAny _ _ (if (onTheHeap (Value.ref C)&&Value.builtin "BaseException.__getattribute__" == Value.builtin "object.__getattribute__")=true then _ else getAttrByItsOwn _ _ _ _ _ _) _ _ _;rw [if_neg (by rw [j];decide)];unfold getAttrByItsOwn hookBefore;refine wpAny_bind ?_;rw [if_pos (show onTheHeap (Value.ref C)=true from rfl)];refine d.at ?_;refine wpAny_bind (wpAny_attempt (wpAny_holding ?_));unfold callGetattribute boundAndCalled;rw [a,if_neg ⋯,h];refine wpAny_bind (wpAny_pure ?_);refine wpAny_call (codeAny_call_builtin (by decide +kernel) PySem.F.entry_bexc_ga ?_);have i:builtinKind "BaseException.__getattribute__"=some .slot:=by decide +kernel
 have e:splitId "BaseException.__getattribute__"=some ("BaseException","__getattribute__"):=by decide +kernel
 have n:=PySem.F.args_bexc_ga (.ref x) (.str name f)
 (simp only [checkBuiltinCall,i,e];refine wpAny_bind ?_)
 unfold isInstance;repeat (first | lk | wp_step)
 show wpAny _ _ (handedOut v) _ _ _;exact W.handed_on hv q
end
section
variable {o value:Expr} {pos':Pos} {tv:TE} {f:Str}
structure ExcA (K:W.Frag) (C:Addr) (f:Str):Prop where
 sa:W.findIn K (.ref C) "__setattr__"=some (some (.builtin "object.__setattr__"))
 na:W.findIn K (.ref C) f=some none
def sFldX (K:W.Frag) (ta tv:TE) (f:Str):TS:=fun D σ H=>tv σ H fun y H1=>ta σ H1 fun x H2=>∃ e C S g,x=.ref e/\H2 e=some (ExcN e C none)/\ExcI K C S g/\ExcA K C f /\
 ∀ dx,H2 dx=none->dx≠e->D.nx σ (upd (upd H2 e (ExcN e C (some dx))) dx (.xd [(f,y)]))
theorem Jk9 (ha:PE X o ta) (hv:PE X value tv) (hs:swapsWith value (some (.Attribute o f pos')) pos.line X.env=pure false):PS X (.Assign [.Attribute o f pos'] value pos) (sFldX X.K ta tv f):=by
 intro l s σ H D I h;refine plainObj_wpAny_Assign_Attribute (thn (hv l s σ H _ I h) fun u s1 ζ=>?_) hs;obtain ⟨y,O,I1,ry,q⟩:=ζ;refine thn (ha l s1 σ O _ I1 q) fun Z P ζ=>?_;obtain ⟨x,V,I2,W,e,C,S,g,Y,i,M,c,J⟩:=ζ;subst Y;obtain rfl:Z=Value.ref e:=W;obtain ⟨N,U⟩:=(I2.hok e _ i).1;obtain ⟨T,gg,d,tk,os⟩:=P;refine JjN M I2.kIn c.sa c.na U fun h' t' A w z ns k=>?_;have m:V A=none:=I2.hok.fresh w;have ne:A≠e:=fun q=>by rw [q,i] at m;cases m
 have R:T.get? A=none:=Heap.get?_none_of_le w;refine ⟨σ,_,I2.un (t':=t') ⟨fun b j z n Q _=>?_,fun b j z n Q _=>?_,fun b j z n _=>?_,fun b j z _=>?_,fun b xs z=>?_,fun b j v z=>?_,fun b p z=>⟨#[],?_⟩⟩ fun a j t=>?_,J A m ne⟩
 ·exact k b j (fun y=>by rw [y,i] at n;cases n) z
 ·exact ⟨_,k b j (fun y=>by rw [y,i] at n;cases n) z⟩
 ·rw [Jag (fun y=>by rw [y,R] at z;cases z),Jag (fun y=>by rw [y,i] at n;cases n)];exact n
 ·by_cases y:b=e
  ·exact ⟨_,by rw [y];assumption⟩
  ·exact ⟨j,k b j y z⟩
 ·rw [Jag (Jah z m),Jag (fun y=>by rw [y,i] at z;cases z)];exact z
 ·rw [Jag (Jah z m),Jag (fun y=>by rw [y,i] at z;cases z)];exact z
 ·rw [Jag (Jah z m),Jag (fun y=>by rw [y,i] at z;cases z),z];simp
 ·by_cases G:a=A
  ·subst G;rw [Jaj] at t;cases t;refine ⟨_,ns,fun E=>?_⟩;show RelO (List.lookup E [(f,y)]) (if E=f then some u else none);by_cases q:E=f
   ·subst q;simp [List.lookup,RelO];exact ry
   ·have : (E == f)=false:=by simpa using q
    simp [List.lookup,this,q,RelO]
  ·rw [Jag G] at t;by_cases F:a=e
   ·subst F;rw [Jaj] at t;cases t;exact Jgc ⟨N,z⟩
   ·rw [Jag F] at t;refine (I2.hok a j t).stay (fun b v B L=>k b v ?_ L) (fun b r=>?_) (fun b xs r=>?_)
    ·rcases B with rfl | B
     ·exact F
     ·exact fun y=>by rw [y,i] at B;cases B
    ·rw [Jag (Jah r m),Jag (fun y=>by rw [y,i] at r;cases r)];exact r
    ·rw [Jag (Jah r m),Jag (fun y=>by rw [y,i] at r;cases r)];exact r
def tFldX (K:W.Frag) (ta:TE) (f:Str):TE:=fun σ H Q=>ta σ H fun x H1=>∃ e C dx fs v,x=.ref e/\H1 e=some (ExcO e C (some dx))/\ExcL K C f/\H1 dx=some (.xd fs)/\fs.lookup f=some v/\Q v H1
theorem Jk3 (he:PE X e ta) (hb:attributeBase e f X.env (eval e X.env)=eval e X.env):PE X (.Attribute e f pos) (tFldX X.K ta f):=by
 intro a s σ H Q I h;refine JhB hb (thn (he a s σ H _ I h) fun u M ζ=>?_);obtain ⟨x,w,I1,y,g,C,E,L,v,B,k,c,j,l,q⟩:=ζ;subst B;obtain rfl:u=Value.ref g:=y;obtain ⟨G,F,m,t,i,D⟩:=(I1.hok g _ k).1;obtain ⟨A,n,r⟩:=I1.hok E _ j;obtain ⟨J,b,z⟩:=Jd1 n;obtain ⟨u,p,d⟩:=RelO.some_of (v:=v) (o:=A f) (by rw [<- l];exact r f);refine Jlr I1.kIn c ⟨m,t,by unfold W.notCls;rw [i],by rw [D];exact b⟩ (by rw [z,p]) (JfG d) ?_;exact ⟨v,w,I1.tok _,d,q⟩
end
structure XCal (P:Program) (w:World) (K:W.Frag) (mg:Str->Option Value) (base:Heap) (k:Nat) (x:Str) (C S:Addr) (ps:List Str) (sp:Sp):Prop where
 ex:∃ (f:Addr) (fd:FuncData),FnOk P w K mg base (CX1 P w) k f fd ps sp/\mg x=some (.ref C)/\ExcI K C S f/\Binds K fd ps []
section
variable {k':Nat} {mn:Str} {C S:Addr} {Cs:Addr->Prop} {ps:List Str} {sp:Sp} {E:XK} {p apos:Pos} {o:Expr} {es:List Expr} {k:Nat} {f:Str} {t:TA} {K:W.Frag}
theorem XCal.ev (G:XCal X.prog X.w X.K X.mg X.base k x C S ps sp) (hr:Room k' X.A) (hk:k+1<=k') (hg:Gl X x) (hx:JbS (CX1 X.prog X.w) X E) (ha:PA X (e::es) t)
  (hdb:(x == ("__debug__" : Str))=false:=by decide) (he:starEach (e::es) X.env=(false,eval e X.env)::starEach es X.env:=by rfl) (hpl:(backTo pos (starEach es X.env)).any (·.1)=false:=by rfl) :
  PE X (.Call (.Name x p) (e::es) [] pos) (JiL C sp E t):=by
 obtain ⟨f,c,F,b,M,a⟩:=G.ex;exact Jjw M F (hr.mono hk) hg b a hx ha hdb he hpl
theorem Jju (hK:X.K=K) (he:PE X e ta) (hb:attributeBase e f X.env (eval e X.env)=eval e X.env):PE X (.Attribute e f pos) (tFldX K ta f):=by
 subst hK;exact Jk3 he hb
end
section
variable {H0:Hp} {E:XK} {σ:St} {En:Ends} {C:Addr} {sp:Sp} {tv te:TE} {mn:Str} {Cs:Addr->Prop} {K:W.Frag} {t:TA} {f:Str}
theorem y84y:JiN K H0 E te En σ H=te σ H fun v H1=>∃ e C S f od,v=.ref e/\H1 e=some (ExcN e C od)/\ExcI K C S f/\H0 e=none/\E (.ref C) od (unt H1 e):=rfl
theorem y6ay:JiL C sp E t σ H Q=t σ H fun vs H1=>vs.length<=sizeLine/\∀ x,H1 x=none->sp (.ref x::vs) (upd H1 x (ExcN x C none)) (fun v H2=>v=.non/\Q (.ref x) H2) E:=rfl
theorem y2cy:Jj9 K t σ H Q=t σ H fun vs H2=>∃ e rest C S f od,vs=.ref e::rest/\rest.length<=sizeLine/\H2 e=some (ExcN e C od)/\ExcI K C S f/\Q .non (upd H2 e (ExcN e C od)):=rfl
theorem y8ay:sFldX K ta tv f En σ H=tv σ H fun y H1=>ta σ H1 fun x H2=>∃ e C S g,x=.ref e/\H2 e=some (ExcN e C none)/\ExcI K C S g/\ExcA K C f/\∀ dx,H2 dx=none->dx≠e->En.nx σ (upd (upd H2 e (ExcN e C (some dx))) dx (.xd [(f,y)])):=rfl
theorem y50y:tFldX K ta f σ H Q=ta σ H fun x H1=>∃ e C dx fs v,x=.ref e/\H1 e=some (ExcO e C (some dx))/\ExcL K C f/\H1 dx=some (.xd fs)/\fs.lookup f=some v/\Q v H1:=rfl
end
section
variable {pins:List (Addr × Obj)} {σ:St} {a:Addr} {u r:Value} {y:V} {A:Around} {E:Value->Shared->Prop} {s:Shared} {k:Key} {v:Option V} {o:Option Value}
theorem JjC {w:Value} (h:RelO v o) (e:o=some w):∃ x,v=some x/\RelV x w:=by
 subst e;cases v with
 | none=>exact absurd h (by simp [RelO])
 | some x=>exact ⟨x,rfl,h⟩
theorem JjB (h:RelO v o) (e:o=none):v=none:=by
 subst e;cases v with
 | none=>rfl
 | some x=>exact absurd h (by simp [RelO])
theorem Jja {Q:Value->Shared->Prop} (I:Inv X pins σ H s) (e:H a=some (.dK kvs)) (ry:RelV (kV k) u) (rd:RelV y r) (hl:kvs.length<sizeLine)
  (h1:∀ v w' s',valV kvs k=some v->Inv X pins σ H s'->RelV v w'->Q w' s') (h2:∀ s',valV kvs k=none->Inv X pins σ (upd H a (.dK (putK kvs k y))) s'->Q r s') :
  wpAny (model X.prog X.w) A (call (.builtin "dict.setdefault") [.ref a,u,r]) Q E s:=by
 obtain ⟨z,d,l,b,f⟩:=dk_of I.hok e;refine call_meetsIn PySem.F.slot_dict_setdefault f.typeIs PySem.F.entry_dict_setdefault (PySem.F.args_dict_setdefault_3 _ _ _) (PySem.kt_meets_setdefault (Jau X.prog X.w) a (kV_is ry) d r) ⟨l,f,by rw [<- b.length];exact z,fun w t=>?_,fun j h c m=>?_⟩
 ·obtain ⟨x,n,o⟩:=JjC (b.val k) t;exact h1 x w _ n (I.tok _) o
 ·have p:=JjB (b.val k) j;refine h2 _ p ?_;have i:∃ q,h.get? a=some q:=let ⟨q,_,_,hq,_⟩:=c;⟨q,hq⟩;have g:(putK kvs k y).length<=sizeLine:=by have:=Jbl kvs k y;ac_nf
  exact JeS I (by rw [e];exact True.intro) m i (JgN g d (b.put k rd) c)
end
def tDSet (td ty tx:TE):TE:=fun σ H Q=>td σ H fun x H1=>∃ a,x=.ref a/\IsD H1 a/\ty σ H1 fun y H2=>tx σ H2 fun z H3=>∃ kvs k,H3 a=some (.dK kvs)/\y=kV k/\kvs.length<sizeLine /\
 (∀ v,valV kvs k=some v->Q v H3)/\(valV kvs k=none->Q z (upd H3 a (.dK (putK kvs k z))))
section
variable {o:Expr} {apos cpos:Pos} {ty tx:TE} {f:Expr} {td:TE}
theorem Jio (ho:PE X o td) (he:PE X e ty) (hf:PE X f tx) (m:M2 X o "setdefault" apos e f cpos):PE X (.Call (.Attribute o "setdefault" apos) [e,f] [] cpos) (tDSet td ty tx):=by
 intro b s σ H Q I h;refine wpAny_Call_method m.base m.few m.line PySem.F.plainAttrs_dict PySem.F.slot_dict_setdefault PySem.F.type_dict_setdefault (thn (ho b s σ H _ I h) fun u N ζ=>?_);obtain ⟨x,t,I1,E,a,G,d,A⟩:=ζ;subst G;obtain rfl:u=Value.ref a:=E;obtain ⟨p,l,_⟩:=JfH I1 d;refine ⟨p,l,?_⟩;rw [m.trees];refine Calls.callWith_builtin rfl (Calls.evalArgs_plain (Calls.spliced_cons (thn (he b N σ t _ I1 A) fun R w ζ=>?_)));obtain ⟨y,C,I2,K,j⟩:=ζ;refine Calls.spliced_cons (thn (hf b w σ C _ I2 j) fun P O ζ=>?_);obtain ⟨z,B,I3,i,D,k,q,n,L,r,M⟩:=ζ;refine Calls.spliced_nil ?_
 subst n;exact Jja I3 q K i L (fun v S J g I4 c=>⟨v,B,I4,c,r v g⟩) fun J g I4=>⟨z,_,I4,i,M g⟩
end
section
variable {σ:St} {ty tx:TE} {td:TE}
theorem y4ay:tDSet td ty tx σ H Q=td σ H fun x H1=>∃ a,x=.ref a/\IsD H1 a/\ty σ H1 fun y H2=>tx σ H2 fun z H3=>∃ kvs k,H3 a=some (.dK kvs)/\y=kV k/\kvs.length<sizeLine/\(∀ v,valV kvs k=some v->Q v H3)/\(valV kvs k=none->Q z (upd H3 a (.dK (putK kvs k z)))):=rfl
theorem y41y:Jkb td ty tx σ H Q=td σ H fun x H1=>∃ a,x=.ref a/\IsD H1 a/\ty σ H1 fun y H2=>tx σ H2 fun z H3=>∃ o,DGet H3 a y o/\Q (o.getD z) H3:=rfl
theorem y43y {trs:List (TE × TE)}:tDisp trs σ H Q=∀ p,H p=none->JfY trs σ (upd H p (.dK [])) fun ps H2=>H2 p=some (.dK [])/\∃ kvs:List (Key × V),ps=kvs.map (fun kv=>(kV kv.1,kv.2))/\kvs.length<=15/\Q (.ref p) (upd H2 p (.dK (JeH [] kvs))):=rfl
theorem y80y {tk tv:TE} {R:List (V × V)->Hp->Prop}:JfY [(tk,tv)] σ H R=tk σ H fun x H1=>tv σ H1 fun y H2=>R [(x,y)] H2:=rfl
theorem y2ey {K:W.Frag} {T:String} {r:V->List V->Hp->VK->Prop} {to:TE}:tBM0 K T r to σ H Q=to σ H fun x H1=>tyV K T x H1/\r x [] H1 Q:=rfl
end
def BG (f : α->Str) (P : α->V->Prop) (as:List α) (kvs:List (Key × V)):Prop:=kvs.map (·.1)=as.map (fun a=>Sum.inr (f a))/\All2 P as (kvs.map (·.2))
section
variable {f : α->Str} {P P' : α->V->Prop} {as:List α} {a : α}
theorem BG.mono (h:BG f P as kvs) (m:∀ a x,P a x->P' a x):BG f P' as kvs:=⟨h.1,h.2.mono m⟩
theorem BG.length (h:BG f P as kvs):kvs.length=as.length:=by simpa using congrArg List.length h.1
theorem BG.cons:BG f P (a::as) kvs↔∃ w r,kvs=(Sum.inr (f a),w)::r/\P a w/\BG f P as r:=by
 constructor
 ·rintro ⟨b,c⟩;match kvs,b,c with
  | (k,w)::r,b,c=>
   rw [map_cons,map_cons,List.cons.injEq] at b;obtain ⟨y,g,e,p,c⟩:=c;rw [map_cons,List.cons.injEq] at e;obtain ⟨rfl,rfl⟩:=e;obtain ⟨d,b⟩:=b;have d:k=Sum.inr (f a):=d;subst d;exact ⟨_,r,rfl,p,b,c⟩
 ·rintro ⟨w,r,rfl,p,h⟩;exact ⟨by rw [map_cons,map_cons,h.1],w,r.map (·.2),rfl,p,h.2⟩
theorem BG.nil:BG f P [] kvs↔kvs=[]:=by
 constructor
 ·rintro ⟨h,_⟩;simpa using h
 ·rintro rfl;exact ⟨rfl,rfl⟩
theorem BG.any:∀ {as:List α} {kvs:List (Key × V)} {z:Str},BG f P as kvs->(kvs.any fun kv=>decide (kv.1=Sum.inr z))=decide (z∈as.map f)
 | [],kvs,z,h=>by rw [BG.nil.mp h];simp
 | a::as,kvs,z,h=>by
  obtain ⟨w,r,rfl,_,h⟩:=BG.cons.mp h;rw [any_cons,BG.any h];by_cases c:f a=z
  ·subst c;simp
  ·have c1:(Sum.inr (f a):Key)≠Sum.inr z:=fun e=>c (by injection e);have c2:z≠f a:=fun e=>c e.symm;simp [c1,c2]
theorem BG.get:∀ {as:List α} {kvs:List (Key × V)} {z:Str},BG f P as kvs->(∃ a v,a∈as/\f a=z/\valV kvs (Sum.inr z)=some v/\P a v)\/(z∉as.map f/\valV kvs (Sum.inr z)=none)
 | [],kvs,z,h=>by
  rw [BG.nil.mp h];exact .inr ⟨by simp,rfl⟩
 | a::as,kvs,z,h=>by
  obtain ⟨w,r,rfl,p,h⟩:=BG.cons.mp h;by_cases c:f a=z
  ·subst c;exact .inl ⟨a,w,by simp,rfl,Jbe rfl,p⟩
  ·have c1:(Sum.inr (f a):Key)≠Sum.inr z:=fun e=>c (by injection e);have c2:z≠f a:=fun e=>c e.symm;have e:valV ((Sum.inr (f a),w)::r) (Sum.inr z)=valV r (Sum.inr z):=by simp [valV,List.find?_cons,c1]
   rw [e];rcases BG.get h (z:=z) with ⟨b,v,h1,h2,h3,h4⟩ | ⟨h1,h2⟩
   ·exact .inl ⟨b,v,by simp [h1],h2,h3,h4⟩
   ·exact .inr ⟨by simp [c2];simpa using h1,h2⟩
theorem BG.some (h:BG f P as kvs) (hz:z∈as.map f):∃ a v,a∈as/\f a=z/\valV kvs (Sum.inr z)=some v/\P a v:=by
 rcases h.get (z:=z) with h | ⟨h,_⟩
 ·exact h
 ·exact absurd hz h
theorem BG.none (h:BG f P as kvs) (hz:z∉as.map f):valV kvs (Sum.inr z)=none:=by
 rcases h.get (z:=z) with ⟨a,v,h1,h2,_⟩ | ⟨_,h⟩
 ·exact absurd (h2 ▸ List.mem_map_of_mem (f:=f) h1) hz
 ·exact h
theorem BG.val (h:BG f P as kvs):(valV kvs (Sum.inr z)).isSome=decide (z∈as.map f):=by
 by_cases c:z∈as.map f
 ·obtain ⟨a,v,_,_,e,_⟩:=h.some c;rw [e,decide_eq_true c];rfl
 ·rw [h.none c,decide_eq_false c];rfl
theorem BG.new (h:BG f P as kvs) (hn:f a∉as.map f) (p:P a v):BG f P (as++[a]) (putK kvs (Sum.inr (f a)) v):=by
 have e:putK kvs (Sum.inr (f a)) v=kvs++[(Sum.inr (f a),v)]:=by
  unfold putK;rw [h.any,if_neg (by simpa using hn)]
 rw [e];exact ⟨by rw [map_append,map_append,h.1];rfl,by rw [map_append];exact h.2.append (.one p)⟩
end
structure PD where
 nm:Str
 st:Str
 en:Str
 sz:Int × Int
 mo:Int × Int
 wt:Int
def JdE (p:PD) (f:Str):List (Str × Pr):=if p.st=f then [(p.en,(p.nm,true))] else if p.en=f then [(p.st,(p.nm,false))] else []
def JaB (ls:List PD) (f:Str):List (Str × Pr):=ls.flatMap fun p=>JdE p f
theorem JdY (ls:List PD) (p:PD) (f:Str):JaB (ls++[p]) f=JaB ls f++JdE p f:=by simp [JaB]
variable {ls:List PD} {pr:Pr}
theorem Ja0 {f g:Str}:(g,pr)∈JaB ls f↔∃ p∈ls,(p.st=f/\p.en=g/\pr=(p.nm,true))\/(p.st≠f/\p.en=f/\p.st=g/\pr=(p.nm,false)):=by
 unfold JaB;rw [mem_flatMap];refine exists_congr fun p=>and_congr_right fun _=>?_;unfold JdE;by_cases a:p.st=f
 ·rw [if_pos a,mem_singleton,Prod.mk.injEq];exact ⟨fun h=>.inl ⟨a,h.1.symm,h.2⟩,fun h=>h.elim (fun h=>⟨h.2.1.symm,h.2.2⟩) fun h=>absurd a h.1⟩
 ·rw [if_neg a];by_cases b:p.en=f
  ·rw [if_pos b,mem_singleton,Prod.mk.injEq];exact ⟨fun h=>.inr ⟨a,b,h.1.symm,h.2⟩,fun h=>h.elim (fun h=>absurd h.1 a) fun h=>⟨h.2.2.1.symm,h.2.2.2⟩⟩
  ·rw [if_neg b];exact ⟨fun h=>by simp at h,fun h=>h.elim (fun h=>absurd h.1 a) fun h=>absurd h.2.1 b⟩
theorem Jib:∀ {ls:List PD} {p q:PD},(ls.map (·.nm)).Nodup->p∈ls->q∈ls->p.nm=q.nm->p=q
 | [],_,_,_,hp,_,_=>by cases hp
 | a::ls,p,q,hn,hp,hq,e=>by
  rw [map_cons,nodup_cons] at hn;rcases mem_cons.mp hp with h1 | h1 <;> rcases mem_cons.mp hq with h2 | h2
  ·rw [h1,h2]
  ·subst h1;exact absurd (e ▸ mem_map.mpr ⟨q,h2,rfl⟩) hn.1
  ·subst h2;exact absurd (e ▸ mem_map.mpr ⟨p,h1,rfl⟩) hn.1
  ·exact Jib hn.2 h1 h2 e
inductive JaR (ls:List PD) (a:Str):List Pr->Str->Prop
 | nil:JaR ls a [] a
 | snoc {w:List Pr} {f g:Str} {pr:Pr}:JaR ls a w f->(g,pr)∈JaB ls f->JaR ls a (w++[pr]) g
def Conn (ls:List PD) (a b:Str):Prop:=∃ w,JaR ls a w b
variable {a b:Str} {S:List Str}
theorem Jkv (ha:a∈S) (hc:∀ f∈S, ∀ e∈JaB ls f,e.1∈S) (h:Conn ls a b):b∈S:=by
 obtain ⟨w,h⟩:=h;induction h with
 | nil=>exact ha
 | snoc _ hm ih=>exact hc _ ih _ hm
def fcsOf (ls:List PD):List Str:=ls.flatMap fun p=>[p.st,p.en]
theorem JgT {f:Str} {e:Str × Pr} (h:e∈JaB ls f):e.1∈fcsOf ls:=by
 obtain ⟨p,b,a⟩:=mem_flatMap.mp h;refine mem_flatMap.mpr ⟨p,b,?_⟩;unfold JdE at a;split at a
 ·rw [mem_singleton.mp a];simp
 ·split at a
  ·rw [mem_singleton.mp a];simp
  ·simp at a
theorem Jg9 {w:List Pr} (h:JaR ls a w b):b∈a::fcsOf ls:=by
 cases h with
 | nil=>simp
 | snoc _ hm=>exact mem_cons_of_mem _ (JgT hm)
theorem Jkz (ls:List PD):(fcsOf ls).length=2*ls.length:=by
 unfold fcsOf;induction ls with
 | nil=>rfl
 | cons p ls ih=>
  rw [List.flatMap_cons,length_append,ih];simp;ac_nf
section
variable {pins:List (Addr × Obj)} {σ:List (Option V)} {s':Shared} {d:Addr} {kvs':List (Key × V)} {od:Obj} {s:Shared}
theorem Inv.freeze (I:Inv X pins σ H s) (e:H d=some (.dK kvs)) (ho:s.heap.get? d=some od):Inv X pins σ (upd H d (.frz od (.dK kvs))) s:=by
 refine I.un (h':=s.heap) (t':=s.toks) ⟨fun b o q _ _ _=>q,fun b o q _ _ _=>⟨o.slots,q⟩,fun b o q n _=>?_,fun b o q _=>⟨o,q⟩,fun b h q=>?_,fun b o u q=>?_,fun b j q=>⟨#[],?_⟩⟩ fun a o q=>?_
 ·rw [Jag (fun z=>by rw [z,e] at n;cases n)];exact n
 ·rw [Jag (fun z=>by rw [z,e] at q;cases q)];exact q
 ·rw [Jag (fun z=>by rw [z,e] at q;cases q)];exact q
 ·rw [Jag (fun z=>by rw [z,e] at q;cases q),Array.append_empty];exact q
 ·have f:∀ i b,H b=some (.own i)->upd H d (.frz od (.dK kvs)) b=some (.own i):=fun i b q=>by
   rw [Jag (fun z=>by rw [z,e] at q;cases q)];exact q
  have g:∀ b h,H b=some (.tup h)->upd H d (.frz od (.dK kvs)) b=some (.tup h):=fun b h q=>by
   rw [Jag (fun z=>by rw [z,e] at q;cases q)];exact q
  by_cases c:a=d
  ·subst c;rw [Jaj] at q;cases q;exact ⟨ho,(I.hok a _ e).stay (fun _ _ _ z=>z) (f a) g⟩
  ·rw [Jag c] at q;exact (I.hok a o q).stay (fun _ _ _ z=>z) (f a) g
theorem Inv.thaw (I:Inv X pins σ H s) (e:H d=some (.dK kvs)) (I':Inv X pins σ H' s') (e':H' d=some (.frz od (.dK kvs'))):Inv X pins σ (upd H' d (.dK kvs')) s':=by
 have m:∀ {b:Addr} {o:HO},H' b=some o->(∀ u v,o≠.frz u v)->b≠d:=fun q h z=>by rw [z,e'] at q;cases q;exact h _ _ rfl
 refine ⟨I'.ok,I'.os,I'.bare,⟨I'.base.keep,I'.base.slot,fun b o q n t=>?_,I'.base.there,fun b l q=>?_,fun b o u q=>?_,fun b y q=>?_⟩,I'.loc,I'.cell,?_,fun x c z=>?_,fun p B=>?_,fun a o q=>?_,I'.len⟩
 ·have:=I'.base.free b o q n t;rw [Jag (fun z=>by rw [z,e'] at this;cases this)];exact this
 ·have:=I'.base.tups b l q;rw [Jag (m this (by intro u v z;cases z))];exact this
 ·have f:=I'.base.frzs b o u q;have g:=I.base.frzs b o u q;rw [Jag (fun z=>by rw [z,e] at g;cases g)];exact f
 ·obtain ⟨j,f⟩:=I'.base.tbls b y q;exact ⟨j,by rw [Jag (m f (by intro u v z;cases z))];exact f⟩
 ·have:=I'.free;rw [Jag (fun z=>by rw [z,e'] at this;cases this)];exact this
 ·have:=I'.freeC x c z;rw [Jag (fun z=>by rw [z,e'] at this;cases this)];exact this
 ·obtain ⟨f,g,A⟩:=I'.pin p B;exact ⟨f,by rw [Jag (fun z=>by rw [z,e'] at g;cases g)];exact g,A⟩
 ·have k:∀ r b,H' b=some (.own r)->upd H' d (.dK kvs') b=some (.own r):=fun r b q=>by
   rw [Jag (m q (by intro u v z;cases z))];exact q
  have i:∀ b l,H' b=some (.tup l)->upd H' d (.dK kvs') b=some (.tup l):=fun b l q=>by
   rw [Jag (m q (by intro u v z;cases z))];exact q
  by_cases c:a=d
  ·subst c;rw [Jaj] at q;cases q;have f:ObjOk X.prog X.w H' s'.heap a (.dK kvs'):=(I'.hok a _ e').2;exact f.stay (fun _ _ _ z=>z) (k a) i
  ·rw [Jag c] at q;exact (I'.hok a o q).stay (fun _ _ _ z=>z) (k a) i
end
def Itv (d:Addr) (od:Obj) (kvs:List (Key × V)):It :=
 ⟨fun i H=>H d=some (.frz od (.dK kvs))/\i<kvs.length,fun i H x H'=>H'=H/\(kvs.map (·.2))[i]?=some x,fun i H=>H d=some (.frz od (.dK kvs))/\kvs.length<=i⟩
variable {P:Program} {tg:Expr} {d it:Addr} {od:Obj} {vs:List (Key × Value)} {ep:Nat}
theorem JiU {w:World} {K:W.Frag} (rel:KV kvs vs) (hd:∀ h:Heap,h.get? d=some od->h.DictAt (Jau P w) d vs ep) :
  Turn P w K tg (Itv d od kvs) [it] it (fun i h=>h.IsValIter it d i vs.length ep) where
 mem:=by simp
 obj:=fun i h a b l=>by
  obtain rfl:b=it:=by simpa using l
  obtain ⟨o,e,c,z⟩:=a;exact ⟨o,e,fun v q=>by rw [z] at q;cases q⟩
 keep:=fun i h n a k=>a.at fun o e=>k it (by simp) o e
 item:=by
  intro X r F t M i f s σ H E I p a y;subst r F t;obtain ⟨j,N⟩:=y;obtain ⟨D,G,U,C,A,B⟩:=p it (by simp);have g:=(I.hok d _ j).1;have T:=rel.length;have O:=JiW rel;obtain ⟨x,J⟩:∃ x,(kvs.map (·.2))[i]?=some x:=⟨_,List.getElem?_eq_getElem (by rw [length_map];exact N)⟩;obtain ⟨u,L,Q⟩:=O.get J;rw [List.getElem?_map] at L;obtain ⟨⟨k,Z⟩,S,rfl⟩:=Option.map_eq_some_iff.mp L;refine wpAny_pyNext_values_item a (hd _ g) S fun n m R=>?_;have I1:Inv X f σ H { s with heap:=n }:=I.turned (t':=s.toks) (fun b o l e=>(R.2 b l).trans e) D G C A B;obtain ⟨o,e,c,z⟩:=id m;exact ⟨_,rfl,go_of (s:={ s with heap:=n }) e c z ⋯ ⟨x,H,I1,Q,⟨rfl,J⟩,m,fun b l=>(p b l).1⟩⟩
 done:=by
  intro X r F t M i f s σ H E I p a y;subst r F t;obtain ⟨j,N⟩:=y;obtain ⟨D,G,U,C,A,B⟩:=p it (by simp);have g:=(I.hok d _ j).1;have T:=rel.length;exact wpAny_pyNext_values_end (I.ok.hd M) a (hd _ g) (List.getElem?_eq_none ∅) fun n Y=>⟨rfl,I.turned (t':=s.toks) (fun b o l e=>Y b o l e) D G C A B⟩
 self:=fun _ _ _ _ _ a h=>wpAny_pyIter_valiter a h
def iVals (td:TE):TI:=fun σ H R=>td σ H fun x H1=>∃ d kvs,x=.ref d/\H1 d=some (.dK kvs)/\∀ od,R (Itv d od kvs) (upd H1 d (.frz od (.dK kvs)))
variable {apos cpos:Pos}
theorem Jir {o:Expr} {td:TE} (ho:PE X o td) (hb:attributeBase o "values" X.env (eval o X.env)=eval o X.env:=by rfl) (hn:(apos.endLine == cpos.line)=true:=by rfl) :
  PI X tg (.Call (.Attribute o "values" apos) [] [] cpos) (iVals td):=by
 intro c s σ H R I h;refine wpAny_Call_method0_late hb hn (thn (ho c s σ H _ I h) fun v a ζ=>?_);obtain ⟨y,C,I1,u,d,kvs,x,e,t⟩:=ζ;subst x;obtain rfl:v=Value.ref d:=u;obtain ⟨l,p,B⟩:=JfH I1 (.inl ⟨kvs, .inl e⟩);obtain ⟨D,_,vs,i,n⟩:=dk_of I1.hok e;refine ⟨"dict","dict.values",PySem.F.plainAttrs_dict,PySem.F.slot_dict_values,PySem.F.type_dict_values,l,p,Calls.callWith_builtin rfl (PySem.evalArgs_none ?_)⟩;refine call_meetsIn PySem.F.slot_dict_values l PySem.F.entry_dict_values (PySem.F.args_dict_values_1 _) (meets_dict_values (Jau X.prog X.w) d B) ⟨⟨vs,n⟩,?_⟩;obtain ⟨ep,j⟩:=n.dictAt;obtain ⟨m,A,f,rest⟩:=id j;refine wpAny_pyIter_values (knd:=Jau X.prog X.w) (v:=a.heap.objs.size) (d:=d) (kvs:=vs) (ep:=ep) ⟨_,Heap.get?_push_size _ rfl,rfl,rfl⟩ (j.push _) ?_;have r:∀ b o,a.heap.get? b=some o->((a.heap.push { cls:=.type "dict_values",data:=.fields #[.ref d] }).push { cls:=.type "dict_valueiterator",data:=.fields #[.ref d, .int 0 0, .int vs.length 0, .int ep 0] }).get? b=some o:=fun b o z=>Heap.get?_push_of_some _ (Heap.get?_push_of_some _ z);have I2:=(I1.freeze e f).kept (t':=a.toks) r;have k:a.heap.objs.size<=(a.heap.push { cls:=.type "dict_values",data:=.fields #[.ref d] }).objs.size:=by
  rw [Heap.size_push];exact Nat.le_succ _
 refine ⟨_,[_],_,_,_,rfl,I2,JiU (vs:=vs) (ep:=ep) i (fun h q=>⟨m,A,q,rest⟩),⟨_,Heap.get?_push_size _ rfl,rfl,rfl⟩,fun b g=>?_,t m⟩;obtain rfl:=mem_singleton.mp g;exact I1.fpOk k ((I1.freeze e f).hok.fresh k)
def tThaw (t:TE):TE:=fun σ H Q=>∃ d kvs,H d=some (.dK kvs)/\t σ H fun v H'=>∃ od kvs',H' d=some (.frz od (.dK kvs'))/\Q v (upd H' d (.dK kvs'))
theorem Jgu {t:TE} (h:PE X e t):PE X e (tThaw t):=by
 intro a s σ H Q I ⟨d,i,f,q⟩;exact thn (h a s σ H _ I q) fun v m ζ=>by obtain ⟨x,k,I1,j,l,b,c,g⟩:=ζ;exact ⟨x,_,I.thaw f I1 c,j,g⟩
section
variable {cs:List (Nat × Str)} {te tl:TE} {σ:St} {k:Nat} {g:TG} {td:TE}
theorem y3cy:tThaw (tComp k cs (iVals td) g te) σ H Q=∃ d kvs,H d=some (.dK kvs)/\td σ H fun x H1=>∃ d1 kvs1,x=.ref d1/\H1 d1=some (.dK kvs1)/\∀ od,CompJ (Itv d1 od kvs1) k cs g te σ (fun v H'=>∃ od kvs',H' d=some (.frz od (.dK kvs'))/\Q v (upd H' d (.dK kvs'))) (upd H1 d1 (.frz od (.dK kvs1))):=rfl
theorem CompJ.vals (Pv:Nat->List V->Hp->Prop) (h0:Pv 0 [] H1) (hl:∀ i ys H',i<=kvs.length->Pv i ys H'->H' d=some (.frz od (.dK kvs))/\ys.length<=sizeLine)
  (hs:∀ i x ys H2,(kvs.map (·.2))[i]?=some x->Pv i ys H2->g x (List.replicate k none++Jax cs σ) H2 fun σ4 H4=>te σ4 H4 fun y H5=>Pv (i+1) (ys++[y]) H5) (hd:∀ ys H2,Pv kvs.length ys H2->∀ p,H2 p=none->Q (.ref p) (upd H2 p (.lst ys))) :
  CompJ (Itv d od kvs) k cs g te σ Q H1:=by
 refine ⟨fun i m ys H'=>Pv i ys H'/\i<=kvs.length/\m=kvs.length-i,⟨_,h0,Nat.zero_le _,rfl⟩,?_⟩;rintro i m ys H2 ⟨a,l,rfl⟩;obtain ⟨b,j⟩:=hl i ys H2 l a;refine ⟨j,?_⟩;by_cases c:i<kvs.length
 ·refine .inr ⟨⟨b,c⟩,?_⟩;rintro x n ⟨rfl,h⟩;have e:(fun (σ4:St) (H4:Hp)=>te σ4 H4 fun y H5=>Pv (i+1) (ys++[y]) H5)=fun σ4 H4=>te σ4 H4 fun y H5=>∃ m',m'<kvs.length-i/\Pv (i+1) (ys++[y]) H5/\i+1<=kvs.length/\m'=kvs.length-(i+1):=by
   funext σ4 H4
   congr 1
   funext y H5
   exact propext ⟨fun q=>⟨_,Nat.sub_lt_sub_left c (Nat.lt_succ_self i),q,c,rfl⟩,fun ζ=>by obtain ⟨_,_,q,_⟩:=ζ;exact q⟩
  rw [<- e];exact hs i x ys n h a
 ·have f:i=kvs.length:=by ac_nf
  subst f;exact .inl ⟨⟨b,Nat.le_refl _⟩,hd ys H2 a⟩
end
section
variable {k':Nat} {C:Addr} {ps:List Str} {sp:Sp} {E:XK} {p:Pos} {k:Nat}
theorem KCal.ev0 (G:KCal X.prog X.w X.K X.mg X.base k x C ps sp) (hr:Room k' X.A) (hk:k+1<=k') (hg:Gl X x) (hx:JbS (CX1 X.prog X.w) X E) (hdb:(x == ("__debug__" : Str))=false:=by decide) :
  PE X (.Call (.Name x p) [] [] pos) (tMake C sp [] E tNil):=by
 obtain ⟨f,c,F,b,M,a⟩:=G.ex;exact Jjv M F (hr.mono hk) hg b a .nil hx hdb
end
def wtB:D->Bool
 | .int i=>decide (1<=i)
 | _=>false
def partB:D->Bool
 | .tup [n,s,e,z,m,w]=>nameB n&&JjX s e&&(fracB z&&fracB m&&Jmi w)&&(!lessD m (.tup [.int 0, .int 1])&&wtB w)
 | _=>false
def gapB:D->Bool
 | .tup [n,s,e,l,g]=>tieB (.tup [n,s,e,l,g])&&!nonD l&&!nonD g
 | _=>false
structure POk (p:PD):Prop where
 n1:nameS p.nm=true
 n2:nameS p.st=true
 n3:nameS p.en=true
 ne:p.st≠p.en
 z:FOk 200 p.sz
 m:FOk 200 p.mo
 m0:0<=p.mo.1
 w:1<=p.wt
 ws:Mth.Sz 200 p.wt
structure GD where
 nm:Str
 st:Str
 en:Str
 lo:Int × Int
 hi:Int × Int
def GD.td (g:GD):TD:=⟨g.nm,g.st,g.en,some g.lo,some g.hi⟩
def PDV (K:W.Frag) (H:Hp) (p:PD) (x:V):Prop:=∃ b vz vm,x=.ref b/\SqT K H b [.str p.nm, .str p.st, .str p.en,vz,vm, .int p.wt]/\FrV K H vz p.sz.1 p.sz.2/\FrV K H vm p.mo.1 p.mo.2
section
variable {K:W.Frag} {p:PD} {x:V}
theorem PDV.sameT (S:SameT H H'):PDV K H p x->PDV K H' p x:=by rintro ⟨b,d,f,e,q,a,c⟩;exact ⟨b,d,f,e,q.sameT S,a.sameT S,c.sameT S⟩
end
def LeV (H:Hp) (e:Str × Pr) (x:V):Prop:=∃ b c,x=.ref b/\H b=some (.tup [.str e.1, .ref c])/\H c=some (.tup [.str e.2.1, .bl e.2.2])
variable {e:Str × Pr}
theorem LeV.sameT {x:V} (S:SameT H H'):LeV H e x->LeV H' e x:=by rintro ⟨b,c,a,d,f⟩;exact ⟨b,c,a,S _ _ rfl d,S _ _ rfl f⟩
structure JD (H0 H:Hp) (L:Str->List (Str × Pr)) (kvs:List (Key × V)):Prop where
 at_:∀ (f:Str),(valV kvs (Sum.inr f)=none/\L f=[])\/∃ l xs,valV kvs (Sum.inr f)=some (.ref l)/\H0 l=none/\H l=some (.lst xs)/\All2 (LeV H) (L f) xs
 inj:∀ (f g:Str) (l:Addr),valV kvs (Sum.inr f)=some (.ref l)->valV kvs (Sum.inr g)=some (.ref l)->f=g
variable {H0:Hp} {L:Str->List (Str × Pr)}
theorem JD.same (S:Same H H') (h:JD H0 H L kvs):JD H0 H' L kvs where
 at_:=fun f=>by
  rcases h.at_ f with h | ⟨l,xs,h1,h2,h3,h4⟩
  ·exact .inl h
  ·exact .inr ⟨l,xs,h1,h2,S _ _ h3,h4.mono fun _ _ z=>z.sameT S.t⟩
 inj:=h.inj
theorem JD.sx {kv2:List (Key × V)} (S:∀ b u,b≠d->H b=some u->H' b=some u) (hd:H d=some (.dK kv2)) (h:JD H0 H L kvs):JD H0 H' L kvs where
 at_:=fun f=>by
  have T:SameT H H':=fun b u t q=>S b u (fun z=>by rw [z,hd] at q;cases q;simp [isTF] at t) q;rcases h.at_ f with h | ⟨l,xs,h1,h2,h3,h4⟩
  ·exact .inl h
  ·exact .inr ⟨l,xs,h1,h2,S _ _ (fun z=>by rw [z,hd] at h3;cases h3) h3,h4.mono fun _ _ z=>z.sameT T⟩
 inj:=h.inj
variable {o:HO}
theorem JD.sy {x:Addr} (S:∀ b u,b≠x->H b=some u->H' b=some u) (hx:H x=some o) (hn:∀ xs,o≠.lst xs) (ht:isTF o=false) (h:JD H0 H L kvs):JD H0 H' L kvs where
 at_:=fun f=>by
  have T:SameT H H':=fun b u t q=>S b u (fun z=>by rw [z,hx] at q;cases q;rw [ht] at t;cases t) q;rcases h.at_ f with h | ⟨l,xs,h1,h2,h3,h4⟩
  ·exact .inl h
  ·exact .inr ⟨l,xs,h1,h2,S _ _ (fun z=>by rw [z,hx] at h3;exact hn _ (Option.some.inj h3)) h3,h4.mono fun _ _ z=>z.sameT T⟩
 inj:=h.inj
theorem JD.nil:JD H0 H (fun _=>[]) []:=⟨fun f=>.inl ⟨rfl,rfl⟩,fun f g l h=>by simp [valV] at h⟩
def addL (L:Str->List (Str × Pr)) (f:Str) (e:Str × Pr):Str->List (Str × Pr):=fun g=>if g=f then L g++[e] else L g
variable {l b:Addr}
theorem JD.more {f:Str} (h:JD H0 H L kvs) (hv:valV kvs (Sum.inr f)=some (.ref l)) (hl:H l=some (.lst xs)) (hb:LeV H e (.ref b)) (e':upd H l (.lst (xs++[.ref b]))=H'):JD H0 H' (addL L f e) kvs where
 at_:=fun g=>by
  have T:SameT H H':=SameT.put e' hl rfl;have a:H' l=some (.lst (xs++[.ref b])):=by rw [<- e',Jaj]
  by_cases c:g=f
  ·subst c;rcases h.at_ g with ⟨h1,_⟩ | ⟨l2,xs2,h1,h2,h3,h4⟩
   ·rw [hv] at h1;cases h1
   ·rw [hv] at h1;cases h1;rw [hl] at h3;cases h3;refine .inr ⟨l,_,hv,h2,a,?_⟩;unfold addL;rw [if_pos rfl];exact (h4.mono fun _ _ z=>z.sameT T).append (.one (hb.sameT T))
  ·unfold addL;rw [if_neg c];rcases h.at_ g with h1 | ⟨l2,xs2,h1,h2,h3,h4⟩
   ·exact .inl h1
   ·have d:l2≠l:=fun z=>c (h.inj g f l (by rw [h1,z]) hv);exact .inr ⟨l2,xs2,h1,h2,by rw [<- e',Jag d];exact h3,h4.mono fun _ _ z=>z.sameT T⟩
 inj:=h.inj
theorem JD.first {f:Str} (h:JD H0 H L kvs) (hv:valV kvs (Sum.inr f)=none) (h0:H0 l=none) (hn:∀ g l',valV kvs (Sum.inr g)=some (.ref l')->l'≠l) (hl:H l=some (.lst [])) (hb:LeV H e (.ref b)) (e':upd H l (.lst [.ref b])=H'):JD H0 H' (addL L f e) (putK kvs (Sum.inr f) (.ref l)) where
 at_:=fun g=>by
  have T:SameT H H':=SameT.put e' hl rfl;have m:H' l=some (.lst [.ref b]):=by rw [<- e',Jaj]
  rw [Jg7];by_cases c:g=f
  ·subst c;rw [if_pos rfl];refine .inr ⟨l,_,rfl,h0,m,?_⟩;unfold addL;rw [if_pos rfl];rcases h.at_ g with ⟨_,d⟩ | ⟨l2,xs2,a,_⟩
   ·rw [d];exact .one (hb.sameT T)
   ·rw [hv] at a;cases a
  ·have o:(Sum.inr g:Key)≠Sum.inr f:=fun z=>c (by injection z);rw [if_neg o];unfold addL;rw [if_neg c];rcases h.at_ g with a | ⟨l2,xs2,a,d,h3,h4⟩
   ·exact .inl a
   ·exact .inr ⟨l2,xs2,a,d,by rw [<- e',Jag (hn g l2 a)];exact h3,h4.mono fun _ _ z=>z.sameT T⟩
 inj:=fun n j l' a d=>by
  rw [Jg7] at a d;by_cases k:(Sum.inr n:Key)=Sum.inr f
  ·by_cases i:(Sum.inr j:Key)=Sum.inr f
   ·have:=k.trans i.symm;injection this
   ·rw [if_pos k] at a;rw [if_neg i] at d;cases a;exact absurd rfl (hn j l d)
  ·by_cases i:(Sum.inr j:Key)=Sum.inr f
   ·rw [if_neg k] at a;rw [if_pos i] at d;cases d;exact absurd rfl (hn n l a)
   ·rw [if_neg k] at a;rw [if_neg i] at d;exact h.inj n j l' a d
variable {p:PD}
theorem Jc4 (h:p.st≠p.en):addL (addL (JaB ls) p.st (p.en,(p.nm,true))) p.en (p.st,(p.nm,false))=JaB (ls++[p]):=by
 funext g
 rw [JdY];unfold addL JdE;by_cases a:g=p.en
 ·subst a;have e:p.en≠p.st:=fun z=>h z.symm;simp [h,e]
 ·have b:p.en≠g:=fun z=>a z.symm;by_cases d:g=p.st
  ·subst d;simp [a]
  ·have c:p.st≠g:=fun z=>d z.symm;simp [a,d,b,c]
theorem JeY (ls:List PD) (f:Str):(JaB ls f).length<=ls.length:=by
 unfold JaB;induction ls with
 | nil=>simp
 | cons p ls ih=>
  rw [List.flatMap_cons,length_append,length_cons];have : (JdE p f).length<=1:=by
   unfold JdE;split
   ·simp
   ·split <;> simp
  ac_nf
def PWy (H H':Hp) (wl:Addr) (a:Str × List Pr) (v:V):Prop:=∃ l xs,v=.ref l/\H l=none/\l≠wl/\H' l=some (.lst xs)/\All2 (CV H') a.2 xs
structure Srch (H:Hp) (ls:List PD) (one:Str) (fd wl:Addr) (H':Hp) (ws:List (Str × List Pr)) (wt:List Str):Prop where
 same:Same H H'
 dict:∃ kvs,H' fd=some (.dK kvs)/\BG (·.1) (PWy H H' wl) ws kvs
 nd:(ws.map (·.1)).Nodup
 here:one∈ws.map (·.1)
 walk:∀ a∈ws,JaR ls one a.2 a.1
 wait:H' wl=some (.lst (wt.map V.str))
 sub:∀ f∈wt,f∈ws.map (·.1)
 lw:∀ a∈ws,a.2.length<=ws.length
 sim:∀ a∈ws,(a.2.map (·.1)).Nodup/\∀ p∈ls,p.nm∈a.2.map (·.1)->p.st∈ws.map (·.1)/\p.en∈ws.map (·.1)
section
variable {H'':Hp} {fd wl:Addr} {ws:List (Str × List Pr)} {wt:List Str} {one:Str}
theorem Srch.len (h:Srch H ls one fd wl H' ws wt) (hl:ls.length<=20):ws.length<=41:=by
 have:=sub_len (ws.map (·.1)) (one::fcsOf ls) h.nd fun z b=>by
  obtain ⟨a,c,rfl⟩:=mem_map.mp b;exact Jg9 (h.walk a c)
 rw [length_map,length_cons,Jkz] at this;ac_nf
theorem Srch.grow (h:Srch H ls one fd wl H' ws wt) (S:Same H' H''):Srch H ls one fd wl H'' ws wt:=by
 obtain ⟨b,c,d⟩:=h.dict;exact ⟨h.same.trans S,⟨b,S _ _ c,d.mono fun a v ζ=>by obtain ⟨l,f,e,i,k,j,g⟩:=ζ;exact ⟨l,f,e,i,k,S _ _ j,g.mono fun _ _ z=>z.sameT S.t⟩⟩,h.nd,h.here,h.walk,S _ _ h.wait,h.sub,h.lw,h.sim⟩
theorem Srch.wait' {wt':List Str} (h:Srch H ls one fd wl H' ws wt) (hw:H wl=none) (e:upd H' wl (.lst (wt'.map V.str))=H'') (hs:∀ f∈wt',f∈ws.map (·.1)):Srch H ls one fd wl H'' ws wt':=by
 obtain ⟨g,i,k⟩:=h.dict;have T:SameT H' H'':=SameT.put e h.wait rfl;have d:fd≠wl:=fun z=>by have:=h.wait;rw [<- z,i] at this;cases this
 refine ⟨fun b u q=>by rw [<- e,Jag (Jah q hw)];exact h.same _ _ q,⟨g,by rw [<- e,Jag d];exact i,k.mono fun a v ⟨l,m,j,o,c,p,n⟩=>⟨l,m,j,o,c,by rw [<- e,Jag c];exact p,n.mono fun _ _ z=>z.sameT T⟩⟩,h.nd,h.here,h.walk,by rw [<- e,Jaj],hs,h.lw,h.sim⟩
theorem Srch.find {g:Str} {w:List Pr} (h:Srch H ls one fd wl H' ws wt) (hk:H' fd=some (.dK kvs)) (hb:BG (·.1) (PWy H H' wl) ws kvs) (hf:H fd=none) (hg:g∉ws.map (·.1)) (hwk:JaR ls one w g) (hlw:w.length<=ws.length+1) (hsm:(w.map (·.1)).Nodup/\∀ p∈ls,p.nm∈w.map (·.1)->p.st∈(ws++[(g,w)]).map (·.1)/\p.en∈(ws++[(g,w)]).map (·.1)) (hl:H l=none) (hne:l≠wl) (hx:H' l=some (.lst xs)) (ha:All2 (CV H') w xs)
  (e:upd H' fd (.dK (putK kvs (Sum.inr g) (.ref l)))=H''):Srch H ls one fd wl H'' (ws++[(g,w)]) wt:=by
 have T:SameT H' H'':=SameT.put e hk rfl;have j:wl≠fd:=fun z=>by have:=h.wait;rw [z,hk] at this;cases this
 have i:∀ {b:Addr} {ys:List V},H' b=some (.lst ys)->H'' b=some (.lst ys):=fun q=>by rw [<- e,Jag (fun z=>by rw [z,hk] at q;cases q)];exact q
 refine ⟨fun b u q=>by rw [<- e,Jag (Jah q hf)];exact h.same _ _ q,⟨_,by rw [<- e,Jaj],?_⟩,?_,?_,?_,i h.wait,?_,?_,?_⟩
 ·have:=hb.mono (P':=PWy H H'' wl) fun a v ⟨l,xs,k,d,hne,hx,ha⟩=>⟨l,xs,k,d,hne,i hx,ha.mono fun _ _ z=>z.sameT T⟩;exact this.new (a:=(g,w)) hg ⟨l,xs,rfl,hl,hne,i hx,ha.mono fun _ _ z=>z.sameT T⟩
 ·rw [map_append,nodup_append];refine ⟨h.nd,by simp,fun a ha b hb z=>hg ?_⟩;rw [map_cons,map_nil,mem_singleton] at hb;have hb:b=g:=hb;rw [<- hb, <- z];exact ha
 ·rw [map_append];exact mem_append.mpr (.inl h.here)
 ·intro a ha;rcases mem_append.mp ha with ha | ha
  ·exact h.walk a ha
  ·rw [mem_singleton.mp ha];exact hwk
 ·intro f c;rw [map_append];exact mem_append.mpr (.inl (h.sub f c))
 ·intro a ha;rw [length_append,length_singleton];rcases mem_append.mp ha with ha | ha
  ·have:=h.lw a ha;ac_nf
  ·rw [mem_singleton.mp ha];exact hlw
 ·intro a ha;rcases mem_append.mp ha with ha | ha
  ·refine ⟨(h.sim a ha).1,fun p m d=>?_⟩;have:=(h.sim a ha).2 p m d;rw [map_append];exact ⟨mem_append.mpr (.inl this.1),mem_append.mpr (.inl this.2)⟩
  ·rw [mem_singleton.mp ha];exact hsm
end
inductive PR
 | ok (ls:List PD)
 | noPart
 | twice
 | ring
open Classical in
noncomputable def partsW:List PD->List (PD ⊕ D)->PR
 | acc,[]=>.ok acc
 | _, .inr _::_=>.noPart
 | acc, .inl p::r=>if p.nm∈acc.map (·.nm) then .twice else if Conn acc p.st p.en then .ring else partsW (acc++[p]) r
theorem JfT {acc:List PD} {r:List (PD ⊕ D)} (h:p.nm∉acc.map (·.nm)) (hc:¬ Conn acc p.st p.en):partsW acc (.inl p::r)=partsW (acc++[p]) r:=by
 rw [partsW,if_neg h,if_neg hc]
def WOV (H:Hp) (ls:List PD) (g:GD) (v:V):Prop:=∃ l xs w,v=.ref l/\H l=some (.lst xs)/\All2 (CV H) w xs/\JaR ls g.st w g.en/\(w.map (·.1)).Nodup
theorem WOV.same {g:GD} (S:Same H H'):WOV H ls g v->WOV H' ls g v:=by rintro ⟨l,c,w,a,b,e,d⟩;exact ⟨l,c,w,a,S _ _ b,e.mono fun _ _ z=>z.sameT S.t,d⟩
variable {es:List Expr}
theorem Jk6 {K:W.Frag} {k:Nat} {t:TGs} (hK:X.K=K) (hc:X.calm=true) (h:PGs X es t) (hn:(assignEach es X.env).length=n:=by rfl) (hst:(assignEach es X.env).findIdx? (·.1)=none:=by rfl):PG X (.Tuple es k pos) (gTup K n t):=by
 subst hK;exact JeJ hc h hn hst
abbrev Fr2:=Int × Int
section
variable {cs:List (Nat × Str)} {te:TE} {ta:TA} {σ:St} {a:Addr} {zs:List V} {K:W.Frag} {k:Nat} {g:TG}
end
section
variable {K:W.Frag}
end
section
variable {prog:Program} {A:Around} {E:Value->Shared->Prop} {w:World} {s:Shared}
end
section
variable {prog:Program} {A:Around} {E:Value->Shared->Prop} {w:World} {s:Shared}
end
variable {elts:List Expr} {x1:Nat} {tp:Pos}
section
variable {cs:List (Nat × Str)} {te:TE} {ta:TA} {σ:St} {a:Addr} {K:W.Frag} {k:Nat} {g:TG}
end
def Itq (lo c:Int) (n:Nat):It:=⟨fun i _=>i<n,fun i H x H'=>H'=H/\x=.int (lo+i*c),fun i _=>n<=i⟩
theorem JgD {w:World} {K:W.Frag} (it:Addr) (lo c:Int) (n:Nat):Turn P w K tg (Itq lo c n) [it] it (fun i h=>IsRangeIter h it (lo+(i:Nat)*c) ((n:Int)-(i:Nat)) c) where
 mem:=by simp
 obj:=fun i h a b f=>by
  have e:b=it:=by simpa using f
  subst e;exact ⟨_,a,fun v z=>by
   have L:Data.fields _=Data.cell v:=z;cases L⟩
 keep:=fun i h j a k=>k it (by simp) _ a
 item:=by
  intro X m B p q i d s σ H E I l a r;subst m B p;obtain ⟨A,C,G,y,u,x⟩:=l it (by simp);have W:=Walks.range (prog:=X.prog) (w:=X.w) (I.ok.hd q) it lo c n;refine W.item i s _ _ r a fun v j D M g F=>?_;obtain ⟨t,rfl⟩:=M;have I1:Inv X d σ H { s with heap:=j,toks:=D }:=I.turned (fun b o f e=>F b o (by simpa using f) e) A C y u x;exact ⟨_,rfl,go_of (s:={ s with heap:=j,toks:=D }) (n:="range_iterator") g rfl rfl ⋯ ⟨.int (lo+i*c),H,I1,⟨t,rfl⟩,⟨rfl,rfl⟩,g,fun b f=>(l b f).1⟩⟩
 done:=by
  intro X m B p q i d s σ H E I l a r;subst m B p;obtain ⟨A,C,G,y,u,x⟩:=l it (by simp);exact wpAny_pyNext_range_end (I.ok.hd q) a (by have : n<=i:=r;ac_nf) fun j J=>⟨rfl,I.turned (t':=s.toks) (fun b o f e=>J b o f e) A C y u x⟩
 self:=fun _ _ _ _ _ a h=>wpAny_pyIter_rangeiter a h
def rsz (lo hi c:Int):Nat:=(if lo<hi then (hi-lo-1)/c+1 else 0).toNat
variable {hi c:Int}
theorem JeK {lo:Int} (hc:1<=c):((rsz lo hi c:Nat):Int)=Builtin.Range.rangeSize lo hi c:=by
 unfold rsz Builtin.Range.rangeSize;rw [if_pos (show c > 0 by ac_nf)];split
 ·have:=Int.ediv_nonneg (a:=hi-lo-1) (b:=c) ∅ ∅;ac_nf
 ·rfl
theorem Jgw {lo:Int} (h1:0<=lo) (h2:lo<2 ^ 40) (h3:0<=hi) (h4:hi<2 ^ 40) (h5:1<=c) (h6:c<2 ^ 30):Builtin.Range.small lo hi c=true:=by
 unfold Builtin.Range.small;have e:0<=Builtin.Range.rangeSize lo hi c/\Builtin.Range.rangeSize lo hi c<2 ^ 41:=by
  rw [<- JeK h5];refine ⟨by ac_nf,?_⟩;unfold rsz;split
  ·have f:=Int.ediv_nonneg (a:=hi-lo-1) (b:=c) ∅ ∅;have d:=Int.ediv_le_self c (show 0<=hi-lo-1 by ac_nf);ac_nf
  ·simp
 generalize Builtin.Range.rangeSize lo hi c=z at e ⊢;simp only [Builtin.Range.rangeFitsLong,Bool.and_eq_true,Bool.or_eq_true,decide_eq_true_eq,beq_iff_eq];rw [if_pos ∅];simp only [Bool.and_eq_true,decide_eq_true_eq];ac_nf
variable {pins:List (Addr × Obj)} {σ:St}
theorem Jl8 {s:Shared} {R:It->Hp->Prop} {h:Heap} {lo:Int} {t':Nat} (I:Inv X pins σ H { s with heap:=h,toks:=t' }) (q:R (Itq lo c n) H) :
  PIE X pins σ tg R (.ref h.objs.size) { s with heap:=h.push { cls:=.type "range_iterator",data:=.fields #[rawInt lo,rawInt (n:Int),rawInt c] },toks:=t' }:=by
 refine ⟨h.objs.size,[h.objs.size],_,_,H,rfl,I.kept (t':=t') fun b o e=>Heap.get?_push_of_some _ e,JgD _ lo c n,?_,fun b d=>?_,q⟩
 ·have a:lo+((0:Nat):Int)*c=lo:=by simp
  have f:(n:Int)-((0:Nat):Int)=n:=by simp
  show IsRangeIter _ _ (lo+((0:Nat):Int)*c) ((n:Int)-((0:Nat):Int)) c;rw [a,f];exact Heap.get?_push_size _ rfl
 ·have e:b=h.objs.size:=by simpa using d
  subst e;exact I.fpOk (Nat.le_refl _) (I.hok.fresh (Nat.le_refl _))
def iRng3 (ta:TA):TI:=fun σ H R=>ta σ H fun vs H1=>∃ i j c:Int,vs=[.int i, .int j, .int c]/\(0<=i/\i<2 ^ 40/\0<=j/\j<2 ^ 40/\1<=c/\c<2 ^ 30)/\R (Itq i c (rsz i j c)) H1
variable {ta:TA}
theorem Jiq {a b d:Expr} {p:Pos} (hg:Gl X "range") (hm:X.mg "range"=none) (ha:PA X [a,b,d] ta)
  (hs:starEach [a,b,d] X.env=[(false,eval a X.env),(false,eval b X.env),(false,eval d X.env)]:=by rfl) (hs2:starEach [b,d] X.env=[(false,eval b X.env),(false,eval d X.env)]:=by rfl):PI X tg (.Call (.Name "range" p) [a,b,d] [] pos) (iRng3 ta):=by
 intro f s σ H R I h;refine wpAny_Call_Name_kw (JdX I hg hm Ji7 ?_);refine PyProof.Rows.callWith_type1 (thn (ha pos f s σ H _ I h) fun y x ζ=>?_) (by rw [hs,hs2]) (by rw [hs2];rfl);obtain ⟨z,A,I1,n,g⟩:=ζ;obtain ⟨i,j,c,e,⟨g,l,m,w,k,u⟩,q⟩:=g;subst e;cases n with
 | cons r rr=>
  cases rr with
  | cons r' rr=>
   cases rr with
   | cons r'' rr=>
    cases rr;obtain ⟨t,rfl⟩:=r;obtain ⟨t',rfl⟩:=r';obtain ⟨v,rfl⟩:=r'';refine call_range_3 ∅ ?_ (Or.inl (PyProof.noPylong_small ∅));refine wpAny_pyIter_range (IsRange.new ..) (Jgw g l m w k u) ?_;rw [<- JeK k];exact Jl8 (I1.kept (t':=x.toks) fun b o e=>Heap.get?_push_of_some _ e) q
section
variable {tb:TS} {g:TG} {D:Ends}
def ForQ (lo c:Int) (n:Nat) (g:TG) (tb:TS) (D:Ends) (σ : St) (H:Hp):Prop:=∃ W:Nat->Nat->St->Hp->Prop,(∃ m,W 0 m σ H)/\∀ i m σ H,W i m σ H ->
 ((Itq lo c n).stop i H/\D.nx σ H)\/((Itq lo c n).go i H/\∃ N:St->Hp->Prop,(∀ σ' H',N σ' H'->∃ m',m'<m/\W (i+1) m' σ' H')/\∀ x H',(Itq lo c n).yld i H x H'->g x σ H' fun σ2 H2=>tb { D with nx:=N,ct:=N,bk:=D.nx } σ2 H2)
theorem y55y:tFor (iRng3 ta) g tb D σ H=ta σ H fun vs H1=>∃ i j c:Int,vs=[.int i, .int j, .int c]/\(0<=i/\i<2 ^ 40/\0<=j/\j<2 ^ 40/\1<=c/\c<2 ^ 30)/\ForQ i c (rsz i j c) g tb D σ H1:=rfl
theorem ForQ.by {lo:Int} (Pv:Nat->St->Hp->Prop) (h0:Pv 0 σ H)
  (hs:∀ i σ H,i<n->Pv i σ H->g (.int (lo+i*c)) σ H fun σ2 H2=>tb { D with nx:=Pv (i+1),ct:=Pv (i+1),bk:=D.nx } σ2 H2) (hd:∀ σ H,Pv n σ H->D.nx σ H):ForQ lo c n g tb D σ H:=by
 refine ⟨fun i m σ H=>m=n-i/\i<=n/\Pv i σ H,⟨n,by simp,Nat.zero_le _,h0⟩,?_⟩;rintro i m σ H ⟨rfl,f,p⟩;by_cases a:i<n
 ·refine .inr ⟨a,Pv (i+1),fun σ' b d=>⟨n-(i+1),by ac_nf,rfl,a,d⟩,fun x b y=>?_⟩;obtain ⟨e,y⟩:=y;subst e y;exact hs i σ _ a p
 ·have e:i=n:=by ac_nf
  subst e;exact .inl ⟨Nat.le_refl _,hd σ H p⟩
end
theorem y5fy {c:TT} {ta tb:TE}:tIf c ta tb σ H Q=c σ H fun b H1=>if b=true then ta σ H1 Q else tb σ H1 Q:=rfl
def rLenD (xs:List V) (H:Hp) (Q:VK):Prop:=∃ d kvs,xs=[.ref d]/\H d=some (.dK kvs)/\Q (.int (kvs.length:Int)) H
theorem Jfz:CallR X (.builtin "len") rLenD:=by
 intro c s σ H o l Q I r h;obtain ⟨d,a,rfl,e,q⟩:=h;obtain ⟨u,rfl,g⟩:=vals1 r;cases g;obtain ⟨n,k,f,b,j⟩:=dk_of I.hok e;have m:=JeG;have i:f.length=a.length:=b.length.symm;exact call_len_dict k j ∅ ⟨.int (a.length:Int),H,I.tok _,⟨s.toks+1,by rw [i]⟩,q⟩
def vl (a:Int × Int):Rat:=(a.1:Rat)/(a.2:Rat)
theorem JaF {a:Int} (h:1<=a):(a:Rat)≠0:=fun z=>by
 have : a=0:=by exact_mod_cast z
 ac_nf
variable {a c:Int × Int}
theorem vl_eq (ha:1<=a.2) (hc:1<=c.2):vl a=vl c↔a.1*c.2=c.1*a.2:=by
 unfold vl;have b:=JaF ha;have d:=JaF hc;have e:((a.1*c.2=c.1*a.2)↔((a.1:Rat)*(c.2:Rat)=(c.1:Rat)*(a.2:Rat))):=by
  constructor
  ·intro h;exact_mod_cast h
  ·intro h;exact_mod_cast h
 rw [e];generalize (a.1:Rat)=x at *;generalize (a.2:Rat)=y at *;generalize (c.1:Rat)=z at *;generalize (c.2:Rat)=u at *;constructor
 ·intro h;grind
 ·intro h;grind
theorem Jki (ha:1<=a.2) (hc:1<=c.2) (h1:Mth.g a.1 a.2=1) (h2:Mth.g c.1 c.2=1) (h:vl a=vl c):a=c:=by
 have:=Mth.Jdp ha hc h1 h2 ((vl_eq ha hc).mp h);exact Prod.ext this.1 this.2
theorem JiX (ha:1<=a.2) (hc:1<=c.2):vl (addF a c)=vl a+vl c:=by
 have d:a.2*c.2≠0:=Int.mul_ne_zero ∅ ∅;have g:=Mth.cross (t:=a.1*c.2+c.1*a.2) d;have f:=Mth.JcU (t:=a.1*c.2+c.1*a.2) d;unfold vl addF;dsimp only;generalize Mth.top (a.1*c.2+c.1*a.2) (a.2*c.2)=t at *;generalize Mth.bot (a.1*c.2+c.1*a.2) (a.2*c.2)=b at *;have h:=JaF ha;have i:=JaF hc;have j:=JaF f;have e:(t:Rat)*((a.2:Rat)*(c.2:Rat))=((a.1:Rat)*(c.2:Rat)+(c.1:Rat)*(a.2:Rat))*(b:Rat):=by exact_mod_cast g
 generalize (a.1:Rat)=x at *;generalize (a.2:Rat)=y at *;generalize (c.1:Rat)=z at *;generalize (c.2:Rat)=u at *;generalize (t:Rat)=t at *;generalize (b:Rat)=b at *;grind
theorem JcL (a:Int × Int):vl (negF a) = - vl a:=by
 unfold vl negF;rw [Rat.intCast_neg];grind
theorem JcK (ha:1<=a.2) (hc:1<=c.2):lessF a c=true↔vl a<vl c:=by
 unfold lessF vl;rw [decide_eq_true_iff];have b:(0:Rat)<(a.2:Rat):=by exact_mod_cast (show 0<a.2 by ac_nf)
 have d:(0:Rat)<(c.2:Rat):=by exact_mod_cast (show 0<c.2 by ac_nf)
 have e:((a.1*c.2<c.1*a.2)↔((a.1:Rat)*(c.2:Rat)<(c.1:Rat)*(a.2:Rat))):=by
  constructor
  ·intro h;exact_mod_cast h
  ·intro h;exact_mod_cast h
 rw [e];rw [Rat.div_lt_iff b];generalize (a.1:Rat)=x at *;generalize (a.2:Rat)=y at *;generalize (c.1:Rat)=z at *;generalize (c.2:Rat)=u at *;have f:z/u*y=z*y/u:=by grind
 rw [f,Rat.lt_div_iff d]
variable {a b c:Str}
theorem JaR.trans {w w':List Pr} (h:JaR ls a w b) (h':JaR ls b w' c):JaR ls a (w++w') c:=by
 induction h' with
 | nil=>
  rw [append_nil];exact h
 | snoc _ hm ih=>
  rw [<- List.append_assoc];exact .snoc ih hm
theorem Conn.trans:Conn ls a b->Conn ls b c->Conn ls a c:=fun ⟨w,h⟩ ⟨e,d⟩=>⟨w++e,h.trans d⟩
theorem Conn.refl:Conn ls a a:=⟨[], .nil⟩
theorem Conn.lead {f g:Str} (h:(g,pr)∈JaB ls f):Conn ls f g:=⟨[]++[pr], .snoc .nil h⟩
theorem Conn.symm (hn:∀ p∈ls,p.st≠p.en) {a b:Str} (h:Conn ls a b):Conn ls b a:=by
 obtain ⟨w,h⟩:=h;induction h with
 | nil=>exact .refl
 | snoc _ hm ih=>
  obtain ⟨p,c,h | h⟩:=Ja0.mp hm
  ·exact Conn.trans (.lead (Ja0.mpr ⟨p,c, .inr ⟨fun z=>hn p c (z.trans h.2.1.symm),h.2.1,h.1,rfl⟩⟩)) ih
  ·exact Conn.trans (.lead (Ja0.mpr ⟨p,c, .inl ⟨h.2.2.1,h.2.1,rfl⟩⟩)) ih
theorem Conn.mono (h:Conn ls a b):Conn (ls++[p]) a b:=by
 obtain ⟨w,h⟩:=h;refine ⟨w,?_⟩;induction h with
 | nil=>exact .nil
 | snoc _ hm ih=>exact .snoc ih (by rw [JdY];exact mem_append.mpr (.inl hm))
theorem JhI (hp:p∈ls):Conn ls p.st p.en:=.lead (pr:=(p.nm,true)) (Ja0.mpr ⟨p,hp, .inl ⟨rfl,rfl,rfl⟩⟩)
theorem Ji9 (hn:∀ p∈ls,p.st≠p.en) {a b:Str} (h:Conn ls a b) (hne:a≠b):a∈fcsOf ls/\b∈fcsOf ls:=by
 have c:∀ {a b:Str},Conn ls a b->a≠b->b∈fcsOf ls:=fun {a b} h hne=>by
  obtain ⟨w,h⟩:=h;rcases mem_cons.mp (Jg9 h) with e | e
  ·exact absurd e.symm hne
  ·exact e
 exact ⟨c (h.symm hn) (Ne.symm hne),c h hne⟩
theorem Jeb:∀ (l1 acc:List PD),partsW acc (l1.map Sum.inl)=.ok (acc++l1)->p.nm∉(acc++l1).map (·.nm)->¬ Conn (acc++l1) p.st p.en->partsW acc ((l1++[p]).map Sum.inl)=.ok (acc++(l1++[p]))
 | [],acc,_,h2,h3=>by
  rw [append_nil] at h2 h3;rw [nil_append,map_cons,map_nil,JfT h2 h3,partsW]
 | q::l1,acc,h1,h2,h3=>by
  have ea:acc++q::l1=(acc++[q])++l1:=by simp
  rw [ea] at h1 h2 h3;rw [cons_append,map_cons];rw [map_cons,partsW] at h1;split at h1
  ·cases h1
  ·rename_i c1;split at h1
   ·cases h1
   ·rename_i c2;rw [JfT c1 c2,Jeb l1 (acc++[q]) h1 h2 h3];simp
variable {L:List PD}
theorem Conn.sub {L':List PD} (hs:∀ p∈L,p∈L') {a b:Str} (h:Conn L a b):Conn L' a b:=by
 obtain ⟨w,h⟩:=h;refine ⟨w,?_⟩;induction h with
 | nil=>exact .nil
 | snoc _ hm ih=>
  obtain ⟨p,c,h⟩:=Ja0.mp hm;exact .snoc ih (Ja0.mpr ⟨p,hs p c,h⟩)
def Tree (ls:List PD):Prop:=∀ p∈ls, ¬ Conn (ls.filter fun x=>decide (x.nm≠p.nm)) p.st p.en
theorem Jh6 (h:e∈JaB L x):x∈fcsOf L/\e.1∈fcsOf L:=by
 refine ⟨?_,JgT h⟩;obtain ⟨p,a,h⟩:=(Ja0 (g:=e.1) (pr:=e.2)).mp h;refine mem_flatMap.mpr ⟨p,a,?_⟩;rcases h with h | h
 ·rw [<- h.1];simp
 ·rw [<- h.2.1];simp
theorem Conn.retract {q:PD} {f s0:Str} (hq:(q.st=f/\q.en=s0)\/(q.st=s0/\q.en=f)) (hf:f∉fcsOf L) {a b:Str} (h:Conn (L++[q]) a b):Conn L (if a=f then s0 else a) (if b=f then s0 else b):=by
 obtain ⟨w,h⟩:=h;induction h with
 | nil=>exact .refl
 | snoc _ hm ih=>
  refine ih.trans ?_;rw [JdY] at hm;rcases mem_append.mp hm with h | h
  ·have e:=Jh6 h;have i:∀ x∈fcsOf L,x≠f:=fun x c z=>hf (z ▸ c);rw [if_neg (i _ e.1),if_neg (i _ e.2)];exact .lead h
  ·have d:∀ x,JaB [q] x=JdE q x:=fun x=>by simp [JaB]
   have g:=h;rw [<- d] at g;obtain ⟨p,j,k⟩:=Ja0.mp g;rw [mem_singleton] at j;subst j;have e:∀ x:Str,x=p.st\/x=p.en->(if x=f then s0 else x)=s0:=fun x c=>by
    split
    ·rfl
    ·rename_i n;rcases hq with ⟨h1,h2⟩ | ⟨h1,h2⟩ <;> rcases c with c | c
     ·exact absurd (c.trans h1) n
     ·exact c.trans h2
     ·exact c.trans h1
     ·exact absurd (c.trans h2) n
   rcases k with k | k
   ·rw [e _ (.inl k.1.symm),e _ (.inr k.2.1.symm)];exact .refl
   ·rw [e _ (.inr k.2.1.symm),e _ (.inl k.2.2.1.symm)];exact .refl
def sgn (b:Bool) (a:Int × Int):Int × Int:=if b then a else negF a
inductive Legs (ls:List PD) (pl:Str->Int × Int):Str->List Pr->Str->Prop
 | nil {a:Str}:Legs ls pl a [] a
 | cons {a g b:Str} {p:PD} {fw:Bool} {w:List Pr}:p∈ls->vl (pl g)=vl (pl a)+vl (sgn fw p.sz)->Legs ls pl g w b->Legs ls pl a ((p.nm,fw)::w) b
variable {pl:Str->Int × Int} {fw:Bool}
theorem Legs.snoc {f g:Str} {w:List Pr} (h:Legs ls pl a w f) (hp:p∈ls) (e:vl (pl g)=vl (pl f)+vl (sgn fw p.sz)):Legs ls pl a (w++[(p.nm,fw)]) g:=by
 induction h with
 | nil=>exact .cons hp e .nil
 | cons h1 h2 _ ih=>exact .cons h1 h2 (ih e)
theorem JkJ (hpl:∀ p∈ls,vl (pl p.en)=vl (pl p.st)+vl p.sz) {a b:Str} {w:List Pr} (h:JaR ls a w b):Legs ls pl a w b:=by
 induction h with
 | nil=>exact .nil
 | snoc _ hm ih=>
  obtain ⟨p,c,h | h⟩:=Ja0.mp hm
  ·obtain ⟨d,e,rfl⟩:=h;refine ih.snoc c ?_;rw [<- d, <- e];exact hpl p c
  ·obtain ⟨_,d,e,rfl⟩:=h;refine ih.snoc c ?_;have:=hpl p c;rw [<- d, <- e,this];show _=_+vl (negF p.sz);rw [JcL];grind
def nmK (s st k:Nat):Str:=⟨(if s=102 then [102+k] else List.replicate st 120++([97+k]++List.replicate (2-st) 120)).toArray⟩
variable {st j:Nat}
theorem Jdq {s i:Nat} (h:nmK s st i=nmK s st j):i=j:=by
 unfold nmK at h;injection h with h
 have h:=congrArg Array.toList h;by_cases c:s=102
 ·simp [c] at h;exact h
 ·simp [c] at h;exact h
theorem Jc8 {s k:Nat} (hs:97<=s/\s<=122) (hst:st<=3) (hk:k<=20):nameS (nmK s st k)=true:=by
 unfold nameS nmK;by_cases c:s=102
 ·simp [Str.length,lowB,c];ac_nf
 ·simp [Str.length,lowB,c];ac_nf
variable {a:Int × Int}
theorem FB.mono {D:Nat} (h:FB A B a) (h1:A<=C) (h2:B<=D):FB C D a:=⟨h.s1.mono h1,h.s2.mono h2,h.b1,h.g1⟩
theorem Jc2:FB 1 1 (0,1):=⟨.lit ⋯ ⋯, .lit ⋯ ⋯,by decide,by decide⟩
structure SpD where
 f:Str
 r:Str
 p:Int × Int
structure Grn (st:Nat) (ls:List PD) (sp:List SpD):Prop where
 nm:∀ i p,ls[i]?=some p->p.nm=nmK 112 st i
 fc:∀ i s,sp[i]?=some s->s.f=nmK 102 st i
 ok:∀ p∈ls,POk p
 sub:∀ p∈ls,p.st∈sp.map (·.f)/\p.en∈sp.map (·.f)
 con:∀ s∈sp,Conn ls s.r s.f
 pl:∀ p∈ls, ∀ s∈sp, ∀ t∈sp,s.f=p.st->t.f=p.en->vl t.p=vl s.p+vl p.sz
 fb:∀ s∈sp,FB (134+21*ls.length) (20*ls.length+1) s.p
 good:partsW [] (ls.map Sum.inl)=.ok ls
 tr:Tree ls
variable {sp:List SpD}
theorem Grn.new (h:Grn st ls sp) {n:Nat} (hn:sp.length<=n):nmK 102 st n∉sp.map (·.f):=fun z=>by
 obtain ⟨s,c,e⟩:=mem_map.mp z;obtain ⟨i,a⟩:=List.getElem?_of_mem c;have d:=(List.getElem?_eq_some_iff.mp a).1;have b:s.f=nmK 102 st n:=e;rw [h.fc i s a] at b;have:=Jdq b;ac_nf
theorem Grn.nil:Grn st [] []:=⟨by simp,by simp,by simp,by simp,by simp,by simp,by simp,by rw [map_nil,partsW],fun p a=>by cases a⟩
theorem Grn.inj (h:Grn st ls sp) {s t:SpD} (hs:s∈sp) (ht:t∈sp) (e:s.f=t.f):s=t:=by
 obtain ⟨i,b⟩:=List.getElem?_of_mem hs;obtain ⟨j,a⟩:=List.getElem?_of_mem ht;rw [h.fc i s b,h.fc j t a] at e;have:=Jdq e;subst this;rw [b] at a;exact Option.some.inj a
theorem Ja1 {l:List α} {a x : α} {i:Nat} (h:(l++[a])[i]?=some x):l[i]?=some x\/(i=l.length/\x=a):=by
 by_cases c:i<l.length
 ·rw [List.getElem?_append_left c] at h;exact .inl h
 ·have b:=(List.getElem?_eq_some_iff.mp h).1;rw [length_append,length_singleton] at b;have e:i=l.length:=by ac_nf
  subst e;rw [List.getElem?_append_right (Nat.le_refl _),Nat.sub_self] at h;cases h;exact .inr ⟨rfl,rfl⟩
theorem Grn.face (h:Grn st ls sp):Grn st ls (sp++[⟨nmK 102 st sp.length,nmK 102 st sp.length,(0,1)⟩]) where
 nm:=h.nm
 fc:=fun i s f=>by
  rcases Ja1 f with f | ⟨rfl,rfl⟩
  ·exact h.fc i s f
  ·rfl
 ok:=h.ok
 sub:=fun p b=>by
  rw [map_append];exact ⟨mem_append.mpr (.inl (h.sub p b).1),mem_append.mpr (.inl (h.sub p b).2)⟩
 con:=fun s a=>by
  rcases mem_append.mp a with a | a
  ·exact h.con s a
  ·rw [mem_singleton.mp a];exact .refl
 pl:=fun p b s a t c d e=>by
  have g:=h.new (Nat.le_refl sp.length);rcases mem_append.mp a with a | a
  ·rcases mem_append.mp c with c | c
   ·exact h.pl p b s a t c d e
   ·rw [mem_singleton.mp c] at e;dsimp only at e;exact absurd (e ▸ (h.sub p b).2) g
  ·rw [mem_singleton.mp a] at d;dsimp only at d;exact absurd (d ▸ (h.sub p b).1) g
 fb:=fun s a=>by
  rcases mem_append.mp a with a | a
  ·exact h.fb s a
  ·rw [mem_singleton.mp a];exact Jc2.mono ∅ ∅
 good:=h.good
 tr:=h.tr
theorem Grn.part (h:Grn st ls sp) (hst:st<=3) {s0:SpD} (h0:s0∈sp) {p:PD} {d:Bool} (hnm:p.nm=nmK 112 st ls.length)
  (h1:p.st=if d then s0.f else nmK 102 st sp.length) (h2:p.en=if d then nmK 102 st sp.length else s0.f) (hz:FB 133 20 p.sz) (hok:POk p):Grn st (ls++[p]) (sp++[⟨nmK 102 st sp.length,s0.r,addF s0.p (sgn d p.sz)⟩]):=by
 have u:=h.new (Nat.le_refl sp.length);have F:s0.f∈sp.map (·.f):=mem_map.mpr ⟨s0,h0,rfl⟩;have v:nmK 102 st sp.length≠s0.f:=fun z=>u (z ▸ F);have J:∀ q∈ls,q.st≠q.en:=fun q a=>(h.ok q a).ne;have G:nmK 102 st sp.length∉fcsOf ls:=fun z=>by
  obtain ⟨q,a,B⟩:=mem_flatMap.mp z;simp at B;rcases B with e | e
  ·exact u (e ▸ (h.sub q a).1)
  ·exact u (e ▸ (h.sub q a).2)
 have I:¬ Conn ls p.st p.en:=fun z=>by
  have:=Ji9 J z hok.ne;cases d with
  | true=>
   rw [if_pos rfl] at h1 h2;exact G (h2 ▸ this.2)
  | false=>
   rw [if_neg ⋯] at h1 h2;exact G (h1 ▸ this.1)
 have N:p.nm∉ls.map (·.nm):=fun z=>by
  obtain ⟨q,a,e⟩:=mem_map.mp z;obtain ⟨i,o⟩:=List.getElem?_of_mem a;have T:=(List.getElem?_eq_some_iff.mp o).1;have k:q.nm=p.nm:=e;rw [h.nm i q o,hnm] at k;have:=Jdq k;ac_nf
 have A:=h.fb s0 h0;have w:FB 133 20 (sgn d p.sz):=by
  cases d with
  | true=>exact hz
  | false=>exact hz.neg
 have H:FB (134+21*(ls.length+1)) (20*(ls.length+1)+1) (addF s0.p (sgn d p.sz)):=by
  have:=FB.add (n:=154+21*ls.length) (m:=20*(ls.length+1)+1) A w ∅ ∅ ∅;have e:134+21*(ls.length+1)=154+21*ls.length+1:=by ac_nf
  rw [e];exact this
 have K:vl (addF s0.p (sgn d p.sz))=vl s0.p+vl (sgn d p.sz):=JiX A.b1 w.b1;refine ⟨fun i q o=>?_,fun i s o=>?_,fun q a=>?_,fun q a=>?_,fun s b=>?_,fun q a s b t j l k=>?_,fun s b=>?_,?_,fun q a z=>?_⟩
 ·rcases Ja1 o with o | ⟨rfl,rfl⟩
  ·exact h.nm i q o
  ·exact hnm
 ·rcases Ja1 o with o | ⟨rfl,rfl⟩
  ·exact h.fc i s o
  ·rfl
 ·rcases mem_append.mp a with a | a
  ·exact h.ok q a
  ·rw [mem_singleton.mp a];exact hok
 ·rw [map_append];rcases mem_append.mp a with a | a
  ·exact ⟨mem_append.mpr (.inl (h.sub q a).1),mem_append.mpr (.inl (h.sub q a).2)⟩
  ·rw [mem_singleton.mp a,h1,h2];have L:nmK 102 st sp.length∈[(⟨nmK 102 st sp.length,s0.r,addF s0.p (sgn d p.sz)⟩:SpD)].map (·.f):=by simp
   cases d with
   | true=>exact ⟨mem_append.mpr (.inl F),mem_append.mpr (.inr L)⟩
   | false=>exact ⟨mem_append.mpr (.inr L),mem_append.mpr (.inl F)⟩
 ·rcases mem_append.mp b with b | b
  ·exact (h.con s b).mono
  ·rw [mem_singleton.mp b];have S:p∈ls++[p]:=by simp
   have E:∀ q∈ls++[p],q.st≠q.en:=fun q a=>by
    rcases mem_append.mp a with a | a
    ·exact J q a
    ·rw [mem_singleton.mp a];exact hok.ne
   have c:=JhI S;cases d with
   | true=>
    rw [if_pos rfl] at h1 h2;rw [h1,h2] at c;exact ((h.con s0 h0).mono).trans c
   | false=>
    rw [if_neg ⋯] at h1 h2;rw [h1,h2] at c;exact ((h.con s0 h0).mono).trans (c.symm E)
 ·rcases mem_append.mp a with a | a
  ·rcases mem_append.mp b with b | b
   ·rcases mem_append.mp j with j | j
    ·exact h.pl q a s b t j l k
    ·rw [mem_singleton.mp j] at k;dsimp only at k;exact absurd (k ▸ (h.sub q a).2) u
   ·rw [mem_singleton.mp b] at l;dsimp only at l;exact absurd (l ▸ (h.sub q a).1) u
  ·have a:=mem_singleton.mp a;subst a;cases d with
   | true=>
    rw [if_pos rfl] at h1 h2;rw [h1] at l;rw [h2] at k;have C:s=s0:=by
     rcases mem_append.mp b with b | b
     ·exact h.inj b h0 l
     ·rw [mem_singleton.mp b] at l;dsimp only at l;exact absurd l v
    have D:t.p=addF s0.p (sgn true q.sz):=by
     rcases mem_append.mp j with j | j
     ·exact absurd (k ▸ mem_map.mpr ⟨t,j,rfl⟩) u
     ·rw [mem_singleton.mp j]
    rw [C,D,K];rfl
   | false=>
    rw [if_neg ⋯] at h1 h2;rw [h1] at l;rw [h2] at k;have D:t=s0:=by
     rcases mem_append.mp j with j | j
     ·exact h.inj j h0 k
     ·rw [mem_singleton.mp j] at k;dsimp only at k;exact absurd k v
    have C:s.p=addF s0.p (sgn false q.sz):=by
     rcases mem_append.mp b with b | b
     ·exact absurd (l ▸ mem_map.mpr ⟨s,b,rfl⟩) u
     ·rw [mem_singleton.mp b]
    have P:vl (sgn false q.sz) = - vl q.sz:=JcL q.sz;rw [D,C,K,P];grind
 ·rw [length_append,length_singleton];rcases mem_append.mp b with b | b
  ·have:=h.fb s b;exact this.mono ∅ ∅
  ·rw [mem_singleton.mp b];exact H
 ·have:=Jeb (p:=p) ls [] (by rw [nil_append];exact h.good) (by rw [nil_append];exact N) (by rw [nil_append];exact I);rw [nil_append] at this;exact this
 ·rw [filter_append] at z;rcases mem_append.mp a with a | a
  ·have Q:∀ x∈ls.filter (fun x=>decide (x.nm≠q.nm)),x∈ls:=fun x g=>(mem_filter.mp g).1;have O:nmK 102 st sp.length∉fcsOf (ls.filter fun x=>decide (x.nm≠q.nm)):=fun y=>G (by
    obtain ⟨x,g,B⟩:=mem_flatMap.mp y;exact mem_flatMap.mpr ⟨x,Q x g,B⟩)
   have R:Conn (ls.filter (fun x=>decide (x.nm≠q.nm))++[p]) q.st q.en:=z.sub fun x g=>by
    rcases mem_append.mp g with g | g
    ·exact mem_append.mpr (.inl g)
    ·exact mem_append.mpr (.inr (mem_filter.mp g).1)
   have:=R.retract (s0:=s0.f) (f:=nmK 102 st sp.length) (by
    cases d with
    | true=>exact .inr ⟨h1,h2⟩
    | false=>exact .inl ⟨h1,h2⟩) O
   have M:∀ x∈sp.map (·.f),x≠nmK 102 st sp.length:=fun x g y=>u (y ▸ g);rw [if_neg (M _ (h.sub q a).1),if_neg (M _ (h.sub q a).2)] at this;exact h.tr q a this
  ·rw [mem_singleton.mp a] at z;exact I (z.sub fun x g=>by
    rcases mem_append.mp g with g | g
    ·exact (mem_filter.mp g).1
    ·have:=(mem_filter.mp g);have e:=mem_singleton.mp this.1;rw [e] at this;simp at this)
theorem Grn.joined (h:Grn st ls sp) {s t:SpD} (hs:s∈sp) (ht:t∈sp) (e:s.r=t.r):Conn ls s.f t.f:=by
 have b:∀ q∈ls,q.st≠q.en:=fun q a=>(h.ok q a).ne;exact ((h.con s hs).symm b).trans (e ▸ h.con t ht)
def spOf (sp:List SpD) (f:Str):Int × Int:=((sp.find? fun s=>decide (s.f=f)).map (·.p)).getD (0,1)
theorem Grn.pl_at (h:Grn st ls sp) {s:SpD} (hs:s∈sp):spOf sp s.f=s.p:=by
 unfold spOf;cases e:sp.find? fun t=>decide (t.f=s.f) with
 | none=>
  have:=List.find?_eq_none.mp e s hs;simp at this
 | some t=>
  have b:=List.mem_of_find?_eq_some e;have c:=List.find?_some e;have a:t.f=s.f:=by simpa using c
  rw [h.inj b hs a];rfl
theorem Grn.pls (h:Grn st ls sp):∀ p∈ls,vl (spOf sp p.en)=vl (spOf sp p.st)+vl p.sz:=fun p c=>by
 obtain ⟨s,e,a⟩:=mem_map.mp (h.sub p c).1;obtain ⟨t,d,b⟩:=mem_map.mp (h.sub p c).2;have a:s.f=p.st:=a;have b:t.f=p.en:=b;rw [<- a, <- b,h.pl_at e,h.pl_at d];exact h.pl p c s e t d a b
theorem Grn.plb (h:Grn st ls sp) (hl:ls.length<=8) (f:Str):FB 302 161 (spOf sp f):=by
 unfold spOf;cases e:sp.find? fun t=>decide (t.f=f) with
 | none=>exact Jc2.mono ∅ ∅
 | some t=>
  have:=h.fb t (List.mem_of_find?_eq_some e);exact this.mono ∅ ∅
theorem JiZ {t b:Int} (hb:1<=b):vl (Mth.top t b,Mth.bot t b)=(t:Rat)/(b:Rat):=by
 have a:b≠0:=by ac_nf
 have d:=Mth.cross (t:=t) a;have c:=Mth.JcU (t:=t) a;unfold vl;dsimp only;generalize Mth.top t b=x at *;generalize Mth.bot t b=y at *;have f:=JaF hb;have g:=JaF c;have e:(x:Rat)*(b:Rat)=(t:Rat)*(y:Rat):=by exact_mod_cast d
 generalize (x:Rat)=x at *;generalize (y:Rat)=y at *;generalize (t:Rat)=t at *;generalize (b:Rat)=b at *;grind
theorem FOk.fb (h:FOk n a):FB n n a:=⟨h.s1,h.s2,h.b1,h.g1⟩
def mid (pl:Str->Int × Int) (g:GD):Int × Int:=addF (pl g.en) (negF (pl g.st))
def roomF (pl:Str->Int × Int) (g:GD):Int × Int:=if lessF (addF g.hi (negF (mid pl g))) (addF (mid pl g) (negF g.lo)) then addF g.hi (negF (mid pl g)) else addF (mid pl g) (negF g.lo)
section
variable {A' B' C' D':Nat} {x y z b:Int × Int} {D:Nat} {w m:Int × Int}
theorem FB.inj (h:FB A B x) (k:FB C D y) (e:vl x=vl y):x=y:=Jki h.b1 k.b1 h.g1 k.g1 e
theorem FB.add' (h:FB A B x) (k:FB C D y):FB (A+D+(C+B)+1) (B+D) (addF x y):=FB.add h k ∅ ∅ (Nat.le_refl _)
theorem FB.vadd (h:FB A B x) (k:FB C D y):vl (addF x y)=vl x+vl y:=JiX h.b1 k.b1
theorem JkI (hx:FB A B x) (hy:FB A B y) (hz:FB C D z) (hw:FB A B w) (e:vl y=vl x+vl z):addF (addF x (negF w)) z=addF y (negF w):=by
 refine FB.inj ((hx.add' hw.neg).add' hz) (hy.add' hw.neg) ?_;rw [FB.vadd (hx.add' hw.neg) hz,hx.vadd hw.neg,hy.vadd hw.neg,e,JcL];grind
theorem Jjh (hx:FB A B x):addF x (negF x)=(0,1):=by
 refine FB.inj (hx.add' hx.neg) Jc2 ?_;rw [hx.vadd hx.neg,JcL];have : vl (0,1)=0:=by
  unfold vl;grind
 rw [this];grind
theorem Jko (hm:FB A B m) (ha:FB C D a):addF (addF m a) (negF m)=a:=by
 refine FB.inj ((hm.add' ha).add' hm.neg) ha ?_;rw [FB.vadd (hm.add' ha) hm.neg,hm.vadd ha,JcL];grind
theorem Jkp (hm:FB A B m) (hb:FB C D b):addF m (negF (addF m (negF b)))=b:=by
 have a:=hm.add' hb.neg;refine FB.inj (hm.add' a.neg) hb ?_;rw [hm.vadd a.neg,JcL,hm.vadd hb.neg,JcL];grind
theorem JlQ {g:GD} (h:∀ f,FB 302 161 (pl f)):FB 464 322 (mid pl g):=FB.add (h _) (h _).neg ⋯ ⋯ ⋯
end
section
variable {f : α->Str} {l:List α} {s:Nat}
theorem Jia (h:∀ i a,l[i]?=some a->f a=nmK s st i):(l.map f).Nodup:=by
 rw [List.Nodup,List.pairwise_iff_getElem];intro i j b c d e;rw [length_map] at b c;rw [List.getElem_map,List.getElem_map,h i _ (List.getElem?_eq_getElem b),h j _ (List.getElem?_eq_getElem c)] at e;have:=Jdq e;ac_nf
end
section
variable {x:V} {K:W.Frag}
end
theorem JcD {b:Addr} (S:Same H0 H) (h:H b=none):H0 b=none:=by
 cases e:H0 b with
 | none=>rfl
 | some o=>rw [S _ _ e] at h;cases h
theorem Jmf {t b:Int} (ht:0<=t) (hb:1<=b):0<=Mth.top t b:=by
 have c:=Mth.Jeo (t:=t) (b:=b) ∅;have d:=Mth.g_pos (a:=t) (b:=b) ∅;have e:Mth.by_ t b=Mth.g t b:=by unfold Mth.by_;rw [if_neg ∅]
 rw [e] at c;rcases Int.lt_or_le (Mth.top t b) 0 with z | z
 ·have:=Int.mul_neg_of_neg_of_pos z d;ac_nf
 ·exact z
inductive Path (ls:List PD):Str->List Pr->Str->Prop
 | nil {a:Str}:Path ls a [] a
 | cons {a g b:Str} {p:PD} {fw:Bool} {w:List Pr}:p∈ls->(a=if fw then p.st else p.en)->(g=if fw then p.en else p.st)->Path ls g w b->Path ls a ((p.nm,fw)::w) b
variable {a:Str}
theorem Path.snoc {f g:Str} {w:List Pr} (h:Path ls a w f) (hp:p∈ls) (e1:f=if fw then p.st else p.en) (e2:g=if fw then p.en else p.st):Path ls a (w++[(p.nm,fw)]) g:=by
 induction h with
 | nil=>exact .cons hp e1 e2 .nil
 | cons h1 h2 h3 _ ih=>exact .cons h1 h2 h3 (ih e1)
theorem Jfe {w:List Pr} (h:JaR ls a w b):Path ls a w b:=by
 induction h with
 | nil=>exact .nil
 | snoc _ hm ih=>
  obtain ⟨p,e,h | h⟩:=Ja0.mp hm
  ·obtain ⟨c,d,rfl⟩:=h;exact ih.snoc e c.symm d.symm
  ·obtain ⟨_,c,d,rfl⟩:=h;exact ih.snoc e c.symm d.symm
theorem JcR {w:List Pr} (h:Path ls a w b):∀ n∈w.map (·.1),n∈ls.map (·.nm):=by
 induction h with
 | nil=>simp
 | cons h1 _ _ _ ih=>
  intro n c;rw [map_cons] at c;rcases mem_cons.mp c with e | e
  ·rw [e];exact mem_map.mpr ⟨_,h1,rfl⟩
  ·exact ih n e
open PySem.Spec PyProof.Rows
variable {ks:List PD}
theorem Jgj (h:(ks.map (·.nm)).Nodup) {i:Nat} {p:PD} (hp:ks[i]?=some p):p.nm∉(ks.take i).map (·.nm):=fun z=>by
 obtain ⟨q,d,e⟩:=mem_map.mp z;have e:q.nm=p.nm:=e;have c:=(List.getElem?_eq_some_iff.mp hp).1;obtain ⟨j,b⟩:=List.getElem?_of_mem d;have f:=(List.getElem?_eq_some_iff.mp b).1;rw [length_take] at f;rw [List.getElem?_take_of_lt ∅] at b;have a:=(List.getElem?_eq_some_iff.mp b).1;rw [List.Nodup,List.pairwise_iff_getElem] at h;refine h j i (by rw [length_map];exact a) (by rw [length_map];exact c) ∅ ?_;rw [List.getElem_map,List.getElem_map];rw [List.getElem?_eq_getElem a] at b;rw [List.getElem?_eq_getElem c] at hp;rw [Option.some.inj b,Option.some.inj hp];exact e
variable {tb:TS}
theorem ForR.byN {lo:Int} {g:TG} {D:Ends} (Pv:Nat->St->Hp->Prop) (h0:Pv 0 σ H)
  (hs:∀ i σ H,i<n->Pv i σ H->∀ N:St->Hp->Prop,(∀ σ' H',Pv (i+1) σ' H'->N σ' H')->g (.int (lo+i)) σ H fun σ2 H2=>tb { D with nx:=N,ct:=N,bk:=D.nx } σ2 H2) (hd:∀ σ H,Pv n σ H->D.nx σ H):ForR lo n g tb D σ H :=
 ForR.by Pv h0 (fun i σ H a b=>hs i σ H a b _ fun _ _ h=>h) hd
theorem ForA.byLN {K:W.Frag} {a:Addr} {g:TG} {D:Ends} (hA:SqL K H a xs) (Pv:Nat->St->Hp->Prop) (h0:Pv 0 σ H) (hl:∀ i σ H',Pv i σ H'->SqL K H' a xs)
  (hs:∀ i x σ H,xs[i]?=some x->Pv i σ H->∀ N:St->Hp->Prop,(∀ σ' H',Pv (i+1) σ' H'->N σ' H')->g x σ H fun σ2 H2=>tb { D with nx:=N,ct:=N,bk:=D.nx } σ2 H2) (hd:∀ σ H,Pv xs.length σ H->D.nx σ H):ForA K a g tb D σ H :=
 ForA.byL hA Pv h0 hl (fun i x σ H c b=>hs i x σ H c b _ fun _ _ h=>h) hd
def sm (f:Str->Rat):List Str->Rat
 | []=>0
 | n::r=>f n+sm f r
theorem JiH {f:Str->Rat} {a b:List Str} (h:a.Perm b):sm f a=sm f b:=by
 induction h with
 | nil=>rfl
 | cons _ _ ih=>simp only [sm,ih]
 | swap x y l=>
  simp only [sm];grind
 | trans _ _ ih1 ih2=>exact ih1.trans ih2
theorem JiI {f:Str->Rat} (n:Str):∀ a:List Str,sm f (a++[n])=sm f a+f n
 | []=>by simp only [nil_append,sm];grind
 | m::a=>by
  rw [cons_append];simp only [sm,JiI n a];grind
def svl (ks:List PD) (ss:List (Int × Int)) (n:Str):Rat:=(((ks.zip ss).find? fun x=>decide (x.1.nm=n)).map fun x=>vl x.2).getD 0
theorem Jmb {ss:List (Int × Int)} {x:PD × (Int × Int)} (hn:(ks.map (·.nm)).Nodup) (hx:x∈ks.zip ss):svl ks ss x.1.nm=vl x.2:=by
 unfold svl;cases e:(ks.zip ss).find? fun y=>decide (y.1.nm=x.1.nm) with
 | none=>
  have:=List.find?_eq_none.mp e x hx;simp at this
 | some y=>
  have l:=List.mem_of_find?_eq_some e;have m:=List.find?_some e;have g:y.1.nm=x.1.nm:=by simpa using m
  obtain ⟨i,a⟩:=List.getElem?_of_mem hx;obtain ⟨j,b⟩:=List.getElem?_of_mem l;rw [List.getElem?_zip_eq_some] at a b;have d:=(List.getElem?_eq_some_iff.mp a.1).1;have k:=(List.getElem?_eq_some_iff.mp b.1).1;rw [List.Nodup,List.pairwise_iff_getElem] at hn;have f:(ks.map (·.nm))[i]'(by rw [length_map];exact d)=x.1.nm:=by
   rw [List.getElem_map];have:=a.1;rw [List.getElem?_eq_getElem d] at this;rw [Option.some.inj this]
  have h:(ks.map (·.nm))[j]'(by rw [length_map];exact k)=y.1.nm:=by
   rw [List.getElem_map];have:=b.1;rw [List.getElem?_eq_getElem k] at this;rw [Option.some.inj this]
  have : i=j:=by
   rcases Nat.lt_trichotomy i j with c | c | c
   ·exact absurd (f.trans (g.symm.trans h.symm)) (hn i j _ _ c)
   ·exact c
   ·exact absurd (h.trans (g.trans f.symm)) (hn j i _ _ c)
  subst this;have:=a.2.symm.trans b.2;show vl y.2=vl x.2;rw [Option.some.inj this]
def ShP (ks:List PD) (es:List (GD × List Str)) (ss:List (Int × Int)) (pl:Str->Int × Int):Prop:=(∀ (i:Nat) (p:PD) (s:Int × Int),ks[i]?=some p->ss[i]?=some s->0<=vl s/\vl s<=vl p.mo)/\∀ e∈es,sm (svl ks ss) e.2<=vl (roomF pl e.1)
def prodI:List Int->Int
 | []=>1
 | f::r=>f*prodI r
theorem Jch (f:Int):∀ fs:List Int,prodI (fs++[f])=prodI fs*f
 | []=>by simp [prodI]
 | g::fs=>by rw [cons_append];simp only [prodI,Jch f fs];rw [Int.mul_assoc]
structure Scl (b:Int) (fs:List Int):Prop where
 b1:1<=b
 f1:∀ f∈fs,1<=f
 pr:prodI fs=b
theorem Jed:∀ {fs:List Int},(∀ f∈fs,1<=f)->1<=prodI fs
 | [],_=>by simp [prodI]
 | f::fs,h=>by
  have h1:=h f (by simp);have h2:=Jed (fs:=fs) fun g hg=>h g (by simp [hg]);have:=Int.mul_pos (show 0<f by ac_nf) (show 0<prodI fs by ac_nf);simp only [prodI];ac_nf
theorem JfU:∀ (as bs:List Int),prodI (as++bs)=prodI as*prodI bs
 | [],bs=>by simp [prodI]
 | a::as,bs=>by rw [cons_append];simp only [prodI,JfU as bs];rw [Int.mul_assoc]
variable {a b:Int}
theorem Jiu (ha:1<=a) (hb:1<=b):a<=a*b/\b<=a*b:=by
 have c:=Int.mul_le_mul_of_nonneg_left hb (show 0<=a by ac_nf);have d:=Int.mul_le_mul_of_nonneg_right ha (show 0<=b by ac_nf);constructor <;> ac_nf
theorem Scl.take {fs:List Int} (h:Scl b fs) (i:Nat):1<=prodI (fs.take i)/\prodI (fs.take i)<=b:=by
 have c:=Jed (fs:=fs.take i) fun f a=>h.f1 f (List.mem_of_mem_take a);have d:=Jed (fs:=fs.drop i) fun f a=>h.f1 f (List.mem_of_mem_drop a);have e:=JfU (fs.take i) (fs.drop i);rw [List.take_append_drop,h.pr] at e;have:=Jiu c d;ac_nf
theorem Scl.mem {f:Int} {fs:List Int} (h:Scl b fs) (hf:f∈fs):f<=b:=by
 obtain ⟨i,a⟩:=List.getElem?_of_mem hf;have c:=(List.getElem?_eq_some_iff.mp a).1;have t:=h.take (i+1);rw [take_succ,a] at t;have e:=Jch f (fs.take i);have:=Jiu (h.take i).1 (h.f1 f hf);simp only [Option.toList_some] at t;ac_nf
theorem sz_le (h:Mth.Sz n b) (h0:0<=a) (h1:a<=b):Mth.Sz n a:=Nat.lt_of_le_of_lt (by ac_nf:a.natAbs<=b.natAbs) h
theorem Scl.nil:Scl 1 []:=⟨by decide,by simp,rfl⟩
theorem Scl.snoc {f:Int} {fs:List Int} (h:Scl b fs) (hf:1<=f):Scl (b*f) (fs++[f]):=⟨by
 have:=Int.mul_pos (show 0<b by have:=h.b1;ac_nf) (show 0<f by ac_nf);ac_nf,fun g a=>by
 rcases mem_append.mp a with a | a
 ·exact h.f1 g a
 ·rw [mem_singleton.mp a];exact hf,by rw [Jch,h.pr]⟩
structure LInv (n:Int × Int) (q:Int) (t:Int × Int):Prop where
 b1:1<=t.2
 g1:Mth.g t.1 t.2=1
 dv:t.2∣n.2
 cr:t.1*n.2=n.1*q*t.2
 ab:t.1.natAbs<=n.1.natAbs*q.natAbs
variable {n:Int × Int}
theorem LInv.nil (h:1<=n.2) (g:Mth.g n.1 n.2=1):LInv n 1 n:=⟨h,g,Int.dvd_refl _,by rw [Int.mul_one],by simp⟩
variable {q:Int}
theorem LInv.step {t:Int × Int} {f:Int} (h:LInv n q t) (hf:1<=f):LInv n (q*f) (t.1*f.fdiv (Mth.g t.2 f),t.2.fdiv (Mth.g t.2 f)):=by
 have v:0<Mth.g t.2 f:=Mth.g_pos ∅;have k:=Mth.JcE t.2 f;have i:=Mth.JbI t.2 f;have e:=Mth.JaH k ∅;have p:=Mth.JaH i ∅;have o:=Mth.JcO (b:=t.2) (d:=f) rfl ∅;have l:=Mth.Jb2 k ∅ h.b1;have m:=Mth.JdS i ∅;have j:t.2.fdiv (Mth.g t.2 f)∣t.2:=⟨_,e.symm⟩;have u:Int.gcd t.1 (t.2.fdiv (Mth.g t.2 f))=1:=Mth.JaU (Mth.Jb7 (Mth.JaU (Mth.Jck h.g1)) j);have c:=h.cr;have a:=h.ab;generalize t.2.fdiv (Mth.g t.2 f)=r at *;generalize f.fdiv (Mth.g t.2 f)=f' at *;generalize Mth.g t.2 f=s at *;refine ⟨l,Mth.JdL (Mth.JaU (Mth.Jb1 (Mth.JaU u) o)),Int.dvd_trans j h.dv,?_,?_⟩
 ·show t.1*f'*n.2=n.1*(q*f)*r;have : t.1*f'*n.2=(t.1*n.2)*f':=by rw [Int.mul_assoc,Int.mul_comm f', <- Int.mul_assoc]
  rw [this,c, <- e, <- p];simp only [Int.mul_assoc,Int.mul_comm,Int.mul_left_comm]
 ·show (t.1*f').natAbs<=n.1.natAbs*(q*f).natAbs;rw [Int.natAbs_mul,Int.natAbs_mul, <- Nat.mul_assoc];exact Nat.mul_le_mul a m
theorem LInv.all (h:1<=n.2) (hd:b.fmod n.2=0):LInv n b (n.1*b.fdiv n.2,1):=by
 have a:n.2∣b:=by
  rw [Int.fmod_eq_emod_of_nonneg _ ∅] at hd;exact Int.dvd_of_emod_eq_zero hd
 have e:=Mth.JaH a ∅;have c:=Mth.JdS a h;refine ⟨Int.le_refl _,by unfold Mth.g;simp,Int.one_dvd _,?_,?_⟩
 ·show n.1*b.fdiv n.2*n.2=n.1*b*1;rw [Int.mul_assoc,e,Int.mul_one]
 ·show (n.1*b.fdiv n.2).natAbs<=_;rw [Int.natAbs_mul];exact Nat.mul_le_mul_left _ c
theorem LInv.vl {t:Int × Int} (h:LInv n q t) (hn:1<=n.2):vl t=vl n*(q:Rat):=by
 have f:=JaF hn;have g:=JaF h.b1;have e:(t.1:Rat)*(n.2:Rat)=(n.1:Rat)*(q:Rat)*(t.2:Rat):=by exact_mod_cast h.cr
 unfold L2.vl;generalize (t.1:Rat)=a at *;generalize (t.2:Rat)=b at *;generalize (n.1:Rat)=c at *;generalize (n.2:Rat)=d at *;generalize (q:Rat)=q at *;grind
theorem LInv.fb {t:Int × Int} (h:LInv n q t) (hn:FB A B n) (hq:Mth.Sz C q):FB (A+C) B t:=by
 refine ⟨?_,?_,h.b1,h.g1⟩
 ·refine Nat.lt_of_le_of_lt h.ab ?_;have:=hn.s1.mul hq;unfold Mth.Sz at this;rw [Int.natAbs_mul] at this;exact this
 ·refine Nat.lt_of_le_of_lt ?_ hn.s2;have:=Int.natAbs_dvd_natAbs.mpr h.dv;exact Nat.le_of_dvd (by have:=hn.b1;ac_nf) this
def smF:List (Int × Int)->Rat
 | []=>0
 | a::r=>vl a+smF r
theorem Jfp (n:Int × Int):∀ a,smF (a++[n])=smF a+vl n
 | []=>by simp only [nil_append,smF];grind
 | m::a=>by
  rw [cons_append];simp only [smF,Jfp n a];grind
theorem scaled {x y q:Rat} (h:0<q):x*q<=y*q↔x<=y:=by
 constructor
 ·intro a;refine Rat.not_lt.mp fun z=>?_;have:=Rat.mul_lt_mul_of_pos_right z h;exact Rat.not_lt.mpr a this
 ·intro a;exact Rat.mul_le_mul_of_nonneg_right a (Rat.le_of_lt h)
variable {cs:List (Nat × Str)} {te:TE} {tt:TT}
theorem Jin {iter elt tst:Expr} {scope:Scope} {own:List Str} {wi:TI} {g:TG} (hc:X.calm=true) (hi:PI X tg iter wi)
  (hg:∀ fp s2 H2 C,PG (X.inc (own++cs.map (·.2)) scope (Jbm X.env.cells scope.names []) fp s2 H2 C) tg g) (ht:∀ fp s2 H2 C,PT (X.inc (own++cs.map (·.2)) scope (Jbm X.env.cells scope.names []) fp s2 H2 C) tst tt) (he:∀ fp s2 H2 C,PE (X.inc (own++cs.map (·.2)) scope (Jbm X.env.cells scope.names []) fp s2 H2 C) elt te)
  (hfree:∀ p∈scope.names,p.2=.free->X.env.scope.names.lookup p.1=some .cell) (hcell:∀ y∈scope.names,y.2≠.cell) (hkind:scope.kind=.function) (hnames:∀ y∈scope.names,y.2=.local->scope.names.lookup y.1=some .local)
  (hcs:∀ p∈cs,X.N[p.1]?=some p.2/\X.env.scope.names.lookup p.2=some .cell/\(relabel scope X.env).names.lookup p.2=some .cell)
  (hs:∀ x,foldedSetIterable iter X.env x=pure x:=by intro _;rfl):PE X (.ListComp elt [⟨tg,iter,[tst],0⟩] scope pos) (JeL own.length cs wi g tt te):=by
 intro a s σ H Q I h;have b:∀ p∈scope.names,p.2=.free->∃ c,X.env.cells.lookup p.1=some c:=fun p t D=>I.ok.has p.1 (.inl (hfree p t D));have k:=Jcf (cells:=X.env.cells) scope.names [] (fun _ _ z=>by simp at z) b;rw [eval_ListComp];refine wpAny_comprehension_free (use:=none) rfl hs (JeR b) hkind hnames (thn (hi a s σ H _ I h) fun v Z G=>thn G fun M s2 r=>?_);obtain ⟨U,fp,P,J,H2,rfl,I2,T,l,L,W,⟨V,o⟩,d⟩:=r;refine JdR (QN:=fun n e=>∀ p,e p=none->Q (.ref p) (upd e p (.lst n))) (RR:=fun f C=>compPost (model X.prog X.w) X.A X.xe none (EP X a σ Q) f C) hc hg ht he hcell hkind k (fun z F=>Jce scope.names [] z (.inr (Jge hcell F))) hcs I2 T l L o d ?_;intro D' C R e n i K O S B Y q;obtain ⟨u,m⟩:=B;exact ⟨u,m,fun E j=>⟨.ref D',_,i E j,rfl,q D' K⟩⟩
def notStar:Expr->Bool
 | .Starred _ _=>false
 | _=>true
variable {e:Expr}
theorem Jaf {env:Env} (h:notStar e=true):starEach (e::es) env=(false,eval e env)::starEach es env:=by
 cases e <;> first | rfl | (simp [notStar] at h)
theorem Jaa {t:TA} (ha:PE X e te) (hr:PA X es t) (hs:notStar e=true:=by rfl):PA X (e::es) (tCons te t):=JkZ ha hr (Jaf hs)
section
variable {x:V} {a c:Addr} {K:W.Frag}
def FLV (K:W.Frag) (H:Hp) (s:Int × Int) (x:V):Prop:=FrV K H x s.1 s.2
theorem FLV.sameT {s:Int × Int} (T:SameT H H') (h:FLV K H s x):FLV K H' s x:=FrV.sameT T h
def LFV (K:W.Frag) (H:Hp) (b:Int) (e:PD × (Int × Int)) (x:V):Prop:=∃ t,LInv e.2 b t/\FrV K H x t.1 t.2
theorem LFV.sameT {e:PD × (Int × Int)} (T:SameT H H'):LFV K H b e x->LFV K H' b e x:=fun ⟨t,a,c⟩=>⟨t,a,c.sameT T⟩
end
theorem Jkk:∀ {ls:List PD} {ss:List (Int × Int)},ss.length=ls.length->(ls.zip ss).map (·.1.nm)=ls.map (·.nm)
 | [],ss,_=>by simp
 | p::ls,[],h=>by simp at h
 | p::ls,s::ss,h=>by
  rw [List.zip_cons_cons,map_cons,map_cons,Jkk (by simpa using h)]
theorem Jgt:∀ {ls:List PD} {p q:PD},(ls.map (·.nm)).Nodup->p∈ls->q∈ls->p.nm=q.nm->p=q
 | [],_,_,_,hp,_,_=>by cases hp
 | a::ls,p,q,hn,hp,hq,e=>by
  rw [map_cons,nodup_cons] at hn;rcases mem_cons.mp hp with h1 | h1 <;> rcases mem_cons.mp hq with h2 | h2
  ·rw [h1,h2]
  ·subst h1;exact absurd (e ▸ mem_map.mpr ⟨q,h2,rfl⟩) hn.1
  ·subst h2;exact absurd (e ▸ mem_map.mpr ⟨p,h1,rfl⟩) hn.1
  ·exact Jgt hn.2 h1 h2 e
structure ISC (ls:List PD) (es:List (GD × List Str)) (pl:Str->Int × Int):Prop where
 l7:ls.length<=7
 l6:es.length<=7
 nd:(ls.map (·.nm)).Nodup
 gn:∀ e∈es, ∀ u∈es.map (·.1),u.nm=e.1.nm->u=e.1
 pok:∀ p∈ls,POk p
 pb:∀ p∈ls,FB 133 4 p.sz/\FB 100 6 p.mo
 tok:∀ e∈es,TOk e.1.td
 gb:∀ e∈es,(1<=e.1.lo.2/\Mth.Sz 70 e.1.lo.2)/\1<=e.1.hi.2/\Mth.Sz 70 e.1.hi.2
 rb:∀ e∈es,FB 200 16 (roomF pl e.1)
 plb:∀ f,FB 302 161 (pl f)
 pls:∀ p∈ls,vl (pl p.en)=vl (pl p.st)+vl p.sz
 way:∀ e∈es, ∀ w:List Pr,JaR ls e.1.st w e.1.en->(w.map (·.1)).Nodup->e.2.Perm (w.map (·.1))
theorem Jg8:∀ {xs:List V} {us:List Value},xs.length=us.length->(∀ (i:Nat) x u,xs[i]?=some x->us[i]?=some u->RelV x u)->Vals xs us
 | [],[],_,_=>.nil
 | [],_::_,h,_=>by simp at h
 | _::_,[],h,_=>by simp at h
 | x::xs,u::us,h,k=>.cons (k 0 x u rfl rfl) (Jg8 (by simpa using h) fun i x u h1 h2=>k (i+1) x u (by simpa using h1) (by simpa using h2))
def Jl6 (xs:List V) (H:Hp) (Q:VK):Prop:=∃ (d:Addr) (kvs:List (Key × V)) (ss:List Str),xs=[.ref d]/\H d=some (.dK kvs)/\kvs.map (·.1)=ss.map Sum.inr/\∀ l,H l=none->Q (.ref l) (upd H l (.lst (ss.map V.str)))
theorem Jhb (hc:X.calm=true):CallR X (.type "list") Jl6:=by
 intro E s σ H xs Z Q I r h;obtain ⟨d,kvs,j,rfl,e,n,q⟩:=h;obtain ⟨u,rfl,P⟩:=vals1 r;cases P;obtain ⟨O,T,l,g,G⟩:=dk_of I.hok e;obtain ⟨ep,C⟩:=G.dictAt;have N:j.length=kvs.length:=by simpa using (congrArg List.length n).symm
 have S:l.length=kvs.length:=g.length.symm;have f:l.map (·.1)=kvs.map (·.1):=by
  clear G C n N S O q e;induction g with
  | nil=>rfl
  | cons p _ ih=>
   rw [map_cons,map_cons,ih,p.1]
 refine W.kdl_call (W.kdl_dict (knd:=Jau X.prog X.w) (d:=d) (kvs:=l) (ep:=ep) T) (I.ok.hd hc) C ∅ fun L K a J k U c=>?_;have B:Vals (j.map V.str) a.toList:=Jg8 (by have p:=c.1;have M:a.toList.length=a.size:=Array.length_toList;rw [length_map,M,p];ac_nf) fun i x v D B=>by
  rw [List.getElem?_map] at D;obtain ⟨z,A,rfl⟩:=Option.map_eq_some_iff.mp D;obtain ⟨F,x1,R,Y⟩:=c.2 i v (by rw [<- Array.getElem?_toList];exact B);have m:(l.map (·.1))[i]?=some F:=by rw [List.getElem?_map,R];rfl
  rw [f,n,List.getElem?_map,A] at m;have m:Sum.inr z=F:=Option.some.inj m;subst m;rcases JaS (show keyIs (Sum.inr z) v=true from Y) with ⟨b,hb,_⟩ | ⟨y,t,hy,rfl⟩
  ·cases hb
  ·cases hy;exact ⟨t,rfl⟩
 exact ⟨.ref _,_,I.laid (t':=K) (o:=.lst (j.map V.str)) k (Nat.le_refl _) (show ObjOk X.prog X.w _ L _ (.lst (j.map V.str)) from ⟨by rw [length_map];ac_nf,a.toList,J,B,by rw [Array.toArray_toList];exact U⟩),rfl,q _ (I.hok.fresh (Nat.le_refl _))⟩
theorem JiV:∀ {bs:List Bool} {us:List Value},Vals (bs.map V.bl) us->us=bs.map Value.bool
 | [],us,h=>by cases h;rfl
 | b::bs,us,h=>by
  cases h with
  | cons h1 h2=>
   have h1:_=Value.bool b:=h1;subst h1;rw [JiV h2];rfl
def isBl (b:Bool):Value->Bool
 | .bool c=>c == b
 | _=>false
def Jl4:V->List V->Hp->VK->Prop:=fun x vs H Q=>∃ (l:Addr) (bs:List Bool) (b:Bool),x=.ref l/\vs=[.bl b]/\H l=some (.lst (bs.map V.bl))/\Q (.int ((bs.count b:Nat):Int)) H
theorem Jjj:MtM X "list.count" Jl4:=by
 intro d s σ H x w v t Q I o j h;obtain ⟨l,a,b,rfl,rfl,f,q⟩:=h;cases o;obtain ⟨u,rfl,m⟩:=j.one;cases (show u=Value.bool b from m);obtain ⟨z,k,n,r,A,e⟩:=I.lstM f;have g:=JiV r;subst g;refine call_meets PySem.F.slot_list_count ⟨_,e,rfl⟩ PySem.F.entry_list_count (PySem.F.args_list_count_2 _ _) (SeqAt.list_countAt l (a.map Value.bool).toArray n none #[] (.bool b) (isBl b)) ⟨e,fun y p=>?_,?_⟩
 ·obtain ⟨c,_,rfl⟩:=mem_map.mp (by simpa using p:y∈a.map Value.bool);exact SeqAt.EqAt.bool_bool c b
 ·have i:(a.map Value.bool).toArray.toList.countP (isBl b)=a.count b:=by
   show (a.map Value.bool).countP (isBl b)=a.countP (· == b);rw [List.countP_map];rfl
  rw [i];exact ⟨.int _,H,I.tok _,⟨_,rfl⟩,q⟩
section
variable {prog:Program} {A:Around} {E:Value->Shared->Prop} {w:World} {s:Shared}
end
section
variable {M:Str->Option Str} {a b:Str} {f g:Str}
end
theorem Jh5 (kvs:List (Key × V)) (k:Key) (v:V):(putK kvs k v).map (·.1)=if (valV kvs k).isSome=true then kvs.map (·.1) else kvs.map (·.1)++[k]:=by
 unfold putK;rw [JcC];split
 ·rw [map_map];refine List.map_congr_left fun a _=>?_;show (if a.1=k then (a.1,v) else a).1=a.1;split <;> rfl
 ·rw [map_append];rfl
theorem Jh4 {k:Key}:(valV kvs k).isSome=true↔k∈kvs.map (·.1):=by
 rw [<- JcC,List.any_eq_true];constructor
 ·rintro ⟨c,a,b⟩;exact mem_map.mpr ⟨c,a,by simpa using b⟩
 ·intro h;obtain ⟨c,a,b⟩:=mem_map.mp h;exact ⟨c,a,by simpa using b⟩
section
variable {K:W.Frag}
def cut (p:Addr) (H:Hp):Hp:=fun b=>if b=p then none else H b
variable {p:Addr}
theorem JbH {b:Addr} (h:b≠p):cut p H b=H b:=if_neg h
theorem Jc6:Same (cut p H) H:=fun b u h=>by
 unfold cut at h;split at h
 ·cases h
 ·exact h
theorem Same.cut (S:Same H H'):Same (cut p H) (cut p H'):=fun b u h=>by
 have e:b≠p:=fun z=>by rw [z] at h;unfold L2.cut at h;rw [if_pos rfl] at h;cases h
 rw [JbH e] at h ⊢;exact S _ _ h
theorem Jf8:cut p (upd H p o)=cut p H:=by
 funext b
 by_cases c:b=p
 ·rw [c];unfold cut;rw [if_pos rfl,if_pos rfl]
 ·rw [JbH c,JbH c,Jag c]
variable {ys:List V}
theorem SqT.cut {a:Addr} (hp:H p=some (.lst ys)) (h:SqT K H a xs):SqT K (cut p H) a xs:=by
 rcases h with (h | ⟨o,h⟩) | h
 ·exact .inl (.inl (by rw [JbH (fun z=>by rw [z,hp] at h;cases h)];exact h))
 ·exact .inl (.inr ⟨o,by rw [JbH (fun z=>by rw [z,hp] at h;cases h)];exact h⟩)
 ·exact .inr h
theorem FrV.cut (hp:H p=some (.lst ys)) (h:FrV K H v a b):FrV K (cut p H) v a b:=by
 obtain ⟨q,e,h⟩:=h;exact ⟨q,e,h.cut hp⟩
end
variable {a b:Str->Rat}
theorem sm_le:∀ {l:List Str},(∀ q∈l,a q<=b q)->sm a l<=sm b l
 | [],_=>Rat.le_refl
 | n::l,h=>by
  have h1:=h n (by simp);have h2:=sm_le (l:=l) fun q hq=>h q (by simp [hq]);simp only [sm];grind
theorem sm_lt:∀ {l:List Str} {n:Str},(∀ q∈l,a q<=b q)->n∈l->a n<b n->sm a l<sm b l
 | [],_,_,hn,_=>by cases hn
 | m::l,n,h,hn,lt=>by
  have h1:=h m (by simp);have h2:=sm_le (l:=l) fun q hq=>h q (by simp [hq]);simp only [sm];rcases mem_cons.mp hn with e | hn
  ·subst e;grind
  ·have:=sm_lt (fun q hq=>h q (by simp [hq])) hn lt;grind
theorem JbM:∀ {l:List Str},(∀ q∈l,a q=b q)->sm a l=sm b l
 | [],_=>rfl
 | n::l,h=>by simp only [sm,h n (by simp),JbM (l:=l) fun q hq=>h q (by simp [hq])]
theorem JcX:∀ {l:List Str},(∀ q∈l,a q=0)->sm a l=0
 | [],_=>rfl
 | n::l,h=>by
  simp only [sm,h n (by simp),JcX (l:=l) fun q hq=>h q (by simp [hq])];grind
theorem sm_nn:∀ {l:List Str},(∀ q∈l,0<=a q)->0<=sm a l
 | [],_=>Rat.le_refl
 | n::l,h=>by
  have h1:=h n (by simp);have h2:=sm_nn (l:=l) fun q hq=>h q (by simp [hq]);simp only [sm];grind
theorem Jei (c:Rat):∀ (l:List Str),sm (fun n=>a n+c*b n) l=sm a l+c*sm b l
 | []=>by simp only [sm];grind
 | n::l=>by simp only [sm,Jei c l];grind
variable {n:Str}
theorem Jma {l:List Str} (h:∀ q∈l,0<=a q) (hn:n∈l) (lt:0<a n):0<sm a l:=by
 have:=sm_lt (a:=fun _=>0) (b:=a) h hn lt;rw [JcX (a:=fun _=>0) fun _ _=>rfl] at this;exact this
structure Gp where
 R:Rat
 way:List Str
structure Fair (N:List Str) (w M:Str->Rat) (gs:List Gp) (lv:Str->Rat):Prop where
 lo:∀ n∈N,0<=lv n
 hi:∀ n∈N,lv n<=M n
 fit:∀ g∈gs,sm (fun n=>lv n*w n) g.way<=g.R
 stop:∀ n∈N,lv n=M n\/∃ g∈gs,n∈g.way/\sm (fun n=>lv n*w n) g.way=g.R/\∀ q∈g.way,lv q<=lv n
section
variable {N:List Str} {M f':Str->Rat} {gs:List Gp} {w:Str->Rat} {f:Str->Rat}
end
def lvv (lvs:List (Str × (Int × Int))) (n:Str):Rat:=((lvs.find? fun x=>decide (x.1=n)).map fun x=>vl x.2).getD 0
def used (lvs:List (Str × (Int × Int))) (w:Str->Rat) (n:Str):Rat:=lvv lvs n*w n
def left (lvs:List (Str × (Int × Int))) (w:Str->Rat) (n:Str):Rat:=if n∈lvs.map (·.1) then 0 else w n
section
variable {lvs:List (Str × (Int × Int))} {L:Int × Int} {ns:List Str} {m:Str} {w:Str->Rat}
theorem Jcm (h:n∉lvs.map (·.1)):lvv lvs n=0:=by
 unfold lvv;rw [List.find?_eq_none.mpr fun x a=>by
  have : x.1≠n:=fun z=>h (mem_map.mpr ⟨x,a,z⟩);simpa using this]
 rfl
theorem Jd3 (hn:(lvs.map (·.1)).Nodup) {x:Str × (Int × Int)} (hx:x∈lvs):lvv lvs x.1=vl x.2:=by
 induction lvs with
 | nil=>cases hx
 | cons y r ih=>
  rw [map_cons,nodup_cons] at hn;unfold lvv;rw [List.find?_cons];rcases mem_cons.mp hx with e | hx
  ·subst e;simp
  ·have : y.1≠x.1:=fun z=>hn.1 (z ▸ mem_map.mpr ⟨x,hx,rfl⟩);rw [decide_eq_false this];exact ih hn.2 hx
theorem Je0 (h:n∈lvs.map (·.1)):lvv (lvs++ns.map fun m=>(m,L)) n=lvv lvs n:=by
 unfold lvv;rw [List.find?_append];cases e:lvs.find? fun x=>decide (x.1=n) with
 | none=>
  obtain ⟨x,b,a⟩:=mem_map.mp h;have:=List.find?_eq_none.mp e x b;simp [a] at this
 | some y=>rfl
theorem Jgg (h:n∉lvs.map (·.1)) (hn:n∈ns):lvv (lvs++ns.map fun m=>(m,L)) n=vl L:=by
 have a:lvs.find? (fun x=>decide (x.1=n))=none:=List.find?_eq_none.mpr fun x b=>by
  have : x.1≠n:=fun z=>h (mem_map.mpr ⟨x,b,z⟩);simpa using this
 unfold lvv;rw [List.find?_append,a,Option.none_or];cases e:(ns.map fun m=>(m,L)).find? fun x=>decide (x.1=n) with
 | none=>
  have:=List.find?_eq_none.mp e (n,L) (mem_map.mpr ⟨n,hn,rfl⟩);simp at this
 | some y=>
  have:=List.mem_of_find?_eq_some e;obtain ⟨m,_,rfl⟩:=mem_map.mp this;rfl
theorem Jbh:(lvs++ns.map fun m=>(m,L)).map (·.1)=lvs.map (·.1)++ns:=by
 rw [map_append,map_map]
 congr 1
 exact (List.map_congr_left fun _ _=>rfl).trans (List.map_id _)
def dlt (w:Str->Rat) (ns:List Str) (n:Str):Rat:=if n∈ns then w n else 0
theorem Jfu (hd:∀ n∈ns,n∉lvs.map (·.1)) (n:Str):used (lvs++ns.map fun m=>(m,L)) w n=used lvs w n+vl L*dlt w ns n:=by
 unfold used dlt;by_cases c:n∈lvs.map (·.1)
 ·rw [Je0 c,if_neg fun z=>hd n z c];grind
 ·by_cases d:n∈ns
  ·rw [Jgg c d,Jcm c,if_pos d];grind
  ·have : n∉(lvs++ns.map fun m=>(m,L)).map (·.1):=by
    rw [Jbh];simp only [mem_append];exact fun z=>z.elim c d
   rw [Jcm this,Jcm c,if_neg d];grind
theorem JeZ (hd:∀ n∈ns,n∉lvs.map (·.1)) (n:Str):left (lvs++ns.map fun m=>(m,L)) w n=left lvs w n+(-1)*dlt w ns n:=by
 unfold left dlt;rw [Jbh];simp only [mem_append];by_cases c:n∈lvs.map (·.1)
 ·rw [if_pos (.inl c),if_pos c,if_neg fun z=>hd n z c];grind
 ·by_cases d:n∈ns
  ·rw [if_pos (.inr d),if_neg c,if_pos d];grind
  ·rw [if_neg (fun z=>z.elim c d),if_neg c,if_neg d];grind
end
structure RInv (N:List Str) (w M:Str->Rat) (gs:List Gp) (lvs:List (Str × (Int × Int))) (c:Rat):Prop where
 nd:(lvs.map (·.1)).Nodup
 sub:∀ n∈lvs.map (·.1),n∈N
 c0:0<=c
 a:∀ x∈lvs,0<=vl x.2/\vl x.2<=c/\vl x.2<=M x.1
 b:∀ n∈N,n∉lvs.map (·.1)->c<=M n
 cc:∀ g∈gs,c*sm (left lvs w) g.way<=g.R-sm (used lvs w) g.way
 d:∀ x∈lvs,vl x.2=M x.1\/∃ g∈gs,x.1∈g.way/\(∀ q∈g.way,q∈lvs.map (·.1))/\g.R-sm (used lvs w) g.way=0/\∀ q∈g.way,lvv lvs q<=vl x.2
section
variable {N ns:List Str} {M:Str->Rat} {gs:List Gp} {lvs:List (Str × (Int × Int))} {c:Rat} {L:Int × Int} {w:Str->Rat}
theorem JdZ (hw:∀ n∈N,0<w n) {l:List Str} (hs:∀ n∈l,n∈N):∀ q∈l,0<=left lvs w q:=fun q a=>by
 unfold left;split
 ·exact Rat.le_refl
 ·exact Rat.le_of_lt (hw q (hs q a))
theorem RInv.start (hM:∀ n∈N,0<=M n) (hR:∀ g∈gs,0<=g.R):RInv N w M gs [] 0 where
 nd:=.nil
 sub:=fun n c=>by cases c
 c0:=Rat.le_refl
 a:=fun x f=>by cases f
 b:=fun n c _=>hM n c
 cc:=fun g h=>by
  have e:sm (used [] w) g.way=0:=JcX fun q _=>by
   unfold used;rw [Jcm (by simp)];grind
  have:=hR g h;rw [e];grind
 d:=fun x f=>by cases f
theorem RInv.round (h:RInv N w M gs lvs c) (hw:∀ n∈N,0<w n) (hs:∀ g∈gs, ∀ n∈g.way,n∈N)
  (hnd:ns.Nodup) (hL1:∀ n∈N,n∉lvs.map (·.1)->vl L<=M n) (hL2:∀ g∈gs,0<sm (left lvs w) g.way->vl L*sm (left lvs w) g.way<=g.R-sm (used lvs w) g.way)
  (hns:∀ n,n∈ns↔n∈N/\n∉lvs.map (·.1)/\(M n=vl L\/∃ g∈gs,n∈g.way/\0<sm (left lvs w) g.way/\vl L*sm (left lvs w) g.way=g.R-sm (used lvs w) g.way)) (hc:c<=vl L) :
  RInv N w M gs (lvs++ns.map fun n=>(n,L)) (vl L):=by
 have o:∀ n∈ns,n∉lvs.map (·.1):=fun n i=>((hns n).mp i).2.1;have B:∀ n∈ns,n∈N:=fun n i=>((hns n).mp i).1;have u:∀ l:List Str,sm (used (lvs++ns.map fun n=>(n,L)) w) l=sm (used lvs w) l+vl L*sm (dlt w ns) l:=fun l=>by
  rw [<- Jei];exact JbM fun q _=>Jfu o q
 have H:∀ l:List Str,sm (left (lvs++ns.map fun n=>(n,L)) w) l=sm (left lvs w) l+(-1)*sm (dlt w ns) l:=fun l=>by
  rw [<- Jei];exact JbM fun q _=>JeZ o q
 have t:=fun (g:Gp) (f:g∈gs)=>sm_nn (JdZ (lvs:=lvs) hw (hs g f));have s:∀ g∈gs, ¬ 0<sm (left lvs w) g.way->sm (left lvs w) g.way=0/\∀ q∈g.way,q∈lvs.map (·.1):=fun g f z=>by
  have D:sm (left lvs w) g.way=0:=by have:=t g f;grind
  refine ⟨D,fun q b=>Classical.byContradiction fun y=>z ?_⟩;refine Jma (JdZ hw (hs g f)) b ?_;unfold left;rw [if_neg y];exact hw q (hs g f q b)
 have key:∀ g∈gs,vl L*sm (left lvs w) g.way<=g.R-sm (used lvs w) g.way:=fun g f=>by
  by_cases p:0<sm (left lvs w) g.way
  ·exact hL2 g f p
  ·have:=h.cc g f;rw [(s g f p).1] at this ⊢;grind
 refine ⟨?_,?_,?_,?_,?_,?_,?_⟩
 ·rw [Jbh];exact nodup_append.mpr ⟨h.nd,hnd,fun x j y F z=>o y F (z ▸ j)⟩
 ·intro n i;rw [Jbh] at i;rcases mem_append.mp i with i | i
  ·exact h.sub n i
  ·exact B n i
 ·exact Rat.le_trans h.c0 hc
 ·intro x j;rcases mem_append.mp j with j | j
  ·have:=h.a x j;exact ⟨this.1,Rat.le_trans this.2.1 hc,this.2.2⟩
  ·obtain ⟨n,i,rfl⟩:=mem_map.mp j;exact ⟨Rat.le_trans h.c0 hc,Rat.le_refl,hL1 n (B n i) (o n i)⟩
 ·intro n i k;rw [Jbh] at k;exact hL1 n i fun z=>k (mem_append.mpr (.inl z))
 ·intro g f;rw [u,H];have:=key g f;grind
 ·intro x j;rcases mem_append.mp j with j | j
  ·rcases h.d x j with e | ⟨g,f,v,r,C,h4⟩
   ·exact .inl e
   ·refine .inr ⟨g,f,v,fun q b=>?_,?_,fun q b=>?_⟩
    ·rw [Jbh];exact mem_append.mpr (.inl (r q b))
    ·rw [u,JcX (a:=dlt w ns) fun q b=>if_neg fun z=>o q z (r q b)];grind
    ·rw [Je0 (r q b)];exact h4 q b
  ·obtain ⟨n,i,rfl⟩:=mem_map.mp j;obtain ⟨E,G,e | ⟨g,f,v,r,C⟩⟩:=(hns n).mp i
   ·exact .inl e.symm
   ·have m:∀ q∈g.way,q∉lvs.map (·.1)->q∈ns:=fun q b A=>(hns q).mpr ⟨hs g f q b,A, .inr ⟨g,f,b,r,C⟩⟩;refine .inr ⟨g,f,v,fun q b=>?_,?_,fun q b=>?_⟩
    ·rw [Jbh];by_cases y:q∈lvs.map (·.1)
     ·exact mem_append.mpr (.inl y)
     ·exact mem_append.mpr (.inr (m q b y))
    ·have e:sm (dlt w ns) g.way=sm (left lvs w) g.way:=JbM fun q b=>by
      unfold dlt left;by_cases y:q∈lvs.map (·.1)
      ·rw [if_neg fun z=>o q z y,if_pos y]
      ·rw [if_pos (m q b y),if_neg y]
     rw [u,e];grind
    ·by_cases y:q∈lvs.map (·.1)
     ·rw [Je0 y];obtain ⟨x,j,rfl⟩:=mem_map.mp y;rw [Jd3 h.nd j];exact Rat.le_trans (h.a x j).2.1 hc
     ·rw [Jgg y (m q b y)];exact Rat.le_refl
theorem RInv.le (h:RInv N w M gs lvs c) (hL:(∃ n∈N,n∉lvs.map (·.1)/\M n=vl L)\/∃ g∈gs,0<sm (left lvs w) g.way/\vl L*sm (left lvs w) g.way=g.R-sm (used lvs w) g.way):c<=vl L:=by
 rcases hL with ⟨n,hn,hS,e⟩ | ⟨g,hg,p,e⟩
 ·rw [<- e];exact h.b n hn hS
 ·have:=h.cc g hg;rw [<- e] at this;exact (scaled p).mp this
theorem RInv.fair (h:RInv N w M gs lvs c) (hw:∀ n∈N,0<w n) (hs:∀ g∈gs, ∀ n∈g.way,n∈N) (hall:∀ n∈N,n∈lvs.map (·.1)):Fair N w M gs (lvv lvs):=by
 have i:∀ n∈N, ∃ x∈lvs,x.1=n/\lvv lvs n=vl x.2:=fun n f=>by
  obtain ⟨x,b,e⟩:=mem_map.mp (hall n f);have e:x.1=n:=e;exact ⟨x,b,e,by rw [<- e];exact Jd3 h.nd b⟩
 refine ⟨fun n f=>?_,fun n f=>?_,fun g k=>?_,fun n f=>?_⟩
 ·obtain ⟨x,b,_,e⟩:=i n f;rw [e];exact (h.a x b).1
 ·obtain ⟨x,b,j,e⟩:=i n f;rw [e, <- j];exact (h.a x b).2.2
 ·have:=h.cc g k;rw [JcX (a:=left lvs w) fun q l=>if_pos (hall q (hs g k q l))] at this;show sm (used lvs w) g.way<=_;grind
 ·obtain ⟨x,b,j,e⟩:=i n f;rcases h.d x b with q | ⟨g,k,h1,_,h3,h4⟩
  ·exact .inl (by rw [e,q,j])
  ·refine .inr ⟨g,k,j ▸ h1,?_,fun q l=>?_⟩
   ·show sm (used lvs w) g.way=_;grind
   ·rw [e];exact h4 q l
end
def Dv (D:Int) (r:Rat):Prop:=∃ k:Int,r*(D:Rat)=(k:Rat)
section
variable {E:Int} {r:Rat} {D:Int} {s:Rat}
theorem Dv.int (k:Int):Dv D (k:Rat):=⟨k*D,by push_cast;rfl⟩
theorem Dv.add (h:Dv D r) (k:Dv D s):Dv D (r+s):=by
 obtain ⟨a,c⟩:=h;obtain ⟨b,d⟩:=k;exact ⟨a+b,by push_cast;grind⟩
theorem Dv.sub (h:Dv D r) (k:Dv D s):Dv D (r-s):=by
 obtain ⟨a,c⟩:=h;obtain ⟨b,d⟩:=k;exact ⟨a-b,by push_cast;grind⟩
theorem Dv.mul (h:Dv D r) (k:Int):Dv D (r*(k:Rat)):=by
 obtain ⟨a,b⟩:=h;exact ⟨a*k,by push_cast;grind⟩
theorem Dv.more (h:Dv D r) (k:Int):Dv (D*k) r:=by
 obtain ⟨a,b⟩:=h;exact ⟨a*k,by push_cast;grind⟩
theorem Dv.over {k:Int} (hk:1<=k) (h:Dv D (r*(k:Rat))):Dv (D*k) r:=by
 obtain ⟨a,b⟩:=h;exact ⟨a,by push_cast;grind⟩
theorem Dv.den {t:Int × Int} (h:Dv D (vl t)) (ht:1<=t.2) (hg:Mth.g t.1 t.2=1):t.2∣D:=by
 obtain ⟨a,c⟩:=h;have f:=JaF ht;have e:(t.1:Rat)*D=a*t.2:=by
  unfold vl at c;have : (t.1:Rat)=(t.1:Rat)/t.2*t.2:=by rw [Rat.div_mul_cancel f]
  rw [this];grind
 have e:t.1*D=a*t.2:=by exact_mod_cast e
 refine Mth.Jdo (a:=t.1) (b:=t.2) (d:=D) (Mth.Jck hg) ⟨a,?_⟩;rw [e,Int.mul_comm]
theorem Dv.fb {t:Int × Int} {m n:Nat} {Q:Int} (h:Dv D (vl t)) (ht:1<=t.2) (hg:Mth.g t.1 t.2=1) (hD:1<=D) (sD:Mth.Sz n D) (h0:0<=vl t) (h1:vl t<=(Q:Rat)) (sQ:Mth.Sz m Q):FB (m+n) n t:=by
 have f:=h.den ht hg;have j:t.2<=D:=Int.le_of_dvd ∅ f;have c:Mth.Sz n t.2:=Nat.lt_of_le_of_lt (by ac_nf:t.2.natAbs<=D.natAbs) sD;have i:=JaF ht;have a:(0:Rat)<(t.2:Rat):=by exact_mod_cast (show 0<t.2 by ac_nf)
 have e:(t.1:Rat)=vl t*t.2:=by unfold vl;rw [Rat.div_mul_cancel i]
 have d:(0:Rat)<=(t.1:Rat):=by rw [e];exact Rat.mul_nonneg h0 (Rat.le_of_lt a)
 have b:(t.1:Rat)<=(Q:Rat)*t.2:=by rw [e];exact Rat.mul_le_mul_of_nonneg_right h1 (Rat.le_of_lt a)
 have d:0<=t.1:=by exact_mod_cast d
 have b:t.1<=Q*t.2:=by exact_mod_cast b
 refine ⟨Nat.lt_of_le_of_lt (?_:t.1.natAbs<=(Q*t.2).natAbs) (sQ.mul c),c,ht,hg⟩;ac_nf
end
theorem JkG (rel:KV kvs vs):vs.map (·.1)=kvs.map (·.1):=by
 unfold KV at rel;induction rel with
 | nil=>rfl
 | cons h1 _ ih=>rw [map_cons,map_cons,ih,h1.1]
theorem JkE {w:World} {v:Value} (h:(Jau P w).is (Sum.inr z) v=true):∃ t,v=.str z t:=by
 rcases JaS (show keyIs (Sum.inr z) v=true from h) with ⟨b,hb,_⟩ | ⟨y,t,hy,rfl⟩
 ·cases hb
 ·cases hy;exact ⟨t,rfl⟩
def Itk (d:Addr) (od:Obj) (kvs:List (Key × V)) (ss:List Str):It :=
 ⟨fun i H=>H d=some (.frz od (.dK kvs))/\i<ss.length,fun i H x H'=>H'=H/\(ss.map V.str)[i]?=some x,fun i H=>H d=some (.frz od (.dK kvs))/\ss.length<=i⟩
variable {ss:List Str}
theorem JiS {w:World} {K:W.Frag} (rel:KV kvs vs) (hk:kvs.map (·.1)=ss.map Sum.inr) (hd:∀ h:Heap,h.get? d=some od->h.DictAt (Jau P w) d vs ep) :
  Turn P w K tg (Itk d od kvs ss) [it] it (fun i h=>h.IsKeyIter it d i vs.length ep) where
 mem:=by simp
 obj:=fun i h a b l=>by
  obtain rfl:b=it:=by simpa using l
  obtain ⟨o,e,c,z⟩:=a;exact ⟨o,e,fun v q=>by rw [z] at q;cases q⟩
 keep:=fun i h u a k=>a.at fun o e=>k it (by simp) o e
 item:=by
  intro X A M B O i f s σ H E I y a C;subst A M B;obtain ⟨j,D⟩:=C;obtain ⟨L,N,T,J,F,G⟩:=y it (by simp);have g:=(I.hok d _ j).1;have S:=rel.length;have R:kvs.length=ss.length:=by simpa using congrArg List.length hk
  obtain ⟨⟨k,Y⟩,r⟩:∃ p,vs[i]?=some p:=⟨_,List.getElem?_eq_getElem (show i<vs.length by ac_nf)⟩;have x:(vs.map (·.1))[i]?=some k:=by rw [List.getElem?_map,r];rfl
  rw [JkG rel,hk,List.getElem?_map,List.getElem?_eq_getElem D] at x;have x:Sum.inr ss[i]=k:=Option.some.inj x;subst x;refine wpAny_pyNext_dict_item a (hd _ g) r fun key u n m Q=>?_;obtain ⟨t,rfl⟩:=JkE n;have I1:Inv X f σ H { s with heap:=u }:=I.turned (t':=s.toks) (fun b o l e=>(Q.2 b l).trans e) L N J F G;obtain ⟨o,e,c,z⟩:=id m;exact ⟨_,rfl,go_of (s:={ s with heap:=u }) e c z ⋯ ⟨.str ss[i],H,I1,⟨t,rfl⟩,⟨rfl,by rw [List.getElem?_map,List.getElem?_eq_getElem D];rfl⟩,m,fun b l=>(y b l).1⟩⟩
 done:=by
  intro X A M B O i f s σ H E I y a C;subst A M B;obtain ⟨j,D⟩:=C;obtain ⟨L,N,T,J,F,G⟩:=y it (by simp);have g:=(I.hok d _ j).1;have S:=rel.length;have R:kvs.length=ss.length:=by simpa using congrArg List.length hk
  exact wpAny_pyNext_dict_end (I.ok.hd O) a (hd _ g) (List.getElem?_eq_none ∅) fun u U=>⟨rfl,I.turned (t':=s.toks) (fun b o l e=>U b o l e) L N J F G⟩
 self:=fun _ _ _ _ _ a h=>wpAny_pyIter_keyiter a h
def iKeys (td:TE):TI:=fun σ H R=>td σ H fun x H1=>∃ (d:Addr) (kvs:List (Key × V)) (ss:List Str),x=.ref d/\H1 d=some (.dK kvs)/\kvs.map (·.1)=ss.map Sum.inr/\∀ od,R (Itk d od kvs ss) (upd H1 d (.frz od (.dK kvs)))
variable {o:Expr}
theorem Jip {td:TE} (ho:PE X o td):PI X tg o (iKeys td):=by
 intro a s σ H R I h;refine thn (ho a s σ H _ I h) fun v i ζ=>?_;obtain ⟨y,B,I1,p,d,kvs,A,r,e,n,m⟩:=ζ;subst r;obtain rfl:v=Value.ref d:=p;obtain ⟨C,x,vs,g,u⟩:=dk_of I1.hok e;obtain ⟨ep,j⟩:=u.dictAt;obtain ⟨k,t,c,rest⟩:=id j;refine wpAny_pyIter_dict (knd:=Jau X.prog X.w) (d:=d) (kvs:=vs) (ep:=ep) x j ?_;have l:∀ b o,i.heap.get? b=some o->(i.heap.push { cls:=.type "dict_keyiterator",data:=.fields #[.ref d, .int 0 0, .int vs.length 0, .int ep 0] }).get? b=some o:=fun b o z=>Heap.get?_push_of_some _ z;have I2:=(I1.freeze e c).kept (t':=i.toks) l;refine ⟨_,[_],_,_,_,rfl,I2,JiS (vs:=vs) (ep:=ep) g n (fun h q=>⟨k,t,q,rest⟩),⟨_,Heap.get?_push_size _ rfl,rfl,rfl⟩,fun b f=>?_,m k⟩;obtain rfl:=mem_singleton.mp f;exact I1.fpOk (Nat.le_refl _) ((I1.freeze e c).hok.fresh (Nat.le_refl _))
def Jke (ts:TS):TS:=fun D σ H=>∃ d kvs,H d=some (.dK kvs)/\ts { nx:=fun σ' H'=>∃ od kvs',H' d=some (.frz od (.dK kvs'))/\D.nx σ' (upd H' d (.dK kvs')),rt:=fun _ _=>False } σ H
theorem Inv.thawS {σ σ':List (Option V)} {s s':Shared} {kvs':List (Key × V)} (I:Inv X pins σ H s) (e:H d=some (.dK kvs)) (I':Inv X pins σ' H' s') (e':H' d=some (.frz od (.dK kvs'))):Inv X pins σ' (upd H' d (.dK kvs')) s':=by
 have m:∀ {b:Addr} {o:HO},H' b=some o->(∀ u v,o≠.frz u v)->b≠d:=fun q h z=>by rw [z,e'] at q;cases q;exact h _ _ rfl
 refine ⟨I'.ok,I'.os,I'.bare,⟨I'.base.keep,I'.base.slot,fun b o q n t=>?_,I'.base.there,fun b l q=>?_,fun b o u q=>?_,fun b y q=>?_⟩,I'.loc,I'.cell,?_,fun x c z=>?_,fun p B=>?_,fun a o q=>?_,I'.len⟩
 ·have:=I'.base.free b o q n t;rw [Jag (fun z=>by rw [z,e'] at this;cases this)];exact this
 ·have:=I'.base.tups b l q;rw [Jag (m this (by intro u v z;cases z))];exact this
 ·have f:=I'.base.frzs b o u q;have g:=I.base.frzs b o u q;rw [Jag (fun z=>by rw [z,e] at g;cases g)];exact f
 ·obtain ⟨j,f⟩:=I'.base.tbls b y q;exact ⟨j,by rw [Jag (m f (by intro u v z;cases z))];exact f⟩
 ·have:=I'.free;rw [Jag (fun z=>by rw [z,e'] at this;cases this)];exact this
 ·have:=I'.freeC x c z;rw [Jag (fun z=>by rw [z,e'] at this;cases this)];exact this
 ·obtain ⟨f,g,A⟩:=I'.pin p B;exact ⟨f,by rw [Jag (fun z=>by rw [z,e'] at g;cases g)];exact g,A⟩
 ·have k:∀ r b,H' b=some (.own r)->upd H' d (.dK kvs') b=some (.own r):=fun r b q=>by
   rw [Jag (m q (by intro u v z;cases z))];exact q
  have i:∀ b l,H' b=some (.tup l)->upd H' d (.dK kvs') b=some (.tup l):=fun b l q=>by
   rw [Jag (m q (by intro u v z;cases z))];exact q
  by_cases c:a=d
  ·subst c;rw [Jaj] at q;cases q;have f:ObjOk X.prog X.w H' s'.heap a (.dK kvs'):=(I'.hok a _ e').2;exact f.stay (fun _ _ _ z=>z) (k a) i
  ·rw [Jag c] at q;exact (I'.hok a o q).stay (fun _ _ _ z=>z) (k a) i
variable {st:Stmt} {ts:TS}
theorem Jla (h:PS X st ts):PS X st (Jke ts):=by
 intro b s σ H D I ⟨d,j,i,q⟩;refine wpAny_mono (h b s σ H _ I q) (fun f l z=>?_) fun _ _ z=>z;cases f with
 | next=>
  obtain ⟨σ',c,I1,k,e,g,a⟩:=z;exact ⟨σ',_,I.thawS i I1 g,a⟩
 | brk=>obtain ⟨σ',c,I1,a⟩:=z;exact a.elim
 | cont=>obtain ⟨σ',c,I1,a⟩:=z;exact a.elim
 | ret v=>obtain ⟨y,σ',c,I1,r,a⟩:=z;exact a.elim
theorem ps_no:PS X st (fun _ _ _=>False):=fun _ _ _ _ _ _ h=>h.elim
def tSumV (td:TE):TE:=fun σ H Q=>td σ H fun x H1=>∃ (d:Addr) (kvs:List (Key × V)) (ns:List Int),x=.ref d/\H1 d=some (.dK kvs)/\kvs.map (·.2)=ns.map V.int/\Q (.int ns.sum) H1
theorem Jit (ns:List Int):∀ k,k<=ns.length->preSum (fun i=>ns.getD i 0) k=(ns.take k).sum
 | 0,_=>by simp [preSum]
 | k+1,h=>by
  rw [take_sum_succ ns k ∅, <- Jit ns k ∅];rfl
theorem Jk5 {td:TE} {p1:Pos} (hc:X.calm=true) (hx:x="sum") (hg:Gl X x) (hm:X.mg x=none) (hv:bootBuiltins x=some (.builtin "sum")) (ho:PE X o td)
  (hb:attributeBase o "values" X.env (eval o X.env)=eval o X.env:=by rfl) (hn:(apos.endLine == cpos.line)=true:=by rfl) :
  PE X (.Call (.Name x p1) [.Call (.Attribute o "values" apos) [] [] cpos] [] pos) (tSumV td):=by
 intro j s σ H Q I h;have S:x≠"__name__":=by rw [hx];decide
 have U:(x == ("__debug__" : Str))=false:=by rw [hx];decide
 refine wpAny_Call_Name_kw (JdX I hg hm hv ?_ S U);refine PyProof.Rows.callWith_builtin1 ?_ rfl rfl;show wpAny _ _ (spliced ((false,eval (.Call (.Attribute o "values" apos) [] [] cpos) X.env)::backTo pos (starEach [] X.env))) _ _ s;refine Calls.spliced_cons ?_;refine wpAny_Call_method0_late hb hn (thn (ho j s σ H _ I h) fun v n ζ=>?_);obtain ⟨y,K,I1,N,d,kvs,a,P,e,f,M⟩:=ζ;subst P;obtain rfl:v=Value.ref d:=N;obtain ⟨r,D,T⟩:=JfH I1 (.inl ⟨kvs, .inl e⟩);obtain ⟨hz,_,c,m,B⟩:=dk_of I1.hok e;refine ⟨"dict","dict.values",PySem.F.plainAttrs_dict,PySem.F.slot_dict_values,PySem.F.type_dict_values,r,D,Calls.callWith_builtin rfl (PySem.evalArgs_none ?_)⟩;refine call_meetsIn PySem.F.slot_dict_values r PySem.F.entry_dict_values (PySem.F.args_dict_values_1 _) (meets_dict_values (Jau X.prog X.w) d T) ⟨⟨c,B⟩,?_⟩;refine Calls.spliced_nil ?_;obtain ⟨ep,p⟩:=B.dictAt;have O:X.A.in1.handled=none:=by have:=I.ok.hd hc;simp [this]
 have C:d<n.heap.objs.size:=p.lt_size;have q:(n.heap.push { cls:=.type "dict_values",data:=.fields #[.ref d] }).objs.size=n.heap.objs.size+1:=Heap.size_push ..;refine call_sum_walkG (wpAny_pyIter_values (knd:=Jau X.prog X.w) (v:=n.heap.objs.size) (d:=d) (kvs:=c) (ep:=ep) ⟨_,Heap.get?_push_size _ rfl,rfl,rfl⟩ (p.push _) ?_);have lv:=m.length;have W:a.length=kvs.length:=by simpa using (congrArg List.length f).symm
 refine ⟨_,_,_,_,_,_,fun i=>a.getD i 0,rfl,Walks.dictValues (knd:=Jau X.prog X.w) O _ d (by rw [q];exact Nat.ne_of_lt (Nat.lt_succ_of_lt C)) c ep,⟨⟨_,Heap.get?_push_size _ rfl,rfl,rfl⟩,(p.push _).push _⟩,fun b g=>?_,fun i u J=>?_,fun Y E t' k=>?_⟩
 ·simp only [mem_cons,not_mem_nil,or_false] at g;show b<(Heap.push _ _).objs.size;rw [Heap.size_push];rcases g with rfl | rfl
  ·exact Nat.lt_succ_self _
  ·rw [q];exact Nat.lt_succ_of_lt (Nat.lt_succ_of_lt C)
 ·obtain ⟨Z,t⟩:=J;have G:=JiW m;have R:(c.map (·.2))[i]?=some u:=by rw [List.getElem?_map,t];rfl
  have V:i<kvs.length:=by
   have:=(List.getElem?_eq_some_iff.mp t).1;ac_nf
  obtain ⟨u',l,L⟩:=G.get (i:=i) (x:=.int (a.getD i 0)) (by rw [f,List.getElem?_map,List.getElem?_eq_getElem (show i<a.length by ac_nf)];simp [List.getD_eq_getElem?_getD,List.getElem?_eq_getElem (show i<a.length by ac_nf)]);rw [R] at l;cases l;exact L
 ·rw [show c.length=a.length by ac_nf,Jit a _ (Nat.le_refl _),take_of_length_le (Nat.le_refl _)];exact ⟨.int _,K,I1.kept (t':=E) (fun b o z=>k b o (by simp only [mem_cons,not_mem_nil,or_false];have:=Heap.lt_size z;rw [q];exact Nat.ne_of_lt (Nat.lt_succ_of_lt this)) (Heap.get?_push_of_some _ (Heap.get?_push_of_some _ z))),⟨_,rfl⟩,M⟩
section
variable {tl:TE} {k:Nat} {g:TG} {td:TE}
theorem y8ey:tSumV td σ H Q=td σ H fun x H1=>∃ (d:Addr) (kvs:List (Key × V)) (ns:List Int),x=.ref d/\H1 d=some (.dK kvs)/\kvs.map (·.2)=ns.map V.int/\Q (.int ns.sum) H1:=rfl
theorem y38y:JeL k cs (iKeys td) g tt te σ H Q=td σ H fun x H1=>∃ (d1:Addr) (kvs1:List (Key × V)) (ss:List Str),x=.ref d1/\H1 d1=some (.dK kvs1)/\kvs1.map (·.1)=ss.map Sum.inr/\∀ od,JbF (Itk d1 od kvs1 ss) k cs g tt te σ Q (upd H1 d1 (.frz od (.dK kvs1))):=rfl
theorem y3ay:tThaw (JeL k cs (iKeys td) g tt te) σ H Q=∃ d kvs,H d=some (.dK kvs)/\td σ H fun x H1=>∃ (d1:Addr) (kvs1:List (Key × V)) (ss:List Str),x=.ref d1/\H1 d1=some (.dK kvs1)/\kvs1.map (·.1)=ss.map Sum.inr/\∀ od,JbF (Itk d1 od kvs1 ss) k cs g tt te σ (fun v H'=>∃ od kvs',H' d=some (.frz od (.dK kvs'))/\Q v (upd H' d (.dK kvs'))) (upd H1 d1 (.frz od (.dK kvs1))):=rfl
theorem JbF.keys (Pv:Nat->List V->Hp->Prop) (h0:Pv 0 [] H1) (hl:∀ i ys H',i<=ss.length->Pv i ys H'->H' d=some (.frz od (.dK kvs))/\ys.length<=sizeLine)
  (hs:∀ i z ys H2,ss[i]?=some z->Pv i ys H2->g (.str z) (List.replicate k none++Jax cs σ) H2 fun σ4 H4=>tt σ4 H4 fun b H5=>if b=true then te σ4 H5 fun y H6=>Pv (i+1) (ys++[y]) H6 else Pv (i+1) ys H5) (hd:∀ ys H2,Pv ss.length ys H2->∀ p,H2 p=none->Q (.ref p) (upd H2 p (.lst ys))) :
  JbF (Itk d od kvs ss) k cs g tt te σ Q H1:=by
 refine ⟨fun i m ys H'=>Pv i ys H'/\i<=ss.length/\m=ss.length-i,⟨_,h0,Nat.zero_le _,rfl⟩,?_⟩;rintro i m ys H2 ⟨h,r,rfl⟩;obtain ⟨l,o⟩:=hl i ys H2 r h;refine ⟨o,?_⟩;by_cases c:i<ss.length
 ·refine .inr ⟨⟨l,c⟩,?_⟩;rintro x u ⟨rfl,j⟩;rw [List.getElem?_map] at j;obtain ⟨z,s,rfl⟩:=Option.map_eq_some_iff.mp j;have w:∀ (f:List V) (H5:Hp),Pv (i+1) f H5=∃ m',m'<ss.length-i/\Pv (i+1) f H5/\i+1<=ss.length/\m'=ss.length-(i+1):=fun f H5=>
   propext ⟨fun q=>⟨_,Nat.sub_lt_sub_left c (Nat.lt_succ_self i),q,c,rfl⟩,fun ζ=>by obtain ⟨_,_,q,_⟩:=ζ;exact q⟩
  have t:(fun (y:V) (H6:Hp)=>Pv (i+1) (ys++[y]) H6)=fun y H6=>∃ m',m'<ss.length-i/\Pv (i+1) (ys++[y]) H6/\i+1<=ss.length/\m'=ss.length-(i+1):=by
   funext y H6
   exact w _ _
  have e:(fun (σ4:St) (H4:Hp)=>tt σ4 H4 fun b H5=>if b=true then te σ4 H5 fun y H6=>Pv (i+1) (ys++[y]) H6 else Pv (i+1) ys H5)=fun σ4 H4=>tt σ4 H4 fun b H5=>if b=true then te σ4 H5 fun y H6=>∃ m',m'<ss.length-i/\Pv (i+1) (ys++[y]) H6/\i+1<=ss.length/\m'=ss.length-(i+1) else ∃ m',m'<ss.length-i/\Pv (i+1) ys H5/\i+1<=ss.length/\m'=ss.length-(i+1):=by
   funext σ4 H4
   congr 1
   funext b H5
   by_cases a:b=true
   ·rw [if_pos a,if_pos a, <- t]
   ·rw [if_neg a,if_neg a];exact w ys H5
  have:=hs i z ys _ s h;rw [e] at this;exact this
 ·have n:i=ss.length:=by ac_nf
  subst n;exact .inl ⟨⟨l,Nat.le_refl _⟩,hd ys H2 h⟩
theorem y91y {En:Ends}:Jke ts En σ H=∃ d kvs,H d=some (.dK kvs)/\ts { nx:=fun σ' H'=>∃ od kvs',H' d=some (.frz od (.dK kvs'))/\En.nx σ' (upd H' d (.dK kvs')),rt:=fun _ _=>False } σ H:=rfl
theorem DGet.f {a:Addr} {k:Key} (e:H a=some (.frz od (.dK kvs))):DGet H a (kV k) (valV kvs k):=.inl ⟨kvs,k, .inr ⟨od,e⟩,rfl,rfl⟩
end
def mulF (a c:Int × Int):Int × Int:=(Mth.top (a.1*c.1) (a.2*c.2),Mth.bot (a.1*c.1) (a.2*c.2))
def divF (a c:Int × Int):Int × Int:=(Mth.top (a.1*c.2) (a.2*c.1),Mth.bot (a.1*c.2) (a.2*c.1))
def subF (a c:Int × Int):Int × Int:=(Mth.top (a.1*c.2-c.1*a.2) (a.2*c.2),Mth.bot (a.1*c.2-c.1*a.2) (a.2*c.2))
structure Lo (a:Int × Int):Prop where
 b1:1<=a.2
 g1:Mth.g a.1 a.2=1
variable {a:Int × Int}
theorem FB.lo (h:FB A B a):Lo a:=⟨h.b1,h.g1⟩
variable {c:Int × Int}
theorem Lo.inj (h:Lo a) (k:Lo c) (e:vl a=vl c):a=c:=Jki h.b1 k.b1 h.g1 k.g1 e
theorem Jh8 {t b:Int} (hb:1<=b):Lo (Mth.top t b,Mth.bot t b):=⟨Mth.JcU ∅,Mth.g_low ∅⟩
variable {y:Int}
theorem Jcg {x:Int} (hx:1<=x) (hy:1<=y):1<=x*y:=by
 have:=Int.mul_pos (show 0<x by ac_nf) (show 0<y by ac_nf);ac_nf
theorem Jkj (ha:1<=a.2) (hc:1<=c.2):vl (mulF a c)=vl a*vl c:=by
 unfold mulF;rw [JiZ (Jcg ha hc)];have b:=JaF ha;have d:=JaF hc;unfold vl;push_cast;generalize (a.1:Rat)=x at *;generalize (a.2:Rat)=y at *;generalize (c.1:Rat)=z at *;generalize (c.2:Rat)=t at *;grind
theorem Jkh (ha:1<=a.2) (hc:1<=c.1) (hd:1<=c.2):vl (divF a c)=vl a/vl c:=by
 unfold divF;rw [JiZ (Jcg ha hc)];have b:=JaF ha;have d:=JaF hc;have e:=JaF hd;unfold vl;push_cast;generalize (a.1:Rat)=x at *;generalize (a.2:Rat)=y at *;generalize (c.1:Rat)=z at *;generalize (c.2:Rat)=t at *;grind
theorem Jmh (ha:1<=a.2) (hc:1<=c.2):vl (subF a c)=vl a-vl c:=by
 unfold subF;rw [JiZ (Jcg ha hc)];have b:=JaF ha;have d:=JaF hc;unfold vl;push_cast;generalize (a.1:Rat)=x at *;generalize (a.2:Rat)=y at *;generalize (c.1:Rat)=z at *;generalize (c.2:Rat)=t at *;grind
theorem Je2 (ha:1<=a.2) (hc:1<=c.2):Lo (mulF a c):=Jh8 (Jcg ha hc)
theorem Jkx (ha:1<=a.2) (hc:1<=c.1):Lo (divF a c):=Jh8 (Jcg ha hc)
theorem Jlm (ha:1<=a.2) (hc:1<=c.2):Lo (subF a c):=Jh8 (Jcg ha hc)
theorem Jf3 (k:Int):vl (k,1)=(k:Rat):=by
 unfold vl;have : ((1:Int):Rat)=1:=rfl;grind
theorem Jc1:vl (0,1)=0:=Jf3 0
structure LidD where
 nm:Str
 rest:Int × Int
 ws:List (Str × Int)
 load:Int
 last:Int × Int
def wtOf (ws:List (Str × Int)) (n:Str):Option Int:=(ws.find? fun x=>decide (x.1=n)).map (·.2)
def LidD.settle (e:LidD) (n:Str) (L:Int × Int):LidD:=match wtOf e.ws n with
 | none=>e
 | some k=>{ e with rest:=subF e.rest (mulF L (k,1)),load:=e.load-k,last:=L }
variable {ws:List (Str × Int)}
theorem JgF:wtOf ws n=none↔n∉ws.map (·.1):=by
 unfold wtOf;rw [Option.map_eq_none_iff,List.find?_eq_none];constructor
 ·intro h z;obtain ⟨x,a,e⟩:=mem_map.mp z;have:=h x a;simp [e] at this
 ·intro h x a;have : x.1≠n:=fun z=>h (mem_map.mpr ⟨x,a,z⟩);simpa using this
theorem Ji4 {k:Int} (h:wtOf ws n=some k):(n,k)∈ws:=by
 unfold wtOf at h;obtain ⟨x,b,e⟩:=Option.map_eq_some_iff.mp h;have c:=List.mem_of_find?_eq_some b;have d:=List.find?_some b;have a:x.1=n:=by simpa using d
 obtain ⟨y,z⟩:=x;have e:z=k:=e;have a:y=n:=a;subst e;subst a;exact c
structure LidOk (w:Str->Rat) (g:Gp) (lvs:List (Str × (Int × Int))) (e:LidD):Prop where
 pm:(e.ws.map (·.1)).Perm g.way
 nd:(e.ws.map (·.1)).Nodup
 wt:∀ x∈e.ws,w x.1=(x.2:Rat)/\1<=x.2
 rest:vl e.rest=g.R-sm (used lvs w) g.way
 load:(e.load:Rat)=sm (left lvs w) g.way
 low:Lo e.rest
 llow:Lo e.last
 l1:∀ n∈g.way,n∈lvs.map (·.1)->lvv lvs n<=vl e.last
 l2:(∃ n∈g.way,n∈lvs.map (·.1))->∃ n∈g.way,n∈lvs.map (·.1)/\lvv lvs n=vl e.last
theorem Jj7 {w:Str->Rat} {m:Str}:∀ {l:List Str},l.Nodup->sm (dlt w [m]) l=if m∈l then w m else 0
 | [],_=>by simp [sm]
 | n::l,h=>by
  rw [nodup_cons] at h;simp only [sm,Jj7 h.2];unfold dlt;by_cases c:n=m
  ·subst c;rw [if_neg h.1];simp;grind
  ·have c':m≠n:=fun z=>c z.symm;simp only [mem_singleton,mem_cons,c,c',false_or,if_false];grind
section
variable {lvs:List (Str × (Int × Int))} {e:LidD} {L:Int × Int} {w:Str->Rat} {g:Gp} {m:Str}
theorem LidOk.settle (h:LidOk w g lvs e) (hnd:(lvs.map (·.1)).Nodup) (hm:m∉lvs.map (·.1)) (hL:Lo L) (hle:∀ x∈lvs,vl x.2<=vl L):LidOk w g (lvs++[(m,L)]) (e.settle m L):=by
 have u:∀ n∈[m],n∉lvs.map (·.1):=fun n d=>by rw [mem_singleton.mp d];exact hm
 have s:g.way.Nodup:=h.pm.nodup_iff.mp h.nd;have l:sm (used (lvs++[(m,L)]) w) g.way=sm (used lvs w) g.way+vl L*sm (dlt w [m]) g.way:=by
  rw [<- Jei];exact JbM fun q _=>Jfu (ns:=[m]) u q
 have o:sm (left (lvs++[(m,L)]) w) g.way=sm (left lvs w) g.way+(-1)*sm (dlt w [m]) g.way:=by
  rw [<- Jei];exact JbM fun q _=>JeZ (ns:=[m]) u q
 have f:(lvs++[(m,L)]).map (·.1)=lvs.map (·.1)++[m]:=Jbh (ns:=[m]);have j:∀ n∈lvs.map (·.1),lvv (lvs++[(m,L)]) n=lvv lvs n:=fun n d=>Je0 (ns:=[m]) d;have p:lvv (lvs++[(m,L)]) m=vl L:=Jgg (ns:=[m]) hm (by simp);rw [Jj7 s] at l o;unfold LidD.settle;cases hw:wtOf e.ws m with
 | none=>
  have t:m∉g.way:=fun z=>(JgF.mp hw) (h.pm.mem_iff.mpr z);rw [if_neg t] at l o;refine ⟨h.pm,h.nd,h.wt,?_,?_,h.low,h.llow,fun n d b=>?_,fun ⟨n,d,b⟩=>?_⟩
  ·rw [l,h.rest];grind
  ·rw [o,h.load];grind
  ·rw [f] at b;rcases mem_append.mp b with b | b
   ·rw [j n b];exact h.l1 n d b
   ·rw [mem_singleton.mp b] at d;exact absurd d t
  ·rw [f] at b;rcases mem_append.mp b with b | b
   ·obtain ⟨q,D,y,E⟩:=h.l2 ⟨n,d,b⟩;exact ⟨q,D,by rw [f];exact mem_append.mpr (.inl y),by rw [j q y];exact E⟩
   ·rw [mem_singleton.mp b] at d;exact absurd d t
 | some k=>
  have i:=Ji4 hw;have B:m∈g.way:=h.pm.mem_iff.mp (mem_map.mpr ⟨_,i,rfl⟩);have C:=h.wt _ i;have r:w m=(k:Rat):=C.1;rw [if_pos B,r] at l o;have A:=Je2 (a:=L) (c:=(k,1)) hL.b1 (Int.le_refl 1);refine ⟨h.pm,h.nd,h.wt,?_,?_,Jlm h.low.b1 A.b1,hL,fun n d b=>?_,fun _=>⟨m,B,by rw [f];simp,p⟩⟩
  ·show vl (subF e.rest (mulF L (k,1)))=_;rw [Jmh h.low.b1 A.b1,Jkj hL.b1 (Int.le_refl 1),Jf3,l,h.rest];grind
  ·show ((e.load-k:Int):Rat)=_;rw [o, <- h.load];push_cast;grind
  ·rw [f] at b;rcases mem_append.mp b with b | b
   ·rw [j n b];obtain ⟨x,v,rfl⟩:=mem_map.mp b;rw [Jd3 hnd v];exact hle x v
   ·rw [mem_singleton.mp b,p];exact Rat.le_refl
end
structure SInv (N:List Str) (w:Str->Rat) (gs:List Gp) (lvs:List (Str × (Int × Int))) (L:Int × Int):Prop where
 nd:(lvs.map (·.1)).Nodup
 sub:∀ n∈lvs.map (·.1),n∈N
 a:∀ x∈lvs,0<=vl x.2/\vl x.2<=vl L
 L0:0<=vl L
 cc:∀ g∈gs,vl L*sm (left lvs w) g.way<=g.R-sm (used lvs w) g.way
section
variable {N:List Str} {gs:List Gp} {lvs:List (Str × (Int × Int))} {L:Int × Int} {w:Str->Rat} {m:Str}
theorem SInv.step (h:SInv N w gs lvs L) (hg:∀ g∈gs,g.way.Nodup) (hm:m∈N) (hn:m∉lvs.map (·.1)):SInv N w gs (lvs++[(m,L)]) L:=by
 have f:∀ n∈[m],n∉lvs.map (·.1):=fun n b=>by rw [mem_singleton.mp b];exact hn
 have d:(lvs++[(m,L)]).map (·.1)=lvs.map (·.1)++[m]:=Jbh (ns:=[m]);refine ⟨?_,fun n b=>?_,fun x c=>?_,h.L0,fun g e=>?_⟩
 ·rw [d];exact nodup_append.mpr ⟨h.nd,by simp,fun x c y i z=>hn (by rw [mem_singleton.mp i] at z;rw [<- z];exact c)⟩
 ·rw [d] at b;rcases mem_append.mp b with q | q
  ·exact h.sub n q
  ·rw [mem_singleton.mp q];exact hm
 ·rcases mem_append.mp c with c | c
  ·exact h.a x c
  ·rw [mem_singleton.mp c];exact ⟨h.L0,Rat.le_refl⟩
 ·have j:sm (used (lvs++[(m,L)]) w) g.way=sm (used lvs w) g.way+vl L*sm (dlt w [m]) g.way:=by
   rw [<- Jei];exact JbM fun q _=>Jfu (ns:=[m]) f q
  have k:sm (left (lvs++[(m,L)]) w) g.way=sm (left lvs w) g.way+(-1)*sm (dlt w [m]) g.way:=by
   rw [<- Jei];exact JbM fun q _=>JeZ (ns:=[m]) f q
  have:=h.cc g e;rw [j,k];grind
theorem SInv.range (h:SInv N w gs lvs L) (hw:∀ n∈N,0<w n) (hs:∀ g∈gs, ∀ n∈g.way,n∈N) {g:Gp} (hg:g∈gs):0<=g.R-sm (used lvs w) g.way/\g.R-sm (used lvs w) g.way<=g.R:=by
 have f:=h.cc g hg;have d:=sm_nn (JdZ (lvs:=lvs) hw (hs g hg));have j:=Rat.mul_nonneg h.L0 d;have i:0<=sm (used lvs w) g.way:=sm_nn fun q e=>by
  unfold used;refine Rat.mul_nonneg ?_ (Rat.le_of_lt (hw q (hs g hg q e)));by_cases c:q∈lvs.map (·.1)
  ·obtain ⟨x,b,rfl⟩:=mem_map.mp c;rw [Jd3 h.nd b];exact (h.a x b).1
  ·rw [Jcm c];exact Rat.le_refl
 grind
end
theorem Dv.sm {D:Int} {a:Str->Rat}:∀ {l:List Str},(∀ q∈l,Dv D (a q))->Dv D (L2.sm a l)
 | [],_=>Dv.int 0
 | n::l,h=>(h n (by simp)).add (Dv.sm (l:=l) fun q hq=>h q (by simp [hq]))
variable {lvs:List (Str × (Int × Int))}
theorem JhT {D:Int} {b:Rat} {w:Str->Rat} {g:Gp} (hR:Dv D (g.R/b)) (hw:∀ n∈g.way, ∃ k:Int,w n=(k:Rat)) (hl:∀ x∈lvs,Dv D (vl x.2/b)) (hnd:(lvs.map (·.1)).Nodup):Dv D ((g.R-sm (used lvs w) g.way)/b):=by
 have e:(g.R-sm (used lvs w) g.way)/b=g.R/b-sm (fun n=>lvv lvs n/b*w n) g.way:=by
  have : sm (used lvs w) g.way/b=sm (fun n=>lvv lvs n/b*w n) g.way:=by
   generalize g.way=l;induction l with
   | nil=>simp only [sm];grind
   | cons n l ih=>
    simp only [sm, <- ih];unfold used;grind
  rw [<- this];grind
 rw [e];refine hR.sub (Dv.sm fun q d=>?_);obtain ⟨k,f⟩:=hw q d;rw [f];refine Dv.mul ?_ k;by_cases c:q∈lvs.map (·.1)
 ·obtain ⟨x,a,rfl⟩:=mem_map.mp c;rw [Jd3 hnd a];exact hl x a
 ·rw [Jcm c];have : (0:Rat)/b=((0:Int):Rat):=by
   show (0:Rat)/b=0;grind
  rw [this];exact Dv.int 0
variable {b:Int}
theorem Dv.up {D:Int} {r:Rat} (hb:1<=b) (h:Dv D (r/(b:Rat))):Dv D r:=by
 have:=h.mul b
 rwa [Rat.div_mul_cancel (JaF hb)] at this
def wsK (ws:List (Str × Int)):List (Key × V):=ws.map fun p=>(Sum.inr p.1, .int p.2)
theorem JgE (n:Str):∀ ws:List (Str × Int),valV (wsK ws) (Sum.inr n)=(wtOf ws n).map V.int
 | []=>rfl
 | x::ws=>by
  have ih:=JgE n ws;unfold wsK wtOf at ih ⊢;rw [map_cons,List.find?_cons];by_cases c:x.1=n
  ·rw [Jbe (by rw [c]),decide_eq_true c];rfl
  ·rw [Jbk (fun z=>c (by injection z)),decide_eq_false c];exact ih
theorem JjK (ws:List (Str × Int)):(wsK ws).map (·.1)=(ws.map (·.1)).map Sum.inr:=by
 unfold wsK;rw [map_map,map_map];rfl
theorem JjL (ws:List (Str × Int)):(wsK ws).map (·.2)=(ws.map (·.2)).map V.int:=by
 unfold wsK;rw [map_map,map_map];rfl
theorem JgU:∀ (ps acc:List (Str × V)),((acc++ps).map (·.1)).Nodup->ps.foldl (fun l p=>putK l (Sum.inr p.1) p.2) (acc.map fun p=>((Sum.inr p.1:Key),p.2))=(acc++ps).map fun p=>((Sum.inr p.1:Key),p.2)
 | [],acc,_=>by simp
 | p::ps,acc,h=>by
  have ea:acc++p::ps=(acc++[p])++ps:=by simp
  rw [List.foldl_cons];have nn:valV (acc.map fun p=>((Sum.inr p.1:Key),p.2)) (Sum.inr p.1)=none:=by
   cases e:valV (acc.map fun p=>((Sum.inr p.1:Key),p.2)) (Sum.inr p.1) with
   | none=>rfl
   | some v=>
    have:=Jh4.mp (show (valV (acc.map fun p=>((Sum.inr p.1:Key),p.2)) (Sum.inr p.1)).isSome=true by rw [e];rfl);rw [map_map] at this;obtain ⟨q,hq,eq⟩:=mem_map.mp this;have eq:(Sum.inr q.1:Key)=Sum.inr p.1:=eq;have eq:q.1=p.1:=by injection eq
    rw [map_append,map_cons,nodup_append] at h;exact absurd rfl (h.2.2 p.1 (mem_map.mpr ⟨q,hq,eq⟩) p.1 (by simp))
  rw [Jjz p.2 nn];have : (acc.map fun p=>((Sum.inr p.1:Key),p.2))++[(Sum.inr p.1,p.2)]=(acc++[p]).map fun p=>((Sum.inr p.1:Key),p.2):=by simp
  rw [this,JgU ps (acc++[p]) (by rw [<- ea];exact h),ea]
theorem Jil {ps:List (Str × V)} (h:(ps.map (·.1)).Nodup):JdF ps=ps.map fun p=>((Sum.inr p.1:Key),p.2):=by
 unfold JdF;exact (JgU ps [] (by simpa using h)).trans (by rw [nil_append])
structure LoInv (n:Int × Int) (q:Int) (t:Int × Int):Prop where
 lo:Lo t
 cr:t.1*(n.2*q)=n.1*t.2
 le1:t.1.natAbs<=n.1.natAbs
 le2:t.2.natAbs<=n.2.natAbs*q.natAbs
variable {n:Int × Int}
theorem LoInv.nil (h:Lo n):LoInv n 1 n:=⟨h,by rw [Int.mul_one],Nat.le_refl _,by simp⟩
theorem LoInv.step {t:Int × Int} {f:Int} (h:LoInv n q t) (hf:1<=f):LoInv n (q*f) (t.1.fdiv (Mth.g t.1 f),t.2*f.fdiv (Mth.g t.1 f)):=by
 have w:0<Mth.g t.1 f:=Mth.g_pos ∅;have k:=Mth.JcE t.1 f;have a:=Mth.JbI t.1 f;have j:=Mth.JaH k ∅;have p:=Mth.JaH a ∅;have m:=Mth.JcO (b:=t.1) (d:=f) rfl ∅;have u:=Mth.Jb2 a ∅ hf;have c:=Mth.JdS k ∅;have e:=Mth.JdS a ∅;have l:t.1.fdiv (Mth.g t.1 f)∣t.1:=⟨_,j.symm⟩;have v:Int.gcd (t.1.fdiv (Mth.g t.1 f)) t.2=1:=Mth.Jb7 (Mth.Jck h.lo.g1) l;have i:=h.cr;have o:=h.lo.b1;generalize t.1.fdiv (Mth.g t.1 f)=r at *;generalize f.fdiv (Mth.g t.1 f)=f' at *;generalize Mth.g t.1 f=s at *;refine ⟨⟨Jcg o u,Mth.JdL (Mth.Jb1 v m)⟩,?_,?_,?_⟩
 ·show r*(n.2*(q*f))=n.1*(t.2*f');have : r*(n.2*(q*f))=(t.1*(n.2*q))*f':=by
   rw [<- j, <- p];simp only [Int.mul_assoc,Int.mul_comm,Int.mul_left_comm]
  rw [this,i,Int.mul_assoc]
 ·exact Nat.le_trans c h.le1
 ·show (t.2*f').natAbs<=n.2.natAbs*(q*f).natAbs;rw [Int.natAbs_mul,Int.natAbs_mul, <- Nat.mul_assoc];exact Nat.mul_le_mul h.le2 e
theorem LoInv.vl {t:Int × Int} (h:LoInv n q t) (hn:1<=n.2) (hq:1<=q):vl t=vl n/(q:Rat):=by
 have f:=JaF hn;have g:=JaF h.lo.b1;have i:=JaF hq;have e:(t.1:Rat)*((n.2:Rat)*(q:Rat))=(n.1:Rat)*(t.2:Rat):=by exact_mod_cast h.cr
 unfold L2.vl;generalize (t.1:Rat)=a at *;generalize (t.2:Rat)=b at *;generalize (n.1:Rat)=c at *;generalize (n.2:Rat)=d at *;generalize (q:Rat)=q at *;grind
def stF (ms:List (Str × (Int × Int))) (lds:List LidD) (S:List Str):List ((Int × Int) × List Str) :=
 (ms.filter fun m=>decide (m.1∉S)).map (fun m=>(m.2,[m.1]))++(lds.filter fun e=>decide (0<e.load)).map fun e=>(divF e.rest (e.load,1),(e.ws.map (·.1)).filter fun n=>decide (n∉S))
def StV (K:W.Frag) (H:Hp) (s:(Int × Int) × List Str) (x:V):Prop:=∃ t v l,x=.ref t/\SqT K H t [v, .ref l]/\FrV K H v s.1.1 s.1.2/\H l=some (.lst (s.2.map V.str))
variable {x:V}
theorem StV.same {K:W.Frag} {s:(Int × Int) × List Str} (S:Same H H'):StV K H s x->StV K H' s x:=by rintro ⟨t,v,l,a,b,d,c⟩;exact ⟨t,v,l,a,b.same S,d.same S,S _ _ c⟩
def NFV (K:W.Frag) (H:Hp) (a:Str × (Int × Int)) (x:V):Prop:=FrV K H x a.2.1 a.2.2
theorem NFV.sameT {K:W.Frag} {a:Str × (Int × Int)} (S:SameT H H') (h:NFV K H a x):NFV K H' a x:=FrV.sameT S h
def thw (d:Addr) (kv:List (Key × V)) (H:Hp):Hp:=upd H d (.dK kv)
section
variable {a:Addr} {kv kw:List (Key × V)} {k:Key}
theorem JiO (h:H d=some (.dK kv)):thw d kv (upd H d (.frz od (.dK kv)))=H:=by
 funext b
 unfold thw;by_cases c:b=d
 ·subst c;rw [Jaj,h]
 ·rw [Jag c,Jag c]
theorem Jft (S:Same H H'):Same (thw d kv H) (thw d kv H'):=fun b u h=>by
 unfold thw at h ⊢;by_cases c:b=d
 ·subst c;rw [Jaj] at h ⊢;exact h
 ·rw [Jag c] at h ⊢;exact S _ _ h
theorem JiP (hd:H d=some (.frz od (.dK kv))) (ha:thw d kv H a=some (.dK kw)):DGet H a (kV k) (valV kw k):=by
 unfold thw at ha;by_cases c:a=d
 ·subst c;rw [Jaj] at ha;cases ha;exact DGet.f hd
 ·rw [Jag c] at ha;exact DGet.k ha
theorem Jfs (hd:H d=some (.frz od (.dK kv))) (ha:H a=none):thw d kv H a=none:=by
 unfold thw;rw [Jag (fun z=>by rw [z,hd] at ha;cases ha)];exact ha
end
theorem StV.cut {K:W.Frag} {s:(Int × Int) × List Str} {p:Addr} (h:StV K (cut p H) s x):StV K H s x:=h.same Jc6
structure SHC (ls:List PD) (es:List (GD × List Str)) (pl:Str->Int × Int):Prop where
 l12:ls.length<=12
 l7:es.length<=7
 l14:ls.length+es.length<=14
 nd:(ls.map (·.nm)).Nodup
 gn:∀ e∈es, ∀ u∈es.map (·.1),u.nm=e.1.nm->u=e.1
 pok:∀ p∈ls,POk p
 pb:∀ p∈ls,(1<=p.sz.2/\Mth.Sz 70 p.sz.2)/\FB 200 12 p.mo
 wt:∀ p∈ls,Mth.Sz 21 p.wt
 tok:∀ e∈es,TOk e.1.td
 gb:∀ e∈es,(1<=e.1.lo.2/\Mth.Sz 70 e.1.lo.2)/\1<=e.1.hi.2/\Mth.Sz 70 e.1.hi.2
 rb:∀ e∈es,FB 200 16 (roomF pl e.1)
 plb:∀ f,FB 302 161 (pl f)
 pls:∀ p∈ls,vl (pl p.en)=vl (pl p.st)+vl p.sz
 way:∀ e∈es, ∀ w:List Pr,JaR ls e.1.st w e.1.en->(w.map (·.1)).Nodup->e.2.Perm (w.map (·.1))
structure LSt (b:Int) (ls:List PD) (pl:Str->Int × Int) (e:GD × List Str) (l:LidD):Prop where
 nm:l.nm=e.1.nm
 rest:vl l.rest=vl (roomF pl e.1)*(b:Rat)
 fb:FB 2200 16 l.rest
 pm:(l.ws.map (·.1)).Perm e.2
 nd:(l.ws.map (·.1)).Nodup
 wt:∀ x∈l.ws, ∃ p∈ls,p.nm=x.1/\p.wt=x.2
 load:l.load=(l.ws.map (·.2)).sum
 last:l.last=(0,1)
structure MSt (b:Int) (p:PD) (m:Str × (Int × Int)):Prop where
 nm:m.1=p.nm
 vl:L2.vl m.2=L2.vl p.mo*(b:Rat)/(p.wt:Rat)
 fb:FB 2200 33 m.2
theorem Jg4 {a:Addr} {kv:List (Key × V)} {u:HO} (hd:H d=some (.frz od (.dK kv))) (ha:H a=some u) (hu:∀ o w,u≠.frz o w):thw d kv H a=some u:=by
 unfold thw;rw [Jag (fun z=>by rw [z,hd] at ha;cases ha;exact hu _ _ rfl)];exact ha
variable {β:Type}
theorem JgP:∀ {ls:List (Str × β)} {p q:Str × β},(ls.map (·.1)).Nodup->p∈ls->q∈ls->p.1=q.1->p=q
 | [],_,_,_,hp,_,_=>by cases hp
 | a::ls,p,q,hn,hp,hq,e=>by
  rw [map_cons,nodup_cons] at hn;rcases mem_cons.mp hp with h1 | h1 <;> rcases mem_cons.mp hq with h2 | h2
  ·rw [h1,h2]
  ·subst h1;exact absurd (e ▸ mem_map.mpr ⟨q,h2,rfl⟩) hn.1
  ·subst h2;exact absurd (e ▸ mem_map.mpr ⟨p,h1,rfl⟩) hn.1
  ·exact JgP hn.2 h1 h2 e
theorem BG.keysS {P:(Str × (Int × Int))->V->Prop} {as:List (Str × (Int × Int))} (h:BG (·.1) P as kvs):kvs.map (·.1)=(as.map (·.1)).map Sum.inr:=by
 rw [h.1,map_map];rfl
structure RC (b Q:Int) (N:List Str) (w M:Str->Rat) (gs:List Gp) (ms:List (Str × (Int × Int))):Prop where
 b1:1<=b
 nm:ms.map (·.1)=N
 nd:N.Nodup
 l12:N.length<=12
 wt:∀ n∈N, ∃ k:Int,w n=(k:Rat)/\1<=k/\Mth.Sz 21 k
 ml:∀ m∈ms,vl m.2=M m.1/\FB 2200 33 m.2/\0<=M m.1
 gw:∀ g∈gs,(∀ n∈g.way,n∈N)/\g.way.Nodup/\0<=g.R/\g.R<=(Q:Rat)
 mq:∀ n∈N,M n<=(Q:Rat)
 sQ:Mth.Sz 2200 Q
def LOks (w:Str->Rat) (lvs:List (Str × (Int × Int))) (gs:List Gp) (lds:List LidD):Prop:=lds.length=gs.length/\∀ (i:Nat) g e,gs[i]?=some g->lds[i]?=some e->LidOk w g lvs e
structure RB (b:Int) (N:List Str) (w M:Str->Rat) (gs:List Gp) (k:Nat) (lvs:List (Str × (Int × Int))) (D:Int):Prop where
 D1:1<=D
 sD:Mth.Sz (230+25*k) D
 dl:∀ x∈lvs,Dv D (vl x.2/(b:Rat))
 dr:∀ g∈gs,Dv D (g.R/(b:Rat))
 dm:∀ n∈N,Dv D (M n/(b:Rat)*w n)
structure RSt (b:Int) (N:List Str) (w M:Str->Rat) (gs:List Gp) (lvs:List (Str × (Int × Int))) (lds:List LidD):Prop where
 inv:∃ L,RInv N w M gs lvs (vl L)
 ok:LOks w lvs gs lds
 bt:∃ D,RB b N w M gs lvs.length lvs D
 lo:∀ x∈lvs,Lo x.2
structure RMd (b:Int) (N:List Str) (w M:Str->Rat) (gs:List Gp) (L:Int × Int) (D:Int) (k:Nat) (lvs:List (Str × (Int × Int))) (lds:List LidD):Prop where
 inv:SInv N w gs lvs L
 ok:LOks w lvs gs lds
 bt:RB b N w M gs k lvs D
 k12:k<=12
 dL:Dv D (vl L/(b:Rat))
 fL:FB 3000 1000 L
section
variable {Q:Int} {N ns:List Str} {M:Str->Rat} {gs:List Gp} {ms:List (Str × (Int × Int))} {lds:List LidD} {L:Int × Int} {w:Str->Rat} {D:Int} {k:Nat}
theorem LOks.fwd (h:LOks w lvs gs lds) {g:Gp} (hg:g∈gs):∃ e∈lds,LidOk w g lvs e:=by
 obtain ⟨i,b⟩:=List.getElem?_of_mem hg;have c:=(List.getElem?_eq_some_iff.mp b).1;have a:i<lds.length:=by rw [h.1];exact c
 exact ⟨lds[i],List.getElem_mem a,h.2 i g _ b (List.getElem?_eq_getElem a)⟩
theorem LOks.bwd (h:LOks w lvs gs lds) {e:LidD} (he:e∈lds):∃ g∈gs,LidOk w g lvs e:=by
 obtain ⟨i,b⟩:=List.getElem?_of_mem he;have c:=(List.getElem?_eq_some_iff.mp b).1;have a:i<gs.length:=by rw [<- h.1];exact c
 exact ⟨gs[i],List.getElem_mem a,h.2 i _ e (List.getElem?_eq_getElem a) b⟩
theorem RC.wpos (hc:RC b Q N w M gs ms):∀ n∈N,0<w n:=fun n c=>by
 obtain ⟨k,a,d,_⟩:=hc.wt n c;rw [a];exact_mod_cast (show 0<k by ac_nf)
theorem RInv.s (h:RInv N w M gs lvs (vl L)):SInv N w gs lvs L:=⟨h.nd,h.sub,fun x b=>⟨(h.a x b).1,(h.a x b).2.1⟩,h.c0,h.cc⟩
theorem Jgy (hc:RC b Q N w M gs ms) (hi:SInv N w gs lvs L) (hb:RB b N w M gs k lvs D) (k12:k<=13) {g:Gp} (hg:g∈gs) {e:LidD} (he:LidOk w g lvs e):FB 2800 600 e.rest:=by
 have a:=hi.range hc.wpos (fun g hg=>(hc.gw g hg).1) hg;have c:=hc.gw g hg;have d:=(JhT (hb.dr g hg) (fun n h=>by obtain ⟨k,f,_⟩:=hc.wt n (c.1 n h);exact ⟨k,f⟩) hb.dl hi.nd).up hc.b1;rw [<- he.rest] at d a;exact d.fb (m:=2200) (n:=600) he.low.b1 he.low.g1 hb.D1 (hb.sD.mono ∅) a.1 (Rat.le_trans a.2 c.2.2.2) hc.sQ
theorem Jj8 {a:Str->Rat} {B:Int} (hB:0<=B):∀ {l:List Str} {n:Nat},(∀ q∈l,a q<=(B:Rat))->l.length<=n->sm a l<=((B*n:Int):Rat)
 | [],n,_,_=>by
  have : 0<=B*(n:Int):=Int.mul_nonneg hB ∅;simp only [sm];exact_mod_cast this
 | q::l,0,_,h=>by simp at h
 | q::l,n+1,h,hl=>by
  have h1:=h q (by simp);have h2:=Jj8 hB (l:=l) (n:=n) (fun r hr=>h r (by simp [hr])) (by simpa using hl);have e:((B*((n+1:Nat):Int):Int):Rat)=(B:Rat)+((B*(n:Int):Int):Rat):=by
   have : B*((n+1:Nat):Int)=B+B*(n:Int):=by push_cast;rw [Int.mul_add,Int.mul_one,Int.add_comm]
   rw [this];push_cast;rfl
  simp only [sm];rw [e];grind
theorem Ji2 (hc:RC b Q N w M gs ms) {g:Gp} (hg:g∈gs):g.way.length<=12:=Nat.le_trans (sub_len _ _ (hc.gw g hg).2.1 (hc.gw g hg).1) hc.l12
theorem Jgf (hc:RC b Q N w M gs ms) {g:Gp} (hg:g∈gs) {e:LidD} (he:LidOk w g lvs e):0<=e.load/\Mth.Sz 25 e.load:=by
 have d:=hc.gw g hg;have a:=sm_nn (JdZ (lvs:=lvs) hc.wpos d.1);obtain ⟨B,l⟩:∃ B:Int,B=2097152:=⟨_,rfl⟩;have B0:0<=B:=by ac_nf
 have c:sm (left lvs w) g.way<=((B*(12:Nat):Int):Rat):=Jj8 B0 (fun q f=>by
  obtain ⟨k,h,i,j⟩:=hc.wt q (d.1 q f);have : k<=B:=by unfold Mth.Sz at j;ac_nf
  have : (k:Rat)<=(B:Rat):=by exact_mod_cast this
  unfold left;split
  ·exact_mod_cast B0
  ·rw [h];exact this) (Ji2 hc hg)
 rw [<- he.load] at a c;have a:0<=e.load:=by exact_mod_cast a
 have c:e.load<=B*(12:Nat):=Rat.intCast_le_intCast.mp c;refine ⟨a,?_⟩;unfold Mth.Sz;ac_nf
theorem JcJ {s:(Int × Int) × List Str}:s∈stF ms lds S↔(∃ m∈ms,m.1∉S/\s=(m.2,[m.1]))\/∃ e∈lds,0<e.load/\s=(divF e.rest (e.load,1),(e.ws.map (·.1)).filter fun n=>decide (n∉S)):=by
 unfold stF;rw [mem_append,mem_map,mem_map];constructor
 ·rintro (⟨m,b,rfl⟩ | ⟨e,a,rfl⟩)
  ·have:=mem_filter.mp b;exact .inl ⟨m,this.1,by simpa using this.2,rfl⟩
  ·have:=mem_filter.mp a;exact .inr ⟨e,this.1,by simpa using this.2,rfl⟩
 ·rintro (⟨m,b,h,rfl⟩ | ⟨e,a,h,rfl⟩)
  ·exact .inl ⟨m,mem_filter.mpr ⟨b,by simpa using h⟩,rfl⟩
  ·exact .inr ⟨e,mem_filter.mpr ⟨a,by simpa using h⟩,rfl⟩
theorem RSt.len (hc:RC b Q N w M gs ms) (h:RSt b N w M gs lvs lds):lvs.length<=N.length:=by
 obtain ⟨L,a⟩:=h.inv;have:=sub_len _ _ a.nd a.sub;simpa using this
theorem RSt.all (hc:RC b Q N w M gs ms) (h:RSt b N w M gs lvs lds) (hl:N.length<=lvs.length):∀ n∈N,n∈lvs.map (·.1):=by
 obtain ⟨L,c⟩:=h.inv;intro n d;refine Classical.byContradiction fun z=>?_;have:=sub_len (n::lvs.map (·.1)) N (nodup_cons.mpr ⟨z,c.nd⟩) (fun q a=>by
  rcases mem_cons.mp a with e | a
  ·rw [e];exact d
  ·exact c.sub q a)
 simp at this;ac_nf
theorem RSt.lids (hc:RC b Q N w M gs ms) (h:RSt b N w M gs lvs lds):∀ e∈lds,FB 3000 1000 e.rest/\Mth.Sz 64 e.load/\e.ws.length<=12:=by
 intro e d;obtain ⟨L,j⟩:=h.inv;obtain ⟨D,i⟩:=h.bt;obtain ⟨g,c,a⟩:=h.ok.bwd d;have f:=Jgy hc j.s i (by have:=h.len hc;have:=hc.l12;ac_nf) c a;refine ⟨⟨f.s1.mono ⋯,f.s2.mono ⋯,f.b1,f.g1⟩,(Jgf hc c a).2.mono ⋯,?_⟩;have:=a.pm.length_eq;rw [length_map] at this;rw [this];exact Ji2 hc c
theorem RSt.some (hc:RC b Q N w M gs ms) (h:RSt b N w M gs lvs lds) (hl:lvs.length<N.length):stF ms lds (lvs.map (·.1))≠[]:=by
 intro z;have : ∀ n∈N,n∈lvs.map (·.1):=fun n a=>by
  rw [<- hc.nm] at a;obtain ⟨m,d,rfl⟩:=mem_map.mp a;refine Classical.byContradiction fun y=>?_;have : ((m.2,[m.1]):(Int × Int) × List Str)∈stF ms lds (lvs.map (·.1)):=JcJ.mpr (.inl ⟨m,d,y,rfl⟩);rw [z] at this;cases this
 have:=sub_len N (lvs.map (·.1)) hc.nd (fun q c=>this q c);simp at this;ac_nf
theorem RSt.stops (hc:RC b Q N w M gs ms) (h:RSt b N w M gs lvs lds):∀ s∈stF ms lds (lvs.map (·.1)),FB 3000 1000 s.1/\∀ n∈s.2,n∈N/\n∉lvs.map (·.1):=by
 intro s j;rcases JcJ.mp j with ⟨m,hm,hS,rfl⟩ | ⟨e,he,hl,rfl⟩
 ·have f:=(hc.ml m hm).2.1;refine ⟨⟨f.s1.mono ⋯,f.s2.mono ⋯,f.b1,f.g1⟩,fun n d=>?_⟩;rw [mem_singleton.mp d];exact ⟨hc.nm ▸ mem_map.mpr ⟨m,hm,rfl⟩,hS⟩
 ·obtain ⟨L,k⟩:=h.inv;obtain ⟨D,i⟩:=h.bt;obtain ⟨g,c,a⟩:=h.ok.bwd he;have f:=Jgy hc k.s i (by have:=h.len hc;have:=hc.l12;ac_nf) c a;have z:=Jgf hc c a;refine ⟨?_,fun n d=>?_⟩
  ·refine FB.low (Jcg f.b1 ∅) ?_ ?_
   ·show Mth.Sz 3000 (e.rest.1*1);rw [Int.mul_one];exact f.s1.mono ⋯
   ·exact (f.s2.mul z.2).mono ⋯
  ·have:=mem_filter.mp d;exact ⟨(hc.gw g c).1 n (a.pm.mem_iff.mp this.1),by simpa using this.2⟩
theorem RSt.first (hc:RC b Q N w M gs ms) (h:RSt b N w M gs lvs lds) (hlt:lvs.length<N.length) (hL:L∈(stF ms lds (lvs.map (·.1))).map (·.1)) (hmin:∀ s∈stF ms lds (lvs.map (·.1)),vl L<=vl s.1) (hnd:ns.Nodup) (hns:∀ n,n∈ns↔∃ s∈stF ms lds (lvs.map (·.1)),s.1=L/\n∈s.2) :
  ns≠[]/\(∀ n∈ns,n∈N/\n∉lvs.map (·.1))/\RInv N w M gs (lvs++ns.map fun n=>(n,L)) (vl L)/\∃ D,RMd b N w M gs L D (lvs.length+1) lvs lds:=by
 obtain ⟨L0,u⟩:=h.inv;obtain ⟨D,B⟩:=h.bt;have W:=h.stops hc;obtain ⟨s0,H,A⟩:=mem_map.mp hL;have U:FB 3000 1000 L:=A ▸ (W s0 H).1;have wp:=hc.wpos;have O:=fun (g:Gp) (c:g∈gs)=>(hc.gw g c).1;have T:∀ n∈N,n∉lvs.map (·.1)->vl L<=M n:=fun n f r=>by
  rw [<- hc.nm] at f;obtain ⟨m,i,rfl⟩:=mem_map.mp f;have:=hmin _ (JcJ.mpr (.inl ⟨m,i,r,rfl⟩));rw [<- (hc.ml m i).1];exact this
 have P:∀ e g,g∈gs->LidOk w g lvs e->0<e.load->vl (divF e.rest (e.load,1))*sm (left lvs w) g.way=g.R-sm (used lvs w) g.way:=fun e g c d j=>by
  rw [Jkh d.low.b1 (by show 1<=e.load;ac_nf) (Int.le_refl 1),Jf3, <- d.load, <- d.rest];exact Rat.div_mul_cancel (JaF ∅)
 have F:∀ g∈gs,0<sm (left lvs w) g.way->vl L*sm (left lvs w) g.way<=g.R-sm (used lvs w) g.way:=fun g c l=>by
  obtain ⟨e,C,d⟩:=h.ok.fwd c;have j:0<e.load:=by rw [<- d.load] at l;exact_mod_cast l
  have:=hmin _ (JcJ.mpr (.inr ⟨e,C,j,rfl⟩));rw [<- P e g c d j];exact Rat.mul_le_mul_of_nonneg_right this (Rat.le_of_lt l)
 have key:∀ n,n∈ns↔n∈N/\n∉lvs.map (·.1)/\(M n=vl L\/∃ g∈gs,n∈g.way/\0<sm (left lvs w) g.way/\vl L*sm (left lvs w) g.way=g.R-sm (used lvs w) g.way):=fun n=>by
  rw [hns n];constructor
  ·rintro ⟨s,G,Y,X⟩;have J:=(W s G).2 n X;refine ⟨J.1,J.2,?_⟩;rcases JcJ.mp G with ⟨m,i,r,rfl⟩ | ⟨e,C,j,rfl⟩
   ·left
    rw [mem_singleton.mp X, <- Y];exact (hc.ml m i).1.symm
   ·right
    obtain ⟨g,c,d⟩:=h.ok.bwd C;refine ⟨g,c,d.pm.mem_iff.mp (mem_filter.mp X).1,?_,?_⟩
    ·rw [<- d.load];exact_mod_cast j
    ·rw [<- Y];exact P e g c d j
  ·rintro ⟨f,r,e | ⟨g,c,hw,l,e⟩⟩
   ·rw [<- hc.nm] at f;obtain ⟨m,i,rfl⟩:=mem_map.mp f;exact ⟨_,JcJ.mpr (.inl ⟨m,i,r,rfl⟩),(hc.ml m i).2.1.lo.inj U.lo ((hc.ml m i).1.trans e),by simp⟩
   ·obtain ⟨o,C,d⟩:=h.ok.fwd c;have j:0<o.load:=by rw [<- d.load] at l;exact_mod_cast l
    have i:((divF o.rest (o.load,1),(o.ws.map (·.1)).filter fun n=>decide (n∉lvs.map (·.1))):(Int × Int) × List Str)∈stF ms lds (lvs.map (·.1)):=JcJ.mpr (.inr ⟨o,C,j,rfl⟩);refine ⟨_,i,(W _ i).1.lo.inj U.lo ?_,mem_filter.mpr ⟨d.pm.mem_iff.mpr hw,by simpa using r⟩⟩;have:=P o g c d j;rw [<- e] at this;have p':sm (left lvs w) g.way≠0:=fun z=>by rw [z] at l;exact absurd l ⋯
    show vl (divF o.rest (o.load,1))=vl L;grind
 have t:(∃ n∈N,n∉lvs.map (·.1)/\M n=vl L)\/∃ g∈gs,0<sm (left lvs w) g.way/\vl L*sm (left lvs w) g.way=g.R-sm (used lvs w) g.way/\∃ e:LidD,LidOk w g lvs e/\0<e.load/\L=divF e.rest (e.load,1):=by
  rcases JcJ.mp H with ⟨m,i,r,rfl⟩ | ⟨e,C,j,rfl⟩
  ·exact .inl ⟨m.1,hc.nm ▸ mem_map.mpr ⟨m,i,rfl⟩,r,by rw [<- A];exact (hc.ml m i).1.symm⟩
  ·obtain ⟨g,c,d⟩:=h.ok.bwd C;refine .inr ⟨g,c,?_,by rw [<- A];exact P e g c d j,e,d,j,A.symm⟩;rw [<- d.load];exact_mod_cast j
 have E:vl L0<=vl L:=u.le (t.imp id fun ζ=>by obtain ⟨g,c,V,S,_⟩:=ζ;exact ⟨g,c,V,S⟩);have ne:ns≠[]:=fun z=>by
  rcases t with ⟨n,f,r,e⟩ | ⟨g,c,l,e,_⟩
  ·have:=(key n).mpr ⟨f,r, .inl e⟩;rw [z] at this;cases this
  ·have : ∃ n∈g.way,n∉lvs.map (·.1):=Classical.byContradiction fun y=>by
    rw [JcX (a:=left lvs w) fun q hq=>if_pos (Classical.byContradiction fun v=>y ⟨q,hq,v⟩)] at l;exact absurd l ⋯
   obtain ⟨n,f,r⟩:=this;have:=(key n).mpr ⟨O g c n f,r, .inr ⟨g,c,f,l,e⟩⟩;rw [z] at this;cases this
 refine ⟨ne,fun n f=>⟨((key n).mp f).1,((key n).mp f).2.1⟩,u.round wp O hnd T F key E,?_⟩;have si:SInv N w gs lvs L:=by
  refine ⟨u.nd,u.sub,fun x K=>⟨(u.a x K).1,Rat.le_trans (u.a x K).2.1 E⟩,Rat.le_trans u.c0 E,fun g c=>?_⟩;by_cases p:0<sm (left lvs w) g.way
  ·exact F g c p
  ·have e0:sm (left lvs w) g.way=0:=by have:=sm_nn (JdZ (lvs:=lvs) wp (O g c));grind
   have:=u.cc g c;rw [e0] at this ⊢;grind
 obtain ⟨k,Z,ks,I⟩:∃ k:Int,1<=k/\Mth.Sz 25 k/\Dv D (vl L/(b:Rat)*(k:Rat)):=by
  rcases t with ⟨n,f,r,e⟩ | ⟨g,c,l,e,o,d,j,eL⟩
  ·obtain ⟨k,I,V,S⟩:=hc.wt n f;refine ⟨k,V,S.mono ⋯,?_⟩;have:=B.dm n f;rw [e,I] at this;exact this
  ·refine ⟨o.load,by ac_nf,(Jgf hc c d).2,?_⟩;have h3:=JhT (B.dr g c) (fun n f=>by obtain ⟨k,I,_⟩:=hc.wt n (O g c n f);exact ⟨k,I⟩) B.dl u.nd;rw [<- e, <- d.load] at h3;have : vl L/(b:Rat)*(o.load:Rat)=vl L*(o.load:Rat)/(b:Rat):=by grind
   rw [this];exact h3
 refine ⟨D*k,si,h.ok,⟨Jcg B.D1 Z,?_,fun x K=>(B.dl x K).more k,fun g c=>(B.dr g c).more k,fun n f=>(B.dm n f).more k⟩,by have:=hc.l12;ac_nf,I.over Z,U⟩;have:=B.sD.mul ks;rw [show 230+25*(lvs.length+1)=230+25*lvs.length+25 by ac_nf];exact this
theorem RMd.rest (hc:RC b Q N w M gs ms) (h:RMd b N w M gs L D k lvs lds):∀ e∈lds,FB 3000 1000 e.rest/\∀ x∈e.ws,Mth.Sz 64 x.2:=by
 intro e j;obtain ⟨g,d,a⟩:=h.ok.bwd j;have f:=Jgy hc h.inv h.bt (by have:=h.k12;ac_nf) d a;refine ⟨⟨f.s1.mono ⋯,f.s2.mono ⋯,f.b1,f.g1⟩,fun x i=>?_⟩;have c:x.1∈N:=(hc.gw g d).1 _ (a.pm.mem_iff.mp (mem_map.mpr ⟨x,i,rfl⟩));obtain ⟨k,l,_,m⟩:=hc.wt _ c;have:=(a.wt x i).1;rw [l] at this;have : k=x.2:=by exact_mod_cast this
 rw [<- this];exact m.mono ⋯
theorem RMd.step (hc:RC b Q N w M gs ms) (h:RMd b N w M gs L D k lvs lds) {n:Str} (hn:n∈N) (hS:n∉lvs.map (·.1)):RMd b N w M gs L D k (lvs++[(n,L)]) (lds.map fun e=>e.settle n L):=by
 refine ⟨h.inv.step (fun g d=>(hc.gw g d).2.1) hn hS,⟨by rw [length_map];exact h.ok.1,fun i g e d j=>?_⟩,⟨h.bt.D1,h.bt.sD,fun x c=>?_,h.bt.dr,h.bt.dm⟩,h.k12,h.dL,h.fL⟩
 ·rw [List.getElem?_map] at j;obtain ⟨l,f,rfl⟩:=Option.map_eq_some_iff.mp j;exact (h.ok.2 i g l d f).settle h.inv.nd hS h.fL.lo fun x c=>(h.inv.a x c).2
 ·rcases mem_append.mp c with c | c
  ·exact h.bt.dl x c
  ·rw [mem_singleton.mp c];exact h.dL
theorem RMd.next (hc:RC b Q N w M gs ms) (h:RMd b N w M gs L D k (lvs++ns.map fun n=>(n,L)) lds) (hi:RInv N w M gs (lvs++ns.map fun n=>(n,L)) (vl L)) (hlo:∀ x∈lvs,Lo x.2) (hk:k<=lvs.length+ns.length):RSt b N w M gs (lvs++ns.map fun n=>(n,L)) lds:=by
 refine ⟨⟨L,hi⟩,h.ok,⟨D,h.bt.D1,h.bt.sD.mono (by simp;ac_nf),h.bt.dl,h.bt.dr,h.bt.dm⟩,fun x a=>?_⟩;rcases mem_append.mp a with a | a
 ·exact hlo x a
 ·obtain ⟨n,_,rfl⟩:=mem_map.mp a;exact h.fL.lo
end
theorem All2.put {P P' : α->V->Prop}:∀ {as:List α} {xs:List V} {j:Nat} {a' : α} {x:V},All2 P as xs->xs[j]?=some x->P' a' x->(∀ (i:Nat) a y,i≠j->as[i]?=some a->xs[i]?=some y->P a y->P' a y)->All2 P' (as.set j a') xs
 | [],xs,j,a',x,h,hx,_,_=>by
  have h:xs=[]:=h;subst h;cases hx
 | a::as,xs,0,a',x,h,hx,p,m=>by
  obtain ⟨y,r,rfl,h1,h2⟩:=h;have hx:y=x:=by simpa using hx
  subst hx;refine ⟨y,r,rfl,p,?_⟩;have go:∀ {as:List α} {r:List V},All2 P as r->(∀ (i:Nat) a y,as[i]?=some a->r[i]?=some y->P a y->P' a y)->All2 P' as r:=by
   intro as;induction as with
   | nil=>intro r h _;exact h
   | cons b bs ih=>
    intro r h m;obtain ⟨z,t,rfl,h1,h2⟩:=h;exact ⟨z,t,rfl,m 0 b z rfl rfl h1,ih h2 fun i a y ha hy=>m (i+1) a y (by simpa using ha) (by simpa using hy)⟩
  exact go h2 fun i a y ha hy=>m (i+1) a y ∅ (by simpa using ha) (by simpa using hy)
 | a::as,xs,j+1,a',x,h,hx,p,m=>by
  obtain ⟨y,r,rfl,h1,h2⟩:=h;refine ⟨y,r,rfl,m 0 a y ∅ rfl rfl h1,All2.put h2 (by simpa using hx) p fun i a y ne ha hy=>m (i+1) a y ∅ (by simpa using ha) (by simpa using hy)⟩
theorem JkB {f : α->α} {ls:List α}:((ls.take j).map f++ls.drop j)[j]?=ls[j]?:=by
 by_cases c:j<=ls.length
 ·have e:((ls.take j).map f).length=j:=by rw [length_map,length_take];ac_nf
  rw [List.getElem?_append_right ∅,e,List.getElem?_drop];simp
 ·have e:((ls.take j).map f++ls.drop j).length<=j:=by simp;ac_nf
  rw [List.getElem?_eq_none e,List.getElem?_eq_none ∅]
theorem JgR {f : α->α}:∀ {ls:List α} {j:Nat} {e : α},ls[j]?=some e->((ls.take j).map f++ls.drop j).set j (f e)=(ls.take (j+1)).map f++ls.drop (j+1)
 | [],j,e,h=>by simp at h
 | a::ls,0,e,h=>by
  have h:a=e:=by simpa using h
  subst h;simp
 | a::ls,j+1,e,h=>by
  have:=JgR (f:=f) (ls:=ls) (j:=j) (e:=e) (by simpa using h);simp only [List.take_succ_cons,map_cons,List.drop_succ_cons,cons_append,List.set_cons_succ,this]
theorem Ji6 {ns:List α} {i:Nat} {n : α} (h:ns.Nodup) (hn:ns[i]?=some n):n∉ns.take i:=by
 intro z;rw [<- List.take_append_drop i ns,nodup_append] at h;refine h.2.2 n z n (List.mem_of_getElem? (i:=0) ?_) rfl;rw [List.getElem?_drop];exact hn
variable {n:Str} {L:Int × Int}
theorem JiE {e:LidD}:(e.settle n L).nm=e.nm:=by
 unfold LidD.settle;split <;> rfl
theorem Jhw {ls:List LidD}:(ls.map fun e=>e.settle n L).map (·.nm)=ls.map (·.nm):=by
 rw [map_map];exact List.map_congr_left fun e _=>JiE
structure ShD where
 nm:Str
 sl:Int × Int
 sp:Option Str
def wtF (ls:List PD) (n:Str):Rat:=((ls.find? fun p=>decide (p.nm=n)).map fun p=>(p.wt:Rat)).getD 0
def moF (ls:List PD) (n:Str):Rat:=((ls.find? fun p=>decide (p.nm=n)).map fun p=>vl p.mo/(p.wt:Rat)).getD 0
def gpF (es:List (GD × List Str)) (pl:Str->Int × Int):List Gp:=es.map fun e=>⟨vl (roomF pl e.1),e.2⟩
def gpB (b:Int) (es:List (GD × List Str)) (pl:Str->Int × Int):List Gp:=es.map fun e=>⟨vl (roomF pl e.1)*(b:Rat),e.2⟩
def stp (w f:Str->Rat) (pl:Str->Int × Int) (n:Str) (e:GD × List Str):Bool:=decide (n∈e.2)&&(decide (sm (fun q=>f q*w q) e.2=vl (roomF pl e.1))&&decide (∀ q∈e.2,f q<=f n))
structure ShRow (ls:List PD) (es:List (GD × List Str)) (pl:Str->Int × Int) (f:Str->Rat) (p:PD) (r:ShD):Prop where
 nm:r.nm=p.nm
 lo:Lo r.sl
 val:vl r.sl=f p.nm*(p.wt:Rat)
 sp:(r.sl=p.mo/\r.sp=none)\/(r.sl≠p.mo/\∃ e,es.find? (stp (wtF ls) f pl p.nm)=some e/\r.sp=some e.1.nm)
structure ShF (ls:List PD) (es:List (GD × List Str)) (pl:Str->Int × Int) (f:Str->Rat) (D:Int):Prop where
 sub:∀ e∈es,(∀ n∈e.2,n∈ls.map (·.nm))/\e.2.Nodup
 fair:Fair (ls.map (·.nm)) (wtF ls) (moF ls) (gpF es pl) f
 D1:1<=D
 sD:Mth.Sz 600 D
 dv:∀ n∈ls.map (·.nm),Dv D (f n)
structure ShR (ls:List PD) (es:List (GD × List Str)) (pl:Str->Int × Int) (rs:List ShD):Prop where
 len:rs.length=ls.length
 ex:∃ f D,ShF ls es pl f D/\∀ (i:Nat) p r,ls[i]?=some p->rs[i]?=some r->ShRow ls es pl f p r
theorem Jgd:∀ {ls:List PD} {p:PD},(ls.map (·.nm)).Nodup->p∈ls->ls.find? (fun q=>decide (q.nm=p.nm))=some p
 | [],_,_,h=>by cases h
 | a::ls,p,hn,h=>by
  rw [map_cons,nodup_cons] at hn;rw [List.find?_cons];rcases mem_cons.mp h with e | h
  ·subst e;simp
  ·have : a.nm≠p.nm:=fun z=>hn.1 (z ▸ mem_map.mpr ⟨p,h,rfl⟩);rw [decide_eq_false this];exact Jgd hn.2 h
section
variable {es:List (GD × List Str)} {f':Str->Rat} {rs rs':List ShD} {f:Str->Rat}
theorem Ji3 (hn:(ls.map (·.nm)).Nodup) (hp:p∈ls):wtF ls p.nm=(p.wt:Rat):=by
 unfold wtF;rw [Jgd hn hp];rfl
theorem JfL (hn:(ls.map (·.nm)).Nodup) (hp:p∈ls):moF ls p.nm=vl p.mo/(p.wt:Rat):=by
 unfold moF;rw [Jgd hn hp];rfl
theorem JhZ {g:Gp} (h:g∈gpF es pl):∃ e∈es,g=⟨vl (roomF pl e.1),e.2⟩:=by
 obtain ⟨e,a,rfl⟩:=mem_map.mp h;exact ⟨e,a,rfl⟩
end
theorem JjS:∀ (fs:List (Int × Int)) (k:Nat),(∀ a∈fs,1<=a.2/\Mth.Sz 16 a.2)->fs.length<=k->∃ D:Int,1<=D/\Mth.Sz (16*k+1) D/\∀ a∈fs,Dv D (vl a)
 | [],k,_,_=>⟨1,by decide,by unfold Mth.Sz;exact Nat.one_lt_two_pow ∅,fun a ha=>by cases ha⟩
 | a::fs,0,_,h=>by simp at h
 | a::fs,k+1,h,hl=>by
  obtain ⟨D,h1,h2,h3⟩:=JjS fs k (fun x hx=>h x (by simp [hx])) (by simpa using hl);obtain ⟨a1,a2⟩:=h a (by simp);refine ⟨D*a.2,Jcg h1 a1,?_,fun x hx=>?_⟩
  ·have:=h2.mul a2;rw [show 16*(k+1)+1=16*k+1+16 by ac_nf];exact this
  ·rcases mem_cons.mp hx with e | hx
   ·subst e;refine Dv.over a1 ?_;have : vl x*(x.2:Rat)=(x.1:Rat):=by
     unfold vl;exact Rat.div_mul_cancel (JaF a1)
    rw [this];exact Dv.int _
   ·exact (h3 x hx).more _
theorem JiY (h:1<=a.2) (h0:0<=a.1):vl a<=(a.1:Rat):=by
 unfold vl;have p:(0:Rat)<(a.2:Rat):=by exact_mod_cast (show 0<a.2 by ac_nf)
 have e:(a.1:Rat)/(a.2:Rat)*(a.2:Rat)=(a.1:Rat):=Rat.div_mul_cancel (JaF h);have q:(a.1:Rat)<=(a.1:Rat)*(a.2:Rat):=by
  have : a.1<=a.1*a.2:=by
   have:=Int.mul_le_mul_of_nonneg_left h h0;ac_nf
  exact_mod_cast this
 rw [<- scaled p,e];exact q
theorem vl_nn (h:1<=a.2):0<=vl a↔0<=a.1:=by
 unfold vl;have p:(0:Rat)<(a.2:Rat):=by exact_mod_cast (show 0<a.2 by ac_nf)
 have e:(a.1:Rat)/(a.2:Rat)*(a.2:Rat)=(a.1:Rat):=Rat.div_mul_cancel (JaF h);rw [<- scaled p,e,Rat.zero_mul];exact_mod_cast Iff.rfl
theorem JiJ:∀ (ws:List (Str × Int)) (w:Str->Rat),(∀ x∈ws,w x.1=(x.2:Rat))->(((ws.map (·.2)).sum:Int):Rat)=sm w (ws.map (·.1))
 | [],_,_=>rfl
 | x::ws,w,h=>by
  have ih:=JiJ ws w fun y hy=>h y (by simp [hy]);simp only [map_cons,List.sum_cons,sm,h x (by simp), <- ih];push_cast;rfl
variable {es:List (GD × List Str)} {lds:List LidD} {ms:List (Str × (Int × Int))} {q0:Int}
theorem LSt.way {e:GD × List Str} {l:LidD} (h:LSt b ls pl e l):(∀ n∈e.2,n∈ls.map (·.nm))/\e.2.Nodup:=by
 refine ⟨fun n a=>?_,h.pm.nodup_iff.mp h.nd⟩;obtain ⟨x,d,rfl⟩:=mem_map.mp (h.pm.mem_iff.mpr a);obtain ⟨p,c,e,_⟩:=h.wt x d;exact mem_map.mpr ⟨p,c,e⟩
theorem Jj6 (hl:lds.length=es.length) (hls:∀ (i:Nat) e l,es[i]?=some e->lds[i]?=some l->LSt b ls pl e l):∀ e∈es,(∀ n∈e.2,n∈ls.map (·.nm))/\e.2.Nodup:=fun e c=>by
 obtain ⟨i,a⟩:=List.getElem?_of_mem c;have d:=(List.getElem?_eq_some_iff.mp a).1;exact (hls i e _ a (List.getElem?_eq_getElem ∅)).way
theorem JjF (b1:1<=b) (sb:Mth.Sz 2000 b) (hc:SHC ls es pl) (hr:∀ e∈es,0<=vl (roomF pl e.1)) (hl:lds.length=es.length) (hls:∀ (i:Nat) e l,es[i]?=some e->lds[i]?=some l->LSt b ls pl e l) (hm:ms.length=ls.length) (hms:∀ (i:Nat) p m,ls[i]?=some p->ms[i]?=some m->MSt b p m):∃ q0,RC b q0 (ls.map (·.nm)) (wtF ls) (fun n=>moF ls n*(b:Rat)) (gpB b es pl) ms/\RSt b (ls.map (·.nm)) (wtF ls) (fun n=>moF ls n*(b:Rat)) (gpB b es pl) [] lds:=by
 have N:=Jj6 hl hls;have t:(0:Rat)<(b:Rat):=by exact_mod_cast (show 0<b by ac_nf)
 have Y:=JaF b1;have I:∀ m∈ms, ∃ p∈ls,MSt b p m:=fun m o=>by
  obtain ⟨i,K⟩:=List.getElem?_of_mem o;have X:=(List.getElem?_eq_some_iff.mp K).1;exact ⟨ls[i]'∅,List.getElem_mem _,hms i _ m (List.getElem?_eq_getElem ∅) K⟩
 obtain ⟨B,Q,R,E⟩:∃ B:Int,Mth.Sz 200 B/\0<=B/\∀ x,Mth.Sz 200 x->x<=B:=⟨2 ^ 200-1,by unfold Mth.Sz;decide,by decide,fun x k=>by unfold Mth.Sz at k;ac_nf⟩;have A:∀ g∈gpB b es pl, ∃ e∈es,g=⟨vl (roomF pl e.1)*(b:Rat),e.2⟩:=fun g A=>by
  obtain ⟨e,f,rfl⟩:=mem_map.mp A;exact ⟨e,f,rfl⟩
 have C:∀ p∈ls,1<=p.wt:=fun p d=>(hc.pok p d).w;have z:∀ p∈ls,0<=vl p.mo:=fun p d=>(vl_nn (hc.pb p d).2.b1).mpr (hc.pok p d).m0;have M0:∀ p∈ls,0<=moF ls p.nm/\moF ls p.nm<=vl p.mo:=fun p d=>by
  rw [JfL hc.nd d];have M:=C p d;have P:(0:Rat)<(p.wt:Rat):=by exact_mod_cast (show 0<p.wt by ac_nf)
  have e:vl p.mo/(p.wt:Rat)*(p.wt:Rat)=vl p.mo:=Rat.div_mul_cancel (JaF M);have J:=z p d;constructor
  ·rw [<- scaled P,e,Rat.zero_mul];exact J
  ·rw [<- scaled P,e];have : (1:Rat)<=(p.wt:Rat):=by exact_mod_cast M
   have:=Rat.mul_le_mul_of_nonneg_left this J;rw [Rat.mul_one] at this;exact this
 have top:∀ a:Int × Int,FB 200 16 a->0<=vl a->vl a<=(B:Rat):=fun a F W=>by
  refine Rat.le_trans (JiY F.b1 ((vl_nn F.b1).mp W)) ?_;exact_mod_cast E _ F.s1
 have v:((B*b:Int):Rat)=(B:Rat)*(b:Rat):=by push_cast;rfl
 have L:RC b (B*b) (ls.map (·.nm)) (wtF ls) (fun n=>moF ls n*(b:Rat)) (gpB b es pl) ms:=by
  refine ⟨b1,?_,hc.nd,by rw [length_map];exact hc.l12,fun n r=>?_,fun m o=>?_,fun g j=>?_,fun n r=>?_,(Q.mul sb)⟩
  ·refine List.ext_getElem? fun i=>?_;rw [List.getElem?_map,List.getElem?_map];by_cases c:i<ls.length
   ·rw [List.getElem?_eq_getElem c,List.getElem?_eq_getElem (by ac_nf:i<ms.length)];exact congrArg some (hms i _ _ (List.getElem?_eq_getElem c) (List.getElem?_eq_getElem ∅)).nm
   ·rw [List.getElem?_eq_none ∅,List.getElem?_eq_none ∅];rfl
  ·obtain ⟨p,d,rfl⟩:=mem_map.mp r;exact ⟨p.wt,Ji3 hc.nd d,C p d,hc.wt p d⟩
  ·obtain ⟨p,d,h⟩:=I m o;refine ⟨?_,h.fb,?_⟩
   ·rw [h.vl,h.nm,JfL hc.nd d];grind
   ·rw [h.nm];exact Rat.mul_nonneg (M0 p d).1 (Rat.le_of_lt t)
  ·obtain ⟨e,f,rfl⟩:=A g j;refine ⟨(N e f).1,(N e f).2,Rat.mul_nonneg (hr e f) (Rat.le_of_lt t),?_⟩;rw [v];exact Rat.mul_le_mul_of_nonneg_right (top _ (hc.rb e f) (hr e f)) (Rat.le_of_lt t)
  ·obtain ⟨p,d,rfl⟩:=mem_map.mp r;rw [v];exact Rat.mul_le_mul_of_nonneg_right (Rat.le_trans (M0 p d).2 (top _ ((hc.pb p d).2.mono ⋯ ⋯) (z p d))) (Rat.le_of_lt t)
 refine ⟨_,L,⟨(0,1),?_⟩,⟨by unfold gpB;rw [length_map];exact hl,fun i g l s G=>?_⟩,?_,fun x k=>by cases k⟩
 ·rw [Jc1];refine RInv.start (fun n r=>?_) (fun g j=>(L.gw g j).2.2.1);obtain ⟨p,d,rfl⟩:=mem_map.mp r;exact Rat.mul_nonneg (M0 p d).1 (Rat.le_of_lt t)
 ·unfold gpB at s;rw [List.getElem?_map] at s;obtain ⟨e,f,rfl⟩:=Option.map_eq_some_iff.mp s;have h:=hls i e l f G;have y:∀ x∈l.ws,wtF ls x.1=(x.2:Rat)/\1<=x.2:=fun x k=>by
   obtain ⟨p,d,S,U⟩:=h.wt x k;rw [<- S, <- U];exact ⟨Ji3 hc.nd d,C p d⟩
  have T:sm (used [] (wtF ls)) e.2=0:=JcX fun q _=>by
   unfold used;rw [Jcm (by simp),Rat.zero_mul]
  refine ⟨h.pm,h.nd,y,?_,?_,h.fb.lo,?_,(fun n _ H=>by cases H),fun ζ=>by obtain ⟨n,_,H⟩:=ζ;cases H⟩
  ·rw [h.rest];show _=_-sm (used [] (wtF ls)) e.2;rw [T];grind
  ·rw [h.load,JiJ l.ws (wtF ls) fun x k=>(y x k).1,JiH h.pm];exact JbM fun q _=>by unfold left;rw [if_neg (by simp)]
  ·rw [h.last];exact ⟨Int.le_refl 1,by unfold Mth.g;simp⟩
 ·obtain ⟨D,D1,V,O⟩:=JjS (ls.map (·.mo)++es.map fun e=>roomF pl e.1) 14 (fun a u=>by
   rcases mem_append.mp u with u | u
   ·obtain ⟨p,d,rfl⟩:=mem_map.mp u;exact ⟨(hc.pb p d).2.b1,(hc.pb p d).2.s2.mono ⋯⟩
   ·obtain ⟨e,f,rfl⟩:=mem_map.mp u;exact ⟨(hc.rb e f).b1,(hc.rb e f).s2⟩) (by rw [length_append,length_map,length_map];exact hc.l14)
  refine ⟨D,D1,V.mono (by simp),fun x k=>(by cases k),fun g j=>?_,fun n r=>?_⟩
  ·obtain ⟨e,f,rfl⟩:=A g j;show Dv D (vl (roomF pl e.1)*(b:Rat)/(b:Rat));rw [show vl (roomF pl e.1)*(b:Rat)/(b:Rat)=vl (roomF pl e.1) by grind];exact O _ (mem_append.mpr (.inr (mem_map.mpr ⟨e,f,rfl⟩)))
  ·obtain ⟨p,d,rfl⟩:=mem_map.mp r;rw [JfL hc.nd d,Ji3 hc.nd d];have Z:=JaF (C p d);rw [show vl p.mo/(p.wt:Rat)*(b:Rat)/(b:Rat)*(p.wt:Rat)=vl p.mo by grind];exact O _ (mem_append.mpr (.inl (mem_map.mpr ⟨p,d,rfl⟩)))
theorem JfF {γ:Type} {P : α->Bool} {R : β->Bool} {f : α->γ} {g : β->γ}:∀ {as:List α} {bs:List β},as.length=bs.length->(∀ (i:Nat) a b,as[i]?=some a->bs[i]?=some b->P a=R b/\f a=g b)->(as.find? P).map f=(bs.find? R).map g
 | [],[],_,_=>rfl
 | [],b::bs,h,_=>by simp at h
 | a::as,[],h,_=>by simp at h
 | a::as,b::bs,h,k=>by
  obtain ⟨h1,h2⟩:=k 0 a b rfl rfl;have ih:=JfF (as:=as) (bs:=bs) (by simpa using h) fun i x y hx hy=>k (i+1) x y (by simpa using hx) (by simpa using hy);rw [List.find?_cons,List.find?_cons,h1];cases R b with
  | true=>exact congrArg some h2
  | false=>exact ih
theorem JiG {lv w:Str->Rat} {c:Rat}:∀ (l:List Str),sm (fun n=>lv n/c*w n) l=sm (fun n=>lv n*w n) l/c
 | []=>by simp only [sm];grind
 | n::l=>by
  simp only [sm,JiG l];grind
abbrev RCs (b q0:Int) (ls:List PD) (es:List (GD × List Str)) (pl:Str->Int × Int) (ms:List (Str × (Int × Int))):Prop:=RC b q0 (ls.map (·.nm)) (wtF ls) (fun n=>moF ls n*(b:Rat)) (gpB b es pl) ms
abbrev RSs (b:Int) (ls:List PD) (es:List (GD × List Str)) (pl:Str->Int × Int) (lvs:List (Str × (Int × Int))) (lds:List LidD):Prop:=RSt b (ls.map (·.nm)) (wtF ls) (fun n=>moF ls n*(b:Rat)) (gpB b es pl) lvs lds
def lvf (b:Int) (lvs:List (Str × (Int × Int))) (n:Str):Rat:=lvv lvs n/(b:Rat)
theorem Jl9 (rc:RCs b q0 ls es pl ms) (rs:RSs b ls es pl lvs lds) (hl:(ls.map (·.nm)).length<=lvs.length) {n:Str} (hn:n∈ls.map (·.nm)):∃ x∈lvs,x.1=n/\lvv lvs n=vl x.2:=by
 obtain ⟨x,a,e⟩:=mem_map.mp (rs.all rc hl n hn);obtain ⟨L,c⟩:=rs.inv;have e:x.1=n:=e;exact ⟨x,a,e,e ▸ Jd3 c.nd a⟩
theorem sh_at (rs:RSs b ls es pl lvs lds) {x:Str × (Int × Int)} (hx:x∈lvs):lvv lvs x.1=vl x.2:=by
 obtain ⟨L,a⟩:=rs.inv;exact Jd3 a.nd hx
theorem sh_lv (rc:RCs b q0 ls es pl ms) (rs:RSs b ls es pl lvs lds) {x:Str × (Int × Int)} (hx:x∈lvs):FB 2800 600 x.2:=by
 obtain ⟨L,f⟩:=rs.inv;obtain ⟨D,c⟩:=rs.bt;have d:=f.a x hx;have g:=rc.mq x.1 (f.sub _ (mem_map.mpr ⟨x,hx,rfl⟩));have e:=rs.lo x hx;have i:=rs.len rc;have h:=rc.l12;exact ((c.dl x hx).up rc.b1).fb (m:=2200) (n:=600) e.b1 e.g1 c.D1 (c.sD.mono ∅) d.1 (Rat.le_trans d.2.2 g) rc.sQ
theorem JiF (hw:∀ e∈es,(∀ n∈e.2,n∈ls.map (·.nm))/\e.2.Nodup) (rc:RCs b q0 ls es pl ms) (rs:RSs b ls es pl lvs lds) (hl:(ls.map (·.nm)).length<=lvs.length):∃ D,ShF ls es pl (lvf b lvs) D:=by
 obtain ⟨L,o⟩:=rs.inv;obtain ⟨D,j⟩:=rs.bt;have F:=o.fair rc.wpos (fun g d=>(rc.gw g d).1) (rs.all rc hl);have f:(0:Rat)<(b:Rat):=by have:=rc.b1;exact_mod_cast (show 0<b by ac_nf)
 have m:=JaF rc.b1;have e:∀ n,lvf b lvs n*(b:Rat)=lvv lvs n:=fun n=>Rat.div_mul_cancel m;have t:=rs.len rc;have r:=rc.l12;have k:∀ l,sm (fun n=>lvf b lvs n*wtF ls n) l*(b:Rat)=sm (fun n=>lvv lvs n*wtF ls n) l:=fun l=>by
  unfold lvf;rw [JiG,Rat.div_mul_cancel m]
 refine ⟨D,hw,⟨fun n a=>?_,fun n a=>?_,fun g d=>?_,fun n a=>?_⟩,j.D1,j.sD.mono ∅,fun n a=>?_⟩
 ·rw [<- scaled f,e,Rat.zero_mul];exact F.lo n a
 ·rw [<- scaled f,e];exact F.hi n a
 ·obtain ⟨x,c,rfl⟩:=JhZ d;rw [<- scaled f,k];exact F.fit ⟨vl (roomF pl x.1)*(b:Rat),x.2⟩ (mem_map.mpr ⟨x,c,rfl⟩)
 ·rcases F.stop n a with h | ⟨g,d,h1,i,h3⟩
  ·left
   have:=e n;rw [h] at this;grind
  ·right
   obtain ⟨x,c,rfl⟩:=mem_map.mp d;refine ⟨⟨vl (roomF pl x.1),x.2⟩,mem_map.mpr ⟨x,c,rfl⟩,h1,?_,fun q s=>?_⟩
   ·have i:sm (fun n=>lvv lvs n*wtF ls n) x.2=vl (roomF pl x.1)*(b:Rat):=i;rw [<- k] at i;show sm (fun n=>lvf b lvs n*wtF ls n) x.2=vl (roomF pl x.1);grind
   ·rw [<- scaled f,e,e];exact h3 q s
 ·obtain ⟨x,c,rfl,p⟩:=Jl9 rc rs hl a;unfold lvf;rw [p];exact j.dl x c
theorem JkK (rc:RCs b q0 ls es pl ms) (rs:RSs b ls es pl lvs lds) (hl:(ls.map (·.nm)).length<=lvs.length) {i:Nat} {e:GD × List Str} {l:LidD} (he:es[i]?=some e) (hli:lds[i]?=some l) {x:Str × (Int × Int)} (hx:x∈lvs):((wtOf l.ws x.1).isSome&&(decide (l.rest=(0,1))&&decide (l.last=x.2)))=stp (wtF ls) (lvf b lvs) pl x.1 e:=by
 have a:=rs.ok.2 i ⟨vl (roomF pl e.1)*(b:Rat),e.2⟩ l (by unfold gpB;rw [List.getElem?_map,he];rfl) hli;have r:(0:Rat)<(b:Rat):=by have:=rc.b1;exact_mod_cast (show 0<b by ac_nf)
 have s:=JaF rc.b1;have d:∀ n,lvf b lvs n*(b:Rat)=lvv lvs n:=fun n=>Rat.div_mul_cancel s;have w:∀ l,sm (fun n=>lvf b lvs n*wtF ls n) l*(b:Rat)=sm (fun n=>lvv lvs n*wtF ls n) l:=fun l=>by
  unfold lvf;rw [JiG,Rat.div_mul_cancel s]
 have all:=rs.all rc hl;have j:=(rc.gw ⟨vl (roomF pl e.1)*(b:Rat),e.2⟩ (by unfold gpB;exact mem_map.mpr ⟨e,List.mem_of_getElem? he,rfl⟩)).1;have f:=rs.lo x hx;have o:=sh_at rs hx;unfold stp;have v:(wtOf l.ws x.1).isSome=decide (x.1∈e.2):=by
  by_cases c:x.1∈e.2
  ·rw [decide_eq_true c];cases h:wtOf l.ws x.1 with
   | none=>exact absurd (a.pm.mem_iff.mpr c) (JgF.mp h)
   | some k=>rfl
  ·rw [decide_eq_false c,JgF.mpr fun z=>c (a.pm.mem_iff.mp z)];rfl
 have u:decide (l.rest=(0,1))=decide (sm (fun q=>lvf b lvs q*wtF ls q) e.2=vl (roomF pl e.1)):=by
  refine decide_eq_decide.mpr ?_;have p:l.rest=(0,1)↔vl l.rest=0:=by
   rw [<- Jc1];exact ⟨fun h=>by rw [h],fun h=>a.low.inj ⟨Int.le_refl 1,by unfold Mth.g;simp⟩ h⟩
  have m:vl l.rest=vl (roomF pl e.1)*(b:Rat)-sm (fun n=>lvv lvs n*wtF ls n) e.2:=a.rest;rw [p,m, <- w];constructor <;> intro h <;> grind
 rw [v,u];by_cases c:x.1∈e.2
 ·have B:decide (l.last=x.2)=decide (∀ q∈e.2,lvf b lvs q<=lvf b lvs x.1):=by
   refine decide_eq_decide.mpr ?_;have p:l.last=x.2↔vl l.last=lvv lvs x.1:=by
    rw [o];exact ⟨fun h=>by rw [h],fun h=>a.llow.inj f h⟩
   rw [p];constructor
   ·intro h q t;rw [<- scaled r,d,d, <- h];exact a.l1 q t (all q (j q t))
   ·intro h;obtain ⟨n,y,_,A⟩:=a.l2 ⟨x.1,c,all _ (j _ c)⟩;have m:=h n y;rw [<- scaled r,d,d,A] at m;have C:=a.l1 x.1 c (all _ (j _ c));grind
  rw [B]
 ·rw [decide_eq_false c];rfl
theorem Jlh (hw:∀ e∈es,(∀ n∈e.2,n∈ls.map (·.nm))/\e.2.Nodup) (rc:RCs b q0 ls es pl ms) (rs:RSs b ls es pl lvs lds) (hl:(ls.map (·.nm)).length<=lvs.length) (hn:lds.map (·.nm)=es.map (·.1.nm)) {x:Str × (Int × Int)} (hx:x∈lvs) (hne:vl x.2≠moF ls x.1*(b:Rat)):∃ l e,lds.find? (fun l=>(wtOf l.ws x.1).isSome&&(decide (l.rest=(0,1))&&decide (l.last=x.2)))=some l/\es.find? (stp (wtF ls) (lvf b lvs) pl x.1)=some e/\l.nm=e.1.nm:=by
 have j:lds.length=es.length:=by simpa using congrArg List.length hn
 have m:=JfF (P:=fun l:LidD=>(wtOf l.ws x.1).isSome&&(decide (l.rest=(0,1))&&decide (l.last=x.2))) (R:=stp (wtF ls) (lvf b lvs) pl x.1) (f:=fun l:LidD=>l.nm) (g:=fun e:GD × List Str=>e.1.nm) j fun i l e a c=>⟨JkK rc rs hl c a hx,by
  have:=congrArg (·[i]?) hn;simp only [List.getElem?_map,a,c] at this;exact Option.some.inj this⟩
 obtain ⟨D,F⟩:=JiF hw rc rs hl;obtain ⟨L,p⟩:=rs.inv;have k:=p.sub _ (mem_map.mpr ⟨x,hx,rfl⟩);have o:=JaF rc.b1;have q:∃ e∈es,stp (wtF ls) (lvf b lvs) pl x.1 e=true:=by
  rcases F.fair.stop x.1 k with h | ⟨g,hg,a,c,h3⟩
  ·refine absurd ?_ hne;rw [<- h, <- sh_at rs hx];exact (Rat.div_mul_cancel o).symm
  ·obtain ⟨e,d,rfl⟩:=JhZ hg;refine ⟨e,d,?_⟩;unfold stp;rw [decide_eq_true a,decide_eq_true c,decide_eq_true h3];rfl
 cases hf:es.find? (stp (wtF ls) (lvf b lvs) pl x.1) with
 | none=>
  obtain ⟨e,d,h⟩:=q;have:=List.find?_eq_none.mp hf e d;exact absurd h this
 | some e=>
  rw [hf] at m;obtain ⟨l,a,c⟩:=Option.map_eq_some_iff.mp m;exact ⟨l,e,a,rfl,c⟩
theorem Jlj (hc:SHC ls es pl) (rc:RCs b q0 ls es pl ms) (rs:RSs b ls es pl lvs lds) {p:PD} (hp:p∈ls) {x:Str × (Int × Int)} (hx:x∈lvs) (e1:x.1=p.nm) (he:vl x.2=moF ls x.1*(b:Rat)):ShRow ls es pl (lvf b lvs) p ⟨p.nm,p.mo,none⟩:=by
 have a:=JaF rc.b1;have c:=JaF (hc.pok p hp).w;refine ⟨rfl,(hc.pb p hp).2.lo,?_, .inl ⟨rfl,rfl⟩⟩;show vl p.mo=_;unfold lvf;rw [<- e1,sh_at rs hx,he,e1,JfL hc.nd hp];grind
theorem Jli (hc:SHC ls es pl) (rc:RCs b q0 ls es pl ms) (rs:RSs b ls es pl lvs lds) {p:PD} (hp:p∈ls) {x:Str × (Int × Int)} (hx:x∈lvs) (e1:x.1=p.nm) (hne:vl x.2≠moF ls x.1*(b:Rat)) {t:Int × Int} (ht:LoInv (mulF x.2 (p.wt,1)) b t) {e:GD × List Str} (hf:es.find? (stp (wtF ls) (lvf b lvs) pl x.1)=some e):ShRow ls es pl (lvf b lvs) p ⟨p.nm,t,some e.1.nm⟩:=by
 have i:=JaF rc.b1;have j:=JaF (hc.pok p hp).w;have g:=rs.lo x hx;have h:=Je2 (a:=x.2) (c:=(p.wt,1)) g.b1 (Int.le_refl 1);have d:=ht.vl h.b1 rc.b1;rw [Jkj g.b1 (Int.le_refl 1),Jf3] at d;have f:vl t=lvf b lvs p.nm*(p.wt:Rat):=by
  unfold lvf;rw [<- e1,sh_at rs hx,d];grind
 refine ⟨rfl,ht.lo,f, .inr ⟨fun z=>hne ?_,e,by rw [<- e1];exact hf,rfl⟩⟩;have z:t=p.mo:=z;rw [z] at d;rw [e1,JfL hc.nd hp,d];grind
section
variable {a b c d B:TS} {D:Ends}
end
structure Nxt (R:St->Hp->Prop) (b:TS) (D:Ends):Prop where
 go:∀ {σ : St} {H:Hp},b D σ H->R σ H
theorem Jfo {a b:TS} {D:Ends} (h:∀ R,Nxt R b D->a { D with nx:=R } σ H):tSeq a b D σ H:=h _ ⟨fun z=>z⟩
variable {a b:Str}
theorem JhA {w1 w2:List Pr} (h:JaR ls a (w1++pr::w2) b):∃ f g,JaR ls a w1 f/\(g,pr)∈JaB ls f/\JaR ls g w2 b:=by
 generalize e:w1++pr::w2=w at h;induction h generalizing w2 with
 | nil=>simp at e
 | @snoc w f g' pr' hw hm ih=>
  rcases List.eq_nil_or_concat w2 with rfl | ⟨u,x,rfl⟩
  ·obtain ⟨c,d⟩:=List.append_inj' e rfl;cases d;exact ⟨f,g',c ▸ hw,hm, .nil⟩
  ·rw [List.concat_eq_append] at e ⊢;have j:(w1++pr::u)++[x]=w++[pr']:=by rw [<- e];simp
   obtain ⟨c,d⟩:=List.append_inj' j rfl;cases d;obtain ⟨n,m,i,k,l⟩:=ih c;exact ⟨n,m,i,k, .snoc l hm⟩
theorem JdC {w:List Pr} (h:JaR ls a w b) (hn:n∉w.map (·.1)):Conn (ls.filter fun x=>decide (x.nm≠n)) a b:=by
 induction h with
 | nil=>exact .refl
 | snoc _ hm ih=>
  rw [map_append] at hn;refine (ih fun z=>hn (List.mem_append_left _ z)).trans ?_;obtain ⟨p,c,k⟩:=Ja0.mp hm;refine .lead (Ja0.mpr ⟨p,mem_filter.mpr ⟨c,?_⟩,k⟩);rw [decide_eq_true_iff];rintro rfl;refine hn (mem_append_right _ ?_);rcases k with k | k
  ·rw [k.2.2];simp
  ·rw [k.2.2.2];simp
theorem JiR (ht:Tree ls) (hne:∀ p∈ls,p.st≠p.en) (nd:(ls.map (·.nm)).Nodup) {a b n:Str} {w w':List Pr} (h:JaR ls a w b) (hn:(w.map (·.1)).Nodup) (h':JaR ls a w' b) (hm:n∈w.map (·.1)):n∈w'.map (·.1):=by
 by_cases c:n∈w'.map (·.1)
 ·exact c
 exfalso;obtain ⟨⟨i,d⟩,j,rfl⟩:=mem_map.mp hm;obtain ⟨C,s,rfl⟩:=List.append_of_mem j;obtain ⟨f,g,t,r,A⟩:=JhA h;rw [map_append,map_cons,nodup_append] at hn;have v:i∉C.map (·.1):=fun z=>hn.2.2 _ z _ mem_cons_self rfl;have B:i∉s.map (·.1):=(nodup_cons.mp hn.2.1).1;obtain ⟨p,j,k⟩:=Ja0.mp r;have en:p.nm=i:=by
  rcases k with k | k
  ·exact ((Prod.mk.inj k.2.2).1).symm
  ·exact ((Prod.mk.inj k.2.2.2).1).symm
 have o:=JdC t v;have m:=JdC A B;have u:=JdC h' c;have e:∀ q∈ls.filter (fun x=>decide (x.nm≠i)),q.st≠q.en:=fun q y=>hne q (mem_filter.mp y).1;have l:Conn (ls.filter fun x=>decide (x.nm≠i)) f g:=((o.symm e).trans u).trans (m.symm e);refine ht p j ?_;rw [en];rcases k with k | k
 ·rw [k.1,k.2.1];exact l
 ·rw [k.2.1,k.2.2.1];exact l.symm e
theorem JjI (ht:Tree ls) (hne:∀ p∈ls,p.st≠p.en) (nd:(ls.map (·.nm)).Nodup) {a b:Str} {w w':List Pr} (h:JaR ls a w b) (hn:(w.map (·.1)).Nodup) (h':JaR ls a w' b) (hn':(w'.map (·.1)).Nodup):(w.map (·.1)).Perm (w'.map (·.1)) :=
 (List.perm_ext_iff_of_nodup hn hn').mpr fun _=>⟨JiR ht hne nd h hn h',JiR ht hne nd h' hn' h⟩
noncomputable def wayN (ls:List PD) (g:GD):List Str:=open Classical in if h:∃ w:List Pr,JaR ls g.st w g.en/\(w.map (·.1)).Nodup then h.choose.map (·.1) else []
theorem Ji1 (ht:Tree ls) (hne:∀ p∈ls,p.st≠p.en) (nd:(ls.map (·.nm)).Nodup) {g:GD} {w:List Pr} (h:JaR ls g.st w g.en) (hn:(w.map (·.1)).Nodup):(wayN ls g).Perm (w.map (·.1)):=by
 have a:∃ w:List Pr,JaR ls g.st w g.en/\(w.map (·.1)).Nodup:=⟨w,h,hn⟩;unfold wayN;rw [dif_pos a];exact JjI ht hne nd a.choose_spec.1 a.choose_spec.2 h hn
def Sk (ks ls:List PD):Prop:=∀ p∈ks, ∃ q∈ls,q.nm=p.nm/\q.st=p.st/\q.en=p.en
theorem JhJ (h:Sk ks ls) {a b:Str} (c:Conn ks a b):Conn ls a b:=by
 obtain ⟨w,c⟩:=c;refine ⟨w,?_⟩;induction c with
 | nil=>exact .nil
 | snoc _ hm ih=>
  obtain ⟨p,g,k⟩:=Ja0.mp hm;obtain ⟨q,f,d,i,e⟩:=h p g;exact .snoc ih (Ja0.mpr ⟨q,f,by rw [d,i,e];exact k⟩)
theorem Jln (h:Sk ks ls) (ht:Tree ls):Tree ks:=fun p k c=>by
 obtain ⟨q,i,f,n,g⟩:=h p k;refine ht q i ?_;rw [n,g];refine JhJ (fun x m=>?_) c;obtain ⟨b,a⟩:=mem_filter.mp m;obtain ⟨y,e,d,j,l⟩:=h x b;refine ⟨y,mem_filter.mpr ⟨e,?_⟩,d,j,l⟩;rw [decide_eq_true_iff] at a ⊢;rw [d,f];exact a
def spR (st:Nat) (ms:List (Int × Int)):List SpD:=ms.zipIdx.map fun x=>⟨nmK 102 st x.2,nmK 102 st 0,x.1⟩
variable {st:Nat} {ms:List (Int × Int)}
theorem JjG {m:Int × Int}:spR st (ms++[m])=spR st ms++[⟨nmK 102 st ms.length,nmK 102 st 0,m⟩]:=by
 unfold spR;rw [List.zipIdx_append,map_append];simp
theorem Jg3 {i:Nat} {m:Int × Int} (h:ms[i]?=some m):(⟨nmK 102 st i,nmK 102 st 0,m⟩:SpD)∈spR st ms:=by
 unfold spR;refine mem_map.mpr ⟨(m,i),?_,rfl⟩;rw [List.mem_iff_getElem?];exact ⟨i,by rw [List.getElem?_zipIdx,h];simp⟩
theorem Jlk:(spR st ms).length=ms.length:=by
 unfold spR;simp
structure Rw (st:Nat) (ls:List PD) (ms:List (Int × Int)):Prop where
 s2:st<=2
 G:Grn st ls (spR st ms)
 len:ms.length=ls.length+1
 wt:∀ p∈ls,Mth.Sz 21 p.wt
 zb:∀ p∈ls,FB 133 3 p.sz/\FB 100 6 p.mo
 mf:∀ i m,ms[i]?=some m->FB (134+4*i) (3*i+1) m
 fc:∀ i p,ls[i]?=some p->(p.st=nmK 102 st i/\p.en=nmK 102 st (i+1))\/(p.st=nmK 102 st (i+1)/\p.en=nmK 102 st i)
theorem Rw.start (h:st<=2):Rw st [] [(0,1)]:=⟨h,(Grn.nil (st:=st)).face,rfl,(fun p a=>by cases a),(fun p a=>by cases a),fun i m h=>by
 have : i=0:=by
  have:=(List.getElem?_eq_some_iff.mp h).1;simp at this;exact this
 subst this;cases h;exact Jc2.mono ⋯ ⋯,fun i p h=>by simp at h⟩
theorem Rw.step {m:Int × Int} (h:Rw st ls ms) (hm:ms[ls.length]?=some m) {p:PD} {d:Bool} (hnm:p.nm=nmK 112 st ls.length) (h1:p.st=if d then nmK 102 st ls.length else nmK 102 st (ls.length+1)) (h2:p.en=if d then nmK 102 st (ls.length+1) else nmK 102 st ls.length) (hz:FB 133 3 p.sz) (hmo:FB 100 6 p.mo) (hok:POk p) (hw:Mth.Sz 21 p.wt) :
  Rw st (ls++[p]) (ms++[addF m (sgn d p.sz)]):=by
 have b:(spR st ms).length=ls.length+1:=by rw [Jlk];exact h.len
 have f:=h.G.part (by have:=h.s2;ac_nf) (Jg3 hm) hnm (d:=d) (by rw [b];exact h1) (by rw [b];exact h2) (hz.mono ⋯ ⋯) hok;refine ⟨h.s2,?_,by simp [h.len],fun q a=>?_,fun q a=>?_,fun i x c=>?_,fun i x c=>?_⟩
 ·rw [JjG,h.len];rw [b] at f;exact f
 ·rcases mem_append.mp a with a | a
  ·exact h.wt q a
  ·rw [mem_singleton.mp a];exact hw
 ·rcases mem_append.mp a with a | a
  ·exact h.zb q a
  ·rw [mem_singleton.mp a];exact ⟨hz,hmo⟩
 ·rcases Ja1 c with c | ⟨q1,q2⟩
  ·exact h.mf i x c
  ·rw [q1,q2,h.len];have e:FB 133 3 (sgn d p.sz):=by
    cases d
    ·exact hz.neg
    ·exact hz
   exact (FB.add (n:=137+4*ls.length) (m:=3*ls.length+4) (h.mf _ _ hm) e ∅ ∅ ∅).mono ∅ ∅
 ·rcases Ja1 c with c | ⟨q1,q2⟩
  ·exact h.fc i x c
  ·rw [q1,q2,h1,h2];cases d
   ·exact .inr ⟨rfl,rfl⟩
   ·exact .inl ⟨rfl,rfl⟩
variable {a:Int × Int}
theorem Rw.at_ {i:Nat} (h:Rw st ls ms) (hi:ms[i]?=some a):spOf (spR st ms) (nmK 102 st i)=a:=h.G.pl_at (Jg3 hi)
theorem Rw.mb (h:Rw st ls ms) (l:ls.length<=8) {i:Nat} {a:Int × Int} (hi:ms[i]?=some a):FB 302 161 a:=by
 rw [<- h.at_ hi];exact h.G.plb l _
theorem Rw.gap {i:Nat} {b:Int × Int} (h:Rw st ls ms) (hi:ms[i]?=some a) (hj:ms[j]?=some b) {g:GD} (h1:g.st=nmK 102 st i) (h2:g.en=nmK 102 st j):Conn ls g.st g.en/\mid (spOf (spR st ms)) g=addF b (negF a):=by
 refine ⟨?_,?_⟩
 ·rw [h1,h2];exact h.G.joined (Jg3 hi) (Jg3 hj) rfl
 ·unfold mid;rw [h1,h2,h.at_ hi,h.at_ hj]
variable {u v:Int × Int}
theorem Jld {m:Int × Int} {g:GD} {D E F:Nat} (hm:FB A B m) (hu:FB C D u) (hv:FB E F v) (e:mid pl g=m) (e1:g.lo=addF m (negF u)) (e2:g.hi=addF m v):(roomF pl g=u\/roomF pl g=v)/\(0<=vl u->0<=vl v->0<=vl (roomF pl g))/\(vl u<0\/vl v<0->vl (roomF pl g)<0):=by
 have d:roomF pl g=if lessF v u then v else u:=by
  unfold roomF;rw [e,e1,e2,Jko hm hv,Jkp hm hu]
 have b:=JcK (a:=v) (c:=u) hv.b1 hu.b1;rw [d];by_cases c:lessF v u=true
 ·rw [if_pos c];have:=b.mp c;refine ⟨.inr rfl,fun _ h=>h,fun h=>h.elim (fun h=>?_) id⟩;grind
 ·rw [if_neg c];have : ¬ vl v<vl u:=fun z=>c (b.mpr z);refine ⟨.inl rfl,fun h _=>h,fun h=>h.elim id fun h=>?_⟩;grind
variable {n:Nat}
theorem pick9 (h:n<2):∃ om:Int,[V.int 9, .int 10000000000000000000000000000000000000000][n]?=some (.int om)/\1<=om/\om<=10000000000000000000000000000000000000000:=by
 match n,h with
 | 0,_ | 1,_=>exact ⟨_,rfl,by decide,by decide⟩
 | n+2,h=>ac_nf
structure ThO (ks:List PD) (gs:List GD) (pl:Str->Int × Int):Prop where
 l8:ks.length<=8
 g6:gs.length<=7
 l14:ks.length+gs.length<=14
 nd:(ks.map (·.nm)).Nodup
 gnd:(gs.map (·.nm)).Nodup
 pok:∀ p∈ks,POk p
 zb:∀ p∈ks,FB 133 3 p.sz/\FB 100 6 p.mo
 wt:∀ p∈ks,Mth.Sz 21 p.wt
 tr:Tree ks
 con:∀ g∈gs,Conn ks g.st g.en
 tok:∀ g∈gs,TOk g.td
 gb:∀ g∈gs,(1<=g.lo.2/\Mth.Sz 70 g.lo.2)/\1<=g.hi.2/\Mth.Sz 70 g.hi.2
 rb:∀ g∈gs,FB 200 16 (roomF pl g)
 plb:∀ f,FB 302 161 (pl f)
 pls:∀ p∈ks,vl (pl p.en)=vl (pl p.st)+vl p.sz
noncomputable def esN (ks:List PD) (gs:List GD):List (GD × List Str):=gs.map fun g=>(g,wayN ks g)
variable {gs:List GD}
theorem JhV:(esN ks gs).map (·.1)=gs:=by
 unfold esN;rw [map_map];exact List.map_id _
theorem JgQ:∀ {gs:List GD} {p q:GD},(gs.map (·.nm)).Nodup->p∈gs->q∈gs->p.nm=q.nm->p=q
 | [],_,_,_,hp,_,_=>by cases hp
 | a::gs,p,q,hn,hp,hq,e=>by
  rw [map_cons,nodup_cons] at hn;rcases mem_cons.mp hp with h1 | h1 <;> rcases mem_cons.mp hq with h2 | h2
  ·rw [h1,h2]
  ·subst h1;exact absurd (e ▸ mem_map.mpr ⟨q,h2,rfl⟩) hn.1
  ·subst h2;exact absurd (e ▸ mem_map.mpr ⟨p,h1,rfl⟩) hn.1
  ·exact JgQ hn.2 h1 h2 e
theorem ThO.shc (h:ThO ks gs pl):SHC ks (esN ks gs) pl:=by
 have b:∀ e∈esN ks gs,e.1∈gs/\e.2=wayN ks e.1:=fun e a=>by
  obtain ⟨g,i,rfl⟩:=mem_map.mp a;exact ⟨i,rfl⟩
 have o:=h.l8;have m:=h.g6;have f:=h.l14;have n:(esN ks gs).length=gs.length:=by unfold esN;rw [length_map]
 refine ⟨by ac_nf,by ac_nf,by ac_nf,h.nd,fun e a u d k=>?_,h.pok,fun p c=>⟨⟨(h.zb p c).1.b1,(h.zb p c).1.s2.mono ⋯⟩,(h.zb p c).2.mono ⋯ ⋯⟩,h.wt,fun e a=>h.tok _ (b e a).1,fun e a=>h.gb _ (b e a).1,fun e a=>h.rb _ (b e a).1,h.plb,h.pls,fun e a w l j=>?_⟩
 ·rw [JhV] at d;exact JgQ h.gnd d (b e a).1 k
 ·rw [(b e a).2];exact Ji1 h.tr (fun p c=>(h.pok p c).ne) h.nd l j
theorem ShR.nms {pf:Str->Int × Int} {rs:List ShD} (h:ShR ks es pf rs):rs.map (·.nm)=ks.map (·.nm):=by
 obtain ⟨a,f,D,F,R⟩:=h;refine List.ext_getElem? fun i=>?_;rw [List.getElem?_map,List.getElem?_map];by_cases c:i<ks.length
 ·rw [List.getElem?_eq_getElem c,List.getElem?_eq_getElem (by ac_nf:i<rs.length)];exact congrArg some (R i _ _ (List.getElem?_eq_getElem c) (List.getElem?_eq_getElem ∅)).nm
 ·rw [List.getElem?_eq_none ∅,List.getElem?_eq_none ∅];rfl
theorem fcK {i:Nat}:(⟨#[102+i]⟩:PySem.Str)=nmK 102 st i:=by
 unfold nmK;simp
variable {z1 z2:Str}
theorem nm_eq {i:Nat} (h1:z1.cps.toList=List.replicate st 120++[97+i]) (h2:z2.cps.toList=List.replicate (2-st) 120):z1++z2=nmK 112 st i:=by
 have : (z1++z2).cps=(nmK 112 st i).cps:=by
  apply Array.toList_inj.mp;rw [JdK,h1,h2];unfold nmK;simp
 cases a:z1++z2;cases b:nmK 112 st i;rw [a,b] at this
 congr
def GOq (st:Nat) (ms:List (Int × Int)) (g:GD) (u v:Int × Int):Prop:=∃ i j a b,i≠j/\ms[i]?=some a/\ms[j]?=some b/\g.st=nmK 102 st i/\g.en=nmK 102 st j/\FB 140 14 u/\FB 140 14 v/\g.lo=addF (addF b (negF a)) (negF u)/\g.hi=addF (addF b (negF a)) v/\0<=vl u+vl v
section
variable {g:GD}
theorem Rw.mm (hC:Rw st ls ms) (l7:ls.length<=7) {i j:Nat} {a b:Int × Int} (hi:ms[i]?=some a) (hj:ms[j]?=some b):FB 185 44 (addF b (negF a)):=by
 have d:=(List.getElem?_eq_some_iff.mp hi).1;have e:=(List.getElem?_eq_some_iff.mp hj).1;have c:=hC.len;exact FB.add (n:=184) (m:=44) ((hC.mf _ _ hj).mono (C:=162) (D:=22) ∅ ∅) ((hC.mf _ _ hi).mono (C:=162) (D:=22) ∅ ∅).neg ⋯ ⋯ ⋯
theorem GOq.room (hC:Rw st ls ms) (l7:ls.length<=7) (h:GOq st ms g u v):(roomF (spOf (spR st ms)) g=u\/roomF (spOf (spR st ms)) g=v)/\(0<=vl u->0<=vl v->0<=vl (roomF (spOf (spR st ms)) g))/\(vl u<0\/vl v<0->vl (roomF (spOf (spR st ms)) g)<0):=by
 obtain ⟨i,j,a,b,_,c,d,e,k,l,m,f,n,_⟩:=h;exact Jld (hC.mm l7 c d) l m (hC.gap c d e k).2 f n
theorem Jmd (hC:Rw st ls ms) (l7:ls.length<=7) (kl:ks.length<=7) (knd:(ks.map (·.nm)).Nodup) (pok:∀ p∈ks,POk p) (zb:∀ p∈ks,FB 133 3 p.sz/\FB 100 6 p.mo) (wt:∀ p∈ks,Mth.Sz 21 p.wt) (hk:∀ p∈ks, ∃ q∈ls,q.nm=p.nm/\q.st=p.st/\q.en=p.en/\q.sz=p.sz) (hk':Sk ls ks)
  (g6:gs.length<=7) (gnd:(gs.map (·.nm)).Nodup) (hg:∀ g∈gs,nameS g.nm=true/\∃ u v,GOq st ms g u v):ThO ks gs (spOf (spR st ms)):=by
 have J:Sk ks ls:=fun p E=>by
  obtain ⟨q,t,l,d,C,_⟩:=hk p E;exact ⟨q,t,l,d,C⟩
 have N:=hC.s2;have F:=hC.len;refine ⟨by ac_nf,g6,by ac_nf,knd,gnd,pok,zb,wt,Jln J hC.G.tr,fun g h=>?_,fun g h=>?_,fun g h=>?_,fun g h=>?_,fun f=>hC.G.plb ∅ f,fun p E=>?_⟩
 ·obtain ⟨_,u,v,i,j,a,b,_,r,o,A,y,_⟩:=hg g h;exact JhJ hk' (hC.gap r o A y).1
 ·obtain ⟨B,u,v,i,j,a,b,x,r,o,A,y,s,n,l,d,H⟩:=hg g h;have fm:=hC.mm l7 r o;have L:=(List.getElem?_eq_some_iff.mp r).1;have M:=(List.getElem?_eq_some_iff.mp o).1;have m:=FB.add' fm s.neg;have k:=FB.add' fm n;rw [<- l] at m;rw [<- d] at k;refine ⟨B,by show nameS g.st=true;rw [A];exact Jc8 ⋯ ∅ ∅,by show nameS g.en=true;rw [y];exact Jc8 ⋯ ∅ ∅,fun z=>?_,fun w D=>?_,fun w D=>?_,?_⟩
  ·have z:g.st=g.en:=z;rw [A,y] at z;exact x (Jdq z)
  ·cases D;exact m.ok ⋯ ⋯
  ·cases D;exact k.ok ⋯ ⋯
  ·have I:=JcK (a:=g.hi) (c:=g.lo) k.b1 m.b1;show lessD (bD (some g.hi)) (bD (some g.lo))=false;cases c:lessF g.hi g.lo with
   | false=>simpa [bD,frD,lessD,lessF] using c
   | true=>
    exfalso;have:=I.mp c;rw [l,d,fm.vadd s.neg,fm.vadd n,JcL] at this;grind
 ·obtain ⟨B,u,v,i,j,a,b,x,r,o,A,y,s,n,l,d,H⟩:=hg g h;have fm:=hC.mm l7 r o;have m:=FB.add' fm s.neg;have k:=FB.add' fm n;rw [<- l] at m;rw [<- d] at k;exact ⟨⟨m.b1,m.s2.mono ⋯⟩,k.b1,k.s2.mono ⋯⟩
 ·obtain ⟨B,u,v,t⟩:=hg g h;obtain ⟨_,_,_,_,_,_,_,_,_,s,n,_⟩:=id t;rcases (t.room hC l7).1 with e | e
  ·rw [e];exact s.mono ⋯ ⋯
  ·rw [e];exact n.mono ⋯ ⋯
 ·obtain ⟨q,t,l,d,C,K⟩:=hk p E;rw [<- d, <- C, <- K];exact hC.G.pls q t
end
def gnS (st k:Nat):Str:=⟨(List.replicate st 120++([110+k]++List.replicate (2-st) 120)).toArray⟩
theorem gn_eq {i:Nat} (h1:z1.cps.toList=List.replicate st 120++[110+i]) (h2:z2.cps.toList=List.replicate (2-st) 120):z1++z2=gnS st i:=by
 have : (z1++z2).cps=(gnS st i).cps:=by
  apply Array.toList_inj.mp;rw [JdK,h1,h2];unfold gnS;simp
 cases a:z1++z2;cases b:gnS st i;rw [a,b] at this
 congr
theorem JlF:∀ st,st<=2->∀ k,k<7->nameS (gnS st k)=true:=by decide
theorem JkA:∀ st,st<=2->∀ i,i<7->∀ j,j<7->gnS st i=gnS st j->i=j:=by decide
theorem iteOr {c1 c2:Prop} [Decidable c1] [Decidable c2] {X Y:Prop} (h:c1\/c2) (x:X):if c1 then X else if c2 then X else Y:=by
 by_cases a:c1
 ·rw [if_pos a];exact x
 ·rw [if_neg a,if_pos (h.resolve_left a)];exact x
structure GsT (s2 st:Nat) (ms:List (Int × Int)) (gs:List GD) (fs:List Bool):Prop where
 s:s2<=2
 nm:∀ (i:Nat) g,gs[i]?=some g->g.nm=gnS s2 i
 l7:gs.length<=7
 lf:fs.length=gs.length
 ok:∀ (i:Nat) g f,gs[i]?=some g->fs[i]?=some f->∃ u v,GOq st ms g u v/\(f=true->vl u<0\/vl v<0)/\(f=false->0<=vl u/\0<=vl v)
variable {s2:Nat}
theorem GsT.nd {fs:List Bool} (h:GsT s2 st ms gs fs):(gs.map (·.nm)).Nodup:=by
 have e:gs.map (·.nm)=(List.range gs.length).map (gnS s2):=by
  refine List.ext_getElem? fun i=>?_;rw [List.getElem?_map,List.getElem?_map];by_cases c:i<gs.length
  ·rw [List.getElem?_range c,List.getElem?_eq_getElem c];exact congrArg some (h.nm i _ (List.getElem?_eq_getElem c))
  ·rw [List.getElem?_eq_none ∅,List.getElem?_eq_none (by rw [List.length_range];ac_nf)];rfl
 have d:=h.l7;rw [e];unfold List.Nodup;rw [List.pairwise_map];exact List.Pairwise.imp_of_mem (R:=fun a b=>a≠b) (fun {a b} ha hb hab q=>hab (JkA s2 h.s a (by have:=List.mem_range.mp ha;ac_nf) b (by have:=List.mem_range.mp hb;ac_nf) q)) List.nodup_range
theorem GsT.gok {fs:List Bool} (h:GsT s2 st ms gs fs):∀ g∈gs,nameS g.nm=true/\∃ u v,GOq st ms g u v:=fun g b=>by
 obtain ⟨i,a⟩:=List.getElem?_of_mem b;have c:=(List.getElem?_eq_some_iff.mp a).1;have d:=h.l7;have e:=h.lf;obtain ⟨u,v,q,_⟩:=h.ok i g fs[i] a (List.getElem?_eq_getElem ∅);exact ⟨by rw [h.nm i g a];exact JlF s2 h.s i ∅,u,v,q⟩
section
variable {k:Nat} {g:TG}
theorem y39y:JeL k cs (iRng1 ta) g tt te σ H Q=ta σ H fun vs H1=>∃ j:Int,vs=[.int j]/\-(2 ^ 62)<=j/\j<2 ^ 62/\JbF (Itr 0 j.toNat) k cs g tt te σ Q H1:=rfl
theorem JbF.range {lo:Int} (Pv:Nat->List V->Hp->Prop) (h0:Pv 0 [] H1) (hl:∀ i ys H',i<=n->Pv i ys H'->ys.length<=sizeLine)
  (hs:∀ i ys H2,i<n->Pv i ys H2->g (.int (lo+i)) (List.replicate k none++Jax cs σ) H2 fun σ4 H4=>tt σ4 H4 fun b H5=>if b=true then te σ4 H5 fun y H6=>Pv (i+1) (ys++[y]) H6 else Pv (i+1) ys H5) (hd:∀ ys H2,Pv n ys H2->∀ p,H2 p=none->Q (.ref p) (upd H2 p (.lst ys))) :
  JbF (Itr lo n) k cs g tt te σ Q H1:=by
 refine ⟨fun i m ys H'=>Pv i ys H'/\i<=n/\m=n-i,⟨_,h0,Nat.zero_le _,rfl⟩,?_⟩;rintro i m ys H2 ⟨f,j,rfl⟩;refine ⟨hl i ys H2 j f,?_⟩;by_cases c:i<n
 ·refine .inr ⟨c,?_⟩;rintro v o ⟨rfl,rfl⟩;have w:∀ (d:List V) (H5:Hp),Pv (i+1) d H5=∃ m',m'<n-i/\Pv (i+1) d H5/\i+1<=n/\m'=n-(i+1):=fun d H5=>
   propext ⟨fun q=>⟨_,Nat.sub_lt_sub_left c (Nat.lt_succ_self i),q,c,rfl⟩,fun ζ=>by obtain ⟨_,_,q,_⟩:=ζ;exact q⟩
  have l:(fun (y:V) (H6:Hp)=>Pv (i+1) (ys++[y]) H6)=fun y H6=>∃ m',m'<n-i/\Pv (i+1) (ys++[y]) H6/\i+1<=n/\m'=n-(i+1):=by
   funext y H6
   exact w _ _
  have e:(fun (σ4:St) (H4:Hp)=>tt σ4 H4 fun b H5=>if b=true then te σ4 H5 fun y H6=>Pv (i+1) (ys++[y]) H6 else Pv (i+1) ys H5)=fun σ4 H4=>tt σ4 H4 fun b H5=>if b=true then te σ4 H5 fun y H6=>∃ m',m'<n-i/\Pv (i+1) (ys++[y]) H6/\i+1<=n/\m'=n-(i+1) else ∃ m',m'<n-i/\Pv (i+1) ys H5/\i+1<=n/\m'=n-(i+1):=by
   funext σ4 H4
   congr 1
   funext b H5
   by_cases a:b=true
   ·rw [if_pos a,if_pos a, <- l]
   ·rw [if_neg a,if_neg a];exact w ys H5
  have:=hs i ys _ c f;rw [e] at this;exact this
 ·have h:i=n:=by ac_nf
  subst h;exact .inl ⟨Nat.le_refl _,hd ys H2 f⟩
end
def rNotB:R2:=fun x y H Q=>∃ a b,x=.bl a/\y=.bl b/\Q (.bl (!decide (a=b))) H
theorem JkX:OpR X (compareOp .IsNot) rNotB:=fun c s σ H x y v u Q I e d q=>by
 obtain ⟨a,b,rfl,rfl,q⟩:=q;cases e;cases d;refine wpAny_isNot_plain (by cases a <;> cases b <;> rfl) ⟨.bl (!decide (a=b)),H,I,?_,q⟩;cases a <;> cases b <;> rfl
def badN (gs:List GD) (fs:List Bool):List Str:=((gs.zip fs).filter (·.2)).map (·.1.nm)
def lefN (gs:List GD) (fs:List Bool):List GD:=((gs.zip fs).filter fun x=>!x.2).map (·.1)
theorem Jez:∀ {gs:List GD} {fs:List Bool} {z:Str} {r:List Str},badN gs fs=z::r->∃ (i:Nat) (g:GD),gs[i]?=some g/\fs[i]?=some true/\g.nm=z/\∀ (j:Nat) f,j<i->fs[j]?=some f->f=false
 | [],fs,z,r,h=>by simp [badN] at h
 | g::gs,[],z,r,h=>by simp [badN] at h
 | g::gs,true::fs,z,r,h=>by
  have e:badN (g::gs) (true::fs)=g.nm::badN gs fs:=by simp [badN]
  rw [e] at h;exact ⟨0,g,rfl,rfl,(List.cons.inj h).1,fun j f hj=>absurd hj (Nat.not_lt_zero _)⟩
 | g::gs,false::fs,z,r,h=>by
  have e:badN (g::gs) (false::fs)=badN gs fs:=by simp [badN]
  rw [e] at h;obtain ⟨i,g',h1,h2,h3,h4⟩:=Jez h;refine ⟨i+1,g',h1,h2,h3,fun j f hj hf=>?_⟩;cases j with
  | zero=>exact (Option.some.inj hf).symm
  | succ j=>exact h4 j f ∅ hf
theorem JgH:∀ {gs:List GD} {fs:List Bool},fs.length=gs.length->badN gs fs=[]->∀ f∈fs,f=false
 | [],fs,hl,_,f,hf=>by
  have : fs=[]:=List.eq_nil_of_length_eq_zero (by simpa using hl);rw [this] at hf;cases hf
 | g::gs,[],hl,_,f,hf=>by cases hf
 | g::gs,true::fs,hl,h,f,hf=>by simp [badN] at h
 | g::gs,false::fs,hl,h,f,hf=>by
  have e:badN (g::gs) (false::fs)=badN gs fs:=by simp [badN]
  rw [e] at h;rcases mem_cons.mp hf with rfl | hf
  ·rfl
  ·exact JgH (by simpa using hl) h f hf
theorem JhC {fs:List Bool} {i:Nat} {g:GD} {f:Bool} (h1:gs[i]?=some g) (h2:fs[i]?=some f):badN (gs.take (i+1)) (fs.take (i+1))=badN (gs.take i) (fs.take i)++if f then [g.nm] else []:=by
 have a:=(List.getElem?_eq_some_iff.mp h1).1;have b:=(List.getElem?_eq_some_iff.mp h2).1;unfold badN;rw [take_succ,take_succ,h1,h2,Option.toList_some,Option.toList_some,List.zip_append (by rw [length_take,length_take];ac_nf),filter_append,map_append];cases f <;> simp
theorem Jh7 {fs:List Bool} {i:Nat} {g:GD} {f:Bool} (h1:gs[i]?=some g) (h2:fs[i]?=some f):lefN (gs.take (i+1)) (fs.take (i+1))=lefN (gs.take i) (fs.take i)++if f then [] else [g]:=by
 have a:=(List.getElem?_eq_some_iff.mp h1).1;have b:=(List.getElem?_eq_some_iff.mp h2).1;unfold lefN;rw [take_succ,take_succ,h1,h2,Option.toList_some,Option.toList_some,List.zip_append (by rw [length_take,length_take];ac_nf),filter_append,map_append];cases f <;> simp
theorem Jjg {fs:List Bool} {g:GD} (h:g∈lefN gs fs):∃ i:Nat,gs[i]?=some g/\fs[i]?=some false:=by
 obtain ⟨x,f,rfl⟩:=mem_map.mp h;obtain ⟨a,b⟩:=mem_filter.mp f;obtain ⟨i,e⟩:=List.getElem?_of_mem a;obtain ⟨d,c⟩:=List.getElem?_zip_eq_some.mp e;refine ⟨i,d,?_⟩;rw [c];simpa using b
theorem JdM:∀ {gs:List GD} {fs:List Bool},(lefN gs fs).Sublist gs
 | [],fs=>by simp [lefN]
 | g::gs,[]=>by simp [lefN]
 | g::gs,true::fs=>by
  have e:lefN (g::gs) (true::fs)=lefN gs fs:=by simp [lefN]
  rw [e];exact JdM.cons _
 | g::gs,false::fs=>by
  have e:lefN (g::gs) (false::fs)=g::lefN gs fs:=by simp [lefN]
  rw [e];exact JdM.cons_cons _
theorem Jg2 (hm:∀ p∈ks,0<=vl p.mo):ShP ks es (List.replicate ks.length (0,1)) pl↔∀ e∈es,0<=vl (roomF pl e.1):=by
 have z:∀ n,svl ks (List.replicate ks.length (0,1)) n=0:=fun n=>by
  unfold svl;cases e:(ks.zip (List.replicate ks.length ((0,1):Int × Int))).find? fun x=>decide (x.1.nm=n) with
  | none=>rfl
  | some x=>
   have:=(List.of_mem_zip (List.mem_of_find?_eq_some e)).2;have g:x.2=(0,1):=List.eq_of_mem_replicate this;show vl x.2=0;rw [g,Jc1]
 have d:∀ l:List Str,sm (svl ks (List.replicate ks.length (0,1))) l=0:=fun l=>by
  induction l with
  | nil=>rfl
  | cons a l ih=>
   show svl _ _ a+sm _ l=0;rw [z,ih,Rat.add_zero]
 unfold ShP;constructor
 ·intro h e b;have:=h.2 e b;rw [d] at this;exact this
 ·intro h;refine ⟨fun i p s f c=>?_,fun e b=>by rw [d];exact h e b⟩;have c:s=(0,1):=List.eq_of_mem_replicate (List.mem_of_getElem? c);rw [c,Jc1];exact ⟨Rat.le_refl,hm p (List.mem_of_getElem? f)⟩
theorem ThO.isc (h:ThO ks gs pl) (l7:ks.length<=7):ISC ks (esN ks gs) pl:=by
 have s:=h.shc;exact ⟨l7,s.l7,s.nd,s.gn,s.pok,fun p a=>⟨(h.zb p a).1.mono ⋯ ⋯,(h.zb p a).2⟩,s.tok,s.gb,s.rb,s.plb,s.pls,s.way⟩
theorem lowQ {x m n:Int} (A B:Nat) (hx:0<=x/\x<m) (hy:0<=y/\y<n) (hm:m<=2 ^ A:=by decide) (hn:n<2 ^ B:=by decide) (hb:B<=8000:=by decide):1<=1+y/\Mth.Sz 8000 (1+y)/\FB A B (Mth.top x (1+y),Mth.bot x (1+y))/\0<=Mth.top x (1+y):=by
 obtain ⟨c,f⟩:=hx;obtain ⟨e,g⟩:=hy;have a:1<=1+y:=by ac_nf
 have h:(0:Int)<2 ^ B:=Int.lt_of_le_of_lt e (Int.lt_trans g hn);have b:Mth.Sz B (1+y):=.lit ∅ ∅;have i:(0:Int)<2 ^ A:=Int.lt_of_le_of_lt c (Int.lt_of_lt_of_le f hm);have d:Mth.Sz A x:=.lit ∅ ∅;exact ⟨a,b.mono hb,FB.low a d b,Jmf c a⟩
end L2
open PySem L2
local macro_rules|`(tactic|rename_i $p:ident $h:ident $q:ident $H:ident $G:ident $S:ident $e:ident)=>`(tactic|(intro $p:ident $h:ident;generalize $q:ident:upd $H $p _=$G;have $S:ident:=newS $h $q;have $e:ident:=newE $q))
local macro_rules|`(tactic|bv_decide)=>`(tactic|exact ⟨rfl,rfl,rfl,by decide +kernel,rfl,by decide +kernel,by decide +kernel⟩)
local macro_rules|`(tactic|simpa! only [$xs,*])=>do let l<-(("y52y y53y y54y y76y y2by y71y y85y y86y y49y y2fy y7dy y99y y31y y3ey y77y y30y y8fy y23y y29y y7ey y79y y2ay y7fy y7by y5ey y9by y26y y8dy y75y y6ey y4ey y6dy y82y y34y y4cy y73y y4dy y74y y4by y72y y94y y68y y64y y96y y98y y95y y97y y25y y6cy y24y yby ydy yay ycy yey y15y y17y y14y y16y y18y y6y y8y y5y y7y y9y y1y y3y y0y y2y y4y y10y y12y yfy y11y y13y y1ay y1cy y19y y1by y1dy y1fy y21y y1ey y20y y22y y92y y9cy y83y y27y V.int.injEq V.str.injEq V.bl.injEq y5ay y5cy y2dy y2ey y6fy y63y y7ay y69y y6by y3fy y40y y41y y48y y4ay y43y y80y y44y y35y y37y y3cy y42y y46y y55y y57y y5fy y3ay y91y y8ey y38y y39y y92y ya0y ya1y y9dy y84y y6ay y2cy y8ay y50y y9fy".splitOn " ").map (`L2++·.toName)++("true_and if_true if_false Bool.not_true Bool.not_false Bool.false_eq_true List.set_cons_zero List.set_cons_succ List.getElem?_cons_zero List.getElem?_cons_succ Option.some.injEq exists_eq_left exists_eq_left' Int.reduceToNat Int.reducePow append_nil nil_append cons_append reduceCtorEq decide_false decide_true".splitOn " ").map (·.toName)).toArray.mapM fun s=>`(Lean.Parser.Tactic.simpLemma|$(Lean.mkIdent s):term);`(tactic|simp only [$(l.foldl (fun a x=>a.push ⟨x.raw⟩) xs.getElems),*])
local macro_rules|`(tactic|mstop)=>`(tactic|simpa! only [y88y])
local macro_rules|`(tactic|mstart)=>`(tactic|simpa! only [y88y,y4fy])
local macro_rules|`(tactic|cutsat)=>`(tactic|simpa! only [y88y,y89y])
local macro_rules|`(tactic|mvcgen)=>`(tactic|((try simpa! only [y4fy,y89y]);repeat ((first | (with_reducible refine Jfo fun _ _=>?_) | (with_reducible refine Nxt.go (by assumption) ?_));(try simpa! only [y4fy,y89y]))))
local macro_rules|`(tactic|mexact)=>`(tactic|((try simpa! only [y89y]);repeat ((first | (with_reducible refine Jfo fun _ _=>?_) | (with_reducible refine Nxt.go (by assumption) ?_));(try simpa! only [y89y]))))
local macro_rules|`(tactic|mleave)=>`(tactic|((try simpa! only [y4fy]);repeat ((first | (with_reducible refine Jfo fun _ _=>?_) | (with_reducible refine Nxt.go (by assumption) ?_));(try simpa! only [y4fy]))))
local macro_rules|`(tactic|cbv)=>`(tactic|((try simpa! only [true_and]);repeat ((first | (with_reducible refine Jfo fun _ _=>?_) | (with_reducible refine Nxt.go (by assumption) ?_));(try simpa! only [true_and]))))
local macro_rules|`(tactic|mspec)=>`(tactic|(try ((with_reducible refine Nxt.go (by assumption) ?_);cbv)))
local macro_rules|`(tactic|mframe)=>`(tactic|(mspec;cbv))
local macro_rules|`(tactic|mpure)=>`(tactic|repeat (refine And.intro (by first | exact Jbf ⋯ | exact Jbi ⋯ | exact Jbg ⋯ | exact JaZ ⋯ | exact Int.one_ne_zero | decide) ?_))
local macro_rules|`(tactic|simpa only [$xs,*])=>`(tactic|simpa! only [y88y, $xs,*])
namespace Prg
open PySem L2 Ch
variable {fd:FuncData} {dV:Value} {f:Addr}
def top (i:Nat):Stmt:=PySem.Challenge.pw_slackchain_k56_too_tight.main.body.getD i (.Pass ⟨0,0,0,0⟩)
structure Adr where
 SlackError:Addr
 NoNumber:Addr
 NoName:Addr
 Apart:Addr
 Impossible:Addr
 InRing:Addr
 NoFace:Addr
 NoGap:Addr
 NoPart:Addr
 NoRow:Addr
 NoTie:Addr
 Off:Addr
 Twice:Addr
 Tight:Addr
 Part:Addr
 Gap:Addr
 Joints:Addr
 Thing:Addr
 Scale:Addr
 Lid:Addr
 SMALL_LETTERS:Value
 LONGEST_NAME:Value
 ZERO:Addr
structure PartC (K:W.Frag) (C:Addr):Prop where
 cls:Cls K C
 n1:JaV K C "name"
 n2:JaV K C "start"
 n3:JaV K C "end"
 n4:JaV K C "size"
 n5:JaV K C "most"
 n6:JaV K C "weight"
def IsPart (Ad:Adr) (C:Addr):Prop:=C=Ad.Part
structure GapC (K:W.Frag) (C:Addr):Prop where
 cls:Cls K C
 n1:JaV K C "name"
 n2:JaV K C "one"
 n3:JaV K C "other"
 n4:JaV K C "low"
 n5:JaV K C "high"
def IsGap (Ad:Adr) (C:Addr):Prop:=C=Ad.Gap
structure Jkl (K:W.Frag) (C:Addr):Prop where
 cls:Cls K C
 n1:JaV K C "leads"
def Jc3 (Ad:Adr) (C:Addr):Prop:=C=Ad.Joints
structure Jlt (K:W.Frag) (C:Addr):Prop where
 cls:Cls K C
 n1:JaV K C "parts_by_name"
 n2:JaV K C "gaps_by_name"
 n3:JaV K C "ways"
def Ja2 (Ad:Adr) (C:Addr):Prop:=C=Ad.Thing
structure Jls (K:W.Frag) (C:Addr):Prop where
 cls:Cls K C
 n1:JaV K C "bottom"
 n2:JaV K C "factors"
def JcT (Ad:Adr) (C:Addr):Prop:=C=Ad.Scale
structure LidC (K:W.Frag) (C:Addr):Prop where
 cls:Cls K C
 n1:JaV K C "name"
 n2:JaV K C "rest"
 n3:JaV K C "weights"
 n4:JaV K C "load"
 n5:JaV K C "last_level"
def IsLid (Ad:Adr) (C:Addr):Prop:=C=Ad.Lid
variable {H:Hp} {a C:Addr} {xs:List V}
theorem SqT.put {K:W.Frag} {x dx:Addr} {fs fs':List (Str × V)} (hx:H x=some (.ins C dx fs)) (h:SqT K H a xs):SqT K (upd H x (.ins C dx fs')) a xs:=by
 rcases h with (h | ⟨o,h⟩) | h
 ·exact .inl (.inl (by rw [Jag (ne_of h hx (by intro z;cases z))];exact h))
 ·exact .inl (.inr ⟨o,by rw [Jag (ne_of h hx (by intro z;cases z))];exact h⟩)
 ·exact .inr h
def partF (n s e z m w:V):List (Str × V):=[("name",n),("start",s),("end",e),("size",z),("most",m),("weight",w)]
def gapF (n s e l g:V):List (Str × V):=[("name",n),("one",s),("other",e),("low",l),("high",g)]
structure Txt (K:W.Frag) (mg:Str->Option Value) (Ad:Adr):Prop where
 BdH:mg "abs"=none
 Bad:mg "isinstance"=none
 BbP:mg "len"=none
 Bd0:mg "int"=none
 BdV:mg "bool"=none
 Bdc:mg "tuple"=none
 Bd1:mg "str"=none
 Bb7:mg "range"=none
 BdN:mg "list"=none
 Bd2:mg "min"=none
 BdX:mg "sorted"=none
 Bd3:mg "all"=none
 n_sum:mg "sum"=none
 n_dict:mg "dict"=none
 BdW:mg "zip"=none
 n_ValueError:mg "ValueError"=none
 m_SlackError:mg "SlackError"=some (.ref Ad.SlackError)
 m_NoNumber:mg "NoNumber"=some (.ref Ad.NoNumber)
 Bdv:mg "NoName"=some (.ref Ad.NoName)
 BdO:mg "Apart"=some (.ref Ad.Apart)
 m_Impossible:mg "Impossible"=some (.ref Ad.Impossible)
 BdI:mg "InRing"=some (.ref Ad.InRing)
 m_NoFace:mg "NoFace"=some (.ref Ad.NoFace)
 BdP:mg "NoGap"=some (.ref Ad.NoGap)
 BdJ:mg "NoPart"=some (.ref Ad.NoPart)
 m_NoRow:mg "NoRow"=some (.ref Ad.NoRow)
 m_NoTie:mg "NoTie"=some (.ref Ad.NoTie)
 m_Off:mg "Off"=some (.ref Ad.Off)
 BdQ:mg "Twice"=some (.ref Ad.Twice)
 m_Tight:mg "Tight"=some (.ref Ad.Tight)
 Bd6:mg "Part"=some (.ref Ad.Part)
 Bd7:mg "Gap"=some (.ref Ad.Gap)
 BdY:mg "Joints"=some (.ref Ad.Joints)
 Bd4:mg "Thing"=some (.ref Ad.Thing)
 Bd5:mg "Scale"=some (.ref Ad.Scale)
 m_Lid:mg "Lid"=some (.ref Ad.Lid)
 Bb8:mg "SMALL_LETTERS"=some Ad.SMALL_LETTERS
 Bb9:RelV (.str "abcdefghijklmnopqrstuvwxyz") Ad.SMALL_LETTERS
 Bcz:mg "LONGEST_NAME"=some Ad.LONGEST_NAME
 BcA:RelV (.int 8) Ad.LONGEST_NAME
 Bca:mg "ZERO"=some (.ref Ad.ZERO)
 Bcb:RelV (.ref Ad.ZERO) (.ref Ad.ZERO)
 Bcc:∀ H:Hp,SqT K H Ad.ZERO [.int 0, .int 1]
 x_SlackError:W.excIn K Ad.SlackError [.type "ValueError", .type "Exception", .type "BaseException", .type "object"] "ValueError.__new__"=true
 x_NoNumber:W.excIn K Ad.NoNumber [.type "ValueError", .type "Exception", .type "BaseException", .type "object"] "ValueError.__new__"=true
 BbR:W.excIn K Ad.NoName [.type "ValueError", .type "Exception", .type "BaseException", .type "object"] "ValueError.__new__"=true
 BcB:∀ C,IsPart Ad C->PartC K C
 Bdy:∀ C,IsGap Ad C->GapC K C
 BbS:∀ C,Jc3 Ad C->Jkl K C
 Bba:∀ C,Ja2 Ad C->Jlt K C
 Bcd:∀ C,JcT Ad C->Jls K C
 c_Lid:∀ C,IsLid Ad C->LidC K C
 xa:ExcA K Ad.Tight "tight_gap"
 xl:ExcL K Ad.Tight "tight_gap"
 slk:SlkI K Ad.SlackError
 xc:JeM K Ad.Tight Ad.Tight
 eT:ExcC K Ad.Tight
 kT_SlackError:W.kitOne K (.ref Ad.Tight) (.ref Ad.SlackError)=some true
 kT_V:W.kitOne K (.ref Ad.Tight) (.type "ValueError")=some true
 kT_Apart:W.kitOne K (.ref Ad.Tight) (.ref Ad.Apart)=some false
 kT_Impossible:W.kitOne K (.ref Ad.Tight) (.ref Ad.Impossible)=some false
 kT_InRing:W.kitOne K (.ref Ad.Tight) (.ref Ad.InRing)=some false
 kT_NoFace:W.kitOne K (.ref Ad.Tight) (.ref Ad.NoFace)=some false
 kT_NoGap:W.kitOne K (.ref Ad.Tight) (.ref Ad.NoGap)=some false
 kT_NoName:W.kitOne K (.ref Ad.Tight) (.ref Ad.NoName)=some false
 kT_NoNumber:W.kitOne K (.ref Ad.Tight) (.ref Ad.NoNumber)=some false
 kT_NoPart:W.kitOne K (.ref Ad.Tight) (.ref Ad.NoPart)=some false
 kT_NoRow:W.kitOne K (.ref Ad.Tight) (.ref Ad.NoRow)=some false
 kT_NoTie:W.kitOne K (.ref Ad.Tight) (.ref Ad.NoTie)=some false
 kT_Off:W.kitOne K (.ref Ad.Tight) (.ref Ad.Off)=some false
 kT_Twice:W.kitOne K (.ref Ad.Tight) (.ref Ad.Twice)=some false
def PEV (K:W.Frag) (H:Hp) (e:PD ⊕ D) (x:V):Prop:=match e with
 | .inl p=>PDV K H p x/\POk p
 | .inr c=>Rep K H c x/\szD c/\partB c=false
def GEV (K:W.Frag) (H:Hp) (e:GD ⊕ D) (x:V):Prop:=match e with
 | .inl g=>TV K H g.td x/\TOk g.td
 | .inr c=>Rep K H c x/\szD c/\gapB c=false
def POV (K:W.Frag) (Ad:Adr) (H:Hp) (p:PD) (v:V):Prop:=∃ q dx vz vm,v=.ref q/\H q=some (.ins Ad.Part dx (partF (.str p.nm) (.str p.st) (.str p.en) vz vm (.int p.wt)))/\FrV K H vz p.sz.1 p.sz.2/\FrV K H vm p.mo.1 p.mo.2
def GOV (K:W.Frag) (Ad:Adr) (H:Hp) (g:GD) (v:V):Prop:=∃ q dx vl vg,v=.ref q/\H q=some (.ins Ad.Gap dx (gapF (.str g.nm) (.str g.st) (.str g.en) vl vg))/\FrV K H vl g.lo.1 g.lo.2/\FrV K H vg g.hi.1 g.hi.2
section
variable {Ad:Adr} {H':Hp} {v x:V} {K:W.Frag}
def isTI:HO->Bool
 | .ins _ _ _=>true
 | u=>isTF u
def SameI (H H':Hp):Prop:=∀ b u,isTI u=true->H b=some u->H' b=some u
theorem SameI.t (S:SameI H H'):SameT H H':=fun b u t h=>S b u (by cases u <;> first | exact t | (simp [isTF] at t)) h
theorem Same.i (S:Same H H'):SameI H H':=fun b u _ h=>S b u h
theorem PEV.same {e:PD ⊕ D} (S:Same H H') (h:PEV K H e x):PEV K H' e x:=by
 match e,h with
 | .inl t,h=>exact ⟨h.1.sameT S.t,h.2⟩
 | .inr c,h=>exact ⟨h.1.same S,h.2⟩
theorem GEV.same {e:GD ⊕ D} (S:Same H H') (h:GEV K H e x):GEV K H' e x:=by
 match e,h with
 | .inl t,h=>exact ⟨h.1.sameT S.t,h.2⟩
 | .inr c,h=>exact ⟨h.1.same S,h.2⟩
theorem POV.si {p:PD} (S:SameI H H'):POV K Ad H p v->POV K Ad H' p v:=by rintro ⟨q,g,c,f,a,b,e,d⟩;exact ⟨q,g,c,f,a,S _ _ rfl b,e.sameT S.t,d.sameT S.t⟩
theorem GOV.si {g:GD} (S:SameI H H'):GOV K Ad H g v->GOV K Ad H' g v:=by rintro ⟨q,h,c,f,a,b,e,d⟩;exact ⟨q,h,c,f,a,S _ _ rfl b,e.sameT S.t,d.sameT S.t⟩
end
def JK (Ad:Adr) (H0 H:Hp) (j d:Addr) (ls:List PD):Prop:=(∃ dx,H j=some (.ins Ad.Joints dx [("leads", .ref d)]))/\H0 d=none/\∃ kvs,H d=some (.dK kvs)/\kvs.length<=2*ls.length/\JD H0 H (JaB ls) kvs
variable {Ad:Adr} {H0 H':Hp} {d:Addr} {ls:List PD}
theorem JK.same {j:Addr} (S:Same H H'):JK Ad H0 H j d ls->JK Ad H0 H' j d ls:=fun ⟨⟨h,c⟩,e,a,g,f,b⟩=>⟨⟨h,S _ _ c⟩,e,a,S _ _ g,f,b.same S⟩
def TK (K:W.Frag) (Ad:Adr) (H:Hp) (x:Addr) (ls:List PD) (gs:List GD):Prop:=∃ dx d1 d2 d3 k1 k2 k3,H x=some (.ins Ad.Thing dx [("parts_by_name", .ref d1),("gaps_by_name", .ref d2),("ways", .ref d3)])/\H d1=some (.dK k1)/\BG (·.nm) (POV K Ad H) ls k1/\H d2=some (.dK k2)/\BG (·.nm) (GOV K Ad H) gs k2/\H d3=some (.dK k3)/\BG (·.nm) (WOV H ls) gs k3
variable {x:Addr}
theorem TK.same {K:W.Frag} {gs:List GD} (S:Same H H'):TK K Ad H x ls gs->TK K Ad H' x ls gs:=by rintro ⟨n,l,c,b,g,o,m,h,d,a,e,f,j,k⟩;exact ⟨n,l,c,b,g,o,m,S _ _ h,S _ _ d,a.mono fun _ _ z=>z.si (Same.i S),S _ _ e,f.mono fun _ _ z=>z.si (Same.i S),S _ _ j,k.mono fun _ _ z=>z.same S⟩
def SameJ (d:Addr) (H H':Hp):Prop:=∀ b u,b≠d->(∀ xs,u≠.lst xs)->H b=some u->H' b=some u
variable {n:Nat}
theorem Jgi {α:Type} {f : α->Str} {ls l0:List α} {p : α} (h:ls++[p]=l0.take n) (hn:(l0.map f).Nodup):f p∉ls.map f:=fun a=>by
 have:=((List.take_sublist n l0).map f).nodup hn;rw [<- h,map_append] at this;exact (nodup_append.mp this).2.2 _ a _ (by simp) rfl
theorem JiQ (ht:Tree ls) (hn:(ls.map (·.nm)).Nodup) (i:Nat) (p:PD) (hp:ls[i]?=some p):¬ Conn (ls.take i) p.st p.en:=fun z=>ht p (List.mem_of_getElem? hp) (z.sub fun x a=>mem_filter.mpr ⟨List.mem_of_mem_take a,by
 rw [decide_eq_true_iff];exact fun e=>Jgi (f:=(·.nm)) (p:=p) (n:=i+1) (by rw [take_succ,hp];rfl) hn (by rw [<- e];exact mem_map.mpr ⟨x,a,rfl⟩)⟩)
def SCK (Ad:Adr) (H:Hp) (x:Addr) (b:Int) (fs:List Int):Prop:=∃ dx fl,H x=some (.ins Ad.Scale dx [("bottom", .int b),("factors", .ref fl)])/\H fl=some (.lst (fs.map V.int))/\Scl b fs/\Mth.Sz 2000 b/\fs.length<=30
theorem SCK.same {b:Int} {fs:List Int} (S:Same H H'):SCK Ad H x b fs->SCK Ad H' x b fs:=by rintro ⟨f,e,a,c,d⟩;exact ⟨f,e,S _ _ a,S _ _ c,d⟩
def LDV (K:W.Frag) (Ad:Adr) (H:Hp) (e:LidD) (v:V):Prop:=∃ q dx vr vt wd,v=.ref q/\H q=some (.ins Ad.Lid dx [("name", .str e.nm),("rest",vr),("weights", .ref wd),("load", .int e.load),("last_level",vt)])/\FrV K H vr e.rest.1 e.rest.2/\FrV K H vt e.last.1 e.last.2/\H wd=some (.dK (wsK e.ws))
variable {e:LidD} {v:V}
theorem LDV.same {K:W.Frag} (S:Same H H'):LDV K Ad H e v->LDV K Ad H' e v:=by rintro ⟨q,j,d,f,i,b,c,h,g,a⟩;exact ⟨q,j,d,f,i,b,S _ _ c,h.same S,g.same S,S _ _ a⟩
theorem LDV.keep {K:W.Frag} {q dq:Addr} {fs:List (Str × V)} (S:∀ b u,b≠q->H b=some u->H' b=some u) (hq:H q=some (.ins C dq fs)) (hne:v≠.ref q):LDV K Ad H e v->LDV K Ad H' e v:=fun ⟨l,m,f,g,k,c,d,j,i,a⟩=>by
 have T:SameT H H':=fun b u t h=>S b u (fun z=>by rw [z,hq] at h;cases h;simp [isTF] at t) h;exact ⟨l,m,f,g,k,c,S _ _ (fun z=>hne (by rw [c,z])) d,j.sameT T,i.sameT T,S _ _ (fun z=>by rw [z,hq] at a;cases a) a⟩
theorem Same.cutN (S:Same H H') (hd:H d=none):Same H (cut d H'):=fun b u h=>by
 rw [JbH (fun z=>by rw [z,hd] at h;cases h)];exact S b u h
theorem SameT.cutO {o:HO} (h:H d=some o) (ho:isTF o=false):SameT H (cut d H):=fun b u t a=>by
 rw [JbH (fun z=>by rw [z,h] at a;cases a;rw [ho] at t;cases t)];exact a
theorem LDV.notin {K:W.Frag} {es:List LidD} {u:HO} (hX:All2 (LDV K Ad H) es xs) (h:H a=some u) (hu:∀ dx fs,u≠.ins Ad.Lid dx fs):V.ref a∉xs:=fun z=>by
 obtain ⟨i,d⟩:=List.getElem?_of_mem z;obtain ⟨e,_,q,dx,f,g,j,b,c,_⟩:=hX.at_ d;have b:a=q:=by injection b
 rw [b,c] at h;exact hu _ _ (Option.some.inj h).symm
theorem LDV.dict {K:W.Frag} {kv:List (Key × V)} (S:∀ b u,b≠d->H b=some u->H' b=some u) (hd:H d=some (.dK kv)) (hn:∀ wd,v=.ref wd->True) (h0:∀ q dx vr vt wd,H q=some (.ins Ad.Lid dx [("name", .str e.nm),("rest",vr),("weights", .ref wd),("load", .int e.load),("last_level",vt)])->v=.ref q->wd≠d):LDV K Ad H e v->LDV K Ad H' e v:=fun ⟨j,dx,vr,vt,wd,c,a,i,g,f⟩=>by
 have T:SameT H H':=fun b u t h=>S b u (fun z=>by rw [z,hd] at h;cases h;simp [isTF] at t) h;exact ⟨j,dx,vr,vt,wd,c,S _ _ (fun z=>by rw [z,hd] at a;cases a) a,i.sameT T,g.sameT T,S _ _ (h0 _ _ _ _ _ a c) f⟩
def ShV (K:W.Frag) (H:Hp) (r:ShD) (v:V):Prop:=∃ p vs t,v=.ref p/\SqT K H p [.str r.nm,vs, .ref t]/\FrV K H vs r.sl.1 r.sl.2/\SqT K H t (match r.sp with | none=>[.str (Str.ofString "most")] | some g=>[.str (Str.ofString "gap"), .str g])
variable {r:ShD}
theorem ShV.sameT {K:W.Frag} (S:SameT H H'):ShV K H r v->ShV K H' r v:=by rintro ⟨p,e,t,a,b,d,c⟩;exact ⟨p,e,t,a,b.sameT S,d.sameT S,c.sameT S⟩
def shD (r:ShD):D:=.tup [.str r.nm,frD r.sl, .tup (match r.sp with | none=>[.str (Str.ofString "most")] | some g=>[.str (Str.ofString "gap"), .str g])]
theorem ShV.rep {K:W.Frag} (h:ShV K H r v):Rep K H (shD r) v:=by
 obtain ⟨p,d,t,rfl,c,b,a⟩:=h;have b:=FrV.rep b;cases e:r.sp with
 | none=>
  rw [e] at a;unfold shD;rw [e];simp only [Rep,RepL];exact ⟨p,_,rfl,c,_,_,rfl,rfl,_,_,rfl,by simpa only [Rep,RepL,frD] using b,_,_,rfl,⟨t,_,rfl,a,_,_,rfl,rfl,rfl⟩,rfl⟩
 | some g=>
  rw [e] at a;unfold shD;rw [e];simp only [Rep,RepL];exact ⟨p,_,rfl,c,_,_,rfl,rfl,_,_,rfl,by simpa only [Rep,RepL,frD] using b,_,_,rfl,⟨t,_,rfl,a,_,_,rfl,rfl,_,_,rfl,rfl,rfl⟩,rfl⟩
section
variable {P:Program} {mg:Str->Option Value} {base:Heap} {w:World} {K:W.Frag}
seal PE PA PS PSs PT PW PG PGs PI PO
abbrev Bai:Stmt:=top 16
theorem JaQ:Jan ["one","other","greater","lesser","rest"] ["one","other"] (Jae Bai):=by bv_decide
def JaC  : Sp:=fun vs H Q E=>∃ (a b:Int),vs=[.int a, .int b]/\Q (.int (Mth.g a b)) H
theorem Jdv (F:FunD K "common_divisor" "common_divisor" Bai dV f fd) (T:Txt K mg Ad)  : FnOk P w K mg base (CX1 P w) 1 f fd ["one","other"] (JaC):=by
 refine F.okn JaQ (by subst_eqs) (fun p A d s H n Q E r h=>?_)
 obtain ⟨a,b,rfl,h⟩:=h;have j:=r.units;refine ⟨_,(Jab (Jak 2 JaQ.nd (Jay Jc5 rfl T.BdH JgI (Jaa (pv 0) Jac))) (Jab (Jak 3 JaQ.nd (Jay Jc5 rfl T.BdH JgI (Jaa (pv 1) Jac))) (Jab (JdO PassesOwn.never (Jaz (Jdb j) (pv 3) Jad (JaA _)) (Jab (Jak 4 JaQ.nd (pe_op JaJ (pv 2) (pv 3))) (Jab (Jak 2 JaQ.nd (pv 3)) (Jai (Jak 3 JaQ.nd (pv 4)))))) (Jai (Jaq (pv 2)))))),?_⟩
 clear j;show tSeq _ _ _ [some (.int a),some (.int b),none,none,none] H;try mstop
 refine ⟨fun m σ l=>∃ (x y:Int) (z:Option V),σ=[some (.int a),some (.int b),some (.int x),some (.int y),z]/\l=H/\0<=x/\0<=y/\Mth.g x y=Mth.g a b/\y.toNat=m,⟨_,_,_,none,rfl,rfl,Mth.JjO a,Mth.JjO b,Mth.BdZ a b,rfl⟩,?_⟩;rintro m σ l ⟨x,y,z,rfl,rfl,t,o,k,rfl⟩;try mstop
 by_cases c:y=0
 ·subst c;rw [if_neg (by simp)];have e:Mth.g a b=x:=by rw [<- k,Mth.Jj0];ac_nf
  rw [e] at h;exact h
 ·rw [if_pos (by simp [c])];have f:=Mth.fm (x:=x) (y:=y) ∅;exact ⟨_,fun _ _ q=>q,c,(x.fmod y).toNat,by ac_nf,y,x.fmod y,_,rfl,rfl,o,f.1,by rw [Mth.JhY ∅];exact k,rfl⟩
abbrev BcC:Stmt:=top 17
theorem Jfm:Jan ["one","other","shared","top","rest"] ["one","other"] (Jae BcC):=by bv_decide
def Jem (K:W.Frag):Sp:=fun vs H Q E=>∃ (x y:V) (a b c d:Int),vs=[x,y]/\FrV K H x a b/\FrV K H y c d/\Mth.Sz 4000 a/\Mth.Sz 4000 b/\Mth.Sz 4000 c/\Mth.Sz 4000 d/\1<=b/\1<=d/\Mth.g a b=1/\Mth.g c d=1/\∀ p H',Same H H'->H' p=some (.tup [.int (Mth.top (a*d+c*b) (b*d)), .int (Mth.bot (a*d+c*b) (b*d))])->Q (.ref p) H'
theorem JkS (F:FunD K "plus" "plus" BcC dV f fd) (T:Txt K mg Ad) (Bac:Cal P w K mg base 1 "common_divisor" ["one","other"] [] (JaC)):FnOk P w K mg base (CX1 P w) 2 f fd ["one","other"] (Jem K):=by
 refine F.okn Jfm (by subst_eqs) (fun O A n s H I Q E v h=>?_)
 obtain ⟨x,y,a,b,c,d,rfl,h⟩:=h;refine ⟨_,(Jab (Jak 2 Jfm.nd (Bac.ev v ⋯ rfl passF (Jaa (pe_ix ix_U (pv 0) Jad) (Jaa (pe_ix ix_U (pv 1) Jad) Jac)))) (Jab (Jak 3 Jfm.nd (pe_op JaI (pe_op JaM (pe_ix ix_U (pv 0) Jad) (pe_op Jav (pe_ix ix_U (pv 1) Jad) (pv 2))) (pe_op JaM (pe_ix ix_U (pv 1) Jad) (pe_op Jav (pe_ix ix_U (pv 0) Jad) (pv 2))))) (Jab (Jak 4 Jfm.nd (Bac.ev v ⋯ rfl passF (Jaa (pv 3) (Jaa (pv 2) Jac)))) (Jai (Jaq (JaD (Jaa (pe_op Jav (pv 3) (pv 4)) (Jaa (pe_op JaM (pe_op Jav (pe_ix ix_U (pv 0) Jad) (pv 2)) (pe_op Jav (pe_ix ix_U (pv 1) Jad) (pv 4))) Jac)))))))),?_⟩
 obtain ⟨e,j,B,N,G,m,R,D,C,W,k⟩:=h;show tSeq _ _ _ [some x,some y,none,none,none] H;try mstop
 refine ixF1 e (ixF1 j ?_);try mstop
 refine ⟨_,_,rfl,?_⟩;try mstop
 have Z:=Mth.g_pos (a:=b) (b:=d) ∅;have X:=Mth.JcE b d;have q:=Mth.JbI b d;have u:Mth.Sz 4000 (Mth.g b d):=Nat.lt_of_le_of_lt (by have:=Mth.g_le (a:=b) (b:=d) ∅;ac_nf:(Mth.g b d).natAbs<=d.natAbs) m;have o:DivOk (Mth.g b d):=divOk ∅ u;have r:=N.fdiv X ∅;have J:=m.fdiv q ∅;refine ixF0 e (ixF1 j ?_);try mstop
 refine ⟨o,mulOk B J,ixF0 j (ixF1 e ?_)⟩;try mstop
 refine ⟨o,mulOk G r,?_⟩;refine ⟨_,_,rfl,?_⟩;have l:=Mth.Jk7 R D C W (s:=Mth.g b d) rfl rfl rfl;generalize ht:a*d.fdiv (Mth.g b d)+c*b.fdiv (Mth.g b d)=t at l ⊢;have Y:=Mth.g_pos (a:=t) (b:=Mth.g b d) ∅;have L:=Mth.JbI t (Mth.g b d);have U:Mth.Sz 4000 (Mth.g t (Mth.g b d)):=Nat.lt_of_le_of_lt (by have:=Mth.g_le (a:=t) (b:=Mth.g b d) ∅;ac_nf:(Mth.g t (Mth.g b d)).natAbs<=(Mth.g b d).natAbs) u;have z:DivOk (Mth.g t (Mth.g b d)):=divOk ∅ U;try mstop
 refine ⟨z,ixF1 e ?_⟩;try mstop
 refine ⟨o,ixF1 j ?_⟩;try mstop
 refine ⟨z,mulOk r (m.fdiv (Int.dvd_trans L q) ∅),len2,?_⟩;refine Jd4 fun p M S V=>k p M S ?_;rw [V,l.1,l.2]
abbrev BbV:Stmt:=top 18
theorem JjD:Jan ["one","other"] ["one","other"] (Jae BbV):=by bv_decide
def Jdk (K:W.Frag):Sp:=fun vs H Q E=>∃ (x y:V) (a b c d:Int),vs=[x,y]/\FrV K H x a b/\FrV K H y c d/\Mth.Sz 4000 a/\Mth.Sz 4000 b/\Mth.Sz 4000 c/\Mth.Sz 4000 d/\1<=b/\1<=d/\Mth.g a b=1/\Mth.g c d=1/\∀ p H',Same H H'->H' p=some (.tup [.int (Mth.top (a*d-c*b) (b*d)), .int (Mth.bot (a*d-c*b) (b*d))])->Q (.ref p) H'
theorem Jjl (F:FunD K "minus" "minus" BbV dV f fd) (T:Txt K mg Ad) (BbT:Cal P w K mg base 2 "plus" ["one","other"] [] (Jem K)):FnOk P w K mg base (CX1 P w) 3 f fd ["one","other"] (Jdk K):=by
 refine F.okn JjD (by subst_eqs) (fun B A e s H o Q E D h=>?_)
 obtain ⟨x,y,a,b,c,d,rfl,h⟩:=h;refine ⟨_,(Jai (Jaq (BbT.ev D ⋯ rfl passF (Jaa (pv 0) (Jaa (JaD (Jaa (pe_un Jf0 (pe_ix ix_U (pv 1) Jad)) (Jaa (pe_ix ix_U (pv 1) Jad) Jac))) Jac))))),?_⟩;obtain ⟨r,g,i,u,m,t,C,l,j,J,k⟩:=h;show tRet _ _ [some x,some y] H;try mstop
 refine ixF0 g ?_;try mstop
 refine ixF1 g ?_;try mstop
 refine ⟨len2,?_⟩;rename_i p n v H M S I;refine ⟨_,_,a,b, -c,d,rfl,r.same S,FrV.of I,i,u,m.neg,t,C,l,j,by rw [Mth.g_neg];exact J,fun q z G L=>k q z (S.trans G) ?_⟩;rw [L,Int.neg_mul, <- Int.sub_eq_add_neg]
abbrev BbW:Stmt:=top 19
theorem Jfn:Jan ["one","other","across","back"] ["one","other"] (Jae BbW):=by bv_decide
def Jdm (K:W.Frag):Sp:=fun vs H Q E=>∃ (x y:V) (a b c d:Int),vs=[x,y]/\FrV K H x a b/\FrV K H y c d/\Mth.Sz 4000 a/\Mth.Sz 4000 b/\Mth.Sz 4000 c/\Mth.Sz 4000 d/\1<=b/\1<=d/\Mth.g a b=1/\Mth.g c d=1/\∀ p H',Same H H'->H' p=some (.tup [.int (Mth.top (a*c) (b*d)), .int (Mth.bot (a*c) (b*d))])->Q (.ref p) H'
theorem Jjn (F:FunD K "times" "times" BbW dV f fd) (T:Txt K mg Ad) (Bac:Cal P w K mg base 1 "common_divisor" ["one","other"] [] (JaC)):FnOk P w K mg base (CX1 P w) 2 f fd ["one","other"] (Jdm K):=by
 refine F.okn Jfn (by subst_eqs) (fun M A l s H I Q E q h=>?_)
 obtain ⟨x,y,a,b,c,d,rfl,h⟩:=h;refine ⟨_,(Jab (Jak 2 Jfn.nd (Bac.ev q ⋯ rfl passF (Jaa (pe_ix ix_U (pv 0) Jad) (Jaa (pe_ix ix_U (pv 1) Jad) Jac)))) (Jab (Jak 3 Jfn.nd (Bac.ev q ⋯ rfl passF (Jaa (pe_ix ix_U (pv 1) Jad) (Jaa (pe_ix ix_U (pv 0) Jad) Jac)))) (Jai (Jaq (JaD (Jaa (pe_op JaM (pe_op Jav (pe_ix ix_U (pv 0) Jad) (pv 2)) (pe_op Jav (pe_ix ix_U (pv 1) Jad) (pv 3))) (Jaa (pe_op JaM (pe_op Jav (pe_ix ix_U (pv 0) Jad) (pv 3)) (pe_op Jav (pe_ix ix_U (pv 1) Jad) (pv 2))) Jac))))))),?_⟩
 obtain ⟨e,j,B,o,G,n,N,D,C,W,k⟩:=h;show tSeq _ _ _ [some x,some y,none,none] H;try mstop
 refine ixF0 e (ixF1 j ?_);try mstop
 refine ⟨_,_,rfl,?_⟩;refine ixF0 j (ixF1 e ?_);try mstop
 refine ⟨_,_,rfl,?_⟩;try mstop
 have Y:=Mth.g_pos (a:=a) (b:=d) ∅;have X:=Mth.g_pos (a:=c) (b:=b) ∅;have U:=Mth.JcE a d;have R:=Mth.JbI a d;have z:=Mth.JcE c b;have O:=Mth.JbI c b;have L:Mth.Sz 4000 (Mth.g a d):=Nat.lt_of_le_of_lt (by have:=Mth.g_le (a:=a) (b:=d) ∅;ac_nf:(Mth.g a d).natAbs<=d.natAbs) n;have vl:Mth.Sz 4000 (Mth.g c b):=Nat.lt_of_le_of_lt (by have:=Mth.g_le (a:=c) (b:=b) ∅;ac_nf:(Mth.g c b).natAbs<=b.natAbs) o;have r:DivOk (Mth.g a d):=divOk ∅ L;have t:DivOk (Mth.g c b):=divOk ∅ vl;have m:=Mth.JjH N D C W (u:=Mth.g a d) (v:=Mth.g c b) rfl rfl;refine ixF0 e ?_;try mstop
 refine ⟨r,ixF0 j ?_⟩;try mstop
 refine ⟨t,mulOk (B.fdiv U ∅) (G.fdiv z ∅),ixF1 e ?_⟩;try mstop
 refine ⟨t,ixF1 j ?_⟩;try mstop
 refine ⟨r,mulOk (o.fdiv O ∅) (n.fdiv R ∅),len2,?_⟩;refine Jd4 fun p J S V=>k p J S ?_;rw [V,m.1,m.2]
abbrev BcD:Stmt:=top 20
theorem Jlf:Jan ["one","other"] ["one","other"] (Jae BcD):=by bv_decide
def Jfq (K:W.Frag) (Ad:Adr):Sp:=fun vs H Q E=>∃ (x y:V) (a b c d:Int),vs=[x,y]/\FrV K H x a b/\FrV K H y c d/\Mth.Sz 4000 a/\Mth.Sz 4000 b/\Mth.Sz 4000 c/\Mth.Sz 4000 d/\1<=b/\1<=d/\Mth.g a b=1/\Mth.g c d=1/\(c=0->E (.ref Ad.NoNumber) none H)/\(c≠0->∀ p H',Same H H'->H' p=some (.tup [.int (Mth.top (a*d) (b*c)), .int (Mth.bot (a*d) (b*c))])->Q (.ref p) H')
theorem JkR (F:FunD K "over" "over" BcD dV f fd) (T:Txt K mg Ad) (Bbh:Cal P w K mg base 2 "times" ["one","other"] [] (Jdm K)):FnOk P w K mg base (CX1 P w) 3 f fd ["one","other"] (Jfq K Ad):=by
 refine F.okx Jlf (fun O H Q E h=>?_) (fun V A v s H O Q E q h=>?_)
 ·obtain ⟨x,y,a,b,c,d,rfl,_⟩:=h;rfl
 obtain ⟨x,y,a,b,c,d,rfl,h⟩:=h;have I:=q.units;refine ⟨_,(Jab (ps_if (Jaz (JbT I) (pe_ix ix_U (pv 1) Jad) Jad (JaA _)) (Jai (Jg0 PySem.F.excBase_ValueError T.x_NoNumber rfl T.m_NoNumber (Jaa JbU Jac)))
   Jaw) (Jab (ps_if (Jaz JfS (pe_ix ix_U (pv 1) Jad) Jad (JaA _)) (Jai (Jaq (Bbh.ev q ⋯ rfl pass1 (Jaa (pv 0) (Jaa (JaD (Jaa (pe_un Jf0 (pe_ix ix_U (pv 1) Jad)) (Jaa (pe_un Jf0 (pe_ix ix_U (pv 1) Jad)) Jac))) Jac)))))
   Jaw) (Jai (Jaq (Bbh.ev q ⋯ rfl pass1 (Jaa (pv 0) (Jaa (JaD (Jaa (pe_ix ix_U (pv 1) Jad) (Jaa (pe_ix ix_U (pv 1) Jad) Jac))) Jac))))))),?_⟩
 clear I;obtain ⟨G,g,B,L,D,J,M,W,C,N,U,k⟩:=h;show tSeq _ _ _ [some x,some y] H;try mstop
 refine ixF0 g ?_;try mstop
 by_cases i:c=0
 ·rw [if_pos (by simpa using i)];try mstop
  exact ⟨by decide,U i⟩
 ·rw [if_neg (by simpa using i)];refine ixF0 g ?_;try mstop
  by_cases l:c<0
  ·rw [if_pos (by simpa using l)];refine ixF1 g ?_;try mstop
   refine ixF0 g ?_;try mstop
   refine ⟨len2,?_⟩;rename_i p j n H R S u;refine ⟨_,_,a,b, -d, -c,rfl,G.same S,FrV.of u,B,L,J.neg,D.neg,M,by ac_nf,C,by rw [Mth.g_neg,Mth.JlD,Mth.JjZ];exact N,fun m o r z=>k i m o (S.trans r) ?_⟩;have e:=Mth.JkN (t:=a*d) (b:=b*c) (Int.mul_neg_of_pos_of_neg ∅ l);rw [z,Int.mul_neg,Int.mul_neg,e.1,e.2]
  ·rw [if_neg (by simpa using l)];refine ixF1 g ?_;try mstop
   refine ixF0 g ?_;try mstop
   refine ⟨len2,?_⟩;rename_i p j n H R S u;exact ⟨_,_,a,b,d,c,rfl,G.same S,FrV.of u,B,L,J,D,M,by ac_nf,C,by rw [Mth.JjZ];exact N,fun m o r z=>k i m o (S.trans r) z⟩
abbrev BbX:Stmt:=top 21
theorem JjE:Jan ["one","other"] ["one","other"] (Jae BbX):=by bv_decide
def JbP (K:W.Frag):Sp:=fun vs H Q E=>∃ (x y:V) (a b c d:Int),vs=[x,y]/\FrV K H x a b/\FrV K H y c d/\Mth.Sz 4000 a/\Mth.Sz 4000 b/\Mth.Sz 4000 c/\Mth.Sz 4000 d/\Q (.bl (decide (a*d<c*b))) H
theorem Jjo (F:FunD K "under" "under" BbX dV f fd) (T:Txt K mg Ad)  : FnOk P w K mg base (CX1 P w) 1 f fd ["one","other"] (JbP K):=by
 refine F.okn JjE (by subst_eqs) (fun p A e s H m Q E q h=>?_)
 obtain ⟨x,y,a,b,c,d,rfl,h⟩:=h;refine ⟨_,(Jai (Jaq (Jbn JfS (pe_op JaM (pe_ix ix_U (pv 0) Jad) (pe_ix ix_U (pv 1) Jad)) (pe_op JaM (pe_ix ix_U (pv 1) Jad) (pe_ix ix_U (pv 0) Jad)) (JaA _)))),?_⟩;obtain ⟨g,i,j,o,l,n,k⟩:=h;show tRet _ _ [some x,some y] H;cbv;refine ixF0 g (ixF1 i ?_);cbv;refine ⟨mulOk j n,ixF0 i (ixF1 g ?_)⟩;cbv;exact ⟨mulOk l o,k⟩
abbrev Bbq:Stmt:=top 27
theorem Jhs:Jan ["thing"] ["thing"] (Jae Bbq):=by bv_decide
def Jci (K:W.Frag):Sp:=fun vs H Q E=>∃ (z:Str),vs=[.str z]/\nameS z=true/\∀ H',Same H H'->Q (.bl true) H'
theorem Jhl (F:FunD K "is_name" "is_name" Bbq dV f fd) (T:Txt K mg Ad)  : FnOk P w K mg base (CX1 P w) 1 f fd ["thing"] (Jci K):=by
 refine F.okn Jhs (by subst_eqs) (fun B A j s H t Q E J h=>?_)
 obtain ⟨z,rfl,h⟩:=h;refine ⟨_,(Jab (ps_if (Jbt (Ja7 (Jay JaX rfl T.Bad Jap (Jaa (pv 0) (Jaa (JcV (v:=.ty "str") rfl T.Bd1 Jly rfl) Jac))))) (Jai (Jaq pe_bl))
   Jaw) (Jab (ps_if (PW.pt (pw_or (Jaz JfS (Jay JaY rfl T.BbP JbG (Jaa (pv 0) Jac)) Jad (JaA _)) (Jb3 (Jaz JfR (Jay JaY rfl T.BbP JbG (Jaa (pv 0) Jac)) (JaW (v:=.int 8) rfl T.Bcz T.BcA) (JaA _))))) (Jai (Jaq pe_bl))
   Jaw) (Jai (Jaq (Jay (JhE rfl) rfl T.Bd3 Jlv (Jaa (Jcn (own:=["sign"]) (cs:=[]) (cl:=[]) rfl (Jl3 (pv 0)) (fun _ _ _ _=>(Jar 0 (show [("sign" : Str)].Nodup by decide))) (fun _ _ _ _=>(Jbn (JlW (K:=K) rfl) (pv 0) (JaW (v:=.str "abcdefghijklmnopqrstuvwxyz") rfl T.Bb8 T.Bb9) (by with_unfolding_all rfl))) rfl ⋯ rfl ⋯ hcl0 (hhas0 ⋯) hcs0) Jac)))))),?_⟩
 obtain ⟨b,k⟩:=h;show tSeq _ _ _ [some (.str z)] H;cbv;have r:=len8 b;have q:z.length<=sizeLine:=Nat.le_trans r ⋯;unfold nameS at b;simp only [Bool.and_eq_true,decide_eq_true_eq] at b;obtain ⟨⟨G,C⟩,a⟩:=b
 mframe;refine ⟨q,?_⟩;cbv;rw [if_neg (by simp;ac_nf)];cbv;refine ⟨q,?_⟩;cbv;rw [if_neg (by simp;ac_nf)];cbv;cbv;simpa only [tComp,iStr];refine ⟨fun i m n e=>e=H/\i<=z.cps.size/\m=z.cps.size-i/\n=(z.cps.toList.take i).map fun c=>V.bl (lowB c),⟨_,rfl,Nat.zero_le _,rfl,by simp⟩,?_⟩;rintro i m n e ⟨rfl,D,rfl,rfl⟩;have L:z.cps.size=z.length:=rfl;refine ⟨by simp;ac_nf,?_⟩;by_cases g:i<z.cps.size
 ·refine .inr ⟨g,?_⟩;rintro x o ⟨rfl,c,u,rfl⟩;simpa only [length_singleton,List.replicate,Jax,map_nil,y60y,Jhg];refine ⟨_,Nat.sub_lt_sub_left g (Nat.lt_succ_self i),g,rfl,?_⟩;have d:z.cps.toList[i]?=some c:=by simpa using u
  rw [take_succ,d];simp
 ·have l:i=z.cps.size:=by ac_nf
  refine .inl ⟨l,?_⟩;subst l;rw [take_of_length_le (by simp)];rename_i p M I e o S y;refine ⟨p,z.cps.toList.map lowB,rfl,SqL.of (by rw [y,map_map];rfl),?_⟩;have:=k o S;simpa [List.all_map,a] using this
abbrev Ba2:Stmt:=top 28
theorem JgA:Jan ["thing"] ["thing"] (Jae Ba2):=by bv_decide
def Jcw (K:W.Frag):Sp:=fun vs H Q E=>∃ (i:Int),vs=[.int i]/\Q (.bl true) H
theorem Jgm (F:FunD K "is_whole" "is_whole" Ba2 dV f fd) (T:Txt K mg Ad)  : FnOk P w K mg base (CX1 P w) 1 f fd ["thing"] (Jcw K):=by
 refine F.okn JgA (by subst_eqs) (fun b A a s H c Q E d h=>?_)
 obtain ⟨i,rfl,h⟩:=h;refine ⟨_,(Jai (Jaq (JcG (Jay JaX rfl T.Bad Jap (Jaa (pv 0) (Jaa (JcV (v:=.ty "int") rfl T.Bd0 Jlw rfl) Jac))) (Jdd (JgY (Jay JaX rfl T.Bad Jap (Jaa (pv 0) (Jaa (JcV (v:=.ty "bool") rfl T.BdV Jkr rfl) Jac)))))))),?_⟩;show tRet _ _ [some (.int i)] H;cbv;exact h
abbrev BaC:Stmt:=top 29
theorem Jey:Jan ["thing"] ["thing"] (Jae BaC):=by bv_decide
def JbC (K:W.Frag):Sp:=fun vs H Q E=>∃ (x:V) (a b:Int),vs=[x]/\FrV K H x a b/\1<=b/\Mth.g a b=1/\Q (.bl true) H
theorem Jet (F:FunD K "is_fraction" "is_fraction" BaC dV f fd) (T:Txt K mg Ad) (BaU:Cal P w K mg base 1 "is_whole" ["thing"] [] (Jcw K)) (Bac:Cal P w K mg base 1 "common_divisor" ["one","other"] [] (JaC)):FnOk P w K mg base (CX1 P w) 2 f fd ["thing"] (JbC K):=by
 refine F.okn Jey (by subst_eqs) (fun m A g s H i Q E d h=>?_)
 obtain ⟨x,a,b,rfl,h⟩:=h;have e:=d.units;refine ⟨_,(Jab (ps_if (PW.pt (pw_or (Jbt (Ja7 (Jay JaX rfl T.Bad Jap (Jaa (pv 0) (Jaa (JcV (v:=.ty "tuple") rfl T.Bdc JeP rfl) Jac))))) (Jb3 (Jaz (Jdb e) (Jay JaY rfl T.BbP JbG (Jaa (pv 0) Jac)) Jad (JaA _))))) (Jai (Jaq pe_bl))
   Jaw) (Jab (ps_if (PW.pt (pw_or (Jbt (Ja7 (BaU.ev d ⋯ rfl passF (Jaa (pe_ix ix_U (pv 0) Jad) Jac)))) (Jb3 (Jbt (Ja7 (BaU.ev d ⋯ rfl passF (Jaa (pe_ix ix_U (pv 0) Jad) Jac))))))) (Jai (Jaq pe_bl))
   Jaw) (Jai (Jaq (JcG (Jbn Jj3 (pe_ix ix_U (pv 0) Jad) Jad (JaA _)) (Jdd (Jbn (JbT e) (Bac.ev d ⋯ rfl passF (Jaa (pe_ix ix_U (pv 0) Jad) (Jaa (pe_ix ix_U (pv 0) Jad) Jac))) Jad (JaA _)))))))),?_⟩
 clear e;obtain ⟨⟨p,rfl,c⟩,j,l,k⟩:=h;show tSeq _ _ _ [some (.ref p)] H;cbv;refine ⟨_, .inr ⟨rfl,_,c⟩,?_⟩
 mframe;refine ⟨_, .inr c,?_⟩;simpa only [length_cons,length_nil]
 (rw [if_neg (by simp)])
 cbv;refine ixT0 c ?_;refine ⟨a,rfl,?_⟩;cbv;refine ixT1 c ?_;refine ⟨b,rfl,?_⟩;cbv;refine ixT1 c ?_;cbv;rw [if_pos (by simpa using j)];cbv;refine ixT0 c (ixT1 c ?_);refine ⟨_,_,rfl,?_⟩;cbv;simpa [l] using k
abbrev Ba3:Stmt:=top 30
theorem Jgz:Jan ["thing"] ["thing"] (Jae Ba3):=by bv_decide
def JcZ (K:W.Frag):Sp:=fun vs H Q E=>∃ (x:V) (a b:Int),vs=[x]/\FrV K H x a b/\1<=b/\Mth.g a b=1/\Q (.bl true) H
theorem Jgl (F:FunD K "is_bound" "is_bound" Ba3 dV f fd) (T:Txt K mg Ad) (Baq:Cal P w K mg base 2 "is_fraction" ["thing"] [] (JbC K)):FnOk P w K mg base (CX1 P w) 3 f fd ["thing"] (JcZ K):=by
 refine F.okn Jgz (by subst_eqs) (fun l A c s H e Q E m h=>?_)
 obtain ⟨x,a,b,rfl,h⟩:=h;refine ⟨_,(Jai (Jaq (pe_or (Jbn Jfd (pv 0) JcS (JaA _)) (Jdd (Baq.ev m ⋯ rfl passF (Jaa (pv 0) Jac)))))),?_⟩;obtain ⟨d,g,i,k⟩:=h;show tRet _ _ [some x] H;cbv;have j:x≠.non:=by
  obtain ⟨p,rfl,_⟩:=d;intro z;cases z
 rw [if_neg (by simpa using j)];cbv;exact ⟨x,a,b,rfl,d,g,i,k⟩
abbrev BaV:Stmt:=top 31
theorem JfX:Jan ["one","other"] ["one","other"] (Jae BaV):=by bv_decide
def Jb5 (K:W.Frag):Sp:=fun vs H Q E=>∃ (z w:Str),vs=[.str z, .str w]/\nameS z=true/\nameS w=true/\z≠w/\∀ H',Same H H'->Q (.bl true) H'
theorem JfP (F:FunD K "are_faces" "are_faces" BaV dV f fd) (T:Txt K mg Ad) (BaJ:Cal P w K mg base 1 "is_name" ["thing"] [] (Jci K)):FnOk P w K mg base (CX1 P w) 2 f fd ["one","other"] (Jb5 K):=by
 refine F.okn JfX (by subst_eqs) (fun j A b s H d Q E a h=>?_)
 obtain ⟨z,w,rfl,h⟩:=h;have c:=a.units;refine ⟨_,(Jai (Jaq (JcG (BaJ.ev a ⋯ rfl passF (Jaa (pv 0) Jac)) (JcG (BaJ.ev a ⋯ rfl passF (Jaa (pv 1) Jac)) (Jdd (Jbn (Jdb c) (pv 0) (pv 1) (JaA _))))))),?_⟩;clear c;obtain ⟨g,m,l,k⟩:=h;show tRet _ _ [some (.str z),some (.str w)] H;cbv;refine ⟨z,rfl,g,fun o i=>?_⟩;cbv;refine ⟨w,rfl,m,fun e n=>?_⟩;cbv;have:=k e (i.trans n);simpa [l] using this
abbrev BaK:Stmt:=top 32
theorem Jfj:Jan ["least","greatest"] ["least","greatest"] (Jae BaK):=by bv_decide
def Jcu (K:W.Frag):Sp:=fun vs H Q E=>∃ (x y:V) (a b:Int × Int),vs=[x,y]/\FrV K H x a.1 a.2/\FrV K H y b.1 b.2/\FOk 600 a/\FOk 600 b/\¬ b.1*a.2<a.1*b.2/\Q (.bl true) H
theorem Je8 (F:FunD K "are_bounds" "are_bounds" BaK dV f fd) (T:Txt K mg Ad) (BbL:Cal P w K mg base 3 "is_bound" ["thing"] [] (JcZ K)) (Bah:Cal P w K mg base 1 "under" ["one","other"] [] (JbP K)):FnOk P w K mg base (CX1 P w) 4 f fd ["least","greatest"] (Jcu K):=by
 refine F.okn Jfj (by subst_eqs) (fun q A j s H l Q E i h=>?_)
 obtain ⟨x,y,a,b,rfl,h⟩:=h;refine ⟨_,(Jab (ps_if (PW.pt (pw_or (Jbt (Ja7 (BbL.ev i ⋯ rfl passF (Jaa (pv 0) Jac)))) (Jb3 (Jbt (Ja7 (BbL.ev i ⋯ rfl passF (Jaa (pv 1) Jac))))))) (Jai (Jaq pe_bl))
   Jaw) (Jab (ps_if (PW.pt (pw_or (Jaz Jfd (pv 0) JcS (JaA _)) (Jb3 (Jaz Jfd (pv 1) JcS (JaA _))))) (Jai (Jaq pe_bl))
   Jaw) (Jai (Jaq (JgY (Bah.ev i ⋯ rfl passF (Jaa (pv 1) (Jaa (pv 0) Jac)))))))),?_⟩
 obtain ⟨e,g,d,c,m,k⟩:=h;show tSeq _ _ _ [some x,some y] H;cbv;refine ⟨x,_,_,rfl,e,d.b1,d.g1,?_⟩;cbv;refine ⟨y,_,_,rfl,g,c.b1,c.g1,?_⟩;cbv;have o:x≠.non:=by
  obtain ⟨p,rfl,_⟩:=e;intro z;cases z
 have n:y≠.non:=by
  obtain ⟨p,rfl,_⟩:=g;intro z;cases z
 rw [if_neg (by simpa using o),if_neg (by simpa using n)];cbv;cbv;refine ⟨y,x,_,_,_,_,rfl,g,e,c.s1.mono ⋯,c.s2.mono ⋯,d.s1.mono ⋯,d.s2.mono ⋯,?_⟩;cbv;simpa [m] using k
abbrev BbM:Stmt:=top 33
theorem JiC:Jan ["thing"] ["thing"] (Jae BbM):=by bv_decide
def Jel (K:W.Frag):Sp:=fun vs H Q E=>∃ (x:V) (g:GD),vs=[x]/\TV K H g.td x/\TOk g.td/\∀ H',Same H H'->Q (.bl true) H'
theorem Jif (F:FunD K "is_tie" "is_tie" BbM dV f fd) (T:Txt K mg Ad) (BaJ:Cal P w K mg base 1 "is_name" ["thing"] [] (Jci K)) (BaW:Cal P w K mg base 2 "are_faces" ["one","other"] [] (Jb5 K)) (BbE:Cal P w K mg base 4 "are_bounds" ["least","greatest"] [] (Jcu K)):FnOk P w K mg base (CX1 P w) 5 f fd ["thing"] (Jel K):=by
 refine F.okn JiC (by subst_eqs) (fun t A n s H q Q E e h=>?_)
 obtain ⟨x,g,rfl,h⟩:=h;have o:=e.units;refine ⟨_,(Jab (ps_if (PW.pt (pw_or (Jbt (Ja7 (Jay JaX rfl T.Bad Jap (Jaa (pv 0) (Jaa (JcV (v:=.ty "tuple") rfl T.Bdc JeP rfl) Jac))))) (Jb3 (Jaz (Jdb o) (Jay JaY rfl T.BbP JbG (Jaa (pv 0) Jac)) Jad (JaA _))))) (Jai (Jaq pe_bl))
   Jaw) (Jai (Jaq (JcG (BaJ.ev e ⋯ rfl passF (Jaa (pe_ix ix_U (pv 0) Jad) Jac)) (JcG (BaW.ev e ⋯ rfl passF (Jaa (pe_ix ix_U (pv 0) Jad) (Jaa (pe_ix ix_U (pv 0) Jad) Jac))) (Jdd (BbE.ev e ⋯ rfl passF (Jaa (pe_ix ix_U (pv 0) Jad) (Jaa (pe_ix ix_U (pv 0) Jad) Jac))))))))),?_⟩
 clear o;obtain ⟨⟨a,vl,p,rfl,c,m,l⟩,d,k⟩:=h;replace m:FrV K H vl g.lo.1 g.lo.2:=m;replace l:FrV K H p g.hi.1 g.hi.2:=l;show tSeq _ _ _ [some (.ref a)] H;cbv;refine ⟨_, .inr ⟨rfl,_,c⟩,?_⟩
 mframe;refine ⟨_, .inr c,?_⟩;simpa only [length_cons,length_nil]
 (rw [if_neg (by simp)])
 cbv;refine ixT (i:=0) c rfl ?_;refine ⟨g.nm,rfl,d.n1,fun y j=>?_⟩;cbv;refine ixT (i:=1) (c.same j) rfl ?_;refine ixT (i:=2) (c.same j) rfl ?_;refine ⟨g.st,g.en,rfl,d.n2,d.n3,d.ne,fun r u=>?_⟩;cbv;have b:=j.trans u;refine ixT (i:=3) (c.same b) rfl ?_;refine ixT (i:=4) (c.same b) rfl ?_;refine ⟨vl,p,g.lo,g.hi,rfl,m.same b,l.same b,d.lo _ rfl,d.hi _ rfl,?_,k r b⟩;have this : decide (g.hi.1*g.lo.2<g.lo.1*g.hi.2)=false:=d.le;simpa using this
abbrev Ban:Stmt:=inClass (top 52) 0
theorem JdJ:Jan ["self","row"] ["self","row"] (Jae Ban):=by bv_decide
def JbD (K:W.Frag):Sp:=fun vs H Q E=>∃ (x C dx a:Addr) (n st en z m wt:V),vs=[.ref x, .ref a]/\H x=some (.ins C dx [])/\PartC K C/\SqT K H a [n,st,en,z,m,wt]/\∀ H',H' x=some (.ins C dx (partF n st en z m wt))->(∀ b,b≠x->H' b=H b)->Q .non H'
theorem JdH (F:FunD K "__init__" "Part.__init__" Ban dV f fd) (T:Txt K mg Ad)  : FnOk P w K mg base (CX1 P w) 1 f fd ["self","row"] (JbD K):=by
 refine F.okn JdJ (by subst_eqs) (fun S A y s H M Q E Y h=>?_)
 obtain ⟨x,C,d,a,n,g,j,z,m,u,rfl,h⟩:=h;refine ⟨_,(Jab (Ja5 (pv 0) (pe_ix ix_U (pv 1) Jad) rfl) (Jab (Ja5 (pv 0) (pe_ix ix_U (pv 1) Jad) rfl) (Jab (Ja5 (pv 0) (pe_ix ix_U (pv 1) Jad) rfl) (Jab (Ja5 (pv 0) (pe_ix ix_U (pv 1) Jad) rfl) (Jab (Ja5 (pv 0) (pe_ix ix_U (pv 1) Jad) rfl) (Jai (Ja5 (pv 0) (pe_ix ix_U (pv 1) Jad) rfl))))))),?_⟩
 obtain ⟨D,e,t,k⟩:=h;show tSeq _ _ _ [some (.ref x),some (.ref a)] H;mexact;refine ixT (i:=0) t rfl ?_;mexact;refine ⟨x,C,d,_,rfl,D,e.cls,e.n1,by simp,?_⟩;have p:=SqT.put (fs':=putF "name" n []) D t;generalize u0:upd H x _=H1 at p ⊢;mexact;have G:H1 x=some (.ins C d [("name",n)]):=by rw [<- u0];exact Jaj.trans rfl
 have O:∀ b,b≠x->H1 b=H b:=fun b c=>by rw [<- u0,Jag c]
 mexact;refine ixT (i:=1) p rfl ?_;mexact;refine ⟨x,C,d,_,rfl,G,e.cls,e.n2,by simp,?_⟩;have o:=SqT.put (fs':=putF "start" g [("name",n)]) G p;generalize u1:upd H1 x _=H2 at o ⊢;mexact;have L:H2 x=some (.ins C d [("name",n),("start",g)]):=by rw [<- u1];exact Jaj.trans rfl
 have X:∀ b,b≠x->H2 b=H1 b:=fun b c=>by rw [<- u1,Jag c]
 mexact;refine ixT (i:=2) o rfl ?_;mexact;refine ⟨x,C,d,_,rfl,L,e.cls,e.n3,by simp,?_⟩;have r:=SqT.put (fs':=putF "end" j [("name",n),("start",g)]) L o;generalize u2:upd H2 x _=H3 at r ⊢;mexact;have I:H3 x=some (.ins C d [("name",n),("start",g),("end",j)]):=by rw [<- u2];exact Jaj.trans rfl
 have V:∀ b,b≠x->H3 b=H2 b:=fun b c=>by rw [<- u2,Jag c]
 mexact;refine ixT (i:=3) r rfl ?_;mexact;refine ⟨x,C,d,_,rfl,I,e.cls,e.n4,by simp,?_⟩;have l:=SqT.put (fs':=putF "size" z [("name",n),("start",g),("end",j)]) I r;generalize u3:upd H3 x _=H4 at l ⊢;mexact;have J:H4 x=some (.ins C d [("name",n),("start",g),("end",j),("size",z)]):=by rw [<- u3];exact Jaj.trans rfl
 have W:∀ b,b≠x->H4 b=H3 b:=fun b c=>by rw [<- u3,Jag c]
 mexact;refine ixT (i:=4) l rfl ?_;mexact;refine ⟨x,C,d,_,rfl,J,e.cls,e.n5,by simp,?_⟩;have q:=SqT.put (fs':=putF "most" m [("name",n),("start",g),("end",j),("size",z)]) J l;generalize u4:upd H4 x _=H5 at q ⊢;mexact;have B:H5 x=some (.ins C d [("name",n),("start",g),("end",j),("size",z),("most",m)]):=by rw [<- u4];exact Jaj.trans rfl
 have N:∀ b,b≠x->H5 b=H4 b:=fun b c=>by rw [<- u4,Jag c]
 mexact;refine ixT (i:=5) q rfl ?_;mexact;refine ⟨x,C,d,_,rfl,B,e.cls,e.n6,by simp,?_⟩;have v:=SqT.put (fs':=putF "weight" u [("name",n),("start",g),("end",j),("size",z),("most",m)]) B q;generalize u5:upd H5 x _=H6 at v ⊢;mexact;have R:H6 x=some (.ins C d [("name",n),("start",g),("end",j),("size",z),("most",m),("weight",u)]):=by rw [<- u5];exact Jaj.trans rfl
 have U:∀ b,b≠x->H6 b=H5 b:=fun b c=>by rw [<- u5,Jag c]
 mexact;exact k H6 R fun b c=>by rw [U b c,N b c,W b c,V b c,X b c,O b c]
abbrev BaL:Stmt:=inClass (top 52) 1
theorem Jfh:Jan ["self"] ["self"] (Jae BaL):=by bv_decide
def Jct (K:W.Frag) (Ad:Adr):Sp:=fun vs H Q E=>∃ (p dx:Addr) (n st en z m wt:V),vs=[.ref p]/\H p=some (.ins Ad.Part dx (partF n st en z m wt))/\∀ q H',Same H H'->H' q=some (.tup [n,st,en,z,m,wt])->Q (.ref q) H'
theorem Je5 (F:FunD K "plain" "Part.plain" BaL dV f fd) (T:Txt K mg Ad)  : FnOk P w K mg base (CX1 P w) 1 f fd ["self"] (Jct K Ad):=by
 refine F.okn Jfh (by subst_eqs) (fun r A d s H l Q E t h=>?_)
 obtain ⟨p,b,n,j,i,z,m,g,rfl,h⟩:=h;refine ⟨_,(Jai (Jaq (JaD (Jaa (Jat (pv 0) rfl) (Jaa (Jat (pv 0) rfl) (Jaa (Jat (pv 0) rfl) (Jaa (Jat (pv 0) rfl) (Jaa (Jat (pv 0) rfl) (Jaa (Jat (pv 0) rfl) Jac))))))))),?_⟩;obtain ⟨c,k⟩:=h;have a:=T.BcB Ad.Part rfl;show tRet _ _ [some (.ref p)] H;mleave;refine ⟨p,_,b,_,n,rfl,c,a.cls,a.n1,rfl,?_⟩;refine ⟨p,_,b,_,j,rfl,c,a.cls,a.n2,rfl,?_⟩;refine ⟨p,_,b,_,i,rfl,c,a.cls,a.n3,rfl,?_⟩;refine ⟨p,_,b,_,z,rfl,c,a.cls,a.n4,rfl,?_⟩;refine ⟨p,_,b,_,m,rfl,c,a.cls,a.n5,rfl,?_⟩;refine ⟨p,_,b,_,g,rfl,c,a.cls,a.n6,rfl,?_⟩;mleave;refine ⟨by show 6<=sizeLine;decide,?_⟩;exact Jd4 fun q o S e=>k q o S e
abbrev Bas:Stmt:=inClass (top 53) 0
theorem Jef:Jan ["self","row"] ["self","row"] (Jae Bas):=by bv_decide
def JbW (K:W.Frag):Sp:=fun vs H Q E=>∃ (x C dx a:Addr) (n st en l g:V),vs=[.ref x, .ref a]/\H x=some (.ins C dx [])/\GapC K C/\SqT K H a [n,st,en,l,g]/\∀ H',H' x=some (.ins C dx (gapF n st en l g))->(∀ b,b≠x->H' b=H b)->Q .non H'
theorem Jd5 (F:FunD K "__init__" "Gap.__init__" Bas dV f fd) (T:Txt K mg Ad)  : FnOk P w K mg base (CX1 P w) 1 f fd ["self","row"] (JbW K):=by
 refine F.okn Jef (by subst_eqs) (fun N A v s H J Q E U h=>?_)
 obtain ⟨x,C,d,a,n,j,q,l,g,rfl,h⟩:=h;refine ⟨_,(Jab (Ja5 (pv 0) (pe_ix ix_U (pv 1) Jad) rfl) (Jab (Ja5 (pv 0) (pe_ix ix_U (pv 1) Jad) rfl) (Jab (Ja5 (pv 0) (pe_ix ix_U (pv 1) Jad) rfl) (Jab (Ja5 (pv 0) (pe_ix ix_U (pv 1) Jad) rfl) (Jai (Ja5 (pv 0) (pe_ix ix_U (pv 1) Jad) rfl)))))),?_⟩
 obtain ⟨y,e,t,k⟩:=h;show tSeq _ _ _ [some (.ref x),some (.ref a)] H;mexact;refine ixT (i:=0) t rfl ?_;mexact;refine ⟨x,C,d,_,rfl,y,e.cls,e.n1,by simp,?_⟩;have p:=SqT.put (fs':=putF "name" n []) y t;generalize u0:upd H x _=H1 at p ⊢;mexact;have z:H1 x=some (.ins C d [("name",n)]):=by rw [<- u0];exact Jaj.trans rfl
 have M:∀ b,b≠x->H1 b=H b:=fun b c=>by rw [<- u0,Jag c]
 mexact;refine ixT (i:=1) p rfl ?_;mexact;refine ⟨x,C,d,_,rfl,z,e.cls,e.n2,by simp,?_⟩;have o:=SqT.put (fs':=putF "one" j [("name",n)]) z p;generalize u1:upd H1 x _=H2 at o ⊢;mexact;have G:H2 x=some (.ins C d [("name",n),("one",j)]):=by rw [<- u1];exact Jaj.trans rfl
 have S:∀ b,b≠x->H2 b=H1 b:=fun b c=>by rw [<- u1,Jag c]
 mexact;refine ixT (i:=2) o rfl ?_;mexact;refine ⟨x,C,d,_,rfl,G,e.cls,e.n3,by simp,?_⟩;have r:=SqT.put (fs':=putF "other" q [("name",n),("one",j)]) G o;generalize u2:upd H2 x _=H3 at r ⊢;mexact;have B:H3 x=some (.ins C d [("name",n),("one",j),("other",q)]):=by rw [<- u2];exact Jaj.trans rfl
 have O:∀ b,b≠x->H3 b=H2 b:=fun b c=>by rw [<- u2,Jag c]
 mexact;refine ixT (i:=3) r rfl ?_;mexact;refine ⟨x,C,d,_,rfl,B,e.cls,e.n4,by simp,?_⟩;have m:=SqT.put (fs':=putF "low" l [("name",n),("one",j),("other",q)]) B r;generalize u3:upd H3 x _=H4 at m ⊢;mexact;have D:H4 x=some (.ins C d [("name",n),("one",j),("other",q),("low",l)]):=by rw [<- u3];exact Jaj.trans rfl
 have R:∀ b,b≠x->H4 b=H3 b:=fun b c=>by rw [<- u3,Jag c]
 mexact;refine ixT (i:=4) m rfl ?_;mexact;refine ⟨x,C,d,_,rfl,D,e.cls,e.n5,by simp,?_⟩;have u:=SqT.put (fs':=putF "high" g [("name",n),("one",j),("other",q),("low",l)]) D m;generalize u4:upd H4 x _=H5 at u ⊢;mexact;have I:H5 x=some (.ins C d [("name",n),("one",j),("other",q),("low",l),("high",g)]):=by rw [<- u4];exact Jaj.trans rfl
 have L:∀ b,b≠x->H5 b=H4 b:=fun b c=>by rw [<- u4,Jag c]
 mexact;exact k H5 I fun b c=>by rw [L b c,R b c,O b c,S b c,M b c]
abbrev BaX:Stmt:=inClass (top 53) 1
theorem JfV:Jan ["self"] ["self"] (Jae BaX):=by bv_decide
def JcH (K:W.Frag) (Ad:Adr):Sp:=fun vs H Q E=>∃ (p dx:Addr) (n st en l g:V),vs=[.ref p]/\H p=some (.ins Ad.Gap dx (gapF n st en l g))/\∀ q H',Same H H'->H' q=some (.tup [n,st,en,l,g])->Q (.ref q) H'
theorem JfN (F:FunD K "plain" "Gap.plain" BaX dV f fd) (T:Txt K mg Ad)  : FnOk P w K mg base (CX1 P w) 1 f fd ["self"] (JcH K Ad):=by
 refine F.okn JfV (by subst_eqs) (fun r A d s H m Q E t h=>?_)
 obtain ⟨p,b,n,j,i,l,g,rfl,h⟩:=h;refine ⟨_,(Jai (Jaq (JaD (Jaa (Jat (pv 0) rfl) (Jaa (Jat (pv 0) rfl) (Jaa (Jat (pv 0) rfl) (Jaa (Jat (pv 0) rfl) (Jaa (Jat (pv 0) rfl) Jac)))))))),?_⟩;obtain ⟨c,k⟩:=h;have a:=T.Bdy Ad.Gap rfl;show tRet _ _ [some (.ref p)] H;mleave;refine ⟨p,_,b,_,n,rfl,c,a.cls,a.n1,rfl,?_⟩;refine ⟨p,_,b,_,j,rfl,c,a.cls,a.n2,rfl,?_⟩;refine ⟨p,_,b,_,i,rfl,c,a.cls,a.n3,rfl,?_⟩;refine ⟨p,_,b,_,l,rfl,c,a.cls,a.n4,rfl,?_⟩;refine ⟨p,_,b,_,g,rfl,c,a.cls,a.n5,rfl,?_⟩;mleave;refine ⟨by show 5<=sizeLine;decide,?_⟩;exact Jd4 fun q o S e=>k q o S e
abbrev Bbr:Stmt:=top 50
theorem Jht:Jan ["thing"] ["thing"] (Jae Bbr):=by bv_decide
def Jdz (K:W.Frag):Sp:=fun vs H Q E=>∃ (x:V) (p:PD),vs=[x]/\PDV K H p x/\POk p/\∀ H',Same H H'->Q (.bl true) H'
theorem Jhm (F:FunD K "is_part" "is_part" Bbr dV f fd) (T:Txt K mg Ad) (BaJ:Cal P w K mg base 1 "is_name" ["thing"] [] (Jci K)) (BaW:Cal P w K mg base 2 "are_faces" ["one","other"] [] (Jb5 K)) (Baq:Cal P w K mg base 2 "is_fraction" ["thing"] [] (JbC K)) (BaU:Cal P w K mg base 1 "is_whole" ["thing"] [] (Jcw K)) (Bah:Cal P w K mg base 1 "under" ["one","other"] [] (JbP K)):FnOk P w K mg base (CX1 P w) 5 f fd ["thing"] (Jdz K):=by
 refine F.okn Jht (by subst_eqs) (fun t A j s H q Q E e h=>?_)
 obtain ⟨x,p,rfl,h⟩:=h;have l:=e.units;refine ⟨_,(Jab (ps_if (PW.pt (pw_or (Jbt (Ja7 (Jay JaX rfl T.Bad Jap (Jaa (pv 0) (Jaa (JcV (v:=.ty "tuple") rfl T.Bdc JeP rfl) Jac))))) (Jb3 (Jaz (Jdb l) (Jay JaY rfl T.BbP JbG (Jaa (pv 0) Jac)) Jad (JaA _))))) (Jai (Jaq pe_bl))
   Jaw) (Jab (ps_if (PW.pt (pw_or (Jbt (Ja7 (BaJ.ev e ⋯ rfl passF (Jaa (pe_ix ix_U (pv 0) Jad) Jac)))) (Jb3 (Jbt (Ja7 (BaW.ev e ⋯ rfl passF (Jaa (pe_ix ix_U (pv 0) Jad) (Jaa (pe_ix ix_U (pv 0) Jad) Jac)))))))) (Jai (Jaq pe_bl))
   Jaw) (Jab (ps_if (PW.pt (pw_or (Jbt (Ja7 (Baq.ev e ⋯ rfl passF (Jaa (pe_ix ix_U (pv 0) Jad) Jac)))) (pw_or (Jbt (Ja7 (Baq.ev e ⋯ rfl passF (Jaa (pe_ix ix_U (pv 0) Jad) Jac)))) (Jb3 (Jbt (Ja7 (BaU.ev e ⋯ rfl passF (Jaa (pe_ix ix_U (pv 0) Jad) Jac)))))))) (Jai (Jaq pe_bl))
   Jaw) (Jai (Jaq (JcG (JgY (Bah.ev e ⋯ rfl passF (Jaa (pe_ix ix_U (pv 0) Jad) (Jaa (JaW (v:=.ref _) rfl T.Bca T.Bcb) Jac)))) (Jdd (Jbn Jj3 (pe_ix ix_U (pv 0) Jad) Jad (JaA _))))))))),?_⟩
 clear l;obtain ⟨⟨a,u,n,rfl,d,y,o⟩,c,k⟩:=h;show tSeq _ _ _ [some (.ref a)] H;cbv;refine ⟨_, .inr ⟨rfl,_,d⟩,?_⟩
 mframe;refine ⟨_, .inr d,?_⟩;simpa only [length_cons,length_nil]
 (rw [if_neg (by simp)])
 cbv;refine ixT (i:=0) d rfl ?_;refine ⟨p.nm,rfl,c.n1,fun C g=>?_⟩;cbv;refine ixT (i:=1) (d.same g) rfl ?_;refine ixT (i:=2) (d.same g) rfl ?_;refine ⟨p.st,p.en,rfl,c.n2,c.n3,c.ne,fun r B=>?_⟩;cbv;have b:=g.trans B;refine ixT (i:=3) (d.same b) rfl ?_;refine ⟨u,_,_,rfl,y.same b,c.z.b1,c.z.g1,?_⟩;cbv;refine ixT (i:=4) (d.same b) rfl ?_;refine ⟨n,_,_,rfl,o.same b,c.m.b1,c.m.g1,?_⟩;cbv;refine ixT (i:=5) (d.same b) rfl ?_;refine ⟨p.wt,rfl,?_⟩;cbv;refine ixT (i:=4) (d.same b) rfl ?_;refine ⟨n, .ref Ad.ZERO,p.mo.1,p.mo.2,0,1,rfl,o.same b,⟨Ad.ZERO,rfl,T.Bcc _⟩,c.m.s1.mono ⋯,c.m.s2.mono ⋯, .lit ⋯ ⋯, .lit ⋯ ⋯,?_⟩;cbv;have D:=c.m0;rw [if_pos (by simp;ac_nf)];cbv;refine ixT (i:=5) (d.same b) rfl ?_;cbv;have:=k r b;simpa [c.w] using this
abbrev BbN:Stmt:=top 51
theorem JiB:Jan ["thing"] ["thing"] (Jae BbN):=by bv_decide
def Jek (K:W.Frag):Sp:=fun vs H Q E=>∃ (x:V) (g:GD),vs=[x]/\TV K H g.td x/\TOk g.td/\∀ H',Same H H'->Q (.bl true) H'
theorem Jie (F:FunD K "is_gap" "is_gap" BbN dV f fd) (T:Txt K mg Ad) (BcH:Cal P w K mg base 5 "is_tie" ["thing"] [] (Jel K)):FnOk P w K mg base (CX1 P w) 6 f fd ["thing"] (Jek K):=by
 refine F.okn JiB (by subst_eqs) (fun m A c s H j Q E n h=>?_)
 obtain ⟨x,g,rfl,h⟩:=h;refine ⟨_,(Jai (Jaq (JcG (BcH.ev n ⋯ rfl passF (Jaa (pv 0) Jac)) (JcG (Jbn JdN (pe_ix ix_U (pv 0) Jad) JcS (JaA _)) (Jdd (Jbn JdN (pe_ix ix_U (pv 0) Jad) JcS (JaA _))))))),?_⟩;obtain ⟨d,o,k⟩:=h;show tRet _ _ [some x] H;cbv;refine ⟨x,g,rfl,d,o,fun l b=>?_⟩;obtain ⟨a,vl,p,rfl,e,⟨_,rfl,_⟩,⟨_,rfl,_⟩⟩:=d;cbv;refine ixT (i:=3) (e.same b) rfl ?_;cbv;refine ixT (i:=4) (e.same b) rfl ?_;cbv;exact k l b
abbrev Bbs:Stmt:=top 54
theorem Jhu:Jan ["thing"] ["thing"] (Jae Bbs):=by bv_decide
def JdB (K:W.Frag) (Ad:Adr):Sp:=fun vs H Q E=>∃ (x:V) (p:PD),vs=[x]/\PDV K H p x/\POk p/\∀ v H',Same H H'->POV K Ad H' p v->Q v H'
theorem Jhp (F:FunD K "part_of" "part_of" Bbs dV f fd) (T:Txt K mg Ad) (Bce:Cal P w K mg base 5 "is_part" ["thing"] [] (Jdz K)) (Bdz:KCal P w K mg base 1 "Part" Ad.Part ["self","row"] (JbD K)):FnOk P w K mg base (CX1 P w) 6 f fd ["thing"] (JdB K Ad):=by
 refine F.okn Jhu (by subst_eqs) (fun G A g s H B Q E r h=>?_)
 obtain ⟨x,p,rfl,h⟩:=h;refine ⟨_,(Jab (ps_if (Jbt (Ja7 (Bce.ev r ⋯ rfl passF (Jaa (pv 0) Jac)))) (Jai ps_no)
   Jaw) (Jai (Jaq (Bdz.ev r ⋯ rfl passF (Jaa (pv 0) Jac))))),?_⟩
 obtain ⟨z,J,k⟩:=h;show tSeq _ _ _ [some x] H;cbv;refine ⟨x,p,rfl,z,J,fun i l=>?_⟩;cbv;obtain ⟨b,t,n,rfl,I,D,C⟩:=z;intro y a j c L;have v:Same i (upd (upd i a (.own y)) y (.ins Ad.Part a [])):=fun b u q=>by rw [Jag (Jah q j),Jag (Jah q c)];exact q
 refine ⟨y,_,a,b,_,_,_,t,n,_,rfl,Jaj,T.BcB _ rfl,(I.same l).same v,fun m e o=>⟨rfl,?_⟩⟩;have d:Same H m:=l.trans fun b u q=>by rw [o b (Jah q j)];exact v _ _ q
 exact k _ m d ⟨y,a,t,n,rfl,e,D.same d,C.same d⟩
abbrev BbO:Stmt:=top 55
theorem JiA:Jan ["thing"] ["thing"] (Jae BbO):=by bv_decide
def Jej (K:W.Frag) (Ad:Adr):Sp:=fun vs H Q E=>∃ (x:V) (g:GD),vs=[x]/\TV K H g.td x/\TOk g.td/\∀ v H',Same H H'->GOV K Ad H' g v->Q v H'
theorem Jid (F:FunD K "gap_of" "gap_of" BbO dV f fd) (T:Txt K mg Ad) (BcI:Cal P w K mg base 6 "is_gap" ["thing"] [] (Jek K)) (BdR:KCal P w K mg base 1 "Gap" Ad.Gap ["self","row"] (JbW K)):FnOk P w K mg base (CX1 P w) 7 f fd ["thing"] (Jej K Ad):=by
 refine F.okn JiA (by subst_eqs) (fun G A n s H D Q E z h=>?_)
 obtain ⟨x,g,rfl,h⟩:=h;refine ⟨_,(Jab (ps_if (Jbt (Ja7 (BcI.ev z ⋯ rfl passF (Jaa (pv 0) Jac)))) (Jai ps_no)
   Jaw) (Jai (Jaq (BdR.ev z ⋯ rfl passF (Jaa (pv 0) Jac))))),?_⟩
 obtain ⟨C,J,k⟩:=h;show tSeq _ _ _ [some x] H;cbv;refine ⟨x,g,rfl,C,J,fun p t=>?_⟩;cbv;obtain ⟨b,m,l,rfl,I,i,d⟩:=C;replace i:FrV K H m g.lo.1 g.lo.2:=i;replace d:FrV K H l g.hi.1 g.hi.2:=d;intro y a r c L;have B:Same p (upd (upd p a (.own y)) y (.ins Ad.Gap a [])):=fun b u q=>by rw [Jag (Jah q r),Jag (Jah q c)];exact q
 refine ⟨y,_,a,b,_,_,_,m,l,rfl,Jaj,T.Bdy _ rfl,(I.same t).same B,fun v e o=>⟨rfl,?_⟩⟩;have j:Same H v:=t.trans fun b u q=>by rw [o b (Jah q r)];exact B _ _ q
 exact k _ v j ⟨y,a,m,l,rfl,e,i.same j,d.same j⟩
abbrev Baf:Stmt:=inClass (top 56) 0
theorem Jdg:Jan ["self"] ["self"] (Jae Baf):=by bv_decide
def Jbq (K:W.Frag) (Ad:Adr):Sp:=fun vs H Q E=>∃ (x dx:Addr),vs=[.ref x]/\H x=some (.ins Ad.Joints dx [])/\∀ d H',H d=none->d≠x->H' x=some (.ins Ad.Joints dx [("leads", .ref d)])->H' d=some (.dK [])->(∀ b u,b≠x->H b=some u->H' b=some u)->Q .non H'
theorem Jc9 (F:FunD K "__init__" "Joints.__init__" Baf dV f fd) (T:Txt K mg Ad)  : FnOk P w K mg base (CX1 P w) 1 f fd ["self"] (Jbq K Ad):=by
 refine F.okn Jdg (by subst_eqs) (fun o A c s H m Q E t h=>?_)
 obtain ⟨x,l,rfl,h⟩:=h;refine ⟨_,(Jai (Ja5 (pv 0) JbJ rfl)),?_⟩;obtain ⟨g,k⟩:=h;have e:=T.BbS _ rfl;show sFld _ _ _ _ _ [some (.ref x)] H;mexact;rename_i d a q H r i n;mexact;refine ⟨x,_,l,_,rfl,i _ _ g,e.cls,e.n1,by simp,?_⟩;have j:d≠x:=fun z=>by rw [z,g] at a;cases a
 exact k d _ a j (Jaj.trans rfl) (by rw [Jag j];exact n) fun b u p h=>by rw [Jag p];exact i _ _ h
abbrev BaD:Stmt:=inClass (top 56) 1
theorem Jew:Jan ["self","part"] ["self","part"] (Jae BaD):=by bv_decide
def Jca (K:W.Frag) (Ad:Adr):Sp:=fun vs H Q E=>∃ (j d:Addr) (v:V) (ls:List PD) (p:PD) (H0:Hp),vs=[.ref j,v]/\JK Ad H0 H j d ls/\Same H0 H/\POV K Ad H p v/\p.st≠p.en/\ls.length<=20/\∀ H',Same H0 H'->SameJ d H H'->JK Ad H0 H' j d (ls++[p])->Q .non H'
theorem Jeq (F:FunD K "link" "Joints.link" BaD dV f fd) (T:Txt K mg Ad)  : FnOk P w K mg base (CX1 P w) 1 f fd ["self","part"] (Jca K Ad):=by
 refine F.okn Jew (by subst_eqs) (fun f5 A f3 s H vs Q E hr h=>?_)
 obtain ⟨j,d,v,ls,p,H0,rfl,h⟩:=h;refine ⟨_,(Jab (Jbb (pe_bm PySem.F.plainAttrs_list PySem.F.slot_list_append PySem.F.type_list_append Ja9 (Jio (Jat (pv 0) rfl) (Jat (pv 1) rfl) (Jba Jac) ⟨rfl,rfl,rfl,rfl⟩) (Jaa (JaD (Jaa (Jat (pv 1) rfl) (Jaa (JaD (Jaa (Jat (pv 1) rfl) (Jaa pe_bl Jac))) Jac))) Jac) (hs:=by exact Jaf rfl))) (Jai (Jbb (pe_bm PySem.F.plainAttrs_list PySem.F.slot_list_append PySem.F.type_list_append Ja9 (Jio (Jat (pv 0) rfl) (Jat (pv 1) rfl) (Jba Jac) ⟨rfl,rfl,rfl,rfl⟩) (Jaa (JaD (Jaa (Jat (pv 1) rfl) (Jaa (JaD (Jaa (Jat (pv 1) rfl) (Jaa pe_bl Jac))) Jac))) Jac) (hs:=by exact Jaf rfl))))),?_⟩
 obtain ⟨⟨⟨dx,c9⟩,b4,B,a4,hk,d5⟩,e0,hv,d6,hl,k⟩:=h;obtain ⟨q,dq,vz,vm,rfl,a1,hz,hm⟩:=hv;have sl:(1000:Nat)<=sizeLine:=by decide
 have jc:=T.BbS _ rfl;have C:=T.BcB _ rfl;have nj:j≠d:=fun z=>by rw [z,a4] at c9;cases c9
 have nq:q≠d:=fun z=>by rw [z,a4] at a1;cases a1
 have f1:∀ f,(JaB ls f).length<=20:=fun f=>by have:=JeY ls f;ac_nf
 show tSeq _ _ _ [some (.ref j),some (.ref q)] H;mleave;obtain ⟨H1,hH⟩:∃ H',H'=H:=⟨_,rfl⟩;subst hH;refine ⟨j,_,dx,_, .ref d,rfl,c9,jc.cls,jc.n1,rfl,?_⟩;mleave;refine ⟨d,rfl, .inl ⟨B, .inl a4⟩,?_⟩;refine ⟨q,_,dq,_, .str p.st,rfl,a1,C.cls,C.n2,rfl,?_⟩;mleave;refine ⟨len0,?_⟩;rename_i l1 X f4 H1 e9 c4 f2;mleave;refine ⟨B,Sum.inr p.st,c4 _ _ a4,rfl,by ac_nf,fun v hv=>?_,fun hv=>?_⟩
 ·obtain ⟨l,r,d4,d1,a8,d3⟩:∃ l r,v=.ref l/\H0 l=none/\H1 l=some (.lst r)/\All2 (LeV H1) ((JaB ls) p.st) r:=by
   rcases d5.at_ p.st with ⟨h1,_⟩ | ⟨l,r,h1,h2,h3,h4⟩
   ·rw [hv] at h1;cases h1
   ·rw [hv] at h1;cases h1;exact ⟨l,r,rfl,h2,h3,h4⟩
  subst d4;have f0:r.length<=20:=by rw [d3.length];exact f1 _
  refine ⟨.inl ⟨rfl,_,SqL.of (c4 _ _ a8)⟩,?_⟩;mleave;have a:=c4 _ _ a1;obtain ⟨c3,N⟩:∃ H',H'=e9:=⟨_,rfl⟩;rw [<- N] at a ⊢;refine ⟨q,_,dq,_, .str p.en,rfl,a,C.cls,C.n3,rfl,?_⟩;mleave;refine ⟨q,_,dq,_, .str p.nm,rfl,a,C.cls,C.n1,rfl,?_⟩;mleave;refine ⟨len2,?_⟩;rename_i e4 e3 d7 c3 e7 e5 e6;mleave;refine ⟨len2,?_⟩;rename_i d2 d9 e1 e7 b9 c8 d8;mleave;have c6:LeV b9 (p.en,(p.nm,true)) (.ref d2):=⟨d2,e4,rfl,d8,c8 _ _ e6⟩;have I:=e5.trans c8;have i:=I _ _ (by rw [N];exact c4 _ _ a8:c3 l=some (.lst r));refine ⟨l,r,_,rfl,rfl,i,by ac_nf,?_⟩;generalize u2:upd b9 l _=W;mleave;have m:Same H1 b9:=fun b u h=>I _ _ (by rw [N];exact c4 _ _ h);have a0:=(d5.same m).more hv i c6 u2;have a3:SameJ d H1 W:=fun b u _ Y h=>by rw [<- u2,Jag (fun z=>by have:=m _ _ h;rw [z,i] at this;cases this;exact Y _ rfl)];exact m _ _ h
  have t:W d=some (.dK B):=by rw [<- u2,Jag (fun z=>by have:=m _ _ a4;rw [z,i] at this;cases this)];exact m _ _ a4
  have b6:Same H0 W:=fun b u h=>by rw [<- u2,Jag (Jah h d1)];exact m _ _ (e0 _ _ h)
  have b8:=a3 _ _ nj (by intro r z;cases z) c9;have M:=a3 _ _ nq (by intro r z;cases z) a1;have d0:∀ f,(addL (JaB ls) p.st (p.en,(p.nm,true)) f).length<=21:=fun f=>by
   have:=JeY ls f;unfold addL;split
   ·rw [length_append,length_singleton];ac_nf
   ·ac_nf
  mleave;refine ⟨j,_,dx,_, .ref d,rfl,b8,jc.cls,jc.n1,rfl,?_⟩;mleave;refine ⟨d,rfl, .inl ⟨B, .inl t⟩,?_⟩;refine ⟨q,_,dq,_, .str p.en,rfl,M,C.cls,C.n3,rfl,?_⟩;mleave;refine ⟨len0,?_⟩;rename_i Z n e8 W c7 G e2;mleave;refine ⟨B,Sum.inr p.en,G _ _ t,rfl,by ac_nf,fun v hv=>?_,fun hv=>?_⟩
  ·obtain ⟨l,r,d4,d1,a8,d3⟩:∃ l r,v=.ref l/\H0 l=none/\W l=some (.lst r)/\All2 (LeV W) ((addL (JaB ls) p.st (p.en,(p.nm,true))) p.en) r:=by
    rcases a0.at_ p.en with ⟨h1,_⟩ | ⟨l,r,h1,h2,h3,h4⟩
    ·rw [hv] at h1;cases h1
    ·rw [hv] at h1;cases h1;exact ⟨l,r,rfl,h2,h3,h4⟩
   subst d4;have f0:r.length<=21:=by rw [d3.length];exact d0 _
   refine ⟨.inl ⟨rfl,_,SqL.of (G _ _ a8)⟩,?_⟩;mleave;have a:=G _ _ M;obtain ⟨x,N⟩:∃ H',H'=c7:=⟨_,rfl⟩;rw [<- N] at a ⊢;refine ⟨q,_,dq,_, .str p.st,rfl,a,C.cls,C.n2,rfl,?_⟩;mleave;refine ⟨q,_,dq,_, .str p.nm,rfl,a,C.cls,C.n1,rfl,?_⟩;mleave;refine ⟨len2,?_⟩;rename_i c0 b5 b0 x b3 b1 c1;mleave;refine ⟨len2,?_⟩;rename_i J b2 a9 b3 y S b7;mleave;have L:LeV y (p.st,(p.nm,false)) (.ref J):=⟨J,c0,rfl,b7,S _ _ c1⟩;have c:=b1.trans S;have i:=c _ _ (by rw [N];exact G _ _ a8:x l=some (.lst r));refine ⟨l,r,_,rfl,rfl,i,by ac_nf,?_⟩;generalize u3:upd y l _=H3;mleave;have m:Same W y:=fun b u h=>c _ _ (by rw [N];exact G _ _ h);have U:=(a0.same m).more hv i L u3;have R:SameJ d W H3:=fun b u _ Y h=>by rw [<- u3,Jag (fun z=>by have:=m _ _ h;rw [z,i] at this;cases this;exact Y _ rfl)];exact m _ _ h
   have a2:H3 d=some (.dK B):=by rw [<- u3,Jag (fun z=>by have:=m _ _ t;rw [z,i] at this;cases this)];exact m _ _ t
   have c2:Same H0 H3:=fun b u h=>by rw [<- u3,Jag (Jah h d1)];exact m _ _ (b6 _ _ h)
   rw [Jc4 d6] at U;refine k H3 c2 (fun b u O Y h=>R b u O Y (a3 b u O Y h)) ⟨⟨dx,R _ _ nj (by intro r z;cases z) b8⟩,b4,_,a2,?_,U⟩;rw [length_append,length_singleton];ac_nf
  ·have a6:H0 Z=none:=by
    cases e:H0 Z with
    | none=>rfl
    | some o=>rw [b6 _ _ e] at n;cases n
   generalize uc:upd c7 d _=x;mleave;have nd:Z≠d:=fun z=>by rw [z,t] at n;cases n
   have a5:x Z=some (.lst []):=by rw [<- uc,Jag nd];exact e2
   have D:∀ b u,b≠d->W b=some u->x b=some u:=fun b u O h=>by rw [<- uc,Jag O];exact G _ _ h
   have c5:x d=some (.dK (putK B (Sum.inr p.en) (.ref Z))):=by rw [<- uc,Jaj]
   refine ⟨.inl ⟨rfl,_,SqL.of a5⟩,?_⟩;mleave;have a:=D _ _ (fun z=>by rw [z,t] at M;cases M) M;refine ⟨q,_,dq,_, .str p.st,rfl,a,C.cls,C.n2,rfl,?_⟩;mleave;refine ⟨q,_,dq,_, .str p.nm,rfl,a,C.cls,C.n1,rfl,?_⟩;mleave;refine ⟨len2,?_⟩;rename_i c0 b5 b0 x b3 b1 c1;mleave;refine ⟨len2,?_⟩;rename_i J b2 a9 b3 y S b7;mleave;have L:LeV y (p.st,(p.nm,false)) (.ref J):=⟨J,c0,rfl,b7,S _ _ c1⟩;have c:=b1.trans S;have i:=c _ _ a5;refine ⟨Z,[],_,rfl,rfl,i,by show 0<sizeLine;ac_nf,?_⟩;generalize u3:upd y Z _=H3;mleave;have U:=((a0.sx D t).same c).first hv a6 (fun g l' a7 z=>by
    rcases a0.at_ g with ⟨h1,_⟩ | ⟨Z,xs2,h1,_,h3,_⟩
    ·rw [a7] at h1;cases h1
    ·rw [a7] at h1;cases h1;rw [z,n] at h3;cases h3) i L u3
   have R:SameJ d W H3:=fun b u O Y h=>by rw [<- u3,Jag (fun z=>by rw [z,n] at h;cases h)];exact c _ _ (D _ _ O h)
   have a2:=c _ _ c5;rw [show y d=H3 d by rw [<- u3,Jag (Ne.symm nd)]] at a2;have c2:Same H0 H3:=fun b u h=>by rw [<- u3,Jag (Jah h a6)];exact c _ _ (D _ _ (Jah h b4) (b6 _ _ h))
   have lp:=Jbl B (Sum.inr p.en) (V.ref Z);rw [Jc4 d6] at U;refine k H3 c2 (fun b u O Y h=>R b u O Y (a3 b u O Y h)) ⟨⟨dx,R _ _ nj (by intro r z;cases z) b8⟩,b4,_,a2,?_,U⟩;rw [length_append,length_singleton];ac_nf
 ·have a6:H0 l1=none:=by
   cases e:H0 l1 with
   | none=>rfl
   | some o=>rw [e0 _ _ e] at X;cases X
  generalize uc:upd e9 d _=c3;mleave;have nd:l1≠d:=fun z=>by rw [z,a4] at X;cases X
  have a5:c3 l1=some (.lst []):=by rw [<- uc,Jag nd];exact f2
  have D:∀ b u,b≠d->H1 b=some u->c3 b=some u:=fun b u O h=>by rw [<- uc,Jag O];exact c4 _ _ h
  have c5:c3 d=some (.dK (putK B (Sum.inr p.st) (.ref l1))):=by rw [<- uc,Jaj]
  refine ⟨.inl ⟨rfl,_,SqL.of a5⟩,?_⟩;mleave;have a:=D _ _ (fun z=>by rw [z,a4] at a1;cases a1) a1;refine ⟨q,_,dq,_, .str p.en,rfl,a,C.cls,C.n3,rfl,?_⟩;mleave;refine ⟨q,_,dq,_, .str p.nm,rfl,a,C.cls,C.n1,rfl,?_⟩;mleave;refine ⟨len2,?_⟩;rename_i e4 e3 d7 c3 e7 e5 e6;mleave;refine ⟨len2,?_⟩;rename_i d2 d9 e1 e7 b9 c8 d8;mleave;have c6:LeV b9 (p.en,(p.nm,true)) (.ref d2):=⟨d2,e4,rfl,d8,c8 _ _ e6⟩;have I:=e5.trans c8;have i:=I _ _ a5;refine ⟨l1,[],_,rfl,rfl,i,by show 0<sizeLine;ac_nf,?_⟩;generalize u2:upd b9 l1 _=W;mleave;have a0:=((d5.sx D a4).same I).first hv a6 (fun g l' a7 z=>by
   rcases d5.at_ g with ⟨h1,_⟩ | ⟨Z,xs2,h1,_,h3,_⟩
   ·rw [a7] at h1;cases h1
   ·rw [a7] at h1;cases h1;rw [z,X] at h3;cases h3) i c6 u2
  have a3:SameJ d H1 W:=fun b u O Y h=>by rw [<- u2,Jag (fun z=>by rw [z,X] at h;cases h)];exact I _ _ (D _ _ O h)
  have t:=I _ _ c5;rw [show b9 d=W d by rw [<- u2,Jag (Ne.symm nd)]] at t;have b6:Same H0 W:=fun b u h=>by rw [<- u2,Jag (Jah h a6)];exact I _ _ (D _ _ (Jah h b4) (e0 _ _ h))
  have lp:=Jbl B (Sum.inr p.st) (V.ref l1);have b8:=a3 _ _ nj (by intro r z;cases z) c9;have M:=a3 _ _ nq (by intro r z;cases z) a1;have d0:∀ f,(addL (JaB ls) p.st (p.en,(p.nm,true)) f).length<=21:=fun f=>by
   have:=JeY ls f;unfold addL;split
   ·rw [length_append,length_singleton];ac_nf
   ·ac_nf
  mleave;refine ⟨j,_,dx,_, .ref d,rfl,b8,jc.cls,jc.n1,rfl,?_⟩;mleave;refine ⟨d,rfl, .inl ⟨(putK B (Sum.inr p.st) (V.ref l1)), .inl t⟩,?_⟩;refine ⟨q,_,dq,_, .str p.en,rfl,M,C.cls,C.n3,rfl,?_⟩;mleave;refine ⟨len0,?_⟩;rename_i Z n e8 W c7 G e2;mleave;refine ⟨(putK B (Sum.inr p.st) (V.ref l1)),Sum.inr p.en,G _ _ t,rfl,by ac_nf,fun v hv=>?_,fun hv=>?_⟩
  ·obtain ⟨l,r,d4,d1,a8,d3⟩:∃ l r,v=.ref l/\H0 l=none/\W l=some (.lst r)/\All2 (LeV W) ((addL (JaB ls) p.st (p.en,(p.nm,true))) p.en) r:=by
    rcases a0.at_ p.en with ⟨h1,_⟩ | ⟨l,r,h1,h2,h3,h4⟩
    ·rw [hv] at h1;cases h1
    ·rw [hv] at h1;cases h1;exact ⟨l,r,rfl,h2,h3,h4⟩
   subst d4;have f0:r.length<=21:=by rw [d3.length];exact d0 _
   refine ⟨.inl ⟨rfl,_,SqL.of (G _ _ a8)⟩,?_⟩;mleave;have a:=G _ _ M;obtain ⟨x,N⟩:∃ H',H'=c7:=⟨_,rfl⟩;rw [<- N] at a ⊢;refine ⟨q,_,dq,_, .str p.st,rfl,a,C.cls,C.n2,rfl,?_⟩;mleave;refine ⟨q,_,dq,_, .str p.nm,rfl,a,C.cls,C.n1,rfl,?_⟩;mleave;refine ⟨len2,?_⟩;rename_i c0 b5 b0 x b3 b1 c1;mleave;refine ⟨len2,?_⟩;rename_i J b2 a9 b3 y S b7;mleave;have L:LeV y (p.st,(p.nm,false)) (.ref J):=⟨J,c0,rfl,b7,S _ _ c1⟩;have c:=b1.trans S;have i:=c _ _ (by rw [N];exact G _ _ a8:x l=some (.lst r));refine ⟨l,r,_,rfl,rfl,i,by ac_nf,?_⟩;generalize u3:upd y l _=H3;mleave;have m:Same W y:=fun b u h=>c _ _ (by rw [N];exact G _ _ h);have U:=(a0.same m).more hv i L u3;have R:SameJ d W H3:=fun b u _ Y h=>by rw [<- u3,Jag (fun z=>by have:=m _ _ h;rw [z,i] at this;cases this;exact Y _ rfl)];exact m _ _ h
   have a2:H3 d=some (.dK (putK B (Sum.inr p.st) (V.ref l1))):=by rw [<- u3,Jag (fun z=>by have:=m _ _ t;rw [z,i] at this;cases this)];exact m _ _ t
   have c2:Same H0 H3:=fun b u h=>by rw [<- u3,Jag (Jah h d1)];exact m _ _ (b6 _ _ h)
   rw [Jc4 d6] at U;refine k H3 c2 (fun b u O Y h=>R b u O Y (a3 b u O Y h)) ⟨⟨dx,R _ _ nj (by intro r z;cases z) b8⟩,b4,_,a2,?_,U⟩;rw [length_append,length_singleton];ac_nf
  ·have a6:H0 Z=none:=by
    cases e:H0 Z with
    | none=>rfl
    | some o=>rw [b6 _ _ e] at n;cases n
   generalize uc:upd c7 d _=x;mleave;have nd:Z≠d:=fun z=>by rw [z,t] at n;cases n
   have a5:x Z=some (.lst []):=by rw [<- uc,Jag nd];exact e2
   have D:∀ b u,b≠d->W b=some u->x b=some u:=fun b u O h=>by rw [<- uc,Jag O];exact G _ _ h
   have c5:x d=some (.dK (putK (putK B (Sum.inr p.st) (V.ref l1)) (Sum.inr p.en) (.ref Z))):=by rw [<- uc,Jaj]
   refine ⟨.inl ⟨rfl,_,SqL.of a5⟩,?_⟩;mleave;have a:=D _ _ (fun z=>by rw [z,t] at M;cases M) M;refine ⟨q,_,dq,_, .str p.st,rfl,a,C.cls,C.n2,rfl,?_⟩;mleave;refine ⟨q,_,dq,_, .str p.nm,rfl,a,C.cls,C.n1,rfl,?_⟩;mleave;refine ⟨len2,?_⟩;rename_i c0 b5 b0 x b3 b1 c1;mleave;refine ⟨len2,?_⟩;rename_i J b2 a9 b3 y S b7;mleave;have L:LeV y (p.st,(p.nm,false)) (.ref J):=⟨J,c0,rfl,b7,S _ _ c1⟩;have c:=b1.trans S;have i:=c _ _ a5;refine ⟨Z,[],_,rfl,rfl,i,by show 0<sizeLine;ac_nf,?_⟩;generalize u3:upd y Z _=H3;mleave;have U:=((a0.sx D t).same c).first hv a6 (fun g l' a7 z=>by
    rcases a0.at_ g with ⟨h1,_⟩ | ⟨Z,xs2,h1,_,h3,_⟩
    ·rw [a7] at h1;cases h1
    ·rw [a7] at h1;cases h1;rw [z,n] at h3;cases h3) i L u3
   have R:SameJ d W H3:=fun b u O Y h=>by rw [<- u3,Jag (fun z=>by rw [z,n] at h;cases h)];exact c _ _ (D _ _ O h)
   have a2:=c _ _ c5;rw [show y d=H3 d by rw [<- u3,Jag (Ne.symm nd)]] at a2;have c2:Same H0 H3:=fun b u h=>by rw [<- u3,Jag (Jah h a6)];exact c _ _ (D _ _ (Jah h b4) (b6 _ _ h))
   have lp:=Jbl (putK B (Sum.inr p.st) (V.ref l1)) (Sum.inr p.en) (V.ref Z);rw [Jc4 d6] at U;refine k H3 c2 (fun b u O Y h=>R b u O Y (a3 b u O Y h)) ⟨⟨dx,R _ _ nj (by intro r z;cases z) b8⟩,b4,_,a2,?_,U⟩;rw [length_append,length_singleton];ac_nf
abbrev Bae:Stmt:=inClass (top 56) 2
theorem JaG:Jan ["self","one","other","found","waiting","face","lead"] ["self","one","other"] (Jae Bae):=by bv_decide
def Jbc (K:W.Frag) (Ad:Adr):Sp:=fun vs H Q E=>∃ (j d:Addr) (one other:Str) (ls:List PD) (H0:Hp),vs=[.ref j, .str one, .str other]/\JK Ad H0 H j d ls/\ls.length<=20/\(ls.map (·.nm)).Nodup/\(¬ Conn ls one other->∀ H',Same H H'->Q .non H')/\(∀ w l xs H',Same H H'->H l=none->H' l=some (.lst xs)->All2 (CV H') w xs->JaR ls one w other->(w.map (·.1)).Nodup->Q (.ref l) H')
theorem JcF (F:FunD K "way_between" "Joints.way_between" Bae dV f fd) (T:Txt K mg Ad)  : FnOk P w K mg base (CX1 P w) 1 f fd ["self","one","other"] (Jbc K Ad):=by
 refine F.okn JaG (by subst_eqs) (fun i6 A g8 s H vs Q E hr h=>?_)
 obtain ⟨j,d,one,other,M,H0,rfl,h⟩:=h;have hu:=hr.units;refine ⟨_,(Jab (Jak 3 JaG.nd (Jk1 (Jjy (pv 1) (Jba Jac) Jk8) rfl rfl (by simp) ⋯)) (Jab (Jak 4 JaG.nd (Jba (Jaa (pv 1) Jac))) (Jab (JdO PassesOwn.never (Jaz JfR (Jay JaY rfl T.BbP JbG (Jaa (pv 4) Jac)) Jad (JaA _)) (Jab (Jak 5 JaG.nd (Jl0 PySem.F.plainAttrs_list PySem.F.slot_list_pop PySem.F.type_list_pop JlR (pv 4))) (Jai (Ja6 PassesOwn.never rfl (pi_U (Jjt (hu1 hu) (Jat (pv 0) rfl) (pv 5) (Jba Jac) ⟨rfl,rfl,rfl,rfl⟩)) (Jar 6 JaG.nd) (Jai (ps_if (Jee (Jdc (hu1 hu) (pe_ix ix_U (pv 6) Jad) (pv 3)) (by with_unfolding_all rfl)) (Jab (Jco (hu1 hu) (pv 3) (pe_ix ix_U (pv 6) Jad) (pe_op JaI (Jb8 (hu1 hu) (pv 3) (pv 5) (fun _ _=>rfl)) (Jba (Jaa (pe_ix ix_U (pv 6) Jad) Jac))) rfl) (Jai (Jbb (pe_bm PySem.F.plainAttrs_list PySem.F.slot_list_append PySem.F.type_list_append Ja9 (pv 4) (Jaa (pe_ix ix_U (pv 6) Jad) Jac) (hs:=by exact Jaf rfl)))))
   Jaw)))))) (Jai (Jaq (Jjs (hu1 hu) (pv 3) (pv 2) ⟨rfl,rfl,rfl,rfl⟩)))))),?_⟩
 clear hu;obtain ⟨⟨⟨dx,hj⟩,i5,d3,hd,hk,hJ⟩,hl,f4,k1,k2⟩:=h;have sl:(1000:Nat)<=sizeLine:=by decide
 have jc:=T.BbS _ rfl;show tSeq _ _ _ [some (.ref j),some (.str one),some (.str other),none,none,none,none] H;mleave;rename_i fd b0 i2 H H1 S1 e1;mleave;refine ⟨len0,?_⟩;rename_i l0 N h0 H1 H2 S2 e2;mleave;refine ⟨S2 _ _ e1,[(Sum.inr one, .ref l0)],rfl,by show 1<=15;ac_nf,?_⟩;generalize u3:upd H2 fd _=H3;mleave;have e3:H3 fd=some (.dK [(Sum.inr one, .ref l0)]):=by rw [<- u3];exact Jaj.trans rfl
 have e0:l0≠fd:=fun z=>by rw [z,e1] at N;cases N
 have d5:H3 l0=some (.lst []):=by rw [<- u3,Jag e0];exact e2
 have d6:Same H H3:=fun b u h=>by rw [<- u3,Jag (Jah h b0)];exact S2 _ _ (S1 _ _ h)
 have g2:H l0=none:=by
  cases e:H l0 with
  | none=>rfl
  | some o=>rw [S1 _ _ e] at N;cases N
 refine ⟨by show 1<=sizeLine;ac_nf,?_⟩;rename_i I G i0 H3 H4 S4 e4;mleave;have b2:H I=none:=by
  cases e:H I with
  | none=>rfl
  | some o=>rw [d6 _ _ e] at G;cases G
 have e5:l0≠I:=fun z=>by rw [<- z,d5] at G;cases G
 have i3:fd≠I:=fun z=>by rw [<- z,e3] at G;cases G
 have d7:Srch H M one fd I H4 [(one,[])] [one]:=⟨d6.trans S4,⟨_,S4 _ _ e3,rfl, .ref l0,[],rfl,⟨l0,[],rfl,g2,e5,S4 _ _ d5,rfl⟩,rfl⟩,by simp,by simp,fun a J=>by rw [mem_singleton.mp J];exact .nil,e4,by simp,by simp,fun a J=>by rw [mem_singleton.mp J];simp⟩;refine ⟨fun m σ H'=>∃ (v5 v6:Option V) (ws:List (Str × List Pr)) (wt:List Str),σ=[some (.ref j),some (.str one),some (.str other),some (.ref fd),some (.ref I),v5,v6]/\Srch H M one fd I H' ws wt/\(∀ a∈ws,a.1∉wt->∀ e∈JaB M a.1,e.1∈ws.map (·.1))/\m=2*(41-ws.length)+wt.length/\m<=81,⟨_,none,none,[(one,[])],[one],rfl,d7,fun a J W=>absurd (by rw [mem_singleton.mp J];simp) W,rfl,by simp⟩,?_⟩;rintro m σ H5 ⟨v5,v6,ws,wt,rfl,S,cl,rfl,b3⟩;mleave;refine ⟨_, .inl (SqL.of S.wait),?_⟩;mleave;rcases List.eq_nil_or_concat wt with rfl | ⟨wt',face,rfl⟩
 ·rw [if_neg (by simp)];mleave;obtain ⟨f0,b6,f8⟩:=S.dict;mleave;refine ⟨fd,rfl, .inl ⟨f0, .inl b6⟩,_,DGet.k (k:=Sum.inr other) b6,?_⟩;rcases f8.get (z:=other) with ⟨a,v,R,h2,h3,l,xs,rfl,h4,_,h5,h6⟩ | ⟨R,h2⟩
  ·rw [h3];exact k2 a.2 l xs H5 S.same h4 h5 h6 (by rw [<- h2];exact S.walk a R) (S.sim a R).1
  ·rw [h2];refine k1 (fun hc=>R (Jkv S.here (fun f hf e he=>?_) hc)) H5 S.same;obtain ⟨a,J,rfl⟩:=mem_map.mp hf;exact cl a J (by simp) e he
 ·rw [if_pos (by simp)];mleave;rw [List.concat_eq_append] at S cl b3 ⊢;refine ⟨_,fun _ _ q=>q,?_⟩;mleave;refine ⟨.inl ⟨rfl,_,SqL.of S.wait⟩,?_⟩;refine ⟨I,_, .str face,rfl,rfl,S.wait,by simp,?_⟩;generalize u6:upd H5 I _=H6;mleave;have ed:((wt'++[face]).map V.str).dropLast=wt'.map V.str:=by simp
  rw [ed] at u6;have a7:Srch H M one fd I H6 ws wt':=S.wait' b2 u6 fun f hf=>S.sub f (by simp [hf]);have b5:=S.sub face (by simp);mleave;refine ⟨j,_,dx,_, .ref d,rfl,a7.same _ _ hj,jc.cls,jc.n1,rfl,?_⟩;mleave;refine ⟨d,rfl, .inl ⟨d3, .inl (a7.same _ _ hd)⟩,len0,?_⟩;rename_i le c7 h8 H6 H7 S7 e7;mleave;have a1:=a7.grow S7;have g0:le≠I:=fun z=>by have:=a7.wait;rw [<- z,c7] at this;cases this
  refine ⟨_,DGet.k (k:=Sum.inr face) (a1.same _ _ hd),?_⟩;obtain ⟨la,xs,g6,c9,d2,f1⟩:∃ la xs,(valV d3 (Sum.inr face)).getD (.ref le)=.ref la/\H7 la=some (.lst xs)/\All2 (LeV H7) (JaB M face) xs/\la≠I:=by
   rcases hJ.at_ face with ⟨R,h2⟩ | ⟨l,xs,R,h2,h3,h4⟩
   ·exact ⟨le,[],by rw [R];rfl,e7,by rw [h2];rfl,g0⟩
   ·exact ⟨l,xs,by rw [R];rfl,a1.same _ _ h3,h4.mono fun _ _ z=>z.sameT a1.same.t,Jah h3 b2⟩
  have lx:=d2.length;have j2:=a1.len hl;refine ⟨la,g6,ForA.byL (xs:=xs) (SqL.of c9) (fun i σ H'=>i<=xs.length/\∃ (v6:Option V) (r:List (Str × List Pr)) (B:List Str),σ=[some (.ref j),some (.str one),some (.str other),some (.ref fd),some (.ref I),some (.str face),v6]/\Srch H M one fd I H' r B/\H' la=some (.lst xs)/\SameT H7 H'/\(∀ a∈r,a.1∉B->a.1≠face->∀ e∈JaB M a.1,e.1∈r.map (·.1))/\(∀ e∈(JaB M face).take i,e.1∈r.map (·.1))/\face∈r.map (·.1)/\2*(41-r.length)+B.length<=2*(41-ws.length)+wt'.length) ⟨Nat.zero_le _,v6,ws,wt',rfl,a1,c9,SameT.refl _,fun a J R h2=>cl a J (by simp [R,h2]),by simp,b5,Nat.le_refl _⟩ (fun i σ H' z=>by obtain ⟨_,_,_,_,_,_,z,_⟩:=z;exact SqL.of z) ?_ ?_⟩
  ·rintro i y σ H8 hy ⟨hi,v6,r,B,rfl,C,a2,U,a6,a0,X,c2⟩;have li:i<xs.length:=(List.getElem?_eq_some_iff.mp hy).1;obtain ⟨e,he,b,c,rfl,g5,g1⟩:=d2.at_ hy;have a4:=U _ _ rfl g5;have f5:=U _ _ rfl g1;have b8:(JaB M face).take (i+1)=(JaB M face).take i++[e]:=by rw [take_succ,he];rfl
   have c5:e∈JaB M face:=List.mem_of_getElem? he;obtain ⟨j3,a3,a8⟩:=C.dict;mleave;refine ixT (i:=0) (SqT.of a4) rfl ?_;refine ⟨fd,_,rfl,DGet.k (k:=Sum.inr e.1) a3,?_⟩;rw [a8.val];by_cases O:e.1∈r.map (·.1)
   ·rw [decide_eq_true O];mleave;refine ⟨li,_,r,B,rfl,C,a2,U,a6,fun e' L=>?_,X,c2⟩;rw [b8] at L;rcases mem_append.mp L with h' | h'
    ·exact a0 e' h'
    ·rw [mem_singleton.mp h'];exact O
   ·rw [decide_eq_false O];mleave;obtain ⟨a,v,J,f3,hv,l,xw,rfl,j1,i8,c0,d1⟩:=a8.some X;have i4:=C.lw a J;have i9:=C.len hl;have j0:=d1.length;refine ⟨fd, .ref l,rfl,by rw [<- hv];exact DGet.k (k:=Sum.inr face) a3,?_⟩;refine ixT (i:=1) (SqT.of a4) rfl ?_;refine ⟨by show 1<=sizeLine;ac_nf,?_⟩;rename_i ln i1 h7 H8 H9 S9 e9;mleave;refine .inl ⟨l,ln,xw,_,rfl,rfl,S9 _ _ c0,e9,by simp;ac_nf,?_⟩;rename_i lr Y h9 H9 Z f7 g3;mleave;mleave;have n:=S9.trans f7;have b7:=C.grow n;refine ixT (i:=0) (SqT.of (n _ _ a4)) rfl ?_;have lk:=a8.length;refine ⟨fd,_,rfl,DPut.k (k:=Sum.inr e.1) (n _ _ a3) ∅,?_⟩;generalize b4:upd Z fd _=a5;mleave;have n0:H lr=none:=by
     cases e:H lr with
     | none=>rfl
     | some o=>rw [S9 _ _ (C.same _ _ e)] at Y;cases Y
    have e8:lr≠I:=fun z=>by have:=(C.grow S9).wait;rw [<- z,Y] at this;cases this
    have f2:JaR M one (a.2++[e.2]) e.1:=.snoc (by rw [<- f3];exact C.walk a J) c5;have b1:=n _ _ a3;have c4:=a8.mono (P':=PWy H Z I) fun a v ζ=>(by obtain ⟨l,xs,e1,W,f6,hx,J⟩:=ζ;exact ⟨l,xs,e1,W,f6,n _ _ hx,J.mono fun _ _ z=>z.sameT n.t⟩);have cv:CV Z e.2 (.ref c):=⟨c,rfl,n _ _ f5⟩;obtain ⟨pp,c1,c8⟩:=(Ja0 (g:=e.1) (pr:=e.2)).mp c5;have c3:e.2.1=pp.nm:=by rcases c8 with h | h;rw [h.2.2];rw [h.2.2.2]
    have b9:(pp.st=face/\pp.en=e.1)\/(pp.en=face/\pp.st=e.1):=by rcases c8 with h | h;exact .inl ⟨h.1,h.2.1⟩;exact .inr ⟨h.2.1,h.2.2.1⟩
    have f9:((a.2++[e.2]).map (·.1)).Nodup/\∀ p∈M,p.nm∈(a.2++[e.2]).map (·.1)->p.st∈(r++[(e.1,a.2++[e.2])]).map (·.1)/\p.en∈(r++[(e.1,a.2++[e.2])]).map (·.1):=by
     have sm:=C.sim a J;have d8:e.2.1∉a.2.map (·.1):=fun z=>by
      have:=sm.2 pp c1 (c3 ▸ z);rcases b9 with h | h
      ·exact O (h.2 ▸ this.2)
      ·exact O (h.2 ▸ this.1)
     rw [map_append,map_append,map_cons,map_nil,map_cons,map_nil];refine ⟨nodup_append.mpr ⟨sm.1,by simp,fun x hx y hy z=>d8 (by rw [mem_singleton] at hy;rw [<- hy, <- z];exact hx)⟩,fun p hp W=>?_⟩;rcases mem_append.mp W with W | W
     ·have:=sm.2 p hp W;exact ⟨mem_append.mpr (.inl this.1),mem_append.mpr (.inl this.2)⟩
     ·have ep:=Jib f4 hp c1 ((mem_singleton.mp W).trans c3);subst ep;have m1:e.1∈r.map (·.1)++[e.1]:=mem_append.mpr (.inr (by simp));have m2:face∈r.map (·.1)++[e.1]:=mem_append.mpr (.inl X);rcases b9 with h | h
      ·rw [h.1,h.2];exact ⟨m2,m1⟩
      ·rw [h.1,h.2];exact ⟨m1,m2⟩
    have D:=b7.find b1 c4 b0 O f2 (by simp;ac_nf) f9 n0 e8 g3 ((d1.mono (P':=CV Z) fun _ _ z=>z.sameT n.t).append (.one cv)) b4;have c6:SameT Z a5:=SameT.put b4 b1 rfl;have d9:la≠fd:=fun z=>by rw [z,a3] at a2;cases a2
    have d0:a5 la=some (.lst xs):=by rw [<- b4,Jag d9];exact n _ _ a2
    have g7:=D.len hl;rw [length_append,length_singleton] at g7;have i7:(B.map V.str).length<=81:=by
     rw [length_map];rw [length_append,length_singleton] at b3;ac_nf
    refine ⟨.inl ⟨rfl,_,SqL.of D.wait⟩,?_⟩;refine ixT (i:=0) (SqT.of (c6 _ _ rfl (n _ _ a4))) rfl ?_;refine ⟨I,_,_,rfl,rfl,D.wait,by ac_nf,?_⟩;generalize a9:upd a5 I _=g9;mleave;have ea:B.map V.str++[V.str e.1]=(B++[e.1]).map V.str:=by simp
    rw [ea] at a9;have d4:=D.wait' b2 a9 (fun f hf=>by
     rcases mem_append.mp hf with h' | h'
     ·exact D.sub f h'
     ·rw [mem_singleton.mp h',map_append];simp)
    have e6:SameT a5 g9:=SameT.put a9 D.wait rfl;refine ⟨li,_,r++[(e.1,a.2++[e.2])],B++[e.1],rfl,d4,by rw [<- a9,Jag f1];exact d0,U.trans (n.t.trans (c6.trans e6)),fun a' g4 R h2 e' L=>?_,fun e' L=>?_,?_,?_⟩
    ·rw [map_append];rcases mem_append.mp g4 with h' | h'
     ·exact mem_append.mpr (.inl (a6 a' h' (fun z=>R (by simp [z])) h2 e' L))
     ·refine absurd ?_ R;rw [mem_singleton.mp h'];simp
    ·rw [map_append];rw [b8] at L;rcases mem_append.mp L with h' | h'
     ·exact mem_append.mpr (.inl (a0 e' h'))
     ·rw [mem_singleton.mp h'];simp
    ·rw [map_append];exact mem_append.mpr (.inl X)
    ·rw [length_append,length_append,length_singleton,length_singleton];ac_nf
  ·rintro σ H8 ⟨hi,v6,r,B,rfl,C,a2,U,a6,a0,X,c2⟩;rw [length_append,length_singleton] at b3;refine ⟨_,by rw [length_append,length_singleton];ac_nf,some (.str face),v6,r,B,rfl,C,fun a J W e he=>?_,rfl,by ac_nf⟩;by_cases c:a.1=face
   ·rw [take_of_length_le ∅] at a0;rw [c] at he;exact a0 e he
   ·exact a6 a J W c e he
abbrev Baj:Stmt:=inClass (top 57) 0
theorem JaE:Jan ["self","parts","gaps","joints","row","part","gap","found"] ["self","parts","gaps"] (Jae Baj):=by bv_decide
def Jby (K:W.Frag) (Ad:Adr):Sp:=fun vs H Q E=>∃ (x dx a c:Addr) (xs zs:List V) (ls0:List PD) (gs0:List GD) (H0:Hp),vs=[.ref x, .ref a, .ref c]/\H x=some (.ins Ad.Thing dx [])/\H0 x=none/\Same H0 H/\SqL K H0 a xs/\All2 (PDV K H0) ls0 xs/\SqL K H0 c zs/\All2 (fun (g:GD) v=>TV K H0 g.td v) gs0 zs/\ls0.length<=20/\gs0.length<=20/\(∀ p∈ls0,POk p)/\(∀ g∈gs0,TOk g.td)/\(ls0.map (·.nm)).Nodup/\(gs0.map (·.nm)).Nodup/\(∀ (i:Nat) p,ls0[i]?=some p->¬ Conn (ls0.take i) p.st p.en)/\(∀ g∈gs0,Conn ls0 g.st g.en)/\∀ H',Same H0 H'->TK K Ad H' x ls0 gs0->Q .non H'
theorem Jdt (F:FunD K "__init__" "Thing.__init__" Baj dV f fd) (T:Txt K mg Ad) (BcJ:KCal P w K mg base 1 "Joints" Ad.Joints ["self"] (Jbq K Ad)) (Bcf:Cal P w K mg base 6 "part_of" ["thing"] [] (JdB K Ad)) (BcK:Cal P w K mg base 7 "gap_of" ["thing"] [] (Jej K Ad)) (Ba1:MCal P w K mg base 1 "way_between" (Jc3 Ad) ["self","one","other"] (Jbc K Ad)) (BdA:MCal P w K mg base 1 "link" (Jc3 Ad) ["self","part"] (Jca K Ad)):FnOk P w K mg base (CX1 P w) 9 f fd ["self","parts","gaps"] (Jby K Ad):=by
 refine F.okn JaE (by subst_eqs) (fun n9 A n0 s H vs Q E hr h=>?_)
 obtain ⟨x,Y,a,c,xs,zs,f0,f8,M,rfl,h⟩:=h;have hu:=hr.units;refine ⟨_,(Jab (Jak 3 JaE.nd (BcJ.ev0 hr ⋯ rfl passF)) (Jab (Ja5 (pv 0) JbJ rfl) (Jab (Ja6 PassesOwn.never rfl (pi_U (pv 1)) (Jar 4 JaE.nd) (Jab (Jak 5 JaE.nd (Bcf.ev hr ⋯ rfl passF (Jaa (pv 4) Jac))) (Jab (ps_if (Jee (JgW (hu1 hu) (Jat (pv 5) rfl) (Jat (pv 0) rfl)) (by with_unfolding_all rfl)) (Jai ps_no)
   Jaw) (Jab (ps_if (Jaz JdN (Ba1.m hr ⋯ passF (pv 3) (Jaa (Jat (pv 5) rfl) (Jaa (Jat (pv 5) rfl) Jac))) JcS (JaA _)) (Jai ps_no)
   Jaw) (Jab (Jbb (BdA.m hr ⋯ passF (pv 3) (Jaa (pv 5) Jac))) (Jai (Jco (hu1 hu) (Jat (pv 0) rfl) (Jat (pv 5) rfl) (pv 5) rfl))))))) (Jab (Ja5 (pv 0) JbJ rfl) (Jab (Ja5 (pv 0) JbJ rfl) (Jai (Ja6 PassesOwn.never rfl (pi_U (pv 2)) (Jar 4 JaE.nd) (Jab (Jak 6 JaE.nd (BcK.ev hr ⋯ rfl passF (Jaa (pv 4) Jac))) (Jab (ps_if (Jee (JgW (hu1 hu) (Jat (pv 6) rfl) (Jat (pv 0) rfl)) (by with_unfolding_all rfl)) (Jai ps_no)
   Jaw) (Jab (Jak 7 JaE.nd (Ba1.m hr ⋯ passF (pv 3) (Jaa (Jat (pv 6) rfl) (Jaa (Jat (pv 6) rfl) Jac)))) (Jab (ps_if (Jaz Jfd (pv 7) JcS (JaA _)) (Jai ps_no)
   Jaw) (Jab (Jco (hu1 hu) (Jat (pv 0) rfl) (Jat (pv 6) rfl) (pv 6) rfl) (Jai (Jco (hu1 hu) (Jat (pv 0) rfl) (Jat (pv 6) rfl) (pv 7) rfl)))))))))))))),?_⟩
 clear hu;obtain ⟨hx,d9,S0,hS,hE,hC,hG,hl,hg,l5,j9,l3,m6,k7,m5,k⟩:=h;have X:=T.Bba _ rfl;have pc:=T.BcB _ rfl;have gc:=T.Bdy _ rfl;have sl:(1000:Nat)<=sizeLine:=by decide
 have le:=hE.length;have lg:=hG.length;show tSeq _ _ _ [some (.ref x),some (.ref a),some (.ref c),none,none,none,none,none] H;mvcgen;intro j dj hj m7 nj;have Sm:Same H (upd (upd H dj (.own j)) j (.ins Ad.Joints dj [])):=fun b u q=>by rw [Jag (Jah q hj),Jag (Jah q m7)];exact q
 generalize um:upd (upd H dj (.own j)) j (.ins Ad.Joints dj [])=Hm at Sm ⊢;mvcgen;have em:Hm j=some (.ins Ad.Joints dj []):=by rw [<- um,Jaj]
 refine ⟨j,dj,rfl,em,fun d H1 m9 o0 k9 c2 i5=>⟨rfl,?_⟩⟩;have L:∀ {H:Hp} {b:Addr},Same M H->H b=none->M b=none:=fun {H b} S h=>by
  cases e:M b with
  | none=>rfl
  | some o=>rw [S _ _ e] at h;cases h
 have c8:∀ {H n:Hp} {d:Addr} {kv:List (Key × V)},(∀ b u,b≠d->H b=some u->n b=some u)->H d=some (.dK kv)->SameI H n:=fun {H n d kv} S hd b u t h=>S b u (fun z=>by rw [z,hd] at h;cases h;simp [isTI,isTF] at t) h;have h6:∀ {H n:Hp} {d b:Addr} {kv:List (Key × V)} {ys:List V},(∀ b u,b≠d->H b=some u->n b=some u)->H d=some (.dK kv)->H b=some (.lst ys)->n b=some (.lst ys):=fun {H n d b kv ys} S hd h=>S _ _ (fun z=>by rw [z,hd] at h;cases h) h;have f7:∀ {H n:Hp} {e:Addr} {kv:List (Key × V)} {D:List PD},(∀ b u,b≠e->H b=some u->n b=some u)->H e=some (.dK kv)->e≠d->JK Ad M H j d D->JK Ad M n j d D:=fun {H n e kv D} S he ne ⟨⟨dj,h1⟩,h2,kvs,h3,h4,h5⟩=>⟨⟨dj,S _ _ (fun z=>by rw [z,he] at h1;cases h1) h1⟩,h2,kvs,S _ _ (Ne.symm ne) h3,h4,h5.sx S he⟩;have j0:=L S0 hj;have g8:Same M H1:=fun b u h=>i5 b u (Jah h j0) (Sm _ _ (S0 _ _ h));have d6:x≠j:=Jah hx hj;have f4:H1 x=some (.ins Ad.Thing Y []):=i5 x _ d6 (Sm _ _ hx);have d0:M d=none:=L (S0.trans Sm) m9
 (try ((with_reducible refine Nxt.go (by assumption) ?_);mvcgen))
 rename_i N U n6 H1 H2 S2 e2;mvcgen;mvcgen;refine ⟨x,_,Y,_,rfl,S2 _ _ f4,X.cls,X.n1,by simp,?_⟩;generalize u3:upd H2 x _=H3;mvcgen;have e3:H3 x=some (.ins Ad.Thing Y [("parts_by_name", .ref N)]):=by rw [<- u3];exact Jaj.trans rfl
 have b5:∀ b u,b≠x->H2 b=some u->H3 b=some u:=fun b u hb h=>by rw [<- u3,Jag hb];exact h
 have j7:Same M H3:=fun b u h=>b5 _ _ (Jah h d9) (S2 _ _ (g8 _ _ h));have f5:d≠x:=fun z=>by rw [z,f4] at c2;cases c2
 have a4:N≠x:=fun z=>by rw [z,f4] at U;cases U
 have c6:N≠d:=fun z=>by rw [z,c2] at U;cases U
 have i2:H3 N=some (.dK []):=b5 _ _ a4 e2;have l1:=L g8 U;have l6:JK Ad M H3 j d []:=⟨⟨dj,b5 _ _ (Ne.symm d6) (S2 _ _ k9)⟩,d0,[],b5 _ _ f5 (S2 _ _ c2),by simp,JD.nil⟩;refine ⟨a,rfl,ForA.byL (xs:=xs) (hS.same j7) (fun i σ n=>i<=xs.length/\∃ (v4 v5:Option V) (k1:List (Key × V)) (D:List PD),σ=[some (.ref x),some (.ref a),some (.ref c),some (.ref j),v4,v5,none,none]/\Same M n/\n x=some (.ins Ad.Thing Y [("parts_by_name", .ref N)])/\JK Ad M n j d D/\n N=some (.dK k1)/\BG (·.nm) (POV K Ad n) D k1/\D.length=i/\(D.map (·.nm)).Nodup/\D=f0.take i) ⟨Nat.zero_le _,none,none,[],[],rfl,j7,e3,l6,i2,⟨rfl,rfl⟩,rfl, .nil,rfl⟩ (fun i σ n z=>by obtain ⟨_,_,_,_,_,_,z,_⟩:=z;exact hS.same z) ?_ ?_⟩
 ·rintro i y σ H4 hy ⟨hi,v4,v5,k1,D,rfl,S4,a2,f9,a8,c3,j1,b8,hw⟩;have li:i<xs.length:=(List.getElem?_eq_some_iff.mp hy).1;obtain ⟨p,hp,e0⟩:=hE.at_ hy;have ok:=l5 p (List.mem_of_getElem? hp);have j6:D++[p]=f0.take (i+1):=by rw [hw,take_succ,hp];rfl
  have cn:p.nm∉D.map (·.nm):=Jgi j6 l3;have lk:=c3.length;mvcgen;refine ⟨y,p,rfl,e0.sameT S4.t,ok,fun v H5 S5 pv=>?_⟩;obtain ⟨q,dq,vz,vm,rfl,c1,hz,hm⟩:=id pv;have f2:=S5 _ _ a2;have h8:=S5 _ _ a8;have f6:=f9.same S5;have h0:=c3.mono (P':=POV K Ad H5) fun _ _ z=>z.si (Same.i S5);obtain ⟨⟨i4,g3⟩,_⟩:=id f6;mvcgen;refine ⟨q,_,dq,_, .str p.nm,rfl,c1,pc.cls,pc.n1,rfl,?_⟩;refine ⟨x,_,Y,_, .ref N,rfl,f2,X.cls,X.n1,rfl,?_⟩;refine ⟨N,_,rfl,DGet.k (k:=Sum.inr p.nm) h8,?_⟩;rw [h0.val];rw [decide_eq_false cn];mvcgen;refine ⟨j,_,i4,_,rfl,g3,rfl,rfl,?_⟩;mvcgen;refine ⟨q,_,dq,_, .str p.st,rfl,c1,pc.cls,pc.n2,rfl,?_⟩;refine ⟨q,_,dq,_, .str p.en,rfl,c1,pc.cls,pc.n3,rfl,?_⟩;refine ⟨j,d,p.st,p.en,D,M,rfl,f6,by ac_nf,b8,fun hc H6 S6=>?_,fun w l yy H6 S6 n8 e6 g7 e4 _=>absurd (show Conn D p.st p.en from ⟨w,e4⟩) (by rw [hw];exact k7 i p hp)⟩;mvcgen;have e1:=f6.same S6;have e9:=S4.trans (S5.trans S6);refine ⟨j,_,i4,_,rfl,S6 _ _ g3,rfl,rfl,?_⟩;mvcgen;refine ⟨j,d, .ref q,D,p,M,rfl,e1,e9,pv.si (Same.i S6),ok.ne,by ac_nf,fun H7 m8 sj m1=>?_⟩;have nd:∀ {b:Addr} {C dd:Addr} {ff:List (Str × V)},H6 b=some (.ins C dd ff)->H7 b=some (.ins C dd ff):=fun {b C dd ff} h=>by
   obtain ⟨_,_,_,g0,_⟩:=e1;exact sj _ _ (fun z=>by rw [z,g0] at h;cases h) (by intro xs z;cases z) h
  have SI:SameI H6 H7:=fun b u t h=>by
   obtain ⟨_,_,_,g0,_⟩:=e1;exact sj b u (fun z=>by rw [z,g0] at h;cases h;simp [isTI,isTF] at t) (fun xs z=>by rw [z] at t;simp [isTI,isTF] at t) h
  have d5:H7 N=some (.dK k1):=sj _ _ c6 (by intro xs z;cases z) (S6 _ _ h8);have k0:=h0.mono (P':=POV K Ad H7) fun _ _ z=>(z.si (Same.i S6)).si SI;have k6:=(pv.si (Same.i S6)).si SI;mvcgen;refine ⟨x,_,Y,_, .ref N,rfl,nd (S6 _ _ f2),X.cls,X.n1,rfl,?_⟩;refine ⟨q,_,dq,_, .str p.nm,rfl,nd (S6 _ _ c1),pc.cls,pc.n1,rfl,?_⟩;refine ⟨N,_,rfl,DPut.k (k:=Sum.inr p.nm) d5 ∅,?_⟩;generalize u8:upd H7 N _=H8;mvcgen;have e8:=putE u8;have c0:∀ b u,b≠N->H7 b=some u->H8 b=some u:=fun b u hb h=>by rw [<- u8,Jag hb];exact h
  have l7:=c8 c0 d5;refine ⟨li,_,_,_,D++[p],rfl,fun b u h=>c0 _ _ (Jah h l1) (m8 _ _ h),c0 _ _ (Ne.symm a4) (nd (S6 _ _ f2)),f7 c0 d5 c6 m1,e8,?_,by simp [j1],by rw [map_append];exact nodup_append.mpr ⟨b8,by simp,fun u hu v hv z=>cn (by have e:v=p.nm:=mem_singleton.mp hv;rw [<- e, <- z];exact hu)⟩,j6⟩;exact (k0.new (a:=p) cn k6).mono fun _ _ z=>z.si l7
 ·rintro σ H4 ⟨hi,v4,v5,k1,D,rfl,S4,a2,f9,a8,c3,j1,b8,hw⟩;rw [take_of_length_le ∅] at hw;subst hw;mvcgen;obtain ⟨⟨k5,m3⟩,_,m4,a5,i9,l8⟩:=id f9;rename_i d2 J n7 H4 H5 S5 e5;mvcgen;refine ⟨x,_,Y,_,rfl,S5 _ _ a2,X.cls,X.n2,by simp,?_⟩;generalize u6:upd H5 x _=H6;mvcgen;have e6:H6 x=some (.ins Ad.Thing Y [("parts_by_name", .ref N),("gaps_by_name", .ref d2)]):=by rw [<- u6];exact Jaj.trans rfl
  have b4:∀ b u,b≠x->H5 b=some u->H6 b=some u:=fun b u hb h=>by rw [<- u6,Jag hb];exact h
  mvcgen;rename_i d3 r n4 H6 H7 S7 e7;mvcgen;refine ⟨x,_,Y,_,rfl,S7 _ _ e6,X.cls,X.n3,by simp,?_⟩;generalize u8:upd H7 x _=H8;mvcgen;have e8:H8 x=some (.ins Ad.Thing Y [("parts_by_name", .ref N),("gaps_by_name", .ref d2),("ways", .ref d3)]):=by rw [<- u8];exact Jaj.trans rfl
  have f3:∀ b u,b≠x->H7 b=some u->H8 b=some u:=fun b u hb h=>by rw [<- u8,Jag hb];exact h
  have a0:∀ b u,b≠x->H4 b=some u->H8 b=some u:=fun b u hb h=>f3 _ _ hb (S7 _ _ (b4 _ _ hb (S5 _ _ h)));have b0:d2≠x:=fun z=>by rw [z,a2] at J;cases J
  have d8:d2≠N:=fun z=>by rw [z,a8] at J;cases J
  have j4:d2≠d:=fun z=>by rw [z,a5] at J;cases J
  have c7:d3≠x:=fun z=>by rw [z,e6] at r;cases r
  have g4:=b4 _ _ a4 (S5 _ _ a8);have k8:=b4 _ _ f5 (S5 _ _ a5);have c5:=b4 _ _ b0 e5;have d4:d3≠N:=fun z=>by rw [z,g4] at r;cases r
  have j5:d3≠d:=fun z=>by rw [z,k8] at r;cases r
  have a9:d3≠d2:=fun z=>by rw [z,c5] at r;cases r
  have l9:=L S4 J;have e9:Same M H6:=fun b u h=>b4 _ _ (Jah h d9) (S5 _ _ (S4 _ _ h));have l2:=L e9 r;have j2:Same M H8:=fun b u h=>a0 _ _ (Jah h d9) (S4 _ _ h);have i0:SameT H4 H8:=fun b u t h=>a0 _ _ (fun z=>by rw [z,a2] at h;cases h;simp [isTF] at t) h;have l4:JK Ad M H8 j d D:=⟨⟨k5,a0 _ _ (Ne.symm d6) m3⟩,d0,m4,a0 _ _ f5 a5,i9,l8.sy a0 a2 (by intro xs z;cases z) rfl⟩;have m0:BG (·.nm) (POV K Ad H8) D k1:=c3.mono fun p v ⟨q,dq,vz,vm,h1,h2,h3,h4⟩=>⟨q,dq,vz,vm,h1,a0 _ _ (ne_of h2 a2 (by
   intro z;injection z with _ _ z3
   have:=congrArg List.length z3;simp [partF] at this)) h2,h3.sameT i0,h4.sameT i0⟩
  refine ⟨c,rfl,ForA.byL (xs:=zs) (hC.same j2) (fun i σ n=>i<=zs.length/\∃ (v4 v6 v7:Option V) (k2 k3:List (Key × V)) (gs:List GD),σ=[some (.ref x),some (.ref a),some (.ref c),some (.ref j),v4,v5,v6,v7]/\Same M n/\n x=some (.ins Ad.Thing Y [("parts_by_name", .ref N),("gaps_by_name", .ref d2),("ways", .ref d3)])/\JK Ad M n j d D/\n N=some (.dK k1)/\BG (·.nm) (POV K Ad n) D k1/\n d2=some (.dK k2)/\BG (·.nm) (GOV K Ad n) gs k2/\n d3=some (.dK k3)/\BG (·.nm) (WOV n D) gs k3/\gs.length=i/\gs=f8.take i) ⟨Nat.zero_le _,v4,none,none,[],[],[],rfl,j2,e8,l4,a0 _ _ a4 a8,m0,f3 _ _ b0 (S7 _ _ c5),⟨rfl,rfl⟩,f3 _ _ c7 e7,⟨rfl,rfl⟩,rfl,rfl⟩ (fun i σ n z=>by obtain ⟨_,_,_,_,_,_,_,_,z,_⟩:=z;exact hC.same z) ?_ ?_⟩
  ·rintro i y σ H9 hy ⟨hi,v4,v6,v7,k2,k3,gs,rfl,S9,b2,i1,b3,c9,a3,a7,b1,b7,h9,b6⟩;have li:i<zs.length:=(List.getElem?_eq_some_iff.mp hy).1;obtain ⟨g,f1,e0⟩:=hG.at_ hy;have ok:=j9 g (List.mem_of_getElem? f1);have i8:gs++[g]=f8.take (i+1):=by rw [b6,take_succ,f1];rfl
   have cn:g.nm∉gs.map (·.nm):=Jgi i8 m6;have lk:=a7.length;have o2:=b7.length;mvcgen;refine ⟨y,g,rfl,TV.sameT S9.t e0,ok,fun v o1 b9 gv=>?_⟩;obtain ⟨q,dq,vl,vg,rfl,O,hz,hm⟩:=id gv;have g5:=b9 _ _ b2;have i6:=b9 _ _ a3;have a6:=i1.same b9;obtain ⟨⟨h7,g9⟩,_⟩:=id a6;mvcgen;refine ⟨q,_,dq,_, .str g.nm,rfl,O,gc.cls,gc.n1,rfl,?_⟩;refine ⟨x,_,Y,_, .ref d2,rfl,g5,X.cls,X.n2,rfl,?_⟩;refine ⟨d2,_,rfl,DGet.k (k:=Sum.inr g.nm) i6,?_⟩;rw [a7.val];rw [decide_eq_false cn];mvcgen;refine ⟨j,_,h7,_,rfl,g9,rfl,rfl,?_⟩;mvcgen;refine ⟨q,_,dq,_, .str g.st,rfl,O,gc.cls,gc.n2,rfl,?_⟩;refine ⟨q,_,dq,_, .str g.en,rfl,O,gc.cls,gc.n3,rfl,?_⟩;refine ⟨j,d,g.st,g.en,D,M,rfl,a6,by ac_nf,b8,fun hc Z a1=>absurd (m5 g (List.mem_of_getElem? f1)) hc,fun w l yy Z a1 n5 k4 g7 e4 j8=>?_⟩;mvcgen;have B:=b9.trans a1;have W:=B _ _ a3;refine ⟨x,_,Y,_, .ref d2,rfl,B _ _ b2,X.cls,X.n2,rfl,?_⟩;refine ⟨q,_,dq,_, .str g.nm,rfl,a1 _ _ O,gc.cls,gc.n1,rfl,?_⟩;refine ⟨d2,_,rfl,DPut.k (k:=Sum.inr g.nm) W ∅,?_⟩;generalize i7:upd Z d2 _=g1;mvcgen;have l0:=putE i7;have G:∀ b u,b≠d2->Z b=some u->g1 b=some u:=fun b u hb h=>by rw [<- i7,Jag hb];exact h
   have g6:=c8 G W;have c4:=G _ _ (Ne.symm b0) (B _ _ b2);have j3:=G _ _ (fun z=>by have:=a1 _ _ O;rw [z,W] at this;cases this) (a1 _ _ O);have R:=G _ _ a9 (B _ _ b1);mvcgen;refine ⟨x,_,Y,_, .ref d3,rfl,c4,X.cls,X.n3,rfl,?_⟩;refine ⟨q,_,dq,_, .str g.nm,rfl,j3,gc.cls,gc.n1,rfl,?_⟩;refine ⟨d3,_,rfl,DPut.k (k:=Sum.inr g.nm) R ∅,?_⟩;generalize g2:upd g1 d3 _=d7;mvcgen;have m2:=putE g2;have I:∀ b u,b≠d3->g1 b=some u->d7 b=some u:=fun b u hb h=>by rw [<- g2,Jag hb];exact h
   have i3:=c8 I R;have SI:SameI Z d7:=fun b u t h=>i3 b u t (g6 b u t h);have wv:∀ {g:GD} {v:V},WOV Z D g v->WOV d7 D g v:=fun {g v} ⟨l,xs,w,h1,h2,h3,h4⟩=>⟨l,xs,w,h1,h6 I R (h6 G W h2),h3.mono fun _ _ z=>z.sameT SI.t,h4⟩;refine ⟨li,_,_,_,_,_,gs++[g],rfl,fun b u h=>I _ _ (Jah h l2) (G _ _ (Jah h l9) (B _ _ (S9 _ _ h))),I _ _ (Ne.symm c7) c4,f7 I R j5 (f7 G W j4 (a6.same a1)),I _ _ (Ne.symm d4) (G _ _ (Ne.symm d8) (B _ _ b3)),c9.mono fun _ _ z=>(z.si (Same.i B)).si SI,I _ _ (Ne.symm a9) l0,?_,m2,?_,by simp [h9],i8⟩
   ·exact ((a7.mono (P':=GOV K Ad Z) fun _ _ z=>z.si (Same.i B)).new (a:=g) cn (gv.si (Same.i a1))).mono fun _ _ z=>z.si SI
   ·exact ((b7.mono (P':=WOV Z D) fun _ _ z=>z.same B).new (a:=g) cn ⟨l,yy,w,rfl,k4,g7,e4,j8⟩).mono fun _ _ z=>wv z
  ·rintro σ H9 ⟨hi,v4,v6,v7,k2,k3,gs,rfl,S9,b2,i1,b3,c9,a3,a7,b1,b7,h9,b6⟩;rw [take_of_length_le ∅] at b6;subst b6;mvcgen;exact k H9 S9 ⟨Y,N,d2,d3,k1,k2,k3,b2,b3,c9,a3,a7,b1,b7⟩
abbrev BaE:Stmt:=inClass (top 57) 1
theorem Jex:Jan ["self"] ["self"] (Jae BaE):=by bv_decide
def JaP (K:W.Frag) (Ad:Adr):Sp:=fun vs H Q E=>∃ (x:Addr) (ls:List PD) (gs:List GD),vs=[.ref x]/\TK K Ad H x ls gs/\ls.length<=20/\∀ l ys H',Same H H'->H l=none->H' l=some (.lst ys)->All2 (PDV K H') ls ys->Q (.ref l) H'
theorem Jer (F:FunD K "parts" "Thing.parts" BaE dV f fd) (T:Txt K mg Ad) (Bdd:MCal P w K mg base 1 "plain" (IsPart Ad) ["self"] (Jct K Ad)):FnOk P w K mg base (CX1 P w) 2 f fd ["self"] (JaP K Ad):=by
 refine F.okn Jex (by subst_eqs) (fun a1 A X s H vs Q E hr h=>?_)
 obtain ⟨x,ls,gs,rfl,h⟩:=h;refine ⟨_,(Jai (Jaq (Jgu (Jcn (own:=["part"]) (cs:=[]) (cl:=[]) rfl (Jir (Jat (pv 0) rfl)) (fun _ _ _ _=>(Jar 0 (show [("part" : Str)].Nodup by decide))) (fun _ _ _ _=>(Bdd.m0 hr ⋯ passF (pv 0))) rfl ⋯ rfl ⋯ hcl0 (hhas0 ⋯) hcs0)))),?_⟩;obtain ⟨⟨dx,a,d2,d3,l,k2,k3,hx,j,Z,_⟩,hl,k⟩:=h;have Y:=T.Bba _ rfl;have sl:(1000:Nat)<=sizeLine:=by decide
 have lk:=Z.length;show tRet _ _ [some (.ref x)] H;mleave;refine ⟨a,l,j,x,_,dx,_, .ref a,rfl,hx,Y.cls,Y.n1,rfl,a,l,rfl,j,fun I=>?_⟩;generalize uf:upd H a (.frz I (.dK l))=H1;mleave;have f1:H1 a=some (.frz I (.dK l)):=by rw [<- uf,Jaj]
 have o1:∀ b u,b≠a->H b=some u->H1 b=some u:=fun b u S h=>by rw [<- uf,Jag S];exact h
 refine CompJ.vals (fun i m y=>y a=some (.frz I (.dK l))/\(∀ b u,b≠a->H b=some u->y b=some u)/\(∀ b u,b≠a->y b=some u->H b=none->True)/\All2 (PDV K y) (ls.take i) m) ⟨f1,o1,fun _ _ _ _ _=>trivial,rfl⟩ (fun i m y hi z=>⟨z.1,by have:=z.2.2.2.length;rw [length_take] at this;ac_nf⟩) ?_ ?_
 ·rintro i v m J hv ⟨C,D,_,M⟩;simpa only [length_singleton,List.replicate,Jax,map_cons,map_nil,Option.join_some];obtain ⟨p,hp,q,dq,L,N,rfl,hq,hz,hm⟩:=Z.2.at_ hv;have U:∀ {b:Addr} {u:HO},H b=some u->isTI u=true->J b=some u:=fun {b u} h t=>D _ _ (fun z=>by rw [z,j] at h;cases h;simp [isTI,isTF] at t) h;have T2:SameT H J:=fun b u t h=>U h (by cases u <;> first | exact t | (simp [isTF] at t));refine ⟨q,_,dq,_,rfl,U hq rfl,rfl,rfl,q,dq,_,_,_,L,N,_,rfl,U hq rfl,fun r n d R=>?_⟩;refine ⟨d _ _ C,fun b u S h=>d _ _ (D _ _ S h),fun _ _ _ _ _=>trivial,?_⟩;rw [take_succ,hp];exact (M.mono (P':=PDV K n) fun _ _ z=>z.sameT d.t).append (.one ⟨r,L,N,rfl,SqT.of R,(hz.sameT T2).sameT d.t,(hm.sameT T2).sameT d.t⟩)
 ·rintro m J ⟨C,D,_,M⟩;rw [take_of_length_le ∅] at M;rename_i r g a0 J n d R;mleave;refine ⟨I,l,d _ _ C,?_⟩;generalize B:upd n a (.dK l)=G;mleave;have nr:r≠a:=fun z=>by rw [z,C] at g;cases g
  have e4:G r=some (.lst m):=by rw [<- B,Jag nr];exact R
  have W:Same H G:=fun b u h=>by
   by_cases c:b=a
   ·subst c;rw [j] at h;cases h;rw [<- B,Jaj]
   ·rw [<- B,Jag c];exact d _ _ (D _ _ c h)
  have f3:=d _ _ C;have O:∀ {b:Addr} {xs:List V},SqT K n b xs->SqT K G b xs:=fun {b xs} h=>by
   rcases h with (h | ⟨o,h⟩) | h
   ·exact .inl (.inl (by rw [<- B,Jag (fun z=>by rw [z,f3] at h;cases h)];exact h))
   ·exact .inl (.inr ⟨o,by rw [<- B,Jag (fun z=>by rw [z,f3] at h;cases h)];exact h⟩)
   ·exact .inr h
  have hn:H r=none:=by
   cases e:H r with
   | none=>rfl
   | some o=>rw [D _ _ nr e] at g;cases g
  exact k r m G W hn e4 ((M.mono (P':=PDV K n) fun _ _ z=>z.sameT d.t).mono fun p v ⟨b,L,N,h1,h2,⟨pz,h3,h4⟩,⟨pm,h5,h6⟩⟩=>⟨b,L,N,h1,O h2,⟨pz,h3,O h4⟩,⟨pm,h5,O h6⟩⟩)
abbrev BaM:Stmt:=inClass (top 57) 2
theorem Jfi:Jan ["self"] ["self"] (Jae BaM):=by bv_decide
def Jbs (K:W.Frag) (Ad:Adr):Sp:=fun vs H Q E=>∃ (x:Addr) (ls:List PD) (gs:List GD),vs=[.ref x]/\TK K Ad H x ls gs/\gs.length<=20/\∀ l ys H',Same H H'->H l=none->H' l=some (.lst ys)->All2 (fun (g:GD) v=>TV K H' g.td v) gs ys->Q (.ref l) H'
theorem Je6 (F:FunD K "gaps" "Thing.gaps" BaM dV f fd) (T:Txt K mg Ad) (Bcg:MCal P w K mg base 1 "plain" (IsGap Ad) ["self"] (JcH K Ad)):FnOk P w K mg base (CX1 P w) 2 f fd ["self"] (Jbs K Ad):=by
 refine F.okn Jfi (by subst_eqs) (fun a1 A Y s H vs Q E hr h=>?_)
 obtain ⟨x,ls,gs,rfl,h⟩:=h;refine ⟨_,(Jai (Jaq (Jgu (Jcn (own:=["gap"]) (cs:=[]) (cl:=[]) rfl (Jir (Jat (pv 0) rfl)) (fun _ _ _ _=>(Jar 0 (show [("gap" : Str)].Nodup by decide))) (fun _ _ _ _=>(Bcg.m0 hr ⋯ passF (pv 0))) rfl ⋯ rfl ⋯ hcl0 (hhas0 ⋯) hcs0)))),?_⟩;obtain ⟨⟨dx,d1,a,d3,k1,m,k3,hx,_,_,j,b2,_⟩,hl,k⟩:=h;have Z:=T.Bba _ rfl;have sl:(1000:Nat)<=sizeLine:=by decide
 have lk:=b2.length;show tRet _ _ [some (.ref x)] H;mleave;refine ⟨a,m,j,x,_,dx,_, .ref a,rfl,hx,Z.cls,Z.n2,rfl,a,m,rfl,j,fun I=>?_⟩;generalize uf:upd H a (.frz I (.dK m))=H1;mleave;have f1:H1 a=some (.frz I (.dK m)):=by rw [<- uf,Jaj]
 have o1:∀ b u,b≠a->H b=some u->H1 b=some u:=fun b u U h=>by rw [<- uf,Jag U];exact h
 refine CompJ.vals (fun i n L=>L a=some (.frz I (.dK m))/\(∀ b u,b≠a->H b=some u->L b=some u)/\All2 (fun (g:GD) v=>TV K L g.td v) (gs.take i) n) ⟨f1,o1,rfl⟩ (fun i n L hi z=>⟨z.1,by have:=z.2.2.length;rw [length_take] at this;ac_nf⟩) ?_ ?_
 ·rintro i v n J hv ⟨C,D,N⟩;simpa only [length_singleton,List.replicate,Jax,map_cons,map_nil,Option.join_some];obtain ⟨p,hp,q,dq,M,O,rfl,hq,hz,hm⟩:=b2.2.at_ hv;have W:∀ {b:Addr} {u:HO},H b=some u->isTI u=true->J b=some u:=fun {b u} h t=>D _ _ (fun z=>by rw [z,j] at h;cases h;simp [isTI,isTF] at t) h;have T2:SameT H J:=fun b u t h=>W h (by cases u <;> first | exact t | (simp [isTF] at t));refine ⟨q,_,dq,_,rfl,W hq rfl,rfl,rfl,q,dq,_,_,_,M,O,rfl,W hq rfl,fun r y d S=>?_⟩;refine ⟨d _ _ C,fun b u U h=>d _ _ (D _ _ U h),?_⟩;rw [take_succ,hp];exact (N.mono (P':=fun (g:GD) v=>TV K y g.td v) fun _ _ z=>z.sameT d.t).append (.one ⟨r,M,O,rfl,SqT.of S,(hz.sameT T2).sameT d.t,(hm.sameT T2).sameT d.t⟩)
 ·rintro n J ⟨C,D,N⟩;rw [take_of_length_le ∅] at N;rename_i r l a0 J y d S;mleave;refine ⟨I,m,d _ _ C,?_⟩;generalize B:upd y a (.dK m)=G;mleave;have nr:r≠a:=fun z=>by rw [z,C] at l;cases l
  have e4:G r=some (.lst n):=by rw [<- B,Jag nr];exact S
  have X:Same H G:=fun b u h=>by
   by_cases c:b=a
   ·subst c;rw [j] at h;cases h;rw [<- B,Jaj]
   ·rw [<- B,Jag c];exact d _ _ (D _ _ c h)
  have f3:=d _ _ C;have R:∀ {b:Addr} {xs:List V},SqT K y b xs->SqT K G b xs:=fun {b xs} h=>by
   rcases h with (h | ⟨o,h⟩) | h
   ·exact .inl (.inl (by rw [<- B,Jag (fun z=>by rw [z,f3] at h;cases h)];exact h))
   ·exact .inl (.inr ⟨o,by rw [<- B,Jag (fun z=>by rw [z,f3] at h;cases h)];exact h⟩)
   ·exact .inr h
  have hn:H r=none:=by
   cases e:H r with
   | none=>rfl
   | some o=>rw [D _ _ nr e] at l;cases l
  exact k r n G X hn e4 ((N.mono (P':=fun (g:GD) v=>TV K y g.td v) fun _ _ z=>z.sameT d.t).mono fun p v ⟨b,M,O,h1,h2,⟨pz,h3,h4⟩,⟨pm,h5,h6⟩⟩=>⟨b,M,O,h1,R h2,⟨pz,h3,R h4⟩,⟨pm,h5,R h6⟩⟩)
abbrev BaY:Stmt:=inClass (top 57) 3
theorem JfW:Jan ["self","name"] ["self","name"] (Jae BaY):=by bv_decide
def Jb4 (K:W.Frag) (Ad:Adr):Sp:=fun vs H Q E=>∃ (x:Addr) (z:Str) (ls:List PD) (gs:List GD),vs=[.ref x, .str z]/\TK K Ad H x ls gs/\(z∉gs.map (·.nm)->E (.ref Ad.NoName) none H)/\(∀ g∈gs,g.nm=z->∀ l xs w H',Same H H'->H l=none->H' l=some (.lst xs)->All2 (CV H') w xs->JaR ls g.st w g.en->(w.map (·.1)).Nodup->Q (.ref l) H')
theorem JfO (F:FunD K "way" "Thing.way" BaY dV f fd) (T:Txt K mg Ad)  : FnOk P w K mg base (CX1 P w) 1 f fd ["self","name"] (Jb4 K Ad):=by
 refine F.okx JfW (fun D H Q E h=>?_) (fun R A o s H D Q E S h=>?_)
 ·obtain ⟨x,z,U,r,rfl,_⟩:=h;rfl
 obtain ⟨x,z,U,r,rfl,h⟩:=h;have j:=S.units;refine ⟨_,(Jab (ps_if (Jee (Jdc (hu1 j) (pv 1) (Jat (pv 0) rfl)) (by with_unfolding_all rfl)) (Jai (Jg0 PySem.F.excBase_ValueError T.BbR rfl T.Bdv (Jaa JbU Jac)))
   Jaw) (Jai (Jaq (Jec Jhc rfl T.BdN JhD (Jaa (Jb8 (hu1 j) (Jat (pv 0) rfl) (pv 1) (fun _ _=>rfl)) Jac))))),?_⟩
 clear j;obtain ⟨⟨B,Z,d2,b,k1,k2,k3,p,W,b1,C,Y,a,u⟩,N,k⟩:=h;have d:=T.Bba _ rfl;show tSeq _ _ _ [some (.ref x),some (.str z)] H;mleave;refine ⟨x,_,B,_, .ref b,rfl,p,d.cls,d.n3,rfl,?_⟩;refine ⟨b,_,rfl,DGet.k (k:=Sum.inr z) a,?_⟩;rw [u.val];by_cases c:z∈r.map (·.nm)
 ·rw [decide_eq_true c];mleave;obtain ⟨g,v,J,L,X,G,y,w,rfl,i,n,V,e⟩:=u.some c;refine ⟨x,_,B,_, .ref b,rfl,p,d.cls,d.n3,rfl,?_⟩;refine ⟨b,_,rfl,by rw [<- X];exact DGet.k (k:=Sum.inr z) a,?_⟩;refine ⟨G,y,rfl, .inl (SqL.of i),?_⟩;rename_i l m M H I q O;mleave;exact k g J L l y w I q m O (n.mono fun _ _ z=>z.sameT q.t) V e
 ·rw [decide_eq_false c];mleave;exact ⟨by show 1<=sizeLine;decide,N c⟩
abbrev Bat:Stmt:=inClass (top 57) 4
theorem Ja3:Jan ["self","name","total","part","forward","size"] ["self","name"] (Jae Bat):=by bv_decide
def JbY (K:W.Frag) (Ad:Adr):Sp:=fun vs H Q E=>∃ (x:Addr) (z:Str) (ls:List PD) (gs:List GD),vs=[.ref x, .str z]/\TK K Ad H x ls gs/\(z∉gs.map (·.nm)->E (.ref Ad.NoName) none H)/\(∀ g∈gs,g.nm=z->∃ pl:Str->Fr2,(∀ u∈gs,u.nm=z->u=g)/\(∀ p∈ls, ∀ q∈ls,p.nm=q.nm->p=q)/\(∀ p∈ls,POk p)/\(∀ f,FB 302 161 (pl f))/\(∀ p∈ls,vl (pl p.en)=vl (pl p.st)+vl p.sz)/\∀ v H',Same H H'->FrV K H' v (mid pl g).1 (mid pl g).2->Q v H')
theorem Jd8 (F:FunD K "middle" "Thing.middle" Bat dV f fd) (T:Txt K mg Ad) (Bdx:MCal P w K mg base 1 "way" (Ja2 Ad) ["self","name"] (Jb4 K Ad)) (BbT:Cal P w K mg base 2 "plus" ["one","other"] [] (Jem K)) (Bbi:Cal P w K mg base 3 "minus" ["one","other"] [] (Jdk K)):FnOk P w K mg base (CX1 P w) 4 f fd ["self","name"] (JbY K Ad):=by
 refine F.okx Ja3 (fun vs H Q E h=>?_) (fun a5 A a4 s H vs Q E L h=>?_)
 ·obtain ⟨x,z,G,gs,rfl,_⟩:=h;rfl
 obtain ⟨x,z,G,gs,rfl,h⟩:=h;have hu:=L.units;refine ⟨_,(Jab (Jak 2 Ja3.nd (JaW (v:=.ref _) rfl T.Bca T.Bcb)) (Jab (Ja6 PassesOwn.leaving rfl (pi_U (Bdx.m L ⋯ pass1 (pv 0) (Jaa (pv 1) Jac))) (JeJ rfl (Jbj (Jar 3 Ja3.nd) (Jbj (Jar 4 Ja3.nd) Jdw))) (Jab (Jak 5 Ja3.nd (Jat (Jb8 (hu1 hu) (Jat (pv 0) rfl) (pv 3) (fun _ _=>rfl)) rfl)) (Jai (Jak 2 Ja3.nd (JgX (Ja7 (pv 4)) (BbT.ev L ⋯ rfl pass1 (Jaa (pv 2) (Jaa (pv 5) Jac))) (Bbi.ev L ⋯ rfl pass1 (Jaa (pv 2) (Jaa (pv 5) Jac)))))))) (Jai (Jaq (pv 2))))),?_⟩
 clear hu;obtain ⟨ht,kn,k⟩:=h;obtain ⟨dx,d1,d2,d3,k1,k2,k3,hx,a3,b1,_⟩:=id ht;have tc:=T.Bba _ rfl;have pc:=T.BcB _ rfl;show tSeq _ _ _ [some (.ref x),some (.str z),none,none,none,none] H;mleave;refine ⟨x,_,dx,_,rfl,hx,rfl,rfl,x,z,G,gs,rfl,ht,kn,fun g hg hz l xs w H1 S1 a6 e1 D hw _=>?_⟩;obtain ⟨a,a7,hN,hP,o,hV,k⟩:=k g hg hz;have lg:=JkJ hV hw;have lx:=D.length;refine ⟨l,rfl,ForA.byL (xs:=xs) (SqL.of e1) (fun i σ U=>i<=xs.length/\∃ (W X v5:Option V) (t:V) (f:Str),σ=[some (.ref x),some (.str z),some t,W,X,v5]/\Same H1 U/\FrV K U t (addF (a f) (negF (a g.st))).1 (addF (a f) (negF (a g.st))).2/\Legs G a f (w.drop i) g.en) ⟨Nat.zero_le _,none,none,none, .ref Ad.ZERO,g.st,rfl,Same.refl _,by rw [Jjh (o _)];exact ⟨Ad.ZERO,rfl,T.Bcc _⟩,lg⟩ (fun i σ U q=>by obtain ⟨_,_,_,_,_,_,_,q,_⟩:=q;exact SqL.of (q _ _ e1)) ?_ ?_⟩
 ·rintro i y σ S hy ⟨hi,W,X,v5,t,f,rfl,u,N,B⟩;have li:i<xs.length:=(List.getElem?_eq_some_iff.mp hy).1;obtain ⟨pr,C,b,rfl,hb⟩:=D.at_ hy;have I:i<w.length:=by ac_nf
  have a2:w.drop i=pr::w.drop (i+1):=by
   rw [List.drop_eq_getElem_cons I];rw [List.getElem?_eq_getElem I] at C;rw [Option.some.inj C]
  rw [a2] at B;have d:=S1.trans u;obtain ⟨p,j,n,rfl,hp,hv,J⟩:∃ p j n,pr=(p.nm,j)/\p∈G/\vl (a n)=vl (a f)+vl (sgn j p.sz)/\Legs G a n (w.drop (i+1)) g.en:=by
   cases B with
   | cons h1 h2 h3=>exact ⟨_,_,_,rfl,h1,h2,h3⟩
  mleave;refine ⟨b,_,rfl,SqT.of (u _ _ hb),rfl,?_⟩;mleave;obtain ⟨q,v,hq,R,a0,qa,dq,M,vm,rfl,O,a1,hm⟩:=b1.some (z:=p.nm) (mem_map.mpr ⟨p,hp,rfl⟩);have eq:=hN q hq p hp R;subst eq;refine ⟨x,_,dx,_, .ref d1,rfl,d _ _ hx,tc.cls,tc.n1,rfl,?_⟩;refine ⟨d1,_,rfl,by rw [<- a0];exact DGet.k (k:=Sum.inr q.nm) (d _ _ a3),?_⟩;refine ⟨qa,_,dq,_,M,rfl,d _ _ O,pc.cls,pc.n4,rfl,?_⟩;have c:=(hP q hq).z;have e:FB 464 322 (addF (a f) (negF (a g.st))):=FB.add (o _) (o _).neg ⋯ ⋯ ⋯;have fz:FrV K S M q.sz.1 q.sz.2:=a1.same d;have st:=JkI (o f) (o n) (z:=sgn j q.sz) (by cases j;exact (L2.FOk.fb c).neg;exact L2.FOk.fb c) (o g.st) hv;mleave;cases j with
  | true=>
   mleave;refine ⟨t,M,_,_,_,_,rfl,N,fz,e.s1.mono ⋯,e.s2.mono ⋯,c.s1.mono ⋯,c.s2.mono ⋯,e.b1,c.b1,e.g1,c.g1,fun r H3 Z Y=>?_⟩;exact ⟨li,_,_,_, .ref r,n,rfl,u.trans Z,by rw [<- st];exact FrV.of Y,J⟩
  | false=>
   mleave;refine ⟨t,M,_,_,_,_,rfl,N,fz,e.s1.mono ⋯,e.s2.mono ⋯,c.s1.mono ⋯,c.s2.mono ⋯,e.b1,c.b1,e.g1,c.g1,fun r H3 Z Y=>?_⟩;refine ⟨li,_,_,_, .ref r,n,rfl,u.trans Z,?_,J⟩;rw [<- st];refine FrV.of ?_;rw [Y];show _=some (HO.tup [.int (Mth.top (_*q.sz.2 + -q.sz.1*_) _), .int (Mth.bot (_*q.sz.2 + -q.sz.1*_) _)]);rw [Int.neg_mul, <- Int.sub_eq_add_neg];rfl
 ·rintro σ S ⟨hi,W,X,v5,t,f,rfl,u,N,B⟩;rw [List.drop_eq_nil_of_le ∅] at B;cases B;mleave;exact k t S (S1.trans u) N
abbrev BaN:Stmt:=inClass (top 57) 5
theorem Jbp:Jan ["self","name","middle","gap","above","below"] ["self","name"] (Jae BaN):=by bv_decide
def JbN (K:W.Frag) (Ad:Adr):Sp:=fun vs H Q E=>∃ (x:Addr) (z:Str) (ls:List PD) (gs:List GD),vs=[.ref x, .str z]/\TK K Ad H x ls gs/\(z∉gs.map (·.nm)->E (.ref Ad.NoName) none H)/\(∀ g∈gs,g.nm=z->∃ pl:Str->Fr2,(∀ u∈gs,u.nm=z->u=g)/\(∀ p∈ls, ∀ q∈ls,p.nm=q.nm->p=q)/\(∀ p∈ls,POk p)/\(∀ f,FB 302 161 (pl f))/\(∀ p∈ls,vl (pl p.en)=vl (pl p.st)+vl p.sz)/\TOk g.td/\∀ v H',Same H H'->FrV K H' v (roomF pl g).1 (roomF pl g).2->Q v H')
theorem Je7 (F:FunD K "room" "Thing.room" BaN dV f fd) (T:Txt K mg Ad) (BcL:MCal P w K mg base 4 "middle" (Ja2 Ad) ["self","name"] (JbY K Ad)) (Bbi:Cal P w K mg base 3 "minus" ["one","other"] [] (Jdk K)) (Bah:Cal P w K mg base 1 "under" ["one","other"] [] (JbP K)):FnOk P w K mg base (CX1 P w) 5 f fd ["self","name"] (JbN K Ad):=by
 refine F.okx Jbp (fun vs H Q E h=>?_) (fun a0 A J s H vs Q E p h=>?_)
 ·obtain ⟨x,z,ls,gs,rfl,_⟩:=h;rfl
 obtain ⟨x,z,ls,gs,rfl,h⟩:=h;have W:=p.units;refine ⟨_,(Jab (Jak 2 Jbp.nd (BcL.m p ⋯ pass1 (pv 0) (Jaa (pv 1) Jac))) (Jab (Jak 3 Jbp.nd (Jb8 (hu1 W) (Jat (pv 0) rfl) (pv 1) (fun _ _=>rfl))) (Jab (Jak 4 Jbp.nd (Bbi.ev p ⋯ rfl pass1 (Jaa (Jat (pv 3) rfl) (Jaa (pv 2) Jac)))) (Jab (Jak 5 Jbp.nd (Bbi.ev p ⋯ rfl pass1 (Jaa (pv 2) (Jaa (Jat (pv 3) rfl) Jac)))) (Jai (Jaq (JgX (Ja7 (Bah.ev p ⋯ rfl pass1 (Jaa (pv 4) (Jaa (pv 5) Jac)))) (pv 4) (pv 5)))))))),?_⟩
 clear W;obtain ⟨X,kn,k⟩:=h;obtain ⟨dx,d1,d2,d3,k1,k2,k3,S,a1,b1,y,b2,_⟩:=id X;have O:=T.Bba _ rfl;have u:=T.Bdy _ rfl;show tSeq _ _ _ [some (.ref x),some (.str z),none,none,none,none] H;mleave;refine ⟨x,_,dx,_,rfl,S,rfl,rfl,x,z,ls,gs,rfl,X,kn,fun g Z hz=>?_⟩;obtain ⟨pl,e,hN,hP,R,hV,hT,k⟩:=k g Z hz;refine ⟨pl,e,hN,hP,R,hV,fun v H1 o fm=>?_⟩;have b:=JlQ (g:=g) R;unfold roomF at k;generalize mid pl g=m at *;mleave;obtain ⟨a,v',C,L,I,qa,dq,q,r,rfl,j,M,D⟩:=b2.some (z:=z) (mem_map.mpr ⟨g,Z,hz⟩);have eg:=e a C L;subst eg;have l:=hT.lo _ rfl;have n:=hT.hi _ rfl;refine ⟨x,_,dx,_, .ref d2,rfl,o _ _ S,O.cls,O.n2,rfl,?_⟩;refine ⟨d2,_,rfl,by rw [<- I];exact DGet.k (k:=Sum.inr z) (o _ _ y),?_⟩;mleave;refine ⟨qa,_,dq,_,r,rfl,o _ _ j,u.cls,u.n5,rfl,?_⟩;refine ⟨r,v,_,_,_,_,rfl,D.same o,fm,n.s1.mono ⋯,n.s2.mono ⋯,b.s1.mono ⋯,b.s2.mono ⋯,n.b1,b.b1,n.g1,b.g1,fun r1 H2 S2 e2=>?_⟩;mleave;have d:=o.trans S2;refine ⟨qa,_,dq,_,q,rfl,d _ _ j,u.cls,u.n4,rfl,?_⟩;refine ⟨v,q,_,_,_,_,rfl,fm.same S2,M.same d,b.s1.mono ⋯,b.s2.mono ⋯,l.s1.mono ⋯,l.s2.mono ⋯,b.b1,l.b1,b.g1,l.g1,fun U t G e3=>?_⟩;mleave;have ea:addF a.hi (negF m)=(Mth.top (a.hi.1*m.2-m.1*a.hi.2) (a.hi.2*m.2),Mth.bot (a.hi.1*m.2-m.1*a.hi.2) (a.hi.2*m.2)):=by
  unfold addF negF;dsimp only;rw [Int.neg_mul, <- Int.sub_eq_add_neg]
 have eb:addF m (negF a.lo)=(Mth.top (m.1*a.lo.2-a.lo.1*m.2) (m.2*a.lo.2),Mth.bot (m.1*a.lo.2-a.lo.1*m.2) (m.2*a.lo.2)):=by
  unfold addF negF;dsimp only;rw [Int.neg_mul, <- Int.sub_eq_add_neg]
 have V:FrV K t (.ref r1) (addF a.hi (negF m)).1 (addF a.hi (negF m)).2:=by rw [ea];exact FrV.of (G _ _ e2)
 have N:FrV K t (.ref U) (addF m (negF a.lo)).1 (addF m (negF a.lo)).2:=by rw [eb];exact FrV.of e3
 have ba:=FB.add' (L2.FOk.fb n) b.neg;have Y:=FB.add' b (L2.FOk.fb l).neg;generalize addF a.hi (negF m)=A at *;generalize addF m (negF a.lo)=B at *;refine ⟨.ref r1, .ref U,A.1,A.2,B.1,B.2,rfl,V,N,ba.s1.mono ⋯,ba.s2.mono ⋯,Y.s1.mono ⋯,Y.s2.mono ⋯,?_⟩;mleave;by_cases c:lessF A B=true
 ·rw [if_pos c] at k;rw [if_pos (show decide (A.1*B.2<B.1*A.2)=true from c)];mleave;exact k _ t (d.trans G) V
 ·rw [if_neg c] at k;rw [if_neg (show ¬ decide (A.1*B.2<B.1*A.2)=true from c)];mleave;exact k _ t (d.trans G) N
abbrev Bak:Stmt:=inClass (top 22) 0
theorem Jbu:Jan ["self","numbers","number","factor"] ["self","numbers"] (Jae Bak):=by bv_decide
def Jbx (K:W.Frag) (Ad:Adr):Sp:=fun vs H Q E=>∃ (x dx a:Addr) (xs:List V) (ns:List Fr2),vs=[.ref x, .ref a]/\H x=some (.ins Ad.Scale dx [])/\H a=some (.lst xs)/\All2 (FLV K H) ns xs/\ns.length<=28/\(∀ n∈ns,1<=n.2/\Mth.Sz 70 n.2)/\∀ b fs fl H',H' x=some (.ins Ad.Scale dx [("bottom", .int b),("factors", .ref fl)])->H fl=none->H' fl=some (.lst (fs.map V.int))->(∀ c u,c≠x->H c=some u->H' c=some u)->Scl b fs->Mth.Sz 2000 b->fs.length<=30->Q .non H'
theorem Jds (F:FunD K "__init__" "Scale.__init__" Bak dV f fd) (T:Txt K mg Ad) (Bac:Cal P w K mg base 1 "common_divisor" ["one","other"] [] (JaC)):FnOk P w K mg base (CX1 P w) 2 f fd ["self","numbers"] (Jbx K Ad):=by
 refine F.okn Jbu (by subst_eqs) (fun a3 A a1 s H vs Q E hr h=>?_)
 obtain ⟨x,l,a,xs,ns,rfl,h⟩:=h;refine ⟨_,(Jab (Ja5 (pv 0) Jad rfl) (Jab (Ja5 (pv 0) (Jba Jac) rfl) (Jai (Ja6 PassesOwn.never rfl (pi_U (pv 1)) (Jar 2 Jbu.nd) (Jab (Jak 3 Jbu.nd (pe_op Jav (pe_ix ix_U (pv 2) Jad) (Bac.ev hr ⋯ rfl passF (Jaa (Jat (pv 0) rfl) (Jaa (pe_ix ix_U (pv 2) Jad) Jac))))) (Jai (ps_if (Jaz JfR (pv 3) Jad (JaA _)) (Jab (Ja5 (pv 0) (pe_op JaM (Jat (pv 0) rfl) (pv 3)) rfl) (Jai (Jbb (pe_bm PySem.F.plainAttrs_list PySem.F.slot_list_append PySem.F.type_list_append Ja9 (Jat (pv 0) rfl) (Jaa (pv 3) Jac) (hs:=by exact Jaf rfl)))))
   Jaw))))))),?_⟩
 obtain ⟨e0,O,hN,hl,a0,k⟩:=h;have e:=T.Bcd Ad.Scale rfl;have sl:(1000:Nat)<=sizeLine:=by decide
 have lx:=hN.length;show tSeq _ _ _ [some (.ref x),some (.ref a),none,none] H;mvcgen;refine ⟨x,_,l,_,rfl,e0,e.cls,e.n1,by simp,?_⟩;generalize u1:upd H x _=H1;mvcgen;have e1:H1 x=some (.ins Ad.Scale l [("bottom", .int 1)]):=by rw [<- u1];exact Jaj.trans rfl
 have o1:∀ b,b≠x->H1 b=H b:=fun b hb=>by rw [<- u1,Jag hb]
 mvcgen;refine ⟨len0,?_⟩;rename_i d j a2 H1 H2 Y e2;mvcgen;mvcgen;refine ⟨x,_,l,_,rfl,Y _ _ e1,e.cls,e.n2,by simp,?_⟩;generalize S:upd H2 x _=J;mvcgen;have e3:J x=some (.ins Ad.Scale l [("bottom", .int 1),("factors", .ref d)]):=by rw [<- S];exact Jaj.trans rfl
 have U:d≠x:=fun z=>by rw [z,e1] at j;cases j
 have f3:J d=some (.lst []):=by rw [<- S,Jag U];exact e2
 have o3:∀ c u,c≠x->H c=some u->J c=some u:=fun c u I h=>by rw [<- S,Jag I];exact Y _ _ (by rw [o1 c I];exact h)
 have o:H d=none:=by rw [<- o1 d U];exact j
 have B:a≠x:=fun z=>by rw [z,e0] at O;cases O
 have Z:SameT H J:=(SameT.put u1 e0 rfl).trans (Y.t.trans (SameT.put S (Y _ _ e1) rfl));mvcgen;refine ⟨a,rfl,ForA.byL (xs:=xs) (SqL.of (o3 _ _ B O)) (fun i σ G=>i<=xs.length/\∃ (v2 v3:Option V) (b:Int) (m:List Int),σ=[some (.ref x),some (.ref a),v2,v3]/\G x=some (.ins Ad.Scale l [("bottom", .int b),("factors", .ref d)])/\G d=some (.lst (m.map V.int))/\(∀ c u,c≠x->H c=some u->G c=some u)/\SameT H G/\Scl b m/\Mth.Sz (1+70*i) b/\m.length<=i) ⟨Nat.zero_le _,none,none,1,[],rfl,e3,f3,o3,Z,Scl.nil, .lit ⋯ ⋯,Nat.le_refl _⟩ (fun i σ G q=>by obtain ⟨_,_,_,_,_,_,_,_,q,_⟩:=q;exact SqL.of (q _ _ B O)) ?_ ?_⟩
 ·rintro i y σ C hy ⟨hi,v2,v3,b,m,rfl,p,X,L,W,hs,D,lf⟩;have li:=(List.getElem?_eq_some_iff.mp hy).1;obtain ⟨n,hn,R⟩:=hN.at_ hy;have R:FrV K C y n.1 n.2:=FrV.sameT W R;have r:=a0 n (List.mem_of_getElem? hn);have D:Mth.Sz 2000 b:=D.mono ∅;have gp:=Mth.g_pos (a:=b) (b:=n.2) ∅;have gd:=Mth.JbI b n.2;have gl:=Mth.g_le (a:=b) (b:=n.2) ∅;have d1:DivOk (Mth.g b n.2):=divOk (n:=70) ∅ (Nat.lt_of_le_of_lt (by ac_nf:(Mth.g b n.2).natAbs<=n.2.natAbs) r.2);have f1:=Mth.Jb2 gd ∅ r.1;have sf:Mth.Sz 70 (n.2.fdiv (Mth.g b n.2)):=r.2.fdiv gd ∅;mvcgen;refine ixF1 R ?_;refine ⟨x,_,l,_, .int b,rfl,p,e.cls,e.n1,rfl,?_⟩;refine ixF1 R ?_;mvcgen;refine ⟨_,_,rfl,?_⟩;mvcgen;refine ⟨d1,?_⟩;generalize n.2.fdiv (Mth.g b n.2)=f at *;mvcgen;by_cases c:1<f
  ·rw [if_pos (by simpa using c)];mvcgen;try simpa only [y4fy,y89y]
   refine ⟨x,_,l,_, .int b,rfl,p,e.cls,e.n1,rfl,?_⟩;try simpa only [y4fy,y89y]
   refine ⟨mulOk D sf,?_⟩;refine ⟨x,_,l,_,rfl,p,e.cls,e.n1,by simp,?_⟩;generalize M:upd C x _=v;mvcgen;have e5:v x=some (.ins Ad.Scale l [("bottom", .int (b*f)),("factors", .ref d)]):=by rw [<- M];exact Jaj.trans rfl
   have f5:v d=some (.lst (m.map V.int)):=by rw [<- M,Jag U];exact X
   have T5:SameT C v:=SameT.put M p rfl;try simpa only [y4fy,y89y]
   refine ⟨x,_,l,_, .ref d,rfl,e5,e.cls,e.n2,rfl,?_⟩;refine ⟨.inl ⟨rfl,_,SqL.of f5⟩,?_⟩;mvcgen;refine ⟨d,_,_,rfl,rfl,f5,by rw [length_map];ac_nf,?_⟩;generalize N:upd v d _=H6;mvcgen;have f6:=putE N;have T6:SameT v H6:=SameT.put N f5 rfl;mvcgen;refine ⟨li,_,_,b*f,m++[f],rfl,by rw [<- N,Jag (Ne.symm U)];exact e5,by rw [f6];simp,fun c u I h=>by rw [<- N,Jag (Jah h o), <- M,Jag I];exact L c u I h,W.trans (T5.trans T6),hs.snoc ∅,?_,by simp;ac_nf⟩;have:=(show Mth.Sz (1+70*i) b by assumption).mul sf;exact this.mono ∅
  ·rw [if_neg (by simpa using c)];mvcgen;mvcgen;exact ⟨li,_,_,b,m,rfl,p,X,L,W,hs,(show Mth.Sz (1+70*i) b by assumption).mono ∅,by ac_nf⟩
 ·rintro σ C ⟨hi,v2,v3,b,m,rfl,p,X,L,W,hs,D,lf⟩;mvcgen;exact k b m d C p o X L hs (D.mono ∅) ∅
abbrev Bau:Stmt:=inClass (top 22) 1
theorem JaT:Jan ["self","number","top","rest","factor","shared"] ["self","number"] (Jae Bau):=by bv_decide
def Jbd (K:W.Frag) (Ad:Adr):Sp:=fun vs H Q E=>∃ (x:Addr) (v:V) (n:Fr2) (b:Int) (fs:List Int),vs=[.ref x,v]/\SCK Ad H x b fs/\FrV K H v n.1 n.2/\FB 200 56 n/\∀ p (t:Fr2) H',Same H H'->H' p=some (.tup [.int t.1, .int t.2])->LInv n b t->Q (.ref p) H'
theorem Jd7 (F:FunD K "lifted" "Scale.lifted" Bau dV f fd) (T:Txt K mg Ad) (Bac:Cal P w K mg base 1 "common_divisor" ["one","other"] [] (JaC)):FnOk P w K mg base (CX1 P w) 2 f fd ["self","number"] (Jbd K Ad):=by
 refine F.okn JaT (by subst_eqs) (fun a1 A U s H vs Q E hr h=>?_)
 obtain ⟨x,v,n,b,d,rfl,h⟩:=h;have Y:=hr.units;refine ⟨_,(Jab (ps_if (Jaz (JbT Y) (pe_op JaJ (Jat (pv 0) rfl) (pe_ix ix_U (pv 1) Jad)) Jad (JaA _)) (Jai (Jaq (JaD (Jaa (pe_op JaM (pe_ix ix_U (pv 1) Jad) (pe_op Jav (Jat (pv 0) rfl) (pe_ix ix_U (pv 1) Jad))) (Jaa Jad Jac)))))
   Jaw) (Jab (Jak 2 JaT.nd (pe_ix ix_U (pv 1) Jad)) (Jab (Jak 3 JaT.nd (pe_ix ix_U (pv 1) Jad)) (Jab (Ja6 PassesOwn.never rfl (pi_U (Jat (pv 0) rfl)) (Jar 4 JaT.nd) (Jab (Jak 5 JaT.nd (Bac.ev hr ⋯ rfl passF (Jaa (pv 3) (Jaa (pv 4) Jac)))) (Jab (Jak 2 JaT.nd (pe_op JaM (pv 2) (pe_op Jav (pv 4) (pv 5)))) (Jai (Jak 3 JaT.nd (pe_op Jav (pv 3) (pv 5))))))) (Jai (Jaq (JaD (Jaa (pv 2) (Jaa (pv 3) Jac))))))))),?_⟩
 clear Y;obtain ⟨⟨W,fl,G,Z,z,L,a0⟩,o,m,k⟩:=h;have j:=T.Bcd Ad.Scale rfl;have sl:(1000:Nat)<=sizeLine:=by decide
 have R:=m.b1;have b1:=z.b1;have d1:DivOk n.2:=divOk (n:=56) ∅ m.s2;show tSeq _ _ _ [some (.ref x),some v,none,none,none,none] H;mleave;refine ⟨x,_,W,_, .int b,rfl,G,j.cls,j.n1,rfl,?_⟩;refine ixF1 o ?_;mleave;refine ⟨by ac_nf,?_⟩;by_cases c:b.fmod n.2=0
 ·rw [if_pos (by simpa using c)];mleave;mleave;refine ixF0 o ?_;refine ⟨x,_,W,_, .int b,rfl,G,j.cls,j.n1,rfl,?_⟩;refine ixF1 o ?_;mleave;have dv:n.2∣b:=by
   rw [Int.fmod_eq_emod_of_nonneg _ ∅] at c;exact Int.dvd_of_emod_eq_zero c
  refine ⟨d1,mulOk m.s1 (L.fdiv dv R),len2,?_⟩;rename_i p D M H I O N;mleave;exact k p (n.1*b.fdiv n.2,1) I O N (LInv.all R c)
 ·rw [if_neg (by simpa using c)];mleave;mleave;refine ixF0 o ?_;mleave;refine ixF1 o ?_;mleave;refine ⟨x,_,W,_, .ref fl,rfl,G,j.cls,j.n2,rfl,?_⟩;refine ⟨fl,rfl,ForA.byL (xs:=d.map V.int) (SqL.of Z) (fun i σ u=>i<=(d.map V.int).length/\u=H/\∃ (t:Fr2) (J S:Option V),σ=[some (.ref x),some v,some (.int t.1),some (.int t.2),J,S]/\LInv n (prodI (d.take i)) t) ⟨Nat.zero_le _,rfl,n,none,none,rfl,LInv.nil R m.g1⟩ (fun i σ u q=>by rw [q.2.1];exact SqL.of Z) ?_ ?_⟩
  ·rintro i y σ u l ⟨hi,rfl,t,J,S,rfl,r⟩;have C:=(List.getElem?_eq_some_iff.mp l).1;rw [length_map] at C;rw [List.getElem?_map,List.getElem?_eq_getElem C] at l;obtain ⟨f,e⟩:∃ f,f=d[i]:=⟨_,rfl⟩;rw [<- e] at l;have l:y=.int f:=(Option.some.inj l).symm;subst l;have fm:f∈d:=by rw [e];exact List.getElem_mem C
   have f1:=z.f1 f fm;have B:Mth.Sz 2000 f:=sz_le L ∅ (z.mem fm);have tk:=z.take i;have tb:=r.fb m (sz_le L ∅ tk.2);have gp:=Mth.g_pos (a:=t.2) (b:=f) ∅;have gl:=Mth.g_le (a:=t.2) (b:=f) ∅;have X:DivOk (Mth.g t.2 f):=divOk (n:=2000) ∅ (Nat.lt_of_le_of_lt (by ac_nf:(Mth.g t.2 f).natAbs<=f.natAbs) B);have qf:=B.fdiv (Mth.JbI t.2 f) ∅;have st:=r.step f1;have et:prodI (d.take (i+1))=prodI (d.take i)*f:=by
    rw [take_succ,List.getElem?_eq_getElem C, <- e];exact Jch f _
   mleave;refine ⟨_,_,rfl,?_⟩;mleave;refine ⟨X,mulOk tb.s1 qf,?_⟩;mleave;refine ⟨X,?_⟩;mleave;exact ⟨by rw [length_map];ac_nf,(t.1*f.fdiv (Mth.g t.2 f),t.2.fdiv (Mth.g t.2 f)),_,_,rfl,by rw [et];exact st⟩
  ·rintro σ u ⟨hi,rfl,t,J,S,rfl,r⟩;rw [take_of_length_le (by rw [length_map];ac_nf),z.pr] at r;mleave;refine ⟨len2,?_⟩;rename_i p D M u I O N;mleave;exact k p t I O N r
abbrev Bao:Stmt:=inClass (top 22) 2
theorem JaK:Jan ["self","number","top","bottom","factor","shared"] ["self","number"] (Jae Bao):=by bv_decide
def JbE (K:W.Frag) (Ad:Adr):Sp:=fun vs H Q E=>∃ (x:Addr) (v:V) (n:Fr2) (b:Int) (fs:List Int),vs=[.ref x,v]/\SCK Ad H x b fs/\FrV K H v n.1 n.2/\FB 3000 1000 n/\∀ p (t:Fr2) H',Same H H'->H' p=some (.tup [.int t.1, .int t.2])->LoInv n b t->Q (.ref p) H'
theorem JdI (F:FunD K "lowered" "Scale.lowered" Bao dV f fd) (T:Txt K mg Ad) (Bac:Cal P w K mg base 1 "common_divisor" ["one","other"] [] (JaC)):FnOk P w K mg base (CX1 P w) 2 f fd ["self","number"] (JbE K Ad):=by
 refine F.okn JaK (by subst_eqs) (fun a1 A C s H S Q E hr h=>?_)
 obtain ⟨x,v,n,b,c,rfl,h⟩:=h;refine ⟨_,(Jab (Jak 2 JaK.nd (pe_ix ix_U (pv 1) Jad)) (Jab (Jak 3 JaK.nd (pe_ix ix_U (pv 1) Jad)) (Jab (Ja6 PassesOwn.never rfl (pi_U (Jat (pv 0) rfl)) (Jar 4 JaK.nd) (Jab (Jak 5 JaK.nd (Bac.ev hr ⋯ rfl passF (Jaa (pv 2) (Jaa (pv 4) Jac)))) (Jab (Jak 2 JaK.nd (pe_op Jav (pv 2) (pv 5))) (Jai (Jak 3 JaK.nd (pe_op JaM (pv 3) (pe_op Jav (pv 4) (pv 5)))))))) (Jai (Jaq (JaD (Jaa (pv 2) (Jaa (pv 3) Jac)))))))),?_⟩
 obtain ⟨⟨dx,M,W,L,m,J,a0⟩,I,u,k⟩:=h;have G:=T.Bcd Ad.Scale rfl;have n1:=u.b1;have b1:=m.b1;show tSeq _ _ _ [some (.ref x),some v,none,none,none,none] H;mleave;refine ixF0 I ?_;mleave;refine ixF1 I ?_;mleave;refine ⟨x,_,dx,_, .ref M,rfl,W,G.cls,G.n2,rfl,?_⟩;refine ⟨M,rfl,ForA.byL (xs:=c.map V.int) (SqL.of L) (fun i σ l=>i<=(c.map V.int).length/\l=H/\∃ (t:Fr2) (z B:Option V),σ=[some (.ref x),some v,some (.int t.1),some (.int t.2),z,B]/\LoInv n (prodI (c.take i)) t) ⟨Nat.zero_le _,rfl,n,none,none,rfl,LoInv.nil u.lo⟩ (fun i σ l q=>by rw [q.2.1];exact SqL.of L) ?_ ?_⟩
 ·rintro i y σ l e ⟨Z,rfl,t,z,B,rfl,j⟩;have r:=(List.getElem?_eq_some_iff.mp e).1;rw [length_map] at r;rw [List.getElem?_map,List.getElem?_eq_getElem r] at e;obtain ⟨f,d⟩:∃ f,f=c[i]:=⟨_,rfl⟩;rw [<- d] at e;have e:y=.int f:=(Option.some.inj e).symm;subst e;have fm:f∈c:=by rw [d];exact List.getElem_mem r
  have f1:=m.f1 f fm;have o:Mth.Sz 2000 f:=sz_le J ∅ (m.mem fm);have O:=m.take i;have pb:Mth.Sz 2000 (prodI (c.take i)):=sz_le J ∅ O.2;have N:Mth.Sz 3000 t.2:=by
   refine Nat.lt_of_le_of_lt j.le2 ?_;have:=u.s2.mul pb;unfold Mth.Sz at this;rw [Int.natAbs_mul] at this;exact this
  have gp:=Mth.g_pos (a:=t.1) (b:=f) ∅;have gl:=Mth.g_le (a:=t.1) (b:=f) ∅;have D:DivOk (Mth.g t.1 f):=divOk (n:=2000) ∅ (Nat.lt_of_le_of_lt (by ac_nf:(Mth.g t.1 f).natAbs<=f.natAbs) o);have qf:=o.fdiv (Mth.JbI t.1 f) ∅;have st:=j.step f1;have U:prodI (c.take (i+1))=prodI (c.take i)*f:=by
   rw [take_succ,List.getElem?_eq_getElem r, <- d];exact Jch f _
  mleave;refine ⟨_,_,rfl,?_⟩;mleave;refine ⟨D,?_⟩;mleave;refine ⟨D,mulOk N qf,?_⟩;mleave;exact ⟨by rw [length_map];ac_nf,(t.1.fdiv (Mth.g t.1 f),t.2*f.fdiv (Mth.g t.1 f)),_,_,rfl,by rw [U];exact st⟩
 ·rintro σ l ⟨Z,rfl,t,z,B,rfl,j⟩;rw [take_of_length_le (by rw [length_map];ac_nf),m.pr] at j;mleave;refine ⟨len2,?_⟩;rename_i p R Y l X S1 e1;mleave;exact k p t X S1 e1 j
abbrev Ba4:Stmt:=top 35
theorem Jcr:Jan ["thing","numbers","part","gap"] ["thing"] (Jae Ba4):=by bv_decide
def Jcz (K:W.Frag) (Ad:Adr):Sp:=fun vs H Q E=>∃ (x:Addr) (ls:List PD) (gs:List GD),vs=[.ref x]/\TK K Ad H x ls gs/\ls.length<=12/\gs.length<=7/\ls.length+gs.length<=14/\(∀ p∈ls,(1<=p.sz.2/\Mth.Sz 70 p.sz.2)/\1<=p.mo.2/\Mth.Sz 70 p.mo.2)/\(∀ g∈gs,(1<=g.lo.2/\Mth.Sz 70 g.lo.2)/\1<=g.hi.2/\Mth.Sz 70 g.hi.2)/\∀ s b fs H',Same H H'->SCK Ad H' s b fs->Q (.ref s) H'
theorem Jgq (F:FunD K "scale_of" "scale_of" Ba4 dV f fd) (T:Txt K mg Ad) (Baz:MCal P w K mg base 2 "parts" (Ja2 Ad) ["self"] (JaP K Ad)) (BbU:MCal P w K mg base 2 "gaps" (Ja2 Ad) ["self"] (Jbs K Ad)) (Bde:KCal P w K mg base 2 "Scale" Ad.Scale ["self","numbers"] (Jbx K Ad)):FnOk P w K mg base (CX1 P w) 4 f fd ["thing"] (Jcz K Ad):=by
 refine F.okn Jcr (by subst_eqs) (fun b7 A b4 s H vs Q E hr h=>?_)
 obtain ⟨x,ls,gs,rfl,h⟩:=h;refine ⟨_,(Jab (Jak 1 Jcr.nd (Jba Jac)) (Jab (Ja6 PassesOwn.never rfl (pi_U (Baz.m0 hr ⋯ passF (pv 0))) (Jar 2 Jcr.nd) (Jai (Jbb (pe_bm PySem.F.plainAttrs_list PySem.F.slot_list_extend PySem.F.type_list_extend JfM (pv 1) (Jaa (Jba (Jaa (pe_ix ix_U (pv 2) Jad) (Jaa (pe_ix ix_U (pv 2) Jad) Jac))) Jac))))) (Jab (Ja6 PassesOwn.never rfl (pi_U (BbU.m0 hr ⋯ passF (pv 0))) (Jar 3 Jcr.nd) (Jai (Jbb (pe_bm PySem.F.plainAttrs_list PySem.F.slot_list_extend PySem.F.type_list_extend JfM (pv 1) (Jaa (Jba (Jaa (pe_ix ix_U (pv 3) Jad) (Jaa (pe_ix ix_U (pv 3) Jad) Jac))) Jac))))) (Jai (Jaq (Bde.ev hr ⋯ rfl passF (Jaa (pv 1) Jac))))))),?_⟩
 obtain ⟨ht,h7,h6,b8,b2,b3,k⟩:=h;obtain ⟨dx,d1,d2,d3,k1,k2,k3,hx,_⟩:=id ht;have sl:(1000:Nat)<=sizeLine:=by decide
 show tSeq _ _ _ [some (.ref x),none,none,none] H;cbv;refine ⟨len0,?_⟩;rename_i r N b5 H H1 S1 e1;cbv;cbv;refine ⟨x,_,dx,_,rfl,S1 _ _ hx,rfl,rfl,x,ls,gs,rfl,ht.same S1,by ac_nf,fun l ys H2 S2 a3 e2 hY=>?_⟩;have lY:=hY.length;have a8:l≠r:=fun z=>by rw [z,e1] at a3;cases a3
 cbv;refine ⟨l,rfl,ForA.byL (xs:=ys) (SqL.of e2) (fun i σ B=>i<=ys.length/\∃ (L M:Option V) (e:List V) (j:List Fr2),σ=[some (.ref x),some (.ref r),L,M]/\(∀ c u,c≠r->H2 c=some u->B c=some u)/\SameT H2 B/\B r=some (.lst e)/\All2 (FLV K B) j e/\(∀ n∈j,1<=n.2/\Mth.Sz 70 n.2)/\j.length=2*i) ⟨Nat.zero_le _,none,none,[],[],rfl,fun _ _ _ h=>h,(Same.refl _).t,S2 _ _ e1,rfl,(fun n d=>by cases d),rfl⟩ (fun i σ B q=>by obtain ⟨_,_,_,_,_,_,q,_⟩:=q;exact SqL.of (q _ _ a8 e2)) ?_ ?_⟩
 ·rintro i y σ H3 hy ⟨hi,L,M,e,j,rfl,ho,hT,o,v,a,S⟩;have li:=(List.getElem?_eq_some_iff.mp hy).1;have la:=v.length;obtain ⟨p,hp,b,Z,vm,rfl,hb,hz,hm⟩:=hY.at_ hy;have W:=b2 p (List.mem_of_getElem? hp);have a0:=hb.sameT hT;cbv;refine ⟨.inl ⟨rfl,_,SqL.of o⟩,?_⟩;refine ixT (i:=3) a0 rfl ?_;refine ixT (i:=4) a0 rfl ?_;cbv;refine ⟨len2,?_⟩;rename_i tl a2 a4 H3 U J e4;cbv;refine ⟨r,tl,e,_,rfl,rfl,J _ _ o,e4,by simp only [length_cons,length_nil];ac_nf,?_⟩;generalize u5:upd U r _=D;cbv;have e5:=putE u5;have T5:SameT U D:=SameT.put u5 (J _ _ o) rfl;have G:SameT H3 D:=J.t.trans T5;cbv;refine ⟨li,_,_,e++[Z,vm],j++[p.sz,p.mo],rfl,fun c u hc h=>by rw [<- u5,Jag hc];exact J _ _ (ho c u hc h),hT.trans G,e5,(v.mono (P':=FLV K D) fun _ _ z=>z.sameT G).append ⟨Z,_,rfl,FrV.sameT (hT.trans G) hz,vm,_,rfl,FrV.sameT (hT.trans G) hm,rfl⟩,fun n d=>?_,by simp;ac_nf⟩;rcases mem_append.mp d with d | d
  ·exact a n d
  ·rcases mem_cons.mp d with rfl | d
   ·exact W.1
   ·rw [mem_singleton.mp d];exact W.2
 ·rintro σ H3 ⟨hi,L,M,e,j,rfl,ho,hT,o,v,a,S⟩;have R:Same H H3:=fun c u h=>ho c u (Jah h N) (S2 _ _ (S1 _ _ h));cbv;refine ⟨x,_,dx,_,rfl,R _ _ hx,rfl,rfl,x,ls,gs,rfl,ht.same R,by ac_nf,fun m zs U J a5 e4 hZ=>?_⟩;have lZ:=hZ.length;have b1:m≠r:=fun z=>by rw [z,o] at a5;cases a5
  have la:=v.length;cbv;refine ⟨m,rfl,ForA.byL (xs:=zs) (SqL.of e4) (fun i σ B=>i<=zs.length/\∃ (L M:Option V) (e:List V) (j:List Fr2),σ=[some (.ref x),some (.ref r),L,M]/\(∀ c u,c≠r->U c=some u->B c=some u)/\SameT U B/\B r=some (.lst e)/\All2 (FLV K B) j e/\(∀ n∈j,1<=n.2/\Mth.Sz 70 n.2)/\j.length<=2*ls.length+2*i) ⟨Nat.zero_le _,L,M,e,j,rfl,fun _ _ _ h=>h,(Same.refl _).t,J _ _ o,v.mono (fun _ _ z=>z.sameT J.t),a,by ac_nf⟩ (fun i σ B q=>by obtain ⟨_,_,_,_,_,_,q,_⟩:=q;exact SqL.of (q _ _ b1 e4)) ?_ ?_⟩
  ·clear v a S o la;rintro i y σ D hy ⟨hi,L,M,e,j,rfl,O,C,o,v,a,S⟩;have li:=(List.getElem?_eq_some_iff.mp hy).1;have la:=v.length;obtain ⟨g,hg,b,Z,vm,rfl,hb,hz,hm⟩:=hZ.at_ hy;have X:=b3 g (List.mem_of_getElem? hg);have a1:=hb.sameT C;cbv;refine ⟨.inl ⟨rfl,_,SqL.of o⟩,?_⟩;refine ixT (i:=3) a1 rfl ?_;refine ixT (i:=4) a1 rfl ?_;cbv;refine ⟨len2,?_⟩;rename_i tl a2 a4 D H6 S6 e6;cbv;refine ⟨r,tl,e,_,rfl,rfl,S6 _ _ o,e6,by simp only [length_cons,length_nil];ac_nf,?_⟩;generalize u7:upd H6 r _=H7;cbv;have e7:=putE u7;have T7:SameT H6 H7:=SameT.put u7 (S6 _ _ o) rfl;have I:SameT D H7:=S6.t.trans T7;cbv;refine ⟨li,_,_,e++[Z,vm],j++[g.lo,g.hi],rfl,fun c u hc h=>by rw [<- u7,Jag hc];exact S6 _ _ (O c u hc h),C.trans I,e7,(v.mono (P':=FLV K H7) fun _ _ z=>z.sameT I).append ⟨Z,_,rfl,FrV.sameT (C.trans I) hz,vm,_,rfl,FrV.sameT (C.trans I) hm,rfl⟩,fun n d=>?_,by simp;ac_nf⟩;rcases mem_append.mp d with d | d
   ·exact a n d
   ·rcases mem_cons.mp d with rfl | d
    ·exact X.1
    ·rw [mem_singleton.mp d];exact X.2
  ·clear v a S o la;rintro σ D ⟨hi,L,M,e,j,rfl,O,C,o,v,a,S⟩;have Y:Same H D:=fun c u h=>O c u (Jah h N) (J _ _ (R _ _ h));cbv;intro s ds hs a6 b6;have Sm:Same D (upd (upd D ds (.own s)) s (.ins Ad.Scale ds [])):=fun b u q=>by rw [Jag (Jah q hs),Jag (Jah q a6)];exact q
   refine ⟨s,ds,r,e,j,rfl,Jaj,Sm _ _ o,v.mono (fun _ _ z=>z.sameT Sm.t),by ac_nf,a,fun b fs fl H6 h1 h2 h3 h4 a7 b0 a9=>⟨rfl,k s b fs H6 (fun c u h=>?_) ⟨ds,fl,h1,h3,a7,b0,a9⟩⟩⟩;exact h4 c u (Jah (Y _ _ h) hs) (Sm _ _ (Y _ _ h))
abbrev BaO:Stmt:=top 36
theorem Jfl:Jan ["thing","gap_name"] ["thing","gap_name"] (Jae BaO):=by bv_decide
def JbO (K:W.Frag) (Ad:Adr):Sp:=fun vs H Q E=>∃ (x:Addr) (ls:List PD) (gs:List GD) (g:GD),vs=[.ref x, .str g.nm]/\TK K Ad H x ls gs/\(ls.map (·.nm)).Nodup/\ls.length<=12/\g∈gs/\(∀ u∈gs,u.nm=g.nm->u=g)/\∀ l (w:List Pr) H',Same H H'->H' l=some (.lst ((w.map (·.1)).map V.str))->JaR ls g.st w g.en->(w.map (·.1)).Nodup->Q (.ref l) H'
theorem Jfa (F:FunD K "part_names" "part_names" BaO dV f fd) (T:Txt K mg Ad) (Bdx:MCal P w K mg base 1 "way" (Ja2 Ad) ["self","name"] (Jb4 K Ad)):FnOk P w K mg base (CX1 P w) 2 f fd ["thing","gap_name"] (JbO K Ad):=by
 refine F.okn Jfl (by subst_eqs) (fun a0 A u s H J Q E hr h=>?_)
 obtain ⟨x,t,G,g,rfl,h⟩:=h;refine ⟨_,(Jai (Jaq (Jcn (own:=["name","forward"]) (cs:=[]) (cl:=[]) rfl (pi_U (Bdx.m hr ⋯ passF (pv 0) (Jaa (pv 1) Jac))) (fun _ _ _ _=>(Jk6 (K:=K) (n:=2) rfl rfl (Jbj (Jar 0 (show [("name" : Str),("forward" : Str)].Nodup by decide) (hf:=Or.inr rfl)) (Jbj (Jar 1 (show [("name" : Str),("forward" : Str)].Nodup by decide) (hf:=Or.inr rfl)) Jdw)))) (fun _ _ _ _=>(pv 0)) rfl ⋯ rfl ⋯ hcl0 (hhas0 ⋯) hcs0))),?_⟩;obtain ⟨B,I,h8,N,j,k⟩:=h;obtain ⟨dx,d1,d2,d3,k1,k2,k3,L,_⟩:=id B;have sl:(1000:Nat)<=sizeLine:=by decide
 show tRet _ _ [some (.ref x),some (.str g.nm)] H;cbv;refine ⟨x,_,dx,_,rfl,L,rfl,rfl,x,g.nm,t,G,rfl,B,fun z=>absurd (mem_map.mpr ⟨g,N,rfl⟩) z,fun R o W l xs w M Z a1 C d D a=>?_⟩;have e:=j R o W;subst e;have lx:=d.length;have lw:w.length<=12:=by
  have:=sub_len (w.map (·.1)) (t.map (·.nm)) a fun n S=>JcR (Jfe D) n S;rw [length_map,length_map] at this;ac_nf
 cbv;refine ⟨l,rfl, .inl ⟨⟨xs,SqL.of C⟩,CompJ.list (xs:=xs) (fun i v c=>c=M/\v=((w.take i).map (·.1)).map V.str) ⟨rfl,rfl⟩ (fun i v c hi z=>⟨by rw [z.1];exact SqL.of C,by rw [z.2,length_map,length_map,length_take];ac_nf⟩) ?_ ?_⟩⟩
 ·rintro i y q c Y ⟨rfl,rfl⟩;obtain ⟨pr,p,b,rfl,hb⟩:=d.at_ Y;simpa only [length_singleton,length_cons,length_nil,List.replicate,Jax,map_cons,map_nil,Option.join_some];refine ⟨b,_,rfl,SqT.of hb,rfl,?_⟩;cbv;rw [take_succ,p];simp
 ·rintro q c ⟨rfl,rfl⟩;rw [take_of_length_le ∅];rename_i r O X c U S2 e2;cbv;exact k r w U (Z.trans S2) e2 D a
abbrev Bav:Stmt:=inClass (top 37) 0
theorem Jeg:Jan ["self","name","rest","weights"] ["self","name","rest","weights"] (Jae Bav):=by bv_decide
def JbX (K:W.Frag) (Ad:Adr):Sp:=fun vs H Q E=>∃ (x dx wd:Addr) (nm:Str) (vr:V) (ws:List (Str × Int)),vs=[.ref x, .str nm,vr, .ref wd]/\H x=some (.ins Ad.Lid dx [])/\H wd=some (.dK (wsK ws))/\∀ H',H' x=some (.ins Ad.Lid dx [("name", .str nm),("rest",vr),("weights", .ref wd),("load", .int (ws.map (·.2)).sum),("last_level", .ref Ad.ZERO)])->(∀ b,b≠x->H' b=H b)->Q .non H'
theorem Jd6 (F:FunD K "__init__" "Lid.__init__" Bav dV f fd) (T:Txt K mg Ad)  : FnOk P w K mg base (CX1 P w) 1 f fd ["self","name","rest","weights"] (JbX K Ad):=by
 refine F.okn Jeg (by subst_eqs) (fun S A r s H L Q E X h=>?_)
 obtain ⟨x,c,e,g,j,i,rfl,h⟩:=h;refine ⟨_,(Jab (Ja5 (pv 0) (pv 1) rfl) (Jab (Ja5 (pv 0) (pv 2) rfl) (Jab (Ja5 (pv 0) (pv 3) rfl) (Jab (Ja5 (pv 0) (Jk5 rfl rfl rfl T.n_sum Jlz (pv 3)) rfl) (Jai (Ja5 (pv 0) (JaW (v:=.ref _) rfl T.Bca T.Bcb) rfl)))))),?_⟩
 obtain ⟨y,q,k⟩:=h;have d:=T.c_Lid Ad.Lid rfl;have p:e≠x:=fun z=>by rw [z,y] at q;cases q
 show tSeq _ _ _ [some (.ref x),some (.str g),some j,some (.ref e)] H;mexact;refine ⟨x,_,c,_,rfl,y,d.cls,d.n1,by simp,?_⟩;generalize I:upd H x _=l;mexact;have O:l x=some (.ins Ad.Lid c [("name", .str g)]):=by rw [<- I];exact Jaj.trans rfl
 have N:∀ b,b≠x->l b=H b:=fun b a=>by rw [<- I,Jag a]
 mexact;refine ⟨x,_,c,_,rfl,O,d.cls,d.n2,by simp,?_⟩;generalize D:upd l x _=o;mexact;have W:o x=some (.ins Ad.Lid c [("name", .str g),("rest",j)]):=by rw [<- D];exact Jaj.trans rfl
 have M:∀ b,b≠x->o b=H b:=fun b a=>by rw [<- D,Jag a];exact N b a
 mexact;refine ⟨x,_,c,_,rfl,W,d.cls,d.n3,by simp,?_⟩;generalize C:upd o x _=n;mexact;have R:n x=some (.ins Ad.Lid c [("name", .str g),("rest",j),("weights", .ref e)]):=by rw [<- C];exact Jaj.trans rfl
 have G:∀ b,b≠x->n b=H b:=fun b a=>by rw [<- C,Jag a];exact M b a
 mexact;refine ⟨e,wsK i,i.map (·.2),rfl,by rw [G e p];exact q,JjL i,?_⟩;mexact;refine ⟨x,_,c,_,rfl,R,d.cls,d.n4,by simp,?_⟩;generalize B:upd n x _=m;mexact;have U:m x=some (.ins Ad.Lid c [("name", .str g),("rest",j),("weights", .ref e),("load", .int (i.map (·.2)).sum)]):=by rw [<- B];exact Jaj.trans rfl
 have V:∀ b,b≠x->m b=H b:=fun b a=>by rw [<- B,Jag a];exact G b a
 mexact;refine ⟨x,_,c,_,rfl,U,d.cls,d.n5,by simp,?_⟩;generalize u:upd m x _=t;mexact;have J:t x=some (.ins Ad.Lid c [("name", .str g),("rest",j),("weights", .ref e),("load", .int (i.map (·.2)).sum),("last_level", .ref Ad.ZERO)]):=by rw [<- u];exact Jaj.trans rfl
 exact k t J fun b a=>by rw [<- u,Jag a];exact V b a
abbrev Bal:Stmt:=inClass (top 37) 1
theorem Jdx:Jan ["self"] ["self"] (Jae Bal):=by bv_decide
def Jbw (K:W.Frag) (Ad:Adr):Sp:=fun vs H Q E=>∃ (q:Addr) (e:LidD),vs=[.ref q]/\LDV K Ad H e (.ref q)/\FB 3000 1000 e.rest/\1<=e.load/\Mth.Sz 64 e.load/\∀ p H',Same H H'->H' p=some (.tup [.int (divF e.rest (e.load,1)).1, .int (divF e.rest (e.load,1)).2])->Q (.ref p) H'
theorem Jdr (F:FunD K "full_level" "Lid.full_level" Bal dV f fd) (T:Txt K mg Ad) (BcE:Cal P w K mg base 3 "over" ["one","other"] [] (Jfq K Ad)):FnOk P w K mg base (CX1 P w) 4 f fd ["self"] (Jbw K Ad):=by
 refine F.okn Jdx (by subst_eqs) (fun x A d s H o Q E c h=>?_)
 obtain ⟨q,e,rfl,h⟩:=h;refine ⟨_,(Jai (Jaq (BcE.ev c ⋯ rfl passF (Jaa (Jat (pv 0) rfl) (Jaa (JaD (Jaa (Jat (pv 0) rfl) (Jaa Jad Jac))) Jac))))),?_⟩;obtain ⟨⟨O,m,l,L,M,C,j,c,I,N⟩,a,J,y,k⟩:=h;cases C;have b:=T.c_Lid Ad.Lid rfl;show tRet _ _ [some (.ref q)] H;mleave;refine ⟨q,_,m,_,l,rfl,j,b.cls,b.n2,rfl,?_⟩;refine ⟨q,_,m,_, .int e.load,rfl,j,b.cls,b.n4,rfl,?_⟩;mleave;refine ⟨len2,?_⟩;rename_i p n t H G i v;mleave;refine ⟨l, .ref p,_,_,e.load,1,rfl,c.same i,FrV.of v,a.s1.mono ⋯,a.s2.mono ⋯,y.mono ⋯, .lit ⋯ ⋯,a.b1,by decide,a.g1,by unfold Mth.g;simp,fun z=>absurd z ∅,fun _ r u B D=>?_⟩;exact k r u (i.trans B) D
abbrev BaP:Stmt:=inClass (top 37) 2
theorem Jdi:Jan ["self","part","level","weight"] ["self","part","level"] (Jae BaP):=by bv_decide
def Jcs (K:W.Frag) (Ad:Adr):Sp:=fun vs H Q E=>∃ (q:Addr) (n:Str) (lv:V) (e:LidD) (L:Fr2),vs=[.ref q, .str n,lv]/\LDV K Ad H e (.ref q)/\FrV K H lv L.1 L.2/\FB 3000 1000 e.rest/\FB 3000 1000 L/\(∀ x∈e.ws,Mth.Sz 64 x.2)/\∀ H',(∀ b u,b≠q->H b=some u->H' b=some u)->LDV K Ad H' (e.settle n L) (.ref q)->(∀ d kv,H d=some (.dK kv)->LDV K Ad (cut d H) e (.ref q)->LDV K Ad (cut d H') (e.settle n L) (.ref q))->Q .non H'
theorem Je4 (F:FunD K "settle" "Lid.settle" BaP dV f fd) (T:Txt K mg Ad) (Bbi:Cal P w K mg base 3 "minus" ["one","other"] [] (Jdk K)) (Bbh:Cal P w K mg base 2 "times" ["one","other"] [] (Jdm K)):FnOk P w K mg base (CX1 P w) 4 f fd ["self","part","level"] (Jcs K Ad):=by
 refine F.okn Jdi (by subst_eqs) (fun a9 A a6 s H vs Q E J h=>?_)
 obtain ⟨q,n,D,e,L,rfl,h⟩:=h;have hu:=J.units;refine ⟨_,(Jai (ps_if (Jee (JgW (hu1 hu) (pv 1) (Jat (pv 0) rfl)) (by with_unfolding_all rfl)) (Jab (Jak 3 Jdi.nd (Jb8 (hu1 hu) (Jat (pv 0) rfl) (pv 1) (fun _ _=>rfl))) (Jab (Ja5 (pv 0) (Bbi.ev J ⋯ rfl passF (Jaa (Jat (pv 0) rfl) (Jaa (Bbh.ev J ⋯ rfl passF (Jaa (pv 2) (Jaa (JaD (Jaa (pv 3) (Jaa Jad Jac))) Jac))) Jac))) rfl) (Jab (Ja5 (pv 0) (pe_op JeI (Jat (pv 0) rfl) (pv 3)) rfl) (Jai (Ja5 (pv 0) (pv 2) rfl)))))
   Jaw)),?_⟩
 clear hu;obtain ⟨hd,hl,fr,o,a0,k⟩:=h;obtain ⟨q',m,vr,vt,l,hv,v,J,ht,X⟩:=id hd;cases hv;have j:=T.c_Lid Ad.Lid rfl;have N:l≠q:=fun z=>by rw [z,v] at X;cases X
 have gw:=DGet.k (k:=Sum.inr n) X;rw [JgE] at gw;show tIfS _ _ _ _ [some (.ref q),some (.str n),some D,none] H;try simpa only [y4fy,y89y]
 refine ⟨q,_,m,_, .ref l,rfl,v,j.cls,j.n3,rfl,?_⟩;refine ⟨l,_,rfl,gw,?_⟩;cases hwt:wtOf e.ws n with
 | none=>
  rw [show ((none:Option Int).map V.int).isSome=false from rfl];try simpa only [y4fy,y89y]
  have O:e.settle n L=e:=by unfold LidD.settle;rw [hwt]
  exact k H (fun b u _ h=>h) (by rw [O];exact hd) (fun d kv _ h=>by rw [O];exact h)
 | some w=>
  rw [hwt] at gw;have O:e.settle n L={ e with rest:=subF e.rest (mulF L (w,1)),load:=e.load-w,last:=L }:=by unfold LidD.settle;rw [hwt]
  have sw:=a0 _ (Ji4 hwt);rw [show ((some w).map V.int).isSome=true from rfl];try simpa only [y4fy,y89y]
  refine ⟨q,_,m,_, .ref l,rfl,v,j.cls,j.n3,rfl,?_⟩;refine ⟨l, .int w,rfl,gw,?_⟩;try simpa only [y4fy,y89y]
  refine ⟨q,_,m,_,vr,rfl,v,j.cls,j.n2,rfl,?_⟩;try simpa only [y4fy,y89y]
  refine ⟨len2,?_⟩;rename_i p a7 b0 H H1 S1 e1;mvcgen;refine ⟨D, .ref p,_,_,w,1,rfl,hl.same S1,FrV.of e1,o.s1.mono ⋯,o.s2.mono ⋯,sw.mono ⋯, .lit ⋯ ⋯,o.b1,by decide,o.g1,by unfold Mth.g;simp,fun p2 H2 S2 e2=>?_⟩;have S:=S1.trans S2;have ml:=Je2 (a:=L) (c:=(w,1)) o.b1 (Int.le_refl 1);have a5:Mth.Sz 4000 (mulF L (w,1)).1:=(Mth.Sz.top (by have:=o.b1;show L.2*1≠0;ac_nf) (o.s1.mul sw)).mono ⋯;have a3:Mth.Sz 4000 (mulF L (w,1)).2:=(Mth.Sz.bot (t:=L.1*w) (b:=L.2*1) (by have:=o.b1;ac_nf) (by rw [Int.mul_one];exact o.s2)).mono ⋯;have e2:H2 p2=some (.tup [.int (mulF L (w,1)).1, .int (mulF L (w,1)).2]):=e2;try simpa only [y4fy,y89y]
  refine ⟨vr, .ref p2,_,_,_,_,rfl,J.same S,FrV.of e2,fr.s1.mono ⋯,fr.s2.mono ⋯,a5,a3,fr.b1,ml.b1,fr.g1,ml.g1,fun U H3 S3 e3=>?_⟩;have C:=S.trans S3;have Y:=C _ _ v;try simpa only [y4fy,y89y]
  refine ⟨q,_,m,_,rfl,Y,j.cls,j.n2,by simp,?_⟩;generalize u4:upd H3 q _=I;mvcgen;have e4:I q=some (.ins Ad.Lid m [("name", .str e.nm),("rest", .ref U),("weights", .ref l),("load", .int e.load),("last_level",vt)]):=by rw [<- u4];exact Jaj.trans rfl
  have o4:∀ b u,b≠q->H b=some u->I b=some u:=fun b u W h=>by rw [<- u4,Jag W];exact C _ _ h
  have T4:SameT H3 I:=SameT.put u4 Y rfl;try simpa only [y4fy,y89y]
  refine ⟨q,_,m,_, .int e.load,rfl,e4,j.cls,j.n4,rfl,?_⟩;try simpa only [y4fy,y89y]
  refine ⟨q,_,m,_,rfl,e4,j.cls,j.n4,by simp,?_⟩;generalize u5:upd I q _=Z;mvcgen;have e5:Z q=some (.ins Ad.Lid m [("name", .str e.nm),("rest", .ref U),("weights", .ref l),("load", .int (e.load-w)),("last_level",vt)]):=by rw [<- u5];exact Jaj.trans rfl
  have T5:SameT I Z:=SameT.put u5 e4 rfl;try simpa only [y4fy,y89y]
  refine ⟨q,_,m,_,rfl,e5,j.cls,j.n5,by simp,?_⟩;generalize u6:upd Z q _=G;mvcgen;have e6:G q=some (.ins Ad.Lid m [("name", .str e.nm),("rest", .ref U),("weights", .ref l),("load", .int (e.load-w)),("last_level",D)]):=by rw [<- u6];exact Jaj.trans rfl
  have T6:SameT Z G:=SameT.put u6 e5 rfl;have M:=T4.trans (T5.trans T6);have o6:∀ b u,b≠q->H b=some u->G b=some u:=fun b u W h=>by rw [<- u6,Jag W, <- u5,Jag W];exact o4 b u W h
  have f3:=FrV.of (K:=K) (M _ _ rfl e3);have fl:=(hl.same C).sameT M;refine k G o6 ?_ fun d b3 R a4=>?_
  ·rw [O];exact ⟨q,m, .ref U,D,l,rfl,e6,f3,fl,o6 _ _ N X⟩
  ·obtain ⟨q',b4,a8,b2,a2,y,B,_,_,r⟩:=a4;have y:q=q':=by injection y
   subst y;have x:q≠d:=fun z=>by rw [z,R] at v;cases v
   rw [JbH x,v] at B;simp only [Option.some.injEq,HO.ins.injEq,List.cons.injEq,Prod.mk.injEq,V.ref.injEq,true_and,and_true] at B;have ew:l=a2:=B.2.2.1;subst ew;have a1:l≠d:=fun z=>by
    rw [z] at r;unfold cut at r;rw [if_pos rfl] at r;cases r
   have Tc:SameT G (cut d G):=SameT.cutO (o6 _ _ x.symm R) rfl;rw [O];exact ⟨q,m, .ref U,D,l,rfl,by rw [JbH x];exact e6,f3.sameT Tc,fl.sameT Tc,by rw [JbH a1];exact o6 _ _ N X⟩
abbrev Bag:Stmt:=inClass (top 37) 3
theorem Jdh:Jan ["self","part","level"] ["self","part","level"] (Jae Bag):=by bv_decide
def Jbr (K:W.Frag) (Ad:Adr):Sp:=fun vs H Q E=>∃ (q:Addr) (n:Str) (lv:V) (e:LidD) (L:Fr2),vs=[.ref q, .str n,lv]/\LDV K Ad H e (.ref q)/\FrV K H lv L.1 L.2/\Q (.bl ((wtOf e.ws n).isSome&&(decide (e.rest=(0,1))&&decide (e.last=L)))) H
theorem Jda (F:FunD K "has_stopped" "Lid.has_stopped" Bag dV f fd) (T:Txt K mg Ad)  : FnOk P w K mg base (CX1 P w) 1 f fd ["self","part","level"] (Jbr K Ad):=by
 refine F.okn Jdh (by subst_eqs) (fun x A g s H o Q E c h=>?_)
 obtain ⟨q,n,l,e,L,rfl,h⟩:=h;have b:=c.units;refine ⟨_,(Jai (Jaq (JcG (Jl1 (JgW (hu1 b) (pv 1) (Jat (pv 0) rfl)) (by with_unfolding_all rfl)) (JcG (Jbn (JbT b) (Jat (pv 0) rfl) (JaW (v:=.ref _) rfl T.Bca T.Bcb) (JaA _)) (Jdd (Jbn (JbT b) (Jat (pv 0) rfl) (pv 2) (JaA _))))))),?_⟩;clear b;obtain ⟨⟨D,i,z,u,m,B,d,c,p,y⟩,t,k⟩:=h;cases B;have a:=T.c_Lid Ad.Lid rfl;have j:=DGet.k (k:=Sum.inr n) y;rw [JgE] at j;have r:decide (e.rest=(0,1))=(decide (e.rest.1=0)&&decide (e.rest.2=1)):=by
  rw [<- Bool.decide_and];exact decide_eq_decide.mpr Prod.ext_iff
 have C:decide (e.last=L)=(decide (e.last.1=L.1)&&decide (e.last.2=L.2)):=by
  rw [<- Bool.decide_and];exact decide_eq_decide.mpr Prod.ext_iff
 rw [r,C] at k;show tRet _ _ [some (.ref q),some (.str n),some l] H;mleave;refine ⟨q,_,i,_, .ref m,rfl,d,a.cls,a.n3,rfl,?_⟩;refine ⟨m,_,rfl,j,?_⟩;rw [show ((wtOf e.ws n).map V.int).isSome=(wtOf e.ws n).isSome by cases wtOf e.ws n <;> rfl];cases c1:(wtOf e.ws n).isSome with
 | false=>
  rw [c1] at k;mleave;exact k
 | true=>
  rw [c1] at k;mleave;refine ⟨q,_,i,_,z,rfl,d,a.cls,a.n2,rfl,?_⟩;refine eqF c ⟨Ad.ZERO,rfl,T.Bcc _⟩ ?_;cases c2:(decide (e.rest.1=0)&&decide (e.rest.2=1)) with
  | false=>
   rw [c2] at k;mleave;exact k
  | true=>
   rw [c2] at k;mleave;refine ⟨q,_,i,_,u,rfl,d,a.cls,a.n5,rfl,?_⟩;refine eqF p t ?_;exact k
abbrev Bam:Stmt:=inClass (top 12) 0
theorem Jdy:Jan ["self","words","tight_gap"] ["self","words","tight_gap"] (Jae Bam):=by bv_decide
def Jbz (K:W.Frag) (Ad:Adr):Sp:=fun vs H Q E=>∃ (e:Addr) (w z:Str) (S f:Addr),vs=[.ref e, .str w, .str z]/\H e=some (ExcN e Ad.Tight none)/\ExcI K Ad.Tight S f/\∀ (dx:Addr) (H':Hp),(∀ b u,b≠e->H b=some u->H' b=some u)->H dx=none->dx≠e->H' e=some (ExcN e Ad.Tight (some dx))->H' dx=some (.xd [("tight_gap", .str z)])->Q .non H'
theorem Jdu (F:FunD K "__init__" "Tight.__init__" Bam dV f fd) (T:Txt K mg Ad)  : FnOk P w K mg base (CX1 P w) 1 f fd ["self","words","tight_gap"] (Jbz K Ad):=by
 refine F.okn Jdy (by subst_eqs) (fun m A i s H l Q E p h=>?_)
 obtain ⟨e,w,z,S,f,rfl,h⟩:=h;refine ⟨_,(Jab (Jbb (Jjq T.slk rfl T.m_SlackError (Jaa (pv 0) (Jaa (pv 1) Jac)))) (Jai (Jk9 (pv 0) (pv 2) rfl))),?_⟩
 obtain ⟨g,j,k⟩:=h;show tSeq _ _ _ [some (.ref e),some (.str w),some (.str z)] H;cbv;refine ⟨e,_,_,_,_,_,rfl,by show 1<=sizeLine;decide,g,j,?_⟩;rw [show upd H e (ExcN e Ad.Tight none)=H from funext fun b=>by
  by_cases c:b=e
  ·rw [c,Jaj,g]
  ·rw [Jag c]]
 mframe;refine ⟨e,_,S,f,rfl,g,j,T.xa,fun o a d=>?_⟩;exact k o _ (fun b u n h=>by rw [Jag (Jah h a),Jag n];exact h) a d (by rw [Jag (Ne.symm d),Jaj]) Jaj
abbrev Bbt:Stmt:=top 38
theorem Jbv:Jan ["thing","scale","weights","part","lids","gap","room","on_way"] ["thing","scale"] (Jae Bbt):=by bv_decide
def JdA (K:W.Frag) (Ad:Adr):Sp:=fun vs H Q E=>∃ (x sc:Addr) (ls:List PD) (es:List (GD × List Str)) (pl:Str->Fr2) (b:Int) (fs:List Int),vs=[.ref x, .ref sc]/\TK K Ad H x ls (es.map (·.1))/\SCK Ad H sc b fs/\SHC ls es pl/\((∀ e∈es,0<=vl (roomF pl e.1))->∀ ll xs lds H',Same H H'->H ll=none->H' ll=some (.lst xs)->All2 (LDV K Ad H') lds xs->xs.Nodup->(∀ v∈xs, ∃ q,v=.ref q/\H q=none)->lds.length=es.length->(∀ (i:Nat) e l,es[i]?=some e->lds[i]?=some l->LSt b ls pl e l)->Q (.ref ll) H')/\∀ (i:Nat) (e:GD × List Str),es[i]?=some e->vl (roomF pl e.1)<0->(∀ e'∈es.take i,0<=vl (roomF pl e'.1))->∀ (dx:Addr) (H':Hp),Same H H'->H dx=none->H' dx=some (.xd [("tight_gap", .str e.1.nm)])->E (.ref Ad.Tight) (some dx) H'
theorem Jho (F:FunD K "lids_of" "lids_of" Bbt dV f fd) (T:Txt K mg Ad) (Baz:MCal P w K mg base 2 "parts" (Ja2 Ad) ["self"] (JaP K Ad)) (BbU:MCal P w K mg base 2 "gaps" (Ja2 Ad) ["self"] (Jbs K Ad)) (BcF:MCal P w K mg base 5 "room" (Ja2 Ad) ["self","name"] (JbN K Ad)) (Bah:Cal P w K mg base 1 "under" ["one","other"] [] (JbP K)) (BaQ:Cal P w K mg base 2 "part_names" ["thing","gap_name"] [] (JbO K Ad)) (k_Lid:KCal P w K mg base 1 "Lid" Ad.Lid ["self","name","rest","weights"] (JbX K Ad)) (Ba0:MCal P w K mg base 2 "lifted" (JcT Ad) ["self","number"] (Jbd K Ad)) (k_Tight:XCal P w K mg base 1 "Tight" Ad.Tight Ad.SlackError ["self","words","tight_gap"] (Jbz K Ad)):FnOk P w K mg base (CX1 P w) 7 f fd ["thing","scale"] (JdA K Ad):=by
 refine F.okx Jbv (fun vs H Q E h=>?_) (fun k8 A j1 s H vs Q E hr h=>?_)
 ·obtain ⟨x,sc,ls,es,pl,b,fs,rfl,_⟩:=h;rfl
 obtain ⟨x,sc,ls,es,pl,b,fs,rfl,h⟩:=h;have hu:=hr.units;refine ⟨_,(Jab (Jak 2 Jbv.nd JbJ rfl (Or.inr rfl)) (Jab (Ja6 PassesOwn.leaving rfl (pi_U (Baz.m0 hr ⋯ pass1 (pv 0))) (Jar 3 Jbv.nd) (Jai (Jco (hu1 hu) (pv 2) (pe_ix ix_U (pv 3) Jad) (pe_ix ix_U (pv 3) Jad) rfl))) (Jab (Jak 4 Jbv.nd (Jba Jac)) (Jab (Ja6 PassesOwn.leaving rfl (pi_U (BbU.m0 hr ⋯ pass1 (pv 0))) (Jar 5 Jbv.nd) (Jab (Jak 6 Jbv.nd (BcF.m hr ⋯ pass1 (pv 0) (Jaa (pe_ix ix_U (pv 5) Jad) Jac))) (Jab (ps_if (Ja7 (Bah.ev hr ⋯ rfl pass1 (Jaa (pv 6) (Jaa (JaW (v:=.ref _) rfl T.Bca T.Bcb) Jac)))) (Jai (Jiv (k_Tight.ev hr ⋯ rfl pass1 (Jaa JbU (Jaa (pe_ix ix_U (pv 5) Jad) Jac)))))
   Jaw) (Jab (Jak 7 Jbv.nd (Jec (Jha rfl) rfl T.n_dict Jks (Jaa (Jjr (own:=["name"]) (cs:=[(2,"weights")]) rfl (pi_U (BaQ.ev hr ⋯ rfl pass1 (Jaa (pv 0) (Jaa (pe_ix ix_U (pv 5) Jad) Jac)))) (fun _ _ _ _=>(Jar 0 (show [("name" : Str),("weights" : Str)].Nodup by decide))) (fun _ _ _ _=>(JaD (Jaa (pv 0) (Jaa (Jb8 (hu1 hu) (pv 1) (pv 0) (fun _ _=>rfl)) Jac)))) (JdT rfl) ⋯ rfl ⋯
   (hcs1 rfl rfl rfl)) Jac))) (Jai (Jbb (pe_bm PySem.F.plainAttrs_list PySem.F.slot_list_append PySem.F.type_list_append Ja9 (pv 4) (Jaa (k_Lid.ev hr ⋯ rfl pass1 (Jaa (pe_ix ix_U (pv 5) Jad) (Jaa (Ba0.m hr ⋯ pass1 (pv 1) (Jaa (pv 6) Jac)) (Jaa (pv 7) Jac)))) Jac) (hs:=by exact Jaf rfl)))))))) (Jai (Jaq (pv 4))))))),?_⟩
 clear hu;obtain ⟨ht,d4,N,k,kT⟩:=h;obtain ⟨dx,d1,d2,d3,k1,k2,k3,hx,_⟩:=id ht;obtain ⟨g8,fl,e3,_,j7,sb,_⟩:=id d4;have sl:(1000:Nat)<=sizeLine:=by decide
 have k4:=N.l12;have l7:=N.l7;show tSeq _ _ _ [some (.ref x),some (.ref sc),none,none,none,none,none,none] H;cbv;rename_i wd d0 j8 H H1 S1 e1;cbv;refine ⟨x,_,dx,_,rfl,S1 _ _ hx,rfl,rfl,x,ls,_,rfl,ht.same S1,by ac_nf,fun l ys H2 S2 f4 e2 hY=>?_⟩;have lY:=hY.length;have h4:l≠wd:=fun z=>by rw [z,e1] at f4;cases f4
 have i0:=S1.trans S2;cbv;refine ⟨l,rfl,ForA.byLN (xs:=ys) (SqL.of e2) (fun i σ M=>i<=ys.length/\∃ (v3:Option V) (kv:List (Key × V)),σ=[some (.ref x),some (.ref sc),some (.ref wd),v3,none,none,none,none]/\(∀ c u,c≠wd->H2 c=some u->M c=some u)/\SameT H2 M/\M wd=some (.dK kv)/\BG (·.nm) (fun p v=>v=.int p.wt) (ls.take i) kv) ⟨Nat.zero_le _,none,[],rfl,fun _ _ _ h=>h,SameT.refl _,S2 _ _ e1,⟨rfl,rfl⟩⟩ (fun i σ M q=>by obtain ⟨_,_,_,_,q,_⟩:=q;exact SqL.of (q _ _ h4 e2)) ?_ ?_⟩
 ·rintro i y σ H3 W ⟨hi,v3,kv,rfl,ho,hT,a2,hB⟩ N0 c2;have li:=(List.getElem?_eq_some_iff.mp W).1;obtain ⟨p,hp,b_,vz,vm,rfl,hb,_,_⟩:=hY.at_ W;have lB:=hB.length;rw [length_take] at lB;have f0:=hb.sameT hT;cbv;refine ixT (i:=5) f0 rfl ?_;cbv;refine ixT (i:=0) f0 rfl ?_;refine ⟨wd,_,rfl,DPut.k (k:=Sum.inr p.nm) a2 ∅,?_⟩;generalize u4:upd H3 wd _=H4;cbv;have e4:=putE u4;have T4:SameT H3 H4:=SameT.put u4 a2 rfl;refine c2 _ _ ⟨li,_,_,rfl,fun c u a0 h=>by rw [<- u4,Jag a0];exact ho c u a0 h,hT.trans T4,e4,?_⟩;rw [take_succ,hp];exact hB.new (a:=p) (Jgj N.nd hp) rfl
 ·rintro σ H3 ⟨hi,v3,kv,rfl,ho,hT,a2,hB⟩;rw [take_of_length_le ∅] at hB;have g4:Same H H3:=fun c u h=>ho c u (Jah h d0) (i0 _ _ h);cbv;refine ⟨len0,?_⟩;rename_i G a1 j5 H3 H4 S4 e4;cbv;have c5:=g4.trans S4;have X:H G=none:=JcD g4 a1;refine ⟨x,_,dx,_,rfl,c5 _ _ hx,rfl,rfl,x,ls,_,rfl,ht.same c5,by rw [length_map];ac_nf,fun m zs H5 S5 g2 e5 hZ=>?_⟩;have lZ:=hZ.length;rw [length_map] at lZ;have g5:m≠G:=fun z=>by rw [z,e4] at g2;cases g2
  have d7:=c5.trans S5;have d6:=S5 _ _ (S4 _ _ a2);cbv;refine ⟨m,rfl,ForA.byLN (xs:=zs) (SqL.of e5) (fun i σ M=>i<=zs.length/\(∀ e∈es.take i,0<=vl (roomF pl e.1))/\∃ (v5 v6 v7:Option V) (xs:List V) (I:List LidD),σ=[some (.ref x),some (.ref sc),some (.ref wd),v3,some (.ref G),v5,v6,v7]/\(∀ c u,c≠G->H5 c=some u->M c=some u)/\M G=some (.lst xs)/\All2 (LDV K Ad (cut G M)) I xs/\xs.Nodup/\(∀ v∈xs, ∃ q,v=.ref q/\H q=none/\M q≠none)/\I.length=i/\∀ (j:Nat) e l,es[j]?=some e->I[j]?=some l->LSt b ls pl e l) ⟨Nat.zero_le _,(fun e he=>by simp at he),none,none,none,[],[],rfl,fun _ _ _ h=>h,S5 _ _ e4,rfl, .nil,(fun v hv=>by cases hv),rfl,fun j e l _ h=>by simp at h⟩ (fun i σ M q=>by obtain ⟨_,_,_,_,_,_,_,_,q,_⟩:=q;exact SqL.of (q _ _ g5 e5)) ?_ ?_⟩
  ·rintro i y σ H6 W ⟨hi,b0,v5,v6,v7,xs,I,rfl,U,Z,hX,b7,a9,c4,b8⟩ N0 c2;have li:=(List.getElem?_eq_some_iff.mp W).1;have lX:=hX.length;obtain ⟨g,a5,a_,k9,k5,rfl,hb,_,_⟩:=hZ.at_ W;obtain ⟨e,b2,rfl⟩:∃ e,es[i]?=some e/\e.1=g:=by
    rw [List.getElem?_map] at a5;exact Option.map_eq_some_iff.mp a5
   have he:=List.mem_of_getElem? b2;have gm:e.1∈es.map (·.1):=mem_map.mpr ⟨e,he,rfl⟩;have r:Same H H6:=fun c u h=>U c u (Jah h X) (d7 _ _ h);have i7:SameT H5 H6:=fun c u t h=>U c u (fun z=>by have:=S5 _ _ e4;rw [<- z,h] at this;cases this;simp [isTF] at t) h;have h5:wd≠G:=fun z=>by rw [<- z,a2] at a1;cases a1
   have f8:=U _ _ h5 d6;have a6:=hb.sameT i7;cbv;refine ⟨x,_,dx,_,rfl,r _ _ hx,rfl,rfl,?_⟩;refine ixT (i:=0) a6 rfl ?_;refine ⟨x,e.1.nm,ls,es.map (·.1),rfl,ht.same r,fun z=>absurd (mem_map.mpr ⟨e.1,gm,rfl⟩) z,fun g' a5 hz=>?_⟩;have i6:=N.gn e he g' a5 hz;subst i6;refine ⟨pl,N.gn e he,fun p hp q hq h=>Jgt N.nd hp hq h,N.pok,N.plb,N.pls,N.tok e he,fun v H7 S7 fv=>?_⟩;have rb:=N.rb e he;have l0:=JcK (a:=roomF pl e.1) (c:=(0,1)) rb.b1 ⋯;rw [Jc1] at l0;unfold lessF at l0;cbv;refine ⟨v, .ref Ad.ZERO,_,_,0,1,rfl,fv,⟨Ad.ZERO,rfl,T.Bcc _⟩,rb.s1.mono ⋯,rb.s2.mono ⋯, .lit ⋯ ⋯, .lit ⋯ ⋯,?_⟩;cbv;by_cases Y:vl (roomF pl e.1)<0
   ·rw [if_pos (l0.mpr Y)];cbv;refine ixT (i:=0) (a6.same S7) rfl ?_;refine ⟨by show 2<=sizeLine;ac_nf,fun Z e7=>?_⟩;obtain ⟨fI,l2,_,_,hI,_⟩:=k_Tight.ex;have d5:=JcD (r.trans S7) e7;refine ⟨Z,_,_,_,fI,rfl,Jaj,hI,fun g1 H8 h8 d9 g0 g9 i4=>⟨rfl,Z,_,_,fI,some g1,rfl,g9,hI,d5,?_⟩⟩;rw [Jag g0] at d9;have S8:∀ b u,H7 b=some u->unt H8 Z b=some u:=fun b u h=>by
     have hb:=Jah h e7;rw [Jdn hb];exact h8 b u hb (by rw [Jag hb];exact h)
    exact kT i e b2 Y b0 g1 (unt H8 Z) (fun b u h=>S8 _ _ ((r.trans S7) _ _ h)) (JcD (r.trans S7) d9) (by rw [Jdn g0];exact i4)
   have c9:0<=vl (roomF pl e.1):=Rat.not_lt.mp Y;have i1:∀ e'∈es.take (i+1),0<=vl (roomF pl e'.1):=fun e' f3=>by
    rw [take_succ,b2] at f3;rcases mem_append.mp f3 with q | q
    ·exact b0 e' q
    ·rw [mem_singleton.mp q];exact c9
   rw [if_neg (fun z=>absurd (l0.mp z) (Rat.not_lt.mpr c9))];cbv;have i9:=r.trans S7;refine ixT (i:=0) (a6.same S7) rfl ?_;refine ⟨x,ls,es.map (·.1),e.1,rfl,ht.same i9,N.nd,by ac_nf,gm,N.gn e he,fun nl w H8 S8 e8 hw b6=>?_⟩;have c0:=S7.trans S8;have d8:=c0 _ _ f8;have f6:∀ n∈w.map (·.1),n∈ls.map (·.nm):=fun n hn=>JcR (Jfe hw) n hn;have lw:w.length<=12:=by
    have:=sub_len (w.map (·.1)) (ls.map (·.nm)) b6 fun n hn=>f6 n hn;rw [length_map,length_map] at this;ac_nf
   cbv;refine ⟨nl,rfl, .inl ⟨⟨_,SqL.of e8⟩,CompJ.list (xs:=(w.map (·.1)).map V.str) (fun j qs M=>Same H8 M/\∃ (as:List Addr) (D:List (Str × Int)),qs=as.map V.ref/\as.length=D.length/\(∀ (i:Nat) (a:Addr) (p:Str × Int),as[i]?=some a->D[i]?=some p->M a=some (.tup [.str p.1, .int p.2]))/\D.map (·.1)=(w.map (·.1)).take j/\∀ y∈D, ∃ p∈ls,p.nm=y.1/\p.wt=y.2) ⟨Same.refl _,[],[],rfl,rfl,(fun i a p h=>by simp at h),rfl,(fun y W=>by cases W)⟩ (fun j qs M hj z=>by
    obtain ⟨z1,as,D,rfl,B,_,d,_⟩:=z;have:=congrArg List.length d;rw [length_map,length_take,length_map] at this;exact ⟨SqL.of (z1 _ _ e8),by rw [length_map];ac_nf⟩) ?_ ?_⟩⟩
   ·rintro j y' qs H9 R ⟨S9,as,D,rfl,b9,c6,o,c1⟩;have lj:=(List.getElem?_eq_some_iff.mp R).1;rw [length_map] at lj;rw [List.getElem?_map,List.getElem?_eq_getElem lj] at R;obtain ⟨n,hn⟩:∃ n,n=(w.map (·.1))[j]:=⟨_,rfl⟩;rw [<- hn] at R;have R:y'=.str n:=(Option.some.inj R).symm;subst R;have h0:n∈ls.map (·.nm):=f6 n (by rw [hn];exact List.getElem_mem lj);obtain ⟨p,v',g7,h9,hv,j2⟩:=hB.some (z:=n) h0;simpa only [length_singleton,length_cons,length_nil,List.replicate,Jax,map_cons,map_nil,Option.join_some];refine ⟨wd,_,rfl,by rw [<- hv];exact DGet.k (k:=Sum.inr n) (S9 _ _ d8),?_⟩;rw [j2];refine ⟨by show 2<=sizeLine;ac_nf,?_⟩;rename_i t k7 k0 H9 f1 S c3;cbv;refine ⟨S9.trans S,as++[t],D++[(n,p.wt)],by simp,by simp [b9],fun i' a' p' B d=>?_,?_,fun y W=>?_⟩
    ·rcases Ja1 B with B | ⟨q1,q2⟩
     ·rcases Ja1 d with d | ⟨q3,q4⟩
      ·exact S _ _ (c6 i' a' p' B d)
      ·have:=(List.getElem?_eq_some_iff.mp B).1;ac_nf
     ·rcases Ja1 d with d | ⟨q3,q4⟩
      ·have:=(List.getElem?_eq_some_iff.mp d).1;ac_nf
      ·rw [q2,q4];exact c3
    ·rw [map_append,o,take_succ,List.getElem?_eq_getElem lj, <- hn];rfl
    ·rcases mem_append.mp W with W | W
     ·exact c1 y W
     ·rw [mem_singleton.mp W];exact ⟨p,g7,h9,rfl⟩
   ·rintro qs H9 ⟨S9,as,D,rfl,b9,c6,o,c1⟩;rw [length_map,take_of_length_le (Nat.le_refl _)] at o;have l1:D.length<=12:=by have:=congrArg List.length o;rw [length_map,length_map] at this;ac_nf
    have f5:(D.map (·.1)).Nodup:=by rw [o];exact b6
    rename_i ql j3 j4 H9 f1 S c3;cbv;refine ⟨ql,as,D.map fun p=>(p.1,V.int p.2),rfl,c3,by rw [length_map];exact b9,fun i' a' p' B d=>?_,?_⟩
    ·rw [List.getElem?_map] at d;obtain ⟨j0,h3,rfl⟩:=Option.map_eq_some_iff.mp d;exact S _ _ (c6 i' a' j0 B h3)
    have i8:JdF (D.map fun p=>(p.1,V.int p.2))=wsK D:=by
     rw [Jil (by rw [map_map];exact f5),map_map];rfl
    rw [i8];rename_i od b5 j9 f1 k6 i3 c8;cbv;have b4:=S9.trans (S.trans i3);have C:=c0.trans b4;have e0:=r.trans C;have e6:=C _ _ Z;refine ⟨.inl ⟨rfl,_,SqL.of e6⟩,?_⟩;refine ixT (i:=0) (a6.same C) rfl ?_;refine ⟨sc,_,g8,_,rfl,e0 _ _ e3,rfl,rfl,?_⟩;refine ⟨sc,v,roomF pl e.1,b,fs,rfl,d4.same e0,FrV.same (S8.trans b4) fv,rb.mono ⋯ ⋯,fun pr t c7 a7 h6 hL=>?_⟩;cbv;intro q dq hq i2 j6;have f2:Same c7 (upd (upd c7 dq (.own q)) q (.ins Ad.Lid dq [])):=fun b u z=>by rw [Jag (Jah z hq),Jag (Jah z i2)];exact z
    refine ⟨q,dq,od,e.1.nm, .ref pr,D,rfl,Jaj,f2 _ _ (a7 _ _ c8),fun a8 f9 i5=>⟨rfl,?_⟩⟩;have L:Same c7 a8:=fun b u z=>by rw [i5 b (Jah z hq)];exact f2 _ _ z
    have O:=C.trans (a7.trans L);have b3:=O _ _ Z;have a4:H6 q=none:=JcD (C.trans a7) hq;refine ⟨G,xs,_,rfl,rfl,b3,by ac_nf,?_⟩;generalize a3:upd a8 G _=f7;cbv;have e9:=putE a3;have ec:cut G f7=cut G a8:=by rw [<- a3];exact Jf8
    have g3:q≠G:=fun z=>by rw [z,Z] at a4;cases a4
    have h7:od≠G:=fun z=>by rw [z,(c0.trans (S9.trans S)) _ _ Z] at b5;cases b5
    refine c2 _ _ ⟨li,i1,_,_,_,xs++[.ref q],I++[⟨e.1.nm,t,D,(D.map (·.2)).sum,(0,1)⟩],rfl,fun c u a0 h=>by rw [<- a3,Jag a0];exact O _ _ (U c u a0 h),e9,?_,?_,fun v' J=>?_,by simp [c4],fun j e' l' B d=>?_⟩
    ·rw [ec];refine (hX.mono (P':=LDV K Ad (cut G a8)) fun _ _ z=>z.same O.cut).append (.one ⟨q,dq, .ref pr, .ref Ad.ZERO,od,rfl,?_,?_,⟨Ad.ZERO,rfl,T.Bcc _⟩,?_⟩)
     ·rw [JbH g3];exact f9
     ·exact (FrV.of (L _ _ h6)).cut b3
     ·rw [JbH h7];exact L _ _ (a7 _ _ c8)
    ·refine nodup_append.mpr ⟨b7,by simp,fun u hu v' J z=>?_⟩;rw [mem_singleton.mp J] at z;obtain ⟨q',B,_,d⟩:=a9 u hu;rw [B] at z;cases z;exact d a4
    ·have g6:∀ c,H6 c≠none->f7 c≠none:=fun c h=>by
      by_cases cc:c=G
      ·rw [cc,e9];intro y;cases y
      ·cases hh:H6 c with
       | none=>exact absurd hh h
       | some u=>rw [<- a3,Jag cc,O _ _ hh];intro y;cases y
     rcases mem_append.mp J with J | J
     ·obtain ⟨q',B,d,h3⟩:=a9 v' J;exact ⟨q',B,d,g6 q' h3⟩
     ·rw [mem_singleton.mp J];exact ⟨q,rfl,JcD r a4,by rw [<- a3,Jag g3,f9];intro y;cases y⟩
    ·rcases Ja1 d with d | ⟨q1,q2⟩
     ·exact b8 j e' l' B d
     ·rw [q1,c4,b2] at B;cases B;rw [q2];exact ⟨rfl,hL.vl rb.b1,(hL.fb rb sb).mono ⋯ ⋯,by rw [o];exact (N.way e he w hw b6).symm,f5,c1,rfl,rfl⟩
  ·rintro σ H6 ⟨hi,b0,v5,v6,v7,xs,I,rfl,U,Z,hX,b7,a9,c4,b8⟩;cbv;exact k (fun e he=>b0 e (by rw [take_of_length_le ∅];exact he)) G xs I H6 (fun c u h=>U c u (Jah h X) (d7 _ _ h)) X Z (hX.mono fun _ _ z=>z.same Jc6) b7 (fun v hv=>by obtain ⟨q,B,d,_⟩:=a9 v hv;exact ⟨q,B,d⟩) ∅ b8
abbrev BaF:Stmt:=top 39
theorem Jb9:Jan ["thing","scale","told","part"] ["thing","scale"] (Jae BaF):=by bv_decide
def Jcd (K:W.Frag) (Ad:Adr):Sp:=fun vs H Q E=>∃ (x sc:Addr) (ls:List PD) (gs:List GD) (b:Int) (fs:List Int),vs=[.ref x, .ref sc]/\TK K Ad H x ls gs/\SCK Ad H sc b fs/\ls.length<=12/\(ls.map (·.nm)).Nodup/\(∀ p∈ls,FB 200 12 p.mo/\1<=p.wt/\Mth.Sz 21 p.wt)/\∀ md kv ms H',Same H H'->H md=none->H' md=some (.dK kv)->BG (·.1) (NFV K H') ms kv->ms.length=ls.length->(∀ (i:Nat) p m,ls[i]?=some p->ms[i]?=some m->MSt b p m)->Q (.ref md) H'
theorem Jev (F:FunD K "most_levels" "most_levels" BaF dV f fd) (T:Txt K mg Ad) (Baz:MCal P w K mg base 2 "parts" (Ja2 Ad) ["self"] (JaP K Ad)) (Ba0:MCal P w K mg base 2 "lifted" (JcT Ad) ["self","number"] (Jbd K Ad)) (BcE:Cal P w K mg base 3 "over" ["one","other"] [] (Jfq K Ad)):FnOk P w K mg base (CX1 P w) 4 f fd ["thing","scale"] (Jcd K Ad):=by
 refine F.okn Jb9 (by subst_eqs) (fun b2 A a6 s H vs Q E Y h=>?_)
 obtain ⟨x,G,ls,gs,b,fs,rfl,h⟩:=h;have hu:=Y.units;refine ⟨_,(Jab (Jak 2 Jb9.nd JbJ) (Jab (Ja6 PassesOwn.never rfl (pi_U (Baz.m0 Y ⋯ passF (pv 0))) (Jar 3 Jb9.nd) (Jai (Jco (hu1 hu) (pv 2) (pe_ix ix_U (pv 3) Jad) (BcE.ev Y ⋯ rfl passF (Jaa (Ba0.m Y ⋯ passF (pv 1) (Jaa (pe_ix ix_U (pv 3) Jad) Jac)) (Jaa (JaD (Jaa (pe_ix ix_U (pv 3) Jad) (Jaa Jad Jac))) Jac))) rfl))) (Jai (Jaq (pv 2))))),?_⟩
 clear hu;obtain ⟨ht,I,b0,a3,a5,k⟩:=h;obtain ⟨dx,d1,d2,d3,k1,k2,k3,hx,_⟩:=id ht;obtain ⟨a0,fl,J,_,O,sb,_⟩:=id I;have sl:(1000:Nat)<=sizeLine:=by decide
 have b1:=O.b1;show tSeq _ _ _ [some (.ref x),some (.ref G),none,none] H;cbv;rename_i C n a8 H H1 S1 e1;cbv;refine ⟨x,_,dx,_,rfl,S1 _ _ hx,rfl,rfl,x,ls,_,rfl,ht.same S1,by ac_nf,fun l ys H2 S2 U e2 hY=>?_⟩;have lY:=hY.length;have a1:l≠C:=fun z=>by rw [z,e1] at U;cases U
 have N:=S1.trans S2;cbv;refine ⟨l,rfl,ForA.byLN (xs:=ys) (SqL.of e2) (fun i σ L=>i<=ys.length/\∃ (v3:Option V) (S:List (Key × V)) (r:List (Str × Fr2)),σ=[some (.ref x),some (.ref G),some (.ref C),v3]/\(∀ c u,c≠C->H2 c=some u->L c=some u)/\SameT H2 L/\L C=some (.dK S)/\BG (·.1) (NFV K L) r S/\r.map (·.1)=(ls.take i).map (·.nm)/\∀ (j:Nat) p m,ls[j]?=some p->r[j]?=some m->MSt b p m) ⟨Nat.zero_le _,none,[],[],rfl,fun _ _ _ h=>h,SameT.refl _,S2 _ _ e1,⟨rfl,rfl⟩,rfl,fun j p m _ h=>by simp at h⟩ (fun i σ L q=>by obtain ⟨_,_,_,_,_,q,_⟩:=q;exact SqL.of (q _ _ a1 e2)) ?_ ?_⟩
 ·rintro i y σ X hy ⟨hi,v3,S,r,rfl,Z,hT,v,hB,d,D⟩ N0 a4;have li:=(List.getElem?_eq_some_iff.mp hy).1;obtain ⟨p,hp,b_,vz,vm,rfl,hb,_,hm⟩:=hY.at_ hy;obtain ⟨mb,w1,ws⟩:=a5 p (List.mem_of_getElem? hp);have lB:=hB.length;have a2:r.length=i:=by have:=congrArg List.length d;rw [length_map,length_map,length_take] at this;ac_nf
  have B:=hb.sameT hT;have W:Same H X:=fun c u h=>Z c u (Jah h n) (N _ _ h);cbv;refine ⟨G,_,a0,_,rfl,W _ _ J,rfl,rfl,?_⟩;refine ixT (i:=4) B rfl ?_;refine ⟨G,vm,p.mo,b,fs,rfl,I.same W,hm.sameT hT,mb.mono ⋯ ⋯,fun pr t H4 S4 e4 hL=>?_⟩;cbv;refine ixT (i:=5) (B.same S4) rfl ?_;cbv;refine ⟨len2,?_⟩;rename_i wp a7 a9 H4 H5 S5 e5;cbv;have o:=hL.fb mb sb;refine ⟨.ref pr, .ref wp,_,_,p.wt,1,rfl,FrV.of (S5 _ _ e4),FrV.of e5,o.s1.mono ⋯,o.s2.mono ⋯,ws.mono ⋯, .lit ⋯ ⋯,o.b1,by decide,o.g1,by unfold Mth.g;simp,fun z=>absurd z ∅,fun _ p2 H6 S6 e6=>?_⟩;have e6:H6 p2=some (.tup [.int (divF t (p.wt,1)).1, .int (divF t (p.wt,1)).2]):=e6;have e:=S4.trans (S5.trans S6);cbv;refine ixT (i:=0) (B.same e) rfl ?_;refine ⟨C,_,rfl,DPut.k (k:=Sum.inr p.nm) (e _ _ v) ∅,?_⟩;generalize u7:upd H6 C _=H7;cbv;have e7:=putE u7;have T7:SameT H6 H7:=SameT.put u7 (e _ _ v) rfl;have M:SameT X H7:=e.t.trans T7;have nn:p.nm∉r.map (·.1):=by rw [d];exact Jgj a3 hp
  refine a4 _ _ ⟨li,_,_,r++[(p.nm,divF t (p.wt,1))],rfl,fun c u R h=>by rw [<- u7,Jag R];exact e _ _ (Z c u R h),hT.trans M,e7,?_,?_,fun j p' m' h1 h2=>?_⟩
  ·exact (hB.mono (P':=NFV K H7) fun _ _ z=>z.sameT M).new (a:=(p.nm,divF t (p.wt,1))) nn (FrV.of (T7 _ _ rfl e6))
  ·rw [map_append,d,take_succ,hp,map_append];rfl
  ·rcases Ja1 h2 with h2 | ⟨q1,q2⟩
   ·exact D j p' m' h1 h2
   ·rw [q1,a2,hp] at h1;cases h1;rw [q2];have dl:=Jkx (a:=t) (c:=(p.wt,1)) o.b1 w1;refine ⟨rfl,?_,?_,?_,dl.b1,dl.g1⟩
    ·show vl (divF t (p.wt,1))=_;rw [Jkh o.b1 w1 (Int.le_refl 1),Jf3,hL.vl mb.b1]
    ·exact Mth.Sz.top (by have:=Jcg o.b1 w1;show t.2*p.wt≠0;ac_nf) (by rw [Int.mul_one];exact o.s1)
    ·exact (Mth.Sz.bot (t:=t.1*1) (b:=t.2*p.wt) (by have:=Jcg o.b1 w1;ac_nf) (o.s2.mul ws)).mono ⋯
 ·rintro σ X ⟨hi,v3,S,r,rfl,Z,hT,v,hB,d,D⟩;rw [take_of_length_le ∅] at d;cbv;exact k C S r X (fun c u h=>Z c u (Jah h n) (N _ _ h)) n v hB (by simpa using congrArg List.length d) D
abbrev Baw:Stmt:=top 40
theorem JbV:Jan ["mosts","lids","levels","stops","lid"] ["mosts","lids","levels"] (Jae Baw):=by bv_decide
def JbZ (K:W.Frag) (Ad:Adr):Sp:=fun vs H Q E=>∃ (md ll ld:Addr) (kvm:List (Key × V)) (ms:List (Str × Fr2)) (xs:List V) (lds:List LidD) (kvl:List (Key × V)) (lvs:List (Str × Fr2)),vs=[.ref md, .ref ll, .ref ld]/\H md=some (.dK kvm)/\BG (·.1) (NFV K H) ms kvm/\H ll=some (.lst xs)/\All2 (LDV K Ad H) lds xs/\H ld=some (.dK kvl)/\BG (·.1) (NFV K H) lvs kvl/\ms.length<=12/\lds.length<=7/\(∀ e∈lds,FB 3000 1000 e.rest/\Mth.Sz 64 e.load/\e.ws.length<=12)/\(ms.map (·.1)).Nodup/\∀ sl ys H',Same H H'->H' sl=some (.lst ys)->All2 (StV K H') (stF ms lds (lvs.map (·.1))) ys->Q (.ref sl) H'
theorem Jd9 (F:FunD K "coming_stops" "coming_stops" Baw dV f fd) (T:Txt K mg Ad) (m_full_level:MCal P w K mg base 4 "full_level" (IsLid Ad) ["self"] (Jbw K Ad)):FnOk P w K mg base (CX1 P w) 5 f fd ["mosts","lids","levels"] (JbZ K Ad):=by
 refine F.okn JbV (by subst_eqs) (fun e5 A d7 s H vs Q E hr h=>?_)
 obtain ⟨r,ll,ld,c,X,xs,J,d3,a,rfl,h⟩:=h;have hu:=hr.units;refine ⟨_,(Jab (Jla (Jcp (j:=3) (own:=["name"]) (cs:=[(0,"mosts"),(2,"levels")]) JbV.nd rfl (Or.inl rfl) rfl (Jip (pv 0)) (fun _ _ _ _=>(Jar 0 (show [("name" : Str),("mosts" : Str),("levels" : Str)].Nodup by decide))) (fun _ _ _ _=>(Jee (Jdc (hu1 hu) (pv 0) (pv 2)) (by with_unfolding_all rfl))) (fun _ _ _ _=>(JaD (Jaa (Jb8 (hu1 hu) (pv 1) (pv 0) (fun _ _=>rfl)) (Jaa (Jba (Jaa (pv 0) Jac)) Jac)))) (JdT rfl) ⋯ rfl ⋯ (hcs2 rfl rfl rfl rfl rfl rfl))) (Jab (Ja6 PassesOwn.never rfl (pi_U (pv 1)) (Jar 4 JbV.nd) (Jai (ps_if (Jaz JfR (Jat (pv 4) rfl) Jad (JaA _)) (Jai (Jbb (pe_bm PySem.F.plainAttrs_list PySem.F.slot_list_append PySem.F.type_list_append Ja9 (pv 3) (Jaa (JaD (Jaa (m_full_level.m0 hr ⋯ passF (pv 4)) (Jaa (Jgu (Jin (own:=["name"]) (cs:=[(2,"levels")]) rfl (Jip (Jat (pv 4) rfl)) (fun _ _ _ _=>(Jar 0 (show [("name" : Str),("levels" : Str)].Nodup by decide))) (fun _ _ _ _=>(Jee (Jdc (hu1 hu) (pv 0) (pv 1)) (by with_unfolding_all rfl))) (fun _ _ _ _=>(pv 0)) (JdT rfl) ⋯ rfl ⋯ (hcs1 rfl rfl rfl))) Jac))) Jac) (hs:=by exact Jaf rfl))))
   Jaw))) (Jai (Jaq (pv 3))))),?_⟩
 clear hu;obtain ⟨hm,bm,hl,hX,hv,bl,c3,l7,d4,d1,k⟩:=h;have sz:(1000:Nat)<=sizeLine:=by decide
 have lX:=hX.length;show tSeq _ _ _ [some (.ref r),some (.ref ll),some (.ref ld),none,none] H;mleave;refine ⟨r,c,hm,r,c,X.map (·.1),rfl,hm,bm.keysS,fun od=>?_⟩;generalize uf:upd H r (.frz od (.dK c))=H1;mleave;have f1:H1 r=some (.frz od (.dK c)):=by rw [<- uf,Jaj]
 have t1:thw r c H1=H:=by rw [<- uf];exact JiO hm
 refine JbF.keys (fun i Z C=>C r=some (.frz od (.dK c))/\Same H (thw r c C)/\All2 (StV K (thw r c C)) (((X.take i).filter fun m=>decide (m.1∉a.map (·.1))).map fun m=>(m.2,[m.1])) Z) ⟨f1,by rw [t1];exact Same.refl _,rfl⟩ (fun i Z C hi z=>⟨z.1,by
  have h1:=z.2.2.length;rw [length_map] at h1;have h2:=length_filter_le (fun m:Str × Fr2=>decide (m.1∉a.map (·.1))) (X.take i);rw [length_take] at h2;ac_nf⟩) ?_ ?_
 ·rintro i z Z H2 hz ⟨L,S2,hA⟩;rw [List.getElem?_map] at hz;obtain ⟨m,a4,a3⟩:=Option.map_eq_some_iff.mp hz;have a3:m.1=z:=a3;subst a3;have b1:=List.mem_of_getElem? a4;simpa only [length_singleton,length_cons,length_nil,List.replicate,Jax,map_cons,map_nil,Option.join_some];refine ⟨ld,_,rfl,JiP (k:=Sum.inr m.1) L (S2 _ _ hv),?_⟩;rw [bl.val];by_cases g:m.1∈a.map (·.1)
  ·rw [decide_eq_true g];mleave;refine ⟨L,S2,?_⟩;rw [take_succ,a4,filter_append,map_append];have : [m].filter (fun m=>decide (m.1∉a.map (·.1)))=[]:=List.filter_eq_nil_iff.mpr fun x D=>by rw [mem_singleton.mp D];simpa using g
   rw [show (some m).toList=[m] from rfl,this,map_nil,append_nil];exact hA
  ·rw [decide_eq_false g];mleave;obtain ⟨a',v,d6,c1,c5,d5⟩:=bm.some (z:=m.1) (mem_map.mpr ⟨m,b1,rfl⟩);have ea:=JgP d1 d6 b1 c1;subst ea;refine ⟨r,v,rfl,by rw [<- c5];exact DGet.f (k:=Sum.inr a'.1) L,?_⟩;mleave;refine ⟨by show 1<=sizeLine;ac_nf,?_⟩;rename_i l b2 c7 H2 H3 S3 e3;mleave;refine ⟨by show 2<=sizeLine;ac_nf,?_⟩;rename_i t c8 c2 H3 U S4 e4;mleave;have b4:=S3.trans S4;have f4:=b4 _ _ L;have St:=Jft (d:=r) (kv:=c) b4;refine ⟨f4,S2.trans St,?_⟩;rw [take_succ,a4,filter_append,map_append];have : [a'].filter (fun m=>decide (m.1∉a.map (·.1)))=[a']:=List.filter_eq_self.mpr fun x D=>by rw [mem_singleton.mp D];simpa using g
   rw [show (some a').toList=[a'] from rfl,this];exact (hA.mono (P':=StV K (thw r c U)) fun _ _ z=>z.same St).append (.one ⟨t,v,l,rfl,SqT.of (Jg4 f4 e4 (by intro o w z;cases z)),FrV.same (S2.trans St) d5,Jg4 f4 (S4 _ _ e3) (by intro o w z;cases z)⟩)
 ·rintro Z H2 ⟨L,S2,hA⟩;rw [length_map,take_of_length_le (Nat.le_refl _)] at hA;rename_i B N e0 H2 H3 S3 e3;mleave;refine ⟨od,c,S3 _ _ L,?_⟩;obtain ⟨U,a1⟩:∃ U,U=thw r c H3:=⟨_,rfl⟩;rw [show upd H3 r (.dK c)=U from a1.symm];mleave;have St:=Jft (d:=r) (kv:=c) S3;rw [<- a1] at St;have b7:=S2.trans St;have e4:U B=some (.lst Z):=by rw [a1];exact Jg4 (S3 _ _ L) e3 (by intro o w z;cases z)
  have O:H B=none:=JcD S2 (Jfs L N);have b8:All2 (StV K (cut B U)) ((X.filter fun m=>decide (m.1∉a.map (·.1))).map fun m=>(m.2,[m.1])) Z:=hA.mono fun _ _ z=>z.same fun b u h=>by
   rw [JbH (fun y=>by rw [y,Jfs L N] at h;cases h)];exact St b u h
  have d9:(X.filter fun m=>decide (m.1∉a.map (·.1))).length<=12:=Nat.le_trans (length_filter_le _ _) c3;have e1:ll≠B:=fun z=>by rw [z,O] at hl;cases hl
  refine ⟨ll,rfl,ForA.byLN (xs:=xs) (SqL.of (b7 _ _ hl)) (fun i σ C=>i<=xs.length/\∃ (v4:Option V) (R:List V) (st:List (Fr2 × List Str)),σ=[some (.ref r),some (.ref ll),some (.ref ld),some (.ref B),v4]/\Same H C/\C B=some (.lst R)/\All2 (StV K (cut B C)) st R/\st.length<=12+i/\st=(X.filter fun m=>decide (m.1∉a.map (·.1))).map (fun m=>(m.2,[m.1]))++((J.take i).filter fun e=>decide (0<e.load)).map fun e=>(divF e.rest (e.load,1),(e.ws.map (·.1)).filter fun n=>decide (n∉a.map (·.1)))) ⟨Nat.zero_le _,none,Z,_,rfl,b7,e4,b8,by rw [length_map];ac_nf,by rw [take_zero];simp⟩ (fun i σ C q=>by obtain ⟨_,_,_,_,_,q,_⟩:=q;exact SqL.of (q _ _ hl)) ?_ ?_⟩
  ·rintro i y σ H5 hy ⟨hi,v4,R,st,rfl,S5,ez,hZ,d0,G⟩ N0 b3;have li:=(List.getElem?_eq_some_iff.mp hy).1;obtain ⟨e,b6,hd⟩:=hX.at_ hy;have d2:=List.mem_of_getElem? b6;obtain ⟨c6,c9,e7⟩:=d4 e d2;have b0:=hd.same S5;obtain ⟨q,dx,vr,vt,M,rfl,hq,hr,e2,hw⟩:=id b0;have tc:=T.c_Lid Ad.Lid rfl;have lZ:=hZ.length;mleave;refine ⟨q,_,dx,_, .int e.load,rfl,hq,tc.cls,tc.n4,rfl,?_⟩;mleave;have a8:J.take (i+1)=J.take i++[e]:=by rw [take_succ,b6];rfl
   by_cases c0:0<e.load
   ·rw [if_pos (by simpa using c0)];mleave;refine ⟨.inl ⟨rfl,_,SqL.of ez⟩,?_⟩;refine ⟨q,_,dx,_,rfl,hq,rfl,rfl,?_⟩;refine ⟨q,e,rfl,b0,c6,by ac_nf,c9,fun p H6 S6 e6=>?_⟩;mleave;have a5:=S6 _ _ hw;refine ⟨M,_,a5,q,_,dx,_, .ref M,rfl,S6 _ _ hq,tc.cls,tc.n3,rfl,M,wsK e.ws,e.ws.map (·.1),rfl,a5,JjK e.ws,fun S=>?_⟩;generalize ug:upd H6 M (.frz S (.dK (wsK e.ws)))=H7;mleave;have f7:H7 M=some (.frz S (.dK (wsK e.ws))):=by rw [<- ug,Jaj]
    have t7:thw M (wsK e.ws) H7=H6:=by rw [<- ug];exact JiO a5
    have b9:=S5.trans S6;refine JbF.keys (fun j qs C=>C=H7/\qs=(((e.ws.map (·.1)).take j).filter fun n=>decide (n∉a.map (·.1))).map V.str) ⟨rfl,by rw [take_zero];rfl⟩ (fun j qs C hj z=>⟨by rw [z.1];exact f7,by
     rw [z.2,length_map];have h2:=length_filter_le (fun n:Str=>decide (n∉a.map (·.1))) ((e.ws.map (·.1)).take j);rw [length_take,length_map] at h2;ac_nf⟩) ?_ ?_
    ·rintro j z qs H8 hz ⟨Y,I⟩;subst Y;subst I;simpa only [length_singleton,length_cons,length_nil,List.replicate,Jax,map_cons,map_nil,Option.join_some];refine ⟨ld,_,rfl,JiP (k:=Sum.inr z) f7 (by rw [t7];exact b9 _ _ hv),?_⟩;rw [bl.val];have b5:(e.ws.map (·.1)).take (j+1)=(e.ws.map (·.1)).take j++[z]:=by rw [take_succ,hz];rfl
     by_cases g:z∈a.map (·.1)
     ·rw [decide_eq_true g];mleave;rw [b5,filter_append,show [z].filter (fun n=>decide (n∉a.map (·.1)))=[] from List.filter_eq_nil_iff.mpr fun x D=>by rw [mem_singleton.mp D];simpa using g,append_nil]
     ·rw [decide_eq_false g];mleave;rw [b5,filter_append,show [z].filter (fun n=>decide (n∉a.map (·.1)))=[z] from List.filter_eq_self.mpr fun x D=>by rw [mem_singleton.mp D];simpa using g,map_append];rfl
    ·rintro qs H8 ⟨Y,I⟩;subst Y;rw [take_of_length_le (Nat.le_refl _)] at I;subst I;rename_i l b2 c7 H8 H9 S9 e9;mleave;refine ⟨S,_,S9 _ _ f7,?_⟩;obtain ⟨HA,a2⟩:∃ HA,HA=thw M (wsK e.ws) H9:=⟨_,rfl⟩;rw [show upd H9 M (.dK (wsK e.ws))=HA from a2.symm];have Su:=Jft (d:=M) (kv:=wsK e.ws) S9;rw [t7, <- a2] at Su;have eA:HA l=some (.lst (((e.ws.map (·.1)).filter fun n=>decide (n∉a.map (·.1))).map V.str)):=by rw [a2];exact Jg4 (S9 _ _ f7) e9 (by intro o w z;cases z)
     mleave;refine ⟨len2,?_⟩;rename_i t c8 c2 HA HB SB eB;mleave;have a0:=S6.trans (Su.trans SB);have W:=a0 _ _ ez;refine ⟨B,R,_,rfl,rfl,W,by ac_nf,?_⟩;generalize a6:upd HB B _=d8;mleave;have c4:=putE a6;have ec:cut B d8=cut B HB:=by rw [<- a6];exact Jf8
     have a9:H6 l=none:=by rw [<- t7];exact Jfs f7 b2
     have a7:l≠B:=fun z=>by rw [z,S6 _ _ ez] at a9;cases a9
     refine b3 _ _ ⟨li,_,R++[.ref t],st++[(divF e.rest (e.load,1),(e.ws.map (·.1)).filter fun n=>decide (n∉a.map (·.1)))],rfl,fun b u h=>by rw [<- a6,Jag (Jah h O)];exact a0 _ _ (S5 _ _ h),c4,?_,by simp;ac_nf,?_⟩
     ·rw [ec];refine (hZ.mono (P':=StV K (cut B HB)) fun _ _ z=>z.same a0.cut).append (.one ⟨t, .ref p,l,rfl,SqT.cut W (SqT.of eB),FrV.cut W (FrV.of (SB _ _ (Su _ _ e6))),?_⟩);rw [JbH a7];exact SB _ _ eA
     ·rw [G,a8,filter_append,show [e].filter (fun e=>decide (0<e.load))=[e] from List.filter_eq_self.mpr fun x D=>by rw [mem_singleton.mp D];simpa using c0,map_append, <- List.append_assoc];rfl
   ·rw [if_neg (by simpa using c0)];mleave;refine b3 _ _ ⟨li,_,R,st,rfl,S5,ez,hZ,by ac_nf,?_⟩;rw [G,a8,filter_append,show [e].filter (fun e=>decide (0<e.load))=[] from List.filter_eq_nil_iff.mpr fun x D=>by rw [mem_singleton.mp D];simpa using c0,append_nil]
  ·rintro σ H5 ⟨hi,v4,R,st,rfl,S5,ez,hZ,d0,G⟩;rw [take_of_length_le ∅] at G;mleave;refine k B R H5 S5 ez ?_;unfold stF;rw [<- G];exact hZ.mono fun _ _ z=>z.cut
abbrev BaG:Stmt:=top 41
theorem JbA:Jan ["stops","found","stop"] ["stops"] (Jae BaG):=by bv_decide
def Jcb (K:W.Frag):Sp:=fun vs H Q E=>∃ (sl:Addr) (ys:List V) (st:List (Fr2 × List Str)),vs=[.ref sl]/\SqL K H sl ys/\All2 (StV K H) st ys/\st≠[]/\(∀ s∈st,FB 3000 1200 s.1)/\∀ v (L:Fr2),L∈st.map (·.1)->(∀ s∈st,vl L<=vl s.1)->FrV K H v L.1 L.2->Q v H
theorem Jes (F:FunD K "first_level" "first_level" BaG dV f fd) (T:Txt K mg Ad) (Bah:Cal P w K mg base 1 "under" ["one","other"] [] (JbP K)):FnOk P w K mg base (CX1 P w) 2 f fd ["stops"] (Jcb K):=by
 refine F.okn JbA (by subst_eqs) (fun a1 A a0 s H vs Q E hr h=>?_)
 obtain ⟨x,D,Y,rfl,h⟩:=h;refine ⟨_,(Jab (Jak 1 JbA.nd (pe_ix ix_U (pe_ix ix_U (pv 0) Jad) Jad)) (Jab (Ja6 PassesOwn.never rfl (pi_U (pv 0)) (Jar 2 JbA.nd) (Jai (ps_if (Ja7 (Bah.ev hr ⋯ rfl passF (Jaa (pe_ix ix_U (pv 2) Jad) (Jaa (pv 1) Jac)))) (Jai (Jak 1 JbA.nd (pe_ix ix_U (pv 2) Jad)))
   Jaw))) (Jai (Jaq (pv 1))))),?_⟩
 obtain ⟨W,Z,I,m,k⟩:=h;have lA:=Z.length;obtain ⟨g,r,rfl⟩:∃ g r,Y=g::r:=by cases Y with | nil=>exact absurd rfl I | cons a b=>exact ⟨a,b,rfl⟩
 obtain ⟨y0,S,t0,v0,l0,rfl,C,O,_⟩:=Z.get (i:=0) rfl;show tSeq _ _ _ [some (.ref x),none,none] H;cbv;refine ixL (i:=0) W S ?_;cbv;refine ixT (i:=0) C rfl ?_;cbv;refine ⟨x,rfl,ForA.byLN (xs:=D) W (fun i σ u=>i<=D.length/\u=H/\∃ (v:V) (L:Fr2) (U:Option V),σ=[some (.ref x),some v,U]/\FrV K H v L.1 L.2/\L∈(g::r).map (·.1)/\∀ s∈(g::r).take i,vl L<=vl s.1) ⟨Nat.zero_le _,rfl,v0,g.1,none,rfl,O,by simp,(fun s n=>by simp at n)⟩ (fun i σ u q=>by rw [q.2.1];exact W) ?_ ?_⟩
 ·rintro i y σ u hy ⟨hi,rfl,v,L,U,rfl,B,p,d⟩ N0 o;have li:=(List.getElem?_eq_some_iff.mp hy).1;obtain ⟨s,n,t,w,l,rfl,ht,hw,_⟩:=Z.at_ hy;have X:=m s (List.mem_of_getElem? n);obtain ⟨sL,R,J⟩:=mem_map.mp p;have N:FB 3000 1200 L:=J ▸ m sL R;have j:(g::r).take (i+1)=(g::r).take i++[s]:=by rw [take_succ,n];rfl
  have M:=JcK (a:=s.1) (c:=L) X.b1 N.b1;unfold lessF at M;cbv;refine ixT (i:=0) ht rfl ?_;refine ⟨w,v,_,_,_,_,rfl,hw,B,X.s1.mono ⋯,X.s2.mono ⋯,N.s1.mono ⋯,N.s2.mono ⋯,?_⟩;cbv;by_cases c:decide (s.1.1*L.2<L.1*s.1.2)=true
  ·rw [if_pos c];cbv;refine ixT (i:=0) ht rfl ?_;cbv;have lt:=M.mp c;refine o _ _ ⟨li,rfl,w,s.1,_,rfl,hw,mem_map.mpr ⟨s,List.mem_of_getElem? n,rfl⟩,fun G e=>?_⟩;rw [j] at e;rcases mem_append.mp e with h | h
   ·exact Rat.le_trans (Rat.le_of_lt lt) (d G h)
   ·rw [mem_singleton.mp h];exact Rat.le_refl
  ·rw [if_neg c];cbv;refine o _ _ ⟨li,rfl,v,L,_,rfl,B,p,fun G e=>?_⟩;rw [j] at e;rcases mem_append.mp e with h | h
   ·exact d G h
   ·rw [mem_singleton.mp h];exact Rat.not_lt.mp fun z=>c (M.mpr z)
 ·rintro σ u ⟨hi,rfl,v,L,U,rfl,B,p,d⟩;rw [take_of_length_le ∅] at d;cbv;exact k v L p d B
abbrev BaR:Stmt:=top 42
theorem JbL:Jan ["stops","level","names","stop","name"] ["stops","level"] (Jae BaR):=by bv_decide
def JcB (K:W.Frag):Sp:=fun vs H Q E=>∃ (sl:Addr) (lv:V) (ys:List V) (st:List (Fr2 × List Str)) (L:Fr2) (N:List Str),vs=[.ref sl,lv]/\SqL K H sl ys/\All2 (StV K H) st ys/\FrV K H lv L.1 L.2/\N.length<=20/\(∀ s∈st, ∀ n∈s.2,n∈N)/\∀ (l:Addr) (ns:List Str) (H':Hp),Same H H'->H' l=some (.lst (ns.map V.str))->ns.Nodup->(∀ n,n∈ns↔∃ s∈st,s.1=L/\n∈s.2)->Q (.ref l) H'
theorem Jfc (F:FunD K "stopped_at" "stopped_at" BaR dV f fd) (T:Txt K mg Ad)  : FnOk P w K mg base (CX1 P w) 1 f fd ["stops","level"] (JcB K):=by
 refine F.okn JbL (by subst_eqs) (fun a6 A a2 s H vs Q E hr h=>?_)
 obtain ⟨Y,lv,ys,st,L,N,rfl,h⟩:=h;have hu:=hr.units;refine ⟨_,(Jab (Jak 2 JbL.nd JbJ) (Jab (Ja6 PassesOwn.never rfl (pi_U (pv 0)) (Jar 3 JbL.nd) (Jai (ps_if (Jaz (JbT hu) (pe_ix ix_U (pv 3) Jad) (pv 1) (JaA _)) (Jai (Ja6 PassesOwn.never rfl (pi_U (pe_ix ix_U (pv 3) Jad)) (Jar 4 JbL.nd) (Jai (Jco (hu1 hu) (pv 2) (pv 4) pe_bl rfl))))
   Jaw))) (Jai (Jaq (Jec (Jhb rfl) rfl T.BdN JhD (Jaa (pv 2) Jac)))))),?_⟩
 clear hu;obtain ⟨hS,hA,hL,a7,hN,k⟩:=h;have sz:(1000:Nat)<=sizeLine:=by decide
 have lA:=hA.length;show tSeq _ _ _ [some (.ref Y),some lv,none,none,none] H;cbv;rename_i R O a3 H H1 S1 e1;cbv;refine ⟨Y,rfl,ForA.byLN (xs:=ys) (hS.same S1) (fun i σ U=>i<=ys.length/\∃ (v3 M:Option V) (r:List (Key × V)) (B:List Str),σ=[some (.ref Y),some lv,some (.ref R),v3,M]/\Same H U/\U R=some (.dK r)/\r.map (·.1)=B.map Sum.inr/\B.Nodup/\∀ n,n∈B↔∃ s∈st.take i,s.1=L/\n∈s.2) ⟨Nat.zero_le _,none,none,[],[],rfl,S1,e1,rfl, .nil,fun n=>by simp⟩ (fun i σ U q=>by obtain ⟨_,_,_,_,_,_,q,_⟩:=q;exact hS.same q) ?_ ?_⟩
 ·rintro i y σ H2 hy ⟨hi,v3,M,r,B,rfl,J,e2,hk,G,d⟩ N0 a0;have li:=(List.getElem?_eq_some_iff.mp hy).1;obtain ⟨s,hs,t,w,l,rfl,ht,hw,hl⟩:=hA.at_ hy;have a1:=List.mem_of_getElem? hs;have X:st.take (i+1)=st.take i++[s]:=by rw [take_succ,hs];rfl
  cbv;refine ixT (i:=0) (ht.same J) rfl ?_;refine eqF (hw.same J) (hL.same J) ?_;have ee:(decide (s.1.1=L.1)&&decide (s.1.2=L.2))=decide (s.1=L):=by
   rw [<- Bool.decide_and];exact decide_eq_decide.mpr Prod.ext_iff.symm
  rw [ee];cbv;by_cases c:s.1=L
  ·rw [if_pos (by simpa using c)];cbv;refine ixT (i:=1) (ht.same J) rfl ?_;cbv;have a4:l≠R:=Jah hl O;refine ⟨l,rfl,ForA.byLN (xs:=s.2.map V.str) (SqL.of (J _ _ hl)) (fun j σ U=>j<=(s.2.map V.str).length/\∃ (M:Option V) (r:List (Key × V)) (ns':List Str),σ=[some (.ref Y),some lv,some (.ref R),some (.ref t),M]/\Same H U/\U R=some (.dK r)/\r.map (·.1)=ns'.map Sum.inr/\ns'.Nodup/\∀ n,n∈ns'↔n∈B\/n∈s.2.take j) ⟨Nat.zero_le _,M,r,B,rfl,J,e2,hk,G,fun n=>by simp⟩ (fun j σ U q=>by obtain ⟨_,_,_,_,_,q,_⟩:=q;exact SqL.of (q _ _ hl)) ?_ ?_⟩
   ·rintro j z σ H3 hz ⟨hj,M,C,g,rfl,S3,e3,o,e,a⟩ N1 Z;have lj:=(List.getElem?_eq_some_iff.mp hz).1;rw [List.getElem?_map] at hz;obtain ⟨n,hn,rfl⟩:=Option.map_eq_some_iff.mp hz;have lk:C.length=g.length:=by simpa using congrArg List.length o
    have lN:g.length<=N.length:=sub_len g N e fun x hx=>by
     rcases (a x).mp hx with h | h
     ·obtain ⟨D,m,_,p⟩:=(d x).mp h;exact hN D (List.mem_of_mem_take m) x p
     ·exact hN s a1 x (List.mem_of_mem_take h)
    cbv;refine ⟨R,_,rfl,DPut.k (k:=Sum.inr n) e3 ∅,?_⟩;generalize u4:upd H3 R _=H4;cbv;have e4:=putE u4;have W:s.2.take (j+1)=s.2.take j++[n]:=by rw [take_succ,hn];rfl
    have S4:Same H H4:=fun b u h=>by rw [<- u4,Jag (Jah h O)];exact S3 _ _ h
    have S:=Jh4 (kvs:=C) (k:=Sum.inr n);rw [o] at S;by_cases cn:n∈g
    ·refine Z _ _ ⟨lj,_,_,g,rfl,S4,e4,?_,e,fun x=>?_⟩
     ·rw [Jh5,if_pos (S.mpr (mem_map.mpr ⟨n,cn,rfl⟩))];exact o
     ·rw [a x,W,mem_append,mem_singleton];refine ⟨fun h=>h.elim .inl fun h=>.inr (.inl h),fun h=>?_⟩;rcases h with h | h | h
      ·exact .inl h
      ·exact .inr h
      ·rw [h];exact (a n).mp cn
    ·refine Z _ _ ⟨lj,_,_,g++[n],rfl,S4,e4,?_,?_,fun x=>?_⟩
     ·rw [Jh5,if_neg (fun z=>cn (by obtain ⟨q,hq,eq⟩:=mem_map.mp (S.mp z);have eq:q=n:=(by injection eq);exact eq ▸ hq)),o,map_append];rfl
     ·exact nodup_append.mpr ⟨e,by simp,fun u hu v hv z=>cn (by rw [mem_singleton.mp hv] at z;rw [<- z];exact hu)⟩
     ·rw [mem_append,mem_singleton,a x,W,mem_append,mem_singleton];grind
   ·rintro σ H3 ⟨hj,M,C,g,rfl,S3,e3,o,e,a⟩;rw [length_map,take_of_length_le (Nat.le_refl _)] at a;refine a0 _ _ ⟨li,_,_,C,g,rfl,S3,e3,o,e,fun n=>?_⟩;rw [a n,d n,X];constructor
    ·rintro (⟨D,m,p,I⟩ | h)
     ·exact ⟨D,mem_append.mpr (.inl m),p,I⟩
     ·exact ⟨s,mem_append.mpr (.inr (by simp)),c,h⟩
    ·rintro ⟨D,m,p,I⟩;rcases mem_append.mp m with m | m
     ·exact .inl ⟨D,m,p,I⟩
     ·rw [mem_singleton.mp m] at I;exact .inr I
  ·rw [if_neg (by simpa using c)];cbv;refine a0 _ _ ⟨li,_,_,r,B,rfl,J,e2,hk,G,fun n=>?_⟩;rw [d n,X];constructor
   ·rintro ⟨D,m,p,I⟩;exact ⟨D,mem_append.mpr (.inl m),p,I⟩
   ·rintro ⟨D,m,p,I⟩;rcases mem_append.mp m with m | m
    ·exact ⟨D,m,p,I⟩
    ·rw [mem_singleton.mp m] at p;exact absurd p c
 ·rintro σ H2 ⟨hi,v3,M,r,B,rfl,J,e2,hk,G,d⟩;rw [take_of_length_le ∅] at d;cbv;refine ⟨R,r,B,rfl,e2,hk,?_⟩;rename_i l a8 a5 H2 H3 S3 e3;cbv;exact k l B H3 (J.trans S3) e3 G d
abbrev Bax:Stmt:=top 43
theorem Ja4:Jan ["mosts","lids","levels","stops","level","name","lid"] ["mosts","lids"] (Jae Bax):=by bv_decide
def Jb0 (K:W.Frag) (Ad:Adr):Sp:=fun vs H Q E=>∃ (md ll:Addr) (kvm:List (Key × V)) (ms:List (Str × Fr2)) (xs:List V) (lds:List LidD) (b q0:Int) (N:List Str) (w M:Str->Rat) (gs:List Gp),vs=[.ref md, .ref ll]/\H md=some (.dK kvm)/\BG (·.1) (NFV K H) ms kvm/\H ll=some (.lst xs)/\All2 (LDV K Ad H) lds xs/\xs.Nodup/\lds.length<=7/\RC b q0 N w M gs ms/\RSt b N w M gs [] lds/\∀ (ld:Addr) (kv:List (Key × V)) (lvs:List (Str × Fr2)) (lds':List LidD) (H':Hp),(∀ a u,V.ref a∉xs->H a=some u->H' a=some u)->H ld=none->H' ld=some (.dK kv)->BG (·.1) (NFV K H') lvs kv->All2 (LDV K Ad H') lds' xs->RSt b N w M gs lvs lds'->N.length<=lvs.length->lds'.map (·.nm)=lds.map (·.nm)->Q (.ref ld) H'
theorem Jea (F:FunD K "risen_levels" "risen_levels" Bax dV f fd) (T:Txt K mg Ad) (Bbj:Cal P w K mg base 5 "coming_stops" ["mosts","lids","levels"] [] (JbZ K Ad)) (Bbv:Cal P w K mg base 2 "first_level" ["stops"] [] (Jcb K)) (BbF:Cal P w K mg base 1 "stopped_at" ["stops","level"] [] (JcB K)) (m_settle:MCal P w K mg base 4 "settle" (IsLid Ad) ["self","part","level"] (Jcs K Ad)):FnOk P w K mg base (CX1 P w) 7 f fd ["mosts","lids"] (Jb0 K Ad):=by
 refine F.okn Ja4 (by subst_eqs) (fun f8 A f4 s H vs Q E hr h=>?_)
 obtain ⟨md,ll,R,ms,xs,G,b,q0,N,w,M,gs,rfl,h⟩:=h;have hu:=hr.units;refine ⟨_,(Jab (Jak 2 Ja4.nd JbJ) (Jab (JdO PassesOwn.never (Jaz JfS (Jay Jfz rfl T.BbP JbG (Jaa (pv 2) Jac)) (Jay Jfz rfl T.BbP JbG (Jaa (pv 0) Jac)) (JaA _)) (Jab (Jak 3 Ja4.nd (Bbj.ev hr ⋯ rfl passF (Jaa (pv 0) (Jaa (pv 1) (Jaa (pv 2) Jac))))) (Jab (Jak 4 Ja4.nd (Bbv.ev hr ⋯ rfl passF (Jaa (pv 3) Jac))) (Jai (Ja6 PassesOwn.never rfl (pi_U (BbF.ev hr ⋯ rfl passF (Jaa (pv 3) (Jaa (pv 4) Jac)))) (Jar 5 Ja4.nd) (Jab (Jco (hu1 hu) (pv 2) (pv 5) (pv 4) rfl) (Jai (Ja6 PassesOwn.never rfl (pi_U (pv 1)) (Jar 6 Ja4.nd) (Jai (Jbb (m_settle.m hr ⋯ passF (pv 6) (Jaa (pv 5) (Jaa (pv 4) Jac))))))))))))) (Jai (Jaq (pv 2))))),?_⟩
 clear hu;obtain ⟨hm,bm,hl,hX,f2,l7,X,d2,k⟩:=h;show tSeq _ _ _ [some (.ref md),some (.ref ll),none,none,none,none,none] H;cbv;rename_i g S f5 H H1 S1 e1;cbv;refine ⟨fun m σ C=>∃ (v3 v4 v5 v6:Option V) (kv:List (Key × V)) (d:List (Str × Fr2)) (o:List LidD),σ=[some (.ref md),some (.ref ll),some (.ref g),v3,v4,v5,v6]/\(∀ a u,V.ref a∉xs->H a=some u->C a=some u)/\C g=some (.dK kv)/\BG (·.1) (NFV K C) d kv/\All2 (LDV K Ad (cut g C)) o xs/\RSt b N w M gs d o/\o.map (·.nm)=G.map (·.nm)/\m=N.length-d.length,⟨_,none,none,none,none,[],[],G,rfl,fun a u _ h=>S1 _ _ h,e1,⟨rfl,rfl⟩,hX.mono fun _ _ h=>h.same (Same.cutN S1 S),d2,rfl,rfl⟩,?_⟩;rintro m σ H2 ⟨v3,v4,v5,v6,kv,d,o,rfl,S2,e2,b2,c3,st,b3,rfl⟩;have x2:All2 (LDV K Ad H2) o xs:=c3.mono fun _ _ z=>z.same Jc6;cbv;have f6:=X.l12;have c4:=S2 md _ (LDV.notin hX hm (fun _ _ z=>by cases z)) hm;have W:=S2 ll _ (LDV.notin hX hl (fun _ _ z=>by cases z)) hl;have T2:SameT H H2:=fun c u t h=>S2 c u (LDV.notin hX h (fun _ _ z=>by rw [z] at t;simp [isTF] at t)) h;have f1:BG (·.1) (NFV K H2) ms R:=bm.mono fun _ _ z=>z.sameT T2;have lk:=b2.length;have lm:=bm.length;have lN:ms.length=N.length:=by rw [<- X.nm,length_map]
 have sz:(1000:Nat)<=sizeLine:=by decide
 have g0:=hX.length;have f9:=x2.length;refine ⟨g,kv,rfl,e2,md,R,rfl,c4,?_⟩;cbv;by_cases c:d.length<N.length
 ·rw [if_pos (by simpa using (by ac_nf:kv.length<R.length))];cbv;refine ⟨_,fun σ' C h=>h,?_⟩;cbv;refine ⟨md,ll,g,R,ms,xs,o,kv,d,rfl,c4,f1,W,x2,e2,b2,by ac_nf,by ac_nf,st.lids X,by rw [X.nm];exact X.nd,fun sl ys H3 S3 e3 hY=>?_⟩;cbv;have x:=st.stops X;refine ⟨sl,ys,_,rfl,SqL.of e3,hY,st.some X c,fun s hs=>⟨(x s hs).1.s1,(x s hs).1.s2.mono ⋯,(x s hs).1.b1,(x s hs).1.g1⟩,fun v L hL c1 hv=>?_⟩;cbv;refine ⟨sl,v,ys,_,L,N,rfl,SqL.of e3,hY,hv,by ac_nf,fun s hs n hn=>((x s hs).2 n hn).1,fun l J H4 S4 e4 a8 d4=>?_⟩;obtain ⟨c8,c6,d3,D,d0⟩:=st.first X c hL c1 a8 d4;have O:=S3.trans S4;have x4:All2 (LDV K Ad H4) o xs:=x2.mono fun _ _ z=>z.same O;have a1:=O _ _ e2;have f3:l≠g:=fun z=>by rw [z,a1] at e4;cases e4
  have d5:=LDV.notin x4 e4 (fun _ _ z=>by cases z);have a3:=LDV.notin x4 a1 (fun _ _ z=>by cases z);have b4:ll≠g:=fun z=>by rw [z,e2] at W;cases W
  have a4:=LDV.notin x2 W (fun _ _ z=>by cases z);have d7:=hv.same S4;cbv;refine ⟨l,rfl,ForA.byLN (xs:=J.map V.str) (SqL.of e4) (fun i σ C=>i<=(J.map V.str).length/\∃ (v5 v6:Option V) (kv':List (Key × V)) (lds':List LidD),σ=[some (.ref md),some (.ref ll),some (.ref g),some (.ref sl),some v,v5,v6]/\(∀ a u,V.ref a∉xs->a≠g->H4 a=some u->C a=some u)/\C g=some (.dK kv')/\BG (·.1) (NFV K C) (d++(J.take i).map fun n=>(n,L)) kv'/\All2 (LDV K Ad (cut g C)) lds' xs/\RMd b N w M gs L D (d.length+1) (d++(J.take i).map fun n=>(n,L)) lds'/\lds'.map (·.nm)=G.map (·.nm)) ⟨Nat.zero_le _,v5,v6,kv,o,rfl,fun _ _ _ _ h=>h,a1,by rw [take_zero,map_nil,append_nil];exact b2.mono fun _ _ z=>z.sameT fun c u _ h=>O _ _ h,c3.mono (fun _ _ z=>z.same O.cut),by rw [take_zero,map_nil,append_nil];exact d0,b3⟩ (fun i σ C q=>by obtain ⟨_,_,_,_,_,_,q,_⟩:=q;exact SqL.of (q _ _ d5 f3 e4)) ?_ ?_⟩
  ·rintro i y σ H5 hy ⟨hi,c5,b8,a6,p,rfl,S5,e5,b5,I,B,Y⟩ N0 d9;have li:=(List.getElem?_eq_some_iff.mp hy).1;rw [length_map] at li;rw [List.getElem?_map] at hy;obtain ⟨n,hn,rfl⟩:=Option.map_eq_some_iff.mp hy;have c7:=List.mem_of_getElem? hn;have hN:=c6 n c7;have d1:J.take (i+1)=J.take i++[n]:=by rw [take_succ,hn];rfl
   have a5:(d++(J.take (i+1)).map fun n=>(n,L))=(d++(J.take i).map fun n=>(n,L))++[(n,L)]:=by rw [d1,map_append, <- List.append_assoc];rfl
   have hS:n∉(d++(J.take i).map fun n=>(n,L)).map (·.1):=by
    rw [Jbh];intro z;rcases mem_append.mp z with z | z
    ·exact hN.2 z
    ·exact Ji6 a8 hn z
   have T5:SameT H4 H5:=fun c u t h=>S5 c u (LDV.notin x4 h (fun _ _ z=>by rw [z] at t;simp [isTF] at t)) (fun z=>by rw [z,a1] at h;cases h;simp [isTF] at t) h;have f7:=b5.length;have l5:(d++(J.take i).map fun n=>(n,L)).length<=N.length:=by
    have:=sub_len _ _ B.inv.nd B.inv.sub;simpa using this
   have g2:=I.length;cbv;refine ⟨g,_,rfl,DPut.k (k:=Sum.inr n) e5 ∅,?_⟩;generalize u6:upd H5 g _=Z;cbv;have e6:=putE u6;have T6:SameT H5 Z:=SameT.put u6 e5 rfl;have o6:∀ a u,a≠g->H5 a=some u->Z a=some u:=fun a u ne h=>by rw [<- u6,Jag ne];exact h
   have c9:cut g Z=cut g H5:=by rw [<- u6];exact Jf8
   rw [<- c9] at I;have x6:All2 (LDV K Ad Z) p xs:=I.mono fun _ _ z=>z.same Jc6;have c2:=(d7.sameT T5).sameT T6;have b6:BG (·.1) (NFV K Z) (d++(J.take (i+1)).map fun n=>(n,L)) (putK a6 (Sum.inr n) v):=by
    rw [a5];exact (b5.mono (P':=NFV K Z) fun _ _ z=>z.sameT T6).new (a:=(n,L)) hS c2
   have b9:Z ll=some (.lst xs):=o6 _ _ b4 (S5 _ _ a4 b4 (O _ _ W));have U:=B.rest X;have e9:=B.step X hN.1 hS;cbv;refine ⟨ll,rfl,ForA.byLN (xs:=xs) (SqL.of b9) (fun j σ C=>j<=xs.length/\∃ (v6:Option V),σ=[some (.ref md),some (.ref ll),some (.ref g),some (.ref sl),some v,some (.str n),v6]/\(∀ a u,V.ref a∉xs->Z a=some u->C a=some u)/\All2 (LDV K Ad (cut g C)) ((p.take j).map (fun e=>e.settle n L)++p.drop j) xs) ⟨Nat.zero_le _,b8,rfl,fun _ _ _ h=>h,by rw [take_zero,map_nil,List.drop_zero,nil_append];exact I⟩ (fun j σ C q=>by obtain ⟨_,_,_,q,_⟩:=q;exact SqL.of (q _ _ a4 b9)) ?_ ?_⟩
   ·rintro j z σ H7 hz ⟨hj,b0,rfl,S7,x7⟩ N1 d6;have lj:=(List.getElem?_eq_some_iff.mp hz).1;obtain ⟨e,a7,a2⟩:=x7.at_ hz;rw [JkB] at a7;have c0:=List.mem_of_getElem? a7;have a9:=a2.same Jc6;obtain ⟨q,dx,vr,vt,wd,rfl,hq,_⟩:=id a9;have T7:SameT Z H7:=fun c u t h=>S7 c u (LDV.notin x6 h (fun _ _ z=>by rw [z] at t;simp [isTF] at t)) h;have e7:=S7 _ _ a3 e6;have e0:V.ref q∈xs:=List.mem_of_getElem? hz;cbv;refine ⟨q,_,dx,_,rfl,hq,rfl,rfl,?_⟩;refine ⟨q,n,v,e,L,rfl,a9,c2.sameT T7,(U e c0).1,B.fL,(U e c0).2,fun H8 S8 _ f0=>?_⟩;cbv;have b7:g≠q:=fun z=>by rw [<- z,e7] at hq;cases hq
    have e8:=S8 _ _ b7 e7;refine d6 _ _ ⟨lj,_,rfl,fun a u hx h=>S8 a u (fun z=>hx (z ▸ e0)) (S7 a u hx h),?_⟩;rw [<- JgR a7];refine x7.put hz (f0 g _ e7 a2) fun i' a y ne ha hy a0=>?_;have qc:cut g H7 q=_:=(JbH b7.symm).trans hq;refine a0.keep (q:=q) (fun b u nb h=>?_) qc (fun z=>ne ?_)
    ·have d8:b≠g:=fun z=>by rw [z] at h;unfold cut at h;rw [if_pos rfl] at h;cases h
     rw [JbH d8] at h ⊢;exact S8 b u nb h
    ·rw [z, <- hz] at hy;exact ((List.getElem?_inj lj f2).mp hy.symm).symm
   ·rintro σ H7 ⟨hj,b0,rfl,S7,x7⟩;rw [take_of_length_le ∅,List.drop_eq_nil_of_le ∅,append_nil] at x7;have T7:SameT Z H7:=fun c u t h=>S7 c u (LDV.notin x6 h (fun _ _ z=>by rw [z] at t;simp [isTF] at t)) h;refine d9 _ _ ⟨by rw [length_map];ac_nf,_,_,_,_,rfl,fun a u hx a0 h=>S7 a u hx (o6 a u a0 (S5 a u hx a0 h)),S7 _ _ a3 e6,b6.mono fun _ _ z=>z.sameT T7,x7,by rw [a5];exact e9,Jhw.trans Y⟩
  ·rintro σ H5 ⟨hi,c5,b8,a6,p,rfl,S5,e5,b5,I,B,Y⟩;rw [length_map,take_of_length_le (Nat.le_refl _)] at b5 B;have ln:1<=J.length:=by cases J with | nil=>exact absurd rfl c8 | cons a r=>simp
   refine ⟨_,?_,_,_,_,_,a6,_,p,rfl,fun a u hx h=>S5 a u hx (fun z=>by rw [z,S] at h;cases h) (O _ _ (S2 a u hx h)),e5,b5,I,B.next X d3 st.lo ∅,Y,rfl⟩;rw [length_append,length_map];ac_nf
 ·rw [if_neg (by simpa using (by ac_nf:¬ kv.length<R.length))];cbv;exact k g kv d o H2 S2 S e2 b2 x2 st ∅ b3
abbrev Ba5:Stmt:=top 44
theorem Jeh:Jan ["lids","name","level","full"] ["lids","name","level"] (Jae Ba5):=by bv_decide
def JcY (K:W.Frag) (Ad:Adr):Sp:=fun vs H Q E=>∃ (ll:Addr) (n:Str) (lv:V) (xs:List V) (lds:List LidD) (L:Fr2) (e:LidD),vs=[.ref ll, .str n,lv]/\H ll=some (.lst xs)/\All2 (LDV K Ad H) lds xs/\lds.length<=7/\FrV K H lv L.1 L.2/\lds.find? (fun l=>(wtOf l.ws n).isSome&&(decide (l.rest=(0,1))&&decide (l.last=L)))=some e/\∀ p H',Same H H'->H' p=some (.tup [.str (Str.ofString "gap"), .str e.nm])->Q (.ref p) H'
theorem Jgk (F:FunD K "gap_stop" "gap_stop" Ba5 dV f fd) (T:Txt K mg Ad) (m_has_stopped:MCal P w K mg base 1 "has_stopped" (IsLid Ad) ["self","part","level"] (Jbr K Ad)):FnOk P w K mg base (CX1 P w) 2 f fd ["lids","name","level"] (JcY K Ad):=by
 refine F.okn Jeh (by subst_eqs) (fun a0 A v s H X Q E hr h=>?_)
 obtain ⟨r,n,t,xs,a,L,e,rfl,h⟩:=h;refine ⟨_,(Jab (Jcp (j:=3) (own:=["lid"]) (cs:=[(1,"name"),(2,"level")]) Jeh.nd rfl (Or.inl rfl) rfl (pi_U (pv 0)) (fun _ _ _ _=>(Jar 0 (show [("lid" : Str),("name" : Str),("level" : Str)].Nodup by decide))) (fun _ _ _ _=>(Ja7 (m_has_stopped.m hr ⋯ passF (pv 0) (Jaa (pv 1) (Jaa (pv 2) Jac))))) (fun _ _ _ _=>(Jk2 (K:=K) rfl (pv 0) rfl)) (JdT rfl) ⋯ rfl ⋯ (hcs2 rfl rfl rfl rfl rfl rfl)) (Jai (Jaq (JaD (Jaa JbU (Jaa (pe_ix ix_U (pv 3) Jad) Jac)))))),?_⟩
 obtain ⟨N,S,l7,hv,O,k⟩:=h;have lX:=S.length;have sz:(1000:Nat)<=sizeLine:=by decide
 show tSeq _ _ _ [some (.ref r),some (.str n),some t,none] H;mleave;obtain ⟨P,D⟩:∃ P:LidD->Bool,P=fun l=>(wtOf l.ws n).isSome&&(decide (l.rest=(0,1))&&decide (l.last=L)):=⟨_,rfl⟩;rw [<- D] at O;refine ⟨r,rfl, .inl ⟨⟨xs,SqL.of N⟩,JbF.list (xs:=xs) (fun i g M=>M=H/\g=((a.take i).filter P).map fun e=>V.str e.nm) ⟨rfl,by rw [take_zero];rfl⟩ (fun i g M hi z=>⟨by rw [z.1];exact SqL.of N,by
  rw [z.2,length_map];have Y:=length_filter_le P (a.take i);rw [length_take] at Y;ac_nf⟩) ?_ ?_⟩⟩
 ·rintro i y g J hy ⟨c,b⟩;subst c;subst b;obtain ⟨l,u,B⟩:=S.at_ hy;obtain ⟨q,U,vr,vt,wd,rfl,R,_⟩:=id B;have C:=T.c_Lid Ad.Lid rfl;have d:a.take (i+1)=a.take i++[l]:=by rw [take_succ,u];rfl
  simpa only [length_singleton,length_cons,length_nil,List.replicate,Jax,map_cons,map_nil,Option.join_some];refine ⟨q,_,U,_,rfl,R,rfl,rfl,?_⟩;refine ⟨q,n,t,l,L,rfl,B,hv,?_⟩;mleave;rw [show ((wtOf l.ws n).isSome&&(decide (l.rest=(0,1))&&decide (l.last=L)))=P l by rw [D]];cases cp:P l with
  | false=>
   mleave;rw [d,filter_append,show [l].filter P=[] from List.filter_eq_nil_iff.mpr fun x o=>by rw [mem_singleton.mp o,cp];decide,append_nil]
  | true=>
   mleave;refine ⟨q,_,U,_, .str l.nm,rfl,R,C.cls,C.n1,rfl,?_⟩;mleave;rw [d,filter_append,show [l].filter P=[l] from List.filter_eq_self.mpr fun x o=>by rw [mem_singleton.mp o,cp],map_append];rfl
 ·rintro g J ⟨c,b⟩;subst c;rw [take_of_length_le ∅] at b;have h0:g[0]?=some (.str e.nm):=by
   have h1:(a.filter P).head?=some e:=by rw [List.head?_filter];exact O
   rw [b,List.getElem?_map, <- List.head?_eq_getElem?,h1];rfl
  rename_i fl I G J H3 S3 e3;mleave;mleave;refine ixL (i:=0) (SqL.of e3) h0 ?_;mleave;refine ⟨len2,?_⟩;rename_i p W Z H3 H4 S4 e4;mleave;exact k p H4 (S3.trans S4) e4
abbrev BbY:Stmt:=top 45
theorem JbB:Jan ["thing","scale","lids","mosts","levels","told","part","name","level","slack"] ["thing"] (Jae BbY):=by bv_decide
def Jdl (K:W.Frag) (Ad:Adr):Sp:=fun vs H Q E=>∃ (x:Addr) (ls:List PD) (es:List (GD × List Str)) (pl:Str->Fr2),vs=[.ref x]/\TK K Ad H x ls (es.map (·.1))/\SHC ls es pl/\((∀ e∈es,0<=vl (roomF pl e.1))->∀ (tl:Addr) (zs:List V) (rs:List ShD) (H':Hp),Same H H'->H tl=none->H' tl=some (.lst zs)->All2 (ShV K H') rs zs->ShR ls es pl rs->Q (.ref tl) H')/\∀ (i:Nat) (e:GD × List Str),es[i]?=some e->vl (roomF pl e.1)<0->(∀ e'∈es.take i,0<=vl (roomF pl e'.1))->∀ (dx:Addr) (H':Hp),Same H H'->H dx=none->H' dx=some (.xd [("tight_gap", .str e.1.nm)])->E (.ref Ad.Tight) (some dx) H'
theorem Jjm (F:FunD K "share" "share" BbY dV f fd) (T:Txt K mg Ad) (Ba6:Cal P w K mg base 4 "scale_of" ["thing"] [] (Jcz K Ad)) (Bch:Cal P w K mg base 7 "lids_of" ["thing","scale"] [] (JdA K Ad)) (Bbw:Cal P w K mg base 4 "most_levels" ["thing","scale"] [] (Jcd K Ad)) (Bbk:Cal P w K mg base 7 "risen_levels" ["mosts","lids"] [] (Jb0 K Ad)) (Baz:MCal P w K mg base 2 "parts" (Ja2 Ad) ["self"] (JaP K Ad)) (m_lowered:MCal P w K mg base 2 "lowered" (JcT Ad) ["self","number"] (JbE K Ad)) (Bbh:Cal P w K mg base 2 "times" ["one","other"] [] (Jdm K)) (BbZ:Cal P w K mg base 2 "gap_stop" ["lids","name","level"] [] (JcY K Ad)):FnOk P w K mg base (CX1 P w) 9 f fd ["thing"] (Jdl K Ad):=by
 refine F.okx JbB (fun vs H Q E h=>?_) (fun j1 A i1 s H vs Q E hr h=>?_)
 ·obtain ⟨x,Y,es,pl,rfl,_⟩:=h;rfl
 obtain ⟨x,Y,es,pl,rfl,h⟩:=h;have hu:=hr.units;refine ⟨_,(Jab (Jak 1 JbB.nd (Ba6.ev hr ⋯ rfl pass1 (Jaa (pv 0) Jac))) (Jab (Jak 2 JbB.nd (Bch.ev hr ⋯ rfl pass1 (Jaa (pv 0) (Jaa (pv 1) Jac)))) (Jab (Jak 3 JbB.nd (Bbw.ev hr ⋯ rfl pass1 (Jaa (pv 0) (Jaa (pv 1) Jac)))) (Jab (Jak 4 JbB.nd (Bbk.ev hr ⋯ rfl pass1 (Jaa (pv 3) (Jaa (pv 2) Jac)))) (Jab (Jak 5 JbB.nd (Jba Jac)) (Jab (Ja6 PassesOwn.leaving rfl (pi_U (Baz.m0 hr ⋯ pass1 (pv 0))) (Jar 6 JbB.nd) (Jab (Jak 7 JbB.nd (pe_ix ix_U (pv 6) Jad)) (Jab (Jak 8 JbB.nd (Jb8 (hu1 hu) (pv 4) (pv 7) (fun _ _=>rfl))) (Jai (ps_if (Jaz (JbT hu) (pv 8) (Jb8 (hu1 hu) (pv 3) (pv 7) (fun _ _=>rfl)) (JaA _)) (Jai (Jbb (pe_bm PySem.F.plainAttrs_list PySem.F.slot_list_append PySem.F.type_list_append Ja9 (pv 5) (Jaa (JaD (Jaa (pv 7) (Jaa (pe_ix ix_U (pv 6) Jad) (Jaa (JaD (Jaa JbU Jac)) Jac)))) Jac) (hs:=by exact Jaf rfl)))) (Jab (Jak 9 JbB.nd (m_lowered.m hr ⋯ pass1 (pv 1) (Jaa (Bbh.ev hr ⋯ rfl pass1 (Jaa (pv 8) (Jaa (JaD (Jaa (pe_ix ix_U (pv 6) Jad) (Jaa Jad Jac))) Jac))) Jac))) (Jai (Jbb (pe_bm PySem.F.plainAttrs_list PySem.F.slot_list_append PySem.F.type_list_append Ja9 (pv 5) (Jaa (JaD (Jaa (pv 7) (Jaa (pv 9) (Jaa (BbZ.ev hr ⋯ rfl pass1 (Jaa (pv 2) (Jaa (pv 7) (Jaa (pv 8) Jac)))) Jac)))) Jac) (hs:=by exact Jaf rfl)))))))))) (Jai (Jaq (pv 5))))))))),?_⟩
 clear hu;obtain ⟨ht,n,k,kT⟩:=h;obtain ⟨dx,d1,d2,d3,k1,k2,k3,hx,_⟩:=id ht;have sl:(1000:Nat)<=sizeLine:=by decide
 have i9:=n.l12;have l7:=n.l7;show tSeq _ _ _ [some (.ref x),none,none,none,none,none,none,none,none,none] H;cbv;refine ⟨x,Y,_,rfl,ht,n.l12,by rw [length_map];exact n.l7,by rw [length_map];exact n.l14,fun p L=>⟨(n.pb p L).1,(n.pb p L).2.b1,(n.pb p L).2.s2.mono ⋯⟩,fun g hg=>by obtain ⟨e,he,rfl⟩:=mem_map.mp hg;exact n.gb e he,fun sc b fs H1 S1 Z=>?_⟩;obtain ⟨e1,fl,c5,_,c8,sb,_⟩:=id Z;have b1:=c8.b1;cbv;refine ⟨x,sc,Y,es,pl,b,fs,rfl,ht.same S1,Z,n,fun c9 ll xs b3 H2 S2 i5 e2 hX i0 g4 c4 b8=>?_,fun i e h1 h2 h3 h7 H2 S2 h4 h5=>kT i e h1 h2 h3 h7 H2 (S1.trans S2) (JcD S1 h4) h5⟩;cbv;have f9:=S1.trans S2;refine ⟨x,sc,Y,_,b,fs,rfl,ht.same f9,Z.same S2,n.l12,n.nd,fun p L=>⟨(n.pb p L).2,(n.pok p L).w,n.wt p L⟩,fun md d7 ms H3 S3 i7 e3 bm f7 f6=>?_⟩;obtain ⟨q0,rc,f2⟩:=JjF b1 sb n c9 c4 b8 f7 f6;have hw:=Jj6 c4 b8;cbv;have x3:All2 (LDV K Ad H3) b3 xs:=hX.mono fun _ _ z=>z.same S3;refine ⟨md,ll,d7,ms,xs,b3,b,q0,_,_,_,_,rfl,e3,bm,S3 _ _ e2,x3,i0,by ac_nf,rc,f2,fun ld kv f0 R H4 S4 i3 e4 b4 x4 X M f5=>?_⟩;have a9:Same H1 H4:=fun c u h=>S4 c u (fun z=>by obtain ⟨q,eq,hq⟩:=g4 _ z;have eq:c=q:=(by injection eq);rw [<- eq,h] at hq;cases hq) (S3 _ _ (S2 _ _ h));have a2:=S1.trans a9;have T4:SameT H3 H4:=fun c u t h=>S4 c u (LDV.notin x3 h (fun _ _ z=>by rw [z] at t;simp [isTF] at t)) h;have g8:=S4 _ _ (LDV.notin x3 e3 (fun _ _ z=>by cases z)) e3;have e7:=S4 _ _ (LDV.notin x3 (S3 _ _ e2) (fun _ _ z=>by cases z)) (S3 _ _ e2);have g9:BG (·.1) (NFV K H4) ms d7:=bm.mono fun _ _ z=>z.sameT T4;have c0:R.map (·.nm)=es.map (·.1.nm):=by
  rw [f5];refine List.ext_getElem? fun i=>?_;rw [List.getElem?_map,List.getElem?_map];by_cases c:i<es.length
  ·rw [List.getElem?_eq_getElem c,List.getElem?_eq_getElem (by ac_nf:i<b3.length)];exact congrArg some (b8 i _ _ (List.getElem?_eq_getElem c) (List.getElem?_eq_getElem ∅)).nm
  ·rw [List.getElem?_eq_none ∅,List.getElem?_eq_none ∅];rfl
 have j4:R.length=es.length:=by simpa using congrArg List.length c0
 cbv;refine ⟨Nat.zero_le _,?_⟩;rename_i W a5 i6 H4 H5 S5 e5;cbv;have a4:H W=none:=JcD a2 a5;refine ⟨x,_,dx,_,rfl,S5 _ _ (a2 _ _ hx),rfl,rfl,x,Y,_,rfl,ht.same (a2.trans S5),by ac_nf,fun l ys H6 S6 d0 e6 hY=>?_⟩;have lY:=hY.length;have f3:l≠W:=fun z=>by rw [z,e5] at d0;cases d0
 have c2:=Same.trans S5 S6;cbv;refine ⟨l,rfl,ForA.byLN (xs:=ys) (SqL.of e6) (fun i σ H'=>i<=ys.length/\∃ (v6 v7 v8 v9:Option V) (zs:List V) (X:List ShD),σ=[some (.ref x),some (.ref sc),some (.ref ll),some (.ref md),some (.ref ld),some (.ref W),v6,v7,v8,v9]/\(∀ c u,c≠W->H6 c=some u->H' c=some u)/\SameT H6 H'/\H' W=some (.lst zs)/\All2 (ShV K H') X zs/\X.length=i/\∀ (j:Nat) p r,Y[j]?=some p->X[j]?=some r->ShRow Y es pl (lvf b f0) p r) ⟨Nat.zero_le _,none,none,none,none,[],[],rfl,fun _ _ _ h=>h,SameT.refl _,S6 _ _ e5,rfl,rfl,fun j p r _ h=>by simp at h⟩ (fun i σ H' q=>by obtain ⟨_,_,_,_,_,_,_,_,q,_⟩:=q;exact SqL.of (q _ _ f3 e6)) ?_ ?_⟩
 ·rintro i y σ H7 hy ⟨hi,v6,v7,v8,v9,zs,a0,rfl,ho,hT,ez,hZ,S,I⟩ N0 d4;have li:=(List.getElem?_eq_some_iff.mp hy).1;obtain ⟨p,L,b_,vz,vm,rfl,hb,_,hm⟩:=hY.at_ hy;have a1:=List.mem_of_getElem? L;have b6:=hb.sameT hT;have o:Same H4 H7:=fun c u h=>ho c u (Jah h a5) (c2 _ _ h);have c6:p.nm∈Y.map (·.nm):=mem_map.mpr ⟨p,a1,rfl⟩;obtain ⟨a,U,ha,J,c7,h0⟩:=b4.some (z:=p.nm) (X.all rc M _ c6);have J:a.1=p.nm:=J;obtain ⟨m,b7,f8,b5,b0,h9⟩:=g9.some (z:=p.nm) (by rw [rc.nm];exact c6);have b5:m.1=p.nm:=b5;have fa:=sh_lv rc X ha;have ml:=rc.ml m f8;have d6:vl m.2=moF Y a.1*(b:Rat):=by rw [ml.1,b5,J]
  have g7:DGet H7 ld (.str p.nm) (some U):=by rw [<- c7];exact DGet.k (k:=Sum.inr p.nm) (o _ _ e4)
  have g6:DGet H7 md (.str p.nm) (some b7):=by rw [<- b0];exact DGet.k (k:=Sum.inr p.nm) (o _ _ g8)
  have b2:FrV K H7 U a.2.1 a.2.2:=FrV.same o h0;have d9:FrV K H7 b7 m.2.1 m.2.2:=FrV.same o h9;have lZ:=hZ.length;cbv;refine ixT (i:=0) b6 rfl ?_;cbv;refine ⟨ld,U,rfl,g7,?_⟩;cbv;refine ⟨md,b7,rfl,g6,?_⟩;refine eqF b2 d9 ?_;have ee:(decide (a.2.1=m.2.1)&&decide (a.2.2=m.2.2))=decide (a.2=m.2):=by
   rw [<- Bool.decide_and];exact decide_eq_decide.mpr Prod.ext_iff.symm
  rw [ee];cbv;by_cases c:a.2=m.2
  ·rw [if_pos (by simpa using c)];cbv;refine ⟨.inl ⟨rfl,_,SqL.of ez⟩,?_⟩;refine ixT (i:=4) b6 rfl ?_;cbv;refine ⟨by show 1<=sizeLine;ac_nf,?_⟩;rename_i t j0 i8 H7 H8 S8 e8;cbv;cbv;refine ⟨by show 3<=sizeLine;ac_nf,?_⟩;rename_i pr c3 c1 H8 H9 S9 e9;cbv;have v:=Same.trans S8 S9;have N:=v _ _ ez;cbv;refine ⟨W,zs,_,rfl,rfl,N,by ac_nf,?_⟩;generalize C:upd H9 W _=G;cbv;have a8:=putE C;have d:SameT H9 G:=SameT.put C N rfl;have T7:=v.t.trans d;refine d4 _ _ ⟨li,_,_,_,_,_,a0++[(⟨p.nm,p.mo,none⟩:ShD)],rfl,fun c u O h=>by rw [<- C,Jag O];exact v _ _ (ho c u O h),hT.trans T7,a8,(hZ.mono (P':=ShV K G) fun _ _ z=>z.sameT T7).append (.one (show ShV K G (⟨p.nm,p.mo,none⟩:ShD) (.ref pr) from ⟨pr,_,t,rfl,SqT.of (d _ _ rfl e9),((hm.sameT hT).same v).sameT d,SqT.of (d _ _ rfl (S9 _ _ e8))⟩)),by rw [length_append,S];rfl,fun j p' r' h1 h2=>?_⟩;rcases Ja1 h2 with h2 | ⟨q1,q2⟩
   ·exact I j p' r' h1 h2
   ·rw [q1,S,L] at h1;cases h1;rw [q2];exact Jlj n rc X a1 ha J (by rw [c];exact d6)
  ·rw [if_neg (by simpa using c)];cbv;have d8:vl a.2≠moF Y a.1*(b:Rat):=fun z=>c (fa.lo.inj ml.2.1.lo (z.trans d6.symm));obtain ⟨l0,e0,f1,h6,g2⟩:=Jlh hw rc X M c0 ha d8;have wp:=n.wt p a1;refine ⟨sc,_,e1,_,rfl,o _ _ (a9 _ _ c5),rfl,rfl,?_⟩;refine ixT (i:=5) b6 rfl ?_;cbv;refine ⟨len2,?_⟩;rename_i w1 i2 i4 H7 H8 S8 e8;cbv;refine ⟨U, .ref w1,_,_,p.wt,1,rfl,b2.same S8,FrV.of e8,fa.s1.mono ⋯,fa.s2.mono ⋯,wp.mono ⋯, .lit ⋯ ⋯,fa.b1,by decide,fa.g1,by unfold Mth.g;simp,fun p2 H9 S9 e9=>?_⟩;have e9:H9 p2=some (.tup [.int (mulF a.2 (p.wt,1)).1, .int (mulF a.2 (p.wt,1)).2]):=e9;have a6:=Same.trans S8 S9;have j3:=Je2 (a:=a.2) (c:=(p.wt,1)) fa.b1 (Int.le_refl 1);have g0:FB 3000 1000 (mulF a.2 (p.wt,1)):=by
    refine FB.low (Jcg fa.b1 (Int.le_refl 1)) ((fa.s1.mul wp).mono ⋯) ?_;show Mth.Sz 1000 (a.2.2*1);rw [Int.mul_one];exact fa.s2.mono ⋯
   cbv;refine ⟨sc, .ref p2,_,b,fs,rfl,Z.same (a9.trans (o.trans a6)),FrV.of e9,g0,fun p3 tt j2 g5 h8 g3=>?_⟩;have B:=a6.trans g5;cbv;refine ⟨.inl ⟨rfl,_,SqL.of (B _ _ ez)⟩,?_⟩;cbv;refine ⟨ll,p.nm,U,xs,R,a.2,l0,rfl,B _ _ (o _ _ e7),x4.mono (fun _ _ z=>z.same (o.trans B)),by ac_nf,b2.same B,by rw [<- J];exact f1,fun t f4 d5 b9=>?_⟩;cbv;refine ⟨by show 3<=sizeLine;ac_nf,?_⟩;rename_i pr c3 c1 f4 a3 a7 e9;cbv;have v:=B.trans (d5.trans a7);have N:=v _ _ ez;cbv;refine ⟨W,zs,_,rfl,rfl,N,by ac_nf,?_⟩;generalize C:upd a3 W _=G;cbv;have a8:=putE C;have d:SameT a3 G:=SameT.put C N rfl;have T7:=v.t.trans d;refine d4 _ _ ⟨li,_,_,_,_,_,a0++[(⟨p.nm,tt,some e0.1.nm⟩:ShD)],rfl,fun c u O h=>by rw [<- C,Jag O];exact v _ _ (ho c u O h),hT.trans T7,a8,(hZ.mono (P':=ShV K G) fun _ _ z=>z.sameT T7).append (.one (show ShV K G (⟨p.nm,tt,some e0.1.nm⟩:ShD) (.ref pr) from ⟨pr,_,t,rfl,SqT.of (d _ _ rfl e9),FrV.of (d _ _ rfl (a7 _ _ (d5 _ _ h8))),by rw [g2] at b9;exact SqT.of (d _ _ rfl (a7 _ _ b9))⟩)),by rw [length_append,S];rfl,fun j p' r' h1 h2=>?_⟩;rcases Ja1 h2 with h2 | ⟨q1,q2⟩
   ·exact I j p' r' h1 h2
   ·rw [q1,S,L] at h1;cases h1;rw [q2];exact Jli n rc X a1 ha J d8 g3 h6
 ·rintro σ H7 ⟨hi,v6,v7,v8,v9,zs,a0,rfl,ho,hT,ez,hZ,S,I⟩;cbv;obtain ⟨D,F⟩:=JiF hw rc X M;exact k c9 W zs a0 H7 (fun c u h=>ho c u (Jah h a4) (c2 _ _ (a2 _ _ h))) a4 ez hZ ⟨by have:=hZ.length;ac_nf,_,D,F,I⟩
abbrev BcG:Stmt:=top 46
theorem Jfk:Jan ["room","slacks","total","slack"] ["room","slacks"] (Jae BcG):=by bv_decide
def JgC (K:W.Frag):Sp:=fun vs H Q E=>∃ (r:V) (l:Addr) (xs:List V) (ts:List Fr2) (m:Fr2),vs=[r, .ref l]/\FrV K H r m.1 m.2/\FB 2200 56 m/\SqL K H l xs/\All2 (FLV K H) ts xs/\(∀ t∈ts,FB 2200 56 t)/\ts.length<=8/\∀ (b:Bool) H',Same H H'->(b=true↔smF ts<=vl m)->Q (.bl b) H'
theorem JkQ (F:FunD K "fits" "fits" BcG dV f fd) (T:Txt K mg Ad) (BbT:Cal P w K mg base 2 "plus" ["one","other"] [] (Jem K)) (Bah:Cal P w K mg base 1 "under" ["one","other"] [] (JbP K)):FnOk P w K mg base (CX1 P w) 3 f fd ["room","slacks"] (JgC K):=by
 refine F.okn Jfk (by subst_eqs) (fun Y A B s H U Q E N h=>?_)
 obtain ⟨r,l,xs,I,m,rfl,h⟩:=h;refine ⟨_,(Jab (Jak 2 Jfk.nd (JaW (v:=.ref _) rfl T.Bca T.Bcb)) (Jab (Ja6 PassesOwn.never rfl (pi_U (pv 1)) (Jar 3 Jfk.nd) (Jai (Jak 2 Jfk.nd (BbT.ev N ⋯ rfl passF (Jaa (pv 2) (Jaa (pv 3) Jac)))))) (Jai (Jaq (JgY (Bah.ev N ⋯ rfl passF (Jaa (pv 0) (Jaa (pv 2) Jac)))))))),?_⟩
 obtain ⟨S,fm,L,O,W,l8,k⟩:=h;have lx:=O.length;show tSeq _ _ _ [some r,some (.ref l),none,none] H;cbv;refine ⟨l,rfl,ForA.byL (xs:=xs) L (fun i σ x=>i<=xs.length/\∃ (t:V) (u:Fr2) (o:Option V),σ=[some r,some (.ref l),some t,o]/\Same H x/\FrV K x t u.1 u.2/\FB (2700+57*i) (1+56*i) u/\vl u=smF (I.take i)) ⟨Nat.zero_le _, .ref Ad.ZERO,(0,1),none,rfl,Same.refl _,⟨Ad.ZERO,rfl,T.Bcc _⟩,Jc2.mono ∅ ∅,by rw [take_zero];unfold vl smF;grind⟩ (fun i σ x q=>by obtain ⟨_,_,_,_,_,q,_⟩:=q;exact L.same q) ?_ ?_⟩
 ·rintro i y σ G J ⟨X,t,u,o,rfl,g,D,b,j⟩;have R:=(List.getElem?_eq_some_iff.mp J).1;obtain ⟨s,M,Z⟩:=O.at_ J;have d:=W s (List.mem_of_getElem? M);have i8:i<8:=by ac_nf
  cbv;refine ⟨t,y,_,_,_,_,rfl,D,FrV.same g Z,b.s1.mono ∅,b.s2.mono ∅,d.s1.mono ∅,d.s2.mono ∅,b.b1,d.b1,b.g1,d.g1,fun p H2 S2 e2=>?_⟩;cbv;refine ⟨R, .ref p,addF u s,_,rfl,g.trans S2,FrV.of e2,?_,?_⟩
  ·have:=FB.add (n:=2700+57*i+56) (m:=1+56*(i+1)) b d ∅ ∅ ∅;exact this.mono ∅ ∅
  ·rw [JiX b.b1 d.b1,j,take_succ,M];exact (Jfp s _).symm
 ·rintro σ G ⟨X,t,u,o,rfl,g,D,b,j⟩;rw [take_of_length_le ∅] at j;have i8:xs.length<=8:=by ac_nf
  cbv;refine ⟨r,t,m.1,m.2,u.1,u.2,rfl,FrV.same g S,D,fm.s1.mono ∅,fm.s2.mono ∅,b.s1.mono ∅,b.s2.mono ∅,?_⟩;cbv;have C:=JcK (a:=m) (c:=u) fm.b1 b.b1;unfold lessF at C;refine k _ G g ?_;rw [<- j];by_cases c:vl m<vl u
  ·rw [C.mpr c];constructor
   ·intro z;cases z
   ·intro z;exact absurd c (Rat.not_lt.mpr z)
  ·have e:decide (m.1*u.2<u.1*m.2)=false:=by
    cases q:decide (m.1*u.2<u.1*m.2) with
    | false=>rfl
    | true=>exact absurd (C.mp q) c
   rw [e];exact ⟨fun _=>Rat.not_lt.mp c,fun _=>rfl⟩
abbrev BaS:Stmt:=top 47
theorem Ja8:Jan ["thing","slacks","scale","by_name","part","slack","gap","on_way"] ["thing","slacks"] (Jae BaS):=by bv_decide
def Jcv (K:W.Frag) (Ad:Adr):Sp:=fun vs H Q E=>∃ (x sl:Addr) (ls:List PD) (es:List (GD × List Str)) (sx:List V) (ss:List Fr2) (pl:Str->Fr2),vs=[.ref x, .ref sl]/\TK K Ad H x ls (es.map (·.1))/\SqL K H sl sx/\All2 (FLV K H) ss sx/\ss.length=ls.length/\(∀ s∈ss,FB 200 56 s)/\ISC ls es pl/\∀ (b:Bool) H',Same H H'->(b=true↔ShP ls es ss pl)->Q (.bl b) H'
theorem Je9 (F:FunD K "is_sharing" "is_sharing" BaS dV f fd) (T:Txt K mg Ad) (Ba6:Cal P w K mg base 4 "scale_of" ["thing"] [] (Jcz K Ad)) (Baz:MCal P w K mg base 2 "parts" (Ja2 Ad) ["self"] (JaP K Ad)) (BbU:MCal P w K mg base 2 "gaps" (Ja2 Ad) ["self"] (Jbs K Ad)) (Bah:Cal P w K mg base 1 "under" ["one","other"] [] (JbP K)) (Ba0:MCal P w K mg base 2 "lifted" (JcT Ad) ["self","number"] (Jbd K Ad)) (BaQ:Cal P w K mg base 2 "part_names" ["thing","gap_name"] [] (JbO K Ad)) (BdB:Cal P w K mg base 3 "fits" ["room","slacks"] [] (JgC K)) (BcF:MCal P w K mg base 5 "room" (Ja2 Ad) ["self","name"] (JbN K Ad)):FnOk P w K mg base (CX1 P w) 7 f fd ["thing","slacks"] (Jcv K Ad):=by
 refine F.okn Ja8 (by subst_eqs) (fun h9 A g3 s H vs Q E X h=>?_)
 obtain ⟨x,sl,o,es,sx,ss,pl,rfl,h⟩:=h;have hu:=X.units;refine ⟨_,(Jab (Jak 2 Ja8.nd (Ba6.ev X ⋯ rfl passF (Jaa (pv 0) Jac))) (Jab (Jak 3 Ja8.nd JbJ rfl (Or.inr rfl)) (Jab (Ja6 PassesOwn.never rfl (Jj4 rfl T.BdW JjQ (Jaa (Baz.m0 X ⋯ passF (pv 0)) (Jaa (pv 1) Jac))) (JeJ rfl (Jbj (Jar 4 Ja8.nd) (Jbj (Jar 5 Ja8.nd) Jdw))) (Jab (ps_if (PW.pt (pw_or (Ja7 (Bah.ev X ⋯ rfl passF (Jaa (pv 5) (Jaa (JaW (v:=.ref _) rfl T.Bca T.Bcb) Jac)))) (Jb3 (Ja7 (Bah.ev X ⋯ rfl passF (Jaa (pe_ix ix_U (pv 4) Jad) (Jaa (pv 5) Jac))))))) (Jai (Jaq pe_bl))
   Jaw) (Jai (Jco (hu1 hu) (pv 3) (pe_ix ix_U (pv 4) Jad) (Ba0.m X ⋯ passF (pv 2) (Jaa (pv 5) Jac)) rfl)))) (Jab (Ja6 PassesOwn.never rfl (pi_U (BbU.m0 X ⋯ passF (pv 0))) (Jar 6 Ja8.nd) (Jab (Jhr (j:=7) (own:=["name"]) (cs:=[(3,"by_name")]) Ja8.nd rfl (Or.inl rfl) rfl (pi_U (BaQ.ev X ⋯ rfl passF (Jaa (pv 0) (Jaa (pe_ix ix_U (pv 6) Jad) Jac)))) (fun _ _ _ _=>(Jar 0 (show [("name" : Str),("by_name" : Str)].Nodup by decide))) (fun _ _ _ _=>(Jb8 (hu1 hu) (pv 1) (pv 0) (fun _ _=>rfl))) (JdT rfl) ⋯ rfl ⋯ (hcs1 rfl rfl rfl)) (Jai (ps_if (Jbt (Ja7 (BdB.ev X ⋯ rfl passF (Jaa (Ba0.m X ⋯ passF (pv 2) (Jaa (BcF.m X ⋯ passF (pv 0) (Jaa (pe_ix ix_U (pv 6) Jad) Jac)) Jac)) (Jaa (pv 7) Jac))))) (Jai (Jaq pe_bl))
   Jaw)))) (Jai (Jaq pe_bl)))))),?_⟩
 clear hu;obtain ⟨ht,f1,hA,g8,d6,d,k⟩:=h;obtain ⟨dx,d1,d2,d3,k1,k2,k3,hx,_⟩:=id ht;have i3:(1000:Nat)<=sizeLine:=by decide
 have l7:=d.l7;have l6:=d.l6;have h8:=hA.length;show tSeq _ _ _ [some (.ref x),some (.ref sl),none,none,none,none,none,none] H;cbv;refine ⟨x,o,es.map (·.1),rfl,ht,by ac_nf,by rw [length_map];exact d.l6,by rw [length_map];ac_nf,fun p O=>⟨⟨(d.pb p O).1.b1,(d.pb p O).1.s2.mono ⋯⟩,(d.pb p O).2.b1,(d.pb p O).2.s2.mono ⋯⟩,fun g hg=>by obtain ⟨e,he,rfl⟩:=mem_map.mp hg;exact d.gb e he,fun sc b fs H1 S1 a9=>?_⟩;obtain ⟨c6,fl,J,_,d7,sb,_⟩:=id a9;cbv;rename_i S M h5 H1 H2 S2 e2;cbv;cbv;have b4:=S1.trans S2;refine ⟨x,_,dx,_,rfl,b4 _ _ hx,rfl,rfl,x,o,_,rfl,ht.same b4,by ac_nf,fun l ys H3 S3 d9 e3 hY=>?_⟩;have lY:=hY.length;have a2:=b4.trans S3;have h0:l≠S:=fun z=>by rw [z,e2] at d9;cases d9
 have f2:=f1.same a2;have W:H S=none:=JcD S1 M;have L:sc≠S:=fun z=>by rw [z,M] at J;cases J
 have ez:(o.zip ss).map (·.1.nm)=o.map (·.nm):=Jkk g8;cbv;refine ⟨l,sl,rfl,⟨ys,SqL.of e3⟩,⟨sx,f2⟩,ForJ.zip (xs:=ys) (ys:=sx) (fun i σ B=>i<=o.length/\∃ (v4 v5:Option V) (kv:List (Key × V)),σ=[some (.ref x),some (.ref sl),some (.ref sc),some (.ref S),v4,v5,none,none]/\(∀ c u,c≠S->H3 c=some u->B c=some u)/\SameT H3 B/\B S=some (.dK kv)/\BG (·.1.nm) (LFV K B b) ((o.zip ss).take i) kv/\∀ (j:Nat) (p:PD) (s:Fr2),j<i->o[j]?=some p->ss[j]?=some s->0<=vl s/\vl s<=vl p.mo) ⟨Nat.zero_le _,none,none,[],rfl,fun _ _ _ h=>h,(Same.refl _).t,S3 _ _ e2,⟨rfl,rfl⟩,fun j p s I=>absurd I (Nat.not_lt_zero _)⟩ (fun i σ B q=>by
  obtain ⟨_,_,_,_,_,q,_⟩:=q;have S0:Same H B:=fun c u h=>q c u (Jah h W) (a2 _ _ h);exact ⟨SqL.of (q _ _ h0 e3),f1.same S0⟩) ?_ ?_⟩
 ·rintro i y z σ H4 pp H5 hy hz ⟨hi,v4,v5,kv,rfl,ho,hT,a6,hB,hg⟩ hn R e5;have li:=(List.getElem?_eq_some_iff.mp hy).1;obtain ⟨p,O,a_,vz,vm,rfl,hb,h6,hm⟩:=hY.at_ hy;obtain ⟨s,hs,g9⟩:=hA.at_ hz;have G:=d6 s (List.mem_of_getElem? hs);have pb:=d.pb p (List.mem_of_getElem? O);have a7:SameT H3 H5:=hT.trans R.t;have f3:=hb.sameT a7;have c0:FrV K H5 z s.1 s.2:=FrV.sameT (a2.t.trans a7) g9;have r:Same H H4:=fun c u h=>ho c u (Jah h W) (a2 _ _ h);have lk:=hB.length;rw [length_take] at lk;cbv;refine ⟨pp,_,rfl,SqT.of e5,rfl,?_⟩;cbv;have z0:vl (0,1)=0:=by unfold vl;grind
  have l1:=JcK (a:=s) (c:=(0,1)) G.b1 ⋯;rw [z0] at l1;have l2:=JcK (a:=p.mo) (c:=s) pb.2.b1 G.b1;unfold lessF at l1 l2;refine ⟨z, .ref Ad.ZERO,s.1,s.2,0,1,rfl,c0,⟨Ad.ZERO,rfl,T.Bcc _⟩,G.s1.mono ⋯,G.s2.mono ⋯, .lit ⋯ ⋯, .lit ⋯ ⋯,?_⟩;cbv;by_cases c1:decide (s.1*1<0*s.2)=true
  ·rw [if_pos c1];cbv;cbv;exact k false _ (r.trans R) ⟨fun z=>(by cases z),fun z=>absurd (l1.mp c1) (Rat.not_lt.mpr (z.1 i p s O hs).1)⟩
  ·rw [if_neg c1];cbv;cbv;refine ixT (i:=4) f3 rfl ?_;refine ⟨vm,z,p.mo.1,p.mo.2,s.1,s.2,rfl,FrV.sameT a7 hm,c0,pb.2.s1.mono ⋯,pb.2.s2.mono ⋯,G.s1.mono ⋯,G.s2.mono ⋯,?_⟩;cbv;by_cases c2:decide (p.mo.1*s.2<s.1*p.mo.2)=true
   ·rw [if_pos c2];cbv;cbv;exact k false _ (r.trans R) ⟨fun z=>(by cases z),fun z=>absurd (l2.mp c2) (Rat.not_lt.mpr (z.1 i p s O hs).2)⟩
   ·rw [if_neg c2];cbv;cbv;have e0:SCK Ad H5 sc b fs:=by
     obtain ⟨a1,Z,q1,q2,q3⟩:=a9;have nf:Z≠S:=fun z=>by rw [z,M] at q2;cases q2
     exact ⟨a1,Z,R _ _ (ho _ _ L (S3 _ _ (S2 _ _ q1))),R _ _ (ho _ _ nf (S3 _ _ (S2 _ _ q2))),q3⟩
    have c3:=R _ _ (ho _ _ L (S3 _ _ (S2 _ _ J)));refine ⟨sc,_,c6,_,rfl,c3,rfl,rfl,?_⟩;refine ⟨sc,z,s,b,fs,rfl,e0,c0,G,fun q t H6 U e6 hL=>?_⟩;cbv;refine ixT (i:=0) (f3.same U) rfl ?_;refine ⟨S,_,rfl,DPut.k (k:=Sum.inr p.nm) (U _ _ (R _ _ a6)) ∅,?_⟩;generalize u7:upd H6 S _=H7;cbv;have e7:=putE u7;have T7:SameT H6 H7:=SameT.put u7 (U _ _ (R _ _ a6)) rfl;have d4:SameT H4 H7:=R.t.trans (U.t.trans T7);have nw:p.nm∉((o.zip ss).take i).map (·.1.nm):=fun z=>by
     have e:=List.map_take (f:=fun (x:PD × Fr2)=>x.1.nm) (l:=o.zip ss) (i:=i);rw [e,ez, <- List.map_take] at z;exact Jgj d.nd O z
    have g1:(o.zip ss)[i]?=some (p,s):=List.getElem?_zip_eq_some.mpr ⟨O,hs⟩;refine ⟨by ac_nf,_,_,_,rfl,fun c u d8 h=>by rw [<- u7,Jag d8];exact U _ _ (R _ _ (ho c u d8 h)),hT.trans d4,e7,?_,fun j p' s' I a8 b2=>?_⟩
    ·rw [take_succ,g1];exact (hB.mono (P':=LFV K H7 b) fun _ _ z=>z.sameT d4).new (a:=(p,s)) nw ⟨t,hL,FrV.of (T7 _ _ rfl e6)⟩
    ·rcases Nat.lt_succ_iff_lt_or_eq.mp I with I | rfl
     ·exact hg j p' s' I a8 b2
     ·rw [O] at a8;rw [hs] at b2;cases a8;cases b2;exact ⟨Rat.not_lt.mp fun q=>c1 (l1.mpr q),Rat.not_lt.mp fun q=>c2 (l2.mpr q)⟩
 ·rintro σ H4 ⟨hi,v4,v5,kv,rfl,ho,hT,a6,hB,hg⟩;have em:min ys.length sx.length=o.length:=by ac_nf
  rw [em] at hB hg;rw [take_of_length_le (by rw [List.length_zip];ac_nf)] at hB;have e9:∀ (i:Nat) (p:PD) (s:Fr2),o[i]?=some p->ss[i]?=some s->0<=vl s/\vl s<=vl p.mo:=fun i p s h1 h2=>hg i p s (List.getElem?_eq_some_iff.mp h1).1 h1 h2;have r:Same H H4:=fun c u h=>ho c u (Jah h W) (a2 _ _ h);have c5:SCK Ad H4 sc b fs:=by
   obtain ⟨a1,Z,q1,q2,q3⟩:=a9;have nf:Z≠S:=fun z=>by rw [z,M] at q2;cases q2
   exact ⟨a1,Z,ho _ _ L (S3 _ _ (S2 _ _ q1)),ho _ _ nf (S3 _ _ (S2 _ _ q2)),q3⟩
  have b7:=ho _ _ L (S3 _ _ (S2 _ _ J));have bq:(0:Rat)<(b:Rat):=by exact_mod_cast (show 0<b by have:=d7.b1;ac_nf)
  cbv;refine ⟨x,_,dx,_,rfl,r _ _ hx,rfl,rfl,x,o,_,rfl,ht.same r,by rw [length_map];ac_nf,fun m zs H5 R i4 e5 hZ=>?_⟩;have lZ:=hZ.length;rw [length_map] at lZ;have d0:=r.trans R;cbv;refine ⟨m,rfl,ForA.byL (xs:=zs) (SqL.of e5) (fun i σ B=>i<=zs.length/\∃ (v6 v7:Option V),σ=[some (.ref x),some (.ref sl),some (.ref sc),some (.ref S),v4,v5,v6,v7]/\Same H5 B/\∀ (j:Nat) (e:GD × List Str),j<i->es[j]?=some e->sm (svl o ss) e.2<=vl (roomF pl e.1)) ⟨Nat.zero_le _,none,none,rfl,Same.refl _,fun j e I=>absurd I (Nat.not_lt_zero _)⟩ (fun i σ B q=>by obtain ⟨_,_,_,_,q,_⟩:=q;exact SqL.of (q _ _ e5)) ?_ ?_⟩
  ·rintro i y σ H6 hy ⟨hi,v6,v7,rfl,U,b9⟩;have li:=(List.getElem?_eq_some_iff.mp hy).1;obtain ⟨g,a3,a_,i2,h7,rfl,hb,_,_⟩:=hZ.at_ hy;obtain ⟨e,e4,rfl⟩:∃ e,es[i]?=some e/\e.1=g:=by
    rw [List.getElem?_map] at a3;exact Option.map_eq_some_iff.mp a3
   have he:=List.mem_of_getElem? e4;have g0:=d0.trans U;have f8:=R.trans U;have c7:=hb.same U;have gm:e.1∈es.map (·.1):=mem_map.mpr ⟨e,he,rfl⟩;cbv;refine ixT (i:=0) c7 rfl ?_;refine ⟨x,o,es.map (·.1),e.1,rfl,ht.same g0,d.nd,by ac_nf,gm,d.gn e he,fun nl w H7 S7 e7 hw c4=>?_⟩;have lw:w.length<=8:=by
    have:=sub_len (w.map (·.1)) (o.map (·.nm)) c4 fun n hn=>JcR (Jfe hw) n hn;rw [length_map,length_map] at this;ac_nf
   have b3:=f8.trans S7;have f6:=hB.mono (P':=LFV K H7 b) fun _ _ z=>z.sameT b3.t;have c8:=b3 _ _ a6;refine ⟨nl,rfl, .inl ⟨⟨_,SqL.of e7⟩,CompJ.list (xs:=(w.map (·.1)).map V.str) (fun i ys B=>B=H7/\∃ ts:List Fr2,All2 (FLV K H7) ts ys/\ts.length=i/\(∀ t∈ts,FB 2200 56 t)/\smF ts=sm (svl o ss) ((w.map (·.1)).take i)*(b:Rat)) ⟨rfl,[],rfl,rfl,(fun t ht=>by cases ht),by rw [take_zero];unfold smF sm;grind⟩ (fun i ys B hi z=>by
    obtain ⟨rfl,ts,a0,i0,_⟩:=z;have:=a0.length;rw [length_map,length_map] at hi;exact ⟨SqL.of e7,by ac_nf⟩) ?_ ?_⟩⟩
   ·rintro j y' g2 B N ⟨rfl,ts,a0,a4,b5,Y⟩;have lj:=(List.getElem?_eq_some_iff.mp N).1;rw [length_map] at lj;rw [List.getElem?_map,List.getElem?_eq_getElem lj] at N;obtain ⟨n,hn⟩:∃ n,n=(w.map (·.1))[j]:=⟨_,rfl⟩;rw [<- hn] at N;have N:y'=.str n:=(Option.some.inj N).symm;subst N;have f7:n∈o.map (·.nm):=JcR (Jfe hw) n (by rw [hn];exact List.getElem_mem lj);obtain ⟨x',v,d5,f4,hv,t,hL,ft⟩:=f6.some (z:=n) (by rw [ez];exact f7);have g4:=(List.of_mem_zip d5).2;have xb:=d6 _ g4;simpa only [length_singleton,length_cons,length_nil,List.replicate,Jax,map_cons,map_nil,Option.join_some];refine ⟨S,_,rfl,by rw [<- hv];exact DGet.k (k:=Sum.inr n) c8,?_⟩;refine ⟨ts++[t],a0.append (.one ft),by simp [a4],fun t' f5=>?_,?_⟩
    ·rcases mem_append.mp f5 with h | h
     ·exact b5 t' h
     ·rw [mem_singleton.mp h];exact hL.fb xb sb
    ·rw [Jfp,Y,hL.vl xb.b1,take_succ,List.getElem?_eq_getElem lj, <- hn];show _=sm _ (_++[n])*_;rw [JiI, <- f4,Jmb d.nd d5];grind
   ·rintro g2 B ⟨rfl,ts,a0,a4,b5,Y⟩;rw [length_map] at a4 Y;rw [take_of_length_le (Nat.le_refl _)] at Y;rw [length_map] at a4;rename_i ow h4 h3 B H8 S8 e8;cbv;cbv;have b8:=b3.trans S8;have f0:=r.trans b8;refine ⟨sc,_,c6,_,rfl,b8 _ _ b7,rfl,rfl,?_⟩;refine ⟨x,_,dx,_,rfl,f0 _ _ hx,rfl,rfl,?_⟩;refine ixT (i:=0) ((c7.same S7).same S8) rfl ?_;refine ⟨x,e.1.nm,o,es.map (·.1),rfl,ht.same f0,fun z=>absurd (mem_map.mpr ⟨e.1,gm,rfl⟩) z,fun g' a3 hz=>?_⟩;have g5:=d.gn e he g' a3 hz;subst g5;refine ⟨pl,d.gn e he,fun p O q hq h=>Jgt d.nd O hq h,d.pok,d.plb,d.pls,d.tok e he,fun v H9 S9 fv=>?_⟩;have c9:=b8.trans S9;refine ⟨sc,v,roomF pl e.1,b,fs,rfl,c5.same c9,fv,(d.rb e he).mono ⋯ ⋯,fun q t i1 a5 g6 hL=>?_⟩;have g7:=c9.trans a5;have tb:=hL.fb (d.rb e he) sb |>.mono (C:=2200) (D:=56) ⋯ ⋯
    refine ⟨.ref q,ow,_,ts,t,rfl,FrV.of g6,tb,SqL.of (a5 _ _ (S9 _ _ e8)),a0.mono (fun _ _ z=>z.sameT (S8.trans (S9.trans a5)).t),b5,by ac_nf,fun bb f9 e1 b0=>?_⟩;rw [Y,hL.vl (d.rb e he).b1,scaled bq, <- JiH (d.way e he w hw c4)] at b0;cases bb with
    | true=>
     cbv;refine ⟨li,_,_,rfl,U.trans (S7.trans (S8.trans (S9.trans (a5.trans e1)))),fun j e' I b6=>?_⟩;rcases Nat.lt_succ_iff_lt_or_eq.mp I with I | rfl
     ·exact b9 j e' I b6
     ·rw [e4] at b6;cases b6;exact b0.mp rfl
    | false=>
     cbv;refine k false f9 (r.trans (g7.trans e1)) ⟨fun z=>(by cases z),fun z=>?_⟩;exact (Bool.false_ne_true (b0.mpr (z.2 e he))).elim
  ·rintro σ H6 ⟨hi,v6,v7,rfl,U,b9⟩;cbv;refine k true H6 (d0.trans U) ⟨fun _=>⟨e9,fun e he=>?_⟩,fun _=>rfl⟩;obtain ⟨j,I⟩:=List.getElem?_of_mem he;exact b9 j e (by have:=(List.getElem?_eq_some_iff.mp I).1;ac_nf) I
abbrev BaT:Stmt:=top 48
theorem JbK:Jan ["thing","told","part","row"] ["thing"] (Jae BaT):=by bv_decide
def JcA (K:W.Frag) (Ad:Adr):Sp:=fun vs H Q E=>∃ (x:Addr) (ls:List PD) (es:List (GD × List Str)) (pl:Str->Fr2),vs=[.ref x]/\TK K Ad H x ls (es.map (·.1))/\SHC ls es pl/\(∃ e∈es,vl (roomF pl e.1)<0)/\∀ (i:Nat) (e:GD × List Str),es[i]?=some e->vl (roomF pl e.1)<0->(∀ e'∈es.take i,0<=vl (roomF pl e'.1))->∀ (dx:Addr) (H':Hp),Same H H'->H dx=none->H' dx=some (.xd [("tight_gap", .str e.1.nm)])->E (.ref Ad.Tight) (some dx) H'
theorem Jfb (F:FunD K "share_ties" "share_ties" BaT dV f fd) (T:Txt K mg Ad) (Bbx:Cal P w K mg base 9 "share" ["thing"] [] (Jdl K Ad)) (Baz:MCal P w K mg base 2 "parts" (Ja2 Ad) ["self"] (JaP K Ad)):FnOk P w K mg base (CX1 P w) 10 f fd ["thing"] (JcA K Ad):=by
 refine F.okx JbK (fun y H Q E h=>?_) (fun J A m s H y Q E r h=>?_)
 ·obtain ⟨x,k,p,t,rfl,_⟩:=h;rfl
 obtain ⟨x,k,p,t,rfl,h⟩:=h;refine ⟨_,(Jab (Jak 1 JbK.nd (Jba Jac)) (Jab (Ja6 PassesOwn.leaving rfl (Jj4 rfl T.BdW JjQ (Jaa (Baz.m0 r ⋯ pass1 (pv 0)) (Jaa (Bbx.ev r ⋯ rfl pass1 (Jaa (pv 0) Jac)) Jac))) (JeJ rfl (Jbj (Jar 2 JbK.nd) (Jbj (Jar 3 JbK.nd) Jdw))) (Jai ps_no)) (Jai ps_no))),?_⟩
 obtain ⟨d,o,⟨v,n,b⟩,N⟩:=h;obtain ⟨U,W,d2,V,k1,Z,k3,z,_⟩:=id d;have M:=o.l12;show tSeq _ _ _ [some (.ref x),none,none,none] H;cbv;refine ⟨len0,?_⟩;rename_i Y q u H H1 j e1;cbv
 mframe;refine ⟨x,_,U,_,rfl,j _ _ z,rfl,rfl,x,k,_,rfl,d.same j,by ac_nf,fun l X H2 R L e2 hY=>?_⟩;cbv;have a:=j.trans R;exact ⟨x,k,p,t,rfl,d.same a,o,fun g=>absurd b (Rat.not_lt.mpr (g v n)),fun i e G C S c D I O B=>N i e G C S c D (a.trans I) (JcD a O) B⟩
abbrev Ba7:Stmt:=top 59
theorem Jcq:Jan ["_law_script","_law_k","_law_total","_law_j"] ["_law_script","_law_k"] (Jae Ba7):=by bv_decide
def Jcx (K:W.Frag):Sp:=fun vs H Q E=>∃ (a:Addr) (ns:List Int) (k:Int),vs=[.ref a, .int k]/\SqL K H a (ns.map V.int)/\ns.length<=63/\0<=k/\k<=1000/\∀ v:Int,Q (.int v) H
theorem Jgn (F:FunD K "_law_cell" "_law_cell" Ba7 dV f fd) (T:Txt K mg Ad)  : FnOk P w K mg base (CX1 P w) 1 f fd ["_law_script","_law_k"] (Jcx K):=by
 refine F.okn Jcq (by subst_eqs) (fun m A d s H l Q E u h=>?_)
 obtain ⟨a,g,k,rfl,h⟩:=h;refine ⟨_,(Jab (Jak 2 Jcq.nd Jad) (Jab (Ja6 PassesOwn.never rfl (Jiq rfl T.Bb7 (Jaa (pv 1) (Jaa (Jay (JhH rfl) rfl T.Bd2 Jlx (Jaa (Jay JaY rfl T.BbP JbG (Jaa (pv 0) Jac)) (Jaa Jad Jac))) (Jaa Jad Jac)))) (Jar 3 Jcq.nd) (Jai (Jak 2 Jcq.nd (pe_op JaI (pv 2) (pe_op JaM (pe_ix ix_U (pv 0) (pv 3)) (pe_op JaI Jad (pv 3))))))) (Jai (Jaq (pv 2))))),?_⟩
 obtain ⟨e,p,n,r,q⟩:=h;obtain ⟨k,rfl⟩:=Int.eq_ofNat_of_zero_le n;show tSeq _ _ _ [some (.ref a),some (.int (k:Int)),none,none] H;cbv;refine ⟨_, .inl e,?_⟩;simpa only [length_map];refine ⟨_,_,_,rfl,⟨by ac_nf,by ac_nf,by split <;> ac_nf,by split <;> ac_nf,by decide,by decide⟩,?_⟩;refine ForQ.by (fun i σ c=>∃ (t:Int) (v:Option V),σ=[some (.ref a),some (.int (k:Int)),some (.int t),v]/\c=H) ⟨0,none,rfl,rfl⟩ ?_ ?_
 ·rintro i σ c b ⟨t,v,rfl,rfl⟩;have j:k+i*30<g.length:=by
   unfold rsz at b;split at b <;> split at b <;> ac_nf
  have o:(k:Int)+(i:Int)*30=((k+i*30:Nat):Int):=by ac_nf
  rw [o];cbv;refine ixL e (by rw [List.getElem?_map,List.getElem?_eq_getElem j];rfl) ?_;cbv;exact ⟨Jj2 (.lit ∅ ∅),_,_,rfl,trivial⟩
 ·rintro σ c ⟨t,v,rfl,rfl⟩;cbv;exact q t
abbrev Bbu:Stmt:=top 60
theorem JbR:Jan ["_law_top","_law_bottom","_law_one","_law_other","_law_rest"] ["_law_top","_law_bottom"] (Jae Bbu):=by bv_decide
def Jcj  : Sp:=fun vs H Q E=>∃ (t b:Int),vs=[.int t, .int b]/\1<=b/\Mth.Sz 8000 b/\∀ p H',Same H H'->H' p=some (.tup [.int (Mth.top t b), .int (Mth.bot t b)])->Q (.ref p) H'
theorem Jhn (F:FunD K "_law_low" "_law_low" Bbu dV f fd) (T:Txt K mg Ad)  : FnOk P w K mg base (CX1 P w) 1 f fd ["_law_top","_law_bottom"] (Jcj):=by
 refine F.okn JbR (by subst_eqs) (fun C A j s H v Q E G h=>?_)
 obtain ⟨t,b,rfl,h⟩:=h;have o:=G.units;refine ⟨_,(Jab (Jak 2 JbR.nd (pv 0)) (Jab (Jak 3 JbR.nd (pv 1)) (Jab (JdO PassesOwn.never (Jaz (Jdb o) (pv 3) Jad (JaA _)) (Jab (Jak 4 JbR.nd (pe_op JaJ (pv 2) (pv 3))) (Jab (Jak 2 JbR.nd (pv 3)) (Jai (Jak 3 JbR.nd (pv 4)))))) (Jai (Jaq (JaD (Jaa (pe_op Jav (pv 0) (Jay Jc5 rfl T.BdH JgI (Jaa (pv 2) Jac))) (Jaa (pe_op Jav (pv 1) (Jay Jc5 rfl T.BdH JgI (Jaa (pv 2) Jac))) Jac)))))))),?_⟩
 clear o;obtain ⟨N,D,k⟩:=h;show tSeq _ _ _ [some (.int t),some (.int b),none,none,none] H;cbv;refine ⟨fun m σ u=>∃ (x y:Int) (z:Option V),σ=[some (.int t),some (.int b),some (.int x),some (.int y),z]/\u=H/\0<=y/\Mth.g x y=Mth.g t b/\y.toNat=m,⟨_,_,_,none,rfl,rfl,by ac_nf,rfl,rfl⟩,?_⟩;rintro m σ u ⟨x,y,z,rfl,rfl,M,r,rfl⟩;cbv;by_cases c:y=0
 ·subst c;rw [if_neg (by simp)];cbv;have L:=Mth.g_pos (a:=t) (b:=b) ∅;have J:=Mth.g_le (a:=t) (b:=b) ∅;have l:DivOk (Mth.g t b):=divOk (n:=8000) ∅ (Nat.lt_of_le_of_lt (by ac_nf:(Mth.g t b).natAbs<=b.natAbs) D);have e:(if x<0 then -x else x)=Mth.g t b:=by
   rw [<- r,Mth.Jj0];split <;> ac_nf
  cbv;rw [e];refine ⟨l,l,len2,?_⟩;refine Jd4 fun p B S I=>k p B S ?_;rw [I];unfold Mth.top Mth.bot Mth.by_;rw [if_neg ∅];cbv
 ·rw [if_pos (by simp [c])];cbv;have f:=Mth.fm (x:=x) (y:=y) ∅;refine ⟨_,fun _ _ q=>q,?_⟩;cbv;have d:Mth.g y (x.fmod y)=Mth.g t b:=by rw [Mth.JhY ∅];exact r
  refine ⟨c,?_⟩;cbv;first
   | exact ⟨(x.fmod y).toNat,by ac_nf,y,x.fmod y,_,rfl,f.1,d,rfl⟩
   | exact ⟨(x.fmod y).toNat,by ac_nf,y,x.fmod y,_,rfl,rfl,f.1,d,rfl⟩
abbrev Ba8:Stmt:=top 61
theorem JgB:Jan ["_law_one","_law_other","_law_sign"] ["_law_one","_law_other","_law_sign"] (Jae Ba8):=by bv_decide
def Jcy (K:W.Frag):Sp:=fun vs H Q E=>∃ (x y:V) (g:Int) (a c:Fr2) (s:Bool),vs=[x,y, .int g]/\(g=if s then 1 else -1)/\FrV K H x a.1 a.2/\FrV K H y c.1 c.2/\FW 3000 3000 a/\FW 3000 3000 c/\∀ p H',Same H H'->H' p=some (.tup [.int (addF a (sgn s c)).1, .int (addF a (sgn s c)).2])->Q (.ref p) H'
theorem Jgp (F:FunD K "_law_plus" "_law_plus" Ba8 dV f fd) (T:Txt K mg Ad) (Bar:Cal P w K mg base 1 "_law_low" ["_law_top","_law_bottom"] [] (Jcj)):FnOk P w K mg base (CX1 P w) 2 f fd ["_law_one","_law_other","_law_sign"] (Jcy K):=by
 refine F.okn JgB (by subst_eqs) (fun t A m s H o Q E u h=>?_)
 obtain ⟨x,y,g,a,c,s,rfl,h⟩:=h;refine ⟨_,(Jai (Jaq (Bar.ev u ⋯ rfl passF (Jaa (pe_op JaI (pe_op JaM (pe_ix ix_U (pv 0) Jad) (pe_ix ix_U (pv 1) Jad)) (pe_op JaM (pe_op JaM (pv 2) (pe_ix ix_U (pv 1) Jad)) (pe_ix ix_U (pv 0) Jad))) (Jaa (pe_op JaM (pe_ix ix_U (pv 0) Jad) (pe_ix ix_U (pv 1) Jad)) Jac))))),?_⟩;obtain ⟨n,j,l,d,b,k⟩:=h;have i:Mth.Sz 4 g:=by
  rw [n];cases s
  ·exact .lit ⋯ ⋯
  ·exact .lit ⋯ ⋯
 have r:(sgn s c).1=g*c.1:=by
  rw [n];cases s
  ·show -c.1 = -1*c.1;ac_nf
  ·show c.1=1*c.1;ac_nf
 have v:(sgn s c).2=c.2:=by cases s <;> rfl
 unfold addF at k;rw [r,v] at k;show tRet _ _ [some x,some y,some (.int g)] H;cbv;refine ixF0 j (ixF1 l ?_);cbv;refine ⟨mulOk d.s1 b.s2,ixF0 l ?_⟩;cbv;refine ⟨mulOk i b.s1,ixF1 j ?_⟩;cbv;refine ⟨mulOk (i.mul b.s1) d.s2,ixF1 j (ixF1 l ?_)⟩;cbv;refine ⟨mulOk d.s2 b.s2,_,_,rfl,?_,(d.s2.mul b.s2).mono ⋯,fun p q S e=>k p q S e⟩;have:=Int.mul_pos (show 0<a.2 by have:=d.b1;ac_nf) (show 0<c.2 by have:=b.b1;ac_nf);ac_nf
abbrev BaZ:Stmt:=top 62
theorem JaN:Jan ["_law_script","_law_parts_here","_law_places","_law_style","_law_k","_law_cell_here","_law_mixed","_law_size","_law_most","_law_name"] ["_law_script"] (Jae BaZ):=by bv_decide
def JcI (K:W.Frag):Sp:=fun vs H Q E=>∃ (a:Addr) (ns:List Int),vs=[.ref a]/\SqL K H a (ns.map V.int)/\ns.length<=63/\∀ (q pl ml:Addr) (px mx:List V) (st:Nat) (ls:List PD) (ms:List Fr2) (H':Hp),Same H H'->H' q=some (.tup [.ref pl, .ref ml])->H' pl=some (.lst px)->All2 (PDV K H') ls px->H' ml=some (.lst mx)->All2 (fun (m:Fr2) v=>FrV K H' v m.1 m.2) ms mx->Rw st ls ms->1<=ls.length->ls.length<=7->Q (.ref q) H'
theorem JfQ (F:FunD K "_law_parts" "_law_parts" BaZ dV f fd) (T:Txt K mg Ad) (Bap:Cal P w K mg base 1 "_law_cell" ["_law_script","_law_k"] [] (Jcx K)) (Bar:Cal P w K mg base 1 "_law_low" ["_law_top","_law_bottom"] [] (Jcj)) (Bay:Cal P w K mg base 2 "_law_plus" ["_law_one","_law_other","_law_sign"] [] (Jcy K)):FnOk P w K mg base (CX1 P w) 3 f fd ["_law_script"] (JcI K):=by
 refine F.okn JaN (by subst_eqs) (fun f6 A d8 s H vs Q E hr h=>?_)
 obtain ⟨a,ns,rfl,h⟩:=h;refine ⟨_,(Jab (Jak 1 JaN.nd (Jba Jac)) (Jab (Jak 2 JaN.nd (Jba (Jaa (JaD (Jaa Jad (Jaa Jad Jac))) Jac))) (Jab (Jak 3 JaN.nd (pe_op JaJ (Bap.ev hr ⋯ rfl passF (Jaa (pv 0) (Jaa Jad Jac))) Jad)) (Jab (Ja6 PassesOwn.never rfl (Jde rfl T.Bb7 (Jaa (pe_op JaI Jad (pe_op JaJ (Bap.ev hr ⋯ rfl passF (Jaa (pv 0) (Jaa Jad Jac))) Jad)) Jac)) (Jar 4 JaN.nd) (Jab (Jak 5 JaN.nd (Bap.ev hr ⋯ rfl passF (Jaa (pv 0) (Jaa (pe_op JaI Jad (pv 4)) Jac)))) (Jab (Jak 6 JaN.nd (pe_op Jav (pe_op JaJ (pe_op JaM (pv 5) Jad) Jad) Jad)) (Jab (Jak 7 JaN.nd (Bar.ev hr ⋯ rfl passF (Jaa (pe_op JaJ (pv 5) (pe_ix ix_U (Jba (Jaa Jad (Jaa (pe_op Jik Jad Jad) Jac))) (pe_op JaJ (pe_op Jav (pv 6) Jad) Jad))) (Jaa (pe_op JaI Jad (pe_op JaJ (pe_op Jav (pv 6) Jad) Jad)) Jac)))) (Jab (Jak 8 JaN.nd (Bar.ev hr ⋯ rfl passF (Jaa (pe_op JaJ (pe_op Jav (pv 6) Jad) Jad) (Jaa (pe_op JaI Jad (pe_op JaJ (pe_op Jav (pv 6) Jad) Jad)) Jac)))) (Jab (Jak 9 JaN.nd (pe_op JaI (pe_op JaI (pe_op JaM JbU (pv 3)) (pe_ix ix_U JbU (pv 4))) (pe_op JaM JbU (pe_op JeI Jad (pv 3))))) (Jab (Jbb (pe_bm PySem.F.plainAttrs_list PySem.F.slot_list_append PySem.F.type_list_append Ja9 (pv 1) (Jaa (JaD (Jaa (pv 9) (Jaa (pe_ix ix_U JbU (pv 4)) (Jaa (pe_ix ix_U JbU (pe_op JaI (pv 4) Jad)) (Jaa (pv 7) (Jaa (pv 8) (Jaa (pe_op JaI Jad (pe_op JaJ (pv 6) Jad)) Jac))))))) Jac) (hs:=by exact Jaf rfl))) (Jai (Jbb (pe_bm PySem.F.plainAttrs_list PySem.F.slot_list_append PySem.F.type_list_append Ja9 (pv 2) (Jaa (Bay.ev hr ⋯ rfl passF (Jaa (pe_ix ix_U (pv 2) (pv 4)) (Jaa (pv 7) (Jaa Jad Jac)))) Jac) (hs:=by exact Jaf rfl))))))))))) (Jai (Jaq (JaD (Jaa (pv 1) (Jaa (pv 2) Jac))))))))),?_⟩
 obtain ⟨hS,hl,k⟩:=h;have sl:(1000:Nat)<=sizeLine:=by decide
 have N:(Str.ofString "x").cps.toList=[120]:=by decide
 have f2:(Str.ofString "x").length=1:=by decide
 have b4:(Str.ofString "fghijklm").cps.toList=List.range' 102 8:=by decide
 have d2:(Str.ofString "abcdefghijkl").cps.toList=List.range' 97 12:=by decide
 show tSeq _ _ _ [some (.ref a),none,none,none,none,none,none,none,none,none] H;cbv;refine ⟨len0,?_⟩;rename_i X b3 f1 H H1 S1 e1;cbv
 mframe;refine ⟨len2,?_⟩;rename_i m0 d9 e9 H1 H2 S2 e2;cbv;refine ⟨by show 1<=sizeLine;ac_nf,?_⟩;rename_i U B f0 H2 H3 S3 e3;cbv
 mframe;have a4:=S1.trans (S2.trans S3);refine ⟨a,ns,1,rfl,hS.same a4,hl,by decide,by decide,fun cs=>?_⟩;cbv;mpure
 have q3:=Mth.fm (x:=cs) (y:=3) ⋯;obtain ⟨st,a8⟩:=Int.eq_ofNat_of_zero_le q3.1;rw [a8] at q3 ⊢
 mframe;refine ⟨a,ns,0,rfl,hS.same a4,hl,by decide,by decide,fun c0=>?_⟩;cbv;mpure
 have q0:=Mth.fm (x:=c0) (y:=7) ⋯;refine ⟨_,rfl,by ac_nf,by ac_nf,?_⟩;have c8:st<=2:=by ac_nf
 have a9:X≠U:=fun z=>by rw [<- z,S2 _ _ e1] at B;cases B
 have b5:=JcD (S1.trans S2) B;clear q3 a8;refine ForR.byN (fun i σ H'=>∃ (v4 v5 v6 v7 v8 v9:Option V) (R C:List V) (Z:List PD) (ms:List Fr2),σ=[some (.ref a),some (.ref X),some (.ref U),some (.int (st:Int)),v4,v5,v6,v7,v8,v9]/\Same H H'/\H' X=some (.lst R)/\All2 (PDV K H') Z R/\H' U=some (.lst C)/\All2 (fun (m:Fr2) v=>FrV K H' v m.1 m.2) ms C/\Rw st Z ms/\Z.length=i) ⟨none,none,none,none,none,none,[],[.ref m0],[],[(0,1)],rfl,a4,S3 _ _ (S2 _ _ e1),rfl,e3, .one (FrV.of (S3 _ _ e2)),Rw.start c8,rfl⟩ ?_ ?_
 ·rintro i σ H4 hi ⟨v4,v5,v6,v7,v8,v9,R,C,Z,ms,rfl,S4,ep,hP,em,hM,hC,n⟩ N0 d4;have i7:i<7:=by ac_nf
  clear hi q0;have lp:=hP.length;have lm:=hM.length;have f5:=hC.len;simpa only [Int.zero_add];refine ⟨a,ns,_,rfl,hS.same S4,hl,by ac_nf,by ac_nf,fun c1=>?_⟩
  mframe;mpure
  mspec
  generalize ((c1*48271).fmod 2147483647).fdiv 37=w;cbv;mpure
  rename_i ol e4 f4 H4 H6 S6 e6;cbv;mpure
  have q5:=Mth.fm (x:=w.fdiv 64) (y:=2) ⋯;obtain ⟨n5,a7⟩:=Int.eq_ofNat_of_zero_le q5.1;rw [a7] at q5 ⊢;obtain ⟨Y,d5,m1,m2⟩:∃ Y:Int,[V.int 9, .int 10000000000000000000000000000000000000000][n5]?=some (.int Y)/\1<=Y/\Y<=10000000000000000000000000000000000000000:=pick9 ∅;refine ixL (i:=n5) (SqL.of e6) d5 ?_;clear q5 a7;cbv;refine ⟨by ac_nf,?_⟩;mpure
  obtain ⟨b1,b2,zb,_⟩:=lowQ 133 3 (Mth.fm (x:=c1) (y:=Y) ∅) (Mth.fm (x:=w.fdiv 128) (y:=6) ⋯) (Int.le_trans m2 ⋯);refine ⟨_,_,rfl,b1,b2,fun fz H7 S7 e7=>?_⟩;obtain ⟨D,o⟩:∃ D:Fr2,D=(Mth.top (c1.fmod Y) (1+(w.fdiv 128).fmod 6),Mth.bot (c1.fmod Y) (1+(w.fdiv 128).fmod 6)):=⟨_,rfl⟩;rw [<- o] at zb;have e7:H7 fz=some (.tup [.int D.1, .int D.2]):=by rw [e7,o]
  clear b1 b2 m1 m2 o
  mframe;mpure
  obtain ⟨b1,b2,mb,mn⟩:=lowQ 100 6 (Mth.fm (x:=w.fdiv 16) (y:=13) ⋯) (Mth.fm (x:=w.fdiv 4096) (y:=6) ⋯);refine ⟨_,_,rfl,b1,b2,fun fm H8 S8 e8=>?_⟩;obtain ⟨G,j⟩:∃ G:Fr2,G=(Mth.top ((w.fdiv 16).fmod 13) (1+(w.fdiv 4096).fmod 6),Mth.bot ((w.fdiv 16).fmod 13) (1+(w.fdiv 4096).fmod 6)):=⟨_,rfl⟩;rw [<- j] at mb;have mn:0<=G.1:=by rw [j];exact mn
  have e8:H8 fm=some (.tup [.int G.1, .int G.2]):=by rw [e8,j]
  clear b1 b2 j
  mframe;refine ⟨by ac_nf,by ac_nf,by ac_nf,fun z1 o=>?_⟩;have a0:z1.cps.toList=List.replicate st 120:=by
   rw [o,N];simp
  refine ⟨97+i,by decide,by rw [d2];exact Jb6 (by rw [List.getElem?_range' ∅,Nat.one_mul]),?_⟩;cbv;have l1:z1.length=st:=by rw [JcP,a0,length_replicate]
  have a2:(z1++(⟨#[97+i]⟩:Str)).cps.toList=List.replicate st 120++[97+i]:=by rw [JdK,a0]
  have d7:(z1++(⟨#[97+i]⟩:Str)).length=st+1:=by rw [JcP,a2];simp
  have lc:(⟨#[97+i]⟩:Str).length=1:=rfl;refine ⟨by ac_nf,?_⟩;cbv;refine ⟨by ac_nf,by ac_nf,by ac_nf,fun z2 j=>?_⟩;have a3:z2.cps.toList=List.replicate (2-st) 120:=by
   rw [j,N];have : ((2:Int)-(st:Int)).toNat=2-st:=by ac_nf
   rw [this];simp
  have l3:z2.length=2-st:=by rw [JcP,a3,length_replicate]
  cbv;refine ⟨by ac_nf,?_⟩;rw [nm_eq a2 a3];clear l3 a3 lc d7 a2 l1 a0 o j
  mframe;have b8:=S6.trans (S7.trans S8);refine ⟨.inl ⟨rfl,_,SqL.of (b8 _ _ ep)⟩,?_⟩;cbv;refine ⟨102+i,by decide,by rw [b4];exact Jb6 (by rw [List.getElem?_range' ∅,Nat.one_mul]),?_⟩;cbv;rw [show (i:Int)+1=((i+1:Nat):Int) from rfl];refine ⟨102+(i+1),by decide,by rw [b4];exact Jb6 (by rw [List.getElem?_range' ∅,Nat.one_mul]),?_⟩;rw [fcK (st:=st),fcK (st:=st)];cbv;mpure
  have qw:=Mth.fm (x:=w) (y:=5) ⋯;obtain ⟨wt,d0⟩:∃ wt:Int,wt=1+w.fmod 5:=⟨_,rfl⟩;rw [<- d0];refine ⟨by show 6<=sizeLine;ac_nf,?_⟩;rename_i pt f3 e0 H8 c2 a6 c5;cbv;have e:=b8.trans a6;refine ⟨X,R,_,rfl,rfl,e _ _ ep,by ac_nf,?_⟩;generalize I:upd c2 X _=g;cbv;have d6:g X=some (.lst (R++[.ref pt])):=putE I;have W:SameT c2 g:=SameT.put I (e _ _ ep) rfl;have l:g U=some (.lst C):=by rw [<- I,Jag (Ne.symm a9)];exact e _ _ em
  have M:SameT H8 g:=a6.t.trans W;have S:FrV K g (.ref fz) D.1 D.2:=FrV.of (M _ _ rfl (S8 _ _ e7));have a5:FrV K g (.ref fm) G.1 G.2:=FrV.of (M _ _ rfl e8);have u:SameT H4 g:=e.t.trans W;obtain ⟨mv,b0⟩:∃ mv,C[i]?=some mv:=⟨_,List.getElem?_eq_getElem (by ac_nf:i<C.length)⟩;obtain ⟨m,b6,c6⟩:=hM.at_ b0
  mframe;refine ⟨.inl ⟨rfl,_,SqL.of l⟩,?_⟩;cbv;refine ixL (i:=i) (SqL.of l) b0 ?_;cbv;refine ⟨mv, .ref fz,_,m,D,true,rfl,rfl,FrV.sameT u c6,S,(hC.mb ∅ b6).w.mono ⋯ ⋯,zb.w.mono ⋯ ⋯,fun np b7 r c9=>?_⟩;cbv;refine ⟨U,C,_,rfl,rfl,r _ _ l,by ac_nf,?_⟩;generalize L:upd b7 U _=J;cbv;have c3:J U=some (.lst (C++[.ref np])):=putE L;have b9:SameT b7 J:=SameT.put L (r _ _ l) rfl;have a1:nameS (nmK 112 st i)=true:=Jc8 ⋯ ∅ ∅;have d3:nameS (nmK 102 st i)=true:=Jc8 ⋯ ∅ ∅;have c7:nameS (nmK 102 st (i+1))=true:=Jc8 ⋯ ∅ ∅;have nw:nmK 102 st i≠nmK 102 st (i+1):=fun z=>by have:=Jdq z;ac_nf
  have O:Mth.Sz 21 wt:=.lit ∅ ∅;have c4:POk ⟨nmK 112 st i,nmK 102 st i,nmK 102 st (i+1),D,G,wt⟩:=⟨a1,d3,c7,nw,zb.ok ⋯ ⋯,mb.ok ⋯ ⋯,mn,by show 1<=wt;ac_nf,O.mono ⋯⟩;have d1:=hC.step (m:=m) (by rw [n];exact b6) (p:=⟨nmK 112 st i,nmK 102 st i,nmK 102 st (i+1),D,G,wt⟩) (d:=true) (by rw [n]) (by rw [n];rfl) (by rw [n];rfl) zb mb c4 O;have c:=r.t.trans b9;refine d4 _ _ ⟨_,_,_,_,_,_,R++[.ref pt],C++[.ref np],Z++[⟨nmK 112 st i,nmK 102 st i,nmK 102 st (i+1),D,G,wt⟩],_,rfl,fun b w h=>?_,?_,?_,c3,?_,d1,by simp [n]⟩
  ·rw [<- L,Jag (Jah h b5)];refine r _ _ ?_;rw [<- I,Jag (Jah h b3)];exact e _ _ (S4 _ _ h)
  ·rw [<- L,Jag a9];exact r _ _ d6
  ·exact (hP.mono (P':=PDV K J) fun _ _ z=>z.sameT (u.trans c)).append (.one ⟨pt,_,_,rfl,SqT.of ((W.trans c) _ _ rfl c5),S.sameT c,a5.sameT c⟩)
  ·exact (hM.mono (P':=fun (m:Fr2) v=>FrV K J v m.1 m.2) fun _ _ z=>FrV.sameT (u.trans c) z).append (.one (FrV.of (b9 _ _ rfl c9)))
 ·rintro σ H4 ⟨v4,v5,v6,v7,v8,v9,R,C,Z,ms,rfl,S4,ep,hP,em,hM,hC,n⟩;cbv;refine ⟨len2,?_⟩;rename_i q f7 f8 H4 H5 S5 e5;cbv;exact k q X U R C st Z ms H5 (S4.trans S5) e5 (S5 _ _ ep) (hP.mono fun _ _ z=>z.sameT S5.t) (S5 _ _ em) (hM.mono fun _ _ z=>FrV.same S5 z) hC ∅ ∅
abbrev Ba9:Stmt:=top 63
theorem Jas:Jan ["_law_script","_law_places","_law_gaps_here","_law_tight","_law_style","_law_k","_law_cell_here","_law_mixed","_law_one","_law_two","_law_middle","_law_other","_law_way","_law_far","_law_below","_law_above","_law_bit","_law_name","_law_low_here"] ["_law_script","_law_places"] (Jae Ba9):=by bv_decide
def Jc0 (K:W.Frag):Sp:=fun vs H Q E=>∃ (a ml:Addr) (ns:List Int) (mx:List V) (ms:List Fr2) (ls:List PD) (st:Nat),vs=[.ref a, .ref ml]/\SqL K H a (ns.map V.int)/\ns.length<=63/\H ml=some (.lst mx)/\All2 (fun (m:Fr2) v=>FrV K H v m.1 m.2) ms mx/\Rw st ls ms/\1<=ls.length/\ls.length<=7/\∀ (q gl tl:Addr) (gx:List V) (gs:List GD) (fs:List Bool) (s2:Nat) (H':Hp),Same H H'->H' q=some (.tup [.ref gl, .ref tl])->H' gl=some (.lst gx)->All2 (fun (g:GD) v=>TV K H' g.td v) gs gx->H' tl=some (.lst (fs.map V.bl))->GsT s2 st ms gs fs->Q (.ref q) H'
theorem Jgo (F:FunD K "_law_gaps" "_law_gaps" Ba9 dV f fd) (T:Txt K mg Ad) (Bap:Cal P w K mg base 1 "_law_cell" ["_law_script","_law_k"] [] (Jcx K)) (Bar:Cal P w K mg base 1 "_law_low" ["_law_top","_law_bottom"] [] (Jcj)) (Bay:Cal P w K mg base 2 "_law_plus" ["_law_one","_law_other","_law_sign"] [] (Jcy K)):FnOk P w K mg base (CX1 P w) 3 f fd ["_law_script","_law_places"] (Jc0 K):=by
 refine F.okn Jas (by subst_eqs) (fun m5 A k4 s H vs Q E M h=>?_)
 obtain ⟨a,ml,ns,mx,ms,ls,st,rfl,h⟩:=h;have hu:=M.units;refine ⟨_,(Jab (Jak 2 Jas.nd (Jba Jac)) (Jab (Jak 3 Jas.nd (Jba Jac)) (Jab (Jak 4 Jas.nd (pe_op JaJ (pe_op Jav (Bap.ev M ⋯ rfl passF (Jaa (pv 0) (Jaa Jad Jac))) Jad) Jad)) (Jab (Ja6 PassesOwn.never rfl (Jde rfl T.Bb7 (Jaa (pe_op JaI Jad (pe_op JaJ (Bap.ev M ⋯ rfl passF (Jaa (pv 0) (Jaa Jad Jac))) Jad)) Jac)) (Jar 5 Jas.nd) (Jab (Jak 6 Jas.nd (Bap.ev M ⋯ rfl passF (Jaa (pv 0) (Jaa (pe_op JaI Jad (pe_op JaM Jad (pv 5))) Jac)))) (Jab (Jak 7 Jas.nd (pe_op Jav (pe_op JaJ (pe_op JaM (pv 6) Jad) Jad) Jad)) (Jab (Jak 8 Jas.nd (pe_op JaJ (pv 7) (Jay JaY rfl T.BbP JbG (Jaa (pv 1) Jac)))) (Jab (Jak 9 Jas.nd (pe_op JaJ (pe_op JaI (pe_op JaI (pv 8) Jad) (pe_op JaJ (pe_op Jav (pv 7) Jad) (pe_op JeI (Jay JaY rfl T.BbP JbG (Jaa (pv 1) Jac)) Jad))) (Jay JaY rfl T.BbP JbG (Jaa (pv 1) Jac)))) (Jab (Jak 10 Jas.nd (Bay.ev M ⋯ rfl passF (Jaa (pe_ix ix_U (pv 1) (pv 9)) (Jaa (pe_ix ix_U (pv 1) (pv 8)) (Jaa (pe_un Jf0 Jad) Jac))))) (Jab (Jak 11 Jas.nd (Bap.ev M ⋯ rfl passF (Jaa (pv 0) (Jaa (pe_op JaI Jad (pe_op JaM Jad (pv 5))) Jac)))) (Jab (Jak 12 Jas.nd (pe_op JaJ (pe_op Jav (pv 7) Jad) Jad)) (Jab (Jak 13 Jas.nd (pe_ix ix_U (Jba (Jaa Jad (Jaa Jad (Jaa (pe_op Jik Jad Jad) Jac)))) (pe_op JaJ (pe_op Jav (pv 7) Jad) Jad))) (Jab (Jak 14 Jas.nd (Bar.ev M ⋯ rfl passF (Jaa (pe_op JaI (pe_op JaJ (pv 11) (pv 13)) Jad) (Jaa (pe_op JaI Jad (pe_op JaJ (pe_op Jav (pv 7) Jad) Jad)) Jac)))) (Jab (Jak 15 Jas.nd (Bar.ev M ⋯ rfl passF (Jaa (pe_op JaI (pe_op JaJ (pe_op Jav (pv 11) Jad) (pv 13)) Jad) (Jaa (pe_op JaI Jad (pe_op JaJ (pe_op Jav (pv 7) Jad) Jad)) Jac)))) (Jab (Jak 16 Jas.nd (Bar.ev M ⋯ rfl passF (Jaa Jad (Jaa (pe_op JaI Jad (pe_op JaJ (pv 11) Jad)) Jac)))) (Jab (ps_if (Jaz (JbT hu) (pv 12) Jad (JaA _)) (Jai (Jak 14 Jas.nd (JaD (Jaa Jad (Jaa Jad Jac)))))
   Jaw) (Jab (ps_if (Jaz (JbT hu) (pv 12) Jad (JaA _)) (Jab (Jak 14 Jas.nd (JaD (Jaa (pe_op JeI Jad (pe_ix ix_U (pv 16) Jad)) (Jaa (pe_ix ix_U (pv 16) Jad) Jac)))) (Jai (Jak 15 Jas.nd (Bay.ev M ⋯ rfl passF (Jaa (pv 15) (Jaa (pv 16) (Jaa Jad Jac)))))))
   Jaw) (Jab (ps_if (PW.pt (pw_or (Jaz (JbT hu) (pv 12) Jad (JaA _)) (Jb3 (Jaz (JbT hu) (pv 12) Jad (JaA _))))) (Jab (Jak 15 Jas.nd (JaD (Jaa (pe_op JeI Jad (pe_ix ix_U (pv 16) Jad)) (Jaa (pe_ix ix_U (pv 16) Jad) Jac)))) (Jai (Jak 14 Jas.nd (Bay.ev M ⋯ rfl passF (Jaa (pv 14) (Jaa (pv 16) (Jaa Jad Jac)))))))
   Jaw) (Jab (Jak 17 Jas.nd (pe_op JaI (pe_op JaI (pe_op JaM JbU (pv 4)) (pe_ix ix_U JbU (pv 5))) (pe_op JaM JbU (pe_op JeI Jad (pv 4))))) (Jab (Jak 18 Jas.nd (Bay.ev M ⋯ rfl passF (Jaa (pv 10) (Jaa (pv 14) (Jaa (pe_un Jf0 Jad) Jac))))) (Jab (Jbb (pe_bm PySem.F.plainAttrs_list PySem.F.slot_list_append PySem.F.type_list_append Ja9 (pv 2) (Jaa (JaD (Jaa (pv 17) (Jaa (pe_ix ix_U JbU (pv 8)) (Jaa (pe_ix ix_U JbU (pv 9)) (Jaa (pv 18) (Jaa (Bay.ev M ⋯ rfl passF (Jaa (pv 10) (Jaa (pv 15) (Jaa Jad Jac)))) Jac)))))) Jac) (hs:=by exact Jaf rfl))) (Jai (Jbb (pe_bm PySem.F.plainAttrs_list PySem.F.slot_list_append PySem.F.type_list_append Ja9 (pv 3) (Jaa (Jbn Jig (pv 12) (JaD (Jaa Jad (Jaa Jad (Jaa Jad Jac)))) (by with_unfolding_all rfl)) Jac) (hs:=by exact Jaf rfl)))))))))))))))))))))) (Jai (Jaq (JaD (Jaa (pv 2) (Jaa (pv 3) Jac))))))))),?_⟩
 clear hu;obtain ⟨hS,hl,em,hM,hC,l1,l7,k⟩:=h;have sl:(1000:Nat)<=sizeLine:=by decide
 have b3:(Str.ofString "x").cps.toList=[120]:=by decide
 have l5:(Str.ofString "x").length=1:=by decide
 have h6:(Str.ofString "fghijklm").cps.toList=List.range' 102 8:=by decide
 have j9:(Str.ofString "nopqrst").cps.toList=List.range' 110 7:=by decide
 have lm:=hM.length;have m3:=hC.len;show tSeq _ _ _ [some (.ref a),some (.ref ml),none,none,none,none,none,none,none,none,none,none,none,none,none,none,none,none,none] H;cbv;refine ⟨len0,?_⟩;rename_i gl g1 l0 H H1 S1 e1;cbv
 mframe;refine ⟨len0,?_⟩;rename_i tl a3 l4 H1 m4 g2 k2;cbv
 mframe;have d1:=S1.trans g2;have i1:gl≠tl:=fun z=>by rw [<- z,e1] at a3;cases a3
 have g9:=JcD S1 a3;refine ⟨a,ns,1,rfl,hS.same d1,hl,by decide,by decide,fun cs=>?_⟩;cbv;mpure
 have q3:=Mth.fm (x:=cs.fdiv 3) (y:=3) ⋯;obtain ⟨I,g6⟩:=Int.eq_ofNat_of_zero_le q3.1;rw [g6] at q3 ⊢;have j6:I<=2:=by ac_nf
 mframe;refine ⟨a,ns,2,rfl,hS.same d1,hl,by decide,by decide,fun c0=>?_⟩;cbv;mpure
 have q0:=Mth.fm (x:=c0) (y:=7) ⋯;refine ⟨_,rfl,by ac_nf,by ac_nf,?_⟩;clear q3 g6;refine ForR.byN (fun i σ H'=>∃ (v5 v6 v7 v8 v9 f8 f3 f6 d6 d9 c4 c9 O N:Option V) (gx:List V) (gs:List GD) (fs:List Bool),σ=[some (.ref a),some (.ref ml),some (.ref gl),some (.ref tl),some (.int (I:Int)),v5,v6,v7,v8,v9,f8,f3,f6,d6,d9,c4,c9,O,N]/\Same H H'/\H' gl=some (.lst gx)/\All2 (fun (g:GD) v=>TV K H' g.td v) gs gx/\H' tl=some (.lst (fs.map V.bl))/\gs.length=i/\fs.length=i/\(∀ (i:Nat) g,gs[i]?=some g->g.nm=gnS I i)/\∀ (i:Nat) g f,gs[i]?=some g->fs[i]?=some f->∃ u v,GOq st ms g u v/\(f=true->vl u<0\/vl v<0)/\(f=false->0<=vl u/\0<=vl v)) ⟨none,none,none,none,none,none,none,none,none,none,none,none,none,none,[],[],[],rfl,d1,g2 _ _ e1,rfl,k2,rfl,rfl,(fun i g h=>by simp at h),(fun i g f h=>by simp at h)⟩ ?_ ?_
 ·rintro i σ H2 hi ⟨v5,v6,v7,v8,v9,f8,f3,f6,d6,d9,c4,c9,O,N,gx,gs,fs,rfl,S2,eg,hX,et,d7,g8,c5,d8⟩ N0 j8;have i7:i<7:=by ac_nf
  have lX:=hX.length;clear hi q0;rw [Int.zero_add];cbv;mpure
  refine ⟨a,ns,_,rfl,hS.same S2,hl,by ac_nf,by ac_nf,fun c1=>?_⟩
  mframe;mpure
  mspec
  generalize ((c1*39373).fmod 2147483629).fdiv 37=w;cbv;have a0:=S2 _ _ em;refine ⟨_, .inl (SqL.of a0),?_⟩;cbv;refine ⟨by ac_nf,?_⟩
  mframe;mpure
  refine ⟨_, .inl (SqL.of a0),?_⟩;cbv;refine ⟨by ac_nf,_, .inl (SqL.of a0),?_⟩;cbv;refine ⟨by ac_nf,?_⟩;obtain ⟨f,hf⟩:∃ f,f=mx.length:=⟨_,rfl⟩;rw [<- hf];have q1:=Mth.fm (x:=w) (y:=(f:Int)) ∅;have q2:=Mth.fm (x:=w.fdiv 64) (y:=(f:Int)-1) ∅;have h3:=Jjb (x:=w.fmod (f:Int)+1+(w.fdiv 64).fmod ((f:Int)-1)) (f:=(f:Int)) ∅ ∅;have q7:=Mth.fm (x:=w.fmod (f:Int)+1+(w.fdiv 64).fmod ((f:Int)-1)) (y:=(f:Int)) ∅;obtain ⟨sI,f9⟩:=Int.eq_ofNat_of_zero_le q1.1;obtain ⟨eI,h2⟩:=Int.eq_ofNat_of_zero_le q7.1;have j2:sI≠eI:=fun z=>by
   have : w.fmod (f:Int)=(w.fmod (f:Int)+1+(w.fdiv 64).fmod ((f:Int)-1)).fmod (f:Int):=by rw [h2,f9,z]
   rcases h3 with e | e <;> ac_nf
  rw [h2,f9];have i5:sI<mx.length:=by ac_nf
  have i6:eI<mx.length:=by ac_nf
  obtain ⟨S,c6⟩:∃ S,mx[sI]?=some S:=⟨_,List.getElem?_eq_getElem i5⟩;obtain ⟨D,c8⟩:∃ D,mx[eI]?=some D:=⟨_,List.getElem?_eq_getElem i6⟩;obtain ⟨ma,d4,fa⟩:=hM.at_ c6;obtain ⟨mb,d3,fb⟩:=hM.at_ c8;clear h3 q2 q7 q1
  mframe;refine ixL (i:=eI) (SqL.of a0) c8 ?_;cbv;refine ixL (i:=sI) (SqL.of a0) c6 ?_;cbv;refine ⟨D,S,_,mb,ma,false,rfl,rfl,FrV.same S2 fb,FrV.same S2 fa,(hC.mb ∅ d3).w.mono ⋯ ⋯,(hC.mb ∅ d4).w.mono ⋯ ⋯,fun pm H3 S3 e3=>?_⟩;have fm:=hC.mm l7 d4 d3;obtain ⟨m,hm⟩:∃ m,m=addF mb (negF ma):=⟨_,rfl⟩;have e3:H3 pm=some (.tup [.int m.1, .int m.2]):=by rw [e3,hm];rfl
  rw [<- hm] at fm;clear c6 c8 fa fb
  mframe;mpure
  refine ⟨a,ns,_,rfl,(hS.same S2).same S3,hl,by ac_nf,by ac_nf,fun o=>?_⟩
  mframe;mpure
  mspec
  obtain ⟨d,h8⟩:∃ d,d=(w.fdiv 512).fmod 7:=⟨_,rfl⟩;rw [<- h8];cbv;mpure
  rename_i fl l2 l6 H3 H4 S4 e4;cbv;mpure
  have qf:=Mth.fm (x:=w.fdiv 256) (y:=3) ⋯;obtain ⟨n3,g7⟩:=Int.eq_ofNat_of_zero_le qf.1;rw [g7] at qf ⊢;obtain ⟨l,b4,f1,f2⟩:∃ l:Int,[V.int 23, .int 23, .int 1000000000000000000000000000000][n3]?=some (.int l)/\1<=l/\l<=1000000000000000000000000000000:=by
   have : n3=0\/n3=1\/n3=2:=by ac_nf
   rcases this with rfl | rfl | rfl
   ·exact ⟨_,rfl,by decide,by decide⟩
   ·exact ⟨_,rfl,by decide,by decide⟩
   ·exact ⟨_,rfl,by decide,by decide⟩
  refine ixL (i:=n3) (SqL.of e4) b4 ?_;clear qf g7 b4
  mframe;refine ⟨by ac_nf,?_⟩;mpure
  have qa:=Mth.fm (x:=o) (y:=l) ∅;obtain ⟨b1,b2,W,u0⟩:=lowQ 101 3 (x:=o.fmod l+1) (m:=l+1) ⟨by ac_nf,by ac_nf⟩ (Mth.fm (x:=w.fdiv 1024) (y:=5) ⋯) (Int.le_trans (Int.add_le_add_right f2 1) ⋯);refine ⟨_,_,rfl,b1,b2,fun pu H5 S5 e5=>?_⟩;replace u0:=(vl_nn W.b1).mpr u0;obtain ⟨u,hu⟩:∃ u:Fr2,u=(Mth.top (o.fmod l+1) (1+(w.fdiv 1024).fmod 5),Mth.bot (o.fmod l+1) (1+(w.fdiv 1024).fmod 5)):=⟨_,rfl⟩;rw [<- hu] at W u0;have e5:H5 pu=some (.tup [.int u.1, .int u.2]):=by rw [e5,hu]
  clear qa b1 b2 hu
  mframe;mpure
  refine ⟨by ac_nf,?_⟩;mpure
  have qc:=Mth.fm (x:=o.fdiv 23) (y:=l) ∅;obtain ⟨b1,b2,Y,v0⟩:=lowQ 101 3 (x:=(o.fdiv 23).fmod l+1) (m:=l+1) ⟨by ac_nf,by ac_nf⟩ (Mth.fm (x:=w.fdiv 8192) (y:=5) ⋯) (Int.le_trans (Int.add_le_add_right f2 1) ⋯);refine ⟨_,_,rfl,b1,b2,fun pv H6 S6 e6=>?_⟩;replace v0:=(vl_nn Y.b1).mpr v0;obtain ⟨v,hv⟩:∃ v:Fr2,v=(Mth.top ((o.fdiv 23).fmod l+1) (1+(w.fdiv 8192).fmod 5),Mth.bot ((o.fdiv 23).fmod l+1) (1+(w.fdiv 8192).fmod 5)):=⟨_,rfl⟩;rw [<- hv] at Y v0;have e6:H6 pv=some (.tup [.int v.1, .int v.2]):=by rw [e6,hv]
  clear qc b1 b2 hv f1 f2
  mframe;mpure
  have qe:=Mth.fm (x:=o) (y:=1000) ⋯;refine ⟨_,_,rfl,by ac_nf, .lit ∅ ∅,fun pb H7 S7 e7=>?_⟩;have B:FB 1 10 (Mth.top 1 (1+o.fmod 1000),Mth.bot 1 (1+o.fmod 1000)):=FB.low ∅ (.lit ⋯ ⋯) (.lit ∅ ∅);have b0:0<vl (Mth.top 1 (1+o.fmod 1000),Mth.bot 1 (1+o.fmod 1000)):=by
   have t1:Mth.top 1 (1+o.fmod 1000)=1:=by
    unfold Mth.top Mth.by_ Mth.g;rw [if_neg ∅];cbv;simp
   have:=(JcK (a:=(0,1)) (c:=(Mth.top 1 (1+o.fmod 1000),Mth.bot 1 (1+o.fmod 1000))) ⋯ B.b1).mp (by unfold lessF;simp [t1]);rw [Jc1] at this;exact this
  obtain ⟨p,d0⟩:∃ p:Fr2,p=(Mth.top 1 (1+o.fmod 1000),Mth.bot 1 (1+o.fmod 1000)):=⟨_,rfl⟩;rw [<- d0] at B b0;have e7:H7 pb=some (.tup [.int p.1, .int p.2]):=by rw [e7,d0]
  have h9:vl (negF p)<0:=by rw [JcL];grind
  clear qe d0;have j3:=S3.trans (S4.trans (S5.trans (S6.trans S7)));have j4:=S4.trans (S5.trans (S6.trans S7))
  mframe;rename_i N1 m6;have a9:∀ (D:V) (u:Fr2) (H8:Hp),Same H7 H8->FrV K H8 D u.1 u.2->FB 101 3 u->0<=vl u->N1 [some (.ref a),some (.ref ml),some (.ref gl),some (.ref tl),some (.int (I:Int)),some (.int (i:Int)),some (.int c1),some (.int w),some (.int (sI:Int)),some (.int (eI:Int)),some (.ref pm),some (.int o),some (.int d),some (.int l),some D,some (.ref pv),some (.ref pb),O,N] H8:=by
   intro D u H8 S8 R W u0
   mframe;rename_i N2 m2;have b9:∀ (D S:V) (u v:Fr2) (H9:Hp),Same H7 H9->FrV K H9 D u.1 u.2->FrV K H9 S v.1 v.2->FB 140 14 u->FB 140 14 v->0<=vl u+vl v->(d=1->vl u<0)->(d≠1->0<=vl u/\0<=vl v/\FB 101 3 u)->N2 [some (.ref a),some (.ref ml),some (.ref gl),some (.ref tl),some (.int (I:Int)),some (.int (i:Int)),some (.int c1),some (.int w),some (.int (sI:Int)),some (.int (eI:Int)),some (.ref pm),some (.int o),some (.int d),some (.int l),some D,some S,some (.ref pb),O,N] H9:=by
    intro D S u v H9 S9 R c7 W Y uv d5 a6
    mframe;rename_i N3 m1;have b6:∀ (D S:V) (u v:Fr2) (r:Hp),Same H7 r->FrV K r D u.1 u.2->FrV K r S v.1 v.2->FB 140 14 u->FB 140 14 v->0<=vl u+vl v->((d=1\/d=2\/d=3)->vl u<0\/vl v<0)->(¬ (d=1\/d=2\/d=3)->0<=vl u/\0<=vl v)->N3 [some (.ref a),some (.ref ml),some (.ref gl),some (.ref tl),some (.int (I:Int)),some (.int (i:Int)),some (.int c1),some (.int w),some (.int (sI:Int)),some (.int (eI:Int)),some (.ref pm),some (.int o),some (.int d),some (.int l),some D,some S,some (.ref pb),O,N] r:=by
     intro D S u v r C R c7 W Y uv d5 a6
     mframe;refine ⟨by ac_nf,by ac_nf,by ac_nf,fun z1 i2=>?_⟩;have e2:z1.cps.toList=List.replicate I 120:=by
      rw [i2,b3];simp
     refine ⟨110+i,by decide,by rw [j9];exact Jb6 (by rw [List.getElem?_range' ∅,Nat.one_mul]),?_⟩;cbv;have j1:z1.length=I:=by rw [JcP,e2,length_replicate]
     have f5:(z1++(⟨#[110+i]⟩:Str)).cps.toList=List.replicate I 120++[110+i]:=by rw [JdK,e2]
     have k1:(z1++(⟨#[110+i]⟩:Str)).length=I+1:=by rw [JcP,f5];simp
     have lc:(⟨#[110+i]⟩:Str).length=1:=rfl;refine ⟨by ac_nf,?_⟩;cbv;refine ⟨by ac_nf,by ac_nf,by ac_nf,fun z2 h5=>?_⟩;have f7:z2.cps.toList=List.replicate (2-I) 120:=by
      rw [h5,b3];have : ((2:Int)-(I:Int)).toNat=2-I:=by ac_nf
      rw [this];simp
     have l3:z2.length=2-I:=by rw [JcP,f7,length_replicate]
     cbv;refine ⟨by ac_nf,?_⟩;rw [gn_eq f5 f7];clear l3 f7 lc k1 f5 j1 e2 i2 h5;have b8:=j4.trans C;have b5:=j3.trans C
     mframe;refine ⟨.ref pm,D,_,m,u,false,rfl,rfl,FrV.of (b8 _ _ e3),R,fm.w.mono ⋯ ⋯,W.w.mono ⋯ ⋯,fun m9 d2 J X=>?_⟩
     mframe;refine ⟨.inl ⟨rfl,_,SqL.of (J _ _ (b5 _ _ eg))⟩,?_⟩;cbv;refine ⟨102+sI,by decide,by rw [h6];exact Jb6 (by rw [List.getElem?_range' ∅,Nat.one_mul]),?_⟩;cbv;refine ⟨102+eI,by decide,by rw [h6];exact Jb6 (by rw [List.getElem?_range' ∅,Nat.one_mul]),?_⟩;rw [fcK (st:=st),fcK (st:=st)];cbv;refine ⟨.ref pm,S,_,m,v,true,rfl,rfl,FrV.of (J _ _ (b8 _ _ e3)),c7.same J,fm.w.mono ⋯ ⋯,Y.w.mono ⋯ ⋯,fun m0 k5 g3 i8=>?_⟩;cbv;refine ⟨len5,?_⟩;rename_i px k7 k6 k5 g4 e0 k0;cbv;have f4:=J.trans (g3.trans e0);have G:=b5.trans f4;refine ⟨gl,gx,_,rfl,rfl,G _ _ eg,by ac_nf,?_⟩;generalize a7:upd g4 gl _=f0;cbv;have j0:=putE a7;have j5:SameT g4 f0:=SameT.put a7 (G _ _ eg) rfl;have c3:f0 tl=some (.lst (fs.map V.bl)):=by rw [<- a7,Jag (Ne.symm i1)];exact G _ _ et
     mframe;refine ⟨.inl ⟨rfl,_,SqL.of c3⟩,?_⟩;cbv;refine ⟨by show 3<=sizeLine;ac_nf,?_⟩;rename_i tt l9 l8 f0 g0 a8 i4;cbv;refine ⟨tt,_,rfl, .inr (SqT.of i4),rfl,rfl,?_⟩;rw [if_neg ⋯];cbv;obtain ⟨fg,h0⟩:∃ fg,fg=inV (.int d) [.int 1, .int 2, .int 3]:=⟨_,rfl⟩;rw [<- h0];have h7:fg=true↔(d=1\/d=2\/d=3):=by
      rw [h0];unfold inV;simp [eqV];ac_nf
     cbv;have b7:=a8 _ _ c3;refine ⟨tl,_,_,rfl,rfl,b7,by rw [length_map];ac_nf,?_⟩;generalize a5:upd g0 tl _=h4;cbv;have j7:=putE a5;have i9:SameT g0 h4:=SameT.put a5 b7 rfl;have Z:=j5.trans (a8.t.trans i9);refine j8 _ _ ⟨_,_,_,_,_,_,_,_,_,_,_,_,_,_,gx++[.ref px],gs++[⟨gnS I i,nmK 102 st sI,nmK 102 st eI,addF m (negF u),addF m v⟩],fs++[fg],rfl,fun b w h=>?_,?_,?_,by rw [j7,map_append];rfl,by simp [d7],by simp [g8],fun j g hj=>?_,fun j g f hj U=>?_⟩
     ·rw [<- a5,Jag (Jah h g9)];refine a8 _ _ ?_;rw [<- a7,Jag (Jah h g1)];exact G _ _ (S2 _ _ h)
     ·rw [<- a5,Jag i1];exact a8 _ _ j0
     ·refine (hX.mono (P':=fun (g:GD) v=>TV K h4 g.td v) fun _ _ z=>(TV.sameT G.t z).sameT Z).append (.one ?_);exact TV.sameT Z ⟨px,_,_,rfl,SqT.of k0,FrV.of (e0 _ _ (g3 _ _ X)),FrV.of (e0 _ _ i8)⟩
     ·rcases Ja1 hj with hj | ⟨q1,q2⟩
      ·exact c5 j g hj
      ·rw [q1,q2,d7]
     ·rcases Ja1 hj with hj | ⟨q1,q2⟩
      ·rcases Ja1 U with U | ⟨q3,q4⟩
       ·exact d8 j g f hj U
       ·have:=(List.getElem?_eq_some_iff.mp hj).1;ac_nf
      ·rcases Ja1 U with U | ⟨q3,q4⟩
       ·have:=(List.getElem?_eq_some_iff.mp U).1;ac_nf
       ·rw [q2,q4];refine ⟨u,v,⟨sI,eI,ma,mb,j2,d4,d3,rfl,rfl,W,Y,by rw [hm],by rw [hm],uv⟩,fun z=>d5 (h7.mp z),fun z=>a6 fun y=>by rw [h7.mpr y] at z;cases z⟩
    by_cases o:d=2\/d=3
    ·have k3:d≠1:=by ac_nf
     obtain ⟨u0,v0,h1⟩:=a6 k3;refine iteOr (by simpa using o) ?_;cbv;refine ixT (i:=0) (SqT.of (S9 _ _ e7)) rfl ?_;cbv;refine ixT (i:=1) (SqT.of (S9 _ _ e7)) rfl ?_;cbv;refine ⟨len2,?_⟩;rename_i pn i3 g5 H9 r C L;cbv
     mframe;refine ⟨D, .ref pb,_,u,p,true,rfl,rfl,R.same C,FrV.of (C _ _ (S9 _ _ e7)),W.w.mono ⋯ ⋯,B.w.mono ⋯ ⋯,fun pq d2 J X=>?_⟩;have L:r pn=some (.tup [.int (negF p).1, .int (negF p).2]):=by rw [L];unfold negF;simp
     have X:d2 pq=some (.tup [.int (addF u p).1, .int (addF u p).2]):=X;have ev:vl (addF u p)=vl u+vl p:=h1.vadd B;exact b6 (.ref pq) (.ref pn) (addF u p) (negF p) d2 (S9.trans (C.trans J)) (FrV.of X) (FrV.of (J _ _ L)) ((FB.add (n:=111) (m:=13) h1 B ⋯ ⋯ ⋯).mono ⋯ ⋯) (B.neg.mono ⋯ ⋯) (by rw [ev,JcL];grind) (fun _=>.inr h9) fun h=>absurd (.inr o) h
    ·(rw [if_neg (by simp;ac_nf)])
     (rw [if_neg (by simp;ac_nf)])
     refine b6 D S u v H9 S9 R c7 W Y uv (fun h=>?_) fun h=>?_
     ·rcases h with h | h
      ·exact .inl (d5 h)
      ·exact absurd h o
     ·obtain ⟨a1,a2,_⟩:=a6 fun z=>h (.inl z);exact ⟨a1,a2⟩
   by_cases a4:d=1
   ·rw [if_pos (by simpa using a4)];cbv;refine ixT (i:=0) (SqT.of (S8 _ _ e7)) rfl ?_;cbv;refine ixT (i:=1) (SqT.of (S8 _ _ e7)) rfl ?_;cbv;refine ⟨len2,?_⟩;rename_i pn i3 g5 H8 H9 S9 e9;cbv
    mframe;refine ⟨.ref pv, .ref pb,_,v,p,true,rfl,rfl,FrV.of (S9 _ _ (S8 _ _ (S7 _ _ e6))),FrV.of (S9 _ _ (S8 _ _ e7)),Y.w.mono ⋯ ⋯,B.w.mono ⋯ ⋯,fun pq r C L=>?_⟩;have e9:H9 pn=some (.tup [.int (negF p).1, .int (negF p).2]):=by rw [e9];unfold negF;simp
    have L:r pq=some (.tup [.int (addF v p).1, .int (addF v p).2]):=L;have ev:vl (addF v p)=vl v+vl p:=Y.vadd B;exact b9 (.ref pn) (.ref pq) (negF p) (addF v p) r (S8.trans (S9.trans C)) (FrV.of (C _ _ e9)) (FrV.of L) (B.neg.mono ⋯ ⋯) ((FB.add (n:=111) (m:=13) Y B ⋯ ⋯ ⋯).mono ⋯ ⋯) (by rw [ev,JcL];grind) (fun _=>h9) fun h=>absurd a4 h
   ·(rw [if_neg (by simpa using a4)])
    exact b9 D (.ref pv) u v H8 S8 R (FrV.of (S8 _ _ (S7 _ _ e6))) (W.mono ⋯ ⋯) (Y.mono ⋯ ⋯) (Rat.add_nonneg u0 v0) (fun h=>absurd h a4) fun _=>⟨u0,v0,W⟩
  by_cases i0:d=0
  ·rw [if_pos (by simpa using i0)];cbv;refine ⟨len2,?_⟩;rename_i pz k9 k8 H7 H8 S8 e8;exact a9 (.ref pz) (0,1) H8 S8 (FrV.of e8) (Jc2.mono ⋯ ⋯) (by rw [Jc1];exact Rat.le_refl)
  ·(rw [if_neg (by simpa using i0)])
   exact a9 (.ref pu) u H7 (Same.refl _) (FrV.of (S7 _ _ (S6 _ _ e5))) W u0
 ·rintro σ H2 ⟨v5,v6,v7,v8,v9,f8,f3,f6,d6,d9,c4,c9,O,N,gx,gs,fs,rfl,S2,eg,hX,et,d7,g8,c5,d8⟩;cbv;refine ⟨len2,?_⟩;rename_i q m7 m8 H2 H3 S3 e3;cbv;exact k q gl tl gx gs fs I H3 (S2.trans S3) e3 (S3 _ _ eg) (hX.mono fun _ _ z=>TV.sameT S3.t z) (S3 _ _ et) ⟨j6,c5,by ac_nf,by ac_nf,d8⟩
abbrev BaH:Stmt:=top 64
theorem JaO:Jan ["_law_thing","_law_way","_law_named","_law_others","_law_value","e"] ["_law_thing","_law_way"] (Jae BaH):=by bv_decide
def Jcc (K:W.Frag) (Ad:Adr):Sp:=fun vs H Q E=>∃ (x:Addr) (ls:List PD) (es:List (GD × List Str)) (pl:Str->Fr2) (wy:Int),vs=[.ref x, .int wy]/\TK K Ad H x ls (es.map (·.1))/\SHC ls es pl/\(wy≠0->∃ e∈es,vl (roomF pl e.1)<0)/\((∀ e∈es,0<=vl (roomF pl e.1))->∀ H',Same H H'->Q .non H')/\(∀ z,(∃ (i:Nat) (e:GD × List Str),es[i]?=some e/\vl (roomF pl e.1)<0/\(∀ e'∈es.take i,0<=vl (roomF pl e'.1))/\e.1.nm=z)->∀ H',Same H H'->Q (.str z) H')
theorem Jeu (F:FunD K "_law_refused" "_law_refused" BaH dV f fd) (T:Txt K mg Ad) (Bbx:Cal P w K mg base 9 "share" ["thing"] [] (Jdl K Ad)) (BbG:Cal P w K mg base 10 "share_ties" ["thing"] [] (JcA K Ad)):FnOk P w K mg base (CX1 P w) 11 f fd ["_law_thing","_law_way"] (Jcc K Ad):=by
 refine F.okn JaO (by subst_eqs) (fun a7 A a0 s H vs Q E M h=>?_)
 obtain ⟨x,U,S,O,I,rfl,h⟩:=h;have hu:=M.units;refine ⟨_,(Jab (Jak 2 JaO.nd (Jba Jac)) (Jab (Jak 3 JaO.nd (Jba Jac)) (Jab (Jak 4 JaO.nd JcS) (Jab (Jiw (i:=5) JaO.nd rfl rfl (Jgs (JlZ (Jaz (JbT hu) (pv 1) Jad (JaA _)) (Jgs (JgV (Bbx.tr M ⋯ rfl (Jaa (pv 0) Jac))) Jim) (Jgs (JgV (BbG.tr M ⋯ rfl (Jaa (pv 0) Jac))) Jim)) Jim) rfl T.m_Tight (fun _=>
   (Jab (Jak 4 JaO.nd (Jju (K:=K) rfl (pv 5) rfl)) (Jab (Jak 2 JaO.nd (Jba (Jaa (Jbo (K:=K) rfl rfl T.Bad Jap (Jaa (pv 5) (Jaa (JaW (v:=.ref _) rfl T.m_SlackError rfl) Jac))) (Jaa (Jbo (K:=K) rfl rfl T.Bad Jap (Jaa (pv 5) (Jaa (JcV (v:=.ty "ValueError") rfl T.n_ValueError JeO rfl) Jac))) Jac)))) (Jai (Jak 3 JaO.nd (Jba (Jaa (Jbo (K:=K) rfl rfl T.Bad Jap (Jaa (pv 5) (Jaa (JaW (v:=.ref _) rfl T.BdO rfl) Jac))) (Jaa (Jbo (K:=K) rfl rfl T.Bad Jap (Jaa (pv 5) (Jaa (JaW (v:=.ref _) rfl T.m_Impossible rfl) Jac))) (Jaa (Jbo (K:=K) rfl rfl T.Bad Jap (Jaa (pv 5) (Jaa (JaW (v:=.ref _) rfl T.BdI rfl) Jac))) (Jaa (Jbo (K:=K) rfl rfl T.Bad Jap (Jaa (pv 5) (Jaa (JaW (v:=.ref _) rfl T.m_NoFace rfl) Jac))) (Jaa (Jbo (K:=K) rfl rfl T.Bad Jap (Jaa (pv 5) (Jaa (JaW (v:=.ref _) rfl T.BdP rfl) Jac))) (Jaa (Jbo (K:=K) rfl rfl T.Bad Jap (Jaa (pv 5) (Jaa (JaW (v:=.ref _) rfl T.Bdv rfl) Jac))) (Jaa (Jbo (K:=K) rfl rfl T.Bad Jap (Jaa (pv 5) (Jaa (JaW (v:=.ref _) rfl T.m_NoNumber rfl) Jac))) (Jaa (Jbo (K:=K) rfl rfl T.Bad Jap (Jaa (pv 5) (Jaa (JaW (v:=.ref _) rfl T.BdJ rfl) Jac))) (Jaa (Jbo (K:=K) rfl rfl T.Bad Jap (Jaa (pv 5) (Jaa (JaW (v:=.ref _) rfl T.m_NoRow rfl) Jac))) (Jaa (Jbo (K:=K) rfl rfl T.Bad Jap (Jaa (pv 5) (Jaa (JaW (v:=.ref _) rfl T.m_NoTie rfl) Jac))) (Jaa (Jbo (K:=K) rfl rfl T.Bad Jap (Jaa (pv 5) (Jaa (JaW (v:=.ref _) rfl T.m_Off rfl) Jac))) (Jaa (Jbo (K:=K) rfl rfl T.Bad Jap (Jaa (pv 5) (Jaa (JaW (v:=.ref _) rfl T.BdQ rfl) Jac))) Jac))))))))))))))))))) (Jab (ps_if (PW.pt (pw_or (Jaz (JbT hu) (pv 2) (Jba Jac) (JaA _)) (pw_or (Jaz JfS (pe_bm PySem.F.plainAttrs_list PySem.F.slot_list_count PySem.F.type_list_count Jjj (pv 2) (Jaa pe_bl Jac)) Jad (JaA _)) (Jb3 (Jaz Jig pe_bl (pv 3) (by with_unfolding_all rfl)))))) (Jai (Jaq JcS))
   Jaw) (Jai (Jaq (pv 4)))))))),?_⟩
 clear hu;obtain ⟨ht,hc,hw,k,kT⟩:=h;have sl:(1000:Nat)<=sizeLine:=by decide
 show tSeq _ _ _ [some (.ref x),some (.int I),none,none,none,none] H;cbv;refine ⟨len0,?_⟩;rename_i nl a5 a3 H H1 S1 e1;cbv
 mframe;refine ⟨len0,?_⟩;rename_i ol a2 a6 H1 H2 S2 e2;cbv
 mframe
 mframe;have b:=S1.trans S2;rename_i N hN;have key:∀ (v:V) (G J:Addr) (as bs:List Bool) (o:Hp),Same H o->o G=some (.lst (as.map V.bl))->o J=some (.lst (bs.map V.bl))->((as=[]/\∀ H',Same H H'->Q .non H')\/(as=[true,true]/\inV (.bl true) (bs.map V.bl)=false/\∀ H',Same H H'->Q v H'))->N [some (.ref x),some (.int I),some (.ref G),some (.ref J),some v,none] o:=by
  intro v G J as bs o Sz z1 z2 d
  mframe;refine ⟨len0,?_⟩;rename_i l5 a4 a1 o Hy p f5;cbv;refine eqBL (as:=as) (bs:=[]) (p _ _ z1) f5 ?_;rcases d with ⟨rfl,kq⟩ | ⟨rfl,hin,kq⟩
  ·try simpa only [decide_true]
   exact kq Hy (Sz.trans p)
  ·try simpa only [decide_false]
   refine ⟨.inl ⟨rfl,_,SqL.of (p _ _ z1)⟩,?_⟩;cbv;refine ⟨G,[true,true],true,rfl,rfl,p _ _ z1,?_⟩;cbv;rw [show (decide (((List.count true [true,true]:Nat):Int)<2))=false by decide];cbv;have fl:(bs.map V.bl).all flatV=true:=List.all_eq_true.mpr (fun v hv=>by obtain ⟨z,_,rfl⟩:=mem_map.mp hv;rfl);refine ⟨J,_,rfl, .inl (SqL.of (p _ _ z2)),rfl,fl,?_⟩;rw [if_neg ⋯,hin];cbv;cbv;exact kq Hy (Sz.trans p)
 by_cases R:I=0
 ·rw [if_pos (by simpa using R)];cbv;refine ⟨x,U,S,O,rfl,ht.same b,hc,fun r1 tl zs rs r m _ _ _ _=>?_,fun i e X h2 h3 dx r m h4 q=>?_⟩
  ·exact key .non nl ol [] [] r (b.trans m) (m _ _ (S2 _ _ e1)) (m _ _ e2) (.inl ⟨rfl,k r1⟩)
  ·refine ⟨_,rfl,T.xc,fun y c=>?_⟩;cbv;refine ⟨y,_,dx,_, .str e.1.nm,rfl,Jaj,T.xl,by rw [Jag (Jah q c)];exact q,rfl,?_⟩;generalize D:upd r y _=H6;have S6:=newS c D;have a:=newE D
   mframe;refine isiXr a T.eT T.kT_SlackError ?_;cbv;refine isiXt a T.eT T.kT_V ?_;cbv;refine ⟨len2,?_⟩;rename_i j n l H6 Z B W;cbv;replace a:=B _ _ a
   mframe;refine isiXr a T.eT T.kT_Apart ?_;cbv;refine isiXr a T.eT T.kT_Impossible ?_;cbv;refine isiXr a T.eT T.kT_InRing ?_;cbv;refine isiXr a T.eT T.kT_NoFace ?_;cbv;refine isiXr a T.eT T.kT_NoGap ?_;cbv;refine isiXr a T.eT T.kT_NoName ?_;cbv;refine isiXr a T.eT T.kT_NoNumber ?_;cbv;refine isiXr a T.eT T.kT_NoPart ?_;cbv;refine isiXr a T.eT T.kT_NoRow ?_;cbv;refine isiXr a T.eT T.kT_NoTie ?_;cbv;refine isiXr a T.eT T.kT_Off ?_;cbv;refine isiXr a T.eT T.kT_Twice ?_;cbv;refine ⟨by show 12<=sizeLine;ac_nf,?_⟩;rename_i g C u Z L t Y;exact key (.str e.1.nm) j g [true,true] (List.replicate 12 false) L (b.trans (m.trans (S6.trans (B.trans t)))) (t _ _ W) Y (.inr ⟨rfl,by decide,kT _ ⟨i,e,X,h2,h3,rfl⟩⟩)
 ·rw [if_neg (by simpa using R)];cbv;refine ⟨x,U,S,O,rfl,ht.same b,hc,hw R,fun i e X h2 h3 dx r m h4 q=>?_⟩;refine ⟨_,rfl,T.xc,fun y c=>?_⟩;cbv;refine ⟨y,_,dx,_, .str e.1.nm,rfl,Jaj,T.xl,by rw [Jag (Jah q c)];exact q,rfl,?_⟩;generalize D:upd r y _=H6;have S6:=newS c D;have a:=newE D
  mframe;refine isiXr a T.eT T.kT_SlackError ?_;cbv;refine isiXt a T.eT T.kT_V ?_;cbv;refine ⟨len2,?_⟩;rename_i j n l H6 Z B W;cbv;replace a:=B _ _ a
  mframe;refine isiXr a T.eT T.kT_Apart ?_;cbv;refine isiXr a T.eT T.kT_Impossible ?_;cbv;refine isiXr a T.eT T.kT_InRing ?_;cbv;refine isiXr a T.eT T.kT_NoFace ?_;cbv;refine isiXr a T.eT T.kT_NoGap ?_;cbv;refine isiXr a T.eT T.kT_NoName ?_;cbv;refine isiXr a T.eT T.kT_NoNumber ?_;cbv;refine isiXr a T.eT T.kT_NoPart ?_;cbv;refine isiXr a T.eT T.kT_NoRow ?_;cbv;refine isiXr a T.eT T.kT_NoTie ?_;cbv;refine isiXr a T.eT T.kT_Off ?_;cbv;refine isiXr a T.eT T.kT_Twice ?_;cbv;refine ⟨by show 12<=sizeLine;ac_nf,?_⟩;rename_i g C u Z L t Y;exact key (.str e.1.nm) j g [true,true] (List.replicate 12 false) L (b.trans (m.trans (S6.trans (B.trans t)))) (t _ _ W) Y (.inr ⟨rfl,by decide,kT _ ⟨i,e,X,h2,h3,rfl⟩⟩)
abbrev BcM:Stmt:=top 65
theorem Jdj:Jan ["_law_script","_law_parts_here","_law_places","_law_gaps_here","_law_tight","_law_thing","_law_bad","_law_left","_law_told"] ["_law_script"] (Jae BcM):=by bv_decide
def Bdb (K:W.Frag):Sp:=fun vs H Q E=>∃ (a:Addr) (ns:List Int),vs=[.ref a]/\SqL K H a (ns.map V.int)/\ns.length<=63/\∀ H',Q (.bl true) H'
theorem JlT (F:FunD K "law" "law" BcM dV f fd) (T:Txt K mg Ad) (BbQ:Cal P w K mg base 3 "_law_parts" ["_law_script"] [] (JcI K)) (Bb0:Cal P w K mg base 3 "_law_gaps" ["_law_script","_law_places"] [] (Jc0 K)) (BcN:KCal P w K mg base 9 "Thing" Ad.Thing ["self","parts","gaps"] (Jby K Ad)) (BaI:Cal P w K mg base 11 "_law_refused" ["_law_thing","_law_way"] [] (Jcc K Ad)) (Bbg:Cal P w K mg base 7 "is_sharing" ["thing","slacks"] [] (Jcv K Ad)) (Bbx:Cal P w K mg base 9 "share" ["thing"] [] (Jdl K Ad)):FnOk P w K mg base (CX1 P w) 12 f fd ["_law_script"] (Bdb K):=by
 refine F.okn Jdj (by subst_eqs) (fun i0 A f7 s H vs Q E M h=>?_)
 obtain ⟨a,ns,rfl,h⟩:=h;have hu:=M.units;refine ⟨_,(Jab (Jj5 (BbQ.ev M ⋯ rfl passF (Jaa (pv 0) Jac)) (JeJ rfl (Jbj (Jar 1 Jdj.nd) (Jbj (Jar 2 Jdj.nd) Jdw)))) (Jab (Jj5 (Bb0.ev M ⋯ rfl passF (Jaa (pv 0) (Jaa (pv 2) Jac))) (JeJ rfl (Jbj (Jar 3 Jdj.nd rfl (Or.inr rfl)) (Jbj (Jar 4 Jdj.nd rfl (Or.inr rfl)) Jdw)))) (Jab (Jak 5 Jdj.nd (BcN.ev M ⋯ rfl passF (Jaa (pv 1) (Jaa (pv 3) Jac)))) (Jab (Jcp (j:=6) (own:=["_law_k"]) (cs:=[(3,"_law_gaps_here"),(4,"_law_tight")]) Jdj.nd rfl (Or.inl rfl) rfl (Jde rfl T.Bb7 (Jaa (Jay JaY rfl T.BbP JbG (Jaa (pv 3) Jac)) Jac)) (fun _ _ _ _=>(Jar 0 (show [("_law_k" : Str),("_law_gaps_here" : Str),("_law_tight" : Str)].Nodup by decide))) (fun _ _ _ _=>(Ja7 (pe_ix (ix_UK (K:=K) rfl) (pv 2) (pv 0)))) (fun _ _ _ _=>(pe_ix (ix_UK (K:=K) rfl) (pe_ix (ix_UK (K:=K) rfl) (pv 1) (pv 0)) Jad)) (JdT rfl) ⋯ rfl ⋯ (hcs2 rfl rfl rfl rfl rfl rfl)) (Jab (ps_if (Jaz JfR (Jay JaY rfl T.BbP JbG (Jaa (pv 6) Jac)) Jad (JaA _)) (Jab (ps_if (PW.pt (pw_or (Jaz (Jdb hu) (BaI.ev M ⋯ rfl passF (Jaa (pv 5) (Jaa Jad Jac))) (pe_ix ix_U (pv 6) Jad) (JaA _)) (Jb3 (Jaz (Jdb hu) (BaI.ev M ⋯ rfl passF (Jaa (pv 5) (Jaa Jad Jac))) (pe_ix ix_U (pv 6) Jad) (JaA _))))) (Jai (Jaq pe_bl))
   Jaw) (Jai (ps_if (Jaz JkX (Bbg.ev M ⋯ rfl passF (Jaa (pv 5) (Jaa (Jcn (own:=["_law_part"]) (cs:=[]) (cl:=[]) rfl (pi_U (pv 1)) (fun _ _ _ _=>(Jar 0 (show [("_law_part" : Str)].Nodup by decide))) (fun _ _ _ _=>(JaD (Jaa Jad (Jaa Jad Jac)))) rfl ⋯ rfl ⋯ hcl0 (hhas0 ⋯) hcs0) Jac))) pe_bl (JaA _)) (Jai (Jaq pe_bl))
   Jaw))) (Jai (ps_if (PW.pt (pw_or (Jaz JdN (BaI.ev M ⋯ rfl passF (Jaa (pv 5) (Jaa Jad Jac))) JcS (JaA _)) (Jb3 (Jbt (Ja7 (Bbg.ev M ⋯ rfl passF (Jaa (pv 5) (Jaa (Jcn (own:=["_law_part"]) (cs:=[]) (cl:=[]) rfl (pi_U (pv 1)) (fun _ _ _ _=>(Jar 0 (show [("_law_part" : Str)].Nodup by decide))) (fun _ _ _ _=>(JaD (Jaa Jad (Jaa Jad Jac)))) rfl ⋯ rfl ⋯ hcl0 (hhas0 ⋯) hcs0) Jac)))))))) (Jai (Jaq pe_bl))
   Jaw))) (Jab (Jcp (j:=7) (own:=["_law_k"]) (cs:=[(3,"_law_gaps_here"),(4,"_law_tight")]) Jdj.nd rfl (Or.inl rfl) rfl (Jde rfl T.Bb7 (Jaa (Jay JaY rfl T.BbP JbG (Jaa (pv 3) Jac)) Jac)) (fun _ _ _ _=>(Jar 0 (show [("_law_k" : Str),("_law_gaps_here" : Str),("_law_tight" : Str)].Nodup by decide))) (fun _ _ _ _=>(Jbt (Ja7 (pe_ix (ix_UK (K:=K) rfl) (pv 2) (pv 0))))) (fun _ _ _ _=>(pe_ix (ix_UK (K:=K) rfl) (pv 1) (pv 0))) (JdT rfl) ⋯ rfl ⋯ (hcs2 rfl rfl rfl rfl rfl rfl)) (Jab (Jak 8 Jdj.nd (Bbx.ev M ⋯ rfl passF (Jaa (BcN.ev M ⋯ rfl passF (Jaa (pv 1) (Jaa (pv 7) Jac))) Jac))) (Jab (ps_if (Jaz (Jdb hu) (Jcn (own:=["_law_row"]) (cs:=[]) (cl:=[]) rfl (pi_U (pv 8)) (fun _ _ _ _=>(Jar 0 (show [("_law_row" : Str)].Nodup by decide))) (fun _ _ _ _=>(pe_ix (ix_UK (K:=K) rfl) (pv 0) Jad)) rfl ⋯ rfl ⋯ hcl0 (hhas0 ⋯) hcs0) (Jcn (own:=["_law_part"]) (cs:=[]) (cl:=[]) rfl (pi_U (pv 1)) (fun _ _ _ _=>(Jar 0 (show [("_law_part" : Str)].Nodup by decide))) (fun _ _ _ _=>(pe_ix (ix_UK (K:=K) rfl) (pv 0) Jad)) rfl ⋯ rfl ⋯ hcl0 (hhas0 ⋯) hcs0) (JaA _)) (Jai (Jaq pe_bl))
   Jaw) (Jai (Jaq (pe_or (Jbn (JbT hu) (Jay JaY rfl T.BbP JbG (Jaa (pv 6) Jac)) Jad (JaA _)) (Jdd (Jbn (JbT hu) (BaI.ev M ⋯ rfl passF (Jaa (pv 5) (Jaa Jad Jac))) (pe_ix ix_U (pv 6) Jad) (JaA _)))))))))))))),?_⟩
 clear hu;obtain ⟨hS,hl,k⟩:=h;have sl:(1000:Nat)<=sizeLine:=by decide
 show tSeq _ _ _ [some (.ref a),none,none,none,none,none,none,none,none] H;cbv;refine ⟨a,ns,rfl,hS,hl,fun q pl ml px mx st m Z H1 S1 eq ep hP em hM hC l1 l7=>?_⟩;cbv;refine ⟨q,_,rfl,SqT.of eq,rfl,?_⟩;cbv
 mframe;refine ⟨a,ml,ns,mx,Z,m,st,rfl,hS.same S1,hl,em,hM,hC,l1,l7,fun q2 gl tl gx gs fs s2 H3 S3 e5 c2 a7 et hG=>?_⟩;cbv;refine ⟨q2,_,rfl,SqT.of e5,rfl,?_⟩;cbv
 mframe;have a8:All2 (PDV K H3) m px:=hP.mono fun _ _ z=>z.sameT S3.t;have a1:=S3 _ _ ep;have lP:=a8.length;have lX:=a7.length;have d8:=hG.l7;have f6:=hG.lf;have e1:(m.map (·.nm)).Nodup:=Jia hC.G.nm;have f2:∀ p∈m, ∃ q∈m,q.nm=p.nm/\q.st=p.st/\q.en=p.en/\q.sz=p.sz:=fun p hp=>⟨p,hp,rfl,rfl,rfl,rfl⟩;have f5:Sk m m:=fun p hp=>⟨p,hp,rfl,rfl,rfl⟩;have a6:∀ b5:List GD,b5.Sublist gs->ThO m b5 (spOf (spR st Z)):=fun b5 h=>Jmd hC l7 l7 e1 (fun p hp=>hC.G.ok p hp) hC.zb hC.wt f2 f5 (Nat.le_trans h.length_le d8) ((h.map (·.nm)).nodup hG.nd) (fun g hg=>hG.gok g (h.subset hg));have d:=a6 gs (List.Sublist.refl _);have m0:∀ p∈m,0<=vl p.mo:=fun p hp=>(vl_nn (hC.zb p hp).2.b1).mpr (hC.G.ok p hp).m0;have O:∀ {ks:List PD} {gs:List GD} {B:Hp} {x:Addr},TK K Ad B x ks gs->TK K Ad B x ks ((esN ks gs).map (·.1)):=fun h=>by rw [JhV];exact h
 have rm:∀ (i:Nat) g f,gs[i]?=some g->fs[i]?=some f->(f=true->vl (roomF (spOf (spR st Z)) g)<0)/\(f=false->0<=vl (roomF (spOf (spR st Z)) g)):=fun i g f D I=>by
  obtain ⟨u,v,hq,h3,h4⟩:=hG.ok i g f D I;exact ⟨fun e=>(hq.room hC l7).2.2 (h3 e),fun e=>(hq.room hC l7).2.1 (h4 e).1 (h4 e).2⟩
 intro x1 a9 c5 c7 g4;have f1:Same H3 (upd (upd H3 a9 (.own x1)) x1 (.ins Ad.Thing a9 [])):=fun b u q=>by rw [Jag (Jah q c5),Jag (Jah q c7)];exact q
 refine ⟨x1,a9,pl,gl,px,gx,m,_,H3,rfl,Jaj,c5,f1,SqL.of (a1),a8,SqL.of (c2),a7,Nat.le_trans d.l8 ⋯,Nat.le_trans d.g6 ⋯,d.pok,d.tok,d.nd,d.gnd,JiQ d.tr d.nd,d.con,fun H4 S4 f0=>⟨rfl,?_⟩⟩
 mframe;have b2:=S4 _ _ c2;have c0:=S4 _ _ et;refine ⟨_, .inl (SqL.of b2),?_⟩;cbv;refine ⟨_,rfl,by ac_nf,by ac_nf,?_⟩;rw [Int.toNat_natCast];have a0:∀ i,i<gx.length->∃ g f vg,gs[i]?=some g/\fs[i]?=some f/\gx[i]?=some vg/\TV K H4 g.td vg/\(fs.map V.bl)[i]?=some (.bl f):=fun i W=>by
  obtain ⟨vg,X⟩:∃ vg,gx[i]?=some vg:=⟨_,List.getElem?_eq_getElem W⟩;obtain ⟨g,hg,tv⟩:=a7.at_ X;have hf:fs[i]?=some fs[i]:=List.getElem?_eq_getElem ∅;exact ⟨g,_,vg,hg,hf,X,TV.sameT S4.t tv,by rw [List.getElem?_map,hf];rfl⟩
 refine JbF.range (n:=gx.length) (fun i ws B=>B=H4/\ws=(badN (gs.take i) (fs.take i)).map V.str) ⟨rfl,rfl⟩ (fun i ws B W z=>by
  rw [z.2,length_map];unfold badN;rw [length_map];have:=length_filter_le (fun x:GD × Bool=>x.2) ((gs.take i).zip (fs.take i));rw [List.length_zip,length_take] at this;ac_nf) ?_ ?_
 ·rintro i ws H5 W ⟨rfl,rfl⟩;obtain ⟨g,f,vg,hg,hf,X,⟨b_,i1,h9,rfl,hb,_,_⟩,b4⟩:=a0 i W;simpa only [length_singleton,length_cons,length_nil,List.replicate,Jax,map_cons,map_nil,Option.join_some];try simpa only [Int.zero_add]
  refine ixL (i:=i) (SqL.of c0) b4 ?_;cbv;rw [JhC hg hf];cases f with
  | true=>
   cbv;refine ixL (i:=i) (SqL.of b2) X ?_;cbv;refine ixT (i:=0) hb rfl ?_;cbv;simp [GD.td]
  | false=>
   simp [y88y,y52y,y53y,y54y,y76y,y2by,y71y,y85y,y86y,y49y,y2fy,y7dy,y99y,y31y,y3ey,y77y,y30y,y8fy,y23y,y29y,y7ey,y79y,y2ay,y7fy,y7by,y5ey,y9by,y26y,y8dy,y75y,y6ey,y4ey,y6dy,y82y,y34y,y4cy,y73y,y4dy,y74y,y4by,y72y,y94y,y68y,y64y,y96y,y98y,y95y,y97y,y25y,y6cy,y24y,true_and,if_true,if_false,Bool.not_true,Bool.not_false,Bool.false_eq_true,yby,ydy,yay,ycy,yey,y15y,y17y,y14y,y16y,y18y,y6y,y8y,y5y,y7y,y9y,y1y,y3y,y0y,y2y,y4y,y10y,y12y,yfy,y11y,y13y,y1ay,y1cy,y19y,y1by,y1dy,y1fy,y21y,y1ey,y20y,y22y,y92y,y9cy,y83y,y27y,V.int.injEq,V.str.injEq,List.set_cons_zero,List.set_cons_succ,List.getElem?_cons_zero,List.getElem?_cons_succ,Option.some.injEq,exists_eq_left,exists_eq_left',V.bl.injEq,Int.reduceToNat,Int.reducePow,append_nil,nil_append,cons_append,y5ay,y5cy,y2dy,y2ey,y6fy,y63y,y7ay,y69y,y6by,y3fy,y40y,y41y,y48y,y4ay,y43y,y80y,y44y,y35y,y37y,y3cy,y42y,y46y,y55y,y57y,y5fy,y3ay,y91y,y8ey,y38y,y39y,y92y,ya0y,ya1y,y9dy,y84y,y6ay,y2cy,y8ay,y50y,y9fy,reduceCtorEq,decide_false,decide_true]
 rintro ws H5 ⟨rfl,rfl⟩;rw [take_of_length_le ∅,take_of_length_le ∅];rename_i bl g1 g3 H5 H6 S6 e6;cbv;have C:=f0.same S6;obtain ⟨bd,a2⟩:∃ bd,bd=badN gs fs:=⟨_,rfl⟩;rw [<- a2] at e6
 mframe;refine ⟨_, .inl (SqL.of e6),?_⟩;cbv;rename_i N hN;have h6:bd.length<=7:=by
  rw [a2];unfold badN;rw [length_map];have:=length_filter_le (fun x:GD × Bool=>x.2) (gs.zip fs);rw [List.length_zip] at this;ac_nf
 have ft:∀ z r,bd=z::r->∃ (i:Nat) (e:GD × List Str),(esN m gs)[i]?=some e/\vl (roomF (spOf (spR st Z)) e.1)<0/\(∀ e'∈(esN m gs).take i,0<=vl (roomF (spOf (spR st Z)) e'.1))/\e.1.nm=z:=fun z r L=>by
  rw [a2] at L;obtain ⟨i,g,D,I,h3,h4⟩:=Jez L;refine ⟨i,(g,wayN m g),by unfold esN;rw [List.getElem?_map,D];rfl,(rm i g true D I).1 rfl,fun e' b0=>?_,h3⟩;unfold esN at b0;rw [<- List.map_take] at b0;obtain ⟨g',d3,rfl⟩:=mem_map.mp b0;obtain ⟨j,hj⟩:=List.getElem?_of_mem d3;have lj:=(List.getElem?_eq_some_iff.mp hj).1;rw [length_take] at lj;rw [List.getElem?_take_of_lt ∅] at hj;have d0:fs[j]?=some fs[j]:=List.getElem?_eq_getElem ∅;exact (rm j g' _ hj d0).2 (h4 j _ ∅ d0)
 have fu:∀ z r z',bd=z::r->(∃ (i:Nat) (e:GD × List Str),(esN m gs)[i]?=some e/\vl (roomF (spOf (spR st Z)) e.1)<0/\(∀ e'∈(esN m gs).take i,0<=vl (roomF (spOf (spR st Z)) e'.1))/\e.1.nm=z')->z'=z:=fun z r z' L ⟨i,e,D,I,h3,h4⟩=>by
  obtain ⟨i',e',k1,k2,k3,k4⟩:=ft z r L;have mt:∀ {l:List (GD × List Str)} {i j:Nat} {e:GD × List Str},l[i]?=some e->i<j->e∈l.take j:=fun {l i j e} h hl=>List.mem_of_getElem? (i:=i) (by rw [List.getElem?_take_of_lt hl];exact h);rcases Nat.lt_trichotomy i i' with c | c | c
  ·exact absurd I (Rat.not_lt.mpr (k3 e (mt D c)))
  ·subst c;rw [D] at k1;cases k1;rw [<- h4, <- k4]
  ·exact absurd k2 (Rat.not_lt.mpr (h3 e' (mt k1 c)))
 have rn:bd=[]->∀ e∈esN m gs,0<=vl (roomF (spOf (spR st Z)) e.1):=fun L e he=>by
  rw [a2] at L;obtain ⟨g,hg,rfl⟩:=mem_map.mp he;obtain ⟨i,W⟩:=List.getElem?_of_mem hg;have li:=(List.getElem?_eq_some_iff.mp W).1;have b9:fs[i]?=some fs[i]:=List.getElem?_eq_getElem ∅;exact (rm i g _ W b9).2 (JgH f6 L _ (List.mem_of_getElem? b9))
 have key:∀ U:Hp,Same H6 U->N [some (.ref a),some (.ref pl),some (.ref ml),some (.ref gl),some (.ref tl),some (.ref x1),some (.ref bl),none,none] U:=by
  intro U J;have a5:=S6.trans J;have c3:=S4.trans a5;have b7:=a5 _ _ b2;have d6:=a5 _ _ c0;have a4:=c3 _ _ a1;have e7:=J _ _ e6;have c1:All2 (PDV K U) m px:=a8.mono fun _ _ z=>z.sameT c3.t
  mframe;refine ⟨_, .inl (SqL.of b7),?_⟩;cbv;refine ⟨_,rfl,by ac_nf,by ac_nf,?_⟩;rw [Int.toNat_natCast];refine JbF.range (n:=gx.length) (fun i ws B=>B=U/\All2 (fun (g:GD) v=>TV K U g.td v) (lefN (gs.take i) (fs.take i)) ws) ⟨rfl,rfl⟩ (fun i ws B W z=>by
   have:=z.2.length;have I:=(JdM (gs:=gs.take i) (fs:=fs.take i)).length_le;rw [length_take] at I;ac_nf) ?_ ?_
  ·rintro i ws Y W ⟨rfl,hw⟩;obtain ⟨g,f,vg,hg,hf,X,tv,b4⟩:=a0 i W;simpa only [length_singleton,length_cons,length_nil,List.replicate,Jax,map_cons,map_nil,Option.join_some];try simpa only [Int.zero_add]
   refine ixL (i:=i) (SqL.of d6) b4 ?_;cbv;rw [Jh7 hg hf];cases f with
   | true=>
    cbv;simpa using hw
   | false=>
    cbv;refine ixL (i:=i) (SqL.of b7) X ?_;cbv;exact hw.append (All2.one (TV.sameT a5.t tv))
  rintro lx Y ⟨rfl,hL⟩;rw [take_of_length_le ∅,take_of_length_le ∅] at hL;rename_i lf g5 g0 Y H9 S9 e9;cbv
  mframe;have o:=a6 (lefN gs fs) JdM;have f3:All2 (PDV K H9) m px:=c1.mono fun _ _ z=>z.sameT S9.t;have d5:All2 (fun (g:GD) v=>TV K H9 g.td v) (lefN gs fs) lx:=hL.mono fun _ _ z=>TV.sameT S9.t z;intro x2 b3 c8 c4 g9;have d4:Same H9 (upd (upd H9 b3 (.own x2)) x2 (.ins Ad.Thing b3 [])):=fun b u q=>by rw [Jag (Jah q c8),Jag (Jah q c4)];exact q
  refine ⟨x2,b3,pl,lf,px,lx,m,_,H9,rfl,Jaj,c8,d4,SqL.of (S9 _ _ a4),f3,SqL.of (e9),d5,Nat.le_trans o.l8 ⋯,Nat.le_trans o.g6 ⋯,o.pok,o.tok,o.nd,o.gnd,JiQ o.tr o.nd,o.con,fun HA SA e3=>⟨rfl,?_⟩⟩;have d1:=S9.trans SA;cbv;have rL:∀ e∈esN m (lefN gs fs),0<=vl (roomF (spOf (spR st Z)) e.1):=fun e he=>by
   obtain ⟨g,hg,rfl⟩:=mem_map.mp he;obtain ⟨i,D,I⟩:=Jjg hg;exact (rm i g _ D I).2 rfl
  refine ⟨x2,m,esN m (lefN gs fs),_,rfl,O e3,o.shc,fun _ d7 zs rk HB SB h0 eB hZ hR=>?_,fun i e D I=>absurd I (Rat.not_lt.mpr (rL e (List.mem_of_getElem? D)))⟩;have e4:=hR.nms;have h7:=hR.len;have lZ:=hZ.length;have a3:=d1.trans SB;have e2:=a3 _ _ a4;have e0:=a3 _ _ e7
  mframe;refine ⟨d7,rfl, .inl ⟨⟨_,SqL.of eB⟩,CompJ.list (xs:=zs) (fun i R B=>B=HB/\R=((rk.take i).map (·.nm)).map V.str) ⟨rfl,rfl⟩ (fun i R B W z=>⟨by rw [z.1];exact SqL.of eB,by rw [z.2,length_map,length_map,length_take];ac_nf⟩) ?_ ?_⟩⟩
  ·rintro i y R B hy ⟨rfl,rfl⟩;simpa only [length_singleton,length_cons,length_nil,List.replicate,Jax,map_cons,map_nil,Option.join_some];obtain ⟨r,M,b_,h8,t_,rfl,hb,_,_⟩:=hZ.at_ hy;refine ixT (i:=0) hb rfl ?_;rw [take_succ,M];simp
  rintro R B ⟨rfl,rfl⟩;rw [take_of_length_le ∅];rename_i n1 f9 g8 B HC SC eC;cbv;cbv;have f4:All2 (PDV K HC) m px:=c1.mono fun _ _ z=>z.sameT (a3.trans SC).t;have b8:=SC _ _ e2;refine ⟨pl,rfl, .inl ⟨⟨_,SqL.of b8⟩,CompJ.list (xs:=px) (fun i R B=>B=HC/\R=((m.take i).map (·.nm)).map V.str) ⟨rfl,rfl⟩ (fun i R B W z=>⟨by rw [z.1];exact SqL.of b8,by rw [z.2,length_map,length_map,length_take];ac_nf⟩) ?_ ?_⟩⟩
  ·rintro i y R B hy ⟨rfl,rfl⟩;simpa only [length_singleton,length_cons,length_nil,List.replicate,Jax,map_cons,map_nil,Option.join_some];obtain ⟨r,M,b_,h5,i2,rfl,hb,_,_⟩:=f4.at_ hy;refine ixT (i:=0) hb rfl ?_;rw [take_succ,M];simp
  rintro R B ⟨rfl,rfl⟩;rw [take_of_length_le ∅];rename_i n2 g2 g7 B HD SD eD;cbv;refine JlS (SqL.of (SD _ _ eC)) (SqL.of eD) ?_;rw [e4];simp only [decide_true,Bool.not_true]
  mframe;have c9:=SD _ _ (SC _ _ e0);refine ⟨_, .inl (SqL.of c9),?_⟩;cbv;by_cases cz:bd=[]
  ·rw [if_pos (by rw [cz];rfl)];cbv;exact k _
  ·rw [if_neg (by rw [length_map];have:=List.length_pos_iff.mpr cz;simp;ac_nf)];cbv;obtain ⟨z,r,L⟩:=List.exists_cons_of_ne_nil cz;refine ⟨x1,m,esN m gs,_,0,rfl,O (C.same (J.trans (a3.trans (SC.trans SD)))),d.shc,fun h=>absurd rfl h,fun h=>?_,fun z' h HE SE=>?_⟩
   ·obtain ⟨i,e,D,I,_⟩:=ft z r L;exact absurd I (Rat.not_lt.mpr (h e (List.mem_of_getElem? D)))
   ·rw [fu z r z' L h];refine ixL (i:=0) (SqL.of (SE _ _ c9)) (by rw [L];rfl) ?_;try simpa only [decide_true]
    exact k _
 have zc:∀ (U:Hp) (Qk:VK),Same H6 U->(∀ sl sx Y,Same U Y->Y sl=some (.lst sx)->All2 (FLV K Y) (List.replicate m.length (0,1)) sx->Qk (.ref sl) Y)->CompJ (Itl K pl) [Str.ofString "_law_part"].length [] (gName 0) (tTup (tCons (tC (V.int 0)) (tCons (tC (V.int 1)) tNil))) [some (.ref a),some (.ref pl),some (.ref ml),some (.ref gl),some (.ref tl),some (.ref x1),some (.ref bl),none,none] Qk U:=by
  intro U Qk J kk;have a4:=J _ _ (S6 _ _ (S4 _ _ a1));refine CompJ.list (xs:=px) (fun i R B=>Same U B/\All2 (FLV K B) (List.replicate i (0,1)) R) ⟨.refl _,rfl⟩ (fun i R B W z=>⟨SqL.of (z.1 _ _ a4),by have:=z.2.length;rw [length_replicate] at this;ac_nf⟩) ?_ ?_
  ·rintro i y R B hy ⟨S',hA⟩;simpa only [length_singleton,length_cons,length_nil,List.replicate,Jax,map_cons,map_nil,Option.join_some];refine ⟨by decide,?_⟩;rename_i q_ b6 c6 B Y S f8;cbv;refine ⟨S'.trans S,?_⟩;rw [show ((0,1):Int × Int)::List.replicate i (0,1)=List.replicate i (0,1)++[(0,1)] from List.replicate_succ'.symm ▸ rfl];exact (hA.mono fun _ _ z=>FLV.sameT S.t z).append (All2.one ⟨q_,rfl,SqT.of f8⟩)
  ·rintro R B ⟨S',hA⟩;rename_i q_ b6 c6 B Y S f8;cbv;rw [lP] at hA;exact kk q_ R Y (S'.trans S) f8 (hA.mono fun _ _ z=>FLV.sameT S.t z)
 have fz:∀ s∈List.replicate m.length ((0,1):Int × Int),FB 200 56 s:=fun s hs=>by rw [List.eq_of_mem_replicate hs];exact Jc2.mono ⋯ ⋯
 by_cases cb:bd=[]
 ·rw [if_neg (by rw [cb];simp)];cbv
  mframe;refine ⟨x1,m,esN m gs,_,0,rfl,O C,d.shc,fun h=>absurd rfl h,fun _ U J=>?_,fun z ζ=>by obtain ⟨i,e,D,I,_⟩:=ζ;exact absurd I (Rat.not_lt.mpr (rn cb e (List.mem_of_getElem? D)))⟩;try simpa only [decide_true]
  refine ⟨pl,rfl, .inl ⟨⟨_,SqL.of (J _ _ (S6 _ _ (S4 _ _ a1)))⟩,zc _ _ J fun sl sx Y S e8 hA=>?_⟩⟩;refine ⟨x1,sl,m,esN m gs,sx,_,_,rfl,O (C.same (J.trans S)),SqL.of e8,hA,length_replicate,fz,d.isc l7,fun b H9 S9 hb=>?_⟩;have d9:b=true:=hb.mpr ((Jg2 m0).mpr (rn cb));subst d9;refine ⟨true,rfl,?_⟩
  (rw [if_neg ⋯])
  exact key H9 (J.trans (S.trans S9))
 ·rw [if_pos (by rw [length_map];have:=List.length_pos_iff.mpr cb;simp;ac_nf)];cbv;obtain ⟨z,r,L⟩:=List.exists_cons_of_ne_nil cb;have nn:¬ ∀ e∈esN m gs,0<=vl (roomF (spOf (spR st Z)) e.1):=fun h=>by
   obtain ⟨i,e,D,I,_⟩:=ft z r L;exact absurd I (Rat.not_lt.mpr (h e (List.mem_of_getElem? D)))
  refine ⟨x1,m,esN m gs,_,0,rfl,O C,d.shc,fun h=>absurd rfl h,fun h=>absurd h nn,fun z' h U J=>?_⟩;rw [fu z r z' L h];refine ixL (i:=0) (SqL.of (J _ _ e6)) (by rw [L];rfl) ?_;try simpa only [decide_true,Bool.not_true]
  refine ⟨x1,m,esN m gs,_,1,rfl,O (C.same J),d.shc,fun _=>by obtain ⟨i,e,D,I,_⟩:=ft z r L;exact ⟨e,List.mem_of_getElem? D,I⟩,fun h=>absurd h nn,fun z' h Y S=>?_⟩;rw [fu z r z' L h];refine ixL (i:=0) (SqL.of (S _ _ (J _ _ e6))) (by rw [L];rfl) ?_;try simpa only [decide_true,Bool.not_true]
  mframe;refine ⟨pl,rfl, .inl ⟨⟨_,SqL.of (S _ _ (J _ _ (S6 _ _ (S4 _ _ a1))))⟩,zc _ _ (J.trans S) fun sl sx H9 S9 e9 hA=>?_⟩⟩;refine ⟨x1,sl,m,esN m gs,sx,_,_,rfl,O (C.same (J.trans (S.trans S9))),SqL.of e9,hA,length_replicate,fz,d.isc l7,fun b HA SA hb=>?_⟩;have d2:b=false:=by
   cases b with
   | false=>rfl
   | true=>exact absurd ((Jg2 m0).mp (hb.mp rfl)) nn
  subst d2;refine ⟨false,false,rfl,rfl,?_⟩;try simpa only [decide_true,Bool.not_true]
  exact key HA (J.trans (S.trans (S9.trans SA)))
end
theorem lenE1 {α} {P:List α->Prop} (h:∀ a,P [a]):∀ us:List α,us.length=1->P us|[a],_=>h a
theorem lenE2 {α} {P:List α->Prop} (h:∀ a b,P [a,b]):∀ us:List α,us.length=2->P us|[a,b],_=>h a b
theorem lenE3 {α} {P:List α->Prop} (h:∀ a b c,P [a,b,c]):∀ us:List α,us.length=3->P us|[a,b,c],_=>h a b c
theorem lenE4 {α} {P:List α->Prop} (h:∀ a b c d,P [a,b,c,d]):∀ us:List α,us.length=4->P us|[a,b,c,d],_=>h a b c d
theorem lenD3 {α} {P:List α->Prop} {ds:List α} (h:∀ a b c,P [a,b,c]) (e:ds.length+3=n) (us:List α) (k:(us++ds).length=n):P us:=lenE3 h us (by rw [length_append] at k;ac_nf)
def FnG (K:W.Frag) (f:Addr) (n q:Str) (s:Stmt) (d:Value):Prop:=∃ fd,FunD K n q s d f fd/\W.keepIn K (.ref f)=true
def FnA (K:W.Frag) (f:Addr) (n:Str) (s:Stmt):Prop:=∃ fd,FunD K n n s .none f fd/\W.keepIn K (.ref f)=true/\W.nsIn K mainGlobals n=some (some (.ref f))
variable {x:Str} {st:Stmt} {oc dc pm cd ct:Value} {od an:Option Addr} {sl:Array (Option Value)}
theorem fnG {K:W.Frag} {f:Addr} {q:Str} {d:Value} {kV:Value} (l:K.lookup f=some ⟨oc,od, .func (W.fnOf x q (Jam st) (Jal st) (Jae st) d kV dc pm an cd ct),sl⟩) (c:W.codeIn K cd q=true) (k:W.keepIn K (.ref f)=true):FnG K f x q st d:=⟨_,Jao l c k,k⟩
theorem fnA {K:W.Frag} {f:Addr} {kV:Value} (a:W.nsIn K mainGlobals x=some (some (.ref f))) (l:K.lookup f=some ⟨oc,od, .func (W.fnOf x x (Jam st) (Jal st) (Jae st) .none kV dc pm an cd ct),sl⟩) (c:W.codeIn K cd x=true) (k:W.keepIn K (.ref f)=true):FnA K f x st:=⟨_,Jao l c k,k,a⟩
local macro_rules|`(∅)=>`(⟨$(Lean.mkIdent `SlackError),$(Lean.mkIdent `NoNumber),$(Lean.mkIdent `NoName),$(Lean.mkIdent `Apart),$(Lean.mkIdent `Impossible),$(Lean.mkIdent `InRing),$(Lean.mkIdent `NoFace),$(Lean.mkIdent `NoGap),$(Lean.mkIdent `NoPart),$(Lean.mkIdent `NoRow),$(Lean.mkIdent `NoTie),$(Lean.mkIdent `Off),$(Lean.mkIdent `Twice),$(Lean.mkIdent `Tight),$(Lean.mkIdent `Part),$(Lean.mkIdent `Gap),$(Lean.mkIdent `Joints),$(Lean.mkIdent `Thing),$(Lean.mkIdent `Scale),$(Lean.mkIdent `Lid),(.str "abcdefghijklmnopqrstuvwxyz" $(Lean.mkIdent `Baa)),(.int 8 $(Lean.mkIdent `Bab)),$(Lean.mkIdent `ZERO)⟩)
local macro_rules|`($f:ident∘$n:str)=>`(W.nsIn $(Lean.mkIdent `K) mainGlobals $n=some (some (.ref $f)))|`($i:num∘$n:str∘$t:ident)=>`(FnA $(Lean.mkIdent `K) $(Lean.mkIdent (.mkSimple s!"f{i.getNat}")) $n $t)|`($i:num∘$n:str∘$q:str∘$t:ident)=>`(FnG $(Lean.mkIdent `K) $(Lean.mkIdent (.mkSimple s!"f{i.getNat}")) $n $q $t .none)
local macro_rules|`($c:ident∣$n:str)=>`(W.codeIn $(Lean.mkIdent `K) $c $n=true)
local macro_rules|`(-$f)=>`(W.keepIn $(Lean.mkIdent `K) (.ref $f)=true)
local macro_rules|`($f:ident/$n:str)=>`(W.findIn $(Lean.mkIdent `K) (.ref $f) $n=some none)|`($f:ident/$n:str/$g:ident)=>`(W.findIn $(Lean.mkIdent `K) (.ref $f) $n=some (some (.ref $g)))
local macro_rules|`(!$f:ident)=>`(FunD.binds $f (by bv_omega))
local macro_rules|`(tactic|bv_omega)=>`(tactic|first|exact fun _ _ _ _ _ _=>lenE1 fun _=>rfl|exact fun _ _ _ _ _ _=>lenE2 fun _ _=>rfl|exact fun _ _ _ _ _ _=>lenE3 fun _ _ _=>rfl|exact fun _ _ _ _ _ _=>lenE4 fun _ _ _ _=>rfl)
theorem all_mk {l:W.OpenLaw} {w:World} {K:W.Frag} {h:Heap} {mg:Str->Option Value} {fa:Addr} {SlackError NoNumber NoName Apart Impossible InRing NoFace NoGap NoPart NoRow NoTie Off Twice Tight Part Gap Joints Thing Scale Lid f1 f2 f3 f4 f5 f6 f7 f8 f9 f10 f11 f12 f13 f14 f15 f16 f17 f18 f19 f20 f21 f22 f23 f24 f25 f26 f27 f28 f29 f30 f31 f32 f33 f34 f35 f36 f37 f38 f39 f40 T40 f41 f42 f43 f44 f45 f46 f47 f48 f49 f50 f51 f52 f53 f54 f55 f56 f57 f58 ZERO xN_Tight:Addr} {tc40:Value} {td40:Option Addr} {tn40:Nat} {ts40:Array (Option Value)} {tk40a tk40b:Tok} {od58 an58:Option Addr} {sl58:Array (Option Value)} {oc58 kV58 dc58 pm58 cd58 ct58:Value} {Baa:Tok} {Bab:Tok} {BdS:Option Addr} {BdT:Nat} {BdU:Array (Option Value)} {BdK BdL:Tok} {xd_Tight:Option Addr} {xnm_Tight xq_Tight:Str} {xbs_Tight xsub_Tight:List Value} {xsn_Tight:List Str} {xab_Tight:Bool} {xcol_Tight:Option Bool} {xk0_Tight xk1_Tight xk2_Tight xk3_Tight xk5_Tight:Option Value} (X:K.In h) (G:h.Ns mainGlobals mg) (hfa:mg "law"=some (.ref fa))
 (aa:SlackError∘"SlackError") (ab:NoNumber∘"NoNumber") (ac:NoName∘"NoName") (ad:Apart∘"Apart") (ae:Impossible∘"Impossible") (af:InRing∘"InRing") (ag:NoFace∘"NoFace") (ah:NoGap∘"NoGap") (ai:NoPart∘"NoPart") (aj:NoRow∘"NoRow") (ak:NoTie∘"NoTie") (al:Off∘"Off") (am:Twice∘"Twice") (an:Tight∘"Tight") (ao:Part∘"Part") (ap:Gap∘"Gap") (aq:Joints∘"Joints") (ar:Thing∘"Thing") (au:Scale∘"Scale") (av:Lid∘"Lid") (l1:1∘"common_divisor"∘Bai) (l2:2∘"plus"∘BcC) (l3:3∘"minus"∘BbV) (l4:4∘"times"∘BbW) (l5:5∘"over"∘BcD) (l6:6∘"under"∘BbX) (l7:7∘"is_name"∘Bbq) (l8:8∘"is_whole"∘Ba2) (l9:9∘"is_fraction"∘BaC) (l10:10∘"is_bound"∘Ba3) (l11:11∘"are_faces"∘BaV) (l12:12∘"are_bounds"∘BaK) (l13:13∘"is_tie"∘BbM) (a14:Part/"__init__"/f14) (l14:14∘"__init__"∘"Part.__init__"∘Ban) (a15:Part/"plain"/f15) (l15:15∘"plain"∘"Part.plain"∘BaL) (a16:Gap/"__init__"/f16) (l16:16∘"__init__"∘"Gap.__init__"∘Bas) (a17:Gap/"plain"/f17) (l17:17∘"plain"∘"Gap.plain"∘BaX) (l18:18∘"is_part"∘Bbr) (l19:19∘"is_gap"∘BbN) (l20:20∘"part_of"∘Bbs) (l21:21∘"gap_of"∘BbO) (a22:Joints/"__init__"/f22) (l22:22∘"__init__"∘"Joints.__init__"∘Baf) (a23:Joints/"link"/f23) (l23:23∘"link"∘"Joints.link"∘BaD) (a24:Joints/"way_between"/f24) (l24:24∘"way_between"∘"Joints.way_between"∘Bae) (a25:Thing/"__init__"/f25) (l25:25∘"__init__"∘"Thing.__init__"∘Baj) (a26:Thing/"parts"/f26) (l26:26∘"parts"∘"Thing.parts"∘BaE) (a27:Thing/"gaps"/f27) (l27:27∘"gaps"∘"Thing.gaps"∘BaM) (a28:Thing/"way"/f28) (l28:28∘"way"∘"Thing.way"∘BaY) (a29:Thing/"middle"/f29) (l29:29∘"middle"∘"Thing.middle"∘Bat) (a30:Thing/"room"/f30) (l30:30∘"room"∘"Thing.room"∘BaN) (a31:Scale/"__init__"/f31) (l31:31∘"__init__"∘"Scale.__init__"∘Bak) (a32:Scale/"lifted"/f32) (l32:32∘"lifted"∘"Scale.lifted"∘Bau) (a33:Scale/"lowered"/f33) (l33:33∘"lowered"∘"Scale.lowered"∘Bao) (l34:34∘"scale_of"∘Ba4) (l35:35∘"part_names"∘BaO) (a36:Lid/"__init__"/f36) (l36:36∘"__init__"∘"Lid.__init__"∘Bav) (a37:Lid/"full_level"/f37) (l37:37∘"full_level"∘"Lid.full_level"∘Bal) (a38:Lid/"settle"/f38) (l38:38∘"settle"∘"Lid.settle"∘BaP) (a39:Lid/"has_stopped"/f39) (l39:39∘"has_stopped"∘"Lid.has_stopped"∘Bag) (a40:Tight/"__init__"/f40) (l40:FnG K f40 "__init__" "Tight.__init__" Bam (.ref T40)) (t40:K.lookup T40=some ⟨tc40,td40, .seq #[.str "" tk40a, .str "" tk40b] tn40,ts40⟩) (l41:41∘"lids_of"∘Bbt) (l42:42∘"most_levels"∘BaF) (l43:43∘"coming_stops"∘Baw) (l44:44∘"first_level"∘BaG) (l45:45∘"stopped_at"∘BaR) (l46:46∘"risen_levels"∘Bax) (l47:47∘"gap_stop"∘Ba5) (l48:48∘"share"∘BbY) (l49:49∘"fits"∘BcG) (l50:50∘"is_sharing"∘BaS) (l51:51∘"share_ties"∘BaT) (l52:52∘"_law_cell"∘Ba7) (l53:53∘"_law_low"∘Bbu) (l54:54∘"_law_plus"∘Ba8) (l55:55∘"_law_parts"∘BaZ) (l56:56∘"_law_gaps"∘Ba9) (l57:57∘"_law_refused"∘BaH) (a58:f58∘"law") (l58:K.lookup f58=some ⟨oc58,od58, .func (W.fnOf "law" "law" (Jam BcM) (Jal BcM) (Jae BcM) .none kV58 dc58 pm58 an58 cd58 ct58),sl58⟩) (c58:cd58∣"law") (k58:-f58) (aw:W.nsIn K mainGlobals "abs"=some none) (ax:W.nsIn K mainGlobals "isinstance"=some none) (ay:W.nsIn K mainGlobals "len"=some none) (az:W.nsIn K mainGlobals "int"=some none) (aA:W.nsIn K mainGlobals "bool"=some none) (aB:W.nsIn K mainGlobals "tuple"=some none) (aC:W.nsIn K mainGlobals "str"=some none) (aD:W.nsIn K mainGlobals "range"=some none) (aE:W.nsIn K mainGlobals "list"=some none) (aF:W.nsIn K mainGlobals "min"=some none) (aG:W.nsIn K mainGlobals "sorted"=some none) (aH:W.nsIn K mainGlobals "all"=some none) (aI:W.nsIn K mainGlobals "sum"=some none) (aJ:W.nsIn K mainGlobals "dict"=some none) (aK:W.nsIn K mainGlobals "zip"=some none) (aL:W.nsIn K mainGlobals "ValueError"=some none) (aM:W.nsIn K mainGlobals "SMALL_LETTERS"=some (some (.str "abcdefghijklmnopqrstuvwxyz" Baa))) (aN:W.nsIn K mainGlobals "LONGEST_NAME"=some (some (.int 8 Bab))) (aO:ZERO∘"ZERO") (aP:K.lookup ZERO=some ⟨.type "tuple",BdS, .seq #[.int 0 BdK, .int 1 BdL] BdT,BdU⟩) (aQ:W.excIn K SlackError [.type "ValueError", .type "Exception", .type "BaseException", .type "object"] "ValueError.__new__"=true) (aR:W.excIn K NoNumber [.type "ValueError", .type "Exception", .type "BaseException", .type "object"] "ValueError.__new__"=true) (aS:W.excIn K NoName [.type "ValueError", .type "Exception", .type "BaseException", .type "object"] "ValueError.__new__"=true) (aT:K.lookup Tight=some (excClassObj xnm_Tight xq_Tight Tight xN_Tight xbs_Tight (.ref SlackError::BMV) true xsn_Tight xsub_Tight xab_Tight xcol_Tight xd_Tight xk0_Tight xk1_Tight xk2_Tight xk3_Tight xk5_Tight "ValueError.__new__")) (aU:Mk K Part f14) (aV:Mk K Gap f16) (aW:Mk K Joints f22) (aX:Mk K Thing f25) (aY:Mk K Scale f31) (aZ:Mk K Lid f36) (a0:W.isFn K (.ref f15)=true) (ba:W.isFn K (.ref f17)=true) (bb:W.isFn K (.ref f23)=true) (bc:W.isFn K (.ref f24)=true) (bd:W.isFn K (.ref f26)=true) (be:W.isFn K (.ref f27)=true) (bf:W.isFn K (.ref f28)=true) (bg:W.isFn K (.ref f29)=true) (bh:W.isFn K (.ref f30)=true) (bi:W.isFn K (.ref f32)=true) (bj:W.isFn K (.ref f33)=true) (bk:W.isFn K (.ref f37)=true) (bl:W.isFn K (.ref f38)=true) (bm:W.isFn K (.ref f39)=true) (bn:W.isFn K (.ref f40)=true) (bo:-Tight) (bp:PartC K Part) (bq:GapC K Gap) (br:Jkl K Joints) (bs:Jlt K Thing) (bt:Jls K Scale) (bu:LidC K Lid) (bv:W.findIn K (.ref Tight) "__setattr__"=some (some (.builtin "object.__setattr__"))) (bw:Tight/"tight_gap") (bx:W.hasDictIn K Tight=true) (bz:W.findIn K (.ref Tight) "__getattribute__"=some (some (.builtin "BaseException.__getattribute__"))) (bA:Tight/"__getattr__") (bB:W.mroIn K Tight (.type "BaseException")=some true) (bC:W.specialIn K (.ref SlackError) "__getattribute__"=some (some (.builtin "type.__getattribute__"))) (bD:W.readsIn K SlackError (.type "type")=true) (bE:W.findCls K (.ref SlackError) (.type "type") "__init__"=some (.val (.builtin "ValueError.__init__"))) (bF:W.typeIn K (.ref Tight)=some (.type "type")) (bG:W.mroIn K Tight (.ref Tight)=some true) (bH:W.findIn K (.ref Tight) "__class__"=some (some (.builtin "object.__class__"))) (bI:W.specialIn K (.builtin "object.__class__") "__get__"=some (some (.builtin "getset_descriptor.__get__"))) (bJ:W.takesIn K (.builtin "object.__class__")=some true) (bK:W.mroIn K Tight (.type "object")=some true) (bL:W.kitOne K (.ref Tight) (.ref SlackError)=some true) (bM:W.kitOne K (.ref Tight) (.type "ValueError")=some true) (bN:W.kitOne K (.ref Tight) (.ref Apart)=some false) (bO:W.kitOne K (.ref Tight) (.ref Impossible)=some false) (bP:W.kitOne K (.ref Tight) (.ref InRing)=some false) (bQ:W.kitOne K (.ref Tight) (.ref NoFace)=some false) (bR:W.kitOne K (.ref Tight) (.ref NoGap)=some false) (bS:W.kitOne K (.ref Tight) (.ref NoName)=some false) (bT:W.kitOne K (.ref Tight) (.ref NoNumber)=some false) (bU:W.kitOne K (.ref Tight) (.ref NoPart)=some false) (bV:W.kitOne K (.ref Tight) (.ref NoRow)=some false) (bW:W.kitOne K (.ref Tight) (.ref NoTie)=some false) (bX:W.kitOne K (.ref Tight) (.ref Off)=some false) (bY:W.kitOne K (.ref Tight) (.ref Twice)=some false)
  : ∃ fd:FuncData,(∀ (s:Shared) (v:Value),BindsTo s fd ⟨[v],[]⟩ [("_law_script",v)])/\∀ base:Heap,K.In base->base.Ns mainGlobals mg->FnOk l.prog w K mg base (CX1 l.prog w) 12 fa fd ["_law_script"] (Bdb K):=by
 have e:=hfa.symm.trans (W.mg_of X G a58);cases e;have o:∀ {x:Str} {v:Value},W.nsIn K mainGlobals x=some (some v)->mg x=some v:=fun h=>W.mg_of X G h;have n:∀ {x:Str},W.nsIn K mainGlobals x=some none->mg x=none:=fun h=>W.mg_none_of X G h;have T:Txt K mg ∅:=⟨n aw,n ax,n ay,n az,n aA,n aB,n aC,n aD,n aE,n aF,n aG,n aH,n aI,n aJ,n aK,n aL,o aa,o ab,o ac,o ad,o ae,o af,o ag,o ah,o ai,o aj,o ak,o al,o am,o an,o ao,o ap,o aq,o ar,o au,o av,o aM,⟨_,rfl⟩,o aN,⟨_,rfl⟩,o aO,rfl,fun H=>.inr ⟨_,_,_,aP,rfl,rfl,by show 2<=sizeLine;decide, .cons ⟨_,rfl⟩ (.cons ⟨_,rfl⟩ (.nil))⟩,aQ,aR,aS,(fun C hC=>by cases hC;exact bp),(fun C hC=>by cases hC;exact bq),(fun C hC=>by cases hC;exact br),(fun C hC=>by cases hC;exact bs),(fun C hC=>by cases hC;exact bt),(fun C hC=>by cases hC;exact bu),⟨bv,bw⟩,⟨bx,bz,bA,bw,bB⟩,⟨bC,bD,bE⟩,⟨bx,bF,bB,bG⟩,⟨bx,bz,bA,bH,bI,bJ,bK,bB⟩,bL,bM,bN,bO,bP,bQ,bR,bS,bT,bU,bV,bW,bX,bY⟩;obtain ⟨_,F1,k1,a1⟩:=l1;obtain ⟨_,F2,k2,a2⟩:=l2;obtain ⟨_,F3,k3,a3⟩:=l3;obtain ⟨_,F4,k4,a4⟩:=l4;obtain ⟨_,F5,k5,a5⟩:=l5;obtain ⟨_,F6,k6,a6⟩:=l6;obtain ⟨_,F7,k7,a7⟩:=l7;obtain ⟨_,F8,k8,a8⟩:=l8;obtain ⟨_,F9,k9,a9⟩:=l9;obtain ⟨_,F10,k10,a10⟩:=l10;obtain ⟨_,F11,k11,a11⟩:=l11;obtain ⟨_,F12,k12,a12⟩:=l12;obtain ⟨_,F13,k13,a13⟩:=l13;obtain ⟨_,F14,k14⟩:=l14;obtain ⟨_,F15,k15⟩:=l15;obtain ⟨_,F16,k16⟩:=l16;obtain ⟨_,F17,k17⟩:=l17;obtain ⟨_,F18,k18,a18⟩:=l18;obtain ⟨_,F19,k19,a19⟩:=l19;obtain ⟨_,F20,k20,a20⟩:=l20;obtain ⟨_,F21,k21,a21⟩:=l21;obtain ⟨_,F22,k22⟩:=l22;obtain ⟨_,F23,k23⟩:=l23;obtain ⟨_,F24,k24⟩:=l24;obtain ⟨_,F25,k25⟩:=l25;obtain ⟨_,F26,k26⟩:=l26;obtain ⟨_,F27,k27⟩:=l27;obtain ⟨_,F28,k28⟩:=l28;obtain ⟨_,F29,k29⟩:=l29;obtain ⟨_,F30,k30⟩:=l30;obtain ⟨_,F31,k31⟩:=l31;obtain ⟨_,F32,k32⟩:=l32;obtain ⟨_,F33,k33⟩:=l33;obtain ⟨_,F34,k34,a34⟩:=l34;obtain ⟨_,F35,k35,a35⟩:=l35;obtain ⟨_,F36,k36⟩:=l36;obtain ⟨_,F37,k37⟩:=l37;obtain ⟨_,F38,k38⟩:=l38;obtain ⟨_,F39,k39⟩:=l39;obtain ⟨_,F40,k40⟩:=l40;have b40:=F40.bindsD (ps:=["self","words","tight_gap"]) t40 rfl [] fun _ _ _ _ _ _=>lenD3 (fun _ _ _=>⟨_,rfl,rfl⟩) rfl;obtain ⟨_,F41,k41,a41⟩:=l41;obtain ⟨_,F42,k42,a42⟩:=l42;obtain ⟨_,F43,k43,a43⟩:=l43;obtain ⟨_,F44,k44,a44⟩:=l44;obtain ⟨_,F45,k45,a45⟩:=l45;obtain ⟨_,F46,k46,a46⟩:=l46;obtain ⟨_,F47,k47,a47⟩:=l47;obtain ⟨_,F48,k48,a48⟩:=l48;obtain ⟨_,F49,k49,a49⟩:=l49;obtain ⟨_,F50,k50,a50⟩:=l50;obtain ⟨_,F51,k51,a51⟩:=l51;obtain ⟨_,F52,k52,a52⟩:=l52;obtain ⟨_,F53,k53,a53⟩:=l53;obtain ⟨_,F54,k54,a54⟩:=l54;obtain ⟨_,F55,k55,a55⟩:=l55;obtain ⟨_,F56,k56,a56⟩:=l56;obtain ⟨_,F57,k57,a57⟩:=l57;have F58:=Jao l58 c58 k58;refine ⟨W.fnOf "law" "law" (Jam BcM) (Jal BcM) (Jae BcM) .none kV58 dc58 pm58 an58 cd58 ct58,fun s v=>.of_eq rfl,fun base _ _=>?_⟩;have cC:∀ {ps:List Str} {sp:Sp} {fd:FuncData} {k:Nat} {x:Str} {f:Addr},FnOk l.prog w K mg base (CX1 l.prog w) k f fd ps sp->W.nsIn K mainGlobals x=some (some (.ref f))->W.keepIn K (.ref f)=true->Binds K fd ps []->Cal l.prog w K mg base k x ps [] sp:=fun h a c b=>⟨_,_,[],h,o a,c,b, .nil⟩;have cK:∀ {ps:List Str} {sp:Sp} {fd:FuncData} {k:Nat} {x:Str} {f C:Addr},FnOk l.prog w K mg base (CX1 l.prog w) k f fd ps sp->W.nsIn K mainGlobals x=some (some (.ref C))->Mk K C f->Binds K fd ps []->KCal l.prog w K mg base k x C ps sp:=fun h a c b=>⟨_,_,h,o a,c,b⟩;have cM:∀ {ps:List Str} {sp:Sp} {fd:FuncData} {k:Nat} {m:Str} {Cs:Addr->Prop} {f:Addr},FnOk l.prog w K mg base (CX1 l.prog w) k f fd ps sp->(∀ C,Cs C->Cls K C/\Meth K C m f)->W.keepIn K (.ref f)=true->Binds K fd ps []->MCal l.prog w K mg base k m Cs ps sp:=fun h a c b=>⟨_,_,h,a,c,b⟩;have bZ:=cC (Jdv F1 T) a1 k1 (!F1);have b0:=cC (JkS F2 T bZ) a2 k2 (!F2);have ca:=cC (Jjl F3 T b0) a3 k3 (!F3);have cb:=cC (Jjn F4 T bZ) a4 k4 (!F4);have cc:=cC (JkR F5 T cb) a5 k5 (!F5);have cd:=cC (Jjo F6 T) a6 k6 (!F6);have ce:=cC (Jhl F7 T) a7 k7 (!F7);have cf:=cC (Jgm F8 T) a8 k8 (!F8);have cg:=cC (Jet F9 T cf bZ) a9 k9 (!F9);have ch:=cC (Jgl F10 T cg) a10 k10 (!F10);have ci:=cC (JfP F11 T ce) a11 k11 (!F11);have cj:=cC (Je8 F12 T ch cd) a12 k12 (!F12);have ck:=cC (Jif F13 T ce ci cj) a13 k13 (!F13);have cl:=cK (JdH F14 T) ao aU (!F14);have cm:=cM (m:="plain") (Cs:=IsPart ∅) (Je5 F15 T) (fun C hC=>⟨(T.BcB C hC).cls,(by cases hC;exact ⟨a15,a0,k15⟩)⟩) k15 (!F15);have cn:=cK (Jd5 F16 T) ap aV (!F16);have co:=cM (m:="plain") (Cs:=IsGap ∅) (JfN F17 T) (fun C hC=>⟨(T.Bdy C hC).cls,(by cases hC;exact ⟨a17,ba,k17⟩)⟩) k17 (!F17);have cp:=cC (Jhm F18 T ce ci cg cf cd) a18 k18 (!F18);have cq:=cC (Jie F19 T ck) a19 k19 (!F19);have cr:=cC (Jhp F20 T cp cl) a20 k20 (!F20);have cs:=cC (Jid F21 T cq cn) a21 k21 (!F21);have ct:=cK (Jc9 F22 T) aq aW (!F22);have cu:=cM (m:="link") (Cs:=Jc3 ∅) (Jeq F23 T) (fun C hC=>⟨(T.BbS C hC).cls,(by cases hC;exact ⟨a23,bb,k23⟩)⟩) k23 (!F23);have cv:=cM (m:="way_between") (Cs:=Jc3 ∅) (JcF F24 T) (fun C hC=>⟨(T.BbS C hC).cls,(by cases hC;exact ⟨a24,bc,k24⟩)⟩) k24 (!F24);have cw:=cK (Jdt F25 T ct cr cs cv cu) ar aX (!F25);have cx:=cM (m:="parts") (Cs:=Ja2 ∅) (Jer F26 T cm) (fun C hC=>⟨(T.Bba C hC).cls,(by cases hC;exact ⟨a26,bd,k26⟩)⟩) k26 (!F26);have cy:=cM (m:="gaps") (Cs:=Ja2 ∅) (Je6 F27 T co) (fun C hC=>⟨(T.Bba C hC).cls,(by cases hC;exact ⟨a27,be,k27⟩)⟩) k27 (!F27);have cz:=cM (m:="way") (Cs:=Ja2 ∅) (JfO F28 T) (fun C hC=>⟨(T.Bba C hC).cls,(by cases hC;exact ⟨a28,bf,k28⟩)⟩) k28 (!F28);have cA:=cM (m:="middle") (Cs:=Ja2 ∅) (Jd8 F29 T cz b0 ca) (fun C hC=>⟨(T.Bba C hC).cls,(by cases hC;exact ⟨a29,bg,k29⟩)⟩) k29 (!F29);have cD:=cM (m:="room") (Cs:=Ja2 ∅) (Je7 F30 T cA ca cd) (fun C hC=>⟨(T.Bba C hC).cls,(by cases hC;exact ⟨a30,bh,k30⟩)⟩) k30 (!F30);have cE:=cK (Jds F31 T bZ) au aY (!F31);have cF:=cM (m:="lifted") (Cs:=JcT ∅) (Jd7 F32 T bZ) (fun C hC=>⟨(T.Bcd C hC).cls,(by cases hC;exact ⟨a32,bi,k32⟩)⟩) k32 (!F32);have cG:=cM (m:="lowered") (Cs:=JcT ∅) (JdI F33 T bZ) (fun C hC=>⟨(T.Bcd C hC).cls,(by cases hC;exact ⟨a33,bj,k33⟩)⟩) k33 (!F33);have cH:=cC (Jgq F34 T cx cy cE) a34 k34 (!F34);have cI:=cC (Jfa F35 T cz) a35 k35 (!F35);have cJ:=cK (Jd6 F36 T) av aZ (!F36);have cL:=cM (m:="full_level") (Cs:=IsLid ∅) (Jdr F37 T cc) (fun C hC=>⟨(T.c_Lid C hC).cls,(by cases hC;exact ⟨a37,bk,k37⟩)⟩) k37 (!F37);have cN:=cM (m:="settle") (Cs:=IsLid ∅) (Je4 F38 T ca cb) (fun C hC=>⟨(T.c_Lid C hC).cls,(by cases hC;exact ⟨a38,bl,k38⟩)⟩) k38 (!F38);have cO:=cM (m:="has_stopped") (Cs:=IsLid ∅) (Jda F39 T) (fun C hC=>⟨(T.c_Lid C hC).cls,(by cases hC;exact ⟨a39,bm,k39⟩)⟩) k39 (!F39);have K40:=Jdu (P:=l.prog) (w:=w) (base:=base) F40 T;have cP:XCal l.prog w K mg base 1 "Tight" Tight SlackError ["self","words","tight_gap"] (Jbz K ∅):=⟨f40,_,K40,W.mg_of X G an,⟨aQ,⟨_,_,_,_,_,_,_,_,_,_,_,_,_,_,aT⟩,a40,bn,bo⟩,b40⟩;have cQ:=cC (Jho F41 T cx cy cD cd cI cJ cF cP) a41 k41 (!F41);have cR:=cC (Jev F42 T cx cF cc) a42 k42 (!F42);have cS:=cC (Jd9 F43 T cL) a43 k43 (!F43);have cT:=cC (Jes F44 T cd) a44 k44 (!F44);have cU:=cC (Jfc F45 T) a45 k45 (!F45);have cV:=cC (Jea F46 T cS cT cU cN) a46 k46 (!F46);have cW:=cC (Jgk F47 T cO) a47 k47 (!F47);have cX:=cC (Jjm F48 T cH cQ cR cV cx cG cb cW) a48 k48 (!F48);have cY:=cC (JkQ F49 T b0 cd) a49 k49 (!F49);have cZ:=cC (Je9 F50 T cH cx cy cd cF cI cY cD) a50 k50 (!F50);have c0:=cC (Jfb F51 T cX cx) a51 k51 (!F51);have c1:=cC (Jgn F52 T) a52 k52 (!F52);have c2:=cC (Jhn F53 T) a53 k53 (!F53);have c3:=cC (Jgp F54 T c2) a54 k54 (!F54);have c4:=cC (JfQ F55 T c1 c2 c3) a55 k55 (!F55);have c5:=cC (Jgo F56 T c1 c2 c3) a56 k56 (!F56);have c6:=cC (Jeu F57 T cX c0) a57 k57 (!F57);exact JlT F58 T c4 c5 cw c6 cZ cX
theorem walk {l:PySem.W.OpenLaw} {q:Program} {loose:List Str} {XP:(Str->Option Value)->Heap->Prop} {YP:World->Heap->Prop} {d:DefRec} {K:Params->PySem.W.Frag} (hn:l.most=some 63) (hdf:d.params.defaults=[])
  (hY:∀ (w:World) (h:Heap),YP w h->(K w.params).In h)
  (F:∀ (w:World) (mg:Str->Option Value) (fa:Addr) (h:Heap),(K w.params).In h->h.Ns mainGlobals mg->mg d.name=some (.ref fa) ->
   ∃ fd:FuncData,(∀ (s:Shared) (u:Value),BindsTo s fd ⟨[u],[]⟩ [("_law_script",u)])/\∀ base:Heap,(K w.params).In base->base.Ns mainGlobals mg->FnOk l.prog w (K w.params) mg base (CX1 l.prog w) 12 fa fd ["_law_script"] (Bdb (K w.params))) :
  PySem.W.WalkO q loose XP YP l.row.toRowW d [] (fun f vs=>PySem.call f vs) :=
 L2.Ji0 (n:=63) (k:=12) (x:="_law_script") (CX:=fun w=>CX1 l.prog w) (sp:=fun w=>Bdb (K w.params)) hn (by decide) hdf ⟨rfl,by decide,by decide⟩ hY F (fun _ _ a ns hl _ hS=>⟨a,ns,rfl,hS,hl,fun _=>rfl⟩) fun _ _ _ _ _ z=>by
  obtain ⟨_,_,_,_,_,_,_,_,_,_,_,_,z⟩:=z;exact z
end Prg
open PySem PySem.W PyProof.Rows
local macro_rules|`(command|universe $xs*)=>do return Lean.mkNullNode (<-xs.mapM fun x=>`(command|noncomputable def $(Lean.mkIdent (.str `PySem.W.Fast s!"tw{x.getId.toString.foldl (fun a c=>a*52+(c.toNat-if c.toNat<97 then 39 else 97)) 0}")):ident:Nat:=0))
universe gXemhGUqpll KggmypowXT brDTuUVNQIwZ brDXVsWdlJRx brEjvbifEWYn brKobkElhRON brPfBeuPuqKH brSVqfVFAJjg brTAYfyRMhqh bsgyhvyHVnlk bsHRaXOsiwwi bsKPepLuNmNt bsNsKaIAYcIE bsQNNBvWsgdn btdmIvREgrFv btriUKjVFxcC btshmwBgnmzw btssmnqpOngG btuKSPGnqmSs hihrqFvXKDi btNQzWQLvwxD hkxarhTFEYT buitIxXXDYtJ bukrruIwMdOL bumofnwnlPnI bunATYvPniPc buofYWspNPdY buwqiXqRqkjN buEGhCzFIAco buKJCJXeFuAO buRLioEarqyD buTBNuoSNdfD buYUrHwVHmDK hqSKhCKvOQQ bvwfVMRjiHGT bvFeCnlOAyDU bvICxabgsNCW htAOdzJWwpt MtPsFMsuNa bvVaKNzfSoaO bvWbAQhGcfrP bwkxZFSKIFmf bwxQcJsSreMH bwJnwASTQBPe bwJwOFysYBfX bwQeNcSzwGsh bxoEdqyNDMqn bxyvAhHOlZve byeZKRhyntIc byhWMQOZVgDH byjuSyocPnYP byjPahMsZjWE byroayQvjttG bytrwoovwppz bywaLSTUkdTr byxuVLeVRJXv byOJsEhAPdhQ hJxhZrgXRvr bzGnwEuhVNYo bzGoCnWQwYoM OtHPBRduSZ bzIKKrvxsEBm bzPXIwTNQjiq bzZdpgTnOgru bAhJPUdDXxgP bAiQCIFlRynN bAIodWFmtizi bANASACEfItP bATSPviQodfr bBmXOAIipKQd bBGHXNHJBJsN bBJUQMwRQXwl bBMJZLnLEzku bClxCNplFVaR bCnHFlRQIZZu bCruhvrqFOzP bCDIoTnIoRbj bCDUexpXoAvy bCFkXRLlNVdj bCGlKjiaecHU bCIQEIjDXjIm bCLhKmeJxCDA bDaMSDRCHpiJ bDmeAPXZwwkJ bDsLglPYRjKy bDJukQtQpBiT bDSljvpwvavf bDVRgQYvMWQB bESGHFJOfIKO bFaVrOmuDKhZ bFogpFhiPONh bFpKIEPOnDEL bFstGgBYxRCk bFwlHgCzFabm bFEqfgavOKeC bFJJfimnshcQ bFPGrgGtdPjV bGnRwJFUxOCU bGEzHYzmxWhO bHggpVezcCGV bHqRiBvWVgIB bHToYXLqSJyF bHTDQBiJylQR bHXDDLHgMwik bIlgnOyeZGZB bItTcAFiYHuk bIzyOdgQhbSM bIEtwJZpCiBu bIMbiRTzxCbb bJiMnSKEKGgl bJkgmBYbFSLJ bJpiDBQWjuPD iMiDTqavNlL bJzMISrsRocT bJDrikZaGkNE bJDOhsLYpCPE bJQViIAnfRbt iPmDuCoIDKK bJXLApRPjOWT bKbLjYLKLCCC bKumROVgLFDm iUzsQoQfAlN bLkOZesbKILo bMeNHKJGFGOq jchOyDSYuaZ bMzGxkuOSQlr bMOBYsBgSJAz bMUsxYXJcEgi bNazMiFbpqwi bNqOOKKrshRj bNsCMhPXOxQO bNujKINCBbbA bOrRZaMAtKDE bOLhMiTMNsqo bPLjJAhLOWAI bPRGiYCsJZBW bQdOWJipogKM bQvkzRTHfeaC jxiqWuksCFF bQYXHnutKMFb bQZtKmSTxoZx bRaXxkEHvedq bRhTqcjkffHl bRorFXPuzpQQ bRvWwIfxLvnY bRArpoNKdtuW bRFrzeyVCJju bRREYEyrdhcn bScjSoikaSfF bSdLVFSChzxy bSgrfiaKUrlJ bSjdJRgCJZAG bSBBSgDnJJwa bSFMuoHKltGG bSOOWmYaNieJ bSZTOrGxcmLv bTrHTlNDQktM bTDkkHOYPCgf bTICoJvjCWOZ bUiXFGiyvbXU bUtYYXTwFVtu bURBfgHvkTCW bVdmquypYoea bVlbkNxTkPPl bVozNjBZuWDZ bVwstUhipJkT bVDxHLxHCWXc bVEagrWWKnXA bVFlWJLLcZAq bVWDGgzpADsB bWkaFppFkWur bWocGqupGdSe kbOzYUTxSpL bWztkmUDMSWH bWzVtuBUrIiN bWAmHvtEqqtW bWLXXDXMbYmD bWOfVceHoHEB bWOSPuvzDbTj bXFXNzvaepfO bXKZpTkYZlVw bYiMTqiZIWHl bYjlwWVxWtbi bYFrDTHDuoBD bYPRbopOiRdU bYTcdrAXiIAN kpdRVvAfmZw bYWihnTaPuAl bZgDhMfWobqc kqJHwVHArrS kqSnhKSlCqO bZptoKRZBuPd bZCmqpyvJHzH bZYTbfYHlTZN bZZTllWwEIsG caetQIbCOyEr caiqXnKcKnNe calMolYQBwZs caCgFHNUfPuQ caTZjlujiEBy kzBaCqdUien caXxqAmbAOVO cbmjSeVtEuSN cboHLiRSWYsa cbvWPJSeJuaD cbyYzsTWcneO cbChXtTPydYf cbKKKbChUJqY cciNkAqBNzSz ccrxBOXNHTNw ccvAnBzkutbG ccFIhKHEvFPC ccGQAgYTkzwG ccQioPfCYeFB ccWrlcjzMcrV ccWVavGNkBUT cdisyHNLESOS cdnUbVVxokBk cdqwbefPbzhR cdFgYTQmGRkB cdJkWbbIPODb cdYfWUQqiUJZ ceenFToBvFBi cexaRkXeWMwj ceKiZZGqhlaO cePfDnOFVJUj ceTuTraHHDDZ ceWcVCvjtQHw ceXnAwQEqwxO cfeMhXrIxqjw cfgTdxdbouUN cflDFtzvxBnA cfEAeePWAgLp cfFMRdtnIhfW cfHAoWldZajA cfLLOCURjEwM cfOodKFWDYXk cgiIwKOrviGN cgxeYuutwnqN cgxQoKkJuEsh cgAXUfSnyjCA chrhTzVmdUJw bgbEqRMzQSi chRgWwJwCGTX civCqAZyaivl ciyvNKdhHbsh ciCHGyhqBVJO ciZOWxMHIsSZ cjplDANRWxfS lrJUcYtEeFi cjzffXeVQwHP ckeMinKgGCxk ckgGCvlYqSRH ckokkLxAhEyP lxiPpZneFNN ckydNOswIRGH ckSFlsQneYxY clksVKAtSinq lBQYOlCZKje clxJzLuPKflZ clyfrcAXnegf clBeROXBUjxl clFNKaGelxeM cmsfxTmrHTvg cmsMStKmCrEf cmyjjYqOFNpp cmHtckqcSwjn cmMDrlKvCCeU cmOYxqZiKRaK gdXJnszcrx cmVVNHklDylj lKdFEuUNQQz lKTCWcuAVZw cnjONghglHgu cnUstOzjTvuf coeSmDHxQDoR coiWIDDPncmW comuXIFcTQlo cosfQjIIKEOl cowCeAXXEEom coyZQvJnBZpJ coMtbrIeUdXw coRislFMKpUR coVpzPgrRkWp cpvvNmHqGBDq cpRHYIEzcSxu cpYtJbfxEjvi cqjzmUKWhKXS cqABrfNnbEHC cqOyqFvnFjHJ cqSPGEAuqRvs cqVMVsoSNtwj crclvVyVAHmX crexBicmSxAi crgxYMgqTBpR crEOqoeAwAaB csqXqyjCPFFW csCMFcWCFuKa csPfXavQkByK csTTNvwxUKlI mpaFcYDTQIN bmbxnPIpfiK ctuOHqPwpQTe ctxftgtBibJd cucbFxaKbBUS cugoLMGfCAyD cuogFuJpEggU cuoiEOkklvrS cupnLESMFXLV cuqoSArEMOOP cuzlZjIKaVOx cvbLVcZSnLLB cvggPcWPEfBL cviXDQMdNwhD cvktoftONXKq cvlCzFYqPBfo cvuhYCfcEsmK cvEXPgbazLFL cvPyaIckcXnC cvWvTsUrurXA cwaGkYSdICLH cwaHbsLMoOoa cwgZqcMNdyfv cwnqLTyVkzrO cwtodkXfOYWA cwBeNpVVkuzU cwLhxqmgZTkS cwPorqOnboBc cxiFmPGNTgAb cxkKViHpREax cxstptslRKwy cxxuHeeObHte cxzPJwVgDHnB cxAOjzHDTKzY mNsrotzlVWe mRmWnoAEzKP bqRVkwJZxwq noQwnQAJgsX nDkzgiuLuyk nDYNyhdpAAb nOiBKNTHUIm buwYjeDLpPF oqUJMyuygdn ovnGdVEVtrd bxxbCqSkhMg oGxsauXyjLP oIzvyoHlodY oKAPOQvbiKe oWWCgCNkhzL pbhKZZpVLyY pzjCLqEpNiW pBQJFZbAamV pYAJtIqYUKk qcHYNrMGlSw qnLNXbHJQWD qOAJfCfKxuP bJAxtWUdnAT qZUETBZLIdC rMzRMLsUgea rPMOQKVoDHH rRGCBxDWhyq rVTAsKBAlup rZXrQSeCGsE siRPazlswPm siWyBAkFvkY smywphcFRRn suTmivBXTPm swSSCgebgmJ sybarAriACv bTAXbgZIlMu sNMdGTTApzF sRKzvLdVGjd bUMaIDJrwCj tnabymQcSBi kpTnpinfhY tYTzCexzpMA ccKzNsIrSWL cdbrZYyRNPE cdwylQfNEqq cdDScMaOSTQ vebMAGwhFPh vlxbZabCKFo vHNsAsmtGUC vTeijaLazGe waSNIrKwLho wcKYPrTVUzd wgEviCGnrYn wgQshFdQoMw wplPGpXeGvk wtxQBlTHyqq wDuCAhYUDzv wNcMeBbOlaA wSialOSsjBN wZFXvowaYHA xlvVZyxIOKn xzrwejSsUJs yelktaGpDVm yLlzzHTqmXa yWinhvBpzxA zdeJkwiavgu zQWGvkTIOpZ zVADYnXCJzF AbRnPlNNmpC AiYKPdfWuzX AjMlvPcMAJX cHbovXEMzqJ AGceFMKZAsw ANYGLnwdfZa BhQVvCgUTTy BiUOfEurxcp BoYchAKRPqf BGBFulNAJAg BHLsFadxQCW BICCTvpPIYH BSzHZGuqBaJ BUzfzvPTPpZ CfhXREKEkjf CnXgwdqLELr cRvRnEsENyl CHhGLxAtMyz DhOtMRyhhKh DUDtneSliSn EcUrrbpZNnm EhSXKDLUuWs EkjYqOiEMAe EvVjUWFlDII delRsCJWQXA ERlVARCVsEG FcAadbnhYPT FfBjRUsibqm FgFduZocFpJ FjgdFyoabXr FkQsMSTxeOD dhTfDoYHPxF FEVKQFVUqJC GfMdgpakyWR GoFgwQbkMnT GptwZMrsjaS GsGpuaYspAp GAeiLfCEhYQ GHKrBKZMahU GWeIMjCYyBR HgsyocmWKkH HGinUBCVKJN HMldIGGsccb HOCCEgUCqwi IFCObgdVftx ITemWyvnPiq ITNgyaXZToX JdZbyNdwFlm JfSRGmxmJYw JsXLIKlfqbk JvWjUcFnArq dCEvOxFhNcS JJXyMSytnSR JPGZpYUfGrx JUrhZlSKWvH KkCKVGMshjZ dGolnnZXJVa KwkmllGPcBI KHzDSfOHqmJ KVTotjxKAtq LhylazdDRFI LjRrtyzKtNR LoJaqrGcOFR MbzKzcPUgTi MhDqjgMSCdx MkeQXIWIBjv MkRxfBJBqch kDaRtEaJn NlCUXPJArGW dXhHuCTbspa NxFExpYPaYa NDdTrNMFziY NDDcRSnpxGX NRxzzVMkGPb NSbtTzBfTyL OfpOVsZgFcF OkFtXKMRFXh OxuVmhlOsbv OQiSJMCRCGk OSMiMXSULFP PboXaFYvhoX PqkgqROdbMh PrNCWnXgdTm PDrgoqQmrxP PKAvtoUnrbv PNhDudBuQnd PWoyZRCjUpf ekqvGjUrzJj QgcydGgQfLY QpguANSKtnE QrpmFyHHCtQ QzaomGXaXbs QEkZkmizfRe QKlrxhgyLEM QOYOzBBXsLH QSTloEZcXKB RaAtqOYaFZS RaFEnrzhoPn RgAgFMelzJE RoSaswDvqNM RtwsWIojZgZ RAFuFmcFAQd etMIYaaZrZb RUtJsVFosHc RXZapCfrAeS SbPzBOCYaED SczArtwJvDB SgBbPWMYZDZ StPUNfnMPPw SyvXibNXLKb SBkRQaKvKng SEBLzRCEXOB SMiuZAEwcYR STJntPZGeBk ThmGxXbZVrl TkKdCBzhOcs TmIGUdFRepB eBEFHFtjBLr TzMGflTDgEj TDkqCRcEKsA TFuxWHZdXXu TGoxtcPPdJp TGNZjKWSpSY TWofgESPzpT UdkkkhZXVvo UqvCruWvJkp UwKVebecLku UFbVSFkBQCW UUgyAYELAYg VeRLeZoyMuL VjCWNUglsdK VneOsqXNKqO VwxzKfCgJzD VwFDidsKNno eMLvlnPVRPv VIInmuMiYGQ VLkJtWpfoRX VLlSEaVbhqw VXkMImkvUHw VYRwcLHdqRD VZJQPMYoiug WaTKATyZhBE WitEQUxPUXb WmoMnkJfpoG WAKQbxYUzkg WBGFJnXpIIT WLjGgddFslS WZaIunRDYak XfXyqyzoCXT XgFVenIaEnJ XvYRVtmOyYB XScbXoRTJgb eZMnnWCyHwS XZOrmcqEweg YmeGmQgXZfS YHoeaGgYCcG feggLXIcNud YPZFGqPUjFg YZrUGuroLCf YZxbBzWWSuY ZepeLvmITBG ZlBJKxHCzgy ZnhwvmpFYAw ZtegaxvPaqX ZwOJuYdmeRv ZArpwuXZllP ZDGmgdpetdv fjmKJCVVzxB baeJtZNNkOux baipBMuLVTkQ barwUtVdpJpC bauVGJgrCfhv baBwADGHpSuO baMcLVtFFmkB baNTgEUiVdbX fpcYLsTCGDZ bbbDKorjHeVf bbnltbctmpOR bboAuJrcMSvP bbqHVzhpcwJM bcfCSVpxliJX bchNbeALsfsO bcsMgbBGXFDm fxqnUtpJdtj bcILkimypqMR bcSGYuWYavxH bdBoBKhAvmfK bdXXKYEOoTPw bdYwJmwiIcDN beIFzLuMxEZK beJqLMIBzvWk beKUXHChQFhu bfnekXuUtGXZ bfCSIOyTiLXW bfLTEYtCfACY bggGoYZbpTUC bgHwPZwdYocN bgNlJJInPDIX bhiQTfVSUrNU bhkYUKeiYaIk bhmufgMVcybX bhxCQuSSJeKg bhzfnmxkddIF bhLbiCbLuXiV bhMTccuwdhLA bhOFXNlJoTdc bhPvRpPKbaKM bhUHtXAPQRCy gaBrKzXWCjK bioPqUQUlmIV bitmMavbtMjI gclDkiizBeq biwPcSIawCwM biGCMnTQpsec biITBBxQMOIH bjkjxHnyTAXx bjqeeWtvESVN ghdfQBUpHMM bjzLrArNZvBU bjSdRhubdUKL bkuVlRuylzFL bkzXzteRdRKU bkESRQUFQGQu blgrxJEOgsmx bljMjitJAvQG blnMYyGqNmoh blwbctyDDHCF blFCpZtTkoTx blIlyINxNcNC blOWamNkqumn blWlBsuCPTAW blXBKiVpecnN bmcVSlYFLkmN bmhNJtWfrcYV bmKkkffsvPIP bmWCtzXrvete bnhwRBkgsDKW bnhCLDrlKpii bnrmzWvlsoGs bnsBtSSgPVvH IbUqGBTsAP bnGEvqPxevuM bnSaquLhKHgD gFPWuKEDHSU bopjdYppVSxG borbsjOxVvXJ boxCqbqZKGAt boJcYPnlPXwN boXKFAoXokWX bpuKQVZhVGQh gMFnpLdFeSZ bpyQNWUFYKAP bpJGpsjIjDCa bpPJlYTgmdSS bqeTROojxldb bqimjzLCcXwx bqlKKlceOnJo bqmotqIyvrWf bqpdPDymvPUr bqJQDqPqhSwj bqXMCvZdHFWO bracAiNNfjZV gVFOCQcPCdy
set_option maxRecDepth 100000 in
set_option maxHeartbeats 0 in
theorem PySem.Challenge.cw_slackchain_k56_too_tight_holds : PySem.Challenge.rw_slackchain_k56_too_tight.Holds := by
 w_on;o_law;k_head;(case hw=>w_witness2)
 k_fill
 refine Prg.walk (l:=PySem.Challenge.rw_slackchain_k56_too_tight) rfl rfl (fun w h Y=>PySem.W.kIn_of Y) ?F;case F=>
  intro w mg fa h KX G hmg;refine' Prg.all_mk KX G hmg ?_ ?_ ?_ ?_ ?_ ?_ ?_ ?_ ?_ ?_ ?_ ?_ ?_ ?_ ?_ ?_ ?_ ?_ ?_ ?_ (Prg.fnA ?_ ?_ ?_ ?_) (Prg.fnA ?_ ?_ ?_ ?_) (Prg.fnA ?_ ?_ ?_ ?_) (Prg.fnA ?_ ?_ ?_ ?_) (Prg.fnA ?_ ?_ ?_ ?_) (Prg.fnA ?_ ?_ ?_ ?_) (Prg.fnA ?_ ?_ ?_ ?_) (Prg.fnA ?_ ?_ ?_ ?_) (Prg.fnA ?_ ?_ ?_ ?_) (Prg.fnA ?_ ?_ ?_ ?_) (Prg.fnA ?_ ?_ ?_ ?_) (Prg.fnA ?_ ?_ ?_ ?_) (Prg.fnA ?_ ?_ ?_ ?_) ?_ (Prg.fnG ?_ ?_ ?_) ?_ (Prg.fnG ?_ ?_ ?_) ?_ (Prg.fnG ?_ ?_ ?_) ?_ (Prg.fnG ?_ ?_ ?_) (Prg.fnA ?_ ?_ ?_ ?_) (Prg.fnA ?_ ?_ ?_ ?_) (Prg.fnA ?_ ?_ ?_ ?_) (Prg.fnA ?_ ?_ ?_ ?_) ?_ (Prg.fnG ?_ ?_ ?_) ?_ (Prg.fnG ?_ ?_ ?_) ?_ (Prg.fnG ?_ ?_ ?_) ?_ (Prg.fnG ?_ ?_ ?_) ?_ (Prg.fnG ?_ ?_ ?_) ?_ (Prg.fnG ?_ ?_ ?_) ?_ (Prg.fnG ?_ ?_ ?_) ?_ (Prg.fnG ?_ ?_ ?_) ?_ (Prg.fnG ?_ ?_ ?_) ?_ (Prg.fnG ?_ ?_ ?_) ?_ (Prg.fnG ?_ ?_ ?_) ?_ (Prg.fnG ?_ ?_ ?_) (Prg.fnA ?_ ?_ ?_ ?_) (Prg.fnA ?_ ?_ ?_ ?_) ?_ (Prg.fnG ?_ ?_ ?_) ?_ (Prg.fnG ?_ ?_ ?_) ?_ (Prg.fnG ?_ ?_ ?_) ?_ (Prg.fnG ?_ ?_ ?_) ?_ (Prg.fnG ?_ ?_ ?_) ?_ (Prg.fnA ?_ ?_ ?_ ?_) (Prg.fnA ?_ ?_ ?_ ?_) (Prg.fnA ?_ ?_ ?_ ?_) (Prg.fnA ?_ ?_ ?_ ?_) (Prg.fnA ?_ ?_ ?_ ?_) (Prg.fnA ?_ ?_ ?_ ?_) (Prg.fnA ?_ ?_ ?_ ?_) (Prg.fnA ?_ ?_ ?_ ?_) (Prg.fnA ?_ ?_ ?_ ?_) (Prg.fnA ?_ ?_ ?_ ?_) (Prg.fnA ?_ ?_ ?_ ?_) (Prg.fnA ?_ ?_ ?_ ?_) (Prg.fnA ?_ ?_ ?_ ?_) (Prg.fnA ?_ ?_ ?_ ?_) (Prg.fnA ?_ ?_ ?_ ?_) (Prg.fnA ?_ ?_ ?_ ?_) (Prg.fnA ?_ ?_ ?_ ?_) ?_ ?_ ?_ ?_ ?_ ?_ ?_ ?_ ?_ ?_ ?_ ?_ ?_ ?_ ?_ ?_ ?_ ?_ ?_ ?_ ?_ ?_ ?_ ?_ ?_ ?_ ?_ ?_ ⟨?_,?_,?_,?_⟩ ⟨?_,?_,?_,?_⟩ ⟨?_,?_,?_,?_⟩ ⟨?_,?_,?_,?_⟩ ⟨?_,?_,?_,?_⟩ ⟨?_,?_,?_,?_⟩ ?_ ?_ ?_ ?_ ?_ ?_ ?_ ?_ ?_ ?_ ?_ ?_ ?_ ?_ ?_ ?_ ⟨⟨?_,?_,?_,?_⟩,?_,?_,?_,?_,?_,?_⟩ ⟨⟨?_,?_,?_,?_⟩,?_,?_,?_,?_,?_⟩ ⟨⟨?_,?_,?_,?_⟩,?_⟩ ⟨⟨?_,?_,?_,?_⟩,?_,?_,?_⟩ ⟨⟨?_,?_,?_,?_⟩,?_,?_⟩ ⟨⟨?_,?_,?_,?_⟩,?_,?_,?_,?_,?_⟩ ?_ ?_ ?_ ?_ ?_ ?_ ?_ ?_ ?_ ?_ ?_ ?_ ?_ ?_ ?_ ?_ ?_ ?_ ?_ ?_ ?_ ?_ ?_ ?_ ?_ ?_ ?_ ?_ ?_;all_goals try first|k_is|k_exc|(show _=_;k_is)|kit_is
