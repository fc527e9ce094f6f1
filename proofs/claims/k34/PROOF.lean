import PyProof.Rows.All
import Wide.All
import OpenK.AllK
import Wide.FinOn
import Lean
import PyProof.EqAt
import PyProof.EqKinds
import PyProof.TupleCall
import PyProof.ZipIter
import PyProof.Rows.SetFrom
import PyProof.Rows.SortStr
import KE.KDictList
import PyProof.AttrMissHeap
import KE.KDictOf
import KE.KDictLaws
import KE.KRevIter
import PyProof.CollectIter
import PyProof.FactsAll.range_2
import PyProof.FactsAll.range_iterator_1
import PyProof.WalksEnum
import PyProof.EnumMake
import PyProof.Rows.Range3
import PySem.Challenge.RW_slackchain_k34_narrowed_ties
set_option Elab.async false
set_option linter.all false
set_option maxRecDepth 100000
open List (mem_cons_self mem_cons_of_mem mem_cons mem_append mem_append_left mem_append_right length_cons map_cons length_map append_nil nodup_cons length_take length_append size_toArray any_cons length_singleton map_nil length_nil mem_singleton all_eq_true mem_map foldl_cons foldl_append take_succ take_of_length_le map_map map_append nodup_append cons_append mem_flatMap nil_append take_zero)
local macro_rules|`(tactic|ac_nf)=>`(tactic|first|lia|omega)
local macro_rules|`(⋯)=>`(by decide)
local macro_rules|`(∅)=>`(by ac_nf)
local macro_rules|`(tactic|subst_eqs)=>`(tactic|(intro _ _ _ _ h;(repeat obtain ⟨_,h⟩:=h);subst_vars;rfl))
namespace L2
open PySem PySem.Spec PyProof.Rows
abbrev Key:=Sum Bool Str
def isBoolOf:Bool->Value->Bool
 | b, .bool c=>b == c
 | _,_=>false
theorem JdO {b:Bool} {v:Value} (h:isBoolOf b v=true):v=.bool b:=by
 cases v <;> simp_all [isBoolOf]
def keyIs:Key->Value->Bool
 | .inl k,v=>isBoolOf k v
 | .inr x,v=>Value.isStrOf x v
def keyH (w:World):Key->Int
 | .inl k=>hashInt (if k then 1 else 0)
 | .inr x=>hashStr w x
theorem JaI:∀ {k:Key} {v:Value},keyIs k v=true->(∃ i,k=Sum.inl i/\v=Value.bool i)\/(∃ x t,k=Sum.inr x/\v=Value.str x t)
 | .inl i,v,h=>.inl ⟨i,rfl,JdO h⟩
 | .inr x,v,h=>by
  obtain ⟨t,e⟩:=Value.isStrOf_shape (x:=x) (v:=v) h;exact .inr ⟨x,t,rfl,e⟩
theorem Jgv (i:Bool):keyIs (.inl i) (.bool i)=true:=by simp [keyIs,isBoolOf]
theorem Jhb (x:Str) (t:Tok):keyIs (.inr x) (.str x t)=true:=by simp [keyIs,Value.isStrOf]
theorem JjK (a b:Bool):decide ((Sum.inl a:Key)=Sum.inl b)=(a == b):=by cases a <;> cases b <;> rfl
theorem JjN (a b:Str):decide ((Sum.inr a:Key)=Sum.inr b)=decide (a=b):=by
 by_cases e:a=b
 ·subst e;simp
 ·have h:¬ (Sum.inr a:Key)=Sum.inr b:=fun q=>e (Sum.inr.inj q);rw [decide_eq_false h,decide_eq_false e]
theorem JjL (a:Bool) (b:Str):decide ((Sum.inl a:Key)=Sum.inr b)=false:=decide_eq_false (fun q=>nomatch q)
theorem JjM (a:Str) (b:Bool):decide ((Sum.inr a:Key)=Sum.inl b)=false:=decide_eq_false (fun q=>nomatch q)
theorem JfS {prog:Program} {w:World} {A:Around} {E:Value->Shared->Prop} {s:Shared} {b:Bool} {Q:Int->Shared->Prop} (h:Q (hashInt (if b then 1 else 0)) { s with toks:=s.toks+1 }) :
  wpAny (model prog w) A (pyHash (.bool b)) Q E s:=by
 have c:=rawHash_range (if b then 1 else 0);have a:s.TypeIs (.bool b) "bool":=rfl;unfold pyHash;have d:[Value.bool b].any Value.onHeap=false:=rfl;refine wpAny_bind ?_;rw [cRoomFor,if_neg (by rw [d];exact Bool.false_ne_true)];refine wpAny_pure ?_;refine wpAny_bind (wpAny_specialOf a F.slot_bool_hash.lookup ?_);show wpAny _ _ (if (some (Value.builtin "int.__hash__") == some Value.none)=true then _ else _) Q E s;rw [if_neg (by rw [beq_builtin_none];exact Bool.false_ne_true)];refine wpAny_bind (wpAny_specialOf a F.slot_bool_hash.lookup ?_);show wpAny _ _ (callSpecialIfBoundUnlessNone? (.bool b) "__hash__" _ >>= _) Q E s;refine wpAny_bind (wpAny_callSpecialIfBoundUnlessNone?_slot a F.slot_bool_hash
  (wpAny_call_entry F.slot_bool_hash a entry_int_hash
   (show wpAny _ _ (do ret (<- mkInt (rawHash (if b then 1 else 0)))) _ _ s from wpAny_ret_mkInt ?_) (args_int_hash _)))
 show wpAny _ _ (if (decide (-(2:Int) ^ 63<=rawHash (if b then 1 else 0))&&decide (rawHash (if b then 1 else 0)<2 ^ 63))=true then _ else _) Q E _;rw [if_pos (by rw [decide_eq_true c.1,decide_eq_true c.2];rfl)];exact wpAny_pure h
def Jaz (prog:Program) (w:World):PySem.KeyKind prog w Key where
 is:=keyIs
 hash:=keyH w
 inj:=fun v a b ha hb=>by
  rcases JaI ha with ⟨i,rfl,rfl⟩ | ⟨x,t,rfl,rfl⟩
  ·rcases JaI hb with ⟨j,rfl,e⟩ | ⟨y,u,rfl,e⟩
   ·injection e with e1;rw [e1]
   ·exact nomatch e
  ·rcases JaI hb with ⟨j,rfl,e⟩ | ⟨y,u,rfl,e⟩
   ·exact nomatch e
   ·injection e with e1 _;rw [e1]
 byValue:=fun k v h=>by
  rcases JaI h with ⟨i,rfl,rfl⟩ | ⟨x,t,rfl,rfl⟩ <;> rfl
 pyHash:=fun hv h=>by
  rcases JaI hv with ⟨i,rfl,rfl⟩ | ⟨x,t,rfl,rfl⟩
  ·exact JfS h
  ·exact wpAny_pyHash_str h
 eqBool:=fun hu hv h=>by
  rcases JaI hu with ⟨i,rfl,rfl⟩ | ⟨x,t,rfl,rfl⟩
  ·rcases JaI hv with ⟨j,rfl,rfl⟩ | ⟨y,u,rfl,rfl⟩
   ·rw [JjK] at h;exact SeqAt.EqAt.bool_bool i j _ _ _ _ h
   ·rw [JjL] at h;exact SeqAt.EqAt.bool_str i y u _ _ _ _ h
  ·rcases JaI hv with ⟨j,rfl,rfl⟩ | ⟨y,u,rfl,rfl⟩
   ·rw [JjM] at h;exact SeqAt.EqAt.str_bool x t j _ _ _ _ h
   ·rw [JjN] at h;exact wpAny_eqBool_str h
 «strs»:=fun k x t v h=>by
  rcases JaI h with ⟨i,rfl,e⟩ | ⟨y,u,rfl,e⟩
  ·exact nomatch e
  ·injection e with e1 _
   subst e1;cases v <;> rfl
theorem Je5 (prog:Program) (w:World) (i:Bool):(Jaz prog w).is (.inl i) (.bool i)=true:=Jgv i
theorem JfG (prog:Program) (w:World) (x:Str) (t:Tok):(Jaz prog w).is (.inr x) (.str x t)=true:=Jhb x t
inductive V where
 | non | bl (b:Bool) | int (i:Int) | str (x:Str) | byt (b:Array UInt8) | flt (b:UInt64) | ref (a:Addr) | ty (n:String)
 deriving DecidableEq
def RelV:V->Value->Prop
 | .non,u=>u=Value.none
 | .bl b,u=>u=Value.bool b
 | .int i,u=>∃ t,u=Value.int i t
 | .str x,u=>∃ t,u=Value.str x t
 | .byt b,u=>∃ t,u=Value.bytes b t
 | .flt b,u=>∃ t,u=Value.float b t
 | .ref a,u=>u=Value.ref a
 | .ty n,u=>u=Value.type n
abbrev Vals:List V->List Value->Prop:=Paired RelV
theorem Vals.length {xs:List V} {us:List Value} (r:Vals xs us):xs.length=us.length:=Paired.length r
theorem Vals.get:∀ {xs:List V} {us:List Value} {i:Nat} {x:V},Vals xs us->xs[i]?=some x->∃ u,us[i]?=some u/\RelV x u
 | _,_,_,_, .nil,e=>by simp at e
 | _,_,0,_, .cons r _,e=>by simp at e;subst e;exact ⟨_,rfl,r⟩
 | _,_,i+1,x, .cons _ t,e=>by
  obtain ⟨u,h1,h2⟩:=Vals.get (i:=i) (x:=x) t (by simpa using e);exact ⟨u,by simpa using h1,h2⟩
theorem Vals.set {x:V} {u:Value} (r:RelV x u):∀ {xs:List V} {us:List Value} (i:Nat),Vals xs us->Vals (xs.set i x) (us.set i u)
 | _,_,_, .nil=>.nil
 | _,_,0, .cons _ t=>.cons r t
 | _,_,i+1, .cons q t=>.cons q (Vals.set r i t)
theorem Vals.append:∀ {xs ys:List V} {us ws:List Value},Vals xs us->Vals ys ws->Vals (xs++ys) (us++ws)
 | _,_,_,_, .nil,s=>s
 | _,_,_,_, .cons r t,s=>.cons r (Vals.append t s)
theorem Vals.take:∀ {xs:List V} {us:List Value} (n:Nat),Vals xs us->Vals (xs.take n) (us.take n)
 | _,_,0,_=>.nil
 | _,_,_+1, .nil=>.nil
 | _,_,n+1, .cons r t=>.cons r (Vals.take n t)
theorem Vals.drop:∀ {xs:List V} {us:List Value} (n:Nat),Vals xs us->Vals (xs.drop n) (us.drop n)
 | _,_,0,r=>r
 | _,_,_+1, .nil=>.nil
 | _,_,n+1, .cons _ t=>Vals.drop n t
def RelO:Option V->Option Value->Prop
 | some v,some u=>RelV v u
 | none,none=>True
 | _,_=>False
def KV {κ : Type}:List (κ × V)->List (κ × Value)->Prop:=Paired fun (p : κ × V) (q : κ × Value)=>p.1=q.1/\RelV p.2 q.2
def kV:Key->V
 | .inl i=>.bl i
 | .inr x=>.str x
inductive HO where
 | lst (xs:List V)
 | tup (xs:List V)
 | dK (kvs:List (Key × V)) | dT (kvs:List (List Key × V))
 | set (S:Int->Bool) (n:Nat)
 | ins (C dx:Addr) (fs:List (Str × V))
 | own (x:Addr)
 | xd (fs:List (Str × V))
 | met (f x:Addr)
 | rng (lo hi:Int)
 | frz (o:Obj) (u:HO)
 | tbl (ps:Array Value)
 | ext (φ : Heap->Prop)
abbrev Hp:=Addr->Option HO
def upd (H:Hp) (a:Addr) (o:HO):Hp:=fun b=>if b=a then some o else H b
theorem Jaq {H:Hp} {a:Addr} {o:HO}:upd H a o a=some o:=by unfold upd;rw [if_pos rfl]
theorem Jai {H:Hp} {a b:Addr} {o:HO} (h:b≠a):upd H a o b=H b:=by unfold upd;rw [if_neg h]
theorem ne_of {H:Hp} {a b:Addr} {o u:HO} (h:H a=some o) (h':H b=some u) (d:o≠u):a≠b:=by
 intro e;subst e;rw [h] at h';exact d (Option.some.inj h')
theorem Jaf {H:Hp} {a b:Addr} {o:HO} (h:H a=some o) (h':H b=none):a≠b:=by
 intro e;subst e;rw [h] at h';cases h'
section
variable (P:Program) (w:World)
def ObjOk (H:Hp) (h:Heap) (a:Addr):HO->Prop
 | .lst xs=>xs.length<=sizeLine/\∃ (its:List Value) (n:Nat),Vals xs its/\h.get? a=some { cls:=.type "list",data:=.seq its.toArray n }
 | .tup xs=>xs.length<=sizeLine/\∃ its:List Value,Vals xs its/\IsTup h a its.toArray
 | .dK kvs=>kvs.length<=sizeLine/\(a == sysModules)=false/\∃ vs,KV kvs vs/\h.DictOf (Jaz P w) a vs
 | .dT kvs=>kvs.length<=sizeLine/\(a == sysModules)=false/\∃ xs:List (List Key × Addr × Value),
   Paired (fun (p:List Key × V) (q:List Key × Addr × Value)=>p.1=q.1/\H q.2.1=some (.tup (p.1.map kV))/\RelV p.2 q.2.2) kvs xs /\
   ∃ o es ep,h.get? a=some o/\o.ExactDict/\o.data=.dict es ep/\es.toList=xs.map (entryOfKey (tupleKind (Jaz P w)))/\(xs.map (·.1)).Nodup
 | .set S n=>h.SetOf (intKind P w) a S n
 | .ins C dx fs=>H dx=some (.own a)/\fs.length<=1000/\dx≠a/\h.get? a=some (W.instObj C dx) /\
   ∃ mA,h.Ns1 dx mA/\(∀ f,RelO (fs.lookup f) (mA f))/\PySem.Within mA (fs.map (·.1))
 | .own _=>∃ o,h.get? a=some o
 | .xd fs=>∃ mA,h.Ns1 a mA/\∀ f,RelO (fs.lookup f) (mA f)
 | .rng lo hi=>∃ t u v,h.get? a=some { cls:=.type "range",data:=.fields #[.int lo t, .int hi u, .int 1 v] }
 | .frz o u=>h.get? a=some o/\ObjOk H h a u
 | .tbl ps=>h.get? a=some { cls:=.none,data:=.fields ps }
 | .met f x=>h.get? a=some (W.methodObj (.ref f) (.ref x))
 | .ext φ=>φ h/\(∃ o,h.get? a=some o)/\∀ h1 h2:Heap,φ h1->(∀ o,h1.get? a=some o->h2.get? a=some o)->φ h2
def HOk (H:Hp) (h:Heap):Prop:=∀ a o,H a=some o->ObjOk P w H h a o
end
section
variable {P:Program} {w:World} {H H':Hp} {h h':Heap} {a:Addr} {o:HO}
theorem ObjOk.lt (x:ObjOk P w H h a o):a<h.objs.size:=by
 cases o with
 | lst xs=>obtain ⟨_,_,_,_,e⟩:=x;exact Heap.lt_size e
 | tup xs=>obtain ⟨_,_,_,p⟩:=x;exact p.lt
 | dK kvs=>obtain ⟨_,_,_,_,o,_,_,e,_⟩:=x;exact Heap.lt_size e
 | dT kvs=>obtain ⟨_,_,_,_,o,_,_,e,_⟩:=x;exact Heap.lt_size e
 | set S n=>obtain ⟨o,_,_,_,e,_⟩:=x;exact Heap.lt_size e
 | ins C dx fs=>obtain ⟨_,_,_,e,_⟩:=x;exact Heap.lt_size e
 | own y=>obtain ⟨_,e⟩:=x;exact Heap.lt_size e
 | xd fs=>obtain ⟨_,⟨_,_,_,e,_⟩,_⟩:=x;exact Heap.lt_size e
 | rng lo hi=>obtain ⟨_,_,_,e⟩:=x;exact Heap.lt_size e
 | frz ob u=>obtain ⟨e,_⟩:=x;exact Heap.lt_size e
 | tbl ps=>exact Heap.lt_size (show h.get? a=some _ from x)
 | met f y=>exact Heap.lt_size (show h.get? a=some _ from x)
 | ext φ=>obtain ⟨_,⟨_,e⟩,_⟩:=x;exact Heap.lt_size e
theorem Paired.mapP {α β : Type} {F G : α->β->Prop}:∀ {l₁ : List α} {l₂ : List β},Paired F l₁ l₂->(∀ a b,F a b->G a b)->Paired G l₁ l₂
 | _,_, .nil,_=>.nil
 | _,_, .cons r t,f=>.cons (f _ _ r) (Paired.mapP t f)
theorem ObjOk.stay (x:ObjOk P w H h a o) (k:∀ b u,(b=a\/H b=some (.own a))->h.get? b=some u->h'.get? b=some u)
  (ho:∀ b,H b=some (.own a)->H' b=some (.own a)) (ht:∀ b xs,H b=some (.tup xs)->H' b=some (.tup xs)):ObjOk P w H' h' a o:=by
 induction o with
 | lst xs=>obtain ⟨z,l,n,r,e⟩:=x;exact ⟨z,l,n,r,k _ _ (.inl rfl) e⟩
 | tup xs=>obtain ⟨z,l,r,g,e,c⟩:=x;exact ⟨z,l,r,g,k _ _ (.inl rfl) e,c⟩
 | dK kvs=>obtain ⟨z,y,D,r,g,i,j,e,c⟩:=x;exact ⟨z,y,D,r,g,i,j,k _ _ (.inl rfl) e,c⟩
 | dT kvs=>
  obtain ⟨z,y,xs,r,g,i,j,e,c⟩:=x;exact ⟨z,y,xs,Paired.mapP r fun p q z=>⟨z.1,ht _ _ z.2.1,z.2.2⟩,g,i,j,k _ _ (.inl rfl) e,c⟩
 | set S n=>obtain ⟨g,i,j,t,e,c⟩:=x;exact ⟨g,i,j,t,k _ _ (.inl rfl) e,c⟩
 | ins C dx fs=>
  obtain ⟨d,z,E,e,s,⟨m,i,j,B,c⟩,r⟩:=x;exact ⟨ho _ d,z,E,k _ _ (.inl rfl) e,s,⟨m,i,j,k _ _ (.inr d) B,c⟩,r⟩
 | own y=>obtain ⟨g,e⟩:=x;exact ⟨g,k _ _ (.inl rfl) e⟩
 | xd fs=>obtain ⟨s,⟨m,i,j,e,c⟩,r⟩:=x;exact ⟨s,⟨m,i,j,k _ _ (.inl rfl) e,c⟩,r⟩
 | rng lo hi=>obtain ⟨t,u,v,e⟩:=x;exact ⟨t,u,v,k _ _ (.inl rfl) e⟩
 | frz g u ih=>obtain ⟨e,q⟩:=x;exact ⟨k _ _ (.inl rfl) e,ih q⟩
 | tbl ps=>
  have e:h.get? a=some { cls:=.none,data:=.fields ps }:=x;show h'.get? a=some { cls:=.none,data:=.fields ps };exact k a _ (.inl rfl) e
 | met f y=>
  have e:h.get? a=some (W.methodObj (.ref f) (.ref y)):=x;show h'.get? a=some (W.methodObj (.ref f) (.ref y));exact k a _ (.inl rfl) e
 | ext φ=>obtain ⟨p,⟨o,e⟩,A⟩:=x;exact ⟨A _ _ p fun o q=>k _ _ (.inl rfl) q,⟨o,k _ _ (.inl rfl) e⟩,A⟩
theorem HOk.lt (x:HOk P w H h) (e:H a=some o):a<h.objs.size:=(x a o e).lt
theorem HOk.fresh (x:HOk P w H h) (e:h.objs.size<=a):H a=none:=by
 cases q:H a with
 | none=>rfl
 | some u=>exact absurd (Nat.lt_of_lt_of_le (x.lt q) e) (Nat.lt_irrefl _)
theorem HOk.kept (x:HOk P w H h) (k:∀ b u,h.get? b=some u->h'.get? b=some u):HOk P w H h':=fun a o e=>
 (x a o e).stay (fun b u _ q=>k b u q) (fun _ q=>q) fun _ _ q=>q
theorem HOk.laid (x:HOk P w H h) (k:∀ b u,h.get? b=some u->h'.get? b=some u) (hp:h.objs.size<=a) (new:ObjOk P w (upd H a o) h' a o):HOk P w (upd H a o) h':=fun b u e=>by
 have d:=x.fresh hp;by_cases f:b=a
 ·subst f;rw [Jaq] at e;cases e;exact new
 ·rw [Jai f] at e;exact (x b u e).stay (fun c v _ q=>k c v q) (fun c q=>by rw [Jai (Jaf q d)];exact q) fun c g q=>by rw [Jai (Jaf q d)];exact q
end
def Rd (H:Hp) (a:Addr) (u:HO):Prop:=H a=some u\/∃ o,H a=some (.frz o u)
theorem Rd.ok {P:Program} {w:World} {H:Hp} {h:Heap} {a:Addr} {u:HO} (r:Rd H a u) (x:HOk P w H h):ObjOk P w H h a u:=by
 rcases r with r | ⟨o,r⟩
 ·exact x a u r
 ·obtain ⟨_,q⟩:=x a _ r;exact q
def Mut:Option HO->Prop
 | some (.lst _)=>True
 | some (.dK _)=>True
 | some (.dT _)=>True
 | some (.set _ _)=>True
 | some (.ins _ _ _)=>True
 | some (.ext _)=>True
 | _=>False
section
variable {P:Program} {w:World} {H:Hp} {h h':Heap} {x e:Addr} {o':HO}
theorem HOk.write (ok:HOk P w H h) (mu:Mut (H x)) (he:e=x\/H e=some (.own x)) (k:∀ b u,b≠e->h.get? b=some u->h'.get? b=some u) (heo:∃ u,h'.get? e=some u)
  (new:ObjOk P w (upd H x o') h' x o'):HOk P w (upd H x o') h':=fun b u q=>by
 have d:∀ c y,H c=some (.own y)->c≠x:=fun c y r z=>by subst z;rw [r] at mu;exact mu
 have f:∀ c g,H c=some (.tup g)->c≠x:=fun c g r z=>by subst z;rw [r] at mu;exact mu
 by_cases j:b=x
 ·subst j;rw [Jaq] at q;cases q;exact new
 ·rw [Jai j] at q;by_cases a:b=e
  ·have l:H b=some (.own x):=by
    rcases he with z | z
    ·exact absurd (a.trans z) j
    ·rw [a];exact z
   rw [q] at l;cases l;obtain ⟨v,m⟩:=heo;exact ⟨v,by rw [a];exact m⟩
  ·refine (ok b u q).stay (fun c v i r=>k c v ?_ r) (fun c r=>by rw [Jai (d c b r)];exact r) fun c g r=>by rw [Jai (f c g r)];exact r
   rcases i with rfl | i
   ·exact a
   ·rintro rfl;rcases he with z | z
    ·exact d c b i z
    ·rw [i] at z;cases z;exact j rfl
end
structure Un (fs ex:List Addr) (H H':Hp) (h h':Heap):Prop where
 keep:∀ b o,h.get? b=some o->H b=none->b∉fs->b∉ex->h'.get? b=some o
 slot:∀ b o,h.get? b=some o->H b=none->b∈fs->b∉ex->∃ sl,h'.get? b=some { o with slots:=sl }
 free:∀ b o,h.get? b=some o->H b=none->b∉ex->H' b=none
 there:∀ b o,h.get? b=some o->b∉ex->∃ o',h'.get? b=some o'
 tups:∀ b xs,H b=some (.tup xs)->H' b=some (.tup xs)
 frzs:∀ b o u,H b=some (.frz o u)->H' b=some (.frz o u)
 tbls:∀ b ps,H b=some (.tbl ps)->∃ more,H' b=some (.tbl (ps++more))
section
variable {fs fs' ex ex':List Addr} {H H1 H2:Hp} {h h1 h2 h':Heap} {a x e:Addr} {o:HO}
theorem Un.any (u:Un fs ex H H1 h h1) {b:Addr} {ob:Obj} (q:h.get? b=some ob) (n:H b=none) (hx:b∉ex):∃ sl,h1.get? b=some { ob with slots:=sl }:=by
 by_cases a:b∈fs
 ·exact u.slot b ob q n a hx
 ·exact ⟨ob.slots,u.keep b ob q n a hx⟩
theorem Un.kept (k:∀ b u,h.get? b=some u->h'.get? b=some u):Un fs ex H H h h' :=
 ⟨fun b a q _ _ _=>k b a q,fun b a q _ _ _=>⟨a.slots,k b a q⟩,fun _ _ _ n _=>n,fun b a q _=>⟨a,k b a q⟩,fun _ _ q=>q,fun _ _ _ q=>q,fun _ c q=>⟨#[],by rw [q];simp⟩⟩
theorem Un.refl:Un fs ex H H h h:=Un.kept fun _ _ q=>q
theorem Un.laid (k:∀ b u,h.get? b=some u->h'.get? b=some u) (hp:h.objs.size<=a) (hn:H a=none):Un fs ex H (upd H a o) h h' where
 keep:=fun b u q _ _ _=>k b u q
 slot:=fun b u q _ _ _=>⟨u.slots,k b u q⟩
 free:=fun b u q n _=>by rw [Jai (Nat.ne_of_lt (Nat.lt_of_lt_of_le (Heap.lt_size q) hp))];exact n
 there:=fun b u q _=>⟨u,k b u q⟩
 tups:=fun b c q=>by rw [Jai (Jaf q hn)];exact q
 frzs:=fun b u c q=>by rw [Jai (Jaf q hn)];exact q
 tbls:=fun b d q=>⟨#[],by rw [Jai (Jaf q hn),q];simp⟩
theorem Un.write (mu:Mut (H x)) (he:e=x\/H e=some (.own x)) (k:∀ b u,b≠e->h.get? b=some u->h'.get? b=some u) (heo:∃ u,h'.get? e=some u):Un fs ex H (upd H x o) h h':=by
 have d:∀ b,H b=none->b≠x:=fun b n z=>by subst z;rw [n] at mu;exact mu
 have f:∀ b,H b=none->b≠e:=fun b n z=>by
  subst z;rcases he with r | r
  ·exact d b n r
  ·rw [n] at r;cases r
 have c:∀ b u,H b=some u->¬ Mut (some u)->b≠x:=fun b u q i z=>by subst z;rw [q] at mu;exact i mu
 refine ⟨fun b u q n _ _=>k b u (f b n) q,fun b u q n _ _=>⟨u.slots,k b u (f b n) q⟩,fun b u q n _=>by rw [Jai (d b n)];exact n,fun b u q _=>?_,
  fun b g q=>by rw [Jai (c b _ q fun z=>z)];exact q,fun b u g q=>by rw [Jai (c b _ q fun z=>z)];exact q,fun b j q=>⟨#[],by rw [Jai (c b _ q fun z=>z),q];simp⟩⟩
 by_cases a:b=e
 ·subst a;exact heo
 ·exact ⟨u,k b u a q⟩
end
def trk (h:Heap) (H:Hp):List Addr:=(List.range h.objs.size).filter fun a=>(H a).isSome
def hidT (h:Heap) (H:Hp):Heap:=W.hideAll h (trk h H)
theorem Jg8 (h:Heap) (H:Hp):(hidT h H).objs.size=h.objs.size:=W.hideAll_size _ _
theorem JhX {h:Heap} {H:Hp} {b:Addr} {o:Obj} (e:h.get? b=some o) (n:H b=none):(hidT h H).get? b=some o :=
 W.hideAll_get _ e fun a=>by
  have q:(H b).isSome=true:=(List.mem_filter.mp a).2;rw [n] at q;simp at q
theorem Ji9 {h:Heap} {H:Hp} {b:Addr} {o:Obj} (e:(hidT h H).get? b=some o):h.get? b=some o/\H b=none:=by
 have a:h.get? b=some o:=W.of_hideAll (trk h H) e;refine ⟨a,?_⟩;cases q:H b with
 | none=>rfl
 | some x=>
  have c:b∈trk h H:=List.mem_filter.mpr ⟨List.mem_range.mpr (Heap.lt_size a),by simp [q]⟩;have z:(hidT h H).get? b=none:=W.hideAll_none (trk h H) c;rw [z] at e;cases e
def JiI (g h:Heap) (L:Addr):List (Addr × Obj):=(List.range h.objs.size).filterMap fun a=>if a=L\/(g.get? a).isSome=true then none else (h.get? a).map fun o=>(a,o)
def rest (g h:Heap) (L d:Addr):List (Addr × Obj):=(JiI g h L).filter fun p=>decide (p.1≠d)
structure Mod (K:W.Frag) (mg:Str->Option Value) (base:Heap):Prop where
 kin:K.In base
 glob:base.Ns mainGlobals mg
 blt:∃ mb,base.Ns builtinsNs mb/\∀ x:Str,x≠"__name__"->mb x=bootBuiltins x
 nolimit:base.NoLimit
structure Cx where
 prog:Program
 w:World
 K:W.Frag
 mg:Str->Option Value
 base:Heap
 A:Around
 N:List Str
 s₀ : Shared
 H₀ : Hp
 env:Env
 outer:List Env
 stack:List Env
 ex:List Addr
 fn:Str->Bool
 calm:Bool
 pn:List (Addr × Obj)
 xe:Value->Shared->Prop
def frs (l:List Env):List Addr:=l.filterMap (·.frame)
abbrev Cx.fs (X:Cx):List Addr:=frs X.outer
def Vis (sc:Scope) (x:Str):Prop:=sc.names.lookup x=some .local\/sc.names.lookup x=some .cell\/sc.names.lookup x=some .free
def Loc (sc:Scope) (x:Str):Prop:=sc.names.lookup x=some .local\/sc.names.lookup x=some .cell
def Look (env:Env) (h:Heap) (m:Str->Option Value) (x:Str) (u:Value):Prop :=
 (env.kindOf x=some .local/\m x=some u)\/((env.kindOf x=some .cell\/env.kindOf x=some .free)/\∃ c,env.cells.lookup x=some c/\h.IsCell c (some u))
structure Cx.Ok (X:Cx):Prop where
 mod:Mod X.K X.mg X.base
 kind:X.env.scope.kind=.function
 glob:X.env.globals=mainGlobals
 blt:X.env.builtins=builtinsNs
 above:X.s₀.heap.objs.size<=X.env.locals
 inj:∀ x y c,X.env.cells.lookup x=some c->X.env.cells.lookup y=some c->x=y
 has:∀ x,(X.env.kindOf x=some .cell\/X.env.kindOf x=some .free)->∃ c,X.env.cells.lookup x=some c
 cab:∀ x c,X.fn x=true->X.env.cells.lookup x=some c->X.s₀.heap.objs.size<=c
 hd:X.calm=true->X.A.handled=none
 frames:X.A.frames=some X.stack
 stk:X.stack=X.outer\/(X.stack=X.env::X.outer/\X.env.frame=some X.env.locals)
 exf:∀ b∈X.ex,b≠X.env.locals/\∀ x c,X.env.cells.lookup x=some c->c≠b
 bs:∀ b o,X.base.get? b=some o->X.s₀.heap.get? b=some o/\X.H₀ b=none
 bsz:X.base.objs.size<=X.s₀.heap.objs.size
 noex:∀ b o,X.base.get? b=some o->b∉X.ex
 exfs:∀ b∈X.ex,b∉X.fs
 funs:X.s₀.heap.FunFrames X.base X.outer
 frf:∀ b∈X.fs,X.H₀ b=none
structure Inv (X:Cx) (pins:List (Addr × Obj)) (σ : List (Option V)) (H:Hp) (s:Shared):Prop where
 ok:X.Ok
 os:s.os=X.s₀.os
 bare:AllBare s.gens
 base:Un X.fs X.ex X.H₀ H X.s₀.heap s.heap
 loc:∃ m,s.heap.Ns X.env.locals m/\∀ (i:Nat) (x:Str) (v:V),X.N[i]?=some x->σ[i]?=some (some v)->Vis X.env.scope x->∃ u,RelV v u/\Look X.env s.heap m x u
 cell:∀ x c,X.env.cells.lookup x=some c->∃ v,s.heap.IsCell c v
 free:H X.env.locals=none
 freeC:∀ x c,X.env.cells.lookup x=some c->H c=none
 pin:∀ p∈X.pn++pins,s.heap.get? p.1=some p.2/\H p.1=none/\p.1≠X.env.locals/\p.1∉X.fs/\∀ v,p.2.data≠.cell v
 hok:HOk X.prog X.w H s.heap
 len : σ.length=X.N.length
section
variable {X:Cx} {pins:List (Addr × Obj)} {σ : List (Option V)} {H H':Hp} {s:Shared} {h':Heap}
theorem Cx.Ok.nofr (ok:X.Ok) {b:Addr} {o:Obj} (e:X.base.get? b=some o):b∉X.fs:=fun a=>by
 have:=(ok.funs.mem a).1;rw [e] at this;cases this
theorem Inv.bs (I:Inv X pins σ H s):∀ b o,X.base.get? b=some o->s.heap.get? b=some o/\H b=none:=fun b o e=>
 ⟨I.base.keep b o (I.ok.bs b o e).1 (I.ok.bs b o e).2 (I.ok.nofr e) (I.ok.noex b o e),I.base.free b o (I.ok.bs b o e).1 (I.ok.bs b o e).2 (I.ok.noex b o e)⟩
theorem Inv.bk (I:Inv X pins σ H s):∀ b o,X.base.get? b=some o->s.heap.get? b=some o:=fun b o e=>(I.bs b o e).1
theorem Inv.mod (I:Inv X pins σ H s):Mod X.K X.mg X.base:=I.ok.mod
theorem Inv.kIn (I:Inv X pins σ H s):X.K.In s.heap:=I.ok.mod.kin.keeps I.bk
theorem Inv.lt (I:Inv X pins σ H s):X.env.locals<s.heap.objs.size:=let ⟨_,hn,_⟩:=I.loc;hn.lt
theorem Inv.sz (I:Inv X pins σ H s):X.s₀.heap.objs.size<=s.heap.objs.size:=Nat.le_trans I.ok.above (Nat.le_of_lt I.lt)
theorem Inv.nofs (I:Inv X pins σ H s) {a:Addr} (h:s.heap.objs.size<=a):a∉X.fs:=fun c=>by
 obtain ⟨_,o,b,_⟩:=I.ok.funs.mem c;exact absurd (Nat.lt_of_lt_of_le (Heap.lt_size b) (Nat.le_trans I.sz h)) (Nat.lt_irrefl _)
theorem Inv.cne (I:Inv X pins σ H s):∀ x c,X.env.cells.lookup x=some c->c≠X.env.locals:=fun x c e z=>by
 obtain ⟨v,o,f,d⟩:=I.cell x c e;obtain ⟨m,⟨g,h,i,b,a,_⟩,_⟩:=I.loc;rw [z,b] at f;cases f;rw [a] at d;cases d
theorem Inv.funs (I:Inv X pins σ H s):s.heap.FunFrames X.base X.outer:=by
 have all:∀ (l:List Env),(∀ b∈frs l,b∈X.fs)->X.s₀.heap.FunFrames X.base l->s.heap.FunFrames X.base l:=by
  intro l;induction l with
  | nil=>intro _ _;trivial
  | cons env r ih=>
   intro f k;obtain ⟨i,⟨L,o,c,g,m,h⟩,j⟩:=k;have d:L∈X.fs:=f L (by unfold frs;rw [List.filterMap_cons,c];exact mem_cons_self);obtain ⟨n,e⟩:=I.base.slot L o m (I.ok.frf L d) d fun z=>I.ok.exfs L z d;exact ⟨i,⟨L,_,c,g,e,h⟩,ih (fun b a=>f b (by unfold frs;rw [List.filterMap_cons,c];exact mem_cons_of_mem _ a)) j⟩
 exact all X.outer (fun _ a=>a) I.ok.funs
theorem Inv.stack (I:Inv X pins σ H s):s.heap.FunFrames X.base X.stack:=by
 rcases I.ok.stk with e | ⟨e,hf⟩
 ·rw [e];exact I.funs
 ·rw [e];obtain ⟨m,a,_⟩:=I.loc;refine .cons (by rw [I.ok.kind];decide) hf a ?_ I.funs;exact Heap.get?_none_of_le (Nat.le_trans I.ok.bsz I.ok.above)
theorem Inv.stkSub (I:Inv X pins σ H s):∀ b∈frs X.stack,b∈X.env.locals::X.fs:=fun b a=>by
 rcases I.ok.stk with e | ⟨e,hf⟩
 ·rw [e] at a;exact mem_cons_of_mem _ a
 ·rw [e] at a;unfold frs at a;rw [List.filterMap_cons,hf] at a;exact a
theorem Inv.stkFree (I:Inv X pins σ H s):∀ b∈frs X.stack,H b=none:=fun b a=>by
 rcases mem_cons.mp (I.stkSub b a) with e | a
 ·rw [e];exact I.free
 ·obtain ⟨_,o,c,_⟩:=I.ok.funs.mem a;exact I.base.free b o c (I.ok.frf b a) fun z=>I.ok.exfs b z a
theorem Inv.step {g':Array GenState} {t':Nat} {d':Drawn} {ch:List Addr} (I:Inv X pins σ H s)
  (hch:∀ b∈ch,(b∈X.ex\/X.s₀.heap.objs.size<=b)/\b≠X.env.locals/\(∀ x c,X.env.cells.lookup x=some c->c≠b)/\∀ p∈X.pn++pins,p.1≠b)
  (keep:∀ b o,b≠X.env.locals->b∉X.fs->b∉ch->s.heap.get? b=some o->H b=none->h'.get? b=some o)
  (slot:∀ b o,b≠X.env.locals->b∈X.fs->b∉ch->s.heap.get? b=some o->H b=none->∃ sl,h'.get? b=some { o with slots:=sl }) (free:∀ b o,b∉ch->s.heap.get? b=some o->H b=none->H' b=none)
  (there:∀ b o,b∉ch->s.heap.get? b=some o->∃ o',h'.get? b=some o')
  (tups:∀ b xs,H b=some (.tup xs)->H' b=some (.tup xs)) (frzs:∀ b o u,H b=some (.frz o u)->H' b=some (.frz o u)) (tbls:∀ b ps,H b=some (.tbl ps)->∃ more,H' b=some (.tbl (ps++more)))
  (ns:∀ m,s.heap.Ns X.env.locals m->h'.Ns X.env.locals m) (hok:HOk X.prog X.w H' h') (hg:AllBare g') :
  Inv X pins σ H' { s with heap:=h',gens:=g',drawn:=d',toks:=t' }:=by
 have B:∀ b o,X.s₀.heap.get? b=some o->b≠X.env.locals:=fun b o e=>Nat.ne_of_lt (Nat.lt_of_lt_of_le (Heap.lt_size e) I.ok.above);have h:∀ b o,X.s₀.heap.get? b=some o->b∉X.ex->b∉ch:=fun b o e a t=>by
  rcases (hch b t).1 with z | z
  ·exact a z
  ·exact absurd (Nat.lt_of_lt_of_le (Heap.lt_size e) z) (Nat.lt_irrefl _)
 have g:∀ x c,X.env.cells.lookup x=some c->∀ v,s.heap.IsCell c v->h'.IsCell c v:=fun x c e v ⟨o,y,C⟩=>by
  have f:c∉ch:=fun z=>(hch c z).2.2.1 x c e rfl;by_cases J:c∈X.fs
  ·obtain ⟨sl,q⟩:=slot c o (I.cne x c e) J f y (I.freeC x c e);exact ⟨_,q,C⟩
  ·exact ⟨o,keep c o (I.cne x c e) J f y (I.freeC x c e),C⟩
 refine ⟨I.ok,I.os,hg,⟨fun b o e n t a=>?_,fun b o e n t a=>?_,fun b o e n a=>?_,fun b o e a=>?_,fun b xs e=>tups b xs (I.base.tups b xs e),fun b o xs e=>frzs b o xs (I.base.frzs b o xs e),fun b ps e=>?_⟩,?_,fun x c e=>?_,?_,fun x c e=>?_,fun p E=>?_,hok,I.len⟩
 ·exact keep b o (B b o e) t (h b o e a) (I.base.keep b o e n t a) (I.base.free b o e n a)
 ·obtain ⟨sl,j⟩:=I.base.slot b o e n t a;obtain ⟨D,A⟩:=slot b _ (B b o e) t (h b o e a) j (I.base.free b o e n a);exact ⟨D,A⟩
 ·obtain ⟨o',j⟩:=I.base.there b o e a;exact free b o' (h b o e a) j (I.base.free b o e n a)
 ·obtain ⟨o',j⟩:=I.base.there b o e a;exact there b o' (h b o e a) j
 ·obtain ⟨K,j⟩:=I.base.tbls b ps e;obtain ⟨N,A⟩:=tbls b _ j;exact ⟨K++N,by rw [A,Array.append_assoc]⟩
 ·obtain ⟨m,M,O⟩:=I.loc;refine ⟨m,ns m M,fun i x v j A L=>?_⟩;obtain ⟨u,r,l⟩:=O i x v j A L;refine ⟨u,r,?_⟩;rcases l with l | ⟨k,c,e,z⟩
  ·exact .inl l
  ·exact .inr ⟨k,c,e,g x c e _ z⟩
 ·obtain ⟨v,z⟩:=I.cell x c e;exact ⟨v,g x c e v z⟩
 ·obtain ⟨m,⟨o,_,_,y,_⟩,_⟩:=I.loc;exact free _ o (fun z=>(hch _ z).2.1 rfl) y I.free
 ·obtain ⟨v,o,y,C⟩:=I.cell x c e;exact free c o (fun z=>(hch c z).2.2.1 x c e rfl) y (I.freeC x c e)
 ·obtain ⟨e,n,G,F,d⟩:=I.pin p E;have f:p.1∉ch:=fun z=>(hch p.1 z).2.2.2 p E rfl;exact ⟨keep p.1 p.2 G F f e n,free p.1 p.2 f e n,G,F,d⟩
theorem Inv.un {t':Nat} (I:Inv X pins σ H s) (u:Un X.fs [] H H' s.heap h') (hok:HOk X.prog X.w H' h'):Inv X pins σ H' { s with heap:=h',toks:=t' }:=by
 obtain ⟨m,⟨o,k,t,g,r⟩,_⟩:=id I.loc;obtain ⟨q,i⟩:=u.any g I.free (by simp);exact I.step (g':=s.gens) (d':=s.drawn) (ch:=[]) (fun _ z=>nomatch z) (fun b o _ d _ e n=>u.keep b o e n d (by simp)) (fun b o _ d _ e n=>u.slot b o e n d (by simp)) (fun b o _ e n=>u.free b o e n (by simp)) (fun b o _ e=>u.there b o e (by simp)) u.tups u.frzs u.tbls (fun l j=>by
  obtain ⟨p,c,f,a,h⟩:=j;rw [g] at a;cases a;exact ⟨_,c,f,i,h⟩) hok I.bare
theorem Inv.call {g':Array GenState} {t':Nat} {d':Drawn} {ch:List Addr} (I:Inv X pins σ H s) (u:Un (frs X.stack) ch H H' s.heap h') (hok:HOk X.prog X.w H' h') (hg:AllBare g')
  (hch:∀ b∈ch,(b∈X.ex\/X.s₀.heap.objs.size<=b)/\b≠X.env.locals/\(∀ x c,X.env.cells.lookup x=some c->c≠b)/\∀ p∈X.pn++pins,p.1≠b) :
  Inv X pins σ H' { s with heap:=h',gens:=g',drawn:=d',toks:=t' }:=by
 obtain ⟨m,⟨o,q,A,i,r⟩,_⟩:=id I.loc;obtain ⟨y,f⟩:=u.any i I.free fun z=>(hch _ z).2.1 rfl;exact I.step (ch:=ch) hch (fun b o f k a e n=>u.keep b o e n (fun z=>(mem_cons.mp (I.stkSub b z)).elim f k) a) (fun b o _ _ a e n=>u.any e n a) (fun b o a e n=>u.free b o e n a) (fun b o a e=>u.there b o e a) u.tups u.frzs u.tbls (fun t l=>by
  obtain ⟨v,g,h,d,j⟩:=l;rw [i] at d;cases d;exact ⟨_,g,h,f,j⟩) hok hg
theorem Inv.turned {t':Nat} {it:Addr} (I:Inv X pins σ H s) (k:∀ b o,b≠it->s.heap.get? b=some o->h'.get? b=some o) (hn:H it=none) (hL:it≠X.env.locals)
  (h1:it∈X.ex\/X.s₀.heap.objs.size<=it) (h2:∀ x c,X.env.cells.lookup x=some c->c≠it) (h3:∀ p∈X.pn++pins,p.1≠it):Inv X pins σ H { s with heap:=h',toks:=t' }:=by
 have d:∀ b u,H b=some u->b≠it:=fun b u e z=>by rw [z,hn] at e;cases e
 refine I.step (g':=s.gens) (d':=s.drawn) (ch:=[it]) (fun b g=>?_) (fun b o _ _ a e _=>k b o (fun z=>a (by simp [z])) e) (fun b o _ _ a e _=>⟨o.slots,k b o (fun z=>a (by simp [z])) e⟩) (fun _ _ _ _ n=>n)
  (fun b o a e=>⟨o,k b o (fun z=>a (by simp [z])) e⟩) (fun _ _ e=>e) (fun _ _ _ e=>e) (fun b l e=>⟨#[],by rw [e];simp⟩) (fun m i=>?_) (fun b u e=>?_) I.bare
 ·have e:b=it:=by simpa using g
  subst e;exact ⟨h1,hL,h2,h3⟩
 ·obtain ⟨o,f,j,h,r⟩:=i;exact ⟨o,f,j,k _ o (Ne.symm hL) h,r⟩
 ·refine (I.hok b u e).stay (fun c v a q=>k c v ?_ q) (fun _ q=>q) fun _ _ q=>q;rcases a with z | z
  ·rw [z];exact d b u e
  ·exact d c _ z
theorem Inv.tok (I:Inv X pins σ H s) (t:Nat):Inv X pins σ H { s with toks:=t }:=I.un (h':=s.heap) (t':=t) Un.refl I.hok
theorem Inv.kept {t':Nat} (I:Inv X pins σ H s) (k:∀ b u,s.heap.get? b=some u->h'.get? b=some u):Inv X pins σ H { s with heap:=h',toks:=t' }:=I.un (Un.kept k) (I.hok.kept k)
theorem Inv.laid {a:Addr} {o:HO} {t':Nat} (I:Inv X pins σ H s) (k:∀ b u,s.heap.get? b=some u->h'.get? b=some u) (hp:s.heap.objs.size<=a) (new:ObjOk X.prog X.w (upd H a o) h' a o) :
  Inv X pins σ (upd H a o) { s with heap:=h',toks:=t' }:=I.un (Un.laid k hp (I.hok.fresh hp)) (I.hok.laid k hp new)
theorem Inv.write {x e:Addr} {o:HO} {t':Nat} (I:Inv X pins σ H s) (mu:Mut (H x)) (he:e=x\/H e=some (.own x)) (k:∀ b u,b≠e->s.heap.get? b=some u->h'.get? b=some u) (heo:∃ u,h'.get? e=some u)
  (new:ObjOk X.prog X.w (upd H x o) h' x o):Inv X pins σ (upd H x o) { s with heap:=h',toks:=t' }:=I.un (Un.write mu he k heo) (I.hok.write mu he k heo new)
theorem Inv.pins_of {pins':List (Addr × Obj)} (I:Inv X pins σ H s) (h:∀ p∈pins',s.heap.get? p.1=some p.2/\H p.1=none/\p.1≠X.env.locals/\p.1∉X.fs/\∀ v,p.2.data≠.cell v):Inv X pins' σ H s :=
 ⟨I.ok,I.os,I.bare,I.base,I.loc,I.cell,I.free,I.freeC,fun p a=>(mem_append.mp a).elim (fun z=>I.pin p (mem_append_left _ z)) (h p),I.hok,I.len⟩
theorem Jgj {N:List Str} (hN:N.Nodup) {i j:Nat} {x:Str} (a:N[i]?=some x) (b:N[j]?=some x):i=j:=by
 obtain ⟨e,c⟩:=List.getElem?_eq_some_iff.mp a;obtain ⟨f,d⟩:=List.getElem?_eq_some_iff.mp b;exact (List.getElem_inj hN).mp (c.trans d.symm)
theorem JhI {M:Model} {A:Around} {E:Value->Shared->Prop} {i:Nat} {x:Str} {v:V} {u:Value} {Q:Unit->Shared->Prop} (I:Inv X pins σ H s) (hN:X.N.Nodup) (hi:X.N[i]?=some x) (hx:Loc X.env.scope x) (r:RelV v u)
  (h:∀ s',Inv X pins (σ.set i (some v)) H s'->(∃ a,Heap.SameBut a s.heap s'.heap/\(a=X.env.locals\/X.env.cells.lookup x=some a))->Q () s') (hf:X.fn x=true\/X.env.scope.names.lookup x=some .local:=by first | exact .inl rfl | exact .inr rfl | assumption):wpAny M A (storeName X.env x u) Q E s:=by
 obtain ⟨m,hn,hl⟩:=id I.loc;have L:(X.env.scope.kind == .class||(X.env.scope.kind == .module&&X.env.locals != X.env.globals))=false:=by rw [I.ok.kind];rfl
 have hiσ : i<σ.length:=by rw [I.len];exact (List.getElem?_eq_some_iff.mp hi).1
 have J:=I.cne;have g:∀ {a:Addr} {K:Heap},(∃ o,s.heap.get? a=some o/\H a=none)->Heap.SameBut a s.heap K->HOk X.prog X.w H K:=fun {a K} ha f b ob e=>by
  obtain ⟨_,_,B⟩:=ha;refine (I.hok b ob e).stay (fun c T t q=>(f.2 c ?_).trans q) (fun _ q=>q) fun _ _ q=>q;rintro rfl;rcases t with rfl | t
  ·rw [B] at e;cases e
  ·rw [B] at t;cases t
 rcases hx with hk | hk
 ·refine wpAny_storeName_local hk hn (fun K a0 f=>?_) L;obtain ⟨oL,_,_,a1,_⟩:=id hn;refine h _ ⟨I.ok,I.os,I.bare,⟨fun b o e n F hx=>?_,fun b o e n F hx=>?_,I.base.free,fun b o e hx=>?_,I.base.tups,I.base.frzs,I.base.tbls⟩,⟨_,a0,fun j y v' l C e3=>?_⟩,fun y c e=>?_,I.free,I.freeC,fun p Z=>?_,g ⟨oL,a1,I.free⟩ f,by simpa using I.len⟩ ⟨_,f, .inl rfl⟩
  ·exact (f.2 b (Nat.ne_of_lt (Nat.lt_of_lt_of_le (Heap.lt_size e) I.ok.above))).trans (I.base.keep b o e n F hx)
  ·obtain ⟨sl,l⟩:=I.base.slot b o e n F hx;exact ⟨sl,(f.2 b (Nat.ne_of_lt (Nat.lt_of_lt_of_le (Heap.lt_size e) I.ok.above))).trans l⟩
  ·obtain ⟨o',l⟩:=I.base.there b o e hx;exact ⟨o',(f.2 b (Nat.ne_of_lt (Nat.lt_of_lt_of_le (Heap.lt_size e) I.ok.above))).trans l⟩
  ·by_cases G:j=i
   ·subst G;rw [hi] at l;cases l;rw [List.getElem?_set_self hiσ] at C;cases C;exact ⟨u,r, .inl ⟨hk,by simp⟩⟩
   ·rw [List.getElem?_set_ne (Ne.symm G)] at C;obtain ⟨u',Y,q⟩:=hl j y v' l C e3;refine ⟨u',Y,?_⟩;rcases q with ⟨k,e⟩ | ⟨k,c,e,z⟩
    ·refine .inl ⟨k,?_⟩;have : y≠x:=fun e=>G (Jgj hN l (e ▸ hi));simp [this,e]
    ·exact .inr ⟨k,c,e,z.sameBut f (J y c e)⟩
  ·obtain ⟨T,z⟩:=I.cell y c e;exact ⟨T,z.sameBut f (J y c e)⟩
  ·obtain ⟨e,n,U,nf,d⟩:=I.pin p Z;exact ⟨(f.2 p.1 U).trans e,n,U,nf,d⟩
 ·have D:X.fn x=true:=by
   rcases hf with z | z
   ·exact z
   ·rw [z] at hk;cases hk
  obtain ⟨c,t⟩:=I.ok.has x (.inl hk);obtain ⟨T,z⟩:=I.cell x c t;refine wpAny_storeName_cell I.ok.kind hk t z (fun K P f=>?_);obtain ⟨oc,S,O⟩:=id z;refine h { s with heap:=K } ⟨I.ok,I.os,I.bare,⟨fun b o e n F hx=>?_,fun b o e n F hx=>?_,I.base.free,fun b o e hx=>?_,I.base.tups,I.base.frzs,I.base.tbls⟩,⟨m,hn.sameBut f (Ne.symm (J x c t)),fun j y v' l C e3=>?_⟩,fun y W e=>?_,I.free,I.freeC,fun p Z=>?_,g ⟨oc,S,I.freeC x c t⟩ f,by simpa using I.len⟩ ⟨c,f, .inr t⟩
  ·exact (f.2 b (Nat.ne_of_lt (Nat.lt_of_lt_of_le (Heap.lt_size e) (I.ok.cab x c D t)))).trans (I.base.keep b o e n F hx)
  ·obtain ⟨sl,l⟩:=I.base.slot b o e n F hx;exact ⟨sl,(f.2 b (Nat.ne_of_lt (Nat.lt_of_lt_of_le (Heap.lt_size e) (I.ok.cab x c D t)))).trans l⟩
  ·obtain ⟨o',l⟩:=I.base.there b o e hx;exact ⟨o',(f.2 b (Nat.ne_of_lt (Nat.lt_of_lt_of_le (Heap.lt_size e) (I.ok.cab x c D t)))).trans l⟩
  ·by_cases G:j=i
   ·subst G;rw [hi] at l;cases l;rw [List.getElem?_set_self hiσ] at C;cases C;exact ⟨u,r, .inr ⟨.inl hk,c,t,P⟩⟩
   ·rw [List.getElem?_set_ne (Ne.symm G)] at C;obtain ⟨u',Y,q⟩:=hl j y v' l C e3;refine ⟨u',Y,?_⟩;rcases q with q | ⟨k,W,e,z'⟩
    ·exact .inl q
    ·refine .inr ⟨k,W,e,z'.sameBut f ?_⟩;rintro rfl;exact G (Jgj hN l (I.ok.inj _ _ _ e t ▸ hi))
  ·by_cases R:W=c
   ·subst R;exact ⟨_,P⟩
   ·obtain ⟨w2,z2⟩:=I.cell y W e;exact ⟨w2,z2.sameBut f R⟩
  ·obtain ⟨e,n,U,nf,d⟩:=I.pin p Z;refine ⟨(f.2 p.1 ?_).trans e,n,U,nf,d⟩;intro q;rw [q,S] at e;have q':oc=p.2:=Option.some.inj e;exact d T (by rw [<- q'];exact O)
theorem Jdh {M:Model} {A:Around} {E:Value->Shared->Prop} {i:Nat} {x:Str} {v:V} {u:Value} {Q:Unit->Shared->Prop} (I:Inv X pins σ H s) (hN:X.N.Nodup) (hi:X.N[i]?=some x) (hx:Loc X.env.scope x) (r:RelV v u)
  (h:∀ s',Inv X pins (σ.set i (some v)) H s'->Q () s') (hf:X.fn x=true\/X.env.scope.names.lookup x=some .local:=by first | exact .inl rfl | exact .inr rfl | assumption):wpAny M A (storeName X.env x u) Q E s :=
 JhI I hN hi hx r (fun s' I' _=>h s' I') hf
theorem Inv.call' {s':Shared} {ch:List Addr} (I:Inv X pins σ H s) (ho:s'.os=s.os) (u:Un (frs X.stack) ch H H' s.heap s'.heap) (hok:HOk X.prog X.w H' s'.heap) (hg:AllBare s'.gens)
  (hch:∀ b∈ch,(b∈X.ex\/X.s₀.heap.objs.size<=b)/\b≠X.env.locals/\(∀ x c,X.env.cells.lookup x=some c->c≠b)/\∀ p∈X.pn++pins,p.1≠b):Inv X pins σ H' s':=by
 obtain ⟨d,g',d',t',a⟩:=s';have e:a=s.os:=ho;subst e;exact I.call (g':=g') (t':=t') (d':=d') u hok hg hch
end
abbrev XK:=Value->Option Addr->Hp->Prop
abbrev St:=List (Option V)
abbrev VK:=V->Hp->Prop
abbrev TE:=St->Hp->VK->Prop
abbrev TT:=St->Hp->(Bool->Hp->Prop)->Prop
abbrev TA:=St->Hp->(List V->Hp->Prop)->Prop
structure Ends where
 nx:St->Hp->Prop
 rt:VK
 bk:St->Hp->Prop:=fun _ _=>False
 ct:St->Hp->Prop:=fun _ _=>False
abbrev TS:=Ends->St->Hp->Prop
def EP (X:Cx) (pins:List (Addr × Obj)) (σ : St) (Q:VK) (u:Value) (s':Shared):Prop:=∃ v H',Inv X pins σ H' s'/\RelV v u/\Q v H'
def TP (X:Cx) (pins:List (Addr × Obj)) (σ : St) (Q:Bool->Hp->Prop) (b:Bool) (s':Shared):Prop:=∃ H',Inv X pins σ H' s'/\Q b H'
def AP (X:Cx) (pins:List (Addr × Obj)) (σ : St) (Q:List V->Hp->Prop) (us:List Value) (s':Shared):Prop:=∃ vs H',Inv X pins σ H' s'/\Vals vs us/\Q vs H'
def SP (X:Cx) (pins:List (Addr × Obj)) (D:Ends) (f:Flow) (s':Shared):Prop :=
 match f with
 | .next=>∃ σ' H',Inv X pins σ' H' s'/\D.nx σ' H'
 | .brk=>∃ σ' H',Inv X pins σ' H' s'/\D.bk σ' H'
 | .cont=>∃ σ' H',Inv X pins σ' H' s'/\D.ct σ' H'
 | .ret u=>∃ v σ' H',Inv X pins σ' H' s'/\RelV v u/\D.rt v H'
def PE (X:Cx) (e:Expr) (t:TE):Prop :=
 ∀ (pins:List (Addr × Obj)) (s:Shared) (σ : St) (H:Hp) (Q:VK),Inv X pins σ H s->t σ H Q->wpAny (model X.prog X.w) X.A (eval e X.env) (EP X pins σ Q) X.xe s
def PT (X:Cx) (e:Expr) (t:TT):Prop :=
 ∀ (pins:List (Addr × Obj)) (s:Shared) (σ : St) (H:Hp) (Q:Bool->Hp->Prop),Inv X pins σ H s->t σ H Q->wpAny (model X.prog X.w) X.A (isTrue e X.env (eval e X.env)) (TP X pins σ Q) X.xe s
def PW (X:Cx) (e:Expr) (t:TT):Prop :=
 ∀ (whole:Sem Value) (pins:List (Addr × Obj)) (s:Shared) (σ : St) (H:Hp) (Q:Bool->Hp->Prop),Inv X pins σ H s->t σ H Q->wpAny (model X.prog X.w) X.A (isTrue e X.env whole) (TP X pins σ Q) X.xe s
theorem PW.pt {X:Cx} {e:Expr} {t:TT} (h:PW X e t):PT X e t:=h _
def PA (X:Cx) (es:List Expr) (t:TA):Prop :=
 ∀ (pos:Pos) (pins:List (Addr × Obj)) (s:Shared) (σ : St) (H:Hp) (Q:List V->Hp->Prop),Inv X pins σ H s->t σ H Q->wpAny (model X.prog X.w) X.A (spliced (backTo pos (starEach es X.env))) (AP X pins σ Q) X.xe s
def PS (X:Cx) (st:Stmt) (t:TS):Prop :=
 ∀ (pins:List (Addr × Obj)) (s:Shared) (σ : St) (H:Hp) (D:Ends),Inv X pins σ H s->t D σ H->wpAny (model X.prog X.w) X.A (exec st X.env) (SP X pins D) X.xe s
def PSs (X:Cx) (st:List Stmt) (t:TS):Prop :=
 ∀ (pins:List (Addr × Obj)) (s:Shared) (σ : St) (H:Hp) (D:Ends),Inv X pins σ H s->t D σ H->wpAny (model X.prog X.w) X.A (execs st X.env) (SP X pins D) X.xe s
theorem thn {α : Type} {t:Sem α} {Q Q' : α->Shared->Prop} {M:Model} {A:Around} {E:Value->Shared->Prop} {s:Shared} (h:wpAny M A t Q E s) (hQ:∀ a s,Q a s->Q' a s):wpAny M A t Q' E s:=wpAny_mono h hQ fun _ _ x=>x
section
variable {X:Cx}
def tVar (i:Nat):TE:=fun σ H Q=>∃ v,σ[i]?=some (some v)/\Q v H
def tC (v:V):TE:=fun _ H Q=>Q v H
theorem Jj2 {i:Nat} {x:Str} {pos:Pos} (hN:X.N[i]?=some x) (hv:Vis X.env.scope x) (hd:(x == ("__debug__" : Str))=false:=by decide) (hcd:(x == ("__classdict__" : Str))=false:=by decide):PE X (.Name x pos) (tVar i):=by
 intro b s σ H Q I h;obtain ⟨v,e,h⟩:=h;obtain ⟨m,d,f⟩:=I.loc;obtain ⟨u,r,l⟩:=f i x v hN e hv;have a:EP X b σ Q u s:=⟨v,H,I,r,h⟩;rcases l with ⟨hk,hm⟩ | ⟨hk,c,hc,hcell⟩
 ·exact wpAny_Name (wpAny_loadName_local I.ok.kind hk d hm a) hd
 ·rcases hk with hk | hk
  ·exact wpAny_Name (wpAny_loadName_cell I.ok.kind hk hc hcell a) hd
  ·exact wpAny_Name (wpAny_loadName_free I.ok.kind hk hc hcell a hcd) hd
theorem Jae {i j pos}:PE X (.Constant (.int i) j pos) (tC (.int i)):=fun _ _ _ H _ I h=>wpAny_Constant_int ⟨.int i,H,I.tok _,⟨_,rfl⟩,h⟩
theorem pe_bl {b j pos}:PE X (.Constant (.bool b) j pos) (tC (.bl b)):=fun _ _ _ H _ I h=>Constant_bool ⟨.bl b,H,I,rfl,h⟩
theorem JaM {j pos}:PE X (.Constant .none j pos) (tC .non):=fun _ _ _ H _ I h=>Constant_none ⟨.non,H,I,rfl,h⟩
theorem JdE {x j pos}:PE X (.Constant (.str x) j pos) (tC (.str x)):=fun _ _ _ H _ I h=>Calls.Constant_str ⟨.str x,H,I.tok _,⟨_,rfl⟩,h⟩
def Gl (X:Cx) (x:Str):Prop:=X.env.kindOf x=some .globalImplicit
theorem Jdt {E:Value->Shared->Prop} {pins:List (Addr × Obj)} {s:Shared} {σ : St} {H:Hp} {x:Str} {u:Value} {pos:Pos} {Q:Value->Shared->Prop} (I:Inv X pins σ H s) (hg:Gl X x) (hm:X.mg x=some u) (h:Q u s)
  (hd:(x == ("__debug__" : Str))=false:=by decide):wpAny (model X.prog X.w) X.A (eval (.Name x pos) X.env) Q E s :=
 Calls.Name_function_global I.ok.kind hg (Calls.loadGlobal_global (by rw [I.ok.glob];exact I.mod.glob.keeps I.bk) hm h) hd
theorem Jeb {E:Value->Shared->Prop} {pins:List (Addr × Obj)} {s:Shared} {σ : St} {H:Hp} {x:Str} {u:Value} {pos:Pos} {Q:Value->Shared->Prop} (I:Inv X pins σ H s) (hg:Gl X x) (hm:X.mg x=none) (hv:bootBuiltins x=some u) (h:Q u s)
  (hn:x≠"__name__":=by decide) (hd:(x == ("__debug__" : Str))=false:=by decide):wpAny (model X.prog X.w) X.A (eval (.Name x pos) X.env) Q E s:=by
 obtain ⟨c,a,b⟩:=I.mod.blt;exact Calls.Name_function_global I.ok.kind hg (Calls.loadGlobal_builtin (by rw [I.ok.glob];exact I.mod.glob.keeps I.bk) hm (by rw [I.ok.blt];exact a.keeps I.bk) ((b x hn).trans hv) h) hd
theorem Jc2 {x:Str} {v:V} {u:Value} {pos:Pos} (hg:Gl X x) (hm:X.mg x=some u) (r:RelV v u) (hd:(x == ("__debug__" : Str))=false:=by decide):PE X (.Name x pos) (tC v) :=
 fun _ _ _ H _ I h=>Jdt I hg hm ⟨v,H,I,r,h⟩ hd
theorem JcD {x:Str} {v:V} {u:Value} {pos:Pos} (hg:Gl X x) (hm:X.mg x=none) (hv:bootBuiltins x=some u) (r:RelV v u) (hn:x≠"__name__":=by decide) (hd:(x == ("__debug__" : Str))=false:=by decide):PE X (.Name x pos) (tC v) :=
 fun _ _ _ H _ I h=>Jeb I hg hm hv ⟨v,H,I,r,h⟩ hn hd
variable {a b:Expr} {ta tb:TE} {pos:Pos}
def PC (X:Cx) (op:CmpOp) (a b:Expr) (t:TE):Prop :=
 ∀ (pins:List (Addr × Obj)) (s:Shared) (σ : St) (H:Hp) (Q:VK),Inv X pins σ H s->t σ H Q ->
  wpAny (model X.prog X.w) X.A (eval a X.env) (fun v s₁=>wpAny (model X.prog X.w) X.A (eval b X.env) (fun u s₂=>wpAny (model X.prog X.w) X.A (compareOp op v u) (EP X pins σ Q) X.xe s₂) X.xe s₁) X.xe s
def tB (t:TE):TT:=fun σ H Q=>t σ H fun x H1=>∃ c,x=.bl c/\Q c H1
theorem Jcm {op:CmpOp} {t:TE} (h:PC X op a b t) (h1:behindInMarks op b=false:=by first | exact nobehind _ ⋯ ⋯ | rfl):PT X (.Compare a [op] [b] pos) (tB t):=by
 intro e s σ H Q I i;refine wpAny_isTrue_Compare1 (thn (h e s σ H _ I i) fun v m h1=>thn h1 fun u l k=>thn k fun c n ζ=>?_) h1;obtain ⟨x,j,I1,f,g⟩:=ζ;obtain ⟨d,rfl,q⟩:=g;cases f;exact wpAny_truthy_bool ⟨j,I1,q⟩
theorem Jbd {e:Expr} {t:TE} (h:PE X e t) (he:∀ whole,isTrue e X.env whole=(do let v <- whole;standAt e.pos;holding [v] (truthy v)):=by intro _;rfl):PT X e (tB t):=by
 intro a s σ H Q I c;refine isTrue_plain (thn (h a s σ H _ I c) fun v i ζ=>?_) (he _);obtain ⟨x,f,I1,g,b⟩:=ζ;obtain ⟨d,rfl,q⟩:=b;cases g;exact wpAny_truthy_bool ⟨f,I1,q⟩
variable {tA tB':TT} {rest:List Expr}
def tAnd (t u:TT):TT:=fun σ H Q=>t σ H fun c H1=>if c=true then u σ H1 Q else Q false H1
def tOr (t u:TT):TT:=fun σ H Q=>t σ H fun c H1=>if c=true then Q true H1 else u σ H1 Q
def tNot (t:TT):TT:=fun σ H Q=>t σ H fun c H1=>Q (!c) H1
theorem JcE (ha:PT X a tA):PW X (.BoolOp .And [a] pos) tA:=by
 intro f b s σ H Q I h;refine isTrue_and (thn (ha b s σ H Q I h) fun c d e=>?_);cases c with
 | true=>exact isTrue_and_nil e
 | false=>exact e
theorem Jb4 (ha:PT X a tA):PW X (.BoolOp .Or [a] pos) tA:=by
 intro f b s σ H Q I h;refine isTrue_or (thn (ha b s σ H Q I h) fun c d e=>?_);cases c with
 | false=>exact isTrue_or_nil e
 | true=>exact e
theorem JdG (ha:PT X a tA) (hb:PW X (.BoolOp .And (b::rest) pos) tB'):PW X (.BoolOp .And (a::b::rest) pos) (tAnd tA tB'):=by
 intro i d s σ H Q I h;refine isTrue_and (thn (ha d s σ H _ I h) fun c g ⟨f,I1,e⟩=>?_);cases c with
 | true=>exact hb i d g σ f Q I1 e
 | false=>exact ⟨f,I1,e⟩
theorem pw_or (ha:PT X a tA) (hb:PW X (.BoolOp .Or (b::rest) pos) tB'):PW X (.BoolOp .Or (a::b::rest) pos) (tOr tA tB'):=by
 intro i d s σ H Q I h;refine isTrue_or (thn (ha d s σ H _ I h) fun c g ⟨f,I1,e⟩=>?_);cases c with
 | true=>exact ⟨f,I1,e⟩
 | false=>exact hb i d g σ f Q I1 e
theorem JbO (ha:PT X a tA):PT X (.UnaryOp .Not a pos) (tNot tA):=by
 intro b s σ H Q I h;exact isTrue_not (ha b s σ H (fun c d=>Q (!c) d) I h)
def tAndV (ta tb:TE):TE:=fun σ H Q=>ta σ H fun x H1=>∃ c,x=.bl c/\if c=true then tb σ H1 Q else Q (.bl false) H1
def tOrV (ta tb:TE):TE:=fun σ H Q=>ta σ H fun x H1=>∃ c,x=.bl c/\if c=true then Q (.bl true) H1 else tb σ H1 Q
def tNotV (ta:TE):TE:=fun σ H Q=>ta σ H fun x H1=>∃ c,x=.bl c/\Q (.bl (!c)) H1
theorem Jc7 {op} {t:TE} (h:PE X a t):PE X (.BoolOp op [a] pos) t:=fun b s σ H Q I c=>BoolOp_one (h b s σ H Q I c)
theorem Jc6 (ha:PE X a ta) (hb:PE X (.BoolOp .And (b::rest) pos) tb):PE X (.BoolOp .And (a::b::rest) pos) (tAndV ta tb):=by
 intro d s σ H Q I h;refine BoolOp_and (thn (ha d s σ H _ I h) fun v g ζ=>?_);obtain ⟨x,f,I1,i,e⟩:=ζ;obtain ⟨c,rfl,e⟩:=e;cases i;refine wpAny_truthy_bool ?_;cases c with
 | true=>exact hb d g σ f Q I1 e
 | false=>exact ⟨.bl false,f,I1,rfl,e⟩
theorem pe_or (ha:PE X a ta) (hb:PE X (.BoolOp .Or (b::rest) pos) tb):PE X (.BoolOp .Or (a::b::rest) pos) (tOrV ta tb):=by
 intro d s σ H Q I h;refine BoolOp_or (thn (ha d s σ H _ I h) fun v g ζ=>?_);obtain ⟨x,f,I1,i,e⟩:=ζ;obtain ⟨c,rfl,e⟩:=e;cases i;refine wpAny_truthy_bool ?_;cases c with
 | false=>exact hb d g σ f Q I1 e
 | true=>exact ⟨.bl true,f,I1,rfl,e⟩
theorem Jhx (ha:PE X a ta):PE X (.UnaryOp .Not a pos) (tNotV ta):=by
 intro b s σ H Q I h;refine UnaryOp_ (thn (ha b s σ H _ I h) fun v g ζ=>?_);obtain ⟨x,e,I1,f,d⟩:=ζ;obtain ⟨c,rfl,d⟩:=d;cases f;exact not_of (wpAny_truthy_bool ⟨.bl (!c),e,I1,rfl,d⟩)
def tIf (t:TT) (ta tb:TE):TE:=fun σ H Q=>t σ H fun c H1=>if c=true then ta σ H1 Q else tb σ H1 Q
end
def SqL (K:W.Frag) (H:Hp) (a:Addr) (xs:List V):Prop :=
 Rd H a (.lst xs) \/
  ∃ (o:Obj) (its:Array Value) (n:Nat),K.lookup a=some o/\o.cls=.type "list"/\o.dict=none/\o.data=.seq its n/\its.size<=sizeLine/\Vals xs its.toList
def SqT (K:W.Frag) (H:Hp) (a:Addr) (xs:List V):Prop :=
 Rd H a (.tup xs) \/
  ∃ (o:Obj) (its:Array Value) (n:Nat),K.lookup a=some o/\o.cls=.type "tuple"/\o.data=.seq its n/\its.size<=sizeLine/\Vals xs its.toList
def absV:Value->Option V
 | .none=>some .non
 | .bool b=>some (.bl b)
 | .int i _=>some (.int i)
 | .str x _=>some (.str x)
 | .bytes b _=>some (.byt b)
 | .float b _=>some (.flt b)
 | .ref a=>some (.ref a)
 | .type n=>some (.ty n)
 | _=>none
theorem RelV.abs {x:V} {u:Value} (r:RelV x u):absV u=some x:=by
 cases x with
 | non=>cases r;rfl
 | bl _=>cases r;rfl
 | int _=>obtain ⟨t,rfl⟩:=r;rfl
 | str _=>obtain ⟨t,rfl⟩:=r;rfl
 | byt _=>obtain ⟨t,rfl⟩:=r;rfl
 | flt _=>obtain ⟨t,rfl⟩:=r;rfl
 | ref _=>cases r;rfl
 | ty _=>cases r;rfl
theorem RelV.inj {x y:V} {u:Value} (r:RelV x u) (q:RelV y u):x=y:=Option.some.inj (r.abs.symm.trans q.abs)
theorem Vals.inj:∀ {xs ys:List V} {us:List Value},Vals xs us->Vals ys us->xs=ys
 | _,_,_, .nil, .nil=>rfl
 | _,_,_, .cons r t, .cons r' t'=>by rw [r.inj r',Vals.inj t t']
section
variable {X:Cx} {pins:List (Addr × Obj)} {σ : St} {H:Hp} {s:Shared} {a:Addr} {xs ys:List V}
theorem SqL.of {K:W.Frag} (h:H a=some (.lst xs)):SqL K H a xs:=.inl (.inl h)
theorem SqT.of {K:W.Frag} (h:H a=some (.tup xs)):SqT K H a xs:=.inl (.inl h)
theorem Inv.list (I:Inv X pins σ H s) (h:SqL X.K H a xs):∃ its:List Value,Vals xs its/\PlainL s.heap a its.toArray/\xs.length<=sizeLine:=by
 rcases h with h | ⟨o,its,n,hk,hc,hd,hs,hz,r⟩
 ·obtain ⟨z,its,n,r,e⟩:=h.ok I.hok;exact ⟨its,r,⟨_,n,e,rfl,rfl,rfl⟩,z⟩
 ·refine ⟨its.toList,r,⟨o,n,I.kIn a o hk,hc,hd,by simpa using hs⟩,?_⟩;have e:=r.length;simp only [Array.length_toList] at e;ac_nf
theorem Inv.tuple (I:Inv X pins σ H s) (h:SqT X.K H a xs):∃ its:List Value,Vals xs its/\IsTup s.heap a its.toArray/\xs.length<=sizeLine:=by
 rcases h with h | ⟨o,its,n,hk,hc,hs,hz,r⟩
 ·obtain ⟨z,its,r,p⟩:=h.ok I.hok;exact ⟨its,r,p,z⟩
 ·refine ⟨its.toList,r,⟨o,I.kIn a o hk,hc,n,by simpa using hs⟩,?_⟩;have e:=r.length;simp only [Array.length_toList] at e;ac_nf
theorem Inv.list_inj (I:Inv X pins σ H s) (h:SqL X.K H a xs) (h':SqL X.K H a ys):xs=ys:=by
 obtain ⟨c,r,⟨o,n,e,_,_,d⟩,_⟩:=I.list h;obtain ⟨b,i,⟨j,k,f,_,_,g⟩,_⟩:=I.list h';rw [e] at f;cases f;rw [d] at g;injection g with d1 _
 have : c=b:=by simpa using congrArg Array.toList d1
 subst this;exact r.inj i
theorem Inv.tuple_inj (I:Inv X pins σ H s) (h:SqT X.K H a xs) (h':SqT X.K H a ys):xs=ys:=by
 obtain ⟨c,r,⟨o,e,_,n,d⟩,_⟩:=I.tuple h;obtain ⟨b,i,⟨j,f,_,k,g⟩,_⟩:=I.tuple h';rw [e] at f;cases f;rw [d] at g;injection g with d1 _
 have : c=b:=by simpa using congrArg Array.toList d1
 subst this;exact r.inj i
end
abbrev Cx.wish (X:Cx) (E:Value->Shared->Prop):Cx:={ X with xe:=E }
abbrev Cx.nox (X:Cx):Cx:=X.wish fun _ _=>False
theorem Cx.Ok.wish {X:Cx} (ok:X.Ok) (E:Value->Shared->Prop):(X.wish E).Ok :=
 ⟨ok.mod,ok.kind,ok.glob,ok.blt,ok.above,ok.inj,ok.has,ok.cab,ok.hd,ok.frames,ok.stk,ok.exf,ok.bs,ok.bsz,ok.noex,ok.exfs,ok.funs,ok.frf⟩
theorem Cx.Ok.unwish {X:Cx} {E:Value->Shared->Prop} (ok:(X.wish E).Ok):X.Ok :=
 ⟨ok.mod,ok.kind,ok.glob,ok.blt,ok.above,ok.inj,ok.has,ok.cab,ok.hd,ok.frames,ok.stk,ok.exf,ok.bs,ok.bsz,ok.noex,ok.exfs,ok.funs,ok.frf⟩
section
variable {X:Cx} {pins:List (Addr × Obj)} {σ : St} {H:Hp} {s:Shared} {E:Value->Shared->Prop}
theorem Inv.wish (I:Inv X pins σ H s) (E:Value->Shared->Prop):Inv (X.wish E) pins σ H s:=⟨I.ok.wish E,I.os,I.bare,I.base,I.loc,I.cell,I.free,I.freeC,I.pin,I.hok,I.len⟩
theorem Inv.unwish (I:Inv (X.wish E) pins σ H s):Inv X pins σ H s:=⟨I.ok.unwish,I.os,I.bare,I.base,I.loc,I.cell,I.free,I.freeC,I.pin,I.hok,I.len⟩
theorem SP.unwish {D:Ends} {f:Flow} {s':Shared} (h:SP (X.wish E) pins D f s'):SP X pins D f s':=by
 cases f with
 | next=>obtain ⟨σ',a,I,q⟩:=h;exact ⟨σ',a,I.unwish,q⟩
 | brk=>obtain ⟨σ',a,I,q⟩:=h;exact ⟨σ',a,I.unwish,q⟩
 | cont=>obtain ⟨σ',a,I,q⟩:=h;exact ⟨σ',a,I.unwish,q⟩
 | ret u=>obtain ⟨v,σ',a,I,r,q⟩:=h;exact ⟨v,σ',a,I.unwish,r,q⟩
theorem PSs.nox {st:List Stmt} {t:TS} (h:PSs X.nox st t):PSs X st t:=fun a s σ H D I b=>
 wpAny_mono (h a s σ H D (I.wish _) b) (fun _ _ q=>q.unwish) fun _ _ z=>False.elim z
end
section
variable {X:Cx} {st:Stmt} {rest:List Stmt} {t u:TS} {e:Expr} {te:TE} {pos:Pos}
def tNext:TS:=fun D σ H=>D.nx σ H
def tSeq (t u:TS):TS:=fun D σ H=>t { D with nx:=u D } σ H
theorem Jap:PSs X [] tNext:=fun _ _ σ H _ I h=>wpAny_execs_nil ⟨σ,H,I,h⟩
theorem Jab (h1:PS X st t) (h2:PSs X rest u):PSs X (st::rest) (tSeq t u):=by
 intro a s σ H D I h;refine wpAny_execs_cons (thn (h1 a s σ H { D with nx:=u D } I h) fun f b q=>?_);cases f with
 | next=>
  obtain ⟨σ',c,I',q⟩:=q;exact h2 a b σ' c D I' q
 | ret v=>exact q
 | brk=>exact q
 | cont=>exact q
theorem Jag (h1:PS X st t):PSs X [st] t:=by
 intro a s σ H D I h;refine wpAny_execs_cons (thn (h1 a s σ H D I h) fun f b q=>?_);cases f with
 | next=>exact wpAny_execs_nil q
 | ret v=>exact q
 | brk=>exact q
 | cont=>exact q
theorem Inv.quiet {pins:List (Addr × Obj)} {σ : St} {H:Hp} {s:Shared} (I:Inv X pins σ H s):interactive X.env=false:=by simp [interactive,I.ok.kind]
def tDrop (te:TE):TS:=fun D σ H=>te σ H fun _ H1=>D.nx σ H1
theorem Jbh (he:PE X e te) (hs:swapsWith e none pos.line X.env=pure false:=by rfl):PS X (.Expr e pos) (tDrop te):=by
 intro a s σ H D I h;exact wpAny_Expr_any (thn (he a s σ H _ I h) fun v d ⟨x,c,I1,f,b⟩=>⟨σ,c,I1,b⟩) I.quiet hs
def tRet (te:TE):TS:=fun D σ H=>te σ H D.rt
theorem Jam (he:PE X e te):PS X (.Return (some e) pos) (tRet te):=by
 intro a s σ H D I h;exact wpAny_Return_some (thn (he a s σ H _ I h) fun v f ⟨x,c,I1,d,b⟩=>⟨x,σ,c,I1,d,b⟩)
def tRetN:TS:=fun D _ H=>D.rt .non H
def tIfS (c:TT) (t u:TS):TS:=fun D σ H=>c σ H fun b H1=>if b=true then t D σ H1 else u D σ H1
theorem ps_if {c:Expr} {a b:List Stmt} {tc:TT} (hc:PT X c tc) (ha:PSs X a t) (hb:PSs X b u):PS X (.If c a b pos) (tIfS tc t u):=by
 intro e s σ H D I h;refine wpAny_If (thn (hc e s σ H _ I h) fun d f ⟨i,I1,g⟩=>?_);cases d with
 | true=>exact ha e f σ i D I1 g
 | false=>exact hb e f σ i D I1 g
end
abbrev TG:=V->St->Hp->(St->Hp->Prop)->Prop
abbrev TGs:=List V->St->Hp->(St->Hp->Prop)->Prop
def PG (X:Cx) (target:Expr) (t:TG):Prop :=
 ∀ (pins:List (Addr × Obj)) (s:Shared) (σ : St) (H:Hp) (v:V) (u:Value) (Q:St->Hp->Prop),Inv X pins σ H s->RelV v u->t v σ H Q ->
  wpAny (model X.prog X.w) X.A (assign target X.env u) (fun _ s'=>∃ σ' H',Inv X pins σ' H' s'/\Q σ' H') X.xe s
def PGs (X:Cx) (ts:List Expr) (t:TGs):Prop :=
 ∀ (pins:List (Addr × Obj)) (s:Shared) (σ : St) (H:Hp) (vs:List V) (us:List Value) (Q:St->Hp->Prop),Inv X pins σ H s->Vals vs us->t vs σ H Q ->
  wpAny (model X.prog X.w) X.A (assignInOrder ((assignEach ts X.env).map (·.2)) us) (fun _ s'=>∃ σ' H',Inv X pins σ' H' s'/\Q σ' H') X.xe s
abbrev TSet:=V->V->V->Hp->(Hp->Prop)->Prop
def PSet (X:Cx) (t:TSet):Prop :=
 ∀ (pins:List (Addr × Obj)) (s:Shared) (σ : St) (H:Hp) (o i v:V) (ov iv u:Value) (Q:Hp->Prop),Inv X pins σ H s->RelV o ov->RelV i iv->RelV v u->t o i v H Q ->
  wpAny (model X.prog X.w) X.A (setItem ov iv u) (fun _ s'=>∃ H',Inv X pins σ H' s'/\Q H') X.xe s
section
variable {X:Cx} {pos:Pos}
def gName (i:Nat):TG:=fun v σ H Q=>Q (σ.set i (some v)) H
theorem Jas {i:Nat} {x:Str} (hN:X.N.Nodup) (hi:X.N[i]?=some x) (hx:Loc X.env.scope x) (hf:X.fn x=true\/X.env.scope.names.lookup x=some .local:=by first | exact .inl rfl | exact .inr rfl | assumption):PG X (.Name x pos) (gName i):=by
 intro a s σ H v u Q I r h;exact wpAny_assign_Name (Jdh I hN hi hx r (fun b I'=>⟨_,H,I',h⟩) hf)
def gNil:TGs:=fun vs σ H Q=>vs=[]/\Q σ H
def gCons (t:TG) (u:TGs):TGs:=fun vs σ H Q=>∃ v r,vs=v::r/\t v σ H fun σ' H'=>u r σ' H' Q
theorem JeI:PGs X [] gNil:=by
 intro a s σ H b c Q I r h;obtain ⟨e,h⟩:=h;subst e;cases r;exact assignInOrder_nil ⟨σ,H,I,h⟩
theorem JaV {e:Expr} {es:List Expr} {t:TG} {u:TGs} (h1:PG X e t) (h2:PGs X es u)
  (hs:(assignEach (e::es) X.env).map (·.2)=assign e X.env::(assignEach es X.env).map (·.2):=by rfl):PGs X (e::es) (gCons t u):=by
 intro a s σ H i j Q I r h;obtain ⟨v,g,f,h⟩:=h;subst f;cases r with
 | cons r rr=>
  rw [hs];refine assignInOrder_cons (thn (h1 a s σ H _ _ _ I r h) fun _ b ⟨σ1,d,I1,c⟩=>?_);exact h2 a b σ1 d _ _ Q I1 rr c
def gTup (K:W.Frag) (n:Nat) (t:TGs):TG:=fun v σ H Q=>∃ a xs,v=.ref a/\SqT K H a xs/\xs.length=n/\t xs σ H Q
theorem Jhy {es:List Expr} {k:Nat} {t:TGs} {n:Nat} (hc:X.calm=true) (h:PGs X es t)
  (hn:(assignEach es X.env).length=n:=by rfl) (hst:(assignEach es X.env).findIdx? (·.1)=none:=by rfl):PG X (.Tuple es k pos) (gTup X.K n t):=by
 intro c s σ H v u Q I r d;obtain ⟨a,l,j,g,m,d⟩:=d;subst j;cases r;obtain ⟨i,f,q,x⟩:=I.tuple g;refine assign_Tuple_tuple (I.ok.hd hc) q (by simp [hn, <- m,f.length]) hst fun w p=>?_;have I1:Inv X c σ H { s with heap:=w }:=I.kept (t':=s.toks) fun b o e=>p b o (Nat.ne_of_lt (Heap.lt_size e)) e;exact h c _ σ H l _ Q I1 (by simpa using f) d
def gSub (to ti:TE) (t:TSet):TG:=fun v σ H Q=>to σ H fun o H1=>ti σ H1 fun i H2=>t o i v H2 fun H3=>Q σ H3
theorem Jj3 {o i:Expr} {to ti:TE} {t:TSet} (ho:PE X o to) (hi:PE X i ti) (hs:PSet X t)
  (ha:∀ v,assign (.Subscript o i pos) X.env v=(do
   let ov <- holding [v] (eval o X.env)
   let iv <- holding [v,ov] (eval i X.env)
   standAt pos
   holding [v,ov,iv] (setItem ov iv v)
   release [v,ov,iv] []):=by intro _;rfl):PG X (.Subscript o i pos) (gSub to ti t):=by
 intro a s σ H v u Q I r h;rw [ha];refine wpAny_bind (wpAny_holding (thn (ho a s σ H _ I h) fun ov d ζ=>?_));obtain ⟨x,j,I1,c,f⟩:=ζ;refine wpAny_bind (wpAny_holding (thn (hi a d σ j _ I1 f) fun iv b ζ=>?_));obtain ⟨y,g,I2,l,k⟩:=ζ;refine wpAny_bind (wpAny_standAt (wpAny_bind (wpAny_holding (thn (hs a b σ g x y v ov iv u _ I2 c l r k) fun _ n ⟨e,I3,m⟩=>?_))));exact wpAny_release ⟨σ,e,I3,m⟩
def tAsg (te:TE) (g:TG):TS:=fun D σ H=>te σ H fun x H1=>g x σ H1 D.nx
theorem Jj6 {tg e:Expr} {te:TE} {g:TG} (he:PE X e te) (hg:PG X tg g) (hs:swapsWithSole [tg] e pos.line X.env=pure false:=by rfl) (hw:swappedStores [tg] e X.env=pure none:=by rfl)
  (h1:(assignEach [tg] X.env).map (·.2)=[assign tg X.env]:=by rfl):PS X (.Assign [tg] e pos) (tAsg te g):=by
 intro a s σ H D I h;refine wpAny_Assign_stores (thn (he a s σ H _ I h) fun v b ζ=>?_) hs hw;obtain ⟨x,d,I1,f,c⟩:=ζ;rw [h1];exact thn (hg a b σ d x v _ I1 f c) fun _ i q=>q
theorem Jaj {i:Nat} {x:Str} {e:Expr} {te:TE} {pos':Pos} (hN:X.N.Nodup) (hi:X.N[i]?=some x) (hx:Loc X.env.scope x) (he:PE X e te) (hs:swapsWith e (some (.Name x pos')) pos.line X.env=pure false:=by rfl) (hf:X.fn x=true\/X.env.scope.names.lookup x=some .local:=by first | exact .inl rfl | exact .inr rfl | assumption) :
  PS X (.Assign [.Name x pos'] e pos) (tAsg te (gName i)):=by
 intro a s σ H D I h;refine wpAny_Assign_Name (thn (he a s σ H _ I h) fun v f ζ=>?_) hs;obtain ⟨y,c,I1,d,b⟩:=ζ;exact Jdh I1 hN hi hx d (fun g I2=>⟨_,c,I2,b⟩) hf
def tPar (i j:Nat) (ta:TA):TS:=fun D σ H=>ta σ H fun vs H1=>∃ v w,vs=[v,w]/\D.nx ((σ.set i (some v)).set j (some w)) H1
theorem Jj7 {i j:Nat} {x y:Str} {a b:Expr} {ta:TA} {px py pt:Pos} {kt k2 pt2} (hc:X.calm=true) (hN:X.N.Nodup) (hi:X.N[i]?=some x) (hj:X.N[j]?=some y) (hij:i≠j)
  (hx:X.env.scope.names.lookup x=some .local) (hy:X.env.scope.names.lookup y=some .local) (ha:PA X [a,b] ta)
  (hw:swappedStores [.Tuple [.Name x px, .Name y py] kt pt] (.Tuple [a,b] k2 pt2) X.env=pure (some [x,y]))
  (hs:swapsWithSole [.Tuple [.Name x px, .Name y py] kt pt] (.Tuple [a,b] k2 pt2) pos.line X.env=pure false:=by rfl) :
  PS X (.Assign [.Tuple [.Name x px, .Name y py] kt pt] (.Tuple [a,b] k2 pt2) pos) (tPar i j ta):=by
 intro c s σ H D I h;rw [exec_Assign_arm];refine wpAny_bind (wpAny_standAt ?_);rw [hs];refine wpAny_bind (wpAny_pure ?_);rw [if_neg ⋯];refine wpAny_bind (Tuple_ (thn (ha _ c s σ H _ I h) fun r f ζ=>?_));obtain ⟨C,n,I1,t,k⟩:=ζ;obtain ⟨v,w,u,k⟩:=k;subst u;obtain ⟨d,g,rfl,z,m⟩:∃ d g,r=[d,g]/\RelV v d/\RelV w g:=by
  cases t with
  | cons p q=>
   cases q with
   | cons p' q'=>
    cases q';exact ⟨_,_,rfl,p,p'⟩
 refine wpAny_newObj_type ?_ (by show 2<=sizeLine;decide);have I2:Inv X c σ n { f with heap:=f.heap.push { cls:=.type "tuple",data:=.seq [d,g].toArray } }:=I1.kept (t':=f.toks) fun b o e=>Heap.get?_push_of_some _ e;rw [hw];refine wpAny_bind (wpAny_pure ?_);show wpAny (model X.prog X.w) X.A (do rule "assign.swapped-stores";let items <- unpackItems (.ref f.heap.objs.size) 2 none;assignInOrder [fun v=>bindName X.env y v,fun v=>bindName X.env x v] items.reverse;pure Flow.next) _ _ _;refine wpAny_bind (wpAny_rule (wpAny_bind (unpackItems_tuple (items:=#[d,g]) (I.ok.hd hc) (IsTup.new f.heap _) fun h' l=>?_)));have I3:=I2.kept (h':=h') (t':=f.toks) fun b o e=>l b o (Nat.ne_of_lt (Heap.lt_size e)) e;show wpAny _ _ (assignInOrder [fun v=>bindName X.env y v,fun v=>bindName X.env x v] [g,d] >>= fun _=>pure Flow.next) _ _ _;refine wpAny_bind (assignInOrder_cons (wpAny_bindName (Jdh I3 hN hj (.inl hy) m (fun B I4=>?_) (.inr hy))));refine assignInOrder_cons (wpAny_bindName (Jdh I4 hN hi (.inl hx) z (fun E I5=>assignInOrder_nil (wpAny_pure ?_)) (.inr hx)));rw [List.set_comm _ _ (Ne.symm hij)] at I5;exact ⟨_,n,I5,k⟩
end
section
variable {X:Cx} {pos:Pos}
def Jko (c:TT) (tb:TS):TS:=fun D σ H=>∃ W:Nat->St->Hp->Prop,(∃ m,W m σ H)/\∀ m σ H,W m σ H ->
 c σ H fun b H1=>if b=true then ∃ N:St->Hp->Prop,(∀ σ' H',N σ' H'->∃ m',m'<m/\W m' σ' H')/\tb { D with nx:=N,ct:=N,bk:=D.nx } σ H1 else D.nx σ H1
theorem JeJ {c:Expr} {body:List Stmt} {tc:TT} {tb:TS} (hp:PassesOwn (model X.prog X.w) X.A X.env X.xe) (hc:PT X c tc) (hb:PSs X body tb):PS X (.While c body [] pos) (Jko tc tb):=by
 intro a s σ H D I h;obtain ⟨W,⟨r,z⟩,e⟩:=h;refine wpAny_While (codeAny_whileLoop (fun n t=>∃ σ' H',Inv X a σ' H' t/\W n σ' H') ?_ r ⟨σ,H,I,z⟩);rintro n x ⟨σ1,q,I1,y⟩;refine wpAny_passesOwn hp (thn (hc a x σ1 q _ I1 (e n σ1 q y)) fun b u ⟨p,I2,g⟩=>?_);cases b with
 | true=>
  obtain ⟨N,o,g⟩:=g;rw [if_pos rfl];refine wpAny_passesOwn hp (thn (hb a u σ1 p _ I2 g) fun f B i=>?_);cases f with
  | next=>
   obtain ⟨σ3,d,I3,l⟩:=i;obtain ⟨j,m,k⟩:=o σ3 d l;exact ⟨j,m,σ3,d,I3,k⟩
  | cont=>
   obtain ⟨σ3,d,I3,l⟩:=i;obtain ⟨j,m,k⟩:=o σ3 d l;exact ⟨j,m,σ3,d,I3,k⟩
  | brk=>exact i
  | ret v=>exact i
 | false=>
  rw [if_neg Bool.false_ne_true];exact wpAny_execs_nil ⟨σ1,p,I2,g⟩
end
structure It where
 go:Nat->Hp->Prop
 yld:Nat->Hp->V->Hp->Prop
 stop:Nat->Hp->Prop
def FpOk (X:Cx) (pins:List (Addr × Obj)) (H:Hp) (b:Addr):Prop :=
 H b=none/\b≠X.env.locals/\b∉X.fs/\(b∈X.ex\/X.s₀.heap.objs.size<=b)/\(∀ x c,X.env.cells.lookup x=some c->c≠b)/\∀ p∈X.pn++pins,p.1≠b
theorem Inv.fpOk {X:Cx} {pins:List (Addr × Obj)} {σ : St} {H H':Hp} {s:Shared} {b:Addr} (I:Inv X pins σ H s) (hb:s.heap.objs.size<=b) (hn:H' b=none):FpOk X pins H' b:=by
 refine ⟨hn,Nat.ne_of_gt (Nat.lt_of_lt_of_le I.lt hb),I.nofs hb, .inr (Nat.le_trans I.sz hb),fun x c e z=>?_,fun p a z=>?_⟩
 ·obtain ⟨v,q⟩:=I.cell x c e;exact absurd (Nat.lt_of_lt_of_le q.lt (by rw [z];exact hb)) (Nat.lt_irrefl _)
 ·exact absurd (Nat.lt_of_lt_of_le (Heap.lt_size (I.pin p a).1) (by rw [z];exact hb)) (Nat.lt_irrefl _)
structure Turn (P:Program) (w:World) (K:W.Frag) (tg:Expr) (J:It) (fp:List Addr) (it:Addr) (tn:Nat->Heap->Prop):Prop where
 mem:it∈fp
 obj:∀ i h,tn i h->∀ b∈fp, ∃ o,h.get? b=some o/\∀ v,o.data≠.cell v
 keep:∀ i h h',tn i h->(∀ b∈fp, ∀ o,h.get? b=some o->h'.get? b=some o)->tn i h'
 item:∀ (X:Cx),X.prog=P->X.w=w->X.K=K->X.calm=true->∀ (i:Nat) (pins:List (Addr × Obj)) (s:Shared) (σ : St) (H:Hp) (E:Value->Shared->Prop),Inv X pins σ H s->(∀ b∈fp,FpOk X pins H b)->tn i s.heap->J.go i H ->
  wpAny (model P w) X.A (pyNext (.ref it)) (fun r s1=>∃ u,r=some u /\
   wpAny (model P w) X.A (letOwnedTupleGo tg (.ref it) u) (fun _ s2=>∃ x H',Inv X pins σ H' s2/\RelV x u/\J.yld i H x H'/\tn (i+1) s2.heap/\∀ b∈fp,H' b=none) E s1) E s
 done:∀ (X:Cx),X.prog=P->X.w=w->X.K=K->X.calm=true->∀ (i:Nat) (pins:List (Addr × Obj)) (s:Shared) (σ : St) (H:Hp) (E:Value->Shared->Prop),Inv X pins σ H s->(∀ b∈fp,FpOk X pins H b)->tn i s.heap->J.stop i H ->
  wpAny (model P w) X.A (pyNext (.ref it)) (fun r s1=>r=none/\Inv X pins σ H s1) E s
 self:∀ (A:Around) (i:Nat) (s:Shared) (Q:Value->Shared->Prop) (E:Value->Shared->Prop),tn i s.heap->Q (.ref it) s->wpAny (model P w) A (pyIter (.ref it)) Q E s
abbrev TI:=St->Hp->(It->Hp->Prop)->Prop
def PIE (X:Cx) (pins:List (Addr × Obj)) (σ : St) (tg:Expr) (R:It->Hp->Prop) (itv:Value) (s2:Shared):Prop :=
 ∃ (it:Addr) (fp:List Addr) (tn:Nat->Heap->Prop) (J:It) (H':Hp),itv=.ref it/\Inv X pins σ H' s2/\Turn X.prog X.w X.K tg J fp it tn/\tn 0 s2.heap/\(∀ b∈fp,FpOk X pins H' b)/\R J H'
def PI (X:Cx) (tg iter:Expr) (wi:TI):Prop :=
 ∀ (pins:List (Addr × Obj)) (s:Shared) (σ : St) (H:Hp) (R:It->Hp->Prop),Inv X pins σ H s->wi σ H R ->
  wpAny (model X.prog X.w) X.A (eval iter X.env) (fun v s1=>wpAny (model X.prog X.w) X.A (pyIter v) (PIE X pins σ tg R) X.xe s1) X.xe s
theorem go_of {M:Model} {A:Around} {E:Value->Shared->Prop} {s:Shared} {tg:Expr} {it:Addr} {u:Value} {o:Obj} {n:String} {vs:Array Value} {Q:Unit->Shared->Prop} (ho:s.heap.get? it=some o) (hc:o.cls=.type n) (hd:o.data=.fields vs)
    (hn:["enumerate","zip","dict_itemiterator","dict_reverseitemiterator","odict_iterator","itertools.zip_longest","itertools.pairwise"].contains n=false) (hQ:Q () s):wpAny M A (letOwnedTupleGo tg (.ref it) u) Q E s:=by
  unfold letOwnedTupleGo;cases tg <;> first
    | exact wpAny_pure hQ
    | (cases u <;> first
        | exact wpAny_pure hQ
        | (refine wpAny_bind (wpAny_load ho ?_)
           rw [hc,hd];show wpAny M A (if (["enumerate","zip","dict_itemiterator","dict_reverseitemiterator","odict_iterator","itertools.zip_longest","itertools.pairwise"].contains n&&vs[0]? == some (rawInt _))=true then _ else _) Q E s;rw [if_neg (by intro h;rw [hn,Bool.false_and] at h;cases h)];exact wpAny_pure hQ))
def Itl (K:W.Frag) (a:Addr):It :=
 ⟨fun i H=>∃ xs x,SqL K H a xs/\xs[i]?=some x,fun i H x H'=>H'=H/\∀ xs,SqL K H a xs->xs[i]?=some x,fun i H=>∃ xs,SqL K H a xs/\xs.length<=i⟩
def Itt (K:W.Frag) (a:Addr):It :=
 ⟨fun i H=>∃ xs x,SqT K H a xs/\xs[i]?=some x,fun i H x H'=>H'=H/\∀ xs,SqT K H a xs->xs[i]?=some x,fun i H=>∃ xs,SqT K H a xs/\xs.length<=i⟩
def Itr (lo:Int) (n:Nat):It:=⟨fun i _=>i<n,fun i H x H'=>H'=H/\x=.int (lo+i),fun i _=>n<=i⟩
theorem JhP {P:Program} {w:World} {K:W.Frag} {tg:Expr} (a it:Addr):Turn P w K tg (Itl K a) [it] it (fun i h=>h.IsListIter it a i) where
 mem:=by simp
 obj:=fun i h f b j=>by
  have e:b=it:=by simpa using j
  subst e;obtain ⟨o,e,c,d⟩:=f;exact ⟨o,e,fun v z=>by rw [d] at z;cases z⟩
 keep:=fun i h q f k=>f.at fun o e=>k it (by simp) o e
 item:=by
  intro X M C A N i g s σ H E I n f t;subst M C A;obtain ⟨R,x,m,L⟩:=t;obtain ⟨D,G,p,U⟩:=I.list m;obtain ⟨u,V,O⟩:=G.get L;obtain ⟨F,J,Y,B,r,y⟩:=n it (by simp);refine wpAny_pyNext_list_item f p.isList (x:=u) (by simpa using V) fun q l S=>?_;have I1:Inv X g σ H { s with heap:=q }:=I.turned (t':=s.toks) (fun b o j e=>(S.2 b j).trans e) F J B r y;obtain ⟨o,e,c,d⟩:=id l;exact ⟨u,rfl,go_of (s:={ s with heap:=q }) e c d ⋯ ⟨x,H,I1,O,⟨rfl,fun Z Q=>by rw [I.list_inj Q m];exact L⟩,l,fun b j=>(n b j).1⟩⟩
 done:=by
  intro X M C A N i g s σ H E I n f t;subst M C A;obtain ⟨R,m,L⟩:=t;obtain ⟨D,G,p,U⟩:=I.list m;obtain ⟨F,J,Y,B,r,y⟩:=n it (by simp);have hl:=G.length;exact wpAny_pyNext_list_end (I.ok.hd N) f p.isList (by simp;ac_nf) fun q T=>⟨rfl,I.turned (t':=s.toks) (fun b o j e=>T b o j e) F J B r y⟩
 self:=fun _ _ _ _ _ f h=>wpAny_pyIter_listiter f h
theorem JgJ {P:Program} {w:World} {K:W.Frag} {tg:Expr} (a it:Addr):Turn P w K tg (Itt K a) [it] it (fun i h=>h.IsTupleIter it a i) where
 mem:=by simp
 obj:=fun i h f b l=>by
  have e:b=it:=by simpa using l
  subst e;obtain ⟨o,e,c,d⟩:=f;exact ⟨o,e,fun v z=>by rw [d] at z;cases z⟩
 keep:=fun i h r f k=>f.at fun o e=>k it (by simp) o e
 item:=by
  intro X M D B N i g s σ H E I q f y;subst M D B;obtain ⟨R,x,n,L⟩:=y;obtain ⟨j,G,p,U⟩:=I.tuple n;obtain ⟨u,V,O⟩:=G.get L;obtain ⟨F,J,Y,C,t,A⟩:=q it (by simp);refine wpAny_pyNext_tuple_item f (show s.heap.IsTuple a j.toArray from p) (x:=u) (by simpa using V) fun r m S=>?_;have I1:Inv X g σ H { s with heap:=r }:=I.turned (t':=s.toks) (fun b o l e=>(S.2 b l).trans e) F J C t A;obtain ⟨o,e,c,d⟩:=id m;exact ⟨u,rfl,go_of (s:={ s with heap:=r }) e c d ⋯ ⟨x,H,I1,O,⟨rfl,fun Z Q=>by rw [I.tuple_inj Q n];exact L⟩,m,fun b l=>(q b l).1⟩⟩
 done:=by
  intro X M D B N i g s σ H E I q f y;subst M D B;obtain ⟨R,n,L⟩:=y;obtain ⟨j,G,p,U⟩:=I.tuple n;obtain ⟨F,J,Y,C,t,A⟩:=q it (by simp);have hl:=G.length;exact wpAny_pyNext_tuple_end (I.ok.hd N) f (show s.heap.IsTuple a j.toArray from p) (by simp;ac_nf) fun r T=>⟨rfl,I.turned (t':=s.toks) (fun b o l e=>T b o l e) F J C t A⟩
 self:=fun _ _ _ _ _ f h=>wpAny_pyIter_tupleiter f h
theorem JgI {P:Program} {w:World} {K:W.Frag} {tg:Expr} (it:Addr) (lo:Int) (n:Nat):Turn P w K tg (Itr lo n) [it] it (fun i h=>IsRangeIter h it (lo+(i:Nat)*1) ((n:Int)-(i:Nat)) 1) where
 mem:=by simp
 obj:=fun i h a b d=>by
  have e:b=it:=by simpa using d
  subst e;exact ⟨_,a,fun v z=>by
   have J:Data.fields _=Data.cell v:=z;cases J⟩
 keep:=fun i h j a k=>k it (by simp) _ a
 item:=by
  intro X B u q A i c s σ H E I g a m;subst B u q;obtain ⟨x,y,G,r,l,p⟩:=g it (by simp);have W:=Walks.range (prog:=X.prog) (w:=X.w) (I.ok.hd A) it lo 1 n;refine W.item i s _ _ m a fun v j C F f L=>?_;obtain ⟨t,rfl⟩:=F;have I1:Inv X c σ H { s with heap:=j,toks:=C }:=I.turned (fun b o d e=>L b o (by simpa using d) e) x y r l p;refine ⟨_,rfl,go_of (s:={ s with heap:=j,toks:=C }) (n:="range_iterator") f rfl rfl ⋯ ⟨.int (lo+i),H,I1,⟨t,?_⟩,⟨rfl,rfl⟩,f,fun b d=>(g b d).1⟩⟩;rw [Int.mul_one]
 done:=by
  intro X B u q A i c s σ H E I g a m;subst B u q;obtain ⟨x,y,G,r,l,p⟩:=g it (by simp);exact wpAny_pyNext_range_end (I.ok.hd A) a (by have : n<=i:=m;ac_nf) fun j D=>⟨rfl,I.turned (t':=s.toks) (fun b o d e=>D b o d e) x y r l p⟩
 self:=fun _ _ _ _ _ a h=>wpAny_pyIter_rangeiter a h
section
variable {X:Cx} {tg:Expr}
theorem Jif {pins:List (Addr × Obj)} {σ : St} {H:Hp} {s:Shared} {R:It->Hp->Prop} {E:Value->Shared->Prop} {lo hi:Int} {t u v:Tok} {tk:Nat} (I:Inv X pins σ H s) (h1 : -(2 ^ 62)<=lo) (h2:lo<2 ^ 62) (h3 : -(2 ^ 62)<=hi) (h4:hi<2 ^ 62)
  (q:R (Itr lo (hi-lo).toNat) H):wpAny (model X.prog X.w) X.A (pyIter (.ref s.heap.objs.size)) (PIE X pins σ tg R) E { s with heap:=s.heap.push { cls:=.type "range",data:=.fields #[.int lo t, .int hi u, .int 1 v] },toks:=tk }:=by
 refine wpAny_pyIter_range (IsRange.new ..) (small_one h1 h2 h3 h4) ?_;have I1:Inv X pins σ H { s with heap:=s.heap.push { cls:=.type "range",data:=.fields #[.int lo t, .int hi u, .int 1 v] },toks:=tk }:=I.kept fun b o e=>Heap.get?_push_of_some _ e;refine ⟨(s.heap.push { cls:=.type "range",data:=.fields #[.int lo t, .int hi u, .int 1 v] }).objs.size,[(s.heap.push { cls:=.type "range",data:=.fields #[.int lo t, .int hi u, .int 1 v] }).objs.size],_,_,H,rfl,
  I1.kept (t':=tk) fun b o e=>Heap.get?_push_of_some _ e,JgI _ lo (hi-lo).toNat,?_,fun b a=>?_,q⟩
 ·have c:lo+((0:Nat):Int)*1=lo:=by simp
  have d:(((hi-lo).toNat:Nat):Int)-((0:Nat):Int)=Builtin.Range.rangeSize lo hi 1:=by rw [rangeSize_one];split <;> ac_nf
  show IsRangeIter _ _ (lo+((0:Nat):Int)*1) ((((hi-lo).toNat:Nat):Int)-((0:Nat):Int)) 1;rw [c,d];exact Heap.get?_push_size _ rfl
 ·have e:b=(s.heap.push { cls:=.type "range",data:=.fields #[.int lo t, .int hi u, .int 1 v] }).objs.size:=by simpa using a
  subst e;exact I1.fpOk (Nat.le_refl _) (I1.hok.fresh (Nat.le_refl _))
def iRng1 (ta:TA):TI:=fun σ H R=>ta σ H fun vs H1=>∃ j:Int,vs=[.int j]/\-(2 ^ 62)<=j/\j<2 ^ 62/\R (Itr 0 j.toNat) H1
def iRng2 (ta:TA):TI:=fun σ H R=>ta σ H fun vs H1=>∃ i j:Int,vs=[.int i, .int j]/\(-(2 ^ 62)<=i/\i<2 ^ 62/\-(2 ^ 62)<=j/\j<2 ^ 62)/\R (Itr i (j-i).toNat) H1
theorem Jb3 {a:Expr} {ta:TA} {p pos:Pos} (hg:Gl X "range") (hm:X.mg "range"=none) (ha:PA X [a] ta) (hs:starEach [a] X.env=[(false,eval a X.env)]:=by rfl):PI X tg (.Call (.Name "range" p) [a] [] pos) (iRng1 ta):=by
 intro b s σ H R I h;refine Call_ (Jeb I hg hm boot_range (PyProof.Rows.callWith_type1 (thn (ha pos b s σ H _ I h) fun l g ζ=>?_) hs rfl));obtain ⟨i,k,I1,f,c⟩:=ζ;obtain ⟨j,e,c,d,q⟩:=c;subst e;cases f with
 | cons r rr=>
  cases rr;obtain ⟨t,rfl⟩:=r;exact call_range_1 (Jif I1 ∅ ∅ c d (by simpa using q))
def tFor (wi:TI) (g:TG) (tb:TS):TS:=fun D σ H=>wi σ H fun J H1=>∃ W:Nat->Nat->St->Hp->Prop,(∃ m,W 0 m σ H1)/\∀ i m σ H,W i m σ H ->
 (J.stop i H/\D.nx σ H)\/(J.go i H/\∃ N:St->Hp->Prop,(∀ σ' H',N σ' H'->∃ m',m'<m/\W (i+1) m' σ' H')/\∀ x H',J.yld i H x H'->g x σ H' fun σ2 H2=>tb { D with nx:=N,ct:=N,bk:=D.nx } σ2 H2)
def Jgl (fp:List Addr) (h:Heap):List (Addr × Obj):=fp.filterMap fun b=>(h.get? b).map fun o=>(b,o)
theorem JcY {fp:List Addr} {h:Heap} {b:Addr} {o:Obj} (hb:b∈fp) (e:h.get? b=some o):(b,o)∈Jgl fp h:=List.mem_filterMap.mpr ⟨b,hb,by rw [e];rfl⟩
theorem Jho {fp:List Addr} {h:Heap} {p:Addr × Obj} (hp:p∈Jgl fp h):p.1∈fp/\h.get? p.1=some p.2:=by
 obtain ⟨b,c,e⟩:=List.mem_filterMap.mp hp;cases q:h.get? b with
 | none=>rw [q] at e;cases e
 | some o=>
  rw [q] at e;have a:(b,o)=p:=Option.some.inj e;subst a;exact ⟨c,q⟩
theorem Inv.pinned {pins:List (Addr × Obj)} {σ : St} {H:Hp} {s:Shared} {fp:List Addr} (I:Inv X pins σ H s) (hf:∀ b∈fp,FpOk X pins H b) (ho:∀ b∈fp, ∃ o,s.heap.get? b=some o/\∀ v,o.data≠.cell v):Inv X (pins++Jgl fp s.heap) σ H s :=
 I.pins_of fun p g=>(mem_append.mp g).elim (fun z=>I.pin p (mem_append_right _ z)) fun z=>by
  obtain ⟨c,e⟩:=Jho z;obtain ⟨f,i,h,_⟩:=hf p.1 c;obtain ⟨o,a,d⟩:=ho p.1 c;rw [e] at a;cases a;exact ⟨e,f,i,h,d⟩
theorem Inv.unpinned {pins pl:List (Addr × Obj)} {σ : St} {H:Hp} {s:Shared} (I:Inv X (pins++pl) σ H s):Inv X pins σ H s:=I.pins_of fun p a=>I.pin p (mem_append_right _ (mem_append_left _ a))
theorem JaX {iter:Expr} {body:List Stmt} {wi:TI} {g:TG} {tb:TS} {pos:Pos} (hp:PassesOwn (model X.prog X.w) X.A X.env X.xe) (hc:X.calm=true) (hi:PI X tg iter wi) (hg:PG X tg g) (hb:PSs X body tb)
  (hs:∀ x,foldedSetIterable iter X.env x=pure x:=by intro _;rfl):PS X (.For tg iter body [] pos) (tFor wi g tb):=by
 intro a s σ H D I h;refine wpAny_For (thn (hi a s σ H _ I h) fun v s1 Y=>thn Y fun a0 s2 h2=>?_) hs;obtain ⟨it,y,R,J,H2,e,I2,T,F,P,W,⟨Z,w0⟩,z⟩:=h2;subst e;have k:∀ {H':Hp},(∀ b∈y,H' b=none)->∀ b∈y,FpOk X a H' b:=fun hn b hb=>⟨hn b hb,(P b hb).2⟩;refine codeAny_forLoop_any (fun n L=>∃ i σ' H',Inv X a σ' H' L/\R i L.heap/\(∀ b∈y,H' b=none)/\W i n σ' H') ?_ Z ⟨0,σ,H2,I2,F,fun b hb=>(P b hb).1,w0⟩;rintro n Q ⟨i,σ3,C,I3,B,q,w3⟩;rcases z i n σ3 C w3 with ⟨stop,qn⟩ | ⟨go,N,hN,step⟩
 ·refine wpAny_passesOwn hp (thn (T.done X rfl rfl rfl hc i a Q σ3 C X.xe I3 (k q) B stop) fun r V ⟨E,I4⟩=>?_);subst E;exact wpAny_execs_nil ⟨σ3,C,I4,qn⟩
 ·refine wpAny_passesOwn hp (thn (T.item X rfl rfl rfl hc i a Q σ3 C X.xe I3 (k q) B go) fun r V ⟨u,E,h4⟩=>?_);subst E;refine wpAny_passesOwn hp (thn h4 fun _ O ζ=>?_);obtain ⟨x,M,I5,r5,y5,p,G⟩:=ζ;have I5':=I5.pinned (k G) (T.obj _ _ p);refine wpAny_passesOwn hp (thn (hg _ O σ3 M x u _ I5' r5 (step x M y5)) fun _ s6 ⟨σ6,H6,I6,U⟩=>?_);refine wpAny_passesOwn hp (thn (hb _ s6 σ6 H6 _ I6 U) fun f K l=>?_);have c:∀ {σ7:St} {j:Hp},Inv X (a++Jgl y O.heap) σ7 j K->N σ7 j->∃ m,m<n/\∃ i σ' H',Inv X a σ' H' K/\R i K.heap/\(∀ b∈y,H' b=none)/\W i m σ' H':=fun {σ7 j} I7 t=>by
   obtain ⟨m',hm,w7⟩:=hN σ7 j t;refine ⟨m',hm,i+1,σ7,j,I7.unpinned,T.keep _ _ _ p fun b hb o e=>(I7.pin (b,o) (mem_append_right _ (mem_append_right _ (JcY hb e)))).1,fun b hb=>?_,w7⟩;obtain ⟨o,e,d⟩:=T.obj _ _ p b hb;exact (I7.pin (b,o) (mem_append_right _ (mem_append_right _ (JcY hb e)))).2.1
  cases f with
  | next=>obtain ⟨σ7,j,I7,t⟩:=l;exact c I7 t
  | cont=>obtain ⟨σ7,j,I7,t⟩:=l;exact c I7 t
  | brk=>obtain ⟨σ7,j,I7,l⟩:=l;exact ⟨σ7,j,I7.unpinned,l⟩
  | ret v=>obtain ⟨S,σ7,j,I7,r7,l⟩:=l;exact ⟨S,σ7,j,I7.unpinned,r7,l⟩
end
theorem Jg5 {lo:Int} {n:Nat} {g:TG} {tb:TS} {D:Ends} {σ : St} {H:Hp} (Pv:Nat->St->Hp->Prop) (h0:Pv 0 σ H)
  (hs:∀ i σ H,i<n->Pv i σ H->g (.int (lo+i)) σ H fun σ2 H2=>tb { D with nx:=Pv (i+1),ct:=Pv (i+1),bk:=D.nx } σ2 H2) (hd:∀ σ H,Pv n σ H->D.nx σ H) :
  ∃ W:Nat->Nat->St->Hp->Prop,(∃ m,W 0 m σ H)/\∀ i m σ H,W i m σ H ->
   ((Itr lo n).stop i H/\D.nx σ H)\/((Itr lo n).go i H/\∃ N:St->Hp->Prop,(∀ σ' H',N σ' H'->∃ m',m'<m/\W (i+1) m' σ' H')/\∀ x H',(Itr lo n).yld i H x H'->g x σ H' fun σ2 H2=>tb { D with nx:=N,ct:=N,bk:=D.nx } σ2 H2):=by
 refine ⟨fun i m σ H=>m=n-i/\i<=n/\Pv i σ H,⟨n,by simp,Nat.zero_le _,h0⟩,?_⟩;rintro i m σ H ⟨rfl,c,p⟩;by_cases a:i<n
 ·refine .inr ⟨a,Pv (i+1),fun σ' H' b=>⟨n-(i+1),by ac_nf,rfl,a,b⟩,fun x H' y=>?_⟩;obtain ⟨e,y⟩:=y;subst e y;exact hs i σ _ a p
 ·have e:i=n:=by ac_nf
  subst e;exact .inl ⟨Nat.le_refl _,hd σ H p⟩
abbrev R2:=V->V->Hp->VK->Prop
def OpR (X:Cx) (f:Value->Value->Sem Value) (r:R2):Prop :=
 ∀ (pins:List (Addr × Obj)) (s:Shared) (σ : St) (H:Hp) (x y:V) (v u:Value) (Q:VK),Inv X pins σ H s->RelV x v->RelV y u->r x y H Q ->
  wpAny (model X.prog X.w) X.A (f v u) (EP X pins σ Q) X.xe s
def UnR (X:Cx) (f:Value->Sem Value) (r:V->Hp->VK->Prop):Prop :=
 ∀ (pins:List (Addr × Obj)) (s:Shared) (σ : St) (H:Hp) (x:V) (v:Value) (Q:VK),Inv X pins σ H s->RelV x v->r x H Q ->
  wpAny (model X.prog X.w) X.A (f v) (EP X pins σ Q) X.xe s
def CallR (X:Cx) (f:Value) (r:List V->Hp->VK->Prop):Prop :=
 ∀ (pins:List (Addr × Obj)) (s:Shared) (σ : St) (H:Hp) (xs:List V) (us:List Value) (Q:VK),Inv X pins σ H s->Vals xs us->r xs H Q ->
  wpAny (model X.prog X.w) X.A (call f us) (EP X pins σ Q) X.xe s
def tOp (r:R2) (ta tb:TE):TE:=fun σ H Q=>ta σ H fun x H1=>tb σ H1 fun y H2=>r x y H2 Q
def tUn (r:V->Hp->VK->Prop) (ta:TE):TE:=fun σ H Q=>ta σ H fun x H1=>r x H1 Q
def rI (C:Int->Int->Prop) (g:Int->Int->V):R2:=fun x y H Q=>∃ i j,x=.int i/\y=.int j/\C i j/\Q (g i j) H
def rI0 (g:Int->Int->V):R2:=fun x y H Q=>∃ i j,x=.int i/\y=.int j/\Q (g i j) H
def rU (g:Int->V):V->Hp->VK->Prop:=fun x H Q=>∃ i,x=.int i/\Q (g i) H
section
variable {X:Cx} {a b c:Expr} {ta tb tc:TE} {pos:Pos}
theorem binT (ha:PE X a ta) (hb:PE X b tb) {pins:List (Addr × Obj)} {s:Shared} {σ : St} {H:Hp} {R:V->V->Hp->Prop} (I:Inv X pins σ H s)
  (h:ta σ H fun x H1=>tb σ H1 fun y H2=>R x y H2) {Q:Value->Shared->Prop} {f:Value->Value->Sem Value}
  (hf:∀ v u s2 x y H2,Inv X pins σ H2 s2->RelV x v->RelV y u->R x y H2->wpAny (model X.prog X.w) X.A (f v u) Q X.xe s2) :
  wpAny (model X.prog X.w) X.A (eval a X.env) (fun v s₁=>wpAny (model X.prog X.w) X.A (eval b X.env) (fun u s₂=>wpAny (model X.prog X.w) X.A (f v u) Q X.xe s₂) X.xe s₁) X.xe s:=by
 refine thn (ha pins s σ H _ I h) fun v d ζ=>?_;obtain ⟨x,H1,I1,i,e⟩:=ζ;refine thn (hb pins d σ H1 _ I1 e) fun u s2 ζ=>?_;obtain ⟨y,H2,I2,c,g⟩:=ζ;exact hf v u s2 x y H2 I2 i c g
theorem pe_op {op:Operator} {r:R2} (ho:OpR X (binaryOp op) r) (ha:PE X a ta) (hb:PE X b tb):PE X (.BinOp a op b pos) (tOp r ta tb):=by
 intro c s σ H Q I h;exact wpAny_BinOp (binT ha hb I h fun v u g x y d I2 f e q=>ho c g σ d x y v u Q I2 f e q)
theorem pe_un {op:UnaryOp} {r:V->Hp->VK->Prop} (ho:UnR X (unaryOp op) r) (ha:PE X a ta):PE X (.UnaryOp op a pos) (tUn r ta):=by
 intro b s σ H Q I h;exact UnaryOp_ (thn (ha b s σ H _ I h) fun v c ⟨x,e,I1,f,d⟩=>ho b c σ e x v Q I1 f d)
theorem opI {f:Value->Value->Sem Value} {C:Int->Int->Prop} {g:Int->Int->Int}
  (rule:∀ (i j:Int) (t u:Tok) (s:Shared) (Q:Value->Shared->Prop) (E:Value->Shared->Prop),C i j->Q (.int (g i j) s.toks) { s with toks:=s.toks+1 }->wpAny (model X.prog X.w) X.A (f (.int i t) (.int j u)) Q E s) :
  OpR X f (rI C fun i j=>.int (g i j)):=by
 intro a s σ H x y v u Q I d c h;obtain ⟨i,j,rfl,rfl,b,q⟩:=h;obtain ⟨t,rfl⟩:=d;obtain ⟨e,rfl⟩:=c;exact rule i j t e s _ _ b ⟨.int (g i j),H,I.tok _,⟨_,rfl⟩,q⟩
theorem opI0 {f:Value->Value->Sem Value} {g:Int->Int->Int}
  (rule:∀ (i j:Int) (t u:Tok) (s:Shared) (Q:Value->Shared->Prop) (E:Value->Shared->Prop),Q (.int (g i j) s.toks) { s with toks:=s.toks+1 }->wpAny (model X.prog X.w) X.A (f (.int i t) (.int j u)) Q E s) :
  OpR X f (rI0 fun i j=>.int (g i j)):=by
 intro a s σ H x y v u Q I c b h;obtain ⟨i,j,rfl,rfl,q⟩:=h;obtain ⟨t,rfl⟩:=c;obtain ⟨d,rfl⟩:=b;exact rule i j t d s _ _ ⟨.int (g i j),H,I.tok _,⟨_,rfl⟩,q⟩
theorem opB0 {f:Value->Value->Sem Value} {g:Int->Int->Bool}
  (rule:∀ (i j:Int) (t u:Tok) (s:Shared) (Q:Value->Shared->Prop) (E:Value->Shared->Prop),Q (.bool (g i j)) s->wpAny (model X.prog X.w) X.A (f (.int i t) (.int j u)) Q E s) :
  OpR X f (rI0 fun i j=>.bl (g i j)):=by
 intro a s σ H x y v u Q I c b h;obtain ⟨i,j,rfl,rfl,q⟩:=h;obtain ⟨t,rfl⟩:=c;obtain ⟨d,rfl⟩:=b;exact rule i j t d s _ _ ⟨.bl (g i j),H,I,rfl,q⟩
def CPow (i j:Int):Prop:=0<=j/\j<=1000000/\i.natAbs<2 ^ 64
theorem JjU:OpR X (binaryOp .Add) (rI0 fun i j=>.int (i+j)):=opI0 fun _ _ _ _ _ _ _ q=>add_int q
theorem Jeg:OpR X (binaryOp .Sub) (rI0 fun i j=>.int (i-j)):=opI0 fun _ _ _ _ _ _ _ q=>sub_int q
theorem Jjc:OpR X (binaryOp .Mod) (rI (fun _ j=>j≠0) fun i j=>.int (i.fmod j)):=opI fun _ _ _ _ _ _ _ a q=>mod_int' a q
theorem Jj0:OpR X (binaryOp .Pow) (rI CPow fun i j=>.int (i ^ j.toNat)):=opI fun _ _ _ _ _ _ _ a q=>pow_int_small a.1 a.2.1 a.2.2 q
theorem unI {f:Value->Sem Value} {g:Int->Int}
  (rule:∀ (i:Int) (t:Tok) (s:Shared) (Q:Value->Shared->Prop) (E:Value->Shared->Prop),Q (.int (g i) s.toks) { s with toks:=s.toks+1 }->wpAny (model X.prog X.w) X.A (f (.int i t)) Q E s) :
  UnR X f (rU fun i=>.int (g i)):=by
 intro a s σ H x v Q I b h;obtain ⟨i,rfl,q⟩:=h;obtain ⟨t,rfl⟩:=b;exact rule i t s _ _ ⟨.int (g i),H,I.tok _,⟨_,rfl⟩,q⟩
theorem Jfu:UnR X (unaryOp .USub) (rU fun i=>.int (-i)):=unI fun _ _ _ _ _ q=>neg_int q
end
def scal:V->V->Bool
 | .non, .non=>true | .non, .int _=>true | .int _, .non=>true | .non, .bl _=>true | .bl _, .non=>true | .non, .str _=>true | .str _, .non=>true
 | .int _, .int _=>true | .bl _, .bl _=>true | .str _, .str _=>true | .byt _, .byt _=>true
 | .int _, .str _=>true | .str _, .int _=>true | .bl _, .str _=>true | .str _, .bl _=>true
 | _,_=>false
def rEq:R2:=fun x y H Q=>scal x y=true/\Q (.bl (decide (x=y))) H
def rNe:R2:=fun x y H Q=>scal x y=true/\Q (.bl (!decide (x=y))) H
theorem JgX {i j:Int}:decide (V.int i=V.int j)=(i == j):=by
 rw [Bool.eq_iff_iff];simp
theorem Jir {i j:Bool}:decide (V.bl i=V.bl j)=(i == j):=by
 rw [Bool.eq_iff_iff];simp
theorem JgY {i j:Str}:decide (V.str i=V.str j)=(i == j):=by
 rw [Bool.eq_iff_iff];simp
theorem JgW {i j:Array UInt8}:decide (V.byt i=V.byt j)=(i.toList == j.toList):=by
 rw [Bool.eq_iff_iff];cases i;cases j;simp
section
variable {X:Cx} {a b c:Expr} {ta tb tc:TE} {pos:Pos}
theorem JaD {pins:List (Addr × Obj)} {σ : St} {H:Hp} {s:Shared} {Q:VK} {k k':Bool} (I:Inv X pins σ H s) (q:Q (.bl k) H) (e:k=k'):EP X pins σ Q (.bool k') s:=by
 subst e;exact ⟨.bl k,H,I,rfl,q⟩
theorem op_eq:OpR X (compareOp .Eq) rEq:=by
 intro e s σ H x y v u Q I d a h;obtain ⟨c,q⟩:=h;cases x with
 | non=>
  cases d;cases y with
  | non=>cases a;exact PySem.EqNone.eq_none_none (JaD I q (by simp))
  | bl j=>cases a;exact PySem.EqNone.eq_none_bool (JaD I q (by simp))
  | int j=>obtain ⟨b,rfl⟩:=a;exact PySem.EqNone.eq_none_int (JaD I q (by simp))
  | str j=>obtain ⟨b,rfl⟩:=a;exact PySem.EqNone.eq_none_str (JaD I q (by simp))
  | _=>exact absurd (show false=true from c) Bool.false_ne_true
 | bl i=>
  cases d;cases y with
  | non=>cases a;exact PySem.EqNone.eq_bool_none (JaD I q (by simp))
  | bl j=>cases a;exact eq_bool (JaD I q Jir)
  | str j=>obtain ⟨b,rfl⟩:=a;exact PySem.EqMixed.eq_bool_str (JaD I q (by simp))
  | _=>exact absurd (show false=true from c) Bool.false_ne_true
 | int i=>
  obtain ⟨t,rfl⟩:=d;cases y with
  | non=>cases a;exact PySem.EqNone.eq_int_none (JaD I q (by simp))
  | int j=>obtain ⟨b,rfl⟩:=a;exact eq_int (JaD I q JgX)
  | str j=>obtain ⟨b,rfl⟩:=a;exact PySem.EqMixed.eq_int_str (JaD I q (by simp))
  | _=>exact absurd (show false=true from c) Bool.false_ne_true
 | str i=>
  obtain ⟨t,rfl⟩:=d;cases y with
  | non=>cases a;exact PySem.EqNone.eq_str_none (JaD I q (by simp))
  | bl j=>cases a;exact PySem.EqMixed.eq_str_bool (JaD I q (by simp))
  | int j=>obtain ⟨b,rfl⟩:=a;exact PySem.EqMixed.eq_str_int (JaD I q (by simp))
  | str j=>obtain ⟨b,rfl⟩:=a;exact eq_str (JaD I q JgY)
  | _=>exact absurd (show false=true from c) Bool.false_ne_true
 | byt i=>
  obtain ⟨t,rfl⟩:=d;cases y with
  | byt j=>obtain ⟨b,rfl⟩:=a;exact W.eq_bytes (JaD I q JgW)
  | _=>exact absurd (show false=true from c) Bool.false_ne_true
 | _=>cases y <;> exact absurd (show false=true from c) Bool.false_ne_true
theorem op_ne:OpR X (compareOp .NotEq) rNe:=by
 intro e s σ H x y v u Q I d a h;obtain ⟨c,q⟩:=h;cases x with
 | non=>
  cases d;cases y with
  | non=>cases a;exact PySem.EqNone.ne_none_none (JaD I q (by simp))
  | bl j=>cases a;exact PySem.EqNone.ne_none_bool (JaD I q (by simp))
  | int j=>obtain ⟨b,rfl⟩:=a;exact PySem.EqNone.ne_none_int (JaD I q (by simp))
  | str j=>obtain ⟨b,rfl⟩:=a;exact PySem.EqNone.ne_none_str (JaD I q (by simp))
  | _=>exact absurd (show false=true from c) Bool.false_ne_true
 | bl i=>
  cases d;cases y with
  | non=>cases a;exact PySem.EqNone.ne_bool_none (JaD I q (by simp))
  | bl j=>cases a;exact ne_bool (JaD I q (congrArg not Jir))
  | str j=>obtain ⟨b,rfl⟩:=a;exact PySem.EqMixed.ne_bool_str (JaD I q (by simp))
  | _=>exact absurd (show false=true from c) Bool.false_ne_true
 | int i=>
  obtain ⟨t,rfl⟩:=d;cases y with
  | non=>cases a;exact PySem.EqNone.ne_int_none (JaD I q (by simp))
  | int j=>obtain ⟨b,rfl⟩:=a;exact ne_int (JaD I q (congrArg not JgX))
  | str j=>obtain ⟨b,rfl⟩:=a;exact PySem.EqMixed.ne_int_str (JaD I q (by simp))
  | _=>exact absurd (show false=true from c) Bool.false_ne_true
 | str i=>
  obtain ⟨t,rfl⟩:=d;cases y with
  | non=>cases a;exact PySem.EqNone.ne_str_none (JaD I q (by simp))
  | bl j=>cases a;exact PySem.EqMixed.ne_str_bool (JaD I q (by simp))
  | int j=>obtain ⟨b,rfl⟩:=a;exact PySem.EqMixed.ne_str_int (JaD I q (by simp))
  | str j=>obtain ⟨b,rfl⟩:=a;exact ne_str (JaD I q (congrArg not JgY))
  | _=>exact absurd (show false=true from c) Bool.false_ne_true
 | byt i=>
  obtain ⟨t,rfl⟩:=d;cases y with
  | byt j=>obtain ⟨b,rfl⟩:=a;exact W.ne_bytes (JaD I q (congrArg not JgW))
  | _=>exact absurd (show false=true from c) Bool.false_ne_true
 | _=>cases y <;> exact absurd (show false=true from c) Bool.false_ne_true
theorem op_lt:OpR X (compareOp .Lt) (rI0 fun i j=>.bl (decide (i<j))):=opB0 fun _ _ _ _ _ _ _ q=>lt_int q
theorem op_gt:OpR X (compareOp .Gt) (rI0 fun i j=>.bl (decide (j<i))):=opB0 fun _ _ _ _ _ _ _ q=>gt_int q
theorem op_ge:OpR X (compareOp .GtE) (rI0 fun i j=>.bl (decide (j<=i))):=opB0 fun _ _ _ _ _ _ _ q=>ge_int q
theorem Jhu:OpR X (compareOp .In) (fun x y H Q=>∃ i j,x=.str i/\y=.str j/\Q (.bl (!(Builtin.Str.occurrences j i 0 j.length 1).isEmpty)) H):=by
 intro a s σ H x y v u Q I c b h;obtain ⟨i,j,rfl,rfl,q⟩:=h;obtain ⟨t,rfl⟩:=c;obtain ⟨d,rfl⟩:=b;exact in_str (JaD I q rfl)
theorem JjZ:OpR X (compareOp .Is) (fun x y H Q=>y=.non/\Q (.bl (decide (x=.non))) H):=by
 intro b s σ H x y v u Q I a c h;obtain ⟨rfl,q⟩:=h;cases c;refine is_none_gen (JaD I q ?_);cases x <;> first
  | (cases a;rfl)
  | (obtain ⟨t,rfl⟩:=a;rfl)
theorem Jjf:OpR X (compareOp .IsNot) (fun x y H Q=>y=.non/\Q (.bl (!decide (x=.non))) H):=by
 intro b s σ H x y v u Q I a c h;obtain ⟨rfl,q⟩:=h;cases c;refine isnot_none_gen (JaD I q ?_);cases x <;> first
  | (cases a;rfl)
  | (obtain ⟨t,rfl⟩:=a;rfl)
theorem Jau (b:Expr) {op:CmpOp} (h:op≠.In:=by decide) (h2:op≠.NotIn:=by decide):behindInMarks op b=false:=by
 have a:(op == CmpOp.In)=false:=by cases op <;> first | rfl | exact absurd rfl h
 have c:(op == CmpOp.NotIn)=false:=by cases op <;> first | rfl | exact absurd rfl h2
 cases b <;> simp [behindInMarks,a,c]
theorem Jbs {op:CmpOp} {r:R2} (ho:OpR X (compareOp op) r) (ha:PE X a ta) (hb:PE X b tb) (hm:behindInMarks op b=false):PE X (.Compare a [op] [b] pos) (tOp r ta tb):=by
 intro c s σ H Q I h;exact wpAny_Compare1 (binT ha hb I h fun v u g x y d I2 f e q=>ho c g σ d x y v u Q I2 f e q) hm
def tTest (t:TE):TT:=fun σ H Q=>t σ H fun x H'=>∃ k,x=.bl k/\Q k H'
theorem Jar {op:CmpOp} {r:R2} (ho:OpR X (compareOp op) r) (ha:PE X a ta) (hb:PE X b tb) (hm:behindInMarks op b=false):PT X (.Compare a [op] [b] pos) (tTest (tOp r ta tb)):=by
 intro d s σ H Q I h;refine wpAny_isTrue_Compare1 (thn (ha d s σ H _ I h) fun v i ⟨x,n,I1,g,l⟩=>thn (hb d i σ n _ I1 l) fun u f ⟨y,m,I2,q,p⟩=>
  thn (ho d f σ m x y v u _ I2 g q p) fun c w ⟨z,j,I3,o,k,e,t⟩=>?_) hm
 subst e;cases o;exact wpAny_truthy_bool ⟨j,I3,t⟩
def Jkh (r r':R2) (ta tb tc:TE):TE:=fun σ H Q=>ta σ H fun x H1=>tb σ H1 fun y H2=>r x y H2 fun z H3=>∃ k,z=.bl k /\
 (if k=true then tc σ H3 fun w' H4=>r' y w' H4 Q else Q (.bl false) H3)
theorem Jed:(sizeLine:Nat)<2 ^ 63:=by rw [sizeLine_eq];decide
theorem JgD:OpR X (binaryOp .Add) (fun x y H Q=>∃ i j,x=.str i/\y=.str j/\i.length+j.length<=sizeLine/\Q (.str (i++j)) H):=by
 intro a s σ H x y v u Q I c b h;obtain ⟨i,j,rfl,rfl,d,q⟩:=h;obtain ⟨t,rfl⟩:=c;obtain ⟨e,rfl⟩:=b;exact add_str (fun e f=>⟨.str (i++j),H,I.tok _,⟨_,rfl⟩,q⟩) d
theorem vals1 {x:V} {us:List Value} (r:Vals [x] us):∃ u,us=[u]/\RelV x u:=by
 cases r with
 | cons r1 r2=>cases r2;exact ⟨_,rfl,r1⟩
theorem vals2 {x y:V} {us:List Value} (r:Vals [x,y] us):∃ u w',us=[u,w']/\RelV x u/\RelV y w':=by
 cases r with
 | cons r1 r2=>
  cases r2 with
  | cons r3 r4=>cases r4;exact ⟨_,_,rfl,r1,r3⟩
theorem JhR:CallR X (.builtin "abs") (fun xs H Q=>∃ i,xs=[.int i]/\Q (.int (if i<0 then -i else i)) H):=by
 intro a s σ H xs c Q I r h;obtain ⟨i,rfl,q⟩:=h;obtain ⟨u,rfl,t,rfl⟩:=vals1 r;exact call_abs_int fun u b=>⟨.int (if i<0 then -i else i),H,I.tok _,⟨_,rfl⟩,q⟩
end
structure ObjM (h:Heap) (x dx C:Addr) (mA:Str->Option Value):Prop where
 obj:h.get? x=some (W.instObj C dx)
 ns:h.Ns1 dx mA
 ne:dx≠x
theorem Je4 {h:Heap} {dx:Addr} {mA:Str->Option Value} (n:h.Ns1 dx mA):∃ od,h.get? dx=some od/\∀ name,W.lookIn name od=some (mA name):=by
 obtain ⟨o,c,l,j,g,i,_,f⟩:=n;refine ⟨o,j,fun name=>?_⟩;have e:=f name;unfold nsFind findBy at e;rw [<- Array.find?_toList] at e;unfold W.lookIn;rw [g];dsimp only;split
 ·rename_i y q;rw [q] at e;exact congrArg some e
 ·rename_i q;rw [q] at e;have a:c.toList.any (·.refKey)=false:=by
   rw [List.any_eq_false];intro y k;obtain ⟨z,t,b⟩:=i y (Array.mem_toList_iff.mp k);simp [DictEntry.refKey,b]
  have d:¬ c.toList.any (·.refKey)=true:=by rw [a];exact Bool.false_ne_true
  rw [if_neg d];exact congrArg some e
theorem ObjM.look {h:Heap} {x dx C:Addr} {mA:Str->Option Value} (I:ObjM h x dx C mA):∃ od,W.InstAt h x (W.instObj C dx) C (some od)/\∀ name,W.lookIn name od=some (mA name) :=
 let ⟨od,ho,hl⟩:=Je4 I.ns
 ⟨od,⟨I.obj,rfl,rfl,ho⟩,hl⟩
section
variable {prog:Program} {w:World} {A:Around} {E:Value->Shared->Prop} {s:Shared} {K:W.Frag} {x dx C f:Addr} {mA:Str->Option Value} {name:Str} {v:Value}
theorem get_map {expr:Bool} {Q:Value->Shared->Prop} (X:K.In s.heap) (I:ObjM s.heap x dx C mA) (hg:W.plainGet K C name=true) (hh:W.hasDictIn K C=true)
  (ha:W.findIn K (.ref C) name=some none) (hv:mA name=some v) (hv':W.handedIn v=true) (h:Q v { s with toks:=s.toks+1 }) :
  wpAny (model prog w) A (getAttr (.ref x) name expr) Q E s:=by
 obtain ⟨b,J,a⟩:=I.look;exact W.get_value X J (W.plainGet_of hg).1 (W.findObj_own hh ha rfl (by rw [a,hv])) hv' h
theorem JhW {pl:Sem Bool} {Q:Value × List Value->Shared->Prop} (X:K.In s.heap) (I:ObjM s.heap x dx C mA) (hg:W.plainGet K C name=true)
  (hf:W.findIn K (.ref C) name=some (some (.ref f))) (ht:W.isFn K (.ref f)=true) (hv:mA name=none) (h:Q (.ref f,[.ref x]) s) :
  wpAny (model prog w) A (getMethod (.ref x) name pl) Q E s:=by
 obtain ⟨a,J,b⟩:=I.look;exact W.method_fn X J (W.plainGet_of hg).1 (W.plainGet_of hg).2 hf (beq_iff_eq.mp ht) (by show (W.lookIn name a).map (·.isSome)=some false;rw [b,hv];rfl) h
theorem Jjq {ns:List Str} {Q:Unit->Shared->Prop} (X:K.In s.heap) (I:ObjM s.heap x dx C mA)
  (hs:W.findIn K (.ref C) "__setattr__"=some (some (.builtin "object.__setattr__"))) (hp:W.plainOver K C=true) (ht:W.takerIn K C name=some none) (hh:W.hasDictIn K C=true)
  (hw:PySem.Within mA ns) (hsz:ns.length<=sizeLine)
  (h:∀ h',ObjM h' x dx C (fun y=>if y=name then some v else mA y)->Heap.SameBut dx s.heap h'->Q () { s with heap:=h',toks:=s.toks+2 }) :
  wpAny (model prog w) A (setAttr (.ref x) name v) Q E s:=by
 obtain ⟨o,J,q⟩:=I.look;refine W.set_plain X J hs (W.osa_open (s:={ s with toks:=s.toks+1 }) (r:=none) X J hp ht fun b=>?_);obtain ⟨p,l,f⟩:=W.any_some hh;have j:s.heap.get? x=some ⟨.ref C,some dx, .plain, #[]⟩:=I.obj;refine wpAny_bind (wpAny_pure (wpAny_bind (wpAny_bind (wpAny_loadPart j (wpAny_bind (W.Looks.here (s:={ s with toks:=s.toks+1 }) (W.looks_clsIn X l) ?_))))));rw [f];refine wpAny_pure (a:=some dx) (wpAny_bind (wpAny_pure (wpAny_bind ?_)));refine wpAny_nsSet1 (s:={ s with toks:=s.toks+1 }) I.ns fun h' d c=>?_;obtain ⟨n,m,k,e,g,i⟩:=d.count (PySem.Within.cons name v hw);refine wpAny_bind (wpAny_lookBehind e (by rw [g];exact pastItsLine_dict (Nat.le_trans i (by rw [length_cons];ac_nf))) ?_);exact wpAny_pure (h _ ⟨(c.2 _ (Ne.symm I.ne)).trans I.obj,d,I.ne⟩ c)
theorem Jh2 {R:Result->Shared->Prop} {vs:List Value} {kw:List (Str × Value)} (X:K.In s.heap) (hm:W.makesIn K C=true)
  (hi:W.findIn K (.ref C) "__init__"=some (some (.ref f))) (hf:W.typeIn K (.ref f)=some (.type "function"))
  (h:codeAny (model prog w) (A.under (.builtin "type.__call__" ⟨.ref C::vs,kw⟩)) (.call (.ref f) ⟨.ref (s.heap.objs.size+1)::vs,kw⟩) (W.InitBack (s.heap.objs.size+1) R)
   { s with heap:=(s.heap.push W.emptyDict).push (W.instObj C s.heap.objs.size) }) :
  codeAny (model prog w) A (.call (.ref C) ⟨vs,kw⟩) R s:=by
 obtain ⟨b,g,d,t,c⟩:=s;exact W.make_core (W.makes_of X hm) (W.looks_findIn X hi) (fun a=>W.bind_fn X a hf) (.inl rfl) h
end
def putF (f:Str) (v:V):List (Str × V)->List (Str × V)
 | []=>[(f,v)]
 | (g,x)::r=>if g=f then (g,v)::r else (g,x)::putF f v r
theorem Jdx (f g:Str) (v:V):∀ fs:List (Str × V),(putF f v fs).lookup g=if g=f then some v else fs.lookup g
 | []=>by
  show List.lookup g [(f,v)]=_;by_cases h:g=f
  ·have hb:(g == f)=true:=beq_iff_eq.mpr h;simp only [List.lookup,hb,if_pos h]
  ·have hb:(g == f)=false:=beq_eq_false_iff_ne.mpr h;simp only [List.lookup,hb,if_neg h]
 | (k,x)::r=>by
  have ih:=Jdx f g v r;rw [show putF f v ((k,x)::r)=(if k=f then (k,v)::r else (k,x)::putF f v r) from rfl];by_cases hk:k=f
  ·rw [if_pos hk];by_cases h:g=k
   ·have hb:(g == k)=true:=beq_iff_eq.mpr h;simp only [List.lookup,hb,if_pos (h.trans hk)]
   ·have hb:(g == k)=false:=beq_eq_false_iff_ne.mpr h;simp only [List.lookup,hb,if_neg (fun e:g=f=>h (e.trans hk.symm))]
  ·rw [if_neg hk];by_cases h:g=k
   ·have hb:(g == k)=true:=beq_iff_eq.mpr h;simp only [List.lookup,hb,if_neg (fun e:g=f=>hk (h.symm.trans e))]
   ·have hb:(g == k)=false:=beq_eq_false_iff_ne.mpr h;simp only [List.lookup,hb];exact ih
theorem Jds (f:Str) (v:V):∀ fs:List (Str × V),f∈(putF f v fs).map (·.1)/\∀ g,g∈fs.map (·.1)->g∈(putF f v fs).map (·.1)
 | []=>⟨by simp [putF],fun g h=>by simp at h⟩
 | (k,x)::r=>by
  obtain ⟨i1,i2⟩:=Jds f v r;rw [show putF f v ((k,x)::r)=(if k=f then (k,v)::r else (k,x)::putF f v r) from rfl];by_cases hk:k=f
  ·rw [if_pos hk];subst hk;exact ⟨by simp,fun g h=>by simpa using h⟩
  ·rw [if_neg hk];refine ⟨?_,fun g h=>?_⟩
   ·rw [map_cons];exact mem_cons_of_mem _ i1
   ·rw [map_cons] at h ⊢;rcases mem_cons.mp h with e | e
    ·exact mem_cons.mpr (.inl e)
    ·exact mem_cons_of_mem _ (i2 g e)
theorem Jdu (f:Str) (v:V):∀ fs:List (Str × V),(putF f v fs).length<=fs.length+1
 | []=>by simp [putF]
 | (k,x)::r=>by
  have ih:=Jdu f v r;rw [show putF f v ((k,x)::r)=(if k=f then (k,v)::r else (k,x)::putF f v r) from rfl];by_cases hk:k=f
  ·rw [if_pos hk,length_cons,length_cons];ac_nf
  ·rw [if_neg hk,length_cons,length_cons];ac_nf
theorem RelO.some_of {v:V} {o:Option Value} (r:RelO (some v) o):∃ u,o=some u/\RelV v u:=by
 cases o with
 | none=>exact (show False from r).elim
 | some u=>exact ⟨u,rfl,r⟩
theorem RelO.none_of {o:Option Value} (r:RelO none o):o=none:=by
 cases o with
 | none=>rfl
 | some u=>exact (show False from r).elim
theorem Jg7 {v:V} {u:Value} (r:RelV v u):W.handedIn u=true:=by
 cases v with
 | non=>cases (show u=Value.none from r);rfl
 | bl b=>cases (show u=Value.bool b from r);rfl
 | int i=>obtain ⟨t,e⟩:=(show ∃ t,u=Value.int i t from r);cases e;rfl
 | str x=>obtain ⟨t,e⟩:=(show ∃ t,u=Value.str x t from r);cases e;rfl
 | byt b=>obtain ⟨t,e⟩:=(show ∃ t,u=Value.bytes b t from r);cases e;rfl
 | flt b=>obtain ⟨t,e⟩:=(show ∃ t,u=Value.float b t from r);cases e;rfl
 | ref a=>cases (show u=Value.ref a from r);rfl
 | ty n=>cases (show u=Value.type n from r);rfl
section
variable {P:Program} {w:World} {H H':Hp} {h h':Heap} {a C dx:Addr} {fs fs':List (Str × V)}
theorem JfF (hok:HOk P w H h) (e:H a=some (.ins C dx fs)):∃ mA,ObjM h a dx C mA/\(∀ f,RelO (fs.lookup f) (mA f))/\PySem.Within mA (fs.map (·.1))/\fs.length<=1000/\H dx=some (.own a):=by
 obtain ⟨d,z,b,c,mA,n,r,q⟩:=(show ObjOk P w H h a (.ins C dx fs) from hok a _ e);exact ⟨mA,⟨c,n,b⟩,r,q,z,d⟩
end
structure Cls (K:W.Frag) (C:Addr):Prop where
 pg:W.plainGet K C Str.empty=true
 hd:W.hasDictIn K C=true
 po:W.plainOver K C=true
 sa:W.findIn K (.ref C) "__setattr__"=some (some (.builtin "object.__setattr__"))
theorem Cls.get {K:W.Frag} {C:Addr} (c:Cls K C) (f:Str):W.plainGet K C f=true:=c.pg
def Ja6 (K:W.Frag) (C:Addr) (f:Str):Prop:=W.findIn K (.ref C) f=some none
theorem Ja6.taker {K:W.Frag} {C:Addr} {f:Str} (n:Ja6 K C f):W.takerIn K C f=some none:=by
 unfold W.takerIn;rw [show W.findIn K (.ref C) f=some none from n];rfl
structure Meth (K:W.Frag) (C:Addr) (m:Str) (f:Addr):Prop where
 at_:W.findIn K (.ref C) m=some (some (.ref f))
 fn:W.isFn K (.ref f)=true
 kp:W.keepIn K (.ref f)=true
section
variable {X:Cx} {pins:List (Addr × Obj)} {σ : St} {H:Hp} {s:Shared} {a C dx:Addr} {fs:List (Str × V)} {f:Str} {v:V} {A:Around} {E:Value->Shared->Prop}
theorem Jgt {b:Bool} {Q:Value->Shared->Prop} (I:Inv X pins σ H s) (e:H a=some (.ins C dx fs)) (c:Cls X.K C) (n:Ja6 X.K C f) (l:fs.lookup f=some v)
  (h:∀ u s',Inv X pins σ H s'->RelV v u->Q u s'):wpAny (model X.prog X.w) A (getAttr (.ref a) f b) Q E s:=by
 obtain ⟨i,O,r,_,_,_⟩:=JfF I.hok e;obtain ⟨u,g,d⟩:=RelO.some_of (v:=v) (o:=i f) (by rw [<- l];exact r f);exact get_map I.kIn O (c.get f) c.hd n g (Jg7 d) (h u _ (I.tok _) d)
theorem Jea {m:Str} {g:Addr} {pl:Sem Bool} {Q:Value × List Value->Shared->Prop} (I:Inv X pins σ H s) (e:H a=some (.ins C dx fs)) (c:Cls X.K C) (k:Meth X.K C m g) (l:fs.lookup m=none)
  (h:Q (.ref g,[.ref a]) s):wpAny (model X.prog X.w) A (getMethod (.ref a) m pl) Q E s:=by
 obtain ⟨d,O,r,_,_,_⟩:=JfF I.hok e;have b:d m=none:=RelO.none_of (by rw [<- l];exact r m);exact JhW I.kIn O (c.get m) k.at_ k.fn b h
theorem JgG {y:V} {u:Value} {Q:Unit->Shared->Prop} (I:Inv X pins σ H s) (e:H a=some (.ins C dx fs)) (c:Cls X.K C) (n:Ja6 X.K C f) (hl:fs.length<1000) (ry:RelV y u)
  (h:∀ s',Inv X pins σ (upd H a (.ins C dx (putF f y fs))) s'->Q () s'):wpAny (model X.prog X.w) A (setAttr (.ref a) f u) Q E s:=by
 obtain ⟨d,O,r,j,_,i⟩:=JfF I.hok e;have v:(fs.map (·.1)).length<=sizeLine:=by rw [length_map,sizeLine_eq];ac_nf
 refine Jjq I.kIn O c.sa c.po n.taker c.hd j v fun p O' l=>h _ ?_;have k:∃ o,p.get? dx=some o:=let ⟨o,_,_,e',_⟩:=O'.ns;⟨o,e'⟩;refine I.write (x:=a) (e:=dx) (by rw [e];exact True.intro) (.inr i) (fun b q t z=>(l.2 b t).trans z) k ?_;refine ⟨by rw [Jai O.ne];exact i,?_,O.ne,O'.obj,_,O'.ns,fun g=>?_,fun g m=>?_⟩
 ·have:=Jdu f y fs;ac_nf
 ·show RelO ((putF f y fs).lookup g) (if g=f then some u else d g);rw [Jdx];by_cases q:g=f
  ·rw [if_pos q,if_pos q];exact ry
  ·rw [if_neg q,if_neg q];exact r g
 ·by_cases q:g=f
  ·rw [q];exact (Jds f y fs).1
  ·refine (Jds f y fs).2 g (j g fun z=>m ?_);show (if g=f then some u else d g)=none;rw [if_neg q];exact z
theorem Inv.made (I:Inv X pins σ H s):Inv X pins σ (upd (upd H s.heap.objs.size (.own (s.heap.objs.size+1))) (s.heap.objs.size+1) (.ins C s.heap.objs.size []))
  { s with heap:=(s.heap.push W.emptyDict).push (W.instObj C s.heap.objs.size) }:=by
 have d:(s.heap.push W.emptyDict).get? s.heap.objs.size=some W.emptyDict:=Heap.get?_push_size s.heap rfl;have f:((s.heap.push W.emptyDict).push (W.instObj C s.heap.objs.size)).get? (s.heap.objs.size+1)=some (W.instObj C s.heap.objs.size):=by
  have:=Heap.get?_push_size (s.heap.push W.emptyDict) (o:=W.instObj C s.heap.objs.size) rfl
  rwa [Heap.size_push] at this
 have i:(s.heap.push W.emptyDict).Ns s.heap.objs.size (fun _=>none):=⟨W.emptyDict, #[],_,d,rfl,(fun e g=>absurd g (by simp)),fun _=>rfl⟩;have I1:=I.laid (a:=s.heap.objs.size) (o:=.own (s.heap.objs.size+1)) (h':=s.heap.push W.emptyDict) (t':=s.toks) (fun b u q=>Heap.get?_push_of_some _ q) (Nat.le_refl _) ⟨_,d⟩;refine I1.laid (a:=s.heap.objs.size+1) (o:=.ins C s.heap.objs.size []) (t':=s.toks) (fun b u q=>Heap.get?_push_of_some _ q) (Nat.le_of_eq (Heap.size_push _ _)) ?_;have c:s.heap.objs.size≠s.heap.objs.size+1:=Nat.ne_of_lt (Nat.lt_succ_self _);refine ⟨by rw [Jai c,Jaq],Nat.zero_le _,c,f,fun _=>none,(Heap.Ns1.of_empty i).at fun o q=>Heap.get?_push_of_some _ q,fun _=>True.intro,fun y h=>absurd rfl h⟩
theorem JiK {prog:Program} {w:World} {env:Env} {e:Expr} {f:Str} {pos:Pos} {s:Shared} {Q:Value->Shared->Prop} (hb:attributeBase e f env (eval e env)=eval e env)
  (h:wpAny (model prog w) A (eval e env) (fun o s₁=>wpAny (model prog w) A (getAttr o f true) Q E s₁) E s):wpAny (model prog w) A (eval (.Attribute e f pos) env) Q E s :=
 Attribute_any_ h (by rw [arm_eval_Attribute,hb])
end
def tFld (K:W.Frag) (ta:TE) (f:Str):TE:=fun σ H Q=>ta σ H fun x H1=>∃ a C dx fs v,x=.ref a/\H1 a=some (.ins C dx fs)/\Cls K C/\Ja6 K C f/\fs.lookup f=some v/\Q v H1
def sFld (K:W.Frag) (ta tv:TE) (f:Str):TS:=fun D σ H=>tv σ H fun y H1=>ta σ H1 fun x H2=>∃ a C dx fs,x=.ref a/\H2 a=some (.ins C dx fs)/\Cls K C/\Ja6 K C f/\fs.length<1000 /\
 D.nx σ (upd H2 a (.ins C dx (putF f y fs)))
section
variable {X:Cx} {o e value:Expr} {f:Str} {pos pos' tpos:Pos} {ta tv:TE}
theorem Jav (he:PE X e ta) (hb:attributeBase e f X.env (eval e X.env)=eval e X.env):PE X (.Attribute e f pos) (tFld X.K ta f):=by
 intro b s σ H Q I h;refine JiK hb (thn (he b s σ H _ I h) fun u p ζ=>?_);obtain ⟨x,i,I1,g,a,C,m,t,v,k,j,c,n,l,q⟩:=ζ;subst k;obtain rfl:u=Value.ref a:=g;exact Jgt I1 j c n l fun r o I2 d=>⟨v,i,I2,d,q⟩
theorem JbN (ha:PE X o ta) (hv:PE X value tv) (hs:swapsWith value (some (.Attribute o f pos')) pos.line X.env=pure false):PS X (.Assign [.Attribute o f pos'] value pos) (sFld X.K ta tv f):=by
 intro b s σ H D I h;refine plainObj_wpAny_Assign_Attribute (thn (hv b s σ H _ I h) fun u g ⟨y,j,I1,d,q⟩=>thn (ha b g σ j _ I1 q) fun i t ζ=>?_) hs;obtain ⟨x,w,I2,e,a,C,r,v,p,k,c,n,l,m⟩:=ζ;subst p;obtain rfl:i=Value.ref a:=e;exact JgG I2 k c n l d fun z I3=>⟨σ,_,I3,m⟩
end
section
variable {X:Cx} {pins:List (Addr × Obj)} {σ : St} {H:Hp} {s:Shared} {A:Around} {E:Value->Shared->Prop} {Q:Value->Shared->Prop} {c:Value} {b:Bool}
end
structure Room (k:Nat) (A:Around):Prop where
 hd:A.handled=none
 dp:A.depth+3*k+5<recursionLimit
 un:A.units+16*k+200<cLine
theorem Room.mono {j k:Nat} {A:Around} (r:Room k A) (h:j<=k):Room j A:=⟨r.hd,by have:=r.dp;ac_nf,by have:=r.un;ac_nf⟩
theorem Room.deeper {k:Nat} {A:Around} (r:Room (k+1) A) (env:Env):Room k (A.deeper env) :=
 ⟨r.hd,by have:=r.dp;show A.depth+1+3*k+5<_;ac_nf,by have:=r.un;show A.units+3+16*k+200<_;ac_nf⟩
theorem Jgy {A:Around} {C:Addr} {us:List Value} {kw:List (Str × Value)}:(A.under (.builtin "type.__call__" ⟨.ref C::us,kw⟩)).depth=A.depth+1:=by
 first | rfl | simp [Around.under,Code.weight,Code.isCreation,Code.isGuard,Code.isCaller,Code.frames,Code.isFrame,guardIds]
theorem Jgz {A:Around} {C:Addr} {us:List Value} {kw:List (Str × Value)}:(A.under (.builtin "type.__call__" ⟨.ref C::us,kw⟩)).units=A.units+1:=by
 first | rfl | simp [Around.under,Code.cUnits,Code.frames,Code.isFrame]
theorem Room.make {k:Nat} {A:Around} (r:Room (k+1) A) (C:Addr) (us:List Value) (kw:List (Str × Value)):Room k (A.under (.builtin "type.__call__" ⟨.ref C::us,kw⟩)) :=
 ⟨r.hd,by have:=r.dp;rw [Jgy];ac_nf,by have:=r.un;rw [Jgz];ac_nf⟩
theorem Room.depth {k:Nat} {A:Around} (r:Room k A):A.depth<recursionLimit:=by have:=r.dp;ac_nf
theorem Room.units {k:Nat} {A:Around} (r:Room k A):A.units+64<cLine:=by have:=r.un;ac_nf
def tNil:TA:=fun _ H Q=>Q [] H
def tCons (ta:TE) (tr:TA):TA:=fun σ H Q=>ta σ H fun x H1=>tr σ H1 fun xs H2=>Q (x::xs) H2
section
variable {X:Cx} {e:Expr} {es:List Expr} {te:TE} {t:TA} {pos:Pos}
theorem Jad:PA X [] tNil:=fun _ _ _ _ H Q I h=>Calls.spliced_nil ⟨[],H,I, .nil,h⟩
theorem Jjg (ha:PE X e te) (hr:PA X es t) (hs:starEach (e::es) X.env=(false,eval e X.env)::starEach es X.env:=by rfl):PA X (e::es) (tCons te t):=by
 intro b a s σ H Q I h;rw [hs];show wpAny _ _ (spliced ((false,eval e X.env)::backTo b (starEach es X.env))) _ _ s;refine Calls.spliced_cons (thn (ha a s σ H _ I h) fun u d ζ=>?_);obtain ⟨x,i,I1,c,f⟩:=ζ;exact thn (hr b a d σ i _ I1 f) fun m n ⟨j,g,I2,l,k⟩=>⟨x::j,g,I2, .cons c l,k⟩
def tTup (t:TA):TE:=fun σ H Q=>t σ H fun xs H1=>xs.length<=sizeLine/\∀ p,H1 p=none->Q (.ref p) (upd H1 p (.tup xs))
def tLst (t:TA):TE:=fun σ H Q=>t σ H fun xs H1=>xs.length<=sizeLine/\∀ p,H1 p=none->Q (.ref p) (upd H1 p (.lst xs))
theorem JaU {x1} (h:PA X es t):PE X (.Tuple es x1 pos) (tTup t):=by
 intro a s σ H Q I g;refine wpAny_Tuple_spliced (thn (h pos a s σ H _ I g) fun i c ⟨f,d,I1,r,z,q⟩=>⟨by rw [<- r.length];exact z,?_⟩);have j:d c.heap.objs.size=none:=I1.hok.fresh (Nat.le_refl _);refine ⟨.ref c.heap.objs.size,upd d c.heap.objs.size (.tup f),I1.laid (t':=c.toks) (fun b u e=>Heap.get?_push_of_some _ e) (Nat.le_refl _) ?_,rfl,q _ j⟩;exact ⟨z,i,r,⟨_,Heap.get?_push_size _ rfl,rfl,_,rfl⟩⟩
theorem JbL (h:PA X es t):PE X (.List es pos) (tLst t):=by
 intro a s σ H Q I g;refine wpAny_List_spliced (thn (h pos a s σ H _ I g) fun i c ⟨f,d,I1,r,z,q⟩=>⟨by rw [<- r.length];exact z,?_⟩);have j:d c.heap.objs.size=none:=I1.hok.fresh (Nat.le_refl _);refine ⟨.ref c.heap.objs.size,upd d c.heap.objs.size (.lst f),I1.laid (t':=c.toks) (fun b u e=>Heap.get?_push_of_some _ e) (Nat.le_refl _) ?_,rfl,q _ j⟩;exact ⟨z,i,0,r,Heap.get?_push_size _ rfl⟩
end
abbrev Sp:=List V->Hp->VK->XK->Prop
abbrev CXT:=List Env->Hp->Shared->XK->Value->Shared->Prop
structure Env0 (P:Program) (w:World) (K:W.Frag) (mg:Str->Option Value) (base:Heap) (A:Around) (outer:List Env) (s:Shared) (H:Hp):Prop where
 frames:A.frames=some outer
 mod:Mod K mg base
 bs:∀ b o,base.get? b=some o->s.heap.get? b=some o/\H b=none
 bsz:base.objs.size<=s.heap.objs.size
 funs:s.heap.FunFrames base outer
 frf:∀ b∈frs outer,H b=none
 hok:HOk P w H s.heap
 bare:AllBare s.gens
def CE (outer:List Env) (P:Program) (w:World) (H:Hp) (s:Shared) (Q:VK) (u:Value) (s':Shared):Prop :=
 ∃ v H',s'.os=s.os/\AllBare s'.gens/\Un (frs outer) [] H H' s.heap s'.heap/\HOk P w H' s'.heap/\RelV v u/\Q v H'
def CR (CX:CXT) (outer:List Env) (P:Program) (w:World) (H:Hp) (s:Shared) (Q:VK) (E:XK) (r:Result) (s':Shared):Prop :=
 match r with
 | .ok (.ret u)=>CE outer P w H s Q u s'
 | .ok _=>False
 | .error e=>CX outer H s E e s'
structure FnOk (P:Program) (w:World) (K:W.Frag) (mg:Str->Option Value) (base:Heap) (CX:CXT) (k:Nat) (f:Addr) (fd:FuncData) (ps:List Str) (sp:Sp):Prop where
 len:∀ vs H Q E,sp vs H Q E->vs.length=ps.length
 run:∀ (A:Around) (outer:List Env) (s:Shared) (H:Hp) (args:Args) (us:List Value) (vs:List V) (Q:VK) (E:XK),Room k A->Env0 P w K mg base A outer s H->BindsTo s fd args (ps.zip us)->Vals vs us->sp vs H Q E ->
  codeAny (model P w) A (.call (.ref f) args) (CR CX outer P w H s Q E) s
theorem Env0.make {P:Program} {w:World} {K:W.Frag} {mg:Str->Option Value} {base:Heap} {A:Around} {outer:List Env} {s:Shared} {H:Hp} (e:Env0 P w K mg base A outer s H) (C:Addr) (us:List Value) (kw:List (Str × Value)) :
  Env0 P w K mg base (A.under (.builtin "type.__call__" ⟨.ref C::us,kw⟩)) outer s H:=⟨by first | exact e.frames | (simpa [Around.under,Code.envs,Code.isFrame,pushEnvs] using e.frames),e.mod,e.bs,e.bsz,e.funs,e.frf,e.hok,e.bare⟩
section
variable {X:Cx} {pins:List (Addr × Obj)} {σ : St} {H:Hp} {s s':Shared}
theorem Inv.env0 (I:Inv X pins σ H s):Env0 X.prog X.w X.K X.mg X.base X.A X.stack s H :=
 ⟨I.ok.frames,I.ok.mod,I.bs,Nat.le_trans I.ok.bsz I.sz,I.stack,I.stkFree,I.hok,I.bare⟩
theorem Inv.after {Q:VK} {u:Value} (I:Inv X pins σ H s) (h:CE X.stack X.prog X.w H s Q u s'):EP X pins σ Q u s':=by
 obtain ⟨v,k,j,a,f,c,r,q⟩:=h;obtain ⟨i,g,d,t,e⟩:=s';obtain rfl:e=s.os:=j;exact ⟨v,k,I.call (h':=i) (g':=g) (d':=d) (t':=t) (ch:=[]) f c a (fun b z=>absurd z (by simp)),r,q⟩
end
def tCall (sp:Sp) (dvs:List V) (E:XK) (t:TA):TE:=fun σ H Q=>t σ H fun vs H1=>sp (vs++dvs) H1 Q E
def tMake (C:Addr) (sp:Sp) (dvs:List V) (E:XK) (t:TA):TE:=fun σ H Q=>t σ H fun vs H1=>∀ x dx,H1 x=none->H1 dx=none->dx≠x ->
 sp (.ref x::(vs++dvs)) (upd (upd H1 dx (.own x)) x (.ins C dx [])) (fun v H2=>v=.non/\Q (.ref x) H2) E
def Binds (K:W.Frag) (fd:FuncData) (ps:List Str) (ds:List Value):Prop :=
 ∀ (s:Shared) (us:List Value),K.In s.heap->(us++ds).length=ps.length->BindsTo s fd ⟨us,[]⟩ (ps.zip (us++ds))
theorem Binds.all {K:W.Frag} {fd:FuncData} {ps:List Str} (h:∀ us:List Value,us.length=ps.length->bindArgs fd ⟨us,[]⟩=pure (ps.zip us)):Binds K fd ps []:=fun s us _ a=>by
 rw [append_nil] at a ⊢;exact .of_eq (h us a)
def Jcf (CX:CXT) (X:Cx) (E:XK):Prop:=∀ (pins:List (Addr × Obj)) (σ : St) (H:Hp) (s:Shared) (e:Value) (s':Shared),Inv X pins σ H s->CX X.stack H s E e s'->X.xe e s'
section
variable {X:Cx} {CX:CXT} {k:Nat} {f C:Addr} {fd:FuncData} {ps:List Str} {sp:Sp} {dvs:List V} {ds:List Value} {E:XK} {x m:Str} {p pos apos:Pos} {e o:Expr} {es:List Expr} {ta:TE} {t:TA}
theorem Jgm {pins:List (Addr × Obj)} {σ : St} {H:Hp} {s:Shared} {Q:VK} {us:List Value} {vs:List V} (F:FnOk X.prog X.w X.K X.mg X.base CX k f fd ps sp) (hr:Room k X.A) (hb:Binds X.K fd ps ds) (hd:Vals dvs ds) (hx:Jcf CX X E)
  (I:Inv X pins σ H s) (r:Vals vs us) (h:sp (vs++dvs) H Q E):wpAny (model X.prog X.w) X.A (call (.ref f) us) (EP X pins σ Q) X.xe s:=by
 have b:Vals (vs++dvs) (us++ds):=r.append hd;have c:(us++ds).length=ps.length:=by rw [<- b.length];exact F.len _ _ _ _ h
 refine wpAny_call (codeAny_mono (F.run X.A X.stack s H ⟨us,[]⟩ (us++ds) (vs++dvs) Q E hr I.env0 (hb s us I.kIn c) b h) fun r d a=>?_);cases r with
 | error e=>exact hx pins σ H s e d I a
 | ok fl=>
  cases fl with
  | ret u=>exact I.after a
  | next=>exact False.elim a
  | brk=>exact False.elim a
  | cont=>exact False.elim a
theorem Jjh (F:FnOk X.prog X.w X.K X.mg X.base CX k f fd ps sp) (hr:Room k X.A) (hg:Gl X x) (hm:X.mg x=some (.ref f)) (hk:W.keepIn X.K (.ref f)=true) (hb:Binds X.K fd ps ds) (hd:Vals dvs ds) (hx:Jcf CX X E)
  (ha:PA X (e::es) t) (hdb:(x == ("__debug__" : Str))=false:=by decide) (he:starEach (e::es) X.env=(false,eval e X.env)::starEach es X.env:=by rfl) (hpl:(backTo pos (starEach es X.env)).any (·.1)=false:=by rfl) :
  PE X (.Call (.Name x p) (e::es) [] pos) (tCall sp dvs E t):=by
 intro a s σ H Q I h;refine wpAny_Call_Name_kw (Jdt I hg hm ?_ hdb);refine W.callWith_K (h₀:=X.base) I.ok.mod.kin hk (thn (ha pos a s σ H _ I h) fun g b ⟨c,d,I1,r,q⟩=>⟨I1.kIn,?_⟩) he hpl;exact Jgm F hr hb hd hx I1 r q
theorem Jib (F:FnOk X.prog X.w X.K X.mg X.base CX k f fd ps sp) (hr:Room k X.A) (hg:Gl X x) (hm:X.mg x=some (.ref f)) (hk:W.keepIn X.K (.ref f)=true) (hb:Binds X.K fd ps ds) (hd:Vals dvs ds) (hx:Jcf CX X E)
  (hdb:(x == ("__debug__" : Str))=false:=by decide):PE X (.Call (.Name x p) [] [] pos) (tCall sp dvs E tNil):=by
 intro a s σ H Q I h;refine wpAny_Call_Name_kw (Jdt I hg hm ?_ hdb);exact W.callWith_K0 I.kIn hk (Jgm (us:=[]) F hr hb hd hx I .nil h)
structure Mk (K:W.Frag) (C f:Addr):Prop where
 makes:W.makesIn K C=true
 init:W.findIn K (.ref C) "__init__"=some (some (.ref f))
 fn:W.isFn K (.ref f)=true
 kp:W.keepIn K (.ref C)=true
theorem Jig {pins:List (Addr × Obj)} {σ : St} {H:Hp} {s:Shared} {Q:VK} {us:List Value} {vs:List V} (M:Mk X.K C f) (F:FnOk X.prog X.w X.K X.mg X.base CX k f fd ps sp) (hr:Room (k+1) X.A) (hb:Binds X.K fd ps ds) (hd:Vals dvs ds)
  (hx:Jcf CX X E) (I:Inv X pins σ H s) (r:Vals vs us)
  (h:∀ x dx,H x=none->H dx=none->dx≠x->sp (.ref x::(vs++dvs)) (upd (upd H dx (.own x)) x (.ins C dx [])) (fun v H2=>v=.non/\Q (.ref x) H2) E) :
  wpAny (model X.prog X.w) X.A (call (.ref C) us) (EP X pins σ Q) X.xe s:=by
 have c:=h (s.heap.objs.size+1) s.heap.objs.size (I.hok.fresh (Nat.le_succ _)) (I.hok.fresh (Nat.le_refl _)) (Nat.ne_of_lt (Nat.lt_succ_self _));have I2:=Inv.made (C:=C) I;have b:Vals (V.ref (s.heap.objs.size+1)::(vs++dvs)) (Value.ref (s.heap.objs.size+1)::(us++ds)):=.cons rfl (r.append hd);have g:(Value.ref (s.heap.objs.size+1)::us++ds).length=ps.length:=by
  have e:=b.length;rw [F.len _ _ _ _ c] at e;exact e.symm
 refine wpAny_call (Jh2 (f:=f) I.kIn M.makes M.init (beq_iff_eq.mp M.fn) (codeAny_mono (F.run _ X.stack _ _ ⟨Value.ref (s.heap.objs.size+1)::us,[]⟩ (Value.ref (s.heap.objs.size+1)::(us++ds)) _ _ E (hr.make C us [])
  (I2.env0.make C us []) (hb _ (Value.ref (s.heap.objs.size+1)::us) I2.kIn g) b c) fun r i a=>?_))
 cases r with
 | error e=>exact hx pins σ _ _ e i I2 a
 | ok fl=>
  cases fl with
  | ret u=>
   obtain ⟨v,l,I3,j,d,m⟩:=I2.after a;subst d;exact ⟨j,⟨V.ref (s.heap.objs.size+1),l,I3,rfl,m⟩⟩
  | next=>exact False.elim a
  | brk=>exact False.elim a
  | cont=>exact False.elim a
theorem Jjj (M:Mk X.K C f) (F:FnOk X.prog X.w X.K X.mg X.base CX k f fd ps sp) (hr:Room (k+1) X.A) (hg:Gl X x) (hm:X.mg x=some (.ref C)) (hb:Binds X.K fd ps ds) (hd:Vals dvs ds) (hx:Jcf CX X E)
  (ha:PA X (e::es) t) (hdb:(x == ("__debug__" : Str))=false:=by decide) (he:starEach (e::es) X.env=(false,eval e X.env)::starEach es X.env:=by rfl) (hpl:(backTo pos (starEach es X.env)).any (·.1)=false:=by rfl) :
  PE X (.Call (.Name x p) (e::es) [] pos) (tMake C sp dvs E t):=by
 intro a s σ H Q I h;refine wpAny_Call_Name_kw (Jdt I hg hm ?_ hdb);refine W.callWith_K (h₀:=X.base) I.ok.mod.kin M.kp (thn (ha pos a s σ H _ I h) fun g b ⟨c,d,I1,r,q⟩=>⟨I1.kIn,?_⟩) he hpl;exact Jig M F hr hb hd hx I1 r q
end
section
variable {X:Cx} {CX:CXT} {k:Nat} {f C:Addr} {fd:FuncData} {ps ks:List Str} {sp:Sp} {E:XK} {x m:Str} {p pos apos kpos:Pos} {e o:Expr} {es:List Expr} {kws:List Keyword} {te ta:TE} {t tk:TA} {nm:Option Str}
variable {g:List Value->List Value->List Value} {gV:List V->List V->List V}
end
structure Jan (N P:List Str) (sc:Scope):Prop where
 kind:sc.kind=.function
 co:sc.isCoroutine=false
 gen:sc.isGenerator=false
 nd:N.Nodup
 pre:N.take P.length=P
 par:∀ x∈P,sc.names.lookup x=some .local\/sc.names.lookup x=some .cell
 nofree:∀ y∈sc.names,y.2≠.free
theorem JeV {kindOf:Str->Option NameKind} {x:Str}:∀ {binds:List (Str × Value)} {m:Str->Option Value},(∀ v,(x,v)∉binds)->bindL kindOf binds m x=m x
 | [],_,_=>rfl
 | (n,v)::r,m,h=>by
  unfold bindL;rw [JeV fun w hw=>h w (mem_cons_of_mem _ hw)];split
  ·have : x≠n:=by rintro rfl;exact h v mem_cons_self
   simp [this]
  ·rfl
theorem JeT {kindOf:Str->Option NameKind} {x:Str}:∀ {binds:List (Str × Value)} {m:Str->Option Value},(∀ v,(x,v)∉binds)->bindC kindOf binds m x=m x
 | [],_,_=>rfl
 | (n,v)::r,m,h=>by
  unfold bindC;rw [JeT fun w hw=>h w (mem_cons_of_mem _ hw)];split
  ·rfl
  ·have : x≠n:=by rintro rfl;exact h v mem_cons_self
   simp [this]
theorem JeU {kindOf:Str->Option NameKind} {x:Str} {v:Value}:∀ {P:List Str} {vs:List Value} {i:Nat} {m:Str->Option Value},P.Nodup->P[i]?=some x->vs[i]?=some v->kindOf x=some .local ->
  bindL kindOf (P.zip vs) m x=some v
 | [],_,_,_,_,h,_,_=>by simp at h
 | _::_,[],_,_,_,_,h,_=>by simp at h
 | p::P,w::vs,0,m,nd,h1,h2,hk=>by
  simp at h1 h2;subst h1;subst h2;show bindL kindOf ((p,w)::P.zip vs) m p=_;unfold bindL;rw [JeV fun v hv=>(nodup_cons.mp nd).1 (List.of_mem_zip hv).1,if_pos hk];simp
 | p::P,w::vs,i+1,m,nd,h1,h2,hk=>by
  show bindL kindOf ((p,w)::P.zip vs) m x=_;unfold bindL;exact JeU (i:=i) (nodup_cons.mp nd).2 (by simpa using h1) (by simpa using h2) hk
theorem JeS {kindOf:Str->Option NameKind} {x:Str} {v:Value}:∀ {P:List Str} {vs:List Value} {i:Nat} {m:Str->Option Value},P.Nodup->P[i]?=some x->vs[i]?=some v->kindOf x≠some .local ->
  bindC kindOf (P.zip vs) m x=some v
 | [],_,_,_,_,h,_,_=>by simp at h
 | _::_,[],_,_,_,_,h,_=>by simp at h
 | p::P,w::vs,0,m,nd,h1,h2,hk=>by
  simp at h1 h2;subst h1;subst h2;show bindC kindOf ((p,w)::P.zip vs) m p=_;unfold bindC;rw [JeT fun v hv=>(nodup_cons.mp nd).1 (List.of_mem_zip hv).1,if_neg hk];simp
 | p::P,w::vs,i+1,m,nd,h1,h2,hk=>by
  show bindC kindOf ((p,w)::P.zip vs) m x=_;unfold bindC;exact JeS (i:=i) (nodup_cons.mp nd).2 (by simpa using h1) (by simpa using h2) hk
def start (N:List Str) (vs:List V):St:=vs.map some++List.replicate (N.length-vs.length) none
def cxOf (CX:CXT) (P:Program) (w:World) (K:W.Frag) (mg:Str->Option Value) (base:Heap) (N:List Str) (qual:Str) (scope:Scope) (f:Addr) (cd:Value) (A:Around) (outer:List Env) (s:Shared) (H:Hp) (E:XK):Cx where
 prog:=P
 w:=w
 K:=K
 mg:=mg
 base:=base
 A:=A.deeper (envOfC qual scope s.heap.objs.size f cd)
 N:=N
 s₀:=s
 H₀:=H
 env:=envOfC qual scope s.heap.objs.size f cd
 outer:=outer
 stack:=envOfC qual scope s.heap.objs.size f cd::outer
 ex:=[]
 calm:=true
 fn:=fun _=>true
 pn:=[]
 xe:=fun e s'=>wpAny (model P w) (A.deeper (envOfC qual scope s.heap.objs.size f cd)) (leaving (envOfC qual scope s.heap.objs.size f cd) e) (fun _ s''=>CX outer H s E e s'') (fun e' s''=>CX outer H s E e' s'') s'
theorem Jf7 {sc:Scope} {n:Nat} {x:Str} (h:sc.names.lookup x=some .cell):∃ c,(cellsFrom n sc.names []).lookup x=some c:=by
 have q:=W.cellsFrom_some sc.names n [] (.inl h);exact Option.isSome_iff_exists.mp q
theorem Jg9 {CX:CXT} {P:Program} {w:World} {K:W.Frag} {mg:Str->Option Value} {base:Heap} {N ps:List Str} {qual:Str} {scope:Scope} {f:Addr} {cd:Value} {A:Around} {outer:List Env} {s s1:Shared} {H:Hp} {E:XK} {us:List Value} {vs:List V}
  (S:Jan N ps scope) (hd:A.handled=none) (e0:Env0 P w K mg base A outer s H) (hl:vs.length=ps.length) (r:Vals vs us)
  (x:InCallC s s.heap.objs.size (bindL (envOfC qual scope s.heap.objs.size f cd).kindOf (ps.zip us) fun _=>none) (cellsFrom (s.heap.objs.size+1) scope.names []) (bindC (envOfC qual scope s.heap.objs.size f cd).kindOf (ps.zip us) fun _=>none) s1) :
  Inv (cxOf CX P w K mg base N qual scope f cd A outer s H E) [] (start N vs) H s1:=by
 have D:ps.length<=N.length:=by have:=congrArg List.length S.pre;rw [length_take] at this;ac_nf
 obtain ⟨o,I,rfl,C⟩:=x.done;have j:∀ b:Addr,b∉(cxOf CX P w K mg base N qual scope f cd A outer s H E).ex:=fun b z=>absurd (show b∈([]:List Addr) from z) (by simp);refine ⟨⟨e0.mod,S.kind,rfl,rfl,Nat.le_refl _,fun y z c o d=>?_,fun y g=>?_,fun y c _ h=>?_,fun _=>hd,Around.frames_deeper e0.frames, .inr ⟨rfl,rfl⟩,fun b z=>absurd z (j b),e0.bs,e0.bsz,fun b _ _=>j b,fun b z=>absurd z (j b),e0.funs,e0.frf⟩,
  rfl,e0.bare,Un.kept C,⟨_,x.toInCall.ns,fun i y v o d J=>?_⟩,fun y c h=>⟨_,x.cell y c h⟩,e0.hok.fresh (Nat.le_refl _),fun y c h=>?_,fun p m=>absurd (show p∈([]:List (Addr × Obj)) from m) (by simp),e0.hok.kept C,?_⟩
 ·exact name_of_addr x.apart (PySem.mem_of_lookup o) (PySem.mem_of_lookup d)
 ·have g:scope.names.lookup y=some .cell\/scope.names.lookup y=some .free:=g;rcases g with g | g
  ·exact Jf7 g
  ·exact absurd rfl (S.nofree _ (PySem.mem_of_lookup g))
 ·exact Nat.le_of_lt (x.above y c (PySem.mem_of_lookup h))
 ·have t:i<vs.length:=by
   unfold start at d;by_cases t:i<vs.length
   ·exact t
   ·rw [List.getElem?_append_right (by simpa using t)] at d;rw [List.getElem?_replicate] at d;split at d <;> cases d
  have G:vs[i]?=some v:=by
   unfold start at d;rw [List.getElem?_append_left (by simpa using t),List.getElem?_map] at d;cases e:vs[i]? with
   | none=>rw [e] at d;cases d
   | some a=>rw [e] at d;cases d;rfl
  obtain ⟨u,B,F⟩:=r.get G;have m:ps[i]?=some y:=by
   rw [<- S.pre,List.getElem?_take_of_lt ∅];exact o
  have l:ps.Nodup:=by rw [<- S.pre];exact S.nd.sublist (List.take_sublist _ _)
  refine ⟨u,F,?_⟩;rcases S.par y (List.mem_of_getElem? m) with k | k
  ·exact .inl ⟨k,JeU l m B k⟩
  ·obtain ⟨c,e⟩:=Jf7 (n:=s.heap.objs.size+1) k;refine .inr ⟨.inl k,c,e,?_⟩;have q:=x.cell y c e;rw [JeS l m B (by show scope.names.lookup y≠_;rw [k];decide)] at q;exact q
 ·exact e0.hok.fresh (Nat.le_of_lt (x.above y c (PySem.mem_of_lookup h)))
 ·unfold start;show _=N.length;rw [length_append,length_map,List.length_replicate];ac_nf
theorem fn_of {CX:CXT} {P:Program} {w:World} {K:W.Frag} {mg:Str->Option Value} {base:Heap} {k:Nat} {f:Addr} {name qual:Str} {params:Arguments} {body:List Stmt} {scope:Scope} {dV kV doc pm cdv ct oc:Value} {an od:Option Addr}
  {osl:Array (Option Value)} {N ps:List Str} {sp:Sp} (lk:K.lookup f=some ⟨oc,od, .func (W.fnOf name qual params body scope dV kV doc pm an cdv ct),osl⟩) (hcd:W.codeIn K cdv qual=true) (S:Jan N ps scope)
  (len:∀ vs H Q E,sp vs H Q E->vs.length=ps.length)
  (hbody:∀ (A:Around) (outer:List Env) (s:Shared) (H:Hp) (vs:List V) (Q:VK) (E:XK),Room k (A.deeper (envOfC qual scope s.heap.objs.size f cdv))->sp vs H Q E ->
   ∃ t,PSs (cxOf CX P w K mg base N qual scope f cdv A outer s H E) body t/\t { nx:=fun _ H'=>Q .non H',rt:=Q } (start N vs) H) :
  FnOk P w K mg base CX (k+1) f (W.fnOf name qual params body scope dV kV doc pm an cdv ct) ps sp:=by
 refine ⟨len,fun A outer s H p B vs Q E i d G r g=>?_⟩;have L:=len _ _ _ _ g;have KX:K.In s.heap:=d.mod.kin.keeps fun b o e=>(d.bs b o e).1;have m:s.heap.NoLimit:=d.mod.nolimit.keeps fun b o e=>(d.bs b o e).1;have a:∀ y∈ps.zip B,scope.names.lookup y.1=some .local\/(scope.names.lookup y.1=some .cell/\((cellsFrom (s.heap.objs.size+1) scope.names []).lookup y.1).isSome=true):=fun ⟨n,v⟩ C=>by
  rcases S.par n (List.of_mem_zip C).1 with q | q
  ·exact .inl q
  ·exact .inr ⟨q,W.cellsFrom_some _ _ _ (.inl q)⟩
 refine codeAny_call_function i.depth (KX _ _ lk) rfl S.co S.gen rfl (W.codeRec_of KX hcd) (G _ _ _ _ ?_);refine wpAny_newFunctionEnv_cells S.kind a fun F O z x=>?_;subst O;refine ⟨m.keeps x.toInCall.keep,codeAny_func ?_⟩;obtain ⟨t,M,D⟩:=hbody A outer s H vs Q E (i.deeper _) g;have I:Inv (cxOf CX P w K mg base N qual scope f cdv A outer s H E) [] (start N vs) H z:=Jg9 S i.hd d L r x;refine wpAny_mono (M [] z (start N vs) H _ I D) (fun R j c=>?_) fun e j c=>c;have h:∀ {σ':St} {H':Hp} {v:V} {u:Value},Inv (cxOf CX P w K mg base N qual scope f cdv A outer s H E) [] σ' H' j->RelV v u->Q v H'->CE outer P w H s Q u j :=
  fun {σ' H' v u} J l q=>⟨v,H',J.os,J.bare,J.base,J.hok,l,q⟩
 cases R with
 | ret u=>
  obtain ⟨v,σ',H',J,l,q⟩:=c;exact h J l q
 | next=>
  obtain ⟨σ',H',J,q⟩:=c;exact h (v:=V.non) (u:=Value.none) J rfl q
 | brk=>
  obtain ⟨_,_,_,q⟩:=c;exact False.elim q
 | cont=>
  obtain ⟨_,_,_,q⟩:=c;exact False.elim q
section
variable {X:Cx} {x:Str} {p pos:Pos} {e:Expr} {es:List Expr} {t:TA} {id T:String} {r:List V->Hp->VK->Prop}
def tCB (r:List V->Hp->VK->Prop) (t:TA):TE:=fun σ H Q=>t σ H fun vs H1=>r vs H1 Q
theorem Jat (hc:CallR X (.builtin id) r) (hg:Gl X x) (hm:X.mg x=none) (hv:bootBuiltins x=some (.builtin id)) (ha:PA X (e::es) t) (hn:x≠"__name__":=by decide) (hdb:(x == ("__debug__" : Str))=false:=by decide)
  (he:starEach (e::es) X.env=(false,eval e X.env)::starEach es X.env:=by rfl) (hpl:(backTo pos (starEach es X.env)).any (·.1)=false:=by rfl):PE X (.Call (.Name x p) (e::es) [] pos) (tCB r t):=by
 intro a s σ H Q I h;refine wpAny_Call_Name_kw (Jeb I hg hm hv ?_ hn hdb);exact PyProof.Rows.callWith_builtin1 (thn (ha pos a s σ H _ I h) fun g b ⟨d,f,I1,i,c⟩=>hc a b σ f d g Q I1 i c) he hpl
theorem JdD (hc:CallR X (.type T) r) (hg:Gl X x) (hm:X.mg x=none) (hv:bootBuiltins x=some (.type T)) (ha:PA X (e::es) t) (hn:x≠"__name__":=by decide) (hdb:(x == ("__debug__" : Str))=false:=by decide)
  (he:starEach (e::es) X.env=(false,eval e X.env)::starEach es X.env:=by rfl) (hpl:(backTo pos (starEach es X.env)).any (·.1)=false:=by rfl):PE X (.Call (.Name x p) (e::es) [] pos) (tCB r t):=by
 intro a s σ H Q I h;refine wpAny_Call_Name_kw (Jeb I hg hm hv ?_ hn hdb);exact PyProof.Rows.callWith_type1 (thn (ha pos a s σ H _ I h) fun g b ⟨d,f,I1,i,c⟩=>hc a b σ f d g Q I1 i c) he hpl
end
end L2
namespace HT
open PySem PyProof.Rows
section
open PySem.SeqAt
open PySem.AutoSeq1 (wpAny_loadPart')
open PySem.MeetsSeq PySem.MeetsSeq2 PySem.MeetsSeq3
end
section
variable {prog:Program} {w:World} {A:Around} {E:Value->Shared->Prop} {s:Shared}
theorem cat_tup {t b:Addr} {vs ws:List Value} {Q:Value->Shared->Prop} (ht:IsTup s.heap t vs.toArray) (hb:IsTup s.heap b ws.toArray) (hv:vs≠[])
  (h1:ws=[]->Q (.ref t) s) (h2:ws≠[]->Q (.ref s.heap.objs.size) { s with heap:=s.heap.push { cls:=.type "tuple",data:=.seq (vs++ws).toArray } })
  (hsz:vs.length+ws.length<=sizeLine):wpAny (model prog w) A (binaryOp .Add (.ref t) (.ref b)) Q E s:=by
 obtain ⟨⟨cls,l,data,p⟩,i,k,n,m⟩:=id ht;obtain ⟨⟨q,c,j,f⟩,a,d,o,g⟩:=id hb;simp only at k m d g;subst k m d g;have e:vs.toArray++ws.toArray=(vs++ws).toArray:=by simp
 by_cases h:ws=[]
 ·exact concat_meets ⟨_,i,rfl⟩ ⟨_,a,rfl⟩ noFill_tuple_add seq_tuple_add PySem.F.slot_tuple_add PySem.F.entry_tuple_add (PySem.F.args_tuple_add_2 _ _)
   (tuple_addW1 t b vs.toArray ws.toArray n o l c p f (by simpa using hv) (by simp [h])) ⟨i,a,h1 h⟩
 ·refine concat_meets ⟨_,i,rfl⟩ ⟨_,a,rfl⟩ noFill_tuple_add seq_tuple_add PySem.F.slot_tuple_add PySem.F.entry_tuple_add (PySem.F.args_tuple_add_2 _ _)
   (tuple_addW2 t b vs.toArray ws.toArray n o l c p f (by simpa using hv) (by simpa using h) (by rw [size_toArray,size_toArray];exact hsz)) ⟨i,a,?_⟩
  rw [e];exact h2 h
def sIx (n d:Nat):Option Int->Nat
 | none=>d
 | some v=>if v<0 then (v+(n:Int)).toNat else min v.toNat n
theorem Jkd (n d:Nat) (hd:d<=n) (o:Option Int):sIx n d o<=n:=by
 cases o with
 | none=>exact hd
 | some v=>
  show (if v<0 then (v+(n:Int)).toNat else min v.toNat n)<=n;by_cases a:v<0
  ·rw [if_pos a];ac_nf
  ·rw [if_neg a];exact Nat.min_le_right _ _
theorem JgQ (v:Int) (n d:Nat):(if v<0 then max (v+(n:Int)) 0 else min v (n:Int))=((sIx n d (some v):Nat):Int):=by
 show (if v<0 then max (v+(n:Int)) 0 else min v (n:Int))=(((if v<0 then (v+(n:Int)).toNat else min v.toNat n):Nat):Int);by_cases a:v<0
 ·simp only [if_pos a];ac_nf
 ·simp only [if_neg a];ac_nf
theorem Jgq (lo hi:Option Int) (n:Nat):Builtin.Slice.sliceAdjust lo hi 1 (n:Int)=(((sIx n 0 lo:Nat):Int),((sIx n n hi:Nat):Int)):=by
 have a:¬ ((1:Int)<0):=by ac_nf
 unfold Builtin.Slice.sliceAdjust;simp only [a,if_false];refine Prod.ext ?_ ?_
 ·cases lo with
  | none=>rfl
  | some v=>exact JgQ v n 0
 ·cases hi with
  | none=>rfl
  | some v=>exact JgQ v n n
theorem JgE (i j:Nat):Builtin.Slice.slicePlaces (i:Int) (j:Int) 1=j-i:=by
 unfold Builtin.Slice.slicePlaces;have a:(1:Int) > 0:=by ac_nf
 simp only [a,if_true,Int.ediv_one];split <;> ac_nf
theorem Jej {v:Value} {o:Option Int} {Q:Option Int->Shared->Prop} (p:IsPart v o) (h:Q o s):wpAny (model prog w) A (Builtin.Slice.slicePartIndex v) Q E s:=by
 cases p with
 | none=>exact slicePart_none h
 | int i t=>exact slicePart_int h
theorem Jdf {sl:Addr} {vl vu:Value} {lo hi:Option Int} {n:Nat} {Q:Int × Int × Nat->Shared->Prop} (hs:s.heap.IsSliceOf sl vl vu .none) (pl:IsPart vl lo) (pu:IsPart vu hi)
  (h:Q (((sIx n 0 lo:Nat):Int),1,sIx n n hi-sIx n 0 lo) s):wpAny (model prog w) A (Builtin.Slice.sliceApplied (.ref sl) (pure (n:Int))) Q E s:=by
 obtain ⟨d,b,c,a⟩:=id hs;unfold Builtin.Slice.sliceApplied Builtin.Slice.sliceFields;refine wpAny_bind (wpAny_bind (wpAny_field b a (x:=vl) rfl (wpAny_bind (wpAny_field b a (x:=vu) rfl (wpAny_bind (wpAny_field b a (x:=.none) rfl (wpAny_pure ?_)))))));refine wpAny_bind (slicePart_none ?_);show wpAny _ _ (if ((1:Int) == 0)=true then _ else _) _ _ s;rw [if_neg ⋯];refine wpAny_bind (Jej pl (wpAny_bind (Jej pu (wpAny_bind (wpAny_pure ?_)))));show wpAny _ _ (match Builtin.Slice.sliceAdjust lo hi 1 (n:Int) with | (lo,hi)=>pure (lo,(1:Int),Builtin.Slice.slicePlaces lo hi 1)) _ _ s;rw [Jgq lo hi n];show wpAny _ _ (pure (((sIx n 0 lo:Nat):Int),(1:Int),Builtin.Slice.slicePlaces ((sIx n 0 lo:Nat):Int) ((sIx n n hi:Nat):Int) 1)) _ _ s;rw [JgE];exact wpAny_pure h
theorem Jid (xs:Array Value) (i k:Nat):((List.range k).filterMap fun (m:Nat)=>xs[((i:Int)+(m:Int)*1).toNat]?).toArray=((xs.toList.drop i).take k).toArray:=by
 have e:(fun (m:Nat)=>xs[((i:Int)+(m:Int)*1).toNat]?)=fun m=>xs[i+m]?:=by
  funext m
  have : ((i:Int)+(m:Int)*1).toNat=i+m:=by ac_nf
  rw [this]
 rw [e];have:=pick_run xs i k;rw [List.filterMap_map] at this;have a:((fun x=>xs[x]?) ∘ fun x=>i+x)=fun m=>xs[i+m]?:=rfl;rw [a] at this;rw [this]
theorem getItem_tuple_cut {t sl:Addr} {items:Array Value} {vl vu:Value} {lo hi:Option Int} {Q:Value->Shared->Prop} (ht:IsTup s.heap t items) (hs:s.heap.IsSliceOf sl vl vu .none) (pl:IsPart vl lo) (pu:IsPart vu hi)
  (hw:¬ (sIx items.size 0 lo=0/\sIx items.size items.size hi=items.size))
  (h:Q (.ref s.heap.objs.size) { s with heap:=s.heap.push { cls:=.type "tuple",data:=.seq ((items.toList.drop (sIx items.size 0 lo)).take (sIx items.size items.size hi-sIx items.size 0 lo)).toArray } })
  (hsz:items.size<=sizeLine):wpAny (model prog w) A (getItem (.ref t) (.ref sl)) Q E s:=by
 have a:sizeOk (.seq ((items.toList.drop (sIx items.size 0 lo)).take (sIx items.size items.size hi-sIx items.size 0 lo)).toArray):=by
  show ((items.toList.drop (sIx items.size 0 lo)).take (sIx items.size items.size hi-sIx items.size 0 lo)).toArray.size<=sizeLine;rw [size_toArray,length_take,List.length_drop,Array.length_toList];ac_nf
 have i:sIx items.size items.size hi<=items.size:=Jkd _ _ (Nat.le_refl _) hi;obtain ⟨f,e,d,g⟩:=id hs;have c:s.TypeIs (.ref sl) "slice":=⟨f,e,d⟩;unfold getItem;try with_reducible refine wpAny_holding ?_
 first | refine wpAny_bind (wpAny_pure ?_) | skip
 refine wpAny_bind (wpAny_sequenceKey ht.typeIs ⋯ ?_);refine wpAny_bind (wpAny_callSpecial?_slot (name:=Str.ofString "__getitem__") ht.typeIs PyProof.Rows.slot_tuple_getitem
  (wpAny_call_entry PyProof.Rows.slot_tuple_getitem ht.typeIs entry_tuple_getitem ?_ (args_tuple_getitem _ _)))
 show wpAny _ _ (Builtin.Tuple.tupleItemsOf (.ref t) >>= _) _ _ s;refine wpAny_bind (tupleItemsOf_ ht ?_);refine wpAny_bind (wpAny_typeOf c ?_);rw [if_pos ⋯];refine wpAny_bind (Jdf hs pl pu ?_);have b:¬ ((((sIx items.size 0 lo:Nat):Int) == 0&&(1:Int) == 1&&(sIx items.size items.size hi-sIx items.size 0 lo) == items.size)=true):=by
  intro q;rw [Bool.and_eq_true,Bool.and_eq_true] at q;have j:((sIx items.size 0 lo:Nat):Int)=0:=eq_of_beq q.1.1;have k:sIx items.size items.size hi-sIx items.size 0 lo=items.size:=eq_of_beq q.2;exact hw ⟨by ac_nf,by ac_nf⟩
 show wpAny _ _ (if (((sIx items.size 0 lo:Nat):Int) == 0&&(1:Int) == 1&&(sIx items.size items.size hi-sIx items.size 0 lo) == items.size)=true then _ else _) _ _ s;rw [if_neg b,Jid];first
  | exact wpAny_bind (m:=Builtin.Tuple.tupleExact _) (wpAny_newObj_type (wpAny_pure ⟨_,rfl,wpAny_pure h⟩) a)
  | exact wpAny_bind (m:=Builtin.Tuple.tupleExact _) (wpAny_newObj_type (wpAny_bind (wpAny_pure (wpAny_pure ⟨_,rfl,wpAny_pure h⟩))) a)
  | exact wpAny_bind (wpAny_bind (m:=Builtin.Tuple.tupleExact _) (wpAny_newObj_type (wpAny_pure (wpAny_pure ⟨_,rfl,wpAny_pure h⟩)) a))
  | exact wpAny_bind (wpAny_bind (m:=Builtin.Tuple.tupleExact _) (wpAny_newObj_type (wpAny_pure ⟨_,rfl,wpAny_pure h⟩) a))
end
end HT
namespace L2
open PySem PySem.Spec PyProof.Rows
abbrev TO:=St->Hp->(Option Int->Hp->Prop)->Prop
def PO (X:Cx) (e:Option Expr) (t:TO):Prop :=
 ∀ (pins:List (Addr × Obj)) (s:Shared) (σ : St) (H:Hp) (Q:Option Int->Hp->Prop),Inv X pins σ H s->t σ H Q ->
  wpAny (model X.prog X.w) X.A (evalPart e X.env) (fun u s'=>∃ o H',Inv X pins σ H' s'/\IsPart u o/\Q o H') X.xe s
def JhN:TO:=fun _ H Q=>Q none H
def tPart (t:TE):TO:=fun σ H Q=>t σ H fun x H1=>∃ i,x=.int i/\Q (some i) H1
section
variable {X:Cx} {e:Expr} {te:TE} {lo hi:Option Expr} {tl th:TO} {pos p2:Pos}
theorem JfQ:PO X none JhN:=by
 intro a s σ H Q I h;rw [evalPart_none];exact wpAny_pure ⟨none,H,I, .none,h⟩
theorem JfR (h:PE X e te):PO X (some e) (tPart te):=by
 intro a s σ H Q I c;rw [evalPart_some];refine thn (h a s σ H _ I c) fun u g ζ=>?_;obtain ⟨x,d,I1,f,b⟩:=ζ;obtain ⟨i,rfl,q⟩:=b;obtain ⟨t,rfl⟩:=f;exact ⟨some i,d,I1, .int i t,q⟩
def SlR (X:Cx) (r:V->Option Int->Option Int->Hp->VK->Prop):Prop :=
 ∀ (pins:List (Addr × Obj)) (s:Shared) (σ : St) (H:Hp) (x:V) (v vl vu:Value) (lo hi:Option Int) (sl:Addr) (Q:VK),Inv X pins σ H s->RelV x v->s.heap.IsSliceOf sl vl vu .none->IsPart vl lo->IsPart vu hi->r x lo hi H Q ->
  ∃ T id,typeLookup (.type T) "__getitem__"=pure (some (.builtin id))/\s.TypeIs v T/\wpAny (model X.prog X.w) X.A (getItem v (.ref sl)) (EP X pins σ Q) X.xe s
theorem SlR.or {r r':V->Option Int->Option Int->Hp->VK->Prop} (h:SlR X r) (h':SlR X r'):SlR X (fun x lo hi H Q=>r x lo hi H Q\/r' x lo hi H Q):=by
 intro a s σ H x v vl d lo hi c Q I e b f pu q;rcases q with q | q
 ·exact h a s σ H x v vl d lo hi c Q I e b f pu q
 ·exact h' a s σ H x v vl d lo hi c Q I e b f pu q
def tSl (r:V->Option Int->Option Int->Hp->VK->Prop) (te:TE) (tl th:TO):TE:=fun σ H Q=>te σ H fun x H1=>tl σ H1 fun l H2=>th σ H2 fun u H3=>r x l u H3 Q
theorem JeH {r:V->Option Int->Option Int->Hp->VK->Prop} (hr:SlR X r) (he:PE X e te) (hl:PO X lo tl) (hu:PO X hi th):PE X (.Subscript e (.Slice lo hi none p2) pos) (tSl r te tl th):=by
 intro a s σ H Q I h;refine Subscript_ (thn (he a s σ H _ I h) fun v n ζ=>?_);obtain ⟨x,t,I1,m,o⟩:=ζ;refine wpAny_Slice (thn (hl a n σ t _ I1 o) fun vl k ⟨l,p,I2,j,y⟩=>thn (hu a k σ p _ I2 y) fun d c ζ=>?_);obtain ⟨u,f,I3,pu,B⟩:=ζ;rw [evalPart_none];refine wpAny_pure ?_;have I4:Inv X a σ f { c with heap:=c.heap.push { cls:=.type "slice",data:=.fields #[vl,d, .none] } }:=I3.kept (t':=c.toks) fun b C q=>Heap.get?_push_of_some _ q;obtain ⟨T,id,i,z,g⟩:=hr a { c with heap:=c.heap.push { cls:=.type "slice",data:=.fields #[vl,d, .none] } } σ f x v vl d l u c.heap.objs.size Q I4 m (Heap.IsSliceOf.new ..) j pu B;show wpAny (model X.prog X.w) X.A (subscriptTail e (.Slice lo hi none p2) v (.ref c.heap.objs.size)) (EP X a σ Q) X.xe { c with heap:=c.heap.push { cls:=.type "slice",data:=.fields #[vl,d, .none] } };exact tail_any (ops:=[.ref c.heap.objs.size,v]) z i g (by with_unfolding_all rfl)
def cutV (xs:List V) (lo hi:Option Int):List V:=(xs.drop (HT.sIx xs.length 0 lo)).take (HT.sIx xs.length xs.length hi-HT.sIx xs.length 0 lo)
theorem Jdn (xs:List V) (lo hi:Option Int):(cutV xs lo hi).length<=xs.length:=by
 unfold cutV;rw [length_take,List.length_drop];ac_nf
def rSlT (K:W.Frag):V->Option Int->Option Int->Hp->VK->Prop:=fun x lo hi H Q=>∃ a xs,x=.ref a/\SqT K H a xs /\
 ¬ (HT.sIx xs.length 0 lo=0/\HT.sIx xs.length xs.length hi=xs.length)/\∀ p,H p=none->Q (.ref p) (upd H p (.tup (cutV xs lo hi)))
theorem Jkf:SlR X (rSlT X.K):=by
 intro j s σ H x v vl w e g u Q I m l n pu h;obtain ⟨a,d,rfl,t,p,q⟩:=h;cases m;obtain ⟨f,r,k,i⟩:=I.tuple t;have c:f.toArray.size=d.length:=by rw [size_toArray];exact r.length.symm
 refine ⟨"tuple",_,PyProof.Rows.slot_tuple_getitem.lookup,k.typeIs,?_⟩;refine HT.getItem_tuple_cut k l n pu (by rw [c];exact p) ?_ (by rw [c];exact i);rw [c];refine ⟨.ref s.heap.objs.size,_,I.laid (t':=s.toks) (o:=.tup (cutV d e g)) (fun b y q=>Heap.get?_push_of_some _ q) (Nat.le_refl _) ?_,rfl,q _ (I.hok.fresh (Nat.le_refl _))⟩;exact ⟨Nat.le_trans (Jdn d e g) i,_,(r.drop (HT.sIx d.length 0 e)).take (HT.sIx d.length d.length g-HT.sIx d.length 0 e),IsTup.new _ _⟩
def rCatT (K:W.Frag):R2:=fun x y H Q=>∃ a b xs ys,x=.ref a/\y=.ref b/\SqT K H a xs/\SqT K H b ys/\xs≠[]/\xs.length+ys.length<=sizeLine /\
 (ys=[]->Q (.ref a) H)/\(ys≠[]->∀ p,H p=none->Q (.ref p) (upd H p (.tup (xs++ys))))
theorem Vals.nil_iff {xs:List V} {us:List Value} (r:Vals xs us):us=[]↔xs=[]:=by
 cases r with
 | nil=>simp
 | cons _ _=>simp
theorem Jjb:OpR X (binaryOp .Add) (rCatT X.K):=by
 intro g s σ H x y v u Q I k i h;obtain ⟨a,b,p,l,rfl,rfl,B,A,C,f,m,t⟩:=h;cases k;cases i;obtain ⟨n,d,j,_⟩:=I.tuple B;obtain ⟨e,c,r,_⟩:=I.tuple A;refine HT.cat_tup j r (fun z=>C (d.nil_iff.mp z)) (fun z=>⟨.ref a,H,I,rfl,m (c.nil_iff.mp z)⟩) (fun z=>?_) (by rw [<- d.length, <- c.length];exact f);refine ⟨.ref s.heap.objs.size,_,I.laid (t':=s.toks) (o:=.tup (p++l)) (fun b D q=>Heap.get?_push_of_some _ q) (Nat.le_refl _) ?_,rfl,t (fun w=>z (c.nil_iff.mpr w)) _ (I.hok.fresh (Nat.le_refl _))⟩;exact ⟨by rw [length_append];exact f,_,d.append c,IsTup.new _ _⟩
end
def ixN (n:Nat) (i:Int):Option Nat:=if 0<=i then (if i<n then some i.toNat else none) else if -(n:Int)<=i then some (i+n).toNat else none
def atI {α : Type} (xs:List α) (i:Int):Option α:=(ixN xs.length i).bind fun j=>xs[j]?
theorem Jha {n:Nat} {i:Int} {j:Nat} (h:ixN n i=some j):seqIndex? i n=some j/\j<n/\-(n:Int)<=i/\i<n:=by
 unfold ixN at h;by_cases b:0<=i
 ·rw [if_pos b] at h;by_cases a:i<n
  ·rw [if_pos a] at h;have e:i.toNat=j:=Option.some.inj h;exact ⟨by rw [seqIndex_of b a,e],by ac_nf,by ac_nf,a⟩
  ·rw [if_neg a] at h;cases h
 ·rw [if_neg b] at h;by_cases a : -(n:Int)<=i
  ·rw [if_pos a] at h;have e:(i+n).toNat=j:=Option.some.inj h;exact ⟨by rw [seqIndex_neg ∅ a,e],by ac_nf,a,by ac_nf⟩
  ·rw [if_neg a] at h;cases h
theorem Jfz {α : Type} {xs:List α} {i:Int} {v : α} (h:atI xs i=some v):∃ j,seqIndex? i xs.length=some j/\xs[j]?=some v/\j<xs.length/\-(xs.length:Int)<=i/\i<xs.length:=by
 unfold atI at h;cases e:ixN xs.length i with
 | none=>rw [e] at h;cases h
 | some j=>
  rw [e] at h;obtain ⟨a,d,c,b⟩:=Jha e;exact ⟨j,a,h,d,c,b⟩
theorem Jdj {α : Type} {xs:List α} {j:Nat} {v : α} (h:xs[j]?=some v):atI xs (j:Int)=some v:=by
 have a:j<xs.length:=(List.getElem?_eq_some_iff.mp h).1;have e:ixN xs.length (j:Int)=some j:=by
  unfold ixN;rw [if_pos ∅,if_pos ∅];simp
 unfold atI;rw [e];exact h
def JiH (b:Expr):Prop:=∀ o i,subscripted b false o i=operate [o,i] (getItem o i)
def IxR (X:Cx) (r:R2):Prop :=
 ∀ (value slice:Expr) (pins:List (Addr × Obj)) (s:Shared) (σ : St) (H:Hp) (x y:V) (v u:Value) (Q:VK),Inv X pins σ H s->RelV x v->RelV y u->r x y H Q ->
  subscripted slice false v u=operate [v,u] (getItem v u)->wpAny (model X.prog X.w) X.A (subscriptTail value slice v u) (EP X pins σ Q) X.xe s
def MtR (X:Cx) (id:String) (r:V->List V->Hp->VK->Prop):Prop :=
 ∀ (pins:List (Addr × Obj)) (s:Shared) (σ : St) (H:Hp) (x:V) (xs:List V) (v:Value) (us:List Value) (Q:VK),Inv X pins σ H s->RelV x v->Vals xs us->r x xs H Q ->
  wpAny (model X.prog X.w) X.A (call (.builtin id) (v::us)) (EP X pins σ Q) X.xe s
section
variable {X:Cx} {a b:Expr} {ta tb:TE} {pos:Pos}
theorem pe_ix {r:R2} (hr:IxR X r) (ha:PE X a ta) (hb:PE X b tb) (hs:JiH b):PE X (.Subscript a b pos) (tOp r ta tb):=by
 intro c s σ H Q I h;exact Subscript_ (binT ha hb I h fun v u g x y d I2 f e q=>hr a b c g σ d x y v u Q I2 f e q (hs _ _))
def rIxL (K:W.Frag):R2:=fun x y H Q=>∃ p xs i v,x=.ref p/\y=.int i/\SqL K H p xs/\atI xs i=some v/\Q v H
def rIxT (K:W.Frag):R2:=fun x y H Q=>∃ p xs i v,x=.ref p/\y=.int i/\SqT K H p xs/\atI xs i=some v/\Q v H
def rIxS:R2:=fun x y H Q=>∃ z i c,x=.str z/\y=.int i/\z.length<=sizeLine/\atI z.cps.toList i=some c/\Q (.str ⟨#[c]⟩) H
theorem JiY:IxR X (rIxL X.K):=by
 intro f k a s σ H x y v u Q I C A h m;obtain ⟨p,O,i,z,rfl,rfl,D,J,q⟩:=h;cases C;obtain ⟨t,rfl⟩:=A;obtain ⟨e,r,d,P⟩:=I.list D;obtain ⟨j,c,L,M,E,F⟩:=Jfz J;obtain ⟨w,o,l⟩:=r.get L;have G:=r.length;have N:=Jed;have b:EP X a σ Q w s:=⟨z,H,I,l,q⟩;by_cases n:0<=i
 ·have g:i.toNat=j:=by
   rw [seqIndex_of n F] at c;exact Option.some.inj c
  exact item_listR d.isList n ∅ (by rw [g];simpa using o) b m
 ·have g:(i+(e.toArray.size:Int)).toNat=j:=by
   rw [seqIndex_neg ∅ E] at c;rw [size_toArray, <- G];exact Option.some.inj c
  exact subscriptTail_builtinR (x:=w) d.isList.typeIs slot_list_getitem.lookup
   (wpAny_getItem_list_neg (Q:=fun r B=>r=w/\EP X a σ Q r B) d.isList ∅ (by rw [size_toArray] <;> ac_nf) ∅ (by rw [g];simpa using o) ⟨rfl,b⟩) m
theorem JjJ:IxR X (rIxT X.K):=by
 intro c d a s σ H x y v u Q I n k h g;obtain ⟨p,L,i,z,rfl,rfl,A,D,q⟩:=h;cases n;obtain ⟨t,rfl⟩:=k;obtain ⟨B,r,f,M⟩:=I.tuple A;obtain ⟨j,l,E,G,F,N⟩:=Jfz D;obtain ⟨w,o,e⟩:=r.get E;have C:=r.length;have J:=Jed;have b:EP X a σ Q w s:=⟨z,H,I,e,q⟩;exact subscriptTail_builtinR (x:=w) f.typeIs slot_tuple_getitem.lookup
  (getItem_tuple (j:=j) (Q:=fun r m=>r=w/\EP X a σ Q r m) f ∅ ∅ (by rw [size_toArray, <- C];exact l) (by simpa using o) ⟨rfl,b⟩) g
theorem JjI:IxR X rIxS:=by
 intro a b e s σ H x y v u Q I k g h f;obtain ⟨z,i,c,rfl,rfl,C,r,q⟩:=h;obtain ⟨t,rfl⟩:=k;obtain ⟨D,rfl⟩:=g;obtain ⟨j,d,w,A,m,o⟩:=Jfz r;have p:z.cps.toList.length=z.length:=by simp [Str.length]
 rw [p] at d m o;have B:=Jed;exact tail_any (typeIs_str s z t) slot_str_getitem.lookup (getItem_str (c:=c) (by
  have n:decide (i < -(2 ^ 63:Int))=false:=decide_eq_false ∅;have l:decide (i ≥ 2 ^ 63)=false:=decide_eq_false ∅;rw [n,l,Bool.or_false]) (by rw [d];simpa using w) ⟨.str ⟨#[c]⟩,H,I.tok _,⟨_,rfl⟩,q⟩) f
theorem JgA (its:List Value) (n j:Nat) (u:Value):Obj.mapSeq (·.setIfInBounds j u) { cls:=.type "list",data:=.seq its.toArray n }={ cls:=.type "list",data:=.seq (its.set j u).toArray n }:=by
 simp [Obj.mapSeq]
theorem Inv.lst {pins:List (Addr × Obj)} {σ : St} {H:Hp} {s:Shared} {p:Addr} {xs:List V} (I:Inv X pins σ H s) (h:H p=some (.lst xs)) :
  ∃ (its:List Value) (n:Nat),Vals xs its/\s.heap.get? p=some { cls:=.type "list",data:=.seq its.toArray n }/\xs.length<=sizeLine:=by
 obtain ⟨z,its,n,r,e⟩:=I.hok p _ h;exact ⟨its,n,r,e,z⟩
theorem Inv.lstUpd {pins:List (Addr × Obj)} {σ : St} {H:Hp} {s:Shared} {p:Addr} {xs ys:List V} {its its':List Value} {n n':Nat} {f:Obj->Obj} (I:Inv X pins σ H s) (h:H p=some (.lst xs))
  (ho:s.heap.get? p=some { cls:=.type "list",data:=.seq its.toArray n }) (hf:f { cls:=.type "list",data:=.seq its.toArray n }={ cls:=.type "list",data:=.seq its'.toArray n' }) (r:Vals ys its') (hz:ys.length<=sizeLine) (t:Nat) :
  Inv X pins σ (upd H p (.lst ys)) { s with heap:=s.heap.update p f,toks:=t }:=by
 have e:(s.heap.update p f).get? p=some { cls:=.type "list",data:=.seq its'.toArray n' }:=by
  rw [Heap.get?_update_self f ho (by rw [hf] <;> rfl),hf]
 refine I.write (x:=p) (e:=p) (by rw [h];trivial) (.inl rfl) (fun b u a q=>(Heap.get?_update_other _ _ (Ne.symm a)).trans q) ⟨_,e⟩ ?_;exact ⟨hz,its',n',r,e⟩
def rSetL:V->V->V->Hp->(Hp->Prop)->Prop:=fun o i v H Q=>∃ p xs k j,o=.ref p/\i=.int k/\H p=some (.lst xs)/\ixN xs.length k=some j/\Q (upd H p (.lst (xs.set j v)))
theorem set_list:PSet X rSetL:=by
 intro b s σ H o i v D F u Q I C x A h;obtain ⟨p,y,k,j,rfl,rfl,l,B,q⟩:=h;cases C;obtain ⟨t,rfl⟩:=x;obtain ⟨a,n,r,e,z⟩:=I.lst l;obtain ⟨c,G,w,m⟩:=Jha B;have d:=r.length;have E:=Jed;have I':Inv X b σ (upd H p (.lst (y.set j v))) { s with heap:=s.heap.update p (Obj.mapSeq (·.setIfInBounds j u)) } :=
  I.lstUpd l e (JgA a n j u) (r.set A j) (by rw [List.length_set];exact z) s.toks
 by_cases g:0<=k
 ·have f:k.toNat=j:=by
   rw [seqIndex_of g m] at c;exact Option.some.inj c
  exact W.ki_setAt e g ∅ (by rw [size_toArray, <- d];exact m) (by rw [f];exact ⟨_,I',q⟩)
 ·have f:(k+(a.toArray.size:Int)).toNat=j:=by
   rw [seqIndex_neg ∅ w] at c;rw [size_toArray, <- d];exact Option.some.inj c
  exact W.ki_setBack e ∅ (by rw [size_toArray, <- d];exact w) ∅ (by rw [f];exact ⟨_,I',q⟩)
theorem Jfq (lo hi:Option Int) (n:Nat):(sliceBounds lo hi none n).1=((HT.sIx n 0 lo:Nat):Int)/\(sliceBounds lo hi none n).2.1=((HT.sIx n n hi:Nat):Int)/\(sliceBounds lo hi none n).2.2=1:=by
 refine ⟨?_,?_,rfl⟩
 ·cases lo with
  | none=>simp [sliceBounds,HT.sIx]
  | some i=>
   simp only [sliceBounds,HT.sIx,Option.getD_none,show (1:Int) > 0 by decide,if_true];by_cases h:i<0
   ·simp only [h,if_true] <;> ac_nf
   ·simp only [h,if_false] <;> ac_nf
 ·cases hi with
  | none=>simp [sliceBounds,HT.sIx]
  | some i=>
   simp only [sliceBounds,HT.sIx,Option.getD_none,show (1:Int) > 0 by decide,if_true];by_cases h:i<0
   ·simp only [h,if_true] <;> ac_nf
   ·simp only [h,if_false] <;> ac_nf
theorem JeP (its:List Value) (lo hi:Option Int):slicePick its.toArray lo hi none=((its.drop (HT.sIx its.length 0 lo)).take (HT.sIx its.length its.length hi-HT.sIx its.length 0 lo)).toArray:=by
 obtain ⟨a,c,b⟩:=Jfq lo hi its.toArray.size;unfold slicePick;rw [a,c,b];simp only [sliceRange_one,pick_run,size_toArray] <;> rfl
def rSlL (K:W.Frag):V->Option Int->Option Int->Hp->VK->Prop:=fun x lo hi H Q=>∃ a xs,x=.ref a/\SqL K H a xs/\∀ p,H p=none->Q (.ref p) (upd H p (.lst (cutV xs lo hi)))
theorem Jjr:SlR X (rSlL X.K):=by
 intro g s σ H x v vl u e f t Q I k j l pu h;obtain ⟨a,c,rfl,p,q⟩:=h;cases k;obtain ⟨m,r,i,n⟩:=I.list p;have d:=r.length;refine ⟨"list",_,slot_list_getitem.lookup,i.isList.typeIs,?_⟩;refine wpAny_getItem_list_slice i.isList j l pu .none (by simp) ?_ (by rw [size_toArray] <;> ac_nf);rw [JeP, <- d];refine ⟨.ref s.heap.objs.size,_,I.laid (t':=s.toks) (o:=.lst (cutV c e f)) (fun b w q=>Heap.get?_push_of_some _ q) (Nat.le_refl _) ?_,rfl,q _ (I.hok.fresh (Nat.le_refl _))⟩;exact ⟨Nat.le_trans (Jdn c e f) n,_,0,(r.drop (HT.sIx c.length 0 e)).take (HT.sIx c.length c.length f-HT.sIx c.length 0 e),Heap.get?_push_size _ rfl⟩
def flatV:V->Bool
 | .non=>true
 | .bl _=>true
 | .int _=>true
 | .str _=>true
 | _=>false
def eqV:V->V->Bool
 | .non, .non=>true
 | .bl a, .bl b=>a == b
 | .bl a, .int b=>(if a then 1 else 0) == b
 | .int a, .bl b=>a == (if b then 1 else 0)
 | .int a, .int b=>a == b
 | .str a, .str b=>a == b
 | _,_=>false
theorem Jiv {A:Around} {s:Shared} {y x:V} {u v:Value} (ry:RelV y u) (rx:RelV x v) (fy:flatV y=true) (fx:flatV x=true):SeqAt.EqAt A s u v (eqV y x):=by
 cases y with
 | non=>
  cases ry;cases x with
  | non=>cases rx;exact SeqAt.EqAt.same _
  | bl b=>cases rx;exact SeqAt.EqAt.none_bool b
  | int b=>obtain ⟨t,rfl⟩:=rx;exact SeqAt.EqAt.none_int b t
  | str b=>obtain ⟨t,rfl⟩:=rx;exact SeqAt.EqAt.none_str b t
  | _=>exact absurd (show false=true from fx) Bool.false_ne_true
 | bl a=>
  cases ry;cases x with
  | non=>cases rx;exact SeqAt.EqAt.bool_none a
  | bl b=>cases rx;exact SeqAt.EqAt.bool_bool a b
  | int b=>obtain ⟨t,rfl⟩:=rx;exact SeqAt.EqAt.bool_int a b t
  | str b=>obtain ⟨t,rfl⟩:=rx;exact SeqAt.EqAt.bool_str a b t
  | _=>exact absurd (show false=true from fx) Bool.false_ne_true
 | int a=>
  obtain ⟨c,rfl⟩:=ry;cases x with
  | non=>cases rx;exact SeqAt.EqAt.int_none a c
  | bl b=>cases rx;exact SeqAt.EqAt.int_bool a c b
  | int b=>obtain ⟨t,rfl⟩:=rx;exact SeqAt.EqAt.int_int a c b t
  | str b=>obtain ⟨t,rfl⟩:=rx;exact SeqAt.EqAt.int_str a c b t
  | _=>exact absurd (show false=true from fx) Bool.false_ne_true
 | str a=>
  obtain ⟨c,rfl⟩:=ry;cases x with
  | non=>cases rx;exact SeqAt.EqAt.str_none a c
  | bl b=>cases rx;exact SeqAt.EqAt.str_bool a c b
  | int b=>obtain ⟨t,rfl⟩:=rx;exact SeqAt.EqAt.str_int a c b t
  | str b=>obtain ⟨t,rfl⟩:=rx;exact SeqAt.EqAt.str_str a c b t
  | _=>exact absurd (show false=true from fx) Bool.false_ne_true
 | _=>exact absurd (show false=true from fy) Bool.false_ne_true
def eqU (x:V) (u:Value):Bool:=match u with
 | .none=>eqV .non x
 | .bool b=>eqV (.bl b) x
 | .int i _=>eqV (.int i) x
 | .str z _=>eqV (.str z) x
 | _=>false
theorem Jiw {x y:V} {u:Value} (r:RelV y u) (f:flatV y=true):eqU x u=eqV y x:=by
 cases y with
 | non=>cases r;rfl
 | bl b=>cases r;rfl
 | int i=>obtain ⟨t,rfl⟩:=r;rfl
 | str z=>obtain ⟨t,rfl⟩:=r;rfl
 | _=>exact absurd (show false=true from f) Bool.false_ne_true
theorem Jdi {x:V}:∀ {xs:List V} {us:List Value},Vals xs us->xs.all flatV=true->us.any (eqU x)=xs.any fun y=>eqV y x
 | _,_, .nil,_=>rfl
 | y::xs,u::us, .cons r t,f=>by
  rw [List.all_cons,Bool.and_eq_true] at f;rw [any_cons,any_cons,Jiw r f.1,Jdi t f.2]
theorem JcO {A:Around} {s:Shared} {x:V} {v:Value} (rx:RelV x v) (fx:flatV x=true):∀ {xs:List V} {us:List Value},Vals xs us->xs.all flatV=true->∀ u∈us,SeqAt.EqAt A s u v (eqU x u)
 | _,_, .nil,_=>fun u hu=>by cases hu
 | y::xs,u::us, .cons r t,f=>fun u' hu=>by
  rw [List.all_cons,Bool.and_eq_true] at f;rcases mem_cons.mp hu with rfl | hu
  ·rw [Jiw r f.1];exact Jiv r rx f.1 fx
  ·exact JcO rx fx t f.2 u' hu
def inV (x:V) (xs:List V):Bool:=xs.any fun y=>eqV y x
def rIn (K:W.Frag) (neg:Bool):R2:=fun x y H Q=>∃ p xs,y=.ref p/\(SqL K H p xs\/SqT K H p xs)/\flatV x=true/\xs.all flatV=true/\Q (.bl (if neg then !inV x xs else inV x xs)) H
theorem Jht:OpR X (compareOp .In) (rIn X.K false):=by
 intro i s σ H x y v u Q I f j h;obtain ⟨p,l,rfl,b,g,c,q⟩:=h;cases j;rcases b with b | b
 ·obtain ⟨a,r,d,k⟩:=I.list b;refine SeqAt.in_listAt (eqU x) d.isList (fun w e=>JcO f g r c w (by simpa using e)) ⟨.bl _,H,I,rfl,?_⟩;rw [show a.toArray.any (eqU x)=a.any (eqU x) by simp,Jdi r c];exact q
 ·obtain ⟨a,r,d,k⟩:=I.tuple b;refine SeqAt.in_tupleAt (eqU x) d (fun w e=>JcO f g r c w (by simpa using e)) ⟨.bl _,H,I,rfl,?_⟩;rw [show a.toArray.any (eqU x)=a.any (eqU x) by simp,Jdi r c];exact q
theorem Jfh:OpR X (compareOp .NotIn) (rIn X.K true):=by
 intro i s σ H x y v u Q I f j h;obtain ⟨p,l,rfl,b,g,c,q⟩:=h;cases j;rcases b with b | b
 ·obtain ⟨a,r,d,k⟩:=I.list b;refine SeqAt.notIn_listAt (eqU x) d.isList (fun w e=>JcO f g r c w (by simpa using e)) ⟨.bl _,H,I,rfl,?_⟩;rw [show a.toArray.any (eqU x)=a.any (eqU x) by simp,Jdi r c];exact q
 ·obtain ⟨a,r,d,k⟩:=I.tuple b;refine SeqAt.notIn_tupleAt (eqU x) d (fun w e=>JcO f g r c w (by simpa using e)) ⟨.bl _,H,I,rfl,?_⟩;rw [show a.toArray.any (eqU x)=a.any (eqU x) by simp,Jdi r c];exact q
theorem JeX:CallR X (.builtin "len") (fun xs H Q=>∃ p ys,xs=[.ref p]/\(SqL X.K H p ys\/SqT X.K H p ys)/\Q (.int ys.length) H):=by
 intro f s σ H xs j Q I r h;obtain ⟨p,ys,rfl,b,q⟩:=h;obtain ⟨u,rfl,g⟩:=vals1 r;cases g;have k:=Jed;rcases b with b | b
 ·obtain ⟨e,d,c,i⟩:=I.list b;have a:=d.length;exact Calls.call_len_list c.isList (by simp only [size_toArray] <;> ac_nf) ⟨.int ys.length,H,I.tok _,⟨s.toks+1,by rw [size_toArray,a]⟩,q⟩
 ·obtain ⟨e,d,c,i⟩:=I.tuple b;have a:=d.length;exact len_tuple c (by simp only [size_toArray] <;> ac_nf) ⟨.int ys.length,H,I.tok _,⟨s.toks+1,by rw [size_toArray,a]⟩,q⟩
theorem JeY:CallR X (.builtin "len") (fun xs H Q=>∃ z,xs=[.str z]/\z.length<=sizeLine/\Q (.int z.length) H):=by
 intro a s σ H xs d Q I r h;obtain ⟨z,rfl,c,q⟩:=h;obtain ⟨u,rfl,t,rfl⟩:=vals1 r;have b:=Jed;exact len_str ∅ ⟨.int z.length,H,I.tok _,⟨_,rfl⟩,q⟩
theorem JeZ:CallR X (.type "list") (fun xs H Q=>∃ p ys,xs=[.ref p]/\(SqL X.K H p ys\/SqT X.K H p ys)/\∀ l,H l=none->Q (.ref l) (upd H l (.lst ys))):=by
 intro m s σ H xs B Q I r h;obtain ⟨p,ys,rfl,g,q⟩:=h;obtain ⟨u,rfl,A⟩:=vals1 r;cases A;have t:∀ (a:List Value),Vals ys a->ys.length<=sizeLine->∀ (c:Heap) (f:Nat),(∀ b o',s.heap.get? b=some o'->c.get? b=some o') ->
   c.get? s.heap.objs.size=some { cls:=.type "list",dict:=none,data:=.seq a.toArray f,slots:=#[] }->EP X m σ Q (.ref s.heap.objs.size) { s with heap:=c }:=fun a d k c f j e=>
  ⟨.ref s.heap.objs.size,_,I.laid (t':=s.toks) j (Nat.le_refl _) (show ObjOk X.prog X.w _ c _ (.lst ys) from ⟨k,a,f,d,e⟩),rfl,q _ (I.hok.fresh (Nat.le_refl _))⟩
 rcases g with g | g
 ·obtain ⟨a,d,v,k⟩:=I.list g;have i:=d.length;obtain ⟨o,x,y,n,z⟩:=v.isList;exact call_list_seq p (.inl rfl) x y z (fun c f j e=>t a d k c f j e) (by simp only [size_toArray] <;> ac_nf)
 ·obtain ⟨a,d,v,k⟩:=I.tuple g;have i:=d.length;obtain ⟨o,x,y,n,z⟩:=v;exact call_list_seq p (.inr rfl) x y z (fun c f j e=>t a d k c f j e) (by simp only [size_toArray] <;> ac_nf)
def tyV (K:W.Frag) (T:String) (x:V) (H:Hp):Prop:=match x with
 | .str _=>T="str"
 | .int _=>T="int"
 | .ref p=>(T="list"/\∃ xs,SqL K H p xs)\/(T="tuple"/\∃ o,K.lookup p=some o/\o.cls=.type "tuple"/\o.dict=none) \/
   (T="dict"/\((∃ kvs,H p=some (.dK kvs))\/∃ kvs,H p=some (.dT kvs)))\/(T="set"/\∃ S n,H p=some (.set S n))
 | _=>False
theorem JiG {pins:List (Addr × Obj)} {σ : St} {H:Hp} {s:Shared} {T:String} {x:V} {v:Value} (I:Inv X pins σ H s) (r:RelV x v) (ty:tyV X.K T x H) :
  s.TypeIs v T/\∀ a,v=.ref a->∃ ob,s.heap.get? a=some ob/\ob.dict=none:=by
 cases x with
 | str z=>
  obtain ⟨t,rfl⟩:=r;cases (show T="str" from ty);exact ⟨typeIs_str s z t,fun _ e=>nomatch e⟩
 | int i=>
  obtain ⟨t,rfl⟩:=r;cases (show T="int" from ty);exact ⟨typeIs_int s i t,fun _ e=>nomatch e⟩
 | ref p=>
  cases r;rcases ty with ⟨rfl,xs,hq⟩ | ⟨rfl,o,hk,hc,d⟩ | ⟨rfl,hk⟩ | ⟨rfl,S,n,hk⟩
  ·obtain ⟨h,_,g,_⟩:=I.list hq;refine ⟨g.isList.typeIs,fun a e=>?_⟩;cases e;obtain ⟨o,n,e,c,d,_⟩:=g;exact ⟨o,e,d⟩
  ·refine ⟨⟨o,I.kIn p o hk,hc⟩,fun a e=>?_⟩;cases e;exact ⟨o,I.kIn _ o hk,d⟩
  ·have z:∃ o,s.heap.get? p=some o/\o.ExactDict:=by
    rcases hk with ⟨kvs,hk⟩ | ⟨kvs,hk⟩
    ·obtain ⟨_,_,_,_,o,_,_,e,b,_⟩:=I.hok p _ hk;exact ⟨o,e,b⟩
    ·obtain ⟨_,_,_,_,o,_,_,e,b,_⟩:=I.hok p _ hk;exact ⟨o,e,b⟩
   obtain ⟨o,e,b⟩:=z;refine ⟨⟨o,e,b.1⟩,fun a f=>?_⟩;cases f;exact ⟨o,e,b.2.1⟩
  ·obtain ⟨o,_,_,_,e,b,_⟩:=I.hok p _ hk;refine ⟨⟨o,e,b.1⟩,fun a f=>?_⟩;cases f;exact ⟨o,e,b.2.1⟩
 | _=>exact False.elim ty
def tBM0 (K:W.Frag) (T:String) (r:V->List V->Hp->VK->Prop) (to:TE):TE:=fun σ H Q=>to σ H fun x H1=>tyV K T x H1/\r x [] H1 Q
def tBM (K:W.Frag) (T:String) (r:V->List V->Hp->VK->Prop) (to:TE) (t:TA):TE:=fun σ H Q=>to σ H fun x H1=>tyV K T x H1/\t σ H1 fun xs H2=>r x xs H2 Q
variable {o e:Expr} {es:List Expr} {to:TE} {t:TA} {name:Str} {apos cpos:Pos} {T id:String} {r:V->List V->Hp->VK->Prop}
theorem Jj1 (pa:PlainAttrs T) (slot:Slot T name id) (hty:typeOf (.builtin id)=pure (.type "method_descriptor")) (hm:MtR X id r) (ho:PE X o to)
  (hbase:attributeBase o name X.env (eval o X.env)=eval o X.env:=by rfl) (hline:(apos.endLine == cpos.line)=true:=by rfl):PE X (.Call (.Attribute o name apos) [] [] cpos) (tBM0 X.K T r to):=by
 intro a s σ H Q I h;refine wpAny_Call_method0_late hbase hline (thn (ho a s σ H _ I h) fun v c ζ=>?_);obtain ⟨x,f,I1,b,d,e⟩:=ζ;obtain ⟨g,i⟩:=JiG I1 b d;exact ⟨T,id,pa,slot,hty,g,i,Calls.callWith_builtin rfl (PySem.evalArgs_none (hm a c σ f x [] v [] Q I1 b .nil e))⟩
theorem pe_bm (pa:PlainAttrs T) (slot:Slot T name id) (hty:typeOf (.builtin id)=pure (.type "method_descriptor")) (hm:MtR X id r) (ho:PE X o to) (ha:PA X (e::es) t)
  (hbase:attributeBase o name X.env (eval o X.env)=eval o X.env:=by rfl)
  (hfew:((backTo cpos (starEach (e::es) X.env)).all (fun x=>!x.1)&&(backToKw cpos (keywordEach [] X.env)).all (fun x=>x.1.isSome)
   && decide ((e::es).length+([]:List Keyword).length+(if ([]:List Keyword).isEmpty then 0 else 1)<30))=true:=by rfl)
  (hline:(apos.endLine == cpos.line)=true:=by rfl) (hs:starEach (e::es) X.env=(false,eval e X.env)::starEach es X.env:=by rfl) (hplain:(backTo cpos (starEach es X.env)).any (·.1)=false:=by rfl) :
  PE X (.Call (.Attribute o name apos) (e::es) [] cpos) (tBM X.K T r to t):=by
 intro a s σ H Q I h;refine wpAny_Call_method_late hbase hfew hline rfl (thn (ho a s σ H _ I h) fun v i ζ=>?_);obtain ⟨x,m,I1,c,n,j⟩:=ζ;obtain ⟨d,u⟩:=JiG I1 c n;refine ⟨T,id,pa,slot,hty,d,u,?_⟩;have b:=ha cpos a i σ m _ I1 j;rw [hs] at b ⊢;refine Calls.callWith_builtin (by show (false||(backTo cpos (starEach es X.env)).any (·.1))=false;rw [hplain] <;> rfl) (Calls.evalArgs_plain ?_);exact thn b fun f g ⟨l,k,I2,q,p⟩=>hm a g σ k x l v f Q I2 c q p
end
def MtM (X:Cx) (id:String) (r:V->List V->Hp->VK->Prop):Prop :=
 ∀ (pins:List (Addr × Obj)) (s:Shared) (σ : St) (H:Hp) (x:V) (xs:List V) (v:Value) (us:List Value) (Q:VK),Inv X pins σ H s->RelV x v->Vals xs us->r x xs H Q ->
  wpAny (model X.prog X.w) X.A (call (.builtin id) (v::us)) (EP X pins σ Q) X.xe s
theorem Vals.one:∀ {x:V} {us:List Value},Vals [x] us->∃ u,us=[u]/\RelV x u
 | _,_, .cons r .nil=>⟨_,rfl,r⟩
theorem Vals.zero:∀ {us:List Value},Vals [] us->us=[]
 | _, .nil=>rfl
section
variable {X:Cx} {pins:List (Addr × Obj)} {σ : St} {H:Hp} {s:Shared} {l b:Addr} {xs ys zs:List V}
theorem Inv.lset {its its':List Value} {n:Nat} {f:Array Value->Array Value} {t':Nat} (I:Inv X pins σ H s) (hH:H l=some (.lst xs))
  (e:s.heap.get? l=some { cls:=.type "list",data:=.seq its.toArray n }) (hf:f its.toArray=its'.toArray) (hv:Vals ys its') (hz:ys.length<=sizeLine) :
  Inv X pins σ (upd H l (.lst ys)) { s with heap:=s.heap.update l (Obj.mapSeq f),toks:=t' }:=by
 have q:=PySem.IsL.update e f;rw [hf] at q;refine I.write (x:=l) (e:=l) (by rw [hH];exact trivial) (.inl rfl) (fun c u b a=>(Heap.get?_update_other s.heap (Obj.mapSeq f) (Ne.symm b)).trans a) ⟨_,q⟩ ?_;exact ⟨hz,its',_,hv,q⟩
theorem Inv.lnew {its:List Value} {t':Nat} (I:Inv X pins σ H s) (hv:Vals ys its) (hz:ys.length<=sizeLine) :
  Inv X pins σ (upd H s.heap.objs.size (.lst ys)) { s with heap:=s.heap.push { cls:=.type "list",data:=.seq its.toArray },toks:=t' } :=
 I.laid (fun _ _ q=>Heap.get?_push_of_some _ q) (Nat.le_refl _) ⟨hz,its,0,hv,Heap.get?_push_size _ rfl⟩
theorem Inv.fresh (I:Inv X pins σ H s):H s.heap.objs.size=none:=I.hok.fresh (Nat.le_refl _)
theorem Inv.lstM (I:Inv X pins σ H s) (hH:H l=some (.lst xs)):xs.length<=sizeLine/\∃ (its:List Value) (n:Nat),Vals xs its/\xs.length=its.length/\s.heap.get? l=some { cls:=.type "list",data:=.seq its.toArray n }:=by
 obtain ⟨z,its,n,r,e⟩:=I.hok l _ hH;exact ⟨z,its,n,r,r.length,e⟩
theorem Jh5 {n:Nat} (h:n<=sizeLine):Builtin.List.listTooLong n=false:=by
 unfold Builtin.List.listTooLong;exact decide_eq_false ∅
end
section
variable {X:Cx}
def Jjn:V->List V->Hp->VK->Prop:=fun x vs H Q=>∃ l xs y,x=.ref l/\vs=[y]/\H l=some (.lst xs)/\xs.length<sizeLine/\Q .non (upd H l (.lst (xs++[y])))
theorem Jbf:MtM X "list.append" Jjn:=by
 intro c s σ H x j v i Q I f g h;obtain ⟨l,k,y,rfl,rfl,b,m,q⟩:=h;cases f;obtain ⟨u,rfl,d⟩:=g.one;obtain ⟨z,a,n,r,o,e⟩:=I.lstM b;refine call_meets F.slot_list_append ⟨_,e,rfl⟩ F.entry_list_append (F.args_list_append_2 _ _) (PySem.list_append l a.toArray n u (by rw [size_toArray];ac_nf)) ⟨e,?_⟩;refine ⟨.non,_,I.lset (its':=a++[u]) b e (by simp) (r.append (.cons d .nil)) ?_,rfl,q⟩;rw [length_append,length_singleton];ac_nf
def Jjo:V->List V->Hp->VK->Prop:=fun x vs H Q=>∃ l b xs zs,x=.ref l/\vs=[.ref b]/\H l=some (.lst xs)/\H b=some (.lst zs)/\xs.length+zs.length<=sizeLine/\Q .non (upd H l (.lst (xs++zs)))
theorem Jhk:MtM X "list.extend" Jjo:=by
 intro i s σ H x D v B Q I k t h;obtain ⟨l,b,E,C,rfl,rfl,g,y,G,q⟩:=h;cases k;obtain ⟨u,rfl,j⟩:=t.one;cases j;obtain ⟨z,c,n,r,J,e⟩:=I.lstM g;obtain ⟨A,a,o,w,p,m⟩:=I.lstM y;have f:c.toArray.size+a.toArray.size<=sizeLine:=by rw [size_toArray,size_toArray];ac_nf
 have d:¬ (!c.toArray.isEmpty&&Builtin.List.listTooLong (c.toArray.size+a.toArray.size))=true:=by
  rw [Jh5 f,Bool.and_false];exact Bool.false_ne_true
 refine call_meets F.slot_list_extend ⟨_,e,rfl⟩ F.entry_list_extend (F.args_list_extend_2 _ _)
  (AutoSeq1.list_extend_list_list_0 l c.toArray n b a.toArray o d (by rw [size_toArray];ac_nf) ∅) ⟨e,m,?_⟩
 refine ⟨.non,_,I.lset (its':=c++a) g e (by simp) (r.append w) ?_,rfl,q⟩;rw [length_append];ac_nf
def Jj8:V->List V->Hp->VK->Prop:=fun x vs H Q=>∃ l xs,x=.ref l/\vs=[]/\H l=some (.lst xs)/\Q .non (upd H l (.lst []))
theorem Jh3:MtM X "list.clear" Jj8:=by
 intro d s σ H x j v i Q I f g h;obtain ⟨l,k,rfl,rfl,c,q⟩:=h;cases f;have a:=g.zero;subst a;obtain ⟨z,b,n,r,m,e⟩:=I.lstM c;refine call_meets F.slot_list_clear ⟨_,e,rfl⟩ F.entry_list_clear (F.args_list_clear_1 _) (AutoSeq1.list_clear_list_0 l b.toArray n (by rw [size_toArray];ac_nf)) ⟨e,?_⟩;exact ⟨.non,_,I.lset (its':=[]) (ys:=[]) c e rfl .nil (Nat.zero_le _),rfl,q⟩
def rCat:R2:=fun x y H Q=>∃ l b xs zs,x=.ref l/\y=.ref b/\H l=some (.lst xs)/\H b=some (.lst zs)/\xs.length+zs.length<=sizeLine/\∀ p,H p=none->Q (.ref p) (upd H p (.lst (xs++zs)))
theorem JjV:OpR X (binaryOp .Add) rCat:=by
 intro d s σ H x y v u Q I g f h;obtain ⟨l,b,B,w,rfl,rfl,k,p,C,q⟩:=h;cases g;cases f;obtain ⟨z,c,n,r,D,e⟩:=I.lstM k;obtain ⟨t,a,A,o,m,i⟩:=I.lstM p;refine PySem.P.add_list e i ?_ (by rw [size_toArray,size_toArray];ac_nf);have j:c.toArray++a.toArray=(c++a).toArray:=by simp
 rw [j];exact ⟨.ref _,_,I.lnew (t':=s.toks) (r.append o) (by rw [length_append];ac_nf),rfl,q _ I.fresh⟩
end
section
variable {prog:Program} {w:World} {A:Around} {E:Value->Shared->Prop} {s:Shared}
end
section
variable {X:Cx}
end
end L2
namespace Att
open PySem PySem.W PySem.Calls PyProof.Rows
theorem Jdr {P:Params} {h:Heap}:∀ (ns:List Int) (vs:List Value),WellAll P h vs (ns.map WData.int)->IntsAre vs ns:=by
 intro ns;induction ns with
 | nil=>
  intro vs w;rw [map_nil] at w;cases w;exact .nil
 | cons n ns ih=>
  intro vs w;rw [map_cons] at w;cases w with
  | cons a b=>
   cases a;exact .cons _ _ (ih _ b)
theorem JhF {l:OpenLaw} {n:Nat} (hn:l.most=some n) {P:Params} {h:Heap} {args:List WData} {vals:List Value}
  (hpre:l.row.toRowW.claim.pre args=true) (hwl:WellAll P h vals args) :
  ∃ a vs ns,vals=[Value.ref a]/\args=[WData.list (ns.map WData.int)]/\h.get? a=some { cls:=.type "list",data:=.seq vs.toArray }/\IntsAre vs ns/\ns.length<=n:=by
 have f:WShape.hasAll [] args [.list .int]=true:=(pre_splitW hpre).1;have g:l.pre.holds [] { args:=args }=true:=(pre_splitW hpre).2;obtain ⟨d,r,rfl,j,m⟩:=hasAllW_cons f;obtain rfl:=hasAllW_nil m;obtain ⟨o,rfl,k⟩:=hasW_list j;obtain ⟨ns,rfl⟩:=items_int k;have b:ns.length<=n:=by
  unfold OpenLaw.pre at g;have e:(WTm.not (.lt (.lit (.int (n:Int))) (.len (.arg 0)))).holds [] { args:=[.list (ns.map .int)] }=true:=by
   have e:=(holds_andW g).1;rw [hn] at e;exact e
  have c:=condW_of e (w_not (w_lt w_lit (w_len_list (w_arg rfl))));rw [length_map] at c;refine Nat.le_of_not_lt fun q=>?_;have i:(n:Int)<((ns.length:Nat):Int):=by ac_nf
  first
   | (rw [decide_eq_true i] at c;exact absurd c ⋯)
   | (simp at c;ac_nf)
 cases hwl with
 | cons w1 w2=>
  cases w2;cases w1 with
  | list ho hall=>exact ⟨_,_,ns,rfl,rfl,ho,Jdr ns _ hall,b⟩
theorem JhB (l:OpenLaw) (args:List WData):l.row.toRowW.claim.post args (.bool true) args=true :=
 postW_of (r:=l.row.toRowW) (X:=(true == true))
  (show WShape.has [] (.bool true) .bool=true by first | rfl | decide | simp [WShape.has,WShape.arms,WShape.armsAll])
  (show (WTm.eq .res (.lit (.bool true))).value [] { args:=args,res:=some (.bool true),after:=args }=some (.bool (true == true)) from w_eq_bool (w_res rfl) w_lit) rfl
theorem attach_call {l:OpenLaw} {n:Nat} {q:Program} {loose:List Str} {XP:(Str->Option Value)->Heap->Prop} {YP:World->Heap->Prop} {d:DefRec}
  (hn:l.most=some n) (hdf:d.params.defaults=[])
  (call:∀ (w:World) (s₀ s₁ : Shared) (mg mb:Str->Option Value) (fa:Addr) (o:Obj) (pm cd doc:Value) (a:Addr) (vs:List Value) (ns:List Int),
   Ground q loose [] XP w s₀ mg mb s₁.heap->YP w s₁.heap ->
   s₁.heap.get? fa=some o->o.data=.func (docDef d.name d.params d.body d.scope pm cd doc)->s₁.heap.CodeRec cd d.name->mg d.name=some (.ref fa) ->
   s₁.heap.get? a=some { cls:=.type "list",data:=.seq vs.toArray }->IntsAre vs ns->ns.length<=n->s₁.gens=#[] ->
   codeAny (model l.prog w) callerA (.call (.ref fa) ⟨[.ref a],[]⟩) (fun r s'=>r=.ok (.ret (.bool true))/\OldK s₁.heap s'.heap/\s'.os=s₁.os/\AllBare s'.gens) s₁) :
  WalkO q loose XP YP l.row.toRowW d [] (fun f vs=>PySem.call f vs):=by
 intro w s₀ s₁ mg mb G Y fa o pm cd doc v kV B C i t j u k m H e p x h D;obtain rfl:v=.none:=Dflts.none t hdf;obtain rfl:kV=.none:=Dflts.noKw t;obtain ⟨a,vs,ns,rfl,rfl,g,b,c⟩:=JhF hn e h;refine enter_call (codeAny_mono (call w s₀ s₁ mg mb fa o pm cd doc a vs ns G Y B (fd_plain C) i j g b c u) fun r s' y=>?_);obtain ⟨rfl,F,A,z⟩:=y;exact ⟨.inl ⟨.bool true, .bool true,[],rfl,fun _=>rfl, .bool true,JhB l _,fun _=>⟨List.Pairwise.nil,fun _ E=>(nomatch E)⟩⟩,F,A,z⟩
section
variable {prog:Program} {w:World} {A:Around} {E:Value->Shared->Prop} {s:Shared} {K:Frag}
end
end Att
namespace L2
open PySem PySem.Spec PyProof.Rows
theorem Jfv:∀ {vs:List Value} {ns:List Int},IntsAre vs ns->Vals (ns.map V.int) vs
 | _,_, .nil=>.nil
 | _,_, .cons n t h=>.cons ⟨t,rfl⟩ (Jfv h)
def Only (H:Hp):Prop:=∀ b,H b=none\/∃ o xs,H b=some (.frz o (.lst xs))
theorem JhZ {P:Program} {w:World} {K:W.Frag} {mg mb:Str->Option Value} {CX:CXT} {k:Nat} {fa a:Addr} {fd:FuncData} {x:Str} {sp:Sp} {s₁ : Shared} {vs:List Value} {ns:List Int}
  (KX:K.In s₁.heap) (hns:s₁.heap.Ns mainGlobals mg) (hb:s₁.heap.Ns builtinsNs mb) (hbb:∀ x:Str,x≠"__name__"->mb x=bootBuiltins x) (hlim:s₁.heap.NoLimit) (hg:s₁.gens=#[])
  (ha:s₁.heap.get? a=some { cls:=.type "list",data:=.seq vs.toArray }) (hi:IntsAre vs ns) (hl:ns.length<=sizeLine) (hr:Room k callerA)
  (F:∀ base:Heap,K.In base->base.Ns mainGlobals mg->FnOk P w K mg base CX k fa fd [x] sp) (hbind:∀ (s:Shared) (u:Value),BindsTo s fd ⟨[u],[]⟩ [(x,u)])
  (hsp:∀ H:Hp,Only H->SqL K H a (ns.map V.int)->sp [.ref a] H (fun v _=>v=.bl true) fun _ _ _=>False)
  (hCX:∀ H e s',CX [] H s₁ (fun _ _ _=>False) e s'->False) :
  codeAny (model P w) callerA (.call (.ref fa) ⟨[.ref a],[]⟩) (fun r s'=>r=.ok (.ret (.bool true))/\OldK s₁.heap s'.heap/\s'.os=s₁.os/\AllBare s'.gens) s₁:=by
 have G:=Jfv hi;have j:=hi.length;have g:∀ H:Hp,Only H->SqL K H a (ns.map V.int)->HOk P w H s₁.heap->(∀ b,H b≠none->b=a)->(H a≠none->K.lookup a=none) ->
   codeAny (model P w) callerA (.call (.ref fa) ⟨[.ref a],[]⟩) (fun r s'=>r=.ok (.ret (.bool true))/\OldK s₁.heap s'.heap/\s'.os=s₁.os/\AllBare s'.gens) s₁:=by
  intro H D S t C M;have c:∀ {b:Addr} {o:Obj},s₁.heap.get? b=some o->H b=none->(hidT s₁.heap H).get? b=some o:=fun e n=>JhX e n;have B:∀ {b:Addr} {o:Obj} {es:Array DictEntry} {ep:Nat},s₁.heap.get? b=some o->o.data=.dict es ep->H b=none:=fun {b o es ep} e d=>by
   cases q:H b with
   | none=>rfl
   | some u=>
    have A:b=a:=C b (by rw [q];simp);subst A;rw [ha] at e;cases e;have R:Data.seq vs.toArray _=Data.dict es ep:=d;cases R
  have f:∀ {b:Addr} {m:Str->Option Value},s₁.heap.Ns b m->(hidT s₁.heap H).Ns b m:=fun {b m} ⟨o,es,ep,e,d,r⟩=>⟨o,es,ep,c e (B e d),d,r⟩;have l:K.In (hidT s₁.heap H):=fun b o e=>c (KX b o e) (by
   cases q:H b with
   | none=>rfl
   | some u=>
    have A:b=a:=C b (by rw [q];simp);subst A;rw [M (by rw [q];simp)] at e;cases e)
  have Q:Mod K mg (hidT s₁.heap H):=⟨l,f hns,⟨mb,f hb,hbb⟩,let ⟨mc,h1,h2⟩:=hlim;⟨mc,f h1,h2⟩⟩;have J:Env0 P w K mg (hidT s₁.heap H) callerA [] s₁ H:=⟨rfl,Q,fun b o e=>Ji9 e,Nat.le_of_eq (Jg8 _ _),trivial,fun b hb=>absurd (show b∈([]:List Addr) from hb) (by simp),t, .of_eq hg⟩;refine codeAny_mono ((F _ l (f hns)).run callerA [] s₁ H ⟨[.ref a],[]⟩ [.ref a] [.ref a] _ _ hr J (hbind s₁ (.ref a)) (.cons rfl .nil) (hsp H D S)) fun r s' h=>?_;cases r with
  | error e=>exact (hCX H e s' h).elim
  | ok fl=>
   cases fl with
   | next=>exact False.elim h
   | brk=>exact False.elim h
   | cont=>exact False.elim h
   | ret u=>
    obtain ⟨v,U,os,i,I,p,O,q⟩:=h;have T:v=.bl true:=q;subst T;obtain rfl:u=Value.bool true:=O;refine ⟨rfl,OldK.of_keep fun b o e=>?_,os,i⟩;cases q:H b with
    | none=>exact I.keep b o e q (by intro z;exact absurd (show b∈([]:List Addr) from z) (by simp)) (by simp)
    | some u=>
     rcases D b with z | ⟨ob,xs,z⟩
     ·rw [q] at z;cases z
     ·have L:=I.frzs b ob _ z;obtain ⟨E,_⟩:=t b _ z;obtain ⟨N,_⟩:=p b _ L;rw [e] at E;cases E;exact N
 cases hk:K.lookup a with
 | some o=>
  have e:=KX a o hk;rw [ha] at e;cases e;refine g (fun _=>none) (fun _=>.inl rfl) (.inr ⟨_,vs.toArray,_,hk,rfl,rfl,rfl,by rw [size_toArray,j];exact hl,by simpa using G⟩) (fun b u z=>by have y:(none:Option HO)=some u:=z;cases y) (fun b z=>absurd rfl z) fun z=>absurd rfl z
 | none=>
  refine g (fun b=>if b=a then some (.frz { cls:=.type "list",data:=.seq vs.toArray } (.lst (ns.map V.int))) else none) (fun b=>?_) (.inl (.inr ⟨{ cls:=.type "list",data:=.seq vs.toArray },if_pos rfl⟩)) (fun b u z=>?_) (fun b z=>?_) fun _=>hk
  ·by_cases hb:b=a
   ·exact .inr ⟨_,_,if_pos hb⟩
   ·exact .inl (if_neg hb)
  ·by_cases hb:b=a
   ·have y:=(if_pos hb).symm.trans z;cases y;subst hb;exact ⟨ha,by rw [length_map];exact hl,vs,_,G,ha⟩
   ·have y:=(if_neg hb).symm.trans z;cases y
  ·by_cases hb:b=a
   ·exact hb
   ·exact absurd (if_neg hb) z
abbrev KOf {K:W.Frag} {h:Heap} (_:K.In h):W.Frag:=K
theorem JhQ {l:W.OpenLaw} {n k:Nat} {q:Program} {loose:List Str} {XP:(Str->Option Value)->Heap->Prop} {YP:World->Heap->Prop} {d:DefRec} {K:Params->W.Frag} {CX:World->CXT} {sp:World->Sp} {x:Str}
  (hn:l.most=some n) (hn2:n<=sizeLine) (hdf:d.params.defaults=[]) (hr:Room k callerA)
  (hY:∀ (w:World) (h:Heap),YP w h->(K w.params).In h)
  (F:∀ (w:World) (mg:Str->Option Value) (fa:Addr) (h:Heap),(K w.params).In h->h.Ns mainGlobals mg->mg d.name=some (.ref fa) ->
   ∃ fd:FuncData,(∀ (s:Shared) (u:Value),BindsTo s fd ⟨[u],[]⟩ [(x,u)]) /\
    ∀ base:Heap,(K w.params).In base->base.Ns mainGlobals mg->FnOk l.prog w (K w.params) mg base (CX w) k fa fd [x] (sp w))
  (hsp:∀ (w:World) (H:Hp) (a:Addr) (ns:List Int),ns.length<=n->Only H->SqL (K w.params) H a (ns.map V.int)->sp w [.ref a] H (fun v _=>v=.bl true) fun _ _ _=>False)
  (hCX:∀ (w:World) (H:Hp) (s:Shared) (e:Value) (s':Shared),CX w [] H s (fun _ _ _=>False) e s'->False) :
  W.WalkO q loose XP YP l.row.toRowW d [] (fun f vs=>PySem.call f vs):=by
 refine Att.attach_call hn hdf fun w s₀ s₁ mg I fa o D C p a vs ns G Y E J B m j i c r=>?_;have KX:=hY w _ Y;obtain ⟨fd,A,t⟩:=F w mg fa _ KX G.T.g m;exact JhZ KX G.T.g G.T.b G.T.builtins G.T.nolimit r j i (Nat.le_trans c hn2) hr t A (fun H y z=>hsp w H a ns c y z) fun H e s'=>hCX w H s₁ e s'
def inClass (s:Stmt) (j:Nat):Stmt:=match s with
 | .ClassDef _ _ _ body _ _ _ _ _ _ _=>body.getD j (.Pass ⟨0,0,0,0⟩)
 | _=>.Pass ⟨0,0,0,0⟩
def Jal (s:Stmt):Arguments:=match s with
 | .FunctionDef _ a _ _ _ _ _ _ _ _=>a
 | _=>{ posonlyargs:=[],args:=[],vararg:=none,kwonlyargs:=[],kw_defaults:=[],kwarg:=none,defaults:=[] }
def Jak (s:Stmt):List Stmt:=match s with
 | .FunctionDef _ _ b _ _ _ _ _ _ _=>b
 | _=>[]
def Jac (s:Stmt):Scope:=match s with
 | .FunctionDef _ _ _ _ _ _ sc _ _ _=>sc
 | _=>{ kind:=.function,names:=[],isGenerator:=false,isCoroutine:=false }
abbrev E0:XK:=fun _ _ _=>False
structure Fun (K:W.Frag) (x qual:Str) (st:Stmt) (f:Addr) (fd:FuncData):Prop where
 ex:∃ (oc:Value) (od:Option Addr) (kV doc pm:Value) (an:Option Addr) (cdv ct:Value) (osl:Array (Option Value)),
  fd=W.fnOf x qual (Jal st) (Jak st) (Jac st) .none kV doc pm an cdv ct/\K.lookup f=some ⟨oc,od, .func fd,osl⟩/\W.codeIn K cdv qual=true
 kp:W.keepIn K (.ref f)=true
section
variable {P:Program} {w:World} {K:W.Frag} {mg:Str->Option Value} {base:Heap}
theorem Fun.binds {x qual:Str} {st:Stmt} {f:Addr} {fd:FuncData} {ps:List Str} (F:Fun K x qual st f fd)
  (h:∀ (kV doc pm:Value) (an:Option Addr) (cdv ct:Value) (us:List Value),us.length=ps.length->bindArgs (W.fnOf x qual (Jal st) (Jak st) (Jac st) .none kV doc pm an cdv ct) ⟨us,[]⟩=pure (ps.zip us)):Binds K fd ps []:=by
 obtain ⟨d,c,kV,doc,pm,an,cdv,ct,a,rfl,lk,b⟩:=F.ex;exact .all (h kV doc pm an cdv ct)
end
section
variable {X:Cx}
theorem pv (i:Nat) {x:Str} {pos:Pos} (hN:X.N[i]?=some x:=by rfl) (hv:Vis X.env.scope x:=by first | exact Or.inl rfl | exact Or.inr (Or.inl rfl) | exact Or.inr (Or.inr rfl)) (hd:(x == ("__debug__" : Str))=false:=by decide)
  (hcd:(x == ("__classdict__" : Str))=false:=by decide):PE X (.Name x pos) (tVar i):=Jj2 hN hv hd hcd
end
def Same (H H':Hp):Prop:=∀ b o,H b=some o->H' b=some o
theorem Same.refl (H:Hp):Same H H:=fun _ _ h=>h
theorem Same.trans {H H1 H2:Hp} (a:Same H H1) (b:Same H1 H2):Same H H2:=fun c o h=>b c o (a c o h)
theorem Same.seq {K:W.Frag} {H H':Hp} {a:Addr} {xs:List V} (e:Same H H') (h:SqL K H a xs):SqL K H' a xs:=by
 rcases h with (h | ⟨o,h⟩) | h
 ·exact .inl (.inl (e _ _ h))
 ·exact .inl (.inr ⟨o,e _ _ h⟩)
 ·exact .inr h
end L2
set_option maxHeartbeats 4000000
namespace L2
open PySem PySem.Spec PyProof.Rows
section
variable {κ : Type} [DecidableEq κ]
def valV (kvs:List (κ × V)) (k : κ):Option V:=(kvs.find? fun kv=>decide (kv.1=k)).map (·.2)
def putK (kvs:List (κ × V)) (k : κ) (v:V):List (κ × V) :=
 if (kvs.any fun kv=>decide (kv.1=k))=true then kvs.map (fun kv=>if kv.1=k then (kv.1,v) else kv) else kvs++[(k,v)]
def dropK (kvs:List (κ × V)) (k : κ):List (κ × V):=kvs.filter fun kv=>decide (kv.1≠k)
theorem JcV {p : κ × V} {r:List (κ × V)} {k : κ} (e:p.1=k):valV (p::r) k=some p.2:=by simp [valV,List.find?_cons,e]
theorem JcU {p : κ × V} {r:List (κ × V)} {k : κ} (e:¬ p.1=k):valV (p::r) k=valV r k:=by simp [valV,List.find?_cons,e]
theorem Jgo (k : κ):∀ kvs:List (κ × V),(kvs.any fun kv=>decide (kv.1=k))=(valV kvs k).isSome
 | []=>rfl
 | p::r=>by
  rw [any_cons];by_cases e:p.1=k
  ·simp only [JcV e,decide_eq_true e,Bool.true_or,Option.isSome_some]
  ·rw [JcU e,decide_eq_false e,Bool.false_or];exact Jgo k r
theorem Jdv (kvs:List (κ × V)) (k : κ) (v:V):(putK kvs k v).length<=kvs.length+1:=by
 unfold putK;split
 ·rw [length_map];ac_nf
 ·rw [length_append,length_cons,length_nil];ac_nf
theorem RelO.isSome_eq {o:Option V} {u:Option Value} (r:RelO o u):o.isSome=u.isSome:=by
 cases o with
 | none=>cases u with
  | none=>rfl
  | some _=>exact (show False from r).elim
 | some _=>cases u with
  | none=>exact (show False from r).elim
  | some _=>rfl
theorem KV.val {kvs:List (κ × V)} {vs:List (κ × Value)} (r:KV kvs vs) (k : κ):RelO (valV kvs k) (valueAt vs k):=by
 unfold KV at r;induction r with
 | nil=>exact True.intro
 | @cons p q ps qs h t ih=>
  obtain ⟨c,d⟩:=h;by_cases e:p.1=k
  ·have a:q.1=k:=c.symm.trans e;have b:valueAt (q::qs) k=some q.2:=by simp [valueAt,List.find?_cons,a]
   rw [JcV e,b];exact d
  ·have a:¬ q.1=k:=fun z=>e (c.trans z);have b:valueAt (q::qs) k=valueAt qs k:=by simp [valueAt,List.find?_cons,a]
   rw [JcU e,b];exact ih
theorem KV.any {kvs:List (κ × V)} {vs:List (κ × Value)} (r:KV kvs vs) (k : κ):(kvs.any fun kv=>decide (kv.1=k))=vs.any fun kv=>decide (kv.1=k):=by
 unfold KV at r;induction r with
 | nil=>rfl
 | cons h t ih=>rw [any_cons,any_cons,ih,h.1]
theorem KV.repl {kvs:List (κ × V)} {vs:List (κ × Value)} (r:KV kvs vs) (k : κ) {y:V} {u:Value} (ry:RelV y u) :
  KV (kvs.map fun kv=>if kv.1=k then (kv.1,y) else kv) (vs.map fun kv=>if kv.1=k then (kv.1,u) else kv):=by
 unfold KV at r ⊢;induction r with
 | nil=>exact .nil
 | @cons p q ps qs h t ih=>
  rw [map_cons,map_cons];refine .cons ?_ ih;obtain ⟨a,b⟩:=h;by_cases e:p.1=k
  ·rw [if_pos e,if_pos (a.symm.trans e)];exact ⟨a,ry⟩
  ·rw [if_neg e,if_neg (fun z=>e (a.trans z))];exact ⟨a,b⟩
theorem KV.put {kvs:List (κ × V)} {vs:List (κ × Value)} (r:KV kvs vs) (k : κ) {y:V} {u:Value} (ry:RelV y u):KV (putK kvs k y) (stored vs k u):=by
 unfold putK stored;rw [r.any k];by_cases e:(vs.any fun a=>decide (a.1=k))=true
 ·rw [if_pos e,if_pos e];exact r.repl k ry
 ·rw [if_neg e,if_neg e];exact Paired.snoc r ⟨rfl,ry⟩
theorem KV.length {kvs:List (κ × V)} {vs:List (κ × Value)} (r:KV kvs vs):kvs.length=vs.length:=Paired.length r
end
theorem kV_is {P:Program} {w:World} {k:Key} {u:Value} (r:RelV (kV k) u):(Jaz P w).is k u=true:=by
 cases k with
 | inl i=>have e:=(show u=Value.bool i from r);subst e;exact Je5 P w i
 | inr x=>obtain ⟨t,e⟩:=(show ∃ t,u=Value.str x t from r);subst e;exact JfG P w x t
theorem Je2 {P:Program} {w:World}:∀ {ks:List Key} {us:List Value},Vals (ks.map kV) us->ItemsAre (Jaz P w) ks us
 | [],_,r=>by rw [map_nil] at r;cases r;exact .nil
 | k::ks,_,r=>by
  rw [map_cons] at r;cases r with
  | cons h t=>exact .cons (kV_is h) (Je2 t)
abbrev KT (H:Hp):List (List Key × V)->List (List Key × Addr × Value)->Prop:=Paired fun p q=>p.1=q.1/\H q.2.1=some (.tup (p.1.map kV))/\RelV p.2 q.2.2
theorem KT.val {H:Hp} {kvs:List (List Key × V)} {xs:List (List Key × Addr × Value)} (r:KT H kvs xs) (k:List Key):RelO (valV kvs k) ((atKey xs k).map (·.2)):=by
 induction r with
 | nil=>exact True.intro
 | @cons p q ps qs h t ih=>
  obtain ⟨c,_,d⟩:=h;by_cases e:p.1=k
  ·have a:q.1=k:=c.symm.trans e;have b:atKey (q::qs) k=some q.2:=by simp [atKey,List.find?_cons,a]
   rw [JcV e,b];exact d
  ·have a:¬ q.1=k:=fun z=>e (c.trans z);have b:atKey (q::qs) k=atKey qs k:=by simp [atKey,List.find?_cons,a]
   rw [JcU e,b];exact ih
theorem KT.repl {H:Hp} {kvs:List (List Key × V)} {xs:List (List Key × Addr × Value)} (r:KT H kvs xs) (k:List Key) {y:V} {u:Value} (ry:RelV y u) :
  KT H (kvs.map fun kv=>if kv.1=k then (kv.1,y) else kv) (xs.map (putAt k u)):=by
 induction r with
 | nil=>exact .nil
 | @cons p q ps qs h t ih=>
  rw [map_cons,map_cons];refine .cons ?_ ih;obtain ⟨a,b,c⟩:=h;unfold putAt;by_cases e:p.1=k
  ·rw [if_pos e,if_pos (a.symm.trans e)];exact ⟨a,b,ry⟩
  ·rw [if_neg e,if_neg (fun z=>e (a.trans z))];exact ⟨a,b,c⟩
theorem KT.put {H:Hp} {kvs:List (List Key × V)} {xs:List (List Key × Addr × Value)} (r:KT H kvs xs) (k:List Key) {b:Addr} {y:V} {u:Value} (hb:H b=some (.tup (k.map kV))) (ry:RelV y u) :
  KT H (putK kvs k y) (storedH xs k b u):=by
 have e:(kvs.any fun a=>decide (a.1=k))=(atKey xs k).isSome:=by
  rw [Jgo,(r.val k).isSome_eq,Option.isSome_map]
 unfold putK storedH;rw [e];by_cases q:(atKey xs k).isSome=true
 ·rw [if_pos q,if_pos q];exact r.repl k ry
 ·rw [if_neg q,if_neg q];exact Paired.snoc r ⟨rfl,hb,ry⟩
theorem KT.keeps {H H':Hp} {kvs:List (List Key × V)} {xs:List (List Key × Addr × Value)} (r:KT H kvs xs) (ht:∀ b ys,H b=some (.tup ys)->H' b=some (.tup ys)):KT H' kvs xs :=
 Paired.mapP r fun _ _ z=>⟨z.1,ht _ _ z.2.1,z.2.2⟩
section
variable {P:Program} {w:World} {H:Hp} {h:Heap} {a:Addr}
theorem y7ay {u:HO} (ok:HOk P w H h) (e:Rd H a u):ObjOk P w H h a u:=e.ok ok
theorem dk_rd {kvs:List (Key × V)} (ok:HOk P w H h) (e:Rd H a (.dK kvs)):kvs.length<=sizeLine/\(a == sysModules)=false/\∃ vs,KV kvs vs/\h.DictOf (Jaz P w) a vs :=
 show ObjOk P w H h a (.dK kvs) from y7ay ok e
theorem dk_of {kvs:List (Key × V)} (ok:HOk P w H h) (e:H a=some (.dK kvs)):kvs.length<=sizeLine/\(a == sysModules)=false/\∃ vs,KV kvs vs/\h.DictOf (Jaz P w) a vs:=dk_rd ok (.inl e)
theorem Je3 {ks:List Key} (ok:HOk P w H h) (e:H a=some (.tup (ks.map kV))):(tupleKind (Jaz P w)).is h ks a:=by
 obtain ⟨_,b,r,o,c,f,n,d⟩:=(show ObjOk P w H h a (.tup (ks.map kV)) from ok a _ e);exact ⟨o,b.toArray,n,c,f,d,by simpa using Je2 r⟩
theorem dt_rd {kvs:List (List Key × V)} (ok:HOk P w H h) (e:Rd H a (.dT kvs)):kvs.length<=sizeLine/\(a == sysModules)=false /\
  ∃ xs,KT H kvs xs/\h.DictOfH (tupleKind (Jaz P w)) a xs:=by
 obtain ⟨z,y,xs,r,o,f,i,c,k,j,g,d⟩:=(show ObjOk P w H h a (.dT kvs) from y7ay ok e);refine ⟨z,y,xs,r,o,f,i,c,k,j,g,fun x b=>?_,d⟩;have all:∀ {l:List (List Key × V)} {m:List (List Key × Addr × Value)},KT H l m->∀ x∈m,(tupleKind (Jaz P w)).is h x.1 x.2.1:=by
  intro l m q;induction q with
  | nil=>intro x b;exact nomatch b
  | @cons p q ps qs hq t ih=>
   intro x b;rcases mem_cons.mp b with e | b
   ·subst e;exact Je3 ok (by rw [<- hq.1];exact hq.2.1)
   ·exact ih x b
 exact all r x b
theorem dt_of {kvs:List (List Key × V)} (ok:HOk P w H h) (e:H a=some (.dT kvs)):kvs.length<=sizeLine/\(a == sysModules)=false /\
  ∃ xs,KT H kvs xs/\h.DictOfH (tupleKind (Jaz P w)) a xs:=dt_rd ok (.inl e)
end
def DGet (H:Hp) (a:Addr) (y:V) (r:Option V):Prop :=
 (∃ kvs k,Rd H a (.dK kvs)/\y=kV k/\r=valV kvs k)\/∃ kvs k b,Rd H a (.dT kvs)/\y=.ref b/\H b=some (.tup (k.map kV))/\r=valV kvs k
def DPut (H:Hp) (a:Addr) (y v:V) (H':Hp):Prop :=
 (∃ kvs k,H a=some (.dK kvs)/\y=kV k/\kvs.length<sizeLine/\H'=upd H a (.dK (putK kvs k v))) \/
 ∃ kvs k b,H a=some (.dT kvs)/\y=.ref b/\H b=some (.tup (k.map kV))/\kvs.length<sizeLine/\H'=upd H a (.dT (putK kvs k v))
theorem DGet.k {H:Hp} {a:Addr} {kvs:List (Key × V)} {k:Key} (e:H a=some (.dK kvs)):DGet H a (kV k) (valV kvs k):=.inl ⟨kvs,k, .inl e,rfl,rfl⟩
theorem DPut.k {H:Hp} {a:Addr} {kvs:List (Key × V)} {k:Key} {v:V} (e:H a=some (.dK kvs)) (hl:kvs.length<sizeLine):DPut H a (kV k) v (upd H a (.dK (putK kvs k v))):=.inl ⟨kvs,k,e,rfl,hl,rfl⟩
section
variable {X:Cx} {pins:List (Addr × Obj)} {σ : St} {H:Hp} {s:Shared} {a:Addr} {y v:V} {u r:Value} {o:Option V} {A:Around} {E:Value->Shared->Prop}
theorem Inv.big (I:Inv X pins σ H s):sysModules<s.heap.objs.size:=by
 have h:mainGlobals<s.heap.objs.size:=(I.mod.glob.keeps I.bk).lt;exact Nat.lt_trans ⋯ h
theorem JgT {Q:Value->Shared->Prop} (hu:A.units+1<cLine) (I:Inv X pins σ H s) (g:DGet H a y (some v)) (ry:RelV y u) (h:∀ w' s',Inv X pins σ H s'->RelV v w'->Q w' s') :
  wpAny (model X.prog X.w) A (getItem (.ref a) u) Q E s:=by
 rcases g with ⟨kvs,k,e,ey,l⟩ | ⟨kvs,k,b,e,ey,eb,l⟩
 ·subst ey;obtain ⟨z,q,r,d,f⟩:=dk_rd I.hok e;obtain ⟨w',i,c⟩:=RelO.some_of (v:=v) (o:=valueAt r k) (by rw [l];exact d.val k);exact wpAny_getItem_of (kV_is ry) f.mapOf i (h w' _ (I.tok _) c)
 ·subst ey;cases (show u=Value.ref b from ry);obtain ⟨z,q,m,d,f⟩:=dt_rd I.hok e;obtain ⟨w',i,c⟩:=RelO.some_of (v:=v) (o:=(atKey m k).map (·.2)) (by rw [l];exact d.val k);obtain ⟨p,n,j⟩:=Option.map_eq_some_iff.mp i;refine wpAny_getItem_heap (tupleKind_room_in1 hu) (Je3 I.hok eb) f n ?_;rw [j];exact h w' _ (I.tok _) c
theorem d_in {Q:Value->Shared->Prop} (hu:A.units+1<cLine) (I:Inv X pins σ H s) (g:DGet H a y o) (ry:RelV y u) (h:∀ s',Inv X pins σ H s'->Q (.bool o.isSome) s') :
  wpAny (model X.prog X.w) A (compareOp .In u (.ref a)) Q E s:=by
 rcases g with ⟨kvs,k,e,ey,l⟩ | ⟨kvs,k,b,e,ey,eb,l⟩
 ·subst ey;obtain ⟨z,f,j,c,d⟩:=dk_rd I.hok e;refine wpAny_in_of (kV_is ry) f d.mapOf ?_;rw [<- (c.val k).isSome_eq, <- l];exact h _ (I.tok _)
 ·subst ey;cases (show u=Value.ref b from ry);obtain ⟨z,f,i,c,d⟩:=dt_rd I.hok e;refine wpAny_in_heap (tupleKind_room_in1 hu) (Je3 I.hok eb) f d ?_;have q:=(c.val k).isSome_eq;rw [Option.isSome_map] at q;rw [<- q, <- l];exact h _ (I.tok _)
theorem JiS {Q:Value->Shared->Prop} (hu:A.units+1<cLine) (I:Inv X pins σ H s) (g:DGet H a y o) (ry:RelV y u) (h:∀ s',Inv X pins σ H s'->Q (.bool (!o.isSome)) s') :
  wpAny (model X.prog X.w) A (compareOp .NotIn u (.ref a)) Q E s:=by
 rcases g with ⟨kvs,k,e,ey,l⟩ | ⟨kvs,k,b,e,ey,eb,l⟩
 ·subst ey;obtain ⟨z,f,j,c,d⟩:=dk_rd I.hok e;refine wpAny_notIn_of (kV_is ry) f d.mapOf ?_;rw [<- (c.val k).isSome_eq, <- l];exact h _ (I.tok _)
 ·subst ey;cases (show u=Value.ref b from ry);obtain ⟨z,f,i,c,d⟩:=dt_rd I.hok e;refine wpAny_notIn_heap (tupleKind_room_in1 hu) (Je3 I.hok eb) f d ?_;have q:=(c.val k).isSome_eq;rw [Option.isSome_map] at q;rw [<- q, <- l];exact h _ (I.tok _)
theorem JgV {h':Heap} {t':Nat} {ob:HO} (I:Inv X pins σ H s) (mu:Mut (H a)) (hs:Heap.SameBut a s.heap h') (he:∃ q,h'.get? a=some q) (new:ObjOk X.prog X.w (upd H a ob) h' a ob) :
  Inv X pins σ (upd H a ob) { s with heap:=h',toks:=t' } :=
 I.write (x:=a) (e:=a) mu (.inl rfl) (fun b q c z=>(hs.2 b c).trans z) he new
theorem Jis {P:Program} {w:World} {H':Hp} {h':Heap} {kvs:List (Key × V)} {vs:List (Key × Value)} (z:kvs.length<=sizeLine) (hd:(a == sysModules)=false) (rel:KV kvs vs) (dd:h'.DictOf (Jaz P w) a vs) :
  ObjOk P w H' h' a (.dK kvs):=⟨z,hd,vs,rel,dd⟩
theorem JgU {H':Hp} {Q:Unit->Shared->Prop} (hu:A.units+1<cLine) (I:Inv X pins σ H s) (g:DPut H a y v H') (ry:RelV y u) (rv:RelV v r) (h:∀ s',Inv X pins σ H' s'->Q () s') :
  wpAny (model X.prog X.w) A (setItem (.ref a) u r) Q E s:=by
 rcases g with ⟨kvs,k,e,ey,l,eH⟩ | ⟨kvs,k,b,e,ey,eb,l,eH⟩
 ·subst ey eH;obtain ⟨z,p,C,d,m⟩:=dk_of I.hok e;have n:C.length<=sizeLine:=by rw [<- d.length];exact z
  have o:(putK kvs k v).length<=sizeLine:=by have:=Jdv kvs k v;ac_nf
  refine wpAny_setItem_pairs (hsz:=n) (kV_is ry) m fun x f j=>h _ ?_;have K:∃ q,x.get? a=some q:=let ⟨q,_,_,i,_⟩:=f;⟨q,i⟩;exact JgV I (by rw [e];exact True.intro) j K (Jis o p (d.put k rv) f)
 ·subst ey eH;cases (show u=Value.ref b from ry);obtain ⟨z,p,G,d,m⟩:=dt_of I.hok e;have n:G.length<=sizeLine:=by rw [<- Paired.length d];exact z
  have o:(putK kvs k v).length<=sizeLine:=by have:=Jdv kvs k v;ac_nf
  refine wpAny_setItem_heap (hsz:=n) (tupleKind_room_in1 hu) (Je3 I.hok eb) m fun x f j=>h _ ?_;obtain ⟨q,B,L,i,M,F,D,_,J⟩:=f;refine JgV I (by rw [e];exact True.intro) j ⟨q,i⟩ ⟨o,p,_,(d.put k eb rv).keeps fun c N t=>?_,q,B,L,i,M,F,D,J⟩;rw [Jai (ne_of t e (fun z=>nomatch z))];exact t
end
section
variable {X:Cx} {pins:List (Addr × Obj)} {σ : St} {H:Hp} {s:Shared} {a:Addr} {kvs:List (Key × V)} {k:Key} {u:Value} {A:Around} {E:Value->Shared->Prop}
end
def NoSl (i:Expr):Prop:=∀ ov iv,subscripted i false ov iv=operate [ov,iv] (getItem ov iv)
theorem Jjs {prog:Program} {w:World} {A:Around} {E:Value->Shared->Prop} {s:Shared} {env:Env} {value slice:Expr} {pos:Pos} {T id:String} {Q:Value->Shared->Prop}
  (hl:typeLookup (.type T) "__getitem__"=pure (some (.builtin id))) (hs:NoSl slice)
  (h:wpAny (model prog w) A (eval value env) (fun o s₁=>wpAny (model prog w) A (eval slice env) (fun i s₂=>s₂.TypeIs o T/\wpAny (model prog w) A (getItem o i) Q E s₂) E s₁) E s) :
  wpAny (model prog w) A (eval (.Subscript value slice pos) env) Q E s:=by
 refine Subscript_ (wpAny_mono h (fun o s₁ h₁=>wpAny_mono h₁ (fun i s₂ h₂=>?_) fun _ _ x=>x) fun _ _ x=>x);obtain ⟨b,h₂⟩:=h₂;unfold subscriptTail;refine wpAny_bind ?_;rw [getitemInPython_of_ne b.not_modules];refine wpAny_bind (wpAny_specialOf b hl ?_);have a:wpAny (model prog w) A (subscripted slice false o i) (fun r s₃=>wpAny (model prog w) A (letTemporaryGo value o r >>= fun _=>pure r) Q E s₃) E s₂:=by
  rw [hs o i];exact wpAny_operating (wpAny_mono h₂ (fun r s₃ h₃=>wpAny_bind (wpAny_letTemporaryGo (wpAny_pure h₃))) fun _ _ x=>x)
 first
  | exact wpAny_pure (wpAny_bind a)
  | exact wpAny_bind (wpAny_pure (wpAny_bind a))
  | exact wpAny_bind a
theorem JfC {X:Cx} {pins:List (Addr × Obj)} {σ : St} {H:Hp} {s:Shared} {a:Addr} {y:V} {o:Option V} (I:Inv X pins σ H s) (g:DGet H a y o):s.TypeIs (.ref a) "dict":=by
 rcases g with ⟨kvs,k,e,_,_⟩ | ⟨kvs,k,b,e,_,_,_⟩
 ·obtain ⟨_,_,f,_,c⟩:=dk_rd I.hok e;exact c.typeIs
 ·obtain ⟨_,_,d,_,c⟩:=dt_rd I.hok e;exact c.typeIs
def tDGet (td ty:TE):TE:=fun σ H Q=>td σ H fun x H1=>ty σ H1 fun y H2=>∃ a v,x=.ref a/\DGet H2 a y (some v)/\Q v H2
def tDIn (ty td:TE):TE:=fun σ H Q=>ty σ H fun y H1=>td σ H1 fun x H2=>∃ a o,x=.ref a/\DGet H2 a y o/\Q (.bl o.isSome) H2
def JhL (ty td:TE):TE:=fun σ H Q=>ty σ H fun y H1=>td σ H1 fun x H2=>∃ a o,x=.ref a/\DGet H2 a y o/\Q (.bl (!o.isSome)) H2
def sDPut (td ty tv:TE):TS:=fun D σ H=>tv σ H fun v H1=>td σ H1 fun x H2=>ty σ H2 fun y H3=>∃ a H4,x=.ref a/\DPut H3 a y v H4/\D.nx σ H4
section
variable {X:Cx} {o i e value:Expr} {pos pos' tpos:Pos} {td ty tv:TE}
theorem JaK (hu:X.A.units+1<cLine) (ho:PE X o td) (hi:PE X i ty) (hs:NoSl i):PE X (.Subscript o i pos) (tDGet td ty):=by
 intro b s σ H Q I h;refine Jjs PySem.F.slot_dict_getitem.lookup hs (thn (ho b s σ H _ I h) fun u f ⟨x,l,I1,e,j⟩=>thn (hi b f σ l _ I1 j) fun r q ζ=>?_);obtain ⟨y,k,I2,d,a,v,n,g,m⟩:=ζ;subst n;obtain rfl:u=Value.ref a:=e;exact ⟨JfC I2 g,JgT hu I2 g d fun p t I3 c=>⟨v,k,I3,c,m⟩⟩
theorem Jeh (hu:X.A.units+1<cLine) (hi:PE X i ty) (ho:PE X o td):PC X .In i o (tDIn ty td):=by
 intro b s σ H Q I h;refine thn (hi b s σ H _ I h) fun q e ⟨y,l,I1,c,j⟩=>thn (ho b e σ l _ I1 j) fun u p ζ=>?_;obtain ⟨x,k,I2,d,a,f,n,g,m⟩:=ζ;subst n;obtain rfl:u=Value.ref a:=d;exact d_in hu I2 g c fun r I3=>⟨.bl f.isSome,k,I3,rfl,m⟩
theorem Jcl (hu:X.A.units+1<cLine) (hi:PE X i ty) (ho:PE X o td):PC X .NotIn i o (JhL ty td):=by
 intro b s σ H Q I h;refine thn (hi b s σ H _ I h) fun q e ⟨y,l,I1,c,j⟩=>thn (ho b e σ l _ I1 j) fun u p ζ=>?_;obtain ⟨x,k,I2,d,a,f,n,g,m⟩:=ζ;subst n;obtain rfl:u=Value.ref a:=d;exact JiS hu I2 g c fun r I3=>⟨.bl (!f.isSome),k,I3,rfl,m⟩
theorem JbW (hu:X.A.units+1<cLine) (ho:PE X o td) (hi:PE X i ty) (hv:PE X value tv) (hs:swapsWith value (some (.Subscript o i pos')) pos.line X.env=pure false) :
  PS X (.Assign [.Subscript o i pos'] value pos) (sDPut td ty tv):=by
 intro b s σ H D I h;refine wpAny_Assign_Subscript (thn (hv b s σ H _ I h) fun r f ⟨v,l,I1,p,j⟩=>thn (ho b f σ l _ I1 j) fun u e ⟨x,k,I2,d,m⟩=>thn (hi b e σ k _ I2 m) fun B C ζ=>?_) hs;obtain ⟨y,z,I3,c,a,n,q,g,t⟩:=ζ;subst q;obtain rfl:u=Value.ref a:=d;exact JgU hu I3 g c p fun w I4=>⟨σ,n,I4,t⟩
end
theorem JhT {P:Program} {w:World} {H:Hp} (h:Heap) (hb:sysModules<h.objs.size):ObjOk P w H (h.push { cls:=.type "dict",data:=.dict #[] }) h.objs.size (.dK []) :=
 ⟨Nat.zero_le _,beq_eq_false_iff_ne.mpr (Ne.symm (Nat.ne_of_lt hb)),[], .nil,Heap.DictOf.new h⟩
def JiD:TE:=fun _ H Q=>∀ p,H p=none->Q (.ref p) (upd H p (.dK []))
def Jkk:TE:=fun _ H Q=>∀ p,H p=none->Q (.ref p) (upd H p (.dT []))
section
variable {X:Cx} {pos:Pos}
theorem Jb6:PE X (.Dict [] [] pos) JiD:=fun b s σ H Q I h=>
 wpAny_Dict_empty ⟨.ref s.heap.objs.size,_,I.laid (a:=s.heap.objs.size) (o:=.dK []) (t':=s.toks) (fun _ _ q=>Heap.get?_push_of_some _ q) (Nat.le_refl _) (JhT s.heap I.big),rfl,h _ (I.hok.fresh (Nat.le_refl _))⟩
end
def Jgn:List (TE × TE)->St->Hp->(List (V × V)->Hp->Prop)->Prop
 | [],_,H,Q=>Q [] H
 | (tk,tv)::r,σ,H,Q=>tk σ H fun x H1=>tv σ H1 fun y H2=>Jgn r σ H2 fun ps H3=>Q ((x,y)::ps) H3
def JiA (kvs more:List (Key × V)):List (Key × V):=more.foldl (fun acc kv=>putK acc kv.1 kv.2) kvs
def tDisp (trs:List (TE × TE)):TE:=fun σ H Q=>∀ p,H p=none->Jgn trs σ (upd H p (.dK [])) fun ps H2=>H2 p=some (.dK [])/\∃ kvs:List (Key × V),ps=kvs.map (fun kv=>(kV kv.1,kv.2))/\kvs.length<=15/\Q (.ref p) (upd H2 p (.dK (JiA [] kvs)))
def IsD (H:Hp) (a:Addr):Prop:=(∃ kvs,Rd H a (.dK kvs))\/∃ kvs,Rd H a (.dT kvs)
theorem JjG {X:Cx} {pins:List (Addr × Obj)} {σ : St} {H:Hp} {s:Shared} {a:Addr} (I:Inv X pins σ H s) (d:IsD H a) :
  s.TypeIs (.ref a) "dict"/\(∀ b,Value.ref a=.ref b->∃ ob,s.heap.get? b=some ob/\ob.dict=none)/\(a == sysModules)=false:=by
 rcases d with ⟨kvs,e⟩ | ⟨kvs,e⟩
 ·obtain ⟨_,f,j,_,c⟩:=dk_rd I.hok e;refine ⟨c.typeIs,fun b q=>?_,f⟩;cases q;obtain ⟨ob,_,_,g,h,_⟩:=c;exact ⟨ob,g,h.2.1⟩
 ·obtain ⟨_,f,i,_,c⟩:=dt_rd I.hok e;refine ⟨c.typeIs,fun b q=>?_,f⟩;cases q;obtain ⟨ob,_,_,g,h,_⟩:=c;exact ⟨ob,g,h.2.1⟩
section
variable {X:Cx} {pins:List (Addr × Obj)} {σ : St} {H:Hp} {s:Shared} {a:Addr} {y d:V} {u r:Value} {o:Option V} {A:Around} {E:Value->Shared->Prop}
end
def Jki (td ty:TE):TE:=fun σ H Q=>td σ H fun x H1=>∃ a,x=.ref a/\IsD H1 a/\ty σ H1 fun y H2=>∃ o,DGet H2 a y o/\Q (o.getD .non) H2
def Jkj (td ty tx:TE):TE:=fun σ H Q=>td σ H fun x H1=>∃ a,x=.ref a/\IsD H1 a/\ty σ H1 fun y H2=>tx σ H2 fun z H3=>∃ o,DGet H3 a y o/\Q (o.getD z) H3
def Jkl (td ty:TE):TE:=fun σ H Q=>td σ H fun x H1=>∃ a,x=.ref a/\IsD H1 a/\ty σ H1 fun y H2=>∃ kvs k v,H2 a=some (.dK kvs)/\y=kV k/\valV kvs k=some v/\Q v (upd H2 a (.dK (dropK kvs k)))
section
variable {X:Cx} {o e f:Expr} {apos cpos:Pos} {td ty tx:TE}
end
section
variable {X:Cx} {pins:List (Addr × Obj)} {σ : St} {H:Hp} {s:Shared} {a:Addr} {kvs:List (Key × V)} {A:Around} {E:Value->Shared->Prop}
end
section
variable {X:Cx} {pins:List (Addr × Obj)} {σ : St} {H:Hp} {s:Shared} {a:Addr} {y:V} {u:Value} {A:Around} {E:Value->Shared->Prop}
end
section
variable {κ : Type} [DecidableEq κ]
end
theorem ObjOk.is_there {P:Program} {w:World} {H:Hp} {h:Heap} {a:Addr} {o:HO} (x:ObjOk P w H h a o):∃ ob,h.get? a=some ob:=by
 cases o with
 | lst xs=>obtain ⟨_,_,_,_,e⟩:=x;exact ⟨_,e⟩
 | tup xs=>obtain ⟨_,_,_,p⟩:=x;obtain ⟨o,e,_⟩:=p;exact ⟨_,e⟩
 | dK kvs=>obtain ⟨_,_,_,_,o,_,_,e,_⟩:=x;exact ⟨_,e⟩
 | dT kvs=>obtain ⟨_,_,_,_,o,_,_,e,_⟩:=x;exact ⟨_,e⟩
 | set S n=>
  obtain ⟨o,_,_,_,e,_⟩:=x;exact ⟨_,e⟩
 | ins C dx fs=>obtain ⟨_,_,_,e,_⟩:=x;exact ⟨_,e⟩
 | own y=>exact x
 | xd fs=>obtain ⟨c,n,_⟩:=x;obtain ⟨b,e,_⟩:=Je4 n;exact ⟨_,e⟩
 | rng lo hi=>obtain ⟨_,_,_,e⟩:=x;exact ⟨_,e⟩
 | frz ob u=>exact ⟨_,x.1⟩
 | tbl ps=>exact ⟨_,x⟩
 | met f y=>exact ⟨_,x⟩
 | ext φ=>exact x.2.1
theorem HOk.isnone {P:Program} {w:World} {H:Hp} {h:Heap} {a:Addr} (x:HOk P w H h) (e:h.get? a=none):H a=none:=by
 cases q:H a with
 | none=>rfl
 | some u=>
  obtain ⟨b,z⟩:=(x a u q).is_there;rw [e] at z;cases z
structure Fly (l:List Env) (H':Hp) (h0:Heap) (ea:Addr) (cls a0:Value) (B h:Heap):Prop where
 fly:Heap.FlyingW B l ea cls a0 h
 free:H' ea=none
 new:h0.get? ea=none
 kept:∀ b o,h.get? b=some o->((∃ o',h0.get? b=some o')\/∃ u,H' b=some u)->b∉frs l->B.get? b=some o
def CX1 (P:Program) (w:World):CXT:=fun outer H s E e s'=>
 ∃ (ea:Addr) (cls a0:Value) (B:Heap) (H':Hp),e=.ref ea/\s'.os=s.os/\AllBare s'.gens/\Un (frs outer) [] H H' s.heap s'.heap/\HOk P w H' s'.heap /\
  Fly outer H' s.heap ea cls a0 B s'.heap/\E cls none H'
section
variable {P:Program} {w:World} {l l':List Env} {H H':Hp} {h0 h h' B:Heap} {ea:Addr} {cls a0:Value}
theorem Fly.next (u:Un (frs l) [] H H' h0 h) (hok:HOk P w H' h) (F:Fly l H' h0 ea cls a0 B h) (fr:∀ b∈frs l,H' b=none) (k:B.StaysIn h') (sl:h.UpToSlots h') :
  HOk P w H' h'/\Un (frs l) [] H H' h0 h'/\∀ b o,h.get? b=some o->((∃ o',h0.get? b=some o')\/∃ u,H' b=some u)->b∉frs l->h'.get? b=some o:=by
 have c:∀ b o,h.get? b=some o->((∃ o',h0.get? b=some o')\/∃ u,H' b=some u)->b∉frs l->h'.get? b=some o:=fun b o q r n=>k b o (F.kept b o q r n);have d:∀ b o,b∈frs l->h.get? b=some o->∃ f,h'.get? b=some { o with slots:=f }:=fun b o m q=>by
  obtain ⟨_,o',t,x⟩:=F.fly.2.2.1.mem m;rw [q] at t;cases t;exact sl b o q x
 refine ⟨fun a o e=>?_,⟨fun b o q n p _=>?_,fun b o q n m _=>?_,u.free,fun b o q z=>?_,u.tups,u.frzs,u.tbls⟩,c⟩
 ·have s:∀ b u,H' b=some u->b∉frs l:=fun b u q m=>by
   rw [fr b m] at q;cases q
  refine (hok a o e).stay (fun b v i q=>?_) (fun _ r=>r) (fun _ _ r=>r);rcases i with rfl | i
  ·exact c _ _ q (.inr ⟨_,e⟩) (s _ _ e)
  ·exact c _ _ q (.inr ⟨_,i⟩) (s _ _ i)
 ·exact c b o (u.keep b o q n p (by simp)) (.inl ⟨o,q⟩) p
 ·obtain ⟨y,g⟩:=u.slot b o q n m (by simp);obtain ⟨f,j⟩:=d b _ m g;exact ⟨f,j⟩
 ·obtain ⟨o',g⟩:=u.there b o q (by simp);by_cases m:b∈frs l
  ·obtain ⟨f,j⟩:=d b _ m g;exact ⟨_,j⟩
  ·exact ⟨o',c b o' g (.inl ⟨o,q⟩) m⟩
end
section
variable {X:Cx} {pins:List (Addr × Obj)} {σ : St} {H H':Hp} {s:Shared} {h h' B:Heap} {ea:Addr} {cls a0:Value}
theorem Inv.out (I:Inv X pins σ H s) (hex:X.ex=[]) (u:Un (frs X.stack) [] H H' s.heap h'):Un X.fs [] X.H₀ H' X.s₀.heap h':=by
 have J:=I.base;rw [hex] at J;have h:∀ b o,X.s₀.heap.get? b=some o->b≠X.env.locals:=fun b o q z=>by
  have f:=Heap.lt_size q;have r:=I.ok.above;rw [z] at f;exact absurd (Nat.lt_of_lt_of_le f r) (Nat.lt_irrefl _)
 have i:∀ b o,X.s₀.heap.get? b=some o->b∉X.fs->b∉frs X.stack:=fun b o q c m=>by
  rcases mem_cons.mp (I.stkSub b m) with z | z
  ·exact h b o q z
  ·exact c z
 refine ⟨fun b o q n c _=>?_,fun b o q n m _=>?_,fun b o q n _=>?_,fun b o q _=>?_,fun b g q=>u.tups b g (J.tups b g q),fun b o v q=>u.frzs b o v (J.frzs b o v q),fun b k q=>?_⟩
 ·exact u.keep b o (J.keep b o q n c (by simp)) (J.free b o q n (by simp)) (i b o q c) (by simp)
 ·obtain ⟨t,a⟩:=J.slot b o q n m (by simp);obtain ⟨j,d⟩:=u.any a (J.free b o q n (by simp)) (by simp);exact ⟨j,d⟩
 ·obtain ⟨e,a⟩:=J.there b o q (by simp);exact u.free b e a (J.free b o q n (by simp)) (by simp)
 ·obtain ⟨e,a⟩:=J.there b o q (by simp);exact u.there b e a (by simp)
 ·obtain ⟨l,a⟩:=J.tbls b k q;obtain ⟨p,d⟩:=u.tbls b _ a;exact ⟨l++p,by rw [d,Array.append_assoc]⟩
theorem Inv.stkFree' (I:Inv X pins σ H s) (u:Un (frs X.stack) [] H H' s.heap h):∀ b∈frs X.stack,H' b=none:=fun b m=>by
 obtain ⟨_,o,q,_⟩:=I.stack.mem m;exact u.free b o q (I.stkFree b m) (by simp)
end
section
variable {P:Program} {w:World} {K:W.Frag} {mg:Str->Option Value} {base:Heap} {N:List Str} {qual:Str} {scope:Scope} {f:Addr} {cdv:Value} {A:Around} {outer:List Env} {s0:Shared} {H0:Hp} {E:XK}
theorem pass1:Jcf (CX1 P w) (cxOf (CX1 P w) P w K mg base N qual scope f cdv A outer s0 H0 E) E:=by
 intro G σ H s e x I U;obtain ⟨i,cls,a0,B,y,rfl,p,L,u,l,F,W⟩:=U;have D:=I.stkFree' u;show wpAny (model P w) (A.deeper (envOfC qual scope s0.heap.objs.size f cdv)) (leaving (envOfC qual scope s0.heap.objs.size f cdv) (.ref i)) (fun _ h=>CX1 P w outer H0 s0 E (.ref i) h) (fun M h=>CX1 P w outer H0 s0 E M h) x;refine wpAny_leaves_onW (base:=B) (cls:=cls) (a0:=a0) I.ok.frames rfl F.fly fun V g n=>?_;obtain ⟨k,S,X⟩:=F.next u l D g.1 n;have j:s0.heap.get? i=none:=by
  cases q:s0.heap.get? i with
  | none=>rfl
  | some o=>
   obtain ⟨a,T⟩:=I.base.there i o q (by intro z;cases z);have:=F.new;rw [T] at this;cases this
 refine ⟨i,cls,a0,B,y,rfl,p.trans I.os,L,I.out rfl S,k,⟨g,F.free,j,fun b o q r O=>?_⟩,W⟩;have Q:b≠s0.heap.objs.size:=fun z=>by
  rcases r with ⟨a,c⟩ | ⟨v,c⟩
  ·have:=Heap.lt_size c;rw [z] at this;exact absurd this (Nat.lt_irrefl _)
  ·have J:=D s0.heap.objs.size (by
    show s0.heap.objs.size∈frs (envOfC qual scope s0.heap.objs.size f cdv::outer);exact List.mem_filterMap.mpr ⟨_,mem_cons_self ..,rfl⟩)
   rw [z,J] at c;cases c
 have R:b∉frs (envOfC qual scope s0.heap.objs.size f cdv::outer):=fun m=>by
  rcases mem_cons.mp (I.stkSub b m) with z | z
  ·exact Q z
  ·exact O z
 have C:(∃ a,s.heap.get? b=some a)\/∃ v,y b=some v:=by
  rcases r with ⟨a,c⟩ | r
  ·exact .inl (I.base.there b a c (by intro z;cases z))
  ·exact .inr r
 have d:∃ a,x.heap.get? b=some a:=by
  rcases C with ⟨a,c⟩ | ⟨v,c⟩
  ·exact u.there b a c (by simp)
  ·exact (l b v c).is_there
 obtain ⟨a,c⟩:=d;have z:=F.kept b a c C R;have t:=g.1 b a z;rw [show V.get? b=some o from q] at t;cases t;exact z
end
theorem passF {P:Program} {w:World} {X:Cx}:Jcf (CX1 P w) X E0:=fun _ _ _ _ _ _ _ h=>by
 obtain ⟨_,_,_,_,_,_,_,_,_,_,_,z⟩:=h;exact False.elim z
theorem JiV {K:W.Frag} {h:Heap} {C:Addr} {bmB:List Value} {newId:String} (X:K.In h) (q:W.excIn K C bmB newId=true) :
  ∃ (bm:List Value) (N:Addr) (nm qn:Str) (bs:List Value) (hdct:Bool) (sn:List Str) (sub:List Value) (ab:Bool) (col:Option Bool) (dd:Option Addr) (k0 k1 k2 k3 k5:Option Value) (mN:Str->Option Value),
   h.get? C=some (excClassObj nm qn C N bs bm hdct sn sub ab col dd k0 k1 k2 k3 k5 newId)/\h.Ns N mN/\mN "__init__"=none/\OwnTail h bmB bm:=by
 unfold W.excIn at q;split at q
 next dd cd sl ho=>
  split at q
  next C' bm k0 k1 k2 k3 n k5 hm hs=>
   have p:((((C'=C/\n=newId)/\cd.hasDel=false)/\W.tailIn K bmB bm=true)/\W.nsOkIn K cd.ns=true)/\W.nsIn K cd.ns "__init__"=some none:=by simpa using q
   obtain ⟨⟨⟨⟨⟨j,g⟩,k⟩,i⟩,e⟩,f⟩:=p;obtain ⟨nm,bs,b,l,qn,o,sn,sub,ab,col,a⟩:=cd;have m:sl=#[k0,k1,k2,k3,some (.builtin n),k5]:=by
    cases sl;exact congrArg Array.mk hs
   subst j;subst g;subst m;have d:b=.ref C'::bm:=hm;subst d;have c:a=false:=k;subst c;exact ⟨bm,l,nm,qn,bs,o,sn,sub,ab,col,dd,k0,k1,k2,k3,k5,_,X _ _ ho, .of_isNs (W.isNs_of_in X e),W.nsMap_none_of_in X e f,W.tail_of_in X i⟩
  next=>cases q
 next=>cases q
section
variable {P:Program} {w:World} {K:W.Frag} {mg:Str->Option Value} {base:Heap} {N:List Str} {qual:Str} {scope:Scope} {f:Addr} {cdv:Value} {A:Around} {outer:List Env} {s0:Shared} {H0:Hp} {E:XK}
theorem JjO {pins:List (Addr × Obj)} {σ : St} {H:Hp} {s:Shared} {h':Heap} {e:Addr} {cls:Value} {us:List Value}
  (I:Inv (cxOf (CX1 P w) P w K mg base N qual scope f cdv A outer s0 H0 E) pins σ H s) (hm:Heap.MadeExcOf s.heap h' e cls us) (q:E cls none H) :
  (cxOf (CX1 P w) P w K mg base N qual scope f cdv A outer s0 H0 E).xe (.ref e) { s with heap:=h' }:=by
 show wpAny (model P w) (A.deeper (envOfC qual scope s0.heap.objs.size f cdv)) (leaving (envOfC qual scope s0.heap.objs.size f cdv) (.ref e)) (fun _ k=>CX1 P w outer H0 s0 E (.ref e) k) (fun Q k=>CX1 P w outer H0 s0 E Q k) { s with heap:=h' };have U:=I.stkFree;have L:∀ j∈(envOfC qual scope s0.heap.objs.size f cdv::outer), ∀ b,j.frame=some b->b∈frs (envOfC qual scope s0.heap.objs.size f cdv::outer):=fun j X b C=>List.mem_filterMap.mpr ⟨j,X,C⟩;refine wpAny_leaves_madeW (base:=W.hideAll s.heap (frs (envOfC qual scope s0.heap.objs.size f cdv::outer))) (h:=s.heap) (cls:=cls) (args:=us) I.ok.frames rfl (fun b o z=>W.of_hideAll _ z) (W.funFrames_hide I.stack L) hm fun D t l _ _ B=>?_;have i:H e=none:=I.hok.isnone hm.new;have c:∀ b o,s.heap.get? b=some o->b∉frs (envOfC qual scope s0.heap.objs.size f cdv::outer)->D.get? b=some o:=fun b o z n=>l.1 b o (W.hideAll_get _ z n);have u:Un (frs (envOfC qual scope s0.heap.objs.size f cdv::outer)) [] H H s.heap D:=by
  refine ⟨fun b o z _ n _=>c b o z n,fun b o z _ m _=>?_,fun _ _ _ n _=>n,fun b o z _=>?_,fun _ _ z=>z,fun _ _ _ z=>z,fun _ Z z=>⟨#[],by rw [z];simp⟩⟩
  ·obtain ⟨_,g,d,F⟩:=I.stack.mem m;rw [z] at d;cases d;exact B b o (hm.keeps b o z) F
  ·by_cases m:b∈frs (envOfC qual scope s0.heap.objs.size f cdv::outer)
   ·obtain ⟨_,g,d,F⟩:=I.stack.mem m;rw [z] at d;cases d;obtain ⟨Y,S⟩:=B b o (hm.keeps b o z) F;exact ⟨_,S⟩
   ·exact ⟨o,c b o z m⟩
 have G:∀ b v,H b=some v->b∉frs (envOfC qual scope s0.heap.objs.size f cdv::outer):=fun b v z m=>by
  rw [U b m] at z;cases z
 have J:HOk P w H D:=fun a o z=>by
  refine (I.hok a o z).stay (fun b v C x=>?_) (fun _ r=>r) (fun _ _ r=>r);rcases C with rfl | C
  ·exact c _ _ x (G _ _ z)
  ·exact c _ _ x (G _ _ C)
 have p:s0.heap.get? e=none:=by
  cases z:s0.heap.get? e with
  | none=>rfl
  | some o=>
   obtain ⟨g,V⟩:=I.base.there e o z (by intro z;cases z);have:=hm.new;rw [V] at this;cases this
 refine ⟨e,cls, .ref t,_,H,rfl,I.os,I.bare,I.out rfl u,J,⟨l,i,p,fun b o z r R=>?_⟩,q⟩;have T:∃ g,s.heap.get? b=some g:=by
  rcases r with ⟨g,d⟩ | ⟨v,d⟩
  ·exact I.base.there b g d (by intro z;cases z)
  ·exact (I.hok b v d).is_there
 have O:b∉frs (envOfC qual scope s0.heap.objs.size f cdv::outer):=fun m=>by
  rcases mem_cons.mp (I.stkSub b m) with y | y
  ·rcases r with ⟨g,d⟩ | ⟨v,d⟩
   ·have M:=Heap.lt_size d;rw [y] at M;exact absurd M (Nat.lt_irrefl _)
   ·exact G b v d m
  ·exact R y
 obtain ⟨g,d⟩:=T;have x:=c b g d O;rw [show D.get? b=some o from z] at x;cases x;exact W.hideAll_get _ d O
def JiE (E:XK) (C:Addr) (ta:TA):TS:=fun _ σ H=>ta σ H fun vs H1=>vs.length<=sizeLine/\E (.ref C) none H1
theorem Jie {x:Str} {np cpos pos:Pos} {e:Expr} {es:List Expr} {C:Addr} {B newId initId:String} {bmB:List Value} {ta:TA} (FB:ExcBaseFacts B newId initId bmB) (hx:W.excIn K C bmB newId=true)
  (hg:Gl (cxOf (CX1 P w) P w K mg base N qual scope f cdv A outer s0 H0 E) x) (hm:mg x=some (.ref C)) (ha:PA (cxOf (CX1 P w) P w K mg base N qual scope f cdv A outer s0 H0 E) (e::es) ta)
  (he:starEach (e::es) (envOfC qual scope s0.heap.objs.size f cdv)=(false,eval e (envOfC qual scope s0.heap.objs.size f cdv))::starEach es (envOfC qual scope s0.heap.objs.size f cdv):=by rfl)
  (hpl:(backTo cpos (starEach es (envOfC qual scope s0.heap.objs.size f cdv))).any (·.1)=false:=by rfl) (hdb:(x == ("__debug__" : Str))=false:=by decide) :
  PS (cxOf (CX1 P w) P w K mg base N qual scope f cdv A outer s0 H0 E) (.Raise (some (.Call (.Name x np) (e::es) [] cpos)) none pos) (JiE E C ta):=by
 intro a s σ H D I h;obtain ⟨bm,m,nm,i,bs,hdct,sn,sub,ab,col,dd,k0,k1,k2,k3,k5,mN,l,d,b,T⟩:=JiV I.mod.kin hx;have j:(A.deeper (envOfC qual scope s0.heap.objs.size f cdv)).handled=none:=I.ok.hd rfl;refine wpAny_Raise_call_subT (C:=C) (nm:=nm) (q:=i) (N:=m) (bs:=bs) (bm:=bm) (hdct:=hdct) (sn:=sn) (sub:=sub) (ab:=ab) (col:=col) (dd:=dd) (k0:=k0) (k1:=k1) (k2:=k2) (k3:=k3) (k5:=k5)
  FB (mN:=mN) (T.hasType FB.hasBase) j ?_ b (Jdt I hg hm ⟨rfl,?_⟩ hdb)
 ·show (backTo cpos (starEach (e::es) (envOfC qual scope s0.heap.objs.size f cdv))).any (·.1)=false;rw [he];show (false||(backTo cpos (starEach es (envOfC qual scope s0.heap.objs.size f cdv))).any (·.1))=false;rw [hpl];rfl
 ·have z:=ha cpos a s σ H _ I h;show wpAny _ _ (evalArgs (.ref C) true (backTo cpos (starEach (e::es) (envOfC qual scope s0.heap.objs.size f cdv))) []) _ _ _;have g:=he;rw [he];refine Calls.evalArgs_plain ?_;have c:wpAny (model P w) (A.deeper (envOfC qual scope s0.heap.objs.size f cdv)) (spliced (backTo cpos (starEach (e::es) (envOfC qual scope s0.heap.objs.size f cdv)))) _ _ s:=z;rw [he] at c;refine thn c fun n o ζ=>?_;obtain ⟨p,t,I1,r,k,q⟩:=ζ;exact ⟨rfl,by rw [<- r.length];exact k,I1.bk _ _ l,d.keeps I1.bk,T.keeps I1.bk,fun u e hm=>JjO I1 hm q⟩
end
def xCall (sp:Sp) (dvs:List V) (t:TA):St->Hp->VK->XK->Prop:=fun σ H Q E=>t σ H fun vs H1=>sp (vs++dvs) H1 Q E
section
variable {X:Cx} {k:Nat} {f C:Addr} {fd:FuncData} {ps:List Str} {sp:Sp} {dvs:List V} {ds:List Value} {E:XK} {x m:Str} {p pos apos:Pos} {e o:Expr} {es:List Expr} {ta:TE} {t:TA}
end
section
variable {X:Cx} {pins:List (Addr × Obj)} {σ : St} {H H':Hp} {s s':Shared} {h' B:Heap} {ea:Addr} {cls a0:Value}
theorem Inv.track {a:Addr} {o:HO} (I:Inv X pins σ H s) (hn:H a=none) (h1:X.s₀.heap.get? a=none) (h2:a≠X.env.locals) (h3:∀ x c,X.env.cells.lookup x=some c->c≠a) (h4:∀ p∈X.pn++pins,p.1≠a)
  (ok:ObjOk X.prog X.w (upd H a o) s.heap a o):Inv X pins σ (upd H a o) s:=by
 have d:∀ b u,H b=some u->b≠a:=fun b u q=>Jaf q hn;refine ⟨I.ok,I.os,I.bare,⟨I.base.keep,I.base.slot,fun b f q n j=>?_,I.base.there,fun b g q=>?_,fun b f u q=>?_,fun b k q=>?_⟩,I.loc,I.cell,?_,fun x c e=>?_,fun p h=>?_,fun b u q=>?_,I.len⟩
 ·have : b≠a:=fun z=>by rw [z,h1] at q;cases q
  rw [Jai this];exact I.base.free b f q n j
 ·have z:=I.base.tups b g q;rw [Jai (d _ _ z)];exact z
 ·have z:=I.base.frzs b f u q;rw [Jai (d _ _ z)];exact z
 ·obtain ⟨l,z⟩:=I.base.tbls b k q;exact ⟨l,by rw [Jai (d _ _ z)];exact z⟩
 ·rw [Jai (Ne.symm h2)];exact I.free
 ·rw [Jai (h3 x c e)];exact I.freeC x c e
 ·obtain ⟨e,n,r⟩:=I.pin p h;exact ⟨e,by rw [Jai (h4 p h)];exact n,r⟩
 ·by_cases i:b=a
  ·subst i;rw [Jaq] at q;cases q;exact ok
  ·rw [Jai i] at q;exact (I.hok b u q).stay (fun _ _ _ z=>z) (fun c z=>by rw [Jai (d _ _ z)];exact z) (fun c g z=>by rw [Jai (d _ _ z)];exact z)
def ExcO (e C:Addr):HO:=.ext fun h=>∃ ox vs,h.get? e=some ox/\ox.cls=.ref C/\ox.data=.fields vs
end
structure JgK (K:W.Frag) (C D:Addr):Prop where
 cl:W.hasDictIn K D=true
 ty:W.typeIn K (.ref D)=some (.type "type")
 ex:W.mroIn K D (.type "BaseException")=some true
 ab:W.mroIn K C (.ref D)=some true
section
variable {X:Cx} {ce:Expr} {epos pos hpos np:Pos} {x n:Str} {b0:Stmt} {suite:List Stmt} {D:Addr} {t:St->Hp->VK->XK->Prop} {ts:TS}
def Jkn (K:W.Frag) (D:Addr) (i:Nat) (t:St->Hp->VK->XK->Prop) (ts:TS):TS:=fun Dn σ H=>t σ H (fun _ H1=>Dn.nx σ H1) fun cls _ H1=>∃ C,cls=.ref C/\JgK K C D /\
 ∀ ea,H1 ea=none->ts { nx:=fun σ' H'=>Dn.nx (σ'.set i none) H',rt:=Dn.rt,bk:=fun σ' H'=>Dn.bk (σ'.set i none) H',ct:=fun σ' H'=>Dn.ct (σ'.set i none) H' } (σ.set i (some (.ref ea))) (upd H1 ea (ExcO ea C))
end
inductive D where
 | non | bl (b:Bool) | int (i:Int) | str (x:Str) | tup (xs:List D) | lst (xs:List D)
mutual
def Rep (K:W.Frag) (H:Hp):D->V->Prop
 | .non,v=>v=.non
 | .bl b,v=>v=.bl b
 | .int i,v=>v=.int i
 | .str x,v=>v=.str x
 | .tup ds,v=>∃ a xs,v=.ref a/\SqT K H a xs/\RepL K H ds xs
 | .lst ds,v=>∃ a xs,v=.ref a/\SqL K H a xs/\RepL K H ds xs
def RepL (K:W.Frag) (H:Hp):List D->List V->Prop
 | [],vs=>vs=[]
 | d::ds,vs=>∃ v r,vs=v::r/\Rep K H d v/\RepL K H ds r
end
mutual
def eqD:D->D->Bool
 | .non, .non=>true
 | .bl a, .bl b=>a == b
 | .int a, .int b=>a == b
 | .bl a, .int b=>(if a then 1 else 0) == b
 | .int a, .bl b=>a == (if b then 1 else 0)
 | .str a, .str b=>a == b
 | .tup xs, .tup ys=>eqL xs ys
 | .lst xs, .lst ys=>eqL xs ys
 | _,_=>false
def eqL:List D->List D->Bool
 | [],[]=>true
 | x::xs,y::ys=>eqD x y&&eqL xs ys
 | _,_=>false
end
mutual
def depD:D->Nat
 | .tup xs=>depL xs+1
 | .lst xs=>depL xs+1
 | _=>0
def depL:List D->Nat
 | []=>0
 | x::xs=>max (depD x) (depL xs)
end
theorem Jd8:∀ {xs ys:List D},eqL xs ys=true->xs.length=ys.length
 | [],[],_=>rfl
 | [],_::_,h=>by simp [eqL] at h
 | _::_,[],h=>by simp [eqL] at h
 | x::xs,y::ys,h=>by
  simp only [eqL,Bool.and_eq_true] at h;simp only [length_cons,Jd8 h.2]
mutual
theorem JbI:∀ d:D,eqD d d=true
 | .non=>by simp [eqD]
 | .bl b=>by simp [eqD]
 | .int i=>by simp [eqD]
 | .str x=>by simp [eqD]
 | .tup xs=>by simp only [eqD];exact Jet xs
 | .lst xs=>by simp only [eqD];exact Jet xs
theorem Jet:∀ d:List D,eqL d d=true
 | []=>by simp [eqL]
 | x::xs=>by simp only [eqL,Bool.and_eq_true];exact ⟨JbI x,Jet xs⟩
end
theorem RepL.length {K:W.Frag} {H:Hp}:∀ {ds:List D} {vs:List V},RepL K H ds vs->ds.length=vs.length
 | [],vs,h=>by
  simp only [RepL] at h;rw [h];rfl
 | d::ds,vs,h=>by
  simp only [RepL] at h;obtain ⟨v,r,rfl,_,h2⟩:=h;simp only [length_cons,RepL.length h2]
theorem RepL.get {K:W.Frag} {H:Hp}:∀ {ds:List D} {vs:List V} {i:Nat} {d:D},RepL K H ds vs->ds[i]?=some d->∃ v,vs[i]?=some v/\Rep K H d v
 | [],_,_,_,_,e=>by simp at e
 | d::ds,vs,i,d',h,e=>by
  simp only [RepL] at h;obtain ⟨v,r,rfl,h1,h2⟩:=h;cases i with
  | zero=>simp at e;subst e;exact ⟨v,rfl,h1⟩
  | succ i=>
   obtain ⟨v',e',h'⟩:=RepL.get h2 (by simpa using e);exact ⟨v',by simpa using e',h'⟩
theorem SqL.same {K:W.Frag} {H H':Hp} {a:Addr} {xs:List V} (e:Same H H') (h:SqL K H a xs):SqL K H' a xs:=e.seq h
theorem SqT.same {K:W.Frag} {H H':Hp} {a:Addr} {xs:List V} (e:Same H H') (h:SqT K H a xs):SqT K H' a xs:=by
 rcases h with (h | ⟨o,h⟩) | h
 ·exact .inl (.inl (e _ _ h))
 ·exact .inl (.inr ⟨o,e _ _ h⟩)
 ·exact .inr h
mutual
theorem Rep.same {K:W.Frag} {H H':Hp} (e:Same H H'):∀ {d:D} {v:V},Rep K H d v->Rep K H' d v
 | .non,_,h=>by simpa only [Rep] using h
 | .bl _,_,h=>by simpa only [Rep] using h
 | .int _,_,h=>by simpa only [Rep] using h
 | .str _,_,h=>by simpa only [Rep] using h
 | .tup ds,_,h=>by
  simp only [Rep] at h ⊢;obtain ⟨a,xs,h1,h2,h3⟩:=h;exact ⟨a,xs,h1,h2.same e,RepL.same e h3⟩
 | .lst ds,_,h=>by
  simp only [Rep] at h ⊢;obtain ⟨a,xs,h1,h2,h3⟩:=h;exact ⟨a,xs,h1,h2.same e,RepL.same e h3⟩
theorem RepL.same {K:W.Frag} {H H':Hp} (e:Same H H'):∀ {d:List D} {v:List V},RepL K H d v->RepL K H' d v
 | [],_,h=>by simpa only [RepL] using h
 | x::xs,_,h=>by
  simp only [RepL] at h ⊢;obtain ⟨v,r,h1,h2,h3⟩:=h;exact ⟨v,r,h1,Rep.same e h2,RepL.same e h3⟩
end
section
variable {X:Cx} {pins:List (Addr × Obj)} {σ : St} {H:Hp} {s:Shared}
theorem Inv.list_tuple (I:Inv X pins σ H s) {a:Addr} {xs ys:List V} (h:SqL X.K H a xs) (h':SqT X.K H a ys):False:=by
 obtain ⟨_,_,p,_⟩:=I.list h;obtain ⟨_,_,q,_⟩:=I.tuple h';obtain ⟨o,_,e,d,_⟩:=p;obtain ⟨f,c,b,_⟩:=q;rw [e] at c;cases c;rw [d] at b;exact absurd b ⋯
mutual
theorem Inv.rep_inj (I:Inv X pins σ H s):∀ {d e:D} {v:V},Rep X.K H d v->Rep X.K H e v->d=e
 | .non,e,v,h,h'=>by
  simp only [Rep] at h;subst h;cases e <;> simp [Rep] at h' ⊢
 | .bl _,e,v,h,h'=>by
  simp only [Rep] at h;subst h;cases e <;> simp [Rep] at h' ⊢
  exact h'
 | .int _,e,v,h,h'=>by
  simp only [Rep] at h;subst h;cases e <;> simp [Rep] at h' ⊢
  exact h'
 | .str _,e,v,h,h'=>by
  simp only [Rep] at h;subst h;cases e <;> simp [Rep] at h' ⊢
  exact h'
 | .tup ds,e,v,h,h'=>by
  simp only [Rep] at h;obtain ⟨a,xs,rfl,h2,h3⟩:=h;cases e with
  | tup es=>
   simp only [Rep] at h';obtain ⟨a',ys,q,g2,g3⟩:=h';cases q;have:=I.tuple_inj h2 g2;subst this;rw [Inv.repL_inj I h3 g3]
  | lst es=>
   simp only [Rep] at h';obtain ⟨a',ys,q,g2,g3⟩:=h';cases q;exact (I.list_tuple g2 h2).elim
  | _=>simp [Rep] at h'
 | .lst ds,e,v,h,h'=>by
  simp only [Rep] at h;obtain ⟨a,xs,rfl,h2,h3⟩:=h;cases e with
  | lst es=>
   simp only [Rep] at h';obtain ⟨a',ys,q,g2,g3⟩:=h';cases q;have:=I.list_inj h2 g2;subst this;rw [Inv.repL_inj I h3 g3]
  | tup es=>
   simp only [Rep] at h';obtain ⟨a',ys,q,g2,g3⟩:=h';cases q;exact (I.list_tuple h2 g2).elim
  | _=>simp [Rep] at h'
theorem Inv.repL_inj (I:Inv X pins σ H s):∀ {d e:List D} {v:List V},RepL X.K H d v->RepL X.K H e v->d=e
 | [],e,v,h,h'=>by
  simp only [RepL] at h;subst h;cases e <;> simp [RepL] at h' ⊢
 | x::xs,e,v,h,h'=>by
  simp only [RepL] at h;obtain ⟨u,r,rfl,h1,h2⟩:=h;cases e with
  | nil=>simp [RepL] at h'
  | cons y ys=>
   simp only [RepL] at h';obtain ⟨u',r',q,g1,g2⟩:=h';cases q;rw [Inv.rep_inj I h1 g1,Inv.repL_inj I h2 g2]
end
end
def Jcu {α β : Type} (f : α->β->Bool):List α->List β->Bool
 | [],[]=>true
 | x::xs,y::ys=>f x y&&Jcu f xs ys
 | _,_=>false
def atB {α β : Type} (f : α->β->Bool) (xs:List α) (ys:List β) (j:Nat):Bool:=match xs[j]?,ys[j]? with
 | some x,some y=>f x y
 | _,_=>true
theorem Jcv {α β : Type} (f : α->β->Bool):∀ (xs:List α) (ys:List β),
  ((List.range (min xs.length ys.length)).all (atB f xs ys)&&(xs.length == ys.length))=Jcu f xs ys
 | [],[]=>by simp [Jcu]
 | [],_::_=>by simp [Jcu]
 | _::_,[]=>by simp [Jcu]
 | x::xs,y::ys=>by
  have ih:=Jcv f xs ys;simp only [Jcu,length_cons];rw [<- ih,Nat.succ_min_succ,List.range_succ_eq_map,List.all_cons,List.all_map];have e:((List.range (min xs.length ys.length)).all (atB f (x::xs) (y::ys) ∘ Nat.succ))=(List.range (min xs.length ys.length)).all (atB f xs ys):=by
   congr 1
  rw [e];have e0:atB f (x::xs) (y::ys) 0=f x y:=by unfold atB;simp
  rw [e0,Bool.and_assoc]
  congr 2
  simp
theorem JfE:∀ xs ys:List D,eqL xs ys=Jcu eqD xs ys
 | [],[]=>by simp [eqL,Jcu]
 | [],_::_=>by simp [eqL,Jcu]
 | _::_,[]=>by simp [eqL,Jcu]
 | x::xs,y::ys=>by simp only [eqL,Jcu,JfE xs ys]
theorem Jf9:∀ {ds:List D} {d:D},d∈ds->depD d<=depL ds
 | [],_,h=>by simp at h
 | x::xs,d,h=>by
  simp only [depL];rcases mem_cons.mp h with rfl | h
  ·exact Nat.le_max_left ..
  ·exact Nat.le_trans (Jf9 h) (Nat.le_max_right ..)
def flatD:D->Bool
 | .tup _=>false
 | .lst _=>false
 | _=>true
def valD:D->V
 | .bl b=>.bl b
 | .int i=>.int i
 | .str x=>.str x
 | _=>.non
theorem JeK {K:W.Frag} {H:Hp} {d:D} {v:V} (f:flatD d=true) (h:Rep K H d v):v=valD d:=by
 cases d <;> simp_all [flatD,Rep,valD]
theorem Jgb {d:D} (f:flatD d=true):flatV (valD d)=true:=by
 cases d <;> simp_all [flatD,valD,flatV]
theorem JiU {d e:D} (f:flatD d=true) (g:flatD e=true):eqV (valD d) (valD e)=eqD d e:=by
 cases d <;> cases e <;> simp_all [flatD,valD,eqV,eqD]
section
variable {X:Cx} {pins:List (Addr × Obj)} {σ : St} {H:Hp} {s:Shared}
theorem in1_units (A:Around):A.in1.units=A.units+1:=rfl
def EqP (X:Cx) (H:Hp) (s:Shared) (n:Nat):Prop:=∀ (d e:D) (A:Around) (x y:V) (u v:Value),depD d<=n->Rep X.K H d x->Rep X.K H e y->RelV x u->RelV y v->A.units+n<cLine->SeqAt.EqAt A s u v (eqD d e)
theorem Jge {n:Nat} (ih:EqP X H s n) {ds es:List D} {xs ys:List V} {its jts:List Value} (h3:RepL X.K H ds xs) (g3:RepL X.K H es ys) (vi:Vals xs its) (vj:Vals ys jts) (hds:depL ds<=n) {A:Around} (hA:A.units+n<cLine) :
  ∀ j (p1:j<its.toArray.size) (p2:j<jts.toArray.size),SeqAt.EqAt A s its.toArray[j] jts.toArray[j] (atB eqD ds es j):=by
 intro j p1 p2;have l:its.length=ds.length:=by rw [h3.length,vi.length]
 have c:jts.length=es.length:=by rw [g3.length,vj.length]
 have a:j<ds.length:=by rw [<- l];simpa using p1
 have b:j<es.length:=by rw [<- c];simpa using p2
 obtain ⟨v,m,g⟩:=h3.get (List.getElem?_eq_getElem a);obtain ⟨u,h,r⟩:=g3.get (List.getElem?_eq_getElem b);obtain ⟨e,q,k⟩:=vi.get m;obtain ⟨o,t,f⟩:=vj.get h;have i:its.toArray[j]=e:=by
  have:=q;rw [List.getElem?_eq_getElem (by simpa using p1)] at this;simpa using this
 have d:jts.toArray[j]=o:=by
  have:=t;rw [List.getElem?_eq_getElem (by simpa using p2)] at this;simpa using this
 rw [i,d];have p:atB eqD ds es j=eqD ds[j] es[j]:=by
  unfold atB;rw [List.getElem?_eq_getElem a,List.getElem?_eq_getElem b]
 rw [p];exact ih _ _ _ _ _ _ _ (Nat.le_trans (Jf9 (List.getElem_mem a)) hds) g r k f hA
theorem Jkq (I:Inv X pins σ H s) {n:Nat} (ih:EqP X H s n) {ds es:List D} {a b:Addr} {xs ys:List V} (h2:SqT X.K H a xs) (h3:RepL X.K H ds xs) (g2:SqT X.K H b ys) (g3:RepL X.K H es ys) (hds:depL ds<=n) {A:Around} (hA:A.units+(n+1)<cLine) :
  SeqAt.RcAt A s (.ref a) (.ref b) (eqD (.tup ds) (.tup es))/\SeqAt.RcNeAt A s (.ref a) (.ref b) (!eqD (.tup ds) (.tup es)):=by
 obtain ⟨d,g,f,_⟩:=I.tuple h2;obtain ⟨c,h,e,_⟩:=I.tuple g2;have l:d.length=ds.length:=by rw [h3.length,g.length]
 have j:c.length=es.length:=by rw [g3.length,h.length]
 have i:=Jge ih h3 g3 g h hds (A:=A.in1) (by rw [in1_units];ac_nf);have k:eqD (.tup ds) (.tup es)=((List.range (min d.toArray.size c.toArray.size)).all (atB eqD ds es)&&d.toArray.size == c.toArray.size):=by
  simp only [eqD,JfE];rw [<- Jcv];simp only [size_toArray,l,j]
 rw [k];exact ⟨SeqAt.RcAt.tuples f e ∅ i,SeqAt.RcNeAt.tuples f e ∅ i⟩
theorem JjP (I:Inv X pins σ H s) {n:Nat} (ih:EqP X H s n) {ds es:List D} {a b:Addr} {xs ys:List V} (h2:SqL X.K H a xs) (h3:RepL X.K H ds xs) (g2:SqL X.K H b ys) (g3:RepL X.K H es ys) (hds:depL ds<=n) {A:Around} (hA:A.units+(n+1)<cLine) :
  SeqAt.RcAt A s (.ref a) (.ref b) (eqD (.lst ds) (.lst es))/\SeqAt.RcNeAt A s (.ref a) (.ref b) (!eqD (.lst ds) (.lst es)):=by
 obtain ⟨d,k,h,_⟩:=I.list h2;obtain ⟨i,m,g,_⟩:=I.list g2;have e:d.length=ds.length:=by rw [h3.length,k.length]
 have f:i.length=es.length:=by rw [g3.length,m.length]
 have l:=Jge ih h3 g3 k m hds (A:=A.in1) (by rw [in1_units];ac_nf);by_cases c:ds.length=es.length
 ·have j:eqD (.lst ds) (.lst es)=(List.range d.toArray.size).all (atB eqD ds es):=by
   simp only [eqD,JfE];rw [<- Jcv];simp [e,c]
  rw [j];exact ⟨SeqAt.RcAt.lists h.isList g.isList (by simp [e,f,c]) ∅ l,SeqAt.RcNeAt.lists h.isList g.isList (by simp [e,f,c]) ∅ l⟩
 ·have j:eqD (.lst ds) (.lst es)=false:=by
   cases q:eqD (.lst ds) (.lst es) with
   | false=>rfl
   | true=>simp only [eqD] at q;exact absurd (Jd8 q) c
  rw [j];exact ⟨SeqAt.RcAt.lists_lengths h.isList g.isList (by simp [e,f,c]) ∅,SeqAt.RcNeAt.lists_lengths h.isList g.isList (by simp [e,f,c]) ∅⟩
theorem JcF {K:W.Frag} {d:D} {x:V} (h:Rep K H d x):(flatD d=true/\x=valD d)\/(∃ ds a xs,d=.tup ds/\x=.ref a/\SqT K H a xs/\RepL K H ds xs)\/∃ ds a xs,d=.lst ds/\x=.ref a/\SqL K H a xs/\RepL K H ds xs:=by
 cases d with
 | tup ds=>simp only [Rep] at h;obtain ⟨a,xs,b,e,c⟩:=h;exact .inr (.inl ⟨ds,a,xs,rfl,b,e,c⟩)
 | lst ds=>simp only [Rep] at h;obtain ⟨a,xs,b,e,c⟩:=h;exact .inr (.inr ⟨ds,a,xs,rfl,b,e,c⟩)
 | _=>exact .inl ⟨rfl,JeK rfl h⟩
theorem Jcx (I:Inv X pins σ H s) {d e:D} {x y:V} {u v:Value} (hd:Rep X.K H d x) (he:Rep X.K H e y) (ru:RelV x u) (rv:RelV y v) (m:flatD d=!flatD e) {A:Around} (hA:A.units<cLine) :
  eqD d e=false/\SeqAt.EqAt A s u v false/\SeqAt.RcAt A s u v false/\SeqAt.RcNeAt A s u v true:=by
 rcases JcF hd with ⟨fd,rfl⟩ | ⟨ds,a,xs,rfl,rfl,h2,h3⟩ | ⟨ds,a,xs,rfl,rfl,h2,h3⟩
 ·rcases JcF he with ⟨fe,rfl⟩ | ⟨es,b,ys,rfl,rfl,g2,g3⟩ | ⟨es,b,ys,rfl,rfl,g2,g3⟩
  ·rw [fd,fe] at m;cases m
  ·obtain rfl:v=Value.ref b:=rv;obtain ⟨f,g,c,_⟩:=I.tuple g2;refine ⟨by cases d <;> simp [eqD,flatD] at fd ⊢,?_⟩;cases d <;> simp only [valD,RelV] at ru <;> first | (simp [flatD] at fd;done) | skip
   ·subst ru;exact ⟨SeqAt.EqAt.none_tuple c hA,SeqAt.RcAt.none_tuple c hA,SeqAt.RcNeAt.none_tuple c hA⟩
   ·subst ru;exact ⟨SeqAt.EqAt.bool_tuple _ c hA,SeqAt.RcAt.bool_tuple _ c hA,SeqAt.RcNeAt.bool_tuple _ c hA⟩
   ·obtain ⟨t,rfl⟩:=ru;exact ⟨SeqAt.EqAt.int_tuple _ _ c hA,SeqAt.RcAt.int_tuple _ _ c hA,SeqAt.RcNeAt.int_tuple _ _ c hA⟩
   ·obtain ⟨t,rfl⟩:=ru;exact ⟨SeqAt.EqAt.str_tuple _ _ c hA,SeqAt.RcAt.str_tuple _ _ c hA,SeqAt.RcNeAt.str_tuple _ _ c hA⟩
  ·obtain rfl:v=Value.ref b:=rv;obtain ⟨f,g,c,_⟩:=I.list g2;have c:=c.isList;refine ⟨by cases d <;> simp [eqD,flatD] at fd ⊢,?_⟩;cases d <;> simp only [valD,RelV] at ru <;> first | (simp [flatD] at fd;done) | skip
   ·subst ru;exact ⟨SeqAt.EqAt.none_list c hA,SeqAt.RcAt.none_list c hA,SeqAt.RcNeAt.none_list c hA⟩
   ·subst ru;exact ⟨SeqAt.EqAt.bool_list _ c hA,SeqAt.RcAt.bool_list _ c hA,SeqAt.RcNeAt.bool_list _ c hA⟩
   ·obtain ⟨t,rfl⟩:=ru;exact ⟨SeqAt.EqAt.int_list _ _ c hA,SeqAt.RcAt.int_list _ _ c hA,SeqAt.RcNeAt.int_list _ _ c hA⟩
   ·obtain ⟨t,rfl⟩:=ru;exact ⟨SeqAt.EqAt.str_list _ _ c hA,SeqAt.RcAt.str_list _ _ c hA,SeqAt.RcNeAt.str_list _ _ c hA⟩
 ·rcases JcF he with ⟨fe,rfl⟩ | ⟨es,b,ys,rfl,rfl,g2,g3⟩ | ⟨es,b,ys,rfl,rfl,g2,g3⟩
  ·obtain rfl:u=Value.ref a:=ru;obtain ⟨f,g,c,_⟩:=I.tuple h2;refine ⟨by cases e <;> simp [eqD,flatD] at fe ⊢,?_⟩;cases e <;> simp only [valD,RelV] at rv <;> first | (simp [flatD] at fe;done) | skip
   ·subst rv;exact ⟨SeqAt.EqAt.tuple_none c hA,SeqAt.RcAt.tuple_none c hA,SeqAt.RcNeAt.tuple_none c hA⟩
   ·subst rv;exact ⟨SeqAt.EqAt.tuple_bool _ c hA,SeqAt.RcAt.tuple_bool _ c hA,SeqAt.RcNeAt.tuple_bool _ c hA⟩
   ·obtain ⟨t,rfl⟩:=rv;exact ⟨SeqAt.EqAt.tuple_int _ _ c hA,SeqAt.RcAt.tuple_int _ _ c hA,SeqAt.RcNeAt.tuple_int _ _ c hA⟩
   ·obtain ⟨t,rfl⟩:=rv;exact ⟨SeqAt.EqAt.tuple_str _ _ c hA,SeqAt.RcAt.tuple_str _ _ c hA,SeqAt.RcNeAt.tuple_str _ _ c hA⟩
  ·simp [flatD] at m
  ·simp [flatD] at m
 ·rcases JcF he with ⟨fe,rfl⟩ | ⟨es,b,ys,rfl,rfl,g2,g3⟩ | ⟨es,b,ys,rfl,rfl,g2,g3⟩
  ·obtain rfl:u=Value.ref a:=ru;obtain ⟨f,g,c,_⟩:=I.list h2;have c:=c.isList;refine ⟨by cases e <;> simp [eqD,flatD] at fe ⊢,?_⟩;cases e <;> simp only [valD,RelV] at rv <;> first | (simp [flatD] at fe;done) | skip
   ·subst rv;exact ⟨SeqAt.EqAt.list_none c hA,SeqAt.RcAt.list_none c hA,SeqAt.RcNeAt.list_none c hA⟩
   ·subst rv;exact ⟨SeqAt.EqAt.list_bool _ c hA,SeqAt.RcAt.list_bool _ c hA,SeqAt.RcNeAt.list_bool _ c hA⟩
   ·obtain ⟨t,rfl⟩:=rv;exact ⟨SeqAt.EqAt.list_int _ _ c hA,SeqAt.RcAt.list_int _ _ c hA,SeqAt.RcNeAt.list_int _ _ c hA⟩
   ·obtain ⟨t,rfl⟩:=rv;exact ⟨SeqAt.EqAt.list_str _ _ c hA,SeqAt.RcAt.list_str _ _ c hA,SeqAt.RcNeAt.list_str _ _ c hA⟩
  ·simp [flatD] at m
  ·simp [flatD] at m
theorem seq_eq (I:Inv X pins σ H s) {n:Nat} (ih:EqP X H s n) {d e:D} {x y:V} {u v:Value} (hn:depD d<=n+1) (hd:Rep X.K H d x) (he:Rep X.K H e y) (ru:RelV x u) (rv:RelV y v) (fd:flatD d=false) (fe:flatD e=false) {A:Around} (hA:A.units+(n+1)<cLine) :
  SeqAt.EqAt A s u v (eqD d e)/\SeqAt.RcAt A s u v (eqD d e)/\SeqAt.RcNeAt A s u v (!eqD d e):=by
 have j:=hd;have k:=he;rcases JcF hd with ⟨f,_⟩ | ⟨ds,a,xs,rfl,rfl,h2,h3⟩ | ⟨ds,a,xs,rfl,rfl,h2,h3⟩
 ·rw [f] at fd;cases fd
 ·obtain rfl:u=Value.ref a:=ru;have i:depL ds<=n:=by simp only [depD] at hn;ac_nf
  rcases JcF he with ⟨f,_⟩ | ⟨es,b,ys,rfl,rfl,g2,g3⟩ | ⟨es,b,ys,rfl,rfl,g2,g3⟩
  ·rw [f] at fe;cases fe
  ·obtain rfl:v=Value.ref b:=rv;have R:=Jkq I ih h2 h3 g2 g3 i hA;refine ⟨?_,R.1,R.2⟩;by_cases c:a=b
   ·subst c;rw [I.rep_inj j k,JbI];exact SeqAt.EqAt.same _
   ·exact SeqAt.EqAt.of_refs c R.1
  ·obtain rfl:v=Value.ref b:=rv;obtain ⟨m,_,h,_⟩:=I.tuple h2;obtain ⟨l,_,g,_⟩:=I.list g2;exact ⟨SeqAt.EqAt.tuple_list h g.isList ∅,SeqAt.RcAt.tuple_list h g.isList ∅,SeqAt.RcNeAt.tuple_list h g.isList ∅⟩
 ·obtain rfl:u=Value.ref a:=ru;have i:depL ds<=n:=by simp only [depD] at hn;ac_nf
  rcases JcF he with ⟨f,_⟩ | ⟨es,b,ys,rfl,rfl,g2,g3⟩ | ⟨es,b,ys,rfl,rfl,g2,g3⟩
  ·rw [f] at fe;cases fe
  ·obtain rfl:v=Value.ref b:=rv;obtain ⟨m,_,h,_⟩:=I.list h2;obtain ⟨l,_,g,_⟩:=I.tuple g2;exact ⟨SeqAt.EqAt.list_tuple h.isList g ∅,SeqAt.RcAt.list_tuple h.isList g ∅,SeqAt.RcNeAt.list_tuple h.isList g ∅⟩
  ·obtain rfl:v=Value.ref b:=rv;have R:=JjP I ih h2 h3 g2 g3 i hA;refine ⟨?_,R.1,R.2⟩;by_cases c:a=b
   ·subst c;rw [I.rep_inj j k,JbI];exact SeqAt.EqAt.same _
   ·exact SeqAt.EqAt.of_refs c R.1
theorem Inv.eqP (I:Inv X pins σ H s):∀ n,EqP X H s n
 | 0=>fun d e A x y u v hn hd he ru rv hA=>by
  have fd:flatD d=true:=by
   cases d <;> simp [depD,flatD] at hn ⊢
  cases fe:flatD e with
  | true=>
   have ex:=JeK fd hd;have ey:=JeK fe he;subst ex ey;rw [<- JiU fd fe];exact Jiv ru rv (Jgb fd) (Jgb fe)
  | false=>
   obtain ⟨e1,e2,_⟩:=Jcx I hd he ru rv (by rw [fd,fe];rfl) (A:=A) ∅;rw [e1];exact e2
 | n+1=>fun d e A x y u v hn hd he ru rv hA=>by
  cases fd:flatD d with
  | true=>
   have h0:depD d<=n:=by cases d <;> simp [depD,flatD] at fd ⊢
   exact Inv.eqP I n d e A x y u v h0 hd he ru rv ∅
  | false=>
   cases fe:flatD e with
   | true=>
    obtain ⟨e1,e2,_⟩:=Jcx I hd he ru rv (by rw [fd,fe];rfl) (A:=A) ∅;rw [e1];exact e2
   | false=>exact (seq_eq I (Inv.eqP I n) hn hd he ru rv fd fe hA).1
def rEqU (K:W.Frag):R2:=fun x y H Q=>match x,y with
 | .int i, .int j=>Q (.bl (decide (i=j))) H
 | .str i, .str j=>Q (.bl (decide (i=j))) H
 | .bl i, .bl j=>Q (.bl (decide (i=j))) H
 | .non, .non=>Q (.bl true) H
 | x,y=>∃ d e,Rep K H d x/\Rep K H e y/\depD d<=50/\(flatD d&&flatD e)=false/\Q (.bl (eqD d e)) H
def rNeU (K:W.Frag):R2:=fun x y H Q=>match x,y with
 | .int i, .int j=>Q (.bl (!decide (i=j))) H
 | .str i, .str j=>Q (.bl (!decide (i=j))) H
 | .bl i, .bl j=>Q (.bl (!decide (i=j))) H
 | .non, .non=>Q (.bl false) H
 | x,y=>∃ d e,Rep K H d x/\Rep K H e y/\depD d<=50/\(flatD d&&flatD e)=false/\Q (.bl (!eqD d e)) H
theorem JcP (hu:X.A.units+64<cLine):OpR X (compareOp .Eq) (rEqU X.K):=fun a s σ H x y v u Q I c b q=>by
 unfold rEqU at q;split at q
 ·rename_i i j;exact op_eq a s σ H _ _ v u Q I c b ⟨rfl,by rw [show decide (V.int i=V.int j)=decide (i=j) from by simp];exact q⟩
 ·rename_i i j;exact op_eq a s σ H _ _ v u Q I c b ⟨rfl,by rw [show decide (V.str i=V.str j)=decide (i=j) from by simp];exact q⟩
 ·rename_i i j;exact op_eq a s σ H _ _ v u Q I c b ⟨rfl,by rw [show decide (V.bl i=V.bl j)=decide (i=j) from by simp];exact q⟩
 ·exact op_eq a s σ H _ _ v u Q I c b ⟨rfl,by simpa using q⟩
 ·obtain ⟨d,e,h,k,m,l,q⟩:=q;show wpAny (model X.prog X.w) X.A (richCompare .Eq v u) (EP X a σ Q) X.xe s;cases fd:flatD d with
  | true=>
   cases fe:flatD e with
   | true=>rw [fd,fe] at l;cases l
   | false=>
    obtain ⟨f,_,g,_⟩:=Jcx I h k c b (by rw [fd,fe];rfl) (A:=X.A) ∅;rw [f] at q;exact g _ _ _ _ ⟨V.bl _,H,I,rfl,q⟩
  | false=>
   cases fe:flatD e with
   | true=>
    obtain ⟨f,_,g,_⟩:=Jcx I h k c b (by rw [fd,fe];rfl) (A:=X.A) ∅;rw [f] at q;exact g _ _ _ _ ⟨V.bl _,H,I,rfl,q⟩
   | false=>exact (seq_eq I (I.eqP 49) m h k c b fd fe ∅).2.1 _ _ _ _ ⟨V.bl _,H,I,rfl,q⟩
theorem Jck (hu:X.A.units+64<cLine):OpR X (compareOp .NotEq) (rNeU X.K):=fun a s σ H x y v u Q I c b q=>by
 unfold rNeU at q;split at q
 ·rename_i i j;exact op_ne a s σ H _ _ v u Q I c b ⟨rfl,by rw [show decide (V.int i=V.int j)=decide (i=j) from by simp];exact q⟩
 ·rename_i i j;exact op_ne a s σ H _ _ v u Q I c b ⟨rfl,by rw [show decide (V.str i=V.str j)=decide (i=j) from by simp];exact q⟩
 ·rename_i i j;exact op_ne a s σ H _ _ v u Q I c b ⟨rfl,by rw [show decide (V.bl i=V.bl j)=decide (i=j) from by simp];exact q⟩
 ·exact op_ne a s σ H _ _ v u Q I c b ⟨rfl,by simpa using q⟩
 ·obtain ⟨d,e,h,k,m,l,q⟩:=q;show wpAny (model X.prog X.w) X.A (richCompare .NotEq v u) (EP X a σ Q) X.xe s;cases fd:flatD d with
  | true=>
   cases fe:flatD e with
   | true=>rw [fd,fe] at l;cases l
   | false=>
    obtain ⟨f,_,_,g⟩:=Jcx I h k c b (by rw [fd,fe];rfl) (A:=X.A) ∅;rw [f] at q;exact g _ _ _ _ ⟨V.bl _,H,I,rfl,q⟩
  | false=>
   cases fe:flatD e with
   | true=>
    obtain ⟨f,_,_,g⟩:=Jcx I h k c b (by rw [fd,fe];rfl) (A:=X.A) ∅;rw [f] at q;exact g _ _ _ _ ⟨V.bl _,H,I,rfl,q⟩
   | false=>exact (seq_eq I (I.eqP 49) m h k c b fd fe ∅).2.2 _ _ _ _ ⟨V.bl _,H,I,rfl,q⟩
end
def DivOk (j:Int):Prop:=j≠0/\j.natAbs.log2<9000
section
variable {X:Cx}
def rAddU (K:W.Frag):R2:=fun x y H Q=>match x,y with
 | .int i, .int j=>Q (.int (i+j)) H
 | .str i, .str j=>i.length+j.length<=sizeLine/\Q (.str (i++j)) H
 | .ref a, .ref b=>rCat (.ref a) (.ref b) H Q\/rCatT K (.ref a) (.ref b) H Q
 | _,_=>False
theorem JaP:OpR X (binaryOp .Add) (rAddU X.K):=fun a s σ H x y v u Q I c b q=>by
 unfold rAddU at q;split at q
 ·exact JjU a s σ H _ _ v u Q I c b ⟨_,_,rfl,rfl,q⟩
 ·exact JgD a s σ H _ _ v u Q I c b ⟨_,_,rfl,rfl,q.1,q.2⟩
 ·rcases q with q | q
  ·exact JjV a s σ H _ _ v u Q I c b q
  ·exact Jjb a s σ H _ _ v u Q I c b q
 ·exact q.elim
def rMulU:R2:=fun x y H Q=>match x,y with
 | .int i, .int j=>IntMulOk i j/\Q (.int (i*j)) H
 | _,_=>False
theorem Jjd:OpR X (binaryOp .Mult) (rI IntMulOk fun i j=>.int (i*j)):=opI fun _ _ _ _ _ _ _ a q=>mul_int q a
theorem Jje:OpR X (binaryOp .Mult) rMulU:=fun a s σ H x y v u Q I c b q=>by
 unfold rMulU at q;split at q
 ·exact Jjd a s σ H _ _ v u Q I c b ⟨_,_,rfl,rfl,q.1,q.2⟩
 ·exact q.elim
def JhD:R2:=fun x y H Q=>match x,y with
 | .int i, .int j=>DivOk j/\Q (.int (i.fdiv j)) H
 | _,_=>False
theorem Jia:OpR X (binaryOp .FloorDiv) (rI (fun _ j=>DivOk j) fun i j=>.int (i.fdiv j)):=opI fun _ _ _ _ _ _ _ a q=>floordiv_int a.1 q (.inl (PyProof.noPylong_of_log2 a.2))
theorem Jaw:OpR X (binaryOp .FloorDiv) JhD:=fun a s σ H x y v u Q I c b q=>by
 unfold JhD at q;split at q
 ·exact Jia a s σ H _ _ v u Q I c b ⟨_,_,rfl,rfl,q.1,q.2⟩
 ·exact q.elim
def rModU:R2:=fun x y H Q=>match x,y with
 | .int i, .int j=>j≠0/\Q (.int (i.fmod j)) H
 | _,_=>False
theorem JaC:OpR X (binaryOp .Mod) rModU:=fun a s σ H x y v u Q I c b q=>by
 unfold rModU at q;split at q
 ·exact Jjc a s σ H _ _ v u Q I c b ⟨_,_,rfl,rfl,q.1,q.2⟩
 ·exact q.elim
def rPowU:R2:=fun x y H Q=>match x,y with
 | .int i, .int j=>CPow i j/\Q (.int (i ^ j.toNat)) H
 | _,_=>False
theorem Jhw:OpR X (binaryOp .Pow) rPowU:=fun a s σ H x y v u Q I c b q=>by
 unfold rPowU at q;split at q
 ·exact Jj0 a s σ H _ _ v u Q I c b ⟨_,_,rfl,rfl,q.1,q.2⟩
 ·exact q.elim
def rCmpU (p:Int->Int->Bool):R2:=fun x y H Q=>match x,y with
 | .int i, .int j=>Q (.bl (p i j)) H
 | _,_=>False
theorem JfP {op:CmpOp} {p:Int->Int->Bool} (h:OpR X (compareOp op) (rI0 fun i j=>.bl (p i j))):OpR X (compareOp op) (rCmpU p):=fun a s σ H x y v u Q I c b q=>by
 unfold rCmpU at q;split at q
 ·exact h a s σ H _ _ v u Q I c b ⟨_,_,rfl,rfl,q⟩
 ·exact q.elim
theorem Jfg:OpR X (compareOp .Lt) (rCmpU fun i j=>decide (i<j)):=JfP op_lt
theorem Jhs:OpR X (compareOp .Gt) (rCmpU fun i j=>decide (j<i)):=JfP op_gt
theorem JjW:OpR X (compareOp .GtE) (rCmpU fun i j=>decide (j<=i)):=JfP op_ge
def SqA (K:W.Frag) (H:Hp) (a:Addr) (xs:List V):Prop:=SqL K H a xs\/SqT K H a xs
def rIxU (K:W.Frag):R2:=fun x y H Q=>match x,y with
 | .ref p, .int i=>∃ xs v,SqA K H p xs/\atI xs i=some v/\Q v H
 | .str z, .int i=>∃ c,z.length<=sizeLine/\atI z.cps.toList i=some c/\Q (.str ⟨#[c]⟩) H
 | _,_=>False
theorem ix_U:IxR X (rIxU X.K):=fun a b d s σ H x y v u Q I i g q f=>by
 unfold rIxU at q;split at q
 ·obtain ⟨l,w,h | h,e,q⟩:=q
  ·exact JiY a b d s σ H _ _ v u Q I i g ⟨_,_,_,_,rfl,rfl,h,e,q⟩ f
  ·exact JjJ a b d s σ H _ _ v u Q I i g ⟨_,_,_,_,rfl,rfl,h,e,q⟩ f
 ·obtain ⟨c,j,k,q⟩:=q;exact JjI a b d s σ H _ _ v u Q I i g ⟨_,_,_,rfl,rfl,j,k,q⟩ f
 ·exact q.elim
def rLen (K:W.Frag):List V->Hp->VK->Prop:=fun xs H Q=>match xs with
 | [.ref p]=>∃ ys,SqA K H p ys/\Q (.int ys.length) H
 | [.str z]=>z.length<=sizeLine/\Q (.int z.length) H
 | _=>False
theorem JaH:CallR X (.builtin "len") (rLen X.K):=fun a s σ H c b Q I r q=>by
 unfold rLen at q;split at q
 ·obtain ⟨d,h,q⟩:=q;exact JeX a s σ H _ b Q I r ⟨_,_,rfl,h,q⟩
 ·exact JeY a s σ H _ b Q I r ⟨_,rfl,q.1,q.2⟩
 ·exact q.elim
def rAbs:List V->Hp->VK->Prop:=fun xs H Q=>match xs with
 | [.int i]=>Q (.int (if i<0 then -i else i)) H
 | _=>False
theorem JcL:CallR X (.builtin "abs") rAbs:=fun a s σ H c b Q I r q=>by
 unfold rAbs at q;split at q
 ·exact JhR a s σ H _ b Q I r ⟨_,rfl,q⟩
 ·exact q.elim
def rMin:List V->Hp->VK->Prop:=fun xs H Q=>match xs with
 | [.int i, .int j]=>Q (.int (if j<i then j else i)) H
 | _=>False
def rSlU (K:W.Frag):V->Option Int->Option Int->Hp->VK->Prop:=fun x lo hi H Q=>rSlL K x lo hi H Q\/rSlT K x lo hi H Q
theorem sl_U:SlR X (rSlU X.K):=SlR.or Jjr Jkf
def isiB (t T:String):Bool:=t == T||(t == "bool"&&T == "int")
def tyN (K:W.Frag) (H:Hp) (x:V) (t:String):Prop:=match x with
 | .int _=>t="int"
 | .str _=>t="str"
 | .bl _=>t="bool"
 | .non=>t="NoneType"
 | .ref a=>(t="list"/\∃ xs,SqL K H a xs)\/(t="tuple"/\∃ xs,SqT K H a xs)
 | _=>False
theorem kit_b (K:W.Frag) {t T:String} (ht:t∈["int","str","bool","NoneType","list","tuple"]) (hT:T∈["int","str","bool","list","tuple"]):W.kitOne K (.type t) (.type T)=some (isiB t T):=by
 simp only [mem_cons,List.not_mem_nil,or_false] at ht hT;rcases ht with rfl | rfl | rfl | rfl | rfl | rfl <;> rcases hT with rfl | rfl | rfl | rfl | rfl <;> with_unfolding_all rfl
def rIsi (K:W.Frag):List V->Hp->VK->Prop:=fun xs H Q=>match xs with
 | [x, .ty T]=>T∈["int","str","bool","list","tuple"]/\∃ t,tyN K H x t/\Q (.bl (isiB t T)) H
 | _=>False
theorem JaB:CallR X (.builtin "isinstance") (rIsi X.K):=fun g s σ H v n Q I r q=>by
 unfold rIsi at q;split at q
 ·rename_i x T;obtain ⟨e,t,d,q⟩:=q;obtain ⟨u,c,rfl,f,m⟩:=vals2 r;obtain rfl:c=Value.type T:=m;have b:∀ j,EP X g σ Q (.bool (isiB t T)) { s with toks:=j }:=fun j=>⟨V.bl _,H,I.tok j,rfl,q⟩;unfold tyN at d;split at d
  ·subst d;obtain ⟨_,rfl⟩:=f;exact W.kia_one W.kitx_int I.kIn True.intro (kit_b _ ⋯ e) (fun z=>nomatch z) b
  ·subst d;obtain ⟨_,rfl⟩:=f;exact W.kia_one W.kitx_str I.kIn True.intro (kit_b _ ⋯ e) (fun z=>nomatch z) b
  ·subst d;cases (show u=Value.bool _ from f);exact W.kia_one W.kitx_bool I.kIn True.intro (kit_b _ ⋯ e) (fun z=>nomatch z) b
  ·subst d;cases (show u=Value.none from f);exact W.kia_one W.kitx_none I.kIn True.intro (kit_b _ ⋯ e) (fun z=>nomatch z) b
  ·rename_i a;cases (show u=Value.ref a from f);rcases d with ⟨rfl,ys,h⟩ | ⟨rfl,ys,h⟩
   ·obtain ⟨k,_,p,_⟩:=I.list h;obtain ⟨o,_,i,l,_⟩:=p;exact W.kia_one W.kitx_list I.kIn ⟨o,i,l⟩ (kit_b _ ⋯ e) (fun z=>nomatch z) b
   ·obtain ⟨k,_,p,_⟩:=I.tuple h;obtain ⟨o,i,l,_⟩:=p;exact W.kia_one W.kitx_tuple I.kIn ⟨o,i,l⟩ (kit_b _ ⋯ e) (fun z=>nomatch z) b
  ·exact d.elim
 ·exact q.elim
end
section
variable {X:Cx} {tg:Expr}
def iAny (K:W.Frag) (tl:TE):TI:=fun σ H R=>tl σ H fun x H1=>∃ a,x=.ref a/\(((∃ xs,SqL K H1 a xs)/\R (Itl K a) H1)\/((∃ xs,SqT K H1 a xs)/\R (Itt K a) H1))
theorem pi_U {l:Expr} {tl:TE} (hl:PE X l tl):PI X tg l (iAny X.K tl):=fun f s σ H R I h=>by
 refine thn (hl f s σ H _ I h) fun v c ζ=>?_;obtain ⟨x,i,I1,j,a,n,q⟩:=ζ;subst n;cases j;rcases q with ⟨⟨xs,hq⟩,q⟩ | ⟨⟨xs,hq⟩,q⟩
 ·obtain ⟨d,m,p,k⟩:=I1.list hq;refine wpAny_pyIter_list p.isList ?_;refine ⟨c.heap.objs.size,[c.heap.objs.size],_,_,i,rfl,I1.kept (t':=c.toks) fun b o e=>Heap.get?_push_of_some _ e,JhP a _,⟨_,Heap.get?_push_size _ rfl,rfl,rfl⟩,fun b g=>?_,q⟩;have e:b=c.heap.objs.size:=by simpa using g
  subst e;exact I1.fpOk (Nat.le_refl _) (I1.hok.fresh (Nat.le_refl _))
 ·obtain ⟨d,m,p,k⟩:=I1.tuple hq;refine wpAny_pyIter_tuple (show c.heap.IsTuple a d.toArray from p) ?_;refine ⟨c.heap.objs.size,[c.heap.objs.size],_,_,i,rfl,I1.kept (t':=c.toks) fun b o e=>Heap.get?_push_of_some _ e,JgJ a _,⟨_,Heap.get?_push_size _ rfl,rfl,rfl⟩,fun b g=>?_,q⟩;have e:b=c.heap.objs.size:=by simpa using g
  subst e;exact I1.fpOk (Nat.le_refl _) (I1.hok.fresh (Nat.le_refl _))
end
structure FunD (K:W.Frag) (x qual:Str) (st:Stmt) (dV:Value) (f:Addr) (fd:FuncData):Prop where
 ex:∃ (oc:Value) (od:Option Addr) (kV doc pm:Value) (an:Option Addr) (cdv ct:Value) (osl:Array (Option Value)),
  fd=W.fnOf x qual (Jal st) (Jak st) (Jac st) dV kV doc pm an cdv ct/\K.lookup f=some ⟨oc,od, .func fd,osl⟩/\W.codeIn K cdv qual=true
 kp:W.keepIn K (.ref f)=true
section
variable {P:Program} {w:World} {K:W.Frag} {mg:Str->Option Value} {base:Heap}
theorem FunD.okn {x qual:Str} {st:Stmt} {dV:Value} {f:Addr} {fd:FuncData} {N ps:List Str} {k:Nat} {sp:Sp} (F:FunD K x qual st dV f fd) (S:Jan N ps (Jac st)) (len:∀ vs H Q E,sp vs H Q E->vs.length=ps.length)
  (hbody:∀ (cdv:Value) (A:Around) (outer:List Env) (s:Shared) (H:Hp) (vs:List V) (Q:VK) (E:XK),Room k (A.deeper (envOfC qual (Jac st) s.heap.objs.size f cdv))->sp vs H Q E ->
   ∃ t,PSs (cxOf (CX1 P w) P w K mg base N qual (Jac st) f cdv A outer s H E).nox (Jak st) t/\t { nx:=fun _ H'=>Q .non H',rt:=Q } (start N vs) H):FnOk P w K mg base (CX1 P w) (k+1) f fd ps sp:=by
 obtain ⟨m,g,kV,c,j,i,cdv,l,e,rfl,lk,a⟩:=F.ex;refine fn_of lk a S len fun A outer s H vs Q E d b=>?_;obtain ⟨t,h,q⟩:=hbody cdv A outer s H vs Q E d b;exact ⟨t,h.nox,q⟩
theorem FunD.okx {x qual:Str} {st:Stmt} {dV:Value} {f:Addr} {fd:FuncData} {N ps:List Str} {k:Nat} {sp:Sp} (F:FunD K x qual st dV f fd) (S:Jan N ps (Jac st)) (len:∀ vs H Q E,sp vs H Q E->vs.length=ps.length)
  (hbody:∀ (cdv:Value) (A:Around) (outer:List Env) (s:Shared) (H:Hp) (vs:List V) (Q:VK) (E:XK),Room k (A.deeper (envOfC qual (Jac st) s.heap.objs.size f cdv))->sp vs H Q E ->
   ∃ t,PSs (cxOf (CX1 P w) P w K mg base N qual (Jac st) f cdv A outer s H E) (Jak st) t/\t { nx:=fun _ H'=>Q .non H',rt:=Q } (start N vs) H):FnOk P w K mg base (CX1 P w) (k+1) f fd ps sp:=by
 obtain ⟨i,g,kV,d,j,h,cdv,l,c,rfl,lk,a⟩:=F.ex;exact fn_of lk a S len fun A outer s H vs Q E e b=>hbody cdv A outer s H vs Q E e b
theorem FunD.binds {x qual:Str} {st:Stmt} {dV:Value} {f:Addr} {fd:FuncData} {ps:List Str} (F:FunD K x qual st dV f fd)
  (h:∀ (kV doc pm:Value) (an:Option Addr) (cdv ct:Value) (us:List Value),us.length=ps.length->bindArgs (W.fnOf x qual (Jal st) (Jak st) (Jac st) dV kV doc pm an cdv ct) ⟨us,[]⟩=pure (ps.zip us)):Binds K fd ps []:=by
 obtain ⟨d,c,kV,doc,pm,an,cdv,ct,a,rfl,lk,b⟩:=F.ex;exact .all (h kV doc pm an cdv ct)
theorem FunD.bindsD {x qual:Str} {st:Stmt} {T:Addr} {f:Addr} {fd:FuncData} {ps:List Str} {o:Obj} {items:Array Value} {n:Nat} (F:FunD K x qual st (.ref T) f fd) (hT:K.lookup T=some o) (hs:o.data=.seq items n) (ds:List Value)
  (h:∀ (kV doc pm:Value) (an:Option Addr) (cdv ct:Value) (us:List Value),(us++ds).length=ps.length->∃ k,bindArgs (W.fnOf x qual (Jal st) (Jak st) (Jac st) (.ref T) kV doc pm an cdv ct) ⟨us,[]⟩=seqItems? (.ref T) >>= k/\k (some items)=pure (ps.zip (us++ds))):Binds K fd ps ds:=by
 obtain ⟨i,g,kV,doc,pm,an,cdv,ct,a,rfl,lk,b⟩:=F.ex;intro s us X e;obtain ⟨k,d,c⟩:=h kV doc pm an cdv ct us e;exact BindsTo.of_defaults (T:=T) rfl (X _ _ hT) hs d c
theorem Jao {x qual:Str} {st:Stmt} {dV:Value} {f:Addr} {oc:Value} {od an:Option Addr} {osl:Array (Option Value)} {kV doc pm cdv ct:Value} (l:K.lookup f=some ⟨oc,od, .func (W.fnOf x qual (Jal st) (Jak st) (Jac st) dV kV doc pm an cdv ct),osl⟩)
  (c:W.codeIn K cdv qual=true) (k:W.keepIn K (.ref f)=true):FunD K x qual st dV f (W.fnOf x qual (Jal st) (Jak st) (Jac st) dV kV doc pm an cdv ct):=⟨⟨oc,od,kV,doc,pm,an,cdv,ct,osl,rfl,l,c⟩,k⟩
end
structure Cal (P:Program) (w:World) (K:W.Frag) (mg:Str->Option Value) (base:Heap) (k:Nat) (x:Str) (ps:List Str) (dvs:List V) (sp:Sp):Prop where
 ex:∃ (f:Addr) (fd:FuncData) (ds:List Value),FnOk P w K mg base (CX1 P w) k f fd ps sp/\mg x=some (.ref f)/\W.keepIn K (.ref f)=true/\Binds K fd ps ds/\Vals dvs ds
section
variable {X:Cx} {k k':Nat} {x:Str} {ps:List Str} {dvs:List V} {sp:Sp} {E:XK} {p pos:Pos} {e:Expr} {es:List Expr} {t:TA}
theorem Cal.ev (G:Cal X.prog X.w X.K X.mg X.base k x ps dvs sp) (hr:Room k' X.A) (hk:k<=k') (hg:Gl X x) (hx:Jcf (CX1 X.prog X.w) X E) (ha:PA X (e::es) t)
  (hdb:(x == ("__debug__" : Str))=false:=by decide) (he:starEach (e::es) X.env=(false,eval e X.env)::starEach es X.env:=by rfl) (hpl:(backTo pos (starEach es X.env)).any (·.1)=false:=by rfl) :
  PE X (.Call (.Name x p) (e::es) [] pos) (tCall sp dvs E t):=by
 obtain ⟨f,h,g,F,c,d,b,a⟩:=G.ex;exact Jjh F (hr.mono hk) hg c d b a hx ha hdb he hpl
theorem Cal.ev0 (G:Cal X.prog X.w X.K X.mg X.base k x ps dvs sp) (hr:Room k' X.A) (hk:k<=k') (hg:Gl X x) (hx:Jcf (CX1 X.prog X.w) X E) (hdb:(x == ("__debug__" : Str))=false:=by decide) :
  PE X (.Call (.Name x p) [] [] pos) (tCall sp dvs E tNil):=by
 obtain ⟨f,g,e,F,c,d,b,a⟩:=G.ex;exact Jib F (hr.mono hk) hg c d b a hx hdb
end
end L2
namespace Mth
def g (a b:Int):Int:=(Int.gcd a b:Nat)
theorem Jix (a:Int):g a 0=(a.natAbs:Int):=by unfold g;rw [Int.gcd_zero_right]
theorem g_pos {a b:Int} (h:b≠0):0<g a b:=by
 unfold g;exact Int.natCast_pos.mpr (Int.gcd_pos_of_ne_zero_right a h)
theorem Jdq (a b:Int):g a b∣a:=Int.gcd_dvd_left ..
theorem JcM (a b:Int):g a b∣b:=Int.gcd_dvd_right ..
theorem JjF (a b:Int):g b (a % b)=g a b:=by
 unfold g;rw [Int.gcd_comm b (a % b)];first
  | rw [Int.gcd_emod_left]
  | (rw [Int.emod_def];simp [Int.gcd_comm])
theorem Bcg (a b:Int):g (if a<0 then -a else a) (if b<0 then -b else b)=g a b:=by
 unfold g;split <;> split <;> simp [Int.neg_gcd,Int.gcd_neg]
theorem Jf2 (a:Int):0<=(if a<0 then -a else a):=by split <;> ac_nf
theorem g_le {a b:Int} (h:b≠0):g a b<=(b.natAbs:Int):=by
 unfold g;exact Int.ofNat_le.mpr (Nat.le_of_dvd ∅ (Int.natAbs_dvd_natAbs.mpr (by simpa using Int.gcd_dvd_right (a:=a) (b:=b)) |> fun z=>by simpa using z))
theorem fm {x y:Int} (h:0<y):0<=x.fmod y/\x.fmod y<y:=by
 rw [Int.fmod_eq_emod_of_nonneg _ ∅];exact ⟨Int.emod_nonneg _ ∅,Int.emod_lt_of_pos _ h⟩
theorem Jg6 {x y:Int} (h:0<y):g y (x.fmod y)=g x y:=by
 rw [Int.fmod_eq_emod_of_nonneg _ ∅];exact JjF x y
def by_ (t b:Int):Int:=if b<0 then -(g t b) else g t b
def top (t b:Int):Int:=t.fdiv (by_ t b)
def bot (t b:Int):Int:=b.fdiv (by_ t b)
theorem by_ne {t b:Int} (h:b≠0):by_ t b≠0:=by
 have:=g_pos (a:=t) h;unfold by_;split <;> ac_nf
theorem JiP (t b:Int):by_ t b∣t:=by
 unfold by_;split
 ·exact Int.neg_dvd.mpr (Jdq t b)
 ·exact Jdq t b
theorem JiQ (t b:Int):by_ t b∣b:=by
 unfold by_;split
 ·exact Int.neg_dvd.mpr (JcM t b)
 ·exact JcM t b
theorem Jba {a d:Int} (h:d∣a) (hd:d≠0):a.fdiv d*d=a:=by
 obtain ⟨k,rfl⟩:=h;rw [Int.mul_comm d k,Int.mul_fdiv_cancel _ hd]
theorem Jf0 {t b:Int} (h:b≠0):top t b*by_ t b=t:=Jba (JiP t b) (by_ne h)
theorem Jel {t b:Int} (h:b≠0):bot t b*by_ t b=b:=Jba (JiQ t b) (by_ne h)
theorem Jbe {t b:Int} (h:b≠0):1<=bot t b:=by
 have c:=Jel (t:=t) h;have f:=g_pos (a:=t) h;by_cases d:b<0
 ·have e:by_ t b = -(g t b):=by unfold by_;rw [if_pos d]
  rw [e] at c;have i:bot t b*g t b = -b:=by rw [Int.mul_neg] at c;ac_nf
  rcases Int.lt_trichotomy (bot t b) 0 with z | z | z
  ·have:=Int.mul_neg_of_neg_of_pos z f;ac_nf
  ·rw [z] at i;ac_nf
  ·ac_nf
 ·have e:by_ t b=g t b:=by unfold by_;rw [if_neg d]
  rw [e] at c;rcases Int.lt_trichotomy (bot t b) 0 with z | z | z
  ·have:=Int.mul_neg_of_neg_of_pos z f;ac_nf
  ·rw [z] at c;ac_nf
  ·ac_nf
theorem cross {t b:Int} (h:b≠0):top t b*b=t*bot t b:=by
 have a:=Jf0 (t:=t) h;have c:=Jel (t:=t) h
 calc top t b*b=top t b*(bot t b*by_ t b):=by rw [c]
  _=(top t b*by_ t b)*bot t b:=by rw [Int.mul_comm (bot t b),Int.mul_assoc]
  _=t*bot t b:=by rw [a]
theorem Jhl (t b:Int):(by_ t b).natAbs=Int.gcd t b:=by
 unfold by_ g;split <;> simp
theorem g_low {t b:Int} (h:b≠0):g (top t b) (bot t b)=1:=by
 have a:0<Int.gcd t b:=Int.gcd_pos_of_ne_zero_right t h;have e:Int.gcd (top t b*by_ t b) (bot t b*by_ t b)=Int.gcd (top t b) (bot t b)*(by_ t b).natAbs:=Int.gcd_mul_right ..;rw [Jf0 h,Jel h,Jhl] at e;have : Int.gcd (top t b) (bot t b)=1:=by
  rcases Nat.lt_trichotomy (Int.gcd (top t b) (bot t b)) 1 with z | z | z
  ·have : Int.gcd (top t b) (bot t b)=0:=by ac_nf
   rw [this] at e;ac_nf
  ·exact z
  ·have:=Nat.mul_le_mul_right (Int.gcd t b) z;ac_nf
 unfold g;rw [this];rfl
theorem Jd6 {a b d:Int} (g1:Int.gcd a b=1) (h:b∣a*d):b∣d:=by
 have e:b.natAbs∣a.natAbs*d.natAbs:=by rw [<- Int.natAbs_mul];exact Int.natAbs_dvd_natAbs.mpr h
 have c:Nat.Coprime b.natAbs a.natAbs:=by
  unfold Nat.Coprime;rw [Nat.gcd_comm];exact g1
 exact Int.natAbs_dvd_natAbs.mp (c.dvd_of_dvd_mul_left e)
theorem JcX {a b c d:Int} (hb:1<=b) (hd:1<=d) (h1:g a b=1) (h2:g c d=1) (e:a*d=c*b):a=c/\b=d:=by
 have i:Int.gcd a b=1:=by unfold g at h1;ac_nf
 have j:Int.gcd c d=1:=by unfold g at h2;ac_nf
 have f:b∣d:=by
  have : b∣a*d:=⟨c,by rw [e,Int.mul_comm]⟩;exact Jd6 i this
 have k:d∣b:=by
  have : d∣c*b:=⟨a,by rw [<- e,Int.mul_comm]⟩;exact Jd6 j this
 have h:b=d:=Int.dvd_antisymm ∅ ∅ f k;subst h;refine ⟨?_,rfl⟩;exact Int.eq_of_mul_eq_mul_right ∅ e
theorem Jkp {t b:Int} (h:b≠0):(top t b).natAbs<=t.natAbs:=by
 have c:=Jf0 (t:=t) h;have d:(by_ t b).natAbs≠0:=by have:=by_ne (t:=t) h;ac_nf
 have a:=congrArg Int.natAbs c;rw [Int.natAbs_mul] at a;rw [<- a];exact Nat.le_mul_of_pos_right _ ∅
theorem bot_le {t b:Int} (h:b≠0):(bot t b).natAbs<=b.natAbs:=by
 have c:=Jel (t:=t) h;have d:(by_ t b).natAbs≠0:=by have:=by_ne (t:=t) h;ac_nf
 have a:=congrArg Int.natAbs c;rw [Int.natAbs_mul] at a
 calc (bot t b).natAbs<=(bot t b).natAbs*(by_ t b).natAbs:=Nat.le_mul_of_pos_right _ ∅
  _=b.natAbs:=a
theorem Ji4 {n k:Nat} (h:n<2 ^ k) (hk:k<9000):n.log2<9000:=by
 by_cases z:n=0
 ·rw [z];decide
 ·exact Nat.lt_trans ((Nat.log2_lt z).mpr h) hk
def Sz (n:Nat) (i:Int):Prop:=i.natAbs<2 ^ n
theorem Sz.mono {m n:Nat} {i:Int} (h:Sz m i) (k:m<=n):Sz n i:=Nat.lt_of_lt_of_le h (Nat.pow_le_pow_right ⋯ k)
theorem Sz.mul {m n:Nat} {i j:Int} (h:Sz m i) (k:Sz n j):Sz (m+n) (i*j):=by
 unfold Sz at *;rw [Int.natAbs_mul,Nat.pow_add];exact Nat.mul_lt_mul'' h k
theorem Sz.add {n:Nat} {i j:Int} (h:Sz n i) (k:Sz n j):Sz (n+1) (i+j):=by
 unfold Sz at *;have:=Int.natAbs_add_le i j;rw [Nat.pow_succ];ac_nf
theorem Sz.neg {n:Nat} {i:Int} (h:Sz n i):Sz n (-i):=by
 unfold Sz at *;rw [Int.natAbs_neg];exact h
theorem Sz.top {n:Nat} {t b:Int} (hb:b≠0) (h:Sz n t):Sz n (Mth.top t b):=Nat.lt_of_le_of_lt (Jkp hb) h
theorem Sz.bot {n:Nat} {t b:Int} (hb:b≠0) (h:Sz n b):Sz n (Mth.bot t b):=Nat.lt_of_le_of_lt (bot_le hb) h
theorem Sz.lit {n:Nat} {i:Int} (h1 : -(2 ^ n)<i) (h2:i<2 ^ n):Sz n i:=by
 unfold Sz;have e:((2 ^ n:Nat):Int)=2 ^ n:=by simp
 ac_nf
end Mth
namespace Mth
theorem Jgd {a b:Int} (h:g a b=1):Int.gcd a b=1:=by unfold g at h;ac_nf
theorem JhV {a b:Int} (h:Int.gcd a b=1):g a b=1:=by unfold g;rw [h];rfl
theorem Jep {t x y:Int} (h1:Int.gcd t x=1) (h2:Int.gcd t y=1):Int.gcd t (x*y)=1:=by
 unfold Int.gcd at *;rw [Int.natAbs_mul];exact Nat.Coprime.mul_right h1 h2
theorem Jd5 {x y:Int} (h:∀ k:Int,k∣x->k∣y->k∣1):Int.gcd x y=1:=by
 have:=h (Int.gcd x y:Nat) (Int.gcd_dvd_left ..) (Int.gcd_dvd_right ..);have z:=Int.natAbs_dvd_natAbs.mpr this;simp at z;exact z
theorem Jd7 {k x y:Int} (h:Int.gcd x y=1) (h1:k∣x) (h2:k∣y):k∣1:=by
 have z:=Int.dvd_coe_gcd h1 h2;rw [h] at z;exact z
theorem Jeq {t u x:Int} (h:Int.gcd t x=1) (d:u∣t):Int.gcd u x=1:=Jd5 fun k a b=>Jd7 h (Int.dvd_trans a d) b
theorem Jb5 {x y:Int} (h:Int.gcd x y=1):Int.gcd y x=1:=by rw [Int.gcd_comm];exact h
theorem JgR {a b c d:Int} (h1:Int.gcd a b=1) (h2:Int.gcd d b=1):Int.gcd (a*d+c*b) b=1:=by
 have : Int.gcd b (a*d)=1:=Jep (Jb5 h1) (Jb5 h2);refine Jd5 fun k g f=>Jd7 this f ?_;have : k∣(a*d+c*b)-c*b:=Int.dvd_sub g (Int.dvd_mul_of_dvd_right f);have e:(a*d+c*b)-c*b=a*d:=by ac_nf
 rwa [e] at this
theorem Jdg {a d:Int} (h:d∣a) (hd:1<=d) (ha:1<=a):1<=a.fdiv d:=by
 have e:=Jba h ∅;rcases Int.lt_trichotomy (a.fdiv d) 0 with z | z | z
 ·have:=Int.mul_neg_of_neg_of_pos z (show 0<d by ac_nf);ac_nf
 ·rw [z] at e;ac_nf
 ·ac_nf
theorem Jf8 {b d s:Int} (hs:s=g b d) (p:1<=s):Int.gcd (b.fdiv s) (d.fdiv s)=1:=by
 have c:b.fdiv s*s=b:=Jba (by rw [hs];exact Jdq ..) ∅;have f:d.fdiv s*s=d:=Jba (by rw [hs];exact JcM ..) ∅;have e:Int.gcd (b.fdiv s*s) (d.fdiv s*s)=Int.gcd (b.fdiv s) (d.fdiv s)*s.natAbs:=Int.gcd_mul_right ..;rw [c,f] at e;have a:Int.gcd b d=s.natAbs:=by rw [hs];unfold g;simp
 rw [a] at e;rcases Nat.lt_trichotomy (Int.gcd (b.fdiv s) (d.fdiv s)) 1 with z | z | z
 ·have : Int.gcd (b.fdiv s) (d.fdiv s)=0:=by ac_nf
  rw [this] at e;ac_nf
 ·exact z
 ·have:=Nat.mul_le_mul_right s.natAbs z;ac_nf
theorem Jjm {a b c d:Int} (hb:1<=b) (hd:1<=d) (h1:g a b=1) (h2:g c d=1) {s t r:Int} (hs:s=g b d) (ht:t=a*d.fdiv s+c*b.fdiv s) (hr:r=g t s) :
  t.fdiv r=top (a*d+c*b) (b*d)/\b.fdiv s*d.fdiv r=bot (a*d+c*b) (b*d):=by
 have m:1<=s:=by rw [hs];have:=g_pos (a:=b) (b:=d) ∅;ac_nf
 have w:1<=r:=by rw [hr];have:=g_pos (a:=t) (b:=s) ∅;ac_nf
 have x:s∣b:=by rw [hs];exact Jdq ..
 have q:s∣d:=by rw [hs];exact JcM ..
 have I:r∣t:=by rw [hr];exact Jdq ..
 have A:r∣s:=by rw [hr];exact JcM ..
 have B:r∣d:=Int.dvd_trans A q;have u:=Jba x ∅;have n:=Jba q ∅;have z:=Jba I ∅;have y:=Jba B ∅;have E:=Jba A ∅;have N:=Jdg x m hb;have M:=Jdg q m hd;have L:=Jdg B w hd;have h:=Jf8 hs m;have j:Int.gcd (t.fdiv r) (s.fdiv r)=1:=Jf8 hr w;have l:d.fdiv r=d.fdiv s*s.fdiv r:=by
  refine Int.eq_of_mul_eq_mul_right (a:=r) ∅ ?_;rw [y,Int.mul_assoc,E,n]
 have C:Int.gcd a (b.fdiv s)=1:=Jb5 (Jeq (Jb5 (Jgd h1)) ⟨s,u.symm⟩);have G:Int.gcd c (d.fdiv s)=1:=Jb5 (Jeq (Jb5 (Jgd h2)) ⟨s,n.symm⟩);have D:Int.gcd t (b.fdiv s)=1:=by rw [ht];exact JgR C (Jb5 h)
 have K:Int.gcd t (d.fdiv s)=1:=by rw [ht,Int.add_comm];exact JgR G h
 have p:g (t.fdiv r) (b.fdiv s*d.fdiv r)=1:=JhV (by
  rw [l];have k:t.fdiv r∣t:=⟨r,z.symm⟩;exact Jep (Jeq D k) (Jep (Jeq K k) j))
 have e:b*d≠0:=Int.mul_ne_zero ∅ ∅;have i:=g_low (t:=a*d+c*b) e;have f:=Jbe (t:=a*d+c*b) e;have o:=cross (t:=a*d+c*b) e;have v:1<=b.fdiv s*d.fdiv r:=by
  have:=Int.mul_pos (show 0<b.fdiv s by ac_nf) (show 0<d.fdiv r by ac_nf);ac_nf
 have F:t*s=a*d+c*b:=by
  rw [ht,Int.add_mul,Int.mul_assoc,Int.mul_assoc,n,u]
 have J:t.fdiv r*(b*d)=(a*d+c*b)*(b.fdiv s*d.fdiv r):=by
  have H:(t.fdiv r*(b*d))*r=((a*d+c*b)*(b.fdiv s*d.fdiv r))*r:=by
   calc (t.fdiv r*(b*d))*r=(t.fdiv r*r)*(b*d):=by ac_rfl
    _=t*((b.fdiv s*s)*d):=by rw [z,u]
    _=(t*s)*(b.fdiv s*d):=by ac_rfl
    _=(a*d+c*b)*(b.fdiv s*(d.fdiv r*r)):=by rw [F,y]
    _=((a*d+c*b)*(b.fdiv s*d.fdiv r))*r:=by ac_rfl
  exact Int.eq_of_mul_eq_mul_right ∅ H
 refine JcX v f p i ?_;refine Int.eq_of_mul_eq_mul_right (a:=b*d) e ?_
 calc (t.fdiv r*bot (a*d+c*b) (b*d))*(b*d)=(t.fdiv r*(b*d))*bot (a*d+c*b) (b*d):=by ac_rfl
  _=((a*d+c*b)*bot (a*d+c*b) (b*d))*(b.fdiv s*d.fdiv r):=by rw [J];ac_rfl
  _=(top (a*d+c*b) (b*d)*(b*d))*(b.fdiv s*d.fdiv r):=by rw [o]
  _=(top (a*d+c*b) (b*d)*(b.fdiv s*d.fdiv r))*(b*d):=by ac_rfl
theorem JiW {a d:Int} (h:d∣a) (hd:1<=d):(a.fdiv d).natAbs<=a.natAbs:=by
 have e:=congrArg Int.natAbs (Jba h (show d≠0 by ac_nf));rw [Int.natAbs_mul] at e
 calc (a.fdiv d).natAbs<=(a.fdiv d).natAbs*d.natAbs:=Nat.le_mul_of_pos_right _ ∅
  _=a.natAbs:=e
theorem Sz.fdiv {n:Nat} {a d:Int} (h:Sz n a) (k:d∣a) (hd:1<=d):Sz n (a.fdiv d):=Nat.lt_of_le_of_lt (JiW k hd) h
theorem g_neg {a b:Int}:g (-a) b=g a b:=by unfold g;simp [Int.neg_gcd]
end Mth
namespace Mth
end Mth
namespace L2
open PySem PySem.Spec PyProof.Rows
section
variable {D:Ends} {σ : St} {H:Hp} {Q:VK} {t u:TS} {ta tb te:TE} {g:TG} {tA:TA} {r:R2} {E:XK} {sp:Sp} {K:W.Frag}
theorem y85y:tSeq t u D σ H=t { D with nx:=u D } σ H:=rfl
theorem y74y:tNext D σ H=D.nx σ H:=rfl
theorem y2by:tAsg te g D σ H=te σ H fun x H1=>g x σ H1 D.nx:=rfl
theorem y6fy {i:Nat} {v:V} {R:St->Hp->Prop}:gName i v σ H R=R (σ.set i (some v)) H:=rfl
theorem y82y:tRet te D σ H=te σ H D.rt:=rfl
theorem y83y:tRetN D σ H=D.rt .non H:=rfl
theorem y47y:tDrop te D σ H=te σ H fun _ H1=>D.nx σ H1:=rfl
theorem y2ey {v:V}:tC v σ H Q=Q v H:=rfl
theorem y7by:tOp r ta tb σ H Q=ta σ H fun x H1=>tb σ H1 fun y H2=>r x y H2 Q:=rfl
theorem y95y {f:V->Hp->VK->Prop}:tUn f ta σ H Q=ta σ H fun x H1=>f x H1 Q:=rfl
theorem y30y {f:List V->Hp->VK->Prop}:tCB f tA σ H Q=tA σ H fun vs H1=>f vs H1 Q:=rfl
theorem y3cy {R:List V->Hp->Prop}:tCons ta tA σ H R=ta σ H fun x H1=>tA σ H1 fun xs H2=>R (x::xs) H2:=rfl
theorem y75y {R:List V->Hp->Prop}:tNil σ H R=R [] H:=rfl
theorem y2fy {dvs:List V}:tCall sp dvs E tA σ H Q=tA σ H fun vs H1=>sp (vs++dvs) H1 Q E:=rfl
theorem y8by {R:Bool->Hp->Prop}:tTest te σ H R=te σ H fun x H'=>∃ k,x=.bl k/\R k H':=rfl
theorem y23y {R:Bool->Hp->Prop}:tB te σ H R=te σ H fun x H'=>∃ k,x=.bl k/\R k H':=rfl
theorem y29y {a b:TT} {R:Bool->Hp->Prop}:tAnd a b σ H R=a σ H fun c H1=>if c=true then b σ H1 R else R false H1:=rfl
theorem y7cy {a b:TT} {R:Bool->Hp->Prop}:tOr a b σ H R=a σ H fun c H1=>if c=true then R true H1 else b σ H1 R:=rfl
theorem y77y {a:TT} {R:Bool->Hp->Prop}:tNot a σ H R=a σ H fun c H1=>R (!c) H1:=rfl
theorem y2ay:tAndV ta tb σ H Q=ta σ H fun x H1=>∃ c,x=.bl c/\if c=true then tb σ H1 Q else Q (.bl false) H1:=rfl
theorem y7dy:tOrV ta tb σ H Q=ta σ H fun x H1=>∃ c,x=.bl c/\if c=true then Q (.bl true) H1 else tb σ H1 Q:=rfl
theorem y79y:tNotV ta σ H Q=ta σ H fun x H1=>∃ c,x=.bl c/\Q (.bl (!c)) H1:=rfl
theorem y5dy {c:TT}:tIfS c t u D σ H=c σ H fun b H1=>if b=true then t D σ H1 else u D σ H1:=rfl
theorem y97y {i:Nat}:tVar i σ H Q=∃ v,σ[i]?=some (some v)/\Q v H:=rfl
theorem y26y {i j:Int}:rAddU K (.int i) (.int j) H Q=Q (.int (i+j)) H:=rfl
theorem y27y {i j:Str}:rAddU K (.str i) (.str j) H Q=(i.length+j.length<=sizeLine/\Q (.str (i++j)) H):=rfl
theorem y89y {f:Int->Int->V} {i j:Int}:rI0 f (.int i) (.int j) H Q=Q (f i j) H:=by
 unfold rI0;simp
theorem y73y {f:Int->V} {i:Int}:rU f (.int i) H Q=Q (f i) H:=by
 unfold rU;simp
theorem y6cy {i j:Int}:rMulU (.int i) (.int j) H Q=(IntMulOk i j/\Q (.int (i*j)) H):=rfl
theorem y4cy {i j:Int}:JhD (.int i) (.int j) H Q=(DivOk j/\Q (.int (i.fdiv j)) H):=rfl
theorem y6by {i j:Int}:rModU (.int i) (.int j) H Q=(j≠0/\Q (.int (i.fmod j)) H):=rfl
theorem y80y {i j:Int}:rPowU (.int i) (.int j) H Q=(CPow i j/\Q (.int (i ^ j.toNat)) H):=rfl
theorem y33y {p:Int->Int->Bool} {i j:Int}:rCmpU p (.int i) (.int j) H Q=Q (.bl (p i j)) H:=rfl
theorem y4ay {i j:Int}:rEqU K (.int i) (.int j) H Q=Q (.bl (decide (i=j))) H:=rfl
theorem y71y {i j:Int}:rNeU K (.int i) (.int j) H Q=Q (.bl (!decide (i=j))) H:=rfl
theorem y4by {i j:Str}:rEqU K (.str i) (.str j) H Q=Q (.bl (decide (i=j))) H:=rfl
theorem y72y {i j:Str}:rNeU K (.str i) (.str j) H Q=Q (.bl (!decide (i=j))) H:=rfl
theorem y49y {i j:Bool}:rEqU K (.bl i) (.bl j) H Q=Q (.bl (decide (i=j))) H:=rfl
theorem y70y {i j:Bool}:rNeU K (.bl i) (.bl j) H Q=Q (.bl (!decide (i=j))) H:=rfl
theorem y90y:tTup tA σ H Q=tA σ H fun xs H1=>xs.length<=sizeLine/\∀ p,H1 p=none->Q (.ref p) (upd H1 p (.tup xs)):=rfl
theorem y67y:tLst tA σ H Q=tA σ H fun xs H1=>xs.length<=sizeLine/\∀ p,H1 p=none->Q (.ref p) (upd H1 p (.lst xs)):=rfl
theorem y63y {x:V} {T:String}:rIsi K [x, .ty T] H Q=(T∈["int","str","bool","list","tuple"]/\∃ t,tyN K H x t/\Q (.bl (isiB t T)) H):=rfl
theorem y25y {i:Int}:rAbs [.int i] H Q=Q (.int (if i<0 then -i else i)) H:=rfl
theorem y6ay {i j:Int}:rMin [.int i, .int j] H Q=Q (.int (if j<i then j else i)) H:=rfl
theorem y92y {i:Int} {s:String}:tyN K H (.int i) s=(s="int"):=rfl
theorem y94y {i:Str} {s:String}:tyN K H (.str i) s=(s="str"):=rfl
theorem y91y {i:Bool} {s:String}:tyN K H (.bl i) s=(s="bool"):=rfl
theorem y93y {s:String}:tyN K H .non s=(s="NoneType"):=rfl
end
theorem Jf6:bootBuiltins "abs"=some (.builtin "abs"):=by decide +kernel
theorem JbA:bootBuiltins "len"=some (.builtin "len"):=by decide +kernel
theorem JjB:bootBuiltins "max"=some (.builtin "max"):=by decide +kernel
theorem JeW:bootBuiltins "sorted"=some (.builtin "sorted"):=by decide +kernel
theorem JaO:bootBuiltins "isinstance"=some (.builtin "isinstance"):=by decide +kernel
theorem Jjz:bootBuiltins "all"=some (.builtin "all"):=by decide +kernel
theorem JjA:bootBuiltins "int"=some (.type "int"):=by decide +kernel
theorem JjC:bootBuiltins "str"=some (.type "str"):=by decide +kernel
theorem JiN:bootBuiltins "bool"=some (.type "bool"):=by decide +kernel
theorem Jem:bootBuiltins "list"=some (.type "list"):=by decide +kernel
theorem Jen:bootBuiltins "tuple"=some (.type "tuple"):=by decide +kernel
theorem JiO:bootBuiltins "dict"=some (.type "dict"):=by decide +kernel
theorem JfA:bootBuiltins "reversed"=some (.type "reversed"):=by decide +kernel
theorem yby:isiB "int" "int"=true:=by decide
theorem ydy:isiB "int" "str"=false:=by decide
theorem yay:isiB "int" "bool"=false:=by decide
theorem ycy:isiB "int" "list"=false:=by decide
theorem yey:isiB "int" "tuple"=false:=by decide
theorem y15y:isiB "str" "int"=false:=by decide
theorem y17y:isiB "str" "str"=true:=by decide
theorem y14y:isiB "str" "bool"=false:=by decide
theorem y16y:isiB "str" "list"=false:=by decide
theorem y18y:isiB "str" "tuple"=false:=by decide
theorem y6y:isiB "bool" "int"=true:=by decide
theorem y8y:isiB "bool" "str"=false:=by decide
theorem y5y:isiB "bool" "bool"=true:=by decide
theorem y7y:isiB "bool" "list"=false:=by decide
theorem y9y:isiB "bool" "tuple"=false:=by decide
theorem y1y:isiB "NoneType" "int"=false:=by decide
theorem y3y:isiB "NoneType" "str"=false:=by decide
theorem y0y:isiB "NoneType" "bool"=false:=by decide
theorem y2y:isiB "NoneType" "list"=false:=by decide
theorem y4y:isiB "NoneType" "tuple"=false:=by decide
theorem y10y:isiB "list" "int"=false:=by decide
theorem y12y:isiB "list" "str"=false:=by decide
theorem yfy:isiB "list" "bool"=false:=by decide
theorem y11y:isiB "list" "list"=true:=by decide
theorem y13y:isiB "list" "tuple"=false:=by decide
theorem y1ay:isiB "tuple" "int"=false:=by decide
theorem y1cy:isiB "tuple" "str"=false:=by decide
theorem y19y:isiB "tuple" "bool"=false:=by decide
theorem y1by:isiB "tuple" "list"=false:=by decide
theorem y1dy:isiB "tuple" "tuple"=true:=by decide
theorem y1fy:("int"∈["int","str","bool","list","tuple"])=True:=by simp
theorem y21y:("str"∈["int","str","bool","list","tuple"])=True:=by simp
theorem y1ey:("bool"∈["int","str","bool","list","tuple"])=True:=by simp
theorem y20y:("list"∈["int","str","bool","list","tuple"])=True:=by simp
theorem y22y:("tuple"∈["int","str","bool","list","tuple"])=True:=by simp
theorem y24y {CX:CXT} {P:Program} {w:World} {K:W.Frag} {mg:Str->Option Value} {base:Heap} {N:List Str} {qual:Str} {scope:Scope} {f:Addr} {cd:Value} {A:Around} {outer:List Env} {s:Shared} {H:Hp} {E:XK}:(cxOf CX P w K mg base N qual scope f cd A outer s H E).K=K:=rfl
def ForR (lo:Int) (n:Nat) (g:TG) (tb:TS) (D:Ends) (σ : St) (H:Hp):Prop:=∃ W:Nat->Nat->St->Hp->Prop,(∃ m,W 0 m σ H)/\∀ i m σ H,W i m σ H ->
 ((Itr lo n).stop i H/\D.nx σ H)\/((Itr lo n).go i H/\∃ N:St->Hp->Prop,(∀ σ' H',N σ' H'->∃ m',m'<m/\W (i+1) m' σ' H')/\∀ x H',(Itr lo n).yld i H x H'->g x σ H' fun σ2 H2=>tb { D with nx:=N,ct:=N,bk:=D.nx } σ2 H2)
def ForA (K:W.Frag) (a:Addr) (g:TG) (tb:TS) (D:Ends) (σ : St) (H:Hp):Prop :=
 ((∃ xs,SqL K H a xs)/\∃ W:Nat->Nat->St->Hp->Prop,(∃ m,W 0 m σ H)/\∀ i m σ H,W i m σ H ->
  ((Itl K a).stop i H/\D.nx σ H)\/((Itl K a).go i H/\∃ N:St->Hp->Prop,(∀ σ' H',N σ' H'->∃ m',m'<m/\W (i+1) m' σ' H')/\∀ x H',(Itl K a).yld i H x H'->g x σ H' fun σ2 H2=>tb { D with nx:=N,ct:=N,bk:=D.nx } σ2 H2)) \/
 ((∃ xs,SqT K H a xs)/\∃ W:Nat->Nat->St->Hp->Prop,(∃ m,W 0 m σ H)/\∀ i m σ H,W i m σ H ->
  ((Itt K a).stop i H/\D.nx σ H)\/((Itt K a).go i H/\∃ N:St->Hp->Prop,(∀ σ' H',N σ' H'->∃ m',m'<m/\W (i+1) m' σ' H')/\∀ x H',(Itt K a).yld i H x H'->g x σ H' fun σ2 H2=>tb { D with nx:=N,ct:=N,bk:=D.nx } σ2 H2))
theorem y4fy {ta:TA} {g:TG} {tb:TS} {D:Ends} {σ : St} {H:Hp}:tFor (iRng1 ta) g tb D σ H=ta σ H fun vs H1=>∃ j:Int,vs=[.int j]/\-(2 ^ 62)<=j/\j<2 ^ 62/\ForR 0 j.toNat g tb D σ H1:=rfl
theorem y50y {ta:TA} {g:TG} {tb:TS} {D:Ends} {σ : St} {H:Hp}:tFor (iRng2 ta) g tb D σ H=ta σ H fun vs H1=>∃ i j:Int,vs=[.int i, .int j]/\(-(2 ^ 62)<=i/\i<2 ^ 62/\-(2 ^ 62)<=j/\j<2 ^ 62)/\ForR i (j-i).toNat g tb D σ H1:=rfl
theorem y51y {K:W.Frag} {tl:TE} {g:TG} {tb:TS} {D:Ends} {σ : St} {H:Hp}:tFor (iAny K tl) g tb D σ H=tl σ H fun x H1=>∃ a,x=.ref a/\ForA K a g tb D σ H1:=rfl
theorem ForR.by {lo:Int} {n:Nat} {g:TG} {tb:TS} {D:Ends} {σ : St} {H:Hp} (Pv:Nat->St->Hp->Prop) (h0:Pv 0 σ H)
  (hs:∀ i σ H,i<n->Pv i σ H->g (.int (lo+i)) σ H fun σ2 H2=>tb { D with nx:=Pv (i+1),ct:=Pv (i+1),bk:=D.nx } σ2 H2) (hd:∀ σ H,Pv n σ H->D.nx σ H):ForR lo n g tb D σ H:=Jg5 Pv h0 hs hd
theorem JfH {H:Hp} {o:HO} {R:V->Hp->Prop} (h:∀ p H1,Same H H1->H1 p=some o->R (.ref p) H1):∀ p,H p=none->R (.ref p) (upd H p o):=fun p a=>
 h p _ (fun b u q=>by rw [Jai (Jaf q a)];exact q) Jaq
theorem newS {H H':Hp} {p:Addr} {o:HO} (h:H p=none) (e:upd H p o=H'):Same H H':=fun b u q=>by rw [<- e,Jai (Jaf q h)];exact q
theorem newE {H H':Hp} {p:Addr} {o:HO} (e:upd H p o=H'):H' p=some o:=by rw [<- e,Jaq]
theorem Jek {n:Nat} {i:Int} (h:Mth.Sz n i):Builtin.Int.intBits i<=n:=by
 unfold Builtin.Int.intBits;split
 ·exact Nat.zero_le _
 ·rename_i z;have : i.natAbs.log2<n:=(Nat.log2_lt (by simpa using z)).mpr h;ac_nf
theorem mulOk {m n:Nat} {i j:Int} (h:Mth.Sz m i) (k:Mth.Sz n j) (hm:m<=2 ^ 20:=by decide) (hn:n<=2 ^ 20:=by decide):IntMulOk i j:=IntMulOk.of_bits (Nat.le_trans (Jek h) hm) (Nat.le_trans (Jek k) hn)
theorem JjQ {i j:Int} (h:Mth.Sz 64 j):IntMulOk i j:=IntMulOk.of_right (Jek h)
theorem divOk {n:Nat} {j:Int} (h:j≠0) (k:Mth.Sz n j) (hn:n<9000:=by decide):DivOk j:=⟨h,Mth.Ji4 k hn⟩
theorem len0:([]:List V).length<=sizeLine:=by decide
theorem len2 {a b:V}:[a,b].length<=sizeLine:=by show 2<=sizeLine;decide
theorem len4 {a b c d:V}:[a,b,c,d].length<=sizeLine:=by show 4<=sizeLine;decide
theorem len5 {a b c d e:V}:[a,b,c,d,e].length<=sizeLine:=by show 5<=sizeLine;decide
theorem JbH {j:Int} (h:decide (j≠0/\j.natAbs<2 ^ 64)=true):DivOk j:=by
 have z:=of_decide_eq_true h;exact divOk z.1 (n:=64) z.2
theorem JbJ {i j:Int} (h:decide (j.natAbs<2 ^ 64)=true):IntMulOk i j:=by
 have z:j.natAbs<2 ^ 64:=of_decide_eq_true h;exact JjQ z
theorem Jbg {i j:Int} (h:decide (i.natAbs<2 ^ 64)=true):IntMulOk i j:=by
 have z:i.natAbs<2 ^ 64:=of_decide_eq_true h;exact IntMulOk.of_left (Jek (n:=64) z)
theorem JbM {i j:Int} (h:decide (0<=j/\j<=1000000/\i.natAbs<2 ^ 64)=true):CPow i j:=by
 have z:0<=j/\j<=1000000/\i.natAbs<2 ^ 64:=of_decide_eq_true h;exact z
def FrV (K:W.Frag) (H:Hp) (v:V) (a b:Int):Prop:=∃ p,v=.ref p/\SqT K H p [.int a, .int b]
theorem FrV.same {K:W.Frag} {H H':Hp} {v:V} {a b:Int} (S:Same H H') (h:FrV K H v a b):FrV K H' v a b:=by
 obtain ⟨p,e,q⟩:=h;exact ⟨p,e,q.same S⟩
theorem FrV.of {K:W.Frag} {H:Hp} {p:Addr} {a b:Int} (h:H p=some (.tup [.int a, .int b])):FrV K H (.ref p) a b:=⟨p,rfl,SqT.of h⟩
theorem ixT0 {K:W.Frag} {H:Hp} {p:Addr} {x:V} {r:List V} {Q:VK} (h:SqT K H p (x::r)) (q:Q x H):rIxU K (.ref p) (.int 0) H Q:=⟨_,x, .inr h,Jdj (j:=0) rfl,q⟩
theorem ixT1 {K:W.Frag} {H:Hp} {p:Addr} {x y:V} {r:List V} {Q:VK} (h:SqT K H p (x::y::r)) (q:Q y H):rIxU K (.ref p) (.int 1) H Q:=⟨_,y, .inr h,Jdj (j:=1) rfl,q⟩
theorem ixF0 {K:W.Frag} {H:Hp} {v:V} {a b:Int} {Q:VK} (h:FrV K H v a b) (q:Q (.int a) H):rIxU K v (.int 0) H Q:=by
 obtain ⟨p,rfl,z⟩:=h;exact ixT0 z q
theorem ixF1 {K:W.Frag} {H:Hp} {v:V} {a b:Int} {Q:VK} (h:FrV K H v a b) (q:Q (.int b) H):rIxU K v (.int 1) H Q:=by
 obtain ⟨p,rfl,z⟩:=h;exact ixT1 z q
theorem FrV.rep {K:W.Frag} {H:Hp} {v:V} {a b:Int} (h:FrV K H v a b):Rep K H (.tup [.int a, .int b]) v:=by
 obtain ⟨p,rfl,z⟩:=h;simp only [Rep,RepL];exact ⟨p,_,rfl,z,_,_,rfl,rfl,_,_,rfl,rfl,rfl⟩
theorem eqF {K:W.Frag} {H:Hp} {x y:V} {a b c d:Int} {Q:VK} (h:FrV K H x a b) (g:FrV K H y c d) (q:Q (.bl (decide (a=c)&&decide (b=d))) H):rEqU K x y H Q:=by
 have e:eqD (.tup [.int a, .int b]) (.tup [.int c, .int d])=(decide (a=c)&&decide (b=d)):=by
  simp only [eqD,eqL,Bool.and_true]
  congr 1 <;> simp [BEq.beq]
 have f:=h.rep;have i:=g.rep;obtain ⟨p,rfl,_⟩:=h;obtain ⟨j,rfl,_⟩:=g;exact ⟨_,_,f,i,by simp [depD,depL],rfl,by rw [e];exact q⟩
theorem neF {K:W.Frag} {H:Hp} {x y:V} {a b c d:Int} {Q:VK} (h:FrV K H x a b) (g:FrV K H y c d) (q:Q (.bl (!(decide (a=c)&&decide (b=d)))) H):rNeU K x y H Q:=by
 have e:eqD (.tup [.int a, .int b]) (.tup [.int c, .int d])=(decide (a=c)&&decide (b=d)):=by
  simp only [eqD,eqL,Bool.and_true]
  congr 1 <;> simp [BEq.beq]
 have f:=h.rep;have i:=g.rep;obtain ⟨p,rfl,_⟩:=h;obtain ⟨j,rfl,_⟩:=g;exact ⟨_,_,f,i,by simp [depD,depL],rfl,by rw [e];exact q⟩
theorem ixT {K:W.Frag} {H:Hp} {p:Addr} {xs:List V} {i:Nat} {v:V} {Q:VK} (h:SqT K H p xs) (e:xs[i]?=some v) (q:Q v H):rIxU K (.ref p) (.int (i:Int)) H Q:=⟨xs,v, .inr h,Jdj e,q⟩
theorem ixL {K:W.Frag} {H:Hp} {p:Addr} {xs:List V} {i:Nat} {v:V} {Q:VK} (h:SqL K H p xs) (e:xs[i]?=some v) (q:Q v H):rIxU K (.ref p) (.int (i:Int)) H Q:=⟨xs,v, .inl h,Jdj e,q⟩
section
open PySem.W PySem.Builtin PySem.Builtin.ObjectAttr PySem.Builtin.Getset_descriptor
variable {prog:Program} {w:World} {A:Around} {E:Value->Shared->Prop} {s:Shared} {K:Frag} {x D:Addr} {ox:Obj}
end
section
variable {X:Cx}
def Jju (r r' r'':R2) (ta tb tc td:TE):TE:=fun σ H Q=>ta σ H fun x H1=>tb σ H1 fun y H2=>r x y H2 fun z H3=>∃ k,z=.bl k /\
 (if k=true then tc σ H3 fun w' H4=>r' y w' H4 fun z' H5=>∃ k',z'=.bl k'/\(if k'=true then td σ H5 fun u' H6=>r'' w' u' H6 Q else Q (.bl false) H5) else Q (.bl false) H3)
def rFmt:V->Hp->VK->Prop:=fun x H Q=>match x with
 | .int i=>i.natAbs.log2<1920/\Q (.str (toString i)) H
 | _=>False
def TJ:=St->Hp->Str->VK->Prop
def jNil:TJ:=fun _ H acc Q=>acc.length<=sizeLine/\Q (.str acc) H
def jCons (te:TE) (t:TJ):TJ:=fun σ H acc Q=>te σ H fun x H1=>∃ y,x=.str y/\(acc++y).length<=sizeLine/\t σ H1 (acc++y) Q
def tFstr (t:TJ):TE:=fun σ H Q=>t σ H Str.empty Q
def rStrI:List V->Hp->VK->Prop:=fun xs H Q=>match xs with
 | [.int i]=>i.natAbs.log2<1920/\Q (.str (toString i)) H
 | _=>False
end
section
variable {En:Ends} {σ : St} {H:Hp} {Q:VK} {t u:TS} {ta tb te tc td:TE} {g:TG} {gs:TGs} {tA:TA} {E:XK} {sp:Sp} {K:W.Frag}
theorem y87y {r:V->Option Int->Option Int->Hp->VK->Prop} {tl th:TO}:tSl r te tl th σ H Q=te σ H fun x H1=>tl σ H1 fun l H2=>th σ H2 fun u H3=>r x l u H3 Q:=rfl
theorem y7fy {R:Option Int->Hp->Prop}:tPart te σ H R=te σ H fun x H1=>∃ i,x=.int i/\R (some i) H1:=rfl
theorem y76y {R:Option Int->Hp->Prop}:JhN σ H R=R none H:=rfl
theorem y58y {vs:List V} {R:St->Hp->Prop}:gCons g gs vs σ H R=∃ v r,vs=v::r/\g v σ H fun σ' H'=>gs r σ' H' R:=rfl
theorem y5ay {vs:List V} {R:St->Hp->Prop}:gNil vs σ H R=(vs=[]/\R σ H):=rfl
theorem y31y {r r':R2}:Jkh r r' ta tb tc σ H Q=ta σ H fun x H1=>tb σ H1 fun y H2=>r x y H2 fun z H3=>∃ k,z=.bl k/\(if k=true then tc σ H3 fun w' H4=>r' y w' H4 Q else Q (.bl false) H3):=rfl
theorem y32y {r r' r'':R2}:Jju r r' r'' ta tb tc td σ H Q=ta σ H fun x H1=>tb σ H1 fun y H2=>r x y H2 fun z H3=>∃ k,z=.bl k /\
 (if k=true then tc σ H3 fun w' H4=>r' y w' H4 fun z' H5=>∃ k',z'=.bl k'/\(if k'=true then td σ H5 fun u' H6=>r'' w' u' H6 Q else Q (.bl false) H5) else Q (.bl false) H3):=rfl
theorem y57y {tj:TJ}:tFstr tj σ H Q=tj σ H Str.empty Q:=rfl
theorem y65y {tj:TJ} {acc:Str}:jCons te tj σ H acc Q=te σ H fun x H1=>∃ y,x=.str y/\(acc++y).length<=sizeLine/\tj σ H1 (acc++y) Q:=rfl
theorem y66y {acc:Str}:jNil σ H acc Q=(acc.length<=sizeLine/\Q (.str acc) H):=rfl
theorem y4ey {i:Int}:rFmt (.int i) H Q=(i.natAbs.log2<1920/\Q (.str (toString i)) H):=rfl
theorem y88y {i:Int}:rStrI [.int i] H Q=(i.natAbs.log2<1920/\Q (.str (toString i)) H):=rfl
theorem y8ey {D0:Addr} {i:Nat} {tx:St->Hp->VK->XK->Prop} {ts:TS}:Jkn K D0 i tx ts En σ H=tx σ H (fun _ H1=>En.nx σ H1) fun cls _ H1=>∃ C,cls=.ref C/\JgK K C D0 /\
 ∀ ea,H1 ea=none->ts { nx:=fun σ' H'=>En.nx (σ'.set i none) H',rt:=En.rt,bk:=fun σ' H'=>En.bk (σ'.set i none) H',ct:=fun σ' H'=>En.ct (σ'.set i none) H' } (σ.set i (some (.ref ea))) (upd H1 ea (ExcO ea C)):=rfl
theorem y98y {dvs:List V} {Qx:VK} {Ex:XK}:xCall sp dvs tA σ H Qx Ex=tA σ H fun vs H1=>sp (vs++dvs) H1 Qx Ex:=rfl
theorem y81y {C:Addr}:JiE E C tA En σ H=tA σ H fun vs H1=>vs.length<=sizeLine/\E (.ref C) none H1:=rfl
end
def Its (x:Str):It:=⟨fun i _=>i<x.cps.size,fun i H v H'=>H'=H/\∃ c,x.cps[i]?=some c/\v=.str ⟨#[c]⟩,fun i _=>i=x.cps.size⟩
theorem Jft {P:Program} {w:World} {K:W.Frag} {tg:Expr} {it:Addr} {x:Str} {n:String} {St:Nat->Heap->Prop} (hn:["enumerate","zip","dict_itemiterator","dict_reverseitemiterator","odict_iterator","itertools.zip_longest","itertools.pairwise"].contains n=false)
  (hst:∀ i h,St i h->∃ o vs,h.get? it=some o/\o.cls=.type n/\o.data=.fields vs) (mk:∀ A:Around,A.handled=none->Walks P w A it [it] [it] x.cps.size (SignAt x) St)
  (hself:∀ (A:Around) (i:Nat) (s:Shared) (Q:Value->Shared->Prop) (E:Value->Shared->Prop),St i s.heap->Q (.ref it) s->wpAny (model P w) A (pyIter (.ref it)) Q E s):Turn P w K tg (Its x) [it] it St where
 mem:=by simp
 obj:=fun i h g b a=>by
  obtain rfl:b=it:=by simpa using a
  obtain ⟨o,vs,e,_,d⟩:=hst i h g;exact ⟨o,e,fun v z=>by rw [d] at z;cases z⟩
 keep:=fun i h l g k=>(mk {} rfl).frame i h l g fun b a o e=>k b a o e
 item:=by
  intro X M C t J i f s σ H E I m g q;subst M C t;obtain ⟨D,G,U,y,p,r⟩:=m it (by simp);refine (mk X.A (I.ok.hd J)).item i s _ _ q g fun v l B T j L=>?_;obtain ⟨c,u,F,rfl⟩:=T;have I1:Inv X f σ H { s with heap:=l,toks:=B }:=I.turned (fun b o a e=>L b o (by simpa using a) e) D G y p r;obtain ⟨o,vs,R,O,S⟩:=hst _ _ j;exact ⟨_,rfl,go_of (s:={ s with heap:=l,toks:=B }) R O S hn ⟨.str ⟨#[c]⟩,H,I1,⟨u,rfl⟩,⟨rfl,c,F,rfl⟩,j,fun b a=>(m b a).1⟩⟩
 done:=by
  intro X M C t J i f s σ H E I m g q;subst M C t;obtain ⟨D,G,U,y,p,r⟩:=m it (by simp);have N:i=x.cps.size:=q;subst N;exact (mk X.A (I.ok.hd J)).done s _ _ g fun l B L=>⟨rfl,I.turned (fun b o a e=>L b o (by simpa using a) e) D G y p r⟩
 self:=hself
section
variable {X:Cx} {tg:Expr}
def iStr (tl:TE):TI:=fun σ H R=>tl σ H fun x H1=>∃ z,x=.str z/\R (Its z) H1
theorem Jj4 {l:Expr} {tl:TE} (hl:PE X l tl):PI X tg l (iStr tl):=fun f s σ H R I h=>by
 refine thn (hl f s σ H _ I h) fun v d ζ=>?_;obtain ⟨x,p,I1,m,z,y,q⟩:=ζ;subst y;obtain ⟨t,rfl⟩:=m;have key:∀ (n:String),(n="str_ascii_iterator"\/n="str_iterator")->PIE X f σ tg R (.ref d.heap.objs.size) { d with heap:=d.heap.push { cls:=.type n,data:=.fields #[.str z t, .int 0 0] } }:=fun n r=>by
  have k:Turn X.prog X.w X.K tg (Its z) [d.heap.objs.size] d.heap.objs.size (fun i h=>h.IsStrIter d.heap.objs.size n z t i):=by
   rcases r with rfl | rfl
   ·exact Jft (n:="str_ascii_iterator") ⋯ (fun i h g=>let ⟨o,a,b,c⟩:=g;⟨o,_,a,b,c⟩) (fun A j=>Walks.strAscii j _ z t) fun A i s Q E g q=>wpAny_pyIter_striter_ascii g q
   ·exact Jft (n:="str_iterator") ⋯ (fun i h g=>let ⟨o,a,b,c⟩:=g;⟨o,_,a,b,c⟩) (fun A j=>Walks.strWide j _ z t) fun A i s Q E g q=>wpAny_pyIter_striter_wide g q
  refine ⟨d.heap.objs.size,[d.heap.objs.size],_,_,p,rfl,I1.kept (t':=d.toks) fun b o e=>Heap.get?_push_of_some _ e,k,⟨_,Heap.get?_push_size _ rfl,rfl,rfl⟩,fun b u=>?_,q⟩;obtain rfl:b=d.heap.objs.size:=by simpa using u
  exact I1.fpOk (Nat.le_refl _) (I1.hok.fresh (Nat.le_refl _))
 cases ha:z.cps.all (· < 128)
 ·exact wpAny_pyIter_wide ha (key _ (.inr rfl))
 ·exact wpAny_pyIter_ascii ha (key _ (.inl rfl))
end
abbrev Cx.inc (X:Cx) (N':List Str) (scope:Scope) (cl:List (Str × Addr)) (fp:List Addr) (s2:Shared) (H2:Hp) (C:Addr):Cx :=
 { X with N:=N',s₀:=s2,H₀:=H2,env:=compEnvC scope cl C X.env,outer:=X.stack,ex:=fp,fn:=fun _=>false,pn:=[],xe:=fun _ _=>False }
section
variable {X:Cx} {pins:List (Addr × Obj)} {σ : St} {H2:Hp} {s2:Shared} {N':List Str} {scope:Scope} {cl:List (Str × Addr)} {fp:List Addr} {C:Addr}
theorem Inv.incOk (I:Inv X pins σ H2 s2) (hf:∀ b∈fp,FpOk X pins H2 b) (hfp:∀ b∈fp,b<s2.heap.objs.size) (hk:scope.kind=.function) (hC:s2.heap.objs.size<=C) (hcl:∀ x c,cl.lookup x=some c->X.env.cells.lookup x=some c)
  (hhas:∀ y,((relabel scope X.env).names.lookup y=some .cell\/(relabel scope X.env).names.lookup y=some .free)->∃ c,cl.lookup y=some c):(X.inc N' scope cl fp s2 H2 C).Ok where
 mod:=I.ok.mod
 kind:=hk
 glob:=I.ok.glob
 blt:=I.ok.blt
 above:=hC
 inj:=fun x y c d i=>I.ok.inj x y c (hcl x c d) (hcl y c i)
 has:=fun y f=>hhas y f
 cab:=fun x c h=>by cases h
 hd:=I.ok.hd
 frames:=I.ok.frames
 stk:=.inl rfl
 exf:=fun b a=>⟨Nat.ne_of_lt (Nat.lt_of_lt_of_le (hfp b a) hC),fun x c e=>(hf b a).2.2.2.2.1 x c (hcl x c e)⟩
 bs:=I.bs
 bsz:=Nat.le_trans I.ok.bsz I.sz
 noex:=fun b o e a=>by
  rcases (hf b a).2.2.2.1 with z | z
  ·exact I.ok.noex b o e z
  ·exact absurd (Nat.lt_of_lt_of_le (Nat.lt_of_lt_of_le (Heap.lt_size e) I.ok.bsz) z) (Nat.lt_irrefl _)
 exfs:=fun b a g=>by
  rcases mem_cons.mp (I.stkSub b g) with z | z
  ·exact (hf b a).2.1 z
  ·exact (hf b a).2.2.1 z
 funs:=I.stack
 frf:=I.stkFree
def JaW (cs:List (Nat × Str)) (σ : St):St:=cs.map fun p=>(σ[p.1]?).join
theorem Inv.capsLoc {s4:Shared} {m:Str->Option Value} {own:List Str} {cs:List (Nat × Str)} (I:Inv X pins σ H2 s2) (ok:(X.inc (own++cs.map (·.2)) scope cl fp s2 H2 C).Ok) (kept:∀ c v,(∃ x,cl.lookup x=some c)->s2.heap.IsCell c v->s4.heap.IsCell c v)
  (hcl:∀ x c,cl.lookup x=some c->X.env.cells.lookup x=some c) (hcs:∀ p∈cs,X.N[p.1]?=some p.2/\X.env.scope.names.lookup p.2=some .cell/\(relabel scope X.env).names.lookup p.2=some .cell) :
  ∀ (i:Nat) (x:Str) (v:V),(own++cs.map (·.2))[i]?=some x->(List.replicate own.length none++JaW cs σ)[i]?=some (some v)->∃ u,RelV v u/\Look (compEnvC scope cl C X.env) s4.heap m x u:=fun i x v r e=>by
  by_cases h:i<own.length
  ·rw [List.getElem?_append_left (by simpa using h),List.getElem?_replicate,if_pos h] at e;cases e
  ·have b:(JaW cs σ)[i-own.length]?=some (some v):=by rw [List.getElem?_append_right (by simp;ac_nf)] at e;simpa using e
   have a:(cs.map (·.2))[i-own.length]?=some x:=by
    rwa [List.getElem?_append_right ∅] at r
   unfold JaW at b;rw [List.getElem?_map] at a b;cases q:cs[i-own.length]? with
   | none=>rw [q] at a;cases a
   | some p=>
    rw [q] at a b;obtain rfl:p.2=x:=by simpa using a
    have d:(σ[p.1]?).join=some v:=by simpa using b
    have f : σ[p.1]?=some (some v):=by
     cases z : σ[p.1]? with
     | none=>rw [z] at d;cases d
     | some o=>rw [z] at d;exact congrArg some d
    obtain ⟨s,j,l⟩:=hcs p (List.mem_of_getElem? q);obtain ⟨w,_,t⟩:=I.loc;obtain ⟨u,n,lk⟩:=t p.1 p.2 v s f (.inr (.inl j));refine ⟨u,n, .inr ⟨.inl l,?_⟩⟩;obtain ⟨c,g⟩:=ok.has p.2 (.inl l);refine ⟨c,g,?_⟩;rcases lk with ⟨k,_⟩ | ⟨_,c',e',hcell⟩
    ·have k:X.env.scope.names.lookup p.2=some .local:=k;rw [j] at k;cases k
    ·rw [hcl _ _ g] at e';cases e';exact kept _ _ ⟨_,g⟩ hcell
theorem Inv.incStart {s4:Shared} {m:Str->Option Value} {own:List Str} {cs:List (Nat × Str)} (I:Inv X pins σ H2 s2) (ok:(X.inc (own++cs.map (·.2)) scope cl fp s2 H2 C).Ok) (kept:∀ b o,s2.heap.get? b=some o->s4.heap.get? b=some o) (hos:s4.os=s2.os) (hg:s4.gens=s2.gens) (hm:s4.heap.Ns C m)
  (hC:s2.heap.objs.size<=C) (hcl:∀ x c,cl.lookup x=some c->X.env.cells.lookup x=some c)
  (hcs:∀ p∈cs,X.N[p.1]?=some p.2/\X.env.scope.names.lookup p.2=some .cell/\(relabel scope X.env).names.lookup p.2=some .cell) :
  Inv (X.inc (own++cs.map (·.2)) scope cl fp s2 H2 C) [] (List.replicate own.length none++JaW cs σ) H2 s4 where
 ok:=ok
 os:=hos
 bare:=by rw [hg];exact I.bare
 base:=Un.kept kept
 loc:=⟨m,hm,fun i x v g h _=>I.capsLoc (m:=m) ok (fun c v _ ⟨o,d,a⟩=>⟨o,kept _ _ d,a⟩) hcl hcs i x v g h⟩
 cell:=fun x c e=>by
  obtain ⟨v,o,d,a⟩:=I.cell x c (hcl x c e);exact ⟨v,o,kept _ _ d,a⟩
 free:=I.hok.fresh hC
 freeC:=fun x c e=>I.freeC x c (hcl x c e)
 pin:=fun p f=>by simp at f
 hok:=I.hok.kept kept
 len:=by simp [JaW]
theorem Inv.incAgain {s':Shared} {H':Hp} {σ':St} {pl:List (Addr × Obj)} {own:List Str} {cs:List (Nat × Str)} (I:Inv X pins σ H2 s2) (J:Inv (X.inc (own++cs.map (·.2)) scope cl fp s2 H2 C) pl σ' H' s')
  (hf:∀ b∈fp,FpOk X pins H2 b) (hcl:∀ x c,cl.lookup x=some c->X.env.cells.lookup x=some c) (hcs:∀ p∈cs,X.N[p.1]?=some p.2/\X.env.scope.names.lookup p.2=some .cell/\(relabel scope X.env).names.lookup p.2=some .cell) :
  Inv (X.inc (own++cs.map (·.2)) scope cl fp s2 H2 C) [] (List.replicate own.length none++JaW cs σ) H' s' where
 ok:=J.ok
 os:=J.os
 bare:=J.bare
 base:=J.base
 loc:=by
  obtain ⟨m,a,_⟩:=J.loc;refine ⟨m,a,fun i x v j k _=>I.capsLoc (m:=m) J.ok (fun c v ⟨x,d⟩ ⟨o,g,f⟩=>?_) hcl hcs i x v j k⟩;have e:c∉fp:=fun z=>(hf c z).2.2.2.2.1 x c (hcl x c d) rfl;by_cases a:c∈frs X.stack
  ·obtain ⟨l,z⟩:=J.base.slot c o g (I.freeC x c (hcl x c d)) a e;exact ⟨_,z,f⟩
  ·exact ⟨o,J.base.keep c o g (I.freeC x c (hcl x c d)) a e,f⟩
 cell:=J.cell
 free:=J.free
 freeC:=J.freeC
 pin:=fun p h=>by simp at h
 hok:=J.hok
 len:=by simp [JaW]
end
section
variable {prog:Program} {w:World} {A:Around} {E:Value->Shared->Prop} {R:Result->Shared->Prop} {s:Shared}
theorem Jgs {elt target iter:Expr} {scope:Scope} {pos:Pos} {it acc:Value} {env:Env} (J:Nat->Shared->Prop)
  (turn:∀ n s,J n s->wpAny (model prog w) A (pyNext it) (fun r s1=>match r with
   | none=>R (.ok .next) s1
   | some v=>wpAny (model prog w) A (letOwnedTupleGo target it v) (fun _ s2=>wpAny (model prog w) A (assign target env v) (fun _ s3=>wpAny (model prog w) A (eval elt env) (fun x s4=>
     wpAny (model prog w) A (call (.builtin "list.append") [acc,x]) (fun _ s5=>∃ m,m<n/\J m s5) (fun _ _=>False) s4) (fun _ _=>False) s3) (fun _ _=>False) s2) (fun _ _=>False) s1) (fun _ _=>False) s) (n:Nat) (h:J n s) :
  codeAny (model prog w) A (.compLoop (.ListComp elt [⟨target,iter,[],0⟩] scope pos) 0 it acc env) R s:=by
 refine codeAny_loop rfl J (fun n s c=>?_) n h;show wpAny _ A ((compTurn (.ListComp elt [⟨target,iter,[],0⟩] scope pos) 0 it acc env).onRaise (fun y=>do noteFrame y env;theTreesLotGoes y)) _ _ s
 (refine wpAny_noted ?_;rw [compTurn_list])
 refine wpAny_bind (wpAny_standAt (wpAny_bind (wpAny_mono (turn n s c) (fun r s1 a=>?_) fun _ _ z=>z.elim)));cases r with
 | none=>exact wpAny_pure a
 | some v=>
  refine wpAny_bind (wpAny_mono a (fun _ s2 b=>wpAny_bind (wpAny_mono b (fun _ s3 f=>?_) fun _ _ z=>z.elim)) fun _ _ z=>z.elim);refine wpAny_bind (wpAny_tests_nil ?_);exact wpAny_bind (wpAny_bind (wpAny_mono f (fun x s4 d=>(wpAny_bind (wpAny_mono d (fun _ s5 e=>(wpAny_pure (wpAny_pure ⟨rfl,e⟩))) fun _ _ z=>z.elim))) fun _ _ z=>z.elim))
end
def tComp (k:Nat) (cs:List (Nat × Str)) (wi:TI) (g:TG) (te:TE):TE:=fun σ H Q=>wi σ H fun J H1=>∃ W:Nat->Nat->List V->Hp->Prop,(∃ m,W 0 m [] H1)/\∀ i m ys H2,W i m ys H2->ys.length<=sizeLine /\
  ((J.stop i H2/\∀ p,H2 p=none->Q (.ref p) (upd H2 p (.lst ys))) \/
   (J.go i H2/\∀ x H3,J.yld i H2 x H3->g x (List.replicate k none++JaW cs σ) H3 fun σ4 H4=>te σ4 H4 fun y H5=>∃ m',m'<m/\W (i+1) m' (ys++[y]) H5))
theorem lstP {us:List Value} {v:Value}:(us.toArray.push v)=(us++[v]).toArray:=by simp
section
variable {X:Cx} {tg:Expr}
theorem JeG {iter elt:Expr} {scope:Scope} {pos:Pos} {own:List Str} {cl:List (Str × Addr)} {cs:List (Nat × Str)} {wi:TI} {g:TG} {te:TE} (hc:X.calm=true) (hi:PI X tg iter wi)
  (hg:∀ fp s2 H2 C,PG (X.inc (own++cs.map (·.2)) scope cl fp s2 H2 C) tg g) (he:∀ fp s2 H2 C,PE (X.inc (own++cs.map (·.2)) scope cl fp s2 H2 C) elt te)
  (hclos:closureFor scope X.env=pure cl) (hcell:∀ y∈scope.names,y.2≠.cell) (hkind:scope.kind=.function) (hnames:∀ y∈scope.names,y.2=.local->scope.names.lookup y.1=some .local)
  (hcl:∀ x c,cl.lookup x=some c->X.env.cells.lookup x=some c) (hhas:∀ y,((relabel scope X.env).names.lookup y=some .cell\/(relabel scope X.env).names.lookup y=some .free)->∃ c,cl.lookup y=some c)
  (hcs:∀ p∈cs,X.N[p.1]?=some p.2/\X.env.scope.names.lookup p.2=some .cell/\(relabel scope X.env).names.lookup p.2=some .cell)
  (hs:∀ x,foldedSetIterable iter X.env x=pure x:=by intro _;rfl):PE X (.ListComp elt [⟨tg,iter,[],0⟩] scope pos) (tComp own.length cs wi g te):=by
 intro B s σ H Q I h;rw [eval_ListComp];refine wpAny_comprehension_free (use:=none) rfl hs hclos hkind hnames (thn (hi B s σ H _ I h) fun v s1 h1=>thn h1 fun b7 s2 h2=>?_);obtain ⟨it,fp,tn,J,H2,rfl,I2,T,U,S,W,⟨m0,w0⟩,a4⟩:=h2;have F:∀ b∈fp,b<s2.heap.objs.size:=fun b d=>by
  obtain ⟨o,e,_⟩:=T.obj _ _ U b d;exact Heap.lt_size e
 refine wpAny_newObj_type (wpAny_newFunctionEnv hcell (by intro y hy;simp at hy) (fun h4 l k=>?_) hkind);dsimp only at l k ⊢;generalize hH3:s2.heap.push { cls:=.type "list",dict:=none,data:=.seq ([]:List Value).toArray }=H3 at l k ⊢;have a5:H3.objs.size=s2.heap.objs.size+1:=by rw [<- hH3,Heap.size_push]
 have hC:s2.heap.objs.size<=H3.objs.size:=by ac_nf
 have t:s2.heap.objs.size≠H3.objs.size:=by ac_nf
 have a0:∀ b o,s2.heap.get? b=some o->h4.get? b=some o:=fun b o e=>k.extBut b o (by have:=Heap.lt_size e;exact Nat.ne_of_lt (Nat.lt_of_lt_of_le this hC)) (Heap.get?_push_of_some _ (hH3 ▸ Heap.get?_push_of_some _ e));have a6:h4.get? s2.heap.objs.size=some { cls:=.type "list",data:=.seq ([]:List Value).toArray }:=k.extBut _ _ t (Heap.get?_push_of_some _ (hH3 ▸ Heap.get?_push_size _ rfl));obtain ⟨D,f⟩:∃ D,D=s2.heap.objs.size:=⟨_,rfl⟩;obtain ⟨C,b3⟩:∃ C,C=H3.objs.size:=⟨_,rfl⟩;rw [<- b3] at a5 l k hC t ⊢;rw [<- f] at F a5 hC t a6 ⊢;have K:=I2.incOk (N':=own++cs.map (·.2)) (C:=C) S (fun b d=>by rw [<- f];exact F b d) hkind (by rw [<- f];exact hC) hcl hhas;have I4:Inv (X.inc (own++cs.map (·.2)) scope cl fp s2 H2 C) [] (List.replicate own.length none++JaW cs σ) H2 { s2 with heap:=h4,toks:=s2.toks+([]:List (Str × Value)).length } :=
  I2.incStart (s4:={ s2 with heap:=h4,toks:=s2.toks+([]:List (Str × Value)).length }) K a0 rfl rfl l (by rw [<- f];exact hC) hcl hcs
 have Dfree:H2 D=none:=I2.hok.fresh (Nat.le_of_eq f.symm);have G:∀ b o,s2.heap.get? b=some o->b≠D:=fun b o e=>by
  rw [f];exact Nat.ne_of_lt (Heap.lt_size e)
 have b5:∀ b o,s2.heap.get? b=some o->b≠C:=fun b o e=>Nat.ne_of_lt (Nat.lt_of_lt_of_le (by rw [f];exact Heap.lt_size e) hC);have Dfs:D∉frs X.stack:=fun hm=>by
  obtain ⟨_,o,e,_⟩:=I2.stack.mem hm;exact G _ _ e rfl
 have L:∀ {σ':St} {H':Hp} {s':Shared} {us:List Value} {n:Nat} {pl:List (Addr × Obj)},Inv (X.inc (own++cs.map (·.2)) scope cl fp s2 H2 C) pl σ' H' s'->s'.heap.get? D=some { cls:=.type "list",data:=.seq us.toArray n }->H' D=none ->
   Inv (X.inc (own++cs.map (·.2)) scope cl fp s2 H2 C) [(D,{ cls:=.type "list",data:=.seq us.toArray n })] σ' H' s':=fun {σ' H' s' us n pl} J' e n'=>J'.pins_of fun p R=>by
  rcases mem_singleton.mp R with rfl
  exact ⟨e,n',t,Dfs,fun v z=>by cases z⟩
 have E:∀ {H':Hp} {o:Obj},(∀ b∈fp,H' b=none)->∀ b∈fp,FpOk (X.inc (own++cs.map (·.2)) scope cl fp s2 H2 C) [(D,o)] H' b:=fun {H' o} hn b d=>by
  refine ⟨hn b d,(K.exf b d).1,K.exfs b d, .inl d,(K.exf b d).2,fun p R=>?_⟩;rcases mem_singleton.mp R with rfl
  exact Nat.ne_of_gt (F b d)
 have O:∀ s3:Shared,s3={ s2 with heap:=h4,toks:=s2.toks+([]:List (Str × Value)).length } ->
   codeAny (model X.prog X.w) X.A (.compLoop (.ListComp elt [⟨tg,iter,[],0⟩] scope pos) 0 (.ref it) (.ref D) (compEnvC scope cl C X.env)) (compPost (model X.prog X.w) X.A X.xe none (EP X B σ Q) (.ref D) C) s3:=by
  rintro s3 rfl;refine Jgs (fun n s'=>∃ i ys us nn H',Inv (X.inc (own++cs.map (·.2)) scope cl fp s2 H2 C) [(D,{ cls:=.type "list",data:=.seq us.toArray nn })] (List.replicate own.length none++JaW cs σ) H' s'/\tn i s'.heap/\(∀ b∈fp,H' b=none)/\Vals ys us/\W i n ys H') ?_ m0
   ⟨0,[],[],0,H2,L (us:=[]) (n:=0) I4 a6 Dfree,T.keep _ _ _ U fun b d o e=>a0 b o e,fun b d=>(S b d).1, .nil,w0⟩
  rintro n s5 ⟨i,ys,us,nn,Z,I5,a8,a3,vy,w5⟩;obtain ⟨hz,⟨a1,qn⟩ | ⟨go,a2⟩⟩:=a4 i n ys Z w5
  ·refine wpAny_mono (T.done (X.inc (own++cs.map (·.2)) scope cl fp s2 H2 C) rfl rfl rfl hc i _ s5 _ Z (fun _ _=>False) I5 (E a3) a8 a1) (fun r s6 z=>?_) fun _ _ z=>z;obtain ⟨rfl,I6⟩:=z;obtain ⟨m6,b0,_⟩:=id I6.loc;refine ⟨m6,b0,fun h7 b4=>?_⟩;obtain ⟨pD,pN,_,_,_⟩:=I6.pin (D,{ cls:=.type "list",data:=.seq us.toArray nn }) (by simp);have j:∀ b,b≠C->h7.get? b=s6.heap.get? b:=fun b d=>b4.2 b d;have V:=b5;have u7:Un (frs X.stack) fp H2 Z s2.heap h7:=⟨fun b o e n1 n2 n3=>(j b (V b o e)).trans (I6.base.keep b o e n1 n2 n3),fun b o e n1 n2 n3=>by
     obtain ⟨sl,z⟩:=I6.base.slot b o e n1 n2 n3;exact ⟨sl,(j b (V b o e)).trans z⟩,I6.base.free,fun b o e n1=>by
     obtain ⟨o',z⟩:=I6.base.there b o e n1;exact ⟨o',(j b (V b o e)).trans z⟩,I6.base.tups,I6.base.frzs,I6.base.tbls⟩
   have Cfree:Z C=none:=I6.free;have a7:HOk X.prog X.w Z h7:=fun a o e=>by
    refine (I6.hok a o e).stay (fun c v b6 q=>(j c ?_).trans q) (fun _ q=>q) fun _ _ q=>q;rintro rfl;rcases b6 with z | z
    ·rw [<- z] at e;rw [Cfree] at e;cases e
    ·rw [Cfree] at z;cases z
   have I7:Inv X B σ Z { s6 with heap:=h7 }:=I2.call' (s':={ s6 with heap:=h7 }) I6.os u7 a7 I6.bare fun b d=>⟨(S b d).2.2.2.1,(S b d).2.1,(S b d).2.2.2.2.1,(S b d).2.2.2.2.2⟩;have I8:=I7.track (a:=D) (o:=.lst ys) pN (Heap.get?_none_of_le (by rw [f];exact I2.sz)) (by rw [f];exact Nat.ne_of_gt I2.lt) (fun x c e z=>by
     obtain ⟨v,o,ho,_⟩:=I2.cell x c e;exact G _ _ ho z) (fun p R z=>G _ _ (I2.pin p R).1 z) ⟨hz,us,nn,vy,(j D t).trans pD⟩
   exact ⟨.ref D,_,I8,rfl,qn D pN⟩
  ·refine wpAny_mono (T.item (X.inc (own++cs.map (·.2)) scope cl fp s2 H2 C) rfl rfl rfl hc i _ s5 _ Z (fun _ _=>False) I5 (E a3) a8 go) (fun r s6 z=>?_) fun _ _ z=>z;obtain ⟨u,rfl,z⟩:=z;refine wpAny_mono z (fun _ s7 ζ=>?_) fun _ _ z=>z;obtain ⟨x,H7,I7,r7,y7,Y,b1⟩:=ζ;have I7':=I7.pinned (E b1) (T.obj _ _ Y);refine wpAny_mono (hg fp s2 H2 C _ s7 _ H7 x u _ I7' r7 (a2 x H7 y7)) (fun _ s8 ⟨σ8,H8,I8,q8⟩=>?_) fun _ _ z=>z;refine wpAny_mono (he fp s2 H2 C _ s8 σ8 H8 _ I8 q8) (fun uy s9 ζ=>?_) fun _ _ z=>z;obtain ⟨y,H9,I9,r9,m',b2,w9⟩:=ζ;obtain ⟨pD,pN,_,_,_⟩:=I9.pin (D,{ cls:=.type "list",data:=.seq us.toArray nn }) (by simp);refine append_at (its:=us.toArray) (n:=nn) pD (fun a9 P M=>?_) (by rw [size_toArray, <- vy.length];exact hz);have m:∀ b∈fp, ∀ o,s7.heap.get? b=some o->s9.heap.get? b=some o/\H9 b=none:=fun b d o e=>by
    have z:=I9.pin (b,o) (mem_append_right _ (mem_append_right _ (JcY d e)));exact ⟨z.1,z.2.1⟩
   have I9':Inv (X.inc (own++cs.map (·.2)) scope cl fp s2 H2 C) [] (List.replicate own.length none++JaW cs σ) H9 s9:=I2.incAgain I9 S hcl hcs;have I10:Inv (X.inc (own++cs.map (·.2)) scope cl fp s2 H2 C) [] (List.replicate own.length none++JaW cs σ) H9 { s9 with heap:=a9 }:=I9'.turned (it:=D) (t':=s9.toks) (fun b o d e=>(P.2 b d).trans e) pN t (.inr (Nat.le_of_eq f.symm)) (fun x c e z=>by
     obtain ⟨v,o,ho,_⟩:=I2.cell x c (hcl x c e);exact G _ _ ho z) fun p R=>by simp at R
   rw [lstP] at M;refine ⟨m',b2,i+1,ys++[y],us++[uy],nn+1,H9,L I10 M pN,T.keep _ _ _ Y fun b d o e=>?_,fun b d=>?_,vy.append (.cons r9 .nil),w9⟩
   ·exact (P.2 b (Nat.ne_of_lt (F b d))).trans (m b d o e).1
   ·obtain ⟨o,e,_⟩:=T.obj _ _ Y b d;exact (m b d o e).2
 exact codeAny_compStart_list (O _ rfl) (T.self _ 0 _ _ _ (T.keep _ _ _ U fun b d o e=>a0 b o e) (O _ rfl))
end
section
variable {X:Cx}
def rInU (K:W.Frag):R2:=fun x y H Q=>match x,y with
 | .str i, .str j=>Q (.bl (!(Builtin.Str.occurrences j i 0 j.length 1).isEmpty)) H
 | x,y=>rIn K false x y H Q
theorem JjY:OpR X (compareOp .In) (rInU X.K):=fun a s σ H x y v u Q I c b q=>by
 unfold rInU at q;split at q
 ·exact Jhu a s σ H _ _ v u Q I c b ⟨_,_,rfl,rfl,q⟩
 ·exact Jht a s σ H _ _ v u Q I c b q
theorem JjX {K:W.Frag} (hK:X.K=K):OpR X (compareOp .In) (rInU K):=hK ▸ JjY
theorem ix_UK {K:W.Frag} (hK:X.K=K):IxR X (rIxU K):=hK ▸ ix_U
theorem y5fy {K:W.Frag} {i j:Str} {H:Hp} {Q:VK}:rInU K (.str i) (.str j) H Q=Q (.bl (!(Builtin.Str.occurrences j i 0 j.length 1).isEmpty)) H:=rfl
theorem all_range:∀ bs:List Bool,(List.range bs.length).all (fun i=>bs.getD i false)=bs.all id:=fun bs=>by
 rw [Bool.eq_iff_iff];simp only [all_eq_true,List.mem_range,id];constructor
 ·intro h x b;obtain ⟨i,a,rfl⟩:=List.mem_iff_getElem.mp b;have:=h i a;simpa [List.getD_eq_getElem?_getD,a] using this
 ·intro h i a;have:=h bs[i] (List.getElem_mem a);simpa [List.getD_eq_getElem?_getD,a] using this
def rAll (K:W.Frag):List V->Hp->VK->Prop:=fun xs H Q=>∃ (p:Addr) (bs:List Bool),xs=[.ref p]/\SqL K H p (bs.map V.bl)/\Q (.bl (bs.all id)) H
theorem JgO (hc:X.calm=true):CallR X (.builtin "all") (rAll X.K):=fun n s σ H J E Q I r q=>by
 obtain ⟨p,c,rfl,z,q⟩:=q;obtain ⟨a,h,f,L⟩:=I.list z;obtain ⟨u,rfl,o⟩:=vals1 r;cases (show u=Value.ref p from o);refine call_all_walk (wpAny_pyIter_list f.isList ?_);have g:p<s.heap.objs.size:=by
  obtain ⟨_,e,_⟩:=f.isList;exact Heap.lt_size e
 refine ⟨s.heap.objs.size,_,_,a.toArray.size,_,_,fun i=>c.getD i false,rfl,Walks.list (by show X.A.handled=none;exact I.ok.hd hc) s.heap.objs.size p (Nat.ne_of_lt g) a.toArray,⟨⟨_,Heap.get?_push_size _ rfl,rfl,rfl⟩,f.isList.push _⟩,?_,?_⟩
 ·intro i v F Q' E' C t;have d:a[i]?=some v:=by simpa using C
  have j:i<c.length:=by
   obtain ⟨M,_⟩:=List.getElem?_eq_some_iff.mp d;have l:=h.length;rw [length_map] at l;ac_nf
  obtain ⟨G,m,w⟩:=h.get (i:=i) (x:=.bl c[i]) (by simp [j]);rw [d] at m;cases m;cases (show v=Value.bool c[i] from w);refine wpAny_truthy_bool ?_;simpa [List.getD_eq_getElem?_getD,j] using t
 ·intro N y k;have l:=h.length;rw [length_map] at l;have B:(List.range a.toArray.size).all (fun i=>c.getD i false)=c.all id:=by rw [size_toArray, <- l];exact all_range c
  rw [B];exact ⟨.bl _,H,I.kept (t':=y) fun b D e=>k b D (by have:=Heap.lt_size e;simp;exact Nat.ne_of_lt this) (Heap.get?_push_of_some _ e),rfl,q⟩
def rSlS:V->Option Int->Option Int->Hp->VK->Prop:=fun x lo hi H Q=>∃ z,x=.str z/\z.length<=sizeLine/\Q (.str (Txt.slice z lo hi)) H
theorem Jke:SlR X rSlS:=fun b s σ H x v vl n j i m Q I f c g pu h=>by
 obtain ⟨z,rfl,d,q⟩:=h;obtain ⟨t,rfl⟩:=f;refine ⟨"str",_,F.slot_str_getitem.lookup,typeIs_str _ _ _,?_⟩;have a:∀ (e:Tok) (k:Nat),EP X b σ Q (.str (Txt.slice z j i) e) { s with toks:=k }:=fun e k=>⟨.str _,H,I.tok k,⟨_,rfl⟩,q⟩;cases g <;> cases pu
 ·exact wpAny_getItem_str_slice (l:=none) (u:=none) (st:=none) c rfl (post_val_or_str ⟨Nat.le_trans (Txt.slice_le z _ _) d,a⟩)
 ·exact wpAny_getItem_str_slice (l:=none) (u:=some (_,_)) (st:=none) c rfl (post_val_or_str ⟨Nat.le_trans (Txt.slice_le z _ _) d,a⟩)
 ·exact wpAny_getItem_str_slice (l:=some (_,_)) (u:=none) (st:=none) c rfl (post_val_or_str ⟨Nat.le_trans (Txt.slice_le z _ _) d,a⟩)
 ·exact wpAny_getItem_str_slice (l:=some (_,_)) (u:=some (_,_)) (st:=none) c rfl (post_val_or_str ⟨Nat.le_trans (Txt.slice_le z _ _) d,a⟩)
def rSlV (K:W.Frag):V->Option Int->Option Int->Hp->VK->Prop:=fun x lo hi H Q=>rSlU K x lo hi H Q\/rSlS x lo hi H Q
theorem sl_V:SlR X (rSlV X.K):=SlR.or sl_U Jke
end
theorem hcl0 {X:Cx}:∀ (x:Str) (c:Addr),([]:List (Str × Addr)).lookup x=some c->X.env.cells.lookup x=some c:=fun _ _ h=>by simp at h
theorem hcs0 {X:Cx} {scope:Scope}:∀ p∈([]:List (Nat × Str)),X.N[p.1]?=some p.2/\X.env.scope.names.lookup p.2=some .cell/\(relabel scope X.env).names.lookup p.2=some .cell:=fun _ h=>by simp at h
theorem hhas0 {X:Cx} {scope:Scope} (h:scope.names.all (fun p=>p.2 != .free&&p.2 != .cell)=true):∀ y,((relabel scope X.env).names.lookup y=some .cell\/(relabel scope X.env).names.lookup y=some .free)->∃ c,([]:List (Str × Addr)).lookup y=some c:=fun y a=>by
 exfalso;have i:=all_eq_true.mp h;have b:∀ k,(relabel scope X.env).names.lookup y=some k->k≠.cell/\k≠.free:=fun k e=>by
  have m:=PySem.mem_of_lookup e;obtain ⟨⟨n,d⟩,j,g⟩:=mem_map.mp (show (y,k)∈scope.names.map _ from m);have z:=i _ j;simp only [bne_iff_ne,ne_eq,Bool.and_eq_true] at z;have f:(if (d == NameKind.free&&X.env.scope.kind == .function&&X.env.kindOf n == some .cell)=true then (n,NameKind.cell) else (n,d))=(y,k):=g;split at f
  ·rename_i c;rw [Bool.and_eq_true,Bool.and_eq_true] at c;exact absurd (beq_iff_eq.mp c.1.1) z.1
  ·cases f;exact ⟨z.2,z.1⟩
 rcases a with a | a
 ·exact (b _ a).1 rfl
 ·exact (b _ a).2 rfl
def tyD:D->String
 | .non=>"NoneType"
 | .bl _=>"bool"
 | .int _=>"int"
 | .str _=>"str"
 | .tup _=>"tuple"
 | .lst _=>"list"
theorem Rep.tyN {K:W.Frag} {H:Hp} {d:D} {x:V} (h:Rep K H d x):L2.tyN K H x (tyD d):=by
 cases d <;> simp only [Rep] at h
 ·subst h;rfl
 ·subst h;rfl
 ·subst h;rfl
 ·subst h;rfl
 ·obtain ⟨a,b,rfl,q,_⟩:=h;exact .inr ⟨rfl,b,q⟩
 ·obtain ⟨a,b,rfl,q,_⟩:=h;exact .inl ⟨rfl,b,q⟩
mutual
def szD:D->Prop
 | .int i=>Mth.Sz 4000 i
 | .str s=>s.length<=1000
 | .tup xs=>szL xs
 | .lst xs=>szL xs
 | _=>True
def szL:List D->Prop
 | []=>True
 | x::xs=>szD x/\szL xs
end
def lowB (c:Nat):Bool:=decide (97<=c/\c<=122)
def nameS (s:Str):Bool:=(decide (1<=s.length)&&decide (s.length<=8))&&s.cps.toList.all lowB
def nameB:D->Bool
 | .str s=>nameS s
 | _=>false
def Jc9:D->Bool
 | .int _=>true
 | _=>false
def fracB:D->Bool
 | .tup [.int a, .int b]=>decide (1<=b)&&decide (Mth.g a b=1)
 | _=>false
def Jci:D->Bool
 | .non=>true
 | d=>fracB d
def Jd9 (d e:D):Bool:=nameB d&&nameB e&&!eqD d e
def lessD:D->D->Bool
 | .tup [.int a, .int b], .tup [.int c, .int d]=>decide (a*d<c*b)
 | _,_=>false
def Jdk (l g:D):Bool:=Jci l&&Jci g&&!lessD g l
def tieB:D->Bool
 | .tup [n,s,e,l,g]=>nameB n&&Jd9 s e&&Jdk l g
 | _=>false
theorem Jgx:(Str.ofString "abcdefghijklmnopqrstuvwxyz").cps.toList=List.range' 97 26:=by decide
theorem Jgu (c:Nat):(!(Builtin.Str.occurrences (Str.ofString "abcdefghijklmnopqrstuvwxyz") ⟨#[c]⟩ 0 (Str.ofString "abcdefghijklmnopqrstuvwxyz").length 1).isEmpty)=lowB c:=by
 rw [StrLaws.found_one,Jgx];unfold lowB
 congr 1
 rw [List.mem_range'];refine propext ⟨fun ⟨i,a,e⟩=>by ac_nf,fun h=>⟨c-97,by ac_nf,by ac_nf⟩⟩
structure KCal (P:Program) (w:World) (K:W.Frag) (mg:Str->Option Value) (base:Heap) (k:Nat) (x:Str) (C:Addr) (ps:List Str) (sp:Sp):Prop where
 ex:∃ (f:Addr) (fd:FuncData),FnOk P w K mg base (CX1 P w) k f fd ps sp/\mg x=some (.ref C)/\Mk K C f/\Binds K fd ps []
structure MCal (P:Program) (w:World) (K:W.Frag) (mg:Str->Option Value) (base:Heap) (k:Nat) (m:Str) (Cs:Addr->Prop) (ps:List Str) (sp:Sp):Prop where
 ex:∃ (f:Addr) (fd:FuncData),FnOk P w K mg base (CX1 P w) k f fd ps sp/\(∀ C,Cs C->Cls K C/\Meth K C m f)/\W.keepIn K (.ref f)=true/\Binds K fd ps []
def JhM (Cs:Addr->Prop) (m:Str) (sp:Sp) (E:XK) (ta:TE) (t:TA):TE:=fun σ H Q=>ta σ H fun x H1=>∃ a C dx fs,x=.ref a/\H1 a=some (.ins C dx fs)/\Cs C/\fs.lookup m=none/\t σ H1 fun vs H2=>sp (x::vs) H2 Q E
section
variable {X:Cx} {k k':Nat} {x mn:Str} {C:Addr} {Cs:Addr->Prop} {ps:List Str} {sp:Sp} {E:XK} {p pos apos:Pos} {e o:Expr} {es:List Expr} {t:TA} {ta:TE}
theorem KCal.ev (G:KCal X.prog X.w X.K X.mg X.base k x C ps sp) (hr:Room k' X.A) (hk:k+1<=k') (hg:Gl X x) (hx:Jcf (CX1 X.prog X.w) X E) (ha:PA X (e::es) t)
  (hdb:(x == ("__debug__" : Str))=false:=by decide) (he:starEach (e::es) X.env=(false,eval e X.env)::starEach es X.env:=by rfl) (hpl:(backTo pos (starEach es X.env)).any (·.1)=false:=by rfl) :
  PE X (.Call (.Name x p) (e::es) [] pos) (tMake C sp [] E t):=by
 obtain ⟨f,c,F,b,M,a⟩:=G.ex;exact Jjj M F (hr.mono hk) hg b a .nil hx ha hdb he hpl
theorem MCal.m {pl:Sem Bool} (G:MCal X.prog X.w X.K X.mg X.base k mn Cs ps sp) (hr:Room k' X.A) (hk:k<=k') (hx:Jcf (CX1 X.prog X.w) X E) (ho:PE X o ta) (ha:PA X (e::es) t)
  (hst:starEach (e::es) X.env=(false,eval e X.env)::starEach es X.env:=by rfl) (hpl:(backTo pos (starEach es X.env)).any (·.1)=false:=by rfl)
  (ht:eval (.Call (.Attribute o mn apos) (e::es) [] pos) X.env=(do
   let ov <- eval o X.env
   standAt apos.atName
   let (f,first) <- holding [ov] (getMethod ov mn pl)
   callWith pos f first (backTo pos (starEach (e::es) X.env)) (backToKw pos (keywordEach [] X.env))):=by rfl) :
  PE X (.Call (.Attribute o mn apos) (e::es) [] pos) (JhM Cs mn sp E ta t):=by
 obtain ⟨f,M,F,c,n,y⟩:=G.ex;intro b s σ H Q I h;refine W.methodCall_KW (pl:=pl) (thn (ho b s σ H _ I h) fun u i ζ=>?_) ht;obtain ⟨x,j,I1,g,a,C,B,J,z,p,d,l,q⟩:=ζ;subst z;obtain rfl:u=Value.ref a:=g;refine Jea I1 p (c C d).1 (c C d).2 l ?_;refine W.callWith_K (first:=[.ref a]) (h₀:=X.base) I.ok.mod.kin n (thn (ha pos b i σ j _ I1 q) fun us D ⟨vs,L,I2,r,v⟩=>⟨I2.kIn,?_⟩) hst hpl;exact Jgm (us:=.ref a::us) (vs:=.ref a::vs) F (hr.mono hk) y .nil hx I2 (.cons rfl r) (by simpa using v)
theorem MCal.m0 {pl:Sem Bool} (G:MCal X.prog X.w X.K X.mg X.base k mn Cs ps sp) (hr:Room k' X.A) (hk:k<=k') (hx:Jcf (CX1 X.prog X.w) X E) (ho:PE X o ta)
  (ht:eval (.Call (.Attribute o mn apos) [] [] pos) X.env=(do
   let ov <- eval o X.env
   standAt apos.atName
   let (f,first) <- holding [ov] (getMethod ov mn pl)
   callWith pos f first (backTo pos (starEach [] X.env)) (backToKw pos (keywordEach [] X.env))):=by rfl) :
  PE X (.Call (.Attribute o mn apos) [] [] pos) (JhM Cs mn sp E ta tNil):=by
 obtain ⟨f,v,F,c,i,m⟩:=G.ex;intro b s σ H Q I h;refine W.methodCall_KW (pl:=pl) (thn (ho b s σ H _ I h) fun u r ζ=>?_) ht;obtain ⟨x,g,I1,e,a,C,p,t,n,j,d,l,q⟩:=ζ;subst n;obtain rfl:u=Value.ref a:=e;refine Jea I1 j (c C d).1 (c C d).2 l ?_;exact W.callWith_K0 (first:=[.ref a]) I1.kIn i (Jgm (us:=[.ref a]) (vs:=[.ref a]) F (hr.mono hk) m .nil hx I1 (.cons rfl .nil) (show sp ([.ref a]++[]) g Q E from q))
def rMulS:R2:=fun x y H Q=>match x,y with
 | .str z, .int n=>0<n/\n<1000/\z.length<=1000/\∀ z':Str,z'.cps.toList=(List.replicate n.toNat z.cps.toList).flatten->Q (.str z') H
 | x,y=>rMulU x y H Q
theorem Jeo:∀ (l:List (Array Nat)) (acc:Array Nat),(l.foldl (· ++ ·) acc).toList=acc.toList++(l.map (·.toList)).flatten
 | [],acc=>by simp
 | x::l,acc=>by
  rw [foldl_cons,Jeo l];simp
theorem Jhv:OpR X (binaryOp .Mult) rMulS:=fun a s σ H x y v u Q I d b q=>by
 unfold rMulS at q;split at q
 ·rename_i z n;obtain ⟨f,j,i,q⟩:=q;obtain ⟨t,rfl⟩:=d;obtain ⟨k,rfl⟩:=b;have h:z.cps.size=z.length:=rfl;have g:z.length*n.toNat<=1000*1000:=Nat.mul_le_mul i ∅;refine PySem.P.mul_str (by simp;ac_nf) (fun _ _=>?_) (fun _ _=>?_) ?_
  ·have : (1000:Int)<=(2 ^ 63-1)/n:=by
    rw [Int.le_ediv_iff_mul_le f];ac_nf
   ac_nf
  ·unfold Builtin.Str.tooLong;simp;have : (1000*1000:Nat)<=sizeLine:=by decide
   ac_nf
  ·rw [if_neg ∅];split
   ·rename_i c;refine ⟨.str z,H,I,⟨_,rfl⟩,q z ?_⟩;rcases Bool.or_eq_true _ _ |>.mp c with c | c
    ·obtain rfl:n=1:=by simpa using c
     simp
    ·have e:z.cps.toList=[]:=by
      have : z.length=0:=by simpa using c
      exact List.eq_nil_of_length_eq_zero (by rw [Array.length_toList];exact this)
     rw [e];simp
   ·refine ⟨?_, .str _,H,I.tok _,⟨_,rfl⟩,q _ ?_⟩
    ·show (Array.size _)<=sizeLine;rw [<- Array.length_toList,Jeo];simp;have : (1000*1000:Nat)<=sizeLine:=by decide
     rw [Nat.mul_comm,h];ac_nf
    ·rw [Jeo];simp
 ·exact Jje a s σ H _ _ v u Q I d b q
def rIsN:R2:=fun x y H Q=>y=.non/\Q (.bl (decide (x=.non))) H
def rNotN:R2:=fun x y H Q=>y=.non/\Q (.bl (!decide (x=.non))) H
theorem Jbj:OpR X (compareOp .Is) rIsN:=JjZ
theorem JbK:OpR X (compareOp .IsNot) rNotN:=Jjf
def Jkb (K:W.Frag):List V->Hp->VK->Prop:=fun xs H Q=>∃ p ys,xs=[.ref p]/\(SqL K H p ys\/SqT K H p ys)/\∀ l,H l=none->Q (.ref l) (upd H l (.lst ys))
theorem Jd1:CallR X (.type "list") (Jkb X.K):=JeZ
end
section
variable {K:W.Frag} {H:Hp} {Q:VK}
theorem y62y {x:V}:rIsN x .non H Q=Q (.bl (decide (x=.non))) H:=by simp [rIsN]
theorem y78y {x:V}:rNotN x .non H Q=Q (.bl (!decide (x=.non))) H:=by simp [rNotN]
theorem y68y {C:Addr} {sp:Sp} {dvs:List V} {E:XK} {t:TA} {σ : St}:tMake C sp dvs E t σ H Q=t σ H fun vs H1=>∀ x dx,H1 x=none->H1 dx=none->dx≠x->sp (.ref x::(vs++dvs)) (upd (upd H1 dx (.own x)) x (.ins C dx [])) (fun v H2=>v=.non/\Q (.ref x) H2) E:=rfl
theorem y69y {Cs:Addr->Prop} {mn:Str} {sp:Sp} {E:XK} {ta:TE} {t:TA} {σ : St}:JhM Cs mn sp E ta t σ H Q=ta σ H fun x H1=>∃ a C dx fs,x=.ref a/\H1 a=some (.ins C dx fs)/\Cs C/\fs.lookup mn=none/\t σ H1 fun vs H2=>sp (x::vs) H2 Q E:=rfl
theorem y4dy {ta:TE} {f:Str} {σ : St}:tFld K ta f σ H Q=ta σ H fun x H1=>∃ a C dx fs v,x=.ref a/\H1 a=some (.ins C dx fs)/\Cls K C/\Ja6 K C f/\fs.lookup f=some v/\Q v H1:=rfl
theorem y86y {ta tv:TE} {f:Str} {σ : St} {En:Ends}:sFld K ta tv f En σ H=tv σ H fun y H1=>ta σ H1 fun x H2=>∃ a C dx fs,x=.ref a/\H2 a=some (.ins C dx fs)/\Cls K C/\Ja6 K C f/\fs.length<1000/\En.nx σ (upd H2 a (.ins C dx (putF f y fs))):=rfl
theorem y2cy {T:String} {r:V->List V->Hp->VK->Prop} {to:TE} {t:TA} {σ : St}:tBM K T r to t σ H Q=to σ H fun x H1=>tyV K T x H1/\t σ H1 fun vs H2=>r x vs H2 Q:=rfl
theorem y59y {g:TG} {gs:TGs} {v:V} {r:List V} {σ : St} {R:St->Hp->Prop}:gCons g gs (v::r) σ H R=g v σ H fun σ' H'=>gs r σ' H' R:=by
 unfold gCons;refine propext ⟨fun ⟨a,b,e,h⟩=>?_,fun h=>⟨v,r,rfl,h⟩⟩;cases e;exact h
theorem y5by {σ : St} {R:St->Hp->Prop}:gNil [] σ H R=R σ H:=by unfold gNil;simp
theorem FrV.of_rep {x:V} {a b:Int} (h:Rep K H (.tup [.int a, .int b]) x):FrV K H x a b:=by
 simp only [Rep,RepL] at h;obtain ⟨p,c,rfl,q,v,r,rfl,rfl,d,e,rfl,rfl,rfl⟩:=h;exact ⟨p,rfl,q⟩
theorem Jb2 {d:D} (h:fracB d=true):∃ a b,d=.tup [.int a, .int b]/\1<=b/\Mth.g a b=1:=by
 unfold fracB at h;split at h
 ·rw [Bool.and_eq_true] at h;exact ⟨_,_,rfl,by simpa using h.1,by simpa using h.2⟩
 ·cases h
theorem Jef {d:D} (h:nameB d=true):∃ z,d=.str z/\nameS z=true:=by
 cases d <;> first | exact ⟨_,rfl,h⟩ | (simp [nameB] at h)
theorem Rep.str {d:Str} {x:V} (h:Rep K H (.str d) x):x=.str d:=by simpa only [Rep] using h
def nonD:D->Bool
 | .non=>true
 | _=>false
theorem Jhm {d:D} (h:d≠.non):nonD d=false:=by cases d <;> first | rfl | exact absurd rfl h
theorem Rep.nonV {d:D} {x:V} (hx:Rep K H d x):decide (x=.non)=nonD d:=by
 cases d <;> simp only [Rep] at hx
 ·subst hx;rfl
 ·subst hx;rfl
 ·subst hx;rfl
 ·subst hx;rfl
 ·obtain ⟨a,b,rfl,_⟩:=hx;rfl
 ·obtain ⟨a,b,rfl,_⟩:=hx;rfl
theorem putE {H':Hp} {l:Addr} {o:HO} (e:upd H l o=H'):H' l=some o:=by rw [<- e,Jaq]
theorem putN {H':Hp} {l b:Addr} {o o' u:HO} (e:upd H l o=H') (hl:H l=some o') (hb:H b=some u) (ne:u≠o'):H' b=some u:=by
 rw [<- e,Jai (ne_of hb hl ne)];exact hb
end
def tieF (n s e l g:V):List (Str × V):=[("name",n),("start",s),("end",e),("least",l),("greatest",g)]
section
variable {En:Ends} {σ : St} {H:Hp} {Q:VK} {ta tb te tc td:TE} {K:W.Frag}
end
def Jcg (cells:List (Str × Addr)):List (Str × NameKind)->List (Str × Addr)->List (Str × Addr)
 | [],acc=>acc
 | (n,k)::r,acc=>Jcg cells r (if k == .free then (n,(cells.lookup n).getD 0)::acc else acc)
theorem JfB {env:Env}:∀ (names:List (Str × NameKind)) (acc:List (Str × Addr)),(∀ p∈names,p.2=.free->∃ c,env.cells.lookup p.1=some c) ->
  (forIn names acc fun (p:Str × NameKind) cs=>(if p.2 == .free then do let c <- cellOf env p.1;pure (ForInStep.yield ((p.1,c)::cs)) else pure (ForInStep.yield cs):Sem (ForInStep (List (Str × Addr)))))=(pure (Jcg env.cells names acc):Sem (List (Str × Addr)))
 | [],acc,_=>by simp [Jcg]
 | (n,k)::r,acc,h=>by
  rw [List.forIn_cons];by_cases c:(k == .free)=true
  ·obtain ⟨a,ha⟩:=h (n,k) mem_cons_self (beq_iff_eq.mp c);have e:cellOf env n=pure a:=by unfold cellOf;rw [ha]
   simp only [c,if_true,e,pure_bind];have:=JfB (env:=env) r ((n,a)::acc) fun p hp=>h p (mem_cons_of_mem _ hp);simp only [Jcg,c,if_true,ha,Option.getD_some];exact this
  ·have c':(k == .free)=false:=by simpa using c
   simp only [c',Bool.false_eq_true,if_false,pure_bind];have:=JfB (env:=env) r acc fun p hp=>h p (mem_cons_of_mem _ hp);simp only [Jcg,c',Bool.false_eq_true,if_false];exact this
theorem JiR {scope:Scope} {env:Env} (h:∀ p∈scope.names,p.2=.free->∃ c,env.cells.lookup p.1=some c):closureFor scope env=pure (Jcg env.cells scope.names []):=by
 have:=JfB (env:=env) scope.names [] h;unfold closureFor;simp only [pure_bind];refine Eq.trans ?_ (congrArg (fun m:Sem (List (Str × Addr))=>m >>= pure) this |>.trans (by simp));first | rfl | (congr 1)
theorem Jd4 {cells:List (Str × Addr)}:∀ (names:List (Str × NameKind)) (acc:List (Str × Addr)),(∀ x c,acc.lookup x=some c->cells.lookup x=some c)->(∀ p∈names,p.2=.free->∃ c,cells.lookup p.1=some c) ->
  ∀ x c,(Jcg cells names acc).lookup x=some c->cells.lookup x=some c
 | [],acc,ha,_,x,c,h=>ha x c h
 | (n,k)::r,acc,ha,hf,x,c,h=>by
  simp only [Jcg] at h;refine Jd4 r _ ?_ (fun p hp=>hf p (mem_cons_of_mem _ hp)) x c h;intro y d hy;by_cases f:(k == .free)=true
  ·rw [if_pos f] at hy;obtain ⟨a,e⟩:=hf (n,k) mem_cons_self (beq_iff_eq.mp f);rw [List.lookup_cons] at hy;by_cases q:(y == n)=true
   ·rw [q] at hy;have q':y=n:=beq_iff_eq.mp q;subst q';have e':cells.lookup y=some a:=e;rw [e'] at hy ⊢;simpa using hy
   ·have q':(y == n)=false:=by simpa using q
    rw [q'] at hy;exact ha y d hy
  ·rw [if_neg f] at hy;exact ha y d hy
theorem Jd3 {cells:List (Str × Addr)}:∀ (names:List (Str × NameKind)) (acc:List (Str × Addr)) (y:Str),((∃ c,acc.lookup y=some c)\/(y,NameKind.free)∈names)->∃ c,(Jcg cells names acc).lookup y=some c
 | [],acc,y,h=>by
  rcases h with h | h
  ·exact h
  ·simp at h
 | (n,k)::r,acc,y,h=>by
  simp only [Jcg];refine Jd3 r _ y ?_;rcases h with ⟨c,h⟩ | h
  ·refine .inl ?_;split
   ·rw [List.lookup_cons];cases (y == n)
    ·exact ⟨c,h⟩
    ·exact ⟨_,rfl⟩
   ·exact ⟨c,h⟩
  ·rcases mem_cons.mp h with e | h
   ·cases e;refine .inl ?_;rw [if_pos ⋯,List.lookup_cons];simp
   ·exact .inr h
section
variable {X:Cx} {tg:Expr}
theorem Jgk {iter elt:Expr} {scope:Scope} {pos:Pos} {own:List Str} {cs:List (Nat × Str)} {wi:TI} {g:TG} {te:TE} (hc:X.calm=true) (hi:PI X tg iter wi)
  (hg:∀ fp s2 H2 C,PG (X.inc (own++cs.map (·.2)) scope (Jcg X.env.cells scope.names []) fp s2 H2 C) tg g) (he:∀ fp s2 H2 C,PE (X.inc (own++cs.map (·.2)) scope (Jcg X.env.cells scope.names []) fp s2 H2 C) elt te)
  (hfree:∀ p∈scope.names,p.2=.free->X.env.scope.names.lookup p.1=some .cell) (hcell:∀ y∈scope.names,y.2≠.cell) (hkind:scope.kind=.function) (hnames:∀ y∈scope.names,y.2=.local->scope.names.lookup y.1=some .local)
  (hcs:∀ p∈cs,X.N[p.1]?=some p.2/\X.env.scope.names.lookup p.2=some .cell/\(relabel scope X.env).names.lookup p.2=some .cell)
  (hs:∀ x,foldedSetIterable iter X.env x=pure x:=by intro _;rfl):PE X (.ListComp elt [⟨tg,iter,[],0⟩] scope pos) (tComp own.length cs wi g te):=by
 intro b s σ H Q I h;have l:∀ p∈scope.names,p.2=.free->∃ c,X.env.cells.lookup p.1=some c:=fun p r i=>I.ok.has p.1 (.inl (hfree p r i));refine JeG hc hi hg he (JiR l) hcell hkind hnames (Jd4 scope.names [] (fun _ _ z=>by simp at z) l) (fun y a=>Jd3 scope.names [] y (.inr ?_)) hcs hs b s σ H Q I h;have o:∀ k,(k=.cell\/k=.free)->(relabel scope X.env).names.lookup y=some k->(y,NameKind.free)∈scope.names:=fun k i e=>by
  have m:=PySem.mem_of_lookup e;obtain ⟨⟨n,j⟩,f,q⟩:=mem_map.mp (show (y,k)∈scope.names.map _ from m);have d:(if (j == NameKind.free&&X.env.scope.kind == .function&&X.env.kindOf n == some .cell)=true then (n,NameKind.cell) else (n,j))=(y,k):=q;split at d
  ·rename_i c;rw [Bool.and_eq_true,Bool.and_eq_true] at c;have:=beq_iff_eq.mp c.1.1;subst this;cases d;exact f
  ·cases d;rcases i with rfl | rfl
   ·exact absurd rfl (hcell _ f)
   ·exact f
 rcases a with a | a
 ·exact o _ (.inl rfl) a
 ·exact o _ (.inr rfl) a
theorem Jiy {scope sc:Scope} (h:scope.names.all (fun p=>p.2 != .free||(sc.names.lookup p.1 == some .cell))=true):∀ p∈scope.names,p.2=.free->sc.names.lookup p.1=some .cell:=fun p b a=>by
 have z:=all_eq_true.mp h p b;rw [a] at z;simpa using z
end
theorem hcs1 {X:Cx} {scope:Scope} {i:Nat} {x:Str} (a:X.N[i]?=some x) (b:X.env.scope.names.lookup x=some .cell) (c:(relabel scope X.env).names.lookup x=some .cell) :
  ∀ p∈[(i,x)],X.N[p.1]?=some p.2/\X.env.scope.names.lookup p.2=some .cell/\(relabel scope X.env).names.lookup p.2=some .cell:=fun p d=>by
 rcases mem_singleton.mp d with rfl
 exact ⟨a,b,c⟩
theorem Jex {a b:Int} (hb:1<=b) (h:Mth.g a b=1):Mth.top (0*b-a*1) (1*b) = -a/\Mth.bot (0*b-a*1) (1*b)=b:=by
 have d:(0*b-a*1:Int) = -a:=by simp
 have e:(1*b:Int)=b:=by simp
 rw [d,e];have c:b≠0:=by ac_nf
 have u:=Mth.JcX (Mth.Jbe (t:=-a) c) hb (Mth.g_low (t:=-a) c) (by rw [Mth.g_neg];exact h) (Mth.cross (t:=-a) c);exact u
section
variable {X:Cx} {tg:Expr}
end
section
variable {prog:Program} {w:World} {A:Around} {E:Value->Shared->Prop} {R:Result->Shared->Prop} {s:Shared}
end
def JhK (k:Nat) (cs:List (Nat × Str)) (wi:TI) (g:TG) (tt:TT) (te:TE):TE:=fun σ H Q=>wi σ H fun J H1=>∃ W:Nat->Nat->List V->Hp->Prop,(∃ m,W 0 m [] H1)/\∀ i m ys H2,W i m ys H2->ys.length<=sizeLine /\
  ((J.stop i H2/\∀ p,H2 p=none->Q (.ref p) (upd H2 p (.lst ys))) \/
   (J.go i H2/\∀ x H3,J.yld i H2 x H3->g x (List.replicate k none++JaW cs σ) H3 fun σ4 H4=>tt σ4 H4 fun b H5=>if b=true then te σ4 H5 fun y H6=>∃ m',m'<m/\W (i+1) m' (ys++[y]) H6 else ∃ m',m'<m/\W (i+1) m' ys H5))
section
variable {X:Cx} {tg:Expr}
end
section
variable {X:Cx} {pins:List (Addr × Obj)} {σ : St} {H:Hp} {s:Shared} {h':Heap}
end
def Itz (K:W.Frag) (a b:Addr):It :=
  ⟨fun i H=>∃ xs ys x y,SqL K H a xs/\SqL K H b ys/\xs[i]?=some x/\ys[i]?=some y,
   fun i H v H'=>∃ p x y,(∀ xs,SqL K H a xs->xs[i]?=some x)/\(∀ ys,SqL K H b ys->ys[i]?=some y)/\H p=none/\v=.ref p/\H'=upd H p (.tup [x,y]),
   fun i H=>∃ xs ys,SqL K H a xs/\SqL K H b ys/\(xs.length<=i\/ys.length<=i)⟩
section
variable {X:Cx} {elts:List Expr} {x1:Nat} {tp:Pos}
def iZip (K:W.Frag) (ta:TA):TI:=fun σ H R=>ta σ H fun vs H1=>∃ a b,vs=[.ref a, .ref b]/\(∃ xs,SqL K H1 a xs)/\(∃ ys,SqL K H1 b ys)/\R (Itz K a b) H1
end
section
variable {σ : St} {H:Hp} {Q:VK} {td ty tv tx:TE} {K:W.Frag} {En:Ends}
theorem y3dy:tDGet td ty σ H Q=td σ H fun x H1=>ty σ H1 fun y H2=>∃ a v,x=.ref a/\DGet H2 a y (some v)/\Q v H2:=rfl
theorem y46y:sDPut td ty tv En σ H=tv σ H fun v H1=>td σ H1 fun x H2=>ty σ H2 fun y H3=>∃ a H4,x=.ref a/\DPut H3 a y v H4/\En.nx σ H4:=rfl
theorem y43y:Jkk σ H Q=∀ p,H p=none->Q (.ref p) (upd H p (.dT [])):=rfl
theorem y42y:JiD σ H Q=∀ p,H p=none->Q (.ref p) (upd H p (.dK [])):=rfl
end
theorem hu1 {a b:Nat} (h:a+64<b):a+1<b:=by ac_nf
section
variable {X:Cx}
def rMul0:R2:=fun x y H Q=>match x,y with
 | .str z, .int n=>0<=n/\n<1000/\z.length<=1000/\∀ z':Str,z'.cps.toList=(List.replicate n.toNat z.cps.toList).flatten->Q (.str z') H
 | x,y=>rMulS x y H Q
theorem JaT:OpR X (binaryOp .Mult) rMul0:=fun a s σ H x y v u Q I c b q=>by
 unfold rMul0 at q;split at q
 ·rename_i z n;obtain ⟨g,d,f,q⟩:=q;by_cases e:n=0
  ·subst e;obtain ⟨t,rfl⟩:=c;obtain ⟨h,rfl⟩:=b;exact PySem.P.mul_str_none ⋯ ⋯ ⟨.str _,H,I.tok _,⟨_,rfl⟩,q Str.empty rfl⟩
  ·exact Jhv a s σ H _ _ v u Q I c b ⟨by ac_nf,d,f,q⟩
 ·exact Jhv a s σ H _ _ v u Q I c b q
end
section
variable {K:W.Frag} {H:Hp} {Q:VK} {σ : St} {td ty:TE}
theorem y6dy {i j:Int}:rMul0 (.int i) (.int j) H Q=(IntMulOk i j/\Q (.int (i*j)) H):=rfl
theorem y3ey:Jki td ty σ H Q=td σ H fun x H1=>∃ a,x=.ref a/\IsD H1 a/\ty σ H1 fun y H2=>∃ o,DGet H2 a y o/\Q (o.getD .non) H2:=rfl
end
theorem ForA.byL {K:W.Frag} {a:Addr} {xs:List V} {g:TG} {tb:TS} {D:Ends} {σ : St} {H:Hp} (hA:SqL K H a xs) (Pv:Nat->St->Hp->Prop) (h0:Pv 0 σ H) (hl:∀ i σ H',Pv i σ H'->SqL K H' a xs)
  (hs:∀ i x σ H,xs[i]?=some x->Pv i σ H->g x σ H fun σ2 H2=>tb { D with nx:=Pv (i+1),ct:=Pv (i+1),bk:=D.nx } σ2 H2) (hd:∀ σ H,Pv xs.length σ H->D.nx σ H):ForA K a g tb D σ H:=by
 refine .inl ⟨⟨xs,hA⟩,fun i m σ H=>Pv i σ H/\i<=xs.length/\m=xs.length-i,⟨_,h0,Nat.zero_le _,rfl⟩,?_⟩;rintro i m σ H ⟨b,h,rfl⟩;have d:=hl i σ H b;by_cases c:i<xs.length
 ·refine .inr ⟨⟨xs,xs[i],d,List.getElem?_eq_getElem c⟩,Pv (i+1),fun σ' H' p=>⟨_,Nat.sub_lt_sub_left c (Nat.lt_succ_self i),p,c,rfl⟩,?_⟩;rintro x H' ⟨rfl,f⟩;exact hs i x σ _ (f xs d) b
 ·have e:i=xs.length:=by ac_nf
  subst e;exact .inl ⟨⟨xs,d,Nat.le_refl _⟩,hd σ H b⟩
def ForJ (J:It) (g:TG) (tb:TS) (D:Ends) (σ : St) (H:Hp):Prop:=∃ W:Nat->Nat->St->Hp->Prop,(∃ m,W 0 m σ H)/\∀ i m σ H,W i m σ H ->
 (J.stop i H/\D.nx σ H)\/(J.go i H/\∃ N:St->Hp->Prop,(∀ σ' H',N σ' H'->∃ m',m'<m/\W (i+1) m' σ' H')/\∀ x H',J.yld i H x H'->g x σ H' fun σ2 H2=>tb { D with nx:=N,ct:=N,bk:=D.nx } σ2 H2)
theorem y56y {K:W.Frag} {ta:TA} {g:TG} {tb:TS} {D:Ends} {σ : St} {H:Hp}:tFor (iZip K ta) g tb D σ H=ta σ H fun vs H1=>∃ a b,vs=[.ref a, .ref b]/\(∃ xs,SqL K H1 a xs)/\(∃ ys,SqL K H1 b ys)/\ForJ (Itz K a b) g tb D σ H1:=rfl
theorem compL {K:W.Frag} {cs:List (Nat × Str)} {k:Nat} {g:TG} {te:TE} {σ : St} {a:Addr} {xs:List V} {H1:Hp} {Q:VK} (Pv:Nat->List V->Hp->Prop) (h0:Pv 0 [] H1) (hl:∀ i ys H',i<=xs.length->Pv i ys H'->SqL K H' a xs/\ys.length<=sizeLine)
  (hs:∀ i x ys H2,xs[i]?=some x->Pv i ys H2->g x (List.replicate k none++JaW cs σ) H2 fun σ4 H4=>te σ4 H4 fun y H5=>Pv (i+1) (ys++[y]) H5) (hd:∀ ys H2,Pv xs.length ys H2->∀ p,H2 p=none->Q (.ref p) (upd H2 p (.lst ys))) :
  ∃ W:Nat->Nat->List V->Hp->Prop,(∃ m,W 0 m [] H1)/\∀ i m ys H2,W i m ys H2->ys.length<=sizeLine/\(((Itl K a).stop i H2/\∀ p,H2 p=none->Q (.ref p) (upd H2 p (.lst ys))) \/
   ((Itl K a).go i H2/\∀ x H3,(Itl K a).yld i H2 x H3->g x (List.replicate k none++JaW cs σ) H3 fun σ4 H4=>te σ4 H4 fun y H5=>∃ m',m'<m/\W (i+1) m' (ys++[y]) H5)):=by
 refine ⟨fun i m ys H2=>Pv i ys H2/\i<=xs.length/\m=xs.length-i,⟨_,h0,Nat.zero_le _,rfl⟩,?_⟩;rintro i m ys H2 ⟨b,j,rfl⟩;obtain ⟨d,h⟩:=hl i ys H2 j b;refine ⟨h,?_⟩;by_cases c:i<xs.length
 ·refine .inr ⟨⟨xs,xs[i],d,List.getElem?_eq_getElem c⟩,?_⟩;rintro x H3 ⟨rfl,f⟩;have e:(fun (σ4:St) (H4:Hp)=>te σ4 H4 fun y H5=>Pv (i+1) (ys++[y]) H5)=fun σ4 H4=>te σ4 H4 fun y H5=>∃ m',m'<xs.length-i/\Pv (i+1) (ys++[y]) H5/\i+1<=xs.length/\m'=xs.length-(i+1):=by
   funext σ4 H4
   congr 1
   funext y H5
   exact propext ⟨fun q=>⟨_,Nat.sub_lt_sub_left c (Nat.lt_succ_self i),q,c,rfl⟩,fun ⟨_,_,q,_⟩=>q⟩
  rw [<- e];exact hs i x ys _ (f xs d) b
 ·have e:i=xs.length:=by ac_nf
  subst e;exact .inl ⟨⟨xs,d,Nat.le_refl _⟩,hd ys H2 b⟩
end L2
namespace Ch
open PySem
structure TD where
 nm:Str
 st:Str
 en:Str
 lo:Option (Int × Int)
 hi:Option (Int × Int)
structure SD where
 src:Str
 dst:Str
 c:Int × Int
 nm:Str
 fw:Bool
def fwd (t:TD):List SD:=match t.hi with
 | some h=>[⟨t.st,t.en,h,t.nm,true⟩]
 | none=>[]
def bwd (t:TD):List SD:=match t.lo with
 | some l=>[⟨t.en,t.st,(-l.1,l.2),t.nm,false⟩]
 | none=>[]
def steps (t:TD):List SD:=fwd t++bwd t
def all (ts:List TD):List SD:=ts.flatMap steps
abbrev Pr:=Str × Bool
def key (s:SD):Pr:=(s.nm,s.fw)
def lastA (acc:Option SD) (ss:List SD) (k:Pr):Option SD:=ss.foldl (fun a s=>if key s=k then some s else a) acc
def last (ss:List SD) (k:Pr):Option SD:=lastA none ss k
theorem Jh4 {t:TD} {s:SD} (h:s∈steps t):s.nm=t.nm:=by
 unfold steps fwd bwd at h;rcases mem_append.mp h with h | h
 ·split at h
  ·simp at h;rw [h]
  ·simp at h
 ·split at h
  ·simp at h;rw [h]
  ·simp at h
def addF (a c:Int × Int):Int × Int:=(Mth.top (a.1*c.2+c.1*a.2) (a.2*c.2),Mth.bot (a.1*c.2+c.1*a.2) (a.2*c.2))
structure FOk (n:Nat) (a:Int × Int):Prop where
 s1:Mth.Sz n a.1
 s2:Mth.Sz n a.2
 b1:1<=a.2
 g1:Mth.g a.1 a.2=1
theorem FOk.mono {m n:Nat} {a:Int × Int} (h:FOk m a) (k:m<=n):FOk n a:=⟨h.s1.mono k,h.s2.mono k,h.b1,h.g1⟩
end Ch
namespace L2
open PySem PySem.Spec PyProof.Rows Ch
def isTF:HO->Bool
 | .tup _=>true
 | .frz _ _=>true
 | _=>false
def SameT (H H':Hp):Prop:=∀ b u,isTF u=true->H b=some u->H' b=some u
theorem SameT.trans {H H1 H2:Hp} (a:SameT H H1) (b:SameT H1 H2):SameT H H2:=fun c o t h=>b c o t (a c o t h)
theorem Same.t {H H':Hp} (a:Same H H'):SameT H H':=fun b u _ h=>a b u h
theorem SameT.put {H H':Hp} {l:Addr} {o o':HO} (e:upd H l o=H') (hl:H l=some o') (ht:isTF o'=false):SameT H H':=fun b u t h=>by
 rw [<- e,Jai (ne_of h hl fun q=>by rw [q,ht] at t;cases t)];exact h
theorem SqT.sameT {K:W.Frag} {H H':Hp} {a:Addr} {xs:List V} (e:SameT H H') (h:SqT K H a xs):SqT K H' a xs:=by
 rcases h with (h | ⟨o,h⟩) | h
 ·exact .inl (.inl (e _ _ rfl h))
 ·exact .inl (.inr ⟨o,e _ _ rfl h⟩)
 ·exact .inr h
theorem FrV.sameT {K:W.Frag} {H H':Hp} {v:V} {a b:Int} (S:SameT H H') (h:FrV K H v a b):FrV K H' v a b:=by
 obtain ⟨p,e,q⟩:=h;exact ⟨p,e,q.sameT S⟩
def frD (a:Int × Int):D:=.tup [.int a.1, .int a.2]
def bD:Option (Int × Int)->D
 | none=>.non
 | some a=>frD a
def tdD (t:TD):D:=.tup [.str t.nm, .str t.st, .str t.en,bD t.lo,bD t.hi]
def pD (s:SD):D:=.tup [.str s.src, .str s.dst,frD s.c, .bl s.fw]
def BV (K:W.Frag) (H:Hp):Option (Int × Int)->V->Prop
 | none,v=>v=.non
 | some a,v=>FrV K H v a.1 a.2
theorem BV.rep {K:W.Frag} {H:Hp} {o:Option (Int × Int)} {v:V} (h:BV K H o v):Rep K H (bD o) v:=by
 cases o with
 | none=>simp only [bD,Rep];exact h
 | some a=>exact FrV.rep h
theorem BV.sameT {K:W.Frag} {H H':Hp} {o:Option (Int × Int)} {v:V} (S:SameT H H') (h:BV K H o v):BV K H' o v:=by
 cases o with
 | none=>exact h
 | some a=>exact FrV.sameT S h
def TV (K:W.Frag) (H:Hp) (t:TD) (x:V):Prop:=∃ b vl vg,x=.ref b/\SqT K H b [.str t.nm, .str t.st, .str t.en,vl,vg]/\BV K H t.lo vl/\BV K H t.hi vg
def PV (K:W.Frag) (H:Hp) (s:SD) (x:V):Prop:=∃ b v,x=.ref b/\SqT K H b [.str s.src, .str s.dst,v, .bl s.fw]/\FrV K H v s.c.1 s.c.2
def CV (H:Hp) (c:Pr) (x:V):Prop:=∃ b,x=.ref b/\H b=some (.tup [.str c.1, .bl c.2])
section
variable {K:W.Frag} {H H':Hp}
theorem TV.sameT {t:TD} {x:V} (S:SameT H H'):TV K H t x->TV K H' t x:=by rintro ⟨b,vl,a,e,q,c,d⟩;exact ⟨b,vl,a,e,q.sameT S,c.sameT S,d.sameT S⟩
theorem PV.sameT {s:SD} {x:V} (S:SameT H H'):PV K H s x->PV K H' s x:=by rintro ⟨b,v,e,q,h⟩;exact ⟨b,v,e,q.sameT S,h.sameT S⟩
theorem CV.sameT {c:Pr} {x:V} (S:SameT H H'):CV H c x->CV H' c x:=fun ⟨b,e,q⟩=>⟨b,e,S _ _ rfl q⟩
theorem TV.rep {t:TD} {x:V}:TV K H t x->Rep K H (tdD t) x:=fun ⟨b,vl,d,e,q,a,c⟩=>by
 simp only [tdD,Rep,RepL];exact ⟨b,_,e,q,_,_,rfl,rfl,_,_,rfl,rfl,_,_,rfl,rfl,_,_,rfl,a.rep,_,_,rfl,c.rep,rfl⟩
theorem PV.of {s:SD} {x:V} (h:Rep K H (pD s) x):PV K H s x:=by
 simp only [pD,frD,Rep,RepL] at h;obtain ⟨b,g,rfl,q,r,t,rfl,rfl,d,c,rfl,rfl,e,m,rfl,⟨p,f,rfl,a,o,j,rfl,rfl,l,i,rfl,rfl,rfl⟩,k,n,rfl,rfl,rfl⟩:=h;exact ⟨b, .ref p,rfl,q,p,rfl,a⟩
end
def All2 {α : Type} (P : α->V->Prop):List α->List V->Prop
 | [],xs=>xs=[]
 | a::as,xs=>∃ x r,xs=x::r/\P a x/\All2 P as r
section
variable {α : Type} {P P' : α->V->Prop}
theorem All2.mono:∀ {as:List α} {xs:List V},(∀ a x,P a x->P' a x)->All2 P as xs->All2 P' as xs
 | [],_,_,h=>h
 | a::as,xs,f,h=>by
  obtain ⟨x,r,e,h1,h2⟩:=h;exact ⟨x,r,e,f _ _ h1,All2.mono f h2⟩
theorem All2.length:∀ {as:List α} {xs:List V},All2 P as xs->xs.length=as.length
 | [],_,h=>by rw [show _=_ from h];rfl
 | a::as,xs,h=>by
  obtain ⟨x,r,e,h1,h2⟩:=h;rw [e,length_cons,length_cons,h2.length]
theorem All2.at_:∀ {as:List α} {xs:List V} {i:Nat} {x:V},All2 P as xs->xs[i]?=some x->∃ a,as[i]?=some a/\P a x
 | [],_,_,_,h,hx=>by rw [show _=_ from h] at hx;simp at hx
 | a::as,xs,i,y,h,hx=>by
  obtain ⟨x,r,e,h1,h2⟩:=h;subst e;cases i with
  | zero=>simp at hx;subst hx;exact ⟨a,rfl,h1⟩
  | succ i=>simpa using All2.at_ h2 (by simpa using hx)
theorem All2.get:∀ {as:List α} {xs:List V} {i:Nat} {a : α},All2 P as xs->as[i]?=some a->∃ x,xs[i]?=some x/\P a x
 | [],_,_,_,h,hx=>by simp at hx
 | a::as,xs,i,b,h,hx=>by
  obtain ⟨x,r,e,h1,h2⟩:=h;subst e;cases i with
  | zero=>simp at hx;subst hx;exact ⟨x,rfl,h1⟩
  | succ i=>simpa using All2.get h2 (by simpa using hx)
theorem All2.append:∀ {as bs:List α} {xs ys:List V},All2 P as xs->All2 P bs ys->All2 P (as++bs) (xs++ys)
 | [],bs,xs,ys,h,g=>by rw [show xs=[] from h];exact g
 | a::as,bs,xs,ys,h,g=>by
  obtain ⟨x,r,e,h1,h2⟩:=h;subst e;exact ⟨x,r++ys,rfl,h1,All2.append h2 g⟩
theorem All2.one {a : α} {x:V} (h:P a x):All2 P [a] [x]:=⟨x,[],rfl,h,rfl⟩
theorem All2.repL {K:W.Frag} {H:Hp} {f : α->D} (g:∀ a x,P a x->Rep K H (f a) x):∀ {as:List α} {xs:List V},All2 P as xs->RepL K H (as.map f) xs
 | [],xs,h=>by simp only [map_nil,RepL];exact h
 | a::as,xs,h=>by
  obtain ⟨x,r,e,h1,h2⟩:=h;simp only [map_cons,RepL];exact ⟨x,r,e,g _ _ h1,All2.repL g h2⟩
theorem All2.ofRepL {K:W.Frag} {H:Hp} {f : α->D} (g:∀ a x,Rep K H (f a) x->P a x):∀ {as:List α} {xs:List V},RepL K H (as.map f) xs->All2 P as xs
 | [],xs,h=>by simp only [map_nil,RepL] at h;exact h
 | a::as,xs,h=>by
  simp only [map_cons,RepL] at h;obtain ⟨x,r,e,h1,h2⟩:=h;exact ⟨x,r,e,g _ _ h1,All2.ofRepL g h2⟩
end
structure TOk (t:TD):Prop where
 n1:nameS t.nm=true
 n2:nameS t.st=true
 n3:nameS t.en=true
 ne:t.st≠t.en
 lo:∀ a,t.lo=some a->FOk 600 a
 hi:∀ a,t.hi=some a->FOk 600 a
 le:lessD (bD t.hi) (bD t.lo)=false
theorem len8 {z:Str} (h:nameS z=true):z.length<=8:=by
 unfold nameS at h;simp only [Bool.and_eq_true,decide_eq_true_eq] at h;exact h.1.2
theorem bD_ok {o:Option (Int × Int)} (h:∀ a,o=some a->FOk 600 a):Jci (bD o)=true/\szD (bD o):=by
 cases o with
 | none=>exact ⟨rfl,by simp only [bD,szD]⟩
 | some a=>
  have k:=h a rfl;refine ⟨by simp [bD,frD,Jci,fracB,k.b1,k.g1],?_⟩;simp only [bD,frD,szD,szL];exact ⟨k.s1.mono ⋯,k.s2.mono ⋯,trivial⟩
theorem TOk.tie {t:TD} (h:TOk t):tieB (tdD t)=true:=by
 have e:eqD (.str t.st) (.str t.en)=false:=by simp only [eqD,beq_eq_false_iff_ne];exact h.ne
 simp [tdD,tieB,nameB,Jd9,h.n1,h.n2,h.n3,e,Jdk,(bD_ok h.lo).1,(bD_ok h.hi).1,h.le]
theorem TOk.sz {t:TD} (h:TOk t):szD (tdD t):=by
 simp only [tdD,szD,szL];have:=len8 h.n1;have:=len8 h.n2;have:=len8 h.n3;exact ⟨by ac_nf,by ac_nf,by ac_nf,(bD_ok h.lo).2,(bD_ok h.hi).2,trivial⟩
section
variable {K:W.Frag} {H:Hp} {kvs:List (List Key × V)} {ss:List SD}
end
def CompJ (J:It) (k:Nat) (cs:List (Nat × Str)) (g:TG) (te:TE) (σ : St) (Q:VK) (H1:Hp):Prop:=∃ W:Nat->Nat->List V->Hp->Prop,(∃ m,W 0 m [] H1)/\∀ i m ys H2,W i m ys H2->ys.length<=sizeLine /\
  ((J.stop i H2/\∀ p,H2 p=none->Q (.ref p) (upd H2 p (.lst ys))) \/
   (J.go i H2/\∀ x H3,J.yld i H2 x H3->g x (List.replicate k none++JaW cs σ) H3 fun σ4 H4=>te σ4 H4 fun y H5=>∃ m',m'<m/\W (i+1) m' (ys++[y]) H5))
def Jf1 (J:It) (k:Nat) (cs:List (Nat × Str)) (g:TG) (tt:TT) (te:TE) (σ : St) (Q:VK) (H1:Hp):Prop:=∃ W:Nat->Nat->List V->Hp->Prop,(∃ m,W 0 m [] H1)/\∀ i m ys H2,W i m ys H2->ys.length<=sizeLine /\
  ((J.stop i H2/\∀ p,H2 p=none->Q (.ref p) (upd H2 p (.lst ys))) \/
   (J.go i H2/\∀ x H3,J.yld i H2 x H3->g x (List.replicate k none++JaW cs σ) H3 fun σ4 H4=>tt σ4 H4 fun b H5=>if b=true then te σ4 H5 fun y H6=>∃ m',m'<m/\W (i+1) m' (ys++[y]) H6 else ∃ m',m'<m/\W (i+1) m' ys H5))
section
variable {K:W.Frag} {k:Nat} {cs:List (Nat × Str)} {g:TG} {tt:TT} {te tl:TE} {σ : St} {H H1:Hp} {Q:VK} {a:Addr} {xs:List V}
theorem y34y:tComp k cs (iAny K tl) g te σ H Q=tl σ H fun x H1=>∃ a,x=.ref a/\(((∃ xs,SqL K H1 a xs)/\CompJ (Itl K a) k cs g te σ Q H1)\/((∃ xs,SqT K H1 a xs)/\CompJ (Itt K a) k cs g te σ Q H1)):=rfl
theorem y36y:JhK k cs (iAny K tl) g tt te σ H Q=tl σ H fun x H1=>∃ a,x=.ref a/\(((∃ xs,SqL K H1 a xs)/\Jf1 (Itl K a) k cs g tt te σ Q H1)\/((∃ xs,SqT K H1 a xs)/\Jf1 (Itt K a) k cs g tt te σ Q H1)):=rfl
theorem CompJ.list (Pv:Nat->List V->Hp->Prop) (h0:Pv 0 [] H1) (hl:∀ i ys H',i<=xs.length->Pv i ys H'->SqL K H' a xs/\ys.length<=sizeLine)
  (hs:∀ i x ys H2,xs[i]?=some x->Pv i ys H2->g x (List.replicate k none++JaW cs σ) H2 fun σ4 H4=>te σ4 H4 fun y H5=>Pv (i+1) (ys++[y]) H5) (hd:∀ ys H2,Pv xs.length ys H2->∀ p,H2 p=none->Q (.ref p) (upd H2 p (.lst ys))) :
  CompJ (Itl K a) k cs g te σ Q H1:=compL Pv h0 hl hs hd
end
theorem JhU {x f:Int} (h0:0<=x) (h1:x<2*f):x.fmod f=x\/x.fmod f=x-f:=by
 rw [Int.fmod_eq_emod_of_nonneg _ ∅];by_cases c:x<f
 ·exact .inl (Int.emod_eq_of_lt h0 c)
 ·refine .inr ?_;have e:(x-f+f) % f=(x-f) % f:=by simp
  rw [Int.sub_add_cancel] at e;rw [e,Int.emod_eq_of_lt ∅ ∅]
section
variable {ss:List SD} {c:Pr} {cs:List Pr} {s:SD} {tot:Int × Int} {f l:Str}
end
section
variable {K:W.Frag} {H:Hp} {Q:VK}
end
section
variable {prog:Program} {w:World} {A:Around} {E:Value->Shared->Prop} {s:Shared}
end
def addS (l:List Str) (z:Str):List Str:=if z∈l then l else l++[z]
section
variable {prog:Program} {w:World} {A:Around} {E:Value->Shared->Prop} {s:Shared}
end
section
variable {prog:Program} {w:World} {A:Around} {E:Value->Shared->Prop} {s:Shared}
end
section
variable {M:Model} {A:Around} {E:Value->Shared->Prop} {s:Shared}
end
section
variable {prog:Program} {w:World} {A:Around} {E:Value->Shared->Prop} {s:Shared}
section
variable {I a:Addr} {es:Array (Int × Value)} {i ep:Nat} {t:SetTable} {Q:Option Value->Shared->Prop}
end
end
section
variable {prog:Program} {w:World} {A:Around} {E:Value->Shared->Prop} {s:Shared}
end
section
variable {prog:Program} {w:World} {A:Around} {E:Value->Shared->Prop} {s:Shared}
theorem JiX {S r:Addr} {R:Result->Shared->Prop} (h:wpAny (model prog w) A.in1 (Builtin.List.listExtendWith (.ref S) (.ref r) (.ref S)) (fun fin s'=>match fin with | .done f=>R (.ok f) s' | .again c'=>c'.quiet=true/\codeAny (model prog w) A c' R s') (fun e s'=>R (.error e) s') s) :
  codeAny (model prog w) A (.builtin "list.__iadd__" ⟨[.ref S, .ref r],[]⟩) R s:=by
 refine codeAny_builtin (PySem.F.entry_list_iadd) ?_;rw [Around.under_plainId (PySem.F.plain_list_iadd) _];exact h
theorem JgH {r:Addr} {ss:List Str} {Q:Value->Shared->Prop} (h64:ss.length<64)
  (hx:∀ (R:Result->Shared->Prop),(∀ s' (vs:List Value) c' ss',(∀ b o,s.heap.get? b=some o->s'.heap.get? b=some o)->s'.gens=s.gens->s'.os=s.os->s.toks<=s'.toks ->
    s'.heap.get? s.heap.objs.size=some { cls:=.type "list",dict:=none,data:=.seq vs.toArray c',slots:=#[] }->StrsAre vs ss'->ss'.Perm ss->R (.ok (.ret (.ref s.heap.objs.size))) s') ->
   codeAny (model prog w) A.in1 (.builtin "list.__iadd__" ⟨[.ref s.heap.objs.size, .ref r],[]⟩) R { s with heap:=s.heap.push { cls:=.type "list",data:=.seq ([]:List Value).toArray } })
  (q:∀ s' l (out:Array Value) ss' e,(∀ b o,s.heap.get? b=some o->s'.heap.get? b=some o)->s'.gens=s.gens->s'.os=s.os->s.toks<=s'.toks->s.heap.objs.size<=l->s'.heap.get? l=some (seqObj "list" out e)->StrsAre out.toList ss'->ss'.Perm ss->sortedS ss'=true->Q (.ref l) s') :
  wpAny (model prog w) A (call (.builtin "sorted") [.ref r]) Q E s:=by
 refine Calls.call_function_entry kind_sorted plain_sorted entry_sorted (args_sorted1 _) ?_;unfold Builtin.«sorted»;refine wpAny_bind (m:=checkCount "sorted" 1 1 _) (wpAny_pure ?_);refine wpAny_bind ?_;unfold collect;refine wpAny_bind (wpAny_runValue (codeAny_builtin (PySem.F.entry_proto_collect) ?_));rw [Around.under_plainId (PySem.F.plain_proto_collect) _];show wpAny _ A.in1.in1 (newList [] >>= fun l=>again (.builtin "list.__iadd__" ⟨[l, .ref r],[]⟩)) _ _ s;refine wpAny_bind (wpAny_newObj_type ?_);refine wpAny_pure ⟨plainId_quiet (PySem.F.plain_list_iadd) _,hx _ fun s' vs c' v k t n B i a h=>?_⟩;refine wpAny_bind (m:=load s.heap.objs.size) (wpAny_load i (wpAny_pure ?_));have vl:vs.length<64:=by rw [a.length,h.length_eq];exact h64
 have y:(64:Nat)<=sizeLine:=by decide
 dsimp only;refine wpAny_bind (wpAny_newList ?_ (by show vs.length<=sizeLine;ac_nf));have d:(s'.heap.push (seqObj "list" vs.toArray 0)).get? s'.heap.objs.size=some (seqObj "list" vs.toArray 0):=Heap.get?_push_size _ rfl;refine wpAny_bind (wpAny_holding (wpAny_call_entry slot_list_sort ⟨_,d,rfl⟩ entry_list_sort (list_sort_treeK strKind_oneLt d a.keysOf (fun H G rest e=>keyKind_strs (by rw [<- e];exact a)) vl fun z g f=>⟨_,rfl,?_⟩) (args_list_sort _)));obtain ⟨c,p,C,u⟩:=sorted_out_str a g f;obtain ⟨x,D⟩:=sortedHeap_at (out:=(arrOf z).map (·.2)) d;refine wpAny_pure ⟨_,rfl,q _ s'.heap.objs.size _ c x (fun b o e=>?_) t n B ?_ D p (C.trans h) u⟩
 ·have j:=Heap.lt_size (k b o e);rw [sortedHeap_old (Nat.ne_of_lt j) (by rw [size_push'];exact Nat.lt_succ_of_lt j)];exact Heap.get?_push_of_some _ (k b o e)
 ·exact Nat.le_of_lt (Heap.lt_size i)
theorem JhJ:∀ (vs:List Value),(∀ v∈vs, ∃ x t,v=.str x t)->StrsAre vs (vs.map strOf)
 | [],_=>.nil
 | v::vs,h=>by
  obtain ⟨x,t,rfl⟩:=h v (by simp);exact .cons x t (JhJ vs fun u hu=>h u (by simp [hu]))
theorem JfY {K:Type} [DecidableEq K] {knd:PySem.KeyKind prog w K} {d:Addr} {kvs:List (K × Value)} {ep:Nat} {ss:List Str} {Q:Value->Shared->Prop} (hh:A.handled=none) (lo:(d == sysModules)=false) (hd:s.heap.DictAt knd d kvs ep) (h64:kvs.length<64)
  (hl:ss.length=kvs.length) (hk:∀ i k x v,kvs[i]?=some (k,x)->knd.is k v=true->∃ t,v=.str (ss.getD i ⟨#[]⟩) t)
  (q:∀ s' l (out:Array Value) ss' e,(∀ b o,s.heap.get? b=some o->s'.heap.get? b=some o)->s'.gens=s.gens->s'.os=s.os->s.toks<=s'.toks->s.heap.objs.size<=l->s'.heap.get? l=some (seqObj "list" out e)->StrsAre out.toList ss'->ss'.Perm ss->sortedS ss'=true->Q (.ref l) s') :
  wpAny (model prog w) A (call (.builtin "sorted") [.ref d]) Q E s:=by
 have N:(64:Nat)<=sizeLine:=by decide
 have G:=hd.lt_size;have J:A.in1.handled=none:=by simp [hh]
 refine JgH (ss:=ss) ∅ (fun R k=>?_) q;obtain ⟨B,j⟩:∃ B:Result->Shared->Prop, ∀ r s',B r s'↔∃ g y a m,r=.ok (.ret (.ref s.heap.objs.size))/\s'={ s with heap:=g,toks:=y }/\(∀ b o,b≠s.heap.objs.size->(s.heap.push { cls:=.type "list",data:=.seq ([]:List Value).toArray }).get? b=some o->g.get? b=some o)/\g.get? s.heap.objs.size=some { cls:=.type "list",dict:=none,data:=.seq a m,slots:=#[] }/\ItemsOf (fun i v=>∃ k x,kvs[i]?=some (k,x)/\knd.is k v=true) a kvs.length:=⟨_,fun _ _=>Iff.rfl⟩;have u:=codeAny_toks_of (n:=s.toks) (s:={ s with heap:=s.heap.push { cls:=.type "list",data:=.seq ([]:List Value).toArray } }) (Nat.le_refl _) (JiX (A:=A.in1) (R:=B)
  (W.kdl_extend (R:=B) (s:={ s with heap:=s.heap.push { cls:=.type "list",data:=.seq ([]:List Value).toArray } }) (W.kdl_dict (knd:=knd) (kvs:=kvs) (ep:=ep) lo) J (hd.push _) s.heap.objs.size (Nat.ne_of_gt G) (Nat.ne_of_gt G) (.ref s.heap.objs.size) 0 (Heap.get?_push_size _ rfl) (fun g y a m F hl f=>(j _ _).mpr ⟨g,y,a,m,rfl,rfl,F,hl,f⟩) ∅))
 refine codeAny_mono u ?_;rintro r s' ⟨S,I⟩;obtain ⟨g,y,a,m,rfl,rfl,F,p,f⟩:=(j _ _).mp I;have P:StrsAre a.toList ss:=by
  have h:∀ v∈a.toList, ∃ x t,v=.str x t:=fun v O=>by
   obtain ⟨i,H⟩:=List.getElem?_of_mem O;rw [Array.getElem?_toList] at H;obtain ⟨D,x,z,C⟩:=f.2 i v H;obtain ⟨t,e⟩:=hk i D x v z C;exact ⟨_,t,e⟩
  have:=JhJ _ h;have e:a.toList.map strOf=ss:=by
   refine List.ext_getElem? fun i=>?_;rw [List.getElem?_map,Array.getElem?_toList];have T:a.size=kvs.length:=f.1;by_cases c:i<kvs.length
   ·have z:a[i]?=some a[i]:=Array.getElem?_eq_getElem ∅;obtain ⟨D,x,C,M⟩:=f.2 i _ z;obtain ⟨t,L⟩:=hk i D x _ C M;rw [z,Option.map_some,L,List.getElem?_eq_getElem ∅];simp [strOf,List.getD_eq_getElem?_getD,List.getElem?_eq_getElem (show i<ss.length by ac_nf)]
   ·rw [Array.getElem?_eq_none ∅,List.getElem?_eq_none ∅];rfl
  rw [e] at this;exact this
 exact k _ a.toList m ss (fun b o e=>F b o (Nat.ne_of_lt (Heap.lt_size e)) (Heap.get?_push_of_some _ e)) rfl rfl S (by rw [Array.toArray_toList];exact p) P (.refl _)
end
theorem Ji3:typeLookup (.type "list") "keys"=pure none:=by rw [typeLookup_type,builtinLookup_eq_fast];kernel_rfl
section
variable {prog:Program} {w:World} {A:Around} {E:Value->Shared->Prop} {s:Shared} {a:Addr} {its:Array Value} {n:Nat}
theorem Ji0 {Q:Option Value->Shared->Prop} (hh:A.handled=none) (hx:s.heap.get? a=some { cls:=.type "list",dict:=none,data:=.seq its n,slots:=#[] })
   (q:∀ h' t',(∀ b o,s.heap.get? b=some o->h'.get? b=some o)->Q none { s with heap:=h',toks:=t' }) :
    wpAny (model prog w) A (getAttr? (.ref a) "keys") Q E s:=by
  obtain ⟨i,g,d,l,j⟩:=s;have h:∀ c,(⟨i,g,d,c,j⟩:Shared).TypeIs (.ref a) "list":=fun _=>⟨_,hx,rfl⟩;have u:=sub_AttributeError;have t:=PySem.F.slot_list_getattribute.lookup;have k:=PySem.F.slot_list_getattribute.bind (.ref a);have p:=am_list_getattr_none;unfold getAttr?;unfold getAttrBy?;unfold getAttrBy;repeat (any_goals (first | assumption | exact h _ | ((with_reducible show wpAny _ _ (call (Value.builtin "list.__getattribute__") _ _) _ _ _);refine call_meets PySem.F.slot_list_getattribute (h _) am_entry_list_getattribute (PySem.F.args_list_getattribute_2 _ _) (meets_getattribute_miss_list a its n #[] "keys" _ Ji3 (by decide +kernel) ⋯) ⟨hx,hh,fun h' c e f=>?_⟩) | wp_step))
  obtain ⟨t',m,r⟩:=f.there;show wpAny _ _ (getattributeRaised _ _ _ _ _ _ _) _ _ _;unfold getattributeRaised;repeat (any_goals (first | assumption | wp_step))
  exact q h' c f.keeps
end
theorem Je1:entryFor table "dict.update.loop"=some Builtin.«dict.update.loop»:=entryFor_of_tree (by kernel_rfl)
theorem JcQ:plainId "dict.update.loop"=true:=by decide +kernel
def dkv (key:Nat->Str) (val:Nat->Value) (i:Nat):List (Key × Value):=(List.range i).foldl (fun l j=>PySem.stored l (Sum.inr (key j)) (val j)) []
theorem Jes (key:Nat->Str) (val:Nat->Value) (i:Nat):dkv key val (i+1)=PySem.stored (dkv key val i) (Sum.inr (key i)) (val i):=by
 unfold dkv;rw [List.range_succ,foldl_append];rfl
theorem JfD (key:Nat->Str) (val:Nat->Value):∀ i,(dkv key val i).length<=i
 | 0=>Nat.le_refl _
 | i+1=>by
  have:=JfD key val i;rw [Jes];unfold PySem.stored;split <;> simp <;> ac_nf
section
variable {prog:Program} {w:World} {A:Around} {E:Value->Shared->Prop} {s:Shared}
def Jc4 (h:Heap) (a:Addr) (k v:Value):Prop:=∃ o c,h.get? a=some o/\o.cls=.type "tuple"/\o.data=.seq #[k,v] c
theorem Jc4.at_ {h h':Heap} {a:Addr} {k v:Value} (x:Jc4 h a k v) (m:∀ o,h.get? a=some o->h'.get? a=some o):Jc4 h' a k v:=by
 obtain ⟨o,c,e,r⟩:=x;exact ⟨o,c,m o e,r⟩
theorem Ji5 {z:Str} {t:Tok}:(Jaz prog w).is (Sum.inr z) (.str z t)=true:=by
 show keyIs (Sum.inr z) (.str z t)=true;simp [keyIs,Value.isStrOf]
theorem JgZ {R:Result->Shared->Prop} {I:Addr} {fp wr:List Addr} {G:Array GenState->Array GenState->Prop} {n:Nat} {P:Nat->Value->Prop} {St:Nat->Shared->Prop}
  (W:WalksS prog w A.in1 I fp wr G n P St) (d:Addr) (hdf:d∉fp) (adr:Nat->Addr) (key:Nat->Str) (val:Nat->Value) (hP:∀ i v,P i v->v=.ref (adr i)) (nd:∀ i,i<n->adr i≠d) (nw:∀ i,i<n->adr i∉wr) (hz:n<=sizeLine) :
  ∀ (k i:Nat) (s:Shared),n-i=k->i<=n->St i s->s.heap.DictOf (Jaz prog w) d (dkv key val i)->(∀ j,j<n->∃ tk,Jc4 s.heap (adr j) (.str (key j) tk) (val j)) ->
   (∀ s',Moved (d::wr) G s s'->s'.heap.DictOf (Jaz prog w) d (dkv key val n)->R (.ok (.ret .none)) s') ->
   codeAny (model prog w) A (.builtin "dict.update.loop" ⟨[.ref d, .ref I, .int (i:Int) 0, .none],[]⟩) R s:=by
 have L:d∉wr:=fun h=>hdf (W.sub _ h);have N:∀ b∈wr,b∈d::wr:=fun b h=>mem_cons_of_mem _ h;intro k;induction k with
 | zero=>
  intro i s Z U E y l q;have : i=n:=by ac_nf
  subst this;refine codeAny_builtin Je1 ?_;rw [Around.under_plainId JcQ _];refine wpAny_bind (m:=pyNext (.ref I)) (W.done s _ _ E fun s' f=>?_);refine wpAny_bind (m:=Builtin.Dict.addKeywords d []) (wpAny_pure (wpAny_pure ?_));refine q s' (f.mono N) ?_;obtain ⟨o,r,K,F,rest⟩:=y;exact ⟨o,r,K,f.heap d o L F,rest⟩
 | succ k ih=>
  intro i s Z U E y l q;have c:i<n:=by ac_nf
  refine codeAny_builtin Je1 ?_;rw [Around.under_plainId JcQ _];refine wpAny_bind (m:=pyNext (.ref I)) (W.item i s _ _ c E fun v s' X t f=>?_);rw [hP i v X];have p:s'.heap.DictOf (Jaz prog w) d (dkv key val i):=by
   obtain ⟨o,r,K,F,rest⟩:=y;exact ⟨o,r,K,f.heap d o L F,rest⟩
  have a:∀ j,j<n->∃ tk,Jc4 s'.heap (adr j) (.str (key j) tk) (val j):=fun j g=>by
   obtain ⟨tk,e⟩:=l j g;exact ⟨tk,e.at_ fun o z=>f.heap _ o (nw j g) z⟩
  obtain ⟨tk,ot,ct,M,x,H⟩:=a i c;have dl:=JfD key val i;refine wpAny_bind (wpAny_holding ?_);refine wpAny_bind (wpAny_tryCatch ?_);unfold Builtin.Dict.pairItems;refine wpAny_bind (wpAny_typeOf (T:="tuple") ⟨_,M,x⟩ ?_);rw [if_pos ⋯];unfold seqItems?;refine wpAny_bind (wpAny_bind (wpAny_load M ?_));rw [H];refine wpAny_pure (wpAny_pure ?_);show wpAny _ _ (holding [Value.str (key i) tk,val i] (dictSet d (.str (key i) tk) (val i))) _ _ _;refine wpAny_holding (wpAny_dictSet_pairs (knd:=Jaz prog w) (k:=Sum.inr (key i)) Ji5 p (fun O Y B=>?_) ∅);have J:O.DictOf (Jaz prog w) d (dkv key val (i+1)):=by
   rw [Jes];exact Y
  refine wpAny_pure ⟨plainId_quiet JcQ _,ih (i+1) { s' with heap:=O,toks:=s'.toks+1 } ∅ c (W.frame _ s' _ _ t (Nat.le_succ _) fun b C o e=>?_) J (fun j g=>?_) fun Q V D=>?_⟩
  ·rw [B.2 b (fun h:b=d=>hdf (h ▸ C))];exact e
  ·obtain ⟨u,S⟩:=a j g;exact ⟨u,S.at_ fun o z=>(B.2 _ (nd j g)).trans z⟩
  ·refine q Q (Moved.trans W.gtrans ((f.mono N).then_heap (Nat.le_succ _) fun b o C e=>?_) V) D;rw [B.2 b (fun h:b=d=>C (by rw [h];exact mem_cons_self))];exact e
theorem Jdl {l:Addr} {items:Array Value} {c0:Nat} {Q:Value->Shared->Prop} (hh:A.handled=none) (hl:s.heap.get? l=some { cls:=.type "list",dict:=none,data:=.seq items c0,slots:=#[] }) (adr:Nat->Addr) (key:Nat->Str) (val:Nat->Value)
  (hP:∀ (i:Nat) (v:Value),items[i]?=some v->v=.ref (adr i)) (tup:∀ j,j<items.size->∃ tk,Jc4 s.heap (adr j) (.str (key j) tk) (val j)) (hz:items.size<=sizeLine)
  (q:∀ h' tk,(∀ b o,s.heap.get? b=some o->h'.get? b=some o)->h'.DictOf (Jaz prog w) s.heap.objs.size (dkv key val items.size)->Q (.ref s.heap.objs.size) { s with heap:=h',toks:=tk }) :
  wpAny (model prog w) A (call (.type "dict") [.ref l]) Q E s:=by
 refine callType_codes (Q₁:=fun g C=>g=.ref s.heap.objs.size/\C={ s with heap:=s.heap.push { cls:=.type "dict",data:=.dict #[] } }) (PySem.F.kt_called_dict) (PySem.F.kt_typeCall_dict_1 _) (PySem.F.entry_dict_init) (kt_code_dict_new _ ⟨rfl,rfl⟩) ?_;rintro g C ⟨rfl,rfl⟩;have m:(s.heap.push { cls:=.type "dict",data:=.dict #[] }).DictOf (Jaz prog w) s.heap.objs.size []:=Heap.DictOf.new s.heap;refine ⟨m.typeIs,PySem.F.args_dict_init_2 _ _,?_⟩;generalize k:({ cls:=.type "dict",data:=.dict #[] }:Obj)=o0 at m ⊢;have x:(s.heap.push o0).get? l=some { cls:=.type "list",dict:=none,data:=.seq items c0,slots:=#[] }:=Heap.get?_push_of_some _ hl;have S:=Heap.lt_size hl;have W:(s.heap.push o0).objs.size=s.heap.objs.size+1:=Heap.size_push ..;unfold Builtin.«dict.__init__»;refine wpAny_bind ?_;unfold Builtin.Dict.selfAndRest;refine wpAny_bind (wpAny_notOrdered_dict m.typeIs (wpAny_pure ?_));show wpAny _ _ (Builtin.Dict.updateFrom "dict.__init__" s.heap.objs.size (.ref l) [] Value.none) _ _ _;unfold Builtin.Dict.updateFrom;refine wpAny_bind (wpAny_typeOf (T:="list") ⟨_,x,rfl⟩ ?_);rw [if_pos ⋯];have V:A.in1.in1.handled=none:=by simp [hh]
 refine wpAny_bind (Ji0 V x fun f R h=>?_);refine wpAny_ite_split (fun _=>?_) (fun z=>absurd rfl z);refine wpAny_bind (wpAny_rule ?_);have G:=h _ _ x;have D:f.DictOf (Jaz prog w) s.heap.objs.size []:=by
  obtain ⟨o,y,J,k,rest⟩:=m;exact ⟨o,y,J,h _ _ k,rest⟩
 have a:s.heap.objs.size<f.objs.size:=by
  obtain ⟨o,y,J,k,rest⟩:=D;exact Heap.lt_size k
 have H:f.IsList l items:=⟨_,G,rfl,c0,rfl⟩;refine wpAny_bind (wpAny_pyIter_list (s:=⟨f,s.gens,s.drawn,R,s.os⟩) H ?_);have B:∀ j,j<items.size->adr j<s.heap.objs.size:=fun j d=>by
  obtain ⟨tk,o,c,e,_⟩:=tup j d;exact Heap.lt_size e
 have r:l<f.objs.size:=Heap.lt_size G;have p:A.in1.in1.handled=none:=by simp [hh]
 refine wpAny_pure ⟨plainId_quiet JcQ _,?_⟩;refine JgZ ((Walks.list p f.objs.size l (Nat.ne_of_lt r) items).toS) s.heap.objs.size (by simp only [mem_cons,List.not_mem_nil,or_false,not_or];exact ⟨Nat.ne_of_lt a,Nat.ne_of_gt S⟩) adr key val hP (fun j d=>Nat.ne_of_lt (B j d)) (fun j d=>by simp only [mem_cons,List.not_mem_nil,or_false];exact Nat.ne_of_lt (Nat.lt_trans (B j d) a)) hz items.size 0 _ ∅ (Nat.zero_le _) ⟨⟨_,Heap.get?_push_size _ rfl,rfl,rfl⟩,H.push _⟩ (D.push _) (fun j d=>?_) fun M n U=>?_
 ·obtain ⟨tk,e⟩:=tup j d;exact ⟨tk,e.at_ fun o z=>Heap.get?_push_of_some _ (h _ _ (Heap.get?_push_of_some _ z))⟩
 ·obtain ⟨h',K,O,t,u⟩:=M;have N:K=s.gens:=n.gens;have P:O=s.drawn:=n.drawn;have L:u=s.os:=n.os;subst N;subst P;subst L;refine ⟨rfl,q h' t (fun b o e=>?_) U⟩;have I:=Heap.lt_size e;refine n.heap b o ?_ (Heap.get?_push_of_some _ (h _ _ (Heap.get?_push_of_some _ e)));simp only [mem_cons,List.not_mem_nil,or_false,not_or];exact ⟨Nat.ne_of_lt I,Nat.ne_of_lt (Nat.lt_trans I a)⟩
end
section
variable {X:Cx} {pins:List (Addr × Obj)} {σ : List (Option V)} {H:Hp} {s s':Shared}
theorem Inv.like (I:Inv X pins σ H { s with heap:=s'.heap,toks:=s'.toks }) (eg:s'.gens=s.gens) (eo:s'.os=s.os):Inv X pins σ H s' :=
 ⟨I.ok,by rw [eo];exact I.os,by rw [eg];exact I.bare,I.base,I.loc,I.cell,I.free,I.freeC,I.pin,I.hok,I.len⟩
theorem Jfw:∀ {vs:List Value} {ss:List Str},StrsAre vs ss->Vals (ss.map V.str) vs
 | _,_, .nil=>.nil
 | _,_, .cons z t r=>.cons ⟨t,rfl⟩ (Jfw r)
theorem Jfs:∀ {vs:List Value} {ss:List Str},Vals (ss.map V.str) vs->StrsAre vs ss
 | [],[],_=>.nil
 | [],_::_,h=>by cases h
 | _::_,[],h=>by cases h
 | v::vs,z::ss,h=>by
  cases h with
  | cons h1 h2=>
   obtain ⟨t,rfl⟩:=h1;exact .cons z t (Jfs h2)
def JgL (out ss:List Str):Prop:=out.Perm ss/\sortedS out=true
def Jkc (xs:List V) (H:Hp) (Q:VK):Prop:=∃ d kvs ss,xs=[.ref d]/\H d=some (.dK kvs)/\kvs.map (·.1)=ss.map Sum.inr/\ss.length<64/\∀ l out,H l=none->JgL out ss->Q (.ref l) (upd H l (.lst (out.map V.str)))
theorem Jd2 (hc:X.calm=true):CallR X (.builtin "sorted") Jkc:=by
 intro K s σ H xs Z Q I r h;obtain ⟨d,c,ss,rfl,e,B,T,q⟩:=h;obtain ⟨u,rfl,M⟩:=vals1 r;cases M;obtain ⟨R,P,p,g,F⟩:=dk_of I.hok e;obtain ⟨ep,D⟩:=F.dictAt;have sl:(64:Nat)<=sizeLine:=by decide
 have lk:ss.length=c.length:=by simpa using (congrArg List.length B).symm
 have W:p.length=c.length:=g.length.symm;have f:p.map (·.1)=c.map (·.1):=by
  clear F D B lk W R q e;induction g with
  | nil=>rfl
  | cons h1 _ ih=>
   rw [map_cons,map_cons,ih,h1.1]
 refine JfY (ss:=ss) (I.ok.hd hc) P D ∅ ∅ (fun i k x v O U=>?_) fun E l j a Y k N L et J S C n m=>?_
 ·have G:(p.map (·.1))[i]?=some k:=by rw [List.getElem?_map,O];rfl
  rw [f,B,List.getElem?_map] at G;obtain ⟨z,A,rfl⟩:=Option.map_eq_some_iff.mp G;rcases JaI (show keyIs (Sum.inr z) v=true from U) with ⟨b,hb,_⟩ | ⟨y,t,hy,rfl⟩
  ·cases hb
  ·cases hy;exact ⟨t,by rw [List.getD_eq_getElem?_getD,A];rfl⟩
 ·have lo:j.toList.length<=sizeLine:=by
   rw [C.length,n.length_eq];ac_nf
  refine ⟨.ref l,_,Inv.like (s:=s) (I.laid (t':=E.toks) (o:=.lst (a.map V.str)) k J (show ObjOk X.prog X.w _ E.heap l (.lst (a.map V.str)) from ⟨by rw [length_map,n.length_eq];ac_nf,j.toList,Y,Jfw C,by rw [Array.toArray_toList];exact S⟩)) N L,rfl,q l a (I.hok.fresh J) ⟨n,m⟩⟩
def Jka:V->List V->Hp->VK->Prop:=fun x vs H Q=>∃ (l:Addr) (ss:List Str) (z:Str) (j:Nat),x=.ref l/\vs=[.str z]/\H l=some (.lst (ss.map V.str))/\ss[j]?=some z/\(∀ m,m<j->ss[m]?≠some z)/\Q (.int (j:Int)) H
theorem Jgh:MtM X "list.index" Jka:=by
 intro D s σ H x T v R Q I K O h;obtain ⟨l,b,z,j,rfl,rfl,N,E,p,q⟩:=h;cases K;obtain ⟨u,rfl,G⟩:=O.one;obtain ⟨t,rfl⟩:=G;obtain ⟨M,a,n,r,W,e⟩:=I.lstM N;have w:=Jfs r;have P:=w.length;have S:j<b.length:=(List.getElem?_eq_some_iff.mp E).1;have U:a.toArray.size=b.length:=by rw [size_toArray];exact P
 have f:∀ m (o:m<a.toArray.size), ∃ c d,b[m]?=some d/\a.toArray[m]=.str d c:=fun m o=>by
  have g:m<b.length:=by ac_nf
  obtain ⟨c,C⟩:=w.get m b[m] (List.getElem?_eq_getElem g);refine ⟨c,b[m],List.getElem?_eq_getElem g,?_⟩;rw [List.getElem?_eq_getElem (l:=a) (i:=m) (by simpa using o)] at C;simpa using C
 have V:(sizeLine:Int)<2 ^ 63-1:=by decide
 have L:b.length<=sizeLine:=by simpa using M
 refine call_meets F.slot_list_index ⟨_,e,rfl⟩ F.entry_list_index (F.args_list_index_2 _ _) (MeetsSeq.list_index l a.toArray n (.str z t) (fun y=>strOf y == z) (fun y J=>?_) j ∅ ∅ ?_ fun m o A=>?_) ⟨e,?_⟩
 ·obtain ⟨d,c,rfl⟩:=w.all y (by simpa using J);have:=SeqRoads2.EqGives.str d z c t;rw [SeqAt.str_beq] at this;exact this
 ·obtain ⟨c,d,k,B⟩:=f j ∅;rw [E] at k;cases k;rw [B];simp [strOf]
 ·obtain ⟨c,d,k,B⟩:=f m o;rw [B];have:=p m A;rw [k] at this;simp only [strOf,beq_eq_false_iff_ne];exact fun h=>this (by rw [h])
 ·exact ⟨.int (j:Int),H,I.tok _,⟨_,rfl⟩,q⟩
def Jc5 (ps:List (Str × V)):List (Key × V):=ps.foldl (fun l p=>putK l (Sum.inr p.1) p.2) []
def Jj9 (xs:List V) (H:Hp) (Q:VK):Prop:=∃ (l:Addr) (as:List Addr) (ps:List (Str × V)),xs=[.ref l]/\H l=some (.lst (as.map V.ref))/\as.length=ps.length/\(∀ (i:Nat) (a:Addr) (p:Str × V),as[i]?=some a->ps[i]?=some p->H a=some (.tup [.str p.1,p.2]))/\∀ d,H d=none->Q (.ref d) (upd H d (.dK (Jc5 ps)))
theorem Jgr (hc:X.calm=true):CallR X (.type "dict") Jj9:=by
 intro P s σ H xs us Q I r h;obtain ⟨l,b,f,rfl,e,hl,Z,q⟩:=h;obtain ⟨u,rfl,W⟩:=vals1 r;cases W;obtain ⟨hz,A,n,Y,J,el⟩:=I.lstM e;have G:b.length<=sizeLine:=by simpa using hz
 have U:A.length=b.length:=by simpa using J.symm
 have pr:∀ j,j<b.length->∃ u a p d,b[j]?=some a/\f[j]?=some p/\RelV p.2 u/\Jc4 s.heap a (.str p.1 d) u:=fun j D=>by
  have y:=List.getElem?_eq_getElem D;have w:=List.getElem?_eq_getElem (l:=f) (i:=j) ∅;obtain ⟨_,ts,B,o,ho,F,nn,hd⟩:=I.hok _ _ (Z j _ _ y w);cases B with
  | cons r1 B=>
   cases B with
   | cons r2 B=>
    cases B;obtain ⟨d,rfl⟩:=r1;exact ⟨_,_,_,d,y,w,r2,o,nn,ho,F,hd⟩
 obtain ⟨C,g⟩:=Classical.skolem.mp (show ∀ j:Nat, ∃ u:Value,j<b.length->∃ a p d,b[j]?=some a/\f[j]?=some p/\RelV p.2 u/\Jc4 s.heap a (.str p.1 d) u from fun j=>by
  by_cases c:j<b.length
  ·obtain ⟨u,h⟩:=pr j c;exact ⟨u,fun _=>h⟩
  ·exact ⟨.none,fun z=>absurd z c⟩)
 have m:∀ j a,b[j]?=some a->b.getD j 0=a:=fun j a h=>by rw [List.getD_eq_getElem?_getD,h];rfl
 have t:∀ j (p:Str × V),f[j]?=some p->(f.getD j (⟨#[]⟩, .non)).1=p.1:=fun j p h=>by rw [List.getD_eq_getElem?_getD,h];rfl
 have L:A.toArray.size=b.length:=by rw [size_toArray];exact U
 refine Jdl (I.ok.hd hc) el (fun j=>b.getD j 0) (fun j=>(f.getD j (⟨#[]⟩, .non)).1) C (fun j v K=>?_) (fun j D=>?_) ∅ fun h' d k M=>?_
 ·rw [List.getElem?_toArray] at K;have D:j<b.length:=by have:=(List.getElem?_eq_some_iff.mp K).1;ac_nf
  obtain ⟨u,R,S⟩:=Y.get (i:=j) (x:=.ref b[j]) (by rw [List.getElem?_map,List.getElem?_eq_getElem D];rfl);rw [K] at R;cases R;rw [m j _ (List.getElem?_eq_getElem D)];exact S
 ·obtain ⟨a,p,d,y,w,O,N⟩:=g j ∅;refine ⟨d,?_⟩;rw [m j a y,t j p w];exact N
 ·have E:∀ i,i<=b.length->KV (Jc5 (f.take i)) (dkv (fun j=>(f.getD j (⟨#[]⟩, .non)).1) C i):=fun i=>by
   induction i with
   | zero=>intro _;exact .nil
   | succ i ih=>
    intro hi;obtain ⟨a,p,d,y,w,O,N⟩:=g i ∅;rw [Jes,take_succ,w];unfold Jc5;rw [foldl_append];rw [t i p w];exact (ih ∅).put _ O
  have r:=E b.length (Nat.le_refl _);rw [take_of_length_le ∅] at r;have T:(Jc5 f).length<=sizeLine:=by
   rw [r.length];exact Nat.le_trans (JfD _ _ _) G
  rw [L] at M;exact ⟨.ref s.heap.objs.size,_,I.laid (a:=s.heap.objs.size) (o:=.dK (Jc5 f)) (t':=d) k (Nat.le_refl _) (Jis T (beq_eq_false_iff_ne.mpr (Ne.symm (Nat.ne_of_lt I.big))) r M),rfl,q _ (I.hok.fresh (Nat.le_refl _))⟩
end
theorem JiJ {kvs:List (Key × V)} {ss:List Str} (h:kvs.map (·.1)=ss.map Sum.inr) (z:Str):(kvs.any fun kv=>decide (kv.1=Sum.inr z))=decide (z∈ss):=by
 have e:(kvs.any fun kv=>decide (kv.1=Sum.inr z))=(kvs.map (·.1)).any fun k=>decide (k=Sum.inr z):=by rw [List.any_map];rfl
 rw [e,h,List.any_map,Bool.eq_iff_iff];simp
theorem Jgf {kvs:List (Key × V)} {ss:List Str} (h:kvs.map (·.1)=ss.map Sum.inr) (z:Str) (v:V):(putK kvs (Sum.inr z) v).map (·.1)=(addS ss z).map Sum.inr:=by
 unfold putK addS;rw [JiJ h];by_cases c:z∈ss
 ·rw [if_pos (by simpa using c),if_pos c, <- h,map_map];refine List.map_congr_left fun a _=>?_;simp only [Function.comp];split
  ·rfl
  ·rfl
 ·rw [if_neg (by simpa using c),if_neg c,map_append,map_append,h];rfl
theorem JgM {ss:List Str} (z:Str) (h:ss.Nodup):(addS ss z).Nodup:=by
 unfold addS;split
 ·exact h
 ·rename_i c;rw [nodup_append];refine ⟨h,by simp,fun a d b f=>?_⟩;rw [mem_singleton.mp f];exact fun e=>c (e ▸ d)
theorem Jf4 {ss:List Str} (z x:Str):x∈addS ss z↔x∈ss\/x=z:=by
 unfold addS;split
 ·rename_i c;constructor
  ·exact .inl
  ·rintro (h | rfl)
   ·exact h
   ·exact c
 ·simp
theorem Jf3 (ss:List Str) (z:Str):(addS ss z).length<=ss.length+1:=by
 unfold addS;split <;> simp
def JcB (ts:List TD) (out:List Str):Prop:=out.Nodup/\sortedS out=true/\∀ z,z∈out↔∃ t∈ts,z=t.st\/z=t.en
def leS (a b:Str):Prop:=a.cps.toList<=b.cps.toList
theorem Jfj:∀ (p:Str) (l:List Str),risingS p l=true->(p::l).Pairwise leS
 | p,[],_=>by simp
 | p,x::r,h=>by
  have h':(!ltCps x.cps.toList p.cps.toList&&risingS x r)=true:=h;rw [Bool.and_eq_true] at h';have ih:=Jfj x r h'.2;have h1:leS p x:=by
   have:=h'.1;rw [ltCps_eq] at this;exact List.not_lt.mp (by simpa using this)
  refine List.pairwise_cons.mpr ⟨fun b hb=>?_,ih⟩;rcases mem_cons.mp hb with rfl | hb
  ·exact h1
  ·exact List.le_trans h1 ((List.pairwise_cons.mp ih).1 b hb)
theorem Jfr (l:List Str) (h:sortedS l=true):l.Pairwise leS:=by
 cases l with
 | nil=>simp
 | cons p l=>exact Jfj p l h
theorem Jh0 {a b:Str} (h:leS a b) (g:leS b a):a=b:=by
 have e:=List.le_antisymm h g;cases a;cases b;simp only [Str.mk.injEq];exact Array.toList_inj.mp e
theorem JhG {l l':List Str} (h:sortedS l=true) (h':sortedS l'=true) (hn:l.Nodup) (hn':l'.Nodup) (hm:∀ z,z∈l↔z∈l'):l=l' :=
 List.Perm.eq_of_pairwise (le:=leS) (fun _ _ _ _=>Jh0) (Jfr l h) (Jfr l' h') ((List.perm_ext_iff_of_nodup hn hn').mpr hm)
abbrev Pl:=List (Str × (Int × Int))
def look (ps:Pl) (z:Str):Int × Int:=((ps.find? fun p=>decide (p.1=z)).map (·.2)).getD (0,1)
def negF (a:Int × Int):Int × Int:=(-a.1,a.2)
def apart (ps:Pl) (t:TD):Int × Int:=addF (look ps t.en) (negF (look ps t.st))
def lessF (a c:Int × Int):Bool:=decide (a.1*c.2<c.1*a.2)
def okB (lo hi:Option (Int × Int)) (a:Int × Int):Bool :=
 (match lo with | none=>true | some l=>!lessF a l)&&(match hi with | none=>true | some h=>!lessF h a)
theorem Jhj {ps:Pl} {i:Nat} {z:Str} {a:Int × Int} (hn:(ps.map (·.1)).Nodup) (h:ps[i]?=some (z,a)):look ps z=a:=by
 unfold look;have : ps.find? (fun p=>decide (p.1=z))=some (z,a):=by
  induction ps generalizing i with
  | nil=>simp at h
  | cons p ps ih=>
   cases i with
   | zero=>
    simp at h;subst h;simp
   | succ i=>
    rw [List.getElem?_cons_succ] at h;rw [map_cons,nodup_cons] at hn;have b:p.1≠z:=fun e=>hn.1 (e ▸ List.mem_map_of_mem (f:=(·.1)) (List.mem_of_getElem? h));rw [List.find?_cons_of_neg (by simpa using b)];exact ih hn.2 h
 rw [this];rfl
structure FB (A B:Nat) (a:Int × Int):Prop where
 s1:Mth.Sz A a.1
 s2:Mth.Sz B a.2
 b1:1<=a.2
 g1:Mth.g a.1 a.2=1
theorem FB.ok {A B n:Nat} {a:Int × Int} (h:FB A B a) (h1:A<=n) (h2:B<=n):FOk n a:=⟨h.s1.mono h1,h.s2.mono h2,h.b1,h.g1⟩
theorem FB.neg {A B:Nat} {a:Int × Int} (h:FB A B a):FB A B (negF a):=⟨by
 have:=h.s1;unfold Mth.Sz at this ⊢;unfold negF;rw [Int.natAbs_neg];exact this,h.s2,h.b1,by
 have:=h.g1;unfold Mth.g negF at *;simpa using this⟩
theorem FB.add {A B C D n m:Nat} {a c:Int × Int} (h:FB A B a) (k:FB C D c) (h1:A+D<=n) (h2:C+B<=n) (h3:B+D<=m):FB (n+1) m (addF a c):=by
 have b:a.2*c.2≠0:=Int.mul_ne_zero (by have:=h.b1;ac_nf) (by have:=k.b1;ac_nf);have d:=(h.s1.mul k.s2).mono h1;have e:=(k.s1.mul h.s2).mono h2;exact ⟨Mth.Sz.top b (d.add e),(Mth.Sz.bot b (h.s2.mul k.s2)).mono h3,Mth.Jbe b,Mth.g_low b⟩
theorem FB.low {A B:Nat} {t b:Int} (hb:1<=b) (h1:Mth.Sz A t) (h2:Mth.Sz B b):FB A B (Mth.top t b,Mth.bot t b):=by
 have a:b≠0:=by ac_nf
 exact ⟨Mth.Sz.top a h1,Mth.Sz.bot a h2,Mth.Jbe a,Mth.g_low a⟩
theorem Jin {x y:Int × Int} (hx:1<=x.2) (hy:1<=y.2):(y.1<=0->lessF x (addF x y)=false)/\(0<=y.1->lessF (addF x y) x=false):=by
 have d:x.2*y.2≠0:=Int.mul_ne_zero ∅ ∅;have b:=Mth.cross (t:=x.1*y.2+y.1*x.2) d;have f:=Mth.Jbe (t:=x.1*y.2+y.1*x.2) d;unfold lessF addF;dsimp only;generalize Mth.bot (x.1*y.2+y.1*x.2) (x.2*y.2)=B at b f ⊢;generalize Mth.top (x.1*y.2+y.1*x.2) (x.2*y.2)=T' at b ⊢;have e:T'*x.2*y.2=x.1*B*y.2+y.1*x.2*B:=by
  have : T'*x.2*y.2=T'*(x.2*y.2):=by rw [Int.mul_assoc]
  rw [this,b,Int.add_mul];rw [Int.mul_right_comm x.1 y.2 B]
 constructor
 ·intro h;rw [decide_eq_false_iff_not];intro a;have c:=Int.mul_lt_mul_of_pos_right a (show 0<y.2 by ac_nf);rw [e] at c;have g:y.1*x.2*B<=0:=Int.mul_nonpos_of_nonpos_of_nonneg (Int.mul_nonpos_of_nonpos_of_nonneg h ∅) ∅;ac_nf
 ·intro h;rw [decide_eq_false_iff_not];intro a;have c:=Int.mul_lt_mul_of_pos_right a (show 0<y.2 by ac_nf);rw [e] at c;have g:0<=y.1*x.2*B:=Int.mul_nonneg (Int.mul_nonneg h ∅) ∅;ac_nf
def QV (K:W.Frag) (H:Hp) (p:Str × (Int × Int)) (x:V):Prop:=∃ b v,x=.ref b/\H b=some (.tup [.str p.1,v])/\FrV K H v p.2.1 p.2.2
theorem QV.sameT {K:W.Frag} {H H':Hp} {p:Str × (Int × Int)} {x:V} (S:SameT H H'):QV K H p x->QV K H' p x:=by rintro ⟨b,v,e,h,f⟩;exact ⟨b,v,e,S _ _ rfl h,f.sameT S⟩
theorem QV.refs {K:W.Frag} {H:Hp}:∀ {ps:Pl} {zs:List V},All2 (QV K H) ps zs->∃ (as:List Addr) (qs:List (Str × V)),zs=as.map V.ref/\as.length=qs.length/\(∀ (i:Nat) (a:Addr) (q:Str × V),as[i]?=some a->qs[i]?=some q->H a=some (.tup [.str q.1,q.2]))/\qs.map (·.1)=ps.map (·.1)/\∀ (i:Nat) (q:Str × V) (p:Str × (Int × Int)),qs[i]?=some q->ps[i]?=some p->FrV K H q.2 p.2.1 p.2.2
 | [],zs,h=>⟨[],[],h,rfl,by simp,rfl,by simp⟩
 | p::ps,zs,h=>by
  obtain ⟨x,r,rfl,⟨b,v,rfl,hb,f⟩,h2⟩:=h;obtain ⟨as,qs,rfl,hl,h3,h4,h5⟩:=QV.refs h2;refine ⟨b::as,(p.1,v)::qs,rfl,by simp [hl],fun i a q ha hq=>?_,by simp [h4],fun i q p' hq hp=>?_⟩
  ·cases i with
   | zero=>
    simp at ha hq;subst ha;subst hq;exact hb
   | succ i=>exact h3 i a q (by simpa using ha) (by simpa using hq)
  ·cases i with
   | zero=>
    simp at hq hp;subst hq;subst hp;exact f
   | succ i=>exact h5 i q p' (by simpa using hq) (by simpa using hp)
theorem JdC:∀ (qs:List (Str × V)) (l:List (Key × V)),(qs.map (·.1)).Nodup->(∀ q∈qs, ∀ kv∈l,kv.1≠Sum.inr q.1)->qs.foldl (fun l p=>putK l (Sum.inr p.1) p.2) l=l++qs.map fun q=>((Sum.inr q.1:Key),q.2)
 | [],l,_,_=>by simp
 | q::qs,l,hn,hd=>by
  rw [map_cons,nodup_cons] at hn;have e:putK l (Sum.inr q.1) q.2=l++[((Sum.inr q.1:Key),q.2)]:=by
   unfold putK;rw [if_neg];simp only [List.any_eq_true,decide_eq_true_eq,not_exists,not_and];exact fun kv hkv=>hd q (by simp) kv hkv
  rw [foldl_cons,e,JdC qs _ hn.2,List.append_assoc]
  ·rfl
  ·intro q' hq' kv hkv;rcases mem_append.mp hkv with h | h
   ·exact hd q' (by simp [hq']) kv h
   ·rw [mem_singleton.mp h];intro z;have z':q.1=q'.1:=by injection z
    exact hn.1 (z' ▸ List.mem_map_of_mem (f:=(·.1)) hq')
theorem Jbq {K:W.Frag} {H:Hp} {ps:Pl} {qs:List (Str × V)} (hk:qs.map (·.1)=ps.map (·.1)) (hn:(ps.map (·.1)).Nodup) (hf:∀ (i:Nat) (q:Str × V) (p:Str × (Int × Int)),qs[i]?=some q->ps[i]?=some p->FrV K H q.2 p.2.1 p.2.2) {z:Str} (hz:z∈ps.map (·.1)) :
  ∃ v,valV (Jc5 qs) (Sum.inr z)=some v/\FrV K H v (look ps z).1 (look ps z).2:=by
 have c:(qs.map (·.1)).Nodup:=by rw [hk];exact hn
 have e:Jc5 qs=qs.map fun q=>((Sum.inr q.1:Key),q.2):=by
  unfold Jc5;rw [JdC qs [] c (by simp)];simp
 obtain ⟨i,j⟩:=List.getElem?_of_mem hz;rw [List.getElem?_map] at j;obtain ⟨p,d,rfl⟩:=Option.map_eq_some_iff.mp j;have b:(qs.map (·.1))[i]?=some p.1:=by rw [hk,List.getElem?_map,d];rfl
 rw [List.getElem?_map] at b;obtain ⟨q,b,g⟩:=Option.map_eq_some_iff.mp b;refine ⟨q.2,?_,?_⟩
 ·rw [e];unfold valV;have : ∀ (l:List (Str × V)) (i:Nat),(l.map (·.1)).Nodup->l[i]?=some q->((l.map fun q=>((Sum.inr q.1:Key),q.2)).find? fun m=>decide (m.1=Sum.inr p.1))=some (Sum.inr q.1,q.2):=fun l=>by
   induction l with
   | nil=>intro i _ h;simp at h
   | cons a l ih=>
    intro i hn h;rw [map_cons,nodup_cons] at hn;cases i with
    | zero=>
     simp at h;subst h;rw [map_cons,List.find?_cons_of_pos (by simp [g])]
    | succ i=>
     rw [List.getElem?_cons_succ] at h;have k:a.1≠p.1:=fun z=>hn.1 (by rw [z, <- g];exact List.mem_map_of_mem (f:=(·.1)) (List.mem_of_getElem? h));rw [map_cons,List.find?_cons_of_neg (by simpa using k)];exact ih i hn.2 h
  rw [this qs i c b];rfl
 ·rw [Jhj hn (show ps[i]?=some (p.1,p.2) from d)];exact hf i q p b d
theorem Jji {X:Cx} {K:W.Frag} {e:Expr} {ta:TE} {f:Str} {pos:Pos} (hK:X.K=K) (he:PE X e ta) (hb:attributeBase e f X.env (eval e X.env)=eval e X.env):PE X (.Attribute e f pos) (tFld K ta f):=by
 subst hK;exact Jav he hb
structure FW (A B:Nat) (a:Int × Int):Prop where
 s1:Mth.Sz A a.1
 s2:Mth.Sz B a.2
 b1:1<=a.2
theorem FB.w {A B:Nat} {a:Int × Int} (h:FB A B a):FW A B a:=⟨h.s1,h.s2,h.b1⟩
theorem FW.mono {A B C D:Nat} {a:Int × Int} (h:FW A B a) (h1:A<=C) (h2:B<=D):FW C D a:=⟨h.s1.mono h1,h.s2.mono h2,h.b1⟩
theorem FW.add {A B C D n m:Nat} {a c:Int × Int} (h:FW A B a) (k:FW C D c) (h1:A+D<=n) (h2:C+B<=n) (h3:B+D<=m):FB (n+1) m (addF a c):=by
 have b:a.2*c.2≠0:=Int.mul_ne_zero (by have:=h.b1;ac_nf) (by have:=k.b1;ac_nf);have d:=(h.s1.mul k.s2).mono h1;have e:=(k.s1.mul h.s2).mono h2;exact ⟨Mth.Sz.top b (d.add e),(Mth.Sz.bot b (h.s2.mul k.s2)).mono h3,Mth.Jbe b,Mth.g_low b⟩
theorem Jgw {a b c:Int × Int} (ha:1<=a.2) (hb:1<=b.2) (hc:1<=c.2) (h1:lessF b a=false) (h2:lessF c b=false):lessF c a=false:=by
 unfold lessF at *;rw [decide_eq_false_iff_not,Int.not_lt] at *;have e:=Int.mul_le_mul_of_nonneg_right h1 (show 0<=c.2 by ac_nf);have d:=Int.mul_le_mul_of_nonneg_right h2 (show 0<=a.2 by ac_nf);have f:a.1*b.2*c.2=(a.1*c.2)*b.2:=by rw [Int.mul_right_comm]
 have g:c.1*b.2*a.2=(c.1*a.2)*b.2:=by rw [Int.mul_right_comm]
 have h:b.1*a.2*c.2=b.1*c.2*a.2:=by rw [Int.mul_right_comm]
 rw [f,h] at e;rw [g] at d;exact Int.le_of_mul_le_mul_right (Int.le_trans e d) (show 0<b.2 by ac_nf)
section
variable {X:Cx} {K:W.Frag} {o e:Expr} {es:List Expr} {to:TE} {t:TA} {name:Str} {apos cpos:Pos} {T id:String} {r:V->List V->Hp->VK->Prop}
end
section
variable {X:Cx}
def JiF (td:TE):TE:=fun σ H Q=>td σ H fun x H1=>∃ d kvs,x=.ref d/\H1 d=some (.dK kvs)/\∀ l,H1 l=none->Q (.ref l) (upd H1 l (.lst (kvs.map (·.2))))
theorem Jjv {kvs:List (Key × V)} {vs:List (Key × Value)} (r:KV kvs vs):Vals (kvs.map (·.2)) (vs.map (·.2)):=by
 unfold KV at r;induction r with
 | nil=>exact .nil
 | cons h _ ih=>exact .cons h.2 ih
theorem Jjk {o:Expr} {td:TE} {p1 apos cpos pos:Pos} {x:Str} (hc:X.calm=true) (hx:x="list") (hg:Gl X x) (hm:X.mg x=none) (hv:bootBuiltins x=some (.type "list")) (ho:PE X o td)
  (hb:attributeBase o "values" X.env (eval o X.env)=eval o X.env:=by rfl) (hn:(apos.endLine == cpos.line)=true:=by rfl) :
  PE X (.Call (.Name x p1) [.Call (.Attribute o "values" apos) [] [] cpos] [] pos) (JiF td):=by
 intro f s σ H Q I h;have M:x≠"__name__":=by rw [hx];decide
 have t:(x == ("__debug__" : Str))=false:=by rw [hx];decide
 refine wpAny_Call_Name_kw (Jeb I hg hm hv ?_ M t);refine PyProof.Rows.callWith_type1 ?_ rfl rfl;show wpAny _ _ (spliced ((false,eval (.Call (.Attribute o "values" apos) [] [] cpos) X.env)::backTo pos (starEach [] X.env))) _ _ s;refine Calls.spliced_cons ?_;refine wpAny_Call_method0_late hb hn (thn (ho f s σ H _ I h) fun v i ζ=>?_);obtain ⟨y,R,I1,B,d,kvs,P,e,E⟩:=ζ;subst P;obtain rfl:v=Value.ref d:=B;obtain ⟨p,D,G⟩:=JjG I1 (.inl ⟨kvs, .inl e⟩);obtain ⟨J,_,l,c,n⟩:=dk_of I1.hok e;refine ⟨"dict","dict.values",PySem.F.plainAttrs_dict,PySem.F.slot_dict_values,PySem.F.type_dict_values,p,D,Calls.callWith_builtin rfl (PySem.evalArgs_none ?_)⟩;refine call_meetsIn PySem.F.slot_dict_values p PySem.F.entry_dict_values (PySem.F.args_dict_values_1 _) (meets_dict_values (Jaz X.prog X.w) d G) ⟨⟨l,n⟩,?_⟩;refine Calls.spliced_nil ?_;obtain ⟨ep,A⟩:=n.dictAt;refine W.kdl_call (W.kdl_values (knd:=Jaz X.prog X.w) (r:=i.heap.objs.size) (d:=d) (kvs:=l) (ep:=ep)) (I.ok.hd hc) ⟨⟨_,Heap.get?_push_size _ rfl,rfl,rfl⟩,A.push _⟩ (by have:=c.length;ac_nf) fun q C g K k N a=>?_;have u:g.toList=l.map (·.2):=W.kdl_vals_eq _ (by rw [Array.length_toList];exact a.1) fun j v L=>a.2 j v (by rw [<- Array.getElem?_toList];exact L);have O:∀ b o,i.heap.get? b=some o->q.get? b=some o:=fun b o z=>k b o (Heap.get?_push_of_some _ z);have m:i.heap.objs.size<=(i.heap.push { cls:=.type "dict_values",data:=.fields #[.ref d] }).objs.size:=by
  rw [Heap.size_push];exact Nat.le_succ _
 exact ⟨.ref _,_,I1.laid (t':=C) (o:=.lst (kvs.map (·.2))) O m (show ObjOk X.prog X.w _ q _ (.lst (kvs.map (·.2))) from ⟨by rw [length_map];exact J,l.map (·.2),K,Jjv c,by rw [<- u,Array.toArray_toList];exact N⟩),rfl,E _ (I1.hok.fresh m)⟩
end
section
variable {prog:Program} {w:World} {A:Around} {E:Value->Shared->Prop} {s:Shared}
end
section
variable {X:Cx}
end
section
variable {X:Cx} {k k':Nat} {x mn:Str} {C:Addr} {Cs:Addr->Prop} {ps:List Str} {sp:Sp} {p pos apos:Pos} {e o:Expr} {es:List Expr} {t:TA} {ta:TE}
abbrev TX:=St->Hp->VK->XK->Prop
def xMake (C:Addr) (sp:Sp) (t:TA):TX:=fun σ H Q E=>t σ H fun vs H1=>∀ x dx,H1 x=none->H1 dx=none->dx≠x ->
 sp (.ref x::(vs++[])) (upd (upd H1 dx (.own x)) x (.ins C dx [])) (fun v H2=>v=.non/\Q (.ref x) H2) E
end
section
variable {X:Cx}
theorem Jfi:OpR X (compareOp .NotIn) (rIn X.K true):=Jfh
end
section
variable {σ : St} {H:Hp} {Q:VK} {E:XK} {ta td ty:TE} {ts:TA} {tc:TT} {t u:TX} {C:Addr} {sp:Sp} {Cs:Addr->Prop} {m:Str}
theorem y9ay:xMake C sp ts σ H Q E=ts σ H fun vs H1=>∀ x dx,H1 x=none->H1 dx=none->dx≠x->sp (.ref x::(vs++[])) (upd (upd H1 dx (.own x)) x (.ins C dx [])) (fun v H2=>v=.non/\Q (.ref x) H2) E:=rfl
theorem y96y:JiF td σ H Q=td σ H fun x H1=>∃ d kvs,x=.ref d/\H1 d=some (.dK kvs)/\∀ l,H1 l=none->Q (.ref l) (upd H1 l (.lst (kvs.map (·.2)))):=rfl
theorem y40y:tDIn ty td σ H Q=ty σ H fun y H1=>td σ H1 fun x H2=>∃ a o,x=.ref a/\DGet H2 a y o/\Q (.bl o.isSome) H2:=rfl
theorem y44y:JhL ty td σ H Q=ty σ H fun y H1=>td σ H1 fun x H2=>∃ a o,x=.ref a/\DGet H2 a y o/\Q (.bl (!o.isSome)) H2:=rfl
theorem y45y:Jkl td ty σ H Q=td σ H fun x H1=>∃ a,x=.ref a/\IsD H1 a/\ty σ H1 fun y H2=>∃ kvs k v,H2 a=some (.dK kvs)/\y=kV k/\valV kvs k=some v/\Q v (upd H2 a (.dK (dropK kvs k))):=rfl
end
section
variable {α κ : Type} [DecidableEq κ] {f : α->κ} {k : κ} {u y : α}
end
section
variable {α : Type} {P : α->V->Prop}
theorem All2.set:∀ {as:List α} {xs:List V} {i:Nat} {a : α} {x:V},All2 P as xs->P a x->All2 P (as.set i a) (xs.set i x)
 | [],xs,i,a,x,h,_=>by
  have : xs=[]:=h;subst this;simp;exact h
 | b::as,xs,0,a,x,h,p=>by
  obtain ⟨y,r,rfl,_,h2⟩:=h;exact ⟨x,r,rfl,p,h2⟩
 | b::as,xs,i+1,a,x,h,p=>by
  obtain ⟨y,r,rfl,h1,h2⟩:=h;exact ⟨y,r.set i x,rfl,h1,All2.set h2 p⟩
end
abbrev nms (ts:List TD):List Str:=ts.map (·.nm)
def putT (ts:List TD) (t:TD):List TD:=if t.nm∈nms ts then ts.map (fun u=>if u.nm=t.nm then t else u) else ts++[t]
def BD (P:TD->V->Prop) (ts:List TD) (kvs:List (Key × V)):Prop:=kvs.map (·.1)=ts.map (fun t=>Sum.inr t.nm)/\All2 P ts (kvs.map (·.2))
section
variable {P P':TD->V->Prop} {ts:List TD} {kvs:List (Key × V)} {t:TD} {v:V}
theorem BD.mono (h:BD P ts kvs) (m:∀ a x,P a x->P' a x):BD P' ts kvs:=⟨h.1,h.2.mono m⟩
theorem BD.length (h:BD P ts kvs):kvs.length=ts.length:=by simpa using congrArg List.length h.1
theorem BD.cons:BD P (t::ts) kvs↔∃ w r,kvs=(Sum.inr t.nm,w)::r/\P t w/\BD P ts r:=by
 constructor
 ·rintro ⟨a,b⟩;match kvs,a,b with
  | (k,w)::r,a,b=>
   rw [map_cons,map_cons,List.cons.injEq] at a;obtain ⟨y,d,e,p,b⟩:=b;rw [map_cons,List.cons.injEq] at e;obtain ⟨rfl,rfl⟩:=e;obtain ⟨c,a⟩:=a;have c:k=Sum.inr t.nm:=c;subst c;exact ⟨_,r,rfl,p,a,b⟩
 ·rintro ⟨w,r,rfl,p,h⟩;exact ⟨by rw [map_cons,map_cons,h.1],w,r.map (·.2),rfl,p,h.2⟩
theorem BD.nil:BD P [] kvs↔kvs=[]:=by
 constructor
 ·rintro ⟨h,_⟩;simpa using h
 ·rintro rfl;exact ⟨rfl,rfl⟩
theorem BD.any:∀ {ts:List TD} {kvs:List (Key × V)} {z:Str},BD P ts kvs->(kvs.any fun kv=>decide (kv.1=Sum.inr z))=decide (z∈nms ts)
 | [],kvs,z,h=>by rw [BD.nil.mp h];simp
 | t::ts,kvs,z,h=>by
  obtain ⟨w,r,rfl,_,h⟩:=BD.cons.mp h;rw [any_cons,BD.any h];by_cases c:t.nm=z
  ·subst c;simp
  ·have c1:(Sum.inr t.nm:Key)≠Sum.inr z:=fun e=>c (by injection e);have c2:z≠t.nm:=fun e=>c e.symm;simp [c1,c2]
theorem BD.val:∀ {ts:List TD} {kvs:List (Key × V)} {z:Str},BD P ts kvs->(valV kvs (Sum.inr z)).isSome=decide (z∈nms ts)
 | [],kvs,z,h=>by rw [BD.nil.mp h];rfl
 | t::ts,kvs,z,h=>by
  obtain ⟨w,r,rfl,_,h⟩:=BD.cons.mp h;by_cases c:t.nm=z
  ·subst c;rw [JcV rfl];simp
  ·have c1:(Sum.inr t.nm:Key)≠Sum.inr z:=fun e=>c (by injection e);have c2:z≠t.nm:=fun e=>c e.symm;have e:valV ((Sum.inr t.nm,w)::r) (Sum.inr z)=valV r (Sum.inr z):=by simp [valV,List.find?_cons,c1]
   rw [e,BD.val h];simp [c2]
theorem BD.rep:∀ {ts:List TD} {kvs:List (Key × V)},BD P ts kvs->P t v->BD P (ts.map fun u=>if u.nm=t.nm then t else u) (kvs.map fun kv=>if kv.1=Sum.inr t.nm then (kv.1,v) else kv)
 | [],kvs,h,_=>by rw [BD.nil.mp h];exact ⟨rfl,rfl⟩
 | s::ts,kvs,h,p=>by
  obtain ⟨w,r,rfl,q,h⟩:=BD.cons.mp h;by_cases c:s.nm=t.nm
  ·rw [map_cons,map_cons,if_pos c,if_pos (by rw [c]),c];exact BD.cons.mpr ⟨v,_,rfl,p,BD.rep h p⟩
  ·have c1:(Sum.inr s.nm:Key)≠Sum.inr t.nm:=fun e=>c (by injection e);rw [map_cons,map_cons,if_neg c,if_neg c1];exact BD.cons.mpr ⟨w,_,rfl,q,BD.rep h p⟩
theorem BD.app (h:BD P ts kvs) (p:P t v):BD P (ts++[t]) (kvs++[(Sum.inr t.nm,v)]):=⟨by rw [map_append,map_append,h.1];rfl,by rw [map_append];exact h.2.append (.one p)⟩
theorem BD.put (h:BD P ts kvs) (p:P t v):BD P (putT ts t) (putK kvs (Sum.inr t.nm) v):=by
 unfold putT putK;rw [h.any];by_cases c:t.nm∈nms ts
 ·rw [if_pos c,if_pos (by simpa using c)];exact h.rep p
 ·rw [if_neg c,if_neg (by simpa using c)];exact h.app p
end
theorem sub_len {α : Type} [DecidableEq α]:∀ (l m:List α),l.Nodup->l ⊆ m->l.length<=m.length
 | [],m,_,_=>by simp
 | a::l,m,hn,hs=>by
  rw [nodup_cons] at hn;have ha:a∈m:=hs (by simp);have:=sub_len l (m.erase a) hn.2 fun x hx=>(List.mem_erase_of_ne (show x≠a from fun e=>hn.1 (e ▸ hx))).mpr (hs (by simp [hx]));rw [List.length_erase_of_mem ha] at this;have:=List.length_pos_of_mem ha;rw [length_cons];ac_nf
section
variable {X:Cx} {pins:List (Addr × Obj)} {σ : St} {H:Hp} {s:Shared} {a:Addr} {kvs:List (Key × V)} {k:Key} {u r:Value} {y:V} {A:Around} {E:Value->Shared->Prop}
end
def tDSet (td ty tx:TE):TE:=fun σ H Q=>td σ H fun x H1=>∃ a,x=.ref a/\IsD H1 a/\ty σ H1 fun y H2=>tx σ H2 fun z H3=>∃ kvs k,H3 a=some (.dK kvs)/\y=kV k/\kvs.length<sizeLine /\
 (∀ v,valV kvs k=some v->Q v H3)/\(valV kvs k=none->Q z (upd H3 a (.dK (putK kvs k z))))
section
variable {X:Cx} {o e f:Expr} {apos cpos:Pos} {td ty tx:TE}
end
section
variable {X:Cx}
end
section
variable {σ : St} {H:Hp} {Q:VK} {td ty tx:TE}
theorem y48y:tDSet td ty tx σ H Q=td σ H fun x H1=>∃ a,x=.ref a/\IsD H1 a/\ty σ H1 fun y H2=>tx σ H2 fun z H3=>∃ kvs k,H3 a=some (.dK kvs)/\y=kV k/\kvs.length<sizeLine/\(∀ v,valV kvs k=some v->Q v H3)/\(valV kvs k=none->Q z (upd H3 a (.dK (putK kvs k z)))):=rfl
theorem y3fy:Jkj td ty tx σ H Q=td σ H fun x H1=>∃ a,x=.ref a/\IsD H1 a/\ty σ H1 fun y H2=>tx σ H2 fun z H3=>∃ o,DGet H3 a y o/\Q (o.getD z) H3:=rfl
theorem y41y {trs:List (TE × TE)}:tDisp trs σ H Q=∀ p,H p=none->Jgn trs σ (upd H p (.dK [])) fun ps H2=>H2 p=some (.dK [])/\∃ kvs:List (Key × V),ps=kvs.map (fun kv=>(kV kv.1,kv.2))/\kvs.length<=15/\Q (.ref p) (upd H2 p (.dK (JiA [] kvs))):=rfl
theorem y7ey {tk tv:TE} {R:List (V × V)->Hp->Prop}:Jgn [(tk,tv)] σ H R=tk σ H fun x H1=>tv σ H1 fun y H2=>R [(x,y)] H2:=rfl
theorem y2dy {K:W.Frag} {T:String} {r:V->List V->Hp->VK->Prop} {to:TE}:tBM0 K T r to σ H Q=to σ H fun x H1=>tyV K T x H1/\r x [] H1 Q:=rfl
end
section
variable {α : Type} {f : α->Str} {P P' : α->V->Prop} {as:List α} {kvs:List (Key × V)} {a : α} {v:V}
end
structure PD where
 nm:Str
 st:Str
 en:Str
 sz:Int × Int
 mo:Int × Int
 wt:Int
section
variable {X:Cx} {pins:List (Addr × Obj)} {σ : List (Option V)} {H H':Hp} {s s':Shared} {d:Addr} {kvs kvs':List (Key × V)} {od:Obj}
theorem Inv.freeze (I:Inv X pins σ H s) (e:H d=some (.dK kvs)) (ho:s.heap.get? d=some od):Inv X pins σ (upd H d (.frz od (.dK kvs))) s:=by
 refine I.un (h':=s.heap) (t':=s.toks) ⟨fun b o q _ _ _=>q,fun b o q _ _ _=>⟨o.slots,q⟩,fun b o q n _=>?_,fun b o q _=>⟨o,q⟩,fun b h q=>?_,fun b o u q=>?_,fun b j q=>⟨#[],?_⟩⟩ fun a o q=>?_
 ·rw [Jai (fun z=>by rw [z,e] at n;cases n)];exact n
 ·rw [Jai (fun z=>by rw [z,e] at q;cases q)];exact q
 ·rw [Jai (fun z=>by rw [z,e] at q;cases q)];exact q
 ·rw [Jai (fun z=>by rw [z,e] at q;cases q),Array.append_empty];exact q
 ·have g:∀ i b,H b=some (.own i)->upd H d (.frz od (.dK kvs)) b=some (.own i):=fun i b q=>by
   rw [Jai (fun z=>by rw [z,e] at q;cases q)];exact q
  have f:∀ b h,H b=some (.tup h)->upd H d (.frz od (.dK kvs)) b=some (.tup h):=fun b h q=>by
   rw [Jai (fun z=>by rw [z,e] at q;cases q)];exact q
  by_cases c:a=d
  ·subst c;rw [Jaq] at q;cases q;exact ⟨ho,(I.hok a _ e).stay (fun _ _ _ z=>z) (g a) f⟩
  ·rw [Jai c] at q;exact (I.hok a o q).stay (fun _ _ _ z=>z) (g a) f
end
def Itv (d:Addr) (od:Obj) (kvs:List (Key × V)):It :=
 ⟨fun i H=>H d=some (.frz od (.dK kvs))/\i<kvs.length,fun i H x H'=>H'=H/\(kvs.map (·.2))[i]?=some x,fun i H=>H d=some (.frz od (.dK kvs))/\kvs.length<=i⟩
section
variable {X:Cx} {tg:Expr}
def iVals (td:TE):TI:=fun σ H R=>td σ H fun x H1=>∃ d kvs,x=.ref d/\H1 d=some (.dK kvs)/\∀ od,R (Itv d od kvs) (upd H1 d (.frz od (.dK kvs)))
def tThaw (t:TE):TE:=fun σ H Q=>∃ d kvs,H d=some (.dK kvs)/\t σ H fun v H'=>∃ od kvs',H' d=some (.frz od (.dK kvs'))/\Q v (upd H' d (.dK kvs'))
end
section
variable {k:Nat} {cs:List (Nat × Str)} {g:TG} {te tl td:TE} {σ : St} {H H1:Hp} {Q:VK} {d:Addr} {od:Obj} {kvs:List (Key × V)}
theorem y3ay:tThaw (tComp k cs (iVals td) g te) σ H Q=∃ d kvs,H d=some (.dK kvs)/\td σ H fun x H1=>∃ d1 kvs1,x=.ref d1/\H1 d1=some (.dK kvs1)/\∀ od,CompJ (Itv d1 od kvs1) k cs g te σ (fun v H'=>∃ od kvs',H' d=some (.frz od (.dK kvs'))/\Q v (upd H' d (.dK kvs'))) (upd H1 d1 (.frz od (.dK kvs1))):=rfl
end
section
variable {X:Cx} {k k':Nat} {x:Str} {C:Addr} {ps:List Str} {sp:Sp} {E:XK} {p pos:Pos}
end
structure GD where
 nm:Str
 st:Str
 en:Str
 lo:Int × Int
 hi:Int × Int
section
variable {K:W.Frag} {H H':Hp}
end
section
variable {H H' H'':Hp} {ls:List PD} {one:Str} {fd wl:Addr} {ws:List (Str × List Pr)} {wt:List Str}
end
theorem Jhz {X:Cx} {K:W.Frag} {pos:Pos} {es:List Expr} {k:Nat} {t:TGs} {n:Nat} (hK:X.K=K) (hc:X.calm=true) (h:PGs X es t) (hn:(assignEach es X.env).length=n:=by rfl) (hst:(assignEach es X.env).findIdx? (·.1)=none:=by rfl):PG X (.Tuple es k pos) (gTup K n t):=by
 subst hK;exact Jhy hc h hn hst
abbrev Fr2:=Int × Int
section
variable {K:W.Frag} {k:Nat} {cs:List (Nat × Str)} {g:TG} {te:TE} {ta:TA} {σ : St} {H H1:Hp} {Q:VK} {a b:Addr} {xs zs:List V}
end
section
variable {X:Cx}
end
section
variable {K:W.Frag} {H:Hp} {Q:VK}
end
section
variable {prog:Program} {w:World} {A:Around} {E:Value->Shared->Prop} {s:Shared}
end
section
variable {prog:Program} {w:World} {A:Around} {E:Value->Shared->Prop} {s:Shared}
end
section
variable {X:Cx}
end
section
variable {X:Cx} {elts:List Expr} {x1:Nat} {tp:Pos}
end
section
variable {K:W.Frag} {k:Nat} {cs:List (Nat × Str)} {g:TG} {te:TE} {ta:TA} {σ : St} {H H1:Hp} {Q:VK} {a:Addr} {xs:List V}
end
def Itq (lo c:Int) (n:Nat):It:=⟨fun i _=>i<n,fun i H x H'=>H'=H/\x=.int (lo+i*c),fun i _=>n<=i⟩
def rsz (lo hi c:Int):Nat:=(if lo<hi then (hi-lo-1)/c+1 else 0).toNat
section
variable {X:Cx} {tg:Expr}
def iRng3 (ta:TA):TI:=fun σ H R=>ta σ H fun vs H1=>∃ i j c:Int,vs=[.int i, .int j, .int c]/\(0<=i/\i<2 ^ 40/\0<=j/\j<2 ^ 40/\1<=c/\c<2 ^ 30)/\R (Itq i c (rsz i j c)) H1
end
section
variable {ta:TA} {g:TG} {tb:TS} {D:Ends} {σ : St} {H:Hp}
def ForQ (lo c:Int) (n:Nat) (g:TG) (tb:TS) (D:Ends) (σ : St) (H:Hp):Prop:=∃ W:Nat->Nat->St->Hp->Prop,(∃ m,W 0 m σ H)/\∀ i m σ H,W i m σ H ->
 ((Itq lo c n).stop i H/\D.nx σ H)\/((Itq lo c n).go i H/\∃ N:St->Hp->Prop,(∀ σ' H',N σ' H'->∃ m',m'<m/\W (i+1) m' σ' H')/\∀ x H',(Itq lo c n).yld i H x H'->g x σ H' fun σ2 H2=>tb { D with nx:=N,ct:=N,bk:=D.nx } σ2 H2)
theorem y54y:tFor (iRng3 ta) g tb D σ H=ta σ H fun vs H1=>∃ i j c:Int,vs=[.int i, .int j, .int c]/\(0<=i/\i<2 ^ 40/\0<=j/\j<2 ^ 40/\1<=c/\c<2 ^ 30)/\ForQ i c (rsz i j c) g tb D σ H1:=rfl
end
theorem y5ey {c:TT} {ta tb:TE} {σ : St} {H:Hp} {Q:VK}:tIf c ta tb σ H Q=c σ H fun b H1=>if b=true then ta σ H1 Q else tb σ H1 Q:=rfl
def vl (a:Int × Int):Rat:=(a.1:Rat)/(a.2:Rat)
theorem JcA {a:Int} (h:1<=a):(a:Rat)≠0:=fun z=>by
 have : a=0:=by exact_mod_cast z
 ac_nf
theorem vl_eq {a c:Int × Int} (ha:1<=a.2) (hc:1<=c.2):vl a=vl c↔a.1*c.2=c.1*a.2:=by
 unfold vl;have b:=JcA ha;have d:=JcA hc;have e:((a.1*c.2=c.1*a.2)↔((a.1:Rat)*(c.2:Rat)=(c.1:Rat)*(a.2:Rat))):=by
  constructor
  ·intro h;exact_mod_cast h
  ·intro h;exact_mod_cast h
 rw [e];generalize (a.1:Rat)=x at *;generalize (a.2:Rat)=y at *;generalize (c.1:Rat)=z at *;generalize (c.2:Rat)=u at *;constructor
 ·intro h;grind
 ·intro h;grind
theorem Jkr {a c:Int × Int} (ha:1<=a.2) (hc:1<=c.2) (h1:Mth.g a.1 a.2=1) (h2:Mth.g c.1 c.2=1) (h:vl a=vl c):a=c:=by
 have:=Mth.JcX ha hc h1 h2 ((vl_eq ha hc).mp h);exact Prod.ext this.1 this.2
theorem Jct {a c:Int × Int} (ha:1<=a.2) (hc:1<=c.2):vl (addF a c)=vl a+vl c:=by
 have d:a.2*c.2≠0:=Int.mul_ne_zero ∅ ∅;have g:=Mth.cross (t:=a.1*c.2+c.1*a.2) d;have f:=Mth.Jbe (t:=a.1*c.2+c.1*a.2) d;unfold vl addF;dsimp only;generalize Mth.top (a.1*c.2+c.1*a.2) (a.2*c.2)=t at *;generalize Mth.bot (a.1*c.2+c.1*a.2) (a.2*c.2)=b at *;have h:=JcA ha;have j:=JcA hc;have i:=JcA f;have e:(t:Rat)*((a.2:Rat)*(c.2:Rat))=((a.1:Rat)*(c.2:Rat)+(c.1:Rat)*(a.2:Rat))*(b:Rat):=by exact_mod_cast g
 generalize (a.1:Rat)=x at *;generalize (a.2:Rat)=y at *;generalize (c.1:Rat)=z at *;generalize (c.2:Rat)=u at *;generalize (t:Rat)=t at *;generalize (b:Rat)=b at *;grind
theorem Jch (a:Int × Int):vl (negF a) = - vl a:=by
 unfold vl negF;rw [Rat.intCast_neg];grind
theorem Jcd {a c:Int × Int} (ha:1<=a.2) (hc:1<=c.2):lessF a c=true↔vl a<vl c:=by
 unfold lessF vl;rw [decide_eq_true_iff];have b:(0:Rat)<(a.2:Rat):=by exact_mod_cast (show 0<a.2 by ac_nf)
 have f:(0:Rat)<(c.2:Rat):=by exact_mod_cast (show 0<c.2 by ac_nf)
 have e:((a.1*c.2<c.1*a.2)↔((a.1:Rat)*(c.2:Rat)<(c.1:Rat)*(a.2:Rat))):=by
  constructor
  ·intro h;exact_mod_cast h
  ·intro h;exact_mod_cast h
 rw [e];rw [Rat.div_lt_iff b];generalize (a.1:Rat)=x at *;generalize (a.2:Rat)=y at *;generalize (c.1:Rat)=z at *;generalize (c.2:Rat)=u at *;have d:z/u*y=z*y/u:=by grind
 rw [d,Rat.lt_div_iff f]
theorem FB.mono {A B C D:Nat} {a:Int × Int} (h:FB A B a) (h1:A<=C) (h2:B<=D):FB C D a:=⟨h.s1.mono h1,h.s2.mono h2,h.b1,h.g1⟩
theorem Jks {t b:Int} (hb:1<=b):vl (Mth.top t b,Mth.bot t b)=(t:Rat)/(b:Rat):=by
 have a:b≠0:=by ac_nf
 have d:=Mth.cross (t:=t) a;have c:=Mth.Jbe (t:=t) a;unfold vl;dsimp only;generalize Mth.top t b=x at *;generalize Mth.bot t b=y at *;have f:=JcA hb;have g:=JcA c;have e:(x:Rat)*(b:Rat)=(t:Rat)*(y:Rat):=by exact_mod_cast d
 generalize (x:Rat)=x at *;generalize (y:Rat)=y at *;generalize (t:Rat)=t at *;generalize (b:Rat)=b at *;grind
section
variable {A B A' B' C D C' D':Nat} {x y z w m a b:Int × Int}
end
section
variable {α : Type} {f : α->Str} {l:List α} {s st:Nat}
end
section
variable {K:W.Frag} {H H':Hp} {x:V}
end
theorem Ja7 {H0 H:Hp} {b:Addr} (S:Same H0 H) (h:H b=none):H0 b=none:=by
 cases e:H0 b with
 | none=>rfl
 | some o=>rw [S _ _ e] at h;cases h
open PySem.Spec PyProof.Rows
theorem Jew (z:Str):∀ ss:List Str,inV (.str z) (ss.map V.str)=decide (z∈ss)
 | []=>by simp [inV]
 | s::ss=>by
  have h:=Jew z ss;unfold inV at h ⊢;rw [map_cons,any_cons,h];have e:eqV (.str s) (.str z)=decide (s=z):=by first | rfl | simp [eqV]
  rw [e];by_cases c:s=z
  ·subst c;simp
  ·have c':¬ z=s:=fun q=>c q.symm;simp [c,c']
theorem ForR.byN {lo:Int} {n:Nat} {g:TG} {tb:TS} {D:Ends} {σ : St} {H:Hp} (Pv:Nat->St->Hp->Prop) (h0:Pv 0 σ H)
  (hs:∀ i σ H,i<n->Pv i σ H->∀ N:St->Hp->Prop,(∀ σ' H',Pv (i+1) σ' H'->N σ' H')->g (.int (lo+i)) σ H fun σ2 H2=>tb { D with nx:=N,ct:=N,bk:=D.nx } σ2 H2) (hd:∀ σ H,Pv n σ H->D.nx σ H):ForR lo n g tb D σ H :=
 ForR.by Pv h0 (fun i σ H b a=>hs i σ H b a _ fun _ _ h=>h) hd
theorem ForA.byLN {K:W.Frag} {a:Addr} {xs:List V} {g:TG} {tb:TS} {D:Ends} {σ : St} {H:Hp} (hA:SqL K H a xs) (Pv:Nat->St->Hp->Prop) (h0:Pv 0 σ H) (hl:∀ i σ H',Pv i σ H'->SqL K H' a xs)
  (hs:∀ i x σ H,xs[i]?=some x->Pv i σ H->∀ N:St->Hp->Prop,(∀ σ' H',Pv (i+1) σ' H'->N σ' H')->g x σ H fun σ2 H2=>tb { D with nx:=N,ct:=N,bk:=D.nx } σ2 H2) (hd:∀ σ H,Pv xs.length σ H->D.nx σ H):ForA K a g tb D σ H :=
 ForA.byL hA Pv h0 hl (fun i x σ H b c=>hs i x σ H b c _ fun _ _ h=>h) hd
def prodI:List Int->Int
 | []=>1
 | f::r=>f*prodI r
theorem Jei (f:Int):∀ fs:List Int,prodI (fs++[f])=prodI fs*f
 | []=>by simp [prodI]
 | g::fs=>by rw [cons_append];simp only [prodI,Jei f fs];rw [Int.mul_assoc]
structure Scl (b:Int) (fs:List Int):Prop where
 b1:1<=b
 f1:∀ f∈fs,1<=f
 pr:prodI fs=b
theorem Scl.nil:Scl 1 []:=⟨by decide,by simp,rfl⟩
theorem Scl.snoc {b f:Int} {fs:List Int} (h:Scl b fs) (hf:1<=f):Scl (b*f) (fs++[f]):=⟨by
 have:=Int.mul_pos (show 0<b by have:=h.b1;ac_nf) (show 0<f by ac_nf);ac_nf,fun g a=>by
 rcases mem_append.mp a with a | a
 ·exact h.f1 g a
 ·rw [mem_singleton.mp a];exact hf,by rw [Jei,h.pr]⟩
section
variable {X:Cx} {tg:Expr}
end
def notStar:Expr->Bool
 | .Starred _ _=>false
 | _=>true
theorem Jah {e:Expr} {es:List Expr} {env:Env} (h:notStar e=true):starEach (e::es) env=(false,eval e env)::starEach es env:=by
 cases e <;> first | rfl | (simp [notStar] at h)
theorem Jaa {X:Cx} {e:Expr} {es:List Expr} {te:TE} {t:TA} (ha:PE X e te) (hr:PA X es t) (hs:notStar e=true:=by rfl):PA X (e::es) (tCons te t):=Jjg ha hr (Jah hs)
section
variable {K:W.Frag} {H H':Hp} {x:V} {a c:Addr}
def FLV (K:W.Frag) (H:Hp) (s:Int × Int) (x:V):Prop:=FrV K H x s.1 s.2
theorem FLV.sameT {s:Int × Int} (T:SameT H H') (h:FLV K H s x):FLV K H' s x:=FrV.sameT T h
end
section
variable {X:Cx}
end
section
variable {prog:Program} {w:World} {A:Around} {E:Value->Shared->Prop} {s:Shared}
end
section
variable {X:Cx}
end
def ext (M:Str->Option Str) (f:Str):Str:=(M f).getD f
section
variable {ls:List PD} {M:Str->Option Str} {a b f g:Str} {p:PD}
end
section
variable {K:W.Frag} {H H':Hp}
end
section
variable {a b:Str->Rat}
end
structure Gp where
 R:Rat
 way:List Str
section
variable {N:List Str} {w M:Str->Rat} {gs:List Gp} {f f':Str->Rat}
end
def left (lvs:List (Str × (Int × Int))) (w:Str->Rat) (n:Str):Rat:=if n∈lvs.map (·.1) then 0 else w n
section
variable {lvs:List (Str × (Int × Int))} {n m:Str} {L:Int × Int} {ns:List Str} {w:Str->Rat}
end
section
variable {N:List Str} {w M:Str->Rat} {gs:List Gp} {lvs:List (Str × (Int × Int))} {c:Rat} {L:Int × Int} {ns:List Str}
end
section
variable {D E:Int} {r s:Rat}
end
theorem Ji1 {kvs:List (Key × V)} {vs:List (Key × Value)} (rel:KV kvs vs):vs.map (·.1)=kvs.map (·.1):=by
 unfold KV at rel;induction rel with
 | nil=>rfl
 | cons h1 _ ih=>rw [map_cons,map_cons,ih,h1.1]
theorem JiZ {P:Program} {w:World} {z:Str} {v:Value} (h:(Jaz P w).is (Sum.inr z) v=true):∃ t,v=.str z t:=by
 rcases JaI (show keyIs (Sum.inr z) v=true from h) with ⟨b,hb,_⟩ | ⟨y,t,hy,rfl⟩
 ·cases hb
 ·cases hy;exact ⟨t,rfl⟩
def Itk (d:Addr) (od:Obj) (kvs:List (Key × V)) (ss:List Str):It :=
 ⟨fun i H=>H d=some (.frz od (.dK kvs))/\i<ss.length,fun i H x H'=>H'=H/\(ss.map V.str)[i]?=some x,fun i H=>H d=some (.frz od (.dK kvs))/\ss.length<=i⟩
theorem JhO {P:Program} {w:World} {K:W.Frag} {tg:Expr} {d it:Addr} {od:Obj} {kvs:List (Key × V)} {ss:List Str} {vs:List (Key × Value)} {ep:Nat} (rel:KV kvs vs) (hk:kvs.map (·.1)=ss.map Sum.inr) (hd:∀ h:Heap,h.get? d=some od->h.DictAt (Jaz P w) d vs ep) :
  Turn P w K tg (Itk d od kvs ss) [it] it (fun i h=>h.IsKeyIter it d i vs.length ep) where
 mem:=by simp
 obj:=fun i h a b l=>by
  obtain rfl:b=it:=by simpa using l
  obtain ⟨o,e,c,z⟩:=a;exact ⟨o,e,fun v q=>by rw [z] at q;cases q⟩
 keep:=fun i h y a k=>a.at fun o e=>k it (by simp) o e
 item:=by
  intro X N G D O i f s σ H E I u a B;subst N G D;obtain ⟨j,J⟩:=B;obtain ⟨L,M,T,F,A,C⟩:=u it (by simp);have g:=(I.hok d _ j).1;have S:=rel.length;have lk:kvs.length=ss.length:=by simpa using congrArg List.length hk
  obtain ⟨⟨k,U⟩,n⟩:∃ p,vs[i]?=some p:=⟨_,List.getElem?_eq_getElem (show i<vs.length by ac_nf)⟩;have x:(vs.map (·.1))[i]?=some k:=by rw [List.getElem?_map,n];rfl
  rw [Ji1 rel,hk,List.getElem?_map,List.getElem?_eq_getElem J] at x;have x:Sum.inr ss[i]=k:=Option.some.inj x;subst x;refine wpAny_pyNext_dict_item a (hd _ g) n fun key y r m Q=>?_;obtain ⟨t,rfl⟩:=JiZ r;have I1:Inv X f σ H { s with heap:=y }:=I.turned (t':=s.toks) (fun b o l e=>(Q.2 b l).trans e) L M F A C;obtain ⟨o,e,c,z⟩:=id m;exact ⟨_,rfl,go_of (s:={ s with heap:=y }) e c z ⋯ ⟨.str ss[i],H,I1,⟨t,rfl⟩,⟨rfl,by rw [List.getElem?_map,List.getElem?_eq_getElem J];rfl⟩,m,fun b l=>(u b l).1⟩⟩
 done:=by
  intro X N G D O i f s σ H E I u a B;subst N G D;obtain ⟨j,J⟩:=B;obtain ⟨L,M,T,F,A,C⟩:=u it (by simp);have g:=(I.hok d _ j).1;have S:=rel.length;have lk:kvs.length=ss.length:=by simpa using congrArg List.length hk
  exact wpAny_pyNext_dict_end (I.ok.hd O) a (hd _ g) (List.getElem?_eq_none ∅) fun y R=>⟨rfl,I.turned (t':=s.toks) (fun b o l e=>R b o l e) L M F A C⟩
 self:=fun _ _ _ _ _ a h=>wpAny_pyIter_keyiter a h
section
variable {X:Cx} {tg:Expr}
def iKeys (td:TE):TI:=fun σ H R=>td σ H fun x H1=>∃ (d:Addr) (kvs:List (Key × V)) (ss:List Str),x=.ref d/\H1 d=some (.dK kvs)/\kvs.map (·.1)=ss.map Sum.inr/\∀ od,R (Itk d od kvs ss) (upd H1 d (.frz od (.dK kvs)))
theorem JhA {o:Expr} {td:TE} (ho:PE X o td):PI X tg o (iKeys td):=by
 intro c s σ H R I h;refine thn (ho c s σ H _ I h) fun v g ζ=>?_;obtain ⟨y,B,I1,m,d,kvs,A,u,e,x,p⟩:=ζ;subst u;obtain rfl:v=Value.ref d:=m;obtain ⟨C,r,vs,f,n⟩:=dk_of I1.hok e;obtain ⟨ep,k⟩:=n.dictAt;obtain ⟨j,l,a,rest⟩:=id k;refine wpAny_pyIter_dict (knd:=Jaz X.prog X.w) (d:=d) (kvs:=vs) (ep:=ep) r k ?_;have t:∀ b o,g.heap.get? b=some o->(g.heap.push { cls:=.type "dict_keyiterator",data:=.fields #[.ref d, .int 0 0, .int vs.length 0, .int ep 0] }).get? b=some o:=fun b o z=>Heap.get?_push_of_some _ z;have I2:=(I1.freeze e a).kept (t':=g.toks) t;refine ⟨_,[_],_,_,_,rfl,I2,JhO (vs:=vs) (ep:=ep) f x (fun h q=>⟨j,l,q,rest⟩),⟨_,Heap.get?_push_size _ rfl,rfl,rfl⟩,fun b i=>?_,p j⟩;obtain rfl:=mem_singleton.mp i;exact I1.fpOk (Nat.le_refl _) ((I1.freeze e a).hok.fresh (Nat.le_refl _))
def Jkm (ts:TS):TS:=fun D σ H=>∃ d kvs,H d=some (.dK kvs)/\ts { nx:=fun σ' H'=>∃ od kvs',H' d=some (.frz od (.dK kvs'))/\D.nx σ' (upd H' d (.dK kvs')),rt:=fun _ _=>False } σ H
theorem ps_no {st:Stmt}:PS X st (fun _ _ _=>False):=fun _ _ _ _ _ _ h=>h.elim
def tSumV (td:TE):TE:=fun σ H Q=>td σ H fun x H1=>∃ (d:Addr) (kvs:List (Key × V)) (ns:List Int),x=.ref d/\H1 d=some (.dK kvs)/\kvs.map (·.2)=ns.map V.int/\Q (.int ns.sum) H1
end
section
variable {k:Nat} {cs:List (Nat × Str)} {g:TG} {te tl td:TE} {tt:TT} {σ : St} {H H1:Hp} {Q:VK} {d:Addr} {od:Obj} {kvs:List (Key × V)} {ss:List Str}
theorem y8ay:tSumV td σ H Q=td σ H fun x H1=>∃ (d:Addr) (kvs:List (Key × V)) (ns:List Int),x=.ref d/\H1 d=some (.dK kvs)/\kvs.map (·.2)=ns.map V.int/\Q (.int ns.sum) H1:=rfl
theorem y37y:JhK k cs (iKeys td) g tt te σ H Q=td σ H fun x H1=>∃ (d1:Addr) (kvs1:List (Key × V)) (ss:List Str),x=.ref d1/\H1 d1=some (.dK kvs1)/\kvs1.map (·.1)=ss.map Sum.inr/\∀ od,Jf1 (Itk d1 od kvs1 ss) k cs g tt te σ Q (upd H1 d1 (.frz od (.dK kvs1))):=rfl
theorem y38y:tThaw (JhK k cs (iKeys td) g tt te) σ H Q=∃ d kvs,H d=some (.dK kvs)/\td σ H fun x H1=>∃ (d1:Addr) (kvs1:List (Key × V)) (ss:List Str),x=.ref d1/\H1 d1=some (.dK kvs1)/\kvs1.map (·.1)=ss.map Sum.inr/\∀ od,Jf1 (Itk d1 od kvs1 ss) k cs g tt te σ (fun v H'=>∃ od kvs',H' d=some (.frz od (.dK kvs'))/\Q v (upd H' d (.dK kvs'))) (upd H1 d1 (.frz od (.dK kvs1))):=rfl
theorem y8dy {ts:TS} {En:Ends}:Jkm ts En σ H=∃ d kvs,H d=some (.dK kvs)/\ts { nx:=fun σ' H'=>∃ od kvs',H' d=some (.frz od (.dK kvs'))/\En.nx σ' (upd H' d (.dK kvs')),rt:=fun _ _=>False } σ H:=rfl
theorem DGet.f {H:Hp} {a:Addr} {kvs:List (Key × V)} {k:Key} {od:Obj} (e:H a=some (.frz od (.dK kvs))):DGet H a (kV k) (valV kvs k):=.inl ⟨kvs,k, .inr ⟨od,e⟩,rfl,rfl⟩
end
def subF (a c:Int × Int):Int × Int:=(Mth.top (a.1*c.2-c.1*a.2) (a.2*c.2),Mth.bot (a.1*c.2-c.1*a.2) (a.2*c.2))
structure Lo (a:Int × Int):Prop where
 b1:1<=a.2
 g1:Mth.g a.1 a.2=1
theorem FB.lo {A B:Nat} {a:Int × Int} (h:FB A B a):Lo a:=⟨h.b1,h.g1⟩
theorem Lo.inj {a c:Int × Int} (h:Lo a) (k:Lo c) (e:vl a=vl c):a=c:=Jkr h.b1 k.b1 h.g1 k.g1 e
theorem Jhh {t b:Int} (hb:1<=b):Lo (Mth.top t b,Mth.bot t b):=⟨Mth.Jbe ∅,Mth.g_low ∅⟩
section
variable {a c:Int × Int}
theorem Jgi {x y:Int} (hx:1<=x) (hy:1<=y):1<=x*y:=by
 have:=Int.mul_pos (show 0<x by ac_nf) (show 0<y by ac_nf);ac_nf
theorem Jkt (ha:1<=a.2) (hc:1<=c.2):vl (subF a c)=vl a-vl c:=by
 unfold subF;rw [Jks (Jgi ha hc)];have b:=JcA ha;have d:=JcA hc;unfold vl;push_cast;generalize (a.1:Rat)=x at *;generalize (a.2:Rat)=y at *;generalize (c.1:Rat)=z at *;generalize (c.2:Rat)=t at *;grind
theorem Jgp (k:Int):vl (k,1)=(k:Rat):=by
 unfold vl;have : ((1:Int):Rat)=1:=rfl;grind
theorem Jce:vl (0,1)=0:=Jgp 0
end
structure LidD where
 nm:Str
 rest:Int × Int
 ws:List (Str × Int)
 load:Int
 last:Int × Int
section
variable {w:Str->Rat} {g:Gp} {lvs:List (Str × (Int × Int))} {e:LidD} {m:Str} {L:Int × Int}
end
section
variable {N:List Str} {w:Str->Rat} {gs:List Gp} {lvs:List (Str × (Int × Int))} {L:Int × Int} {m:Str}
end
section
variable {H H':Hp} {d a:Addr} {od:Obj} {kv kw:List (Key × V)} {k:Key}
end
section
variable {b Q:Int} {N:List Str} {w M:Str->Rat} {gs:List Gp} {ms lvs:List (Str × (Int × Int))} {lds:List LidD} {L:Int × Int} {ns:List Str} {D:Int} {k:Nat}
end
structure ShD where
 nm:Str
 sl:Int × Int
 sp:Option Str
section
variable {ls:List PD} {es:List (GD × List Str)} {pl:Str->Int × Int} {p:PD} {f f':Str->Rat} {rs rs':List ShD}
end
section
variable {ls:List PD} {es:List (GD × List Str)} {pl:Str->Int × Int} {lds:List LidD} {ms lvs:List (Str × (Int × Int))} {b q0:Int}
end
section
variable {ls:List PD} {es:List (GD × List Str)} {pl:Str->Int × Int} {lds:List LidD} {ms lvs:List (Str × (Int × Int))} {b q0:Int}
end
section
variable {a b c d B:TS} {D:Ends} {σ : St} {H:Hp}
end
structure Nxt (R:St->Hp->Prop) (b:TS) (D:Ends):Prop where
 go:∀ {σ : St} {H:Hp},b D σ H->R σ H
theorem JeO {a b:TS} {D:Ends} {σ : St} {H:Hp} (h:∀ R,Nxt R b D->a { D with nx:=R } σ H):tSeq a b D σ H:=h _ ⟨fun z=>z⟩
structure SpS where
 src:Str
 tgt:Str
 cost:Int × Int
 wh:Int
 nm:Str
 fw:Bool
abbrev SumD:=List (Str × Int)
abbrev LasD:=List (Str × SpS)
section
variable {α : Type}
def lk:List (Str × α)->Str->Option α
 | [],_=>none
 | p::r,f=>if p.1=f then some p.2 else lk r f
def pu (l:List (Str × α)) (f:Str) (a : α):List (Str × α):=if (l.any fun p=>decide (p.1=f))=true then l.map (fun p=>if p.1=f then (p.1,a) else p) else l++[(f,a)]
theorem Jhe {f g:Str} {a : α} (h:f≠g):∀ l:List (Str × α),lk (l.map fun p=>if p.1=f then (p.1,a) else p) g=lk l g
 | []=>rfl
 | p::r=>by
  rw [map_cons];unfold lk;by_cases c:p.1=f
  ·rw [if_pos c];have : ¬ p.1=g:=fun e=>h (c.symm.trans e);rw [if_neg this,if_neg this];exact Jhe h r
  ·rw [if_neg c];by_cases d:p.1=g
   ·rw [if_pos d,if_pos d]
   ·rw [if_neg d,if_neg d];exact Jhe h r
theorem Jhf {f:Str} {a : α}:∀ l:List (Str × α),(l.any fun p=>decide (p.1=f))=true->lk (l.map fun p=>if p.1=f then (p.1,a) else p) f=some a
 | [],h=>by simp at h
 | p::r,h=>by
  rw [map_cons];unfold lk;by_cases c:p.1=f
  ·rw [if_pos c,if_pos c]
  ·rw [if_neg c,if_neg c];exact Jhf r (by simpa [c] using h)
theorem Jiz {g:Str} {a : α} {f:Str}:∀ l:List (Str × α),lk (l++[(f,a)]) g=match lk l g with | some b=>some b | none=>if f=g then some a else none
 | []=>rfl
 | p::r=>by
  rw [cons_append];unfold lk;by_cases c:p.1=g
  ·rw [if_pos c,if_pos c]
  ·rw [if_neg c,if_neg c];exact Jiz r
theorem Jhg {f:Str}:∀ l:List (Str × α), ¬ (l.any fun p=>decide (p.1=f))=true->lk l f=none
 | [],_=>rfl
 | p::r,h=>by
  unfold lk;by_cases c:p.1=f
  ·exact absurd (by simp [c]) h
  ·rw [if_neg c];exact Jhg r fun z=>h (by rw [any_cons,z,Bool.or_true])
theorem lk_pu {l:List (Str × α)} {f g:Str} {a : α}:lk (pu l f a) g=if f=g then some a else lk l g:=by
 unfold pu;by_cases c:(l.any fun p=>decide (p.1=f))=true
 ·rw [if_pos c];by_cases d:f=g
  ·subst d;rw [if_pos rfl];exact Jhf l c
  ·rw [if_neg d];exact Jhe d l
 ·rw [if_neg c,Jiz];by_cases d:f=g
  ·subst d;rw [Jhg l c,if_pos rfl]
  ·rw [if_neg d];cases lk l g <;> simp [d]
theorem JbV {l:List (Str × α)} {f:Str} {a : α}:lk (pu l f a) f=some a:=by rw [lk_pu,if_pos rfl]
theorem lk_ne {l:List (Str × α)} {f g:Str} {a : α} (h:f≠g):lk (pu l f a) g=lk l g:=by rw [lk_pu,if_neg h]
end
structure BF where
 S:SumD
 P:LasD
 ch:Option Str
def gains (S:SumD) (s:SpS):Option Int :=
 match lk S s.src with
 | none=>none
 | some a=>match lk S s.tgt with
  | none=>some (a+s.wh)
  | some b=>if a+s.wh<b then some (a+s.wh) else none
def rlx (t:BF) (s:SpS):BF :=
 match gains t.S s with
 | none=>t
 | some a=>⟨pu t.S s.tgt a,pu t.P s.tgt s,some s.tgt⟩
def trn (ss:List SpS) (t:BF):BF:=ss.foldl rlx { t with ch:=none }
inductive Wk (ss:List SpS) (f0:Str):List SpS->Str->Prop
 | nil:Wk ss f0 [] f0
 | snoc {l:List SpS} {s:SpS}:Wk ss f0 l s.src->s∈ss->Wk ss f0 (l++[s]) s.tgt
def wgt (l:List SpS):Int:=(l.map (·.wh)).sum
theorem JbU {l:List SpS} {s:SpS}:wgt (l++[s])=wgt l+s.wh:=by simp [wgt]
section
variable {ss:List SpS} {f0:Str} {fs:List Str} {π : Str->Int} {t:BF} {s:SpS}
def Pot (π : Str->Int) (ss:List SpS):Prop:=∀ s∈ss,π s.tgt<=π s.src+s.wh
structure BI (ss:List SpS) (fs:List Str) (π : Str->Int) (S:SumD) (P:LasD):Prop where
 z:∀ f∈fs, ∃ b,lk S f=some b/\b<=0
 p0:∀ v b,lk S v=some b->lk P v=none->v∈fs/\b=0
 st:∀ v s,lk P v=some s->s∈ss/\s.tgt=v/\∃ a b,lk S s.src=some a/\lk S v=some b/\a+s.wh<=b
 wk:∀ v b,lk S v=some b->∃ f∈fs, ∃ l,Wk ss f l v/\wgt l=b
 rk:∃ r:Str->Nat, ∀ v s,lk P v=some s->r s.src<r v
inductive Dsc (P:LasD) (v:Str):Str->Prop
 | refl:Dsc P v v
 | step {x:Str} {s:SpS}:lk P x=some s->Dsc P v s.src->Dsc P v x
theorem Dsc.mono {S:SumD} {P:LasD} (hp:Pot π ss) (h:BI ss fs π S P) {v x:Str} (d:Dsc P v x):∀ a b,lk S v=some a->lk S x=some b->a-π v<=b-π x:=by
 induction d with
 | refl=>intro a b g f;rw [g] at f;cases f;ac_nf
 | step g _ ih=>
  intro a b j i;obtain ⟨m,e,c,d,f,k,l⟩:=h.st _ _ g;rw [k] at i;cases i;have:=ih a c j f;have:=hp _ m;rw [e] at this;ac_nf
theorem Jcw {S:SumD} {c:Int} (h:gains S s=some c):∃ a,lk S s.src=some a/\c=a+s.wh/\∀ b,lk S s.tgt=some b->c<b:=by
 unfold gains at h;cases e:lk S s.src with
 | none=>rw [e] at h;cases h
 | some a=>
  rw [e] at h;refine ⟨a,rfl,?_⟩;cases e2:lk S s.tgt with
  | none=>rw [e2] at h;cases h;exact ⟨rfl,fun b d=>by cases d⟩
  | some b=>
   rw [e2] at h;dsimp only at h;split at h
   ·cases h;rename_i c;exact ⟨rfl,fun f d=>by cases d;exact c⟩
   ·cases h
theorem JcW {S:SumD} (h:gains S s=none):∀ a,lk S s.src=some a->∃ b,lk S s.tgt=some b/\b<=a+s.wh:=by
 intro a d;unfold gains at h;rw [d] at h;cases e2:lk S s.tgt with
 | none=>rw [e2] at h;cases h
 | some b=>
  rw [e2] at h;dsimp only at h;split at h
  ·cases h
  ·rename_i c;exact ⟨b,rfl,by ac_nf⟩
theorem BI.put {S:SumD} {P:LasD} (hp:Pot π ss) (h:BI ss fs π S P) (hs:s∈ss) {c:Int} (hg:gains S s=some c):BI ss fs π (pu S s.tgt c) (pu P s.tgt s):=by
 obtain ⟨a,p,K,n⟩:=Jcw hg;have I:=hp s hs;have y:¬ Dsc P s.tgt s.src:=fun d=>by
  cases e:lk S s.tgt with
  | none=>
   have : ∀ x,Dsc P s.tgt x->lk S x=none:=fun x D=>by
    induction D with
    | refl=>exact e
    | step j _ ih=>
     obtain ⟨_,_,c,d,k,_⟩:=h.st _ _ j;rw [ih] at k;cases k
   rw [this _ d] at p;cases p
  | some b=>
   have j:=d.mono hp h b a e p;have k:=n b e;ac_nf
 have H:s.src≠s.tgt:=fun e=>y (by rw [e];exact .refl);have o:∀ v b,lk S v=some b->∃ i,lk (pu S s.tgt c) v=some i/\i<=b:=fun v b C=>by
  by_cases e:s.tgt=v
  ·subst e;exact ⟨c,JbV,Int.le_of_lt (n b C)⟩
  ·exact ⟨b,by rw [lk_ne e];exact C,Int.le_refl _⟩
 refine ⟨fun f u=>?_,fun v b g t=>?_,fun v q g=>?_,fun v b g=>?_,?_⟩
 ·obtain ⟨b,j,k⟩:=h.z f u;obtain ⟨i,B,A⟩:=o f b j;exact ⟨i,B,by ac_nf⟩
 ·by_cases e:s.tgt=v
  ·subst e;rw [JbV] at t;cases t
  ·rw [lk_ne e] at g t;exact h.p0 v b g t
 ·by_cases e:s.tgt=v
  ·subst e;rw [JbV] at g;cases g;exact ⟨hs,rfl,a,c,by rw [lk_ne (Ne.symm H)];exact p,JbV,by ac_nf⟩
  ·rw [lk_ne e] at g;obtain ⟨m,E,M,i,j,k,B⟩:=h.st v q g;obtain ⟨w,A,L⟩:=o _ _ j;exact ⟨m,E,w,i,A,by rw [lk_ne e];exact k,by ac_nf⟩
 ·by_cases e:s.tgt=v
  ·subst e;rw [JbV] at g;cases g;obtain ⟨f,u,l,J,G⟩:=h.wk _ _ p;exact ⟨f,u,l++[s], .snoc J hs,by rw [JbU,G,K]⟩
  ·rw [lk_ne e] at g;exact h.wk v b g
 ·obtain ⟨r,F⟩:=h.rk;refine ⟨fun x=>open Classical in if Dsc P s.tgt x then r x+r s.src+1 else r x,fun v q g=>?_⟩;dsimp only;by_cases e:s.tgt=v
  ·subst e;rw [JbV] at g;cases g;rw [if_neg y,if_pos .refl];ac_nf
  ·rw [lk_ne e] at g;have:=F v q g;by_cases d:Dsc P s.tgt q.src
   ·rw [if_pos d,if_pos (.step g d)];ac_nf
   ·rw [if_neg d];split
    ·ac_nf
    ·exact this
end
section
variable {ss:List SpS} {f0:Str} {fs:List Str} {π : Str->Int} {t:BF} {s:SpS}
theorem BI.rlx (hp:Pot π ss) (h:BI ss fs π t.S t.P) (hs:s∈ss):BI ss fs π (L2.rlx t s).S (L2.rlx t s).P:=by
 unfold L2.rlx;cases e:gains t.S s with
 | none=>exact h
 | some c=>exact h.put hp hs e
theorem BI.fold (hp:Pot π ss):∀ (l:List SpS) (t:BF),BI ss fs π t.S t.P->(∀ s∈l,s∈ss)->BI ss fs π (l.foldl L2.rlx t).S (l.foldl L2.rlx t).P
 | [],_,h,_=>h
 | s::l,t,h,hs=>by
  rw [foldl_cons];exact BI.fold hp l _ (h.rlx hp (hs s (by simp))) fun x hx=>hs x (by simp [hx])
def LeS (S S':SumD):Prop:=∀ v b,lk S v=some b->∃ b',lk S' v=some b'/\b'<=b
theorem LeS.refl {S:SumD}:LeS S S:=fun v b h=>⟨b,h,Int.le_refl _⟩
theorem LeS.trans {S S' S'':SumD} (h:LeS S S') (k:LeS S' S''):LeS S S'':=fun v b a=>by
 obtain ⟨c,e,i⟩:=h v b a;obtain ⟨d,f,g⟩:=k v c e;exact ⟨d,f,by ac_nf⟩
theorem LeS.rlx:LeS t.S (L2.rlx t s).S:=by
 unfold L2.rlx;cases e:gains t.S s with
 | none=>exact LeS.refl
 | some c=>
  obtain ⟨a,_,_,d⟩:=Jcw e;intro v b f;by_cases q:s.tgt=v
  ·subst q;exact ⟨c,JbV,Int.le_of_lt (d b f)⟩
  ·exact ⟨b,by show lk (pu t.S s.tgt c) v=_;rw [lk_ne q];exact f,Int.le_refl _⟩
theorem LeS.fold:∀ (l:List SpS) (t:BF),LeS t.S (l.foldl L2.rlx t).S
 | [],_=>LeS.refl
 | s::l,t=>by
  rw [foldl_cons];exact LeS.rlx.trans (LeS.fold l _)
theorem Jjp {a:Int} (h:lk t.S s.src=some a):∃ b,lk (rlx t s).S s.tgt=some b/\b<=a+s.wh:=by
 unfold rlx;cases e:gains t.S s with
 | none=>exact JcW e a h
 | some c=>
  obtain ⟨f,d,g,_⟩:=Jcw e;rw [h] at d;cases d;exact ⟨c,JbV,by ac_nf⟩
theorem Jgc:∀ (l:List SpS) (t:BF) (s:SpS) (a:Int),s∈l->lk t.S s.src=some a->∃ b,lk (l.foldl rlx t).S s.tgt=some b/\b<=a+s.wh
 | [],_,_,_,h,_=>by cases h
 | x::l,t,s,a,h,ha=>by
  rw [foldl_cons];rcases mem_cons.mp h with e | h
  ·subst e;obtain ⟨b,h1,h2⟩:=Jjp ha;obtain ⟨c,h3,h4⟩:=LeS.fold l _ _ _ h1;exact ⟨c,h3,by ac_nf⟩
  ·obtain ⟨a',h1,h2⟩:=LeS.rlx (s:=x) _ _ ha;obtain ⟨b,h3,h4⟩:=Jgc l _ s a' h h1;exact ⟨b,h3,by ac_nf⟩
def itr (ss:List SpS):Nat->BF->BF
 | 0,t=>t
 | n+1,t=>trn ss (itr ss n t)
def bf0 (fs:List Str):BF:=⟨fs.foldl (fun S f=>pu S f 0) [],[],none⟩
theorem Jio:∀ (fs:List Str) (S:SumD) (v:Str) (b:Int),lk (fs.foldl (fun S f=>pu S f 0) S) v=some b↔(v∈fs/\b=0)\/(v∉fs/\lk S v=some b)
 | [],S,v,b=>by simp
 | f::fs,S,v,b=>by
  rw [foldl_cons,Jio fs (pu S f 0) v b,lk_pu];by_cases c:v∈fs
  ·simp [c]
  ·by_cases d:f=v
   ·subst d;simp [c];exact eq_comm
   ·have d':v≠f:=fun e=>d e.symm;simp [c,d,d']
theorem Jf5 {fs:List Str} {v:Str} {b:Int}:lk (bf0 fs).S v=some b↔v∈fs/\b=0:=by
 unfold bf0;rw [Jio fs [] v b];simp [lk]
theorem BI.start:BI ss fs π (bf0 fs).S (bf0 fs).P where
 z:=fun f c=>⟨0,Jf5.mpr ⟨c,rfl⟩,Int.le_refl _⟩
 p0:=fun v b h _=>Jf5.mp h
 st:=fun v s h=>by cases h
 wk:=fun v b h=>by
  obtain ⟨a,d⟩:=Jf5.mp h;exact ⟨v,a,[], .nil,d.symm⟩
 rk:=⟨fun _=>0,fun v s h=>by cases h⟩
theorem BI.itr (hp:Pot π ss):∀ n,BI ss fs π (L2.itr ss n (bf0 fs)).S (L2.itr ss n (bf0 fs)).P
 | 0=>BI.start
 | n+1=>BI.fold hp ss _ (BI.itr hp n) fun _ h=>h
theorem JjH (hf:f0∈fs):∀ (i:Nat) (l:List SpS) (v:Str),Wk ss f0 l v->l.length<=i->∃ b,lk (itr ss i (bf0 fs)).S v=some b/\b<=wgt l:=by
 intro i;induction i with
 | zero=>
  intro l v h d;cases h with
  | nil=>exact ⟨0,Jf5.mpr ⟨hf,rfl⟩,Int.le_refl _⟩
  | snoc _ _=>simp at d
 | succ i ih=>
  intro l v h d;cases h with
  | nil=>
   obtain ⟨b,a,g⟩:=ih [] f0 .nil (by simp);obtain ⟨c,e,f⟩:=LeS.fold ss { itr ss i (bf0 fs) with ch:=none } _ _ a;exact ⟨c,e,by ac_nf⟩
  | @snoc l s h hs=>
   obtain ⟨b,a,g⟩:=ih l _ h (by simpa using d);obtain ⟨c,e,f⟩:=Jgc ss { itr ss i (bf0 fs) with ch:=none } s b hs a;exact ⟨c,e,by rw [JbU];ac_nf⟩
theorem Wk.cut (hp:Pot π ss) {l:List SpS} {u:Str} (h:Wk ss f0 l u):∀ x,x∈f0::l.map (·.tgt)->(f0::l.map (·.tgt)).Nodup->∃ p,Wk ss f0 p x/\wgt p+(π u-π x)<=wgt l/\(f0::p.map (·.tgt)).Nodup:=by
 induction h with
 | nil=>
  intro x a b;have : x=f0:=by simpa using a
  subst this;exact ⟨[], .nil,by ac_nf,b⟩
 | @snoc l s h hs ih=>
  intro x a b;by_cases e:x=s.tgt
  ·subst e;exact ⟨l++[s], .snoc h hs,by ac_nf,b⟩
  ·have c:x∈f0::l.map (·.tgt):=by
    rw [map_append, <- cons_append] at a;rcases mem_append.mp a with a | a
    ·exact a
    ·exact absurd (by simpa using a) e
   have d:(f0::l.map (·.tgt)).Nodup:=by
    rw [map_append, <- cons_append] at b;exact (nodup_append.mp b).1
   obtain ⟨p,f,i,g⟩:=ih x c d;have:=hp s hs;exact ⟨p,f,by rw [JbU];ac_nf,g⟩
theorem Wk.simple (hp:Pot π ss) {l:List SpS} {v:Str} (h:Wk ss f0 l v):∃ p,Wk ss f0 p v/\wgt p<=wgt l/\(f0::p.map (·.tgt)).Nodup:=by
 induction h with
 | nil=>exact ⟨[], .nil,Int.le_refl _,by simp⟩
 | @snoc l s h hs ih=>
  obtain ⟨p,d,n,f⟩:=ih;have:=hp s hs;by_cases c:s.tgt∈f0::p.map (·.tgt)
  ·obtain ⟨q,j,m,k⟩:=d.cut hp _ c f;exact ⟨q,j,by rw [JbU];ac_nf,k⟩
  ·refine ⟨p++[s], .snoc d hs,by rw [JbU,JbU];ac_nf,?_⟩;rw [map_append, <- cons_append];exact nodup_append.mpr ⟨f,by simp,fun a g b i e=>c (by
    have q:b=s.tgt:=by simpa using i
    rw [<- q, <- e];exact g)⟩
theorem Wk.mem {l:List SpS} {v:Str} (h:Wk ss f0 l v):∀ s∈l,s∈ss:=by
 induction h with
 | nil=>intro s h;cases h
 | snoc _ hs ih=>
  intro x a;rcases mem_append.mp a with a | a
  ·exact ih x a
  ·rw [mem_singleton.mp a];exact hs
theorem Wk.len {l:List SpS} {v:Str} (h:Wk ss f0 l v) (hn:(f0::l.map (·.tgt)).Nodup):l.length<=ss.length:=by
 have:=sub_len (l.map (·.tgt)) (ss.map (·.tgt)) (nodup_cons.mp hn).2 fun x a=>by
  obtain ⟨s,b,rfl⟩:=mem_map.mp a;exact mem_map.mpr ⟨s,h.mem s b,rfl⟩
 simpa using this
theorem JhY (hp:Pot π ss):∀ s∈ss,gains (itr ss ss.length (bf0 fs)).S s=none:=fun s i=>by
 cases e:gains (itr ss ss.length (bf0 fs)).S s with
 | none=>rfl
 | some c=>
  obtain ⟨a,h,q,d⟩:=Jcw e;obtain ⟨f,k,l,j,r⟩:=(BI.itr hp ss.length (fs:=fs)).wk _ _ h;obtain ⟨p,g,o,n⟩:=(Wk.snoc j i).simple hp;obtain ⟨b,m,t⟩:=JjH k _ p _ g (g.len n);have:=d b m;rw [JbU] at o;ac_nf
theorem Jg3:∀ (l:List SpS) (t:BF),(l.foldl rlx t).ch=none->l.foldl rlx t=t/\∀ s∈l,gains t.S s=none
 | [],t,_=>⟨rfl,fun s h=>by cases h⟩
 | x::l,t,h=>by
  rw [foldl_cons] at h ⊢;obtain ⟨h1,h2⟩:=Jg3 l _ h;rw [h1] at h;cases e:gains t.S x with
  | none=>
   have ex:rlx t x=t:=by unfold rlx;rw [e]
   rw [ex] at h1 h2 ⊢;refine ⟨h1,fun s hs=>?_⟩;rcases mem_cons.mp hs with q | hs
   ·subst q;exact e
   ·exact h2 s hs
  | some c=>
   unfold rlx at h;rw [e] at h;cases h
theorem Jg4:∀ (l:List SpS) (t:BF),(∀ s∈l,gains t.S s=none)->l.foldl rlx t=t
 | [],_,_=>rfl
 | x::l,t,h=>by
  have ex:rlx t x=t:=by unfold rlx;rw [h x (by simp)]
  rw [foldl_cons,ex];exact Jg4 l t fun s hs=>h s (by simp [hs])
def bfR (ss:List SpS):Nat->BF->BF
 | 0,t=>t
 | n+1,t=>if (trn ss t).ch=none then trn ss t else bfR ss n (trn ss t)
structure BE (ss:List SpS) (fs:List Str) (P:LasD):Prop where
 ex:∃ S:SumD, ∃ r:Str->Nat,(∀ f∈fs, ∃ b,lk S f=some b)/\(∀ v b,lk S v=some b->lk P v=none->v∈fs/\b=0)/\(∀ v s,lk P v=some s->s∈ss/\s.tgt=v/\r s.src<r v/\∃ a,lk S s.src=some a/\lk S v=some (a+s.wh))/\∀ s∈ss, ∀ a,lk S s.src=some a->∃ b,lk S s.tgt=some b/\b<=a+s.wh
theorem BE.of {n:Nat} (hp:Pot π ss) (h:(itr ss (n+1) (bf0 fs)).ch=none):BE ss fs (itr ss (n+1) (bf0 fs)).P:=by
 have b:=BI.itr hp n (fs:=fs);obtain ⟨u,l⟩:=Jg3 ss { itr ss n (bf0 fs) with ch:=none } h;have e:itr ss (n+1) (bf0 fs)={ itr ss n (bf0 fs) with ch:=none }:=u;rw [e];generalize itr ss n (bf0 fs)=t at *;obtain ⟨r,p⟩:=b.rk;refine ⟨t.S,r,fun f w=>⟨_,(b.z f w).choose_spec.1⟩,b.p0,fun v s k=>?_,fun s o a x=>JcW (l s o) a x⟩;obtain ⟨m,q,a,c,i,j,y⟩:=b.st v s k;obtain ⟨d,g,A⟩:=JcW (l s m) a i;rw [q,j] at g;cases g;exact ⟨m,q,p v s k,a,i,by rw [j];congr 1;ac_nf⟩
end
theorem JiT {b n:Int} (h:1<=n):n∣b*n.fdiv (Mth.g b n):=by
 have i:=Mth.g_pos (a:=b) (b:=n) ∅;obtain ⟨c,d⟩:=Mth.Jdq b n;have e:=Mth.Jba (Mth.JcM b n) (by ac_nf:Mth.g b n≠0);refine ⟨c,?_⟩;generalize hg:Mth.g b n=g at *;generalize n.fdiv g=f at *;rw [d, <- e];rw [Int.mul_right_comm,Int.mul_comm g f]
theorem JgN {ts:List TD}:∀ i,(Ch.all (ts.take i)).length<=2*i:=fun i=>by
 induction i with
 | zero=>simp [Ch.all]
 | succ i ih=>
  rw [take_succ];cases ts[i]? with
  | none=>simp;ac_nf
  | some t=>
   have : (Ch.steps t).length<=2:=by unfold Ch.steps fwd bwd;cases t.hi <;> cases t.lo <;> simp
   simp only [Ch.all,List.flatMap_append,Option.toList_some,List.flatMap_cons,List.flatMap_nil,append_nil,length_append] at ih ⊢;ac_nf
section
variable {α : Type} {R R' : α->V->Prop}
def DV (R : α->V->Prop):List (Str × α)->List (Key × V)->Prop
 | [],kv=>kv=[]
 | p::P,kv=>∃ v r,kv=(Sum.inr p.1,v)::r/\R p.2 v/\DV R P r
theorem DV.len:∀ {P:List (Str × α)} {kv:List (Key × V)},DV R P kv->kv.length=P.length
 | [],_,h=>by rw [h];rfl
 | p::P,_,⟨v,r,e,_,h⟩=>by rw [e,length_cons,length_cons,h.len]
theorem DV.keys:∀ {P:List (Str × α)} {kv:List (Key × V)},DV R P kv->kv.map (·.1)=(P.map (·.1)).map Sum.inr
 | [],_,h=>by rw [h];rfl
 | p::P,_,⟨v,r,e,_,h⟩=>by rw [e,map_cons,map_cons,map_cons,h.keys]
theorem DV.mono (m:∀ a v,R a v->R' a v):∀ {P:List (Str × α)} {kv:List (Key × V)},DV R P kv->DV R' P kv
 | [],_,h=>h
 | p::P,_,⟨v,r,e,h1,h⟩=>⟨v,r,e,m _ _ h1,h.mono m⟩
theorem DV.no {z:Str}:∀ {P:List (Str × α)} {kv:List (Key × V)},DV R P kv->lk P z=none->valV kv (Sum.inr z)=none
 | [],_,h,_=>by rw [h];rfl
 | p::P,_,⟨v,r,e,_,h⟩,n=>by
  unfold lk at n;by_cases c:p.1=z
  ·rw [if_pos c] at n;cases n
  ·rw [if_neg c] at n;rw [e,JcU (by simpa using c)];exact h.no n
theorem DV.at {z:Str} {a : α}:∀ {P:List (Str × α)} {kv:List (Key × V)},DV R P kv->lk P z=some a->∃ v,valV kv (Sum.inr z)=some v/\R a v
 | [],_,_,n=>by cases n
 | p::P,_,⟨v,r,e,h1,h⟩,n=>by
  unfold lk at n;by_cases c:p.1=z
  ·rw [if_pos c] at n;cases n;exact ⟨v,by rw [e];exact JcV (by simpa using c),h1⟩
  ·rw [if_neg c] at n;rw [e,JcU (by simpa using c)];exact h.at n
theorem DV.any {f:Str}:∀ {P:List (Str × α)} {kv:List (Key × V)},DV R P kv->(kv.any fun q=>decide (q.1=Sum.inr f))=(P.any fun p=>decide (p.1=f))
 | [],_,h=>by rw [h];rfl
 | p::P,_,⟨v,r,e,_,h⟩=>by
  rw [e,any_cons,any_cons,h.any]
  congr 1
  simp
theorem DV.map {f:Str} {a : α} {v:V} (ra:R a v):∀ {P:List (Str × α)} {kv:List (Key × V)},DV R P kv->DV R (P.map fun p=>if p.1=f then (p.1,a) else p) (kv.map fun q=>if q.1=Sum.inr f then (q.1,v) else q)
 | [],_,h=>by rw [h];exact rfl
 | p::P,_,⟨w,r,e,h1,h⟩=>by
  rw [e,map_cons,map_cons];by_cases c:p.1=f
  ·rw [if_pos c,if_pos (by simpa using c)];exact ⟨v,_,rfl,ra,h.map ra⟩
  ·rw [if_neg c,if_neg (by simpa using c)];exact ⟨w,_,rfl,h1,h.map ra⟩
theorem DV.app {f:Str} {a : α} {v:V} (ra:R a v):∀ {P:List (Str × α)} {kv:List (Key × V)},DV R P kv->DV R (P++[(f,a)]) (kv++[(Sum.inr f,v)])
 | [],_,h=>by rw [h];exact ⟨v,[],rfl,ra,rfl⟩
 | p::P,_,⟨w,r,e,h1,h⟩=>by
  rw [e];exact ⟨w,_,rfl,h1,h.app ra⟩
theorem DV.put {f:Str} {a : α} {v:V} {P:List (Str × α)} {kv:List (Key × V)} (h:DV R P kv) (ra:R a v):DV R (pu P f a) (putK kv (Sum.inr f) v):=by
 unfold pu putK;rw [h.any];split
 ·exact h.map ra
 ·exact h.app ra
end
theorem Jdw {α : Type} {z:Str}:∀ {P:List (Str × α)},z∈P.map (·.1)->∃ a,lk P z=some a
 | [],h=>by cases h
 | p::P,h=>by
  unfold lk;by_cases c:p.1=z
  ·exact ⟨_,if_pos c⟩
  ·rw [if_neg c];refine Jdw ?_;rcases mem_cons.mp h with e | h
   ·exact absurd e.symm c
   ·exact h
theorem JdF {α : Type} {l:List (Str × α)} {f:Str} {a : α}:(pu l f a).length<=l.length+1:=by
 unfold pu;split <;> simp
inductive Chn (P:LasD):Str->List SpS->Prop
 | nil {v:Str}:lk P v=none->Chn P v []
 | snoc {v:Str} {s:SpS} {l:List SpS}:lk P v=some s->Chn P s.src l->Chn P v (l++[s])
section
variable {ss:List SpS} {fs:List Str} {P:LasD}
theorem Chn.uniq {v:Str} {l:List SpS} (h:Chn P v l):∀ {k:List SpS},Chn P v k->l=k:=by
 induction h with
 | nil h0=>
  intro k a;cases a with
  | nil _=>rfl
  | snoc h _=>rw [h0] at h;cases h
 | snoc h _ ih=>
  intro k a;cases a with
  | nil h0=>rw [h] at h0;cases h0
  | snoc h' hk'=>
   rw [h] at h';cases h';rw [ih hk']
theorem BE.chain (h:BE ss fs P):∃ S:SumD,(∀ v,(∃ b,lk S v=some b)↔(v∈fs\/∃ s,lk P v=some s))/\(∀ v b,lk S v=some b->∃ l,Chn P v l/\wgt l=b/\∃ f∈fs,lk P f=none/\Wk ss f l v/\(f::l.map (·.tgt)).Nodup)/\∀ s∈ss, ∀ a,lk S s.src=some a->∃ b,lk S s.tgt=some b/\b<=a+s.wh:=by
 obtain ⟨S,r,D,A,p,F⟩:=h.ex;have key:∀ n v b,r v<=n->lk S v=some b->∃ l,Chn P v l/\wgt l=b/\∃ f∈fs,lk P f=none/\Wk ss f l v/\(f::l.map (·.tgt)).Nodup/\∀ x∈f::l.map (·.tgt),x=v\/r x<r v:=by
  intro n;induction n with
  | zero=>
   intro v b C d;cases e:lk P v with
   | none=>
    obtain ⟨i,g⟩:=A v b d e;exact ⟨[], .nil e,g.symm,v,i,e, .nil,by simp,fun x c=>.inl (by simpa using c)⟩
   | some s=>
    have:=(p v s e).2.2.1;ac_nf
  | succ n ih=>
   intro v b C d;cases e:lk P v with
   | none=>
    obtain ⟨i,g⟩:=A v b d e;exact ⟨[], .nil e,g.symm,v,i,e, .nil,by simp,fun x c=>.inl (by simpa using c)⟩
   | some s=>
    obtain ⟨m,q,H,a,i,g⟩:=p v s e;rw [d] at g;cases g;obtain ⟨l,k,w,f,t,u,o,j,I⟩:=ih s.src a ∅ i;subst q;have B:∀ x∈f::l.map (·.tgt),r x<r s.tgt:=fun x c=>by
     rcases I x c with z | z
     ·rw [z];exact H
     ·ac_nf
    refine ⟨l++[s], .snoc e k,by rw [JbU,w],f,t,u, .snoc o m,?_,fun x c=>?_⟩
    ·rw [map_append, <- cons_append];refine nodup_append.mpr ⟨j,by simp,fun x c y E z=>?_⟩;have q:y=s.tgt:=by simpa using E
     have:=B x c;rw [z,q] at this;ac_nf
    ·rw [map_append, <- cons_append] at c;rcases mem_append.mp c with c | c
     ·exact .inr (B x c)
     ·exact .inl (by simpa using c)
 refine ⟨S,fun v=>⟨fun ⟨b,d⟩=>?_,fun G=>?_⟩,fun v b d=>?_,F⟩
 ·cases e:lk P v with
  | none=>exact .inl (A v b d e).1
  | some s=>exact .inr ⟨s,rfl⟩
 ·rcases G with e | ⟨s,e⟩
  ·exact D v e
  ·obtain ⟨_,_,_,a,_,g⟩:=p v s e;exact ⟨_,g⟩
 ·obtain ⟨l,k,w,f,t,u,o,j,_⟩:=key (r v) v b (Nat.le_refl _) d;exact ⟨l,k,w,f,t,u,o,j⟩
end
theorem JhC {ss:List SpS} {x:Str->Rat} (h:∀ s∈ss,x s.tgt<=x s.src+(s.wh:Rat)):Pot (fun f=>(x f).floor) ss:=fun s b=>by
 have a:=Rat.floor_monotone (h s b);rw [Rat.floor_add_intCast] at a;exact a
def Lnk (P:LasD):Str->List SpS->Prop
 | _,[]=>True
 | z,s::r=>s.src=z/\lk P s.tgt=some s/\Lnk P s.tgt r
def lnkE:Str->List SpS->Str
 | z,[]=>z
 | _,s::r=>lnkE s.tgt r
theorem Lnk.add {P:LasD} {z:Str} {l:List SpS} {s:SpS} (h:Lnk P z l) (hs:lk P z=some s) (ht:s.tgt=z):Lnk P s.src (s::l):=⟨rfl,by rw [ht];exact hs,by rw [ht];exact h⟩
theorem Jh1 {z:Str} {l:List SpS} {s:SpS} (ht:s.tgt=z):lnkE s.src (s::l)=lnkE z l:=by
 show lnkE s.tgt l=_;rw [ht]
def Itb (K:W.Frag) (a:Addr) (n:Nat):It :=
 ⟨fun i H=>i<n/\∃ xs x,SqL K H a xs/\xs[n-1-i]?=some x,fun i H x H'=>H'=H/\∀ xs,SqL K H a xs->xs[n-1-i]?=some x,fun i _=>i=n⟩
theorem Jim {P:Program} {w:World} {K:W.Frag} {tg:Expr} (a it:Addr) (n:Nat):Turn P w K tg (Itb K a n) [it] it (fun i h=>h.IsRevIter it a ((n:Int)-1-(i:Int))) where
 mem:=by simp
 obj:=fun i h f b l=>by
  have e:b=it:=by simpa using l
  subst e;obtain ⟨o,e,c,d⟩:=f;exact ⟨o,e,fun v z=>by rw [d] at z;cases z⟩
 keep:=fun i h r f k=>f.at fun o e=>k it (by simp) o e
 item:=by
  intro X G C A M i g s σ H E I q f m;subst G C A;obtain ⟨li,xs,x,J,L⟩:=m;obtain ⟨R,U,p,hz⟩:=I.list J;obtain ⟨u,Y,O⟩:=U.get L;obtain ⟨D,F,Z,B,t,y⟩:=q it (by simp);have N:(n:Int)-1-(i:Int)=((n-1-i:Nat):Int):=by ac_nf
  rw [N] at f;refine wpAny_pyNext_rev_item f p.isList (x:=u) (by simpa using Y) fun r j S=>?_;have I1:Inv X g σ H { s with heap:=r }:=I.turned (t':=s.toks) (fun b o l e=>(S.2 b l).trans e) D F B t y;have V:((n-1-i:Nat):Int)-1=(n:Int)-1-((i+1:Nat):Int):=by ac_nf
  rw [V] at j;obtain ⟨o,e,c,d⟩:=id j;exact ⟨u,rfl,go_of (s:={ s with heap:=r }) e c d ⋯ ⟨x,H,I1,O,⟨rfl,fun ys Q=>by rw [I.list_inj Q J];exact L⟩,j,fun b l=>(q b l).1⟩⟩
 done:=by
  intro X G C A M i g s σ H E I q f m;subst G C A;have m:i=n:=m;subst m;obtain ⟨D,F,Z,B,t,y⟩:=q it (by simp);have e:(i:Int)-1-(i:Int) = -1:=by ac_nf
  rw [e] at f;exact wpAny_pyNext_rev_end (I.ok.hd M) f fun r T=>⟨rfl,I.turned (t':=s.toks) (fun b o l e=>T b o l e) D F B t y⟩
 self:=fun _ _ _ _ _ f h=>wpAny_pyIter_revIter f h
def iRevL (K:W.Frag) (tl:TE):TI:=fun σ H R=>tl σ H fun x H1=>∃ a xs,x=.ref a/\SqL K H1 a xs/\R (Itb K a xs.length) H1
section
variable {X:Cx} {tg:Expr}
theorem Jjl {e:Expr} {t:TE} {p2 pos2:Pos} {y:Str} (hy:y="reversed") (hg2:Gl X y) (hm2:X.mg y=none) (hv2:bootBuiltins y=some (.type "reversed")) (ha:PE X e t) (he:starEach [e] X.env=(false,eval e X.env)::starEach [] X.env:=by rfl) :
  PI X tg (.Call (.Name y p2) [e] [] pos2) (iRevL X.K t):=by
 intro c s σ H R I h;have r:y≠"__name__":=by rw [hy];decide
 have m:(y == ("__debug__" : Str))=false:=by rw [hy];decide
 refine wpAny_Call_Name_kw (Jeb I hg2 hm2 hv2 ?_ r m);refine PyProof.Rows.callWith_type1 ?_ he rfl;rw [he];show wpAny _ _ (spliced ((false,eval e X.env)::backTo pos2 (starEach [] X.env))) _ _ s;refine Calls.spliced_cons (thn (ha c s σ H _ I h) fun u d ⟨x,l,I1,i,q⟩=>Calls.spliced_nil ?_);obtain ⟨a,g,rfl,k,q⟩:=q;obtain rfl:u=Value.ref a:=i;obtain ⟨f,v,p,w⟩:=I1.list k;refine call_reversed_list p.isList ?_;refine wpAny_pyIter_revIter ⟨_,Heap.get?_push_size _ rfl,rfl,rfl⟩ ?_;have z:=v.length;refine ⟨d.heap.objs.size,[d.heap.objs.size],_,_,l,rfl,I1.kept (t':=d.toks) fun b o e=>Heap.get?_push_of_some _ e,Jim a _ g.length,?_,fun b n=>?_,q⟩
 ·refine ⟨_,Heap.get?_push_size _ rfl,rfl,?_⟩;unfold revObj;have j:((f.toArray.size:Nat):Int)-1=(g.length:Int)-1-((0:Nat):Int):=by
   rw [size_toArray];ac_nf
  rw [j]
 ·have e:b=d.heap.objs.size:=by simpa using n
  subst e;exact I1.fpOk (Nat.le_refl _) (I1.hok.fresh (Nat.le_refl _))
end
theorem Jic {X:Cx} {K:W.Frag} {tg:Expr} (hK:X.K=K) {e:Expr} {t:TE} {p2 pos2:Pos} {y:Str} (hy:y="reversed") (hg2:Gl X y) (hm2:X.mg y=none) (hv2:bootBuiltins y=some (.type "reversed")) (ha:PE X e t) (he:starEach [e] X.env=(false,eval e X.env)::starEach [] X.env:=by rfl) :
  PI X tg (.Call (.Name y p2) [e] [] pos2) (iRevL K t):=hK ▸ Jjl hy hg2 hm2 hv2 ha he
section
variable {K:W.Frag} {tl td:TE} {g:TG} {tb:TS} {D:Ends} {σ : St} {H:Hp}
theorem y52y:tFor (iRevL K tl) g tb D σ H=tl σ H fun x H1=>∃ a xs,x=.ref a/\SqL K H1 a xs/\ForJ (Itb K a xs.length) g tb D σ H1:=rfl
theorem y53y:tFor (iKeys td) g tb D σ H=td σ H fun x H1=>∃ (d:Addr) (kvs:List (Key × V)) (ss:List Str),x=.ref d/\H1 d=some (.dK kvs)/\kvs.map (·.1)=ss.map Sum.inr/\∀ od,ForJ (Itk d od kvs ss) g tb D σ (upd H1 d (.frz od (.dK kvs))):=rfl
theorem ForJ.rev {a:Addr} {xs:List V} (Pv:Nat->St->Hp->Prop) (h0:Pv 0 σ H) (hl:∀ i σ H',Pv i σ H'->SqL K H' a xs)
  (hs:∀ i x σ H,i<xs.length->xs[xs.length-1-i]?=some x->Pv i σ H->∀ N:St->Hp->Prop,(∀ σ' H',Pv (i+1) σ' H'->N σ' H')->g x σ H fun σ2 H2=>tb { D with nx:=N,ct:=N,bk:=D.nx } σ2 H2) (hd:∀ σ H,Pv xs.length σ H->D.nx σ H):ForJ (Itb K a xs.length) g tb D σ H:=by
 refine ⟨fun i m σ H=>m=xs.length-i/\i<=xs.length/\Pv i σ H,⟨xs.length,by simp,Nat.zero_le _,h0⟩,?_⟩;rintro i m σ H ⟨rfl,f,p⟩;by_cases b:i<xs.length
 ·have c:=List.getElem?_eq_getElem (by ac_nf:xs.length-1-i<xs.length);refine .inr ⟨⟨b,xs,_,hl i σ H p,c⟩,Pv (i+1),fun σ' H' d=>⟨xs.length-(i+1),by ac_nf,rfl,b,d⟩,fun x H' y=>?_⟩;obtain ⟨e,y⟩:=y;subst e;exact hs i x σ _ b (y xs (hl i σ _ p)) p _ fun _ _ h=>h
 ·have e:i=xs.length:=by ac_nf
  subst e;exact .inl ⟨rfl,hd σ H p⟩
theorem ForJ.keys {d:Addr} {od:Obj} {kvs:List (Key × V)} {ss:List Str} (Pv:Nat->St->Hp->Prop) (h0:Pv 0 σ H) (hl:∀ i σ H',Pv i σ H'->H' d=some (.frz od (.dK kvs)))
  (hs:∀ i z σ H,ss[i]?=some z->Pv i σ H->∀ N:St->Hp->Prop,(∀ σ' H',Pv (i+1) σ' H'->N σ' H')->g (.str z) σ H fun σ2 H2=>tb { D with nx:=N,ct:=N,bk:=D.nx } σ2 H2) (hd:∀ σ H,Pv ss.length σ H->D.nx σ H):ForJ (Itk d od kvs ss) g tb D σ H:=by
 refine ⟨fun i m σ H=>m=ss.length-i/\i<=ss.length/\Pv i σ H,⟨ss.length,by simp,Nat.zero_le _,h0⟩,?_⟩;rintro i m σ H ⟨rfl,c,p⟩;by_cases a:i<ss.length
 ·refine .inr ⟨⟨hl i σ H p,a⟩,Pv (i+1),fun σ' H' b=>⟨ss.length-(i+1),by ac_nf,rfl,a,b⟩,fun x H' y=>?_⟩;obtain ⟨e,y⟩:=y;subst e;rw [List.getElem?_map,List.getElem?_eq_getElem a] at y;cases y;exact hs i ss[i] σ _ (List.getElem?_eq_getElem a) p _ fun _ _ h=>h
 ·have e:i=ss.length:=by ac_nf
  subst e;exact .inl ⟨⟨hl _ σ H p,Nat.le_refl _⟩,hd σ H p⟩
end
def bF (ns:List (Int × Int)):Int:=ns.foldl (fun b n=>b*n.2.fdiv (Mth.g b n.2)) 1
theorem JiL {l:List (Int × Int)} {n:Int × Int}:bF (l++[n])=bF l*n.2.fdiv (Mth.g (bF l) n.2):=by
 unfold bF;rw [foldl_append];rfl
section
variable {α : Type}
theorem Jgg {z:Str} {a : α}:∀ {P:List (Str × α)},lk P z=some a->z∈P.map (·.1)
 | [],h=>by cases h
 | p::P,h=>by
  unfold lk at h;by_cases c:p.1=z
  ·rw [map_cons,c];exact mem_cons_self
  ·rw [if_neg c] at h;rw [map_cons];exact mem_cons_of_mem _ (Jgg h)
theorem pu_nd {l:List (Str × α)} {f:Str} {a : α} (h:(l.map (·.1)).Nodup):((pu l f a).map (·.1)).Nodup:=by
 unfold pu;split
 ·have e:∀ l:List (Str × α),(l.map fun p=>if p.1=f then (p.1,a) else p).map (·.1)=l.map (·.1):=fun l=>by
   rw [map_map];refine List.map_congr_left fun p _=>?_;show (if p.1=f then (p.1,a) else p).1=p.1;split <;> rfl
  rw [e];exact h
 ·rename_i c;rw [map_append];refine nodup_append.mpr ⟨h,by simp,fun x d y b e=>?_⟩;have b:y=f:=by simpa using b
  obtain ⟨p,g,rfl⟩:=mem_map.mp d;exact c (List.any_eq_true.mpr ⟨p,g,by simp [e,b]⟩)
end
section
variable {ss:List SpS} {fs:List Str} {P:LasD}
theorem BE.chn (h:BE ss fs P) {v:Str} {l:List SpS} (hv:v∈fs\/∃ s,lk P v=some s) (c:Chn P v l):(∀ s∈l,s∈ss)/\l.length<=ss.length/\∃ f∈fs,lk P f=none/\Wk ss f l v/\(f::l.map (·.tgt)).Nodup:=by
 obtain ⟨S,m,i,_⟩:=h.chain;obtain ⟨b,g⟩:=(m v).mpr hv;obtain ⟨k,n,p,f,o,j,a,d⟩:=i v b g;have e:=Chn.uniq c n;subst e;exact ⟨a.mem,a.len d,f,o,j,a,d⟩
def cs (l:List SpS):Int × Int:=l.foldl (fun a s=>addF a s.cost) (0,1)
theorem Jdm {l:List SpS} {s:SpS}:cs (l++[s])=addF (cs l) s.cost:=by
 unfold cs;rw [foldl_append];rfl
theorem Jiq:∀ (l:List SpS) (a:Int × Int) (n:Nat),FB (251+41*n) (40*n+1) a->(∀ s∈l,FB 250 40 s.cost)->FB (251+41*(n+l.length)) (40*(n+l.length)+1) (l.foldl (fun a s=>addF a s.cost) a)
 | [],_,_,h,_=>h
 | s::l,a,n,h,k=>by
  rw [foldl_cons];have h1:FB (251+41*(n+1)) (40*(n+1)+1) (addF a s.cost):=(FB.add (n:=291+41*n) (m:=40*n+1+40) h (k s mem_cons_self) ∅ ∅ ∅).mono ∅ ∅;have:=Jiq l _ (n+1) h1 fun s hs=>k s (mem_cons_of_mem _ hs);rw [length_cons,show n+(l.length+1)=n+1+l.length by ac_nf];exact this
theorem fb01:FB 251 1 (0,1):=⟨by unfold Mth.Sz;exact Nat.two_pow_pos _,by unfold Mth.Sz;decide,by decide,by decide⟩
theorem cs_fb {l:List SpS} (h:∀ s∈l,FB 250 40 s.cost):FB (251+41*l.length) (40*l.length+1) (cs l):=by
 have:=Jiq l (0,1) 0 fb01 h
 rwa [Nat.zero_add] at this
structure TBk (P:LasD) (fs:List Str) (tb:List (Str × ((Int × Int) × List SpS))):Prop where
 nd:(tb.map (·.1)).Nodup
 en:∀ v e,lk tb v=some e->(v∈fs\/∃ s,lk P v=some s)/\Chn P v e.2/\e.1=cs e.2
theorem TBk.nil:TBk P fs []:=⟨by simp,fun v e h=>by cases h⟩
theorem TBk.one {tb:List (Str × ((Int × Int) × List SpS))} {f:Str} (h:TBk P fs tb) (hf:f∈fs) (hn:lk P f=none):TBk P fs (pu tb f ((0,1),[])) where
 nd:=pu_nd h.nd
 en:=fun v e a=>by
  rw [lk_pu] at a;by_cases c:f=v
  ·rw [if_pos c] at a;cases a;subst c;exact ⟨.inl hf, .nil hn,rfl⟩
  ·rw [if_neg c] at a;exact h.en v e a
theorem TBk.put {tb:List (Str × ((Int × Int) × List SpS))} {s:SpS} {e:(Int × Int) × List SpS} (h:TBk P fs tb) (he:lk tb s.src=some e) (hs:lk P s.tgt=some s):TBk P fs (pu tb s.tgt (addF e.1 s.cost,e.2++[s])) where
 nd:=pu_nd h.nd
 en:=fun v x a=>by
  rw [lk_pu] at a;by_cases c:s.tgt=v
  ·rw [if_pos c] at a;cases a;obtain ⟨_,b,d⟩:=h.en _ _ he;subst c;exact ⟨.inr ⟨s,hs⟩, .snoc hs b,by rw [Jdm,d]⟩
  ·rw [if_neg c] at a;exact h.en v x a
theorem TBk.keep {tb:List (Str × ((Int × Int) × List SpS))} {f:Str} {a:(Int × Int) × List SpS} {z:Str} (h:∃ e,lk tb z=some e):∃ e,lk (pu tb f a) z=some e:=by
 obtain ⟨e,b⟩:=h;rw [lk_pu];by_cases c:f=z
 ·exact ⟨_,if_pos c⟩
 ·exact ⟨e,(if_neg c).trans b⟩
theorem BE.tb_len (h:BE ss fs P) {tb:List (Str × ((Int × Int) × List SpS))} (k:TBk P fs tb):tb.length<=fs.length+ss.length:=by
 have:=sub_len (tb.map (·.1)) (fs++ss.map (·.tgt)) k.nd fun x a=>by
  obtain ⟨e,b⟩:=Jdw a;obtain ⟨_,_,_,_,f,_⟩:=h.ex;rcases (k.en x e b).1 with e | ⟨s,hs⟩
  ·exact mem_append_left _ e
  ·obtain ⟨c,d,_⟩:=f x s hs;exact mem_append_right _ (mem_map.mpr ⟨s,c,d⟩)
 rwa [length_map,length_append,length_map] at this
end
section
variable {prog:Program} {w:World} {A:Around} {E:Value->Shared->Prop} {s:Shared}
end
section
variable {X:Cx}
end
section
variable {X:Cx}
end
def toS (b:Int) (s:SD):SpS:=⟨s.src,s.dst,s.c,s.c.1*b.fdiv s.c.2,s.nm,s.fw⟩
def bD_ (ts:List TD):Int:=bF ((Ch.all ts).map (·.c))
def ssD (ts:List TD):List SpS:=(Ch.all ts).map (toS (bD_ ts))
def lsD (ts:List TD) (fs:List Str):LasD:=(bfR (ssD ts) ((ssD ts).length+1) (bf0 fs)).P
abbrev Tab:=List (Str × ((Int × Int) × List SpS))
theorem wh_vl {c:Int × Int} {b:Int} (h2:1<=c.2) (hd:c.2∣b):((c.1*b.fdiv c.2:Int):Rat)=vl c*(b:Rat):=by
 obtain ⟨k,rfl⟩:=hd;rw [Int.mul_fdiv_cancel_left _ ∅];have a:=JcA h2;unfold vl;push_cast;generalize (c.1:Rat)=x at *;generalize (c.2:Rat)=y at *;generalize (k:Rat)=z at *;grind
theorem JgS {b:Int}:∀ (l:List SpS) (a:Int × Int),1<=a.2->(∀ s∈l,(s.wh:Rat)=vl s.cost*(b:Rat)/\1<=s.cost.2)->vl (l.foldl (fun a s=>addF a s.cost) a)*(b:Rat)=vl a*(b:Rat)+(wgt l:Rat)/\1<=(l.foldl (fun a s=>addF a s.cost) a).2
 | [],a,ha,_=>by
  refine ⟨?_,ha⟩;show vl a*(b:Rat)=vl a*(b:Rat)+((0:Int):Rat);rw [Rat.intCast_zero,Rat.add_zero]
 | s::l,a,ha,h=>by
  rw [foldl_cons];obtain ⟨h1,h2⟩:=h s mem_cons_self;have hb:1<=(addF a s.cost).2:=Mth.Jbe (Int.mul_ne_zero ∅ ∅);obtain ⟨i1,i2⟩:=JgS l (addF a s.cost) hb fun s hs=>h s (mem_cons_of_mem _ hs);refine ⟨?_,i2⟩;rw [i1,Jct ha h2];have e:(wgt (s::l):Rat)=(s.wh:Rat)+(wgt l:Rat):=by
   show ((s.wh+wgt l:Int):Rat)=_;push_cast;rfl
  rw [e,h1,Rat.add_mul,Rat.add_assoc]
theorem Je0 {b:Int} {l:List SpS} (h:∀ s∈l,(s.wh:Rat)=vl s.cost*(b:Rat)/\1<=s.cost.2):vl (cs l)*(b:Rat)=(wgt l:Rat)/\1<=(cs l).2:=by
 obtain ⟨a,c⟩:=JgS (b:=b) l (0,1) ⋯ h;refine ⟨?_,c⟩;unfold cs;rw [a,Jce];grind
section
variable {ts:List TD}
theorem ss_wh (hb:∀ s∈Ch.all ts,1<=s.c.2/\s.c.2∣bD_ ts):∀ s∈ssD ts,(s.wh:Rat)=vl s.cost*(bD_ ts:Rat)/\1<=s.cost.2:=fun s b=>by
 obtain ⟨x,a,rfl⟩:=mem_map.mp b;exact ⟨wh_vl (hb x a).1 (hb x a).2,(hb x a).1⟩
theorem JhH {x:Str->Rat} (h1:1<=bD_ ts) (hb:∀ s∈Ch.all ts,1<=s.c.2/\s.c.2∣bD_ ts) (hx:∀ s∈Ch.all ts,x s.dst<=x s.src+vl s.c):Pot (fun f=>(x f*(bD_ ts:Rat)).floor) (ssD ts) :=
 JhC (x:=fun f=>x f*(bD_ ts:Rat)) fun s a=>by
  have b:=(ss_wh hb s a).1;obtain ⟨y,d,rfl⟩:=mem_map.mp a;have:=hx y d;rw [b];show x y.dst*_<=x y.src*_+vl y.c*_;rw [<- Rat.add_mul];refine Rat.mul_le_mul_of_nonneg_right this ?_;have : (0:Int)<=bD_ ts:=by ac_nf
  exact_mod_cast this
end
structure BkG (ts:List TD) (F:List Str) (x:Str->Rat):Prop where
 l35:ts.length<=35
 ok:∀ t∈ts,TOk t
 fb:∀ s∈Ch.all ts,FB 250 40 s.c
 f8:F.length<=8
 fm:∀ t∈ts,t.st∈F/\t.en∈F
 pot:∀ s∈Ch.all ts,x s.dst<=x s.src+vl s.c
theorem BkG.l70 {ts:List TD} {F:List Str} {x:Str->Rat} (h:BkG ts F x):(Ch.all ts).length<=70:=by
 have:=JgN (ts:=ts) ts.length;rw [take_of_length_le (Nat.le_refl _)] at this;have:=h.l35;ac_nf
theorem Jcj {ts:List TD} {F:List Str} (h:∀ t∈ts,t.st∈F/\t.en∈F):∀ s∈Ch.all ts,s.src∈F/\s.dst∈F:=fun s a=>by
 obtain ⟨t,d,a⟩:=mem_flatMap.mp (show s∈ts.flatMap Ch.steps from a);obtain ⟨b,c⟩:=h t d;unfold Ch.steps fwd bwd at a;rcases mem_append.mp a with a | a
 ·cases e:t.hi with
  | none=>rw [e] at a;cases a
  | some u=>rw [e] at a;rw [mem_singleton.mp a];exact ⟨b,c⟩
 ·cases e:t.lo with
  | none=>rw [e] at a;cases a
  | some u=>rw [e] at a;rw [mem_singleton.mp a];exact ⟨c,b⟩
structure TTd (ts:List TD) (fs:List Str) (tb:Tab):Prop where
 b1:1<=bD_ ts
 bb:∀ s∈Ch.all ts,1<=s.c.2/\s.c.2∣bD_ ts
 tk:TBk (lsD ts fs) fs tb
 ks:∀ v,(∃ e,lk tb v=some e)↔(v∈fs\/∃ s,lk (lsD ts fs) v=some s)
 be:BE (ssD ts) fs (lsD ts fs)
section
variable {ts:List TD} {fs:List Str} {tb tb':Tab} {v:Str} {e:(Int × Int) × List SpS}
theorem TTd.uniq (h:TTd ts fs tb) (k:TTd ts fs tb'):lk tb v=lk tb' v:=by
 cases e1:lk tb v with
 | none=>
  cases e2:lk tb' v with
  | none=>rfl
  | some e=>
   obtain ⟨b,a⟩:=(h.ks v).mpr ((k.ks v).mp ⟨e,e2⟩);rw [e1] at a;cases a
 | some e=>
  obtain ⟨b,a⟩:=(k.ks v).mpr ((h.ks v).mp ⟨e,e1⟩);obtain ⟨_,f,c⟩:=h.tk.en v e e1;obtain ⟨_,g,d⟩:=k.tk.en v b a;rw [a];have:=f.uniq g
  congr 1
  exact Prod.ext (by rw [c,d,this]) this
theorem TTd.ent (h:TTd ts fs tb) (he:lk tb v=some e):e.1=cs e.2/\(∀ s∈e.2,s∈ssD ts)/\e.2.length<=(ssD ts).length/\∃ f∈fs,lk (lsD ts fs) f=none/\Wk (ssD ts) f e.2 v/\(f::e.2.map (·.tgt)).Nodup:=by
 obtain ⟨a,i,g⟩:=h.tk.en v e he;obtain ⟨b,c,d⟩:=h.be.chn a i;exact ⟨g,b,c,d⟩
theorem TTd.fbL {A B n:Nat} (h:TTd ts fs tb) (hfb:∀ s∈Ch.all ts,FB A B s.c) (he:lk tb v=some e) (hl:e.2.length<=n):FB (A+1+(B+1)*n) (B*n+1) e.1:=by
 obtain ⟨d,j,_⟩:=h.ent he;have key:∀ (l:List SpS) (a:Int × Int) (n:Nat),FB (A+1+(B+1)*n) (B*n+1) a->(∀ s∈l,FB A B s.cost)->FB (A+1+(B+1)*(n+l.length)) (B*(n+l.length)+1) (l.foldl (fun a s=>addF a s.cost) a):=by
  intro l;induction l with
  | nil=>exact fun _ _ h _=>h
  | cons s l ih=>
   intro a n f k;rw [foldl_cons];have o:(B+1)*(n+1)=(B+1)*n+(B+1):=Nat.mul_succ _ _;have p:B*(n+1)=B*n+B:=Nat.mul_succ _ _;have d:FB (A+1+(B+1)*(n+1)) (B*(n+1)+1) (addF a s.cost):=(FB.add (n:=A+1+(B+1)*n+B) (m:=B*n+1+B) f (k s mem_cons_self) (Nat.le_refl _) (by rw [Nat.add_mul,Nat.one_mul];ac_nf) (Nat.le_refl _)).mono ∅ ∅;have:=ih _ (n+1) d fun s b=>k s (mem_cons_of_mem _ b);rw [length_cons,show n+(l.length+1)=n+1+l.length by ac_nf];exact this
 have g:FB (A+1+(B+1)*0) (B*0+1) (0,1):=⟨by unfold Mth.Sz;exact Nat.two_pow_pos _,by rw [Nat.mul_zero];unfold Mth.Sz;decide,by decide,by decide⟩;have:=key e.2 (0,1) 0 g fun s b=>by
  obtain ⟨y,i,rfl⟩:=mem_map.mp (j s b);exact hfb y i
 rw [Nat.zero_add] at this;rw [d];exact this.mono (Nat.add_le_add_left (Nat.mul_le_mul_left _ hl) _) (Nat.add_le_add_right (Nat.mul_le_mul_left _ hl) _)
theorem TTd.lenF {F:List Str} (h:TTd ts fs tb) (hF:∀ t∈ts,t.st∈F/\t.en∈F) (he:lk tb v=some e):e.2.length<=F.length/\((∀ f∈fs,f∈F)->e.2.length+1<=F.length):=by
 obtain ⟨_,k,_,f,j,_,_,d⟩:=h.ent he;have a:e.2.map (·.tgt) ⊆ F:=fun z b=>by
  obtain ⟨s,g,rfl⟩:=mem_map.mp b;obtain ⟨y,i,rfl⟩:=mem_map.mp (k s g);exact (Jcj hF y i).2
 refine ⟨?_,fun c=>?_⟩
 ·have:=sub_len (e.2.map (·.tgt)) F (nodup_cons.mp d).2 a
  rwa [length_map] at this
 ·have:=sub_len (f::e.2.map (·.tgt)) F d fun z b=>by
   rcases mem_cons.mp b with rfl | b
   ·exact c _ j
   ·exact a b
  rwa [length_cons,length_map] at this
theorem TTd.fbG {F:List Str} {x:Str->Rat} (h:TTd ts fs tb) (hg:BkG ts F x) (he:lk tb v=some e):FB 1000 700 e.1:=by
 have a:=hg.f8;exact (h.fbL (n:=8) hg.fb he (by have:=(h.lenF hg.fm he).1;ac_nf)).mono ⋯ ⋯
theorem TTd.b2 (h:TTd ts fs tb) (he:lk tb v=some e):1<=e.1.2:=by
 obtain ⟨a,d,_⟩:=h.ent he;rw [a];exact (Je0 (b:=bD_ ts) fun s c=>ss_wh h.bb s (d s c)).2
theorem TTd.step (h:TTd ts fs tb) {s:SD} (hs:s∈Ch.all ts) (he:lk tb s.src=some e):∃ e',lk tb s.dst=some e'/\vl e'.1<=vl e.1+vl s.c:=by
 obtain ⟨S,o,A,p⟩:=h.be.chain;have d:toS (bD_ ts) s∈ssD ts:=mem_map.mpr ⟨s,hs,rfl⟩;have j:∀ v e,lk tb v=some e->∀ a,lk S v=some a->vl e.1*(bD_ ts:Rat)=(a:Rat):=fun v e he a m=>by
  obtain ⟨_,t,x⟩:=h.tk.en v e he;obtain ⟨l,q,B,f,_,_,y,_⟩:=A _ a m;have:=t.uniq q;subst this;rw [x, <- B];exact (Je0 fun s hs=>ss_wh h.bb s (y.mem s hs)).1
 obtain ⟨a,m⟩:=(o _).mpr ((h.ks _).mp ⟨e,he⟩);obtain ⟨b,k,n⟩:=p _ d a m;obtain ⟨e',g⟩:=(h.ks s.dst).mpr ((o _).mp ⟨b,k⟩);refine ⟨e',g,?_⟩;have w:=j _ _ he a m;have u:=j _ _ g b k;have r:=(ss_wh h.bb _ d).1;have D:=h.b1;have C:(0:Rat)<(bD_ ts:Rat):=by
  have : (0:Int)<bD_ ts:=by ac_nf
  exact_mod_cast this
 have i:(b:Rat)<=(a:Rat)+((toS (bD_ ts) s).wh:Rat):=by exact_mod_cast n
 rw [r, <- w, <- u] at i;have i:vl e'.1*(bD_ ts:Rat)<=vl e.1*(bD_ ts:Rat)+vl s.c*(bD_ ts:Rat):=i;rw [<- Rat.add_mul] at i;exact Rat.not_lt.mp fun z=>absurd i (Rat.not_le.mpr (Rat.mul_lt_mul_of_pos_right z C))
theorem TTd.self {f:Str} (h:TTd ts [f] tb):lk tb f=some ((0,1),[]):=by
 obtain ⟨e,a⟩:=(h.ks f).mpr (.inl (by simp));obtain ⟨_,c,q⟩:=h.tk.en f e a;obtain ⟨_,_,_,g,d,b,_⟩:=h.ent a;rw [mem_singleton.mp d] at b;have:=c.uniq (.nil b);rw [a]
 congr 1
 exact Prod.ext (by rw [q,this];rfl) this
theorem TTd.root {f:Str} (h:TTd ts [f] tb) (he:lk tb v=some e):Wk (ssD ts) f e.2 v:=by
 obtain ⟨_,_,_,g,a,_,w,_⟩:=h.ent he;rw [mem_singleton.mp a] at w;exact w
end
def Jbc (a:Int × Int):Int:=a.1.fdiv a.2
def ceilF (a:Int × Int):Int:=-((-a.1).fdiv a.2)
theorem Jev {a:Int × Int} (h:1<=a.2):(Jbc a:Rat)<=vl a:=by
 unfold Jbc;have e:=Int.fmod_add_mul_fdiv a.1 a.2;have m:=Mth.fm (x:=a.1) (y:=a.2) ∅;generalize a.1.fdiv a.2=q at *;have b:q*a.2<=a.1:=by
  rw [Int.mul_comm] at e;ac_nf
 rw [<- Jgp q];refine Rat.not_lt.mp fun z=>?_;have:=(Jcd (c:=(q,1)) h (show (1:Int)<=1 by decide)).mpr z;unfold lessF at this;simp at this;ac_nf
theorem Ji2 {a:Int × Int} (h:1<=a.2):vl a<=(ceilF a:Rat):=by
 have:=Jev (a:=(-a.1,a.2)) h;have e:vl (-a.1,a.2) = - vl a:=Jch a;rw [e] at this;unfold ceilF;have b:((-((-a.1).fdiv a.2):Int):Rat) = - ((Jbc (-a.1,a.2):Int):Rat):=by
  unfold Jbc;push_cast;rfl
 rw [b];grind
theorem Jdp {a:Int × Int} (h:1<=a.2):(Jbc a).natAbs<=a.1.natAbs:=by
 unfold Jbc;have e:=Int.fmod_add_mul_fdiv a.1 a.2;have m:=Mth.fm (x:=a.1) (y:=a.2) ∅;generalize a.1.fdiv a.2=q at *;generalize a.1.fmod a.2=r at *;have b:q*a.2=a.1-r:=by rw [Int.mul_comm];ac_nf
 by_cases c:0<=q
 ·have : q*1<=q*a.2:=Int.mul_le_mul_of_nonneg_left h c;ac_nf
 ·have d:(q+1)*a.2<=(q+1)*1:=by
   have:=Int.mul_le_mul_of_nonneg_left h (show 0 <= -(q+1) by ac_nf);rw [Int.neg_mul,Int.neg_mul] at this;ac_nf
  have f:(q+1)*a.2=a.1-r+a.2:=by rw [Int.add_mul,Int.one_mul,b]
  ac_nf
theorem JhS {a:Int × Int} (h:1<=a.2):(ceilF a).natAbs<=a.1.natAbs:=by
 have:=Jdp (a:=(-a.1,a.2)) h;unfold Jbc at this;unfold ceilF;rw [Int.natAbs_neg];simpa using this
def enS (f g:Str->Option (Int × Int)) (m:Int) (s:SpS):Int:=match f s.tgt,f s.src,g s.src with
 | some a,none,some p=>max m (ceilF a-Jbc p-Jbc s.cost)
 | _,_,_=>m
theorem JjD {f g:Str->Option (Int × Int)} {m:Int} {s:SpS} (h:f s.tgt=none):enS f g m s=m:=by unfold enS;rw [h]
theorem JjE {f g:Str->Option (Int × Int)} {m:Int} {s:SpS} {b:Int × Int} (h:f s.src=some b):enS f g m s=m:=by
 unfold enS;rw [h];split <;> first | rfl | (rename_i q _;cases q) | skip
theorem enS_y {f g:Str->Option (Int × Int)} {m:Int} {s:SpS} {a p:Int × Int} (h1:f s.tgt=some a) (h2:f s.src=none) (h3:g s.src=some p):enS f g m s=max m (ceilF a-Jbc p-Jbc s.cost):=by unfold enS;rw [h1,h2,h3]
def enD (ss:List SpS) (f g:Str->Option (Int × Int)):Int:=ss.foldl (enS f g) 0
theorem Jit {f g:Str->Option (Int × Int)} {m:Int} {s:SpS}:m<=enS f g m s:=by
 unfold enS;split <;> ac_nf
theorem Jiu {f g:Str->Option (Int × Int)}:∀ (ss:List SpS) (m:Int),m<=ss.foldl (enS f g) m
 | [],_=>Int.le_refl _
 | s::ss,m=>by
  rw [foldl_cons];exact Int.le_trans Jit (Jiu ss _)
theorem en_ge {f g:Str->Option (Int × Int)}:∀ (ss:List SpS) (m:Int) (s:SpS) (a p:Int × Int),s∈ss->f s.tgt=some a->f s.src=none->g s.src=some p->ceilF a-Jbc p-Jbc s.cost<=ss.foldl (enS f g) m
 | x::ss,m,s,a,p,h,h1,h2,h3=>by
  rw [foldl_cons];rcases mem_cons.mp h with rfl | h
  ·refine Int.le_trans ?_ (Jiu ss _);unfold enS;rw [h1,h2,h3];dsimp only;ac_nf
  ·exact en_ge ss _ s a p h h1 h2 h3
section
variable {X:Cx}
def rMax:List V->Hp->VK->Prop:=fun xs H Q=>∃ i j,xs=[.int i, .int j]/\Q (.int (max i j)) H
theorem JgP (hc:X.calm=true):CallR X (.builtin "max") rMax:=by
 intro a s σ H f c Q I r h;obtain ⟨i,j,rfl,q⟩:=h;obtain ⟨u,d,rfl,⟨t,rfl⟩,⟨l,rfl⟩⟩:=vals2 r;refine max_two_ints (I.ok.hd hc) fun g e k=>⟨_,H,I.kept k,?_,q⟩;by_cases b:j > i
 ·rw [if_pos b,Int.max_eq_right ∅];exact ⟨_,rfl⟩
 ·rw [if_neg b,Int.max_eq_left ∅];exact ⟨_,rfl⟩
end
theorem en_lt {f g:Str->Option (Int × Int)} (hf:∀ v e,f v=some e->FB 1000 700 e) (hg:∀ v e,g v=some e->FB 1000 700 e):∀ (ss:List SpS) (m:Int),(∀ s∈ss,FB 1000 700 s.cost)->0<=m->m<2 ^ 1010->0<=ss.foldl (enS f g) m/\ss.foldl (enS f g) m<2 ^ 1010
 | [],m,_,h0,h1=>⟨h0,h1⟩
 | s::ss,m,hc,h0,h1=>by
  rw [foldl_cons];refine en_lt hf hg ss _ (fun s hs=>hc s (mem_cons_of_mem _ hs)) (Int.le_trans h0 Jit) ?_;unfold enS;split
  ·rename_i a p e1 e2 e3;have q1:=hf _ _ e1;have q2:=hg _ _ e3;have q3:=hc s mem_cons_self;have r1:=Nat.lt_of_le_of_lt (JhS q1.b1) q1.s1;have r2:=Nat.lt_of_le_of_lt (Jdp q2.b1) q2.s1;have r3:=Nat.lt_of_le_of_lt (Jdp q3.b1) q3.s1;have hB:(3*2 ^ 1000:Nat)<2 ^ 1010:=Nat.lt_of_lt_of_le (m:=4*2 ^ 1000) (Nat.mul_lt_mul_of_pos_right ⋯ (Nat.two_pow_pos _)) (by rw [show (4:Nat)=2 ^ 2 from rfl, <- Nat.pow_add];exact Nat.pow_le_pow_right ⋯ ⋯);have hC:((2 ^ 1010:Nat):Int)=(2:Int) ^ 1010:=by norm_cast
   rw [<- hC] at h1 ⊢;clear hC;generalize (2 ^ 1000:Nat)=B at *;generalize (2 ^ 1010:Nat)=C at *;ac_nf
  ·exact h1
def stD (ts:List TD) (f g:Str->Option (Int × Int)) (out:List Str):List (Str × (Int × Int)):=out.map fun v=>(v,match f v with
 | some e=>e
 | none=>addF ((g v).getD (0,1)) (enD (ssD ts) f g,1))
theorem Jik {ts:List TD} {f g:Str->Option (Int × Int)} {v:Str} {e:Int × Int} (h:f v=some e):stD ts f g [v]=[(v,e)]:=by
 unfold stD;rw [map_cons,h];rfl
theorem Jij {ts:List TD} {f g:Str->Option (Int × Int)} {v:Str} {q:Int × Int} (h:f v=none) (k:g v=some q):stD ts f g [v]=[(v,addF q (enD (ssD ts) f g,1))]:=by
 unfold stD;rw [map_cons,h,k];rfl
structure MCalD (P:Program) (w:World) (K:W.Frag) (mg:Str->Option Value) (base:Heap) (k:Nat) (m:Str) (Cs:Addr->Prop) (ps:List Str) (dvs:List V) (sp:Sp):Prop where
 ex:∃ (f:Addr) (fd:FuncData) (ds:List Value),FnOk P w K mg base (CX1 P w) k f fd ps sp/\(∀ C,Cs C->Cls K C/\Meth K C m f)/\W.keepIn K (.ref f)=true/\Binds K fd ps ds/\Vals dvs ds
section
variable {X:Cx} {k k':Nat} {x mn:Str} {C:Addr} {Cs:Addr->Prop} {ps:List Str} {sp:Sp} {E:XK} {p pos apos:Pos} {e o:Expr} {es:List Expr} {t:TA} {ta:TE} {dvs:List V}
end
section
variable {ts:List TD} {F:List Str} {x:Str->Rat} {one:Str} {tb tb0:Tab} {out:List Str}
def svD (ts:List TD) (f g:Str->Option (Int × Int)) (v:Str):Int × Int:=match f v with
 | some e=>e
 | none=>addF ((g v).getD (0,1)) (enD (ssD ts) f g,1)
theorem Jbi {f g:Str->Option (Int × Int)}:(stD ts f g out).map (·.1)=out:=by
 unfold stD;rw [map_map];exact List.map_id _
theorem Jbp {f g:Str->Option (Int × Int)} (nd:out.Nodup) {v:Str} (hv:v∈out):look (stD ts f g out) v=svD ts f g v:=by
 obtain ⟨i,a⟩:=List.getElem?_of_mem hv;refine Jhj (i:=i) (by rw [Jbi];exact nd) ?_;unfold stD;rw [List.getElem?_map,a];rfl
abbrev fT (tb:Tab):Str->Option (Int × Int):=fun v=>(lk tb v).map (·.1)
theorem Jeu {v:Str} {e:(Int × Int) × List SpS} (h:lk tb v=some e):fT tb v=some e.1:=by
 show (lk tb v).map _=_;rw [h];rfl
theorem Jg0 {v:Str} (h:lk tb v=none):fT tb v=none:=by
 show (lk tb v).map _=_;rw [h];rfl
theorem Jcc {v:Str} {e:(Int × Int) × List SpS} {g:Str->Option (Int × Int)} (h:lk tb v=some e):svD ts (fT tb) g v=e.1:=by
 unfold svD;rw [Jeu h]
theorem JeR {v:Str} {q:(Int × Int) × List SpS} (h:lk tb v=none) (k:lk tb0 v=some q):svD ts (fT tb) (fT tb0) v=addF q.1 (enD (ssD ts) (fT tb) (fT tb0),1):=by
 unfold svD;rw [Jg0 h,Jeu k];rfl
theorem Jg2 (hF:JcB ts out):∀ s∈Ch.all ts,s.src∈out/\s.dst∈out:=Jcj fun t a=>⟨(hF.2.2 _).mpr ⟨t,a, .inl rfl⟩,(hF.2.2 _).mpr ⟨t,a, .inr rfl⟩⟩
theorem Jjt (ht:TTd ts [one] tb) (h0:TTd ts out tb0) (hF:JcB ts out) {s:SD} (hs:s∈Ch.all ts):vl (svD ts (fT tb) (fT tb0) s.dst)<=vl (svD ts (fT tb) (fT tb0) s.src)+vl s.c:=by
 obtain ⟨q,t⟩:=Jg2 hF s hs;obtain ⟨p,j⟩:=(h0.ks s.src).mpr (.inl q);obtain ⟨o,i,r⟩:=h0.step hs j;have n:=h0.b2 j;have l:=h0.b2 i;have b:(1:Int)<=1:=by decide
 cases e1:lk tb s.src with
 | some e=>
  obtain ⟨u,k,h⟩:=ht.step hs e1;rw [Jcc e1,Jcc k];exact h
 | none=>
  rw [JeR e1 j,Jct n b,Jgp];cases e2:lk tb s.dst with
  | some a=>
   rw [Jcc e2];have d:=en_ge (f:=fT tb) (g:=fT tb0) (ssD ts) 0 (toS (bD_ ts) s) a.1 p.1 (mem_map.mpr ⟨s,hs,rfl⟩) (Jeu e2) (Jg0 e1) (Jeu j);have d:ceilF a.1-Jbc p.1-Jbc s.c<=enD (ssD ts) (fT tb) (fT tb0):=d;have w:=Ji2 (a:=a.1) (ht.b2 e2);have x:=Jev (a:=p.1) n;have y:=Jev (a:=s.c) (ht.bb s hs).1;generalize enD (ssD ts) (fT tb) (fT tb0)=m at *;have v:(ceilF a.1:Rat)-(Jbc p.1:Rat)-(Jbc s.c:Rat)<=(m:Rat):=by exact_mod_cast d
   generalize (ceilF a.1:Rat)=A at *;generalize (Jbc p.1:Rat)=B at *;generalize (Jbc s.c:Rat)=C at *;generalize (m:Rat)=M at *;generalize vl a.1=a' at *;generalize vl p.1=b' at *;generalize vl s.c=c' at *;grind
  | none=>
   rw [JeR e2 i,Jct l b,Jgp];generalize ((enD (ssD ts) (fT tb) (fT tb0):Int):Rat)=M at *;generalize vl o.1=a' at *;generalize vl p.1=b' at *;generalize vl s.c=c' at *;grind
theorem sv_b2 (ht:TTd ts [one] tb) (h0:TTd ts out tb0) {v:Str} (hv:v∈out):1<=(svD ts (fT tb) (fT tb0) v).2:=by
 cases e:lk tb v with
 | some e=>rw [Jcc ‹_›];exact ht.b2 ‹_›
 | none=>
  obtain ⟨p,a⟩:=(h0.ks v).mpr (.inl hv);rw [JeR e a];have:=h0.b2 a;exact Mth.Jbe (Int.mul_ne_zero ∅ (show (1:Int)≠0 by decide))
theorem JiC (hg:BkG ts F x) (ht:TTd ts [one] tb) (h0:TTd ts out tb0) (hF:JcB ts out):∀ t∈ts,okB t.lo t.hi (addF (svD ts (fT tb) (fT tb0) t.en) (negF (svD ts (fT tb) (fT tb0) t.st)))=true:=fun t a=>by
 have m:t.st∈out:=(hF.2.2 _).mpr ⟨t,a, .inl rfl⟩;have n:t.en∈out:=(hF.2.2 _).mpr ⟨t,a, .inr rfl⟩;have f:=sv_b2 ht h0 m;have g:=sv_b2 ht h0 n;have d:=hg.ok t a;have st:=fun s (i:s∈Ch.steps t)=>Jjt ht h0 hF (s:=s) (mem_flatMap.mpr ⟨t,a,i⟩);generalize svD ts (fT tb) (fT tb0)=sv at *;have c:1<=(addF (sv t.en) (negF (sv t.st))).2:=Mth.Jbe (Int.mul_ne_zero ∅ (by show (sv t.st).2≠0;ac_nf));have b:vl (addF (sv t.en) (negF (sv t.st)))=vl (sv t.en)-vl (sv t.st):=by
  rw [Jct g (show 1<=(negF (sv t.st)).2 from f),Jch,Rat.sub_eq_add_neg]
 unfold okB;rw [Bool.and_eq_true];constructor
 ·cases e:t.lo with
  | none=>rfl
  | some l=>
   have j:=(d.lo l e).b1;have:=st ⟨t.en,t.st,(-l.1,l.2),t.nm,false⟩ (by unfold Ch.steps bwd;rw [e];simp);have this : vl (sv t.st)<=vl (sv t.en)+vl (negF l):=this;rw [Jch] at this;show (!lessF (addF (sv t.en) (negF (sv t.st))) l)=true;cases z:lessF (addF (sv t.en) (negF (sv t.st))) l with
   | false=>rfl
   | true=>
    have h:=(Jcd c j).mp z;rw [b] at h;refine absurd h (Rat.not_lt.mpr ?_);grind
 ·cases e:t.hi with
  | none=>rfl
  | some u=>
   have k:=(d.hi u e).b1;have:=st ⟨t.st,t.en,u,t.nm,true⟩ (by unfold Ch.steps fwd;rw [e];simp);have this : vl (sv t.en)<=vl (sv t.st)+vl u:=this;show (!lessF u (addF (sv t.en) (negF (sv t.st))))=true;cases z:lessF u (addF (sv t.en) (negF (sv t.st))) with
   | false=>rfl
   | true=>
    have h:=(Jcd k c).mp z;rw [b] at h;refine absurd h (Rat.not_lt.mpr ?_);grind
theorem Jhi {e:Int × Int} (h:Lo e):Lo (negF e):=⟨h.b1,by
 have:=h.g1;unfold negF;rw [Mth.g_neg];exact this⟩
theorem sub0 {e:Int × Int} (h:Lo e):subF (0,1) e=negF e:=Lo.inj (Jhh (Jgi (show (1:Int)<=1 by decide) h.b1)) (Jhi h) (by
 rw [Jkt (show (1:Int)<=1 by decide) h.b1,Jce,Jch];grind)
theorem add0r {e:Int × Int} (h:Lo e):addF e (negF (0,1))=e:=Lo.inj (Jhh (Jgi h.b1 (show (1:Int)<=1 by decide))) h (by
 rw [Jct h.b1 (show (1:Int)<=1 by decide),Jch,Jce];grind)
theorem add0l {e:Int × Int} (h:Lo e):addF (0,1) (negF e)=negF e:=Lo.inj (Jhh (Jgi (show (1:Int)<=1 by decide) h.b1)) (Jhi h) (by
 rw [Jct (show (1:Int)<=1 by decide) (show 1<=(negF e).2 from h.b1),Jch,Jce];grind)
theorem TTd.lo {fs:List Str} {v:Str} {e:(Int × Int) × List SpS} (h:TTd ts fs tb) (hg:BkG ts F x) (he:lk tb v=some e):Lo e.1:=(h.fbG hg he).lo
theorem Jj5 (hb:∀ s∈Ch.all ts,1<=s.c.2) (hpot:∀ s∈Ch.all ts,x s.dst<=x s.src+vl s.c) {f v:Str} {l:List SpS} (h:Wk (ssD ts) f l v):x v<=x f+vl (cs l)/\1<=(cs l).2:=by
 induction h with
 | nil=>
  refine ⟨?_,by decide⟩;show x f<=x f+vl (0,1);rw [Jce];grind
 | @snoc l s _ hs ih=>
  obtain ⟨y,b,rfl⟩:=mem_map.mp hs;have g:=hpot y b;have e:=hb y b;obtain ⟨a,d⟩:=ih;rw [Jdm];refine ⟨?_,Mth.Jbe (Int.mul_ne_zero ∅ (by show y.c.2≠0;ac_nf))⟩;rw [Jct d (show 1<=(toS (bD_ ts) y).cost.2 from e)];have a:x y.src<=x f+vl (cs l):=a;show x y.dst<=x f+(vl (cs l)+vl y.c);grind
theorem TTd.pot {f v:Str} {e:(Int × Int) × List SpS} (h:TTd ts [f] tb) (hpot:∀ s∈Ch.all ts,x s.dst<=x s.src+vl s.c) (he:lk tb v=some e):x v<=x f+vl e.1:=by
 have:=(Jj5 (fun s a=>(h.bb s a).1) hpot (h.root he)).1
 rwa [<- (h.ent he).1] at this
end
theorem sv_fb {ts:List TD} {F:List Str} {x:Str->Rat} {one:Str} {tb tb0:Tab} {out:List Str} (hg:BkG ts F x) (ht:TTd ts [one] tb) (h0:TTd ts out tb0) {v:Str} (hv:v∈out):FB 1711 701 (svD ts (fT tb) (fT tb0) v):=by
 cases e:lk tb v with
 | some e'=>rw [Jcc e];exact (ht.fbG hg e).mono ⋯ ⋯
 | none=>
  obtain ⟨p,d⟩:=(h0.ks v).mpr (.inl hv);rw [JeR e d];have j:∀ (t:Tab) (i:List Str),TTd ts i t->∀ v e,fT t v=some e->FB 1000 700 e:=fun t i h v e o=>by
   obtain ⟨a,c,u⟩:=Option.map_eq_some_iff.mp o;rw [<- u];exact h.fbG hg c
  have b:=en_lt (f:=fT tb) (g:=fT tb0) (j _ _ ht) (j _ _ h0) (ssD ts) 0 (fun s k=>by obtain ⟨y,l,rfl⟩:=mem_map.mp k;exact (hg.fb y l).mono ⋯ ⋯) (Int.le_refl _) (by exact_mod_cast Nat.two_pow_pos 1010);have b:0<=enD (ssD ts) (fT tb) (fT tb0)/\enD (ssD ts) (fT tb) (fT tb0)<2 ^ 1010:=b;generalize enD (ssD ts) (fT tb) (fT tb0)=m at *;have q:FB 1010 1 ((m,1):Int × Int):=⟨by
   unfold Mth.Sz;have c:=b.2;have r:((2 ^ 1010:Nat):Int)=(2:Int) ^ 1010:=by norm_cast
   rw [<- r] at c;have h0:=b.1;show m.natAbs<_;generalize (2 ^ 1010:Nat)=C at *;ac_nf,by show (1:Int).natAbs<2 ^ 1;decide,by show (1:Int)<=1;decide,by unfold Mth.g;simp⟩
  exact FB.add (n:=1710) (m:=701) (h0.fbG hg d) q ⋯ ⋯ ⋯
theorem TTd.walk {ts:List TD} {fs:List Str} {tb:Tab} (h:TTd ts fs tb) {u v:Str} {l:List SpS} (w:Wk (ssD ts) u l v):∀ {a:(Int × Int) × List SpS},lk tb u=some a->∃ b,lk tb v=some b/\vl b.1<=vl a.1+vl (cs l):=by
 induction w with
 | nil=>
  intro a d;refine ⟨a,d,?_⟩;show vl a.1<=vl a.1+vl (0,1);rw [Jce];grind
 | @snoc l s w f ih=>
  intro a d;obtain ⟨b,m,o⟩:=ih d;obtain ⟨y,k,rfl⟩:=mem_map.mp f;obtain ⟨j,g,i⟩:=h.step k (e:=b) m;refine ⟨j,g,?_⟩;have n:=(Je0 (b:=bD_ ts) fun s f=>ss_wh h.bb s (w.mem s f)).2;rw [Jdm,Jct n (show 1<=(toS (bD_ ts) y).cost.2 from (h.bb y k).1)];show vl j.1<=vl a.1+(vl (cs l)+vl y.c);grind
noncomputable def dD (ts:List TD) (f v:Str):Option (Int × Int):=open Classical in if h:∃ tb e,TTd ts [f] tb/\lk tb v=some e then some h.choose_spec.choose.1 else none
theorem dD_eq {ts:List TD} {f v:Str} {tb:Tab} (h:TTd ts [f] tb):dD ts f v=(lk tb v).map (·.1):=by
 unfold dD;split
 ·rename_i c;obtain ⟨b,a⟩:=c.choose_spec.choose_spec;have e:=h.uniq (v:=v) b;rw [a] at e;rw [e];rfl
 ·rename_i c;cases e:lk tb v with
  | none=>rfl
  | some q=>exact absurd ⟨tb,q,h,e⟩ c
noncomputable def nwT (ts:List TD) (t:TD):TD:=⟨t.nm,t.st,t.en,(dD ts t.en t.st).map (subF (0,1)),dD ts t.st t.en⟩
noncomputable def nwD (ts:List TD):List TD:=ts.map (nwT ts)
section
variable {ts:List TD} {F:List Str} {x:Str->Rat}
theorem nw_hi {t:TD} {u:Int × Int} (hE:∃ tb,TTd ts [t.st] tb) (h:(nwT ts t).hi=some u):∃ tb e,TTd ts [t.st] tb/\lk tb t.en=some e/\u=e.1:=by
 obtain ⟨tb,a⟩:=hE;have h:dD ts t.st t.en=some u:=h;rw [dD_eq a] at h;obtain ⟨e,b,c⟩:=Option.map_eq_some_iff.mp h;exact ⟨tb,e,a,b,c.symm⟩
theorem nw_lo {t:TD} {u:Int × Int} (hE:∃ tb,TTd ts [t.en] tb) (h:(nwT ts t).lo=some u):∃ tb e,TTd ts [t.en] tb/\lk tb t.st=some e/\u=subF (0,1) e.1:=by
 obtain ⟨tb,a⟩:=hE;have h:(dD ts t.en t.st).map (subF (0,1))=some u:=h;rw [dD_eq a,Option.map_map] at h;obtain ⟨e,b,c⟩:=Option.map_eq_some_iff.mp h;exact ⟨tb,e,a,b,c.symm⟩
theorem Jey (hg:BkG ts F x) (hE:∀ t∈ts,(∃ tb,TTd ts [t.st] tb)/\∃ tb,TTd ts [t.en] tb):∀ s∈Ch.all (nwD ts), ∃ tb e,TTd ts [s.src] tb/\lk tb s.dst=some e/\s.c=e.1:=fun s a=>by
 obtain ⟨i,f,a⟩:=mem_flatMap.mp (show s∈(nwD ts).flatMap Ch.steps from a);obtain ⟨t,h,rfl⟩:=mem_map.mp f;unfold Ch.steps fwd bwd at a;rcases mem_append.mp a with a | a
 ·cases e:(nwT ts t).hi with
  | none=>rw [e] at a;cases a
  | some u=>
   rw [e] at a;rw [mem_singleton.mp a];obtain ⟨tb,q,b,d,g⟩:=nw_hi (hE t h).1 e;exact ⟨tb,q,b,d,g⟩
 ·cases e:(nwT ts t).lo with
  | none=>rw [e] at a;cases a
  | some u=>
   rw [e] at a;rw [mem_singleton.mp a];obtain ⟨tb,q,b,d,g⟩:=nw_lo (hE t h).2 e;refine ⟨tb,q,b,d,?_⟩;show (-u.1,u.2)=q.1;rw [g,sub0 (b.lo hg d)];show (- -q.1.1,q.1.2)=q.1;rw [Int.neg_neg]
theorem JiB (hg:BkG ts F x) (hE:∀ t∈ts,(∃ tb,TTd ts [t.st] tb)/\∃ tb,TTd ts [t.en] tb):∀ s∈Ch.all ts, ∃ s'∈Ch.all (nwD ts),s'.src=s.src/\s'.dst=s.dst/\vl s'.c<=vl s.c:=fun s k=>by
 obtain ⟨t,l,i⟩:=mem_flatMap.mp (show s∈ts.flatMap Ch.steps from k);have o:nwT ts t∈nwD ts:=mem_map.mpr ⟨t,l,rfl⟩;have m:vl ((0,1):Int × Int)=0:=Jce;have n:=i;unfold Ch.steps fwd bwd at i;rcases mem_append.mp i with h | h
 ·cases e:t.hi with
  | none=>rw [e] at h;cases h
  | some u=>
   rw [e] at h;have f:=mem_singleton.mp h;obtain ⟨tb,b⟩:=(hE t l).1;have d:=b.self;obtain ⟨q,g,a⟩:=b.step k (e:=((0,1),[])) (by rw [f];exact d);rw [f] at g a;have j:(nwT ts t).hi=some q.1:=by
    show dD ts t.st t.en=_;rw [dD_eq b,show lk tb t.en=some q from g];rfl
   refine ⟨⟨t.st,t.en,q.1,t.nm,true⟩,mem_flatMap.mpr ⟨_,o,?_⟩,by rw [f],by rw [f],?_⟩
   ·unfold Ch.steps fwd;rw [j];exact mem_append_left _ (mem_singleton.mpr rfl)
   ·rw [f];show vl q.1<=vl u;have a:vl q.1<=vl ((0,1):Int × Int)+vl u:=a;rw [m] at a;grind
 ·cases e:t.lo with
  | none=>rw [e] at h;cases h
  | some u=>
   rw [e] at h;have f:=mem_singleton.mp h;obtain ⟨tb,b⟩:=(hE t l).2;have d:=b.self;obtain ⟨q,g,a⟩:=b.step k (e:=((0,1),[])) (by rw [f];exact d);rw [f] at g a;have g:lk tb t.st=some q:=g;have j:(nwT ts t).lo=some (subF (0,1) q.1):=by
    show (dD ts t.en t.st).map _=_;rw [dD_eq b,g];rfl
   refine ⟨⟨t.en,t.st,(-(subF (0,1) q.1).1,(subF (0,1) q.1).2),t.nm,false⟩,mem_flatMap.mpr ⟨_,o,?_⟩,by rw [f],by rw [f],?_⟩
   ·unfold Ch.steps bwd;rw [j];exact mem_append_right _ (mem_singleton.mpr rfl)
   ·rw [f];show vl (-(subF (0,1) q.1).1,(subF (0,1) q.1).2)<=vl (-u.1,u.2);rw [sub0 (b.lo hg g)];have a:vl q.1<=vl ((0,1):Int × Int)+vl (-u.1,u.2):=a;rw [m] at a;have p:((-(negF q.1).1,(negF q.1).2):Int × Int)=q.1:=by
     show (- -q.1.1,q.1.2)=q.1;rw [Int.neg_neg]
    rw [p];grind
theorem Jhn (hg:BkG ts F x) (hg':BkG (nwD ts) F x) (hE:∀ t∈ts,(∃ tb,TTd ts [t.st] tb)/\∃ tb,TTd ts [t.en] tb) {f v:Str} {tb tb':Tab} (h:TTd ts [f] tb) (h':TTd (nwD ts) [f] tb'):dD (nwD ts) f v=dD ts f v:=by
 rw [dD_eq h',dD_eq h];have D:∀ {l:List SpS} {v:Str},Wk (ssD ts) f l v->∃ b,lk tb' v=some b/\vl b.1<=vl (cs l):=fun w=>by
  induction w with
  | nil=>exact ⟨_,h'.self,Rat.le_refl⟩
  | @snoc l s w m ih=>
   obtain ⟨b,d,i⟩:=ih;obtain ⟨y,p,rfl⟩:=mem_map.mp m;obtain ⟨I,C,G,E,K⟩:=JiB hg hE y p;obtain ⟨o,g,k⟩:=h'.step C (e:=b) (by rw [G];exact d);refine ⟨o,by rw [E] at g;exact g,?_⟩;have r:=(Je0 (b:=bD_ ts) fun s m=>ss_wh h.bb s (w.mem s m)).2;rw [Jdm,Jct r (show 1<=(toS (bD_ ts) y).cost.2 from (h.bb y p).1)];show vl o.1<=vl (cs l)+vl y.c;grind
 have z:∀ {l:List SpS} {v:Str},Wk (ssD (nwD ts)) f l v->∃ b,lk tb v=some b/\vl b.1<=vl (cs l):=fun w=>by
  induction w with
  | nil=>exact ⟨_,h.self,Rat.le_refl⟩
  | @snoc l s w m ih=>
   obtain ⟨b,d,i⟩:=ih;obtain ⟨y,p,rfl⟩:=mem_map.mp m;obtain ⟨B,e,u,A,H⟩:=Jey hg hE y p;obtain ⟨o,g,k⟩:=h.walk (u.root A) (a:=b) d;refine ⟨o,g,?_⟩;have r:=(Je0 (b:=bD_ (nwD ts)) fun s m=>ss_wh h'.bb s (w.mem s m)).2;rw [Jdm,Jct r (show 1<=(toS (bD_ (nwD ts)) y).cost.2 from (h'.bb y p).1)];rw [<- (u.ent A).1, <- H] at k;show vl o.1<=vl (cs l)+vl y.c;grind
 cases e:lk tb v with
 | none=>
  cases e':lk tb' v with
  | none=>rfl
  | some q=>
   obtain ⟨b,d,_⟩:=z (h'.root e');rw [e] at d;cases d
 | some q=>
  obtain ⟨b,d,i⟩:=D (h.root e);obtain ⟨J,n,j⟩:=z (h'.root d);rw [e] at n;cases n;rw [<- (h.ent e).1] at i;rw [<- (h'.ent d).1] at j;rw [d];show some b.1=some q.1;rw [Lo.inj (h'.lo hg' d) (h.lo hg e) (Rat.le_antisymm i j)]
theorem Ji7 (hg:BkG ts F x) (hg':BkG (nwD ts) F x) (hE:∀ t∈ts,(∃ tb,TTd ts [t.st] tb)/\∃ tb,TTd ts [t.en] tb) (hE':∀ t∈nwD ts,(∃ tb,TTd (nwD ts) [t.st] tb)/\∃ tb,TTd (nwD ts) [t.en] tb):nwD (nwD ts)=nwD ts:=by
 show (ts.map (nwT ts)).map (nwT (nwD ts))=ts.map (nwT ts);rw [map_map];refine List.map_congr_left fun t a=>?_;obtain ⟨⟨g,b⟩,f,e⟩:=hE t a;obtain ⟨⟨h,d⟩,i,c⟩:=hE' (nwT ts t) (mem_map.mpr ⟨t,a,rfl⟩);show (⟨t.nm,t.st,t.en,(dD (nwD ts) t.en t.st).map _,dD (nwD ts) t.st t.en⟩:TD)=nwT ts t;rw [Jhn hg hg' hE b d,Jhn hg hg' hE e c];rfl
theorem Jh6 (hE:∀ t∈ts,(∃ tb,TTd ts [t.st] tb)/\∃ tb,TTd ts [t.en] tb) {t:TD} (ht:t∈ts) {u:Int × Int} (e:t.hi=some u):∃ q,(nwT ts t).hi=some q/\vl q<=vl u:=by
 obtain ⟨tb,a⟩:=(hE t ht).1;have c:(⟨t.st,t.en,u,t.nm,true⟩:SD)∈Ch.all ts:=mem_flatMap.mpr ⟨t,ht,by unfold Ch.steps fwd;rw [e];exact mem_append_left _ (mem_singleton.mpr rfl)⟩;obtain ⟨q,d,b⟩:=a.step c (e:=((0,1),[])) a.self;refine ⟨q.1,?_,?_⟩
 ·show dD ts t.st t.en=_;rw [dD_eq a,show lk tb t.en=some q from d];rfl
 ·have b:vl q.1<=vl ((0,1):Int × Int)+vl u:=b;rw [Jce] at b;grind
theorem Jh7 (hg:BkG ts F x) (hE:∀ t∈ts,(∃ tb,TTd ts [t.st] tb)/\∃ tb,TTd ts [t.en] tb) {t:TD} (ht:t∈ts) {u:Int × Int} (e:t.lo=some u):∃ q,(nwT ts t).lo=some q/\vl u<=vl q:=by
 obtain ⟨tb,a⟩:=(hE t ht).2;have d:(⟨t.en,t.st,(-u.1,u.2),t.nm,false⟩:SD)∈Ch.all ts:=mem_flatMap.mpr ⟨t,ht,by unfold Ch.steps bwd;rw [e];exact mem_append_right _ (mem_singleton.mpr rfl)⟩;obtain ⟨q,c,b⟩:=a.step d (e:=((0,1),[])) a.self;have c:lk tb t.st=some q:=c;refine ⟨subF (0,1) q.1,?_,?_⟩
 ·show (dD ts t.en t.st).map _=_;rw [dD_eq a,c];rfl
 ·have b:vl q.1<=vl ((0,1):Int × Int)+vl (negF u):=b;rw [Jce,Jch] at b;rw [sub0 (a.lo hg c),Jch];grind
theorem nw_fb (hg:BkG ts F x) (h5:F.length<=5) (hfb:∀ s∈Ch.all ts,FB 147 8 s.c) {f v:Str} {tb:Tab} {e:(Int × Int) × List SpS} (hf:f∈F) (h:TTd ts [f] tb) (he:lk tb v=some e):FB 190 33 e.1:=by
 have b:=(h.lenF hg.fm he).2 fun g a=>by rw [mem_singleton.mp a];exact hf
 exact (h.fbL (n:=4) hfb he ∅).mono ⋯ ⋯
theorem JjS (hg:BkG ts F x) (h5:F.length<=5) (hfb:∀ s∈Ch.all ts,FB 147 8 s.c) (hE:∀ t∈ts,(∃ tb,TTd ts [t.st] tb)/\∃ tb,TTd ts [t.en] tb):BkG (nwD ts) F x where
 l35:=by
  have:=hg.l35;unfold nwD;rw [length_map];exact this
 ok:=fun o d=>by
  obtain ⟨t,b,rfl⟩:=mem_map.mp d;have h:=hg.ok t b;refine ⟨h.n1,h.n2,h.n3,h.ne,fun u k=>?_,fun u k=>?_,?_⟩
  ·obtain ⟨tb,e,a,f,g⟩:=nw_lo (hE t b).2 k;rw [g,sub0 (a.lo hg f)];exact (nw_fb hg h5 hfb (hg.fm t b).2 a f).neg.ok ⋯ ⋯
  ·obtain ⟨tb,e,a,f,g⟩:=nw_hi (hE t b).1 k;rw [g];exact (nw_fb hg h5 hfb (hg.fm t b).1 a f).ok ⋯ ⋯
  ·show lessD (bD (nwT ts t).hi) (bD (nwT ts t).lo)=false;cases e1:(nwT ts t).hi with
   | none=>rfl
   | some u=>
    cases e2:(nwT ts t).lo with
    | none=>rfl
    | some w=>
     obtain ⟨tb,e,a,f,g⟩:=nw_hi (hE t b).1 e1;obtain ⟨p,q,m,n,r⟩:=nw_lo (hE t b).2 e2;have A:=a.pot hg.pot f;have B:=m.pot hg.pot n;have v:=a.lo hg f;have l:=m.lo hg n;have : lessF u w=false:=by
      rw [g,r,sub0 l];cases z:lessF e.1 (negF q.1) with
      | false=>rfl
      | true=>
       have i:=(Jcd v.b1 (Jhi l).b1).mp z;rw [Jch] at i;refine absurd i (Rat.not_lt.mpr ?_);grind
     simpa [bD,frD,lessD,lessF] using this
 fb:=fun s j=>by
  obtain ⟨tb,e,a,f,g⟩:=Jey hg hE s j;rw [g];have y:=(Jcj (ts:=nwD ts) (F:=F) (fun o d=>by
   obtain ⟨t,b,rfl⟩:=mem_map.mp d;exact hg.fm t b) s j).1
  exact (nw_fb hg h5 hfb y a f).mono ⋯ ⋯
 f8:=hg.f8
 fm:=fun o d=>by
  obtain ⟨t,b,rfl⟩:=mem_map.mp d;exact hg.fm t b
 pot:=fun s j=>by
  obtain ⟨tb,e,a,f,g⟩:=Jey hg hE s j;rw [g];exact a.pot hg.pot f
theorem Ji8 (hg:BkG ts F x) (hE:∀ t∈ts,(∃ tb,TTd ts [t.st] tb)/\∃ tb,TTd ts [t.en] tb) (y:Str->Rat):(∀ s∈Ch.all (nwD ts),y s.dst<=y s.src+vl s.c)↔∀ s∈Ch.all ts,y s.dst<=y s.src+vl s.c:=by
 constructor
 ·intro h s a;obtain ⟨f,i,d,b,l⟩:=JiB hg hE s a;have:=h f i;rw [d,b] at this;grind
 ·intro h s a;obtain ⟨tb,e,g,k,j⟩:=Jey hg hE s a;rw [j];exact g.pot h k
theorem Jhp {t:TD} (ok:TOk t) {y:Str->Rat} {a:Int × Int} (ha:1<=a.2) (e:vl a=y t.en-y t.st):okB t.lo t.hi a=true↔∀ s∈Ch.steps t,y s.dst<=y s.src+vl s.c:=by
 have f:(match t.lo with | none=>true | some l=>!lessF a l)=true↔∀ l,t.lo=some l->y t.st<=y t.en+vl (negF l):=by
  cases e1:t.lo with
  | none=>exact ⟨(fun _ l h=>by cases h),fun _=>rfl⟩
  | some l=>
   have n:=(ok.lo l e1).b1;constructor
   ·intro h p i;cases i;have k:¬ vl a<vl l:=fun z=>by
     have:=(Jcd ha n).mpr z;have h:(!lessF a l)=true:=h;rw [this] at h;cases h
    have:=Rat.not_lt.mp k;rw [Jch];grind
   ·intro h;have:=h l rfl;rw [Jch] at this;show (!lessF a l)=true;cases z:lessF a l with
    | false=>rfl
    | true=>
     have g:=(Jcd ha n).mp z;refine absurd g (Rat.not_lt.mpr ?_);grind
 have d:(match t.hi with | none=>true | some h=>!lessF h a)=true↔∀ u,t.hi=some u->y t.en<=y t.st+vl u:=by
  cases e1:t.hi with
  | none=>exact ⟨(fun _ l h=>by cases h),fun _=>rfl⟩
  | some u=>
   have m:=(ok.hi u e1).b1;constructor
   ·intro h p i;cases i;have k:¬ vl u<vl a:=fun z=>by
     have:=(Jcd m ha).mpr z;have h:(!lessF u a)=true:=h;rw [this] at h;cases h
    have:=Rat.not_lt.mp k;grind
   ·intro h;have:=h u rfl;show (!lessF u a)=true;cases z:lessF u a with
    | false=>rfl
    | true=>
     have g:=(Jcd m ha).mp z;refine absurd g (Rat.not_lt.mpr ?_);grind
 have j:okB t.lo t.hi a=true↔(∀ l,t.lo=some l->y t.st<=y t.en+vl (negF l))/\∀ u,t.hi=some u->y t.en<=y t.st+vl u:=by
  unfold okB;rw [Bool.and_eq_true];exact ⟨fun h=>⟨f.mp h.1,d.mp h.2⟩,fun h=>⟨f.mpr h.1,d.mpr h.2⟩⟩
 rw [j];constructor
 ·rintro ⟨o,v⟩ s b;unfold Ch.steps fwd bwd at b;rcases mem_append.mp b with b | b
  ·cases e1:t.hi with
   | none=>rw [e1] at b;cases b
   | some u=>
    rw [e1] at b;rw [mem_singleton.mp b];exact v u e1
  ·cases e1:t.lo with
   | none=>rw [e1] at b;cases b
   | some u=>
    rw [e1] at b;rw [mem_singleton.mp b];exact o u e1
 ·intro h;refine ⟨fun l q=>?_,fun u r=>?_⟩
  ·exact h ⟨t.en,t.st,(-l.1,l.2),t.nm,false⟩ (by unfold Ch.steps bwd;rw [q];exact mem_append_right _ (mem_singleton.mpr rfl))
  ·exact h ⟨t.st,t.en,u,t.nm,true⟩ (by unfold Ch.steps fwd;rw [r];exact mem_append_left _ (mem_singleton.mpr rfl))
end
def faceN:List Str:=[Str.ofString "p",Str.ofString "pa",Str.ofString "pab",Str.ofString "qab",Str.ofString "qa"]
theorem Jga {k:Nat} {z:Str} (h:faceN[k]?=some z):nameS z=true:=(show ∀ z∈faceN,nameS z=true by decide) z (List.mem_of_getElem? h)
theorem Jg1:∀ j,j<5->∀ k,k<5->faceN[j]?=faceN[k]?->j=k:=by decide
theorem Jdo {j k:Nat} {z:Str} (h:faceN[j]?=some z) (g:faceN[k]?=some z):j=k :=
 Jg1 j (List.getElem?_eq_some_iff.mp h).1 k (List.getElem?_eq_some_iff.mp g).1 (h.trans g.symm)
def lkN (ls:List (Int × Int)) (z:Str):Int × Int:=(lk (faceN.zip ls) z).getD (0,1)
def apN (ls:List (Int × Int)) (t:TD):Int × Int:=addF (lkN ls t.en) (negF (lkN ls t.st))
theorem Jhd {α : Type}:∀ (fs:List Str) (ls:List α) (i:Nat) (f:Str) (a : α),fs.Nodup->fs[i]?=some f->ls[i]?=some a->lk (fs.zip ls) f=some a
 | [],_,i,f,a,_,h,_=>by simp at h
 | _::_,[],i,f,a,_,_,h=>by simp at h
 | f0::fs,l0::ls,0,f,a,_,h,k=>by
  cases h;cases k;rw [List.zip_cons_cons];exact if_pos rfl
 | f0::fs,l0::ls,i+1,f,a,nd,h,k=>by
  rw [List.getElem?_cons_succ] at h k;rw [nodup_cons] at nd;rw [List.zip_cons_cons];unfold lk;rw [if_neg (fun (e:f0=f)=>nd.1 (e ▸ List.mem_of_getElem? h))];exact Jhd fs ls i f a nd.2 h k
theorem Jee {ls:List (Int × Int)} {i:Nat} {f:Str} {a:Int × Int} (h:faceN[i]?=some f) (k:ls[i]?=some a):lkN ls f=a:=by
 unfold lkN;rw [Jhd faceN ls i f a ⋯ h k];rfl
theorem Jez {lo hi:Option (Int × Int)} {a:Int × Int}:okB lo hi a=(okB lo none a&&okB none hi a):=by
 unfold okB;simp
structure TG4 (ls:List (Int × Int)) (t:TD):Prop where
 ok:TOk t
 f1:∃ (i:Nat) (l:Int × Int),faceN[i]?=some t.st/\ls[i]?=some l
 f2:∃ (i:Nat) (l:Int × Int),faceN[i]?=some t.en/\ls[i]?=some l
 kp:okB t.lo t.hi (apN ls t)=true
 lo:∀ u,t.lo=some u->FB 147 8 u
 hi:∀ u,t.hi=some u->FB 147 8 u
theorem TG4.fb {ls:List (Int × Int)} {t:TD} (h:TG4 ls t):∀ s∈Ch.steps t,FB 147 8 s.c:=fun s a=>by
 unfold Ch.steps fwd bwd at a;rcases mem_append.mp a with a | a
 ·cases e:t.hi with
  | none=>rw [e] at a;cases a
  | some u=>
   rw [e] at a;rw [mem_singleton.mp a];exact h.hi u e
 ·cases e:t.lo with
  | none=>rw [e] at a;cases a
  | some u=>
   rw [e] at a;rw [mem_singleton.mp a];exact (h.lo u e).neg
def plcN (ls:List (Int × Int)) (f:Str):Rat:=vl (lkN ls f)
theorem Jjy {ls:List (Int × Int)} {t:TD} (h1:1<=(lkN ls t.st).2) (h2:1<=(lkN ls t.en).2):vl (apN ls t)=plcN ls t.en-plcN ls t.st/\1<=(apN ls t).2:=by
 unfold apN plcN;refine ⟨?_,Mth.Jbe (Int.mul_ne_zero ∅ (by show (lkN ls t.st).2≠0;ac_nf))⟩;rw [Jct h2 (show 1<=(negF (lkN ls t.st)).2 from h1),Jch,Rat.sub_eq_add_neg]
theorem Jfy {P:SD->Prop} {ts:List TD} (h:∀ t∈ts, ∀ s∈Ch.steps t,P s):∀ s∈Ch.all ts,P s:=fun s a=>by
 obtain ⟨t,b,a⟩:=mem_flatMap.mp (show s∈ts.flatMap Ch.steps from a);exact h t b s a
theorem JcN {ts:List TD} {ls:List (Int × Int)} (hok:∀ t∈ts,TOk t) (hb:∀ l∈ls,1<=l.2) (hin:∀ t∈ts,(∃ (i:Nat) (l:Int × Int),faceN[i]?=some t.st/\ls[i]?=some l)/\∃ (i:Nat) (l:Int × Int),faceN[i]?=some t.en/\ls[i]?=some l):(ts.all fun t=>okB t.lo t.hi (apN ls t))=true↔∀ s∈Ch.all ts,plcN ls s.dst<=plcN ls s.src+vl s.c:=by
 have b:∀ t∈ts,(okB t.lo t.hi (apN ls t)=true↔∀ s∈Ch.steps t,plcN ls s.dst<=plcN ls s.src+vl s.c):=fun t a=>by
  obtain ⟨⟨i,l,g,d⟩,j,m,k,e⟩:=hin t a;obtain ⟨o,n⟩:=Jjy (ls:=ls) (t:=t) (by rw [Jee g d];exact hb l (List.mem_of_getElem? d)) (by rw [Jee k e];exact hb m (List.mem_of_getElem? e));exact Jhp (hok t a) n o
 rw [all_eq_true];constructor
 ·intro h;exact Jfy fun t a=>(b t a).mp (h t a)
 ·intro h t a;exact (b t a).mpr fun s f=>h s (mem_flatMap.mpr ⟨t,a,f⟩)
theorem JiM {ls:List (Int × Int)} {ts:List TD} (hb:∀ l∈ls,1<=l.2) (h:∀ t∈ts,TG4 ls t) (hl:ts.length<=35):BkG ts faceN (plcN ls) where
 l35:=hl
 ok:=fun t a=>(h t a).ok
 fb:=Jfy fun t a s b=>((h t a).fb s b).mono ⋯ ⋯
 f8:=by decide
 fm:=fun t a=>by
  obtain ⟨i,_,c,_⟩:=(h t a).f1;obtain ⟨j,_,d,_⟩:=(h t a).f2;exact ⟨List.mem_of_getElem? c,List.mem_of_getElem? d⟩
 pot:=(JcN (fun t a=>(h t a).ok) hb fun t a=>⟨(h t a).f1,(h t a).f2⟩).mp (all_eq_true.mpr fun t a=>(h t a).kp)
theorem Ji6 {ts:List TD} (h:∀ (j:Nat) (t:TD),ts[j]?=some t->t.nm=⟨#[97+j]⟩):(nms ts).Nodup:=by
 refine List.pairwise_iff_getElem.mpr fun i j b a c e=>?_;unfold nms at b a e;rw [length_map] at b a;rw [List.getElem_map,List.getElem_map,h i _ (List.getElem?_eq_getElem b),h j _ (List.getElem?_eq_getElem a)] at e;simp at e;ac_nf
theorem JjR {ts:List TD}:nms (nwD ts)=nms ts:=by
 unfold nms nwD;rw [map_map];rfl
theorem Jec {a c:Int × Int} (ha:1<=a.2) (hc:1<=c.2) (h:vl c<=vl a):lessF a c=false:=by
 cases z:lessF a c with
 | false=>rfl
 | true=>exact absurd ((Jcd ha hc).mp z) (Rat.not_lt.mpr h)
theorem Jer:∀ l:List TD,depL (l.map tdD)<=3
 | []=>by simp [depL]
 | t::l=>by
  have:=Jer l;rw [map_cons,depL];have e:depD (tdD t)<=3:=by
   have hb:∀ o:Option (Int × Int),depD (bD o)<=1:=fun o=>by cases o <;> simp [bD,depD,frD,depL]
   have h1:=hb t.lo;have h2:=hb t.hi;simp only [tdD,depD,depL];ac_nf
  ac_nf
end L2
open PySem L2
local macro_rules|`(tactic|rename_i $p:ident $h:ident $q:ident $H:ident $G:ident $S:ident $e:ident)=>`(tactic|(intro $p:ident $h:ident;generalize $q:ident:upd $H $p _=$G;have $S:ident:=newS $h $q;have $e:ident:=newE $q))
local macro_rules|`(tactic|bv_decide)=>`(tactic|exact ⟨rfl,rfl,rfl,by decide +kernel,rfl,by decide +kernel,by decide +kernel⟩)
local macro_rules|`(tactic|simpa! only [$xs,*])=>`(tactic|simp only [y4fy,y50y,y51y,y74y,y2by,y6fy,y82y,y83y,y47y,y2ey,y7by,y95y,y30y,y3cy,y75y,y2fy,y8by,y23y,y29y,y7cy,y77y,y2ay,y7dy,y79y,y5dy,y97y,y26y,y89y,y73y,y6cy,y4cy,y6by,y80y,y33y,y4ay,y71y,y4by,y72y,y49y,y70y,y90y,y67y,y63y,y92y,y94y,y91y,y93y,y25y,y6ay,y24y,true_and,if_true,if_false,Bool.not_true,Bool.not_false,Bool.false_eq_true,yby,ydy,yay,ycy,yey,y15y,y17y,y14y,y16y,y18y,y6y,y8y,y5y,y7y,y9y,y1y,y3y,y0y,y2y,y4y,y10y,y12y,yfy,y11y,y13y,y1ay,y1cy,y19y,y1by,y1dy,y1fy,y21y,y1ey,y20y,y22y,y87y,y7fy,y76y,y31y,y32y,y57y,y65y,y66y,y4ey,y88y,y8ey,y98y,y81y,y27y,V.int.injEq,V.str.injEq,List.set_cons_zero,List.set_cons_succ,List.getElem?_cons_zero,List.getElem?_cons_succ,Option.some.injEq,exists_eq_left,exists_eq_left',V.bl.injEq,Int.reduceToNat,Int.reducePow,append_nil,nil_append,cons_append,y59y,y5by,y2cy,y2dy,y6dy,y62y,y78y,y68y,y69y,y3dy,y3ey,y3fy,y46y,y48y,y41y,y7ey,y43y,y42y,y34y,y36y,y3ay,y40y,y44y,y54y,y56y,y5ey,y38y,y8dy,y8ay,y37y,y9ay,y52y,y53y,y96y,y45y,reduceCtorEq,decide_false,decide_true,$xs,*])
local macro_rules|`(tactic|infer_instance)=>`(tactic|simpa! only [y85y])
local macro_rules|`(tactic|contradiction)=>`(tactic|simpa! only [y85y,y4dy])
local macro_rules|`(tactic|ac_rfl)=>`(tactic|simpa! only [y85y,y86y])
local macro_rules|`(tactic|symm_saturate)=>`(tactic|((try simpa! only [y4dy,y86y]);repeat ((first | (with_reducible refine JeO fun _ _=>?_) | (with_reducible refine Nxt.go (by assumption) ?_));(try simpa! only [y4dy,y86y]))))
local macro_rules|`(tactic|exfalso)=>`(tactic|((try simpa! only [y86y]);repeat ((first | (with_reducible refine JeO fun _ _=>?_) | (with_reducible refine Nxt.go (by assumption) ?_));(try simpa! only [y86y]))))
local macro_rules|`(tactic|and_intros)=>`(tactic|((try simpa! only [y4dy]);repeat ((first | (with_reducible refine JeO fun _ _=>?_) | (with_reducible refine Nxt.go (by assumption) ?_));(try simpa! only [y4dy]))))
local macro_rules|`(tactic|nofun)=>`(tactic|((try simpa! only [true_and]);repeat ((first | (with_reducible refine JeO fun _ _=>?_) | (with_reducible refine Nxt.go (by assumption) ?_));(try simpa! only [true_and]))))
local macro_rules|`(tactic|simpa only [$xs,*])=>`(tactic|simpa! only [y85y, $xs,*])
namespace Prg
open PySem L2 Ch
variable {f:Addr} {fd:FuncData} {dV:Value}
def top (i:Nat):Stmt:=PySem.Challenge.pw_slackchain_k34_narrowed_ties.main.body.getD i (.Pass ⟨0,0,0,0⟩)
structure Adr where
 NoTie:Addr
 Tie:Addr
 Free:Addr
 AtLeast:Addr
 AtMost:Addr
 Just:Addr
 Between:Addr
 Scale:Addr
 Step:Addr
 Book:Addr
 SMALL_LETTERS:Value
 LONGEST_NAME:Value
 ZERO:Addr
structure TieC (K:W.Frag) (C:Addr):Prop where
 cls:Cls K C
 n1:Ja6 K C "name"
 n2:Ja6 K C "start"
 n3:Ja6 K C "end"
 n4:Ja6 K C "least"
 n5:Ja6 K C "greatest"
def IsTie (Ad:Adr) (C:Addr):Prop:=C=Ad.Free\/C=Ad.AtLeast\/C=Ad.AtMost\/C=Ad.Just\/C=Ad.Between
def TieV (H:Hp) (v:V) (C:Addr) (n s e l g:V):Prop:=∃ p dx,v=.ref p/\H p=some (.ins C dx (tieF n s e l g))
def kindC (Ad:Adr) (l g:D):Addr:=if nonD l then (if nonD g then Ad.Free else Ad.AtMost) else if nonD g then Ad.AtLeast else if eqD l g then Ad.Just else Ad.Between
theorem Jhc (Ad:Adr) (l g:D):IsTie Ad (kindC Ad l g):=by
 unfold kindC IsTie;split
 ·split
  ·exact .inl rfl
  ·exact .inr (.inr (.inl rfl))
 ·split
  ·exact .inr (.inl rfl)
  ·split
   ·exact .inr (.inr (.inr (.inl rfl)))
   ·exact .inr (.inr (.inr (.inr rfl)))
structure Jjx (K:W.Frag) (C:Addr):Prop where
 cls:Cls K C
 n1:Ja6 K C "bottom"
 n2:Ja6 K C "factors"
def Jfx (Ad:Adr) (C:Addr):Prop:=C=Ad.Scale
structure StepC (K:W.Frag) (C:Addr):Prop where
 cls:Cls K C
 n1:Ja6 K C "source"
 n2:Ja6 K C "target"
 n3:Ja6 K C "cost"
 n4:Ja6 K C "whole"
 n5:Ja6 K C "pair"
def Jjw (Ad:Adr) (C:Addr):Prop:=C=Ad.Step
theorem SqT.put {K:W.Frag} {H:Hp} {x a C dx:Addr} {fs fs':List (Str × V)} {xs:List V} (hx:H x=some (.ins C dx fs)) (h:SqT K H a xs):SqT K (upd H x (.ins C dx fs')) a xs:=by
 rcases h with (h | ⟨o,h⟩) | h
 ·exact .inl (.inl (by rw [Jai (ne_of h hx (by intro z;cases z))];exact h))
 ·exact .inl (.inr ⟨o,by rw [Jai (ne_of h hx (by intro z;cases z))];exact h⟩)
 ·exact .inr h
def partF (n s e z m w:V):List (Str × V):=[("name",n),("start",s),("end",e),("size",z),("most",m),("weight",w)]
def gapF (n s e l g:V):List (Str × V):=[("name",n),("one",s),("other",e),("low",l),("high",g)]
theorem TieV.same {H H':Hp} {v:V} {C:Addr} {n s e l g:V} (S:Same H H') (h:TieV H v C n s e l g):TieV H' v C n s e l g:=by
 obtain ⟨p,c,a,b⟩:=h;exact ⟨p,c,a,S _ _ b⟩
structure BookC (K:W.Frag) (C:Addr):Prop where
 cls:Cls K C
 n1:Ja6 K C "by_name"
def JaL (Ad:Adr) (C:Addr):Prop:=C=Ad.Book
structure Txt (K:W.Frag) (mg:Str->Option Value) (Ad:Adr):Prop where
 Bca:mg "abs"=none
 Bav:mg "isinstance"=none
 BbB:mg "len"=none
 Bci:mg "all"=none
 Bcj:mg "int"=none
 Bch:mg "bool"=none
 Bb1:mg "tuple"=none
 Bck:mg "str"=none
 BbF:mg "range"=none
 Bb5:mg "list"=none
 n_reversed:mg "reversed"=none
 Bb6:mg "sorted"=none
 n_set:mg "set"=none
 n_max:mg "max"=none
 n_dict:mg "dict"=none
 m_NoTie:mg "NoTie"=some (.ref Ad.NoTie)
 m_Tie:mg "Tie"=some (.ref Ad.Tie)
 m_Free:mg "Free"=some (.ref Ad.Free)
 m_AtLeast:mg "AtLeast"=some (.ref Ad.AtLeast)
 m_AtMost:mg "AtMost"=some (.ref Ad.AtMost)
 m_Just:mg "Just"=some (.ref Ad.Just)
 m_Between:mg "Between"=some (.ref Ad.Between)
 Bcl:mg "Scale"=some (.ref Ad.Scale)
 m_Step:mg "Step"=some (.ref Ad.Step)
 m_Book:mg "Book"=some (.ref Ad.Book)
 BbJ:mg "SMALL_LETTERS"=some Ad.SMALL_LETTERS
 BbK:RelV (.str "abcdefghijklmnopqrstuvwxyz") Ad.SMALL_LETTERS
 BbM:mg "LONGEST_NAME"=some Ad.LONGEST_NAME
 BbN:RelV (.int 8) Ad.LONGEST_NAME
 Bb7:mg "ZERO"=some (.ref Ad.ZERO)
 Bb8:RelV (.ref Ad.ZERO) (.ref Ad.ZERO)
 Bb0:∀ H:Hp,SqT K H Ad.ZERO [.int 0, .int 1]
 x_NoTie:W.excIn K Ad.NoTie [.type "ValueError", .type "Exception", .type "BaseException", .type "object"] "ValueError.__new__"=true
 cl1_Free:W.plainGet K Ad.Free Str.empty=true
 cl2_Free:W.hasDictIn K Ad.Free=true
 cl3_Free:W.plainOver K Ad.Free=true
 cl4_Free:W.findIn K (.ref Ad.Free) "__setattr__"=some (some (.builtin "object.__setattr__"))
 na1_Free:W.findIn K (.ref Ad.Free) "name"=some none
 na2_Free:W.findIn K (.ref Ad.Free) "start"=some none
 na3_Free:W.findIn K (.ref Ad.Free) "end"=some none
 na4_Free:W.findIn K (.ref Ad.Free) "least"=some none
 na5_Free:W.findIn K (.ref Ad.Free) "greatest"=some none
 cl1_AtLeast:W.plainGet K Ad.AtLeast Str.empty=true
 cl2_AtLeast:W.hasDictIn K Ad.AtLeast=true
 cl3_AtLeast:W.plainOver K Ad.AtLeast=true
 cl4_AtLeast:W.findIn K (.ref Ad.AtLeast) "__setattr__"=some (some (.builtin "object.__setattr__"))
 na1_AtLeast:W.findIn K (.ref Ad.AtLeast) "name"=some none
 na2_AtLeast:W.findIn K (.ref Ad.AtLeast) "start"=some none
 na3_AtLeast:W.findIn K (.ref Ad.AtLeast) "end"=some none
 na4_AtLeast:W.findIn K (.ref Ad.AtLeast) "least"=some none
 na5_AtLeast:W.findIn K (.ref Ad.AtLeast) "greatest"=some none
 cl1_AtMost:W.plainGet K Ad.AtMost Str.empty=true
 cl2_AtMost:W.hasDictIn K Ad.AtMost=true
 cl3_AtMost:W.plainOver K Ad.AtMost=true
 cl4_AtMost:W.findIn K (.ref Ad.AtMost) "__setattr__"=some (some (.builtin "object.__setattr__"))
 na1_AtMost:W.findIn K (.ref Ad.AtMost) "name"=some none
 na2_AtMost:W.findIn K (.ref Ad.AtMost) "start"=some none
 na3_AtMost:W.findIn K (.ref Ad.AtMost) "end"=some none
 na4_AtMost:W.findIn K (.ref Ad.AtMost) "least"=some none
 na5_AtMost:W.findIn K (.ref Ad.AtMost) "greatest"=some none
 cl1_Just:W.plainGet K Ad.Just Str.empty=true
 cl2_Just:W.hasDictIn K Ad.Just=true
 cl3_Just:W.plainOver K Ad.Just=true
 cl4_Just:W.findIn K (.ref Ad.Just) "__setattr__"=some (some (.builtin "object.__setattr__"))
 na1_Just:W.findIn K (.ref Ad.Just) "name"=some none
 na2_Just:W.findIn K (.ref Ad.Just) "start"=some none
 na3_Just:W.findIn K (.ref Ad.Just) "end"=some none
 na4_Just:W.findIn K (.ref Ad.Just) "least"=some none
 na5_Just:W.findIn K (.ref Ad.Just) "greatest"=some none
 cl1_Between:W.plainGet K Ad.Between Str.empty=true
 cl2_Between:W.hasDictIn K Ad.Between=true
 cl3_Between:W.plainOver K Ad.Between=true
 cl4_Between:W.findIn K (.ref Ad.Between) "__setattr__"=some (some (.builtin "object.__setattr__"))
 na1_Between:W.findIn K (.ref Ad.Between) "name"=some none
 na2_Between:W.findIn K (.ref Ad.Between) "start"=some none
 na3_Between:W.findIn K (.ref Ad.Between) "end"=some none
 na4_Between:W.findIn K (.ref Ad.Between) "least"=some none
 na5_Between:W.findIn K (.ref Ad.Between) "greatest"=some none
 Bbo:W.plainGet K Ad.Scale Str.empty=true
 Bbp:W.hasDictIn K Ad.Scale=true
 Bbq:W.plainOver K Ad.Scale=true
 Bbr:W.findIn K (.ref Ad.Scale) "__setattr__"=some (some (.builtin "object.__setattr__"))
 Bbs:W.findIn K (.ref Ad.Scale) "bottom"=some none
 Bbt:W.findIn K (.ref Ad.Scale) "factors"=some none
 cl1_Step:W.plainGet K Ad.Step Str.empty=true
 cl2_Step:W.hasDictIn K Ad.Step=true
 cl3_Step:W.plainOver K Ad.Step=true
 cl4_Step:W.findIn K (.ref Ad.Step) "__setattr__"=some (some (.builtin "object.__setattr__"))
 na1_Step:W.findIn K (.ref Ad.Step) "source"=some none
 na2_Step:W.findIn K (.ref Ad.Step) "target"=some none
 na3_Step:W.findIn K (.ref Ad.Step) "cost"=some none
 na4_Step:W.findIn K (.ref Ad.Step) "whole"=some none
 na5_Step:W.findIn K (.ref Ad.Step) "pair"=some none
 bk1:W.plainGet K Ad.Book Str.empty=true
 bk2:W.hasDictIn K Ad.Book=true
 bk3:W.plainOver K Ad.Book=true
 bk4:W.findIn K (.ref Ad.Book) "__setattr__"=some (some (.builtin "object.__setattr__"))
 bkn:W.findIn K (.ref Ad.Book) "by_name"=some none
 tie:∀ C,IsTie Ad C->TieC K C
 BbP:∀ C,Jfx Ad C->Jjx K C
 c_Step:∀ C,Jjw Ad C->StepC K C
 book:∀ C,JaL Ad C->BookC K C
def Jku (dl dg:D) (a b:Int):Bool:=!lessD (.tup [.int a, .int b]) dl&&!lessD dg (.tup [.int a, .int b])
def negD:D->D
 | .tup [.int a, .int b]=>.tup [.int (-a), .int b]
 | d=>d
def JdN (ds de dl dg:D):List D:=(if nonD dg then [] else [.tup [ds,de,dg, .bl true]])++(if nonD dl then [] else [.tup [de,ds,negD dl, .bl false]])
structure Bnd (K:W.Frag) (H:Hp) (d:D) (v:V):Prop where
 rep:Rep K H d v
 ok:Jci d=true
 sz:szD d
theorem Bnd.same {K:W.Frag} {H H':Hp} {d:D} {v:V} (S:Same H H') (b:Bnd K H d v):Bnd K H' d v:=⟨b.rep.same S,b.ok,b.sz⟩
theorem Bnd.frac {K:W.Frag} {H:Hp} {d:D} {v:V} (b:Bnd K H d v) (h:nonD d=false):∃ x y,d=.tup [.int x, .int y]/\1<=y/\Mth.g x y=1/\FrV K H v x y/\Mth.Sz 4000 x/\Mth.Sz 4000 y:=by
 have f:fracB d=true:=by have:=b.ok;cases d <;> first | exact this | (simp [nonD] at h)
 obtain ⟨x,y,rfl,c,e⟩:=Jb2 f;have a:=b.sz;simp only [szD,szL] at a;exact ⟨x,y,rfl,c,e,FrV.of_rep b.rep,a.1,a.2.1⟩
section
variable {K:W.Frag} {H:Hp}
theorem repS {z:Str}:Rep K H (.str z) (.str z):=by simp only [Rep]
end
theorem Jil (t:TD):JdN (.str t.st) (.str t.en) (bD t.lo) (bD t.hi)=(Ch.steps t).map pD:=by
 unfold JdN Ch.steps fwd bwd;cases t.lo <;> cases t.hi <;> simp [bD,frD,nonD,negD,pD]
theorem Jip {K:W.Frag} {H:Hp} {o:Option (Int × Int)} {v:V} (h:BV K H o v) (k:∀ a,o=some a->FOk 600 a):Bnd K H (bD o) v:=⟨h.rep,(bD_ok k).1,(bD_ok k).2⟩
def OV (K:W.Frag) (Ad:Adr) (H:Hp) (t:TD) (v:V):Prop:=∃ C vl vg,TieV H v C (.str t.nm) (.str t.st) (.str t.en) vl vg/\IsTie Ad C/\BV K H t.lo vl/\BV K H t.hi vg
theorem OV.same {K:W.Frag} {Ad:Adr} {H H':Hp} {t:TD} {v:V} (S:Same H H'):OV K Ad H t v->OV K Ad H' t v:=by rintro ⟨C,vl,b,a,e,d,c⟩;exact ⟨C,vl,b,a.same S,e,d.sameT S.t,c.sameT S.t⟩
section
variable {K:W.Frag} {Ad:Adr} {H H':Hp} {p d:Addr} {kvs:List (Key × V)} {ts:List TD}
def Sx (d:Addr) (H H':Hp):Prop:=∀ b u,b≠d->H b=some u->H' b=some u
theorem Same.sx (S:Same H H'):Sx d H H':=fun b u _ h=>S b u h
theorem Sx.t (S:Sx d H H') (hd:H d=some (.dK kvs)):SameT H H':=fun b u t h=>S b u (fun z=>by rw [z,hd] at h;cases h;simp [isTF] at t) h
theorem OV.sx {t:TD} {v:V} (S:Sx d H H') (hd:H d=some (.dK kvs)):OV K Ad H t v->OV K Ad H' t v:=fun ⟨C,vl,f,⟨q,b,e,a⟩,c,h,g⟩=>
 ⟨C,vl,f,⟨q,b,e,S _ _ (fun z=>by rw [z,hd] at a;cases a) a⟩,c,h.sameT (S.t hd),g.sameT (S.t hd)⟩
def BK (K:W.Frag) (Ad:Adr) (H:Hp) (p d:Addr) (ts:List TD):Prop:=(∃ dx,H p=some (.ins Ad.Book dx [("by_name", .ref d)]))/\∃ kvs,H d=some (.dK kvs)/\BD (OV K Ad H) ts kvs
theorem BK.same (S:Same H H') (h:BK K Ad H p d ts):BK K Ad H' p d ts:=by
 obtain ⟨⟨b,e⟩,a,c,f⟩:=h;exact ⟨⟨b,S _ _ e⟩,a,S _ _ c,f.mono fun _ _ z=>z.same S⟩
theorem BK.sl {l:Addr} {zs:List V} (h:BK K Ad H p d ts) (hl:H l=some (.lst zs)) (S:Sx l H H'):BK K Ad H' p d ts:=by
 obtain ⟨⟨a,c⟩,i,f,m⟩:=h;have j:SameT H H':=fun b u t h=>S b u (fun z=>by rw [z,hl] at h;cases h;simp [isTF] at t) h;refine ⟨⟨a,S _ _ (fun z=>by rw [z,hl] at c;cases c) c⟩,i,S _ _ (fun z=>by rw [z,hl] at f;cases f) f,m.mono ?_⟩;rintro t v ⟨C,vl,n,⟨q,a,e,g⟩,k,o,r⟩;exact ⟨C,vl,n,⟨q,a,e,S _ _ (fun z=>by rw [z,hl] at g;cases g) g⟩,k,o.sameT j,r.sameT j⟩
end
def SCK (Ad:Adr) (H:Hp) (x:Addr) (b:Int) (fs:List Int):Prop:=∃ dx fl,H x=some (.ins Ad.Scale dx [("bottom", .int b),("factors", .ref fl)])/\H fl=some (.lst (fs.map V.int))/\Scl b fs/\Mth.Sz 3000 b/\fs.length<=70
theorem SCK.same {Ad:Adr} {H H':Hp} {x:Addr} {b:Int} {fs:List Int} (S:Same H H'):SCK Ad H x b fs->SCK Ad H' x b fs:=by rintro ⟨a,f,d,c,e⟩;exact ⟨a,f,S _ _ d,S _ _ c,e⟩
def TOb (K:W.Frag) (Ad:Adr) (H:Hp) (t:TD) (v:V):Prop:=∃ vl vg,TieV H v (kindC Ad (bD t.lo) (bD t.hi)) (.str t.nm) (.str t.st) (.str t.en) vl vg/\BV K H t.lo vl/\BV K H t.hi vg
theorem TOb.same {K:W.Frag} {Ad:Adr} {H H':Hp} {t:TD} {v:V} (S:Same H H'):TOb K Ad H t v->TOb K Ad H' t v:=by
 rintro ⟨vl,a,b,d,c⟩;exact ⟨vl,a,b.same S,d.sameT S.t,c.sameT S.t⟩
def SRV (K:W.Frag) (H:Hp) (s:SD) (x:V):Prop:=∃ b v,x=.ref b/\SqT K H b [.str s.nm,v]/\PV K H s v
theorem SRV.sameT {K:W.Frag} {H H':Hp} {s:SD} {x:V} (S:SameT H H'):SRV K H s x->SRV K H' s x:=by
 rintro ⟨b,v,a,d,c⟩;exact ⟨b,v,a,d.sameT S,c.sameT S⟩
def SOV (K:W.Frag) (Ad:Adr) (b:Int) (H:Hp) (s:SD) (x:V):Prop:=∃ p dx vc pr,x=.ref p/\H p=some (.ins Ad.Step dx [("source", .str s.src),("target", .str s.dst),("cost",vc),("whole", .int (s.c.1*b.fdiv s.c.2)),("pair", .ref pr)])/\FrV K H vc s.c.1 s.c.2/\H pr=some (.tup [.str s.nm, .bl s.fw])
theorem SOV.same {K:W.Frag} {Ad:Adr} {b:Int} {H H':Hp} {s:SD} {x:V} (S:Same H H'):SOV K Ad b H s x->SOV K Ad b H' s x:=by
 rintro ⟨p,a,e,c,d,h,g,f⟩;exact ⟨p,a,e,c,d,S _ _ h,g.same S,S _ _ f⟩
def SOS (K:W.Frag) (Ad:Adr) (H:Hp) (s:SpS) (x:V):Prop:=∃ p dx vc pr,x=.ref p/\H p=some (.ins Ad.Step dx [("source", .str s.src),("target", .str s.tgt),("cost",vc),("whole", .int s.wh),("pair", .ref pr)])/\FrV K H vc s.cost.1 s.cost.2/\H pr=some (.tup [.str s.nm, .bl s.fw])
theorem SOS.same {K:W.Frag} {Ad:Adr} {H H':Hp} {s:SpS} {x:V} (S:Same H H'):SOS K Ad H s x->SOS K Ad H' s x:=by
 rintro ⟨p,a,d,b,c,g,f,e⟩;exact ⟨p,a,d,b,c,S _ _ g,f.same S,S _ _ e⟩
def RI (a:Int) (v:V):Prop:=v=.int a
def chV:Option Str->V
 | none=>.non
 | some f=>.str f
def RT (K:W.Frag) (H0 H:Hp) (e:(Int × Int) × List SpS) (v:V):Prop:=∃ p qv l xs,v=.ref p/\SqT K H p [qv, .ref l]/\FrV K H qv e.1.1 e.1.2/\H l=some (.lst xs)/\All2 (CV H) (e.2.map fun s=>(s.nm,s.fw)) xs/\H0 l=none
theorem RT.same {K:W.Frag} {H0 H H':Hp} {e:(Int × Int) × List SpS} {v:V} (S:Same H H'):RT K H0 H e v->RT K H0 H' e v:=by
 rintro ⟨p,b,l,a,c,i,h,g,d,f⟩;exact ⟨p,b,l,a,c,i.same S,h.same S,S _ _ g,(d.mono fun _ _ z=>z.sameT S.t),f⟩
theorem RT.putL {K:W.Frag} {H0 H H':Hp} {e:(Int × Int) × List SpS} {v:V} {a:Addr} {o:HO} {kv:List (Key × V)} (u:upd H a o=H') (h:H a=some (.dK kv)):RT K H0 H e v->RT K H0 H' e v:=by
 rintro ⟨p,d,l,c,f,k,j,b,g,i⟩;have T:SameT H H':=SameT.put u h rfl;have n:l≠a:=fun z=>by rw [z,h] at b;cases b
 exact ⟨p,d,l,c,f,k.sameT T,j.sameT T,by rw [<- u,Jai n];exact b,(g.mono fun _ _ z=>z.sameT T),i⟩
def RF (K:W.Frag) (H:Hp) (e:Int × Int) (v:V):Prop:=FrV K H v e.1 e.2
def TDk (K:W.Frag) (H0 H:Hp) (tb:Tab) (td:Addr):Prop:=∃ kt,H td=some (.dK kt)/\DV (RT K H0 H) tb kt/\H0 td=none
theorem TDk.same {K:W.Frag} {H0 H H':Hp} {tb:Tab} {td:Addr} (S:Same H H'):TDk K H0 H tb td->TDk K H0 H' tb td:=by rintro ⟨a,b,d,c⟩;exact ⟨a,S _ _ b,d.mono fun _ _ z=>z.same S,c⟩
theorem RT.base {K:W.Frag} {H0 H1 H:Hp} {e:(Int × Int) × List SpS} {v:V} (S:Same H1 H0):RT K H0 H e v->RT K H1 H e v:=by rintro ⟨p,b,l,a,c,i,h,g,d,f⟩;exact ⟨p,b,l,a,c,i,h,g,d,Ja7 S f⟩
theorem TDk.base {K:W.Frag} {H0 H1 H:Hp} {tb:Tab} {td:Addr} (S:Same H1 H0):TDk K H0 H tb td->TDk K H1 H tb td:=by rintro ⟨a,b,d,c⟩;exact ⟨a,b,d.mono fun _ _ z=>z.base S,Ja7 S c⟩
theorem Jkg {K:W.Frag} {Ad:Adr} {H:Hp} {b:Int} {s:SD} {x:V} (h:SOV K Ad b H s x):SOS K Ad H (toS b s) x:=h
theorem JfZ {K:W.Frag} {Ad:Adr} {H:Hp} {b:Int}:∀ {ss:List SD} {xs:List V},All2 (SOV K Ad b H) ss xs->All2 (SOS K Ad H) (ss.map (toS b)) xs
 | [],_,h=>h
 | s::ss,_,⟨x,r,e,h1,h2⟩=>⟨x,r,e,Jkg h1,JfZ h2⟩
structure STp (K:W.Frag) (Ad:Adr) (H:Hp) (ts:List TD) (sL:Addr):Prop where
 ex:∃ sx,SqL K H sL sx/\All2 (SOS K Ad H) (ssD ts) sx
 b1:1<=bD_ ts
 bb:∀ s∈Ch.all ts,1<=s.c.2/\s.c.2∣bD_ ts
theorem STp.same {K:W.Frag} {Ad:Adr} {H H':Hp} {ts:List TD} {sL:Addr} (S:Same H H') (h:STp K Ad H ts sL):STp K Ad H' ts sL:=by
 obtain ⟨⟨a,b,e⟩,d,c⟩:=h;exact ⟨⟨a,b.same S,e.mono fun _ _ z=>z.same S⟩,d,c⟩
def PDk (K:W.Frag) (H:Hp) (pb:List (Str × (Int × Int))) (pd:Addr):Prop:=∃ kp,H pd=some (.dK kp)/\DV (RF K H) pb kp
theorem PDk.same {K:W.Frag} {H H':Hp} {pb:List (Str × (Int × Int))} {pd:Addr} (S:Same H H'):PDk K H pb pd->PDk K H' pb pd:=fun ⟨b,a,c⟩=>⟨b,S _ _ a,c.mono fun _ _ z=>FrV.same S z⟩
def ShV (K:W.Frag) (H0 H:Hp) (e:(Int × Int) × List SpS) (pl:List (Str × (Int × Int))) (q:Addr):Prop:=∃ qv l cx zl zs,H q=some (.tup [qv, .ref l, .ref zl])/\FrV K H qv e.1.1 e.1.2/\H l=some (.lst cx)/\All2 (CV H) (e.2.map fun s=>(s.nm,s.fw)) cx/\H0 l=none/\H zl=some (.lst zs)/\All2 (QV K H) pl zs/\H0 zl=none
theorem ShV.same {K:W.Frag} {H0 H H':Hp} {e:(Int × Int) × List SpS} {pl:List (Str × (Int × Int))} {q:Addr} (S:Same H H'):ShV K H0 H e pl q->ShV K H0 H' e pl q:=by rintro ⟨c,l,a,h,b,d,n,m,k,g,i,f,j⟩;exact ⟨c,l,a,h,b,S _ _ d,n.same S,S _ _ m,(k.mono fun _ _ z=>z.sameT S.t),g,S _ _ i,(f.mono fun _ _ z=>z.sameT S.t),j⟩
section
variable {P:Program} {w:World} {K:W.Frag} {mg:Str->Option Value} {base:Heap} {Ad:Adr}
seal PE PA PS PSs PT PW PG PGs PI PO
abbrev Bah:Stmt:=top 8
theorem JaF:Jan ["one","other","greater","lesser","rest"] ["one","other"] (Jac Bah):=by bv_decide
def JaG  : Sp:=fun vs H Q E=>∃ (a b:Int),vs=[.int a, .int b]/\Q (.int (Mth.g a b)) H
theorem Jc1 (F:FunD K "common_divisor" "common_divisor" Bah dV f fd) (T:Txt K mg Ad)  : FnOk P w K mg base (CX1 P w) 1 f fd ["one","other"] (JaG):=by
 refine F.okn JaF (by subst_eqs) (fun r A d s H p Q E n h=>?_)
 obtain ⟨a,b,rfl,h⟩:=h;have l:=n.units;refine ⟨_,(Jab (Jaj (i:=2) JaF.nd rfl (Or.inl rfl) (Jat JcL rfl T.Bca Jf6 (Jaa (pv 0) Jad)))
   (Jab (Jaj (i:=3) JaF.nd rfl (Or.inl rfl) (Jat JcL rfl T.Bca Jf6 (Jaa (pv 1) Jad)))
   (Jab (JeJ PassesOwn.never (Jar (Jck l) (pv 3) Jae (Jau _))
   (Jab (Jaj (i:=4) JaF.nd rfl (Or.inl rfl) (pe_op JaC (pv 2) (pv 3)))
   (Jab (Jaj (i:=2) JaF.nd rfl (Or.inl rfl) (pv 3))
   (Jag (Jaj (i:=3) JaF.nd rfl (Or.inl rfl) (pv 4))))))
   (Jag (Jam (pv 2)))))),?_⟩
 clear l;show tSeq _ _ _ [some (.int a),some (.int b),none,none,none] H;try infer_instance
 refine ⟨fun m σ k=>∃ (x y:Int) (z:Option V),σ=[some (.int a),some (.int b),some (.int x),some (.int y),z]/\k=H/\0<=x/\0<=y/\Mth.g x y=Mth.g a b/\y.toNat=m,⟨_,_,_,none,rfl,rfl,Mth.Jf2 a,Mth.Jf2 b,Mth.Bcg a b,rfl⟩,?_⟩;rintro m σ k ⟨x,y,z,rfl,rfl,t,o,j,rfl⟩;try infer_instance
 by_cases c:y=0
 ·subst c;rw [if_neg (by simp)];have e:Mth.g a b=x:=by rw [<- j,Mth.Jix];ac_nf
  rw [e] at h;exact h
 ·rw [if_pos (by simp [c])];have f:=Mth.fm (x:=x) (y:=y) ∅;exact ⟨_,fun _ _ q=>q,c,(x.fmod y).toNat,by ac_nf,y,x.fmod y,_,rfl,rfl,o,f.1,by rw [Mth.Jg6 ∅];exact j,rfl⟩
abbrev BbO:Stmt:=top 9
theorem JeN:Jan ["one","other","shared","top","rest"] ["one","other"] (Jac BbO):=by bv_decide
def JdL (K:W.Frag):Sp:=fun vs H Q E=>∃ (x y:V) (a b c d:Int),vs=[x,y]/\FrV K H x a b/\FrV K H y c d/\Mth.Sz 4000 a/\Mth.Sz 4000 b/\Mth.Sz 4000 c/\Mth.Sz 4000 d/\1<=b/\1<=d/\Mth.g a b=1/\Mth.g c d=1/\∀ p H',Same H H'->H' p=some (.tup [.int (Mth.top (a*d+c*b) (b*d)), .int (Mth.bot (a*d+c*b) (b*d))])->Q (.ref p) H'
theorem Jja (F:FunD K "plus" "plus" BbO dV f fd) (T:Txt K mg Ad) (Bac:Cal P w K mg base 1 "common_divisor" ["one","other"] [] (JaG)):FnOk P w K mg base (CX1 P w) 2 f fd ["one","other"] (JdL K):=by
 refine F.okn JeN (by subst_eqs) (fun X A n s H J Q E q h=>?_)
 obtain ⟨x,y,a,b,c,d,rfl,h⟩:=h;refine ⟨_,(Jab (Jaj (i:=2) JeN.nd rfl (Or.inl rfl) (Bac.ev q ⋯ rfl passF (Jaa (pe_ix ix_U (pv 0) Jae (fun _ _=>rfl)) (Jaa (pe_ix ix_U (pv 1) Jae (fun _ _=>rfl)) Jad)) (he:=by exact Jah rfl)))
   (Jab (Jaj (i:=3) JeN.nd rfl (Or.inl rfl) (pe_op JaP (pe_op JaT (pe_ix ix_U (pv 0) Jae (fun _ _=>rfl)) (pe_op Jaw (pe_ix ix_U (pv 1) Jae (fun _ _=>rfl)) (pv 2))) (pe_op JaT (pe_ix ix_U (pv 1) Jae (fun _ _=>rfl)) (pe_op Jaw (pe_ix ix_U (pv 0) Jae (fun _ _=>rfl)) (pv 2)))))
   (Jab (Jaj (i:=4) JeN.nd rfl (Or.inl rfl) (Bac.ev q ⋯ rfl passF (Jaa (pv 3) (Jaa (pv 2) Jad)) (he:=by exact Jah rfl)))
   (Jag (Jam (JaU (Jaa (pe_op Jaw (pv 3) (pv 4)) (Jaa (pe_op JaT (pe_op Jaw (pe_ix ix_U (pv 0) Jae (fun _ _=>rfl)) (pv 2)) (pe_op Jaw (pe_ix ix_U (pv 1) Jae (fun _ _=>rfl)) (pv 4))) Jad)))))))),?_⟩
 obtain ⟨j,e,M,N,W,o,O,V,G,B,k⟩:=h;show tSeq _ _ _ [some x,some y,none,none,none] H;try infer_instance
 refine ixF1 j (ixF1 e ?_);try infer_instance
 refine ⟨_,_,rfl,?_⟩;try infer_instance
 have Z:=Mth.g_pos (a:=b) (b:=d) ∅;have C:=Mth.Jdq b d;have r:=Mth.JcM b d;have v:Mth.Sz 4000 (Mth.g b d):=Nat.lt_of_le_of_lt (by have:=Mth.g_le (a:=b) (b:=d) ∅;ac_nf:(Mth.g b d).natAbs<=d.natAbs) o;have m:DivOk (Mth.g b d):=divOk ∅ v;have z:=N.fdiv C ∅;have R:=o.fdiv r ∅;refine ixF0 j (ixF1 e ?_);try infer_instance
 refine ⟨m,mulOk M R,ixF0 e (ixF1 j ?_)⟩;try infer_instance
 refine ⟨m,mulOk W z,?_⟩;refine ⟨_,_,rfl,?_⟩;have l:=Mth.Jjm O V G B (s:=Mth.g b d) rfl rfl rfl;generalize ht:a*d.fdiv (Mth.g b d)+c*b.fdiv (Mth.g b d)=t at l ⊢;have Y:=Mth.g_pos (a:=t) (b:=Mth.g b d) ∅;have U:=Mth.JcM t (Mth.g b d);have I:Mth.Sz 4000 (Mth.g t (Mth.g b d)):=Nat.lt_of_le_of_lt (by have:=Mth.g_le (a:=t) (b:=Mth.g b d) ∅;ac_nf:(Mth.g t (Mth.g b d)).natAbs<=(Mth.g b d).natAbs) v;have u:DivOk (Mth.g t (Mth.g b d)):=divOk ∅ I;try infer_instance
 refine ⟨u,ixF1 j ?_⟩;try infer_instance
 refine ⟨m,ixF1 e ?_⟩;try infer_instance
 refine ⟨u,mulOk z (o.fdiv (Int.dvd_trans U r) ∅),len2,?_⟩;refine JfH fun p L S D=>k p L S ?_;rw [D,l.1,l.2]
abbrev BbG:Stmt:=top 10
theorem Jih:Jan ["one","other"] ["one","other"] (Jac BbG):=by bv_decide
def JcT (K:W.Frag):Sp:=fun vs H Q E=>∃ (x y:V) (a b c d:Int),vs=[x,y]/\FrV K H x a b/\FrV K H y c d/\Mth.Sz 4000 a/\Mth.Sz 4000 b/\Mth.Sz 4000 c/\Mth.Sz 4000 d/\1<=b/\1<=d/\Mth.g a b=1/\Mth.g c d=1/\∀ p H',Same H H'->H' p=some (.tup [.int (Mth.top (a*d-c*b) (b*d)), .int (Mth.bot (a*d-c*b) (b*d))])->Q (.ref p) H'
theorem Jh8 (F:FunD K "minus" "minus" BbG dV f fd) (T:Txt K mg Ad) (BbE:Cal P w K mg base 2 "plus" ["one","other"] [] (JdL K)):FnOk P w K mg base (CX1 P w) 3 f fd ["one","other"] (JcT K):=by
 refine F.okn Jih (by subst_eqs) (fun L A e s H q Q E j h=>?_)
 obtain ⟨x,y,a,b,c,d,rfl,h⟩:=h;refine ⟨_,(Jag (Jam (BbE.ev j ⋯ rfl passF (Jaa (pv 0) (Jaa (JaU (Jaa (pe_un Jfu (pe_ix ix_U (pv 1) Jae (fun _ _=>rfl))) (Jaa (pe_ix ix_U (pv 1) Jae (fun _ _=>rfl)) Jad))) Jad)) (he:=by exact Jah rfl)))),?_⟩;obtain ⟨B,g,r,u,G,v,z,D,o,i,k⟩:=h;show tRet _ _ [some x,some y] H;try infer_instance
 refine ixF0 g ?_;try infer_instance
 refine ixF1 g ?_;try infer_instance
 refine ⟨len2,?_⟩;rename_i p C I H M S m;refine ⟨_,_,a,b, -c,d,rfl,B.same S,FrV.of m,r,u,G.neg,v,z,D,o,by rw [Mth.g_neg];exact i,fun t n J l=>k t n (S.trans J) ?_⟩;rw [l,Int.neg_mul, <- Int.sub_eq_add_neg]
abbrev BbH:Stmt:=top 11
theorem Jii:Jan ["one","other"] ["one","other"] (Jac BbH):=by bv_decide
def JeQ (K:W.Frag):Sp:=fun vs H Q E=>∃ (x y:V) (a b c d:Int),vs=[x,y]/\FrV K H x a b/\FrV K H y c d/\Mth.Sz 4000 a/\Mth.Sz 4000 b/\Mth.Sz 4000 c/\Mth.Sz 4000 d/\Q (.bl (decide (a*d<c*b))) H
theorem Jh9 (F:FunD K "under" "under" BbH dV f fd) (T:Txt K mg Ad)  : FnOk P w K mg base (CX1 P w) 1 f fd ["one","other"] (JeQ K):=by
 refine F.okn Jii (by subst_eqs) (fun p A e s H j Q E q h=>?_)
 obtain ⟨x,y,a,b,c,d,rfl,h⟩:=h;refine ⟨_,(Jag (Jam (Jbs Jfg (pe_op JaT (pe_ix ix_U (pv 0) Jae (fun _ _=>rfl)) (pe_ix ix_U (pv 1) Jae (fun _ _=>rfl))) (pe_op JaT (pe_ix ix_U (pv 1) Jae (fun _ _=>rfl)) (pe_ix ix_U (pv 0) Jae (fun _ _=>rfl))) (Jau _)))),?_⟩;obtain ⟨i,g,l,m,o,n,k⟩:=h;show tRet _ _ [some x,some y] H;try infer_instance
 refine ixF0 i (ixF1 g ?_);try infer_instance
 refine ⟨mulOk l n,ixF0 g (ixF1 i ?_)⟩;try infer_instance
 exact ⟨mulOk o m,k⟩
abbrev Bbh:Stmt:=top 17
theorem JgF:Jan ["thing"] ["thing"] (Jac Bbh):=by bv_decide
def Jcy (K:W.Frag):Sp:=fun vs H Q E=>∃ (x:V) (d:D),vs=[x]/\Rep K H d x/\szD d/\∀ H',Same H H'->Q (.bl (nameB d)) H'
theorem JgB (F:FunD K "is_name" "is_name" Bbh dV f fd) (T:Txt K mg Ad)  : FnOk P w K mg base (CX1 P w) 1 f fd ["thing"] (Jcy K):=by
 refine F.okn JgF (by subst_eqs) (fun I A g s H B Q E J h=>?_)
 obtain ⟨x,d,rfl,h⟩:=h;refine ⟨_,(Jab (ps_if (JbO (Jbd (Jat JaB rfl T.Bav JaO (Jaa (pv 0) (Jaa (JcD (v:=.ty "str") rfl T.Bck JjC rfl) Jad)))))
   (Jag (Jam pe_bl))
   Jap)
   (Jab (ps_if (PW.pt (pw_or (Jar Jfg (Jat JaH rfl T.BbB JbA (Jaa (pv 0) Jad)) Jae (Jau _)) (Jb4 (Jar Jhs (Jat JaH rfl T.BbB JbA (Jaa (pv 0) Jad)) (Jc2 (v:=.int 8) rfl T.BbM T.BbN) (Jau _)))))
   (Jag (Jam pe_bl))
   Jap)
   (Jag (Jam (Jat (JgO rfl) rfl T.Bci Jjz (Jaa (JeG (own:=["sign"]) (cs:=[]) (cl:=[]) rfl (Jj4 (pv 0)) (fun _ _ _ _=>(Jas (i:=0) (show [("sign" : Str)].Nodup by decide) rfl (Or.inl rfl))) (fun _ _ _ _=>(Jbs (JjX (K:=K) rfl) (pv 0) (Jc2 (v:=.str "abcdefghijklmnopqrstuvwxyz") rfl T.BbJ T.BbK) (by with_unfolding_all rfl))) rfl ⋯ rfl ⋯ hcl0 (hhas0 ⋯) hcs0) Jad)))))),?_⟩
 obtain ⟨l,q,k⟩:=h;show tSeq _ _ _ [some x] H;try infer_instance
 refine ⟨_,l.tyN,?_⟩;by_cases a:∃ z,d=.str z
 ·obtain ⟨z,rfl⟩:=a;simp only [Rep] at l;subst l;simp only [szD] at q;simpa only [tyD];have u:z.length<=sizeLine:=Nat.le_trans q ⋯;simp only [nameB,nameS] at k;refine ⟨u,?_⟩;try infer_instance
  by_cases O:z.length<1
  ·rw [if_pos (by simp;ac_nf)];have e:decide (1<=z.length)=false:=by simp;ac_nf
   rw [e] at k;exact k H (.refl H)
  ·rw [if_neg (by simp;ac_nf)];have e:decide (1<=z.length)=true:=by simp;ac_nf
   rw [e] at k;refine ⟨u,?_⟩;try infer_instance
   by_cases R:8<z.length
   ·rw [if_pos (by simp;ac_nf)];have e:decide (z.length<=8)=false:=by simp;ac_nf
    rw [e] at k;exact k H (.refl H)
   ·rw [if_neg (by simp;ac_nf)];have e:decide (z.length<=8)=true:=by simp;ac_nf
    rw [e] at k;try infer_instance
    simpa only [tComp,iStr];refine ⟨fun i m t b=>b=H/\i<=z.cps.size/\m=z.cps.size-i/\t=(z.cps.toList.take i).map fun c=>V.bl (lowB c),⟨_,rfl,Nat.zero_le _,rfl,by simp⟩,?_⟩;rintro i m t b ⟨rfl,N,rfl,rfl⟩;have M:z.cps.size=z.length:=rfl;refine ⟨by simp;ac_nf,?_⟩;by_cases n:i<z.cps.size
    ·refine .inr ⟨n,?_⟩;rintro x r ⟨rfl,c,G,rfl⟩;simpa only [length_singleton,List.replicate,JaW,map_nil,y5fy,Jgu];refine ⟨_,Nat.sub_lt_sub_left n (Nat.lt_succ_self i),n,rfl,?_⟩;have j:z.cps.toList[i]?=some c:=by simpa using G
     rw [take_succ,j];simp
    ·have o:i=z.cps.size:=by ac_nf
     refine .inl ⟨o,?_⟩;subst o;rw [take_of_length_le (by simp)];rename_i p L U b r S C;refine ⟨p,z.cps.toList.map lowB,rfl,SqL.of (by rw [C,map_map];rfl),?_⟩;have:=k r S;simpa [List.all_map] using this
 ·have y:nameB d=false:=by cases d <;> first | rfl | exact absurd ⟨_,rfl⟩ a
  rw [y] at k;have D:isiB (tyD d) "str"=false:=by cases d <;> first | rfl | exact absurd ⟨_,rfl⟩ a
  simpa only [D];exact k H (.refl H)
abbrev Ba1:Stmt:=top 18
theorem JfV:Jan ["thing"] ["thing"] (Jac Ba1):=by bv_decide
def JcK (K:W.Frag):Sp:=fun vs H Q E=>∃ (x:V) (d:D),vs=[x]/\Rep K H d x/\Q (.bl (Jc9 d)) H
theorem JfL (F:FunD K "is_whole" "is_whole" Ba1 dV f fd) (T:Txt K mg Ad)  : FnOk P w K mg base (CX1 P w) 1 f fd ["thing"] (JcK K):=by
 refine F.okn JfV (by subst_eqs) (fun g A b s H e Q E i h=>?_)
 obtain ⟨x,d,rfl,h⟩:=h;refine ⟨_,(Jag (Jam (Jc6 (Jat JaB rfl T.Bav JaO (Jaa (pv 0) (Jaa (JcD (v:=.ty "int") rfl T.Bcj JjA rfl) Jad))) (Jc7 (Jhx (Jat JaB rfl T.Bav JaO (Jaa (pv 0) (Jaa (JcD (v:=.ty "bool") rfl T.Bch JiN rfl) Jad)))))))),?_⟩;obtain ⟨c,k⟩:=h;show tRet _ _ [some x] H;try infer_instance
 refine ⟨_,c.tyN,?_⟩;have a:=c.tyN;cases d <;> simp only [tyD,Jc9,y85y,y4fy,y50y,y51y,y74y,y2by,y6fy,y82y,y83y,y47y,y2ey,y7by,y95y,y30y,y3cy,y75y,y2fy,y8by,y23y,y29y,y7cy,y77y,y2ay,y7dy,y79y,y5dy,y97y,y26y,y89y,y73y,y6cy,y4cy,y6by,y80y,y33y,y4ay,y71y,y4by,y72y,y49y,y70y,y90y,y67y,y63y,y92y,y94y,y91y,y93y,y25y,y6ay,y24y,true_and,if_true,if_false,Bool.not_true,Bool.not_false,Bool.false_eq_true,yby,ydy,yay,ycy,yey,y15y,y17y,y14y,y16y,y18y,y6y,y8y,y5y,y7y,y9y,y1y,y3y,y0y,y2y,y4y,y10y,y12y,yfy,y11y,y13y,y1ay,y1cy,y19y,y1by,y1dy,y1fy,y21y,y1ey,y20y,y22y,y87y,y7fy,y76y,y31y,y32y,y57y,y65y,y66y,y4ey,y88y,y8ey,y98y,y81y,y27y,V.int.injEq,V.str.injEq,List.set_cons_zero,List.set_cons_succ,List.getElem?_cons_zero,List.getElem?_cons_succ,Option.some.injEq,exists_eq_left,exists_eq_left',V.bl.injEq,Int.reduceToNat,Int.reducePow,append_nil,nil_append,cons_append,y59y,y5by,y2cy,y2dy,y6dy,y62y,y78y,y68y,y69y,y3dy,y3ey,y3fy,y46y,y48y,y41y,y7ey,y43y,y42y,y34y,y36y,y3ay,y40y,y44y,y54y,y56y,y5ey,y38y,y8dy,y8ay,y37y,y9ay,y52y,y53y,y96y,y45y,reduceCtorEq,decide_false,decide_true] at k a ⊢ <;> first | exact k | exact ⟨_,a,by simpa only [y85y,y4fy,y50y,y51y,y74y,y2by,y6fy,y82y,y83y,y47y,y2ey,y7by,y95y,y30y,y3cy,y75y,y2fy,y8by,y23y,y29y,y7cy,y77y,y2ay,y7dy,y79y,y5dy,y97y,y26y,y89y,y73y,y6cy,y4cy,y6by,y80y,y33y,y4ay,y71y,y4by,y72y,y49y,y70y,y90y,y67y,y63y,y92y,y94y,y91y,y93y,y25y,y6ay,y24y,true_and,if_true,if_false,Bool.not_true,Bool.not_false,Bool.false_eq_true,yby,ydy,yay,ycy,yey,y15y,y17y,y14y,y16y,y18y,y6y,y8y,y5y,y7y,y9y,y1y,y3y,y0y,y2y,y4y,y10y,y12y,yfy,y11y,y13y,y1ay,y1cy,y19y,y1by,y1dy,y1fy,y21y,y1ey,y20y,y22y,y87y,y7fy,y76y,y31y,y32y,y57y,y65y,y66y,y4ey,y88y,y8ey,y98y,y81y,y27y,V.int.injEq,V.str.injEq,List.set_cons_zero,List.set_cons_succ,List.getElem?_cons_zero,List.getElem?_cons_succ,Option.some.injEq,exists_eq_left,exists_eq_left',V.bl.injEq,Int.reduceToNat,Int.reducePow,append_nil,nil_append,cons_append,y59y,y5by,y2cy,y2dy,y6dy,y62y,y78y,y68y,y69y,y3dy,y3ey,y3fy,y46y,y48y,y41y,y7ey,y43y,y42y,y34y,y36y,y3ay,y40y,y44y,y54y,y56y,y5ey,y38y,y8dy,y8ay,y37y,y9ay,y52y,y53y,y96y,y45y,reduceCtorEq,decide_false,decide_true] using k⟩
abbrev Bax:Stmt:=top 19
theorem JdX:Jan ["thing"] ["thing"] (Jac Bax):=by bv_decide
def JbX (K:W.Frag):Sp:=fun vs H Q E=>∃ (x:V) (d:D),vs=[x]/\Rep K H d x/\Q (.bl (fracB d)) H
theorem JdR (F:FunD K "is_fraction" "is_fraction" Bax dV f fd) (T:Txt K mg Ad) (Bbx:Cal P w K mg base 1 "is_whole" ["thing"] [] (JcK K)) (Bac:Cal P w K mg base 1 "common_divisor" ["one","other"] [] (JaG)):FnOk P w K mg base (CX1 P w) 2 f fd ["thing"] (JbX K):=by
 refine F.okn JdX (by subst_eqs) (fun J A p s H B Q E b h=>?_)
 obtain ⟨x,d,rfl,h⟩:=h;have u:=b.units;refine ⟨_,(Jab (ps_if (PW.pt (pw_or (JbO (Jbd (Jat JaB rfl T.Bav JaO (Jaa (pv 0) (Jaa (JcD (v:=.ty "tuple") rfl T.Bb1 Jen rfl) Jad))))) (Jb4 (Jar (Jck u) (Jat JaH rfl T.BbB JbA (Jaa (pv 0) Jad)) Jae (Jau _)))))
   (Jag (Jam pe_bl))
   Jap)
   (Jab (ps_if (PW.pt (pw_or (JbO (Jbd (Bbx.ev b ⋯ rfl passF (Jaa (pe_ix ix_U (pv 0) Jae (fun _ _=>rfl)) Jad) (he:=by exact Jah rfl)))) (Jb4 (JbO (Jbd (Bbx.ev b ⋯ rfl passF (Jaa (pe_ix ix_U (pv 0) Jae (fun _ _=>rfl)) Jad) (he:=by exact Jah rfl)))))))
   (Jag (Jam pe_bl))
   Jap)
   (Jag (Jam (Jc6 (Jbs JjW (pe_ix ix_U (pv 0) Jae (fun _ _=>rfl)) Jae (Jau _)) (Jc7 (Jbs (JcP u) (Bac.ev b ⋯ rfl passF (Jaa (pe_ix ix_U (pv 0) Jae (fun _ _=>rfl)) (Jaa (pe_ix ix_U (pv 0) Jae (fun _ _=>rfl)) Jad)) (he:=by exact Jah rfl)) Jae (Jau _)))))))),?_⟩
 clear u;obtain ⟨t,k⟩:=h;show tSeq _ _ _ [some x] H;try infer_instance
 refine ⟨_,t.tyN,?_⟩;by_cases y:∃ m,d=.tup m
 ·obtain ⟨m,rfl⟩:=y;simpa only [tyD];simp only [Rep] at t;obtain ⟨a,D,rfl,l,b⟩:=t;have M:=b.length;refine ⟨D, .inr l,?_⟩;try infer_instance
  by_cases z:m.length=2
  ·match m,z with
   | [d0,d1],_=>
    simp only [RepL] at b;obtain ⟨I,N,rfl,n,C,L,rfl,o,rfl⟩:=b;simpa only [length_cons,length_nil];rw [if_neg (by simp)];try infer_instance
    refine ixT0 l ?_;refine ⟨I,d0,rfl,n,?_⟩;try infer_instance
    by_cases r:Jc9 d0=true
    ·rw [if_neg (by simp [r])];refine ixT1 l ?_;refine ⟨C,d1,rfl,o,?_⟩;try infer_instance
     by_cases q:Jc9 d1=true
     ·rw [if_neg (by simp [q])];obtain ⟨i,rfl⟩:∃ i,d0=.int i:=by cases d0 <;> simp [Jc9] at r;exact ⟨_,rfl⟩
      obtain ⟨j,rfl⟩:∃ j,d1=.int j:=by cases d1 <;> simp [Jc9] at q;exact ⟨_,rfl⟩
      simp only [Rep] at n o;subst n o;simp only [fracB] at k;try infer_instance
      refine ixT1 l ?_;try infer_instance
      by_cases c:1<=j
      ·rw [if_pos (by simpa using c)];refine ixT0 l (ixT1 l ?_);refine ⟨_,_,rfl,?_⟩;try infer_instance
       simpa [c] using k
      ·rw [if_neg (by simpa using c)];simpa [c] using k
     ·rw [if_pos (by simp [q])];try infer_instance
      have g:fracB (.tup [d0,d1])=false:=by cases d0 <;> cases d1 <;> simp_all [fracB,Jc9]
      rw [g] at k;exact k
    ·rw [if_pos (by simp [r])];try infer_instance
     have g:fracB (.tup [d0,d1])=false:=by cases d0 <;> cases d1 <;> simp_all [fracB,Jc9]
     rw [g] at k;exact k
  ·rw [if_pos (by simp;ac_nf)];have g:fracB (.tup m)=false:=by
    unfold fracB;split
    ·rename_i e;cases e;simp at z
    ·rfl
   rw [g] at k;exact k
 ·have g:fracB d=false:=by cases d <;> first | rfl | exact absurd ⟨_,rfl⟩ y
  rw [g] at k;have G:isiB (tyD d) "tuple"=false:=by cases d <;> first | rfl | exact absurd ⟨_,rfl⟩ y
  simpa only [G];exact k
abbrev Ba2:Stmt:=top 20
theorem JfU:Jan ["thing"] ["thing"] (Jac Ba2):=by bv_decide
def JcJ (K:W.Frag):Sp:=fun vs H Q E=>∃ (x:V) (d:D),vs=[x]/\Rep K H d x/\Q (.bl (Jci d)) H
theorem JfK (F:FunD K "is_bound" "is_bound" Ba2 dV f fd) (T:Txt K mg Ad) (Bbj:Cal P w K mg base 2 "is_fraction" ["thing"] [] (JbX K)):FnOk P w K mg base (CX1 P w) 3 f fd ["thing"] (JcJ K):=by
 refine F.okn JfU (by subst_eqs) (fun l A c s H g Q E i h=>?_)
 obtain ⟨x,d,rfl,h⟩:=h;refine ⟨_,(Jag (Jam (pe_or (Jbs Jbj (pv 0) JaM (Jau _)) (Jc7 (Bbj.ev i ⋯ rfl passF (Jaa (pv 0) Jad) (he:=by exact Jah rfl)))))),?_⟩;obtain ⟨a,k⟩:=h;show tRet _ _ [some x] H;try infer_instance
 by_cases b:d=.non
 ·subst b;simp only [Rep] at a;subst a;simpa only [decide_true];exact k
 ·have e:x≠.non:=by
   rintro rfl;cases d <;> simp [Rep] at a
   exact b rfl
  rw [if_neg (by simpa using e)];have j:Jci d=fracB d:=by cases d <;> first | rfl | exact absurd rfl b
  rw [j] at k;exact ⟨x,d,rfl,a,k⟩
abbrev BaO:Stmt:=top 21
theorem Jfn:Jan ["one","other"] ["one","other"] (Jac BaO):=by bv_decide
def Jcq (K:W.Frag):Sp:=fun vs H Q E=>∃ (x y:V) (d e:D),vs=[x,y]/\Rep K H d x/\Rep K H e y/\szD d/\szD e/\∀ H',Same H H'->Q (.bl (Jd9 d e)) H'
theorem Jfa (F:FunD K "are_faces" "are_faces" BaO dV f fd) (T:Txt K mg Ad) (Ba9:Cal P w K mg base 1 "is_name" ["thing"] [] (Jcy K)):FnOk P w K mg base (CX1 P w) 2 f fd ["one","other"] (Jcq K):=by
 refine F.okn Jfn (by subst_eqs) (fun B A j s H t Q E g h=>?_)
 obtain ⟨x,y,d,e,rfl,h⟩:=h;have p:=g.units;refine ⟨_,(Jag (Jam (Jc6 (Ba9.ev g ⋯ rfl passF (Jaa (pv 0) Jad) (he:=by exact Jah rfl)) (Jc6 (Ba9.ev g ⋯ rfl passF (Jaa (pv 1) Jad) (he:=by exact Jah rfl)) (Jc7 (Jbs (Jck p) (pv 0) (pv 1) (Jau _))))))),?_⟩;clear p;obtain ⟨o,m,v,r,k⟩:=h;show tRet _ _ [some x,some y] H;try infer_instance
 refine ⟨x,d,rfl,o,v,fun u c=>?_⟩;try infer_instance
 unfold Jd9 at k;by_cases a:nameB d=true
 ·rw [if_pos a];refine ⟨y,e,rfl,m.same c,r,fun n q=>?_⟩;try infer_instance
  by_cases b:nameB e=true
  ·rw [if_pos b];obtain ⟨z,rfl,_⟩:=Jef a;obtain ⟨C,rfl,_⟩:=Jef b;have l:=o.str;have i:=m.str;subst l i;try infer_instance
   have:=k n (c.trans q);rw [a,b] at this;simpa [eqD,BEq.beq] using this
  ·rw [if_neg b];have:=k n (c.trans q);have i:nameB e=false:=by simpa using b
   rw [a,i] at this;exact this
 ·rw [if_neg a];have:=k u c;have l:nameB d=false:=by simpa using a
  rw [l] at this;exact this
abbrev BaH:Stmt:=top 22
theorem JeM:Jan ["least","greatest"] ["least","greatest"] (Jac BaH):=by bv_decide
def Jb8 (K:W.Frag):Sp:=fun vs H Q E=>∃ (x y:V) (d e:D),vs=[x,y]/\Rep K H d x/\Rep K H e y/\szD d/\szD e/\Q (.bl (Jdk d e)) H
theorem JeC (F:FunD K "are_bounds" "are_bounds" BaH dV f fd) (T:Txt K mg Ad) (Bby:Cal P w K mg base 3 "is_bound" ["thing"] [] (JcJ K)) (Bb2:Cal P w K mg base 1 "under" ["one","other"] [] (JeQ K)):FnOk P w K mg base (CX1 P w) 4 f fd ["least","greatest"] (Jb8 K):=by
 refine F.okn JeM (by subst_eqs) (fun D A o s H u Q E l h=>?_)
 obtain ⟨x,y,d,e,rfl,h⟩:=h;refine ⟨_,(Jab (ps_if (PW.pt (pw_or (JbO (Jbd (Bby.ev l ⋯ rfl passF (Jaa (pv 0) Jad) (he:=by exact Jah rfl)))) (Jb4 (JbO (Jbd (Bby.ev l ⋯ rfl passF (Jaa (pv 1) Jad) (he:=by exact Jah rfl)))))))
   (Jag (Jam pe_bl))
   Jap)
   (Jab (ps_if (PW.pt (pw_or (Jar Jbj (pv 0) JaM (Jau _)) (Jb4 (Jar Jbj (pv 1) JaM (Jau _)))))
   (Jag (Jam pe_bl))
   Jap)
   (Jag (Jam (Jhx (Bb2.ev l ⋯ rfl passF (Jaa (pv 1) (Jaa (pv 0) Jad)) (he:=by exact Jah rfl))))))),?_⟩
 obtain ⟨q,n,p,m,k⟩:=h;show tSeq _ _ _ [some x,some y] H;try infer_instance
 unfold Jdk at k;refine ⟨x,d,rfl,q,?_⟩;try infer_instance
 by_cases c:Jci d=true
 ·rw [if_neg (by simp [c])];refine ⟨y,e,rfl,n,?_⟩;try infer_instance
  by_cases g:Jci e=true
  ·rw [if_neg (by simp [g])];simpa only [q.nonV,n.nonV];rw [c,g] at k;by_cases i:d=.non
   ·rw [if_pos (by simp [i,nonD])];try infer_instance
    have : lessD e d=false:=by subst i;unfold lessD;split <;> first | rfl | simp_all
    rw [this] at k;exact k
   ·rw [if_neg (by simp [Jhm i])];by_cases j:e=.non
    ·rw [if_pos (by simp [j,nonD])];try infer_instance
     have : lessD e d=false:=by subst j;rfl
     rw [this] at k;exact k
    ·rw [if_neg (by simp [Jhm j])];try infer_instance
     have z:fracB d=true:=by cases d <;> first | exact c | exact absurd rfl i
     have C:fracB e=true:=by cases e <;> first | exact g | exact absurd rfl j
     obtain ⟨a,b,rfl,_,_⟩:=Jb2 z;obtain ⟨B,r,rfl,_,_⟩:=Jb2 C;simp only [szD,szL] at p m;refine ⟨y,x,B,r,a,b,rfl,FrV.of_rep n,FrV.of_rep q,m.1,m.2.1,p.1,p.2.1,?_⟩;try infer_instance
     simpa [lessD] using k
  ·rw [if_pos (by simp [g])];try infer_instance
   have t:Jci e=false:=by simpa using g
   rw [c,t] at k;exact k
 ·rw [if_pos (by simp [c])];try infer_instance
  have v:Jci d=false:=by simpa using c
  rw [v] at k;exact k
abbrev Bbz:Stmt:=top 23
theorem JhE:Jan ["thing"] ["thing"] (Jac Bbz):=by bv_decide
def JdK (K:W.Frag):Sp:=fun vs H Q E=>∃ (x:V) (d:D),vs=[x]/\Rep K H d x/\szD d/\∀ H',Same H H'->Q (.bl (tieB d)) H'
theorem Jhq (F:FunD K "is_tie" "is_tie" Bbz dV f fd) (T:Txt K mg Ad) (Ba9:Cal P w K mg base 1 "is_name" ["thing"] [] (Jcy K)) (BbC:Cal P w K mg base 2 "are_faces" ["one","other"] [] (Jcq K)) (Bbu:Cal P w K mg base 4 "are_bounds" ["least","greatest"] [] (Jb8 K)):FnOk P w K mg base (CX1 P w) 5 f fd ["thing"] (JdK K):=by
 refine F.okn JhE (by subst_eqs) (fun a0 A p s H N Q E c h=>?_)
 obtain ⟨x,d,rfl,h⟩:=h;have z:=c.units;refine ⟨_,(Jab (ps_if (PW.pt (pw_or (JbO (Jbd (Jat JaB rfl T.Bav JaO (Jaa (pv 0) (Jaa (JcD (v:=.ty "tuple") rfl T.Bb1 Jen rfl) Jad))))) (Jb4 (Jar (Jck z) (Jat JaH rfl T.BbB JbA (Jaa (pv 0) Jad)) Jae (Jau _)))))
   (Jag (Jam pe_bl))
   Jap)
   (Jag (Jam (Jc6 (Ba9.ev c ⋯ rfl passF (Jaa (pe_ix ix_U (pv 0) Jae (fun _ _=>rfl)) Jad) (he:=by exact Jah rfl)) (Jc6 (BbC.ev c ⋯ rfl passF (Jaa (pe_ix ix_U (pv 0) Jae (fun _ _=>rfl)) (Jaa (pe_ix ix_U (pv 0) Jae (fun _ _=>rfl)) Jad)) (he:=by exact Jah rfl)) (Jc7 (Bbu.ev c ⋯ rfl passF (Jaa (pe_ix ix_U (pv 0) Jae (fun _ _=>rfl)) (Jaa (pe_ix ix_U (pv 0) Jae (fun _ _=>rfl)) Jad)) (he:=by exact Jah rfl)))))))),?_⟩
 clear z;obtain ⟨q,t,k⟩:=h;show tSeq _ _ _ [some x] H;try infer_instance
 refine ⟨_,q.tyN,?_⟩;by_cases r:∃ l,d=.tup l
 ·obtain ⟨l,rfl⟩:=r;simpa only [tyD];simp only [Rep] at q;obtain ⟨a,W,rfl,g,c⟩:=q;have hl:=c.length;refine ⟨W, .inr g,?_⟩;try infer_instance
  by_cases y:l.length=5
  ·match l,y with
   | [d0,d1,d2,d3,d4],_=>
    simp only [RepL] at c;obtain ⟨Z,r0,rfl,D,R,r1,rfl,G,C,r2,rfl,h2,M,r3,rfl,U,v4,r4,rfl,S,rfl⟩:=c;simp only [szD,szL] at t;obtain ⟨X,L,J,s3,I,_⟩:=t;simp only [tieB] at k;simpa only [length_cons,length_nil];rw [if_neg (by simp)];try infer_instance
    refine ixT (i:=0) g rfl ?_;refine ⟨Z,d0,rfl,D,X,fun O j=>?_⟩;try infer_instance
    by_cases m:nameB d0=true
    ·rw [if_pos m];rw [m] at k;refine ixT (i:=1) (g.same j) rfl ?_;refine ixT (i:=2) (g.same j) rfl ?_;refine ⟨R,C,d1,d2,rfl,G.same j,h2.same j,L,J,fun u S2=>?_⟩;try infer_instance
     have b:=j.trans S2;by_cases n:Jd9 d1 d2=true
     ·rw [if_pos n];rw [n] at k;refine ixT (i:=3) (g.same b) rfl ?_;refine ixT (i:=4) (g.same b) rfl ?_;exact ⟨M,v4,d3,d4,rfl,U.same b,S.same b,s3,I,k u b⟩
     ·rw [if_neg n];have V:Jd9 d1 d2=false:=by simpa using n
      rw [V] at k;exact k u b
    ·rw [if_neg m];have B:nameB d0=false:=by simpa using m
     rw [B] at k;exact k O j
  ·rw [if_pos (by simp;ac_nf)];have o:tieB (.tup l)=false:=by
    unfold tieB;split
    ·rename_i e;cases e;simp at y
    ·rfl
   rw [o] at k;try infer_instance
   exact k H (.refl H)
 ·have o:tieB d=false:=by cases d <;> first | rfl | exact absurd ⟨_,rfl⟩ r
  rw [o] at k;have Y:isiB (tyD d) "tuple"=false:=by cases d <;> first | rfl | exact absurd ⟨_,rfl⟩ r
  simpa only [Y];exact k H (.refl H)
abbrev Baq:Stmt:=inClass (top 24) 0
theorem JdH:Jan ["self","row"] ["self","row"] (Jac Baq):=by bv_decide
def Jax (K:W.Frag):Sp:=fun vs H Q E=>∃ (x C dx a:Addr) (n st en l g:V),vs=[.ref x, .ref a]/\H x=some (.ins C dx [])/\TieC K C/\SqT K H a [n,st,en,l,g]/\∀ H',H' x=some (.ins C dx (tieF n st en l g))->(∀ b,b≠x->H' b=H b)->Q .non H'
theorem Jdz (F:FunD K "__init__" "Tie.__init__" Baq dV f fd) (T:Txt K mg Ad)  : FnOk P w K mg base (CX1 P w) 1 f fd ["self","row"] (Jax K):=by
 refine F.okn JdH (by subst_eqs) (fun S A u s H I Q E U h=>?_)
 obtain ⟨x,C,d,a,n,j,p,l,g,rfl,h⟩:=h;refine ⟨_,(Jab (JbN (pv 0) (pe_ix ix_U (pv 1) Jae (fun _ _=>rfl)) rfl)
   (Jab (JbN (pv 0) (pe_ix ix_U (pv 1) Jae (fun _ _=>rfl)) rfl)
   (Jab (JbN (pv 0) (pe_ix ix_U (pv 1) Jae (fun _ _=>rfl)) rfl)
   (Jab (JbN (pv 0) (pe_ix ix_U (pv 1) Jae (fun _ _=>rfl)) rfl)
   (Jag (JbN (pv 0) (pe_ix ix_U (pv 1) Jae (fun _ _=>rfl)) rfl)))))),?_⟩
 obtain ⟨y,e,t,k⟩:=h;show tSeq _ _ _ [some (.ref x),some (.ref a)] H;try ac_rfl
 refine ixT (i:=0) t rfl ?_;try ac_rfl
 refine ⟨x,C,d,_,rfl,y,e.cls,e.n1,by simp,?_⟩;have r:=SqT.put (fs':=putF "name" n []) y t;generalize u1:upd H x _=H1 at r ⊢;have D:H1 x=some (.ins C d [("name",n)]):=by rw [<- u1];exact Jaq.trans rfl
 have J:∀ b,b≠x->H1 b=H b:=fun b c=>by rw [<- u1,Jai c]
 try ac_rfl
 refine ixT (i:=1) r rfl ?_;try ac_rfl
 refine ⟨x,C,d,_,rfl,D,e.cls,e.n2,by simp,?_⟩;have o:=SqT.put (fs':=putF "start" j [("name",n)]) D r;generalize u2:upd H1 x _=H2 at o ⊢;have z:H2 x=some (.ins C d [("name",n),("start",j)]):=by rw [<- u2];exact Jaq.trans rfl
 have R:∀ b,b≠x->H2 b=H1 b:=fun b c=>by rw [<- u2,Jai c]
 try ac_rfl
 refine ixT (i:=2) o rfl ?_;try ac_rfl
 refine ⟨x,C,d,_,rfl,z,e.cls,e.n3,by simp,?_⟩;have q:=SqT.put (fs':=putF "end" p [("name",n),("start",j)]) z o;generalize u3:upd H2 x _=H3 at q ⊢;have G:H3 x=some (.ins C d [("name",n),("start",j),("end",p)]):=by rw [<- u3];exact Jaq.trans rfl
 have N:∀ b,b≠x->H3 b=H2 b:=fun b c=>by rw [<- u3,Jai c]
 try ac_rfl
 refine ixT (i:=3) q rfl ?_;try ac_rfl
 refine ⟨x,C,d,_,rfl,G,e.cls,e.n4,by simp,?_⟩;have m:=SqT.put (fs':=putF "least" l [("name",n),("start",j),("end",p)]) G q;generalize u4:upd H3 x _=H4 at m ⊢;have B:H4 x=some (.ins C d [("name",n),("start",j),("end",p),("least",l)]):=by rw [<- u4];exact Jaq.trans rfl
 have O:∀ b,b≠x->H4 b=H3 b:=fun b c=>by rw [<- u4,Jai c]
 try ac_rfl
 refine ixT (i:=4) m rfl ?_;try ac_rfl
 refine ⟨x,C,d,_,rfl,B,e.cls,e.n5,by simp,?_⟩;have v:=SqT.put (fs':=putF "greatest" g [("name",n),("start",j),("end",p),("least",l)]) B m;generalize u5:upd H4 x _=H5 at v ⊢;have L:H5 x=some (.ins C d [("name",n),("start",j),("end",p),("least",l),("greatest",g)]):=by rw [<- u5];exact Jaq.trans rfl
 have M:∀ b,b≠x->H5 b=H4 b:=fun b c=>by rw [<- u5,Jai c]
 try ac_rfl
 exact k H5 L fun b c=>by rw [M b c,O b c,N b c,R b c,J b c]
abbrev BaP:Stmt:=inClass (top 24) 1
theorem Jfm:Jan ["self"] ["self"] (Jac BaP):=by bv_decide
def Jco (K:W.Frag) (Ad:Adr):Sp:=fun vs H Q E=>∃ (v:V) (C:Addr) (n st en l g:V),vs=[v]/\TieV H v C n st en l g/\IsTie Ad C/\∀ p H',Same H H'->H' p=some (.tup [n,st,en,l,g])->Q (.ref p) H'
theorem Je8 (F:FunD K "plain" "Tie.plain" BaP dV f fd) (T:Txt K mg Ad)  : FnOk P w K mg base (CX1 P w) 1 f fd ["self"] (Jco K Ad):=by
 refine F.okn Jfm (by subst_eqs) (fun u A d s H m Q E x h=>?_)
 obtain ⟨v,C,n,j,i,l,g,rfl,h⟩:=h;refine ⟨_,(Jag (Jam (JaU (Jaa (Jav (pv 0) rfl) (Jaa (Jav (pv 0) rfl) (Jaa (Jav (pv 0) rfl) (Jaa (Jav (pv 0) rfl) (Jaa (Jav (pv 0) rfl) Jad)))))))),?_⟩;obtain ⟨r,t,k⟩:=h;obtain ⟨p,b,rfl,c⟩:=r;have a:=T.tie C t;show tRet _ _ [some (.ref p)] H;contradiction;refine ⟨p,C,b,_,n,rfl,c,a.cls,a.n1,rfl,?_⟩;refine ⟨p,C,b,_,j,rfl,c,a.cls,a.n2,rfl,?_⟩;refine ⟨p,C,b,_,i,rfl,c,a.cls,a.n3,rfl,?_⟩;refine ⟨p,C,b,_,l,rfl,c,a.cls,a.n4,rfl,?_⟩;refine ⟨p,C,b,_,g,rfl,c,a.cls,a.n5,rfl,?_⟩;try infer_instance
 refine ⟨len5,?_⟩;exact JfH fun q o S e=>k q o S e
abbrev BbA:Stmt:=top 30
theorem JdJ:Jan ["thing","least","greatest"] ["thing"] (Jac BbA):=by bv_decide
def JdM (K:W.Frag) (Ad:Adr):Sp:=fun vs H Q E=>∃ (x:V) (d:D),vs=[x]/\Rep K H d x/\szD d/\(tieB d=false->∀ H',Same H H'->E (.ref Ad.NoTie) none H')/\(tieB d=true->∃ (a:Addr) (n s e l g:D) (vn vs ve vl vg:V),x=.ref a/\SqT K H a [vn,vs,ve,vl,vg]/\d=.tup [n,s,e,l,g]/\Rep K H l vl/\Rep K H g vg/\∀ v H',Same H H'->TieV H' v (kindC Ad l g) vn vs ve vl vg->Q v H')
theorem Jhr (F:FunD K "tie_of" "tie_of" BbA dV f fd) (T:Txt K mg Ad) (BbQ:Cal P w K mg base 5 "is_tie" ["thing"] [] (JdK K)) (k_Free:KCal P w K mg base 1 "Free" Ad.Free ["self","row"] (Jax K)) (k_AtLeast:KCal P w K mg base 1 "AtLeast" Ad.AtLeast ["self","row"] (Jax K)) (k_AtMost:KCal P w K mg base 1 "AtMost" Ad.AtMost ["self","row"] (Jax K)) (k_Just:KCal P w K mg base 1 "Just" Ad.Just ["self","row"] (Jax K)) (k_Between:KCal P w K mg base 1 "Between" Ad.Between ["self","row"] (Jax K)):FnOk P w K mg base (CX1 P w) 6 f fd ["thing"] (JdM K Ad):=by
 refine F.okx JdJ (fun C H Q E h=>?_) (fun a0 A W s H C Q E z h=>?_)
 ·obtain ⟨x,d,rfl,_⟩:=h;rfl
 obtain ⟨x,d,rfl,h⟩:=h;have X:=z.units;refine ⟨_,(Jab (ps_if (JbO (Jbd (BbQ.ev z ⋯ rfl pass1 (Jaa (pv 0) Jad) (he:=by exact Jah rfl))))
   (Jag (Jie PySem.F.excBase_ValueError T.x_NoTie rfl T.m_NoTie (Jaa JdE Jad)))
   Jap)
   (Jab (Jaj (i:=1) JdJ.nd rfl (Or.inl rfl) (pe_ix ix_U (pv 0) Jae (fun _ _=>rfl)))
   (Jab (Jaj (i:=2) JdJ.nd rfl (Or.inl rfl) (pe_ix ix_U (pv 0) Jae (fun _ _=>rfl)))
   (Jab (ps_if (PW.pt (JdG (Jar Jbj (pv 1) JaM (Jau _)) (JcE (Jar Jbj (pv 2) JaM (Jau _)))))
   (Jag (Jam (k_Free.ev z ⋯ rfl pass1 (Jaa (pv 0) Jad))))
   Jap)
   (Jab (ps_if (Jar Jbj (pv 2) JaM (Jau _))
   (Jag (Jam (k_AtLeast.ev z ⋯ rfl pass1 (Jaa (pv 0) Jad))))
   Jap)
   (Jab (ps_if (Jar Jbj (pv 1) JaM (Jau _))
   (Jag (Jam (k_AtMost.ev z ⋯ rfl pass1 (Jaa (pv 0) Jad))))
   Jap)
   (Jab (ps_if (Jar (JcP X) (pv 1) (pv 2) (Jau _))
   (Jag (Jam (k_Just.ev z ⋯ rfl pass1 (Jaa (pv 0) Jad))))
   Jap)
   (Jag (Jam (k_Between.ev z ⋯ rfl pass1 (Jaa (pv 0) Jad))))))))))),?_⟩
 clear X;obtain ⟨k,Y,k1,D⟩:=h;show tSeq _ _ _ [some x,none,none] H;try infer_instance
 refine ⟨x,d,rfl,k,Y,fun Z p=>?_⟩;try infer_instance
 by_cases c:tieB d=true
 ·rw [if_neg (by simp [c])];try infer_instance
  obtain ⟨a,n,s,e,l,g,N,C,U,vl,S,rfl,B,rfl,R,O,D⟩:=D c;refine ixT (i:=3) (B.same p) rfl ?_;try infer_instance
  refine ixT (i:=4) (B.same p) rfl ?_;simpa only [R.nonV,O.nonV];by_cases G:nonD l=true
  ·by_cases y:nonD g=true
   ·simpa only [G,y];try infer_instance
    intro x r k j V;refine ⟨x,_,r,a,N,C,U,vl,S,rfl,Jaq,T.tie _ ?_,?_,fun v e o=>⟨rfl,D _ v ?_ ⟨x,r,rfl,?_⟩⟩⟩
    ·exact .inl rfl
    ·exact (B.same p).same fun b u q=>by rw [Jai (Jaf q k),Jai (Jaf q j)];exact q
    ·exact p.trans fun b u q=>by rw [o b (Jaf q k),Jai (Jaf q k),Jai (Jaf q j)];exact q
    ·rw [e,show kindC Ad l g=Ad.Free from by simp [kindC,G,y]]
   ·have m:nonD g=false:=by simpa using y
    simpa only [G,m];try simpa only [R.nonV,O.nonV,G,m]
    try infer_instance
    intro x r k j V;refine ⟨x,_,r,a,N,C,U,vl,S,rfl,Jaq,T.tie _ ?_,?_,fun v e o=>⟨rfl,D _ v ?_ ⟨x,r,rfl,?_⟩⟩⟩
    ·exact .inr (.inr (.inl rfl))
    ·exact (B.same p).same fun b u q=>by rw [Jai (Jaf q k),Jai (Jaf q j)];exact q
    ·exact p.trans fun b u q=>by rw [o b (Jaf q k),Jai (Jaf q k),Jai (Jaf q j)];exact q
    ·rw [e,show kindC Ad l g=Ad.AtMost from by simp [kindC,G,m]]
  ·have t:nonD l=false:=by simpa using G
   by_cases y:nonD g=true
   ·simpa only [t,y];try simpa only [R.nonV,O.nonV,t,y]
    try infer_instance
    intro x r k j V;refine ⟨x,_,r,a,N,C,U,vl,S,rfl,Jaq,T.tie _ ?_,?_,fun v e o=>⟨rfl,D _ v ?_ ⟨x,r,rfl,?_⟩⟩⟩
    ·exact .inr (.inl rfl)
    ·exact (B.same p).same fun b u q=>by rw [Jai (Jaf q k),Jai (Jaf q j)];exact q
    ·exact p.trans fun b u q=>by rw [o b (Jaf q k),Jai (Jaf q k),Jai (Jaf q j)];exact q
    ·rw [e,show kindC Ad l g=Ad.AtLeast from by simp [kindC,t,y]]
   ·have m:nonD g=false:=by simpa using y
    simpa only [t,m];try simpa only [R.nonV,O.nonV,t,m]
    simp only [tieB,Jdk,Bool.and_eq_true] at c;have f1:fracB l=true:=by have:=c.2.1.1;cases l <;> first | exact this | (simp [nonD] at t)
    have f2:fracB g=true:=by have:=c.2.1.2;cases g <;> first | exact this | (simp [nonD] at m)
    obtain ⟨I,M,rfl,_,_⟩:=Jb2 f1;obtain ⟨J,L,rfl,_,_⟩:=Jb2 f2;have g3:=(FrV.of_rep R).same p;have g4:=(FrV.of_rep O).same p;refine eqF g3 g4 ?_;have ee:eqD (.tup [.int I, .int M]) (.tup [.int J, .int L])=(decide (I=J)&&decide (M=L)):=by
     simp only [eqD,eqL,Bool.and_true]
     congr 1 <;> simp [BEq.beq]
    try infer_instance
    rw [<- ee];by_cases q:eqD (.tup [.int I, .int M]) (.tup [.int J, .int L])=true
    ·rw [if_pos q];try infer_instance
     intro x r k j V;refine ⟨x,_,r,a,N,C,U,vl,S,rfl,Jaq,T.tie _ ?_,?_,fun v e o=>⟨rfl,D _ v ?_ ⟨x,r,rfl,?_⟩⟩⟩
     ·exact .inr (.inr (.inr (.inl rfl)))
     ·exact (B.same p).same fun b u q=>by rw [Jai (Jaf q k),Jai (Jaf q j)];exact q
     ·exact p.trans fun b u q=>by rw [o b (Jaf q k),Jai (Jaf q k),Jai (Jaf q j)];exact q
     ·rw [e,show kindC Ad (.tup [.int I, .int M]) (.tup [.int J, .int L])=Ad.Just from by simp [kindC,nonD,q]]
    ·rw [if_neg q];have q':eqD (.tup [.int I, .int M]) (.tup [.int J, .int L])=false:=by simpa using q
     try infer_instance
     intro x r k j V;refine ⟨x,_,r,a,N,C,U,vl,S,rfl,Jaq,T.tie _ ?_,?_,fun v e o=>⟨rfl,D _ v ?_ ⟨x,r,rfl,?_⟩⟩⟩
     ·exact .inr (.inr (.inr (.inr rfl)))
     ·exact (B.same p).same fun b u q=>by rw [Jai (Jaf q k),Jai (Jaf q j)];exact q
     ·exact p.trans fun b u q=>by rw [o b (Jaf q k),Jai (Jaf q k),Jai (Jaf q j)];exact q
     ·rw [e,show kindC Ad (.tup [.int I, .int M]) (.tup [.int J, .int L])=Ad.Between from by simp [kindC,nonD,q']]
 ·rw [if_pos (by simp [c])];try infer_instance
  exact ⟨by show 1<=sizeLine;decide,k1 (by simpa using c) Z p⟩
abbrev BaQ:Stmt:=inClass (top 24) 3
theorem Jc8:Jan ["self","told"] ["self"] (Jac BaQ):=by bv_decide
def Jcp (K:W.Frag) (Ad:Adr):Sp:=fun vs H Q E=>∃ (v:V) (C:Addr) (n st en l g:V) (ds de dl dg:D),vs=[v]/\TieV H v C n st en l g/\IsTie Ad C/\Rep K H ds st/\Rep K H de en/\Bnd K H dl l/\Bnd K H dg g/\∀ p xs H',H p=none->Same H H'->H' p=some (.lst xs)->RepL K H' (JdN ds de dl dg) xs->Q (.ref p) H'
theorem Je9 (F:FunD K "steps" "Tie.steps" BaQ dV f fd) (T:Txt K mg Ad) (Bbk:Cal P w K mg base 3 "minus" ["one","other"] [] (JcT K)):FnOk P w K mg base (CX1 P w) 4 f fd ["self"] (Jcp K Ad):=by
 refine F.okn Jc8 (by subst_eqs) (fun a5 A a1 s H vs Q E hr h=>?_)
 obtain ⟨v,C,n,V,X,l,g,ds,de,S,dg,rfl,h⟩:=h;refine ⟨_,(Jab (Jaj (i:=1) Jc8.nd rfl (Or.inl rfl) (JbL Jad))
   (Jab (ps_if (Jar JbK (Jav (pv 0) rfl) JaM (Jau _))
   (Jag (Jbh (pe_bm PySem.F.plainAttrs_list PySem.F.slot_list_append PySem.F.type_list_append Jbf (pv 1) (Jaa (JaU (Jaa (Jav (pv 0) rfl) (Jaa (Jav (pv 0) rfl) (Jaa (Jav (pv 0) rfl) (Jaa pe_bl Jad))))) Jad) (hs:=by exact Jah rfl))))
   Jap)
   (Jab (ps_if (Jar JbK (Jav (pv 0) rfl) JaM (Jau _))
   (Jag (Jbh (pe_bm PySem.F.plainAttrs_list PySem.F.slot_list_append PySem.F.type_list_append Jbf (pv 1) (Jaa (JaU (Jaa (Jav (pv 0) rfl) (Jaa (Jav (pv 0) rfl) (Jaa (Bbk.ev hr ⋯ rfl passF (Jaa (Jc2 (v:=.ref _) rfl T.Bb7 T.Bb8) (Jaa (Jav (pv 0) rfl) Jad)) (he:=by exact Jah rfl)) (Jaa pe_bl Jad))))) Jad) (hs:=by exact Jah rfl))))
   Jap)
   (Jag (Jam (pv 1)))))),?_⟩
 obtain ⟨hv,hC,hs,he,O,hg,k⟩:=h;obtain ⟨p,r,rfl,o⟩:=hv;have a:=T.tie C hC;show tSeq _ _ _ [some (.ref p),none] H;try contradiction
 refine ⟨len0,?_⟩;rename_i t e a3 H H1 d I;refine ⟨p,C,r,_,g,rfl,d _ _ o,a.cls,a.n5,rfl,?_⟩;try simpa only [y4dy,(hg.same d).rep.nonV]
 by_cases W:nonD dg=true
 ·rw [W];try contradiction
  by_cases M:nonD S=true
  ·refine ⟨p,C,r,_,l,rfl,d _ _ o,a.cls,a.n4,rfl,?_⟩;try simpa only [y4dy,(O.same d).rep.nonV,M]
   refine k t _ H1 e d I ?_;simp only [JdN,W,M,if_true,append_nil,RepL]
  ·have j:nonD S=false:=by simpa using M
   refine ⟨p,C,r,_,l,rfl,d _ _ o,a.cls,a.n4,rfl,?_⟩;try simpa only [y4dy,(O.same d).rep.nonV,j]
   refine ⟨.inl ⟨rfl,_,SqL.of I⟩,?_⟩;refine ⟨p,C,r,_,X,rfl,d _ _ o,a.cls,a.n3,rfl,?_⟩;refine ⟨p,C,r,_,V,rfl,d _ _ o,a.cls,a.n2,rfl,?_⟩;try contradiction
   refine ⟨p,C,r,_,l,rfl,d _ _ o,a.cls,a.n4,rfl,?_⟩;try contradiction
   obtain ⟨la,lb,rfl,L,c,fl,s1,s2⟩:=(O.same d).frac j;refine ⟨.ref Ad.ZERO,l,0,1,la,lb,rfl,⟨_,rfl,T.Bb0 _⟩,fl, .lit ⋯ ⋯, .lit ⋯ ⋯,s1,s2,by decide,L,by decide,c,fun m Y B R=>?_⟩;rw [(Jex L c).1,(Jex L c).2] at R;try contradiction
   refine ⟨len4,?_⟩;rename_i w Z a0 Y H5 y e5;refine ⟨t,_,_,rfl,rfl,y _ _ (B _ _ I),by first | (show 0<sizeLine;decide) | (show 1<sizeLine;decide),?_⟩;generalize D:upd H5 t _=U;have e6:=putE D;have m6:=putN D (y _ _ (B _ _ I)) (y _ _ R) (by intro z;cases z);have w6:=putN D (y _ _ (B _ _ I)) e5 (by intro z;cases z);have G:Same H U:=fun b u q=>by rw [<- D,Jai (Jaf q e)];exact y _ _ (B _ _ (d _ _ q))
   refine k t _ U e G e6 ?_;simp only [JdN,W,j,if_true,Bool.false_eq_true,if_false,nil_append,RepL,Rep,negD];exact ⟨_,_,rfl,⟨w,_,rfl,SqT.of w6,_,_,rfl,he.same G,_,_,rfl,hs.same G,_,_,rfl,⟨m,_,rfl,SqT.of m6,_,_,rfl,rfl,_,_,rfl,rfl,rfl⟩,_,_,rfl,rfl,rfl⟩,rfl⟩
 ·have J:nonD dg=false:=by simpa using W
  rw [J];try contradiction
  refine ⟨.inl ⟨rfl,_,SqL.of I⟩,?_⟩;refine ⟨p,C,r,_,V,rfl,d _ _ o,a.cls,a.n2,rfl,?_⟩;refine ⟨p,C,r,_,X,rfl,d _ _ o,a.cls,a.n3,rfl,?_⟩;refine ⟨p,C,r,_,g,rfl,d _ _ o,a.cls,a.n5,rfl,?_⟩;try contradiction
  refine ⟨len4,?_⟩;rename_i f a2 a4 H1 H2 S2 e2;refine ⟨t,_,_,rfl,rfl,S2 _ _ I,by show 0<sizeLine;decide,?_⟩;generalize u3:upd H2 t _=H3;have N:=putE u3;have f3:=putN u3 (S2 _ _ I) e2 (by intro z;cases z);have x:Same H H3:=fun b u q=>by rw [<- u3,Jai (Jaf q e)];exact S2 _ _ (d _ _ q)
  try contradiction
  by_cases M:nonD S=true
  ·refine ⟨p,C,r,_,l,rfl,x _ _ o,a.cls,a.n4,rfl,?_⟩;try simpa only [y4dy,(O.same x).rep.nonV,M]
   refine k t _ H3 e x N ?_;simp only [JdN,J,M,if_true,Bool.false_eq_true,if_false,append_nil,nil_append,RepL,Rep];exact ⟨_,_,rfl,⟨f,_,rfl,SqT.of f3,_,_,rfl,hs.same x,_,_,rfl,he.same x,_,_,rfl,(hg.same x).rep,_,_,rfl,rfl,rfl⟩,rfl⟩
  ·have j:nonD S=false:=by simpa using M
   refine ⟨p,C,r,_,l,rfl,x _ _ o,a.cls,a.n4,rfl,?_⟩;try simpa only [y4dy,(O.same x).rep.nonV,j]
   refine ⟨.inl ⟨rfl,_,SqL.of N⟩,?_⟩;refine ⟨p,C,r,_,X,rfl,x _ _ o,a.cls,a.n3,rfl,?_⟩;refine ⟨p,C,r,_,V,rfl,x _ _ o,a.cls,a.n2,rfl,?_⟩;try contradiction
   refine ⟨p,C,r,_,l,rfl,x _ _ o,a.cls,a.n4,rfl,?_⟩;try contradiction
   obtain ⟨la,lb,rfl,L,c,fl,s1,s2⟩:=(O.same x).frac j;refine ⟨.ref Ad.ZERO,l,0,1,la,lb,rfl,⟨_,rfl,T.Bb0 _⟩,fl, .lit ⋯ ⋯, .lit ⋯ ⋯,s1,s2,by decide,L,by decide,c,fun m Y B R=>?_⟩;rw [(Jex L c).1,(Jex L c).2] at R;try contradiction
   refine ⟨len4,?_⟩;rename_i w Z a0 Y H5 y e5;refine ⟨t,_,_,rfl,rfl,y _ _ (B _ _ N),by first | (show 0<sizeLine;decide) | (show 1<sizeLine;decide),?_⟩;generalize D:upd H5 t _=U;have e6:=putE D;have m6:=putN D (y _ _ (B _ _ N)) (y _ _ R) (by intro z;cases z);have w6:=putN D (y _ _ (B _ _ N)) e5 (by intro z;cases z);have G:Same H U:=fun b u q=>by rw [<- D,Jai (Jaf q e)];exact y _ _ (B _ _ (x _ _ q))
   have f6:=putN D (y _ _ (B _ _ N)) (y _ _ (B _ _ f3)) (by intro z;cases z);refine k t _ U e G e6 ?_;simp only [JdN,J,j,Bool.false_eq_true,if_false,nil_append,cons_append,RepL,Rep,negD];exact ⟨_,_,rfl,⟨f,_,rfl,SqT.of f6,_,_,rfl,hs.same G,_,_,rfl,he.same G,_,_,rfl,(hg.same G).rep,_,_,rfl,rfl,rfl⟩,_,_,rfl,⟨w,_,rfl,SqT.of w6,_,_,rfl,he.same G,_,_,rfl,hs.same G,_,_,rfl,⟨m,_,rfl,SqT.of m6,_,_,rfl,rfl,_,_,rfl,rfl,rfl⟩,_,_,rfl,rfl,rfl⟩,rfl⟩
abbrev Bai:Stmt:=inClass (top 12) 0
theorem Jbk:Jan ["self","numbers","number","factor"] ["self","numbers"] (Jac Bai):=by bv_decide
def Jbl (K:W.Frag) (Ad:Adr):Sp:=fun vs H Q E=>∃ (x dx a:Addr) (xs:List V) (ns:List Fr2),vs=[.ref x, .ref a]/\H x=some (.ins Ad.Scale dx [])/\H a=some (.lst xs)/\All2 (FLV K H) ns xs/\ns.length<=70/\(∀ n∈ns,1<=n.2/\Mth.Sz 40 n.2)/\∀ b fs fl H',H' x=some (.ins Ad.Scale dx [("bottom", .int b),("factors", .ref fl)])->H fl=none->H' fl=some (.lst (fs.map V.int))->(∀ c u,c≠x->H c=some u->H' c=some u)->b=bF ns->(∀ n∈ns,n.2∣b)->Scl b fs->Mth.Sz 3000 b->fs.length<=70->Q .non H'
theorem Jc0 (F:FunD K "__init__" "Scale.__init__" Bai dV f fd) (T:Txt K mg Ad) (Bac:Cal P w K mg base 1 "common_divisor" ["one","other"] [] (JaG)):FnOk P w K mg base (CX1 P w) 2 f fd ["self","numbers"] (Jbl K Ad):=by
 refine F.okn Jbk (by subst_eqs) (fun a5 A a2 s H vs Q E hr h=>?_)
 obtain ⟨x,o,a,xs,D,rfl,h⟩:=h;refine ⟨_,(Jab (JbN (pv 0) Jae rfl)
   (Jab (JbN (pv 0) (JbL Jad) rfl)
   (Jag (JaX PassesOwn.never rfl (pi_U (pv 1)) (Jas (i:=2) Jbk.nd rfl (Or.inl rfl))
   (Jab (Jaj (i:=3) Jbk.nd rfl (Or.inl rfl) (pe_op Jaw (pe_ix ix_U (pv 2) Jae (fun _ _=>rfl)) (Bac.ev hr ⋯ rfl passF (Jaa (Jav (pv 0) rfl) (Jaa (pe_ix ix_U (pv 2) Jae (fun _ _=>rfl)) Jad)) (he:=by exact Jah rfl))))
   (Jag (ps_if (Jar Jhs (pv 3) Jae (Jau _))
   (Jab (JbN (pv 0) (pe_op JaT (Jav (pv 0) rfl) (pv 3)) rfl)
   (Jag (Jbh (pe_bm PySem.F.plainAttrs_list PySem.F.slot_list_append PySem.F.type_list_append Jbf (Jav (pv 0) rfl) (Jaa (pv 3) Jad) (hs:=by exact Jah rfl)))))
   Jap))))))),?_⟩
 obtain ⟨e0,W,hN,hl,a3,k⟩:=h;have e:=T.BbP Ad.Scale rfl;have sl:(1000:Nat)<=sizeLine:=by decide
 have lx:=hN.length;show tSeq _ _ _ [some (.ref x),some (.ref a),none,none] H;symm_saturate;refine ⟨x,_,o,_,rfl,e0,e.cls,e.n1,by simp,?_⟩;generalize u1:upd H x _=H1;symm_saturate;have e1:H1 x=some (.ins Ad.Scale o [("bottom", .int 1)]):=by rw [<- u1];exact Jaq.trans rfl
 have o1:∀ b,b≠x->H1 b=H b:=fun b hb=>by rw [<- u1,Jai hb]
 symm_saturate;refine ⟨len0,?_⟩;rename_i d l a4 H1 H2 S2 e2;symm_saturate;symm_saturate;refine ⟨x,_,o,_,rfl,S2 _ _ e1,e.cls,e.n2,by simp,?_⟩;generalize u3:upd H2 x _=H3;symm_saturate;have e3:H3 x=some (.ins Ad.Scale o [("bottom", .int 1),("factors", .ref d)]):=by rw [<- u3];exact Jaq.trans rfl
 have nx:d≠x:=fun z=>by rw [z,e1] at l;cases l
 have f3:H3 d=some (.lst []):=by rw [<- u3,Jai nx];exact e2
 have o3:∀ c u,c≠x->H c=some u->H3 c=some u:=fun c u S h=>by rw [<- u3,Jai S];exact S2 _ _ (by rw [o1 c S];exact h)
 have v:H d=none:=by rw [<- o1 d nx];exact l
 have N:a≠x:=fun z=>by rw [z,e0] at W;cases W
 have a1:SameT H H3:=(SameT.put u1 e0 rfl).trans (S2.t.trans (SameT.put u3 (S2 _ _ e1) rfl));symm_saturate;refine ⟨a,rfl,ForA.byL (xs:=xs) (SqL.of (o3 _ _ N W)) (fun i σ O=>i<=xs.length/\∃ (v2 v3:Option V) (b:Int) (r:List Int),σ=[some (.ref x),some (.ref a),v2,v3]/\O x=some (.ins Ad.Scale o [("bottom", .int b),("factors", .ref d)])/\O d=some (.lst (r.map V.int))/\(∀ c u,c≠x->H c=some u->O c=some u)/\SameT H O/\b=bF (D.take i)/\(∀ m∈D.take i,m.2∣b)/\Scl b r/\Mth.Sz (1+40*i) b/\r.length<=i) ⟨Nat.zero_le _,none,none,1,[],rfl,e3,f3,o3,a1,rfl,(fun m B=>by simp at B),Scl.nil, .lit ⋯ ⋯,Nat.le_refl _⟩ (fun i σ O q=>by obtain ⟨_,_,_,_,_,_,_,_,q,_⟩:=q;exact SqL.of (q _ _ N W)) ?_ ?_⟩
 ·rintro i y σ M hy ⟨hi,v2,v3,b,r,rfl,I,hf,ho,X,p,j,hs,L,lf⟩;have li:=(List.getElem?_eq_some_iff.mp hy).1;obtain ⟨n,hn,Y⟩:=hN.at_ hy;have Y:FrV K M y n.1 n.2:=FrV.sameT X Y;have G:=a3 n (List.mem_of_getElem? hn);have R:∀ m∈D.take (i+1),m∈D.take i\/m=n:=fun m B=>by
   rw [take_succ,hn] at B;simpa using B
  have L:Mth.Sz 3000 b:=L.mono ∅;have gp:=Mth.g_pos (a:=b) (b:=n.2) ∅;have gd:=Mth.JcM b n.2;have C:n.2∣b*n.2.fdiv (Mth.g b n.2):=JiT ∅;have J:b*n.2.fdiv (Mth.g b n.2)=bF (D.take (i+1)):=by
   rw [take_succ,hn];show _=bF (D.take i++[n]);rw [JiL, <- p]
  have gl:=Mth.g_le (a:=b) (b:=n.2) ∅;have d1:DivOk (Mth.g b n.2):=divOk (n:=40) ∅ (Nat.lt_of_le_of_lt (by ac_nf:(Mth.g b n.2).natAbs<=n.2.natAbs) G.2);have f1:=Mth.Jdg gd ∅ G.1;have sf:Mth.Sz 40 (n.2.fdiv (Mth.g b n.2)):=G.2.fdiv gd ∅;symm_saturate;refine ixF1 Y ?_;refine ⟨x,_,o,_, .int b,rfl,I,e.cls,e.n1,rfl,?_⟩;refine ixF1 Y ?_;symm_saturate;refine ⟨_,_,rfl,?_⟩;symm_saturate;refine ⟨d1,?_⟩;generalize n.2.fdiv (Mth.g b n.2)=f at *;symm_saturate;by_cases c:1<f
  ·rw [if_pos (by simpa using c)];symm_saturate;try simpa only [y4dy,y86y]
   refine ⟨x,_,o,_, .int b,rfl,I,e.cls,e.n1,rfl,?_⟩;try simpa only [y4dy,y86y]
   refine ⟨mulOk L sf,?_⟩;refine ⟨x,_,o,_,rfl,I,e.cls,e.n1,by simp,?_⟩;generalize u5:upd M x _=U;symm_saturate;have e5:U x=some (.ins Ad.Scale o [("bottom", .int (b*f)),("factors", .ref d)]):=by rw [<- u5];exact Jaq.trans rfl
   have f5:U d=some (.lst (r.map V.int)):=by rw [<- u5,Jai nx];exact hf
   have T5:SameT M U:=SameT.put u5 I rfl;try simpa only [y4dy,y86y]
   refine ⟨x,_,o,_, .ref d,rfl,e5,e.cls,e.n2,rfl,?_⟩;refine ⟨.inl ⟨rfl,_,SqL.of f5⟩,?_⟩;symm_saturate;refine ⟨d,_,_,rfl,rfl,f5,by rw [length_map];ac_nf,?_⟩;generalize Z:upd U d _=H6;symm_saturate;have f6:=putE Z;have T6:SameT U H6:=SameT.put Z f5 rfl;symm_saturate;refine ⟨li,_,_,b*f,r++[f],rfl,by rw [<- Z,Jai (Ne.symm nx)];exact e5,by rw [f6];simp,fun c u S h=>by rw [<- Z,Jai (Jaf h v), <- u5,Jai S];exact ho c u S h,X.trans (T5.trans T6),J,(fun m B=>(R m B).elim (fun h=>Int.dvd_trans (j m h) (Int.dvd_mul_right ..)) fun h=>h ▸ C),hs.snoc ∅,?_,by simp;ac_nf⟩;have:=(show Mth.Sz (1+40*i) b by assumption).mul sf;exact this.mono ∅
  ·rw [if_neg (by simpa using c)];symm_saturate;symm_saturate;have a0:f=1:=by ac_nf
   rw [a0,Int.mul_one] at C J;exact ⟨li,_,_,b,r,rfl,I,hf,ho,X,J,(fun m B=>(R m B).elim (j m) fun h=>h ▸ C),hs,(show Mth.Sz (1+40*i) b by assumption).mono ∅,by ac_nf⟩
 ·rintro σ M ⟨hi,v2,v3,b,r,rfl,I,hf,ho,X,p,j,hs,L,lf⟩;symm_saturate;rw [take_of_length_le ∅] at j p;exact k b r d M I v hf ho p j hs (L.mono ∅) ∅
abbrev Bar:Stmt:=inClass (top 12) 1
theorem JaJ:Jan ["self","number","top","rest","factor","shared"] ["self","number"] (Jac Bar):=by bv_decide
def JbC (K:W.Frag) (Ad:Adr):Sp:=fun vs H Q E=>∃ (x:Addr) (v:V) (n:Fr2) (b:Int) (fs:List Int),vs=[.ref x,v]/\SCK Ad H x b fs/\FrV K H v n.1 n.2/\FB 400 40 n/\n.2∣b/\∀ p H',Same H H'->H' p=some (.tup [.int (n.1*b.fdiv n.2), .int 1])->Q (.ref p) H'
theorem Jdy (F:FunD K "lifted" "Scale.lifted" Bar dV f fd) (T:Txt K mg Ad) (Bac:Cal P w K mg base 1 "common_divisor" ["one","other"] [] (JaG)):FnOk P w K mg base (CX1 P w) 2 f fd ["self","number"] (JbC K Ad):=by
 refine F.okn JaJ (by subst_eqs) (fun L A g s H z Q E l h=>?_)
 obtain ⟨x,v,n,b,u,rfl,h⟩:=h;have q:=l.units;refine ⟨_,(Jab (ps_if (Jar (JcP q) (pe_op JaC (Jav (pv 0) rfl) (pe_ix ix_U (pv 1) Jae (fun _ _=>rfl))) Jae (Jau _))
   (Jag (Jam (JaU (Jaa (pe_op JaT (pe_ix ix_U (pv 1) Jae (fun _ _=>rfl)) (pe_op Jaw (Jav (pv 0) rfl) (pe_ix ix_U (pv 1) Jae (fun _ _=>rfl)))) (Jaa Jae Jad)))))
   Jap)
   (Jab (Jaj (i:=2) JaJ.nd rfl (Or.inl rfl) (pe_ix ix_U (pv 1) Jae (fun _ _=>rfl)))
   (Jab (Jaj (i:=3) JaJ.nd rfl (Or.inl rfl) (pe_ix ix_U (pv 1) Jae (fun _ _=>rfl)))
   (Jab (JaX PassesOwn.never rfl (pi_U (Jav (pv 0) rfl)) (Jas (i:=4) JaJ.nd rfl (Or.inl rfl))
   (Jab (Jaj (i:=5) JaJ.nd rfl (Or.inl rfl) (Bac.ev l ⋯ rfl passF (Jaa (pv 3) (Jaa (pv 4) Jad)) (he:=by exact Jah rfl)))
   (Jab (Jaj (i:=2) JaJ.nd rfl (Or.inl rfl) (pe_op JaT (pv 2) (pe_op Jaw (pv 4) (pv 5))))
   (Jag (Jaj (i:=3) JaJ.nd rfl (Or.inl rfl) (pe_op Jaw (pv 3) (pv 5)))))))
   (Jag (Jam (JaU (Jaa (pv 2) (Jaa (pv 3) Jad))))))))),?_⟩
 clear q;obtain ⟨⟨j,O,o,N,M,D,r⟩,e,d,m,k⟩:=h;have a:=T.BbP Ad.Scale rfl;have t:=d.b1;have y:DivOk n.2:=divOk (n:=40) ∅ d.s2;have c:b.fmod n.2=0:=by
  rw [Int.fmod_eq_emod_of_nonneg _ ∅];exact Int.emod_eq_zero_of_dvd m
 show tSeq _ _ _ [some (.ref x),some v,none,none,none,none] H;and_intros;refine ⟨x,_,j,_, .int b,rfl,o,a.cls,a.n1,rfl,?_⟩;refine ixF1 e ?_;and_intros;refine ⟨by ac_nf,?_⟩;rw [if_pos (by simpa using c)];and_intros;and_intros;refine ixF0 e ?_;refine ⟨x,_,j,_, .int b,rfl,o,a.cls,a.n1,rfl,?_⟩;refine ixF1 e ?_;and_intros;refine ⟨y,mulOk d.s1 (D.fdiv m t),len2,?_⟩;rename_i p I J H B G C;and_intros;exact k p B G C
abbrev Bam:Stmt:=inClass (top 34) 0
theorem Jde:Jan ["self","name","row","scale"] ["self","name","row","scale"] (Jac Bam):=by bv_decide
def Jbx (K:W.Frag) (Ad:Adr):Sp:=fun vs H Q E=>∃ (x dx sc r:Addr) (nm vs_ vt vc:V) (b:Int) (fs:List Int) (n:Fr2) (w:V),vs=[.ref x,nm, .ref r, .ref sc]/\H x=some (.ins Ad.Step dx [])/\SqT K H r [vs_,vt,vc,w]/\FrV K H vc n.1 n.2/\FB 400 40 n/\n.2∣b/\SCK Ad H sc b fs/\∀ pr H',(∀ c u,c≠x->H c=some u->H' c=some u)->H' pr=some (.tup [nm,w])->H' x=some (.ins Ad.Step dx [("source",vs_),("target",vt),("cost",vc),("whole", .int (n.1*b.fdiv n.2)),("pair", .ref pr)])->Q .non H'
theorem Jdd (F:FunD K "__init__" "Step.__init__" Bam dV f fd) (T:Txt K mg Ad) (BbR:MCal P w K mg base 2 "lifted" (Jfx Ad) ["self","number"] (JbC K Ad)):FnOk P w K mg base (CX1 P w) 3 f fd ["self","name","row","scale"] (Jbx K Ad):=by
 refine F.okn Jde (by subst_eqs) (fun a4 A V s H vs Q E hr h=>?_)
 obtain ⟨x,g,v,r,nm,a,C,G,b,fs,n,w,rfl,h⟩:=h;refine ⟨_,(Jab (JbN (pv 0) (pe_ix ix_U (pv 2) Jae (fun _ _=>rfl)) rfl)
   (Jab (JbN (pv 0) (pe_ix ix_U (pv 2) Jae (fun _ _=>rfl)) rfl)
   (Jab (JbN (pv 0) (pe_ix ix_U (pv 2) Jae (fun _ _=>rfl)) rfl)
   (Jab (JbN (pv 0) (pe_ix ix_U (BbR.m hr ⋯ passF (pv 3) (Jaa (pe_ix ix_U (pv 2) Jae (fun _ _=>rfl)) Jad)) Jae (fun _ _=>rfl)) rfl)
   (Jag (JbN (pv 0) (JaU (Jaa (pv 1) (Jaa (pe_ix ix_U (pv 2) Jae (fun _ _=>rfl)) Jad))) rfl)))))),?_⟩
 obtain ⟨M,e,fv,fb,dv,a0,k⟩:=h;have j:=T.c_Step Ad.Step rfl;have a3:=T.BbP Ad.Scale rfl;show tSeq _ _ _ [some (.ref x),some nm,some (.ref r),some (.ref v)] H;exfalso;refine ixT (i:=0) e rfl ?_;exfalso;refine ⟨x,_,g,_,rfl,M,j.cls,j.n1,by simp,?_⟩;generalize Z:upd H x _=J;exfalso;have e1:J x=some (.ins Ad.Step g [("source",a)]):=by rw [<- Z];exact Jaq.trans rfl
 have T1:SameT H J:=SameT.put Z M rfl;have o1:∀ c u,c≠x->H c=some u->J c=some u:=fun c u d h=>by rw [<- Z,Jai d];exact h
 exfalso;refine ixT (i:=1) (e.sameT T1) rfl ?_;exfalso;refine ⟨x,_,g,_,rfl,e1,j.cls,j.n2,by simp,?_⟩;generalize u2:upd J x _=I;exfalso;have e2:I x=some (.ins Ad.Step g [("source",a),("target",C)]):=by rw [<- u2];exact Jaq.trans rfl
 have T2:SameT H I:=T1.trans (SameT.put u2 e1 rfl);have o2:∀ c u,c≠x->H c=some u->I c=some u:=fun c u d h=>by rw [<- u2,Jai d];exact o1 c u d h
 exfalso;refine ixT (i:=2) (e.sameT T2) rfl ?_;exfalso;refine ⟨x,_,g,_,rfl,e2,j.cls,j.n3,by simp,?_⟩;generalize u3:upd I x _=O;exfalso;have e3:O x=some (.ins Ad.Step g [("source",a),("target",C),("cost",G)]):=by rw [<- u3];exact Jaq.trans rfl
 have S:SameT H O:=T2.trans (SameT.put u3 e2 rfl);have R:∀ c u,c≠x->H c=some u->O c=some u:=fun c u d h=>by rw [<- u3,Jai d];exact o2 c u d h
 obtain ⟨D,fl,l,q,a1⟩:=id a0;have y:v≠x:=fun z=>by rw [z,M] at l;simp at l
 have W:fl≠x:=fun z=>by rw [z,M] at q;cases q
 have B:SCK Ad O v b fs:=⟨D,fl,R _ _ y l,R _ _ W q,a1⟩;exfalso;refine ⟨v,_,D,_,rfl,R _ _ y l,rfl,rfl,?_⟩;refine ixT (i:=2) (e.sameT S) rfl ?_;exfalso;refine ⟨v,G,n,b,fs,rfl,B,FrV.sameT S fv,fb,dv,fun p H4 L e4=>?_⟩;exfalso;refine ixT (i:=0) (SqT.of e4) rfl ?_;exfalso;refine ⟨x,_,g,_,rfl,L _ _ e3,j.cls,j.n4,by simp,?_⟩;generalize X:upd H4 x _=N;exfalso;have e5:N x=some (.ins Ad.Step g [("source",a),("target",C),("cost",G),("whole", .int (n.1*b.fdiv n.2))]):=by rw [<- X];exact Jaq.trans rfl
 have T5:SameT H N:=S.trans (L.t.trans (SameT.put X (L _ _ e3) rfl));have o5:∀ c u,c≠x->H c=some u->N c=some u:=fun c u d h=>by rw [<- X,Jai d];exact L _ _ (R c u d h)
 exfalso;refine ixT (i:=3) (e.sameT T5) rfl ?_;exfalso;refine ⟨len2,?_⟩;rename_i pr o a2 N H6 S6 e6;exfalso;exfalso;refine ⟨x,_,g,_,rfl,S6 _ _ e5,j.cls,j.n5,by simp,?_⟩;generalize Y:upd H6 x _=H7;exfalso;have e7:H7 x=some (.ins Ad.Step g [("source",a),("target",C),("cost",G),("whole", .int (n.1*b.fdiv n.2)),("pair", .ref pr)]):=by rw [<- Y];exact Jaq.trans rfl
 have U:pr≠x:=fun z=>by rw [z,e5] at o;cases o
 exfalso;exact k pr H7 (fun c u d h=>by rw [<- Y,Jai d];exact S6 _ _ (o5 c u d h)) (by rw [<- Y,Jai U];exact e6) e7
abbrev Ba3:Stmt:=top 35
theorem Jb7:Jan ["ties","rows","tie","scale"] ["ties"] (Jac Ba3):=by bv_decide
def Jcb (K:W.Frag) (Ad:Adr):Sp:=fun vs H Q E=>∃ (a:Addr) (xs:List V) (ts:List TD),vs=[.ref a]/\SqL K H a xs/\All2 (OV K Ad H) ts xs/\(∀ t∈ts,TOk t)/\(∀ s∈Ch.all ts,FB 400 40 s.c)/\ts.length<=35/\∀ l ys (b:Int) H',Same H H'->H' l=some (.lst ys)->b=bF ((Ch.all ts).map (·.c))->1<=b->Mth.Sz 3000 b->(∀ s∈Ch.all ts,s.c.2∣b)->All2 (SOV K Ad b H') (Ch.all ts) ys->Q (.ref l) H'
theorem JfO (F:FunD K "steps_of" "steps_of" Ba3 dV f fd) (T:Txt K mg Ad) (m_steps:MCal P w K mg base 4 "steps" (IsTie Ad) ["self"] (Jcp K Ad)) (Bb3:KCal P w K mg base 2 "Scale" Ad.Scale ["self","numbers"] (Jbl K Ad)) (k_Step:KCal P w K mg base 3 "Step" Ad.Step ["self","name","row","scale"] (Jbx K Ad)):FnOk P w K mg base (CX1 P w) 6 f fd ["ties"] (Jcb K Ad):=by
 refine F.okn Jb7 (by subst_eqs) (fun d1 A b5 s H vs Q E hr h=>?_)
 obtain ⟨a,xs,l,rfl,h⟩:=h;refine ⟨_,(Jab (Jaj (i:=1) Jb7.nd rfl (Or.inl rfl) (JbL Jad))
   (Jab (JaX PassesOwn.never rfl (pi_U (pv 0)) (Jas (i:=2) Jb7.nd rfl (Or.inr rfl))
   (Jag (Jbh (pe_bm PySem.F.plainAttrs_list PySem.F.slot_list_extend PySem.F.type_list_extend Jhk (pv 1) (Jaa (Jgk (own:=["row"]) (cs:=[(2,"tie")]) rfl (pi_U (m_steps.m0 hr ⋯ passF (pv 2))) (fun _ _ _ _=>(Jas (i:=0) (show [("row" : Str),("tie" : Str)].Nodup by decide) rfl (Or.inl rfl))) (fun _ _ _ _=>(JaU (Jaa (Jji (K:=K) rfl (pv 1) rfl) (Jaa (pv 0) Jad)))) (Jiy rfl) ⋯ rfl ⋯
   (hcs1 rfl rfl rfl)) Jad)))))
   (Jab (Jaj (i:=3) Jb7.nd rfl (Or.inr rfl) (Bb3.ev hr ⋯ rfl passF (Jaa (JeG (own:=["name","row"]) (cs:=[]) (cl:=[]) rfl (pi_U (pv 1)) (fun _ _ _ _=>(Jhz (K:=K) (n:=2) rfl rfl (JaV (Jas (i:=0) (show [("name" : Str),("row" : Str)].Nodup by decide) rfl (Or.inl rfl) (hf:=Or.inr rfl)) (JaV (Jas (i:=1) (show [("name" : Str),("row" : Str)].Nodup by decide) rfl (Or.inl rfl) (hf:=Or.inr rfl)) JeI)))) (fun _ _ _ _=>(pe_ix (ix_UK (K:=K) rfl) (pv 1) Jae (fun _ _=>rfl))) rfl ⋯ rfl ⋯ hcl0 (hhas0 ⋯) hcs0) Jad)))
   (Jag (Jam (Jgk (own:=["name","row"]) (cs:=[(3,"scale")]) rfl (pi_U (pv 1)) (fun _ _ _ _=>(Jhz (K:=K) (n:=2) rfl rfl (JaV (Jas (i:=0) (show [("name" : Str),("row" : Str),("scale" : Str)].Nodup by decide) rfl (Or.inl rfl) (hf:=Or.inr rfl)) (JaV (Jas (i:=1) (show [("name" : Str),("row" : Str),("scale" : Str)].Nodup by decide) rfl (Or.inl rfl) (hf:=Or.inr rfl)) JeI)))) (fun _ _ _ _=>(k_Step.ev hr ⋯ rfl passF (Jaa (pv 0) (Jaa (pv 1) (Jaa (pv 2) Jad))))) (Jiy rfl) ⋯ rfl ⋯
   (hcs1 rfl rfl rfl))))))),?_⟩
 obtain ⟨hS,hR,hT,R,hl,k⟩:=h;have sl:(1000:Nat)<=sizeLine:=by decide
 have lR:=hR.length;have N:∀ i,(Ch.all (l.take i)).length<=2*i:=fun i=>JgN i;show tSeq _ _ _ [some (.ref a),none,none,none] H;and_intros;refine ⟨len0,?_⟩;rename_i Y a0 c8 H H1 S1 e1;and_intros;refine ⟨a,rfl,ForA.byLN (xs:=xs) (hS.same S1) (fun i σ d=>i<=xs.length/\∃ (v2:Option V) (G:List V),σ=[some (.ref a),some (.ref Y),v2,none]/\Same H d/\d Y=some (.lst G)/\All2 (SRV K d) (Ch.all (l.take i)) G) ⟨Nat.zero_le _,none,[],rfl,S1,e1,by rw [take_zero];exact rfl⟩ (fun i σ d z=>by obtain ⟨_,_,_,_,z,_⟩:=z;exact hS.same z) ?_ ?_⟩
 ·rintro i x σ H2 hx ⟨hi,v2,G,rfl,S2,o,X⟩ N0 b9;have li:=(List.getElem?_eq_some_iff.mp hx).1;obtain ⟨t,ht,b4⟩:=hR.at_ hx;have ok:=hT t (List.mem_of_getElem? ht);obtain ⟨C,vl,vg,tv,hC,b7,c3⟩:=b4.same S2;have b3:=tv;obtain ⟨p',U,rfl,L⟩:=tv;have tc:=T.tie _ hC;and_intros;refine ⟨.inl ⟨rfl,_,SqL.of o⟩,?_⟩;refine ⟨p',_,U,_,rfl,L,hC,rfl,?_⟩;refine ⟨_,_,_,_,_,_,_, .str t.st, .str t.en,bD t.lo,bD t.hi,rfl,b3,hC,repS,repS,Jip b7 ok.lo,Jip c3 ok.hi,fun q ys Z hn S4 e4 r4=>?_⟩;rw [Jil] at r4;have pv:=All2.ofRepL (P:=PV K Z) (fun s x=>PV.of) r4;have l2:(Ch.steps t).length<=2:=by unfold Ch.steps fwd bwd;cases t.hi <;> cases t.lo <;> simp
  have d4:=pv.length;and_intros;refine ⟨q,rfl, .inl ⟨⟨_,SqL.of e4⟩,CompJ.list (xs:=ys) (fun j e d=>Same Z d/\All2 (SRV K d) ((Ch.steps t).take j) e) ⟨Same.refl _,by rw [take_zero];exact rfl⟩ (fun j e d hj z=>⟨SqL.of (z.1 _ _ e4),by have:=z.2.length;rw [length_take] at this;ac_nf⟩) ?_ ?_⟩⟩
  ·rintro j y e H5 hy ⟨S5,m⟩;obtain ⟨s,W,a7⟩:=pv.at_ hy;have nm:s.nm=t.nm:=Jh4 (List.mem_of_getElem? W);simpa only [length_singleton,length_cons,length_nil,List.replicate,JaW,map_cons,map_nil,Option.join_some,y4dy];refine ⟨p',_,U,_, .str t.nm,rfl,S5 _ _ (S4 _ _ L),tc.cls,tc.n1,rfl,?_⟩;and_intros;refine ⟨by show 2<=sizeLine;ac_nf,?_⟩;rename_i c d2 d3 H5 M S6 e6;and_intros;refine ⟨S5.trans S6,?_⟩;rw [take_succ,W];exact (m.mono (P':=SRV K M) fun _ _ z=>z.sameT S6.t).append (.one ⟨c,y,rfl,by rw [nm];exact SqT.of e6,a7.sameT (S5.t.trans S6.t)⟩)
  ·rintro e H5 ⟨S5,m⟩;rw [take_of_length_le ∅] at m;rename_i cl c7 d0 H5 M S6 e6;and_intros;have I:=S4.trans (S5.trans S6);have lD:=X.length;have lA:=m.length;have a2:=N i;refine ⟨Y,cl,G,e,rfl,rfl,I _ _ o,e6,by ac_nf,?_⟩;generalize u7:upd M Y _=r;and_intros;have e7:=putE u7;have T7:SameT M r:=SameT.put u7 (I _ _ o) rfl;refine b9 _ _ ⟨li,_,G++e,rfl,fun b w h=>by rw [<- u7,Jai (Jaf h a0)];exact I _ _ (S2 _ _ h),e7,?_⟩;rw [show Ch.all (l.take (i+1))=Ch.all (l.take i)++Ch.steps t by rw [take_succ,ht];simp [Ch.all]];exact (X.mono (P':=SRV K r) fun _ _ z=>z.sameT (I.t.trans T7)).append (m.mono (P':=SRV K r) fun _ _ z=>z.sameT (S6.t.trans T7))
 ·rintro σ H2 ⟨hi,v2,G,rfl,S2,o,X⟩;have a2:=N l.length;rw [take_of_length_le ∅] at X;rw [take_of_length_le (Nat.le_refl _)] at a2;have lD:=X.length;and_intros;refine ⟨Y,rfl, .inl ⟨⟨_,SqL.of o⟩,CompJ.list (xs:=G) (fun j e d=>d=H2/\All2 (FLV K H2) (((Ch.all l).map (·.c)).take j) e) ⟨rfl,by rw [take_zero];exact rfl⟩ (fun j e d hj z=>⟨by rw [z.1];exact SqL.of o,by have:=z.2.length;rw [length_take] at this;ac_nf⟩) ?_ ?_⟩⟩
  ·rintro j y e H3 hy ⟨rfl,m⟩;obtain ⟨s,W,b,v,rfl,hb,b',vc,rfl,b2,hc⟩:=X.at_ hy;simpa only [length_singleton,length_cons,length_nil,List.replicate,JaW,map_cons,map_nil,Option.join_some];refine ⟨b,_,rfl,hb,rfl,?_⟩;and_intros;refine ixT (i:=2) b2 rfl ?_;and_intros;rw [take_succ,List.getElem?_map,W];exact m.append (.one hc)
  ·rintro e H3 ⟨rfl,m⟩;rw [take_of_length_le (by rw [length_map];ac_nf)] at m;rename_i nl c6 c9 H3 Z S4 e4;and_intros;and_intros;intro sc ds W a8 a1;have O:Same Z (upd (upd Z ds (.own sc)) sc (.ins Ad.Scale ds [])):=fun b u q=>by rw [Jai (Jaf q W),Jai (Jaf q a8)];exact q
   refine ⟨sc,ds,nl,e,(Ch.all l).map (·.c),rfl,Jaq,O _ _ e4,m.mono (fun _ _ z=>FLV.sameT (S4.t.trans O.t) z),by rw [length_map];ac_nf,fun n hn=>?_,fun b fs fl M h1 h2 h3 h4 b0 J a5 a6 c1=>⟨rfl,?_⟩⟩
   ·obtain ⟨s,g,rfl⟩:=mem_map.mp hn;exact ⟨(R s g).b1,(R s g).s2⟩
   have c2:Same Z M:=fun c u h=>h4 c u (Jaf h W) (O _ _ h);have D:=S4.trans c2;have b8:SCK Ad M sc b fs:=⟨ds,fl,h1,h3,a5,a6,c1⟩;have J:∀ s∈Ch.all l,s.c.2∣b:=fun s g=>J s.c (mem_map.mpr ⟨s,g,rfl⟩);have b6:All2 (SRV K M) (Ch.all l) G:=X.mono fun _ _ z=>z.sameT D.t;and_intros;refine ⟨Y,rfl, .inl ⟨⟨_,SqL.of (D _ _ o)⟩,CompJ.list (xs:=G) (fun j e d=>Same M d/\All2 (SOV K Ad b d) ((Ch.all l).take j) e) ⟨Same.refl _,by rw [take_zero];exact rfl⟩ (fun j e d hj z=>⟨SqL.of (z.1 _ _ (D _ _ o)),by have:=z.2.length;rw [length_take] at this;ac_nf⟩) ?_ ?_⟩⟩
   ·rintro j y a4 r hy ⟨S7,B⟩;obtain ⟨s,g,c0⟩:=b6.at_ hy;have a3:=List.mem_of_getElem? g;obtain ⟨p,v,rfl,hp,p',vc,rfl,L,hc⟩:=c0.sameT S7.t;simpa only [length_singleton,length_cons,length_nil,List.replicate,JaW,map_cons,map_nil,Option.join_some];refine ⟨p,_,rfl,hp,rfl,?_⟩;and_intros;intro x U hx a9 a1;have O:Same r (upd (upd r U (.own x)) x (.ins Ad.Step U [])):=fun b u q=>by rw [Jai (Jaf q hx),Jai (Jaf q a9)];exact q
    refine ⟨x,U,sc,p', .str s.nm, .str s.src, .str s.dst,vc,b,fs,s.c, .bl s.fw,rfl,Jaq,L.same O,FrV.same O hc,R s a3,J s a3,(b8.same S7).same O,fun pr H8 ho e1 o=>?_⟩;have S:Same r H8:=fun c u h=>ho c u (Jaf h hx) (O _ _ h);refine ⟨rfl,S7.trans S,?_⟩;rw [take_succ,g];exact (B.mono (P':=SOV K Ad b H8) fun _ _ z=>z.same S).append (.one ⟨x,U,vc,pr,rfl,o,FrV.same S hc,e1⟩)
   ·rintro a4 r ⟨S7,B⟩;rw [take_of_length_le (Nat.le_of_eq ∅)] at B;rename_i ol c4 c5 r H8 S8 e8;and_intros;exact k ol a4 b H8 (S2.trans (D.trans (S7.trans S8))) e8 b0 a5.b1 a6 J (B.mono fun _ _ z=>z.same S8)
abbrev BaI:Stmt:=top 37
theorem JaA:Jan ["steps","starts","sums","face","lasts","changed","turn","step","total"] ["steps","starts"] (Jac BaI):=by bv_decide
def Jb9 (K:W.Frag) (Ad:Adr):Sp:=fun vs H Q E=>∃ (sL fL:Addr) (sx:List V) (ss:List SpS) (fs:List Str) (π : Str->Int),vs=[.ref sL, .ref fL]/\SqL K H sL sx/\All2 (SOS K Ad H) ss sx/\SqL K H fL (fs.map V.str)/\fs.length<=8/\Pot π ss/\ss.length<=70/\∀ ld kv P H',Same H H'->H ld=none->H' ld=some (.dK kv)->DV (SOS K Ad H) P kv->P=(bfR ss (ss.length+1) (bf0 fs)).P->BE ss fs P->Q (.ref ld) H'
theorem JeD (F:FunD K "last_steps" "last_steps" BaI dV f fd) (T:Txt K mg Ad)  : FnOk P w K mg base (CX1 P w) 1 f fd ["steps","starts"] (Jb9 K Ad):=by
 refine F.okx JaA (fun vs H Q E h=>?_) (fun c6 A b5 s H vs Q E hr h=>?_)
 ·obtain ⟨sL,fL,sx,m,D,π,rfl,_⟩:=h;rfl
 obtain ⟨sL,fL,sx,m,D,π,rfl,h⟩:=h;have B:=hr.units;refine ⟨_,(Jab (Jaj (i:=2) JaA.nd rfl (Or.inl rfl) Jb6)
   (Jab (JaX PassesOwn.leaving rfl (pi_U (pv 1)) (Jas (i:=3) JaA.nd rfl (Or.inl rfl))
   (Jag (JbW (hu1 B) (pv 2) (pv 3) Jae rfl)))
   (Jab (Jaj (i:=4) JaA.nd rfl (Or.inl rfl) Jb6)
   (Jab (Jaj (i:=5) JaA.nd rfl (Or.inl rfl) JaM)
   (Jab (JaX PassesOwn.leaving rfl (Jb3 rfl T.BbF (Jaa (pe_op JaP (Jat JaH rfl T.BbB JbA (Jaa (pv 0) Jad)) Jae) Jad)) (Jas (i:=6) JaA.nd rfl (Or.inl rfl))
   (Jab (Jaj (i:=5) JaA.nd rfl (Or.inl rfl) JaM)
   (Jab (JaX PassesOwn.leaving rfl (pi_U (pv 0)) (Jas (i:=7) JaA.nd rfl (Or.inl rfl))
   (Jag (ps_if (Jcm (Jeh (hu1 B) (Jav (pv 7) rfl) (pv 2)) (by with_unfolding_all rfl))
   (Jab (Jaj (i:=8) JaA.nd rfl (Or.inl rfl) (pe_op JaP (JaK (hu1 B) (pv 2) (Jav (pv 7) rfl) (fun _ _=>rfl)) (Jav (pv 7) rfl)))
   (Jag (ps_if (PW.pt (pw_or (Jcm (Jcl (hu1 B) (Jav (pv 7) rfl) (pv 2)) (by with_unfolding_all rfl)) (Jb4 (Jar Jfg (pv 8) (JaK (hu1 B) (pv 2) (Jav (pv 7) rfl) (fun _ _=>rfl)) (Jau _)))))
   (Jab (JbW (hu1 B) (pv 2) (Jav (pv 7) rfl) (pv 8) rfl)
   (Jab (JbW (hu1 B) (pv 4) (Jav (pv 7) rfl) (pv 7) rfl)
   (Jag (Jaj (i:=5) JaA.nd rfl (Or.inl rfl) (Jav (pv 7) rfl)))))
   Jap)))
   Jap)))
   (Jag (ps_if (Jar Jbj (pv 5) JaM (Jau _))
   (Jag (Jam (pv 4)))
   Jap)))))
   (Jag ps_no)))))),?_⟩
 clear B;obtain ⟨hS,hX,hF,l8,hp,c2,k⟩:=h;have sl:(100000:Nat)<=sizeLine:=by decide
 have lX:=hX.length;have o:=T.c_Step Ad.Step rfl;show tSeq _ _ _ [some (.ref sL),some (.ref fL),none,none,none,none,none,none,none] H;and_intros;rename_i r W b8 H H1 S1 e1;and_intros;refine ⟨fL,rfl,ForA.byLN (xs:=D.map V.str) (hF.same S1) (fun i σ G=>i<=D.length/\∃ (v3:Option V) (q:List (Key × V)),σ=[some (.ref sL),some (.ref fL),some (.ref r),v3,none,none,none,none,none]/\Same H G/\G r=some (.dK q)/\DV RI ((D.take i).foldl (fun S f=>pu S f 0) []) q/\q.length<=i) ⟨Nat.zero_le _,none,[],rfl,S1,e1,rfl,Nat.le_refl _⟩ (fun i σ G z=>by obtain ⟨_,_,_,_,z,_⟩:=z;exact hF.same z) ?_ ?_⟩
 ·rintro i y σ H2 hy ⟨hi,v3,q,rfl,S2,d,hD,c0⟩ N0 a7;rw [List.getElem?_map] at hy;obtain ⟨f,hf,rfl⟩:=Option.map_eq_some_iff.mp hy;have li:=(List.getElem?_eq_some_iff.mp hf).1;and_intros;refine ⟨r,_,rfl,DPut.k (k:=Sum.inr f) d ∅,?_⟩;generalize u3:upd H2 r _=H3;and_intros;have e3:=putE u3;have b4:DV RI ((D.take (i+1)).foldl (fun S f=>pu S f 0) []) (putK q (Sum.inr f) (.int 0)):=by
   rw [take_succ,hf,foldl_append];exact DV.put hD rfl
  refine a7 _ _ ⟨li,_,_,rfl,fun c w h=>by rw [<- u3,Jai (Jaf h W)];exact S2 _ _ h,e3,b4,?_⟩;have l1:=b4.len;have l2:=hD.len;have l3:=JdF (l:=(D.take i).foldl (fun S f=>pu S f 0) []) (f:=f) (a:=(0:Int));rw [take_succ,hf,foldl_append] at l1;have l4:(putK q (Sum.inr f) (.int 0)).length=(pu ((D.take i).foldl (fun S f=>pu S f 0) []) f (0:Int)).length:=l1;ac_nf
 ·rintro σ H2 ⟨_,v3,b3,rfl,S2,a2,R,b2⟩;rw [length_map] at b2;rw [take_of_length_le (by rw [length_map];exact Nat.le_refl _)] at R;have R:DV RI (bf0 D).S b3:=R;have c5:=R.len;and_intros;rename_i I J b6 H2 H3 S3 e3;and_intros;have O:=Ja7 S2 J;have Y:I≠r:=fun z=>by rw [z,a2] at J;cases J
  and_intros;refine ⟨_, .inl ((hS.same S2).same S3),?_⟩;and_intros;refine ⟨_,rfl,by ac_nf,by ac_nf,?_⟩;refine ForR.byN (fun i σ G=>∃ (v5 v6 v7 v8:Option V) (t:BF) (q x:List (Key × V)),σ=[some (.ref sL),some (.ref fL),some (.ref r),v3,some (.ref I),v5,v6,v7,v8]/\Same H G/\G r=some (.dK q)/\DV RI t.S q/\G I=some (.dK x)/\DV (SOS K Ad H) t.P x/\t=itr m i (bf0 D)/\bfR m (m.length+1) (bf0 D)=bfR m (m.length+1-i) t/\t.S.length<=8+70*i/\t.P.length<=70*i/\(i≠0->t.ch≠none)) ⟨_,none,none,none,bf0 D,b3,[],rfl,S2.trans S3,S3 _ _ a2,R,e3,rfl,rfl,rfl,by ac_nf,by simp [bf0],fun z=>absurd rfl z⟩ ?_ ?_
  ·rintro i σ H4 hi ⟨v5,v6,v7,v8,t,q,x,rfl,S4,d,e,n,g,ht,a6,lS,lP,b0⟩ N0 a7;have c1:i<=m.length:=by ac_nf
   rw [Int.zero_add];and_intros;refine ⟨sL,rfl,ForA.byLN (xs:=sx) (hS.same S4) (fun j σ G=>j<=sx.length/\∃ (u:BF) (v7 v8:Option V) (q x:List (Key × V)),σ=[some (.ref sL),some (.ref fL),some (.ref r),v3,some (.ref I),some (chV u.ch),some (.int (i:Int)),v7,v8]/\Same H G/\G r=some (.dK q)/\DV RI u.S q/\G I=some (.dK x)/\DV (SOS K Ad H) u.P x/\u=(m.take j).foldl rlx { t with ch:=none }/\u.S.length<=8+70*i+j/\u.P.length<=70*i+j) ⟨Nat.zero_le _,{ t with ch:=none },v7,v8,q,x,rfl,S4,d,e,n,g,rfl,lS,lP⟩ (fun j σ G z=>by obtain ⟨_,_,_,_,_,_,_,z,_⟩:=z;exact hS.same z) ?_ ?_⟩
   ·clear d e n g lS lP;rintro j y σ H5 a1 ⟨hj,u,v7,v8,q,x,rfl,S5,d,e,n,g,B,lS,lP⟩ N1 Z;have lj:=(List.getElem?_eq_some_iff.mp a1).1;obtain ⟨s,a4,p,U,vc,pr,rfl,L,b9,b7⟩:=hX.at_ a1;have C:=S5 _ _ L;have a0:(m.take (j+1)).foldl rlx { t with ch:=none }=rlx ((m.take j).foldl rlx { t with ch:=none }) s:=by rw [take_succ,a4,foldl_append];rfl
    have c4:=e.len;have c3:=g.len;and_intros;refine ⟨p,_,U,_, .str s.src,rfl,C,o.cls,o.n1,rfl,?_⟩;refine ⟨r,_,rfl,DGet.k (k:=Sum.inr s.src) d,?_⟩;cases ea:lk u.S s.src with
    | none=>
     have gn:gains u.S s=none:=by unfold gains;rw [ea]
     rw [e.no ea];try simpa only [Option.isSome_none]
     exact Z _ _ ⟨lj,u,_,_,q,x,rfl,S5,d,e,n,g,by rw [a0, <- B];unfold rlx;rw [gn],by ac_nf,by ac_nf⟩
    | some a=>
     obtain ⟨v,hv,rv⟩:=e.at ea;have rv:v=.int a:=rv;subst rv;rw [hv];try simpa only [y4dy,Option.isSome_some]
     refine ⟨p,_,U,_, .str s.src,rfl,C,o.cls,o.n1,rfl,?_⟩;refine ⟨r, .int a,rfl,by rw [<- hv];exact DGet.k (k:=Sum.inr s.src) d,?_⟩;refine ⟨p,_,U,_, .int s.wh,rfl,C,o.cls,o.n4,rfl,?_⟩;and_intros;refine ⟨p,_,U,_, .str s.tgt,rfl,C,o.cls,o.n2,rfl,?_⟩;refine ⟨r,_,rfl,DGet.k (k:=Sum.inr s.tgt) d,?_⟩;cases eb:lk u.S s.tgt with
     | none=>
      have gn:gains u.S s=some (a+s.wh):=by unfold gains;rw [ea];dsimp only;rw [eb]
      rw [e.no eb];try simpa only [y4dy,Option.isSome_none]
      and_intros;refine ⟨p,_,U,_, .str s.tgt,rfl,C,o.cls,o.n2,rfl,?_⟩;refine ⟨r,_,rfl,DPut.k (k:=Sum.inr s.tgt) d ∅,?_⟩;generalize u7:upd H5 r _=X;and_intros;have e7:=putE u7;have N:Same H X:=fun c w h=>by rw [<- u7,Jai (Jaf h W)];exact S5 _ _ h
      have p7:X p=_:=N _ _ L;have a5:X I=some (.dK x):=by rw [<- u7,Jai Y];exact n
      and_intros;refine ⟨p,_,U,_, .str s.tgt,rfl,p7,o.cls,o.n2,rfl,?_⟩;refine ⟨I,_,rfl,DPut.k (k:=Sum.inr s.tgt) a5 ∅,?_⟩;generalize u8:upd X I _=H8;and_intros;have e8:=putE u8;have M:Same H H8:=fun c w h=>by rw [<- u8,Jai (Jaf h O)];exact N _ _ h
      have p8:H8 p=_:=M _ _ L;and_intros;refine ⟨p,_,U,_, .str s.tgt,rfl,p8,o.cls,o.n2,rfl,?_⟩;and_intros;refine Z _ _ ⟨lj,⟨pu u.S s.tgt (a+s.wh),pu u.P s.tgt s,some s.tgt⟩,_,_,_,_,rfl,M,by rw [<- u8,Jai (Ne.symm Y)];exact e7,DV.put e rfl,e8,DV.put g (hX.at_ a1 |> fun ⟨s',h1,h2⟩=>by rw [a4] at h1;cases h1;exact h2),?_,by have:=JdF (l:=u.S) (f:=s.tgt) (a:=a+s.wh);show (pu u.S s.tgt (a+s.wh)).length<=_;ac_nf,by have:=JdF (l:=u.P) (f:=s.tgt) (a:=s);show (pu u.P s.tgt s).length<=_;ac_nf⟩;rw [a0, <- B];unfold rlx;rw [gn]
     | some b=>
      obtain ⟨w,hw,a8⟩:=e.at eb;have a8:w=.int b:=a8;subst a8;rw [hw];try simpa only [y4dy,Option.isSome_some]
      refine ⟨p,_,U,_, .str s.tgt,rfl,C,o.cls,o.n2,rfl,?_⟩;refine ⟨r, .int b,rfl,by rw [<- hw];exact DGet.k (k:=Sum.inr s.tgt) d,?_⟩;and_intros;by_cases c:a+s.wh<b
      ·rw [if_pos (by simpa using c)];and_intros;have gn:gains u.S s=some (a+s.wh):=by unfold gains;rw [ea];dsimp only;rw [eb];exact if_pos c
       and_intros;refine ⟨p,_,U,_, .str s.tgt,rfl,C,o.cls,o.n2,rfl,?_⟩;refine ⟨r,_,rfl,DPut.k (k:=Sum.inr s.tgt) d ∅,?_⟩;generalize u7:upd H5 r _=X;and_intros;have e7:=putE u7;have N:Same H X:=fun c w h=>by rw [<- u7,Jai (Jaf h W)];exact S5 _ _ h
       have p7:X p=_:=N _ _ L;have a5:X I=some (.dK x):=by rw [<- u7,Jai Y];exact n
       and_intros;refine ⟨p,_,U,_, .str s.tgt,rfl,p7,o.cls,o.n2,rfl,?_⟩;refine ⟨I,_,rfl,DPut.k (k:=Sum.inr s.tgt) a5 ∅,?_⟩;generalize u8:upd X I _=H8;and_intros;have e8:=putE u8;have M:Same H H8:=fun c w h=>by rw [<- u8,Jai (Jaf h O)];exact N _ _ h
       have p8:H8 p=_:=M _ _ L;and_intros;refine ⟨p,_,U,_, .str s.tgt,rfl,p8,o.cls,o.n2,rfl,?_⟩;and_intros;refine Z _ _ ⟨lj,⟨pu u.S s.tgt (a+s.wh),pu u.P s.tgt s,some s.tgt⟩,_,_,_,_,rfl,M,by rw [<- u8,Jai (Ne.symm Y)];exact e7,DV.put e rfl,e8,DV.put g (hX.at_ a1 |> fun ⟨s',h1,h2⟩=>by rw [a4] at h1;cases h1;exact h2),?_,by have:=JdF (l:=u.S) (f:=s.tgt) (a:=a+s.wh);show (pu u.S s.tgt (a+s.wh)).length<=_;ac_nf,by have:=JdF (l:=u.P) (f:=s.tgt) (a:=s);show (pu u.P s.tgt s).length<=_;ac_nf⟩;rw [a0, <- B];unfold rlx;rw [gn]
      ·rw [if_neg (by simpa using c)];and_intros;have gn:gains u.S s=none:=by unfold gains;rw [ea];dsimp only;rw [eb];exact if_neg c
       and_intros;exact Z _ _ ⟨lj,u,_,_,q,x,rfl,S5,d,e,n,g,by rw [a0, <- B];unfold rlx;rw [gn],by ac_nf,by ac_nf⟩
   ·clear d e n g lS lP;rintro σ H5 ⟨hj,u,v7,v8,q,x,rfl,S5,d,e,n,g,B,lS,lP⟩;rw [take_of_length_le ∅] at B;have a9:trn m t=u:=B.symm;have a3:u=itr m (i+1) (bf0 D):=by rw [<- a9,ht];rfl
    have b1:bfR m (m.length+1-i) t=if u.ch=none then u else bfR m (m.length-i) u:=by
     rw [show m.length+1-i=(m.length-i)+1 by ac_nf,bfR,a9]
    and_intros;cases ec:u.ch with
    | none=>
     try simpa only [chV]
     refine k I x u.P H5 S5 O n g (by rw [a6,b1,if_pos ec]) ?_;rw [a3];exact BE.of hp (by rw [<- a3];exact ec)
    | some f=>
     try simpa only [chV]
     exact a7 _ _ ⟨_,_,_,_,u,q,x,rfl,S5,d,e,n,g,a3,by rw [a6,b1,if_neg (by rw [ec];simp)];congr 1;ac_nf,by ac_nf,by ac_nf,fun _=>by rw [ec];simp⟩
  ·rintro σ H4 ⟨v5,v6,v7,v8,t,q,x,rfl,S4,d,e,n,g,ht,a6,lS,lP,b0⟩;refine absurd ?_ (b0 ∅);rw [ht,show ((sx.length:Int)+1).toNat=m.length+1 by ac_nf];show (m.foldl rlx { itr m m.length (bf0 D) with ch:=none }).ch=none;rw [Jg4 m { itr m m.length (bf0 D) with ch:=none } (JhY hp)]
abbrev Bay:Stmt:=top 38
theorem Jay:Jan ["steps","starts","lasts","told","face","missing","at","step","ahead"] ["steps","starts"] (Jac Bay):=by bv_decide
def Ja9 (K:W.Frag) (Ad:Adr):Sp:=fun vs H Q E=>∃ (sL fL:Addr) (sx:List V) (ss:List SpS) (fs:List Str) (π : Str->Int),vs=[.ref sL, .ref fL]/\SqL K H sL sx/\All2 (SOS K Ad H) ss sx/\SqL K H fL (fs.map V.str)/\fs.length<=8/\Pot π ss/\ss.length<=70/\(∀ s∈ss,FB 250 40 s.cost)/\∀ (td:Addr) (kt:List (Key × V)) (tb:List (Str × ((Int × Int) × List SpS))) (P:LasD) (H':Hp),Same H H'->H td=none->H' td=some (.dK kt)->DV (RT K H H') tb kt->P=(bfR ss (ss.length+1) (bf0 fs)).P->BE ss fs P->(∀ v,(∃ e,lk tb v=some e)↔(v∈fs\/∃ s,lk P v=some s))->TBk P fs tb->Q (.ref td) H'
theorem JdP (F:FunD K "chains_from" "chains_from" Bay dV f fd) (T:Txt K mg Ad) (Bbv:Cal P w K mg base 1 "last_steps" ["steps","starts"] [] (Jb9 K Ad)) (BbE:Cal P w K mg base 2 "plus" ["one","other"] [] (JdL K)):FnOk P w K mg base (CX1 P w) 3 f fd ["steps","starts"] (Ja9 K Ad):=by
 refine F.okx Jay (fun vs H Q E h=>?_) (fun l4 A h8 s H vs Q E hr h=>?_)
 ·obtain ⟨sL,fL,sx,ss,fs,π,rfl,_⟩:=h;rfl
 obtain ⟨sL,fL,sx,ss,fs,π,rfl,h⟩:=h;have hu:=hr.units;refine ⟨_,(Jab (Jaj (i:=2) Jay.nd rfl (Or.inl rfl) (Bbv.ev hr ⋯ rfl pass1 (Jaa (pv 0) (Jaa (pv 1) Jad)) (he:=by exact Jah rfl)))
   (Jab (Jaj (i:=3) Jay.nd rfl (Or.inl rfl) Jb6)
   (Jab (JaX PassesOwn.leaving rfl (pi_U (pv 1)) (Jas (i:=4) Jay.nd rfl (Or.inl rfl))
   (Jag (ps_if (Jcm (Jcl (hu1 hu) (pv 4) (pv 2)) (by with_unfolding_all rfl))
   (Jag (JbW (hu1 hu) (pv 3) (pv 4) (JaU (Jaa (Jc2 (v:=.ref _) rfl T.Bb7 T.Bb8) (Jaa (JbL Jad) Jad))) rfl))
   Jap)))
   (Jab (JaX PassesOwn.leaving rfl (JhA (pv 2)) (Jas (i:=4) Jay.nd rfl (Or.inl rfl))
   (Jab (Jaj (i:=5) Jay.nd rfl (Or.inl rfl) (JbL Jad))
   (Jab (Jaj (i:=6) Jay.nd rfl (Or.inl rfl) (pv 4))
   (Jab (JeJ PassesOwn.leaving (Jcm (Jcl (hu1 hu) (pv 6) (pv 3)) (by with_unfolding_all rfl))
   (Jab (Jbh (pe_bm PySem.F.plainAttrs_list PySem.F.slot_list_append PySem.F.type_list_append Jbf (pv 5) (Jaa (JaK (hu1 hu) (pv 2) (pv 6) (fun _ _=>rfl)) Jad) (hs:=by exact Jah rfl)))
   (Jag (Jaj (i:=6) Jay.nd rfl (Or.inl rfl) (Jav (JaK (hu1 hu) (pv 2) (pv 6) (fun _ _=>rfl)) rfl)))))
   (Jag (JaX PassesOwn.leaving rfl (Jic (K:=K) rfl rfl rfl T.n_reversed JfA (pv 5)) (Jas (i:=7) Jay.nd rfl (Or.inl rfl))
   (Jab (Jaj (i:=8) Jay.nd rfl (Or.inl rfl) (JaK (hu1 hu) (pv 3) (Jav (pv 7) rfl) (fun _ _=>rfl)))
   (Jag (JbW (hu1 hu) (pv 3) (Jav (pv 7) rfl) (JaU (Jaa (BbE.ev hr ⋯ rfl pass1 (Jaa (pe_ix ix_U (pv 8) Jae (fun _ _=>rfl)) (Jaa (Jav (pv 7) rfl) Jad)) (he:=by exact Jah rfl)) (Jaa (pe_op JaP (pe_ix ix_U (pv 8) Jae (fun _ _=>rfl)) (JbL (Jaa (Jav (pv 7) rfl) Jad))) Jad))) rfl)))))))))
   (Jag (Jam (pv 3))))))),?_⟩
 clear hu;obtain ⟨hS,hX,hF,l8,hp,h3,e7,k⟩:=h;have sl:(100000:Nat)<=sizeLine:=by decide
 have tc:=T.c_Step Ad.Step rfl;show tSeq _ _ _ [some (.ref sL),some (.ref fL),none,none,none,none,none,none,none] H;and_intros;refine ⟨sL,fL,sx,ss,fs,π,rfl,hS,hX,hF,l8,hp,h3,fun O kv P H1 S1 h0 e1 hD hP hB=>?_⟩;have c0:=hB;obtain ⟨S,r,b1,b2,b3,b5⟩:=hB.ex;and_intros;rename_i C X k0 H1 H2 S2 e2;and_intros;have d0:C≠O:=fun z=>by rw [z,e1] at X;cases X
 and_intros;have c6:=Ja7 S1 X;refine ⟨fL,rfl,ForA.byLN (xs:=fs.map V.str) ((hF.same S1).same S2) (fun i σ D=>i<=fs.length/\∃ (v4:Option V) (I:List (Key × V)) (n:List (Str × ((Int × Int) × List SpS))),σ=[some (.ref sL),some (.ref fL),some (.ref O),some (.ref C),v4,none,none,none,none]/\Same H1 D/\D C=some (.dK I)/\DV (RT K H D) n I/\TBk P fs n/\∀ f∈fs.take i,lk P f=none->∃ e,lk n f=some e) ⟨Nat.zero_le _,none,[],[],rfl,S2,e2,rfl,TBk.nil,fun f hf=>by simp at hf⟩ (fun i σ D z=>by obtain ⟨_,_,_,_,_,z,_⟩:=z;exact (hF.same S1).same z) ?_ ?_⟩
 ·rintro i y σ H3 hy ⟨hi,v4,I,n,rfl,S3,a1,hT,a5,a7⟩ N0 b8;rw [List.getElem?_map] at hy;obtain ⟨f,hf,rfl⟩:=Option.map_eq_some_iff.mp hy;have li:=(List.getElem?_eq_some_iff.mp hf).1;have f8:fs.take (i+1)=fs.take i++[f]:=by rw [take_succ,hf];rfl
  have i4:=c0.tb_len a5;have j3:=hT.len;and_intros;refine ⟨O,_,rfl,DGet.k (k:=Sum.inr f) (S3 _ _ e1),?_⟩;cases ef:lk P f with
  | some s=>
   rw [(hD.at ef).choose_spec.1];try simpa only [Option.isSome_some]
   refine b8 _ _ ⟨li,_,I,n,rfl,S3,a1,hT,a5,fun g hg hn=>?_⟩;rw [f8] at hg;rcases mem_append.mp hg with hg | hg
   ·exact a7 g hg hn
   ·rw [mem_singleton.mp hg,ef] at hn;cases hn
  | none=>
   rw [hD.no ef];try simpa only [Option.isSome_none]
   refine ⟨len0,?_⟩;rename_i el a6 k4 H3 H4 S4 e4;and_intros;refine ⟨len2,?_⟩;rename_i tp c5 k5 H4 H5 S5 e5;and_intros;and_intros;have d:=S5 _ _ (S4 _ _ a1);refine ⟨C,_,rfl,DPut.k (k:=Sum.inr f) d ∅,?_⟩;generalize u6:upd H5 C _=H6;and_intros;have e6:=putE u6;have g4:el≠C:=fun z=>by rw [z,a1] at a6;cases a6
   have d4:tp≠C:=fun z=>by rw [z,S4 _ _ a1] at c5;cases c5
   have i3:RT K H H6 (((0:Int),(1:Int)),([]:List SpS)) (.ref tp):=⟨tp, .ref Ad.ZERO,el,[],rfl,SqT.of (by rw [<- u6,Jai d4];exact e5),⟨Ad.ZERO,rfl,T.Bb0 _⟩,by rw [<- u6,Jai g4];exact S5 _ _ e4,rfl,Ja7 S1 (Ja7 S3 a6)⟩;refine b8 _ _ ⟨li,_,_,pu n f ((0,1),[]),rfl,fun c w h=>by rw [<- u6,Jai (Jaf h X)];exact S5 _ _ (S4 _ _ (S3 _ _ h)),e6,(hT.mono fun _ _ z=>(z.same (S4.trans S5)).putL u6 d).put i3,a5.one (List.mem_of_getElem? hf) ef,fun g hg hn=>?_⟩;rw [f8] at hg;rcases mem_append.mp hg with hg | hg
   ·exact TBk.keep (a7 g hg hn)
   ·rw [mem_singleton.mp hg];exact ⟨_,JbV⟩
 ·rintro σ H3 ⟨_,v4,I,n,rfl,S3,a1,hT,a5,a7⟩;rw [take_of_length_le (by rw [length_map];exact Nat.le_refl _)] at a7;have ht:C≠O:=d0;and_intros;refine ⟨O,kv,P.map (·.1),rfl,S3 _ _ e1,hD.keys,fun od=>?_⟩;generalize uf:upd H3 O _=H4;and_intros;have ef:H4 O=some (.frz od (.dK kv)):=by rw [<- uf];exact Jaq
  have g3:Same H H4:=fun c w h=>by rw [<- uf,Jai (Jaf h h0)];exact S3 _ _ (S1 _ _ h)
  have f6:H4 C=some (.dK I):=by rw [<- uf,Jai d0];exact a1
  refine ForJ.keys (fun i σ D=>∃ (v4 v5 v6 v7 v8:Option V) (I:List (Key × V)) (n:List (Str × ((Int × Int) × List SpS))),σ=[some (.ref sL),some (.ref fL),some (.ref O),some (.ref C),v4,v5,v6,v7,v8]/\Same H D/\D O=some (.frz od (.dK kv))/\D C=some (.dK I)/\DV (RT K H D) n I/\TBk P fs n/\(∀ f∈fs,lk P f=none->∃ e,lk n f=some e)/\(∀ j z,j<i->(P.map (·.1))[j]?=some z->∃ e,lk n z=some e)) ⟨v4,none,none,none,none,I,_,rfl,g3,ef,f6,hT.mono fun _ _ z=>z.putL uf (S3 _ _ e1),a5,a7,fun j z hj=>absurd hj (Nat.not_lt_zero _)⟩ (fun i σ D z=>by obtain ⟨_,_,_,_,_,_,_,_,_,z,_⟩:=z;exact z) ?_ ?_
  ·rintro i z σ H5 hz ⟨v4,v5,v6,v7,v8,I,n,rfl,S5,b9,d,U,a2,Z,a4⟩ N0 b8;and_intros;refine ⟨len0,?_⟩;rename_i ml G k9 H5 H6 S6 e6;and_intros;have l1:ml≠O:=fun q=>by rw [q,b9] at G;cases G
   have h5:ml≠C:=fun q=>by rw [q,d] at G;cases G
   have k1:=Ja7 S5 G;have i5:∃ s,lk P z=some s:=Jdw (List.mem_of_getElem? hz);have g6:∃ b,lk S z=some b:=by
    obtain ⟨s,hs⟩:=i5;obtain ⟨_,_,_,a,_,k2⟩:=b3 z s hs;exact ⟨_,k2⟩
   and_intros;refine ⟨fun m σ D=>∃ (q:Str) (L:List SpS) (mx:List V),σ=[some (.ref sL),some (.ref fL),some (.ref O),some (.ref C),some (.str z),some (.ref ml),some (.str q),v7,v8]/\Same H5 D/\D ml=some (.lst mx)/\All2 (SOS K Ad H) L mx/\Lnk P q L.reverse/\lnkE q L.reverse=z/\(∃ b,lk S q=some b)/\r q=m/\(L.map (·.tgt)).Nodup/\(∀ x∈L.map (·.tgt),r q<r x)/\(∀ x∈L,x∈ss),⟨_,z,[],[],rfl,S6,e6,rfl,trivial,rfl,g6,rfl, .nil,(fun x u=>by cases u),fun x u=>by cases u⟩,?_⟩;rintro m σ H7 ⟨q,L,mx,rfl,S7,M,c3,f4,d9,j1,rfl,g0,f7,c9⟩;have c4:=S7 _ _ b9;have W:=S7 _ _ d;and_intros;refine ⟨C,_,rfl,DGet.k (k:=Sum.inr q) W,?_⟩;cases eq_:lk n q with
   | none=>
    rw [U.no eq_];try simpa only [Option.isSome_none]
    obtain ⟨bq,j4⟩:=j1;obtain ⟨s,hs⟩:∃ s,lk P q=some s:=by
     cases e:lk P q with
     | some s=>exact ⟨s,rfl⟩
     | none=>
      obtain ⟨e',f5⟩:=Z q (b2 q bq j4 e).1 e;rw [eq_] at f5;cases f5
    obtain ⟨j7,c2,f9,sa,j8,l3⟩:=b3 q s hs;obtain ⟨v,hv,f0⟩:=hD.at hs;obtain ⟨p,dx,vc,pr,rfl,Y,e0,a8⟩:=id f0;have l2:L.length<=70:=by
     have:=sub_len (L.map (·.tgt)) (ss.map (·.tgt)) g0 fun x u=>by
      obtain ⟨y,hy,rfl⟩:=mem_map.mp u;exact mem_map.mpr ⟨y,c9 y hy,rfl⟩
     rw [length_map,length_map] at this;ac_nf
    have i7:=c3.length;refine ⟨_,fun _ _ h=>h,?_⟩;and_intros;refine ⟨.inl ⟨rfl,_,SqL.of M⟩,?_⟩;refine ⟨O, .ref p,rfl,by rw [<- hv];exact DGet.f (k:=Sum.inr q) c4,?_⟩;refine ⟨ml,mx,_,rfl,rfl,M,by ac_nf,?_⟩;generalize u8:upd H7 ml _=H8;and_intros;have e8:=putE u8;have T8:SameT H7 H8:=SameT.put u8 M rfl;have S8:Same H5 H8:=fun c w h=>by rw [<- u8,Jai (Jaf h G)];exact S7 _ _ h
    have a3:=S8 _ _ b9;and_intros;refine ⟨O, .ref p,rfl,by rw [<- hv];exact DGet.f (k:=Sum.inr q) a3,?_⟩;refine ⟨p,_,dx,_, .str s.src,rfl,S8 _ _ (S5 _ _ Y),tc.cls,tc.n1,rfl,?_⟩;and_intros;refine ⟨r s.src,f9,s.src,L++[s],mx++[.ref p],rfl,S8,e8,c3.append (.one f0),by rw [List.reverse_append];exact f4.add hs c2,by rw [List.reverse_append];exact (Jh1 c2).trans d9,⟨sa,j8⟩,rfl,?_,fun x u=>?_,fun x u=>?_⟩
    ·rw [map_append];refine nodup_append.mpr ⟨g0,by simp,fun x u y hy e=>?_⟩;have hy:y=s.tgt:=by simpa using hy
     have:=f7 x u;rw [e,hy,c2] at this;ac_nf
    ·rw [map_append] at u;rcases mem_append.mp u with u | u
     ·have:=f7 x u;ac_nf
     ·have u:x=s.tgt:=by simpa using u
      rw [u,c2];exact f9
    ·rcases mem_append.mp u with u | u
     ·exact c9 x u
     ·rw [mem_singleton.mp u];exact j7
   | some e=>
    rw [(U.at eq_).choose_spec.1];try simpa only [Option.isSome_some]
    (try ((with_reducible refine Nxt.go (by assumption) ?_);and_intros))
    have i7:=c3.length;refine ⟨ml,mx,rfl,SqL.of M,ForJ.rev (fun j σ D=>∃ (v7 v8:Option V) (I:List (Key × V)) (n:List (Str × ((Int × Int) × List SpS))) (y:Str),σ=[some (.ref sL),some (.ref fL),some (.ref O),some (.ref C),some (.str z),some (.ref ml),some (.str q),v7,v8]/\Same H D/\D O=some (.frz od (.dK kv))/\D ml=some (.lst mx)/\D C=some (.dK I)/\DV (RT K H D) n I/\TBk P fs n/\(∀ f∈fs,lk P f=none->∃ e,lk n f=some e)/\(∀ j z,j<i->(P.map (·.1))[j]?=some z->∃ e,lk n z=some e)/\(∃ e,lk n y=some e)/\Lnk P y (L.reverse.drop j)/\lnkE y (L.reverse.drop j)=z) ⟨v7,v8,I,n,q,rfl,S5.trans S7,c4,M,W,U.mono fun _ _ z=>z.same S7,a2,Z,a4,⟨e,eq_⟩,f4,d9⟩ (fun j σ D z=>by obtain ⟨_,_,_,_,_,_,_,_,z,_⟩:=z;exact SqL.of z) ?_ ?_⟩
    ·clear W d U a2 Z a4 eq_ c4 M;rintro j x σ H8 hj u ⟨v7,v8,I,n,y,rfl,S8,a3,f2,B,a9,b6,d1,d5,⟨e,b0⟩,d7,R⟩ N1 g7;obtain ⟨s,hs,sv⟩:=c3.at_ u;have i9:L.reverse[j]?=some s:=by rw [List.getElem?_reverse ∅,show L.length=mx.length by ac_nf];exact hs
     have h7:L.reverse.drop j=s::L.reverse.drop (j+1):=by
      obtain ⟨h1,h2⟩:=List.getElem?_eq_some_iff.mp i9;rw [<- h2];exact List.drop_eq_getElem_cons h1
     rw [h7] at d7 R;obtain ⟨rfl,j6,i0⟩:=d7;have j0:=c9 s (List.mem_of_getElem? hs);obtain ⟨p,dx,vc,pr,rfl,Y,e0,a8⟩:=sv.same S8;obtain ⟨v,hv,g2⟩:=a9.at b0;obtain ⟨w,qv,l,xs,rfl,hw,h9,hl,e3,_⟩:=id g2;obtain ⟨g9,g8,i6⟩:=b6.en _ _ b0;obtain ⟨h4,k8,_⟩:=c0.chn g9 g8;have b7:=cs_fb fun s hs=>e7 s (h4 s hs);rw [<- i6] at b7;have c1:=e7 s j0;have i4:=c0.tb_len b6;have j3:=a9.len;have i1:=e3.length;rw [length_map] at i1;and_intros;refine ⟨p,_,dx,_, .str s.src,rfl,Y,tc.cls,tc.n1,rfl,?_⟩;refine ⟨C, .ref w,rfl,by rw [<- hv];exact DGet.k (k:=Sum.inr s.src) B,?_⟩;and_intros;refine ixT (i:=0) hw rfl ?_;refine ⟨p,_,dx,_,vc,rfl,Y,tc.cls,tc.n3,rfl,?_⟩;and_intros;refine ⟨qv,vc,e.1.1,e.1.2,s.cost.1,s.cost.2,rfl,h9,e0,b7.s1.mono ∅,b7.s2.mono ∅,c1.s1.mono ∅,c1.s2.mono ∅,b7.b1,c1.b1,b7.g1,c1.g1,fun ap H9 S9 e9=>?_⟩;and_intros;refine ixT (i:=1) (hw.same S9) rfl ?_;refine ⟨p,_,dx,_, .ref pr,rfl,S9 _ _ Y,tc.cls,tc.n5,rfl,?_⟩;refine ⟨by show 1<=sizeLine;ac_nf,?_⟩;rename_i ol k3 k6 H9 j2 a0 j9;and_intros;refine .inl ⟨l,ol,xs,[.ref pr],rfl,rfl,a0 _ _ (S9 _ _ hl),j9,by simp;ac_nf,?_⟩;rename_i nl b4 l0 j2 i8 d3 h6;and_intros;refine ⟨len2,?_⟩;rename_i np c7 k7 i8 d8 d6 i2;and_intros;have o:=S9.trans (a0.trans (d3.trans d6));and_intros;refine ⟨p,_,dx,_, .str s.tgt,rfl,o _ _ Y,tc.cls,tc.n2,rfl,?_⟩;have N:=o _ _ B;refine ⟨C,_,rfl,DPut.k (k:=Sum.inr s.tgt) N ∅,?_⟩;generalize J:upd d8 C _=c8;and_intros;have j5:=putE J;have f3:SameT d8 c8:=SameT.put J N rfl;have g5:nl≠C:=fun z=>by rw [z,a0 _ _ (S9 _ _ B)] at b4;cases b4
     have d4:np≠C:=fun z=>by rw [z,d3 _ _ (a0 _ _ (S9 _ _ B))] at c7;cases c7
     have f1:RT K H c8 (addF e.1 s.cost,e.2++[s]) (.ref np):=by
      refine ⟨np, .ref ap,nl,xs++[.ref pr],rfl,SqT.of (by rw [<- J,Jai d4];exact i2),⟨ap,rfl,SqT.sameT f3 (SqT.of (d6 _ _ (d3 _ _ (a0 _ _ e9))))⟩,by rw [<- J,Jai g5];exact d6 _ _ h6,?_,Ja7 S8 (Ja7 S9 (Ja7 a0 b4))⟩;rw [map_append];exact (e3.mono (P':=CV c8) fun _ _ z=>z.sameT (o.t.trans f3)).append (.one ⟨pr,rfl,by rw [<- J,Jai (ne_of a8 B (by intro z;cases z))];exact o _ _ a8⟩)
     exact g7 _ _ ⟨_,_,_,pu n s.tgt (addF e.1 s.cost,e.2++[s]),s.tgt,rfl,fun c w h=>by rw [<- J,Jai (Jaf h c6)];exact o _ _ (S8 _ _ h),by rw [<- J,Jai (Ne.symm d0)];exact o _ _ a3,by rw [<- J,Jai h5];exact o _ _ f2,j5,(a9.mono fun _ _ z=>(z.same o).putL J N).put f1,b6.put b0 j6,fun f hf hn=>TBk.keep (d1 f hf hn),fun j z hj hz=>TBk.keep (d5 j z hj hz),⟨_,JbV⟩,i0,R⟩
    ·clear W d U a2 Z a4 eq_ c4 M;rintro σ H8 ⟨v7,v8,I,n,y,rfl,S8,a3,f2,B,a9,b6,d1,d5,b0,d7,R⟩;rw [List.drop_of_length_le (by rw [List.length_reverse];ac_nf)] at R;have R:y=z:=R;subst R;refine b8 _ _ ⟨_,_,_,_,_,I,n,rfl,S8,a3,B,a9,b6,d1,fun j z hj d2=>?_⟩;by_cases c:j<i
     ·exact d5 j z c d2
     ·have : j=i:=by ac_nf
      subst this;rw [hz] at d2;cases d2;exact b0
  ·rintro σ H5 ⟨v4,v5,v6,v7,v8,I,n,rfl,S5,b9,d,U,a2,Z,a4⟩;and_intros;refine k C I n P H5 S5 c6 d U hP c0 (fun v=>⟨fun ⟨e,he⟩=>(a2.en v e he).1,fun hv=>?_⟩) a2;cases hn:lk P v with
   | none=>exact Z v (hv.resolve_right fun ⟨s,hs⟩=>by rw [hn] at hs;cases hs) hn
   | some s=>
    have hs:=hn;obtain ⟨j,hj⟩:=List.getElem?_of_mem (Jgg hs);exact a4 j v (List.getElem?_eq_some_iff.mp hj).1 hj
abbrev Ba4:Stmt:=top 32
theorem JcG:Jan ["ties","found","tie"] ["ties"] (Jac Ba4):=by bv_decide
def JcI (K:W.Frag) (Ad:Adr):Sp:=fun vs H Q E=>∃ (a:Addr) (xs:List V) (ts:List TD) (F:List Str),vs=[.ref a]/\SqL K H a xs/\All2 (OV K Ad H) ts xs/\ts.length<=35/\F.length<=8/\(∀ t∈ts,t.st∈F/\t.en∈F)/\∀ p out H',Same H H'->H p=none->H' p=some (.lst (out.map V.str))->JcB ts out->Q (.ref p) H'
theorem JfJ (F:FunD K "faces_of" "faces_of" Ba4 dV f fd) (T:Txt K mg Ad)  : FnOk P w K mg base (CX1 P w) 1 f fd ["ties"] (JcI K Ad):=by
 refine F.okn JcG (by subst_eqs) (fun a5 A O s H vs Q E hr h=>?_)
 obtain ⟨a,xs,ts,F,rfl,h⟩:=h;have R:=hr.units;refine ⟨_,(Jab (Jaj (i:=1) JcG.nd rfl (Or.inl rfl) Jb6)
   (Jab (JaX PassesOwn.never rfl (pi_U (pv 0)) (Jas (i:=2) JcG.nd rfl (Or.inl rfl))
   (Jab (JbW (hu1 R) (pv 1) (Jav (pv 2) rfl) pe_bl rfl)
   (Jag (JbW (hu1 R) (pv 1) (Jav (pv 2) rfl) pe_bl rfl))))
   (Jag (Jam (Jat (Jd2 rfl) rfl T.Bb6 JeW (Jaa (pv 1) Jad)))))),?_⟩
 clear R;obtain ⟨hS,hR,hl,a0,q,k⟩:=h;show tSeq _ _ _ [some (.ref a),none,none] H;try infer_instance
 rename_i d v a3 H H1 S1 e1;have sl:(1000:Nat)<=sizeLine:=by decide
 have lx:=hR.length;refine ⟨a,rfl,ForA.byL (xs:=xs) (hS.same S1) (fun i σ N=>i<=xs.length/\∃ (W:Option V) (b:List (Key × V)) (c:List Str),σ=[some (.ref a),some (.ref d),W]/\Same H N/\N d=some (.dK b)/\b.map (·.1)=c.map Sum.inr/\c.Nodup/\c.length<=2*i/\∀ z,z∈c↔∃ t∈ts.take i,z=t.st\/z=t.en) ⟨Nat.zero_le _,none,[],[],rfl,S1,e1,rfl,by simp,by simp,by simp⟩ (fun i σ N z=>by obtain ⟨_,_,_,_,_,z,_⟩:=z;exact hS.same z) ?_ ?_⟩
 ·rintro i x σ H2 hx ⟨hi,W,b,c,rfl,n,y,I,B,Y,r⟩;have li:i<xs.length:=(List.getElem?_eq_some_iff.mp hx).1;obtain ⟨t,D,ov⟩:=hR.at_ hx;obtain ⟨C,vl,vg,⟨p,dx,rfl,hp⟩,hC,a1,a2⟩:=ov.same n;have G:=T.tie C hC;contradiction;refine ⟨p,C,dx,_, .str t.st,rfl,hp,G.cls,G.n2,rfl,?_⟩;try contradiction
  have lk:b.length=c.length:=by simpa using congrArg List.length I
  refine ⟨d,_,rfl,DPut.k (k:=Sum.inr t.st) y ∅,?_⟩;generalize u3:upd H2 d _=H3;have e3:=putE u3;have J:=putN u3 y hp (by intro z;cases z);try contradiction
  refine ⟨p,C,dx,_, .str t.en,rfl,J,G.cls,G.n3,rfl,?_⟩;try contradiction
  have m:=Jgf I t.st (.bl true);have a4:(putK b (Sum.inr t.st) (V.bl true)).length=(addS c t.st).length:=by simpa using congrArg List.length m
  have la:=Jf3 c t.st;have lb:=Jf3 (addS c t.st) t.en;refine ⟨d,_,rfl,DPut.k (k:=Sum.inr t.en) e3 ∅,?_⟩;generalize u4:upd H3 d _=H4;have e4:=putE u4;have Z:=Jgf m t.en (.bl true);refine ⟨li,_,_,addS (addS c t.st) t.en,rfl,fun bb u U=>?_,e4,Z,JgM _ (JgM _ B),by ac_nf,fun z=>?_⟩
  ·rw [<- u4,Jai (Jaf U v), <- u3,Jai (Jaf U v)];exact n _ _ U
  ·rw [Jf4,Jf4,r,take_succ,D];simp only [mem_append,Option.toList_some,mem_singleton];constructor
   ·rintro ((⟨M,X,g⟩ | h) | h)
    ·exact ⟨M, .inl X,g⟩
    ·exact ⟨t, .inr rfl, .inl h⟩
    ·exact ⟨t, .inr rfl, .inr h⟩
   ·rintro ⟨M,X | rfl,g⟩
    ·exact .inl (.inl ⟨M,X,g⟩)
    ·rcases g with g | g
     ·exact .inl (.inr g)
     ·exact .inr g
 ·rintro σ H2 ⟨hi,W,b,c,rfl,n,y,I,B,Y,r⟩;try infer_instance
  rw [take_of_length_le ∅] at r;have l8:=sub_len c F B fun z hz=>by
   obtain ⟨t,D,h | h⟩:=(r z).mp hz
   ·rw [h];exact (q t D).1
   ·rw [h];exact (q t D).2
  refine ⟨d,b,c,rfl,y,I,by ac_nf,fun l S j L=>?_⟩;have hH:H l=none:=by
   cases e:H l with
   | none=>rfl
   | some o=>rw [n _ _ e] at j;cases j
  refine k l S _ (n.trans (newS j rfl)) hH (newE rfl) ⟨L.1.nodup_iff.mpr B,L.2,fun z=>?_⟩;rw [L.1.mem_iff,r]
abbrev BaR:Stmt:=inClass (top 46) 1
theorem Jfk:Jan ["self"] ["self"] (Jac BaR):=by bv_decide
def Ja0 (K:W.Frag) (Ad:Adr):Sp:=fun vs H Q E=>∃ (p d:Addr) (ts:List TD),vs=[.ref p]/\BK K Ad H p d ts/\∀ l ys H',Same H H'->H l=none->H' l=some (.lst ys)->All2 (OV K Ad H') ts ys->Q (.ref l) H'
theorem Je6 (F:FunD K "kept" "Book.kept" BaR dV f fd) (T:Txt K mg Ad)  : FnOk P w K mg base (CX1 P w) 1 f fd ["self"] (Ja0 K Ad):=by
 refine F.okn Jfk (by subst_eqs) (fun v A a s H m Q E x h=>?_)
 obtain ⟨p,d,o,rfl,h⟩:=h;refine ⟨_,(Jag (Jam (Jjk rfl rfl rfl T.Bb5 Jem (Jav (pv 0) rfl)))),?_⟩;obtain ⟨⟨⟨i,j⟩,c,u,t⟩,k⟩:=h;have e:=T.book Ad.Book rfl;show tRet _ _ [some (.ref p)] H;try contradiction
 refine ⟨p,_,i,_, .ref d,rfl,j,e.cls,e.n1,rfl,?_⟩;try contradiction
 refine ⟨d,c,rfl,u,?_⟩;rename_i l b r H n g q;exact k l _ n g b q (t.2.mono fun _ _ z=>z.same g)
abbrev BaS:Stmt:=inClass (top 46) 2
theorem Jfl:Jan ["self"] ["self"] (Jac BaS):=by bv_decide
def Jcn (K:W.Frag) (Ad:Adr):Sp:=fun vs H Q E=>∃ (p d:Addr) (ts:List TD),vs=[.ref p]/\BK K Ad H p d ts/\ts.length<=35/\∀ l ys H',Same H H'->H l=none->H' l=some (.lst ys)->All2 (TV K H') ts ys->Q (.ref l) H'
theorem Je7 (F:FunD K "ties" "Book.ties" BaS dV f fd) (T:Txt K mg Ad) (m_kept:MCal P w K mg base 1 "kept" (JaL Ad) ["self"] (Ja0 K Ad)) (Bb4:MCal P w K mg base 1 "plain" (IsTie Ad) ["self"] (Jco K Ad)):FnOk P w K mg base (CX1 P w) 2 f fd ["self"] (Jcn K Ad):=by
 refine F.okn Jfl (by subst_eqs) (fun a2 A u s H Y Q E D h=>?_)
 obtain ⟨p,d,v,rfl,h⟩:=h;refine ⟨_,(Jag (Jam (JeG (own:=["tie"]) (cs:=[]) (cl:=[]) rfl (pi_U (m_kept.m0 D ⋯ passF (pv 0))) (fun _ _ _ _=>(Jas (i:=0) (show [("tie" : Str)].Nodup by decide) rfl (Or.inl rfl))) (fun _ _ _ _=>(Bb4.m0 D ⋯ passF (pv 0))) rfl ⋯ rfl ⋯ hcl0 (hhas0 ⋯) hcs0))),?_⟩;obtain ⟨J,hl,k⟩:=h;obtain ⟨⟨R,V⟩,_⟩:=id J;have sl:(1000:Nat)<=sizeLine:=by decide
 show tRet _ _ [some (.ref p)] H;try infer_instance
 refine ⟨p,_,R,_,rfl,V,rfl,rfl,?_⟩;try try infer_instance
 refine ⟨p,d,v,rfl,J,fun l G Z N a1 I B=>?_⟩;try try infer_instance
 have ly:=B.length;refine ⟨l,rfl, .inl ⟨⟨G,SqL.of I⟩,CompJ.list (xs:=G) (fun i g j=>Same Z j/\All2 (TV K j) (v.take i) g) ⟨.refl _,rfl⟩ (fun i g H' hi z=>⟨SqL.of (z.1 _ _ I),by have:=z.2.length;rw [length_take] at this;ac_nf⟩) ?_ ?_⟩⟩
 ·rintro i y g j U ⟨m,a⟩;simpa only [length_singleton,List.replicate,JaW,map_cons,map_nil,Option.join_some];obtain ⟨t,ht,W⟩:=B.at_ U;obtain ⟨C,vl,L,M,O,S,h2⟩:=W.same m;obtain ⟨q,dq,rfl,X⟩:=id M;refine ⟨q,C,dq,_,rfl,X,O,rfl,?_⟩;refine ⟨_,C,_,_,_,vl,L,rfl,M,O,fun r n b x=>?_⟩;refine ⟨m.trans b,?_⟩;rw [take_succ,ht];exact (a.mono (P':=TV K n) fun _ _ z=>z.sameT b.t).append (.one ⟨r,vl,L,rfl,SqT.of x,S.sameT b.t,h2.sameT b.t⟩)
 ·rintro g j ⟨m,a⟩;rw [take_of_length_le ∅] at a;rename_i r c a0 j n b x;have hn:H r=none:=by
   cases e:H r with
   | none=>rfl
   | some o=>rw [m _ _ (N _ _ e)] at c;cases c
  exact k r g n (N.trans (m.trans b)) hn x (a.mono fun _ _ z=>z.sameT b.t)
abbrev BaJ:Stmt:=inClass (top 46) 3
theorem JeL:Jan ["self"] ["self"] (Jac BaJ):=by bv_decide
def Ja4 (K:W.Frag) (Ad:Adr):Sp:=fun vs H Q E=>∃ (p d:Addr) (ts:List TD) (F:List Str),vs=[.ref p]/\BK K Ad H p d ts/\ts.length<=35/\F.length<=8/\(∀ t∈ts,t.st∈F/\t.en∈F)/\∀ l out H',Same H H'->H l=none->H' l=some (.lst (out.map V.str))->JcB ts out->Q (.ref l) H'
theorem JeA (F:FunD K "faces" "Book.faces" BaJ dV f fd) (T:Txt K mg Ad) (m_kept:MCal P w K mg base 1 "kept" (JaL Ad) ["self"] (Ja0 K Ad)) (BbI:Cal P w K mg base 1 "faces_of" ["ties"] [] (JcI K Ad)):FnOk P w K mg base (CX1 P w) 2 f fd ["self"] (Ja4 K Ad):=by
 refine F.okn JeL (by subst_eqs) (fun M A a s H C Q E j h=>?_)
 obtain ⟨p,d,b,F,rfl,h⟩:=h;refine ⟨_,(Jag (Jam (BbI.ev j ⋯ rfl passF (Jaa (m_kept.m0 j ⋯ passF (pv 0)) Jad) (he:=by exact Jah rfl)))),?_⟩;obtain ⟨n,I,g,c,k⟩:=h;obtain ⟨⟨t,y⟩,_⟩:=id n;show tRet _ _ [some (.ref p)] H;try infer_instance
 refine ⟨p,_,t,_,rfl,y,rfl,rfl,?_⟩;try try infer_instance
 refine ⟨p,d,b,rfl,n,fun l z N r J D u=>?_⟩;try try infer_instance
 refine ⟨l,z,b,F,rfl,SqL.of D,u,I,g,c,fun q i B L m x v=>?_⟩;have G:H q=none:=by
  cases e:H q with
  | none=>rfl
  | some o=>rw [r _ _ e] at m;cases m
 exact k q i B (r.trans L) G x v
abbrev Ban:Stmt:=inClass (top 46) 0
theorem Jbt:Jan ["self","ties","row","tie"] ["self","ties"] (Jac Ban):=by bv_decide
def Jbw (K:W.Frag) (Ad:Adr):Sp:=fun vs H Q E=>∃ (x dx a:Addr) (xs:List V) (ts:List TD) (H0:Hp),vs=[.ref x, .ref a]/\H x=some (.ins Ad.Book dx [])/\H0 x=none/\Same H0 H/\SqL K H0 a xs/\All2 (TV K H0) ts xs/\(∀ t∈ts,TOk t)/\(nms ts).Nodup/\ts.length<=35/\∀ d H',Same H0 H'->H0 d=none->BK K Ad H' x d ts->Q .non H'
theorem Jdc (F:FunD K "__init__" "Book.__init__" Ban dV f fd) (T:Txt K mg Ad) (BbS:Cal P w K mg base 6 "tie_of" ["thing"] [] (JdM K Ad)):FnOk P w K mg base (CX1 P w) 7 f fd ["self","ties"] (Jbw K Ad):=by
 refine F.okn Jbt (by subst_eqs) (fun a8 A a1 s H vs Q E hr h=>?_)
 obtain ⟨x,j,a,xs,g,U,rfl,h⟩:=h;have hu:=hr.units;refine ⟨_,(Jab (JbN (pv 0) Jb6 rfl)
   (Jag (JaX PassesOwn.never rfl (pi_U (pv 1)) (Jas (i:=2) Jbt.nd rfl (Or.inl rfl))
   (Jab (Jaj (i:=3) Jbt.nd rfl (Or.inl rfl) (BbS.ev hr ⋯ rfl passF (Jaa (pv 2) Jad) (he:=by exact Jah rfl)))
   (Jab (ps_if (Jcm (Jeh (hu1 hu) (Jav (pv 3) rfl) (Jav (pv 0) rfl)) (by with_unfolding_all rfl))
   (Jag ps_no)
   Jap)
   (Jag (JbW (hu1 hu) (Jav (pv 0) rfl) (Jav (pv 3) rfl) (pv 3) rfl))))))),?_⟩
 clear hu;obtain ⟨hx,Y,S0,hS,hE,hT,a3,hl,k⟩:=h;have p:=T.book Ad.Book rfl;have sl:(1000:Nat)<=sizeLine:=by decide
 have le:=hE.length;show tSeq _ _ _ [some (.ref x),some (.ref a),none,none] H;symm_saturate;rename_i d N a7 H H1 S1 e1;symm_saturate;refine ⟨x,_,j,_,rfl,S1 _ _ hx,p.cls,p.n1,by simp,?_⟩;generalize u2:upd H1 x _=Z;symm_saturate;have e2:Z x=some (.ins Ad.Book j [("by_name", .ref d)]):=by rw [<- u2];exact Jaq.trans rfl
 have v:x≠d:=fun z=>by rw [z,N] at hx;cases hx
 have a5:Z d=some (.dK []):=by rw [<- u2,Jai (Ne.symm v)];exact e1
 have D:U d=none:=Ja7 S0 N;have r:Same U Z:=fun b u h=>by rw [<- u2,Jai (Jaf h Y)];exact S1 _ _ (S0 _ _ h)
 symm_saturate;refine ⟨a,rfl,ForA.byLN (xs:=xs) (hS.same r) (fun i σ C=>i<=xs.length/\∃ (v2 v3:Option V) (e:List (Key × V)),σ=[some (.ref x),some (.ref a),v2,v3]/\Same U C/\C x=some (.ins Ad.Book j [("by_name", .ref d)])/\C d=some (.dK e)/\BD (OV K Ad C) (g.take i) e) ⟨Nat.zero_le _,none,none,[],rfl,r,e2,a5,by rw [take_zero];exact ⟨rfl,rfl⟩⟩ (fun i σ C z=>by obtain ⟨_,_,_,_,_,z,_⟩:=z;exact hS.same z) ?_ ?_⟩
 ·rintro i y σ H3 hy ⟨hi,v2,v3,e,rfl,R,e3,l,M⟩ N0 a2;have li:i<xs.length:=(List.getElem?_eq_some_iff.mp hy).1;obtain ⟨t,ht,a0⟩:=hE.at_ hy;have ok:=hT t (List.mem_of_getElem? ht);have L:=a0.sameT R.t;have a6:=M.length;rw [length_take] at a6;try simpa only [y4dy,y86y]
  refine ⟨y,tdD t,rfl,L.rep,ok.sz,fun z=>absurd z (by rw [ok.tie];simp),fun _=>?_⟩;obtain ⟨b,vl,vg,rfl,hq,G,J⟩:=L;refine ⟨b,_,_,_,_,_,_,_,_,_,_,rfl,hq,rfl,G.rep,J.rep,fun w S o tv=>?_⟩;have ov:OV K Ad S t w:=⟨_,vl,vg,tv,Jhc Ad _ _,G.sameT o.t,J.sameT o.t⟩;obtain ⟨q,dq,rfl,I⟩:=id tv;have W:=T.tie _ (Jhc Ad (bD t.lo) (bD t.hi));have n:=o _ _ e3;have m:=o _ _ l;have B:=M.mono (P':=OV K Ad S) fun _ _ z=>z.same o
  (try ((with_reducible refine Nxt.go (by assumption) ?_);symm_saturate))
  try simpa only [y4dy,y86y]
  refine ⟨q,_,dq,_, .str t.nm,rfl,I,W.cls,W.n1,rfl,?_⟩;refine ⟨x,_,j,_, .ref d,rfl,n,p.cls,p.n1,rfl,?_⟩;refine ⟨d,_,rfl,DGet.k (k:=Sum.inr t.nm) m,?_⟩;rw [B.val];have a4:g.take (i+1)=g.take i++[t]:=by rw [take_succ,ht];rfl
  have c:t.nm∉nms (g.take i):=fun z=>by
   have e0:g=g.take i++t::g.drop (i+1):=by
    obtain ⟨h1,h2⟩:=List.getElem?_eq_some_iff.mp ht;rw [<- h2, <- List.drop_eq_getElem_cons h1,List.take_append_drop]
   have nd:=a3;unfold nms at nd z;rw [e0,map_append,map_cons] at nd;exact (nodup_append.mp nd).2.2 _ z _ mem_cons_self rfl
  rw [decide_eq_false c];try simpa only [y4dy,y86y]
  (try ((with_reducible refine Nxt.go (by assumption) ?_);symm_saturate))
  try simpa only [y4dy,y86y]
  refine ⟨x,_,j,_, .ref d,rfl,n,p.cls,p.n1,rfl,?_⟩;refine ⟨q,_,dq,_, .str t.nm,rfl,I,W.cls,W.n1,rfl,?_⟩;refine ⟨d,_,rfl,DPut.k (k:=Sum.inr t.nm) m ∅,?_⟩;generalize u5:upd S d _=H5;symm_saturate;have e5:=putE u5;have sx:Sx d S H5:=fun b u hb h=>by rw [<- u5,Jai hb];exact h
  have X:putT (g.take i) t=g.take i++[t]:=by unfold putT;rw [if_neg c]
  have O:=(B.put ov).mono (P':=OV K Ad H5) fun _ _ z=>z.sx sx m;rw [X, <- a4] at O;exact a2 _ _ ⟨li,_,_,_,rfl,fun b u h=>sx b u (Jaf h D) (o _ _ (R _ _ h)),sx _ _ v n,e5,O⟩
 ·rintro σ H3 ⟨hi,v2,v3,e,rfl,R,e3,l,M⟩;rw [take_of_length_le ∅] at M;try simpa only [y4dy,y86y]
  exact k d H3 R D ⟨⟨j,e3⟩,e,l,M⟩
abbrev BaT:Stmt:=top 40
theorem JbR:Jan ["steps","faces","told","places","face"] ["steps","faces"] (Jac BaT):=by bv_decide
def JbT (K:W.Frag) (Ad:Adr):Sp:=fun vs H Q E=>∃ (sL fL:Addr) (ts:List TD) (F:List Str) (x:Str->Rat) (fs:List Str),vs=[.ref sL, .ref fL]/\STp K Ad H ts sL/\BkG ts F x/\SqL K H fL (fs.map V.str)/\fs.length<=8/\∀ (pd:Addr) (kp:List (Key × V)) (tb:Tab) (pb:List (Str × (Int × Int))) (H':Hp),Same H H'->H pd=none->H' pd=some (.dK kp)->DV (RF K H') pb kp->(pb.map (·.1)).Nodup->TTd ts fs tb->(∀ v,lk pb v=(lk tb v).map (·.1))->Q (.ref pd) H'
theorem Jff (F:FunD K "places_of" "places_of" BaT dV f fd) (T:Txt K mg Ad) (Bag:Cal P w K mg base 3 "chains_from" ["steps","starts"] [] (Ja9 K Ad)):FnOk P w K mg base (CX1 P w) 4 f fd ["steps","faces"] (JbT K Ad):=by
 refine F.okx JbR (fun vs H Q E h=>?_) (fun b5 A a2 s H vs Q E hr h=>?_)
 ·obtain ⟨sL,fL,O,F,x,fs,rfl,_⟩:=h;rfl
 obtain ⟨sL,fL,O,F,x,fs,rfl,h⟩:=h;have hu:=hr.units;refine ⟨_,(Jab (Jaj (i:=2) JbR.nd rfl (Or.inl rfl) (Bag.ev hr ⋯ rfl pass1 (Jaa (pv 0) (Jaa (pv 1) Jad)) (he:=by exact Jah rfl)))
   (Jab (Jaj (i:=3) JbR.nd rfl (Or.inl rfl) Jb6)
   (Jab (JaX PassesOwn.leaving rfl (JhA (pv 2)) (Jas (i:=4) JbR.nd rfl (Or.inl rfl))
   (Jag (JbW (hu1 hu) (pv 3) (pv 4) (pe_ix ix_U (JaK (hu1 hu) (pv 2) (pv 4) (fun _ _=>rfl)) Jae (fun _ _=>rfl)) rfl)))
   (Jag (Jam (pv 3)))))),?_⟩
 clear hu;obtain ⟨a1,hg,hF,l8,k⟩:=h;obtain ⟨⟨sx,hS,hX⟩,X,U⟩:=a1;have sl:(1000:Nat)<=sizeLine:=by decide
 have a8:(ssD O).length<=70:=by unfold ssD;rw [length_map];exact hg.l70
 show tSeq _ _ _ [some (.ref sL),some (.ref fL),none,none,none] H;nofun;refine ⟨sL,fL,sx,ssD O,fs,_,rfl,hS,hX,hF,l8,JhH X U hg.pot,a8,fun s hs=>?_,fun B Y m P H1 S1 h0 G hT hP hB hi hk=>?_⟩
 ·obtain ⟨s',a7,rfl⟩:=mem_map.mp hs;exact hg.fb s' a7
 have hP:P=lsD O fs:=hP;subst hP;have a3:TTd O fs m:=⟨X,U,hk,hi,hB⟩;have b3:=hB.tb_len hk
 (try ((with_reducible refine Nxt.go (by assumption) ?_);nofun))
 nofun;rename_i C b b1 H1 H2 S2 N;nofun;have M:C≠B:=fun z=>by rw [z,G] at b;cases b
 (try ((with_reducible refine Nxt.go (by assumption) ?_);nofun))
 nofun;refine ⟨B,Y,m.map (·.1),rfl,S2 _ _ G,hT.keys,fun od=>?_⟩;generalize uf:upd H2 B _=H3;nofun;have ef:H3 B=some (.frz od (.dK Y)):=by rw [<- uf];exact Jaq
 have a9:Same H H3:=fun c w h=>by rw [<- uf,Jai (Jaf h h0)];exact S2 _ _ (S1 _ _ h)
 have b0:H3 C=some (.dK []):=by rw [<- uf,Jai M];exact N
 have a0:DV (RT K H H3) m Y:=(hT.mono fun _ _ z=>z.same S2).mono fun _ _ z=>z.putL uf (S2 _ _ G);have r:=Ja7 S1 b;refine ForJ.keys (fun i σ J=>i<=m.length/\∃ (v4:Option V) (R:List (Key × V)) (g:List (Str × (Int × Int))),σ=[some (.ref sL),some (.ref fL),some (.ref B),some (.ref C),v4]/\Same H J/\J B=some (.frz od (.dK Y))/\DV (RT K H J) m Y/\J C=some (.dK R)/\DV (RF K J) g R/\(g.map (·.1)).Nodup/\g.length<=i/\(∀ v e,lk g v=some e->∃ L,lk m v=some L/\L.1=e)/\∀ j z,j<i->(m.map (·.1))[j]?=some z->∃ e,lk g z=some e) ⟨Nat.zero_le _,none,[],[],rfl,a9,ef,a0,b0,rfl,by simp,Nat.le_refl _,(fun v e h=>by cases h),fun j z Z=>absurd Z (Nat.not_lt_zero _)⟩ (fun i σ J z=>by obtain ⟨_,_,_,_,_,_,z,_⟩:=z;exact z) ?_ ?_
 ·rintro i z σ H4 hz ⟨a6,v4,R,g,rfl,S4,t,I,d,o,D,a5,n,u⟩ N0 a4;have li:=(List.getElem?_eq_some_iff.mp hz).1;rw [length_map] at li;obtain ⟨e,he⟩:=Jdw (List.mem_of_getElem? hz);obtain ⟨v,hv,p,qv,l,xs,rfl,hp,hq,hl,b2,hf⟩:=I.at he;have b4:=o.len;nofun;refine ⟨B, .ref p,rfl,by rw [<- hv];exact DGet.f (k:=Sum.inr z) t,?_⟩;nofun;refine ixT (i:=0) hp rfl ?_;nofun;refine ⟨C,_,rfl,DPut.k (k:=Sum.inr z) d ∅,?_⟩;generalize W:upd H4 C _=H5;nofun;have e5:=putE W;have T5:SameT H4 H5:=SameT.put W d rfl;refine a4 _ _ ⟨li,_,_,pu g z e.1,rfl,fun c w h=>by rw [<- W,Jai (Jaf h r)];exact S4 _ _ h,by rw [<- W,Jai (Ne.symm M)];exact t,I.mono (fun _ _ z=>z.putL W d),e5,(o.mono (R':=RF K H5) fun _ _ z=>FrV.sameT T5 z).put (FrV.sameT T5 hq),pu_nd D,by have:=JdF (l:=g) (f:=z) (a:=e.1);ac_nf,fun v L h=>?_,fun j y Z hy=>?_⟩
  ·rw [lk_pu] at h;by_cases c:z=v
   ·rw [if_pos c] at h;cases h;exact ⟨e,by rw [<- c];exact he,rfl⟩
   ·rw [if_neg c] at h;exact n v L h
  ·rw [lk_pu];by_cases c:z=y
   ·exact ⟨_,if_pos c⟩
   ·rw [if_neg c];nofun;refine u j y ?_ hy;have : j≠i:=fun q=>by
     rw [q,hz] at hy;cases hy;exact c rfl
    ac_nf
 ·rintro σ H4 ⟨a6,v4,R,g,rfl,S4,t,I,d,o,D,a5,n,u⟩;nofun;refine k C R m g H4 S4 r d o D a3 fun v=>?_;cases G:lk m v with
  | none=>
   cases N:lk g v with
   | none=>rfl
   | some e=>
    obtain ⟨L,h,_⟩:=n v e N;rw [G] at h;cases h
  | some e=>
   obtain ⟨j,Z⟩:=List.getElem?_of_mem (Jgg G);obtain ⟨N,S⟩:=u j v (List.getElem?_eq_some_iff.mp Z).1 Z;obtain ⟨L,h,q⟩:=n v N S;rw [G] at h;cases h;rw [S, <- q];rfl
abbrev Baz:Stmt:=top 41
theorem Jd0:Jan ["number"] ["number"] (Jac Baz):=by bv_decide
def Jb1 (K:W.Frag):Sp:=fun vs H Q E=>∃ (v:V) (n:Int × Int),vs=[v]/\FrV K H v n.1 n.2/\FB 1000 700 n/\Q (.int (Jbc n)) H
theorem JdW (F:FunD K "whole_below" "whole_below" Baz dV f fd) (T:Txt K mg Ad)  : FnOk P w K mg base (CX1 P w) 1 f fd ["number"] (Jb1 K):=by
 refine F.okn Jd0 (by subst_eqs) (fun e A a s H d Q E g h=>?_)
 obtain ⟨v,n,rfl,h⟩:=h;refine ⟨_,(Jag (Jam (pe_op Jaw (pe_ix ix_U (pv 0) Jae (fun _ _=>rfl)) (pe_ix ix_U (pv 0) Jae (fun _ _=>rfl))))),?_⟩;obtain ⟨c,b,k⟩:=h;show tRet _ _ [some v] H;nofun;refine ixF0 c (ixF1 c ?_);nofun;exact ⟨divOk (n:=700) (by have:=b.b1;ac_nf) b.s2,k⟩
abbrev BaA:Stmt:=top 42
theorem JdZ:Jan ["number"] ["number"] (Jac BaA):=by bv_decide
def Jb0 (K:W.Frag):Sp:=fun vs H Q E=>∃ (v:V) (n:Int × Int),vs=[v]/\FrV K H v n.1 n.2/\FB 1000 700 n/\Q (.int (ceilF n)) H
theorem JdV (F:FunD K "whole_above" "whole_above" BaA dV f fd) (T:Txt K mg Ad)  : FnOk P w K mg base (CX1 P w) 1 f fd ["number"] (Jb0 K):=by
 refine F.okn JdZ (by subst_eqs) (fun e A a s H d Q E g h=>?_)
 obtain ⟨v,n,rfl,h⟩:=h;refine ⟨_,(Jag (Jam (pe_un Jfu (pe_op Jaw (pe_un Jfu (pe_ix ix_U (pv 0) Jae (fun _ _=>rfl))) (pe_ix ix_U (pv 0) Jae (fun _ _=>rfl)))))),?_⟩;obtain ⟨c,b,k⟩:=h;show tRet _ _ [some v] H;nofun;refine ixF0 c ?_;nofun;refine ixF1 c ?_;nofun;exact ⟨divOk (n:=700) (by have:=b.b1;ac_nf) b.s2,k⟩
abbrev Bas:Stmt:=top 43
theorem JaY:Jan ["steps","reached_chains","places","enough","step","place"] ["steps","reached_chains","places"] (Jac Bas):=by bv_decide
def JbD (K:W.Frag) (Ad:Adr):Sp:=fun vs H Q E=>∃ (sL td pd:Addr) (ts:List TD) (tb:Tab) (pb:List (Str × (Int × Int))) (H0:Hp),vs=[.ref sL, .ref td, .ref pd]/\STp K Ad H ts sL/\TDk K H0 H tb td/\PDk K H pb pd/\(∀ s∈Ch.all ts,FB 250 40 s.c)/\(∀ v e,lk tb v=some e->FB 1000 700 e.1)/\(∀ v e,lk pb v=some e->FB 1000 700 e)/\(∀ s∈Ch.all ts, ∃ e,lk pb s.src=some e)/\Q (.int (enD (ssD ts) (fun v=>(lk tb v).map (·.1)) (lk pb))) H
theorem JdA (F:FunD K "enough_above" "enough_above" Bas dV f fd) (T:Txt K mg Ad) (Bbl:Cal P w K mg base 1 "whole_above" ["number"] [] (Jb0 K)) (BaZ:Cal P w K mg base 1 "whole_below" ["number"] [] (Jb1 K)):FnOk P w K mg base (CX1 P w) 2 f fd ["steps","reached_chains","places"] (JbD K Ad):=by
 refine F.okn JaY (by subst_eqs) (fun a4 A W s H vs Q E G h=>?_)
 obtain ⟨J,o,L,t,c,n,H0,rfl,h⟩:=h;have B:=G.units;refine ⟨_,(Jab (Jaj (i:=3) JaY.nd rfl (Or.inl rfl) Jae)
   (Jab (JaX PassesOwn.never rfl (pi_U (pv 0)) (Jas (i:=4) JaY.nd rfl (Or.inl rfl))
   (Jag (ps_if (PW.pt (JdG (Jcm (Jeh (hu1 B) (Jav (pv 4) rfl) (pv 1)) (by with_unfolding_all rfl)) (JcE (Jcm (Jcl (hu1 B) (Jav (pv 4) rfl) (pv 1)) (by with_unfolding_all rfl)))))
   (Jab (Jaj (i:=5) JaY.nd rfl (Or.inl rfl) (Bbl.ev G ⋯ rfl passF (Jaa (pe_ix ix_U (JaK (hu1 B) (pv 1) (Jav (pv 4) rfl) (fun _ _=>rfl)) Jae (fun _ _=>rfl)) Jad) (he:=by exact Jah rfl)))
   (Jag (Jaj (i:=3) JaY.nd rfl (Or.inl rfl) (Jat (JgP rfl) rfl T.n_max JjB (Jaa (pv 3) (Jaa (pe_op Jeg (pe_op Jeg (pv 5) (BaZ.ev G ⋯ rfl passF (Jaa (JaK (hu1 B) (pv 2) (Jav (pv 4) rfl) (fun _ _=>rfl)) Jad) (he:=by exact Jah rfl))) (BaZ.ev G ⋯ rfl passF (Jaa (Jav (pv 4) rfl) Jad) (he:=by exact Jah rfl))) Jad))))))
   Jap)))
   (Jag (Jam (pv 3))))),?_⟩
 clear B;obtain ⟨⟨⟨sx,hS,hX⟩,_,_⟩,⟨kt,Z,D,_⟩,⟨kp,ep,hP⟩,Y,a1,a0,X,k⟩:=h;have g:=T.c_Step Ad.Step rfl;have lX:=hX.length;show tSeq _ _ _ [some (.ref J),some (.ref o),some (.ref L),none,none,none] H;and_intros;refine ⟨J,rfl,ForA.byLN (xs:=sx) hS (fun i σ I=>i<=sx.length/\∃ (v4 C:Option V),σ=[some (.ref J),some (.ref o),some (.ref L),some (.int (((ssD t).take i).foldl (enS (fun v=>(lk c v).map (·.1)) (lk n)) 0)),v4,C]/\I=H) ⟨Nat.zero_le _,none,none,rfl,rfl⟩ (fun i σ I z=>by obtain ⟨_,_,_,_,rfl⟩:=z;exact hS) ?_ ?_⟩
 ·rintro i y σ I hy ⟨hi,v4,C,rfl,rfl⟩ N0 l;have O:=(List.getElem?_eq_some_iff.mp hy).1;obtain ⟨s,hs,p,r,vc,pr,rfl,d,R,a3⟩:=hX.at_ hy;obtain ⟨s0,u,es⟩:=mem_map.mp (List.mem_of_getElem? hs);have j:((ssD t).take (i+1)).foldl (enS (fun v=>(lk c v).map (·.1)) (lk n)) 0=enS (fun v=>(lk c v).map (·.1)) (lk n) (((ssD t).take i).foldl (enS (fun v=>(lk c v).map (·.1)) (lk n)) 0) s:=by rw [take_succ,hs,foldl_append];rfl
  generalize ((ssD t).take i).foldl (enS (fun v=>(lk c v).map (·.1)) (lk n)) 0=m at j ⊢;have N:FB 1000 700 s.cost:=by rw [<- es];exact (Y s0 u).mono ⋯ ⋯
  and_intros;refine ⟨p,_,r,_, .str s.tgt,rfl,d,g.cls,g.n2,rfl,?_⟩;refine ⟨o,_,rfl,DGet.k (k:=Sum.inr s.tgt) Z,?_⟩;cases ea:lk c s.tgt with
  | none=>
   rw [D.no ea];try simpa only [y4dy,Option.isSome_none]
   refine l _ _ ⟨O,some (.ref p),C,?_,rfl⟩;rw [j,JjD (by show (lk c s.tgt).map _=none;rw [ea];rfl)]
  | some a=>
   obtain ⟨va,x,pa,qa,la,xa,rfl,a2,M,_⟩:=D.at ea;rw [x];try simpa only [y4dy,Option.isSome_some]
   refine ⟨p,_,r,_, .str s.src,rfl,d,g.cls,g.n1,rfl,?_⟩;refine ⟨o,_,rfl,DGet.k (k:=Sum.inr s.src) Z,?_⟩;cases eb:lk c s.src with
   | some b=>
    rw [(D.at eb).choose_spec.1];try simpa only [y4dy,Option.isSome_some]
    refine l _ _ ⟨O,some (.ref p),C,?_,rfl⟩;rw [j,JjE (b:=b.1) (by show (lk c s.src).map _=some _;rw [eb];rfl)]
   | none=>
    rw [D.no eb];try simpa only [y4dy,Option.isSome_none]
    obtain ⟨q,S⟩:∃ e,lk n s.src=some e:=by rw [<- es];exact X s0 u
    obtain ⟨vq,U,fq⟩:=hP.at S;refine ⟨p,_,r,_, .str s.tgt,rfl,d,g.cls,g.n2,rfl,?_⟩;refine ⟨o, .ref pa,rfl,by rw [<- x];exact DGet.k (k:=Sum.inr s.tgt) Z,?_⟩;and_intros;refine ixT (i:=0) a2 rfl ?_;and_intros;refine ⟨_,a.1,rfl,M,a1 _ _ ea,?_⟩;and_intros
    (try ((with_reducible refine Nxt.go (by assumption) ?_);and_intros))
    and_intros;refine ⟨p,_,r,_, .str s.src,rfl,d,g.cls,g.n1,rfl,?_⟩;refine ⟨L,vq,rfl,by rw [<- U];exact DGet.k (k:=Sum.inr s.src) ep,?_⟩;and_intros;refine ⟨_,q,rfl,fq,a0 _ _ S,?_⟩;and_intros;refine ⟨p,_,r,_,vc,rfl,d,g.cls,g.n3,rfl,?_⟩;and_intros;refine ⟨_,s.cost,rfl,R,N,?_⟩;and_intros;refine ⟨_,_,rfl,?_⟩;and_intros;refine l _ _ ⟨O,some (.ref p),some (.int (ceilF a.1)),?_,rfl⟩;rw [j,enS_y (a:=a.1) (p:=q) (by show (lk c s.tgt).map _=some _;rw [ea];rfl) (by show (lk c s.src).map _=none;rw [eb];rfl) S]
 ·rintro σ I ⟨hi,v4,C,rfl,rfl⟩;and_intros;rw [take_of_length_le ∅];exact k
abbrev Bae:Stmt:=top 44
theorem JaN:Jan ["steps","reached_chains","places","lift","told","face"] ["steps","reached_chains","places"] (Jac Bae):=by bv_decide
def Ja5 (K:W.Frag) (Ad:Adr):Sp:=fun vs H Q E=>∃ (sL td pd:Addr) (ts:List TD) (tb:Tab) (pb:List (Str × (Int × Int))) (H0:Hp),vs=[.ref sL, .ref td, .ref pd]/\STp K Ad H ts sL/\TDk K H0 H tb td/\PDk K H pb pd/\(∀ s∈Ch.all ts,FB 250 40 s.c)/\(∀ v e,lk tb v=some e->FB 1000 700 e.1)/\(∀ v e,lk pb v=some e->FB 1000 700 e)/\(∀ s∈Ch.all ts, ∃ e,lk pb s.src=some e)/\pb.length<64/\∀ (l:Addr) (zs:List V) (out:List Str) (H':Hp),Same H H'->H l=none->H' l=some (.lst zs)->JgL out (pb.map (·.1))->All2 (QV K H') (stD ts (fun v=>(lk tb v).map (·.1)) (lk pb) out) zs->Q (.ref l) H'
theorem Jcz (F:FunD K "stretched_placing" "stretched_placing" Bae dV f fd) (T:Txt K mg Ad) (Bbe:Cal P w K mg base 2 "enough_above" ["steps","reached_chains","places"] [] (JbD K Ad)) (BbE:Cal P w K mg base 2 "plus" ["one","other"] [] (JdL K)):FnOk P w K mg base (CX1 P w) 3 f fd ["steps","reached_chains","places"] (Ja5 K Ad):=by
 refine F.okn JaN (by subst_eqs) (fun c2 A b2 s H vs Q E hr h=>?_)
 obtain ⟨sL,S,U,I,j,u,H0,rfl,h⟩:=h;have hu:=hr.units;refine ⟨_,(Jab (Jaj (i:=3) JaN.nd rfl (Or.inl rfl) (JaU (Jaa (Bbe.ev hr ⋯ rfl passF (Jaa (pv 0) (Jaa (pv 1) (Jaa (pv 2) Jad))) (he:=by exact Jah rfl)) (Jaa Jae Jad))))
   (Jab (Jaj (i:=4) JaN.nd rfl (Or.inl rfl) (JbL Jad))
   (Jab (JaX PassesOwn.never rfl (pi_U (Jat (Jd2 rfl) rfl T.Bb6 JeW (Jaa (pv 2) Jad))) (Jas (i:=5) JaN.nd rfl (Or.inl rfl))
   (Jag (ps_if (Jcm (Jeh (hu1 hu) (pv 5) (pv 1)) (by with_unfolding_all rfl))
   (Jag (Jbh (pe_bm PySem.F.plainAttrs_list PySem.F.slot_list_append PySem.F.type_list_append Jbf (pv 4) (Jaa (JaU (Jaa (pv 5) (Jaa (pe_ix ix_U (JaK (hu1 hu) (pv 1) (pv 5) (fun _ _=>rfl)) Jae (fun _ _=>rfl)) Jad))) Jad) (hs:=by exact Jah rfl))))
   (Jag (Jbh (pe_bm PySem.F.plainAttrs_list PySem.F.slot_list_append PySem.F.type_list_append Jbf (pv 4) (Jaa (JaU (Jaa (pv 5) (Jaa (BbE.ev hr ⋯ rfl passF (Jaa (JaK (hu1 hu) (pv 2) (pv 5) (fun _ _=>rfl)) (Jaa (pv 3) Jad)) (he:=by exact Jah rfl)) Jad))) Jad) (hs:=by exact Jah rfl)))))))
   (Jag (Jam (pv 4)))))),?_⟩
 clear hu;obtain ⟨b0,a6,a1,X,Y,O,b4,c0,k⟩:=h;obtain ⟨kt,et,hT,hf⟩:=id a6;obtain ⟨kp,ep,hP⟩:=id a1;have sl:(1000:Nat)<=sizeLine:=by decide
 show tSeq _ _ _ [some (.ref sL),some (.ref S),some (.ref U),none,none,none] H;nofun;refine ⟨sL,S,U,I,j,u,H0,rfl,b0,a6,a1,X,Y,O,b4,?_⟩;have B:=en_lt (f:=fun v=>(lk j v).map (·.1)) (g:=lk u) (fun v e h=>by obtain ⟨a,h1,h2⟩:=Option.map_eq_some_iff.mp h;rw [<- h2];exact Y v a h1) O (ssD I) 0 (fun s hs=>by obtain ⟨y,hy,rfl⟩:=mem_map.mp hs;exact (X y hy).mono ⋯ ⋯) (Int.le_refl _) (by exact_mod_cast Nat.two_pow_pos 1010);have B:0<=enD (ssD I) (fun v=>(lk j v).map (·.1)) (lk u)/\enD (ssD I) (fun v=>(lk j v).map (·.1)) (lk u)<2 ^ 1010:=B;nofun;refine ⟨len2,?_⟩;rename_i lf b8 b7 H H1 S1 e1;nofun
 (try ((with_reducible refine Nxt.go (by assumption) ?_);nofun))
 nofun;refine ⟨len0,?_⟩;rename_i J o b9 H1 H2 S2 e2;nofun
 (try ((with_reducible refine Nxt.go (by assumption) ?_);nofun))
 nofun;refine ⟨U,kp,u.map (·.1),rfl,S2 _ _ (S1 _ _ ep),hP.keys,by rw [length_map];ac_nf,?_⟩;intro so b r N;generalize L:upd H2 so _=H3;have S3:=newS r L;have e3:=newE L;have c1:=S1.trans (S2.trans S3);have lo:b.length=u.length:=by rw [N.1.length_eq,length_map]
 have a2:J≠so:=fun z=>by rw [<- z,e2] at r;cases r
 generalize hst':stD I (fun v=>(lk j v).map (·.1)) (lk u)=st at k;have b6:∀ i,(st (b.take i)).length=(b.take i).length:=fun i=>by rw [<- hst'];unfold stD;rw [length_map]
 have fl:FrV K H1 (.ref lf) (enD (ssD I) (fun v=>(lk j v).map (·.1)) (lk u)) 1:=FrV.of e1;generalize hm:enD (ssD I) (fun v=>(lk j v).map (·.1)) (lk u)=m at *;refine ⟨so,rfl,ForA.byLN (xs:=b.map V.str) (SqL.of e3) (fun i σ H'=>i<=b.length/\∃ (v5:Option V) (zs:List V),σ=[some (.ref sL),some (.ref S),some (.ref U),some (.ref lf),some (.ref J),v5]/\Same H1 H'/\H' so=some (.lst (b.map V.str))/\H' J=some (.lst zs)/\All2 (QV K H') (st (b.take i)) zs) ⟨Nat.zero_le _,none,[],rfl,S2.trans S3,e3,S3 _ _ e2,by rw [take_zero, <- hst'];exact rfl⟩ (fun i σ H' z=>by obtain ⟨_,_,_,_,_,z,_⟩:=z;exact SqL.of z) ?_ ?_⟩
 ·rintro i y σ H4 hy ⟨hi,v5,zs,rfl,W,M,d,R⟩ N0 a3;rw [List.getElem?_map] at hy;obtain ⟨v,hv,rfl⟩:=Option.map_eq_some_iff.mp hy;have li:=(List.getElem?_eq_some_iff.mp hv).1;have a8:=R.length;rw [b6,length_take] at a8;have n:=S1.trans W;have Z:=n _ _ et;have b5:=n _ _ ep;obtain ⟨q,hq⟩:=Jdw (N.1.mem_iff.mp (List.mem_of_getElem? hv));have a5:∀ e,(st [v])=[(v,e)]->st (b.take (i+1))=st (b.take i)++[(v,e)]:=fun e h=>by
   rw [take_succ,hv, <- h, <- hst'];unfold stD;rw [map_append];rfl
  nofun;refine ⟨S,_,rfl,DGet.k (k:=Sum.inr v) Z,?_⟩;cases ea:lk j v with
  | some e=>
   obtain ⟨va,a7,p,qv,l,xs,rfl,hp,b3,_⟩:=hT.at ea;rw [a7];try simpa only [Option.isSome_some]
   refine ⟨.inl ⟨rfl,_,SqL.of d⟩,?_⟩;refine ⟨S, .ref p,rfl,by rw [<- a7];exact DGet.k (k:=Sum.inr v) Z,?_⟩;nofun;refine ixT (i:=0) (hp.same n) rfl ?_;nofun;refine ⟨len2,?_⟩;rename_i np a0 a4 H4 H5 D e5;nofun;refine ⟨J,_,_,rfl,rfl,D _ _ d,by ac_nf,?_⟩;generalize u6:upd H5 J _=H6;nofun;have e6:=putE u6;have T6:SameT H5 H6:=SameT.put u6 (D _ _ d) rfl;refine a3 _ _ ⟨li,_,_,rfl,fun c w h=>by rw [<- u6,Jai (Jaf h o)];exact D _ _ (W _ _ h),by rw [<- u6,Jai (Ne.symm a2)];exact D _ _ M,e6,?_⟩;rw [a5 e.1 (by rw [<- hst'];exact Jik (by show (lk j v).map _=some _;rw [ea];rfl))];exact (R.mono (P':=QV K H6) fun _ _ z=>z.sameT (D.t.trans T6)).append (.one ⟨np,qv,rfl,T6 _ _ rfl e5,(b3.same (n.trans D)).sameT T6⟩)
  | none=>
   rw [hT.no ea];try simpa only [Option.isSome_none]
   obtain ⟨vq,a9,fq⟩:=hP.at hq;have x:=O _ _ hq;refine ⟨.inl ⟨rfl,_,SqL.of d⟩,?_⟩;refine ⟨U,vq,rfl,by rw [<- a9];exact DGet.k (k:=Sum.inr v) b5,?_⟩;nofun;refine ⟨vq, .ref lf,q.1,q.2,m,1,rfl,FrV.same n fq,fl.same W,x.s1.mono ⋯,x.s2.mono ⋯,?_, .lit ⋯ ⋯,x.b1,by decide,x.g1,by unfold Mth.g;simp,fun ap H5 D e5=>?_⟩
   ·refine (show Mth.Sz 1010 m from ?_).mono ⋯;unfold Mth.Sz;have h1:=B.2;have hC:((2 ^ 1010:Nat):Int)=(2:Int) ^ 1010:=by norm_cast
    rw [<- hC] at h1;have h0:=B.1;generalize (2 ^ 1010:Nat)=C at *;ac_nf
   nofun;refine ⟨len2,?_⟩;rename_i np a0 a4 H5 H6 S6 e6;nofun;refine ⟨J,_,_,rfl,rfl,S6 _ _ (D _ _ d),by ac_nf,?_⟩;generalize u7:upd H6 J _=H7;nofun;have e7:=putE u7;have G:=D.trans S6;have T7:SameT H6 H7:=SameT.put u7 (G _ _ d) rfl;refine a3 _ _ ⟨li,_,_,rfl,fun c w h=>by rw [<- u7,Jai (Jaf h o)];exact G _ _ (W _ _ h),by rw [<- u7,Jai (Ne.symm a2)];exact G _ _ M,e7,?_⟩;rw [a5 (addF q (m,1)) (by rw [<- hst', <- hm];exact Jij (by show (lk j v).map _=none;rw [ea];rfl) hq)];exact (R.mono (P':=QV K H7) fun _ _ z=>z.sameT (G.t.trans T7)).append (.one ⟨np, .ref ap,rfl,T7 _ _ rfl e6,⟨ap,rfl,(SqT.of (S6 _ _ e5)).sameT T7⟩⟩)
 ·rintro σ H4 ⟨hi,v5,zs,rfl,W,M,d,R⟩;nofun;rw [take_of_length_le (by rw [length_map];exact Nat.le_refl _)] at R;exact k J zs b H4 (S1.trans W) (Ja7 S1 o) d N R
abbrev BaB:Stmt:=top 45
theorem Ja8:Jan ["chains","one","other","least","greatest"] ["chains","one","other"] (Jac BaB):=by bv_decide
def Jbn (K:W.Frag) (Ad:Adr):Sp:=fun vs H Q E=>∃ (cd:Addr) (one other:Str) (cb:List (Str × Addr)) (kc:List (Key × V)) (tb1 tb2:Tab) (t1 t2:Addr) (H0:Hp),vs=[.ref cd, .str one, .str other]/\H cd=some (.dK kc)/\DV (fun a v=>v=.ref a) cb kc/\lk cb one=some t1/\lk cb other=some t2/\TDk K H0 H tb1 t1/\TDk K H0 H tb2 t2/\(∀ v e,lk tb1 v=some e->FB 1000 700 e.1)/\(∀ v e,lk tb2 v=some e->FB 1000 700 e.1)/\∀ (p:Addr) (vl vg:V) (H':Hp),Same H H'->H' p=some (.tup [vl,vg])->BV K H' ((lk tb2 one).map fun e=>subF (0,1) e.1) vl->BV K H' ((lk tb1 other).map (·.1)) vg->Q (.ref p) H'
theorem JdQ (F:FunD K "gap_between" "gap_between" BaB dV f fd) (T:Txt K mg Ad) (Bbk:Cal P w K mg base 3 "minus" ["one","other"] [] (JcT K)):FnOk P w K mg base (CX1 P w) 4 f fd ["chains","one","other"] (Jbn K Ad):=by
 refine F.okn Ja8 (by subst_eqs) (fun a1 A S s H vs Q E Z h=>?_)
 obtain ⟨m,one,other,cb,kc,z,n,G,y,H0,rfl,h⟩:=h;have g:=Z.units;refine ⟨_,(Jab (Jaj (i:=3) Ja8.nd rfl (Or.inl rfl) JaM)
   (Jab (Jaj (i:=4) Ja8.nd rfl (Or.inl rfl) JaM)
   (Jab (ps_if (Jcm (Jeh (hu1 g) (pv 1) (JaK (hu1 g) (pv 0) (pv 2) (fun _ _=>rfl))) (by with_unfolding_all rfl))
   (Jag (Jaj (i:=3) Ja8.nd rfl (Or.inl rfl) (Bbk.ev Z ⋯ rfl passF (Jaa (Jc2 (v:=.ref _) rfl T.Bb7 T.Bb8) (Jaa (pe_ix ix_U (JaK (hu1 g) (JaK (hu1 g) (pv 0) (pv 2) (fun _ _=>rfl)) (pv 1) (fun _ _=>rfl)) Jae (fun _ _=>rfl)) Jad)) (he:=by exact Jah rfl))))
   Jap)
   (Jab (ps_if (Jcm (Jeh (hu1 g) (pv 2) (JaK (hu1 g) (pv 0) (pv 1) (fun _ _=>rfl))) (by with_unfolding_all rfl))
   (Jag (Jaj (i:=4) Ja8.nd rfl (Or.inl rfl) (pe_ix ix_U (JaK (hu1 g) (JaK (hu1 g) (pv 0) (pv 1) (fun _ _=>rfl)) (pv 2) (fun _ _=>rfl)) Jae (fun _ _=>rfl))))
   Jap)
   (Jag (Jam (JaU (Jaa (pv 3) (Jaa (pv 4) Jad))))))))),?_⟩
 clear g;obtain ⟨I,hC,h1,h2,⟨k1,C,u,_⟩,⟨k2,r,x,_⟩,a0,W,k⟩:=h;obtain ⟨v1,B,rfl⟩:=hC.at h1;obtain ⟨v2,D,rfl⟩:=hC.at h2;show tSeq _ _ _ [some (.ref m),some (.str one),some (.str other),none,none] H;nofun;refine ⟨m, .ref y,rfl,by rw [<- D];exact DGet.k (k:=Sum.inr other) I,?_⟩;nofun;refine ⟨y,_,rfl,DGet.k (k:=Sum.inr one) r,?_⟩;rename_i N hN;have a:∀ (vl:V) (j:Hp),Same H j->BV K j ((lk n one).map fun e=>subF (0,1) e.1) vl->N [some (.ref m),some (.str one),some (.str other),some vl,some .non] j:=by
  intro vl j c Y
  (try ((with_reducible refine Nxt.go (by assumption) ?_);nofun))
  nofun;refine ⟨m, .ref G,rfl,by rw [<- B];exact DGet.k (k:=Sum.inr one) (c _ _ I),?_⟩;nofun;refine ⟨G,_,rfl,DGet.k (k:=Sum.inr other) (c _ _ C),?_⟩;cases ea:lk z other with
  | none=>
   rw [u.no ea];try simpa only [Option.isSome_none]
   (try ((with_reducible refine Nxt.go (by assumption) ?_);nofun))
   nofun;refine ⟨len2,?_⟩;rename_i p U X j M o J;nofun;exact k p vl .non M (c.trans o) J (Y.sameT o.t) (by rw [ea];rfl)
  | some e=>
   obtain ⟨va,b,q,O,l,xs,rfl,L,R,_⟩:=u.at ea;rw [b];try simpa only [Option.isSome_some]
   refine ⟨m, .ref G,rfl,by rw [<- B];exact DGet.k (k:=Sum.inr one) (c _ _ I),?_⟩;nofun;refine ⟨G, .ref q,rfl,by rw [<- b];exact DGet.k (k:=Sum.inr other) (c _ _ C),?_⟩;nofun;refine ixT (i:=0) (L.same c) rfl ?_;nofun
   (try ((with_reducible refine Nxt.go (by assumption) ?_);nofun))
   nofun;refine ⟨len2,?_⟩;rename_i p U X j M o J;nofun;exact k p vl O M (c.trans o) J (Y.sameT o.t) (by rw [ea];exact R.same (c.trans o))
 cases eb:lk n one with
 | none=>
  rw [x.no eb];try simpa only [Option.isSome_none]
  exact a .non H (Same.refl _) (by rw [eb];rfl)
 | some e=>
  obtain ⟨va,b,q,O,l,xs,rfl,L,R,_⟩:=x.at eb;have d:=W _ _ eb;rw [b];try simpa only [Option.isSome_some]
  refine ⟨m, .ref y,rfl,by rw [<- D];exact DGet.k (k:=Sum.inr other) I,?_⟩;nofun;refine ⟨y, .ref q,rfl,by rw [<- b];exact DGet.k (k:=Sum.inr one) r,?_⟩;nofun;refine ixT (i:=0) L rfl ?_;nofun;refine ⟨.ref Ad.ZERO,O,0,1,e.1.1,e.1.2,rfl,⟨Ad.ZERO,rfl,T.Bb0 _⟩,R, .lit ⋯ ⋯, .lit ⋯ ⋯,d.s1.mono ⋯,d.s2.mono ⋯,by decide,d.b1,by decide,d.g1,fun p j c e1=>?_⟩;refine a (.ref p) j c ?_;rw [eb];exact ⟨p,rfl,SqT.of e1⟩
abbrev Baf:Stmt:=inClass (top 46) 8
theorem JbB:Jan ["self","one","other","faces"] ["self","one","other"] (Jac Baf):=by bv_decide
def JaR (K:W.Frag) (Ad:Adr):Sp:=fun vs H Q E=>∃ (p d:Addr) (ts:List TD) (F:List Str) (one other:Str),vs=[.ref p, .str one, .str other]/\BK K Ad H p d ts/\ts.length<=35/\F.length<=8/\(∀ t∈ts,t.st∈F/\t.en∈F)/\(∃ t∈ts,one=t.st\/one=t.en)/\(∃ t∈ts,other=t.st\/other=t.en)/\∀ H',Same H H'->Q .non H'
theorem JcC (F:FunD K "check_faces" "Book.check_faces" Baf dV f fd) (T:Txt K mg Ad) (m_faces:MCal P w K mg base 2 "faces" (JaL Ad) ["self"] (Ja4 K Ad)):FnOk P w K mg base (CX1 P w) 3 f fd ["self","one","other"] (JaR K Ad):=by
 refine F.okn JbB (by subst_eqs) (fun I A c s H y Q E t h=>?_)
 obtain ⟨p,d,m,F,one,other,rfl,h⟩:=h;refine ⟨_,(Jab (Jaj (i:=3) JbB.nd rfl (Or.inl rfl) (m_faces.m0 t ⋯ passF (pv 0)))
   (Jag (ps_if (PW.pt (pw_or (Jar Jfi (pv 1) (pv 3) (by with_unfolding_all rfl)) (Jb4 (Jar Jfi (pv 2) (pv 3) (by with_unfolding_all rfl)))))
   (Jag ps_no)
   Jap))),?_⟩
 obtain ⟨o,e,r,b,u,J,k⟩:=h;obtain ⟨⟨q,x⟩,_⟩:=id o;show tSeq _ _ _ [some (.ref p),some (.str one),some (.str other),none] H;nofun;refine ⟨p,_,q,_,rfl,x,rfl,rfl,?_⟩;nofun;refine ⟨p,d,m,F,rfl,o,e,r,b,fun l g B D G n j=>?_⟩
 (try ((with_reducible refine Nxt.go (by assumption) ?_);nofun))
 nofun;have a:(g.map V.str).all flatV=true:=all_eq_true.mpr (fun v C=>by obtain ⟨z,_,rfl⟩:=mem_map.mp C;rfl);refine ⟨l,_,rfl, .inl (SqL.of n),rfl,a,?_⟩;rw [if_pos rfl,Jew,decide_eq_true ((j.2.2 one).mpr u)];nofun;nofun;refine ⟨l,_,rfl, .inl (SqL.of n),rfl,a,?_⟩;rw [if_pos rfl,Jew,decide_eq_true ((j.2.2 other).mpr J)];nofun;nofun;exact k B D
abbrev Baj:Stmt:=inClass (top 46) 9
theorem Ja1:Jan ["self","faces","steps","told","face"] ["self","faces"] (Jac Baj):=by bv_decide
def Ja3 (K:W.Frag) (Ad:Adr):Sp:=fun vs H Q E=>∃ (p d:Addr) (ts:List TD) (F:List Str) (x:Str->Rat) (fL:Addr) (gs:List Str),vs=[.ref p, .ref fL]/\BK K Ad H p d ts/\BkG ts F x/\SqL K H fL (gs.map V.str)/\gs.length<=8/\∀ (cd:Addr) (cb:List (Str × Addr)) (kc:List (Key × V)) (H':Hp),Same H H'->H' cd=some (.dK kc)->DV (fun a v=>v=.ref a) cb kc->(∀ g∈gs, ∃ td,lk cb g=some td)->(∀ g td,lk cb g=some td->∃ tb,TDk K H H' tb td/\TTd ts [g] tb)->Q (.ref cd) H'
theorem JcZ (F:FunD K "chains_of" "Book.chains_of" Baj dV f fd) (T:Txt K mg Ad) (m_kept:MCal P w K mg base 1 "kept" (JaL Ad) ["self"] (Ja0 K Ad)) (m_faces:MCal P w K mg base 2 "faces" (JaL Ad) ["self"] (Ja4 K Ad)) (Ba5:Cal P w K mg base 6 "steps_of" ["ties"] [] (Jcb K Ad)) (BaU:Cal P w K mg base 4 "places_of" ["steps","faces"] [] (JbT K Ad)) (Bag:Cal P w K mg base 3 "chains_from" ["steps","starts"] [] (Ja9 K Ad)):FnOk P w K mg base (CX1 P w) 7 f fd ["self","faces"] (Ja3 K Ad):=by
 refine F.okx Ja1 (fun vs H Q E h=>?_) (fun d9 A b5 s H vs Q E X h=>?_)
 ·obtain ⟨p,d,q,F,x,fL,W,rfl,_⟩:=h;rfl
 obtain ⟨p,d,q,F,x,fL,W,rfl,h⟩:=h;have hu:=X.units;refine ⟨_,(Jab (Jaj (i:=2) Ja1.nd rfl (Or.inl rfl) (Ba5.ev X ⋯ rfl pass1 (Jaa (m_kept.m0 X ⋯ pass1 (pv 0)) Jad) (he:=by exact Jah rfl)))
   (Jab (Jbh (BaU.ev X ⋯ rfl pass1 (Jaa (pv 2) (Jaa (m_faces.m0 X ⋯ pass1 (pv 0)) Jad)) (he:=by exact Jah rfl)))
   (Jab (Jaj (i:=3) Ja1.nd rfl (Or.inl rfl) Jb6)
   (Jab (JaX PassesOwn.leaving rfl (pi_U (pv 1)) (Jas (i:=4) Ja1.nd rfl (Or.inl rfl))
   (Jag (JbW (hu1 hu) (pv 3) (pv 4) (Bag.ev X ⋯ rfl pass1 (Jaa (pv 2) (Jaa (JbL (Jaa (pv 4) Jad)) Jad)) (he:=by exact Jah rfl)) rfl)))
   (Jag (Jam (pv 3))))))),?_⟩
 clear hu;obtain ⟨hb,j,hF,l8,k⟩:=h;obtain ⟨⟨dx,hp⟩,_⟩:=id hb;have sl:(1000:Nat)<=sizeLine:=by decide
 have c3:(ssD q).length<=70:=by unfold ssD;rw [length_map];exact j.l70
 show tSeq _ _ _ [some (.ref p),some (.ref fL),none,none,none] H;nofun;refine ⟨p,_,dx,_,rfl,hp,rfl,rfl,?_⟩;nofun;refine ⟨p,d,q,rfl,hb,fun l ys H1 S1 d1 e1 hA=>?_⟩;nofun;refine ⟨l,ys,q,rfl,SqL.of e1,hA,j.ok,fun s Z=>(j.fb s Z).mono ⋯ ⋯,j.l35,fun sL sx b H2 S2 e2 N S d8 b4 b2=>?_⟩;have N:b=bD_ q:=N;subst N;have B:STp K Ad H2 q sL:=⟨⟨sx,SqL.of e2,JfZ b2⟩,S,fun s Z=>⟨(j.fb s Z).b1,b4 s Z⟩⟩;have m:=S1.trans S2
 (try ((with_reducible refine Nxt.go (by assumption) ?_);nofun))
 nofun;refine ⟨p,_,dx,_,rfl,m _ _ hp,rfl,rfl,?_⟩;nofun;refine ⟨p,d,q,F,rfl,hb.same m,j.l35,j.f8,j.fm,fun fl R H3 U d0 e3 a2=>?_⟩;have a3:R.length<=8:=by
  have:=sub_len R F a2.1 fun z hz=>by
   obtain ⟨t,ht,h | h⟩:=(a2.2.2 z).mp hz
   ·rw [h];exact (j.fm t ht).1
   ·rw [h];exact (j.fm t ht).2
  have:=j.f8;ac_nf
 nofun;refine ⟨sL,fl,q,F,x,R,rfl,B.same U,j,SqL.of e3,a3,fun pd kp d6 pb H4 S4 c6 e4 d7 d5 d3 d2=>?_⟩
 (try ((with_reducible refine Nxt.go (by assumption) ?_);nofun))
 nofun;rename_i L J c7 H4 H5 S5 e5;nofun
 (try ((with_reducible refine Nxt.go (by assumption) ?_);nofun))
 nofun;have c1:=m.trans (U.trans (S4.trans S5));have c5:=Ja7 (m.trans (U.trans S4)) J;refine ⟨fL,rfl,ForA.byLN (xs:=W.map V.str) (hF.same c1) (fun i σ H'=>i<=W.length/\∃ (v4:Option V) (u:List (Str × Addr)) (kc:List (Key × V)),σ=[some (.ref p),some (.ref fL),some (.ref sL),some (.ref L),v4]/\Same H4 H'/\H' L=some (.dK kc)/\DV (fun a v=>v=.ref a) u kc/\u.length<=i/\(∀ g∈W.take i, ∃ e,lk u g=some e)/\∀ g e,lk u g=some e->e≠L/\∃ I,TDk K H H' I e/\TTd q [g] I) ⟨Nat.zero_le _,none,[],[],rfl,S5,e5,rfl,Nat.le_refl _,(fun g j=>by simp at j),fun g e h=>by cases h⟩ (fun i σ H' z=>by obtain ⟨_,_,_,_,_,z,_⟩:=z;exact (hF.same (m.trans (U.trans S4))).same z) ?_ ?_⟩
 ·rintro i y σ H6 hy ⟨hi,v4,u,kc,rfl,S6,D,C,b0,G,M⟩ N0 b8;rw [List.getElem?_map] at hy;obtain ⟨g,a6,rfl⟩:=Option.map_eq_some_iff.mp hy;have li:=(List.getElem?_eq_some_iff.mp a6).1;have c0:W.take (i+1)=W.take i++[g]:=by rw [take_succ,a6];rfl
  have d4:=C.len;have a1:Same H2 H6:=U.trans (S4.trans S6);nofun;refine ⟨by show 1<=sizeLine;ac_nf,?_⟩;rename_i gl c8 c9 H6 H7 S7 e7;nofun;obtain ⟨c4,a8,a9⟩:=((B.same a1).same S7).ex;nofun;refine ⟨sL,gl,c4,ssD q,[g],_,rfl,a8,a9,SqL.of e7,by show 1<=8;decide,JhH S B.bb j.pot,c3,fun s Z=>?_,fun e kt I P H8 S8 r e8 b6 hP hB b3 b9=>?_⟩
  ·obtain ⟨s',c2,rfl⟩:=mem_map.mp Z;exact j.fb s' c2
  have hP:P=lsD q [g]:=hP;subst hP;have O:=S7.trans S8;have a4:=O _ _ D;have a0:e≠L:=fun z=>by rw [z,S7 _ _ D] at r;cases r
  have b7:Same H H7:=m.trans (a1.trans S7);nofun;refine ⟨L,_,rfl,DPut.k (k:=Sum.inr g) a4 ∅,?_⟩;generalize u9:upd H8 L _=H9;nofun;have e9:=putE u9;have a5:∀ I e,e≠L->TDk K H H8 I e->TDk K H H9 I e:=fun I e n ⟨kt,h1,h2,h3⟩=>⟨kt,by rw [<- u9,Jai n];exact h1,h2.mono fun _ _ z=>z.putL u9 a4,h3⟩;refine b8 _ _ ⟨li,_,pu u g e,_,rfl,fun c w h=>by rw [<- u9,Jai (Jaf h J)];exact O _ _ (S6 _ _ h),e9,C.put rfl,by have:=JdF (l:=u) (f:=g) (a:=e);ac_nf,fun f Y=>?_,fun f t o=>?_⟩
  ·rw [c0] at Y;rw [lk_pu];by_cases c:g=f
   ·exact ⟨_,if_pos c⟩
   ·rw [if_neg c];nofun;rcases mem_append.mp Y with Y | Y
    ·exact G f Y
    ·exact absurd (mem_singleton.mp Y).symm c
  ·rw [lk_pu] at o;by_cases c:g=f
   ·rw [if_pos c] at o;cases o;subst c;exact ⟨a0,I,a5 _ _ a0 (TDk.base b7 ⟨kt,e8,b6,r⟩),⟨S,B.bb,b9,b3,hB⟩⟩
   ·rw [if_neg c] at o;obtain ⟨n,a7,h1,h2⟩:=M f t o;exact ⟨n,a7,a5 _ _ n (h1.same O),h2⟩
 ·rintro σ H6 ⟨hi,v4,u,kc,rfl,S6,D,C,b0,G,M⟩;rw [take_of_length_le (by rw [length_map];exact Nat.le_refl _)] at G;nofun;exact k L u kc H6 (m.trans (U.trans (S4.trans S6))) D C G fun g e h=>(M g e h).2
abbrev Ba6:Stmt:=inClass (top 46) 10
theorem JfT:Jan ["self","one","other"] ["self","one","other"] (Jac Ba6):=by bv_decide
def JcH (K:W.Frag) (Ad:Adr):Sp:=fun vs H Q E=>∃ (p d:Addr) (ts:List TD) (F:List Str) (x:Str->Rat) (one other:Str),vs=[.ref p, .str one, .str other]/\BK K Ad H p d ts/\BkG ts F x/\(∃ t∈ts,one=t.st\/one=t.en)/\(∃ t∈ts,other=t.st\/other=t.en)/\∀ (q:Addr) (vl vg:V) (tb1 tb2:Tab) (H':Hp),Same H H'->H' q=some (.tup [vl,vg])->TTd ts [one] tb1->TTd ts [other] tb2->BV K H' ((lk tb2 one).map fun e=>subF (0,1) e.1) vl->BV K H' ((lk tb1 other).map (·.1)) vg->Q (.ref q) H'
theorem JfI (F:FunD K "gap" "Book.gap" Ba6 dV f fd) (T:Txt K mg Ad) (m_check_faces:MCal P w K mg base 3 "check_faces" (JaL Ad) ["self","one","other"] (JaR K Ad)) (m_chains_of:MCal P w K mg base 7 "chains_of" (JaL Ad) ["self","faces"] (Ja3 K Ad)) (BaC:Cal P w K mg base 4 "gap_between" ["chains","one","other"] [] (Jbn K Ad)):FnOk P w K mg base (CX1 P w) 8 f fd ["self","one","other"] (JcH K Ad):=by
 refine F.okx JfT (fun W H Q E h=>?_) (fun a0 A r s H W Q E o h=>?_)
 ·obtain ⟨p,d,t,F,x,one,other,rfl,_⟩:=h;rfl
 obtain ⟨p,d,t,F,x,one,other,rfl,h⟩:=h;refine ⟨_,(Jab (Jbh (m_check_faces.m o ⋯ pass1 (pv 0) (Jaa (pv 1) (Jaa (pv 2) Jad))))
   (Jag (Jam (BaC.ev o ⋯ rfl pass1 (Jaa (m_chains_of.m o ⋯ pass1 (pv 0) (Jaa (JbL (Jaa (pv 1) (Jaa (pv 2) Jad))) Jad)) (Jaa (pv 1) (Jaa (pv 2) Jad))) (he:=by exact Jah rfl))))),?_⟩
 obtain ⟨u,a,O,h2,k⟩:=h;obtain ⟨⟨y,B⟩,_⟩:=id u;have sl:(1000:Nat)<=sizeLine:=by decide
 show tSeq _ _ _ [some (.ref p),some (.str one),some (.str other)] H;nofun;refine ⟨p,_,y,_,rfl,B,rfl,rfl,?_⟩;nofun;refine ⟨p,d,t,F,one,other,rfl,u,a.l35,a.f8,a.fm,O,h2,fun Z J=>?_⟩
 (try ((with_reducible refine Nxt.go (by assumption) ?_);nofun))
 nofun;refine ⟨p,_,y,_,rfl,J _ _ B,rfl,rfl,?_⟩;nofun;refine ⟨len2,?_⟩;rename_i fl L z Z U S2 S;nofun;have j:=J.trans S2;nofun;refine ⟨p,d,t,F,x,fl,[one,other],rfl,u.same j,a,SqL.of S,(show 2<=8 by decide),fun N X kc H3 R e3 hC b l=>?_⟩;obtain ⟨G,g⟩:=b one (by simp);obtain ⟨C,c⟩:=b other (by simp);obtain ⟨i,V,I⟩:=l one G g;obtain ⟨n,d2,D⟩:=l other C c;nofun;refine ⟨N,one,other,X,kc,i,n,G,C,U,rfl,e3,hC,g,c,V,d2,fun v e h=>I.fbG a h,fun v e h=>D.fbG a h,fun q vl vg H4 S4 e4 M Y=>?_⟩;nofun;exact k q vl vg i n H4 (j.trans (R.trans S4)) e4 I D M Y
abbrev Bao:Stmt:=inClass (top 46) 11
theorem Jbb:Jan ["self","one","other","steps","places","told"] ["self","one","other"] (Jac Bao):=by bv_decide
def Jbu (K:W.Frag) (Ad:Adr):Sp:=fun vs H Q E=>∃ (p d:Addr) (ts:List TD) (F:List Str) (x:Str->Rat) (one other:Str),vs=[.ref p, .str one, .str other]/\BK K Ad H p d ts/\BkG ts F x/\(∀ H' tb,Same H H'->TTd ts [one] tb->lk tb other=none->Q .non H')/\∀ (q:Addr) (tb:Tab) (e:(Int × Int) × List SpS) (tb0:Tab) (out:List Str) (H':Hp),Same H H'->TTd ts [one] tb->lk tb other=some e->JcB ts out->TTd ts out tb0->ShV K H H' e (stD ts (fun v=>(lk tb v).map (·.1)) (fun v=>(lk tb0 v).map (·.1)) out) q->Q (.ref q) H'
theorem Jda (F:FunD K "farthest" "Book.farthest" Bao dV f fd) (T:Txt K mg Ad) (m_kept:MCal P w K mg base 1 "kept" (JaL Ad) ["self"] (Ja0 K Ad)) (m_faces:MCal P w K mg base 2 "faces" (JaL Ad) ["self"] (Ja4 K Ad)) (Ba5:Cal P w K mg base 6 "steps_of" ["ties"] [] (Jcb K Ad)) (BaU:Cal P w K mg base 4 "places_of" ["steps","faces"] [] (JbT K Ad)) (Bag:Cal P w K mg base 3 "chains_from" ["steps","starts"] [] (Ja9 K Ad)) (BaG:Cal P w K mg base 3 "stretched_placing" ["steps","reached_chains","places"] [] (Ja5 K Ad)):FnOk P w K mg base (CX1 P w) 7 f fd ["self","one","other"] (Jbu K Ad):=by
 refine F.okx Jbb (fun vs H Q E h=>?_) (fun c9 A b2 s H vs Q E M h=>?_)
 ·obtain ⟨p,d,m,F,x,one,other,rfl,_⟩:=h;rfl
 obtain ⟨p,d,m,F,x,one,other,rfl,h⟩:=h;have hu:=M.units;refine ⟨_,(Jab (Jaj (i:=3) Jbb.nd rfl (Or.inl rfl) (Ba5.ev M ⋯ rfl pass1 (Jaa (m_kept.m0 M ⋯ pass1 (pv 0)) Jad) (he:=by exact Jah rfl)))
   (Jab (Jaj (i:=4) Jbb.nd rfl (Or.inl rfl) (BaU.ev M ⋯ rfl pass1 (Jaa (pv 3) (Jaa (m_faces.m0 M ⋯ pass1 (pv 0)) Jad)) (he:=by exact Jah rfl)))
   (Jab (Jaj (i:=5) Jbb.nd rfl (Or.inl rfl) (Bag.ev M ⋯ rfl pass1 (Jaa (pv 3) (Jaa (JbL (Jaa (pv 1) Jad)) Jad)) (he:=by exact Jah rfl)))
   (Jab (ps_if (Jcm (Jcl (hu1 hu) (pv 2) (pv 5)) (by with_unfolding_all rfl))
   (Jag (Jam JaM))
   Jap)
   (Jag (Jam (JaU (Jaa (pe_ix ix_U (JaK (hu1 hu) (pv 5) (pv 2) (fun _ _=>rfl)) Jae (fun _ _=>rfl)) (Jaa (pe_ix ix_U (JaK (hu1 hu) (pv 5) (pv 2) (fun _ _=>rfl)) Jae (fun _ _=>rfl)) (Jaa (BaG.ev M ⋯ rfl pass1 (Jaa (pv 3) (Jaa (pv 5) (Jaa (pv 4) Jad))) (he:=by exact Jah rfl)) Jad)))))))))),?_⟩
 clear hu;obtain ⟨hb,g,k0,k⟩:=h;obtain ⟨⟨dx,hp⟩,_⟩:=id hb;have sl:(1000:Nat)<=sizeLine:=by decide
 have b8:(ssD m).length<=70:=by unfold ssD;rw [length_map];exact g.l70
 show tSeq _ _ _ [some (.ref p),some (.str one),some (.str other),none,none,none] H;nofun;refine ⟨p,_,dx,_,rfl,hp,rfl,rfl,?_⟩;nofun;refine ⟨p,d,m,rfl,hb,fun l ys H1 S1 c7 e1 hA=>?_⟩;nofun;refine ⟨l,ys,m,rfl,SqL.of e1,hA,g.ok,fun s u=>(g.fb s u).mono ⋯ ⋯,g.l35,fun sL sx b H2 S2 e2 J L c8 b0 a7=>?_⟩;have J:b=bD_ m:=J;subst J;have o:STp K Ad H2 m sL:=⟨⟨sx,SqL.of e2,JfZ a7⟩,L,fun s u=>⟨(g.fb s u).b1,b0 s u⟩⟩;have I:=S1.trans S2
 (try ((with_reducible refine Nxt.go (by assumption) ?_);nofun))
 nofun;refine ⟨p,_,dx,_,rfl,I _ _ hp,rfl,rfl,?_⟩;nofun;refine ⟨p,d,m,F,rfl,hb.same I,g.l35,g.f8,g.fm,fun fl j H3 S3 c4 e3 c=>?_⟩;have Z:j.length<=8:=by
  have:=sub_len j F c.1 fun z hz=>by
   obtain ⟨t,n,h | h⟩:=(c.2.2 z).mp hz
   ·rw [h];exact (g.fm t n).1
   ·rw [h];exact (g.fm t n).2
  have:=g.f8;ac_nf
 nofun;refine ⟨sL,fl,m,F,x,j,rfl,o.same S3,g,SqL.of e3,Z,fun pd kp O X H4 S4 c1 e4 c0 a0 r b3=>?_⟩
 (try ((with_reducible refine Nxt.go (by assumption) ?_);nofun))
 nofun;refine ⟨by show 1<=sizeLine;ac_nf,?_⟩;rename_i gl c2 c3 H4 H5 S5 e5;nofun;have G:=S3.trans (S4.trans S5);have a1:=I.trans G;obtain ⟨b9,a3,a5⟩:=(o.same G).ex;nofun;refine ⟨sL,gl,b9,ssD m,[one],_,rfl,a3,a5,SqL.of e5,by show 1<=8;decide,JhH L o.bb g.pot,b8,fun s u=>?_,fun td kt W P H6 S6 Y e6 D hP hB a4 a8=>?_⟩
 ·obtain ⟨s',b7,rfl⟩:=mem_map.mp u;exact g.fb s' b7
 have hP:P=lsD m [one]:=hP;subst hP;have n:TTd m [one] W:=⟨L,o.bb,a8,a4,hB⟩;have C:=a1.trans S6
 (try ((with_reducible refine Nxt.go (by assumption) ?_);nofun))
 nofun;refine ⟨td,_,rfl,DGet.k (k:=Sum.inr other) e6,?_⟩;cases ea:lk W other with
 | none=>
  rw [D.no ea];try simpa only [Option.isSome_none]
  exact k0 H6 W C n ea
 | some e=>
  obtain ⟨va,S,q,qv,lc,cx,rfl,hq,b5,b6,b4,a9⟩:=D.at ea;rw [S];try simpa only [Option.isSome_some]
  (try ((with_reducible refine Nxt.go (by assumption) ?_);nofun))
  nofun;refine ⟨td, .ref q,rfl,by rw [<- S];exact DGet.k (k:=Sum.inr other) e6,?_⟩;nofun;refine ixT (i:=0) hq rfl ?_;nofun;refine ⟨td, .ref q,rfl,by rw [<- S];exact DGet.k (k:=Sum.inr other) e6,?_⟩;nofun;refine ixT (i:=1) hq rfl ?_;nofun;have U:lk X=fun v=>(lk O v).map (·.1):=funext b3;have N:∀ v,(∃ e,lk X v=some e)↔v∈j:=fun v=>by
   rw [U];show (∃ e,(lk O v).map _=some e)↔_;constructor
   ·rintro ⟨e,he⟩;obtain ⟨a,h1,_⟩:=Option.map_eq_some_iff.mp he;rcases (r.ks v).mp ⟨a,h1⟩ with h | ⟨s,u⟩
    ·exact h
    ·obtain ⟨_,_,_,_,h3,_⟩:=r.be.ex;obtain ⟨m1,m2,_⟩:=h3 v s u;obtain ⟨y,hy,rfl⟩:=mem_map.mp m1;have:=(Jcj (F:=j) (fun t n=>⟨(c.2.2 _).mpr ⟨t,n, .inl rfl⟩,(c.2.2 _).mpr ⟨t,n, .inr rfl⟩⟩) y hy).2;rw [<- m2];exact this
   ·intro hv;obtain ⟨a,h1⟩:=(r.ks v).mpr (.inl hv);exact ⟨a.1,by rw [h1];rfl⟩
  have a2:=S5.trans S6;have a6:X.length<64:=by
   have:=sub_len (X.map (·.1)) j a0 fun z hz=>(N z).mp (Jdw hz);rw [length_map] at this;ac_nf
  refine ⟨sL,td,pd,m,W,X,H5,rfl,(o.same G).same S6,⟨kt,e6,D,Y⟩,⟨kp,a2 _ _ e4,c0.mono fun _ _ z=>FrV.same a2 z⟩,g.fb,fun v e h=>n.fbG g h,fun v e h=>?_,fun s u=>?_,a6,fun zl zs o2 H7 S7 V e7 R hQ=>?_⟩
  ·rw [U] at h;obtain ⟨a,h1,h2⟩:=Option.map_eq_some_iff.mp h;rw [<- h2];exact r.fbG g h1
  ·exact (N s.src).mpr (Jcj (F:=j) (fun t n=>⟨(c.2.2 _).mpr ⟨t,n, .inl rfl⟩,(c.2.2 _).mpr ⟨t,n, .inr rfl⟩⟩) s u).1
  have eo:o2=j:=JhG R.2 c.2.1 (R.1.nodup_iff.mpr a0) c.1 fun z=>by
   rw [R.1.mem_iff, <- N z];exact ⟨Jdw,fun ⟨e,he⟩=>Jgg he⟩
  subst eo;rw [U] at hQ;nofun;refine ⟨by show 3<=sizeLine;ac_nf,?_⟩;rename_i rq c6 c5 H7 H8 S8 e8;nofun;have B:=S7.trans S8;exact k rq W e O o2 H8 (C.trans B) n ea c r ⟨qv,lc,cx,zl,zs,e8,b5.same B,B _ _ b6,b4.mono (fun _ _ z=>z.sameT B.t),Ja7 a1 a9,S8 _ _ e7,hQ.mono (fun _ _ z=>z.sameT S8.t),Ja7 C V⟩
abbrev BaK:Stmt:=inClass (top 46) 12
theorem JcR:Jan ["self","one","other","most","found"] ["self","one","other","most"] (Jac BaK):=by bv_decide
def Jby (K:W.Frag) (Ad:Adr):Sp:=fun vs H Q E=>∃ (p d:Addr) (ts:List TD) (F:List Str) (x:Str->Rat) (one other:Str) (most:Bool),vs=[.ref p, .str one, .str other, .bl most]/\BK K Ad H p d ts/\BkG ts F x/\(∃ t∈ts,one=t.st\/one=t.en)/\(∃ t∈ts,other=t.st\/other=t.en)/\(∀ H' tb,Same H H'->TTd ts [if most then one else other] tb->lk tb (if most then other else one)=none->Q .non H')/\∀ (q:Addr) (tb:Tab) (e:(Int × Int) × List SpS) (tb0:Tab) (out:List Str) (H':Hp),Same H H'->TTd ts [if most then one else other] tb->lk tb (if most then other else one)=some e->JcB ts out->TTd ts out tb0->ShV K H H' (if most then e.1 else subF (0,1) e.1,e.2) (stD ts (fun v=>(lk tb v).map (·.1)) (fun v=>(lk tb0 v).map (·.1)) out) q->Q (.ref q) H'
theorem JeB (F:FunD K "shown" "Book.shown" BaK dV f fd) (T:Txt K mg Ad) (m_check_faces:MCal P w K mg base 3 "check_faces" (JaL Ad) ["self","one","other"] (JaR K Ad)) (m_farthest:MCal P w K mg base 7 "farthest" (JaL Ad) ["self","one","other"] (Jbu K Ad)) (Bbk:Cal P w K mg base 3 "minus" ["one","other"] [] (JcT K)):FnOk P w K mg base (CX1 P w) 8 f fd ["self","one","other","most"] (Jby K Ad):=by
 refine F.okx JcR (fun vs H Q E h=>?_) (fun b0 A V s H vs Q E C h=>?_)
 ·obtain ⟨p,d,D,F,x,one,other,most,rfl,_⟩:=h;rfl
 obtain ⟨p,d,D,F,x,one,other,most,rfl,h⟩:=h;refine ⟨_,(Jab (Jbh (m_check_faces.m C ⋯ pass1 (pv 0) (Jaa (pv 1) (Jaa (pv 2) Jad))))
   (Jab (ps_if (Jbd (pv 3))
   (Jag (Jam (m_farthest.m C ⋯ pass1 (pv 0) (Jaa (pv 1) (Jaa (pv 2) Jad)))))
   Jap)
   (Jab (Jaj (i:=4) JcR.nd rfl (Or.inl rfl) (m_farthest.m C ⋯ pass1 (pv 0) (Jaa (pv 2) (Jaa (pv 1) Jad))))
   (Jab (ps_if (Jar Jbj (pv 4) JaM (Jau _))
   (Jag (Jam JaM))
   Jap)
   (Jag (Jam (JaU (Jaa (Bbk.ev C ⋯ rfl pass1 (Jaa (Jc2 (v:=.ref _) rfl T.Bb7 T.Bb8) (Jaa (pe_ix ix_U (pv 4) Jae (fun _ _=>rfl)) Jad)) (he:=by exact Jah rfl)) (Jaa (pe_ix ix_U (pv 4) Jae (fun _ _=>rfl)) (Jaa (pe_ix ix_U (pv 4) Jae (fun _ _=>rfl)) Jad)))))))))),?_⟩
 obtain ⟨G,u,h1,h2,k0,k⟩:=h;obtain ⟨⟨I,R⟩,_⟩:=id G;have sl:(1000:Nat)<=sizeLine:=by decide
 show tSeq _ _ _ [some (.ref p),some (.str one),some (.str other),some (.bl most),none] H;nofun;refine ⟨p,_,I,_,rfl,R,rfl,rfl,?_⟩;nofun;refine ⟨p,d,D,F,one,other,rfl,G,u.l35,u.f8,u.fm,h1,h2,fun H1 a=>?_⟩
 (try ((with_reducible refine Nxt.go (by assumption) ?_);nofun))
 nofun;cases most with
 | true=>
  nofun;refine ⟨p,_,I,_,rfl,a _ _ R,rfl,rfl,?_⟩;nofun;refine ⟨p,d,D,F,x,one,other,rfl,G.same a,u,fun y j r g Y=>?_,fun q j e n o y r g he W M L=>?_⟩
  ·nofun;exact k0 y j (a.trans r) g Y
  ·nofun;obtain ⟨U,l,Z,N,S,B,a2,a3,a4,J,X,a7,a8⟩:=L;exact k q j e n o y (a.trans r) g he W M ⟨U,l,Z,N,S,B,a2,a3,a4,Ja7 a J,X,a7,Ja7 a a8⟩
 | false=>
  nofun
  (try ((with_reducible refine Nxt.go (by assumption) ?_);nofun))
  nofun;refine ⟨p,_,I,_,rfl,a _ _ R,rfl,rfl,?_⟩;nofun;refine ⟨p,d,D,F,x,other,one,rfl,G.same a,u,fun y j r g Y=>?_,fun q j e n o y r g he W M L=>?_⟩
  ·have u_:=trivial
   (try ((with_reducible refine Nxt.go (by assumption) ?_);nofun))
   nofun;exact k0 y j (a.trans r) g Y
  ·have u_:=trivial
   (try ((with_reducible refine Nxt.go (by assumption) ?_);nofun))
   nofun;obtain ⟨U,l,Z,N,S,B,a2,a3,a4,J,X,a7,a8⟩:=L;have c:=g.fbG u he
   (try ((with_reducible refine Nxt.go (by assumption) ?_);nofun))
   nofun;refine ixT (i:=0) (SqT.of B) rfl ?_;nofun;refine ⟨.ref Ad.ZERO,U,0,1,e.1.1,e.1.2,rfl,⟨Ad.ZERO,rfl,T.Bb0 _⟩,a2, .lit ⋯ ⋯, .lit ⋯ ⋯,c.s1.mono ⋯,c.s2.mono ⋯,by decide,c.b1,by decide,c.g1,fun mp H3 O e3=>?_⟩;nofun;refine ixT (i:=1) (SqT.of (O _ _ B)) rfl ?_;nofun;refine ixT (i:=2) (SqT.of (O _ _ B)) rfl ?_;nofun;refine ⟨by show 3<=sizeLine;ac_nf,?_⟩;rename_i rq a9 a0 H3 H4 S4 e4;nofun;have b:=O.trans S4;exact k rq j e n o H4 (a.trans (r.trans b)) g he W M ⟨.ref mp,l,Z,N,S,e4,⟨mp,rfl,SqT.of (S4 _ _ e3)⟩,b _ _ a3,a4.mono (fun _ _ z=>z.sameT b.t),Ja7 a J,b _ _ X,a7.mono (fun _ _ z=>z.sameT b.t),Ja7 a a8⟩
abbrev Bap:Stmt:=inClass (top 46) 13
theorem JaS:Jan ["self","chains","told","tie","bounds"] ["self"] (Jac Bap):=by bv_decide
def Jbv (K:W.Frag) (Ad:Adr):Sp:=fun vs H Q E=>∃ (p d:Addr) (ts:List TD) (F:List Str) (x:Str->Rat),vs=[.ref p]/\BK K Ad H p d ts/\BkG ts F x/\∀ (l:Addr) (ys:List V) (H':Hp),Same H H'->H l=none->H' l=some (.lst ys)->All2 (TV K H') (nwD ts) ys->(∀ t∈ts,(∃ tb,TTd ts [t.st] tb)/\∃ tb,TTd ts [t.en] tb)->Q (.ref l) H'
theorem Jdb (F:FunD K "narrowed" "Book.narrowed" Bap dV f fd) (T:Txt K mg Ad) (m_faces:MCal P w K mg base 2 "faces" (JaL Ad) ["self"] (Ja4 K Ad)) (m_chains_of:MCal P w K mg base 7 "chains_of" (JaL Ad) ["self","faces"] (Ja3 K Ad)) (m_kept:MCal P w K mg base 1 "kept" (JaL Ad) ["self"] (Ja0 K Ad)) (BaC:Cal P w K mg base 4 "gap_between" ["chains","one","other"] [] (Jbn K Ad)):FnOk P w K mg base (CX1 P w) 8 f fd ["self"] (Jbv K Ad):=by
 refine F.okx JaS (fun vs H Q E h=>?_) (fun c2 A a9 s H vs Q E hr h=>?_)
 ·obtain ⟨p,d,j,F,x,rfl,_⟩:=h;rfl
 obtain ⟨p,d,j,F,x,rfl,h⟩:=h;refine ⟨_,(Jab (Jaj (i:=1) JaS.nd rfl (Or.inl rfl) (m_chains_of.m hr ⋯ pass1 (pv 0) (Jaa (m_faces.m0 hr ⋯ pass1 (pv 0)) Jad)))
   (Jab (Jaj (i:=2) JaS.nd rfl (Or.inl rfl) (JbL Jad))
   (Jab (JaX PassesOwn.leaving rfl (pi_U (m_kept.m0 hr ⋯ pass1 (pv 0))) (Jas (i:=3) JaS.nd rfl (Or.inl rfl))
   (Jab (Jaj (i:=4) JaS.nd rfl (Or.inl rfl) (BaC.ev hr ⋯ rfl pass1 (Jaa (pv 1) (Jaa (Jav (pv 3) rfl) (Jaa (Jav (pv 3) rfl) Jad))) (he:=by exact Jah rfl)))
   (Jag (Jbh (pe_bm PySem.F.plainAttrs_list PySem.F.slot_list_append PySem.F.type_list_append Jbf (pv 2) (Jaa (JaU (Jaa (Jav (pv 3) rfl) (Jaa (Jav (pv 3) rfl) (Jaa (Jav (pv 3) rfl) (Jaa (pe_ix ix_U (pv 4) Jae (fun _ _=>rfl)) (Jaa (pe_ix ix_U (pv 4) Jae (fun _ _=>rfl)) Jad)))))) Jad) (hs:=by exact Jah rfl))))))
   (Jag (Jam (pv 2)))))),?_⟩
 obtain ⟨hb,l,k⟩:=h;obtain ⟨⟨dx,hp⟩,_⟩:=id hb;have sl:(1000:Nat)<=sizeLine:=by decide
 show tSeq _ _ _ [some (.ref p),none,none,none,none] H;and_intros;refine ⟨p,_,dx,_,rfl,hp,rfl,rfl,?_⟩;and_intros;refine ⟨p,_,dx,_,rfl,hp,rfl,rfl,?_⟩;and_intros;refine ⟨p,d,j,F,rfl,hb,l.l35,l.f8,l.fm,fun fl g H1 S1 b6 e1 hF=>?_⟩;have l8:g.length<=8:=by
  have:=sub_len g F hF.1 fun z hz=>by
   obtain ⟨t,b,h | h⟩:=(hF.2.2 z).mp hz
   ·rw [h];exact (l.fm t b).1
   ·rw [h];exact (l.fm t b).2
  have:=l.f8;ac_nf
 and_intros;refine ⟨p,d,j,F,x,fl,g,rfl,hb.same S1,l,SqL.of e1,l8,fun cd cb kc H2 S2 e2 hC B G=>?_⟩;have N:=S1.trans S2;have u:∀ t∈j,t.st∈g/\t.en∈g:=fun t b=>⟨(hF.2.2 _).mpr ⟨t,b, .inl rfl⟩,(hF.2.2 _).mpr ⟨t,b, .inr rfl⟩⟩
 (try ((with_reducible refine Nxt.go (by assumption) ?_);and_intros))
 and_intros;refine ⟨len0,?_⟩;rename_i U J b8 H2 H3 S3 e3;and_intros
 (try ((with_reducible refine Nxt.go (by assumption) ?_);and_intros))
 and_intros;have a3:=N.trans S3;refine ⟨p,_,dx,_,rfl,a3 _ _ hp,rfl,rfl,?_⟩;and_intros;refine ⟨p,d,j,rfl,hb.same a3,fun kl ks H4 S4 L e4 hA=>?_⟩;have lA:=hA.length;have b9:=l.l35;have b3:=S3.trans S4;have a4:=Ja7 N J;and_intros;refine ⟨kl,rfl,ForA.byLN (xs:=ks) (SqL.of e4) (fun i σ X=>i<=ks.length/\∃ (v3 v4:Option V) (ys:List V),σ=[some (.ref p),some (.ref cd),some (.ref U),v3,v4]/\Same H2 X/\X kl=some (.lst ks)/\X U=some (.lst ys)/\All2 (OV K Ad X) j ks/\All2 (TV K X) ((j.take i).map (nwT j)) ys) ⟨Nat.zero_le _,none,none,[],rfl,b3,e4,S4 _ _ e3,hA,by rw [take_zero];exact rfl⟩ (fun i σ X z=>by obtain ⟨_,_,_,_,_,_,z,_⟩:=z;exact SqL.of z) ?_ ?_⟩
 ·rintro i y σ H5 hy ⟨hi,v3,v4,ys,rfl,S5,a5,S,hO,hT⟩ N0 b1;have li:=(List.getElem?_eq_some_iff.mp hy).1;obtain ⟨t,b,C,vl,vg,⟨q,dq,rfl,hq⟩,b0,c0,c1⟩:=hO.at_ hy;have a1:=List.mem_of_getElem? b;have n:=T.tie _ b0;obtain ⟨t1,r⟩:=B t.st (u t a1).1;obtain ⟨t2,D⟩:=B t.en (u t a1).2;obtain ⟨O,d1,I⟩:=G t.st t1 r;obtain ⟨R,d2,Z⟩:=G t.en t2 D;have lT:=hT.length;rw [length_map,length_take] at lT;and_intros;refine ⟨q,_,dq,_, .str t.st,rfl,hq,n.cls,n.n2,rfl,?_⟩;refine ⟨q,_,dq,_, .str t.en,rfl,hq,n.cls,n.n3,rfl,?_⟩;and_intros;refine ⟨cd,t.st,t.en,cb,kc,O,R,t1,t2,H1,rfl,S5 _ _ e2,hC,r,D,d1.same S5,d2.same S5,fun v e h=>I.fbG l h,fun v e h=>Z.fbG l h,fun bp a6 a2 H6 S6 e6 bl bg=>?_⟩;have a:=S6 _ _ S;have M:=S6 _ _ hq
  (try ((with_reducible refine Nxt.go (by assumption) ?_);and_intros))
  and_intros;refine ⟨.inl ⟨rfl,_,SqL.of a⟩,?_⟩;refine ⟨q,_,dq,_, .str t.nm,rfl,M,n.cls,n.n1,rfl,?_⟩;refine ⟨q,_,dq,_, .str t.st,rfl,M,n.cls,n.n2,rfl,?_⟩;refine ⟨q,_,dq,_, .str t.en,rfl,M,n.cls,n.n3,rfl,?_⟩;and_intros;refine ixT (i:=0) (SqT.of e6) rfl ?_;and_intros;refine ixT (i:=1) (SqT.of e6) rfl ?_;and_intros;refine ⟨len5,?_⟩;rename_i np b5 b7 H6 H7 W e7;and_intros;and_intros;refine ⟨U,_,_,rfl,rfl,W _ _ a,by ac_nf,?_⟩;generalize u8:upd H7 U _=H8;and_intros;have e8:=putE u8;have o:=S6.trans W;have Y:SameT H7 H8:=SameT.put u8 (W _ _ a) rfl;have b2:kl≠U:=fun z=>by rw [z,e3] at L;cases L
  have a0:=W _ _ a;have b4:∀ t v,OV K Ad H7 t v->OV K Ad H8 t v:=fun t v ⟨C,vl,vg,⟨q,dx,e,I⟩,Z,g3,g4⟩=>⟨C,vl,vg,⟨q,dx,e,by rw [<- u8,Jai (fun z=>by rw [z,a0] at I;cases I)];exact I⟩,Z,g3.sameT Y,g4.sameT Y⟩;refine b1 _ _ ⟨li,_,_,_,rfl,fun c w h=>by rw [<- u8,Jai (Jaf h J)];exact o _ _ (S5 _ _ h),by rw [<- u8,Jai b2];exact o _ _ a5,e8,hO.mono (fun t v z=>b4 t v (z.same o)),?_⟩;rw [take_succ,b,map_append];refine (hT.mono (P':=TV K H8) fun _ _ z=>(z.sameT o.t).sameT Y).append (.one ?_);have a7:=bl.sameT (W.t.trans Y);have a8:=bg.sameT (W.t.trans Y);refine ⟨np,a6,a2,rfl,(SqT.of e7).sameT Y,?_,?_⟩
  ·show BV K H8 ((dD j t.en t.st).map (subF (0,1))) a6;rw [dD_eq Z,Option.map_map];exact a7
  ·show BV K H8 (dD j t.st t.en) a2;rw [dD_eq I];exact a8
 ·rintro σ H5 ⟨hi,v3,v4,ys,rfl,S5,a5,S,hO,hT⟩;rw [take_of_length_le ∅] at hT;and_intros;refine k U ys H5 (N.trans S5) a4 S hT fun t b=>?_;obtain ⟨t1,r⟩:=B t.st (u t b).1;obtain ⟨t2,D⟩:=B t.en (u t b).2;obtain ⟨O,_,I⟩:=G t.st t1 r;obtain ⟨R,_,Z⟩:=G t.en t2 D;exact ⟨⟨O,I⟩,R,Z⟩
abbrev BaD:Stmt:=top 49
theorem Jbm:Jan ["_law_one","_law_other"] ["_law_one","_law_other"] (Jac BaD):=by bv_decide
def JbZ  : Sp:=fun vs H Q E=>∃ (a b:Int),vs=[.int a, .int b]/\Q (.int (Mth.g a b)) H
theorem JdU (F:FunD K "_law_divisor" "_law_divisor" BaD dV f fd) (T:Txt K mg Ad)  : FnOk P w K mg base (CX1 P w) 1 f fd ["_law_one","_law_other"] (JbZ):=by
 refine F.okn Jbm (by subst_eqs) (fun p A d s H o Q E r h=>?_)
 obtain ⟨a,b,rfl,h⟩:=h;refine ⟨_,(Jab (Jaj (i:=0) Jbm.nd rfl (Or.inl rfl) (Jat JcL rfl T.Bca Jf6 (Jaa (pv 0) Jad)))
   (Jab (Jaj (i:=1) Jbm.nd rfl (Or.inl rfl) (Jat JcL rfl T.Bca Jf6 (Jaa (pv 1) Jad)))
   (Jab (JeJ PassesOwn.never (Jar Jhs (pv 1) Jae (Jau _))
   (Jag (Jj7 (i:=0) (j:=1) rfl Jbm.nd rfl rfl ⋯ rfl rfl (Jaa (pv 1) (Jaa (pe_op JaC (pv 0) (pv 1)) Jad)) rfl)))
   (Jag (Jam (pv 0)))))),?_⟩
 show tSeq _ _ _ [some (.int a),some (.int b)] H;try infer_instance
 refine ⟨fun m σ l=>∃ (x y:Int),σ=[some (.int x),some (.int y)]/\l=H/\0<=x/\0<=y/\Mth.g x y=Mth.g a b/\y.toNat=m,⟨_,_,_,rfl,rfl,Mth.Jf2 a,Mth.Jf2 b,Mth.Bcg a b,rfl⟩,?_⟩;rintro m σ l ⟨x,y,rfl,rfl,t,n,k,rfl⟩;try infer_instance
 by_cases c:y=0
 ·subst c;rw [if_neg (by simp)];have e:Mth.g a b=x:=by rw [<- k,Mth.Jix];ac_nf
  rw [e] at h;exact h
 ·rw [if_pos (by simp;ac_nf)];have f:=Mth.fm (x:=x) (y:=y) ∅;refine ⟨_,fun _ _ q=>q,?_⟩;simp only [tPar,y85y,y4fy,y50y,y51y,y74y,y2by,y6fy,y82y,y83y,y47y,y2ey,y7by,y95y,y30y,y3cy,y75y,y2fy,y8by,y23y,y29y,y7cy,y77y,y2ay,y7dy,y79y,y5dy,y97y,y26y,y89y,y73y,y6cy,y4cy,y6by,y80y,y33y,y4ay,y71y,y4by,y72y,y49y,y70y,y90y,y67y,y63y,y92y,y94y,y91y,y93y,y25y,y6ay,y24y,true_and,if_true,if_false,Bool.not_true,Bool.not_false,Bool.false_eq_true,yby,ydy,yay,ycy,yey,y15y,y17y,y14y,y16y,y18y,y6y,y8y,y5y,y7y,y9y,y1y,y3y,y0y,y2y,y4y,y10y,y12y,yfy,y11y,y13y,y1ay,y1cy,y19y,y1by,y1dy,y1fy,y21y,y1ey,y20y,y22y,y87y,y7fy,y76y,y58y,y5ay,y31y,y32y,y57y,y65y,y66y,y4ey,y88y,y8ey,y98y,y81y,y27y,V.int.injEq,V.str.injEq,List.set_cons_zero,List.set_cons_succ,List.getElem?_cons_zero,List.getElem?_cons_succ,Option.some.injEq,exists_eq_left,exists_eq_left',V.bl.injEq,Int.reduceToNat,Int.reducePow,append_nil,nil_append,cons_append];exact ⟨c,_,_,rfl,(x.fmod y).toNat,by ac_nf,y,x.fmod y,rfl,n,f.1,by rw [Mth.Jg6 ∅];exact k,rfl⟩
abbrev BaE:Stmt:=top 48
theorem JdY:Jan ["_law_script","_law_k"] ["_law_script","_law_k"] (Jac BaE):=by bv_decide
def Jbo (K:W.Frag):Sp:=fun vs H Q E=>∃ (a:Addr) (ns:List Int) (k:Int),vs=[.ref a, .int k]/\SqL K H a (ns.map V.int)/\ns.length<=63/\0<=k/\∀ v:Int,Q (.int v) H
theorem JdS (F:FunD K "_law_cell_at" "_law_cell_at" BaE dV f fd) (T:Txt K mg Ad)  : FnOk P w K mg base (CX1 P w) 1 f fd ["_law_script","_law_k"] (Jbo K):=by
 refine F.okn JdY (by subst_eqs) (fun j A b s H i Q E l h=>?_)
 obtain ⟨a,e,k,rfl,h⟩:=h;refine ⟨_,(Jab (ps_if (Jar Jfg (pv 1) (Jat JaH rfl T.BbB JbA (Jaa (pv 0) Jad)) (Jau _))
   (Jag (Jam (pe_ix ix_U (pv 0) (pv 1) (fun _ _=>rfl))))
   Jap)
   (Jag (Jam Jae))),?_⟩
 obtain ⟨d,m,g,q⟩:=h;show tSeq _ _ _ [some (.ref a),some (.int k)] H;try infer_instance
 refine ⟨_, .inl d,?_⟩;simpa only [length_map];obtain ⟨n,rfl⟩:=Int.eq_ofNat_of_zero_le g;by_cases c:n<e.length
 ·rw [if_pos (by simp;ac_nf)];try infer_instance
  exact ixL d (by rw [List.getElem?_map,List.getElem?_eq_getElem c];rfl) (q _)
 ·rw [if_neg (by simp;ac_nf)];try infer_instance
  exact q 0
abbrev BaL:Stmt:=top 50
theorem JcS:Jan ["_law_top","_law_bottom","_law_by"] ["_law_top","_law_bottom"] (Jac BaL):=by bv_decide
def Jbz  : Sp:=fun vs H Q E=>∃ (t b:Int),vs=[.int t, .int b]/\1<=b/\Mth.Sz 8000 b/\∀ p H',Same H H'->H' p=some (.tup [.int (Mth.top t b), .int (Mth.bot t b)])->Q (.ref p) H'
theorem JeE (F:FunD K "_law_lowest" "_law_lowest" BaL dV f fd) (T:Txt K mg Ad) (Bbm:Cal P w K mg base 1 "_law_divisor" ["_law_one","_law_other"] [] (JbZ)):FnOk P w K mg base (CX1 P w) 2 f fd ["_law_top","_law_bottom"] (Jbz):=by
 refine F.okn JcS (by subst_eqs) (fun q A c s H m Q E j h=>?_)
 obtain ⟨t,b,rfl,h⟩:=h;refine ⟨_,(Jab (Jaj (i:=2) JcS.nd rfl (Or.inl rfl) (Bbm.ev j ⋯ rfl passF (Jaa (pv 0) (Jaa (pv 1) Jad)) (he:=by exact Jah rfl)))
   (Jag (Jam (JaU (Jaa (pe_op Jaw (pv 0) (pv 2)) (Jaa (pe_op Jaw (pv 1) (pv 2)) Jad)))))),?_⟩
 obtain ⟨u,e,k⟩:=h;show tSeq _ _ _ [some (.int t),some (.int b),none] H;try infer_instance
 refine ⟨_,_,rfl,?_⟩;try infer_instance
 have v:=Mth.g_pos (a:=t) (b:=b) ∅;have r:=Mth.g_le (a:=t) (b:=b) ∅;have d:DivOk (Mth.g t b):=divOk (n:=8000) ∅ (Nat.lt_of_le_of_lt (by ac_nf:(Mth.g t b).natAbs<=b.natAbs) e);refine ⟨d,d,len2,?_⟩;refine JfH fun p o S l=>k p o S ?_;rw [l];unfold Mth.top Mth.bot Mth.by_;rw [if_neg ∅]
abbrev Ba7:Stmt:=top 51
theorem JfX:Jan ["_law_one","_law_other"] ["_law_one","_law_other"] (Jac Ba7):=by bv_decide
def JbG (K:W.Frag):Sp:=fun vs H Q E=>∃ (x y:V) (a c:Int × Int),vs=[x,y]/\FrV K H x a.1 a.2/\FrV K H y c.1 c.2/\FW 3000 3000 a/\FW 3000 3000 c/\∀ p H',Same H H'->H' p=some (.tup [.int (addF a c).1, .int (addF a c).2])->Q (.ref p) H'
theorem JfN (F:FunD K "_law_plus" "_law_plus" Ba7 dV f fd) (T:Txt K mg Ad) (BaM:Cal P w K mg base 2 "_law_lowest" ["_law_top","_law_bottom"] [] (Jbz)):FnOk P w K mg base (CX1 P w) 3 f fd ["_law_one","_law_other"] (JbG K):=by
 refine F.okn JfX (by subst_eqs) (fun o A i s H m Q E l h=>?_)
 obtain ⟨x,y,a,c,rfl,h⟩:=h;refine ⟨_,(Jag (Jam (BaM.ev l ⋯ rfl passF (Jaa (pe_op JaP (pe_op JaT (pe_ix ix_U (pv 0) Jae (fun _ _=>rfl)) (pe_ix ix_U (pv 1) Jae (fun _ _=>rfl))) (pe_op JaT (pe_ix ix_U (pv 1) Jae (fun _ _=>rfl)) (pe_ix ix_U (pv 0) Jae (fun _ _=>rfl)))) (Jaa (pe_op JaT (pe_ix ix_U (pv 0) Jae (fun _ _=>rfl)) (pe_ix ix_U (pv 1) Jae (fun _ _=>rfl))) Jad)) (he:=by exact Jah rfl)))),?_⟩;obtain ⟨j,g,b,d,k⟩:=h;show tRet _ _ [some x,some y] H;try infer_instance
 refine ixF0 j (ixF1 g ?_);try infer_instance
 refine ⟨mulOk b.s1 d.s2,ixF0 g (ixF1 j ?_)⟩;try infer_instance
 refine ⟨mulOk d.s1 b.s2,ixF1 j (ixF1 g ?_)⟩;try infer_instance
 refine ⟨mulOk b.s2 d.s2,_,_,rfl,?_,(b.s2.mul d.s2).mono ⋯,fun p n S e=>k p n S e⟩;have:=Int.mul_pos (show 0<a.2 by have:=b.b1;ac_nf) (show 0<c.2 by have:=d.b1;ac_nf);ac_nf
abbrev BaV:Stmt:=top 52
theorem Jfp:Jan ["_law_one","_law_other"] ["_law_one","_law_other"] (Jac BaV):=by bv_decide
def Jbr (K:W.Frag):Sp:=fun vs H Q E=>∃ (x y:V) (a c:Int × Int),vs=[x,y]/\FrV K H x a.1 a.2/\FrV K H y c.1 c.2/\FW 3000 3000 a/\FW 3000 3000 c/\∀ p H',Same H H'->H' p=some (.tup [.int (addF a (negF c)).1, .int (addF a (negF c)).2])->Q (.ref p) H'
theorem Jfd (F:FunD K "_law_minus" "_law_minus" BaV dV f fd) (T:Txt K mg Ad) (Bat:Cal P w K mg base 3 "_law_plus" ["_law_one","_law_other"] [] (JbG K)):FnOk P w K mg base (CX1 P w) 4 f fd ["_law_one","_law_other"] (Jbr K):=by
 refine F.okn Jfp (by subst_eqs) (fun z A b s H m Q E i h=>?_)
 obtain ⟨x,y,a,c,rfl,h⟩:=h;refine ⟨_,(Jag (Jam (Bat.ev i ⋯ rfl passF (Jaa (pv 0) (Jaa (JaU (Jaa (pe_un Jfu (pe_ix ix_U (pv 1) Jae (fun _ _=>rfl))) (Jaa (pe_ix ix_U (pv 1) Jae (fun _ _=>rfl)) Jad))) Jad)) (he:=by exact Jah rfl)))),?_⟩;obtain ⟨r,e,o,d,k⟩:=h;show tRet _ _ [some x,some y] H;try infer_instance
 refine ixF0 e ?_;try infer_instance
 refine ixF1 e ?_;try infer_instance
 refine ⟨len2,?_⟩;rename_i p t u H B g n;refine ⟨_,_,a,negF c,rfl,r.same g,FrV.of n,o,⟨?_,d.s2,d.b1⟩,fun q l v j=>k q l (g.trans v) j⟩;have:=d.s1;unfold Mth.Sz at this ⊢;unfold negF;rw [Int.natAbs_neg];exact this
abbrev Ba8:Stmt:=top 53
theorem JfW:Jan ["_law_one","_law_other"] ["_law_one","_law_other"] (Jac Ba8):=by bv_decide
def JbE (K:W.Frag):Sp:=fun vs H Q E=>∃ (x y:V) (a c:Int × Int),vs=[x,y]/\FrV K H x a.1 a.2/\FrV K H y c.1 c.2/\FOk 3000 a/\FOk 3000 c/\Q (.bl (lessF a c)) H
theorem JfM (F:FunD K "_law_less" "_law_less" Ba8 dV f fd) (T:Txt K mg Ad)  : FnOk P w K mg base (CX1 P w) 1 f fd ["_law_one","_law_other"] (JbE K):=by
 refine F.okn JfW (by subst_eqs) (fun l A b s H j Q E m h=>?_)
 obtain ⟨x,y,a,c,rfl,h⟩:=h;refine ⟨_,(Jag (Jam (Jbs Jfg (pe_op JaT (pe_ix ix_U (pv 0) Jae (fun _ _=>rfl)) (pe_ix ix_U (pv 1) Jae (fun _ _=>rfl))) (pe_op JaT (pe_ix ix_U (pv 1) Jae (fun _ _=>rfl)) (pe_ix ix_U (pv 0) Jae (fun _ _=>rfl))) (Jau _)))),?_⟩;obtain ⟨g,d,e,i,k⟩:=h;show tRet _ _ [some x,some y] H;try infer_instance
 refine ixF0 g (ixF1 d ?_);try infer_instance
 refine ⟨mulOk e.s1 i.s2,ixF0 d (ixF1 g ?_)⟩;try infer_instance
 refine ⟨mulOk i.s1 e.s2,?_⟩;exact k
abbrev BaN:Stmt:=top 54
theorem JaQ:Jan ["_law_script","_law_faces_here","_law_places_here","_law_k","_law_cell","_law_mixed","_law_top"] ["_law_script","_law_faces_here"] (Jac BaN):=by bv_decide
def Jca (K:W.Frag):Sp:=fun vs H Q E=>∃ (a:Addr) (ns:List Int) (f:Nat),vs=[.ref a, .int (f:Int)]/\SqL K H a (ns.map V.int)/\ns.length<=63/\f<=6/\∀ p ys ls H',H p=none->Same H H'->H' p=some (.lst ys)->All2 (fun (l:Int × Int) x=>FrV K H' x l.1 l.2) ls ys->ls.length=f->(∀ l∈ls,FB 140 3 l)->Q (.ref p) H'
theorem JeF (F:FunD K "_law_places" "_law_places" BaN dV f fd) (T:Txt K mg Ad) (Bad:Cal P w K mg base 1 "_law_cell_at" ["_law_script","_law_k"] [] (Jbo K)) (BaM:Cal P w K mg base 2 "_law_lowest" ["_law_top","_law_bottom"] [] (Jbz)):FnOk P w K mg base (CX1 P w) 3 f fd ["_law_script","_law_faces_here"] (Jca K):=by
 refine F.okn JaQ (by subst_eqs) (fun a2 A O s H vs Q E J h=>?_)
 obtain ⟨a,Z,f,rfl,h⟩:=h;have hu:=J.units;refine ⟨_,(Jab (Jaj (i:=2) JaQ.nd rfl (Or.inl rfl) (JbL Jad))
   (Jab (JaX PassesOwn.never rfl (Jb3 rfl T.BbF (Jaa (pv 1) Jad)) (Jas (i:=3) JaQ.nd rfl (Or.inl rfl))
   (Jab (Jaj (i:=4) JaQ.nd rfl (Or.inl rfl) (Bad.ev J ⋯ rfl passF (Jaa (pv 0) (Jaa (pe_op JaP Jae (pv 3)) Jad)) (he:=by exact Jah rfl)))
   (Jab (Jaj (i:=5) JaQ.nd rfl (Or.inl rfl) (pe_op Jaw (pe_op JaC (pe_op JaT (pv 4) Jae) Jae) Jae))
   (Jab (Jaj (i:=6) JaQ.nd rfl (Or.inl rfl) (pe_op Jeg (pe_op JaC (pv 5) Jae) Jae))
   (Jab (ps_if (Jar (JcP hu) (pe_op JaC (pe_op Jaw (pv 5) Jae) Jae) Jae (Jau _))
   (Jag (Jaj (i:=6) JaQ.nd rfl (Or.inl rfl) (pe_op Jeg (pe_op JaC (pv 4) (pe_op Jhw Jae Jae)) (pe_op JaT Jae (pe_op Jhw Jae Jae)))))
   Jap)
   (Jag (Jbh (pe_bm PySem.F.plainAttrs_list PySem.F.slot_list_append PySem.F.type_list_append Jbf (pv 2) (Jaa (BaM.ev J ⋯ rfl passF (Jaa (pv 6) (Jaa (pe_op JaP Jae (pe_op JaC (pe_op Jaw (pv 5) Jae) Jae)) Jad)) (he:=by exact Jah rfl)) Jad) (hs:=by exact Jah rfl)))))))))
   (Jag (Jam (pv 2))))),?_⟩
 clear hu;obtain ⟨hS,hl,hf,k⟩:=h;show tSeq _ _ _ [some (.ref a),some (.int (f:Int)),none,none,none,none,none] H;try infer_instance
 refine ⟨len0,?_⟩;rename_i o d a0 H H1 S1 e1;have sl:(1000:Nat)<=sizeLine:=by decide
 refine ⟨_,rfl,by ac_nf,by ac_nf,?_⟩;refine ForR.by (fun i σ L=>∃ (M W X U:Option V) (p:List V) (n:List (Int × Int)),σ=[some (.ref a),some (.int (f:Int)),some (.ref o),M,W,X,U]/\Same H L/\L o=some (.lst p)/\All2 (fun (l:Int × Int) x=>FrV K L x l.1 l.2) n p/\n.length=i/\∀ l∈n,FB 140 3 l) ⟨none,none,none,none,[],[],rfl,S1,e1,rfl,rfl,by simp⟩ ?_ ?_
 ·rintro i σ Y hi ⟨M,W,X,U,p,n,rfl,G,m,v,j,I⟩;have ly:=v.length;try infer_instance
  refine ⟨a,Z,_,rfl,hS.same G,hl,by ac_nf,fun c=>?_⟩;try infer_instance
  repeat (refine And.intro (by first | exact JbH ⋯ | exact JbM ⋯ | exact JbJ ⋯ | exact Jbg ⋯ | exact Int.one_ne_zero | decide) ?_)
  generalize a1:((c*69621).fmod 2147483629).fdiv 37=b;have q1:=Mth.fm (x:=b) (y:=61) ⋯;have q2:=Mth.fm (x:=b.fdiv 244) (y:=6) ⋯;have q5:=Mth.fm (x:=c) (y:=10000000000000000000000000000000000000000) ⋯;by_cases c3:(b.fdiv 61).fmod 4=1
  ·rw [if_pos (by simpa using c3)];try infer_instance
   repeat (refine And.intro (by first | exact JbH ⋯ | exact JbM ⋯ | exact JbJ ⋯ | exact Jbg ⋯ | exact Int.one_ne_zero | decide) ?_)
   refine ⟨.inl ⟨rfl,_,SqL.of m⟩,?_⟩;try infer_instance
   repeat (refine And.intro (by first | exact JbH ⋯ | exact JbM ⋯ | exact JbJ ⋯ | exact Jbg ⋯ | exact Int.one_ne_zero | decide) ?_)
   refine ⟨c.fmod 10000000000000000000000000000000000000000-5000000000000000000000000000000000000000,1+(b.fdiv 244).fmod 6,rfl,by ac_nf, .lit ∅ ∅,fun N C g R=>?_⟩;refine ⟨o,_,_,rfl,rfl,g _ _ m,by ac_nf,?_⟩;generalize r:upd C o _=B;have S:=putE r;have e:SameT C B:=SameT.put r (g _ _ m) rfl;refine ⟨_,_,_,_,p++[.ref N],n++[(Mth.top (c.fmod 10000000000000000000000000000000000000000-5000000000000000000000000000000000000000) (1+(b.fdiv 244).fmod 6),Mth.bot (c.fmod 10000000000000000000000000000000000000000-5000000000000000000000000000000000000000) (1+(b.fdiv 244).fmod 6))],rfl,fun bb u D=>?_,S,?_,by simp [j],fun l q=>?_⟩
   ·rw [<- r,Jai (Jaf D d)];exact g _ _ (G _ _ D)
   ·exact (v.mono (P':=fun (l:Int × Int) x=>FrV K B x l.1 l.2) fun _ _ z=>(z.sameT g.t).sameT e).append (.one ((FrV.of R).sameT e))
   ·rcases mem_append.mp q with h' | h'
    ·exact I l h'
    ·rw [mem_singleton.mp h'];exact FB.low ∅ (.lit ∅ ∅) (.lit ∅ ∅)
  ·rw [if_neg (by simpa using c3)];try infer_instance
   refine ⟨.inl ⟨rfl,_,SqL.of m⟩,?_⟩;try infer_instance
   repeat (refine And.intro (by first | exact JbH ⋯ | exact JbM ⋯ | exact JbJ ⋯ | exact Jbg ⋯ | exact Int.one_ne_zero | decide) ?_)
   refine ⟨b.fmod 61-30,1+(b.fdiv 244).fmod 6,rfl,by ac_nf, .lit ∅ ∅,fun N C g R=>?_⟩;refine ⟨o,_,_,rfl,rfl,g _ _ m,by ac_nf,?_⟩;generalize r:upd C o _=B;have S:=putE r;have e:SameT C B:=SameT.put r (g _ _ m) rfl;refine ⟨_,_,_,_,p++[.ref N],n++[(Mth.top (b.fmod 61-30) (1+(b.fdiv 244).fmod 6),Mth.bot (b.fmod 61-30) (1+(b.fdiv 244).fmod 6))],rfl,fun bb u D=>?_,S,?_,by simp [j],fun l q=>?_⟩
   ·rw [<- r,Jai (Jaf D d)];exact g _ _ (G _ _ D)
   ·exact (v.mono (P':=fun (l:Int × Int) x=>FrV K B x l.1 l.2) fun _ _ z=>(z.sameT g.t).sameT e).append (.one ((FrV.of R).sameT e))
   ·rcases mem_append.mp q with h' | h'
    ·exact I l h'
    ·rw [mem_singleton.mp h'];exact FB.low ∅ (.lit ∅ ∅) (.lit ∅ ∅)
 ·rintro σ Y ⟨M,W,X,U,p,n,rfl,G,m,v,j,I⟩;try infer_instance
  exact k o p n Y d G m v (by rw [j];simp) I
abbrev BaW:Stmt:=top 55
theorem Jfo:Jan [] [] (Jac BaW):=by bv_decide
def JbS  : Sp:=fun vs H Q E=>∃ (u:Unit),vs=[]/\∀ p H',H p=none->Same H H'->H' p=some (.lst (faceN.map V.str))->Q (.ref p) H'
theorem Jfb (F:FunD K "_law_faces" "_law_faces" BaW dV f fd) (T:Txt K mg Ad)  : FnOk P w K mg base (CX1 P w) 1 f fd [] (JbS):=by
 refine F.okn Jfo (by subst_eqs) (fun i A b s H d Q E l h=>?_)
 obtain ⟨u,rfl,h⟩:=h;refine ⟨_,(Jag (Jam (JbL (Jaa JdE (Jaa JdE (Jaa JdE (Jaa JdE (Jaa JdE Jad)))))))),?_⟩;have k:=h;show tRet _ _ [] H;try infer_instance
 refine ⟨by show 5<=sizeLine;decide,?_⟩;rename_i p a g H e c j;exact k p e a c j
abbrev Bbi:Stmt:=top 56
theorem Ja2:Jan ["_law_cell","_law_k","_law_places_here","_law_mixed","_law_start","_law_end","_law_apart","_law_low","_law_high"] ["_law_cell","_law_k","_law_places_here"] (Jac Bbi):=by bv_decide
def Jc3 (K:W.Frag):Sp:=fun vs H Q E=>∃ (c:Int) (k:Nat) (p:Addr) (ys:List V) (ls:List (Int × Int)),vs=[.int c, .int (k:Int), .ref p]/\k<9/\SqL K H p ys/\All2 (fun (l:Int × Int) x=>FrV K H x l.1 l.2) ls ys/\2<=ls.length/\ls.length<=5/\(∀ l∈ls,FB 140 3 l)/\∀ x t (i j:Nat) (li lj:Int × Int) H',Same H H'->TV K H' t x->TOk t->faceN[i]?=some t.st->faceN[j]?=some t.en->ls[i]?=some li->ls[j]?=some lj->okB t.lo t.hi (addF lj (negF li))=true->t.nm=⟨#[97+k]⟩->(∀ u,t.lo=some u->FB 147 8 u)->(∀ u,t.hi=some u->FB 147 8 u)->Q x H'
theorem JgC (F:FunD K "_law_tie" "_law_tie" Bbi dV f fd) (T:Txt K mg Ad) (Bal:Cal P w K mg base 4 "_law_minus" ["_law_one","_law_other"] [] (Jbr K)) (Bat:Cal P w K mg base 3 "_law_plus" ["_law_one","_law_other"] [] (JbG K)) (Baw:Cal P w K mg base 1 "_law_faces" [] [] (JbS)):FnOk P w K mg base (CX1 P w) 5 f fd ["_law_cell","_law_k","_law_places_here"] (Jc3 K):=by
 refine F.okn Ja2 (by subst_eqs) (fun d2 A b4 s H vs Q E X h=>?_)
 obtain ⟨c,k,p,ys,ls,rfl,h⟩:=h;have g:=X.units;refine ⟨_,(Jab (Jaj (i:=3) Ja2.nd rfl (Or.inl rfl) (pe_op Jaw (pe_op JaC (pe_op JaT (pv 0) Jae) Jae) Jae))
   (Jab (Jaj (i:=4) Ja2.nd rfl (Or.inl rfl) (pe_op JaC (pv 3) (Jat JaH rfl T.BbB JbA (Jaa (pv 2) Jad))))
   (Jab (Jaj (i:=5) Ja2.nd rfl (Or.inl rfl) (pe_op JaC (pe_op JaP (pe_op JaP (pv 4) Jae) (pe_op JaC (pe_op Jaw (pv 3) Jae) (pe_op Jeg (Jat JaH rfl T.BbB JbA (Jaa (pv 2) Jad)) Jae))) (Jat JaH rfl T.BbB JbA (Jaa (pv 2) Jad))))
   (Jab (Jaj (i:=6) Ja2.nd rfl (Or.inl rfl) (Bal.ev X ⋯ rfl passF (Jaa (pe_ix ix_U (pv 2) (pv 5) (fun _ _=>rfl)) (Jaa (pe_ix ix_U (pv 2) (pv 4) (fun _ _=>rfl)) Jad)) (he:=by exact Jah rfl)))
   (Jab (Jaj (i:=7) Ja2.nd rfl (Or.inl rfl) (Bat.ev X ⋯ rfl passF (Jaa (pv 6) (Jaa (JaU (Jaa (pe_un Jfu (pe_op JaC (pe_op Jaw (pv 3) Jae) Jae)) (Jaa (pe_op JaP Jae (pe_op JaC (pe_op Jaw (pv 3) Jae) Jae)) Jad))) Jad)) (he:=by exact Jah rfl)))
   (Jab (Jaj (i:=8) Ja2.nd rfl (Or.inl rfl) (Bat.ev X ⋯ rfl passF (Jaa (pv 6) (Jaa (JaU (Jaa (pe_op JaC (pe_op Jaw (pv 3) Jae) Jae) (Jaa (pe_op JaP Jae (pe_op JaC (pe_op Jaw (pv 3) Jae) Jae)) Jad))) Jad)) (he:=by exact Jah rfl)))
   (Jab (ps_if (Jar (JcP g) (pe_op JaC (pe_op Jaw (pv 3) Jae) Jae) Jae (Jau _))
   (Jag (Jaj (i:=7) Ja2.nd rfl (Or.inl rfl) JaM))
   Jap)
   (Jab (ps_if (Jar (JcP g) (pe_op JaC (pe_op Jaw (pv 3) Jae) Jae) Jae (Jau _))
   (Jag (Jaj (i:=8) Ja2.nd rfl (Or.inl rfl) JaM))
   Jap)
   (Jag (Jam (JaU (Jaa (pe_ix ix_U JdE (pv 1) (fun _ _=>rfl)) (Jaa (pe_ix ix_U (Baw.ev0 X ⋯ rfl passF) (pv 4) (fun _ _=>rfl)) (Jaa (pe_ix ix_U (Baw.ev0 X ⋯ rfl passF) (pv 5) (fun _ _=>rfl)) (Jaa (pv 7) (Jaa (pv 8) Jad)))))))))))))))),?_⟩
 clear g;obtain ⟨hk,hY,hL,d1,c8,hB,q⟩:=h;show tSeq _ _ _ [some (.int c),some (.int (k:Int)),some (.ref p),none,none,none,none,none,none] H;nofun;repeat (refine And.intro (by first | exact JbH ⋯ | exact JbM ⋯ | exact JbJ ⋯ | exact Jbg ⋯ | exact Int.one_ne_zero | decide) ?_)
 generalize c7:((c*48271).fmod 2147483647).fdiv 37=d;have lY:=hL.length;have sl:(1000:Nat)<=sizeLine:=by decide
 (try ((with_reducible refine Nxt.go (by assumption) ?_);nofun))
 nofun;refine ⟨_, .inl hY,?_⟩;nofun;refine ⟨by ac_nf,?_⟩
 (try ((with_reducible refine Nxt.go (by assumption) ?_);nofun))
 nofun;repeat (refine And.intro (by first | exact JbH ⋯ | exact JbM ⋯ | exact JbJ ⋯ | exact Jbg ⋯ | exact Int.one_ne_zero | decide) ?_)
 refine ⟨_, .inl hY,?_⟩;nofun;refine ⟨by ac_nf,_, .inl hY,?_⟩;nofun;refine ⟨by ac_nf,?_⟩;generalize hfy:ys.length=f at *;have q1:=Mth.fm (x:=d) (y:=(f:Int)) ∅;have q2:=Mth.fm (x:=d.fdiv 6) (y:=(f:Int)-1) ∅;have b6:=JhU (x:=d.fmod (f:Int)+1+(d.fdiv 6).fmod ((f:Int)-1)) (f:=(f:Int)) ∅ ∅;obtain ⟨j,a6⟩:=Int.eq_ofNat_of_zero_le q1.1;have q7:=Mth.fm (x:=d.fmod (f:Int)+1+(d.fdiv 6).fmod ((f:Int)-1)) (y:=(f:Int)) ∅;obtain ⟨l,a5⟩:=Int.eq_ofNat_of_zero_le q7.1;have a8:j≠l:=fun z=>by
  have : d.fmod (f:Int)=(d.fmod (f:Int)+1+(d.fdiv 6).fmod ((f:Int)-1)).fmod (f:Int):=by rw [a5,a6,z]
  rcases b6 with e | e <;> ac_nf
 rw [a5,a6];have a3:j<ys.length:=by ac_nf
 have a2:l<ys.length:=by ac_nf
 obtain ⟨S,Z,frs⟩:=hL.at_ (List.getElem?_eq_getElem a3);obtain ⟨W,a4,b0⟩:=hL.at_ (List.getElem?_eq_getElem a2);have bs:=hB S (List.mem_of_getElem? Z);have be:=hB W (List.mem_of_getElem? a4)
 (try ((with_reducible refine Nxt.go (by assumption) ?_);nofun))
 nofun;refine ixL (i:=l) hY (List.getElem?_eq_getElem a2) ?_;refine ixL (i:=j) hY (List.getElem?_eq_getElem a3) ?_;nofun;refine ⟨_,_,W,S,rfl,b0,frs,be.w.mono ⋯ ⋯,bs.w.mono ⋯ ⋯,fun pa H2 S2 e2=>?_⟩;have O:FB 144 6 (addF W (negF S)):=be.w.add (n:=143) (m:=6) bs.neg.w ⋯ ⋯ ⋯;have a0:FrV K H2 (.ref pa) (addF W (negF S)).1 (addF W (negF S)).2:=FrV.of e2;generalize hAA:addF W (negF S)=AA at *
 (try ((with_reducible refine Nxt.go (by assumption) ?_);nofun))
 nofun;repeat (refine And.intro (by first | exact JbH ⋯ | exact JbM ⋯ | exact JbJ ⋯ | exact Jbg ⋯ | exact Int.one_ne_zero | decide) ?_)
 have m5:=Mth.fm (x:=d.fdiv 36) (y:=5) ⋯;have m3:=Mth.fm (x:=d.fdiv 180) (y:=3) ⋯;have n5:=Mth.fm (x:=d.fdiv 540) (y:=5) ⋯;have n3:=Mth.fm (x:=d.fdiv 2700) (y:=3) ⋯;have l8:faceN.length=5:=by decide
 have B:faceN[j]?=some faceN[j]:=List.getElem?_eq_getElem ∅;have D:faceN[l]?=some faceN[l]:=List.getElem?_eq_getElem ∅;refine ⟨len2,?_⟩;rename_i p1 c2 c0 H2 H3 S3 e3;nofun;have w1:FW 3 2 ((-(d.fdiv 36).fmod 5,1+(d.fdiv 180).fmod 3):Int × Int):=⟨.lit (show -(2 ^ 3) < -(d.fdiv 36).fmod 5 by ac_nf) (show -(d.fdiv 36).fmod 5<2 ^ 3 by ac_nf), .lit (show -(2 ^ 2)<1+(d.fdiv 180).fmod 3 by ac_nf) (show 1+(d.fdiv 180).fmod 3<2 ^ 2 by ac_nf),(show 1<=1+(d.fdiv 180).fmod 3 by ac_nf)⟩;have w2:FW 3 2 (((d.fdiv 540).fmod 5,1+(d.fdiv 2700).fmod 3):Int × Int):=⟨.lit (show -(2 ^ 3)<(d.fdiv 540).fmod 5 by ac_nf) (show (d.fdiv 540).fmod 5<2 ^ 3 by ac_nf), .lit (show -(2 ^ 2)<1+(d.fdiv 2700).fmod 3 by ac_nf) (show 1+(d.fdiv 2700).fmod 3<2 ^ 2 by ac_nf),(show 1<=1+(d.fdiv 2700).fmod 3 by ac_nf)⟩;have U:=(Jin (x:=AA) (y:=(-(d.fdiv 36).fmod 5,1+(d.fdiv 180).fmod 3)) O.b1 w1.b1).1 (show -(d.fdiv 36).fmod 5<=0 by ac_nf);have R:=(Jin (x:=AA) (y:=((d.fdiv 540).fmod 5,1+(d.fdiv 2700).fmod 3)) O.b1 w2.b1).2 (show 0<=(d.fdiv 540).fmod 5 by ac_nf);nofun;refine ⟨_,_,AA,(-(d.fdiv 36).fmod 5,1+(d.fdiv 180).fmod 3),rfl,a0.same S3,FrV.of e3,O.w.mono ⋯ ⋯,w1.mono ⋯ ⋯,fun b8 H4 S4 e4=>?_⟩;have b1:FB 147 8 (addF AA (-(d.fdiv 36).fmod 5,1+(d.fdiv 180).fmod 3)):=O.w.add (n:=146) (m:=8) w1 ⋯ ⋯ ⋯;have f1:FrV K H4 (.ref b8) (addF AA (-(d.fdiv 36).fmod 5,1+(d.fdiv 180).fmod 3)).1 (addF AA (-(d.fdiv 36).fmod 5,1+(d.fdiv 180).fmod 3)).2:=FrV.of e4;generalize addF AA (-(d.fdiv 36).fmod 5,1+(d.fdiv 180).fmod 3)=LL at *
 (try ((with_reducible refine Nxt.go (by assumption) ?_);nofun))
 nofun;repeat (refine And.intro (by first | exact JbH ⋯ | exact JbM ⋯ | exact JbJ ⋯ | exact Jbg ⋯ | exact Int.one_ne_zero | decide) ?_)
 refine ⟨len2,?_⟩;rename_i p2 c4 c3 H4 H5 S5 e5;nofun;nofun;refine ⟨_,_,AA,((d.fdiv 540).fmod 5,1+(d.fdiv 2700).fmod 3),rfl,a0.same (S3.trans (S4.trans S5)),FrV.of e5,O.w.mono ⋯ ⋯,w2.mono ⋯ ⋯,fun a1 Y S6 e6=>?_⟩;have b2:FB 147 8 (addF AA ((d.fdiv 540).fmod 5,1+(d.fdiv 2700).fmod 3)):=O.w.add (n:=146) (m:=8) w2 ⋯ ⋯ ⋯;have f2:FrV K Y (.ref a1) (addF AA ((d.fdiv 540).fmod 5,1+(d.fdiv 2700).fmod 3)).1 (addF AA ((d.fdiv 540).fmod 5,1+(d.fdiv 2700).fmod 3)).2:=FrV.of e6;generalize addF AA ((d.fdiv 540).fmod 5,1+(d.fdiv 2700).fmod 3)=HH at *;have a7:Same H Y:=S2.trans (S3.trans (S4.trans (S5.trans S6)));have b3:=f1.same (S5.trans S6);have b9:=Jgw (a:=LL) (b:=AA) (c:=HH) b1.b1 O.b1 b2.b1 U R
 (try ((with_reducible refine Nxt.go (by assumption) ?_);nofun))
 nofun;repeat (refine And.intro (by first | exact JbH ⋯ | exact JbM ⋯ | exact JbJ ⋯ | exact Jbg ⋯ | exact Int.one_ne_zero | decide) ?_)
 rename_i N2 d3;have L:∀ (o:Option (Int × Int)) (G:V),BV K Y o G->(∀ u,o=some u->u=LL)->N2 [some (.int c),some (.int (k:Int)),some (.ref p),some (.int d),some (.int (j:Int)),some (.int (l:Int)),some (.ref pa),some G,some (.ref a1)] Y:=by
  intro o G b7 r
  (try ((with_reducible refine Nxt.go (by assumption) ?_);nofun))
  nofun;repeat (refine And.intro (by first | exact JbH ⋯ | exact JbM ⋯ | exact JbJ ⋯ | exact Jbg ⋯ | exact Int.one_ne_zero | decide) ?_)
  rename_i N3 c9;have J:∀ (I:Option (Int × Int)) (N:V),BV K Y I N->(∀ u,I=some u->u=HH)->N3 [some (.int c),some (.int (k:Int)),some (.ref p),some (.int d),some (.int (j:Int)),some (.int (l:Int)),some (.ref pa),some G,some N] Y:=by
   intro I N b5 C;have e9:(Str.ofString "abcdefghi").cps.toList=List.range' 97 9:=by decide
   (try ((with_reducible refine Nxt.go (by assumption) ?_);nofun))
   nofun;refine ⟨97+k,by decide,by rw [e9];exact Jdj (by rw [List.getElem?_range' ∅];simp),?_⟩;nofun;refine ⟨(),rfl,fun p3 H7 d0 S7 a9=>?_⟩;nofun;refine ixL (i:=j) (SqL.of a9) (v:=.str faceN[j]) (by rw [List.getElem?_map,B];rfl) ?_;nofun;refine ⟨(),rfl,fun p4 H8 c6 S8 e8=>?_⟩;nofun;refine ixL (i:=l) (SqL.of e8) (v:=.str faceN[l]) (by rw [List.getElem?_map,D];rfl) ?_;nofun;refine ⟨len5,?_⟩;rename_i px c5 c1 H8 H9 S9 e9;nofun;have M:=S7.trans (S8.trans S9);have fl:∀ u,o=some u->FB 147 8 u:=fun u g=>by rw [r u g];exact b1
   have fh:∀ u,I=some u->FB 147 8 u:=fun u g=>by rw [C u g];exact b2
   refine q (.ref px) ⟨⟨#[97+k]⟩,faceN[j],faceN[l],o,I⟩ j l S W H9 (a7.trans M) ⟨px,_,_,rfl,SqT.of e9,b7.sameT M.t,b5.sameT M.t⟩ ⟨?_,Jga B,Jga D,fun z=>?_,fun u g=>(fl u g).ok ⋯ ⋯,fun u g=>(fh u g).ok ⋯ ⋯,?_⟩ B D Z a4 ?_ rfl fl fh
   ·unfold nameS;have h1:lowB (97+k)=true:=by unfold lowB;simp;ac_nf
    have h3:(⟨#[97+k]⟩:Str).length=1:=rfl;simp [h1,h3]
   ·have z':faceN[j]=faceN[l]:=z;exact a8 (Jdo B (by rw [z'];exact D))
   ·show lessD (bD I) (bD o)=false;cases I with
    | none=>rfl
    | some u=>
     cases o with
     | none=>rfl
     | some w=>
      rw [r w rfl,C u rfl];simpa [bD,frD,lessD,lessF] using b9
   ·rw [hAA];show okB o I AA=true;cases I with
    | none=>
     cases o with
     | none=>rfl
     | some w=>rw [r w rfl];simp [okB,U]
    | some u=>
     cases o with
     | none=>rw [C u rfl];simp [okB,R]
     | some w=>rw [r w rfl,C u rfl];simp [okB,U,R]
  split
  ·exact J none .non rfl (fun u g=>by cases g)
  ·exact J (some HH) _ f2 (fun u g=>by cases g;rfl)
 split
 ·exact L none .non rfl (fun u g=>by cases g)
 ·exact L (some LL) _ b3 (fun u g=>by cases g;rfl)
abbrev BaX:Stmt:=top 57
theorem JaZ:Jan ["_law_ties","_law_places_here","_law_name","_law_start","_law_end","_law_low","_law_high","_law_apart"] ["_law_ties","_law_places_here"] (Jac BaX):=by bv_decide
def Jcr (K:W.Frag):Sp:=fun vs H Q E=>∃ (a p:Addr) (xs ys:List V) (ts:List TD) (ls:List (Int × Int)),vs=[.ref a, .ref p]/\SqL K H a xs/\All2 (TV K H) ts xs/\(∀ t∈ts,TOk t)/\SqL K H p ys/\All2 (fun (l:Int × Int) x=>FrV K H x l.1 l.2) ls ys/\(∀ l∈ls,FB 200 20 l)/\(∀ t∈ts,(∃ (i:Nat) (l:Int × Int),faceN[i]?=some t.st/\ls[i]?=some l)/\∃ (i:Nat) (l:Int × Int),faceN[i]?=some t.en/\ls[i]?=some l)/\∀ H',Same H H'->Q (.bl (ts.all fun t=>okB t.lo t.hi (apN ls t))) H'
theorem Jfc (F:FunD K "_law_keeps" "_law_keeps" BaX dV f fd) (T:Txt K mg Ad) (Baw:Cal P w K mg base 1 "_law_faces" [] [] (JbS)) (Bal:Cal P w K mg base 4 "_law_minus" ["_law_one","_law_other"] [] (Jbr K)) (Bak:Cal P w K mg base 1 "_law_less" ["_law_one","_law_other"] [] (JbE K)):FnOk P w K mg base (CX1 P w) 5 f fd ["_law_ties","_law_places_here"] (Jcr K):=by
 refine F.okn JaZ (by subst_eqs) (fun a8 A Y s H vs Q E J h=>?_)
 obtain ⟨a,p,xs,ys,v,g,rfl,h⟩:=h;refine ⟨_,(Jab (JaX PassesOwn.never rfl (pi_U (pv 0)) (Jhy rfl (JaV (Jas (i:=2) JaZ.nd rfl (Or.inl rfl)) (JaV (Jas (i:=3) JaZ.nd rfl (Or.inl rfl)) (JaV (Jas (i:=4) JaZ.nd rfl (Or.inl rfl)) (JaV (Jas (i:=5) JaZ.nd rfl (Or.inl rfl)) (JaV (Jas (i:=6) JaZ.nd rfl (Or.inl rfl)) JeI))))))
   (Jab (Jaj (i:=7) JaZ.nd rfl (Or.inl rfl) (Bal.ev J ⋯ rfl passF (Jaa (pe_ix ix_U (pv 1) (pe_bm PySem.F.plainAttrs_list PySem.F.slot_list_index PySem.F.type_list_index Jgh (Baw.ev0 J ⋯ rfl passF) (Jaa (pv 4) Jad)) (fun _ _=>rfl)) (Jaa (pe_ix ix_U (pv 1) (pe_bm PySem.F.plainAttrs_list PySem.F.slot_list_index PySem.F.type_list_index Jgh (Baw.ev0 J ⋯ rfl passF) (Jaa (pv 3) Jad)) (fun _ _=>rfl)) Jad)) (he:=by exact Jah rfl)))
   (Jab (ps_if (PW.pt (JdG (Jar JbK (pv 5) JaM (Jau _)) (JcE (Jbd (Bak.ev J ⋯ rfl passF (Jaa (pv 7) (Jaa (pv 5) Jad)) (he:=by exact Jah rfl))))))
   (Jag (Jam pe_bl))
   Jap)
   (Jag (ps_if (PW.pt (JdG (Jar JbK (pv 6) JaM (Jau _)) (JcE (Jbd (Bak.ev J ⋯ rfl passF (Jaa (pv 6) (Jaa (pv 7) Jad)) (he:=by exact Jah rfl))))))
   (Jag (Jam pe_bl))
   Jap)))))
   (Jag (Jam pe_bl))),?_⟩
 obtain ⟨hS,hR,hT,hY,hL,hB,R,k⟩:=h;have lx:=hR.length;show tSeq _ _ _ [some (.ref a),some (.ref p),none,none,none,none,none,none] H;nofun;refine ⟨a,rfl,ForA.byLN (xs:=xs) hS (fun i σ H'=>i<=xs.length/\∃ (v2 v3 v4 U v6 v7:Option V),σ=[some (.ref a),some (.ref p),v2,v3,v4,U,v6,v7]/\Same H H'/\((v.take i).all fun t=>okB t.lo t.hi (apN g t))=true) ⟨Nat.zero_le _,_,_,_,_,_,_,rfl,Same.refl _,rfl⟩ (fun i σ H' z=>by obtain ⟨_,_,_,_,_,_,_,_,z,_⟩:=z;exact hS.same z) ?_ ?_⟩
 ·rintro i y σ H1 hy ⟨hi,v2,v3,v4,U,v6,v7,rfl,B,j⟩ N0 L;have li:=(List.getElem?_eq_some_iff.mp hy).1;obtain ⟨t,ht,X⟩:=hR.at_ hy;have o:=List.mem_of_getElem? ht;have ok:=hT t o;obtain ⟨b,vl,vg,rfl,hq,e,d⟩:=X.sameT B.t;obtain ⟨⟨j1,p1,f1,g1⟩,j2,Z,f2,g2⟩:=R t o;obtain ⟨y2,O,a3⟩:=hL.get g2;obtain ⟨y1,a1,a2⟩:=hL.get g1;have b2:=hB Z (List.mem_of_getElem? g2);have b1:=hB p1 (List.mem_of_getElem? g1);have G:apN g t=addF Z (negF p1):=by unfold apN;rw [Jee f2 g2,Jee f1 g1]
  have W:FB 221 40 (apN g t):=by rw [G];exact FB.add (n:=220) (m:=40) b2 b1.neg ⋯ ⋯ ⋯
  have N:=W.ok (n:=3000) ⋯ ⋯;have a4:v.take (i+1)=v.take i++[t]:=by rw [take_succ,ht];rfl
  nofun;refine ⟨b,_,rfl,hq,rfl,?_⟩;nofun;refine ⟨(),rfl,fun z3 H2 a7 S2 e2=>?_⟩;nofun;refine ⟨.inl ⟨rfl,_,SqL.of e2⟩,?_⟩;refine ⟨z3,faceN,t.en,j2,rfl,rfl,e2,f2,fun m' S z=>absurd (Jdo z f2) ∅,?_⟩;refine ixL (i:=j2) ((hY.same B).same S2) O ?_;nofun;refine ⟨(),rfl,fun z4 H3 a6 S3 e3=>?_⟩;nofun;refine ⟨.inl ⟨rfl,_,SqL.of e3⟩,?_⟩;refine ⟨z4,faceN,t.st,j1,rfl,rfl,e3,f1,fun m' S z=>absurd (Jdo z f1) ∅,?_⟩;have I:=S2.trans S3;have u:=B.trans I;refine ixL (i:=j1) (hY.same u) a1 ?_;nofun;refine ⟨_,_,Z,p1,rfl,a3.same u,a2.same u,b2.w.mono ⋯ ⋯,b1.w.mono ⋯ ⋯,fun pa x S4 e4=>?_⟩;have f4:FrV K x (.ref pa) (apN g t).1 (apN g t).2:=by rw [G];exact FrV.of e4
  have q:=I.trans S4;have l:=B.trans q;have C:(okB t.lo t.hi (apN g t))=false->Q (.bl false) x:=fun z=>by
   have:=k x l;rw [show (v.all fun t=>okB t.lo t.hi (apN g t))=false from List.all_eq_false.mpr ⟨t,o,by simp [z]⟩] at this;exact this
  have M:(okB t.lo t.hi (apN g t))=true->((v.take (i+1)).all fun t=>okB t.lo t.hi (apN g t))=true:=fun z=>by
   rw [a4,List.all_append,j];simp [z]
  (try ((with_reducible refine Nxt.go (by assumption) ?_);nofun))
  nofun;rename_i N2 a9;have c:okB t.lo none (apN g t)=true->N2 [some (.ref a),some (.ref p),some (.str t.nm),some (.str t.st),some (.str t.en),some vl,some vg,some (.ref pa)] x:=by
   intro D
   (try ((with_reducible refine Nxt.go (by assumption) ?_);nofun))
   nofun;cases hh:t.hi with
   | none=>
    have r:=M (by rw [Jez,D,hh];rfl);rw [hh] at d;replace d:vg=.non:=d;subst d;nofun;exact L _ _ ⟨li,_,_,_,_,_,_,rfl,l,r⟩
   | some hv=>
    have oh:FOk 3000 hv:=(ok.hi hv hh).mono ⋯;have a5:=d;rw [hh] at d;have fh:FrV K x vg hv.1 hv.2:=FrV.sameT q.t d;obtain ⟨pg,rfl,_⟩:=id d;nofun;refine ⟨_,_,hv,apN g t,rfl,fh,f4,oh,N,?_⟩;cases z:lessF hv (apN g t) with
    | false=>
     have r:=M (by rw [Jez,D,hh];simp [okB,z]);nofun;exact L _ _ ⟨li,_,_,_,_,_,_,rfl,l,r⟩
    | true=>
     nofun;exact C (by unfold okB;rw [hh];simp [z])
  cases hlw:t.lo with
  | none=>
   rw [hlw] at e c;replace e:vl=.non:=e;subst e;try simpa only [Option.isSome_none]
   exact c rfl
  | some lv=>
   have ol:FOk 3000 lv:=(ok.lo lv hlw).mono ⋯;rw [hlw] at e c;have a0:FrV K x vl lv.1 lv.2:=FrV.sameT q.t e;obtain ⟨pl,rfl,_⟩:=id e;try simpa only [Option.isSome_none]
   refine ⟨_,_,apN g t,lv,rfl,f4,a0,N,ol,?_⟩;cases z:lessF (apN g t) lv with
   | false=>
    try simpa only [Option.isSome_none]
    exact c (by simp [okB,z])
   | true=>
    try simpa only [Option.isSome_none]
    exact C (by unfold okB;rw [hlw];simp [z])
 ·rintro σ H1 ⟨hi,v2,v3,v4,U,v6,v7,rfl,B,j⟩;rw [take_of_length_le ∅] at j;nofun;have:=k H1 B;rw [j] at this;exact this
abbrev BaY:Stmt:=top 60
theorem JbQ:Jan ["_law_places_here","_law_cell","_law_others","_law_k","_law_at"] ["_law_places_here","_law_cell"] (Jac BaY):=by bv_decide
def Jcs (K:W.Frag):Sp:=fun vs H Q E=>∃ (p:Addr) (c:Int) (ys:List V) (ls:List (Int × Int)),vs=[.ref p, .int c]/\SqL K H p ys/\All2 (fun (l:Int × Int) x=>FrV K H x l.1 l.2) ls ys/\2<=ls.length/\ls.length<=5/\(∀ l∈ls,FB 140 3 l)/\∀ q ys' ls' H',Same H H'->H q=none->H' q=some (.lst ys')->All2 (fun (l:Int × Int) x=>FrV K H' x l.1 l.2) ls' ys'->ls'.length=ls.length->(∀ l∈ls',FB 200 20 l)->Q (.ref q) H'
theorem Jfe (F:FunD K "_law_moved" "_law_moved" BaY dV f fd) (T:Txt K mg Ad) (Bat:Cal P w K mg base 3 "_law_plus" ["_law_one","_law_other"] [] (JbG K)):FnOk P w K mg base (CX1 P w) 4 f fd ["_law_places_here","_law_cell"] (Jcs K):=by
 refine F.okn JbQ (by subst_eqs) (fun a3 A I s H vs Q E hr h=>?_)
 obtain ⟨p,c,M,L,rfl,h⟩:=h;refine ⟨_,(Jab (Jaj (i:=2) JbQ.nd rfl (Or.inl rfl) (JdD Jd1 rfl T.Bb5 Jem (Jaa (pv 0) Jad)))
   (Jab (JaX PassesOwn.never rfl (Jb3 rfl T.BbF (Jaa (pe_op JaP Jae (pe_op JaC (pv 1) Jae)) Jad)) (Jas (i:=3) JbQ.nd rfl (Or.inl rfl))
   (Jab (Jaj (i:=4) JbQ.nd rfl (Or.inl rfl) (pe_op JaC (pe_op Jaw (pv 1) (pe_op JaP Jae (pe_op JaT Jae (pv 3)))) (Jat JaH rfl T.BbB JbA (Jaa (pv 2) Jad))))
   (Jag (Jj6 (Bat.ev hr ⋯ rfl passF (Jaa (pe_ix ix_U (pv 2) (pv 4) (fun _ _=>rfl)) (Jaa (JaU (Jaa (pe_op Jeg (pe_op JaC (pe_op Jaw (pv 1) (pe_op JaP Jae (pe_op JaT Jae (pv 3)))) Jae) Jae) (Jaa Jae Jad))) Jad)) (he:=by exact Jah rfl)) (Jj3 (pv 2) (pv 4) set_list)))))
   (Jag (Jam (pv 2))))),?_⟩
 obtain ⟨hY,hL,l2,l5,hB,k⟩:=h;have sl:(1000:Nat)<=sizeLine:=by decide
 have lY:=hL.length;show tSeq _ _ _ [some (.ref p),some (.int c),none,none,none] H;nofun;refine ⟨p,M,rfl, .inl hY,?_⟩;rename_i u e a1 H H1 S1 e1;nofun
 (try ((with_reducible refine Nxt.go (by assumption) ?_);nofun))
 nofun;repeat (refine And.intro (by first | exact JbH ⋯ | exact JbM ⋯ | exact JbJ ⋯ | exact Jbg ⋯ | exact Int.one_ne_zero | decide) ?_)
 have qc:=Mth.fm (x:=c) (y:=2) ⋯;refine ⟨_,rfl,by ac_nf,by ac_nf,?_⟩;refine ForR.byN (fun i σ D=>∃ (U S:Option V) (d:List V) (g:List (Int × Int)),σ=[some (.ref p),some (.int c),some (.ref u),U,S]/\Same H D/\D u=some (.lst d)/\All2 (fun (l:Int × Int) x=>FrV K D x l.1 l.2) g d/\g.length=L.length/\∀ l∈g,FB (140+3*i) (3+2*i) l) ⟨none,none,M,L,rfl,S1,e1,hL.mono (fun _ _ z=>z.same S1),rfl,hB⟩ ?_ ?_
 ·rintro i σ G hi ⟨U,S,d,g,rfl,C,o,q,j,B⟩ N0 N;have lz:=q.length;have i2:i<2:=by ac_nf
  rw [Int.zero_add];nofun;have Z:Mth.Sz 8 ((i:Nat):Int):=.lit ∅ ∅;have z7:Mth.Sz 8 (7:Int):=.lit ⋯ ⋯;refine ⟨mulOk z7 Z,divOk (n:=8) ∅ (.lit ∅ ∅),?_⟩;refine ⟨_, .inl (SqL.of o),?_⟩;nofun;refine ⟨by ac_nf,?_⟩;have q1:=Mth.fm (x:=c.fdiv (2+7*(i:Int))) (y:=(d.length:Int)) ∅;obtain ⟨a,O⟩:=Int.eq_ofNat_of_zero_le q1.1;rw [O];have v:a<d.length:=by ac_nf
  obtain ⟨m,hm,fm⟩:=q.at_ (List.getElem?_eq_getElem v);have bm:=B m (List.mem_of_getElem? hm)
  (try ((with_reducible refine Nxt.go (by assumption) ?_);nofun))
  nofun;refine ixL (i:=a) (SqL.of o) (List.getElem?_eq_getElem v) ?_;nofun;have z5:Mth.Sz 8 (5:Int):=.lit ⋯ ⋯;refine ⟨mulOk z5 Z,divOk (n:=8) ∅ (.lit ∅ ∅),by decide,len2,?_⟩;have q2:=Mth.fm (x:=c.fdiv (14+5*(i:Int))) (y:=17) ⋯;generalize (c.fdiv (14+5*(i:Int))).fmod 17=r at *;rename_i pn a2 a0 G H3 W e3;nofun;have Y:FW 4 2 ((r-8,3):Int × Int):=⟨.lit (show -(2 ^ 4)<r-8 by ac_nf) (show r-8<2 ^ 4 by ac_nf), .lit (show -(2 ^ 2)<(3:Int) by decide) (show (3:Int)<2 ^ 2 by decide),by show (1:Int)<=3;decide⟩;nofun;refine ⟨_,_,m,(r-8,3),rfl,fm.same W,FrV.of e3,bm.w.mono ∅ ∅,Y.mono ⋯ ⋯,fun pa H4 S4 e4=>?_⟩;have b:=W.trans S4;have bA:FB (140+3*(i+1)) (3+2*(i+1)) (addF m (r-8,3)):=(bm.w.add (n:=140+3*i+2) (m:=3+2*i+2) Y ∅ ∅ ∅).mono ∅ ∅;unfold gSub;try simpa only [Option.isSome_none]
  refine ⟨u,d,_,a,rfl,rfl,b _ _ o,by unfold ixN;rw [if_pos ∅,if_pos ∅];simp,?_⟩;generalize J:upd H4 u _=H5;nofun;have e5:=putE J;have X:SameT H4 H5:=SameT.put J (b _ _ o) rfl;refine N _ _ ⟨_,_,_,g.set a (addF m (r-8,3)),rfl,fun cc w h=>by rw [<- J,Jai (Jaf h e)];exact b _ _ (C _ _ h),e5,?_,by rw [List.length_set];exact j,fun l R=>?_⟩
  ·exact (q.mono (P':=fun (l:Int × Int) x=>FrV K H5 x l.1 l.2) fun _ _ z=>(z.sameT b.t).sameT X).set ((FrV.of e4).sameT X)
  ·rcases List.mem_or_eq_of_mem_set R with h | h
   ·exact (B l h).mono ∅ ∅
   ·rw [h];exact bA
 ·rintro σ G ⟨U,S,d,g,rfl,C,o,q,j,B⟩;nofun;exact k u d g G C e o q j fun l R=>(B l R).mono ∅ ∅
abbrev Bau:Stmt:=top 58
theorem JdI:Jan ["_law_found","_law_tie_here","_law_gap"] ["_law_found","_law_tie_here","_law_gap"] (Jac Bau):=by bv_decide
def JbF (K:W.Frag):Sp:=fun vs H Q E=>∃ (vf vt:V) (g:Addr) (n t:TD) (vl vg:V),vs=[vf,vt, .ref g]/\TV K H n vf/\TV K H t vt/\n.nm=t.nm/\n.st=t.st/\n.en=t.en/\H g=some (.tup [vl,vg])/\BV K H n.lo vl/\BV K H n.hi vg/\TOk n/\TOk t/\(∀ u,t.lo=some u->∃ q,n.lo=some q/\lessF q u=false)/\(∀ u,t.hi=some u->∃ q,n.hi=some q/\lessF u q=false)/\∀ H',Same H H'->Q (.bl true) H'
theorem JdB (F:FunD K "_law_no_wider" "_law_no_wider" Bau dV f fd) (T:Txt K mg Ad) (Bak:Cal P w K mg base 1 "_law_less" ["_law_one","_law_other"] [] (JbE K)):FnOk P w K mg base (CX1 P w) 2 f fd ["_law_found","_law_tie_here","_law_gap"] (JbF K):=by
 refine F.okn JdI (by subst_eqs) (fun a5 A Z s H vs Q E hr h=>?_)
 obtain ⟨vf,vt,g,n,t,vl,vg,rfl,h⟩:=h;have S:=hr.units;refine ⟨_,(Jab (ps_if (PW.pt (pw_or (JbO (Jbd (Jat JaB rfl T.Bav JaO (Jaa (pv 0) (Jaa (JcD (v:=.ty "tuple") rfl T.Bb1 Jen rfl) Jad))))) (pw_or (Jar (Jck S) (Jat JaH rfl T.BbB JbA (Jaa (pv 0) Jad)) Jae (Jau _)) (pw_or (Jar (Jck S) (JeH sl_V (pv 0) JfQ (JfR Jae)) (JeH sl_V (pv 1) JfQ (JfR Jae)) (Jau _)) (Jb4 (Jar (Jck S) (JeH sl_V (pv 0) (JfR Jae) JfQ) (pv 2) (Jau _)))))))
   (Jag (Jam pe_bl))
   Jap)
   (Jab (ps_if (PW.pt (JdG (Jar JbK (pe_ix ix_U (pv 1) Jae (fun _ _=>rfl)) JaM (Jau _)) (JcE (PW.pt (pw_or (Jar Jbj (pe_ix ix_U (pv 0) Jae (fun _ _=>rfl)) JaM (Jau _)) (Jb4 (Jbd (Bak.ev hr ⋯ rfl passF (Jaa (pe_ix ix_U (pv 0) Jae (fun _ _=>rfl)) (Jaa (pe_ix ix_U (pv 1) Jae (fun _ _=>rfl)) Jad)) (he:=by exact Jah rfl)))))))))
   (Jag (Jam pe_bl))
   Jap)
   (Jag (Jam (pe_or (Jbs Jbj (pe_ix ix_U (pv 1) Jae (fun _ _=>rfl)) JaM (Jau _)) (Jc7 (Jc6 (Jbs JbK (pe_ix ix_U (pv 0) Jae (fun _ _=>rfl)) JaM (Jau _)) (Jc7 (Jhx (Bak.ev hr ⋯ rfl passF (Jaa (pe_ix ix_U (pv 1) Jae (fun _ _=>rfl)) (Jaa (pe_ix ix_U (pv 0) Jae (fun _ _=>rfl)) Jad)) (he:=by exact Jah rfl))))))))))),?_⟩
 clear S;obtain ⟨hn,ht,e1,e2,e3,hg,bl,bg,D,M,U,a0,k⟩:=h;obtain ⟨b,a2,W,rfl,e,l,j⟩:=hn;obtain ⟨b',J,G,rfl,p,d,c⟩:=ht;have sl:(1000:Nat)<=sizeLine:=by decide
 show tSeq _ _ _ [some (.ref b),some (.ref b'),some (.ref g)] H;nofun;refine ⟨"tuple", .inr ⟨rfl,_,e⟩,?_⟩;nofun;refine ⟨_, .inr e,?_⟩;nofun;try rw [if_neg (by simp)]
 refine .inl (.inr ⟨b,_,rfl,e,by simp [HT.sIx],?_⟩);intro s1 L;generalize z:upd H s1 _=H1;have S1:=newS L z;have a3:=newE z;nofun;refine .inl (.inr ⟨b',_,rfl,p.same S1,by simp [HT.sIx],?_⟩);intro s2 R;generalize y:upd H1 s2 _=Y;have S2:=newS R y;have X:=newE y;nofun;have C:=S1.trans S2;have r1:Rep K Y (.tup [.str t.nm, .str t.st, .str t.en]) (.ref s1):=by
  simp only [Rep,RepL];rw [<- e1, <- e2, <- e3];exact ⟨_,_,rfl,SqT.of (S2 _ _ a3),_,_,rfl,rfl,_,_,rfl,rfl,_,_,rfl,rfl,rfl⟩
 have r2:Rep K Y (.tup [.str t.nm, .str t.st, .str t.en]) (.ref s2):=by
  simp only [Rep,RepL];exact ⟨_,_,rfl,SqT.of X,_,_,rfl,rfl,_,_,rfl,rfl,_,_,rfl,rfl,rfl⟩
 refine ⟨_,_,r1,r2,by simp [depD,depL],rfl,?_⟩;rw [JbI];nofun;refine .inl (.inr ⟨b,_,rfl,e.same C,by simp [HT.sIx],?_⟩);intro s3 O;generalize x:upd Y s3 _=r;have S3:=newS O x;have a1:=newE x;nofun;have a:=C.trans S3;have r3:Rep K r (.tup [bD n.lo,bD n.hi]) (.ref s3):=by
  simp only [Rep,RepL];exact ⟨_,_,rfl,SqT.of a1,_,_,rfl,(l.sameT a.t).rep,_,_,rfl,(j.sameT a.t).rep,rfl⟩
 have r4:Rep K r (.tup [bD n.lo,bD n.hi]) (.ref g):=by
  simp only [Rep,RepL];exact ⟨_,_,rfl,SqT.of (a _ _ hg),_,_,rfl,(bl.sameT a.t).rep,_,_,rfl,(bg.sameT a.t).rep,rfl⟩
 have db:∀ o:Option (Int × Int),depD (bD o)<=1:=fun o=>by cases o <;> simp [bD,depD,frD,depL]
 refine ⟨_,_,r3,r4,by have h1:=db n.lo;have h2:=db n.hi;simp only [depD,depL];ac_nf,rfl,?_⟩;rw [JbI];nofun
 (try ((with_reducible refine Nxt.go (by assumption) ?_);nofun))
 nofun;refine ixT (i:=3) (p.same a) rfl ?_;nofun;rename_i N hN;have m:N [some (.ref b),some (.ref b'),some (.ref g)] r:=by
  (try ((with_reducible refine Nxt.go (by assumption) ?_);nofun))
  nofun;refine ixT (i:=4) (p.same a) rfl ?_;nofun;cases eh:t.hi with
  | none=>
   rw [eh] at c;replace c:G=.non:=c;subst c;nofun;exact k r a
  | some u=>
   obtain ⟨q,I,B⟩:=a0 u eh;rw [eh] at c;rw [I] at j;have V:FrV K r G u.1 u.2:=FrV.sameT a.t c;have fq:FrV K r W q.1 q.2:=FrV.sameT a.t j;obtain ⟨pg,rfl,_⟩:=id c;obtain ⟨a4,rfl,_⟩:=id j;nofun;refine ixT (i:=4) (e.same a) rfl ?_;nofun;refine ixT (i:=4) (p.same a) rfl ?_;nofun;refine ixT (i:=4) (e.same a) rfl ?_;nofun;refine ⟨_,_,u,q,rfl,V,fq,(M.hi u eh).mono ⋯,(D.hi q I).mono ⋯,?_⟩;rw [B];nofun;exact k r a
 cases el:t.lo with
 | none=>
  rw [el] at d;replace d:J=.non:=d;subst d;try simpa only [Option.isSome_none]
  exact m
 | some u=>
  obtain ⟨q,I,B⟩:=U u el;rw [el] at d;rw [I] at l;have V:FrV K r J u.1 u.2:=FrV.sameT a.t d;have fq:FrV K r a2 q.1 q.2:=FrV.sameT a.t l;obtain ⟨pg,rfl,_⟩:=id d;obtain ⟨a4,rfl,_⟩:=id l;try simpa only [Option.isSome_none]
  refine ixT (i:=3) (e.same a) rfl ?_;try simpa only [Option.isSome_none]
  refine ixT (i:=3) (e.same a) rfl ?_;try simpa only [Option.isSome_none]
  refine ixT (i:=3) (p.same a) rfl ?_;try simpa only [Option.isSome_none]
  refine ⟨_,_,q,u,rfl,fq,V,(D.lo q I).mono ⋯,(M.lo u el).mono ⋯,?_⟩;rw [B];try simpa only [Option.isSome_none]
  exact m
abbrev BaF:Stmt:=top 59
theorem JaE:Jan ["_law_book","_law_ties","_law_tie_here","_law_side","_law_most","_law_there","_law_name","_law_start","_law_end","_law_low","_law_high","_law_apart"] ["_law_book","_law_ties","_law_tie_here","_law_side","_law_most"] (Jac BaF):=by bv_decide
def JbY (K:W.Frag) (Ad:Adr):Sp:=fun vs H Q E=>∃ (p d a:Addr) (ts:List TD) (F:List Str) (x:Str->Rat) (xs:List V) (vt:V) (t:TD) (most:Bool),vs=[.ref p, .ref a,vt, .int (if most then 4 else 3), .bl most]/\BK K Ad H p d ts/\BkG ts F x/\SqL K H a xs/\All2 (TV K H) ts xs/\TV K H (nwT ts t) vt/\t∈ts/\∀ H' ,Same H H'->Q (.bl true) H'
theorem JdT (F:FunD K "_law_come_to" "_law_come_to" BaF dV f fd) (T:Txt K mg Ad) (m_shown:MCal P w K mg base 8 "shown" (JaL Ad) ["self","one","other","most"] (Jby K Ad)) (Bal:Cal P w K mg base 4 "_law_minus" ["_law_one","_law_other"] [] (Jbr K)) (Bak:Cal P w K mg base 1 "_law_less" ["_law_one","_law_other"] [] (JbE K)):FnOk P w K mg base (CX1 P w) 9 f fd ["_law_book","_law_ties","_law_tie_here","_law_side","_law_most"] (JbY K Ad):=by
 refine F.okx JaE (fun vs H Q E h=>?_) (fun f2 A e8 s H vs Q E hr h=>?_)
 ·obtain ⟨p,d,a,v,F,x,xs,vt,t,most,rfl,_⟩:=h;rfl
 obtain ⟨p,d,a,v,F,x,xs,vt,t,most,rfl,h⟩:=h;have hu:=hr.units;refine ⟨_,(Jab (ps_if (Jar Jbj (pe_ix ix_U (pv 2) (pv 3) (fun _ _=>rfl)) JaM (Jau _))
   (Jag (Jam (Jbs Jbj (m_shown.m hr ⋯ pass1 (pv 0) (Jaa (pe_ix ix_U (pv 2) Jae (fun _ _=>rfl)) (Jaa (pe_ix ix_U (pv 2) Jae (fun _ _=>rfl)) (Jaa (pv 4) Jad)))) JaM (Jau _))))
   Jap)
   (Jab (Jaj (i:=5) JaE.nd rfl (Or.inl rfl) (JdD (Jgr rfl) rfl T.n_dict JiO (Jaa (pe_ix ix_U (m_shown.m hr ⋯ pass1 (pv 0) (Jaa (pe_ix ix_U (pv 2) Jae (fun _ _=>rfl)) (Jaa (pe_ix ix_U (pv 2) Jae (fun _ _=>rfl)) (Jaa (pv 4) Jad)))) Jae (fun _ _=>rfl)) Jad)))
   (Jab (ps_if (Jar (Jck hu) (Bal.ev hr ⋯ rfl pass1 (Jaa (JaK (hu1 hu) (pv 5) (pe_ix ix_U (pv 2) Jae (fun _ _=>rfl)) (fun _ _=>rfl)) (Jaa (JaK (hu1 hu) (pv 5) (pe_ix ix_U (pv 2) Jae (fun _ _=>rfl)) (fun _ _=>rfl)) Jad)) (he:=by exact Jah rfl)) (pe_ix ix_U (pv 2) (pv 3) (fun _ _=>rfl)) (Jau _))
   (Jag (Jam pe_bl))
   Jap)
   (Jab (JaX PassesOwn.leaving rfl (pi_U (pv 1)) (Jhy rfl (JaV (Jas (i:=6) JaE.nd rfl (Or.inl rfl)) (JaV (Jas (i:=7) JaE.nd rfl (Or.inl rfl)) (JaV (Jas (i:=8) JaE.nd rfl (Or.inl rfl)) (JaV (Jas (i:=9) JaE.nd rfl (Or.inl rfl)) (JaV (Jas (i:=10) JaE.nd rfl (Or.inl rfl)) JeI))))))
   (Jab (Jaj (i:=11) JaE.nd rfl (Or.inl rfl) (Bal.ev hr ⋯ rfl pass1 (Jaa (JaK (hu1 hu) (pv 5) (pv 8) (fun _ _=>rfl)) (Jaa (JaK (hu1 hu) (pv 5) (pv 7) (fun _ _=>rfl)) Jad)) (he:=by exact Jah rfl)))
   (Jab (ps_if (PW.pt (JdG (Jar JbK (pv 9) JaM (Jau _)) (JcE (Jbd (Bak.ev hr ⋯ rfl pass1 (Jaa (pv 11) (Jaa (pv 9) Jad)) (he:=by exact Jah rfl))))))
   (Jag (Jam pe_bl))
   Jap)
   (Jag (ps_if (PW.pt (JdG (Jar JbK (pv 10) JaM (Jau _)) (JcE (Jbd (Bak.ev hr ⋯ rfl pass1 (Jaa (pv 10) (Jaa (pv 11) Jad)) (he:=by exact Jah rfl))))))
   (Jag (Jam pe_bl))
   Jap)))))
   (Jag (Jam pe_bl)))))),?_⟩
 clear hu;obtain ⟨hb,hg,hS,hR,f0,M,k⟩:=h;obtain ⟨⟨dx,hp⟩,_⟩:=id hb;obtain ⟨b,vl,vg,rfl,Z,e6,e4⟩:=f0;have sl:(1000:Nat)<=sizeLine:=by decide
 cases most with
 | true=>
  show tSeq _ _ _ [some (.ref p),some (.ref a),some (.ref b),some (.int 4),some (.bl true),none,none,none,none,none,none,none] H;nofun;have G:BV K H (nwT v t).hi vg:=e4;cases I:(nwT v t).hi with
  | none=>
   rw [I] at G;replace G:vg=.non:=G;subst G;refine ixT (i:=4) Z rfl ?_;nofun;refine ⟨p,_,dx,_,rfl,hp,rfl,rfl,?_⟩;nofun;refine ixT (i:=1) Z rfl ?_;nofun;refine ixT (i:=2) Z rfl ?_;nofun;refine ⟨p,d,v,F,x,t.st,t.en,true,rfl,hb,hg,⟨t,M, .inl rfl⟩,⟨t,M, .inr rfl⟩,fun H1 B S1 D hn=>?_,fun q B e r c H1 S1 D he _ _ _=>?_⟩
   ·nofun;exact k H1 S1
   ·have D:TTd v [t.st] B:=D;have he:lk B t.en=some e:=he;have I:dD v t.st t.en=none:=I;rw [dD_eq D,he] at I;cases I
  | some u=>
   rw [I] at G;have fu:FrV K H vg u.1 u.2:=G;obtain ⟨e9,c6,_⟩:=id G;subst c6;refine ixT (i:=4) Z rfl ?_;nofun
   (try ((with_reducible refine Nxt.go (by assumption) ?_);nofun))
   nofun;refine ⟨p,_,dx,_,rfl,hp,rfl,rfl,?_⟩;nofun;refine ixT (i:=1) Z rfl ?_;nofun;refine ixT (i:=2) Z rfl ?_;nofun;refine ⟨p,d,v,F,x,t.st,t.en,true,rfl,hb,hg,⟨t,M, .inl rfl⟩,⟨t,M, .inr rfl⟩,fun H1 B S1 D hn=>?_,fun q B e r c H1 S1 D he N h0 hs=>?_⟩
   ·have D:TTd v [t.st] B:=D;have hn:lk B t.en=none:=hn;have I:dD v t.st t.en=some u:=I;rw [dD_eq D,hn] at I;cases I
   ·have D:TTd v [t.st] B:=D;have he:lk B t.en=some e:=he;have I:dD v t.st t.en=some u:=I;rw [dD_eq D,he] at I;have c0:=D.lo hg he;have eu:u=e.1:=(Option.some.inj I).symm;obtain ⟨qv,l,cx,zl,zz,a1,a2,a3,a4,a5,a6,a7,a8⟩:=hs;have a7:All2 (QV K H1) (stD v (fT B) (fT r) c) zz:=a7;have b2:t.st∈c:=(N.2.2 _).mpr ⟨t,M, .inl rfl⟩;have a0:t.en∈c:=(N.2.2 _).mpr ⟨t,M, .inr rfl⟩;have d3:look (stD v (fT B) (fT r) c) t.st=(0,1):=by rw [Jbp N.1 b2];exact Jcc D.self
    have c2:look (stD v (fT B) (fT r) c) t.en=e.1:=by rw [Jbp N.1 a0];exact Jcc he
    nofun;refine ixT (i:=2) (SqT.of a1) rfl ?_;nofun;obtain ⟨as,qs,d5,c3,d4,U,W⟩:=QV.refs a7;refine ⟨zl,as,qs,rfl,by rw [<- d5];exact a6,c3,d4,?_⟩;rename_i dd e7 e5 H1 H2 S2 e2;nofun;have a9:=S1.trans S2;have Y:((stD v (fT B) (fT r) c).map (·.1)).Nodup:=by rw [Jbi];exact N.1
    have R:∀ z∈c,FB 1711 701 (look (stD v (fT B) (fT r) c) z):=fun z hz=>by rw [Jbp N.1 hz];exact sv_fb hg D h0 hz
    obtain ⟨ve,c1,fe⟩:=Jbq U Y W (z:=t.en) (by rw [Jbi];exact a0);obtain ⟨vs,d0,fs⟩:=Jbq U Y W (z:=t.st) (by rw [Jbi];exact b2)
    (try ((with_reducible refine Nxt.go (by assumption) ?_);nofun))
    nofun;refine ixT (i:=2) (Z.same a9) rfl ?_;nofun;refine ⟨dd,ve,rfl,by rw [<- c1];exact DGet.k (k:=Sum.inr t.en) e2,?_⟩;refine ixT (i:=1) (Z.same a9) rfl ?_;nofun;refine ⟨dd,vs,rfl,by rw [<- d0];exact DGet.k (k:=Sum.inr t.st) e2,?_⟩;nofun;refine ⟨_,_,_,_,rfl,fe.same S2,fs.same S2,(R _ a0).w.mono ⋯ ⋯,(R _ b2).w.mono ⋯ ⋯,fun pm H3 S3 e3=>?_⟩;have L:=a9.trans S3;have d9:=S2.trans S3;have d7:FrV K H3 (.ref pm) u.1 u.2:=by
     have z:=FrV.of (K:=K) e3;rw [c2,d3,add0r c0] at z;rw [eu];exact z
    nofun;refine ixT (i:=4) (Z.same L) rfl ?_;nofun;refine neF d7 (fu.same L) ?_;nofun;rw [if_neg (by simp)];nofun
    (try ((with_reducible refine Nxt.go (by assumption) ?_);nofun))
    nofun;refine ⟨a,rfl,ForA.byLN (xs:=xs) (hS.same L) (fun i σ H'=>∃ (v6 v7 v8 v9 b1 b0:Option V),σ=[some (.ref p),some (.ref a),some (.ref b),some (.int 4),some (.bl true),some (.ref dd),v6,v7,v8,v9,b1,b0]/\Same H3 H') ⟨_,_,_,_,_,_,rfl,Same.refl _⟩ (fun i σ H' z=>by obtain ⟨_,_,_,_,_,_,_,z⟩:=z;exact (hS.same L).same z) ?_ ?_⟩
    ·rintro i y σ H9 hy ⟨v6,v7,v8,v9,b1,b0,rfl,S9⟩ N0 b6;obtain ⟨g,c4,c8⟩:=hR.at_ hy;have J:=List.mem_of_getElem? c4;have d6:=L.trans S9;have b8:=d9.trans S9;obtain ⟨bb,b4,b3,rfl,c5,o,j⟩:=c8.sameT d6.t;have ok:=hg.ok g J;have ms:g.st∈c:=(N.2.2 _).mpr ⟨g,J, .inl rfl⟩;have me:g.en∈c:=(N.2.2 _).mpr ⟨g,J, .inr rfl⟩;obtain ⟨d1,b5,c7⟩:=Jbq U Y W (z:=g.en) (by rw [Jbi];exact me);obtain ⟨e1,b7,d8⟩:=Jbq U Y W (z:=g.st) (by rw [Jbi];exact ms);have oe:=R _ me;have os:=R _ ms;have C:okB g.lo g.hi (apart (stD v (fT B) (fT r) c) g)=true:=by
      show okB g.lo g.hi (addF (look _ g.en) (negF (look _ g.st)))=true;rw [Jbp N.1 ms,Jbp N.1 me];exact JiC hg D h0 N g J
     have oa:FB 2413 1402 (apart (stD v (fT B) (fT r) c) g):=FB.add (n:=2412) (m:=1402) oe os.neg ⋯ ⋯ ⋯;have b9:=oa.ok (n:=3000) ⋯ ⋯;rw [Jez,Bool.and_eq_true] at C;have d2:=S9 _ _ (S3 _ _ e2);nofun;refine ⟨bb,_,rfl,c5,rfl,?_⟩;nofun;refine ⟨dd,d1,rfl,by rw [<- b5];exact DGet.k (k:=Sum.inr g.en) d2,?_⟩;refine ⟨dd,e1,rfl,by rw [<- b7];exact DGet.k (k:=Sum.inr g.st) d2,?_⟩;nofun;refine ⟨_,_,_,_,rfl,c7.same b8,d8.same b8,oe.w.mono ⋯ ⋯,os.w.mono ⋯ ⋯,fun pa X S e0=>?_⟩;have f4:FrV K X (.ref pa) (apart (stD v (fT B) (fT r) c) g).1 (apart (stD v (fT B) (fT r) c) g).2:=FrV.of e0;generalize apart (stD v (fT B) (fT r) c) g=ap at *
     (try ((with_reducible refine Nxt.go (by assumption) ?_);nofun))
     nofun;rename_i N2 f1;have O:N2 [some (.ref p),some (.ref a),some (.ref b),some (.int 4),some (.bl true),some (.ref dd),some (.str g.nm),some (.str g.st),some (.str g.en),some b4,some b3,some (.ref pa)] X:=by
      (try ((with_reducible refine Nxt.go (by assumption) ?_);nofun))
      nofun;cases hh:g.hi with
      | none=>
       rw [hh] at j;replace j:b3=.non:=j;subst j;nofun;exact b6 _ _ ⟨_,_,_,_,_,_,rfl,S9.trans S⟩
      | some hv=>
       have oh:FOk 3000 hv:=(ok.hi hv hh).mono ⋯;rw [hh] at j C;have fh:FrV K X b3 hv.1 hv.2:=FrV.sameT S.t j;obtain ⟨pg,rfl,_⟩:=id j;nofun;refine ⟨_,_,hv,ap,rfl,fh,f4,oh,b9,?_⟩;have hz:lessF hv ap=false:=by simpa [okB] using C.2
       rw [hz];nofun;exact b6 _ _ ⟨_,_,_,_,_,_,rfl,S9.trans S⟩
     cases hlw:g.lo with
     | none=>
      rw [hlw] at o;replace o:b4=.non:=o;subst o;try simpa only [Option.isSome_none]
      exact O
     | some lv=>
      have ol:FOk 3000 lv:=(ok.lo lv hlw).mono ⋯;rw [hlw] at o C;have c9:FrV K X b4 lv.1 lv.2:=FrV.sameT S.t o;obtain ⟨pl,rfl,_⟩:=id o;try simpa only [Option.isSome_none]
      refine ⟨_,_,ap,lv,rfl,f4,c9,b9,ol,?_⟩;have hz:lessF ap lv=false:=by simpa [okB] using C.1
      rw [hz];try simpa only [Option.isSome_none]
      exact O
    ·rintro σ H9 ⟨v6,v7,v8,v9,b1,b0,rfl,S9⟩;nofun;exact k H9 (L.trans S9)
 | false=>
  show tSeq _ _ _ [some (.ref p),some (.ref a),some (.ref b),some (.int 3),some (.bl false),none,none,none,none,none,none,none] H;nofun;have G:BV K H (nwT v t).lo vl:=e6;cases I:(nwT v t).lo with
  | none=>
   rw [I] at G;replace G:vl=.non:=G;subst G;refine ixT (i:=3) Z rfl ?_;nofun;refine ⟨p,_,dx,_,rfl,hp,rfl,rfl,?_⟩;nofun;refine ixT (i:=1) Z rfl ?_;nofun;refine ixT (i:=2) Z rfl ?_;nofun;refine ⟨p,d,v,F,x,t.st,t.en,false,rfl,hb,hg,⟨t,M, .inl rfl⟩,⟨t,M, .inr rfl⟩,fun H1 B S1 D hn=>?_,fun q B e r c H1 S1 D he _ _ _=>?_⟩
   ·nofun;exact k H1 S1
   ·have D:TTd v [t.en] B:=D;have he:lk B t.st=some e:=he;have I:(dD v t.en t.st).map (subF (0,1))=none:=I;rw [dD_eq D,he] at I;cases I
  | some u=>
   rw [I] at G;have fu:FrV K H vl u.1 u.2:=G;obtain ⟨e9,c6,_⟩:=id G;subst c6;refine ixT (i:=3) Z rfl ?_;nofun
   (try ((with_reducible refine Nxt.go (by assumption) ?_);nofun))
   nofun;refine ⟨p,_,dx,_,rfl,hp,rfl,rfl,?_⟩;nofun;refine ixT (i:=1) Z rfl ?_;nofun;refine ixT (i:=2) Z rfl ?_;nofun;refine ⟨p,d,v,F,x,t.st,t.en,false,rfl,hb,hg,⟨t,M, .inl rfl⟩,⟨t,M, .inr rfl⟩,fun H1 B S1 D hn=>?_,fun q B e r c H1 S1 D he N h0 hs=>?_⟩
   ·have D:TTd v [t.en] B:=D;have hn:lk B t.st=none:=hn;have I:(dD v t.en t.st).map (subF (0,1))=some u:=I;rw [dD_eq D,hn] at I;cases I
   ·have D:TTd v [t.en] B:=D;have he:lk B t.st=some e:=he;have I:(dD v t.en t.st).map (subF (0,1))=some u:=I;rw [dD_eq D,he] at I;have c0:=D.lo hg he;have eu:u=subF (0,1) e.1:=(Option.some.inj I).symm;obtain ⟨qv,l,cx,zl,zz,a1,a2,a3,a4,a5,a6,a7,a8⟩:=hs;have a7:All2 (QV K H1) (stD v (fT B) (fT r) c) zz:=a7;have b2:t.st∈c:=(N.2.2 _).mpr ⟨t,M, .inl rfl⟩;have a0:t.en∈c:=(N.2.2 _).mpr ⟨t,M, .inr rfl⟩;have d3:look (stD v (fT B) (fT r) c) t.en=(0,1):=by rw [Jbp N.1 a0];exact Jcc D.self
    have c2:look (stD v (fT B) (fT r) c) t.st=e.1:=by rw [Jbp N.1 b2];exact Jcc he
    nofun;refine ixT (i:=2) (SqT.of a1) rfl ?_;nofun;obtain ⟨as,qs,d5,c3,d4,U,W⟩:=QV.refs a7;refine ⟨zl,as,qs,rfl,by rw [<- d5];exact a6,c3,d4,?_⟩;rename_i dd e7 e5 H1 H2 S2 e2;nofun;have a9:=S1.trans S2;have Y:((stD v (fT B) (fT r) c).map (·.1)).Nodup:=by rw [Jbi];exact N.1
    have R:∀ z∈c,FB 1711 701 (look (stD v (fT B) (fT r) c) z):=fun z hz=>by rw [Jbp N.1 hz];exact sv_fb hg D h0 hz
    obtain ⟨ve,c1,fe⟩:=Jbq U Y W (z:=t.en) (by rw [Jbi];exact a0);obtain ⟨vs,d0,fs⟩:=Jbq U Y W (z:=t.st) (by rw [Jbi];exact b2)
    (try ((with_reducible refine Nxt.go (by assumption) ?_);nofun))
    nofun;refine ixT (i:=2) (Z.same a9) rfl ?_;nofun;refine ⟨dd,ve,rfl,by rw [<- c1];exact DGet.k (k:=Sum.inr t.en) e2,?_⟩;refine ixT (i:=1) (Z.same a9) rfl ?_;nofun;refine ⟨dd,vs,rfl,by rw [<- d0];exact DGet.k (k:=Sum.inr t.st) e2,?_⟩;nofun;refine ⟨_,_,_,_,rfl,fe.same S2,fs.same S2,(R _ a0).w.mono ⋯ ⋯,(R _ b2).w.mono ⋯ ⋯,fun pm H3 S3 e3=>?_⟩;have L:=a9.trans S3;have d9:=S2.trans S3;have d7:FrV K H3 (.ref pm) u.1 u.2:=by
     have z:=FrV.of (K:=K) e3;rw [d3,c2,add0l c0] at z;rw [eu];exact (by rw [sub0 c0];exact z)
    nofun;refine ixT (i:=3) (Z.same L) rfl ?_;nofun;refine neF d7 (fu.same L) ?_;nofun;rw [if_neg (by simp)];nofun
    (try ((with_reducible refine Nxt.go (by assumption) ?_);nofun))
    nofun;refine ⟨a,rfl,ForA.byLN (xs:=xs) (hS.same L) (fun i σ H'=>∃ (v6 v7 v8 v9 b1 b0:Option V),σ=[some (.ref p),some (.ref a),some (.ref b),some (.int 3),some (.bl false),some (.ref dd),v6,v7,v8,v9,b1,b0]/\Same H3 H') ⟨_,_,_,_,_,_,rfl,Same.refl _⟩ (fun i σ H' z=>by obtain ⟨_,_,_,_,_,_,_,z⟩:=z;exact (hS.same L).same z) ?_ ?_⟩
    ·rintro i y σ H9 hy ⟨v6,v7,v8,v9,b1,b0,rfl,S9⟩ N0 b6;obtain ⟨g,c4,c8⟩:=hR.at_ hy;have J:=List.mem_of_getElem? c4;have d6:=L.trans S9;have b8:=d9.trans S9;obtain ⟨bb,b4,b3,rfl,c5,o,j⟩:=c8.sameT d6.t;have ok:=hg.ok g J;have ms:g.st∈c:=(N.2.2 _).mpr ⟨g,J, .inl rfl⟩;have me:g.en∈c:=(N.2.2 _).mpr ⟨g,J, .inr rfl⟩;obtain ⟨d1,b5,c7⟩:=Jbq U Y W (z:=g.en) (by rw [Jbi];exact me);obtain ⟨e1,b7,d8⟩:=Jbq U Y W (z:=g.st) (by rw [Jbi];exact ms);have oe:=R _ me;have os:=R _ ms;have C:okB g.lo g.hi (apart (stD v (fT B) (fT r) c) g)=true:=by
      show okB g.lo g.hi (addF (look _ g.en) (negF (look _ g.st)))=true;rw [Jbp N.1 ms,Jbp N.1 me];exact JiC hg D h0 N g J
     have oa:FB 2413 1402 (apart (stD v (fT B) (fT r) c) g):=FB.add (n:=2412) (m:=1402) oe os.neg ⋯ ⋯ ⋯;have b9:=oa.ok (n:=3000) ⋯ ⋯;rw [Jez,Bool.and_eq_true] at C;have d2:=S9 _ _ (S3 _ _ e2);nofun;refine ⟨bb,_,rfl,c5,rfl,?_⟩;nofun;refine ⟨dd,d1,rfl,by rw [<- b5];exact DGet.k (k:=Sum.inr g.en) d2,?_⟩;refine ⟨dd,e1,rfl,by rw [<- b7];exact DGet.k (k:=Sum.inr g.st) d2,?_⟩;nofun;refine ⟨_,_,_,_,rfl,c7.same b8,d8.same b8,oe.w.mono ⋯ ⋯,os.w.mono ⋯ ⋯,fun pa X S e0=>?_⟩;have f4:FrV K X (.ref pa) (apart (stD v (fT B) (fT r) c) g).1 (apart (stD v (fT B) (fT r) c) g).2:=FrV.of e0;generalize apart (stD v (fT B) (fT r) c) g=ap at *
     (try ((with_reducible refine Nxt.go (by assumption) ?_);nofun))
     nofun;rename_i N2 f1;have O:N2 [some (.ref p),some (.ref a),some (.ref b),some (.int 3),some (.bl false),some (.ref dd),some (.str g.nm),some (.str g.st),some (.str g.en),some b4,some b3,some (.ref pa)] X:=by
      (try ((with_reducible refine Nxt.go (by assumption) ?_);nofun))
      nofun;cases hh:g.hi with
      | none=>
       rw [hh] at j;replace j:b3=.non:=j;subst j;nofun;exact b6 _ _ ⟨_,_,_,_,_,_,rfl,S9.trans S⟩
      | some hv=>
       have oh:FOk 3000 hv:=(ok.hi hv hh).mono ⋯;rw [hh] at j C;have fh:FrV K X b3 hv.1 hv.2:=FrV.sameT S.t j;obtain ⟨pg,rfl,_⟩:=id j;nofun;refine ⟨_,_,hv,ap,rfl,fh,f4,oh,b9,?_⟩;have hz:lessF hv ap=false:=by simpa [okB] using C.2
       rw [hz];nofun;exact b6 _ _ ⟨_,_,_,_,_,_,rfl,S9.trans S⟩
     cases hlw:g.lo with
     | none=>
      rw [hlw] at o;replace o:b4=.non:=o;subst o;try simpa only [Option.isSome_none]
      exact O
     | some lv=>
      have ol:FOk 3000 lv:=(ok.lo lv hlw).mono ⋯;rw [hlw] at o C;have c9:FrV K X b4 lv.1 lv.2:=FrV.sameT S.t o;obtain ⟨pl,rfl,_⟩:=id o;try simpa only [Option.isSome_none]
      refine ⟨_,_,ap,lv,rfl,f4,c9,b9,ol,?_⟩;have hz:lessF ap lv=false:=by simpa [okB] using C.1
      rw [hz];try simpa only [Option.isSome_none]
      exact O
    ·rintro σ H9 ⟨v6,v7,v8,v9,b1,b0,rfl,S9⟩;nofun;exact k H9 (L.trans S9)
abbrev BbT:Stmt:=top 61
theorem JbP:Jan ["_law_script","_law_faces_here","_law_places_here","_law_ties","_law_many","_law_k","_law_book","_law_found","_law_at","_law_others","_law_kept"] ["_law_script"] (Jac BbT):=by bv_decide
def BbZ (K:W.Frag):Sp:=fun vs H Q E=>∃ (a:Addr) (ns:List Int),vs=[.ref a]/\SqL K H a (ns.map V.int)/\ns.length<=63/\∀ H',Q (.bl true) H'
theorem JjT (F:FunD K "law" "law" BbT dV f fd) (T:Txt K mg Ad) (Bad:Cal P w K mg base 1 "_law_cell_at" ["_law_script","_law_k"] [] (Jbo K)) (Bbw:Cal P w K mg base 3 "_law_places" ["_law_script","_law_faces_here"] [] (Jca K)) (BbL:Cal P w K mg base 5 "_law_tie" ["_law_cell","_law_k","_law_places_here"] [] (Jc3 K)) (k_Book:KCal P w K mg base 7 "Book" Ad.Book ["self","ties"] (Jbw K Ad)) (m_narrowed:MCal P w K mg base 8 "narrowed" (JaL Ad) ["self"] (Jbv K Ad)) (Bbf:Cal P w K mg base 2 "_law_no_wider" ["_law_found","_law_tie_here","_law_gap"] [] (JbF K)) (m_gap:MCal P w K mg base 8 "gap" (JaL Ad) ["self","one","other"] (JcH K Ad)) (Bba:Cal P w K mg base 5 "_law_keeps" ["_law_ties","_law_places_here"] [] (Jcr K)) (Ba0:Cal P w K mg base 9 "_law_come_to" ["_law_book","_law_ties","_law_tie_here","_law_side","_law_most"] [] (JbY K Ad)) (BbD:Cal P w K mg base 4 "_law_moved" ["_law_places_here","_law_cell"] [] (Jcs K)) (m_ties:MCal P w K mg base 2 "ties" (JaL Ad) ["self"] (Jcn K Ad)):FnOk P w K mg base (CX1 P w) 10 f fd ["_law_script"] (BbZ K):=by
 refine F.okn JbP (by subst_eqs) (fun p6 A l6 s H vs Q E p h=>?_)
 obtain ⟨a,ns,rfl,h⟩:=h;have S:=p.units;refine ⟨_,(Jab (Jaj (i:=1) JbP.nd rfl (Or.inl rfl) (pe_op JaP Jae (pe_op JaC (Bad.ev p ⋯ rfl passF (Jaa (pv 0) (Jaa Jae Jad)) (he:=by exact Jah rfl)) Jae)))
   (Jab (Jaj (i:=2) JbP.nd rfl (Or.inl rfl) (Bbw.ev p ⋯ rfl passF (Jaa (pv 0) (Jaa (pv 1) Jad)) (he:=by exact Jah rfl)))
   (Jab (Jaj (i:=3) JbP.nd rfl (Or.inl rfl) (JbL Jad))
   (Jab (Jaj (i:=4) JbP.nd rfl (Or.inl rfl) (pe_op JaP Jae (pe_op JaC (pe_op Jaw (Bad.ev p ⋯ rfl passF (Jaa (pv 0) (Jaa Jae Jad)) (he:=by exact Jah rfl)) Jae) Jae)))
   (Jab (ps_if (Jar (JcP S) (pe_op JaC (pe_op Jaw (Bad.ev p ⋯ rfl passF (Jaa (pv 0) (Jaa Jae Jad)) (he:=by exact Jah rfl)) Jae) Jae) Jae (Jau _))
   (Jag (Jaj (i:=4) JbP.nd rfl (Or.inl rfl) (pe_op JaP (pv 4) Jae)))
   Jap)
   (Jab (JaX PassesOwn.never rfl (Jb3 rfl T.BbF (Jaa (pv 4) Jad)) (Jas (i:=5) JbP.nd rfl (Or.inl rfl))
   (Jag (Jbh (pe_bm PySem.F.plainAttrs_list PySem.F.slot_list_append PySem.F.type_list_append Jbf (pv 3) (Jaa (BbL.ev p ⋯ rfl passF (Jaa (Bad.ev p ⋯ rfl passF (Jaa (pv 0) (Jaa (pe_op JaP Jae (pv 5)) Jad)) (he:=by exact Jah rfl)) (Jaa (pv 5) (Jaa (pv 2) Jad))) (he:=by exact Jah rfl)) Jad) (hs:=by exact Jah rfl)))))
   (Jab (Jaj (i:=6) JbP.nd rfl (Or.inl rfl) (k_Book.ev p ⋯ rfl passF (Jaa (pv 3) Jad)))
   (Jab (Jaj (i:=7) JbP.nd rfl (Or.inl rfl) (m_narrowed.m0 p ⋯ passF (pv 6)))
   (Jab (ps_if (PW.pt (pw_or (JbO (Jbd (Jat JaB rfl T.Bav JaO (Jaa (pv 7) (Jaa (JcD (v:=.ty "list") rfl T.Bb5 Jem rfl) Jad))))) (Jb4 (Jar (Jck S) (Jat JaH rfl T.BbB JbA (Jaa (pv 7) Jad)) (Jat JaH rfl T.BbB JbA (Jaa (pv 3) Jad)) (Jau _)))))
   (Jag (Jam pe_bl))
   Jap)
   (Jab (JaX PassesOwn.never rfl (Jb3 rfl T.BbF (Jaa (Jat JaH rfl T.BbB JbA (Jaa (pv 3) Jad)) Jad)) (Jas (i:=5) JbP.nd rfl (Or.inl rfl))
   (Jag (ps_if (JbO (Jbd (Bbf.ev p ⋯ rfl passF (Jaa (pe_ix ix_U (pv 7) (pv 5) (fun _ _=>rfl)) (Jaa (pe_ix ix_U (pv 3) (pv 5) (fun _ _=>rfl)) (Jaa (m_gap.m p ⋯ passF (pv 6) (Jaa (pe_ix ix_U (pe_ix ix_U (pv 3) (pv 5) (fun _ _=>rfl)) Jae (fun _ _=>rfl)) (Jaa (pe_ix ix_U (pe_ix ix_U (pv 3) (pv 5) (fun _ _=>rfl)) Jae (fun _ _=>rfl)) Jad))) Jad))) (he:=by exact Jah rfl))))
   (Jag (Jam pe_bl))
   Jap)))
   (Jab (ps_if (PW.pt (pw_or (JbO (Jbd (Bba.ev p ⋯ rfl passF (Jaa (pv 7) (Jaa (pv 2) Jad)) (he:=by exact Jah rfl)))) (Jb4 (Jar (Jck S) (m_narrowed.m0 p ⋯ passF (k_Book.ev p ⋯ rfl passF (Jaa (pv 7) Jad))) (pv 7) (Jau _)))))
   (Jag (Jam pe_bl))
   Jap)
   (Jab (Jaj (i:=8) JbP.nd rfl (Or.inl rfl) (pe_op JaC (Bad.ev p ⋯ rfl passF (Jaa (pv 0) (Jaa Jae Jad)) (he:=by exact Jah rfl)) (Jat JaH rfl T.BbB JbA (Jaa (pv 3) Jad))))
   (Jab (ps_if (PW.pt (pw_or (JbO (Jbd (Ba0.ev p ⋯ rfl passF (Jaa (pv 6) (Jaa (pv 3) (Jaa (pe_ix ix_U (pv 7) (pv 8) (fun _ _=>rfl)) (Jaa Jae (Jaa pe_bl Jad))))) (he:=by exact Jah rfl)))) (Jb4 (JbO (Jbd (Ba0.ev p ⋯ rfl passF (Jaa (pv 6) (Jaa (pv 3) (Jaa (pe_ix ix_U (pv 7) (pv 8) (fun _ _=>rfl)) (Jaa Jae (Jaa pe_bl Jad))))) (he:=by exact Jah rfl)))))))
   (Jag (Jam pe_bl))
   Jap)
   (Jab (JaX PassesOwn.never rfl (Jb3 rfl T.BbF (Jaa Jae Jad)) (Jas (i:=5) JbP.nd rfl (Or.inl rfl))
   (Jab (Jaj (i:=9) JbP.nd rfl (Or.inl rfl) (BbD.ev p ⋯ rfl passF (Jaa (pv 2) (Jaa (Bad.ev p ⋯ rfl passF (Jaa (pv 0) (Jaa (pe_op JaP Jae (pv 5)) Jad)) (he:=by exact Jah rfl)) Jad)) (he:=by exact Jah rfl)))
   (Jag (ps_if (Jar (Jck S) (Bba.ev p ⋯ rfl passF (Jaa (pv 7) (Jaa (pv 9) Jad)) (he:=by exact Jah rfl)) (Bba.ev p ⋯ rfl passF (Jaa (pv 3) (Jaa (pv 9) Jad)) (he:=by exact Jah rfl)) (Jau _))
   (Jag (Jam pe_bl))
   Jap))))
   (Jab (Jaj (i:=10) JbP.nd rfl (Or.inl rfl) (JdD Jd1 rfl T.Bb5 Jem (Jaa (pv 7) Jad)))
   (Jab (Jbh (Jj1 PySem.F.plainAttrs_list PySem.F.slot_list_clear PySem.F.type_list_clear Jh3 (pv 7)))
   (Jag (Jam (Jc6 (Jbs (JcP S) (m_ties.m0 p ⋯ passF (pv 6)) (pv 3) (Jau _)) (Jc7 (Jbs (JcP S) (m_narrowed.m0 p ⋯ passF (pv 6)) (pv 10) (Jau _)))))))))))))))))))))),?_⟩
 clear S;obtain ⟨hS,W,k⟩:=h;have sl:(1000:Nat)<=sizeLine:=by decide
 show tSeq _ _ _ [some (.ref a),none,none,none,none,none,none,none,none,none,none] H;nofun;refine ⟨a,ns,0,rfl,hS,W,by decide,fun c0=>?_⟩;nofun;repeat (refine And.intro (by first | exact JbH ⋯ | exact JbM ⋯ | exact JbJ ⋯ | exact Jbg ⋯ | exact Int.one_ne_zero | decide) ?_)
 nofun;have qf:=Mth.fm (x:=c0) (y:=4) ⋯;obtain ⟨f,hf⟩:∃ f:Nat,2+c0.fmod 4=(f:Int):=Int.eq_ofNat_of_zero_le ∅;rw [hf]
 (try ((with_reducible refine Nxt.go (by assumption) ?_);nofun))
 nofun;refine ⟨a,ns,f,rfl,hS,W,by ac_nf,fun pl ys G H1 o5 S1 e1 hL o0 hB=>?_⟩
 (try ((with_reducible refine Nxt.go (by assumption) ?_);nofun))
 nofun;refine ⟨len0,?_⟩;rename_i Y j4 n6 H1 H2 S2 e2;nofun;have i1:=S1.trans S2
 (try ((with_reducible refine Nxt.go (by assumption) ?_);nofun))
 nofun;refine ⟨a,ns,0,rfl,hS.same i1,W,by decide,fun c2=>?_⟩;nofun;repeat (refine And.intro (by first | exact JbH ⋯ | exact JbM ⋯ | exact JbJ ⋯ | exact Jbg ⋯ | exact Int.one_ne_zero | decide) ?_)
 nofun;have q2:=Mth.fm (x:=c2.fdiv 4) (y:=5) ⋯;obtain ⟨m0,k7⟩:∃ m:Nat,1+(c2.fdiv 4).fmod 5=(m:Int):=Int.eq_ofNat_of_zero_le ∅;rw [k7]
 (try ((with_reducible refine Nxt.go (by assumption) ?_);nofun))
 nofun;refine ⟨a,ns,0,rfl,hS.same i1,W,by decide,fun c3=>?_⟩;nofun;repeat (refine And.intro (by first | exact JbH ⋯ | exact JbM ⋯ | exact JbJ ⋯ | exact Jbg ⋯ | exact Int.one_ne_zero | decide) ?_)
 nofun;rename_i N2 o9;have e0:∀ m:Nat,1<=m->m<=9->N2 [some (.ref a),some (.int (f:Int)),some (.ref pl),some (.ref Y),some (.int (m:Int)),none,none,none,none,none,none] H2:=by
  intro m o2 o7
  (try ((with_reducible refine Nxt.go (by assumption) ?_);nofun))
  nofun;refine ⟨_,rfl,by ac_nf,by ac_nf,?_⟩;refine ForR.byN (fun i σ H'=>∃ (v5:Option V) (xs:List V) (e:List TD),σ=[some (.ref a),some (.int (f:Int)),some (.ref pl),some (.ref Y),some (.int (m:Int)),v5,none,none,none,none,none]/\Same H1 H'/\H' Y=some (.lst xs)/\All2 (TV K H') e xs/\e.length=i/\(∀ t∈e,TG4 G t)/\∀ (j:Nat) (t:TD),e[j]?=some t->t.nm=⟨#[97+j]⟩) ⟨none,[],[],rfl,S2,e2,rfl,rfl,(fun t C=>by cases C),(fun j t C=>by simp at C)⟩ ?_ ?_
  ·rintro i σ H4 hi ⟨v5,xs,e,rfl,S4,e4,hA,f7,hG,f6⟩ N0 b4;have la:=hA.length;nofun;refine ⟨.inl ⟨rfl,_,SqL.of e4⟩,?_⟩;nofun;refine ⟨a,ns,_,rfl,(hS.same S1).same S4,W,by ac_nf,fun c4=>?_⟩;nofun;refine ⟨c4,i,pl,ys,G,by rw [Int.zero_add],by ac_nf,SqL.of (S4 _ _ e1),hL.mono (P':=fun (l:Int × Int) x=>FrV K H4 x l.1 l.2) fun _ _ z=>z.sameT S4.t,by ac_nf,by ac_nf,hB,fun x t i' j' li lj H5 S5 tv ok g1 g2 g3 g4 g5 g6 g7 g8=>?_⟩;nofun;refine ⟨Y,_,_,rfl,rfl,S5 _ _ e4,by ac_nf,?_⟩;generalize u6:upd H5 Y _=H6;nofun;have Z:=putE u6;have j0:SameT H5 H6:=SameT.put u6 (S5 _ _ e4) rfl;refine b4 _ _ ⟨_,xs++[x],e++[t],rfl,fun bb u hb=>?_,Z,?_,by simp [f7],fun t' r=>?_,fun j t' r=>?_⟩
   ·rw [<- u6,Jai (Jaf hb j4)];exact S5 _ _ (S4 _ _ hb)
   ·exact (hA.mono (P':=TV K H6) fun _ _ z=>(z.sameT S5.t).sameT j0).append (.one (tv.sameT j0))
   ·rcases mem_append.mp r with h' | h'
    ·exact hG _ h'
    ·rw [mem_singleton.mp h'];exact ⟨ok,⟨i',li,g1,g3⟩,⟨j',lj,g2,g4⟩,by unfold apN;rw [Jee g2 g4,Jee g1 g3];exact g5,g7,g8⟩
   ·by_cases c:j<e.length
    ·rw [List.getElem?_append_left c] at r;exact f6 j t' r
    ·have lj:=(List.getElem?_eq_some_iff.mp r).1;rw [length_append,length_singleton] at lj;have : j=e.length:=by ac_nf
     subst this;rw [List.getElem?_append_right (Nat.le_refl _),Nat.sub_self] at r;cases r;rw [g6,f7]
  ·rintro σ H4 ⟨v5,xs,e,rfl,S4,e4,hA,f7,hG,f6⟩;have la:=hA.length;have o6:e.length=m:=by ac_nf
   have i8:∀ l∈G,1<=l.2:=fun l W=>(hB l W).b1;have D:=JiM i8 hG ∅;have k2:∀ s∈Ch.all e,FB 147 8 s.c:=Jfy fun t C=>(hG t C).fb;have j9:=Ji6 f6;have f4:∀ t∈e,(∃ (i:Nat) (l:Int × Int),faceN[i]?=some t.st/\G[i]?=some l)/\∃ (i:Nat) (l:Int × Int),faceN[i]?=some t.en/\G[i]?=some l:=fun t C=>⟨(hG t C).f1,(hG t C).f2⟩;nofun;intro J f0 k0 k8 n3;have Sm:Same H4 (upd (upd H4 f0 (.own J)) J (.ins Ad.Book f0 [])):=fun b u q=>by rw [Jai (Jaf q k0),Jai (Jaf q k8)];exact q
   refine ⟨J,f0,Y,xs,e,H4,rfl,Jaq,k0,Sm,SqL.of e4,hA,D.ok,j9,D.l35,fun d H5 S5 hd a2=>⟨rfl,?_⟩⟩;obtain ⟨⟨d0,h6⟩,_⟩:=id a2;have j7:=hA.mono (P':=TV K H5) fun _ _ z=>z.sameT S5.t;have j8:=S5 _ _ e4
   (try ((with_reducible refine Nxt.go (by assumption) ?_);nofun))
   nofun;refine ⟨J,_,d0,_,rfl,h6,rfl,rfl,?_⟩;nofun;refine ⟨J,d,e,faceN,plcN G,rfl,a2,D,fun fl fs H6 S6 j6 Z I hE=>?_⟩;have o:=JjS D ⋯ k2 hE;have k6:=I.length;unfold nwD at k6;rw [length_map] at k6;have e5:=a2.same S6;have B:=S6 _ _ j8;have d3:=j7.mono (P':=TV K H6) fun _ _ z=>z.sameT S6.t
   (try ((with_reducible refine Nxt.go (by assumption) ?_);nofun))
   nofun;refine ⟨"list", .inl ⟨rfl,_,SqL.of Z⟩,?_⟩;nofun;refine ⟨_, .inl (SqL.of Z),?_⟩;refine ⟨_, .inl (SqL.of B),?_⟩;nofun;rw [if_neg (by simp;ac_nf)];nofun
   (try ((with_reducible refine Nxt.go (by assumption) ?_);nofun))
   nofun;refine ⟨_, .inl (SqL.of B),?_⟩;nofun;refine ⟨_,rfl,by ac_nf,by ac_nf,?_⟩;refine ForR.byN (fun i σ H'=>∃ (v5:Option V),σ=[some (.ref a),some (.int (f:Int)),some (.ref pl),some (.ref Y),some (.int (m:Int)),v5,some (.ref J),some (.ref fl),none,none,none]/\Same H6 H') ⟨_,rfl,Same.refl _⟩ ?_ ?_
   ·rintro i σ H7 hi ⟨f5,rfl,M⟩ N0 b4;have li:i<xs.length:=by ac_nf
    have j1:i<fs.length:=by ac_nf
    obtain ⟨t,C,j3⟩:=(d3.mono (P':=TV K H7) fun _ _ z=>z.sameT M.t).at_ (List.getElem?_eq_getElem li);have g:=List.mem_of_getElem? C;have h7:(nwD e)[i]?=some (nwT e t):=by unfold nwD;rw [List.getElem?_map,C];rfl
    obtain ⟨tf,b7,d1⟩:=(I.mono (P':=TV K H7) fun _ _ z=>z.sameT M.t).at_ (List.getElem?_eq_getElem j1);rw [h7] at b7;cases b7;obtain ⟨bt,o1,n8,g0,h9,o3,p4⟩:=id j3;rw [Int.zero_add];nofun;refine ixL (i:=i) (SqL.of (M _ _ Z)) (List.getElem?_eq_getElem j1) ?_;nofun;refine ixL (i:=i) (SqL.of (M _ _ B)) (List.getElem?_eq_getElem li) ?_;nofun;refine ⟨J,_,d0,_,rfl,M _ _ (S6 _ _ h6),rfl,rfl,?_⟩;nofun;refine ixL (i:=i) (SqL.of (M _ _ B)) (List.getElem?_eq_getElem li) ?_;rw [g0];nofun;refine ixT (i:=1) h9 rfl ?_;nofun;refine ixL (i:=i) (SqL.of (M _ _ B)) (List.getElem?_eq_getElem li) ?_;rw [g0];nofun;refine ixT (i:=2) h9 rfl ?_;nofun;refine ⟨J,d,e,faceN,plcN G,t.st,t.en,rfl,e5.same M,D,⟨t,g, .inl rfl⟩,⟨t,g, .inr rfl⟩,fun gq k3 vg o4 o8 H8 S8 e8 t1 t2 bl bg=>?_⟩;nofun;refine ⟨_, .ref bt,gq,nwT e t,t,k3,vg,rfl,d1.sameT S8.t,by rw [<- g0];exact j3.sameT S8.t,rfl,rfl,rfl,e8,?_,?_,o.ok _ (mem_map.mpr ⟨t,g,rfl⟩),D.ok t g,fun u S=>?_,fun u S=>?_,fun H9 S9=>?_⟩
    ·show BV K H8 ((dD e t.en t.st).map (subF (0,1))) k3;rw [dD_eq t2,Option.map_map];exact bl
    ·show BV K H8 (dD e t.st t.en) vg;rw [dD_eq t1];exact bg
    ·obtain ⟨q,hq,g9⟩:=Jh7 D hE g S;exact ⟨q,hq,Jec ((o.ok _ (mem_map.mpr ⟨t,g,rfl⟩)).lo q hq).b1 ((D.ok t g).lo u S).b1 g9⟩
    ·obtain ⟨q,hq,g9⟩:=Jh6 hE g S;exact ⟨q,hq,Jec ((D.ok t g).hi u S).b1 ((o.ok _ (mem_map.mpr ⟨t,g,rfl⟩)).hi q hq).b1 g9⟩
    nofun;exact b4 _ _ ⟨_,rfl,M.trans (S8.trans S9)⟩
   ·rintro σ H7 ⟨f5,rfl,M⟩;nofun;have N:∀ t∈nwD e,(∃ (i:Nat) (l:Int × Int),faceN[i]?=some t.st/\G[i]?=some l)/\∃ (i:Nat) (l:Int × Int),faceN[i]?=some t.en/\G[i]?=some l:=fun t' r=>by
     obtain ⟨t,C,rfl⟩:=mem_map.mp r;exact f4 t C
    have X:Same H1 H7:=S4.trans (S5.trans (S6.trans M));have i4:=I.mono (P':=TV K H7) fun _ _ z=>z.sameT M.t;refine ⟨fl,pl,fs,ys,nwD e,G,rfl,SqL.of (M _ _ Z),i4,o.ok,SqL.of (X _ _ e1),hL.mono (fun _ _ z=>z.same X),fun l W=>(hB l W).mono ⋯ ⋯,N,fun H8 S8=>?_⟩;rw [(JcN o.ok i8 N).mpr o.pot];nofun;intro a1 h8 d8 i6 n2;have l7:Same H8 (upd (upd H8 h8 (.own a1)) a1 (.ins Ad.Book h8 [])):=fun b u q=>by rw [Jai (Jaf q d8),Jai (Jaf q i6)];exact q
    have f9:=M.trans S8;have j2:=I.mono (P':=TV K H8) fun _ _ z=>z.sameT f9.t;refine ⟨a1,h8,fl,fs,nwD e,H8,rfl,Jaq,d8,l7,SqL.of (f9 _ _ Z),j2,o.ok,by rw [JjR];exact j9,o.l35,fun d2 H9 S9 p5 d9=>⟨rfl,?_⟩⟩;obtain ⟨⟨i7,k5⟩,_⟩:=id d9;nofun;refine ⟨a1,_,i7,_,rfl,k5,rfl,rfl,?_⟩;nofun;refine ⟨a1,d2,nwD e,faceN,plcN G,rfl,d9,o,fun m7 p3 b5 j5 _ n1 d7 m6=>?_⟩;rw [Ji7 D o hE m6] at d7;have n:=f9.trans (S9.trans j5);have b3:=I.mono (P':=TV K b5) fun _ _ z=>z.sameT n.t;have ra:Rep K b5 (.lst ((nwD e).map tdD)) (.ref m7):=by
     simp only [Rep];exact ⟨_,_,rfl,SqL.of n1,d7.repL fun t v z=>z.rep⟩
    have rb:Rep K b5 (.lst ((nwD e).map tdD)) (.ref fl):=by
     simp only [Rep];exact ⟨_,_,rfl,SqL.of (n _ _ Z),b3.repL fun t v z=>z.rep⟩
    nofun;refine ⟨_,_,ra,rb,by have:=Jer (nwD e);simp only [depD];ac_nf,rfl,?_⟩;rw [JbI];nofun
    (try ((with_reducible refine Nxt.go (by assumption) ?_);nofun))
    nofun;have i9:Same H b5:=S1.trans (X.trans (S8.trans (S9.trans j5)));refine ⟨a,ns,1,rfl,hS.same i9,W,by decide,fun c5=>?_⟩;nofun;refine ⟨_, .inl (SqL.of (n _ _ B)),?_⟩;nofun;refine ⟨by ac_nf,?_⟩;have q5:=Mth.fm (x:=c5) (y:=(xs.length:Int)) ∅;obtain ⟨U,m4⟩:=Int.eq_ofNat_of_zero_le q5.1;rw [m4];have l2:U<xs.length:=by ac_nf
    have a8:U<fs.length:=by ac_nf
    obtain ⟨t,C,_⟩:=d3.at_ (List.getElem?_eq_getElem l2);have g:=List.mem_of_getElem? C;obtain ⟨tf,b7,d1⟩:=b3.at_ (List.getElem?_eq_getElem a8);have h7:(nwD e)[U]?=some (nwT e t):=by unfold nwD;rw [List.getElem?_map,C];rfl
    rw [h7] at b7;cases b7;have d6:=d3.mono (P':=TV K b5) fun _ _ z=>z.sameT n.t;have b8:=e5.same n
    (try ((with_reducible refine Nxt.go (by assumption) ?_);nofun))
    nofun;refine ixL (i:=U) (SqL.of (n _ _ Z)) (List.getElem?_eq_getElem a8) ?_;nofun;refine ⟨J,d,Y,e,faceN,plcN G,xs,_,t,false,rfl,b8,D,SqL.of (n _ _ B),d6,d1,g,fun p0 d4=>?_⟩;nofun;have a9:=n.trans d4;refine ixL (i:=U) (SqL.of (a9 _ _ Z)) (List.getElem?_eq_getElem a8) ?_;nofun;refine ⟨J,d,Y,e,faceN,plcN G,xs,_,t,true,rfl,b8.same d4,D,SqL.of (a9 _ _ B),d6.mono (fun _ _ z=>z.sameT d4.t),d1.sameT d4.t,g,fun n7 m8=>?_⟩;have i2:=a9.trans m8;nofun
    (try ((with_reducible refine Nxt.go (by assumption) ?_);nofun))
    nofun;refine ⟨5,rfl,by decide,by decide,?_⟩;refine ForR.byN (fun i σ H'=>∃ (v5 v9:Option V),σ=[some (.ref a),some (.int (f:Int)),some (.ref pl),some (.ref Y),some (.int (m:Int)),v5,some (.ref J),some (.ref fl),some (.int (U:Int)),v9,none]/\Same H6 H') ⟨_,_,rfl,i2⟩ ?_ ?_
    ·rintro i σ f8 hi ⟨f5,v9,rfl,a3⟩ N0 b4;have a0:Same H1 f8:=S4.trans (S5.trans (S6.trans a3));rw [Int.zero_add];nofun;refine ⟨a,ns,_,rfl,(hS.same S1).same a0,W,by ac_nf,fun c6=>?_⟩;nofun;refine ⟨pl,c6,ys,G,rfl,SqL.of (a0 _ _ e1),hL.mono (fun _ _ z=>z.same a0),by ac_nf,by ac_nf,hB,fun ol k1 L e9 c9 n4 d5 k4 p2 h5=>?_⟩;have a4:=a3.trans c9;have O:∀ (us:List TD),(∀ t∈us,(∃ (i:Nat) (l:Int × Int),faceN[i]?=some t.st/\G[i]?=some l)/\∃ (i:Nat) (l:Int × Int),faceN[i]?=some t.en/\G[i]?=some l)->∀ t∈us,(∃ (i:Nat) (l:Int × Int),faceN[i]?=some t.st/\L[i]?=some l)/\∃ (i:Nat) (l:Int × Int),faceN[i]?=some t.en/\L[i]?=some l:=fun us h t C=>by
      obtain ⟨⟨i,l,h1,h2⟩,j,l',h3,h4⟩:=h t C;have l1:=(List.getElem?_eq_some_iff.mp h2).1;have l3:=(List.getElem?_eq_some_iff.mp h4).1;exact ⟨⟨i,_,h1,List.getElem?_eq_getElem ∅⟩,j,_,h3,List.getElem?_eq_getElem ∅⟩
     have e3:∀ l∈L,1<=l.2:=fun l W=>(h5 l W).b1
     (try ((with_reducible refine Nxt.go (by assumption) ?_);nofun))
     nofun;refine ⟨fl,ol,fs,k1,nwD e,L,rfl,SqL.of (a4 _ _ Z),I.mono (fun _ _ z=>z.sameT a4.t),o.ok,SqL.of d5,k4,h5,O _ N,fun b6 f3=>?_⟩;have b9:=a4.trans f3;nofun;refine ⟨Y,ol,xs,k1,e,L,rfl,SqL.of (b9 _ _ B),d3.mono (fun _ _ z=>z.sameT b9.t),D.ok,SqL.of (f3 _ _ d5),k4.mono (fun _ _ z=>z.same f3),h5,O _ f4,fun c8 R=>?_⟩;have l4:((nwD e).all fun t=>okB t.lo t.hi (apN L t))=e.all fun t=>okB t.lo t.hi (apN L t):=by
      rw [Bool.eq_iff_iff,JcN o.ok e3 (O _ N),JcN D.ok e3 (O _ f4)];exact Ji8 D hE _
     nofun;rw [l4,if_neg (by simp)];exact b4 _ _ ⟨_,_,rfl,b9.trans R⟩
    ·rintro σ f8 ⟨f5,v9,rfl,a3⟩;nofun;have a6:=a3 _ _ Z;refine ⟨fl,fs,rfl, .inl (SqL.of a6),?_⟩;rename_i kp e7 n5 f8 e9 c9 d5;nofun
     (try ((with_reducible refine Nxt.go (by assumption) ?_);nofun))
     nofun;have b0:=c9 _ _ a6;refine ⟨.inl ⟨rfl,_,SqL.of b0⟩,?_⟩;refine ⟨fl,fs,rfl,rfl,b0,?_⟩;generalize h0:upd e9 fl _=b6;nofun;have l8:SameT e9 b6:=SameT.put h0 b0 rfl;have b2:=a3.trans c9;have a5:Same H5 b6:=fun c u h=>by rw [<- h0,Jai (Jaf h j6)];exact b2 _ _ (S6 _ _ h)
     have m9:kp≠fl:=fun z=>by rw [z,a6] at e7;cases e7
     have k9:b6 kp=some (.lst fs):=by rw [<- h0,Jai m9];exact d5
     have i5:SameT H6 b6:=b2.t.trans l8
     (try ((with_reducible refine Nxt.go (by assumption) ?_);nofun))
     nofun;have c1:=a5 _ _ h6;refine ⟨J,_,d0,_,rfl,c1,rfl,rfl,?_⟩;nofun;refine ⟨J,d,e,rfl,a2.same a5,D.l35,fun m5 n9 c8 R _ n0 i3=>?_⟩;have a7:=a5.trans R;have m1:Rep K c8 (.lst (e.map tdD)) (.ref m5):=by
      simp only [Rep];exact ⟨_,_,rfl,SqL.of n0,i3.repL fun t v z=>z.rep⟩
     have l9:Rep K c8 (.lst (e.map tdD)) (.ref Y):=by
      simp only [Rep];exact ⟨_,_,rfl,SqL.of (a7 _ _ j8),(j7.mono (P':=TV K c8) fun _ _ z=>z.sameT a7.t).repL fun t v z=>z.rep⟩
     nofun;refine ⟨_,_,m1,l9,by have:=Jer e;simp only [depD];ac_nf,rfl,?_⟩;rw [JbI];nofun;refine ⟨J,_,d0,_,rfl,R _ _ c1,rfl,rfl,?_⟩;nofun;refine ⟨J,d,e,faceN,plcN G,rfl,a2.same a7,D,fun m3 p1 c7 X _ m2 i0 _=>?_⟩;have l5:Rep K c7 (.lst ((nwD e).map tdD)) (.ref m3):=by
      simp only [Rep];exact ⟨_,_,rfl,SqL.of m2,i0.repL fun t v z=>z.rep⟩
     have l0:Rep K c7 (.lst ((nwD e).map tdD)) (.ref kp):=by
      simp only [Rep];exact ⟨_,_,rfl,SqL.of (X _ _ (R _ _ k9)),(I.mono (P':=TV K c7) fun _ _ z=>(z.sameT i5).sameT (R.trans X).t).repL fun t v z=>z.rep⟩
     nofun;refine ⟨_,_,l5,l0,by have:=Jer (nwD e);simp only [depD];ac_nf,rfl,?_⟩;rw [JbI];exact k c7
 split
 ·have:=e0 (m0+4) ∅ ∅;simpa using this
 ·exact e0 m0 ∅ ∅
end
theorem lenE1 {α} {P:List α->Prop} (h:∀ a,P [a]):∀ us:List α,us.length=1->P us|[a],_=>h a
theorem lenE2 {α} {P:List α->Prop} (h:∀ a b,P [a,b]):∀ us:List α,us.length=2->P us|[a,b],_=>h a b
theorem lenE3 {α} {P:List α->Prop} (h:∀ a b c,P [a,b,c]):∀ us:List α,us.length=3->P us|[a,b,c],_=>h a b c
theorem lenE4 {α} {P:List α->Prop} (h:∀ a b c d,P [a,b,c,d]):∀ us:List α,us.length=4->P us|[a,b,c,d],_=>h a b c d
theorem lenE5 {α} {P:List α->Prop} (h:∀ a b c d e,P [a,b,c,d,e]):∀ us:List α,us.length=5->P us|[a,b,c,d,e],_=>h a b c d e
theorem lenE6 {α} {P:List α->Prop} (h:∀ a b c d e f,P [a,b,c,d,e,f]):∀ us:List α,us.length=6->P us|[a,b,c,d,e,f],_=>h a b c d e f
theorem lenE0 {α} {P:List α->Prop} (h:P []):∀ us:List α,us.length=0->P us|[],_=>h
local macro_rules|`(∅)=>`(⟨$(Lean.mkIdent `NoTie),$(Lean.mkIdent `Tie),$(Lean.mkIdent `Free),$(Lean.mkIdent `AtLeast),$(Lean.mkIdent `AtMost),$(Lean.mkIdent `Just),$(Lean.mkIdent `Between),$(Lean.mkIdent `Scale),$(Lean.mkIdent `Step),$(Lean.mkIdent `Book),(.str "abcdefghijklmnopqrstuvwxyz" $(Lean.mkIdent `Baa)),(.int 8 $(Lean.mkIdent `Bab)),$(Lean.mkIdent `ZERO)⟩)
local macro_rules|`($f:ident∘$n:str)=>`(W.nsIn $(Lean.mkIdent `K) mainGlobals $n=some (some (.ref $f)))|`($i:num∘$n:str∘$t:ident)=>`($i∘$n∘$n∘$t)|`($i:num∘$n:str∘$q:str∘$t:ident)=>do let v:=fun c=>Lean.mkIdent (.mkSimple s!"{c}{i.getNat}");`($(Lean.mkIdent `K).lookup $(v "f")=some ⟨$(v "D"),$(v "A"),.func (W.fnOf $n $q (Jam $t) (Jal $t) (Jae $t) .none $(v "E") $(v "G") $(v "M") $(v "B") $(v "U") $(v "V")),$(v "C")⟩)
local macro_rules|`($c:ident∣$n:str)=>`(W.codeIn $(Lean.mkIdent `K) $c $n=true)
local macro_rules|`(-$f)=>`(W.keepIn $(Lean.mkIdent `K) (.ref $f)=true)
local macro_rules|`($f:ident/$n:str)=>`(W.findIn $(Lean.mkIdent `K) (.ref $f) $n=some none)|`($f:ident/$n:str/$g:ident)=>`(W.findIn $(Lean.mkIdent `K) (.ref $f) $n=some (some (.ref $g)))
local macro_rules|`(tactic|bv_omega)=>`(tactic|first|exact fun _ _ _ _ _ _=>lenE1 fun _=>rfl|exact fun _ _ _ _ _ _=>lenE2 fun _ _=>rfl|exact fun _ _ _ _ _ _=>lenE3 fun _ _ _=>rfl|exact fun _ _ _ _ _ _=>lenE4 fun _ _ _ _=>rfl|exact fun _ _ _ _ _ _=>lenE5 fun _ _ _ _ _=>rfl|exact fun _ _ _ _ _ _=>lenE6 fun _ _ _ _ _ _=>rfl|exact fun _ _ _ _ _ _=>lenE0 rfl)
theorem all_mk {l:W.OpenLaw} {w:World} {K:W.Frag} {h:Heap} {mg:Str->Option Value} {fa:Addr} {NoTie Tie Free AtLeast AtMost Just Between Scale Step Book:Addr} (X:K.In h) (G:h.Ns mainGlobals mg) (hfa:mg "law"=some (.ref fa)) {f1 f2 f3 f4 f5 f6 f7 f8 f9 f10 f11 f12 f13 f14 f15 f16 f17 f18 f19 f20 f21 f22 f23 f24 f25 f26 f27 f28 f29 f30 f31 f32 f33 f34 f35 f36 f37 f38 f39 f40 f41 f42 f43 f44 f45 f46 f47 f48 f49 f50 f51 f52:Addr} {A1 B1 A2 B2 A3 B3 A4 B4 A5 B5 A6 B6 A7 B7 A8 B8 A9 B9 A10 B10 A11 B11 A12 B12 A13 B13 A14 B14 A15 B15 A16 B16 A17 B17 A18 B18 A19 B19 A20 B20 A21 B21 A22 B22 A23 B23 A24 B24 A25 B25 A26 B26 A27 B27 A28 B28 A29 B29 A30 B30 A31 B31 A32 B32 A33 B33 A34 B34 A35 B35 A36 B36 A37 B37 A38 B38 A39 B39 A40 B40 A41 B41 A42 B42 A43 B43 A44 B44 A45 B45 A46 B46 A47 B47 A48 B48 A49 B49 A50 B50 A51 B51 A52 B52:Option Addr} {C1 C2 C3 C4 C5 C6 C7 C8 C9 C10 C11 C12 C13 C14 C15 C16 C17 C18 C19 C20 C21 C22 C23 C24 C25 C26 C27 C28 C29 C30 C31 C32 C33 C34 C35 C36 C37 C38 C39 C40 C41 C42 C43 C44 C45 C46 C47 C48 C49 C50 C51 C52:Array (Option Value)} {D1 E1 G1 M1 U1 V1 D2 E2 G2 M2 U2 V2 D3 E3 G3 M3 U3 V3 D4 E4 G4 M4 U4 V4 D5 E5 G5 M5 U5 V5 D6 E6 G6 M6 U6 V6 D7 E7 G7 M7 U7 V7 D8 E8 G8 M8 U8 V8 D9 E9 G9 M9 U9 V9 D10 E10 G10 M10 U10 V10 D11 E11 G11 M11 U11 V11 D12 E12 G12 M12 U12 V12 D13 E13 G13 M13 U13 V13 D14 E14 G14 M14 U14 V14 D15 E15 G15 M15 U15 V15 D16 E16 G16 M16 U16 V16 D17 E17 G17 M17 U17 V17 D18 E18 G18 M18 U18 V18 D19 E19 G19 M19 U19 V19 D20 E20 G20 M20 U20 V20 D21 E21 G21 M21 U21 V21 D22 E22 G22 M22 U22 V22 D23 E23 G23 M23 U23 V23 D24 E24 G24 M24 U24 V24 D25 E25 G25 M25 U25 V25 D26 E26 G26 M26 U26 V26 D27 E27 G27 M27 U27 V27 D28 E28 G28 M28 U28 V28 D29 E29 G29 M29 U29 V29 D30 E30 G30 M30 U30 V30 D31 E31 G31 M31 U31 V31 D32 E32 G32 M32 U32 V32 D33 E33 G33 M33 U33 V33 D34 E34 G34 M34 U34 V34 D35 E35 G35 M35 U35 V35 D36 E36 G36 M36 U36 V36 D37 E37 G37 M37 U37 V37 D38 E38 G38 M38 U38 V38 D39 E39 G39 M39 U39 V39 D40 E40 G40 M40 U40 V40 D41 E41 G41 M41 U41 V41 D42 E42 G42 M42 U42 V42 D43 E43 G43 M43 U43 V43 D44 E44 G44 M44 U44 V44 D45 E45 G45 M45 U45 V45 D46 E46 G46 M46 U46 V46 D47 E47 G47 M47 U47 V47 D48 E48 G48 M48 U48 V48 D49 E49 G49 M49 U49 V49 D50 E50 G50 M50 U50 V50 D51 E51 G51 M51 U51 V51 D52 E52 G52 M52 U52 V52:Value}
  {T37:Addr} {tc37:Value} {td37:Option Addr} {tn37:Nat} {ts37:Array (Option Value)}
  {Baa:Tok}
  {Bab:Tok}
  {ZERO:Addr} {Bcd:Option Addr} {Bce:Nat} {Bcf:Array (Option Value)} {Bcb Bcc:Tok}
  (g_NoTie:NoTie∘"NoTie")
  (g_Tie:Tie∘"Tie")
  (g_Free:Free∘"Free")
  (g_AtLeast:AtLeast∘"AtLeast")
  (g_AtMost:AtMost∘"AtMost")
  (g_Just:Just∘"Just")
  (g_Between:Between∘"Between")
  (BbU:Scale∘"Scale")
  (g_Step:Step∘"Step")
  (g_Book:Book∘"Book")
  (a1:f1∘"common_divisor") (l1:K.lookup f1=some ⟨D1,A1, .func (W.fnOf "common_divisor" "common_divisor" (Jal Bah) (Jak Bah) (Jac Bah) .none E1 G1 M1 B1 U1 V1),C1⟩) (c1:U1∣"common_divisor") (k1:-f1)
  (a2:f2∘"plus") (l2:K.lookup f2=some ⟨D2,A2, .func (W.fnOf "plus" "plus" (Jal BbO) (Jak BbO) (Jac BbO) .none E2 G2 M2 B2 U2 V2),C2⟩) (c2:U2∣"plus") (k2:-f2)
  (a3:f3∘"minus") (l3:K.lookup f3=some ⟨D3,A3, .func (W.fnOf "minus" "minus" (Jal BbG) (Jak BbG) (Jac BbG) .none E3 G3 M3 B3 U3 V3),C3⟩) (c3:U3∣"minus") (k3:-f3)
  (a4:f4∘"under") (l4:K.lookup f4=some ⟨D4,A4, .func (W.fnOf "under" "under" (Jal BbH) (Jak BbH) (Jac BbH) .none E4 G4 M4 B4 U4 V4),C4⟩) (c4:U4∣"under") (k4:-f4)
  (a5:f5∘"is_name") (l5:K.lookup f5=some ⟨D5,A5, .func (W.fnOf "is_name" "is_name" (Jal Bbh) (Jak Bbh) (Jac Bbh) .none E5 G5 M5 B5 U5 V5),C5⟩) (c5:U5∣"is_name") (k5:-f5)
  (a6:f6∘"is_whole") (l6:K.lookup f6=some ⟨D6,A6, .func (W.fnOf "is_whole" "is_whole" (Jal Ba1) (Jak Ba1) (Jac Ba1) .none E6 G6 M6 B6 U6 V6),C6⟩) (c6:U6∣"is_whole") (k6:-f6)
  (a7:f7∘"is_fraction") (l7:K.lookup f7=some ⟨D7,A7, .func (W.fnOf "is_fraction" "is_fraction" (Jal Bax) (Jak Bax) (Jac Bax) .none E7 G7 M7 B7 U7 V7),C7⟩) (c7:U7∣"is_fraction") (k7:-f7)
  (a8:f8∘"is_bound") (l8:K.lookup f8=some ⟨D8,A8, .func (W.fnOf "is_bound" "is_bound" (Jal Ba2) (Jak Ba2) (Jac Ba2) .none E8 G8 M8 B8 U8 V8),C8⟩) (c8:U8∣"is_bound") (k8:-f8)
  (a9:f9∘"are_faces") (l9:K.lookup f9=some ⟨D9,A9, .func (W.fnOf "are_faces" "are_faces" (Jal BaO) (Jak BaO) (Jac BaO) .none E9 G9 M9 B9 U9 V9),C9⟩) (c9:U9∣"are_faces") (k9:-f9)
  (a10:f10∘"are_bounds") (l10:K.lookup f10=some ⟨D10,A10, .func (W.fnOf "are_bounds" "are_bounds" (Jal BaH) (Jak BaH) (Jac BaH) .none E10 G10 M10 B10 U10 V10),C10⟩) (c10:U10∣"are_bounds") (k10:-f10)
  (a11:f11∘"is_tie") (l11:K.lookup f11=some ⟨D11,A11, .func (W.fnOf "is_tie" "is_tie" (Jal Bbz) (Jak Bbz) (Jac Bbz) .none E11 G11 M11 B11 U11 V11),C11⟩) (c11:U11∣"is_tie") (k11:-f11)
  (a12:Tie/"__init__"/f12) (l12:K.lookup f12=some ⟨D12,A12, .func (W.fnOf "__init__" "Tie.__init__" (Jal Baq) (Jak Baq) (Jac Baq) .none E12 G12 M12 B12 U12 V12),C12⟩) (c12:U12∣"Tie.__init__") (k12:-f12)
  (a13:Tie/"plain"/f13) (l13:K.lookup f13=some ⟨D13,A13, .func (W.fnOf "plain" "Tie.plain" (Jal BaP) (Jak BaP) (Jac BaP) .none E13 G13 M13 B13 U13 V13),C13⟩) (c13:U13∣"Tie.plain") (k13:-f13)
  (a14:f14∘"tie_of") (l14:K.lookup f14=some ⟨D14,A14, .func (W.fnOf "tie_of" "tie_of" (Jal BbA) (Jak BbA) (Jac BbA) .none E14 G14 M14 B14 U14 V14),C14⟩) (c14:U14∣"tie_of") (k14:-f14)
  (a15:Tie/"steps"/f15) (l15:K.lookup f15=some ⟨D15,A15, .func (W.fnOf "steps" "Tie.steps" (Jal BaQ) (Jak BaQ) (Jac BaQ) .none E15 G15 M15 B15 U15 V15),C15⟩) (c15:U15∣"Tie.steps") (k15:-f15)
  (a16:Scale/"__init__"/f16) (l16:K.lookup f16=some ⟨D16,A16, .func (W.fnOf "__init__" "Scale.__init__" (Jal Bai) (Jak Bai) (Jac Bai) .none E16 G16 M16 B16 U16 V16),C16⟩) (c16:U16∣"Scale.__init__") (k16:-f16)
  (a17:Scale/"lifted"/f17) (l17:K.lookup f17=some ⟨D17,A17, .func (W.fnOf "lifted" "Scale.lifted" (Jal Bar) (Jak Bar) (Jac Bar) .none E17 G17 M17 B17 U17 V17),C17⟩) (c17:U17∣"Scale.lifted") (k17:-f17)
  (a18:Step/"__init__"/f18) (l18:K.lookup f18=some ⟨D18,A18, .func (W.fnOf "__init__" "Step.__init__" (Jal Bam) (Jak Bam) (Jac Bam) .none E18 G18 M18 B18 U18 V18),C18⟩) (c18:U18∣"Step.__init__") (k18:-f18)
  (a19:f19∘"steps_of") (l19:K.lookup f19=some ⟨D19,A19, .func (W.fnOf "steps_of" "steps_of" (Jal Ba3) (Jak Ba3) (Jac Ba3) .none E19 G19 M19 B19 U19 V19),C19⟩) (c19:U19∣"steps_of") (k19:-f19)
  (a20:f20∘"last_steps") (l20:K.lookup f20=some ⟨D20,A20, .func (W.fnOf "last_steps" "last_steps" (Jal BaI) (Jak BaI) (Jac BaI) .none E20 G20 M20 B20 U20 V20),C20⟩) (c20:U20∣"last_steps") (k20:-f20)
  (a21:f21∘"chains_from") (l21:K.lookup f21=some ⟨D21,A21, .func (W.fnOf "chains_from" "chains_from" (Jal Bay) (Jak Bay) (Jac Bay) .none E21 G21 M21 B21 U21 V21),C21⟩) (c21:U21∣"chains_from") (k21:-f21)
  (a22:f22∘"faces_of") (l22:K.lookup f22=some ⟨D22,A22, .func (W.fnOf "faces_of" "faces_of" (Jal Ba4) (Jak Ba4) (Jac Ba4) .none E22 G22 M22 B22 U22 V22),C22⟩) (c22:U22∣"faces_of") (k22:-f22)
  (a23:Book/"kept"/f23) (l23:K.lookup f23=some ⟨D23,A23, .func (W.fnOf "kept" "Book.kept" (Jal BaR) (Jak BaR) (Jac BaR) .none E23 G23 M23 B23 U23 V23),C23⟩) (c23:U23∣"Book.kept") (k23:-f23)
  (a24:Book/"ties"/f24) (l24:K.lookup f24=some ⟨D24,A24, .func (W.fnOf "ties" "Book.ties" (Jal BaS) (Jak BaS) (Jac BaS) .none E24 G24 M24 B24 U24 V24),C24⟩) (c24:U24∣"Book.ties") (k24:-f24)
  (a25:Book/"faces"/f25) (l25:K.lookup f25=some ⟨D25,A25, .func (W.fnOf "faces" "Book.faces" (Jal BaJ) (Jak BaJ) (Jac BaJ) .none E25 G25 M25 B25 U25 V25),C25⟩) (c25:U25∣"Book.faces") (k25:-f25)
  (a26:Book/"__init__"/f26) (l26:K.lookup f26=some ⟨D26,A26, .func (W.fnOf "__init__" "Book.__init__" (Jal Ban) (Jak Ban) (Jac Ban) .none E26 G26 M26 B26 U26 V26),C26⟩) (c26:U26∣"Book.__init__") (k26:-f26)
  (a27:f27∘"places_of") (l27:K.lookup f27=some ⟨D27,A27, .func (W.fnOf "places_of" "places_of" (Jal BaT) (Jak BaT) (Jac BaT) .none E27 G27 M27 B27 U27 V27),C27⟩) (c27:U27∣"places_of") (k27:-f27)
  (a28:f28∘"whole_below") (l28:K.lookup f28=some ⟨D28,A28, .func (W.fnOf "whole_below" "whole_below" (Jal Baz) (Jak Baz) (Jac Baz) .none E28 G28 M28 B28 U28 V28),C28⟩) (c28:U28∣"whole_below") (k28:-f28)
  (a29:f29∘"whole_above") (l29:K.lookup f29=some ⟨D29,A29, .func (W.fnOf "whole_above" "whole_above" (Jal BaA) (Jak BaA) (Jac BaA) .none E29 G29 M29 B29 U29 V29),C29⟩) (c29:U29∣"whole_above") (k29:-f29)
  (a30:f30∘"enough_above") (l30:K.lookup f30=some ⟨D30,A30, .func (W.fnOf "enough_above" "enough_above" (Jal Bas) (Jak Bas) (Jac Bas) .none E30 G30 M30 B30 U30 V30),C30⟩) (c30:U30∣"enough_above") (k30:-f30)
  (a31:f31∘"stretched_placing") (l31:K.lookup f31=some ⟨D31,A31, .func (W.fnOf "stretched_placing" "stretched_placing" (Jal Bae) (Jak Bae) (Jac Bae) .none E31 G31 M31 B31 U31 V31),C31⟩) (c31:U31∣"stretched_placing") (k31:-f31)
  (a32:f32∘"gap_between") (l32:K.lookup f32=some ⟨D32,A32, .func (W.fnOf "gap_between" "gap_between" (Jal BaB) (Jak BaB) (Jac BaB) .none E32 G32 M32 B32 U32 V32),C32⟩) (c32:U32∣"gap_between") (k32:-f32)
  (a33:Book/"check_faces"/f33) (l33:K.lookup f33=some ⟨D33,A33, .func (W.fnOf "check_faces" "Book.check_faces" (Jal Baf) (Jak Baf) (Jac Baf) .none E33 G33 M33 B33 U33 V33),C33⟩) (c33:U33∣"Book.check_faces") (k33:-f33)
  (a34:Book/"chains_of"/f34) (l34:K.lookup f34=some ⟨D34,A34, .func (W.fnOf "chains_of" "Book.chains_of" (Jal Baj) (Jak Baj) (Jac Baj) .none E34 G34 M34 B34 U34 V34),C34⟩) (c34:U34∣"Book.chains_of") (k34:-f34)
  (a35:Book/"gap"/f35) (l35:K.lookup f35=some ⟨D35,A35, .func (W.fnOf "gap" "Book.gap" (Jal Ba6) (Jak Ba6) (Jac Ba6) .none E35 G35 M35 B35 U35 V35),C35⟩) (c35:U35∣"Book.gap") (k35:-f35)
  (a36:Book/"farthest"/f36) (l36:K.lookup f36=some ⟨D36,A36, .func (W.fnOf "farthest" "Book.farthest" (Jal Bao) (Jak Bao) (Jac Bao) .none E36 G36 M36 B36 U36 V36),C36⟩) (c36:U36∣"Book.farthest") (k36:-f36)
  (a37:Book/"shown"/f37) (l37:K.lookup f37=some ⟨D37,A37, .func (W.fnOf "shown" "Book.shown" (Jal BaK) (Jak BaK) (Jac BaK) (.ref T37) E37 G37 M37 B37 U37 V37),C37⟩) (c37:U37∣"Book.shown") (k37:-f37)
  (t37:K.lookup T37=some ⟨tc37,td37, .seq #[.bool true] tn37,ts37⟩)
  (a38:Book/"narrowed"/f38) (l38:K.lookup f38=some ⟨D38,A38, .func (W.fnOf "narrowed" "Book.narrowed" (Jal Bap) (Jak Bap) (Jac Bap) .none E38 G38 M38 B38 U38 V38),C38⟩) (c38:U38∣"Book.narrowed") (k38:-f38)
  (a39:f39∘"_law_divisor") (l39:K.lookup f39=some ⟨D39,A39, .func (W.fnOf "_law_divisor" "_law_divisor" (Jal BaD) (Jak BaD) (Jac BaD) .none E39 G39 M39 B39 U39 V39),C39⟩) (c39:U39∣"_law_divisor") (k39:-f39)
  (a40:f40∘"_law_cell_at") (l40:K.lookup f40=some ⟨D40,A40, .func (W.fnOf "_law_cell_at" "_law_cell_at" (Jal BaE) (Jak BaE) (Jac BaE) .none E40 G40 M40 B40 U40 V40),C40⟩) (c40:U40∣"_law_cell_at") (k40:-f40)
  (a41:f41∘"_law_lowest") (l41:K.lookup f41=some ⟨D41,A41, .func (W.fnOf "_law_lowest" "_law_lowest" (Jal BaL) (Jak BaL) (Jac BaL) .none E41 G41 M41 B41 U41 V41),C41⟩) (c41:U41∣"_law_lowest") (k41:-f41)
  (a42:f42∘"_law_plus") (l42:K.lookup f42=some ⟨D42,A42, .func (W.fnOf "_law_plus" "_law_plus" (Jal Ba7) (Jak Ba7) (Jac Ba7) .none E42 G42 M42 B42 U42 V42),C42⟩) (c42:U42∣"_law_plus") (k42:-f42)
  (a43:f43∘"_law_minus") (l43:K.lookup f43=some ⟨D43,A43, .func (W.fnOf "_law_minus" "_law_minus" (Jal BaV) (Jak BaV) (Jac BaV) .none E43 G43 M43 B43 U43 V43),C43⟩) (c43:U43∣"_law_minus") (k43:-f43)
  (a44:f44∘"_law_less") (l44:K.lookup f44=some ⟨D44,A44, .func (W.fnOf "_law_less" "_law_less" (Jal Ba8) (Jak Ba8) (Jac Ba8) .none E44 G44 M44 B44 U44 V44),C44⟩) (c44:U44∣"_law_less") (k44:-f44)
  (a45:f45∘"_law_places") (l45:K.lookup f45=some ⟨D45,A45, .func (W.fnOf "_law_places" "_law_places" (Jal BaN) (Jak BaN) (Jac BaN) .none E45 G45 M45 B45 U45 V45),C45⟩) (c45:U45∣"_law_places") (k45:-f45)
  (a46:f46∘"_law_faces") (l46:K.lookup f46=some ⟨D46,A46, .func (W.fnOf "_law_faces" "_law_faces" (Jal BaW) (Jak BaW) (Jac BaW) .none E46 G46 M46 B46 U46 V46),C46⟩) (c46:U46∣"_law_faces") (k46:-f46)
  (a47:f47∘"_law_tie") (l47:K.lookup f47=some ⟨D47,A47, .func (W.fnOf "_law_tie" "_law_tie" (Jal Bbi) (Jak Bbi) (Jac Bbi) .none E47 G47 M47 B47 U47 V47),C47⟩) (c47:U47∣"_law_tie") (k47:-f47)
  (a48:f48∘"_law_keeps") (l48:K.lookup f48=some ⟨D48,A48, .func (W.fnOf "_law_keeps" "_law_keeps" (Jal BaX) (Jak BaX) (Jac BaX) .none E48 G48 M48 B48 U48 V48),C48⟩) (c48:U48∣"_law_keeps") (k48:-f48)
  (a49:f49∘"_law_moved") (l49:K.lookup f49=some ⟨D49,A49, .func (W.fnOf "_law_moved" "_law_moved" (Jal BaY) (Jak BaY) (Jac BaY) .none E49 G49 M49 B49 U49 V49),C49⟩) (c49:U49∣"_law_moved") (k49:-f49)
  (a50:f50∘"_law_no_wider") (l50:K.lookup f50=some ⟨D50,A50, .func (W.fnOf "_law_no_wider" "_law_no_wider" (Jal Bau) (Jak Bau) (Jac Bau) .none E50 G50 M50 B50 U50 V50),C50⟩) (c50:U50∣"_law_no_wider") (k50:-f50)
  (a51:f51∘"_law_come_to") (l51:K.lookup f51=some ⟨D51,A51, .func (W.fnOf "_law_come_to" "_law_come_to" (Jal BaF) (Jak BaF) (Jac BaF) .none E51 G51 M51 B51 U51 V51),C51⟩) (c51:U51∣"_law_come_to") (k51:-f51)
  (a52:f52∘"law") (l52:K.lookup f52=some ⟨D52,A52, .func (W.fnOf "law" "law" (Jal BbT) (Jak BbT) (Jac BbT) .none E52 G52 M52 B52 U52 V52),C52⟩) (c52:U52∣"law") (k52:-f52)
  (z_abs:W.nsIn K mainGlobals "abs"=some none)
  (z_isinstance:W.nsIn K mainGlobals "isinstance"=some none)
  (z_len:W.nsIn K mainGlobals "len"=some none)
  (z_all:W.nsIn K mainGlobals "all"=some none)
  (z_int:W.nsIn K mainGlobals "int"=some none)
  (z_bool:W.nsIn K mainGlobals "bool"=some none)
  (z_tuple:W.nsIn K mainGlobals "tuple"=some none)
  (z_str:W.nsIn K mainGlobals "str"=some none)
  (z_range:W.nsIn K mainGlobals "range"=some none)
  (z_list:W.nsIn K mainGlobals "list"=some none)
  (z_reversed:W.nsIn K mainGlobals "reversed"=some none)
  (z_sorted:W.nsIn K mainGlobals "sorted"=some none)
  (z_set:W.nsIn K mainGlobals "set"=some none)
  (z_max:W.nsIn K mainGlobals "max"=some none)
  (z_dict:W.nsIn K mainGlobals "dict"=some none)
  (Bbb:W.nsIn K mainGlobals "SMALL_LETTERS"=some (some (.str "abcdefghijklmnopqrstuvwxyz" Baa)))
  (Bbg:W.nsIn K mainGlobals "LONGEST_NAME"=some (some (.int 8 Bab)))
  (Bb9:ZERO∘"ZERO")
  (h_ZERO:K.lookup ZERO=some ⟨.type "tuple",Bcd, .seq #[.int 0 Bcb, .int 1 Bcc] Bce,Bcf⟩)
  (x_NoTie:W.excIn K NoTie [.type "ValueError", .type "Exception", .type "BaseException", .type "object"] "ValueError.__new__"=true)
  (mk_Free:W.makesIn K Free=true)
  (mi_Free:Free/"__init__"/f12)
  (mf_Free:W.isFn K (.ref f12)=true)
  (mp_Free:-Free)
  (me_steps_Free:Free/"steps"/f15)
  (me_plain_Free:Free/"plain"/f13)
  (mk_AtLeast:W.makesIn K AtLeast=true)
  (mi_AtLeast:AtLeast/"__init__"/f12)
  (mf_AtLeast:W.isFn K (.ref f12)=true)
  (mp_AtLeast:-AtLeast)
  (me_steps_AtLeast:AtLeast/"steps"/f15)
  (me_plain_AtLeast:AtLeast/"plain"/f13)
  (mk_AtMost:W.makesIn K AtMost=true)
  (mi_AtMost:AtMost/"__init__"/f12)
  (mf_AtMost:W.isFn K (.ref f12)=true)
  (mp_AtMost:-AtMost)
  (me_steps_AtMost:AtMost/"steps"/f15)
  (me_plain_AtMost:AtMost/"plain"/f13)
  (mk_Just:W.makesIn K Just=true)
  (mi_Just:Just/"__init__"/f12)
  (mf_Just:W.isFn K (.ref f12)=true)
  (mp_Just:-Just)
  (me_steps_Just:Just/"steps"/f15)
  (me_plain_Just:Just/"plain"/f13)
  (mk_Between:W.makesIn K Between=true)
  (mi_Between:Between/"__init__"/f12)
  (mf_Between:W.isFn K (.ref f12)=true)
  (mp_Between:-Between)
  (me_steps_Between:Between/"steps"/f15)
  (me_plain_Between:Between/"plain"/f13)
  (mm_steps:W.isFn K (.ref f15)=true)
  (Bbn:W.isFn K (.ref f13)=true)
  (BbV:W.makesIn K Scale=true)
  (BbW:Scale/"__init__"/f16)
  (BbX:W.isFn K (.ref f16)=true)
  (BbY:-Scale)
  (mk_Step:W.makesIn K Step=true)
  (mi_Step:Step/"__init__"/f18)
  (mf_Step:W.isFn K (.ref f18)=true)
  (mp_Step:-Step)
  (Bbc:Scale/"lifted"/f17)
  (Bbd:W.isFn K (.ref f17)=true)
  (mk_Book:W.makesIn K Book=true)
  (mi_Book:Book/"__init__"/f26)
  (mf_Book:W.isFn K (.ref f26)=true)
  (mp_Book:-Book)
  (me_kept_Book:Book/"kept"/f23)
  (mm_kept:W.isFn K (.ref f23)=true)
  (me_ties_Book:Book/"ties"/f24)
  (mm_ties:W.isFn K (.ref f24)=true)
  (me_faces_Book:Book/"faces"/f25)
  (mm_faces:W.isFn K (.ref f25)=true)
  (me_check_faces_Book:Book/"check_faces"/f33)
  (mm_check_faces:W.isFn K (.ref f33)=true)
  (me_chains_of_Book:Book/"chains_of"/f34)
  (mm_chains_of:W.isFn K (.ref f34)=true)
  (me_gap_Book:Book/"gap"/f35)
  (mm_gap:W.isFn K (.ref f35)=true)
  (me_farthest_Book:Book/"farthest"/f36)
  (mm_farthest:W.isFn K (.ref f36)=true)
  (me_shown_Book:Book/"shown"/f37)
  (mm_shown:W.isFn K (.ref f37)=true)
  (me_narrowed_Book:Book/"narrowed"/f38)
  (mm_narrowed:W.isFn K (.ref f38)=true)
  (cl1_Free:W.plainGet K Free Str.empty=true)
  (cl2_Free:W.hasDictIn K Free=true)
  (cl3_Free:W.plainOver K Free=true)
  (cl4_Free:W.findIn K (.ref Free) "__setattr__"=some (some (.builtin "object.__setattr__")))
  (na1_Free:Free/"name")
  (na2_Free:Free/"start")
  (na3_Free:Free/"end")
  (na4_Free:Free/"least")
  (na5_Free:Free/"greatest")
  (cl1_AtLeast:W.plainGet K AtLeast Str.empty=true)
  (cl2_AtLeast:W.hasDictIn K AtLeast=true)
  (cl3_AtLeast:W.plainOver K AtLeast=true)
  (cl4_AtLeast:W.findIn K (.ref AtLeast) "__setattr__"=some (some (.builtin "object.__setattr__")))
  (na1_AtLeast:AtLeast/"name")
  (na2_AtLeast:AtLeast/"start")
  (na3_AtLeast:AtLeast/"end")
  (na4_AtLeast:AtLeast/"least")
  (na5_AtLeast:AtLeast/"greatest")
  (cl1_AtMost:W.plainGet K AtMost Str.empty=true)
  (cl2_AtMost:W.hasDictIn K AtMost=true)
  (cl3_AtMost:W.plainOver K AtMost=true)
  (cl4_AtMost:W.findIn K (.ref AtMost) "__setattr__"=some (some (.builtin "object.__setattr__")))
  (na1_AtMost:AtMost/"name")
  (na2_AtMost:AtMost/"start")
  (na3_AtMost:AtMost/"end")
  (na4_AtMost:AtMost/"least")
  (na5_AtMost:AtMost/"greatest")
  (cl1_Just:W.plainGet K Just Str.empty=true)
  (cl2_Just:W.hasDictIn K Just=true)
  (cl3_Just:W.plainOver K Just=true)
  (cl4_Just:W.findIn K (.ref Just) "__setattr__"=some (some (.builtin "object.__setattr__")))
  (na1_Just:Just/"name")
  (na2_Just:Just/"start")
  (na3_Just:Just/"end")
  (na4_Just:Just/"least")
  (na5_Just:Just/"greatest")
  (cl1_Between:W.plainGet K Between Str.empty=true)
  (cl2_Between:W.hasDictIn K Between=true)
  (cl3_Between:W.plainOver K Between=true)
  (cl4_Between:W.findIn K (.ref Between) "__setattr__"=some (some (.builtin "object.__setattr__")))
  (na1_Between:Between/"name")
  (na2_Between:Between/"start")
  (na3_Between:Between/"end")
  (na4_Between:Between/"least")
  (na5_Between:Between/"greatest")
  (Bbo:W.plainGet K Scale Str.empty=true)
  (Bbp:W.hasDictIn K Scale=true)
  (Bbq:W.plainOver K Scale=true)
  (Bbr:W.findIn K (.ref Scale) "__setattr__"=some (some (.builtin "object.__setattr__")))
  (Bbs:Scale/"bottom")
  (Bbt:Scale/"factors")
  (cl1_Step:W.plainGet K Step Str.empty=true)
  (cl2_Step:W.hasDictIn K Step=true)
  (cl3_Step:W.plainOver K Step=true)
  (cl4_Step:W.findIn K (.ref Step) "__setattr__"=some (some (.builtin "object.__setattr__")))
  (na1_Step:Step/"source")
  (na2_Step:Step/"target")
  (na3_Step:Step/"cost")
  (na4_Step:Step/"whole")
  (na5_Step:Step/"pair")
  (bk1:W.plainGet K Book Str.empty=true)
  (bk2:W.hasDictIn K Book=true)
  (bk3:W.plainOver K Book=true)
  (bk4:W.findIn K (.ref Book) "__setattr__"=some (some (.builtin "object.__setattr__")))
  (bkn:Book/"by_name")
  : ∃ fd:FuncData,(∀ (s:Shared) (v:Value),BindsTo s fd ⟨[v],[]⟩ [("_law_script",v)])/\∀ base:Heap,K.In base->base.Ns mainGlobals mg->FnOk l.prog w K mg base (CX1 l.prog w) 10 fa fd ["_law_script"] (BbZ K):=by
 have e:=hfa.symm.trans (W.mg_of X G a52);cases e;have T:Txt K mg ∅:=⟨W.mg_none_of X G z_abs,W.mg_none_of X G z_isinstance,W.mg_none_of X G z_len,W.mg_none_of X G z_all,W.mg_none_of X G z_int,W.mg_none_of X G z_bool,W.mg_none_of X G z_tuple,W.mg_none_of X G z_str,W.mg_none_of X G z_range,W.mg_none_of X G z_list,W.mg_none_of X G z_reversed,W.mg_none_of X G z_sorted,W.mg_none_of X G z_set,W.mg_none_of X G z_max,W.mg_none_of X G z_dict,W.mg_of X G g_NoTie,W.mg_of X G g_Tie,W.mg_of X G g_Free,W.mg_of X G g_AtLeast,W.mg_of X G g_AtMost,W.mg_of X G g_Just,W.mg_of X G g_Between,W.mg_of X G BbU,W.mg_of X G g_Step,W.mg_of X G g_Book,W.mg_of X G Bbb,⟨_,rfl⟩,W.mg_of X G Bbg,⟨_,rfl⟩,W.mg_of X G Bb9,rfl,fun H=>.inr ⟨_,_,_,h_ZERO,rfl,rfl,by show 2<=sizeLine;decide, .cons ⟨_,rfl⟩ (.cons ⟨_,rfl⟩ (.nil))⟩,x_NoTie,cl1_Free,cl2_Free,cl3_Free,cl4_Free,na1_Free,na2_Free,na3_Free,na4_Free,na5_Free,cl1_AtLeast,cl2_AtLeast,cl3_AtLeast,cl4_AtLeast,na1_AtLeast,na2_AtLeast,na3_AtLeast,na4_AtLeast,na5_AtLeast,cl1_AtMost,cl2_AtMost,cl3_AtMost,cl4_AtMost,na1_AtMost,na2_AtMost,na3_AtMost,na4_AtMost,na5_AtMost,cl1_Just,cl2_Just,cl3_Just,cl4_Just,na1_Just,na2_Just,na3_Just,na4_Just,na5_Just,cl1_Between,cl2_Between,cl3_Between,cl4_Between,na1_Between,na2_Between,na3_Between,na4_Between,na5_Between,Bbo,Bbp,Bbq,Bbr,Bbs,Bbt,cl1_Step,cl2_Step,cl3_Step,cl4_Step,na1_Step,na2_Step,na3_Step,na4_Step,na5_Step,bk1,bk2,bk3,bk4,bkn,(fun C hC=>by rcases hC with rfl | rfl | rfl | rfl | rfl <;> first | exact ⟨⟨cl1_Free,cl2_Free,cl3_Free,cl4_Free⟩,na1_Free,na2_Free,na3_Free,na4_Free,na5_Free⟩ | exact ⟨⟨cl1_AtLeast,cl2_AtLeast,cl3_AtLeast,cl4_AtLeast⟩,na1_AtLeast,na2_AtLeast,na3_AtLeast,na4_AtLeast,na5_AtLeast⟩ | exact ⟨⟨cl1_AtMost,cl2_AtMost,cl3_AtMost,cl4_AtMost⟩,na1_AtMost,na2_AtMost,na3_AtMost,na4_AtMost,na5_AtMost⟩ | exact ⟨⟨cl1_Just,cl2_Just,cl3_Just,cl4_Just⟩,na1_Just,na2_Just,na3_Just,na4_Just,na5_Just⟩ | exact ⟨⟨cl1_Between,cl2_Between,cl3_Between,cl4_Between⟩,na1_Between,na2_Between,na3_Between,na4_Between,na5_Between⟩),(fun C hC=>by cases hC;exact ⟨⟨Bbo,Bbp,Bbq,Bbr⟩,Bbs,Bbt⟩),(fun C hC=>by cases hC;exact ⟨⟨cl1_Step,cl2_Step,cl3_Step,cl4_Step⟩,na1_Step,na2_Step,na3_Step,na4_Step,na5_Step⟩),(fun C hC=>by cases hC;exact ⟨⟨bk1,bk2,bk3,bk4⟩,bkn⟩)⟩;have F1:=Jao l1 c1 k1;have F2:=Jao l2 c2 k2;have F3:=Jao l3 c3 k3;have F4:=Jao l4 c4 k4;have F5:=Jao l5 c5 k5;have F6:=Jao l6 c6 k6;have F7:=Jao l7 c7 k7;have F8:=Jao l8 c8 k8;have F9:=Jao l9 c9 k9;have F10:=Jao l10 c10 k10;have F11:=Jao l11 c11 k11;have F12:=Jao l12 c12 k12;have F13:=Jao l13 c13 k13;have F14:=Jao l14 c14 k14;have F15:=Jao l15 c15 k15;have F16:=Jao l16 c16 k16;have F17:=Jao l17 c17 k17;have F18:=Jao l18 c18 k18;have F19:=Jao l19 c19 k19;have F20:=Jao l20 c20 k20;have F21:=Jao l21 c21 k21;have F22:=Jao l22 c22 k22;have F23:=Jao l23 c23 k23;have F24:=Jao l24 c24 k24;have F25:=Jao l25 c25 k25;have F26:=Jao l26 c26 k26;have F27:=Jao l27 c27 k27;have F28:=Jao l28 c28 k28;have F29:=Jao l29 c29 k29;have F30:=Jao l30 c30 k30;have F31:=Jao l31 c31 k31;have F32:=Jao l32 c32 k32;have F33:=Jao l33 c33 k33;have F34:=Jao l34 c34 k34;have F35:=Jao l35 c35 k35;have F36:=Jao l36 c36 k36;have F37:=Jao l37 c37 k37;have b37:=F37.bindsD (ps:=["self","one","other","most"]) t37 rfl [] fun _ _ _ _ _ _ us hl=>match us,hl with | [_,_,_,_],_=>⟨_,rfl,rfl⟩
 have F38:=Jao l38 c38 k38;have F39:=Jao l39 c39 k39;have F40:=Jao l40 c40 k40;have F41:=Jao l41 c41 k41;have F42:=Jao l42 c42 k42;have F43:=Jao l43 c43 k43;have F44:=Jao l44 c44 k44;have F45:=Jao l45 c45 k45;have F46:=Jao l46 c46 k46;have F47:=Jao l47 c47 k47;have F48:=Jao l48 c48 k48;have F49:=Jao l49 c49 k49;have F50:=Jao l50 c50 k50;have F51:=Jao l51 c51 k51;have F52:=Jao l52 c52 k52;refine ⟨W.fnOf "law" "law" (Jal BbT) (Jak BbT) (Jac BbT) .none E52 G52 M52 B52 U52 V52,fun s v=>.of_eq rfl,fun base _ _=>?_⟩;have cC:∀ {k:Nat} {x:Str} {ps:List Str} {sp:Sp} {f:Addr} {fd:FuncData},FnOk l.prog w K mg base (CX1 l.prog w) k f fd ps sp->W.nsIn K mainGlobals x=some (some (.ref f))->W.keepIn K (.ref f)=true->Binds K fd ps []->Cal l.prog w K mg base k x ps [] sp:=fun h a c b=>⟨_,_,[],h,W.mg_of X G a,c,b, .nil⟩;have cK:∀ {k:Nat} {x:Str} {ps:List Str} {sp:Sp} {f C:Addr} {fd:FuncData},FnOk l.prog w K mg base (CX1 l.prog w) k f fd ps sp->W.nsIn K mainGlobals x=some (some (.ref C))->Mk K C f->Binds K fd ps []->KCal l.prog w K mg base k x C ps sp:=fun h a c b=>⟨_,_,h,W.mg_of X G a,c,b⟩;have cM:∀ {k:Nat} {m:Str} {Cs:Addr->Prop} {ps:List Str} {sp:Sp} {f:Addr} {fd:FuncData},FnOk l.prog w K mg base (CX1 l.prog w) k f fd ps sp->(∀ C,Cs C->Cls K C/\Meth K C m f)->W.keepIn K (.ref f)=true->Binds K fd ps []->MCal l.prog w K mg base k m Cs ps sp:=fun h a c b=>⟨_,_,h,a,c,b⟩;have Bac:=cC (Jc1 F1 T) a1 k1 (F1.binds (by bv_omega));have BbE:=cC (Jja F2 T Bac) a2 k2 (F2.binds (by bv_omega));have Bbk:=cC (Jh8 F3 T BbE) a3 k3 (F3.binds (by bv_omega));have Bb2:=cC (Jh9 F4 T) a4 k4 (F4.binds (by bv_omega));have Ba9:=cC (JgB F5 T) a5 k5 (F5.binds (by bv_omega));have Bbx:=cC (JfL F6 T) a6 k6 (F6.binds (by bv_omega));have Bbj:=cC (JdR F7 T Bbx Bac) a7 k7 (F7.binds (by bv_omega));have Bby:=cC (JfK F8 T Bbj) a8 k8 (F8.binds (by bv_omega));have BbC:=cC (Jfa F9 T Ba9) a9 k9 (F9.binds (by bv_omega));have Bbu:=cC (JeC F10 T Bby Bb2) a10 k10 (F10.binds (by bv_omega));have BbQ:=cC (Jhq F11 T Ba9 BbC Bbu) a11 k11 (F11.binds (by bv_omega));have K12:=Jdz (P:=l.prog) (w:=w) (base:=base) F12 T;have k_Free:=cK (Jdz F12 T) g_Free ⟨mk_Free,mi_Free,mf_Free,mp_Free⟩ (F12.binds (by bv_omega));have k_AtLeast:=cK K12 g_AtLeast ⟨mk_AtLeast,mi_AtLeast,mf_AtLeast,mp_AtLeast⟩ (F12.binds (by bv_omega));have k_AtMost:=cK K12 g_AtMost ⟨mk_AtMost,mi_AtMost,mf_AtMost,mp_AtMost⟩ (F12.binds (by bv_omega));have k_Just:=cK K12 g_Just ⟨mk_Just,mi_Just,mf_Just,mp_Just⟩ (F12.binds (by bv_omega));have k_Between:=cK K12 g_Between ⟨mk_Between,mi_Between,mf_Between,mp_Between⟩ (F12.binds (by bv_omega));have Bb4:=cM (m:="plain") (Cs:=IsTie ∅) (Je8 F13 T) (fun C hC=>⟨(T.tie C hC).cls,(by rcases hC with rfl | rfl | rfl | rfl | rfl <;> first | exact ⟨me_plain_Free,Bbn,k13⟩ | exact ⟨me_plain_AtLeast,Bbn,k13⟩ | exact ⟨me_plain_AtMost,Bbn,k13⟩ | exact ⟨me_plain_Just,Bbn,k13⟩ | exact ⟨me_plain_Between,Bbn,k13⟩)⟩) k13 (F13.binds (by bv_omega));have BbS:=cC (Jhr F14 T BbQ k_Free k_AtLeast k_AtMost k_Just k_Between) a14 k14 (F14.binds (by bv_omega));have m_steps:=cM (m:="steps") (Cs:=IsTie ∅) (Je9 F15 T Bbk) (fun C hC=>⟨(T.tie C hC).cls,(by rcases hC with rfl | rfl | rfl | rfl | rfl <;> first | exact ⟨me_steps_Free,mm_steps,k15⟩ | exact ⟨me_steps_AtLeast,mm_steps,k15⟩ | exact ⟨me_steps_AtMost,mm_steps,k15⟩ | exact ⟨me_steps_Just,mm_steps,k15⟩ | exact ⟨me_steps_Between,mm_steps,k15⟩)⟩) k15 (F15.binds (by bv_omega));have Bb3:=cK (Jc0 F16 T Bac) BbU ⟨BbV,BbW,BbX,BbY⟩ (F16.binds (by bv_omega));have BbR:=cM (m:="lifted") (Cs:=Jfx ∅) (Jdy F17 T Bac) (fun C hC=>⟨(T.BbP C hC).cls,(by cases hC;exact ⟨Bbc,Bbd,k17⟩)⟩) k17 (F17.binds (by bv_omega));have k_Step:=cK (Jdd F18 T BbR) g_Step ⟨mk_Step,mi_Step,mf_Step,mp_Step⟩ (F18.binds (by bv_omega));have Ba5:=cC (JfO F19 T m_steps Bb3 k_Step) a19 k19 (F19.binds (by bv_omega));have Bbv:=cC (JeD F20 T) a20 k20 (F20.binds (by bv_omega));have Bag:=cC (JdP F21 T Bbv BbE) a21 k21 (F21.binds (by bv_omega));have BbI:=cC (JfJ F22 T) a22 k22 (F22.binds (by bv_omega));have m_kept:=cM (m:="kept") (Cs:=JaL ∅) (Je6 F23 T) (fun C hC=>⟨(T.book C hC).cls,(by cases hC;exact ⟨me_kept_Book,mm_kept,k23⟩)⟩) k23 (F23.binds (by bv_omega));have m_ties:=cM (m:="ties") (Cs:=JaL ∅) (Je7 F24 T m_kept Bb4) (fun C hC=>⟨(T.book C hC).cls,(by cases hC;exact ⟨me_ties_Book,mm_ties,k24⟩)⟩) k24 (F24.binds (by bv_omega));have m_faces:=cM (m:="faces") (Cs:=JaL ∅) (JeA F25 T m_kept BbI) (fun C hC=>⟨(T.book C hC).cls,(by cases hC;exact ⟨me_faces_Book,mm_faces,k25⟩)⟩) k25 (F25.binds (by bv_omega));have k_Book:=cK (Jdc F26 T BbS) g_Book ⟨mk_Book,mi_Book,mf_Book,mp_Book⟩ (F26.binds (by bv_omega));have BaU:=cC (Jff F27 T Bag) a27 k27 (F27.binds (by bv_omega));have BaZ:=cC (JdW F28 T) a28 k28 (F28.binds (by bv_omega));have Bbl:=cC (JdV F29 T) a29 k29 (F29.binds (by bv_omega));have Bbe:=cC (JdA F30 T Bbl BaZ) a30 k30 (F30.binds (by bv_omega));have BaG:=cC (Jcz F31 T Bbe BbE) a31 k31 (F31.binds (by bv_omega));have BaC:=cC (JdQ F32 T Bbk) a32 k32 (F32.binds (by bv_omega));have m_check_faces:=cM (m:="check_faces") (Cs:=JaL ∅) (JcC F33 T m_faces) (fun C hC=>⟨(T.book C hC).cls,(by cases hC;exact ⟨me_check_faces_Book,mm_check_faces,k33⟩)⟩) k33 (F33.binds (by bv_omega));have m_chains_of:=cM (m:="chains_of") (Cs:=JaL ∅) (JcZ F34 T m_kept m_faces Ba5 BaU Bag) (fun C hC=>⟨(T.book C hC).cls,(by cases hC;exact ⟨me_chains_of_Book,mm_chains_of,k34⟩)⟩) k34 (F34.binds (by bv_omega));have m_gap:=cM (m:="gap") (Cs:=JaL ∅) (JfI F35 T m_check_faces m_chains_of BaC) (fun C hC=>⟨(T.book C hC).cls,(by cases hC;exact ⟨me_gap_Book,mm_gap,k35⟩)⟩) k35 (F35.binds (by bv_omega));have m_farthest:=cM (m:="farthest") (Cs:=JaL ∅) (Jda F36 T m_kept m_faces Ba5 BaU Bag BaG) (fun C hC=>⟨(T.book C hC).cls,(by cases hC;exact ⟨me_farthest_Book,mm_farthest,k36⟩)⟩) k36 (F36.binds (by bv_omega));have K37:=JeB (P:=l.prog) (w:=w) (base:=base) F37 T m_check_faces m_farthest Bbk;have m_shown:=cM (m:="shown") (Cs:=JaL ∅) (JeB F37 T m_check_faces m_farthest Bbk) (fun C hC=>⟨(T.book C hC).cls,(by cases hC;exact ⟨me_shown_Book,mm_shown,k37⟩)⟩) k37 b37;have m_shownd1:MCalD l.prog w K mg base 8 "shown" (JaL ∅) ["self","one","other","most"] [.bl true] (Jby K ∅):=⟨f37,_,[.bool true],K37,fun C hC=>⟨(T.book C hC).cls,(by cases hC;exact ⟨me_shown_Book,mm_shown,k37⟩)⟩,k37,F37.bindsD (ps:=["self","one","other","most"]) t37 rfl [.bool true] fun _ _ _ _ _ _ us hl=>match us,hl with | [_,_,_],_=>⟨_,rfl,rfl⟩ | [],hl=>absurd hl (by simp) | [_],hl=>absurd hl (by simp) | [_,_],hl=>absurd hl (by simp) | _::_::_::_::r,hl=>absurd hl (by simp), .cons rfl .nil⟩;have m_narrowed:=cM (m:="narrowed") (Cs:=JaL ∅) (Jdb F38 T m_faces m_chains_of m_kept BaC) (fun C hC=>⟨(T.book C hC).cls,(by cases hC;exact ⟨me_narrowed_Book,mm_narrowed,k38⟩)⟩) k38 (F38.binds (by bv_omega));have Bbm:=cC (JdU F39 T) a39 k39 (F39.binds (by bv_omega));have Bad:=cC (JdS F40 T) a40 k40 (F40.binds (by bv_omega));have BaM:=cC (JeE F41 T Bbm) a41 k41 (F41.binds (by bv_omega));have Bat:=cC (JfN F42 T BaM) a42 k42 (F42.binds (by bv_omega));have Bal:=cC (Jfd F43 T Bat) a43 k43 (F43.binds (by bv_omega));have Bak:=cC (JfM F44 T) a44 k44 (F44.binds (by bv_omega));have Bbw:=cC (JeF F45 T Bad BaM) a45 k45 (F45.binds (by bv_omega));have Baw:=cC (Jfb F46 T) a46 k46 (F46.binds (by bv_omega));have BbL:=cC (JgC F47 T Bal Bat Baw) a47 k47 (F47.binds (by bv_omega));have Bba:=cC (Jfc F48 T Baw Bal Bak) a48 k48 (F48.binds (by bv_omega));have BbD:=cC (Jfe F49 T Bat) a49 k49 (F49.binds (by bv_omega));have Bbf:=cC (JdB F50 T Bak) a50 k50 (F50.binds (by bv_omega));have Ba0:=cC (JdT F51 T m_shown Bal Bak) a51 k51 (F51.binds (by bv_omega));exact JjT F52 T Bad Bbw BbL k_Book m_narrowed Bbf m_gap Bba Ba0 BbD m_ties
theorem walk {l:PySem.W.OpenLaw} {q:Program} {loose:List Str} {XP:(Str->Option Value)->Heap->Prop} {YP:World->Heap->Prop} {d:DefRec} {K:Params->PySem.W.Frag} (hn:l.most=some 63) (hdf:d.params.defaults=[])
  (hY:∀ (w:World) (h:Heap),YP w h->(K w.params).In h)
  (F:∀ (w:World) (mg:Str->Option Value) (fa:Addr) (h:Heap),(K w.params).In h->h.Ns mainGlobals mg->mg d.name=some (.ref fa) ->
   ∃ fd:FuncData,(∀ (s:Shared) (u:Value),BindsTo s fd ⟨[u],[]⟩ [("_law_script",u)])/\∀ base:Heap,(K w.params).In base->base.Ns mainGlobals mg->FnOk l.prog w (K w.params) mg base (CX1 l.prog w) 10 fa fd ["_law_script"] (BbZ (K w.params))) :
  PySem.W.WalkO q loose XP YP l.row.toRowW d [] (fun f vs=>PySem.call f vs) :=
 L2.JhQ (n:=63) (k:=10) (x:="_law_script") (CX:=fun w=>CX1 l.prog w) (sp:=fun w=>BbZ (K w.params)) hn (by decide) hdf ⟨rfl,by decide,by decide⟩ hY F (fun _ _ a ns hl _ hS=>⟨a,ns,rfl,hS,hl,fun _=>rfl⟩) fun _ _ _ _ _ z=>by
  obtain ⟨_,_,_,_,_,_,_,_,_,_,_,z⟩:=z;exact z
end Prg
open PySem PySem.W PyProof.Rows
local macro_rules|`(command|universe $xs*)=>do return Lean.mkNullNode (<-xs.mapM fun x=>`(command|def $(Lean.mkIdent (.str `PySem.W.Fast s!"tw{(x.getId.toString.drop 1)}")):ident:Nat:=0))
universe u10001425914896559826 u10002265486009230385 u10040166980997931080 u10068835951585367192 u10138354834664259489 u10143814449495010518 u10166988317396964678 u10200829308907471697 u1022552243922632930 u10254556032442547526 u10258284975498108164 u10267913363281557827 u10295548781139158348 u10320727734119116536 u10344918712588580873 u10364032959745436860 u10401675422854224447 u10433783083203319421 u10446803419611285974 u10448359473602190422 u10452947374124469166 u10473653970461745092 u10487763882122474751 u10505731646621372360 u10517703205185147957 u10521544926637911546 u1054993398884092425 u10561200371617375264 u10570890127730369512 u106118583529453331 u10675308784254813167 u10728556710118835531 u10733403609145454602 u10737909127275203213 u10775986540727000393 u10806508701549264518 u10875183371696642168 u10875494573511778590 u10952505931266508729 u10957093387298113847 u10995693437440692494 u11001620652699392583 u11019955500809602545 u11044241243121335404 u1106349944607669526 u11070425402735890021 u11095437799518677357 u11131279767282815932 u11170259827582551079 u11174903850360263621 u11202236466566666417 u11346733348884483044 u11379528482764775916 u11398395138007152405 u11413074214598705839 u11432637015597021363 u11435587314259698817 u11473194814717787238 u11496719801789577465 u11515713353002073871 u11527915933943411442 u1152841962615964252 u11551284357751465365 u11554333070751447419 u11555687582043266416 u11556262971147633842 u11596450667275331142 u11638004044334550973 u11676257195769112663 u11701156560660676139 u11730985876860430228 u1173246211325725633 u11741370889310040065 u11837953023177186251 u11898253960870518497 u11929463095436118659 u11937226021359175341 u11970091092223081367 u11971635849811748594 u11975083901170245610 u11989833010662042185 u12008187916543861480 u12029729600509996487 u12042719039027437778 u12050867900796611635 u12056438225450792981 u12073981731017809904 u12094950786142316528 u12096565653577282803 u12098525182344203751 u12135821887294531120 u1218253707980580665 u12216887333365765237 u12224484040261343811 u12250163539200418079 u12299142856975060913 u12460603833229650106 u1251751369882841926 u12547897815342910691 u125534064294928112 u1260554188499850775 u12641934651124434652 u12724343228671653866 u1273106366687541233 u12747507644924067409 u12801006660925033164 u12811379837853189734 u1281449611656319554 u12821591137067605872 u12853914338243045312 u12902969624493149901 u12907918034193766000 u12935006414384097915 u1293601315002203036 u12941984862073696441 u12945157834646248720 u12953328360688645550 u12955198300372385559 u1296163906983731537 u1297027632799767833 u12996418735938318316 u13027741996415679259 u13041949572793018550 u13046710219162551683 u13058014705389369692 u1306976005901952628 u1308328439563886862 u13120223425489746830 u13129332127885162036 u13213465819036959572 u13225726456828578353 u13238081358900646494 u13400482809816678172 u13401525149567309652 u13405926779935865390 u134082655485033299 u13417644756796825422 u13431218999288061696 u13433681759001359155 u13447656769936654199 u13468998617984884971 u1347032841463419579 u13518114051527855489 u1354709097150777873 u1363358359939385398 u1367930328296695169 u13684843873880748352 u13696594638500354170 u13703405667105531664 u13732962777197182131 u13760347381683341392 u13764023046964259989 u13781309814433789584 u13829572604713694260 u13842948962435535869 u13849750925863786556 u13869752781038682712 u13936764933264862741 u1396126532369132580 u13975125306816477101 u14067707243949296004 u14071603138406752891 u1412420176656214464 u14135752380974234042 u1415652662424279121 u14165615758963692119 u14205590650755271401 u14219891176313845823 u14235190458525254954 u14251300235684003949 u14338872021053390295 u14341870019224489789 u14348524720885988349 u14352801397263440035 u14360928035212578543 u14383692451518443167 u14415591552559329089 u14418913719887562298 u14481783610051691174 u14520645610563899595 u14560299292791431595 u14568038847557692920 u14604571765752608046 u14619764921350008815 u14675856492487427733 u14741438006369876346 u14759383950264851337 u14780662827931489112 u14810267681163445705 u14840852320751363498 u14936709923510591280 u14945135465670737885 u14969806112112908467 u15063355837979192092 u1506681935492278707 u15078508598266645663 u15158002088349956341 u15174962652542941976 u15186220482859862371 u15320816420515093293 u15332441210366134898 u15346430589660827880 u15347878462475378012 u1539418042172780869 u15407888500780420452 u15418929304933875153 u15437592002723627423 u15494450080210994086 u15530691331284308472 u15560580401240496536 u15600486882884916999 u15607348836431267483 u15627786484374965253 u15662561099957444400 u15663762930658707666 u15674128879710328715 u15708686543875830011 u15785301831708657192 u15806514288002283764 u15844764500733325547 u15851790483597519009 u15857000336769366113 u15863409596779231099 u15909607129817107812 u15939191929291814892 u15943208662961180081 u15951279322751201650 u15951711438717152354 u15981545261943257196 u15982919351324017587 u1598740349772492559 u16009045210941070647 u16021724082492110567 u16062618095627133042 u16069293121697103912 u16156016494233717625 u16166226603528485693 u16194614635735450398 u16226904856681440864 u16237205505742106009 u16276283574795283011 u16311613569077963270 u16323371995641915550 u16326841118477715455 u16356028333430028663 u16381508914615299354 u16414361153438008533 u16424207142732931275 u16476379212444139927 u16477743841955539177 u16480607794728526680 u16487421468297675309 u16499608283107383720 u1650027415217113870 u16506457910053148489 u16515614934345612397 u16518452232774657722 u16521469676200326044 u16544293272656539753 u16596176037410180811 u16633984232280580061 u16639332590396272335 u16639570368711433991 u16640536684098443204 u16663810317743532418 u16691162376528983996 u16692240215148400160 u16748695370872451711 u16756346940210862729 u16772980360779338453 u16777847307402980358 u16782255562144409126 u16799309065745414397 u16816920050058922784 u16836892586016161888 u16850495404850859716 u16879792183603816537 u16883610669800964891 u16888804224888749725 u16928073964759520300 u16963920218178638863 u17057675919106472481 u17062315000288570326 u17071351967614228624 u17111171755428408310 u17116877363280713233 u17157516516564918412 u17174908239566430295 u17202540359533568058 u1722090164511780511 u17292698129909254288 u17301478980294948879 u17317342102066377855 u17341894861760533050 u17379622489494942528 u17402915031398880085 u17418015799836112141 u17424429289003611460 u17518917765904625117 u17523929726334694706 u17552943054732921323 u17593369179782285658 u17636598498841901714 u17653368578694252298 u17656708159820844532 u17683955551798385696 u17684032986748179983 u17788810849979804878 u17834868809276422580 u1787030143055333200 u17919562409722969960 u17937341520372020303 u17956131918201476243 u17969746040622833412 u18010824832158188705 u18018746260462162189 u18028034501750652572 u18109040652138617097 u18181840572315751401 u1824750681925822766 u18261814125520629910 u18288596450101837000 u18352030562115574987 u18364201827734107320 u18419185382123839818 u18433472389686367186 u1860128689034490626 u1907623519093275029 u1937002488586600429 u1959159426101960022 u1960996184446881568 u1968311819303877638 u2020336963214318823 u2021551280260783163 u2030880456897477296 u206773760643300777 u212114552832648450 u2194710649397124796 u2210721023554757044 u2215023141437866606 u2270200467804802948 u2304017624090421257 u2310250126812561689 u2319170781126890726 u2322403707664931547 u2333835433684793800 u2339808129611649264 u2339938340149987545 u2363997611815603247 u2368255488122273374 u2392443902854269334 u2414811702943222554 u2436112097286379107 u2450015946131076356 u2452767622123784790 u2538659441209043110 u2553782694855072549 u2560253262477764808 u2582132117014434378 u2585232030387472986 u2593807400251925653 u2603550471767988479 u2608794929198906632 u2609489797119189515 u2626035133019352279 u2637205243267893825 u2665485270541629647 u2688130152241063858 u2688145564627925507 u2701715286239562202 u2736639921004196323 u2753904658215219590 u2818388286043392719 u2818632958980869904 u2835811482807414272 u2836958277939122671 u2902095912269346399 u2939620805883643519 u2959334592176352849 u2962475065625593176 u3054047193981348651 u3060363560004968820 u3082841317807787144 u3107303477687621519 u313028580747398665 u3161554509803278756 u320082541465719551 u3203157881852190381 u3224350013296323143 u3235612834353313548 u3259842652903959595 u3262582557386322525 u331689191225107247 u3337386973301125267 u333879966840223033 u3360646285974694632 u3369853967275694827 u3382595479702243909 u3423661657442111997 u3425176685745739433 u3454016661483850718 u3484111127602867801 u3550944004116444867 u3576087614375152511 u3598157305672070624 u3598502887830002170 u3622970090630016086 u3623508549099614051 u3638126256761990738 u3705620805838016982 u3725910361829133085 u3743143603283523933 u3760299619158987004 u3771885555582365803 u3782072960566157020 u3799549435041412038 u3806897541051117048 u3959348523935785539 u4016671788828962399 u4019909466924542589 u4022484752760511186 u4024758614596023560 u4082657905337852920 u4108904112037542763 u412206998409206417 u4164452666373709214 u4175185746620868394 u4198541962787173161 u4249102757965224470 u4269530322172878191 u4298562452358585512 u4328843758309724667 u4340121788228128259 u4342297647670054048 u43425233326045495 u4355647722785782909 u4357760848734273475 u4368525823766302621 u4383516255044975456 u4390973905315306135 u443395550629356746 u4465830562027149569 u4498630530264929900 u450023408886214153 u4507583583098428709 u4579385699586712775 u4609747023311121207 u4628946075122555126 u4636719479797320053 u4706496799993386978 u4707542427267155641 u4729960824759160308 u4743249286425421133 u4745597655394087882 u4770037068968743195 u4773721869773762363 u4782321393738233787 u4819956599061118353 u483878532033180878 u4848538720538281825 u4937168716153323848 u4968405935626226878 u4981877650929440087 u504159520811025170 u508043009948599869 u5087637280958947460 u5160910709496515822 u518697450746437896 u5188916778383595915 u5190311778799147626 u5219807545814143661 u5248546120414800422 u5292763564176947187 u5298691712280120901 u5313003579860531013 u5322685322696418965 u5367976647324960817 u5419996929622912153 u5481500575820846119 u5494747134358680380 u5502839483680277206 u5562448953825761325 u5582894568084972465 u5623294782776989296 u5652109632937306212 u5657855833242174076 u5663808053196486925 u56939901719346926 u5727132709388029923 u5732451995199390754 u5751223970326677079 u5753639470785782261 u5781075645805662783 u5793696766975092064 u5809049339894167830 u5809744395164085265 u5844117441573029721 u5875831196482862999 u5882025022811101888 u5932155880728962917 u5947315516940543048 u5951461686434950269 u6046656211013938489 u6075891060791386881 u608393621355090842 u6115177259654373607 u6136927451997607080 u6167558777551068701 u6266940664290215376 u6326505085866707986 u6331796300963451073 u6346522450269919964 u6352508743042469424 u6361495516541157853 u642008692656027232 u6431389740491009371 u6446485326918692458 u6509192783892001317 u6562333085545768077 u6583118364844349334 u6584770592213709317 u6613759411320441470 u6652721079393516284 u6703680473091398517 u6746781646031335201 u6780395358879559525 u6781247693584762620 u6814281545196095313 u6818754164937748493 u6824990881360484160 u6834371298911929146 u6926675942974167356 u6944403308285532497 u695283222643047067 u695296295637620178 u6953212059290653679 u69550165144719053 u7005985057845182861 u702703195611969625 u7067267217534011383 u7111268444954156145 u7143237276589357843 u7153519888838080622 u7190247112160843419 u7200762984772986274 u7220175925955663611 u7261655241240651854 u7284201660135106037 u728532633253635263 u7335103014124447579 u738091122753674294 u7400923408537672 u7401435068100173020 u7405182691084540010 u74216078294848445 u7423859870740716137 u7429575354213659334 u7443468170318624664 u7453062333558763042 u746739262379294979 u7474553357551972440 u7519200200593449436 u7544359400714106726 u7559098370746398427 u7565099134206778836 u7568088930118148450 u7784500732230140492 u7787035887186396437 u7811554486483552724 u7826294811500248886 u7848079277845706187 u7862227362950179482 u7866063453617065692 u7891484199334912229 u7893149020981347153 u8005729607383266894 u8010081954331164906 u8018395339519977657 u8032106562982716998 u8095014587184142062 u8108360822069845765 u8130482392529976146 u8152097008414335503 u815565758323946509 u8160454997262270404 u8162370839662031336 u8202094560220559328 u8226297911164346056 u8264735892503061747 u8270434381174337605 u8303456624964923023 u8319427949474209658 u8343895136842638868 u8382165207506863373 u8395224841115706029 u840855026448443310 u8416992463631615525 u8537333549536819912 u8554505618995987162 u8634737181811752856 u8635242775566056876 u8675057962625960055 u868528845433976448 u8701491958602556362 u8757725046402373058 u8789649457857856456 u8795499129794532590 u8797505222826544255 u8804022748407171422 u8817115336748714657 u8821907668083018074 u8822712125289142658 u8845333127459207839 u8880543855662035205 u8894407658392629922 u8927081362353498683 u8945159640881959203 u9009664541719330762 u901111643231521719 u9040756720932493969 u9065273273099432260 u908723806027712942 u9106106311717821113 u9116304007758886706 u9145872741400365453 u9150508129237313296 u9172833157105346581 u9206162238834440001 u921668715995182499 u9230385726056154650 u9242917034840178426 u9267601069616352072 u9285527257625444367 u9332766560910420560 u9359175850955940158 u9367219981933777501 u9394952579557976002 u9406561697709161071 u9414953386536109263 u9420495252046709492 u9442199760048493092 u950717124226141532 u9517891568939103560 u9553165278878766435 u9565783990792238911 u9575856915846114119 u9613591865945134219 u9632584547685663462 u965544063525721087 u9662311233376987460 u9678881465387425136 u9738024276651261567 u9742486180139256830 u9757775113337727040 u9770837171246144236 u9808195197182215941 u9821071877009147298 u9839525812185345593 u9874733198660012094 u9875893190622953053 u9876649539196994950 u9886022483518544839 u9896336732295889039 u99051352034374103 u991871201620839894 u9944497480935088216 u9965878486813265702
set_option maxRecDepth 100000 in
set_option maxHeartbeats 0 in
theorem PySem.Challenge.cw_slackchain_k34_narrowed_ties_holds : PySem.Challenge.rw_slackchain_k34_narrowed_ties.Holds := by
 w_on;o_law;k_head;(case hw=>w_witness2)
 k_fill
 refine Prg.walk (l:=PySem.Challenge.rw_slackchain_k34_narrowed_ties) rfl rfl (fun w h Y=>PySem.W.kIn_of Y) ?F;case F=>
  intro w mg fa h KX G hmg;refine' Prg.all_mk KX G hmg ?g_NoTie ?g_Tie ?g_Free ?g_AtLeast ?g_AtMost ?g_Just ?g_Between ?BbU ?g_Step ?g_Book ?a1 ?l1 ?c1 ?k1 ?a2 ?l2 ?c2 ?k2 ?a3 ?l3 ?c3 ?k3 ?a4 ?l4 ?c4 ?k4 ?a5 ?l5 ?c5 ?k5 ?a6 ?l6 ?c6 ?k6 ?a7 ?l7 ?c7 ?k7 ?a8 ?l8 ?c8 ?k8 ?a9 ?l9 ?c9 ?k9 ?a10 ?l10 ?c10 ?k10 ?a11 ?l11 ?c11 ?k11 ?a12 ?l12 ?c12 ?k12 ?a13 ?l13 ?c13 ?k13 ?a14 ?l14 ?c14 ?k14 ?a15 ?l15 ?c15 ?k15 ?a16 ?l16 ?c16 ?k16 ?a17 ?l17 ?c17 ?k17 ?a18 ?l18 ?c18 ?k18 ?a19 ?l19 ?c19 ?k19 ?a20 ?l20 ?c20 ?k20 ?a21 ?l21 ?c21 ?k21 ?a22 ?l22 ?c22 ?k22 ?a23 ?l23 ?c23 ?k23 ?a24 ?l24 ?c24 ?k24 ?a25 ?l25 ?c25 ?k25 ?a26 ?l26 ?c26 ?k26 ?a27 ?l27 ?c27 ?k27 ?a28 ?l28 ?c28 ?k28 ?a29 ?l29 ?c29 ?k29 ?a30 ?l30 ?c30 ?k30 ?a31 ?l31 ?c31 ?k31 ?a32 ?l32 ?c32 ?k32 ?a33 ?l33 ?c33 ?k33 ?a34 ?l34 ?c34 ?k34 ?a35 ?l35 ?c35 ?k35 ?a36 ?l36 ?c36 ?k36 ?a37 ?l37 ?c37 ?k37 ?t37 ?a38 ?l38 ?c38 ?k38 ?a39 ?l39 ?c39 ?k39 ?a40 ?l40 ?c40 ?k40 ?a41 ?l41 ?c41 ?k41 ?a42 ?l42 ?c42 ?k42 ?a43 ?l43 ?c43 ?k43 ?a44 ?l44 ?c44 ?k44 ?a45 ?l45 ?c45 ?k45 ?a46 ?l46 ?c46 ?k46 ?a47 ?l47 ?c47 ?k47 ?a48 ?l48 ?c48 ?k48 ?a49 ?l49 ?c49 ?k49 ?a50 ?l50 ?c50 ?k50 ?a51 ?l51 ?c51 ?k51 ?a52 ?l52 ?c52 ?k52 ?z_abs ?z_isinstance ?z_len ?z_all ?z_int ?z_bool ?z_tuple ?z_str ?z_range ?z_list ?z_reversed ?z_sorted ?z_set ?z_max ?z_dict ?Bbb ?Bbg ?Bb9 ?h_ZERO ?x_NoTie ?mk_Free ?mi_Free ?mf_Free ?mp_Free ?me_steps_Free ?me_plain_Free ?mk_AtLeast ?mi_AtLeast ?mf_AtLeast ?mp_AtLeast ?me_steps_AtLeast ?me_plain_AtLeast ?mk_AtMost ?mi_AtMost ?mf_AtMost ?mp_AtMost ?me_steps_AtMost ?me_plain_AtMost ?mk_Just ?mi_Just ?mf_Just ?mp_Just ?me_steps_Just ?me_plain_Just ?mk_Between ?mi_Between ?mf_Between ?mp_Between ?me_steps_Between ?me_plain_Between ?mm_steps ?Bbn ?BbV ?BbW ?BbX ?BbY ?mk_Step ?mi_Step ?mf_Step ?mp_Step ?Bbc ?Bbd ?mk_Book ?mi_Book ?mf_Book ?mp_Book ?me_kept_Book ?mm_kept ?me_ties_Book ?mm_ties ?me_faces_Book ?mm_faces ?me_check_faces_Book ?mm_check_faces ?me_chains_of_Book ?mm_chains_of ?me_gap_Book ?mm_gap ?me_farthest_Book ?mm_farthest ?me_shown_Book ?mm_shown ?me_narrowed_Book ?mm_narrowed ?cl1_Free ?cl2_Free ?cl3_Free ?cl4_Free ?na1_Free ?na2_Free ?na3_Free ?na4_Free ?na5_Free ?cl1_AtLeast ?cl2_AtLeast ?cl3_AtLeast ?cl4_AtLeast ?na1_AtLeast ?na2_AtLeast ?na3_AtLeast ?na4_AtLeast ?na5_AtLeast ?cl1_AtMost ?cl2_AtMost ?cl3_AtMost ?cl4_AtMost ?na1_AtMost ?na2_AtMost ?na3_AtMost ?na4_AtMost ?na5_AtMost ?cl1_Just ?cl2_Just ?cl3_Just ?cl4_Just ?na1_Just ?na2_Just ?na3_Just ?na4_Just ?na5_Just ?cl1_Between ?cl2_Between ?cl3_Between ?cl4_Between ?na1_Between ?na2_Between ?na3_Between ?na4_Between ?na5_Between ?Bbo ?Bbp ?Bbq ?Bbr ?Bbs ?Bbt ?cl1_Step ?cl2_Step ?cl3_Step ?cl4_Step ?na1_Step ?na2_Step ?na3_Step ?na4_Step ?na5_Step ?bk1 ?bk2 ?bk3 ?bk4 ?bkn;case g_NoTie|g_Tie|g_Free|g_AtLeast|g_AtMost|g_Just|g_Between|BbU|g_Step|g_Book|a1|l1|c1|k1|a2|l2|c2|k2|a3|l3|c3|k3|a4|l4|c4|k4|a5|l5|c5|k5|a6|l6|c6|k6|a7|l7|c7|k7|a8|l8|c8|k8|a9|l9|c9|k9|a10|l10|c10|k10|a11|l11|c11|k11|a12|l12|c12|k12|a13|l13|c13|k13|a14|l14|c14|k14|a15|l15|c15|k15|a16|l16|c16|k16|a17|l17|c17|k17|a18|l18|c18|k18|a19|l19|c19|k19|a20|l20|c20|k20|a21|l21|c21|k21|a22|l22|c22|k22|a23|l23|c23|k23|a24|l24|c24|k24|a25|l25|c25|k25|a26|l26|c26|k26|a27|l27|c27|k27|a28|l28|c28|k28|a29|l29|c29|k29|a30|l30|c30|k30|a31|l31|c31|k31|a32|l32|c32|k32|a33|l33|c33|k33|a34|l34|c34|k34|a35|l35|c35|k35|a36|l36|c36|k36|a37|l37|c37|k37|t37|a38|l38|c38|k38|a39|l39|c39|k39|a40|l40|c40|k40|a41|l41|c41|k41|a42|l42|c42|k42|a43|l43|c43|k43|a44|l44|c44|k44|a45|l45|c45|k45|a46|l46|c46|k46|a47|l47|c47|k47|a48|l48|c48|k48|a49|l49|c49|k49|a50|l50|c50|k50|a51|l51|c51|k51|a52|l52|c52|k52|z_abs|z_isinstance|z_len|z_all|z_int|z_bool|z_tuple|z_str|z_range|z_list|z_reversed|z_sorted|z_set|z_max|z_dict|Bbb|Bbg|Bb9|h_ZERO=>k_is
  (case x_NoTie=>k_exc)
  case mk_Free|mi_Free|mf_Free|mp_Free|me_steps_Free|me_plain_Free|mk_AtLeast|mi_AtLeast|mf_AtLeast|mp_AtLeast|me_steps_AtLeast|me_plain_AtLeast|mk_AtMost|mi_AtMost|mf_AtMost|mp_AtMost|me_steps_AtMost|me_plain_AtMost|mk_Just|mi_Just|mf_Just|mp_Just|me_steps_Just|me_plain_Just|mk_Between|mi_Between|mf_Between|mp_Between|me_steps_Between|me_plain_Between|mm_steps|Bbn|BbV|BbW|BbX|BbY|mk_Step|mi_Step|mf_Step|mp_Step|Bbc|Bbd|mk_Book|mi_Book|mf_Book|mp_Book|me_kept_Book|mm_kept|me_ties_Book|mm_ties|me_faces_Book|mm_faces|me_check_faces_Book|mm_check_faces|me_chains_of_Book|mm_chains_of|me_gap_Book|mm_gap|me_farthest_Book|mm_farthest|me_shown_Book|mm_shown|me_narrowed_Book|mm_narrowed|cl1_Free|cl2_Free|cl3_Free|cl4_Free|na1_Free|na2_Free|na3_Free|na4_Free|na5_Free|cl1_AtLeast|cl2_AtLeast|cl3_AtLeast|cl4_AtLeast|na1_AtLeast|na2_AtLeast|na3_AtLeast|na4_AtLeast|na5_AtLeast|cl1_AtMost|cl2_AtMost|cl3_AtMost|cl4_AtMost|na1_AtMost|na2_AtMost|na3_AtMost|na4_AtMost|na5_AtMost|cl1_Just|cl2_Just|cl3_Just|cl4_Just|na1_Just|na2_Just|na3_Just|na4_Just|na5_Just|cl1_Between|cl2_Between|cl3_Between|cl4_Between|na1_Between|na2_Between|na3_Between|na4_Between|na5_Between|Bbo|Bbp|Bbq|Bbr|Bbs|Bbt|cl1_Step|cl2_Step|cl3_Step|cl4_Step|na1_Step|na2_Step|na3_Step|na4_Step|na5_Step|bk1|bk2|bk3|bk4|bkn=>k_is
