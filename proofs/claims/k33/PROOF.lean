import PyProof.Rows.All
import Wide.All
import OpenK.AllK
import Wide.FinOn
import Lean
import PyProof.EqAt
import PyProof.EqKinds
import PyProof.TupleCall
import PyProof.ZipIter
import PyProof.Rows.SetFrom
import PyProof.Rows.SortStr
import KE.KDictList
import PyProof.AttrMissHeap
import KE.KDictOf
import KE.KDictLaws
import KE.KRevIter
import PyProof.CollectIter
import PyProof.FactsAll.range_2
import PyProof.FactsAll.range_iterator_1
import PyProof.WalksEnum
import PyProof.EnumMake
import PyProof.Rows.Range3
import PySem.Challenge.RW_slackchain_k33_whole_gaps_shown
set_option Elab.async false
set_option linter.all false
set_option maxRecDepth 100000
open List (mem_cons_self mem_cons_of_mem mem_cons mem_append mem_append_right length_cons map_cons length_map append_nil nodup_cons length_take length_append size_toArray any_cons length_singleton map_nil length_nil not_mem_nil mem_singleton all_eq_true mem_map foldl_cons take_succ map_append foldl_append nodup_append map_map take_of_length_le cons_append nil_append take_zero)
local macro_rules|`(tactic|ac_nf)=>`(tactic|first|lia|omega)
local macro_rules|`(⋯)=>`(by decide)
local macro_rules|`(∅)=>`(by ac_nf)
local macro_rules|`(tactic|subst_eqs)=>`(tactic|(intro _ _ _ _ h;(repeat obtain ⟨_,h⟩:=h);subst_vars;rfl))
namespace L2
open PySem PySem.Spec PyProof.Rows
abbrev Key:=Sum Bool Str
def isBoolOf:Bool->Value->Bool
 | b, .bool c=>b == c
 | _,_=>false
theorem Jeb {b:Bool} {v:Value} (h:isBoolOf b v=true):v=.bool b:=by
 cases v <;> simp_all [isBoolOf]
def keyIs:Key->Value->Bool
 | .inl k,v=>isBoolOf k v
 | .inr x,v=>Value.isStrOf x v
def keyH (w:World):Key->Int
 | .inl k=>hashInt (if k then 1 else 0)
 | .inr x=>hashStr w x
theorem JaL:∀ {k:Key} {v:Value},keyIs k v=true->(∃ i,k=Sum.inl i/\v=Value.bool i)\/(∃ x t,k=Sum.inr x/\v=Value.str x t)
 | .inl i,v,h=>.inl ⟨i,rfl,Jeb h⟩
 | .inr x,v,h=>by
  obtain ⟨t,e⟩:=Value.isStrOf_shape (x:=x) (v:=v) h;exact .inr ⟨x,t,rfl,e⟩
theorem Jha (i:Bool):keyIs (.inl i) (.bool i)=true:=by simp [keyIs,isBoolOf]
theorem Jh1 (x:Str) (t:Tok):keyIs (.inr x) (.str x t)=true:=by simp [keyIs,Value.isStrOf]
theorem JkQ (a b:Bool):decide ((Sum.inl a:Key)=Sum.inl b)=(a == b):=by cases a <;> cases b <;> rfl
theorem JkT (a b:Str):decide ((Sum.inr a:Key)=Sum.inr b)=decide (a=b):=by
 by_cases e:a=b
 ·subst e;simp
 ·have h:¬ (Sum.inr a:Key)=Sum.inr b:=fun q=>e (Sum.inr.inj q);rw [decide_eq_false h,decide_eq_false e]
theorem JkR (a:Bool) (b:Str):decide ((Sum.inl a:Key)=Sum.inr b)=false:=decide_eq_false (fun q=>nomatch q)
theorem JkS (a:Str) (b:Bool):decide ((Sum.inr a:Key)=Sum.inl b)=false:=decide_eq_false (fun q=>nomatch q)
theorem Jgl {prog:Program} {w:World} {A:Around} {E:Value->Shared->Prop} {s:Shared} {b:Bool} {Q:Int->Shared->Prop} (h:Q (hashInt (if b then 1 else 0)) { s with toks:=s.toks+1 }) :
  wpAny (model prog w) A (pyHash (.bool b)) Q E s:=by
 have c:=rawHash_range (if b then 1 else 0);have a:s.TypeIs (.bool b) "bool":=rfl;unfold pyHash;have d:[Value.bool b].any Value.onHeap=false:=rfl;refine wpAny_bind ?_;rw [cRoomFor,if_neg (by rw [d];exact Bool.false_ne_true)];refine wpAny_pure ?_;refine wpAny_bind (wpAny_specialOf a F.slot_bool_hash.lookup ?_);show wpAny _ _ (if (some (Value.builtin "int.__hash__") == some Value.none)=true then _ else _) Q E s;rw [if_neg (by rw [beq_builtin_none];exact Bool.false_ne_true)];refine wpAny_bind (wpAny_specialOf a F.slot_bool_hash.lookup ?_);show wpAny _ _ (callSpecialIfBoundUnlessNone? (.bool b) "__hash__" _ >>= _) Q E s;refine wpAny_bind (wpAny_callSpecialIfBoundUnlessNone?_slot a F.slot_bool_hash
  (wpAny_call_entry F.slot_bool_hash a entry_int_hash
   (show wpAny _ _ (do ret (<- mkInt (rawHash (if b then 1 else 0)))) _ _ s from wpAny_ret_mkInt ?_) (args_int_hash _)))
 show wpAny _ _ (if (decide (-(2:Int) ^ 63<=rawHash (if b then 1 else 0))&&decide (rawHash (if b then 1 else 0)<2 ^ 63))=true then _ else _) Q E _;rw [if_pos (by rw [decide_eq_true c.1,decide_eq_true c.2];rfl)];exact wpAny_pure h
def JaA (prog:Program) (w:World):PySem.KeyKind prog w Key where
 is:=keyIs
 hash:=keyH w
 inj:=fun v a b ha hb=>by
  rcases JaL ha with ⟨i,rfl,rfl⟩ | ⟨x,t,rfl,rfl⟩
  ·rcases JaL hb with ⟨j,rfl,e⟩ | ⟨y,u,rfl,e⟩
   ·injection e with e1;rw [e1]
   ·exact nomatch e
  ·rcases JaL hb with ⟨j,rfl,e⟩ | ⟨y,u,rfl,e⟩
   ·exact nomatch e
   ·injection e with e1 _;rw [e1]
 byValue:=fun k v h=>by
  rcases JaL h with ⟨i,rfl,rfl⟩ | ⟨x,t,rfl,rfl⟩ <;> rfl
 pyHash:=fun hv h=>by
  rcases JaL hv with ⟨i,rfl,rfl⟩ | ⟨x,t,rfl,rfl⟩
  ·exact Jgl h
  ·exact wpAny_pyHash_str h
 eqBool:=fun hu hv h=>by
  rcases JaL hu with ⟨i,rfl,rfl⟩ | ⟨x,t,rfl,rfl⟩
  ·rcases JaL hv with ⟨j,rfl,rfl⟩ | ⟨y,u,rfl,rfl⟩
   ·rw [JkQ] at h;exact SeqAt.EqAt.bool_bool i j _ _ _ _ h
   ·rw [JkR] at h;exact SeqAt.EqAt.bool_str i y u _ _ _ _ h
  ·rcases JaL hv with ⟨j,rfl,rfl⟩ | ⟨y,u,rfl,rfl⟩
   ·rw [JkS] at h;exact SeqAt.EqAt.str_bool x t j _ _ _ _ h
   ·rw [JkT] at h;exact wpAny_eqBool_str h
 «strs»:=fun k x t v h=>by
  rcases JaL h with ⟨i,rfl,e⟩ | ⟨y,u,rfl,e⟩
  ·exact nomatch e
  ·injection e with e1 _
   subst e1;cases v <;> rfl
theorem Jfn (prog:Program) (w:World) (i:Bool):(JaA prog w).is (.inl i) (.bool i)=true:=Jha i
theorem Jf8 (prog:Program) (w:World) (x:Str) (t:Tok):(JaA prog w).is (.inr x) (.str x t)=true:=Jh1 x t
inductive V where
 | non | bl (b:Bool) | int (i:Int) | str (x:Str) | byt (b:Array UInt8) | flt (b:UInt64) | ref (a:Addr) | ty (n:String)
 deriving DecidableEq
def RelV:V->Value->Prop
 | .non,u=>u=Value.none
 | .bl b,u=>u=Value.bool b
 | .int i,u=>∃ t,u=Value.int i t
 | .str x,u=>∃ t,u=Value.str x t
 | .byt b,u=>∃ t,u=Value.bytes b t
 | .flt b,u=>∃ t,u=Value.float b t
 | .ref a,u=>u=Value.ref a
 | .ty n,u=>u=Value.type n
abbrev Vals:List V->List Value->Prop:=Paired RelV
theorem Vals.length {xs:List V} {us:List Value} (r:Vals xs us):xs.length=us.length:=Paired.length r
theorem Vals.get:∀ {xs:List V} {us:List Value} {i:Nat} {x:V},Vals xs us->xs[i]?=some x->∃ u,us[i]?=some u/\RelV x u
 | _,_,_,_, .nil,e=>by simp at e
 | _,_,0,_, .cons r _,e=>by simp at e;subst e;exact ⟨_,rfl,r⟩
 | _,_,i+1,x, .cons _ t,e=>by
  obtain ⟨u,h1,h2⟩:=Vals.get (i:=i) (x:=x) t (by simpa using e);exact ⟨u,by simpa using h1,h2⟩
theorem Vals.append:∀ {xs ys:List V} {us ws:List Value},Vals xs us->Vals ys ws->Vals (xs++ys) (us++ws)
 | _,_,_,_, .nil,s=>s
 | _,_,_,_, .cons r t,s=>.cons r (Vals.append t s)
theorem Vals.take:∀ {xs:List V} {us:List Value} (n:Nat),Vals xs us->Vals (xs.take n) (us.take n)
 | _,_,0,_=>.nil
 | _,_,_+1, .nil=>.nil
 | _,_,n+1, .cons r t=>.cons r (Vals.take n t)
theorem Vals.drop:∀ {xs:List V} {us:List Value} (n:Nat),Vals xs us->Vals (xs.drop n) (us.drop n)
 | _,_,0,r=>r
 | _,_,_+1, .nil=>.nil
 | _,_,n+1, .cons _ t=>Vals.drop n t
def RelO:Option V->Option Value->Prop
 | some v,some u=>RelV v u
 | none,none=>True
 | _,_=>False
def KV {κ : Type}:List (κ × V)->List (κ × Value)->Prop:=Paired fun (p : κ × V) (q : κ × Value)=>p.1=q.1/\RelV p.2 q.2
def kV:Key->V
 | .inl i=>.bl i
 | .inr x=>.str x
inductive HO where
 | lst (xs:List V)
 | tup (xs:List V)
 | dK (kvs:List (Key × V)) | dT (kvs:List (List Key × V))
 | set (S:Int->Bool) (n:Nat)
 | ins (C dx:Addr) (fs:List (Str × V))
 | own (x:Addr)
 | xd (fs:List (Str × V))
 | met (f x:Addr)
 | rng (lo hi:Int)
 | frz (o:Obj) (u:HO)
 | tbl (ps:Array Value)
 | ext (φ : Heap->Prop)
abbrev Hp:=Addr->Option HO
def upd (H:Hp) (a:Addr) (o:HO):Hp:=fun b=>if b=a then some o else H b
theorem Jau {H:Hp} {a:Addr} {o:HO}:upd H a o a=some o:=by unfold upd;rw [if_pos rfl]
theorem Jai {H:Hp} {a b:Addr} {o:HO} (h:b≠a):upd H a o b=H b:=by unfold upd;rw [if_neg h]
theorem ne_of {H:Hp} {a b:Addr} {o u:HO} (h:H a=some o) (h':H b=some u) (d:o≠u):a≠b:=by
 intro e;subst e;rw [h] at h';exact d (Option.some.inj h')
theorem Jag {H:Hp} {a b:Addr} {o:HO} (h:H a=some o) (h':H b=none):a≠b:=by
 intro e;subst e;rw [h] at h';cases h'
section
variable (P:Program) (w:World)
def ObjOk (H:Hp) (h:Heap) (a:Addr):HO->Prop
 | .lst xs=>xs.length<=sizeLine/\∃ (its:List Value) (n:Nat),Vals xs its/\h.get? a=some { cls:=.type "list",data:=.seq its.toArray n }
 | .tup xs=>xs.length<=sizeLine/\∃ its:List Value,Vals xs its/\IsTup h a its.toArray
 | .dK kvs=>kvs.length<=sizeLine/\(a == sysModules)=false/\∃ vs,KV kvs vs/\h.DictOf (JaA P w) a vs
 | .dT kvs=>kvs.length<=sizeLine/\(a == sysModules)=false/\∃ xs:List (List Key × Addr × Value),
   Paired (fun (p:List Key × V) (q:List Key × Addr × Value)=>p.1=q.1/\H q.2.1=some (.tup (p.1.map kV))/\RelV p.2 q.2.2) kvs xs /\
   ∃ o es ep,h.get? a=some o/\o.ExactDict/\o.data=.dict es ep/\es.toList=xs.map (entryOfKey (tupleKind (JaA P w)))/\(xs.map (·.1)).Nodup
 | .set S n=>h.SetOf (intKind P w) a S n
 | .ins C dx fs=>H dx=some (.own a)/\fs.length<=1000/\dx≠a/\h.get? a=some (W.instObj C dx) /\
   ∃ mA,h.Ns1 dx mA/\(∀ f,RelO (fs.lookup f) (mA f))/\PySem.Within mA (fs.map (·.1))
 | .own _=>∃ o,h.get? a=some o
 | .xd fs=>∃ mA,h.Ns1 a mA/\∀ f,RelO (fs.lookup f) (mA f)
 | .rng lo hi=>∃ t u v,h.get? a=some { cls:=.type "range",data:=.fields #[.int lo t, .int hi u, .int 1 v] }
 | .frz o u=>h.get? a=some o/\ObjOk H h a u
 | .tbl ps=>h.get? a=some { cls:=.none,data:=.fields ps }
 | .met f x=>h.get? a=some (W.methodObj (.ref f) (.ref x))
 | .ext φ=>φ h/\(∃ o,h.get? a=some o)/\∀ h1 h2:Heap,φ h1->(∀ o,h1.get? a=some o->h2.get? a=some o)->φ h2
def HOk (H:Hp) (h:Heap):Prop:=∀ a o,H a=some o->ObjOk P w H h a o
end
section
variable {P:Program} {w:World} {H H':Hp} {h h':Heap} {a:Addr} {o:HO}
theorem ObjOk.lt (x:ObjOk P w H h a o):a<h.objs.size:=by
 cases o with
 | lst xs=>obtain ⟨_,_,_,_,e⟩:=x;exact Heap.lt_size e
 | tup xs=>obtain ⟨_,_,_,p⟩:=x;exact p.lt
 | dK kvs=>obtain ⟨_,_,_,_,o,_,_,e,_⟩:=x;exact Heap.lt_size e
 | dT kvs=>obtain ⟨_,_,_,_,o,_,_,e,_⟩:=x;exact Heap.lt_size e
 | set S n=>obtain ⟨o,_,_,_,e,_⟩:=x;exact Heap.lt_size e
 | ins C dx fs=>obtain ⟨_,_,_,e,_⟩:=x;exact Heap.lt_size e
 | own y=>obtain ⟨_,e⟩:=x;exact Heap.lt_size e
 | xd fs=>obtain ⟨_,⟨_,_,_,e,_⟩,_⟩:=x;exact Heap.lt_size e
 | rng lo hi=>obtain ⟨_,_,_,e⟩:=x;exact Heap.lt_size e
 | frz ob u=>obtain ⟨e,_⟩:=x;exact Heap.lt_size e
 | tbl ps=>exact Heap.lt_size (show h.get? a=some _ from x)
 | met f y=>exact Heap.lt_size (show h.get? a=some _ from x)
 | ext φ=>obtain ⟨_,⟨_,e⟩,_⟩:=x;exact Heap.lt_size e
theorem Paired.mapP {α β : Type} {F G : α->β->Prop}:∀ {l₁ : List α} {l₂ : List β},Paired F l₁ l₂->(∀ a b,F a b->G a b)->Paired G l₁ l₂
 | _,_, .nil,_=>.nil
 | _,_, .cons r t,f=>.cons (f _ _ r) (Paired.mapP t f)
theorem ObjOk.stay (x:ObjOk P w H h a o) (k:∀ b u,(b=a\/H b=some (.own a))->h.get? b=some u->h'.get? b=some u)
  (ho:∀ b,H b=some (.own a)->H' b=some (.own a)) (ht:∀ b xs,H b=some (.tup xs)->H' b=some (.tup xs)):ObjOk P w H' h' a o:=by
 induction o with
 | lst xs=>obtain ⟨z,l,n,r,e⟩:=x;exact ⟨z,l,n,r,k _ _ (.inl rfl) e⟩
 | tup xs=>obtain ⟨z,l,r,g,e,c⟩:=x;exact ⟨z,l,r,g,k _ _ (.inl rfl) e,c⟩
 | dK kvs=>obtain ⟨z,y,E,r,g,j,i,e,c⟩:=x;exact ⟨z,y,E,r,g,j,i,k _ _ (.inl rfl) e,c⟩
 | dT kvs=>
  obtain ⟨z,y,xs,r,g,j,i,e,c⟩:=x;exact ⟨z,y,xs,Paired.mapP r fun p q z=>⟨z.1,ht _ _ z.2.1,z.2.2⟩,g,j,i,k _ _ (.inl rfl) e,c⟩
 | set S n=>obtain ⟨g,j,i,t,e,c⟩:=x;exact ⟨g,j,i,t,k _ _ (.inl rfl) e,c⟩
 | ins C dx fs=>
  obtain ⟨d,z,D,e,s,⟨m,j,i,B,c⟩,r⟩:=x;exact ⟨ho _ d,z,D,k _ _ (.inl rfl) e,s,⟨m,j,i,k _ _ (.inr d) B,c⟩,r⟩
 | own y=>obtain ⟨g,e⟩:=x;exact ⟨g,k _ _ (.inl rfl) e⟩
 | xd fs=>obtain ⟨s,⟨m,j,i,e,c⟩,r⟩:=x;exact ⟨s,⟨m,j,i,k _ _ (.inl rfl) e,c⟩,r⟩
 | rng lo hi=>obtain ⟨t,u,v,e⟩:=x;exact ⟨t,u,v,k _ _ (.inl rfl) e⟩
 | frz g u ih=>obtain ⟨e,q⟩:=x;exact ⟨k _ _ (.inl rfl) e,ih q⟩
 | tbl ps=>
  have e:h.get? a=some { cls:=.none,data:=.fields ps }:=x;show h'.get? a=some { cls:=.none,data:=.fields ps };exact k a _ (.inl rfl) e
 | met f y=>
  have e:h.get? a=some (W.methodObj (.ref f) (.ref y)):=x;show h'.get? a=some (W.methodObj (.ref f) (.ref y));exact k a _ (.inl rfl) e
 | ext φ=>obtain ⟨p,⟨o,e⟩,A⟩:=x;exact ⟨A _ _ p fun o q=>k _ _ (.inl rfl) q,⟨o,k _ _ (.inl rfl) e⟩,A⟩
theorem HOk.lt (x:HOk P w H h) (e:H a=some o):a<h.objs.size:=(x a o e).lt
theorem HOk.fresh (x:HOk P w H h) (e:h.objs.size<=a):H a=none:=by
 cases q:H a with
 | none=>rfl
 | some u=>exact absurd (Nat.lt_of_lt_of_le (x.lt q) e) (Nat.lt_irrefl _)
theorem HOk.kept (x:HOk P w H h) (k:∀ b u,h.get? b=some u->h'.get? b=some u):HOk P w H h':=fun a o e=>
 (x a o e).stay (fun b u _ q=>k b u q) (fun _ q=>q) fun _ _ q=>q
theorem HOk.laid (x:HOk P w H h) (k:∀ b u,h.get? b=some u->h'.get? b=some u) (hp:h.objs.size<=a) (new:ObjOk P w (upd H a o) h' a o):HOk P w (upd H a o) h':=fun b u e=>by
 have d:=x.fresh hp;by_cases f:b=a
 ·subst f;rw [Jau] at e;cases e;exact new
 ·rw [Jai f] at e;exact (x b u e).stay (fun c v _ q=>k c v q) (fun c q=>by rw [Jai (Jag q d)];exact q) fun c g q=>by rw [Jai (Jag q d)];exact q
end
def Rd (H:Hp) (a:Addr) (u:HO):Prop:=H a=some u\/∃ o,H a=some (.frz o u)
theorem Rd.ok {P:Program} {w:World} {H:Hp} {h:Heap} {a:Addr} {u:HO} (r:Rd H a u) (x:HOk P w H h):ObjOk P w H h a u:=by
 rcases r with r | ⟨o,r⟩
 ·exact x a u r
 ·obtain ⟨_,q⟩:=x a _ r;exact q
def Mut:Option HO->Prop
 | some (.lst _)=>True
 | some (.dK _)=>True
 | some (.dT _)=>True
 | some (.set _ _)=>True
 | some (.ins _ _ _)=>True
 | some (.ext _)=>True
 | _=>False
section
variable {P:Program} {w:World} {H:Hp} {h h':Heap} {x e:Addr} {o':HO}
theorem HOk.write (ok:HOk P w H h) (mu:Mut (H x)) (he:e=x\/H e=some (.own x)) (k:∀ b u,b≠e->h.get? b=some u->h'.get? b=some u) (heo:∃ u,h'.get? e=some u)
  (new:ObjOk P w (upd H x o') h' x o'):HOk P w (upd H x o') h':=fun b u q=>by
 have d:∀ c y,H c=some (.own y)->c≠x:=fun c y r z=>by subst z;rw [r] at mu;exact mu
 have f:∀ c g,H c=some (.tup g)->c≠x:=fun c g r z=>by subst z;rw [r] at mu;exact mu
 by_cases j:b=x
 ·subst j;rw [Jau] at q;cases q;exact new
 ·rw [Jai j] at q;by_cases a:b=e
  ·have l:H b=some (.own x):=by
    rcases he with z | z
    ·exact absurd (a.trans z) j
    ·rw [a];exact z
   rw [q] at l;cases l;obtain ⟨v,m⟩:=heo;exact ⟨v,by rw [a];exact m⟩
  ·refine (ok b u q).stay (fun c v i r=>k c v ?_ r) (fun c r=>by rw [Jai (d c b r)];exact r) fun c g r=>by rw [Jai (f c g r)];exact r
   rcases i with rfl | i
   ·exact a
   ·rintro rfl;rcases he with z | z
    ·exact d c b i z
    ·rw [i] at z;cases z;exact j rfl
end
structure Un (fs ex:List Addr) (H H':Hp) (h h':Heap):Prop where
 keep:∀ b o,h.get? b=some o->H b=none->b∉fs->b∉ex->h'.get? b=some o
 slot:∀ b o,h.get? b=some o->H b=none->b∈fs->b∉ex->∃ sl,h'.get? b=some { o with slots:=sl }
 free:∀ b o,h.get? b=some o->H b=none->b∉ex->H' b=none
 there:∀ b o,h.get? b=some o->b∉ex->∃ o',h'.get? b=some o'
 tups:∀ b xs,H b=some (.tup xs)->H' b=some (.tup xs)
 frzs:∀ b o u,H b=some (.frz o u)->H' b=some (.frz o u)
 tbls:∀ b ps,H b=some (.tbl ps)->∃ more,H' b=some (.tbl (ps++more))
section
variable {fs fs' ex ex':List Addr} {H H1 H2:Hp} {h h1 h2 h':Heap} {a x e:Addr} {o:HO}
theorem Un.any (u:Un fs ex H H1 h h1) {b:Addr} {ob:Obj} (q:h.get? b=some ob) (n:H b=none) (hx:b∉ex):∃ sl,h1.get? b=some { ob with slots:=sl }:=by
 by_cases a:b∈fs
 ·exact u.slot b ob q n a hx
 ·exact ⟨ob.slots,u.keep b ob q n a hx⟩
theorem Un.kept (k:∀ b u,h.get? b=some u->h'.get? b=some u):Un fs ex H H h h' :=
 ⟨fun b a q _ _ _=>k b a q,fun b a q _ _ _=>⟨a.slots,k b a q⟩,fun _ _ _ n _=>n,fun b a q _=>⟨a,k b a q⟩,fun _ _ q=>q,fun _ _ _ q=>q,fun _ c q=>⟨#[],by rw [q];simp⟩⟩
theorem Un.refl:Un fs ex H H h h:=Un.kept fun _ _ q=>q
theorem Un.laid (k:∀ b u,h.get? b=some u->h'.get? b=some u) (hp:h.objs.size<=a) (hn:H a=none):Un fs ex H (upd H a o) h h' where
 keep:=fun b u q _ _ _=>k b u q
 slot:=fun b u q _ _ _=>⟨u.slots,k b u q⟩
 free:=fun b u q n _=>by rw [Jai (Nat.ne_of_lt (Nat.lt_of_lt_of_le (Heap.lt_size q) hp))];exact n
 there:=fun b u q _=>⟨u,k b u q⟩
 tups:=fun b c q=>by rw [Jai (Jag q hn)];exact q
 frzs:=fun b u c q=>by rw [Jai (Jag q hn)];exact q
 tbls:=fun b d q=>⟨#[],by rw [Jai (Jag q hn),q];simp⟩
theorem Un.write (mu:Mut (H x)) (he:e=x\/H e=some (.own x)) (k:∀ b u,b≠e->h.get? b=some u->h'.get? b=some u) (heo:∃ u,h'.get? e=some u):Un fs ex H (upd H x o) h h':=by
 have d:∀ b,H b=none->b≠x:=fun b n z=>by subst z;rw [n] at mu;exact mu
 have f:∀ b,H b=none->b≠e:=fun b n z=>by
  subst z;rcases he with r | r
  ·exact d b n r
  ·rw [n] at r;cases r
 have c:∀ b u,H b=some u->¬ Mut (some u)->b≠x:=fun b u q i z=>by subst z;rw [q] at mu;exact i mu
 refine ⟨fun b u q n _ _=>k b u (f b n) q,fun b u q n _ _=>⟨u.slots,k b u (f b n) q⟩,fun b u q n _=>by rw [Jai (d b n)];exact n,fun b u q _=>?_,
  fun b g q=>by rw [Jai (c b _ q fun z=>z)];exact q,fun b u g q=>by rw [Jai (c b _ q fun z=>z)];exact q,fun b j q=>⟨#[],by rw [Jai (c b _ q fun z=>z),q];simp⟩⟩
 by_cases a:b=e
 ·subst a;exact heo
 ·exact ⟨u,k b u a q⟩
end
def trk (h:Heap) (H:Hp):List Addr:=(List.range h.objs.size).filter fun a=>(H a).isSome
def hidT (h:Heap) (H:Hp):Heap:=W.hideAll h (trk h H)
theorem JhY (h:Heap) (H:Hp):(hidT h H).objs.size=h.objs.size:=W.hideAll_size _ _
theorem JiP {h:Heap} {H:Hp} {b:Addr} {o:Obj} (e:h.get? b=some o) (n:H b=none):(hidT h H).get? b=some o :=
 W.hideAll_get _ e fun a=>by
  have q:(H b).isSome=true:=(List.mem_filter.mp a).2;rw [n] at q;simp at q
theorem Jj9 {h:Heap} {H:Hp} {b:Addr} {o:Obj} (e:(hidT h H).get? b=some o):h.get? b=some o/\H b=none:=by
 have a:h.get? b=some o:=W.of_hideAll (trk h H) e;refine ⟨a,?_⟩;cases q:H b with
 | none=>rfl
 | some x=>
  have c:b∈trk h H:=List.mem_filter.mpr ⟨List.mem_range.mpr (Heap.lt_size a),by simp [q]⟩;have z:(hidT h H).get? b=none:=W.hideAll_none (trk h H) c;rw [z] at e;cases e
def JjG (g h:Heap) (L:Addr):List (Addr × Obj):=(List.range h.objs.size).filterMap fun a=>if a=L\/(g.get? a).isSome=true then none else (h.get? a).map fun o=>(a,o)
def rest (g h:Heap) (L d:Addr):List (Addr × Obj):=(JjG g h L).filter fun p=>decide (p.1≠d)
structure Mod (K:W.Frag) (mg:Str->Option Value) (base:Heap):Prop where
 kin:K.In base
 glob:base.Ns mainGlobals mg
 blt:∃ mb,base.Ns builtinsNs mb/\∀ x:Str,x≠"__name__"->mb x=bootBuiltins x
 nolimit:base.NoLimit
structure Cx where
 prog:Program
 w:World
 K:W.Frag
 mg:Str->Option Value
 base:Heap
 A:Around
 N:List Str
 s₀ : Shared
 H₀ : Hp
 env:Env
 outer:List Env
 stack:List Env
 ex:List Addr
 fn:Str->Bool
 calm:Bool
 pn:List (Addr × Obj)
 xe:Value->Shared->Prop
def frs (l:List Env):List Addr:=l.filterMap (·.frame)
abbrev Cx.fs (X:Cx):List Addr:=frs X.outer
def Vis (sc:Scope) (x:Str):Prop:=sc.names.lookup x=some .local\/sc.names.lookup x=some .cell\/sc.names.lookup x=some .free
def Loc (sc:Scope) (x:Str):Prop:=sc.names.lookup x=some .local\/sc.names.lookup x=some .cell
def Look (env:Env) (h:Heap) (m:Str->Option Value) (x:Str) (u:Value):Prop :=
 (env.kindOf x=some .local/\m x=some u)\/((env.kindOf x=some .cell\/env.kindOf x=some .free)/\∃ c,env.cells.lookup x=some c/\h.IsCell c (some u))
structure Cx.Ok (X:Cx):Prop where
 mod:Mod X.K X.mg X.base
 kind:X.env.scope.kind=.function
 glob:X.env.globals=mainGlobals
 blt:X.env.builtins=builtinsNs
 above:X.s₀.heap.objs.size<=X.env.locals
 inj:∀ x y c,X.env.cells.lookup x=some c->X.env.cells.lookup y=some c->x=y
 has:∀ x,(X.env.kindOf x=some .cell\/X.env.kindOf x=some .free)->∃ c,X.env.cells.lookup x=some c
 cab:∀ x c,X.fn x=true->X.env.cells.lookup x=some c->X.s₀.heap.objs.size<=c
 hd:X.calm=true->X.A.handled=none
 frames:X.A.frames=some X.stack
 stk:X.stack=X.outer\/(X.stack=X.env::X.outer/\X.env.frame=some X.env.locals)
 exf:∀ b∈X.ex,b≠X.env.locals/\∀ x c,X.env.cells.lookup x=some c->c≠b
 bs:∀ b o,X.base.get? b=some o->X.s₀.heap.get? b=some o/\X.H₀ b=none
 bsz:X.base.objs.size<=X.s₀.heap.objs.size
 noex:∀ b o,X.base.get? b=some o->b∉X.ex
 exfs:∀ b∈X.ex,b∉X.fs
 funs:X.s₀.heap.FunFrames X.base X.outer
 frf:∀ b∈X.fs,X.H₀ b=none
structure Inv (X:Cx) (pins:List (Addr × Obj)) (σ : List (Option V)) (H:Hp) (s:Shared):Prop where
 ok:X.Ok
 os:s.os=X.s₀.os
 bare:AllBare s.gens
 base:Un X.fs X.ex X.H₀ H X.s₀.heap s.heap
 loc:∃ m,s.heap.Ns X.env.locals m/\∀ (i:Nat) (x:Str) (v:V),X.N[i]?=some x->σ[i]?=some (some v)->Vis X.env.scope x->∃ u,RelV v u/\Look X.env s.heap m x u
 cell:∀ x c,X.env.cells.lookup x=some c->∃ v,s.heap.IsCell c v
 free:H X.env.locals=none
 freeC:∀ x c,X.env.cells.lookup x=some c->H c=none
 pin:∀ p∈X.pn++pins,s.heap.get? p.1=some p.2/\H p.1=none/\p.1≠X.env.locals/\p.1∉X.fs/\∀ v,p.2.data≠.cell v
 hok:HOk X.prog X.w H s.heap
 len : σ.length=X.N.length
section
variable {X:Cx} {pins:List (Addr × Obj)} {σ : List (Option V)} {H H':Hp} {s:Shared} {h':Heap}
theorem Cx.Ok.nofr (ok:X.Ok) {b:Addr} {o:Obj} (e:X.base.get? b=some o):b∉X.fs:=fun a=>by
 have:=(ok.funs.mem a).1;rw [e] at this;cases this
theorem Inv.bs (I:Inv X pins σ H s):∀ b o,X.base.get? b=some o->s.heap.get? b=some o/\H b=none:=fun b o e=>
 ⟨I.base.keep b o (I.ok.bs b o e).1 (I.ok.bs b o e).2 (I.ok.nofr e) (I.ok.noex b o e),I.base.free b o (I.ok.bs b o e).1 (I.ok.bs b o e).2 (I.ok.noex b o e)⟩
theorem Inv.bk (I:Inv X pins σ H s):∀ b o,X.base.get? b=some o->s.heap.get? b=some o:=fun b o e=>(I.bs b o e).1
theorem Inv.mod (I:Inv X pins σ H s):Mod X.K X.mg X.base:=I.ok.mod
theorem Inv.kIn (I:Inv X pins σ H s):X.K.In s.heap:=I.ok.mod.kin.keeps I.bk
theorem Inv.lt (I:Inv X pins σ H s):X.env.locals<s.heap.objs.size:=let ⟨_,hn,_⟩:=I.loc;hn.lt
theorem Inv.sz (I:Inv X pins σ H s):X.s₀.heap.objs.size<=s.heap.objs.size:=Nat.le_trans I.ok.above (Nat.le_of_lt I.lt)
theorem Inv.nofs (I:Inv X pins σ H s) {a:Addr} (h:s.heap.objs.size<=a):a∉X.fs:=fun c=>by
 obtain ⟨_,o,b,_⟩:=I.ok.funs.mem c;exact absurd (Nat.lt_of_lt_of_le (Heap.lt_size b) (Nat.le_trans I.sz h)) (Nat.lt_irrefl _)
theorem Inv.cne (I:Inv X pins σ H s):∀ x c,X.env.cells.lookup x=some c->c≠X.env.locals:=fun x c e z=>by
 obtain ⟨v,o,f,d⟩:=I.cell x c e;obtain ⟨m,⟨g,i,h,a,b,_⟩,_⟩:=I.loc;rw [z,a] at f;cases f;rw [b] at d;cases d
theorem Inv.funs (I:Inv X pins σ H s):s.heap.FunFrames X.base X.outer:=by
 have all:∀ (l:List Env),(∀ b∈frs l,b∈X.fs)->X.s₀.heap.FunFrames X.base l->s.heap.FunFrames X.base l:=by
  intro l;induction l with
  | nil=>intro _ _;trivial
  | cons env r ih=>
   intro f j;obtain ⟨m,⟨L,o,a,h,i,g⟩,k⟩:=j;have c:L∈X.fs:=f L (by unfold frs;rw [List.filterMap_cons,a];exact mem_cons_self);obtain ⟨n,e⟩:=I.base.slot L o i (I.ok.frf L c) c fun z=>I.ok.exfs L z c;exact ⟨m,⟨L,_,a,h,e,g⟩,ih (fun b d=>f b (by unfold frs;rw [List.filterMap_cons,a];exact mem_cons_of_mem _ d)) k⟩
 exact all X.outer (fun _ d=>d) I.ok.funs
theorem Inv.stack (I:Inv X pins σ H s):s.heap.FunFrames X.base X.stack:=by
 rcases I.ok.stk with e | ⟨e,hf⟩
 ·rw [e];exact I.funs
 ·rw [e];obtain ⟨m,a,_⟩:=I.loc;refine .cons (by rw [I.ok.kind];decide) hf a ?_ I.funs;exact Heap.get?_none_of_le (Nat.le_trans I.ok.bsz I.ok.above)
theorem Inv.stkSub (I:Inv X pins σ H s):∀ b∈frs X.stack,b∈X.env.locals::X.fs:=fun b a=>by
 rcases I.ok.stk with e | ⟨e,hf⟩
 ·rw [e] at a;exact mem_cons_of_mem _ a
 ·rw [e] at a;unfold frs at a;rw [List.filterMap_cons,hf] at a;exact a
theorem Inv.stkFree (I:Inv X pins σ H s):∀ b∈frs X.stack,H b=none:=fun b a=>by
 rcases mem_cons.mp (I.stkSub b a) with e | a
 ·rw [e];exact I.free
 ·obtain ⟨_,o,c,_⟩:=I.ok.funs.mem a;exact I.base.free b o c (I.ok.frf b a) fun z=>I.ok.exfs b z a
theorem Inv.step {g':Array GenState} {t':Nat} {d':Drawn} {ch:List Addr} (I:Inv X pins σ H s)
  (hch:∀ b∈ch,(b∈X.ex\/X.s₀.heap.objs.size<=b)/\b≠X.env.locals/\(∀ x c,X.env.cells.lookup x=some c->c≠b)/\∀ p∈X.pn++pins,p.1≠b)
  (keep:∀ b o,b≠X.env.locals->b∉X.fs->b∉ch->s.heap.get? b=some o->H b=none->h'.get? b=some o)
  (slot:∀ b o,b≠X.env.locals->b∈X.fs->b∉ch->s.heap.get? b=some o->H b=none->∃ sl,h'.get? b=some { o with slots:=sl }) (free:∀ b o,b∉ch->s.heap.get? b=some o->H b=none->H' b=none)
  (there:∀ b o,b∉ch->s.heap.get? b=some o->∃ o',h'.get? b=some o')
  (tups:∀ b xs,H b=some (.tup xs)->H' b=some (.tup xs)) (frzs:∀ b o u,H b=some (.frz o u)->H' b=some (.frz o u)) (tbls:∀ b ps,H b=some (.tbl ps)->∃ more,H' b=some (.tbl (ps++more)))
  (ns:∀ m,s.heap.Ns X.env.locals m->h'.Ns X.env.locals m) (hok:HOk X.prog X.w H' h') (hg:AllBare g') :
  Inv X pins σ H' { s with heap:=h',gens:=g',drawn:=d',toks:=t' }:=by
 have B:∀ b o,X.s₀.heap.get? b=some o->b≠X.env.locals:=fun b o e=>Nat.ne_of_lt (Nat.lt_of_lt_of_le (Heap.lt_size e) I.ok.above);have j:∀ b o,X.s₀.heap.get? b=some o->b∉X.ex->b∉ch:=fun b o e a t=>by
  rcases (hch b t).1 with z | z
  ·exact a z
  ·exact absurd (Nat.lt_of_lt_of_le (Heap.lt_size e) z) (Nat.lt_irrefl _)
 have g:∀ x c,X.env.cells.lookup x=some c->∀ v,s.heap.IsCell c v->h'.IsCell c v:=fun x c e v ⟨o,y,C⟩=>by
  have f:c∉ch:=fun z=>(hch c z).2.2.1 x c e rfl;by_cases F:c∈X.fs
  ·obtain ⟨sl,q⟩:=slot c o (I.cne x c e) F f y (I.freeC x c e);exact ⟨_,q,C⟩
  ·exact ⟨o,keep c o (I.cne x c e) F f y (I.freeC x c e),C⟩
 refine ⟨I.ok,I.os,hg,⟨fun b o e n t a=>?_,fun b o e n t a=>?_,fun b o e n a=>?_,fun b o e a=>?_,fun b xs e=>tups b xs (I.base.tups b xs e),fun b o xs e=>frzs b o xs (I.base.frzs b o xs e),fun b ps e=>?_⟩,?_,fun x c e=>?_,?_,fun x c e=>?_,fun p J=>?_,hok,I.len⟩
 ·exact keep b o (B b o e) t (j b o e a) (I.base.keep b o e n t a) (I.base.free b o e n a)
 ·obtain ⟨sl,h⟩:=I.base.slot b o e n t a;obtain ⟨D,A⟩:=slot b _ (B b o e) t (j b o e a) h (I.base.free b o e n a);exact ⟨D,A⟩
 ·obtain ⟨o',h⟩:=I.base.there b o e a;exact free b o' (j b o e a) h (I.base.free b o e n a)
 ·obtain ⟨o',h⟩:=I.base.there b o e a;exact there b o' (j b o e a) h
 ·obtain ⟨K,h⟩:=I.base.tbls b ps e;obtain ⟨N,A⟩:=tbls b _ h;exact ⟨K++N,by rw [A,Array.append_assoc]⟩
 ·obtain ⟨m,O,L⟩:=I.loc;refine ⟨m,ns m O,fun i x v h A M=>?_⟩;obtain ⟨u,r,l⟩:=L i x v h A M;refine ⟨u,r,?_⟩;rcases l with l | ⟨k,c,e,z⟩
  ·exact .inl l
  ·exact .inr ⟨k,c,e,g x c e _ z⟩
 ·obtain ⟨v,z⟩:=I.cell x c e;exact ⟨v,g x c e v z⟩
 ·obtain ⟨m,⟨o,_,_,y,_⟩,_⟩:=I.loc;exact free _ o (fun z=>(hch _ z).2.1 rfl) y I.free
 ·obtain ⟨v,o,y,C⟩:=I.cell x c e;exact free c o (fun z=>(hch c z).2.2.1 x c e rfl) y (I.freeC x c e)
 ·obtain ⟨e,n,E,G,d⟩:=I.pin p J;have f:p.1∉ch:=fun z=>(hch p.1 z).2.2.2 p J rfl;exact ⟨keep p.1 p.2 E G f e n,free p.1 p.2 f e n,E,G,d⟩
theorem Inv.un {t':Nat} (I:Inv X pins σ H s) (u:Un X.fs [] H H' s.heap h') (hok:HOk X.prog X.w H' h'):Inv X pins σ H' { s with heap:=h',toks:=t' }:=by
 obtain ⟨m,⟨o,q,l,g,r⟩,_⟩:=id I.loc;obtain ⟨p,j⟩:=u.any g I.free (by simp);exact I.step (g':=s.gens) (d':=s.drawn) (ch:=[]) (fun _ z=>nomatch z) (fun b o _ d _ e n=>u.keep b o e n d (by simp)) (fun b o _ d _ e n=>u.slot b o e n d (by simp)) (fun b o _ e n=>u.free b o e n (by simp)) (fun b o _ e=>u.there b o e (by simp)) u.tups u.frzs u.tbls (fun t h=>by
  obtain ⟨k,c,f,a,i⟩:=h;rw [g] at a;cases a;exact ⟨_,c,f,j,i⟩) hok I.bare
theorem Inv.call {g':Array GenState} {t':Nat} {d':Drawn} {ch:List Addr} (I:Inv X pins σ H s) (u:Un (frs X.stack) ch H H' s.heap h') (hok:HOk X.prog X.w H' h') (hg:AllBare g')
  (hch:∀ b∈ch,(b∈X.ex\/X.s₀.heap.objs.size<=b)/\b≠X.env.locals/\(∀ x c,X.env.cells.lookup x=some c->c≠b)/\∀ p∈X.pn++pins,p.1≠b) :
  Inv X pins σ H' { s with heap:=h',gens:=g',drawn:=d',toks:=t' }:=by
 obtain ⟨m,⟨o,A,t,i,r⟩,_⟩:=id I.loc;obtain ⟨v,h⟩:=u.any i I.free fun z=>(hch _ z).2.1 rfl;exact I.step (ch:=ch) hch (fun b o h j a e n=>u.keep b o e n (fun z=>(mem_cons.mp (I.stkSub b z)).elim h j) a) (fun b o _ _ a e n=>u.any e n a) (fun b o a e n=>u.free b o e n a) (fun b o a e=>u.there b o e a) u.tups u.frzs u.tbls (fun y k=>by
  obtain ⟨q,f,g,d,l⟩:=k;rw [i] at d;cases d;exact ⟨_,f,g,h,l⟩) hok hg
theorem Inv.turned {t':Nat} {it:Addr} (I:Inv X pins σ H s) (k:∀ b o,b≠it->s.heap.get? b=some o->h'.get? b=some o) (hn:H it=none) (hL:it≠X.env.locals)
  (h1:it∈X.ex\/X.s₀.heap.objs.size<=it) (h2:∀ x c,X.env.cells.lookup x=some c->c≠it) (h3:∀ p∈X.pn++pins,p.1≠it):Inv X pins σ H { s with heap:=h',toks:=t' }:=by
 have d:∀ b u,H b=some u->b≠it:=fun b u e z=>by rw [z,hn] at e;cases e
 refine I.step (g':=s.gens) (d':=s.drawn) (ch:=[it]) (fun b g=>?_) (fun b o _ _ a e _=>k b o (fun z=>a (by simp [z])) e) (fun b o _ _ a e _=>⟨o.slots,k b o (fun z=>a (by simp [z])) e⟩) (fun _ _ _ _ n=>n)
  (fun b o a e=>⟨o,k b o (fun z=>a (by simp [z])) e⟩) (fun _ _ e=>e) (fun _ _ _ e=>e) (fun b l e=>⟨#[],by rw [e];simp⟩) (fun m h=>?_) (fun b u e=>?_) I.bare
 ·have e:b=it:=by simpa using g
  subst e;exact ⟨h1,hL,h2,h3⟩
 ·obtain ⟨o,j,f,i,r⟩:=h;exact ⟨o,j,f,k _ o (Ne.symm hL) i,r⟩
 ·refine (I.hok b u e).stay (fun c v a q=>k c v ?_ q) (fun _ q=>q) fun _ _ q=>q;rcases a with z | z
  ·rw [z];exact d b u e
  ·exact d c _ z
theorem Inv.tok (I:Inv X pins σ H s) (t:Nat):Inv X pins σ H { s with toks:=t }:=I.un (h':=s.heap) (t':=t) Un.refl I.hok
theorem Inv.kept {t':Nat} (I:Inv X pins σ H s) (k:∀ b u,s.heap.get? b=some u->h'.get? b=some u):Inv X pins σ H { s with heap:=h',toks:=t' }:=I.un (Un.kept k) (I.hok.kept k)
theorem Inv.laid {a:Addr} {o:HO} {t':Nat} (I:Inv X pins σ H s) (k:∀ b u,s.heap.get? b=some u->h'.get? b=some u) (hp:s.heap.objs.size<=a) (new:ObjOk X.prog X.w (upd H a o) h' a o) :
  Inv X pins σ (upd H a o) { s with heap:=h',toks:=t' }:=I.un (Un.laid k hp (I.hok.fresh hp)) (I.hok.laid k hp new)
theorem Inv.write {x e:Addr} {o:HO} {t':Nat} (I:Inv X pins σ H s) (mu:Mut (H x)) (he:e=x\/H e=some (.own x)) (k:∀ b u,b≠e->s.heap.get? b=some u->h'.get? b=some u) (heo:∃ u,h'.get? e=some u)
  (new:ObjOk X.prog X.w (upd H x o) h' x o):Inv X pins σ (upd H x o) { s with heap:=h',toks:=t' }:=I.un (Un.write mu he k heo) (I.hok.write mu he k heo new)
theorem Inv.pins_of {pins':List (Addr × Obj)} (I:Inv X pins σ H s) (h:∀ p∈pins',s.heap.get? p.1=some p.2/\H p.1=none/\p.1≠X.env.locals/\p.1∉X.fs/\∀ v,p.2.data≠.cell v):Inv X pins' σ H s :=
 ⟨I.ok,I.os,I.bare,I.base,I.loc,I.cell,I.free,I.freeC,fun p a=>(mem_append.mp a).elim (fun z=>I.pin p (List.mem_append_left _ z)) (h p),I.hok,I.len⟩
theorem JgV {N:List Str} (hN:N.Nodup) {i j:Nat} {x:Str} (a:N[i]?=some x) (b:N[j]?=some x):i=j:=by
 obtain ⟨f,d⟩:=List.getElem?_eq_some_iff.mp a;obtain ⟨e,c⟩:=List.getElem?_eq_some_iff.mp b;exact (List.getElem_inj hN).mp (d.trans c.symm)
theorem JfQ {M:Model} {A:Around} {E:Value->Shared->Prop} {i:Nat} {x:Str} {v:V} {u:Value} {Q:Unit->Shared->Prop} (I:Inv X pins σ H s) (hN:X.N.Nodup) (hi:X.N[i]?=some x) (hx:Loc X.env.scope x) (r:RelV v u)
  (h:∀ s',Inv X pins (σ.set i (some v)) H s'->(∃ a,Heap.SameBut a s.heap s'.heap/\(a=X.env.locals\/X.env.cells.lookup x=some a))->Q () s') (hf:X.fn x=true\/X.env.scope.names.lookup x=some .local:=by first | exact .inl rfl | exact .inr rfl | assumption):wpAny M A (storeName X.env x u) Q E s:=by
 obtain ⟨m,hn,hl⟩:=id I.loc;have O:(X.env.scope.kind == .class||(X.env.scope.kind == .module&&X.env.locals != X.env.globals))=false:=by rw [I.ok.kind];rfl
 have hiσ : i<σ.length:=by rw [I.len];exact (List.getElem?_eq_some_iff.mp hi).1
 have G:=I.cne;have l:∀ {a:Addr} {K:Heap},(∃ o,s.heap.get? a=some o/\H a=none)->Heap.SameBut a s.heap K->HOk X.prog X.w H K:=fun {a K} ha f b ob e=>by
  obtain ⟨_,_,B⟩:=ha;refine (I.hok b ob e).stay (fun c U t q=>(f.2 c ?_).trans q) (fun _ q=>q) fun _ _ q=>q;rintro rfl;rcases t with rfl | t
  ·rw [B] at e;cases e
  ·rw [B] at t;cases t
 rcases hx with hk | hk
 ·refine wpAny_storeName_local hk hn (fun K Y f=>?_) O;obtain ⟨oL,_,_,a0,_⟩:=id hn;refine h _ ⟨I.ok,I.os,I.bare,⟨fun b o e n F hx=>?_,fun b o e n F hx=>?_,I.base.free,fun b o e hx=>?_,I.base.tups,I.base.frzs,I.base.tbls⟩,⟨_,Y,fun j y v' g C e3=>?_⟩,fun y c e=>?_,I.free,I.freeC,fun p hp=>?_,l ⟨oL,a0,I.free⟩ f,by simpa using I.len⟩ ⟨_,f, .inl rfl⟩
  ·exact (f.2 b (Nat.ne_of_lt (Nat.lt_of_lt_of_le (Heap.lt_size e) I.ok.above))).trans (I.base.keep b o e n F hx)
  ·obtain ⟨sl,g⟩:=I.base.slot b o e n F hx;exact ⟨sl,(f.2 b (Nat.ne_of_lt (Nat.lt_of_lt_of_le (Heap.lt_size e) I.ok.above))).trans g⟩
  ·obtain ⟨Z,g⟩:=I.base.there b o e hx;exact ⟨Z,(f.2 b (Nat.ne_of_lt (Nat.lt_of_lt_of_le (Heap.lt_size e) I.ok.above))).trans g⟩
  ·by_cases J:j=i
   ·subst J;rw [hi] at g;cases g;rw [List.getElem?_set_self hiσ] at C;cases C;exact ⟨u,r, .inl ⟨hk,by simp⟩⟩
   ·rw [List.getElem?_set_ne (Ne.symm J)] at C;obtain ⟨u',r',q⟩:=hl j y v' g C e3;refine ⟨u',r',?_⟩;rcases q with ⟨k,e⟩ | ⟨k,c,e,z⟩
    ·refine .inl ⟨k,?_⟩;have : y≠x:=fun e=>J (JgV hN g (e ▸ hi));simp [this,e]
    ·exact .inr ⟨k,c,e,z.sameBut f (G y c e)⟩
  ·obtain ⟨U,z⟩:=I.cell y c e;exact ⟨U,z.sameBut f (G y c e)⟩
  ·obtain ⟨e,n,T,nf,d⟩:=I.pin p hp;exact ⟨(f.2 p.1 T).trans e,n,T,nf,d⟩
 ·have D:X.fn x=true:=by
   rcases hf with z | z
   ·exact z
   ·rw [z] at hk;cases hk
  obtain ⟨c,t⟩:=I.ok.has x (.inl hk);obtain ⟨U,z⟩:=I.cell x c t;refine wpAny_storeName_cell I.ok.kind hk t z (fun K P f=>?_);obtain ⟨oc,R,L⟩:=id z;refine h { s with heap:=K } ⟨I.ok,I.os,I.bare,⟨fun b o e n F hx=>?_,fun b o e n F hx=>?_,I.base.free,fun b o e hx=>?_,I.base.tups,I.base.frzs,I.base.tbls⟩,⟨m,hn.sameBut f (Ne.symm (G x c t)),fun j y v' g C e3=>?_⟩,fun y W e=>?_,I.free,I.freeC,fun p hp=>?_,l ⟨oc,R,I.freeC x c t⟩ f,by simpa using I.len⟩ ⟨c,f, .inr t⟩
  ·exact (f.2 b (Nat.ne_of_lt (Nat.lt_of_lt_of_le (Heap.lt_size e) (I.ok.cab x c D t)))).trans (I.base.keep b o e n F hx)
  ·obtain ⟨sl,g⟩:=I.base.slot b o e n F hx;exact ⟨sl,(f.2 b (Nat.ne_of_lt (Nat.lt_of_lt_of_le (Heap.lt_size e) (I.ok.cab x c D t)))).trans g⟩
  ·obtain ⟨Z,g⟩:=I.base.there b o e hx;exact ⟨Z,(f.2 b (Nat.ne_of_lt (Nat.lt_of_lt_of_le (Heap.lt_size e) (I.ok.cab x c D t)))).trans g⟩
  ·by_cases J:j=i
   ·subst J;rw [hi] at g;cases g;rw [List.getElem?_set_self hiσ] at C;cases C;exact ⟨u,r, .inr ⟨.inl hk,c,t,P⟩⟩
   ·rw [List.getElem?_set_ne (Ne.symm J)] at C;obtain ⟨u',r',q⟩:=hl j y v' g C e3;refine ⟨u',r',?_⟩;rcases q with q | ⟨k,W,e,z'⟩
    ·exact .inl q
    ·refine .inr ⟨k,W,e,z'.sameBut f ?_⟩;rintro rfl;exact J (JgV hN g (I.ok.inj _ _ _ e t ▸ hi))
  ·by_cases S:W=c
   ·subst S;exact ⟨_,P⟩
   ·obtain ⟨w2,z2⟩:=I.cell y W e;exact ⟨w2,z2.sameBut f S⟩
  ·obtain ⟨e,n,T,nf,d⟩:=I.pin p hp;refine ⟨(f.2 p.1 ?_).trans e,n,T,nf,d⟩;intro q;rw [q,R] at e;have q':oc=p.2:=Option.some.inj e;exact d U (by rw [<- q'];exact L)
theorem Jdy {M:Model} {A:Around} {E:Value->Shared->Prop} {i:Nat} {x:Str} {v:V} {u:Value} {Q:Unit->Shared->Prop} (I:Inv X pins σ H s) (hN:X.N.Nodup) (hi:X.N[i]?=some x) (hx:Loc X.env.scope x) (r:RelV v u)
  (h:∀ s',Inv X pins (σ.set i (some v)) H s'->Q () s') (hf:X.fn x=true\/X.env.scope.names.lookup x=some .local:=by first | exact .inl rfl | exact .inr rfl | assumption):wpAny M A (storeName X.env x u) Q E s :=
 JfQ I hN hi hx r (fun s' I' _=>h s' I') hf
theorem Inv.call' {s':Shared} {ch:List Addr} (I:Inv X pins σ H s) (ho:s'.os=s.os) (u:Un (frs X.stack) ch H H' s.heap s'.heap) (hok:HOk X.prog X.w H' s'.heap) (hg:AllBare s'.gens)
  (hch:∀ b∈ch,(b∈X.ex\/X.s₀.heap.objs.size<=b)/\b≠X.env.locals/\(∀ x c,X.env.cells.lookup x=some c->c≠b)/\∀ p∈X.pn++pins,p.1≠b):Inv X pins σ H' s':=by
 obtain ⟨d,g',d',t',a⟩:=s';have e:a=s.os:=ho;subst e;exact I.call (g':=g') (t':=t') (d':=d') u hok hg hch
end
abbrev XK:=Value->Option Addr->Hp->Prop
abbrev St:=List (Option V)
abbrev VK:=V->Hp->Prop
abbrev TE:=St->Hp->VK->Prop
abbrev TT:=St->Hp->(Bool->Hp->Prop)->Prop
abbrev TA:=St->Hp->(List V->Hp->Prop)->Prop
structure Ends where
 nx:St->Hp->Prop
 rt:VK
 bk:St->Hp->Prop:=fun _ _=>False
 ct:St->Hp->Prop:=fun _ _=>False
abbrev TS:=Ends->St->Hp->Prop
def EP (X:Cx) (pins:List (Addr × Obj)) (σ : St) (Q:VK) (u:Value) (s':Shared):Prop:=∃ v H',Inv X pins σ H' s'/\RelV v u/\Q v H'
def TP (X:Cx) (pins:List (Addr × Obj)) (σ : St) (Q:Bool->Hp->Prop) (b:Bool) (s':Shared):Prop:=∃ H',Inv X pins σ H' s'/\Q b H'
def AP (X:Cx) (pins:List (Addr × Obj)) (σ : St) (Q:List V->Hp->Prop) (us:List Value) (s':Shared):Prop:=∃ vs H',Inv X pins σ H' s'/\Vals vs us/\Q vs H'
def SP (X:Cx) (pins:List (Addr × Obj)) (D:Ends) (f:Flow) (s':Shared):Prop :=
 match f with
 | .next=>∃ σ' H',Inv X pins σ' H' s'/\D.nx σ' H'
 | .brk=>∃ σ' H',Inv X pins σ' H' s'/\D.bk σ' H'
 | .cont=>∃ σ' H',Inv X pins σ' H' s'/\D.ct σ' H'
 | .ret u=>∃ v σ' H',Inv X pins σ' H' s'/\RelV v u/\D.rt v H'
def PE (X:Cx) (e:Expr) (t:TE):Prop :=
 ∀ (pins:List (Addr × Obj)) (s:Shared) (σ : St) (H:Hp) (Q:VK),Inv X pins σ H s->t σ H Q->wpAny (model X.prog X.w) X.A (eval e X.env) (EP X pins σ Q) X.xe s
def PT (X:Cx) (e:Expr) (t:TT):Prop :=
 ∀ (pins:List (Addr × Obj)) (s:Shared) (σ : St) (H:Hp) (Q:Bool->Hp->Prop),Inv X pins σ H s->t σ H Q->wpAny (model X.prog X.w) X.A (isTrue e X.env (eval e X.env)) (TP X pins σ Q) X.xe s
def PW (X:Cx) (e:Expr) (t:TT):Prop :=
 ∀ (whole:Sem Value) (pins:List (Addr × Obj)) (s:Shared) (σ : St) (H:Hp) (Q:Bool->Hp->Prop),Inv X pins σ H s->t σ H Q->wpAny (model X.prog X.w) X.A (isTrue e X.env whole) (TP X pins σ Q) X.xe s
theorem PW.pt {X:Cx} {e:Expr} {t:TT} (h:PW X e t):PT X e t:=h _
def PA (X:Cx) (es:List Expr) (t:TA):Prop :=
 ∀ (pos:Pos) (pins:List (Addr × Obj)) (s:Shared) (σ : St) (H:Hp) (Q:List V->Hp->Prop),Inv X pins σ H s->t σ H Q->wpAny (model X.prog X.w) X.A (spliced (backTo pos (starEach es X.env))) (AP X pins σ Q) X.xe s
def PS (X:Cx) (st:Stmt) (t:TS):Prop :=
 ∀ (pins:List (Addr × Obj)) (s:Shared) (σ : St) (H:Hp) (D:Ends),Inv X pins σ H s->t D σ H->wpAny (model X.prog X.w) X.A (exec st X.env) (SP X pins D) X.xe s
def PSs (X:Cx) (st:List Stmt) (t:TS):Prop :=
 ∀ (pins:List (Addr × Obj)) (s:Shared) (σ : St) (H:Hp) (D:Ends),Inv X pins σ H s->t D σ H->wpAny (model X.prog X.w) X.A (execs st X.env) (SP X pins D) X.xe s
theorem thn {α : Type} {t:Sem α} {Q Q' : α->Shared->Prop} {M:Model} {A:Around} {E:Value->Shared->Prop} {s:Shared} (h:wpAny M A t Q E s) (hQ:∀ a s,Q a s->Q' a s):wpAny M A t Q' E s:=wpAny_mono h hQ fun _ _ x=>x
section
variable {X:Cx}
def tVar (i:Nat):TE:=fun σ H Q=>∃ v,σ[i]?=some (some v)/\Q v H
def tC (v:V):TE:=fun _ H Q=>Q v H
theorem Jk5 {i:Nat} {x:Str} {pos:Pos} (hN:X.N[i]?=some x) (hv:Vis X.env.scope x) (hd:(x == ("__debug__" : Str))=false:=by decide) (hcd:(x == ("__classdict__" : Str))=false:=by decide):PE X (.Name x pos) (tVar i):=by
 intro b s σ H Q I h;obtain ⟨v,e,h⟩:=h;obtain ⟨m,d,f⟩:=I.loc;obtain ⟨u,r,l⟩:=f i x v hN e hv;have a:EP X b σ Q u s:=⟨v,H,I,r,h⟩;rcases l with ⟨hk,hm⟩ | ⟨hk,c,hc,hcell⟩
 ·exact wpAny_Name (wpAny_loadName_local I.ok.kind hk d hm a) hd
 ·rcases hk with hk | hk
  ·exact wpAny_Name (wpAny_loadName_cell I.ok.kind hk hc hcell a) hd
  ·exact wpAny_Name (wpAny_loadName_free I.ok.kind hk hc hcell a hcd) hd
theorem Jae {i j pos}:PE X (.Constant (.int i) j pos) (tC (.int i)):=fun _ _ _ H _ I h=>wpAny_Constant_int ⟨.int i,H,I.tok _,⟨_,rfl⟩,h⟩
theorem pe_bl {b j pos}:PE X (.Constant (.bool b) j pos) (tC (.bl b)):=fun _ _ _ H _ I h=>Constant_bool ⟨.bl b,H,I,rfl,h⟩
theorem JaM {j pos}:PE X (.Constant .none j pos) (tC .non):=fun _ _ _ H _ I h=>Constant_none ⟨.non,H,I,rfl,h⟩
theorem Jcq {x j pos}:PE X (.Constant (.str x) j pos) (tC (.str x)):=fun _ _ _ H _ I h=>Calls.Constant_str ⟨.str x,H,I.tok _,⟨_,rfl⟩,h⟩
def Gl (X:Cx) (x:Str):Prop:=X.env.kindOf x=some .globalImplicit
theorem JdO {E:Value->Shared->Prop} {pins:List (Addr × Obj)} {s:Shared} {σ : St} {H:Hp} {x:Str} {u:Value} {pos:Pos} {Q:Value->Shared->Prop} (I:Inv X pins σ H s) (hg:Gl X x) (hm:X.mg x=some u) (h:Q u s)
  (hd:(x == ("__debug__" : Str))=false:=by decide):wpAny (model X.prog X.w) X.A (eval (.Name x pos) X.env) Q E s :=
 Calls.Name_function_global I.ok.kind hg (Calls.loadGlobal_global (by rw [I.ok.glob];exact I.mod.glob.keeps I.bk) hm h) hd
theorem Jdj {E:Value->Shared->Prop} {pins:List (Addr × Obj)} {s:Shared} {σ : St} {H:Hp} {x:Str} {u:Value} {pos:Pos} {Q:Value->Shared->Prop} (I:Inv X pins σ H s) (hg:Gl X x) (hm:X.mg x=none) (hv:bootBuiltins x=some u) (h:Q u s)
  (hn:x≠"__name__":=by decide) (hd:(x == ("__debug__" : Str))=false:=by decide):wpAny (model X.prog X.w) X.A (eval (.Name x pos) X.env) Q E s:=by
 obtain ⟨c,b,a⟩:=I.mod.blt;exact Calls.Name_function_global I.ok.kind hg (Calls.loadGlobal_builtin (by rw [I.ok.glob];exact I.mod.glob.keeps I.bk) hm (by rw [I.ok.blt];exact b.keeps I.bk) ((a x hn).trans hv) h) hd
theorem Jdd {x:Str} {v:V} {u:Value} {pos:Pos} (hg:Gl X x) (hm:X.mg x=some u) (r:RelV v u) (hd:(x == ("__debug__" : Str))=false:=by decide):PE X (.Name x pos) (tC v) :=
 fun _ _ _ H _ I h=>JdO I hg hm ⟨v,H,I,r,h⟩ hd
theorem Jcb {x:Str} {v:V} {u:Value} {pos:Pos} (hg:Gl X x) (hm:X.mg x=none) (hv:bootBuiltins x=some u) (r:RelV v u) (hn:x≠"__name__":=by decide) (hd:(x == ("__debug__" : Str))=false:=by decide):PE X (.Name x pos) (tC v) :=
 fun _ _ _ H _ I h=>Jdj I hg hm hv ⟨v,H,I,r,h⟩ hn hd
variable {a b:Expr} {ta tb:TE} {pos:Pos}
def PC (X:Cx) (op:CmpOp) (a b:Expr) (t:TE):Prop :=
 ∀ (pins:List (Addr × Obj)) (s:Shared) (σ : St) (H:Hp) (Q:VK),Inv X pins σ H s->t σ H Q ->
  wpAny (model X.prog X.w) X.A (eval a X.env) (fun v s₁=>wpAny (model X.prog X.w) X.A (eval b X.env) (fun u s₂=>wpAny (model X.prog X.w) X.A (compareOp op v u) (EP X pins σ Q) X.xe s₂) X.xe s₁) X.xe s
def tB (t:TE):TT:=fun σ H Q=>t σ H fun x H1=>∃ c,x=.bl c/\Q c H1
theorem Jcs {op:CmpOp} {t:TE} (h:PC X op a b t) (h1:behindInMarks op b=false:=by first | exact nobehind _ ⋯ ⋯ | rfl):PT X (.Compare a [op] [b] pos) (tB t):=by
 intro e s σ H Q I g;refine wpAny_isTrue_Compare1 (thn (h e s σ H _ I g) fun v m h1=>thn h1 fun u n j=>thn j fun c l ζ=>?_) h1;obtain ⟨x,f,I1,k,i⟩:=ζ;obtain ⟨d,rfl,q⟩:=i;cases k;exact wpAny_truthy_bool ⟨f,I1,q⟩
theorem Jbb {e:Expr} {t:TE} (h:PE X e t) (he:∀ whole,isTrue e X.env whole=(do let v <- whole;standAt e.pos;holding [v] (truthy v)):=by intro _;rfl):PT X e (tB t):=by
 intro a s σ H Q I c;refine isTrue_plain (thn (h a s σ H _ I c) fun v i ζ=>?_) (he _);obtain ⟨x,b,I1,f,g⟩:=ζ;obtain ⟨d,rfl,q⟩:=g;cases f;exact wpAny_truthy_bool ⟨b,I1,q⟩
variable {tA tB':TT} {rest:List Expr}
def tAnd (t u:TT):TT:=fun σ H Q=>t σ H fun c H1=>if c=true then u σ H1 Q else Q false H1
def tOr (t u:TT):TT:=fun σ H Q=>t σ H fun c H1=>if c=true then Q true H1 else u σ H1 Q
def tNot (t:TT):TT:=fun σ H Q=>t σ H fun c H1=>Q (!c) H1
theorem Jdf (ha:PT X a tA):PW X (.BoolOp .And [a] pos) tA:=by
 intro f b s σ H Q I h;refine isTrue_and (thn (ha b s σ H Q I h) fun c d e=>?_);cases c with
 | true=>exact isTrue_and_nil e
 | false=>exact e
theorem JbK (ha:PT X a tA):PW X (.BoolOp .Or [a] pos) tA:=by
 intro f b s σ H Q I h;refine isTrue_or (thn (ha b s σ H Q I h) fun c d e=>?_);cases c with
 | false=>exact isTrue_or_nil e
 | true=>exact e
theorem JeA (ha:PT X a tA) (hb:PW X (.BoolOp .And (b::rest) pos) tB'):PW X (.BoolOp .And (a::b::rest) pos) (tAnd tA tB'):=by
 intro i d s σ H Q I h;refine isTrue_and (thn (ha d s σ H _ I h) fun c g ⟨e,I1,f⟩=>?_);cases c with
 | true=>exact hb i d g σ e Q I1 f
 | false=>exact ⟨e,I1,f⟩
theorem pw_or (ha:PT X a tA) (hb:PW X (.BoolOp .Or (b::rest) pos) tB'):PW X (.BoolOp .Or (a::b::rest) pos) (tOr tA tB'):=by
 intro i d s σ H Q I h;refine isTrue_or (thn (ha d s σ H _ I h) fun c g ⟨e,I1,f⟩=>?_);cases c with
 | true=>exact ⟨e,I1,f⟩
 | false=>exact hb i d g σ e Q I1 f
theorem JbF (ha:PT X a tA):PT X (.UnaryOp .Not a pos) (tNot tA):=by
 intro b s σ H Q I h;exact isTrue_not (ha b s σ H (fun c d=>Q (!c) d) I h)
def tAndV (ta tb:TE):TE:=fun σ H Q=>ta σ H fun x H1=>∃ c,x=.bl c/\if c=true then tb σ H1 Q else Q (.bl false) H1
def tOrV (ta tb:TE):TE:=fun σ H Q=>ta σ H fun x H1=>∃ c,x=.bl c/\if c=true then Q (.bl true) H1 else tb σ H1 Q
def tNotV (ta:TE):TE:=fun σ H Q=>ta σ H fun x H1=>∃ c,x=.bl c/\Q (.bl (!c)) H1
theorem Jdm {op} {t:TE} (h:PE X a t):PE X (.BoolOp op [a] pos) t:=fun b s σ H Q I c=>BoolOp_one (h b s σ H Q I c)
theorem Jdl (ha:PE X a ta) (hb:PE X (.BoolOp .And (b::rest) pos) tb):PE X (.BoolOp .And (a::b::rest) pos) (tAndV ta tb):=by
 intro d s σ H Q I h;refine BoolOp_and (thn (ha d s σ H _ I h) fun v g ζ=>?_);obtain ⟨x,f,I1,i,e⟩:=ζ;obtain ⟨c,rfl,e⟩:=e;cases i;refine wpAny_truthy_bool ?_;cases c with
 | true=>exact hb d g σ f Q I1 e
 | false=>exact ⟨.bl false,f,I1,rfl,e⟩
theorem pe_or (ha:PE X a ta) (hb:PE X (.BoolOp .Or (b::rest) pos) tb):PE X (.BoolOp .Or (a::b::rest) pos) (tOrV ta tb):=by
 intro d s σ H Q I h;refine BoolOp_or (thn (ha d s σ H _ I h) fun v g ζ=>?_);obtain ⟨x,f,I1,i,e⟩:=ζ;obtain ⟨c,rfl,e⟩:=e;cases i;refine wpAny_truthy_bool ?_;cases c with
 | false=>exact hb d g σ f Q I1 e
 | true=>exact ⟨.bl true,f,I1,rfl,e⟩
theorem JgY (ha:PE X a ta):PE X (.UnaryOp .Not a pos) (tNotV ta):=by
 intro b s σ H Q I h;refine UnaryOp_ (thn (ha b s σ H _ I h) fun v g ζ=>?_);obtain ⟨x,e,I1,f,d⟩:=ζ;obtain ⟨c,rfl,d⟩:=d;cases f;exact not_of (wpAny_truthy_bool ⟨.bl (!c),e,I1,rfl,d⟩)
def tIf (t:TT) (ta tb:TE):TE:=fun σ H Q=>t σ H fun c H1=>if c=true then ta σ H1 Q else tb σ H1 Q
end
def SqL (K:W.Frag) (H:Hp) (a:Addr) (xs:List V):Prop :=
 Rd H a (.lst xs) \/
  ∃ (o:Obj) (its:Array Value) (n:Nat),K.lookup a=some o/\o.cls=.type "list"/\o.dict=none/\o.data=.seq its n/\its.size<=sizeLine/\Vals xs its.toList
def SqT (K:W.Frag) (H:Hp) (a:Addr) (xs:List V):Prop :=
 Rd H a (.tup xs) \/
  ∃ (o:Obj) (its:Array Value) (n:Nat),K.lookup a=some o/\o.cls=.type "tuple"/\o.data=.seq its n/\its.size<=sizeLine/\Vals xs its.toList
def absV:Value->Option V
 | .none=>some .non
 | .bool b=>some (.bl b)
 | .int i _=>some (.int i)
 | .str x _=>some (.str x)
 | .bytes b _=>some (.byt b)
 | .float b _=>some (.flt b)
 | .ref a=>some (.ref a)
 | .type n=>some (.ty n)
 | _=>none
theorem RelV.abs {x:V} {u:Value} (r:RelV x u):absV u=some x:=by
 cases x with
 | non=>cases r;rfl
 | bl _=>cases r;rfl
 | int _=>obtain ⟨t,rfl⟩:=r;rfl
 | str _=>obtain ⟨t,rfl⟩:=r;rfl
 | byt _=>obtain ⟨t,rfl⟩:=r;rfl
 | flt _=>obtain ⟨t,rfl⟩:=r;rfl
 | ref _=>cases r;rfl
 | ty _=>cases r;rfl
theorem RelV.inj {x y:V} {u:Value} (r:RelV x u) (q:RelV y u):x=y:=Option.some.inj (r.abs.symm.trans q.abs)
theorem Vals.inj:∀ {xs ys:List V} {us:List Value},Vals xs us->Vals ys us->xs=ys
 | _,_,_, .nil, .nil=>rfl
 | _,_,_, .cons r t, .cons r' t'=>by rw [r.inj r',Vals.inj t t']
section
variable {X:Cx} {pins:List (Addr × Obj)} {σ : St} {H:Hp} {s:Shared} {a:Addr} {xs ys:List V}
theorem SqL.of {K:W.Frag} (h:H a=some (.lst xs)):SqL K H a xs:=.inl (.inl h)
theorem SqT.of {K:W.Frag} (h:H a=some (.tup xs)):SqT K H a xs:=.inl (.inl h)
theorem Inv.list (I:Inv X pins σ H s) (h:SqL X.K H a xs):∃ its:List Value,Vals xs its/\PlainL s.heap a its.toArray/\xs.length<=sizeLine:=by
 rcases h with h | ⟨o,its,n,hk,hc,hd,hs,hz,r⟩
 ·obtain ⟨z,its,n,r,e⟩:=h.ok I.hok;exact ⟨its,r,⟨_,n,e,rfl,rfl,rfl⟩,z⟩
 ·refine ⟨its.toList,r,⟨o,n,I.kIn a o hk,hc,hd,by simpa using hs⟩,?_⟩;have e:=r.length;simp only [Array.length_toList] at e;ac_nf
theorem Inv.tuple (I:Inv X pins σ H s) (h:SqT X.K H a xs):∃ its:List Value,Vals xs its/\IsTup s.heap a its.toArray/\xs.length<=sizeLine:=by
 rcases h with h | ⟨o,its,n,hk,hc,hs,hz,r⟩
 ·obtain ⟨z,its,r,p⟩:=h.ok I.hok;exact ⟨its,r,p,z⟩
 ·refine ⟨its.toList,r,⟨o,I.kIn a o hk,hc,n,by simpa using hs⟩,?_⟩;have e:=r.length;simp only [Array.length_toList] at e;ac_nf
theorem Inv.list_inj (I:Inv X pins σ H s) (h:SqL X.K H a xs) (h':SqL X.K H a ys):xs=ys:=by
 obtain ⟨c,r,⟨o,n,e,_,_,d⟩,_⟩:=I.list h;obtain ⟨b,i,⟨j,k,g,_,_,f⟩,_⟩:=I.list h';rw [e] at g;cases g;rw [d] at f;injection f with d1 _
 have : c=b:=by simpa using congrArg Array.toList d1
 subst this;exact r.inj i
theorem Inv.tuple_inj (I:Inv X pins σ H s) (h:SqT X.K H a xs) (h':SqT X.K H a ys):xs=ys:=by
 obtain ⟨c,r,⟨o,e,_,n,d⟩,_⟩:=I.tuple h;obtain ⟨b,i,⟨j,g,_,k,f⟩,_⟩:=I.tuple h';rw [e] at g;cases g;rw [d] at f;injection f with d1 _
 have : c=b:=by simpa using congrArg Array.toList d1
 subst this;exact r.inj i
end
abbrev Cx.wish (X:Cx) (E:Value->Shared->Prop):Cx:={ X with xe:=E }
abbrev Cx.nox (X:Cx):Cx:=X.wish fun _ _=>False
theorem Cx.Ok.wish {X:Cx} (ok:X.Ok) (E:Value->Shared->Prop):(X.wish E).Ok :=
 ⟨ok.mod,ok.kind,ok.glob,ok.blt,ok.above,ok.inj,ok.has,ok.cab,ok.hd,ok.frames,ok.stk,ok.exf,ok.bs,ok.bsz,ok.noex,ok.exfs,ok.funs,ok.frf⟩
theorem Cx.Ok.unwish {X:Cx} {E:Value->Shared->Prop} (ok:(X.wish E).Ok):X.Ok :=
 ⟨ok.mod,ok.kind,ok.glob,ok.blt,ok.above,ok.inj,ok.has,ok.cab,ok.hd,ok.frames,ok.stk,ok.exf,ok.bs,ok.bsz,ok.noex,ok.exfs,ok.funs,ok.frf⟩
section
variable {X:Cx} {pins:List (Addr × Obj)} {σ : St} {H:Hp} {s:Shared} {E:Value->Shared->Prop}
theorem Inv.wish (I:Inv X pins σ H s) (E:Value->Shared->Prop):Inv (X.wish E) pins σ H s:=⟨I.ok.wish E,I.os,I.bare,I.base,I.loc,I.cell,I.free,I.freeC,I.pin,I.hok,I.len⟩
theorem Inv.unwish (I:Inv (X.wish E) pins σ H s):Inv X pins σ H s:=⟨I.ok.unwish,I.os,I.bare,I.base,I.loc,I.cell,I.free,I.freeC,I.pin,I.hok,I.len⟩
theorem SP.unwish {D:Ends} {f:Flow} {s':Shared} (h:SP (X.wish E) pins D f s'):SP X pins D f s':=by
 cases f with
 | next=>obtain ⟨σ',a,I,q⟩:=h;exact ⟨σ',a,I.unwish,q⟩
 | brk=>obtain ⟨σ',a,I,q⟩:=h;exact ⟨σ',a,I.unwish,q⟩
 | cont=>obtain ⟨σ',a,I,q⟩:=h;exact ⟨σ',a,I.unwish,q⟩
 | ret u=>obtain ⟨v,σ',a,I,r,q⟩:=h;exact ⟨v,σ',a,I.unwish,r,q⟩
theorem PSs.nox {st:List Stmt} {t:TS} (h:PSs X.nox st t):PSs X st t:=fun a s σ H D I b=>
 wpAny_mono (h a s σ H D (I.wish _) b) (fun _ _ q=>q.unwish) fun _ _ z=>False.elim z
end
section
variable {X:Cx} {st:Stmt} {rest:List Stmt} {t u:TS} {e:Expr} {te:TE} {pos:Pos}
def tNext:TS:=fun D σ H=>D.nx σ H
def tSeq (t u:TS):TS:=fun D σ H=>t { D with nx:=u D } σ H
theorem Jap:PSs X [] tNext:=fun _ _ σ H _ I h=>wpAny_execs_nil ⟨σ,H,I,h⟩
theorem Jab (h1:PS X st t) (h2:PSs X rest u):PSs X (st::rest) (tSeq t u):=by
 intro a s σ H D I h;refine wpAny_execs_cons (thn (h1 a s σ H { D with nx:=u D } I h) fun f b q=>?_);cases f with
 | next=>
  obtain ⟨σ',c,I',q⟩:=q;exact h2 a b σ' c D I' q
 | ret v=>exact q
 | brk=>exact q
 | cont=>exact q
theorem Jaf (h1:PS X st t):PSs X [st] t:=by
 intro a s σ H D I h;refine wpAny_execs_cons (thn (h1 a s σ H D I h) fun f b q=>?_);cases f with
 | next=>exact wpAny_execs_nil q
 | ret v=>exact q
 | brk=>exact q
 | cont=>exact q
theorem Inv.quiet {pins:List (Addr × Obj)} {σ : St} {H:Hp} {s:Shared} (I:Inv X pins σ H s):interactive X.env=false:=by simp [interactive,I.ok.kind]
def tDrop (te:TE):TS:=fun D σ H=>te σ H fun _ H1=>D.nx σ H1
theorem Ja0 (he:PE X e te) (hs:swapsWith e none pos.line X.env=pure false:=by rfl):PS X (.Expr e pos) (tDrop te):=by
 intro a s σ H D I h;exact wpAny_Expr_any (thn (he a s σ H _ I h) fun v d ⟨x,b,I1,f,c⟩=>⟨σ,b,I1,c⟩) I.quiet hs
def tRet (te:TE):TS:=fun D σ H=>te σ H D.rt
theorem Jam (he:PE X e te):PS X (.Return (some e) pos) (tRet te):=by
 intro a s σ H D I h;exact wpAny_Return_some (thn (he a s σ H _ I h) fun v f ⟨x,b,I1,c,d⟩=>⟨x,σ,b,I1,c,d⟩)
def tRetN:TS:=fun D _ H=>D.rt .non H
def tIfS (c:TT) (t u:TS):TS:=fun D σ H=>c σ H fun b H1=>if b=true then t D σ H1 else u D σ H1
theorem ps_if {c:Expr} {a b:List Stmt} {tc:TT} (hc:PT X c tc) (ha:PSs X a t) (hb:PSs X b u):PS X (.If c a b pos) (tIfS tc t u):=by
 intro e s σ H D I h;refine wpAny_If (thn (hc e s σ H _ I h) fun d f ⟨g,I1,i⟩=>?_);cases d with
 | true=>exact ha e f σ g D I1 i
 | false=>exact hb e f σ g D I1 i
end
abbrev TG:=V->St->Hp->(St->Hp->Prop)->Prop
abbrev TGs:=List V->St->Hp->(St->Hp->Prop)->Prop
def PG (X:Cx) (target:Expr) (t:TG):Prop :=
 ∀ (pins:List (Addr × Obj)) (s:Shared) (σ : St) (H:Hp) (v:V) (u:Value) (Q:St->Hp->Prop),Inv X pins σ H s->RelV v u->t v σ H Q ->
  wpAny (model X.prog X.w) X.A (assign target X.env u) (fun _ s'=>∃ σ' H',Inv X pins σ' H' s'/\Q σ' H') X.xe s
def PGs (X:Cx) (ts:List Expr) (t:TGs):Prop :=
 ∀ (pins:List (Addr × Obj)) (s:Shared) (σ : St) (H:Hp) (vs:List V) (us:List Value) (Q:St->Hp->Prop),Inv X pins σ H s->Vals vs us->t vs σ H Q ->
  wpAny (model X.prog X.w) X.A (assignInOrder ((assignEach ts X.env).map (·.2)) us) (fun _ s'=>∃ σ' H',Inv X pins σ' H' s'/\Q σ' H') X.xe s
section
variable {X:Cx} {pos:Pos}
def gName (i:Nat):TG:=fun v σ H Q=>Q (σ.set i (some v)) H
theorem Jar {i:Nat} {x:Str} (hN:X.N.Nodup) (hi:X.N[i]?=some x) (hx:Loc X.env.scope x) (hf:X.fn x=true\/X.env.scope.names.lookup x=some .local:=by first | exact .inl rfl | exact .inr rfl | assumption):PG X (.Name x pos) (gName i):=by
 intro a s σ H v u Q I r h;exact wpAny_assign_Name (Jdy I hN hi hx r (fun b I'=>⟨_,H,I',h⟩) hf)
def gNil:TGs:=fun vs σ H Q=>vs=[]/\Q σ H
def gCons (t:TG) (u:TGs):TGs:=fun vs σ H Q=>∃ v r,vs=v::r/\t v σ H fun σ' H'=>u r σ' H' Q
theorem Jde:PGs X [] gNil:=by
 intro a s σ H c b Q I r h;obtain ⟨e,h⟩:=h;subst e;cases r;exact assignInOrder_nil ⟨σ,H,I,h⟩
theorem JaF {e:Expr} {es:List Expr} {t:TG} {u:TGs} (h1:PG X e t) (h2:PGs X es u)
  (hs:(assignEach (e::es) X.env).map (·.2)=assign e X.env::(assignEach es X.env).map (·.2):=by rfl):PGs X (e::es) (gCons t u):=by
 intro a s σ H i g Q I r h;obtain ⟨v,j,d,h⟩:=h;subst d;cases r with
 | cons r rr=>
  rw [hs];refine assignInOrder_cons (thn (h1 a s σ H _ _ _ I r h) fun _ b ⟨σ1,c,I1,f⟩=>?_);exact h2 a b σ1 c _ _ Q I1 rr f
def gTup (K:W.Frag) (n:Nat) (t:TGs):TG:=fun v σ H Q=>∃ a xs,v=.ref a/\SqT K H a xs/\xs.length=n/\t xs σ H Q
theorem JfC {es:List Expr} {k:Nat} {t:TGs} {n:Nat} (hc:X.calm=true) (h:PGs X es t)
  (hn:(assignEach es X.env).length=n:=by rfl) (hst:(assignEach es X.env).findIdx? (·.1)=none:=by rfl):PG X (.Tuple es k pos) (gTup X.K n t):=by
 intro c s σ H v u Q I r d;obtain ⟨a,g,i,p,j,d⟩:=d;subst i;cases r;obtain ⟨l,f,w,x⟩:=I.tuple p;refine assign_Tuple_tuple (I.ok.hd hc) w (by simp [hn, <- j,f.length]) hst fun m q=>?_;have I1:Inv X c σ H { s with heap:=m }:=I.kept (t':=s.toks) fun b o e=>q b o (Nat.ne_of_lt (Heap.lt_size e)) e;exact h c _ σ H g _ Q I1 (by simpa using f) d
def tAsg (te:TE) (g:TG):TS:=fun D σ H=>te σ H fun x H1=>g x σ H1 D.nx
theorem Jk8 {tg e:Expr} {te:TE} {g:TG} (he:PE X e te) (hg:PG X tg g) (hs:swapsWithSole [tg] e pos.line X.env=pure false:=by rfl) (hw:swappedStores [tg] e X.env=pure none:=by rfl)
  (h1:(assignEach [tg] X.env).map (·.2)=[assign tg X.env]:=by rfl):PS X (.Assign [tg] e pos) (tAsg te g):=by
 intro a s σ H D I h;refine wpAny_Assign_stores (thn (he a s σ H _ I h) fun v b ζ=>?_) hs hw;obtain ⟨x,c,I1,d,f⟩:=ζ;rw [h1];exact thn (hg a b σ c x v _ I1 d f) fun _ i q=>q
theorem Jaj {i:Nat} {x:Str} {e:Expr} {te:TE} {pos':Pos} (hN:X.N.Nodup) (hi:X.N[i]?=some x) (hx:Loc X.env.scope x) (he:PE X e te) (hs:swapsWith e (some (.Name x pos')) pos.line X.env=pure false:=by rfl) (hf:X.fn x=true\/X.env.scope.names.lookup x=some .local:=by first | exact .inl rfl | exact .inr rfl | assumption) :
  PS X (.Assign [.Name x pos'] e pos) (tAsg te (gName i)):=by
 intro a s σ H D I h;refine wpAny_Assign_Name (thn (he a s σ H _ I h) fun v f ζ=>?_) hs;obtain ⟨y,b,I1,c,d⟩:=ζ;exact Jdy I1 hN hi hx c (fun g I2=>⟨_,b,I2,d⟩) hf
def tPar (i j:Nat) (ta:TA):TS:=fun D σ H=>ta σ H fun vs H1=>∃ v w,vs=[v,w]/\D.nx ((σ.set i (some v)).set j (some w)) H1
theorem Jk9 {i j:Nat} {x y:Str} {a b:Expr} {ta:TA} {px py pt:Pos} {kt k2 pt2} (hc:X.calm=true) (hN:X.N.Nodup) (hi:X.N[i]?=some x) (hj:X.N[j]?=some y) (hij:i≠j)
  (hx:X.env.scope.names.lookup x=some .local) (hy:X.env.scope.names.lookup y=some .local) (ha:PA X [a,b] ta)
  (hw:swappedStores [.Tuple [.Name x px, .Name y py] kt pt] (.Tuple [a,b] k2 pt2) X.env=pure (some [x,y]))
  (hs:swapsWithSole [.Tuple [.Name x px, .Name y py] kt pt] (.Tuple [a,b] k2 pt2) pos.line X.env=pure false:=by rfl) :
  PS X (.Assign [.Tuple [.Name x px, .Name y py] kt pt] (.Tuple [a,b] k2 pt2) pos) (tPar i j ta):=by
 intro c s σ H D I h;rw [exec_Assign_arm];refine wpAny_bind (wpAny_standAt ?_);rw [hs];refine wpAny_bind (wpAny_pure ?_);rw [if_neg ⋯];refine wpAny_bind (Tuple_ (thn (ha _ c s σ H _ I h) fun t g ζ=>?_));obtain ⟨C,n,I1,u,l⟩:=ζ;obtain ⟨v,w,r,l⟩:=l;subst r;obtain ⟨f,d,rfl,z,k⟩:∃ f d,t=[f,d]/\RelV v f/\RelV w d:=by
  cases u with
  | cons p q=>
   cases q with
   | cons p' q'=>
    cases q';exact ⟨_,_,rfl,p,p'⟩
 refine wpAny_newObj_type ?_ (by show 2<=sizeLine;decide);have I2:Inv X c σ n { g with heap:=g.heap.push { cls:=.type "tuple",data:=.seq [f,d].toArray } }:=I1.kept (t':=g.toks) fun b o e=>Heap.get?_push_of_some _ e;rw [hw];refine wpAny_bind (wpAny_pure ?_);show wpAny (model X.prog X.w) X.A (do rule "assign.swapped-stores";let items <- unpackItems (.ref g.heap.objs.size) 2 none;assignInOrder [fun v=>bindName X.env y v,fun v=>bindName X.env x v] items.reverse;pure Flow.next) _ _ _;refine wpAny_bind (wpAny_rule (wpAny_bind (unpackItems_tuple (items:=#[f,d]) (I.ok.hd hc) (IsTup.new g.heap _) fun h' m=>?_)));have I3:=I2.kept (h':=h') (t':=g.toks) fun b o e=>m b o (Nat.ne_of_lt (Heap.lt_size e)) e;show wpAny _ _ (assignInOrder [fun v=>bindName X.env y v,fun v=>bindName X.env x v] [d,f] >>= fun _=>pure Flow.next) _ _ _;refine wpAny_bind (assignInOrder_cons (wpAny_bindName (Jdy I3 hN hj (.inl hy) k (fun E I4=>?_) (.inr hy))));refine assignInOrder_cons (wpAny_bindName (Jdy I4 hN hi (.inl hx) z (fun B I5=>assignInOrder_nil (wpAny_pure ?_)) (.inr hx)));rw [List.set_comm _ _ (Ne.symm hij)] at I5;exact ⟨_,n,I5,l⟩
end
section
variable {X:Cx} {pos:Pos}
def Jlr (c:TT) (tb:TS):TS:=fun D σ H=>∃ W:Nat->St->Hp->Prop,(∃ m,W m σ H)/\∀ m σ H,W m σ H ->
 c σ H fun b H1=>if b=true then ∃ N:St->Hp->Prop,(∀ σ' H',N σ' H'->∃ m',m'<m/\W m' σ' H')/\tb { D with nx:=N,ct:=N,bk:=D.nx } σ H1 else D.nx σ H1
theorem JeZ {c:Expr} {body:List Stmt} {tc:TT} {tb:TS} (hp:PassesOwn (model X.prog X.w) X.A X.env X.xe) (hc:PT X c tc) (hb:PSs X body tb):PS X (.While c body [] pos) (Jlr tc tb):=by
 intro a s σ H D I h;obtain ⟨W,⟨x,r⟩,e⟩:=h;refine wpAny_While (codeAny_whileLoop (fun n t=>∃ σ' H',Inv X a σ' H' t/\W n σ' H') ?_ x ⟨σ,H,I,r⟩);rintro n y ⟨σ1,o,I1,u⟩;refine wpAny_passesOwn hp (thn (hc a y σ1 o _ I1 (e n σ1 o u)) fun b z ⟨p,I2,i⟩=>?_);cases b with
 | true=>
  obtain ⟨N,q,i⟩:=i;rw [if_pos rfl];refine wpAny_passesOwn hp (thn (hb a z σ1 p _ I2 i) fun f B g=>?_);cases f with
  | next=>
   obtain ⟨σ3,d,I3,j⟩:=g;obtain ⟨m,k,l⟩:=q σ3 d j;exact ⟨m,k,σ3,d,I3,l⟩
  | cont=>
   obtain ⟨σ3,d,I3,j⟩:=g;obtain ⟨m,k,l⟩:=q σ3 d j;exact ⟨m,k,σ3,d,I3,l⟩
  | brk=>exact g
  | ret v=>exact g
 | false=>
  rw [if_neg Bool.false_ne_true];exact wpAny_execs_nil ⟨σ1,p,I2,i⟩
end
structure It where
 go:Nat->Hp->Prop
 yld:Nat->Hp->V->Hp->Prop
 stop:Nat->Hp->Prop
def FpOk (X:Cx) (pins:List (Addr × Obj)) (H:Hp) (b:Addr):Prop :=
 H b=none/\b≠X.env.locals/\b∉X.fs/\(b∈X.ex\/X.s₀.heap.objs.size<=b)/\(∀ x c,X.env.cells.lookup x=some c->c≠b)/\∀ p∈X.pn++pins,p.1≠b
theorem Inv.fpOk {X:Cx} {pins:List (Addr × Obj)} {σ : St} {H H':Hp} {s:Shared} {b:Addr} (I:Inv X pins σ H s) (hb:s.heap.objs.size<=b) (hn:H' b=none):FpOk X pins H' b:=by
 refine ⟨hn,Nat.ne_of_gt (Nat.lt_of_lt_of_le I.lt hb),I.nofs hb, .inr (Nat.le_trans I.sz hb),fun x c e z=>?_,fun p a z=>?_⟩
 ·obtain ⟨v,q⟩:=I.cell x c e;exact absurd (Nat.lt_of_lt_of_le q.lt (by rw [z];exact hb)) (Nat.lt_irrefl _)
 ·exact absurd (Nat.lt_of_lt_of_le (Heap.lt_size (I.pin p a).1) (by rw [z];exact hb)) (Nat.lt_irrefl _)
structure Turn (P:Program) (w:World) (K:W.Frag) (tg:Expr) (J:It) (fp:List Addr) (it:Addr) (tn:Nat->Heap->Prop):Prop where
 mem:it∈fp
 obj:∀ i h,tn i h->∀ b∈fp, ∃ o,h.get? b=some o/\∀ v,o.data≠.cell v
 keep:∀ i h h',tn i h->(∀ b∈fp, ∀ o,h.get? b=some o->h'.get? b=some o)->tn i h'
 item:∀ (X:Cx),X.prog=P->X.w=w->X.K=K->X.calm=true->∀ (i:Nat) (pins:List (Addr × Obj)) (s:Shared) (σ : St) (H:Hp) (E:Value->Shared->Prop),Inv X pins σ H s->(∀ b∈fp,FpOk X pins H b)->tn i s.heap->J.go i H ->
  wpAny (model P w) X.A (pyNext (.ref it)) (fun r s1=>∃ u,r=some u /\
   wpAny (model P w) X.A (letOwnedTupleGo tg (.ref it) u) (fun _ s2=>∃ x H',Inv X pins σ H' s2/\RelV x u/\J.yld i H x H'/\tn (i+1) s2.heap/\∀ b∈fp,H' b=none) E s1) E s
 done:∀ (X:Cx),X.prog=P->X.w=w->X.K=K->X.calm=true->∀ (i:Nat) (pins:List (Addr × Obj)) (s:Shared) (σ : St) (H:Hp) (E:Value->Shared->Prop),Inv X pins σ H s->(∀ b∈fp,FpOk X pins H b)->tn i s.heap->J.stop i H ->
  wpAny (model P w) X.A (pyNext (.ref it)) (fun r s1=>r=none/\Inv X pins σ H s1) E s
 self:∀ (A:Around) (i:Nat) (s:Shared) (Q:Value->Shared->Prop) (E:Value->Shared->Prop),tn i s.heap->Q (.ref it) s->wpAny (model P w) A (pyIter (.ref it)) Q E s
abbrev TI:=St->Hp->(It->Hp->Prop)->Prop
def PIE (X:Cx) (pins:List (Addr × Obj)) (σ : St) (tg:Expr) (R:It->Hp->Prop) (itv:Value) (s2:Shared):Prop :=
 ∃ (it:Addr) (fp:List Addr) (tn:Nat->Heap->Prop) (J:It) (H':Hp),itv=.ref it/\Inv X pins σ H' s2/\Turn X.prog X.w X.K tg J fp it tn/\tn 0 s2.heap/\(∀ b∈fp,FpOk X pins H' b)/\R J H'
def PI (X:Cx) (tg iter:Expr) (wi:TI):Prop :=
 ∀ (pins:List (Addr × Obj)) (s:Shared) (σ : St) (H:Hp) (R:It->Hp->Prop),Inv X pins σ H s->wi σ H R ->
  wpAny (model X.prog X.w) X.A (eval iter X.env) (fun v s1=>wpAny (model X.prog X.w) X.A (pyIter v) (PIE X pins σ tg R) X.xe s1) X.xe s
theorem go_of {M:Model} {A:Around} {E:Value->Shared->Prop} {s:Shared} {tg:Expr} {it:Addr} {u:Value} {o:Obj} {n:String} {vs:Array Value} {Q:Unit->Shared->Prop} (ho:s.heap.get? it=some o) (hc:o.cls=.type n) (hd:o.data=.fields vs)
    (hn:["enumerate","zip","dict_itemiterator","dict_reverseitemiterator","odict_iterator","itertools.zip_longest","itertools.pairwise"].contains n=false) (hQ:Q () s):wpAny M A (letOwnedTupleGo tg (.ref it) u) Q E s:=by
  unfold letOwnedTupleGo;cases tg <;> first
    | exact wpAny_pure hQ
    | (cases u <;> first
        | exact wpAny_pure hQ
        | (refine wpAny_bind (wpAny_load ho ?_)
           rw [hc,hd];show wpAny M A (if (["enumerate","zip","dict_itemiterator","dict_reverseitemiterator","odict_iterator","itertools.zip_longest","itertools.pairwise"].contains n&&vs[0]? == some (rawInt _))=true then _ else _) Q E s;rw [if_neg (by intro h;rw [hn,Bool.false_and] at h;cases h)];exact wpAny_pure hQ))
def Itl (K:W.Frag) (a:Addr):It :=
 ⟨fun i H=>∃ xs x,SqL K H a xs/\xs[i]?=some x,fun i H x H'=>H'=H/\∀ xs,SqL K H a xs->xs[i]?=some x,fun i H=>∃ xs,SqL K H a xs/\xs.length<=i⟩
def Itt (K:W.Frag) (a:Addr):It :=
 ⟨fun i H=>∃ xs x,SqT K H a xs/\xs[i]?=some x,fun i H x H'=>H'=H/\∀ xs,SqT K H a xs->xs[i]?=some x,fun i H=>∃ xs,SqT K H a xs/\xs.length<=i⟩
def Itr (lo:Int) (n:Nat):It:=⟨fun i _=>i<n,fun i H x H'=>H'=H/\x=.int (lo+i),fun i _=>n<=i⟩
theorem JiD {P:Program} {w:World} {K:W.Frag} {tg:Expr} (a it:Addr):Turn P w K tg (Itl K a) [it] it (fun i h=>h.IsListIter it a i) where
 mem:=by simp
 obj:=fun i h f b j=>by
  have e:b=it:=by simpa using j
  subst e;obtain ⟨o,e,c,d⟩:=f;exact ⟨o,e,fun v z=>by rw [d] at z;cases z⟩
 keep:=fun i h m f k=>f.at fun o e=>k it (by simp) o e
 item:=by
  intro X M y J N i g s σ H E I q f A;subst M y J;obtain ⟨O,x,n,C⟩:=A;obtain ⟨t,r,p,Q⟩:=I.list n;obtain ⟨u,V,U⟩:=r.get C;obtain ⟨L,B,T,D,G,F⟩:=q it (by simp);refine wpAny_pyNext_list_item f p.isList (x:=u) (by simpa using V) fun m l S=>?_;have I1:Inv X g σ H { s with heap:=m }:=I.turned (t':=s.toks) (fun b o j e=>(S.2 b j).trans e) L B D G F;obtain ⟨o,e,c,d⟩:=id l;exact ⟨u,rfl,go_of (s:={ s with heap:=m }) e c d ⋯ ⟨x,H,I1,U,⟨rfl,fun Z Y=>by rw [I.list_inj Y n];exact C⟩,l,fun b j=>(q b j).1⟩⟩
 done:=by
  intro X M y J N i g s σ H E I q f A;subst M y J;obtain ⟨O,n,C⟩:=A;obtain ⟨t,r,p,Q⟩:=I.list n;obtain ⟨L,B,T,D,G,F⟩:=q it (by simp);have hl:=r.length;exact wpAny_pyNext_list_end (I.ok.hd N) f p.isList (by simp;ac_nf) fun m R=>⟨rfl,I.turned (t':=s.toks) (fun b o j e=>R b o j e) L B D G F⟩
 self:=fun _ _ _ _ _ f h=>wpAny_pyIter_listiter f h
theorem Jhr {P:Program} {w:World} {K:W.Frag} {tg:Expr} (a it:Addr):Turn P w K tg (Itt K a) [it] it (fun i h=>h.IsTupleIter it a i) where
 mem:=by simp
 obj:=fun i h f b l=>by
  have e:b=it:=by simpa using l
  subst e;obtain ⟨o,e,c,d⟩:=f;exact ⟨o,e,fun v z=>by rw [d] at z;cases z⟩
 keep:=fun i h n f k=>f.at fun o e=>k it (by simp) o e
 item:=by
  intro X M y J N i g s σ H E I r f A;subst M y J;obtain ⟨O,x,q,C⟩:=A;obtain ⟨j,t,p,Q⟩:=I.tuple q;obtain ⟨u,V,U⟩:=t.get C;obtain ⟨L,B,T,D,G,F⟩:=r it (by simp);refine wpAny_pyNext_tuple_item f (show s.heap.IsTuple a j.toArray from p) (x:=u) (by simpa using V) fun n m S=>?_;have I1:Inv X g σ H { s with heap:=n }:=I.turned (t':=s.toks) (fun b o l e=>(S.2 b l).trans e) L B D G F;obtain ⟨o,e,c,d⟩:=id m;exact ⟨u,rfl,go_of (s:={ s with heap:=n }) e c d ⋯ ⟨x,H,I1,U,⟨rfl,fun Z Y=>by rw [I.tuple_inj Y q];exact C⟩,m,fun b l=>(r b l).1⟩⟩
 done:=by
  intro X M y J N i g s σ H E I r f A;subst M y J;obtain ⟨O,q,C⟩:=A;obtain ⟨j,t,p,Q⟩:=I.tuple q;obtain ⟨L,B,T,D,G,F⟩:=r it (by simp);have hl:=t.length;exact wpAny_pyNext_tuple_end (I.ok.hd N) f (show s.heap.IsTuple a j.toArray from p) (by simp;ac_nf) fun n R=>⟨rfl,I.turned (t':=s.toks) (fun b o l e=>R b o l e) L B D G F⟩
 self:=fun _ _ _ _ _ f h=>wpAny_pyIter_tupleiter f h
theorem Jhq {P:Program} {w:World} {K:W.Frag} {tg:Expr} (it:Addr) (lo:Int) (n:Nat):Turn P w K tg (Itr lo n) [it] it (fun i h=>IsRangeIter h it (lo+(i:Nat)*1) ((n:Int)-(i:Nat)) 1) where
 mem:=by simp
 obj:=fun i h a b d=>by
  have e:b=it:=by simpa using d
  subst e;exact ⟨_,a,fun v z=>by
   have G:Data.fields _=Data.cell v:=z;cases G⟩
 keep:=fun i h g a k=>k it (by simp) _ a
 item:=by
  intro X A l x p i c s σ H E I j a m;subst A l x;obtain ⟨y,q,J,r,u,B⟩:=j it (by simp);have W:=Walks.range (prog:=X.prog) (w:=X.w) (I.ok.hd p) it lo 1 n;refine W.item i s _ _ m a fun v g C F f L=>?_;obtain ⟨t,rfl⟩:=F;have I1:Inv X c σ H { s with heap:=g,toks:=C }:=I.turned (fun b o d e=>L b o (by simpa using d) e) y q r u B;refine ⟨_,rfl,go_of (s:={ s with heap:=g,toks:=C }) (n:="range_iterator") f rfl rfl ⋯ ⟨.int (lo+i),H,I1,⟨t,?_⟩,⟨rfl,rfl⟩,f,fun b d=>(j b d).1⟩⟩;rw [Int.mul_one]
 done:=by
  intro X A l x p i c s σ H E I j a m;subst A l x;obtain ⟨y,q,J,r,u,B⟩:=j it (by simp);exact wpAny_pyNext_range_end (I.ok.hd p) a (by have : n<=i:=m;ac_nf) fun g D=>⟨rfl,I.turned (t':=s.toks) (fun b o d e=>D b o d e) y q r u B⟩
 self:=fun _ _ _ _ _ a h=>wpAny_pyIter_rangeiter a h
section
variable {X:Cx} {tg:Expr}
theorem Ji8 {pins:List (Addr × Obj)} {σ : St} {H:Hp} {s:Shared} {R:It->Hp->Prop} {E:Value->Shared->Prop} {lo hi:Int} {t u v:Tok} {tk:Nat} (I:Inv X pins σ H s) (h1 : -(2 ^ 62)<=lo) (h2:lo<2 ^ 62) (h3 : -(2 ^ 62)<=hi) (h4:hi<2 ^ 62)
  (q:R (Itr lo (hi-lo).toNat) H):wpAny (model X.prog X.w) X.A (pyIter (.ref s.heap.objs.size)) (PIE X pins σ tg R) E { s with heap:=s.heap.push { cls:=.type "range",data:=.fields #[.int lo t, .int hi u, .int 1 v] },toks:=tk }:=by
 refine wpAny_pyIter_range (IsRange.new ..) (small_one h1 h2 h3 h4) ?_;have I1:Inv X pins σ H { s with heap:=s.heap.push { cls:=.type "range",data:=.fields #[.int lo t, .int hi u, .int 1 v] },toks:=tk }:=I.kept fun b o e=>Heap.get?_push_of_some _ e;refine ⟨(s.heap.push { cls:=.type "range",data:=.fields #[.int lo t, .int hi u, .int 1 v] }).objs.size,[(s.heap.push { cls:=.type "range",data:=.fields #[.int lo t, .int hi u, .int 1 v] }).objs.size],_,_,H,rfl,
  I1.kept (t':=tk) fun b o e=>Heap.get?_push_of_some _ e,Jhq _ lo (hi-lo).toNat,?_,fun b d=>?_,q⟩
 ·have c:lo+((0:Nat):Int)*1=lo:=by simp
  have a:(((hi-lo).toNat:Nat):Int)-((0:Nat):Int)=Builtin.Range.rangeSize lo hi 1:=by rw [rangeSize_one];split <;> ac_nf
  show IsRangeIter _ _ (lo+((0:Nat):Int)*1) ((((hi-lo).toNat:Nat):Int)-((0:Nat):Int)) 1;rw [c,a];exact Heap.get?_push_size _ rfl
 ·have e:b=(s.heap.push { cls:=.type "range",data:=.fields #[.int lo t, .int hi u, .int 1 v] }).objs.size:=by simpa using d
  subst e;exact I1.fpOk (Nat.le_refl _) (I1.hok.fresh (Nat.le_refl _))
def iRng1 (ta:TA):TI:=fun σ H R=>ta σ H fun vs H1=>∃ j:Int,vs=[.int j]/\-(2 ^ 62)<=j/\j<2 ^ 62/\R (Itr 0 j.toNat) H1
def iRng2 (ta:TA):TI:=fun σ H R=>ta σ H fun vs H1=>∃ i j:Int,vs=[.int i, .int j]/\(-(2 ^ 62)<=i/\i<2 ^ 62/\-(2 ^ 62)<=j/\j<2 ^ 62)/\R (Itr i (j-i).toNat) H1
theorem JcW {a:Expr} {ta:TA} {p pos:Pos} (hg:Gl X "range") (hm:X.mg "range"=none) (ha:PA X [a] ta) (hs:starEach [a] X.env=[(false,eval a X.env)]:=by rfl):PI X tg (.Call (.Name "range" p) [a] [] pos) (iRng1 ta):=by
 intro b s σ H R I h;refine Call_ (Jdj I hg hm boot_range (PyProof.Rows.callWith_type1 (thn (ha pos b s σ H _ I h) fun g i ζ=>?_) hs rfl));obtain ⟨l,k,I1,d,c⟩:=ζ;obtain ⟨j,e,c,f,q⟩:=c;subst e;cases d with
 | cons r rr=>
  cases rr;obtain ⟨t,rfl⟩:=r;exact call_range_1 (Ji8 I1 ∅ ∅ c f (by simpa using q))
def tFor (wi:TI) (g:TG) (tb:TS):TS:=fun D σ H=>wi σ H fun J H1=>∃ W:Nat->Nat->St->Hp->Prop,(∃ m,W 0 m σ H1)/\∀ i m σ H,W i m σ H ->
 (J.stop i H/\D.nx σ H)\/(J.go i H/\∃ N:St->Hp->Prop,(∀ σ' H',N σ' H'->∃ m',m'<m/\W (i+1) m' σ' H')/\∀ x H',J.yld i H x H'->g x σ H' fun σ2 H2=>tb { D with nx:=N,ct:=N,bk:=D.nx } σ2 H2)
def Jg0 (fp:List Addr) (h:Heap):List (Addr × Obj):=fp.filterMap fun b=>(h.get? b).map fun o=>(b,o)
theorem Jb6 {fp:List Addr} {h:Heap} {b:Addr} {o:Obj} (hb:b∈fp) (e:h.get? b=some o):(b,o)∈Jg0 fp h:=List.mem_filterMap.mpr ⟨b,hb,by rw [e];rfl⟩
theorem Jig {fp:List Addr} {h:Heap} {p:Addr × Obj} (hp:p∈Jg0 fp h):p.1∈fp/\h.get? p.1=some p.2:=by
 obtain ⟨b,c,e⟩:=List.mem_filterMap.mp hp;cases q:h.get? b with
 | none=>rw [q] at e;cases e
 | some o=>
  rw [q] at e;have a:(b,o)=p:=Option.some.inj e;subst a;exact ⟨c,q⟩
theorem Inv.pinned {pins:List (Addr × Obj)} {σ : St} {H:Hp} {s:Shared} {fp:List Addr} (I:Inv X pins σ H s) (hf:∀ b∈fp,FpOk X pins H b) (ho:∀ b∈fp, ∃ o,s.heap.get? b=some o/\∀ v,o.data≠.cell v):Inv X (pins++Jg0 fp s.heap) σ H s :=
 I.pins_of fun p f=>(mem_append.mp f).elim (fun z=>I.pin p (mem_append_right _ z)) fun z=>by
  obtain ⟨c,e⟩:=Jig z;obtain ⟨i,g,h,_⟩:=hf p.1 c;obtain ⟨o,a,d⟩:=ho p.1 c;rw [e] at a;cases a;exact ⟨e,i,g,h,d⟩
theorem Inv.unpinned {pins pl:List (Addr × Obj)} {σ : St} {H:Hp} {s:Shared} (I:Inv X (pins++pl) σ H s):Inv X pins σ H s:=I.pins_of fun p a=>I.pin p (mem_append_right _ (List.mem_append_left _ a))
theorem Ja7 {iter:Expr} {body:List Stmt} {wi:TI} {g:TG} {tb:TS} {pos:Pos} (hp:PassesOwn (model X.prog X.w) X.A X.env X.xe) (hc:X.calm=true) (hi:PI X tg iter wi) (hg:PG X tg g) (hb:PSs X body tb)
  (hs:∀ x,foldedSetIterable iter X.env x=pure x:=by intro _;rfl):PS X (.For tg iter body [] pos) (tFor wi g tb):=by
 intro a s σ H D I h;refine wpAny_For (thn (hi a s σ H _ I h) fun v s1 Z=>thn Z fun a0 s2 h2=>?_) hs;obtain ⟨it,t,Q,J,H2,e,I2,T,G,O,W,⟨m0,V⟩,y⟩:=h2;subst e;have k:∀ {H':Hp},(∀ b∈t,H' b=none)->∀ b∈t,FpOk X a H' b:=fun hn b hb=>⟨hn b hb,(O b hb).2⟩;refine codeAny_forLoop_any (fun n M=>∃ i σ' H',Inv X a σ' H' M/\Q i M.heap/\(∀ b∈t,H' b=none)/\W i n σ' H') ?_ m0 ⟨0,σ,H2,I2,G,fun b hb=>(O b hb).1,V⟩;rintro n L ⟨i,σ3,C,I3,q,B,w3⟩;rcases y i n σ3 C w3 with ⟨stop,qn⟩ | ⟨go,N,hN,step⟩
 ·refine wpAny_passesOwn hp (thn (T.done X rfl rfl rfl hc i a L σ3 C X.xe I3 (k B) q stop) fun r s4 ⟨E,I4⟩=>?_);subst E;exact wpAny_execs_nil ⟨σ3,C,I4,qn⟩
 ·refine wpAny_passesOwn hp (thn (T.item X rfl rfl rfl hc i a L σ3 C X.xe I3 (k B) q go) fun r s4 ⟨u,E,Y⟩=>?_);subst E;refine wpAny_passesOwn hp (thn Y fun _ P ζ=>?_);obtain ⟨x,R,I5,r5,y5,p,K⟩:=ζ;have I5':=I5.pinned (k K) (T.obj _ _ p);refine wpAny_passesOwn hp (thn (hg _ P σ3 R x u _ I5' r5 (step x R y5)) fun _ S ⟨σ6,U,I6,q6⟩=>?_);refine wpAny_passesOwn hp (thn (hb _ S σ6 U _ I6 q6) fun f F l=>?_);have c:∀ {σ7:St} {j:Hp},Inv X (a++Jg0 t P.heap) σ7 j F->N σ7 j->∃ m,m<n/\∃ i σ' H',Inv X a σ' H' F/\Q i F.heap/\(∀ b∈t,H' b=none)/\W i m σ' H':=fun {σ7 j} I7 z=>by
   obtain ⟨m',hm,w7⟩:=hN σ7 j z;refine ⟨m',hm,i+1,σ7,j,I7.unpinned,T.keep _ _ _ p fun b hb o e=>(I7.pin (b,o) (mem_append_right _ (mem_append_right _ (Jb6 hb e)))).1,fun b hb=>?_,w7⟩;obtain ⟨o,e,d⟩:=T.obj _ _ p b hb;exact (I7.pin (b,o) (mem_append_right _ (mem_append_right _ (Jb6 hb e)))).2.1
  cases f with
  | next=>obtain ⟨σ7,j,I7,z⟩:=l;exact c I7 z
  | cont=>obtain ⟨σ7,j,I7,z⟩:=l;exact c I7 z
  | brk=>obtain ⟨σ7,j,I7,l⟩:=l;exact ⟨σ7,j,I7.unpinned,l⟩
  | ret v=>obtain ⟨x7,σ7,j,I7,r7,l⟩:=l;exact ⟨x7,σ7,j,I7.unpinned,r7,l⟩
end
theorem JhU {lo:Int} {n:Nat} {g:TG} {tb:TS} {D:Ends} {σ : St} {H:Hp} (Pv:Nat->St->Hp->Prop) (h0:Pv 0 σ H)
  (hs:∀ i σ H,i<n->Pv i σ H->g (.int (lo+i)) σ H fun σ2 H2=>tb { D with nx:=Pv (i+1),ct:=Pv (i+1),bk:=D.nx } σ2 H2) (hd:∀ σ H,Pv n σ H->D.nx σ H) :
  ∃ W:Nat->Nat->St->Hp->Prop,(∃ m,W 0 m σ H)/\∀ i m σ H,W i m σ H ->
   ((Itr lo n).stop i H/\D.nx σ H)\/((Itr lo n).go i H/\∃ N:St->Hp->Prop,(∀ σ' H',N σ' H'->∃ m',m'<m/\W (i+1) m' σ' H')/\∀ x H',(Itr lo n).yld i H x H'->g x σ H' fun σ2 H2=>tb { D with nx:=N,ct:=N,bk:=D.nx } σ2 H2):=by
 refine ⟨fun i m σ H=>m=n-i/\i<=n/\Pv i σ H,⟨n,by simp,Nat.zero_le _,h0⟩,?_⟩;rintro i m σ H ⟨rfl,c,p⟩;by_cases a:i<n
 ·refine .inr ⟨a,Pv (i+1),fun σ' H' b=>⟨n-(i+1),by ac_nf,rfl,a,b⟩,fun x H' y=>?_⟩;obtain ⟨e,y⟩:=y;subst e y;exact hs i σ _ a p
 ·have e:i=n:=by ac_nf
  subst e;exact .inl ⟨Nat.le_refl _,hd σ H p⟩
abbrev R2:=V->V->Hp->VK->Prop
def OpR (X:Cx) (f:Value->Value->Sem Value) (r:R2):Prop :=
 ∀ (pins:List (Addr × Obj)) (s:Shared) (σ : St) (H:Hp) (x y:V) (v u:Value) (Q:VK),Inv X pins σ H s->RelV x v->RelV y u->r x y H Q ->
  wpAny (model X.prog X.w) X.A (f v u) (EP X pins σ Q) X.xe s
def UnR (X:Cx) (f:Value->Sem Value) (r:V->Hp->VK->Prop):Prop :=
 ∀ (pins:List (Addr × Obj)) (s:Shared) (σ : St) (H:Hp) (x:V) (v:Value) (Q:VK),Inv X pins σ H s->RelV x v->r x H Q ->
  wpAny (model X.prog X.w) X.A (f v) (EP X pins σ Q) X.xe s
def CallR (X:Cx) (f:Value) (r:List V->Hp->VK->Prop):Prop :=
 ∀ (pins:List (Addr × Obj)) (s:Shared) (σ : St) (H:Hp) (xs:List V) (us:List Value) (Q:VK),Inv X pins σ H s->Vals xs us->r xs H Q ->
  wpAny (model X.prog X.w) X.A (call f us) (EP X pins σ Q) X.xe s
def tOp (r:R2) (ta tb:TE):TE:=fun σ H Q=>ta σ H fun x H1=>tb σ H1 fun y H2=>r x y H2 Q
def tUn (r:V->Hp->VK->Prop) (ta:TE):TE:=fun σ H Q=>ta σ H fun x H1=>r x H1 Q
def rI (C:Int->Int->Prop) (g:Int->Int->V):R2:=fun x y H Q=>∃ i j,x=.int i/\y=.int j/\C i j/\Q (g i j) H
def rI0 (g:Int->Int->V):R2:=fun x y H Q=>∃ i j,x=.int i/\y=.int j/\Q (g i j) H
def rU (g:Int->V):V->Hp->VK->Prop:=fun x H Q=>∃ i,x=.int i/\Q (g i) H
section
variable {X:Cx} {a b c:Expr} {ta tb tc:TE} {pos:Pos}
theorem binT (ha:PE X a ta) (hb:PE X b tb) {pins:List (Addr × Obj)} {s:Shared} {σ : St} {H:Hp} {R:V->V->Hp->Prop} (I:Inv X pins σ H s)
  (h:ta σ H fun x H1=>tb σ H1 fun y H2=>R x y H2) {Q:Value->Shared->Prop} {f:Value->Value->Sem Value}
  (hf:∀ v u s2 x y H2,Inv X pins σ H2 s2->RelV x v->RelV y u->R x y H2->wpAny (model X.prog X.w) X.A (f v u) Q X.xe s2) :
  wpAny (model X.prog X.w) X.A (eval a X.env) (fun v s₁=>wpAny (model X.prog X.w) X.A (eval b X.env) (fun u s₂=>wpAny (model X.prog X.w) X.A (f v u) Q X.xe s₂) X.xe s₁) X.xe s:=by
 refine thn (ha pins s σ H _ I h) fun v c ζ=>?_;obtain ⟨x,H1,I1,d,e⟩:=ζ;refine thn (hb pins c σ H1 _ I1 e) fun u s2 ζ=>?_;obtain ⟨y,H2,I2,i,g⟩:=ζ;exact hf v u s2 x y H2 I2 d i g
theorem pe_op {op:Operator} {r:R2} (ho:OpR X (binaryOp op) r) (ha:PE X a ta) (hb:PE X b tb):PE X (.BinOp a op b pos) (tOp r ta tb):=by
 intro c s σ H Q I h;exact wpAny_BinOp (binT ha hb I h fun v u d x y e I2 f g q=>ho c d σ e x y v u Q I2 f g q)
theorem pe_un {op:UnaryOp} {r:V->Hp->VK->Prop} (ho:UnR X (unaryOp op) r) (ha:PE X a ta):PE X (.UnaryOp op a pos) (tUn r ta):=by
 intro b s σ H Q I h;exact UnaryOp_ (thn (ha b s σ H _ I h) fun v c ⟨x,d,I1,e,f⟩=>ho b c σ d x v Q I1 e f)
theorem opI {f:Value->Value->Sem Value} {C:Int->Int->Prop} {g:Int->Int->Int}
  (rule:∀ (i j:Int) (t u:Tok) (s:Shared) (Q:Value->Shared->Prop) (E:Value->Shared->Prop),C i j->Q (.int (g i j) s.toks) { s with toks:=s.toks+1 }->wpAny (model X.prog X.w) X.A (f (.int i t) (.int j u)) Q E s) :
  OpR X f (rI C fun i j=>.int (g i j)):=by
 intro a s σ H x y v u Q I d e h;obtain ⟨i,j,rfl,rfl,b,q⟩:=h;obtain ⟨t,rfl⟩:=d;obtain ⟨c,rfl⟩:=e;exact rule i j t c s _ _ b ⟨.int (g i j),H,I.tok _,⟨_,rfl⟩,q⟩
theorem opI0 {f:Value->Value->Sem Value} {g:Int->Int->Int}
  (rule:∀ (i j:Int) (t u:Tok) (s:Shared) (Q:Value->Shared->Prop) (E:Value->Shared->Prop),Q (.int (g i j) s.toks) { s with toks:=s.toks+1 }->wpAny (model X.prog X.w) X.A (f (.int i t) (.int j u)) Q E s) :
  OpR X f (rI0 fun i j=>.int (g i j)):=by
 intro a s σ H x y v u Q I c d h;obtain ⟨i,j,rfl,rfl,q⟩:=h;obtain ⟨t,rfl⟩:=c;obtain ⟨b,rfl⟩:=d;exact rule i j t b s _ _ ⟨.int (g i j),H,I.tok _,⟨_,rfl⟩,q⟩
theorem opB0 {f:Value->Value->Sem Value} {g:Int->Int->Bool}
  (rule:∀ (i j:Int) (t u:Tok) (s:Shared) (Q:Value->Shared->Prop) (E:Value->Shared->Prop),Q (.bool (g i j)) s->wpAny (model X.prog X.w) X.A (f (.int i t) (.int j u)) Q E s) :
  OpR X f (rI0 fun i j=>.bl (g i j)):=by
 intro a s σ H x y v u Q I c d h;obtain ⟨i,j,rfl,rfl,q⟩:=h;obtain ⟨t,rfl⟩:=c;obtain ⟨b,rfl⟩:=d;exact rule i j t b s _ _ ⟨.bl (g i j),H,I,rfl,q⟩
def CPow (i j:Int):Prop:=0<=j/\j<=1000000/\i.natAbs<2 ^ 64
theorem JkY:OpR X (binaryOp .Add) (rI0 fun i j=>.int (i+j)):=opI0 fun _ _ _ _ _ _ _ q=>add_int q
theorem JfB:OpR X (binaryOp .Sub) (rI0 fun i j=>.int (i-j)):=opI0 fun _ _ _ _ _ _ _ q=>sub_int q
theorem Jkc:OpR X (binaryOp .Mod) (rI (fun _ j=>j≠0) fun i j=>.int (i.fmod j)):=opI fun _ _ _ _ _ _ _ a q=>mod_int' a q
theorem Jk4:OpR X (binaryOp .Pow) (rI CPow fun i j=>.int (i ^ j.toNat)):=opI fun _ _ _ _ _ _ _ a q=>pow_int_small a.1 a.2.1 a.2.2 q
theorem unI {f:Value->Sem Value} {g:Int->Int}
  (rule:∀ (i:Int) (t:Tok) (s:Shared) (Q:Value->Shared->Prop) (E:Value->Shared->Prop),Q (.int (g i) s.toks) { s with toks:=s.toks+1 }->wpAny (model X.prog X.w) X.A (f (.int i t)) Q E s) :
  UnR X f (rU fun i=>.int (g i)):=by
 intro a s σ H x v Q I b h;obtain ⟨i,rfl,q⟩:=h;obtain ⟨t,rfl⟩:=b;exact rule i t s _ _ ⟨.int (g i),H,I.tok _,⟨_,rfl⟩,q⟩
theorem Jd7:UnR X (unaryOp .USub) (rU fun i=>.int (-i)):=unI fun _ _ _ _ _ q=>neg_int q
end
def scal:V->V->Bool
 | .non, .non=>true | .non, .int _=>true | .int _, .non=>true | .non, .bl _=>true | .bl _, .non=>true | .non, .str _=>true | .str _, .non=>true
 | .int _, .int _=>true | .bl _, .bl _=>true | .str _, .str _=>true | .byt _, .byt _=>true
 | .int _, .str _=>true | .str _, .int _=>true | .bl _, .str _=>true | .str _, .bl _=>true
 | _,_=>false
def rEq:R2:=fun x y H Q=>scal x y=true/\Q (.bl (decide (x=y))) H
def rNe:R2:=fun x y H Q=>scal x y=true/\Q (.bl (!decide (x=y))) H
theorem JhH {i j:Int}:decide (V.int i=V.int j)=(i == j):=by
 rw [Bool.eq_iff_iff];simp
theorem Jjo {i j:Bool}:decide (V.bl i=V.bl j)=(i == j):=by
 rw [Bool.eq_iff_iff];simp
theorem JhI {i j:Str}:decide (V.str i=V.str j)=(i == j):=by
 rw [Bool.eq_iff_iff];simp
theorem JhG {i j:Array UInt8}:decide (V.byt i=V.byt j)=(i.toList == j.toList):=by
 rw [Bool.eq_iff_iff];cases i;cases j;simp
section
variable {X:Cx} {a b c:Expr} {ta tb tc:TE} {pos:Pos}
theorem JaH {pins:List (Addr × Obj)} {σ : St} {H:Hp} {s:Shared} {Q:VK} {k k':Bool} (I:Inv X pins σ H s) (q:Q (.bl k) H) (e:k=k'):EP X pins σ Q (.bool k') s:=by
 subst e;exact ⟨.bl k,H,I,rfl,q⟩
theorem op_eq:OpR X (compareOp .Eq) rEq:=by
 intro e s σ H x y v u Q I d a h;obtain ⟨c,q⟩:=h;cases x with
 | non=>
  cases d;cases y with
  | non=>cases a;exact PySem.EqNone.eq_none_none (JaH I q (by simp))
  | bl j=>cases a;exact PySem.EqNone.eq_none_bool (JaH I q (by simp))
  | int j=>obtain ⟨b,rfl⟩:=a;exact PySem.EqNone.eq_none_int (JaH I q (by simp))
  | str j=>obtain ⟨b,rfl⟩:=a;exact PySem.EqNone.eq_none_str (JaH I q (by simp))
  | _=>exact absurd (show false=true from c) Bool.false_ne_true
 | bl i=>
  cases d;cases y with
  | non=>cases a;exact PySem.EqNone.eq_bool_none (JaH I q (by simp))
  | bl j=>cases a;exact eq_bool (JaH I q Jjo)
  | str j=>obtain ⟨b,rfl⟩:=a;exact PySem.EqMixed.eq_bool_str (JaH I q (by simp))
  | _=>exact absurd (show false=true from c) Bool.false_ne_true
 | int i=>
  obtain ⟨t,rfl⟩:=d;cases y with
  | non=>cases a;exact PySem.EqNone.eq_int_none (JaH I q (by simp))
  | int j=>obtain ⟨b,rfl⟩:=a;exact eq_int (JaH I q JhH)
  | str j=>obtain ⟨b,rfl⟩:=a;exact PySem.EqMixed.eq_int_str (JaH I q (by simp))
  | _=>exact absurd (show false=true from c) Bool.false_ne_true
 | str i=>
  obtain ⟨t,rfl⟩:=d;cases y with
  | non=>cases a;exact PySem.EqNone.eq_str_none (JaH I q (by simp))
  | bl j=>cases a;exact PySem.EqMixed.eq_str_bool (JaH I q (by simp))
  | int j=>obtain ⟨b,rfl⟩:=a;exact PySem.EqMixed.eq_str_int (JaH I q (by simp))
  | str j=>obtain ⟨b,rfl⟩:=a;exact eq_str (JaH I q JhI)
  | _=>exact absurd (show false=true from c) Bool.false_ne_true
 | byt i=>
  obtain ⟨t,rfl⟩:=d;cases y with
  | byt j=>obtain ⟨b,rfl⟩:=a;exact W.eq_bytes (JaH I q JhG)
  | _=>exact absurd (show false=true from c) Bool.false_ne_true
 | _=>cases y <;> exact absurd (show false=true from c) Bool.false_ne_true
theorem op_ne:OpR X (compareOp .NotEq) rNe:=by
 intro e s σ H x y v u Q I d a h;obtain ⟨c,q⟩:=h;cases x with
 | non=>
  cases d;cases y with
  | non=>cases a;exact PySem.EqNone.ne_none_none (JaH I q (by simp))
  | bl j=>cases a;exact PySem.EqNone.ne_none_bool (JaH I q (by simp))
  | int j=>obtain ⟨b,rfl⟩:=a;exact PySem.EqNone.ne_none_int (JaH I q (by simp))
  | str j=>obtain ⟨b,rfl⟩:=a;exact PySem.EqNone.ne_none_str (JaH I q (by simp))
  | _=>exact absurd (show false=true from c) Bool.false_ne_true
 | bl i=>
  cases d;cases y with
  | non=>cases a;exact PySem.EqNone.ne_bool_none (JaH I q (by simp))
  | bl j=>cases a;exact ne_bool (JaH I q (congrArg not Jjo))
  | str j=>obtain ⟨b,rfl⟩:=a;exact PySem.EqMixed.ne_bool_str (JaH I q (by simp))
  | _=>exact absurd (show false=true from c) Bool.false_ne_true
 | int i=>
  obtain ⟨t,rfl⟩:=d;cases y with
  | non=>cases a;exact PySem.EqNone.ne_int_none (JaH I q (by simp))
  | int j=>obtain ⟨b,rfl⟩:=a;exact ne_int (JaH I q (congrArg not JhH))
  | str j=>obtain ⟨b,rfl⟩:=a;exact PySem.EqMixed.ne_int_str (JaH I q (by simp))
  | _=>exact absurd (show false=true from c) Bool.false_ne_true
 | str i=>
  obtain ⟨t,rfl⟩:=d;cases y with
  | non=>cases a;exact PySem.EqNone.ne_str_none (JaH I q (by simp))
  | bl j=>cases a;exact PySem.EqMixed.ne_str_bool (JaH I q (by simp))
  | int j=>obtain ⟨b,rfl⟩:=a;exact PySem.EqMixed.ne_str_int (JaH I q (by simp))
  | str j=>obtain ⟨b,rfl⟩:=a;exact ne_str (JaH I q (congrArg not JhI))
  | _=>exact absurd (show false=true from c) Bool.false_ne_true
 | byt i=>
  obtain ⟨t,rfl⟩:=d;cases y with
  | byt j=>obtain ⟨b,rfl⟩:=a;exact W.ne_bytes (JaH I q (congrArg not JhG))
  | _=>exact absurd (show false=true from c) Bool.false_ne_true
 | _=>cases y <;> exact absurd (show false=true from c) Bool.false_ne_true
theorem op_lt:OpR X (compareOp .Lt) (rI0 fun i j=>.bl (decide (i<j))):=opB0 fun _ _ _ _ _ _ _ q=>lt_int q
theorem op_gt:OpR X (compareOp .Gt) (rI0 fun i j=>.bl (decide (j<i))):=opB0 fun _ _ _ _ _ _ _ q=>gt_int q
theorem op_ge:OpR X (compareOp .GtE) (rI0 fun i j=>.bl (decide (j<=i))):=opB0 fun _ _ _ _ _ _ _ q=>ge_int q
theorem Jil:OpR X (compareOp .In) (fun x y H Q=>∃ i j,x=.str i/\y=.str j/\Q (.bl (!(Builtin.Str.occurrences j i 0 j.length 1).isEmpty)) H):=by
 intro a s σ H x y v u Q I b c h;obtain ⟨i,j,rfl,rfl,q⟩:=h;obtain ⟨t,rfl⟩:=b;obtain ⟨d,rfl⟩:=c;exact in_str (JaH I q rfl)
theorem Jk3:OpR X (compareOp .Is) (fun x y H Q=>y=.non/\Q (.bl (decide (x=.non))) H):=by
 intro b s σ H x y v u Q I a c h;obtain ⟨rfl,q⟩:=h;cases c;refine is_none_gen (JaH I q ?_);cases x <;> first
  | (cases a;rfl)
  | (obtain ⟨t,rfl⟩:=a;rfl)
theorem Jkf:OpR X (compareOp .IsNot) (fun x y H Q=>y=.non/\Q (.bl (!decide (x=.non))) H):=by
 intro b s σ H x y v u Q I a c h;obtain ⟨rfl,q⟩:=h;cases c;refine isnot_none_gen (JaH I q ?_);cases x <;> first
  | (cases a;rfl)
  | (obtain ⟨t,rfl⟩:=a;rfl)
theorem Jas (b:Expr) {op:CmpOp} (h:op≠.In:=by decide) (h2:op≠.NotIn:=by decide):behindInMarks op b=false:=by
 have c:(op == CmpOp.In)=false:=by cases op <;> first | rfl | exact absurd rfl h
 have a:(op == CmpOp.NotIn)=false:=by cases op <;> first | rfl | exact absurd rfl h2
 cases b <;> simp [behindInMarks,c,a]
theorem Jbl {op:CmpOp} {r:R2} (ho:OpR X (compareOp op) r) (ha:PE X a ta) (hb:PE X b tb) (hm:behindInMarks op b=false):PE X (.Compare a [op] [b] pos) (tOp r ta tb):=by
 intro c s σ H Q I h;exact wpAny_Compare1 (binT ha hb I h fun v u d x y e I2 f g q=>ho c d σ e x y v u Q I2 f g q) hm
def tTest (t:TE):TT:=fun σ H Q=>t σ H fun x H'=>∃ k,x=.bl k/\Q k H'
theorem Jaq {op:CmpOp} {r:R2} (ho:OpR X (compareOp op) r) (ha:PE X a ta) (hb:PE X b tb) (hm:behindInMarks op b=false):PT X (.Compare a [op] [b] pos) (tTest (tOp r ta tb)):=by
 intro d s σ H Q I h;refine wpAny_isTrue_Compare1 (thn (ha d s σ H _ I h) fun v p ⟨x,g,I1,t,i⟩=>thn (hb d p σ g _ I1 i) fun u q ⟨y,j,I2,o,n⟩=>
  thn (ho d q σ j x y v u _ I2 t o n) fun c w ⟨z,f,I3,l,k,e,m⟩=>?_) hm
 subst e;cases l;exact wpAny_truthy_bool ⟨f,I3,m⟩
def Jlk (r r':R2) (ta tb tc:TE):TE:=fun σ H Q=>ta σ H fun x H1=>tb σ H1 fun y H2=>r x y H2 fun z H3=>∃ k,z=.bl k /\
 (if k=true then tc σ H3 fun w' H4=>r' y w' H4 Q else Q (.bl false) H3)
theorem Jfl:(sizeLine:Nat)<2 ^ 63:=by rw [sizeLine_eq];decide
theorem Jhk:OpR X (binaryOp .Add) (fun x y H Q=>∃ i j,x=.str i/\y=.str j/\i.length+j.length<=sizeLine/\Q (.str (i++j)) H):=by
 intro a s σ H x y v u Q I d e h;obtain ⟨i,j,rfl,rfl,c,q⟩:=h;obtain ⟨t,rfl⟩:=d;obtain ⟨b,rfl⟩:=e;exact add_str (fun b f=>⟨.str (i++j),H,I.tok _,⟨_,rfl⟩,q⟩) c
theorem vals1 {x:V} {us:List Value} (r:Vals [x] us):∃ u,us=[u]/\RelV x u:=by
 cases r with
 | cons r1 r2=>cases r2;exact ⟨_,rfl,r1⟩
theorem vals2 {x y:V} {us:List Value} (r:Vals [x,y] us):∃ u w',us=[u,w']/\RelV x u/\RelV y w':=by
 cases r with
 | cons r1 r2=>
  cases r2 with
  | cons r3 r4=>cases r4;exact ⟨_,_,rfl,r1,r3⟩
theorem JiI:CallR X (.builtin "abs") (fun xs H Q=>∃ i,xs=[.int i]/\Q (.int (if i<0 then -i else i)) H):=by
 intro a s σ H xs b Q I r h;obtain ⟨i,rfl,q⟩:=h;obtain ⟨u,rfl,t,rfl⟩:=vals1 r;exact call_abs_int fun u c=>⟨.int (if i<0 then -i else i),H,I.tok _,⟨_,rfl⟩,q⟩
theorem JdG:CallR X (.type "int") (fun xs H Q=>(∃ i,xs=[.int i]/\Q (.int i) H)\/∃ k,xs=[.bl k]/\Q (.int (if k then 1 else 0)) H):=by
 intro a s σ H xs c Q I r h;rcases h with ⟨i,rfl,q⟩ | ⟨k,rfl,q⟩
 ·obtain ⟨u,rfl,t,rfl⟩:=vals1 r;exact call_int_int ⟨.int i,H,I,⟨_,rfl⟩,q⟩
 ·obtain ⟨u,rfl,b⟩:=vals1 r;cases b;exact call_int_bool ⟨.int (if k then 1 else 0),H,I.tok _,⟨_,rfl⟩,q⟩
end
structure ObjM (h:Heap) (x dx C:Addr) (mA:Str->Option Value):Prop where
 obj:h.get? x=some (W.instObj C dx)
 ns:h.Ns1 dx mA
 ne:dx≠x
theorem Jfm {h:Heap} {dx:Addr} {mA:Str->Option Value} (n:h.Ns1 dx mA):∃ od,h.get? dx=some od/\∀ name,W.lookIn name od=some (mA name):=by
 obtain ⟨o,c,l,i,g,j,_,d⟩:=n;refine ⟨o,i,fun name=>?_⟩;have e:=d name;unfold nsFind findBy at e;rw [<- Array.find?_toList] at e;unfold W.lookIn;rw [g];dsimp only;split
 ·rename_i y q;rw [q] at e;exact congrArg some e
 ·rename_i q;rw [q] at e;have a:c.toList.any (·.refKey)=false:=by
   rw [List.any_eq_false];intro y k;obtain ⟨z,t,b⟩:=j y (Array.mem_toList_iff.mp k);simp [DictEntry.refKey,b]
  have f:¬ c.toList.any (·.refKey)=true:=by rw [a];exact Bool.false_ne_true
  rw [if_neg f];exact congrArg some e
theorem ObjM.look {h:Heap} {x dx C:Addr} {mA:Str->Option Value} (I:ObjM h x dx C mA):∃ od,W.InstAt h x (W.instObj C dx) C (some od)/\∀ name,W.lookIn name od=some (mA name) :=
 let ⟨od,ho,hl⟩:=Jfm I.ns
 ⟨od,⟨I.obj,rfl,rfl,ho⟩,hl⟩
section
variable {prog:Program} {w:World} {A:Around} {E:Value->Shared->Prop} {s:Shared} {K:W.Frag} {x dx C f:Addr} {mA:Str->Option Value} {name:Str} {v:Value}
theorem get_map {expr:Bool} {Q:Value->Shared->Prop} (X:K.In s.heap) (I:ObjM s.heap x dx C mA) (hg:W.plainGet K C name=true) (hh:W.hasDictIn K C=true)
  (ha:W.findIn K (.ref C) name=some none) (hv:mA name=some v) (hv':W.handedIn v=true) (h:Q v { s with toks:=s.toks+1 }) :
  wpAny (model prog w) A (getAttr (.ref x) name expr) Q E s:=by
 obtain ⟨b,J,a⟩:=I.look;exact W.get_value X J (W.plainGet_of hg).1 (W.findObj_own hh ha rfl (by rw [a,hv])) hv' h
theorem JiO {pl:Sem Bool} {Q:Value × List Value->Shared->Prop} (X:K.In s.heap) (I:ObjM s.heap x dx C mA) (hg:W.plainGet K C name=true)
  (hf:W.findIn K (.ref C) name=some (some (.ref f))) (ht:W.isFn K (.ref f)=true) (hv:mA name=none) (h:Q (.ref f,[.ref x]) s) :
  wpAny (model prog w) A (getMethod (.ref x) name pl) Q E s:=by
 obtain ⟨a,J,b⟩:=I.look;exact W.method_fn X J (W.plainGet_of hg).1 (W.plainGet_of hg).2 hf (beq_iff_eq.mp ht) (by show (W.lookIn name a).map (·.isSome)=some false;rw [b,hv];rfl) h
theorem Jkr {ns:List Str} {Q:Unit->Shared->Prop} (X:K.In s.heap) (I:ObjM s.heap x dx C mA)
  (hs:W.findIn K (.ref C) "__setattr__"=some (some (.builtin "object.__setattr__"))) (hp:W.plainOver K C=true) (ht:W.takerIn K C name=some none) (hh:W.hasDictIn K C=true)
  (hw:PySem.Within mA ns) (hsz:ns.length<=sizeLine)
  (h:∀ h',ObjM h' x dx C (fun y=>if y=name then some v else mA y)->Heap.SameBut dx s.heap h'->Q () { s with heap:=h',toks:=s.toks+2 }) :
  wpAny (model prog w) A (setAttr (.ref x) name v) Q E s:=by
 obtain ⟨n,J,o⟩:=I.look;refine W.set_plain X J hs (W.osa_open (s:={ s with toks:=s.toks+1 }) (r:=none) X J hp ht fun b=>?_);obtain ⟨q,j,i⟩:=W.any_some hh;have l:s.heap.get? x=some ⟨.ref C,some dx, .plain, #[]⟩:=I.obj;refine wpAny_bind (wpAny_pure (wpAny_bind (wpAny_bind (wpAny_loadPart l (wpAny_bind (W.Looks.here (s:={ s with toks:=s.toks+1 }) (W.looks_clsIn X j) ?_))))));rw [i];refine wpAny_pure (a:=some dx) (wpAny_bind (wpAny_pure (wpAny_bind ?_)));refine wpAny_nsSet1 (s:={ s with toks:=s.toks+1 }) I.ns fun h' c d=>?_;obtain ⟨p,m,k,g,f,e⟩:=c.count (PySem.Within.cons name v hw);refine wpAny_bind (wpAny_lookBehind g (by rw [f];exact pastItsLine_dict (Nat.le_trans e (by rw [length_cons];ac_nf))) ?_);exact wpAny_pure (h _ ⟨(d.2 _ (Ne.symm I.ne)).trans I.obj,c,I.ne⟩ d)
theorem JiX {R:Result->Shared->Prop} {vs:List Value} {kw:List (Str × Value)} (X:K.In s.heap) (hm:W.makesIn K C=true)
  (hi:W.findIn K (.ref C) "__init__"=some (some (.ref f))) (hf:W.typeIn K (.ref f)=some (.type "function"))
  (h:codeAny (model prog w) (A.under (.builtin "type.__call__" ⟨.ref C::vs,kw⟩)) (.call (.ref f) ⟨.ref (s.heap.objs.size+1)::vs,kw⟩) (W.InitBack (s.heap.objs.size+1) R)
   { s with heap:=(s.heap.push W.emptyDict).push (W.instObj C s.heap.objs.size) }) :
  codeAny (model prog w) A (.call (.ref C) ⟨vs,kw⟩) R s:=by
 obtain ⟨c,g,d,t,b⟩:=s;exact W.make_core (W.makes_of X hm) (W.looks_findIn X hi) (fun a=>W.bind_fn X a hf) (.inl rfl) h
end
def putF (f:Str) (v:V):List (Str × V)->List (Str × V)
 | []=>[(f,v)]
 | (g,x)::r=>if g=f then (g,v)::r else (g,x)::putF f v r
theorem JdS (f g:Str) (v:V):∀ fs:List (Str × V),(putF f v fs).lookup g=if g=f then some v else fs.lookup g
 | []=>by
  show List.lookup g [(f,v)]=_;by_cases h:g=f
  ·have hb:(g == f)=true:=beq_iff_eq.mpr h;simp only [List.lookup,hb,if_pos h]
  ·have hb:(g == f)=false:=beq_eq_false_iff_ne.mpr h;simp only [List.lookup,hb,if_neg h]
 | (k,x)::r=>by
  have ih:=JdS f g v r;rw [show putF f v ((k,x)::r)=(if k=f then (k,v)::r else (k,x)::putF f v r) from rfl];by_cases hk:k=f
  ·rw [if_pos hk];by_cases h:g=k
   ·have hb:(g == k)=true:=beq_iff_eq.mpr h;simp only [List.lookup,hb,if_pos (h.trans hk)]
   ·have hb:(g == k)=false:=beq_eq_false_iff_ne.mpr h;simp only [List.lookup,hb,if_neg (fun e:g=f=>h (e.trans hk.symm))]
  ·rw [if_neg hk];by_cases h:g=k
   ·have hb:(g == k)=true:=beq_iff_eq.mpr h;simp only [List.lookup,hb,if_neg (fun e:g=f=>hk (h.symm.trans e))]
   ·have hb:(g == k)=false:=beq_eq_false_iff_ne.mpr h;simp only [List.lookup,hb];exact ih
theorem JdN (f:Str) (v:V):∀ fs:List (Str × V),f∈(putF f v fs).map (·.1)/\∀ g,g∈fs.map (·.1)->g∈(putF f v fs).map (·.1)
 | []=>⟨by simp [putF],fun g h=>by simp at h⟩
 | (k,x)::r=>by
  obtain ⟨i1,i2⟩:=JdN f v r;rw [show putF f v ((k,x)::r)=(if k=f then (k,v)::r else (k,x)::putF f v r) from rfl];by_cases hk:k=f
  ·rw [if_pos hk];subst hk;exact ⟨by simp,fun g h=>by simpa using h⟩
  ·rw [if_neg hk];refine ⟨?_,fun g h=>?_⟩
   ·rw [map_cons];exact mem_cons_of_mem _ i1
   ·rw [map_cons] at h ⊢;rcases mem_cons.mp h with e | e
    ·exact mem_cons.mpr (.inl e)
    ·exact mem_cons_of_mem _ (i2 g e)
theorem JdP (f:Str) (v:V):∀ fs:List (Str × V),(putF f v fs).length<=fs.length+1
 | []=>by simp [putF]
 | (k,x)::r=>by
  have ih:=JdP f v r;rw [show putF f v ((k,x)::r)=(if k=f then (k,v)::r else (k,x)::putF f v r) from rfl];by_cases hk:k=f
  ·rw [if_pos hk,length_cons,length_cons];ac_nf
  ·rw [if_neg hk,length_cons,length_cons];ac_nf
theorem RelO.some_of {v:V} {o:Option Value} (r:RelO (some v) o):∃ u,o=some u/\RelV v u:=by
 cases o with
 | none=>exact (show False from r).elim
 | some u=>exact ⟨u,rfl,r⟩
theorem RelO.none_of {o:Option Value} (r:RelO none o):o=none:=by
 cases o with
 | none=>rfl
 | some u=>exact (show False from r).elim
theorem JhW {v:V} {u:Value} (r:RelV v u):W.handedIn u=true:=by
 cases v with
 | non=>cases (show u=Value.none from r);rfl
 | bl b=>cases (show u=Value.bool b from r);rfl
 | int i=>obtain ⟨t,e⟩:=(show ∃ t,u=Value.int i t from r);cases e;rfl
 | str x=>obtain ⟨t,e⟩:=(show ∃ t,u=Value.str x t from r);cases e;rfl
 | byt b=>obtain ⟨t,e⟩:=(show ∃ t,u=Value.bytes b t from r);cases e;rfl
 | flt b=>obtain ⟨t,e⟩:=(show ∃ t,u=Value.float b t from r);cases e;rfl
 | ref a=>cases (show u=Value.ref a from r);rfl
 | ty n=>cases (show u=Value.type n from r);rfl
section
variable {P:Program} {w:World} {H H':Hp} {h h':Heap} {a C dx:Addr} {fs fs':List (Str × V)}
theorem Jf5 (hok:HOk P w H h) (e:H a=some (.ins C dx fs)):∃ mA,ObjM h a dx C mA/\(∀ f,RelO (fs.lookup f) (mA f))/\PySem.Within mA (fs.map (·.1))/\fs.length<=1000/\H dx=some (.own a):=by
 obtain ⟨d,z,b,c,mA,n,r,q⟩:=(show ObjOk P w H h a (.ins C dx fs) from hok a _ e);exact ⟨mA,⟨c,n,b⟩,r,q,z,d⟩
end
structure Cls (K:W.Frag) (C:Addr):Prop where
 pg:W.plainGet K C Str.empty=true
 hd:W.hasDictIn K C=true
 po:W.plainOver K C=true
 sa:W.findIn K (.ref C) "__setattr__"=some (some (.builtin "object.__setattr__"))
theorem Cls.get {K:W.Frag} {C:Addr} (c:Cls K C) (f:Str):W.plainGet K C f=true:=c.pg
def Jba (K:W.Frag) (C:Addr) (f:Str):Prop:=W.findIn K (.ref C) f=some none
theorem Jba.taker {K:W.Frag} {C:Addr} {f:Str} (n:Jba K C f):W.takerIn K C f=some none:=by
 unfold W.takerIn;rw [show W.findIn K (.ref C) f=some none from n];rfl
structure Meth (K:W.Frag) (C:Addr) (m:Str) (f:Addr):Prop where
 at_:W.findIn K (.ref C) m=some (some (.ref f))
 fn:W.isFn K (.ref f)=true
 kp:W.keepIn K (.ref f)=true
section
variable {X:Cx} {pins:List (Addr × Obj)} {σ : St} {H:Hp} {s:Shared} {a C dx:Addr} {fs:List (Str × V)} {f:Str} {v:V} {A:Around} {E:Value->Shared->Prop}
theorem Jg8 {b:Bool} {Q:Value->Shared->Prop} (I:Inv X pins σ H s) (e:H a=some (.ins C dx fs)) (c:Cls X.K C) (n:Jba X.K C f) (l:fs.lookup f=some v)
  (h:∀ u s',Inv X pins σ H s'->RelV v u->Q u s'):wpAny (model X.prog X.w) A (getAttr (.ref a) f b) Q E s:=by
 obtain ⟨i,O,r,_,_,_⟩:=Jf5 I.hok e;obtain ⟨u,g,d⟩:=RelO.some_of (v:=v) (o:=i f) (by rw [<- l];exact r f);exact get_map I.kIn O (c.get f) c.hd n g (JhW d) (h u _ (I.tok _) d)
theorem Jc8 {m:Str} {g:Addr} {pl:Sem Bool} {Q:Value × List Value->Shared->Prop} (I:Inv X pins σ H s) (e:H a=some (.ins C dx fs)) (c:Cls X.K C) (k:Meth X.K C m g) (l:fs.lookup m=none)
  (h:Q (.ref g,[.ref a]) s):wpAny (model X.prog X.w) A (getMethod (.ref a) m pl) Q E s:=by
 obtain ⟨d,O,r,_,_,_⟩:=Jf5 I.hok e;have b:d m=none:=RelO.none_of (by rw [<- l];exact r m);exact JiO I.kIn O (c.get m) k.at_ k.fn b h
theorem Jhn {y:V} {u:Value} {Q:Unit->Shared->Prop} (I:Inv X pins σ H s) (e:H a=some (.ins C dx fs)) (c:Cls X.K C) (n:Jba X.K C f) (hl:fs.length<1000) (ry:RelV y u)
  (h:∀ s',Inv X pins σ (upd H a (.ins C dx (putF f y fs))) s'->Q () s'):wpAny (model X.prog X.w) A (setAttr (.ref a) f u) Q E s:=by
 obtain ⟨j,O,r,d,_,i⟩:=Jf5 I.hok e;have l:(fs.map (·.1)).length<=sizeLine:=by rw [length_map,sizeLine_eq];ac_nf
 refine Jkr I.kIn O c.sa c.po n.taker c.hd d l fun p O' v=>h _ ?_;have k:∃ o,p.get? dx=some o:=let ⟨o,_,_,e',_⟩:=O'.ns;⟨o,e'⟩;refine I.write (x:=a) (e:=dx) (by rw [e];exact True.intro) (.inr i) (fun b q t z=>(v.2 b t).trans z) k ?_;refine ⟨by rw [Jai O.ne];exact i,?_,O.ne,O'.obj,_,O'.ns,fun g=>?_,fun g m=>?_⟩
 ·have:=JdP f y fs;ac_nf
 ·show RelO ((putF f y fs).lookup g) (if g=f then some u else j g);rw [JdS];by_cases q:g=f
  ·rw [if_pos q,if_pos q];exact ry
  ·rw [if_neg q,if_neg q];exact r g
 ·by_cases q:g=f
  ·rw [q];exact (JdN f y fs).1
  ·refine (JdN f y fs).2 g (d g fun z=>m ?_);show (if g=f then some u else j g)=none;rw [if_neg q];exact z
theorem Inv.made (I:Inv X pins σ H s):Inv X pins σ (upd (upd H s.heap.objs.size (.own (s.heap.objs.size+1))) (s.heap.objs.size+1) (.ins C s.heap.objs.size []))
  { s with heap:=(s.heap.push W.emptyDict).push (W.instObj C s.heap.objs.size) }:=by
 have c:(s.heap.push W.emptyDict).get? s.heap.objs.size=some W.emptyDict:=Heap.get?_push_size s.heap rfl;have f:((s.heap.push W.emptyDict).push (W.instObj C s.heap.objs.size)).get? (s.heap.objs.size+1)=some (W.instObj C s.heap.objs.size):=by
  have:=Heap.get?_push_size (s.heap.push W.emptyDict) (o:=W.instObj C s.heap.objs.size) rfl
  rwa [Heap.size_push] at this
 have g:(s.heap.push W.emptyDict).Ns s.heap.objs.size (fun _=>none):=⟨W.emptyDict, #[],_,c,rfl,(fun e h=>absurd h (by simp)),fun _=>rfl⟩;have I1:=I.laid (a:=s.heap.objs.size) (o:=.own (s.heap.objs.size+1)) (h':=s.heap.push W.emptyDict) (t':=s.toks) (fun b u q=>Heap.get?_push_of_some _ q) (Nat.le_refl _) ⟨_,c⟩;refine I1.laid (a:=s.heap.objs.size+1) (o:=.ins C s.heap.objs.size []) (t':=s.toks) (fun b u q=>Heap.get?_push_of_some _ q) (Nat.le_of_eq (Heap.size_push _ _)) ?_;have d:s.heap.objs.size≠s.heap.objs.size+1:=Nat.ne_of_lt (Nat.lt_succ_self _);refine ⟨by rw [Jai d,Jau],Nat.zero_le _,d,f,fun _=>none,(Heap.Ns1.of_empty g).at fun o q=>Heap.get?_push_of_some _ q,fun _=>True.intro,fun y i=>absurd rfl i⟩
theorem JjJ {prog:Program} {w:World} {env:Env} {e:Expr} {f:Str} {pos:Pos} {s:Shared} {Q:Value->Shared->Prop} (hb:attributeBase e f env (eval e env)=eval e env)
  (h:wpAny (model prog w) A (eval e env) (fun o s₁=>wpAny (model prog w) A (getAttr o f true) Q E s₁) E s):wpAny (model prog w) A (eval (.Attribute e f pos) env) Q E s :=
 Attribute_any_ h (by rw [arm_eval_Attribute,hb])
end
def tFld (K:W.Frag) (ta:TE) (f:Str):TE:=fun σ H Q=>ta σ H fun x H1=>∃ a C dx fs v,x=.ref a/\H1 a=some (.ins C dx fs)/\Cls K C/\Jba K C f/\fs.lookup f=some v/\Q v H1
def sFld (K:W.Frag) (ta tv:TE) (f:Str):TS:=fun D σ H=>tv σ H fun y H1=>ta σ H1 fun x H2=>∃ a C dx fs,x=.ref a/\H2 a=some (.ins C dx fs)/\Cls K C/\Jba K C f/\fs.length<1000 /\
 D.nx σ (upd H2 a (.ins C dx (putF f y fs)))
section
variable {X:Cx} {o e value:Expr} {f:Str} {pos pos' tpos:Pos} {ta tv:TE}
theorem Jax (he:PE X e ta) (hb:attributeBase e f X.env (eval e X.env)=eval e X.env):PE X (.Attribute e f pos) (tFld X.K ta f):=by
 intro b s σ H Q I h;refine JjJ hb (thn (he b s σ H _ I h) fun u r ζ=>?_);obtain ⟨x,d,I1,j,a,C,p,m,v,g,i,c,n,l,q⟩:=ζ;subst g;obtain rfl:u=Value.ref a:=j;exact Jg8 I1 i c n l fun o t I2 k=>⟨v,d,I2,k,q⟩
theorem JbR (ha:PE X o ta) (hv:PE X value tv) (hs:swapsWith value (some (.Attribute o f pos')) pos.line X.env=pure false):PS X (.Assign [.Attribute o f pos'] value pos) (sFld X.K ta tv f):=by
 intro b s σ H D I h;refine plainObj_wpAny_Assign_Attribute (thn (hv b s σ H _ I h) fun u p ⟨y,d,I1,m,q⟩=>thn (ha b p σ d _ I1 q) fun g z ζ=>?_) hs;obtain ⟨x,v,I2,j,a,C,w,r,e,i,c,n,l,k⟩:=ζ;subst e;obtain rfl:g=Value.ref a:=j;exact Jhn I2 i c n l m fun t I3=>⟨σ,_,I3,k⟩
end
section
variable {X:Cx} {pins:List (Addr × Obj)} {σ : St} {H:Hp} {s:Shared} {A:Around} {E:Value->Shared->Prop} {Q:Value->Shared->Prop} {c:Value} {b:Bool}
end
structure Room (k:Nat) (A:Around):Prop where
 hd:A.handled=none
 dp:A.depth+3*k+5<recursionLimit
 un:A.units+16*k+200<cLine
theorem Room.mono {j k:Nat} {A:Around} (r:Room k A) (h:j<=k):Room j A:=⟨r.hd,by have:=r.dp;ac_nf,by have:=r.un;ac_nf⟩
theorem Room.deeper {k:Nat} {A:Around} (r:Room (k+1) A) (env:Env):Room k (A.deeper env) :=
 ⟨r.hd,by have:=r.dp;show A.depth+1+3*k+5<_;ac_nf,by have:=r.un;show A.units+3+16*k+200<_;ac_nf⟩
theorem Jhe {A:Around} {C:Addr} {us:List Value} {kw:List (Str × Value)}:(A.under (.builtin "type.__call__" ⟨.ref C::us,kw⟩)).depth=A.depth+1:=by
 first | rfl | simp [Around.under,Code.weight,Code.isCreation,Code.isGuard,Code.isCaller,Code.frames,Code.isFrame,guardIds]
theorem Jhf {A:Around} {C:Addr} {us:List Value} {kw:List (Str × Value)}:(A.under (.builtin "type.__call__" ⟨.ref C::us,kw⟩)).units=A.units+1:=by
 first | rfl | simp [Around.under,Code.cUnits,Code.frames,Code.isFrame]
theorem Room.make {k:Nat} {A:Around} (r:Room (k+1) A) (C:Addr) (us:List Value) (kw:List (Str × Value)):Room k (A.under (.builtin "type.__call__" ⟨.ref C::us,kw⟩)) :=
 ⟨r.hd,by have:=r.dp;rw [Jhe];ac_nf,by have:=r.un;rw [Jhf];ac_nf⟩
theorem Room.depth {k:Nat} {A:Around} (r:Room k A):A.depth<recursionLimit:=by have:=r.dp;ac_nf
theorem Room.units {k:Nat} {A:Around} (r:Room k A):A.units+64<cLine:=by have:=r.un;ac_nf
def tNil:TA:=fun _ H Q=>Q [] H
def tCons (ta:TE) (tr:TA):TA:=fun σ H Q=>ta σ H fun x H1=>tr σ H1 fun xs H2=>Q (x::xs) H2
section
variable {X:Cx} {e:Expr} {es:List Expr} {te:TE} {t:TA} {pos:Pos}
theorem Jac:PA X [] tNil:=fun _ _ _ _ H Q I h=>Calls.spliced_nil ⟨[],H,I, .nil,h⟩
theorem Jkg (ha:PE X e te) (hr:PA X es t) (hs:starEach (e::es) X.env=(false,eval e X.env)::starEach es X.env:=by rfl):PA X (e::es) (tCons te t):=by
 intro b a s σ H Q I h;rw [hs];show wpAny _ _ (spliced ((false,eval e X.env)::backTo b (starEach es X.env))) _ _ s;refine Calls.spliced_cons (thn (ha a s σ H _ I h) fun u k ζ=>?_);obtain ⟨x,d,I1,l,f⟩:=ζ;exact thn (hr b a k σ d _ I1 f) fun m n ⟨c,g,I2,j,i⟩=>⟨x::c,g,I2, .cons l j,i⟩
def tTup (t:TA):TE:=fun σ H Q=>t σ H fun xs H1=>xs.length<=sizeLine/\∀ p,H1 p=none->Q (.ref p) (upd H1 p (.tup xs))
def tLst (t:TA):TE:=fun σ H Q=>t σ H fun xs H1=>xs.length<=sizeLine/\∀ p,H1 p=none->Q (.ref p) (upd H1 p (.lst xs))
theorem JaE {x1} (h:PA X es t):PE X (.Tuple es x1 pos) (tTup t):=by
 intro a s σ H Q I i;refine wpAny_Tuple_spliced (thn (h pos a s σ H _ I i) fun f c ⟨g,d,I1,r,z,q⟩=>⟨by rw [<- r.length];exact z,?_⟩);have j:d c.heap.objs.size=none:=I1.hok.fresh (Nat.le_refl _);refine ⟨.ref c.heap.objs.size,upd d c.heap.objs.size (.tup g),I1.laid (t':=c.toks) (fun b u e=>Heap.get?_push_of_some _ e) (Nat.le_refl _) ?_,rfl,q _ j⟩;exact ⟨z,f,r,⟨_,Heap.get?_push_size _ rfl,rfl,_,rfl⟩⟩
theorem Jby (h:PA X es t):PE X (.List es pos) (tLst t):=by
 intro a s σ H Q I i;refine wpAny_List_spliced (thn (h pos a s σ H _ I i) fun f c ⟨g,d,I1,r,z,q⟩=>⟨by rw [<- r.length];exact z,?_⟩);have j:d c.heap.objs.size=none:=I1.hok.fresh (Nat.le_refl _);refine ⟨.ref c.heap.objs.size,upd d c.heap.objs.size (.lst g),I1.laid (t':=c.toks) (fun b u e=>Heap.get?_push_of_some _ e) (Nat.le_refl _) ?_,rfl,q _ j⟩;exact ⟨z,f,0,r,Heap.get?_push_size _ rfl⟩
end
abbrev Sp:=List V->Hp->VK->XK->Prop
abbrev CXT:=List Env->Hp->Shared->XK->Value->Shared->Prop
structure Env0 (P:Program) (w:World) (K:W.Frag) (mg:Str->Option Value) (base:Heap) (A:Around) (outer:List Env) (s:Shared) (H:Hp):Prop where
 frames:A.frames=some outer
 mod:Mod K mg base
 bs:∀ b o,base.get? b=some o->s.heap.get? b=some o/\H b=none
 bsz:base.objs.size<=s.heap.objs.size
 funs:s.heap.FunFrames base outer
 frf:∀ b∈frs outer,H b=none
 hok:HOk P w H s.heap
 bare:AllBare s.gens
def CE (outer:List Env) (P:Program) (w:World) (H:Hp) (s:Shared) (Q:VK) (u:Value) (s':Shared):Prop :=
 ∃ v H',s'.os=s.os/\AllBare s'.gens/\Un (frs outer) [] H H' s.heap s'.heap/\HOk P w H' s'.heap/\RelV v u/\Q v H'
def CR (CX:CXT) (outer:List Env) (P:Program) (w:World) (H:Hp) (s:Shared) (Q:VK) (E:XK) (r:Result) (s':Shared):Prop :=
 match r with
 | .ok (.ret u)=>CE outer P w H s Q u s'
 | .ok _=>False
 | .error e=>CX outer H s E e s'
structure FnOk (P:Program) (w:World) (K:W.Frag) (mg:Str->Option Value) (base:Heap) (CX:CXT) (k:Nat) (f:Addr) (fd:FuncData) (ps:List Str) (sp:Sp):Prop where
 len:∀ vs H Q E,sp vs H Q E->vs.length=ps.length
 run:∀ (A:Around) (outer:List Env) (s:Shared) (H:Hp) (args:Args) (us:List Value) (vs:List V) (Q:VK) (E:XK),Room k A->Env0 P w K mg base A outer s H->BindsTo s fd args (ps.zip us)->Vals vs us->sp vs H Q E ->
  codeAny (model P w) A (.call (.ref f) args) (CR CX outer P w H s Q E) s
theorem Env0.make {P:Program} {w:World} {K:W.Frag} {mg:Str->Option Value} {base:Heap} {A:Around} {outer:List Env} {s:Shared} {H:Hp} (e:Env0 P w K mg base A outer s H) (C:Addr) (us:List Value) (kw:List (Str × Value)) :
  Env0 P w K mg base (A.under (.builtin "type.__call__" ⟨.ref C::us,kw⟩)) outer s H:=⟨by first | exact e.frames | (simpa [Around.under,Code.envs,Code.isFrame,pushEnvs] using e.frames),e.mod,e.bs,e.bsz,e.funs,e.frf,e.hok,e.bare⟩
section
variable {X:Cx} {pins:List (Addr × Obj)} {σ : St} {H:Hp} {s s':Shared}
theorem Inv.env0 (I:Inv X pins σ H s):Env0 X.prog X.w X.K X.mg X.base X.A X.stack s H :=
 ⟨I.ok.frames,I.ok.mod,I.bs,Nat.le_trans I.ok.bsz I.sz,I.stack,I.stkFree,I.hok,I.bare⟩
theorem Inv.after {Q:VK} {u:Value} (I:Inv X pins σ H s) (h:CE X.stack X.prog X.w H s Q u s'):EP X pins σ Q u s':=by
 obtain ⟨v,j,i,a,f,c,r,q⟩:=h;obtain ⟨k,g,d,t,e⟩:=s';obtain rfl:e=s.os:=i;exact ⟨v,j,I.call (h':=k) (g':=g) (d':=d) (t':=t) (ch:=[]) f c a (fun b z=>absurd z (by simp)),r,q⟩
end
def tCall (sp:Sp) (dvs:List V) (E:XK) (t:TA):TE:=fun σ H Q=>t σ H fun vs H1=>sp (vs++dvs) H1 Q E
def tMake (C:Addr) (sp:Sp) (dvs:List V) (E:XK) (t:TA):TE:=fun σ H Q=>t σ H fun vs H1=>∀ x dx,H1 x=none->H1 dx=none->dx≠x ->
 sp (.ref x::(vs++dvs)) (upd (upd H1 dx (.own x)) x (.ins C dx [])) (fun v H2=>v=.non/\Q (.ref x) H2) E
def Binds (K:W.Frag) (fd:FuncData) (ps:List Str) (ds:List Value):Prop :=
 ∀ (s:Shared) (us:List Value),K.In s.heap->(us++ds).length=ps.length->BindsTo s fd ⟨us,[]⟩ (ps.zip (us++ds))
theorem Binds.all {K:W.Frag} {fd:FuncData} {ps:List Str} (h:∀ us:List Value,us.length=ps.length->bindArgs fd ⟨us,[]⟩=pure (ps.zip us)):Binds K fd ps []:=fun s us _ a=>by
 rw [append_nil] at a ⊢;exact .of_eq (h us a)
def Jb3 (CX:CXT) (X:Cx) (E:XK):Prop:=∀ (pins:List (Addr × Obj)) (σ : St) (H:Hp) (s:Shared) (e:Value) (s':Shared),Inv X pins σ H s->CX X.stack H s E e s'->X.xe e s'
section
variable {X:Cx} {CX:CXT} {k:Nat} {f C:Addr} {fd:FuncData} {ps:List Str} {sp:Sp} {dvs:List V} {ds:List Value} {E:XK} {x m:Str} {p pos apos:Pos} {e o:Expr} {es:List Expr} {ta:TE} {t:TA}
theorem JfG {pins:List (Addr × Obj)} {σ : St} {H:Hp} {s:Shared} {Q:VK} {us:List Value} {vs:List V} (F:FnOk X.prog X.w X.K X.mg X.base CX k f fd ps sp) (hr:Room k X.A) (hb:Binds X.K fd ps ds) (hd:Vals dvs ds) (hx:Jb3 CX X E)
  (I:Inv X pins σ H s) (r:Vals vs us) (h:sp (vs++dvs) H Q E):wpAny (model X.prog X.w) X.A (call (.ref f) us) (EP X pins σ Q) X.xe s:=by
 have b:Vals (vs++dvs) (us++ds):=r.append hd;have d:(us++ds).length=ps.length:=by rw [<- b.length];exact F.len _ _ _ _ h
 refine wpAny_call (codeAny_mono (F.run X.A X.stack s H ⟨us,[]⟩ (us++ds) (vs++dvs) Q E hr I.env0 (hb s us I.kIn d) b h) fun r c a=>?_);cases r with
 | error e=>exact hx pins σ H s e c I a
 | ok fl=>
  cases fl with
  | ret u=>exact I.after a
  | next=>exact False.elim a
  | brk=>exact False.elim a
  | cont=>exact False.elim a
theorem Jkh (F:FnOk X.prog X.w X.K X.mg X.base CX k f fd ps sp) (hr:Room k X.A) (hg:Gl X x) (hm:X.mg x=some (.ref f)) (hk:W.keepIn X.K (.ref f)=true) (hb:Binds X.K fd ps ds) (hd:Vals dvs ds) (hx:Jb3 CX X E)
  (ha:PA X (e::es) t) (hdb:(x == ("__debug__" : Str))=false:=by decide) (he:starEach (e::es) X.env=(false,eval e X.env)::starEach es X.env:=by rfl) (hpl:(backTo pos (starEach es X.env)).any (·.1)=false:=by rfl) :
  PE X (.Call (.Name x p) (e::es) [] pos) (tCall sp dvs E t):=by
 intro a s σ H Q I h;refine wpAny_Call_Name_kw (JdO I hg hm ?_ hdb);refine W.callWith_K (h₀:=X.base) I.ok.mod.kin hk (thn (ha pos a s σ H _ I h) fun b c ⟨g,d,I1,r,q⟩=>⟨I1.kIn,?_⟩) he hpl;exact JfG F hr hb hd hx I1 r q
theorem Ji3 (F:FnOk X.prog X.w X.K X.mg X.base CX k f fd ps sp) (hr:Room k X.A) (hg:Gl X x) (hm:X.mg x=some (.ref f)) (hk:W.keepIn X.K (.ref f)=true) (hb:Binds X.K fd ps ds) (hd:Vals dvs ds) (hx:Jb3 CX X E)
  (hdb:(x == ("__debug__" : Str))=false:=by decide):PE X (.Call (.Name x p) [] [] pos) (tCall sp dvs E tNil):=by
 intro a s σ H Q I h;refine wpAny_Call_Name_kw (JdO I hg hm ?_ hdb);exact W.callWith_K0 I.kIn hk (JfG (us:=[]) F hr hb hd hx I .nil h)
structure Mk (K:W.Frag) (C f:Addr):Prop where
 makes:W.makesIn K C=true
 init:W.findIn K (.ref C) "__init__"=some (some (.ref f))
 fn:W.isFn K (.ref f)=true
 kp:W.keepIn K (.ref C)=true
theorem Ji9 {pins:List (Addr × Obj)} {σ : St} {H:Hp} {s:Shared} {Q:VK} {us:List Value} {vs:List V} (M:Mk X.K C f) (F:FnOk X.prog X.w X.K X.mg X.base CX k f fd ps sp) (hr:Room (k+1) X.A) (hb:Binds X.K fd ps ds) (hd:Vals dvs ds)
  (hx:Jb3 CX X E) (I:Inv X pins σ H s) (r:Vals vs us)
  (h:∀ x dx,H x=none->H dx=none->dx≠x->sp (.ref x::(vs++dvs)) (upd (upd H dx (.own x)) x (.ins C dx [])) (fun v H2=>v=.non/\Q (.ref x) H2) E) :
  wpAny (model X.prog X.w) X.A (call (.ref C) us) (EP X pins σ Q) X.xe s:=by
 have b:=h (s.heap.objs.size+1) s.heap.objs.size (I.hok.fresh (Nat.le_succ _)) (I.hok.fresh (Nat.le_refl _)) (Nat.ne_of_lt (Nat.lt_succ_self _));have I2:=Inv.made (C:=C) I;have c:Vals (V.ref (s.heap.objs.size+1)::(vs++dvs)) (Value.ref (s.heap.objs.size+1)::(us++ds)):=.cons rfl (r.append hd);have j:(Value.ref (s.heap.objs.size+1)::us++ds).length=ps.length:=by
  have e:=c.length;rw [F.len _ _ _ _ b] at e;exact e.symm
 refine wpAny_call (JiX (f:=f) I.kIn M.makes M.init (beq_iff_eq.mp M.fn) (codeAny_mono (F.run _ X.stack _ _ ⟨Value.ref (s.heap.objs.size+1)::us,[]⟩ (Value.ref (s.heap.objs.size+1)::(us++ds)) _ _ E (hr.make C us [])
  (I2.env0.make C us []) (hb _ (Value.ref (s.heap.objs.size+1)::us) I2.kIn j) c b) fun r d a=>?_))
 cases r with
 | error e=>exact hx pins σ _ _ e d I2 a
 | ok fl=>
  cases fl with
  | ret u=>
   obtain ⟨v,l,I3,m,i,g⟩:=I2.after a;subst i;exact ⟨m,⟨V.ref (s.heap.objs.size+1),l,I3,rfl,g⟩⟩
  | next=>exact False.elim a
  | brk=>exact False.elim a
  | cont=>exact False.elim a
theorem Jkj (M:Mk X.K C f) (F:FnOk X.prog X.w X.K X.mg X.base CX k f fd ps sp) (hr:Room (k+1) X.A) (hg:Gl X x) (hm:X.mg x=some (.ref C)) (hb:Binds X.K fd ps ds) (hd:Vals dvs ds) (hx:Jb3 CX X E)
  (ha:PA X (e::es) t) (hdb:(x == ("__debug__" : Str))=false:=by decide) (he:starEach (e::es) X.env=(false,eval e X.env)::starEach es X.env:=by rfl) (hpl:(backTo pos (starEach es X.env)).any (·.1)=false:=by rfl) :
  PE X (.Call (.Name x p) (e::es) [] pos) (tMake C sp dvs E t):=by
 intro a s σ H Q I h;refine wpAny_Call_Name_kw (JdO I hg hm ?_ hdb);refine W.callWith_K (h₀:=X.base) I.ok.mod.kin M.kp (thn (ha pos a s σ H _ I h) fun b c ⟨g,d,I1,r,q⟩=>⟨I1.kIn,?_⟩) he hpl;exact Ji9 M F hr hb hd hx I1 r q
end
section
variable {X:Cx} {CX:CXT} {k:Nat} {f C:Addr} {fd:FuncData} {ps ks:List Str} {sp:Sp} {E:XK} {x m:Str} {p pos apos kpos:Pos} {e o:Expr} {es:List Expr} {kws:List Keyword} {te ta:TE} {t tk:TA} {nm:Option Str}
variable {g:List Value->List Value->List Value} {gV:List V->List V->List V}
end
structure Jan (N P:List Str) (sc:Scope):Prop where
 kind:sc.kind=.function
 co:sc.isCoroutine=false
 gen:sc.isGenerator=false
 nd:N.Nodup
 pre:N.take P.length=P
 par:∀ x∈P,sc.names.lookup x=some .local\/sc.names.lookup x=some .cell
 nofree:∀ y∈sc.names,y.2≠.free
theorem Jfe {kindOf:Str->Option NameKind} {x:Str}:∀ {binds:List (Str × Value)} {m:Str->Option Value},(∀ v,(x,v)∉binds)->bindL kindOf binds m x=m x
 | [],_,_=>rfl
 | (n,v)::r,m,h=>by
  unfold bindL;rw [Jfe fun w hw=>h w (mem_cons_of_mem _ hw)];split
  ·have : x≠n:=by rintro rfl;exact h v mem_cons_self
   simp [this]
  ·rfl
theorem Jfc {kindOf:Str->Option NameKind} {x:Str}:∀ {binds:List (Str × Value)} {m:Str->Option Value},(∀ v,(x,v)∉binds)->bindC kindOf binds m x=m x
 | [],_,_=>rfl
 | (n,v)::r,m,h=>by
  unfold bindC;rw [Jfc fun w hw=>h w (mem_cons_of_mem _ hw)];split
  ·rfl
  ·have : x≠n:=by rintro rfl;exact h v mem_cons_self
   simp [this]
theorem Jfd {kindOf:Str->Option NameKind} {x:Str} {v:Value}:∀ {P:List Str} {vs:List Value} {i:Nat} {m:Str->Option Value},P.Nodup->P[i]?=some x->vs[i]?=some v->kindOf x=some .local ->
  bindL kindOf (P.zip vs) m x=some v
 | [],_,_,_,_,h,_,_=>by simp at h
 | _::_,[],_,_,_,_,h,_=>by simp at h
 | p::P,w::vs,0,m,nd,h1,h2,hk=>by
  simp at h1 h2;subst h1;subst h2;show bindL kindOf ((p,w)::P.zip vs) m p=_;unfold bindL;rw [Jfe fun v hv=>(nodup_cons.mp nd).1 (List.of_mem_zip hv).1,if_pos hk];simp
 | p::P,w::vs,i+1,m,nd,h1,h2,hk=>by
  show bindL kindOf ((p,w)::P.zip vs) m x=_;unfold bindL;exact Jfd (i:=i) (nodup_cons.mp nd).2 (by simpa using h1) (by simpa using h2) hk
theorem Jfb {kindOf:Str->Option NameKind} {x:Str} {v:Value}:∀ {P:List Str} {vs:List Value} {i:Nat} {m:Str->Option Value},P.Nodup->P[i]?=some x->vs[i]?=some v->kindOf x≠some .local ->
  bindC kindOf (P.zip vs) m x=some v
 | [],_,_,_,_,h,_,_=>by simp at h
 | _::_,[],_,_,_,_,h,_=>by simp at h
 | p::P,w::vs,0,m,nd,h1,h2,hk=>by
  simp at h1 h2;subst h1;subst h2;show bindC kindOf ((p,w)::P.zip vs) m p=_;unfold bindC;rw [Jfc fun v hv=>(nodup_cons.mp nd).1 (List.of_mem_zip hv).1,if_neg hk];simp
 | p::P,w::vs,i+1,m,nd,h1,h2,hk=>by
  show bindC kindOf ((p,w)::P.zip vs) m x=_;unfold bindC;exact Jfb (i:=i) (nodup_cons.mp nd).2 (by simpa using h1) (by simpa using h2) hk
def start (N:List Str) (vs:List V):St:=vs.map some++List.replicate (N.length-vs.length) none
def cxOf (CX:CXT) (P:Program) (w:World) (K:W.Frag) (mg:Str->Option Value) (base:Heap) (N:List Str) (qual:Str) (scope:Scope) (f:Addr) (cd:Value) (A:Around) (outer:List Env) (s:Shared) (H:Hp) (E:XK):Cx where
 prog:=P
 w:=w
 K:=K
 mg:=mg
 base:=base
 A:=A.deeper (envOfC qual scope s.heap.objs.size f cd)
 N:=N
 s₀:=s
 H₀:=H
 env:=envOfC qual scope s.heap.objs.size f cd
 outer:=outer
 stack:=envOfC qual scope s.heap.objs.size f cd::outer
 ex:=[]
 calm:=true
 fn:=fun _=>true
 pn:=[]
 xe:=fun e s'=>wpAny (model P w) (A.deeper (envOfC qual scope s.heap.objs.size f cd)) (leaving (envOfC qual scope s.heap.objs.size f cd) e) (fun _ s''=>CX outer H s E e s'') (fun e' s''=>CX outer H s E e' s'') s'
theorem JgF {sc:Scope} {n:Nat} {x:Str} (h:sc.names.lookup x=some .cell):∃ c,(cellsFrom n sc.names []).lookup x=some c:=by
 have q:=W.cellsFrom_some sc.names n [] (.inl h);exact Option.isSome_iff_exists.mp q
theorem JhZ {CX:CXT} {P:Program} {w:World} {K:W.Frag} {mg:Str->Option Value} {base:Heap} {N ps:List Str} {qual:Str} {scope:Scope} {f:Addr} {cd:Value} {A:Around} {outer:List Env} {s s1:Shared} {H:Hp} {E:XK} {us:List Value} {vs:List V}
  (S:Jan N ps scope) (hd:A.handled=none) (e0:Env0 P w K mg base A outer s H) (hl:vs.length=ps.length) (r:Vals vs us)
  (x:InCallC s s.heap.objs.size (bindL (envOfC qual scope s.heap.objs.size f cd).kindOf (ps.zip us) fun _=>none) (cellsFrom (s.heap.objs.size+1) scope.names []) (bindC (envOfC qual scope s.heap.objs.size f cd).kindOf (ps.zip us) fun _=>none) s1) :
  Inv (cxOf CX P w K mg base N qual scope f cd A outer s H E) [] (start N vs) H s1:=by
 have F:ps.length<=N.length:=by have:=congrArg List.length S.pre;rw [length_take] at this;ac_nf
 obtain ⟨t,I,rfl,C⟩:=x.done;have g:∀ b:Addr,b∉(cxOf CX P w K mg base N qual scope f cd A outer s H E).ex:=fun b z=>absurd (show b∈([]:List Addr) from z) (by simp);refine ⟨⟨e0.mod,S.kind,rfl,rfl,Nat.le_refl _,fun y z c t d=>?_,fun y j=>?_,fun y c _ h=>?_,fun _=>hd,Around.frames_deeper e0.frames, .inr ⟨rfl,rfl⟩,fun b z=>absurd z (g b),e0.bs,e0.bsz,fun b _ _=>g b,fun b z=>absurd z (g b),e0.funs,e0.frf⟩,
  rfl,e0.bare,Un.kept C,⟨_,x.toInCall.ns,fun i y v t d J=>?_⟩,fun y c h=>⟨_,x.cell y c h⟩,e0.hok.fresh (Nat.le_refl _),fun y c h=>?_,fun p m=>absurd (show p∈([]:List (Addr × Obj)) from m) (by simp),e0.hok.kept C,?_⟩
 ·exact name_of_addr x.apart (PySem.mem_of_lookup t) (PySem.mem_of_lookup d)
 ·have j:scope.names.lookup y=some .cell\/scope.names.lookup y=some .free:=j;rcases j with j | j
  ·exact JgF j
  ·exact absurd rfl (S.nofree _ (PySem.mem_of_lookup j))
 ·exact Nat.le_of_lt (x.above y c (PySem.mem_of_lookup h))
 ·have o:i<vs.length:=by
   unfold start at d;by_cases o:i<vs.length
   ·exact o
   ·rw [List.getElem?_append_right (by simpa using o)] at d;rw [List.getElem?_replicate] at d;split at d <;> cases d
  have G:vs[i]?=some v:=by
   unfold start at d;rw [List.getElem?_append_left (by simpa using o),List.getElem?_map] at d;cases e:vs[i]? with
   | none=>rw [e] at d;cases d
   | some a=>rw [e] at d;cases d;rfl
  obtain ⟨u,B,D⟩:=r.get G;have m:ps[i]?=some y:=by
   rw [<- S.pre,List.getElem?_take_of_lt ∅];exact t
  have l:ps.Nodup:=by rw [<- S.pre];exact S.nd.sublist (List.take_sublist _ _)
  refine ⟨u,D,?_⟩;rcases S.par y (List.mem_of_getElem? m) with k | k
  ·exact .inl ⟨k,Jfd l m B k⟩
  ·obtain ⟨c,e⟩:=JgF (n:=s.heap.objs.size+1) k;refine .inr ⟨.inl k,c,e,?_⟩;have q:=x.cell y c e;rw [Jfb l m B (by show scope.names.lookup y≠_;rw [k];decide)] at q;exact q
 ·exact e0.hok.fresh (Nat.le_of_lt (x.above y c (PySem.mem_of_lookup h)))
 ·unfold start;show _=N.length;rw [length_append,length_map,List.length_replicate];ac_nf
theorem fn_of {CX:CXT} {P:Program} {w:World} {K:W.Frag} {mg:Str->Option Value} {base:Heap} {k:Nat} {f:Addr} {name qual:Str} {params:Arguments} {body:List Stmt} {scope:Scope} {dV kV doc pm cdv ct oc:Value} {an od:Option Addr}
  {osl:Array (Option Value)} {N ps:List Str} {sp:Sp} (lk:K.lookup f=some ⟨oc,od, .func (W.fnOf name qual params body scope dV kV doc pm an cdv ct),osl⟩) (hcd:W.codeIn K cdv qual=true) (S:Jan N ps scope)
  (len:∀ vs H Q E,sp vs H Q E->vs.length=ps.length)
  (hbody:∀ (A:Around) (outer:List Env) (s:Shared) (H:Hp) (vs:List V) (Q:VK) (E:XK),Room k (A.deeper (envOfC qual scope s.heap.objs.size f cdv))->sp vs H Q E ->
   ∃ t,PSs (cxOf CX P w K mg base N qual scope f cdv A outer s H E) body t/\t { nx:=fun _ H'=>Q .non H',rt:=Q } (start N vs) H) :
  FnOk P w K mg base CX (k+1) f (W.fnOf name qual params body scope dV kV doc pm an cdv ct) ps sp:=by
 refine ⟨len,fun A outer s H p D vs Q E l d G r g=>?_⟩;have C:=len _ _ _ _ g;have KX:K.In s.heap:=d.mod.kin.keeps fun b o e=>(d.bs b o e).1;have m:s.heap.NoLimit:=d.mod.nolimit.keeps fun b o e=>(d.bs b o e).1;have a:∀ y∈ps.zip D,scope.names.lookup y.1=some .local\/(scope.names.lookup y.1=some .cell/\((cellsFrom (s.heap.objs.size+1) scope.names []).lookup y.1).isSome=true):=fun ⟨n,v⟩ R=>by
  rcases S.par n (List.of_mem_zip R).1 with q | q
  ·exact .inl q
  ·exact .inr ⟨q,W.cellsFrom_some _ _ _ (.inl q)⟩
 refine codeAny_call_function l.depth (KX _ _ lk) rfl S.co S.gen rfl (W.codeRec_of KX hcd) (G _ _ _ _ ?_);refine wpAny_newFunctionEnv_cells S.kind a fun B O z x=>?_;subst O;refine ⟨m.keeps x.toInCall.keep,codeAny_func ?_⟩;obtain ⟨t,M,F⟩:=hbody A outer s H vs Q E (l.deeper _) g;have I:Inv (cxOf CX P w K mg base N qual scope f cdv A outer s H E) [] (start N vs) H z:=JhZ S l.hd d C r x;refine wpAny_mono (M [] z (start N vs) H _ I F) (fun L j c=>?_) fun e j c=>c;have h:∀ {σ':St} {H':Hp} {v:V} {u:Value},Inv (cxOf CX P w K mg base N qual scope f cdv A outer s H E) [] σ' H' j->RelV v u->Q v H'->CE outer P w H s Q u j :=
  fun {σ' H' v u} J i q=>⟨v,H',J.os,J.bare,J.base,J.hok,i,q⟩
 cases L with
 | ret u=>
  obtain ⟨v,σ',H',J,i,q⟩:=c;exact h J i q
 | next=>
  obtain ⟨σ',H',J,q⟩:=c;exact h (v:=V.non) (u:=Value.none) J rfl q
 | brk=>
  obtain ⟨_,_,_,q⟩:=c;exact False.elim q
 | cont=>
  obtain ⟨_,_,_,q⟩:=c;exact False.elim q
section
variable {X:Cx} {x:Str} {p pos:Pos} {e:Expr} {es:List Expr} {t:TA} {id T:String} {r:List V->Hp->VK->Prop}
def tCB (r:List V->Hp->VK->Prop) (t:TA):TE:=fun σ H Q=>t σ H fun vs H1=>r vs H1 Q
theorem Jat (hc:CallR X (.builtin id) r) (hg:Gl X x) (hm:X.mg x=none) (hv:bootBuiltins x=some (.builtin id)) (ha:PA X (e::es) t) (hn:x≠"__name__":=by decide) (hdb:(x == ("__debug__" : Str))=false:=by decide)
  (he:starEach (e::es) X.env=(false,eval e X.env)::starEach es X.env:=by rfl) (hpl:(backTo pos (starEach es X.env)).any (·.1)=false:=by rfl):PE X (.Call (.Name x p) (e::es) [] pos) (tCB r t):=by
 intro a s σ H Q I h;refine wpAny_Call_Name_kw (Jdj I hg hm hv ?_ hn hdb);exact PyProof.Rows.callWith_builtin1 (thn (ha pos a s σ H _ I h) fun b c ⟨f,d,I1,g,i⟩=>hc a c σ d f b Q I1 g i) he hpl
theorem JbJ (hc:CallR X (.type T) r) (hg:Gl X x) (hm:X.mg x=none) (hv:bootBuiltins x=some (.type T)) (ha:PA X (e::es) t) (hn:x≠"__name__":=by decide) (hdb:(x == ("__debug__" : Str))=false:=by decide)
  (he:starEach (e::es) X.env=(false,eval e X.env)::starEach es X.env:=by rfl) (hpl:(backTo pos (starEach es X.env)).any (·.1)=false:=by rfl):PE X (.Call (.Name x p) (e::es) [] pos) (tCB r t):=by
 intro a s σ H Q I h;refine wpAny_Call_Name_kw (Jdj I hg hm hv ?_ hn hdb);exact PyProof.Rows.callWith_type1 (thn (ha pos a s σ H _ I h) fun b c ⟨f,d,I1,g,i⟩=>hc a c σ d f b Q I1 g i) he hpl
end
end L2
namespace HT
open PySem PyProof.Rows
section
open PySem.SeqAt
open PySem.AutoSeq1 (wpAny_loadPart')
open PySem.MeetsSeq PySem.MeetsSeq2 PySem.MeetsSeq3
end
section
variable {prog:Program} {w:World} {A:Around} {E:Value->Shared->Prop} {s:Shared}
theorem cat_tup {t b:Addr} {vs ws:List Value} {Q:Value->Shared->Prop} (ht:IsTup s.heap t vs.toArray) (hb:IsTup s.heap b ws.toArray) (hv:vs≠[])
  (h1:ws=[]->Q (.ref t) s) (h2:ws≠[]->Q (.ref s.heap.objs.size) { s with heap:=s.heap.push { cls:=.type "tuple",data:=.seq (vs++ws).toArray } })
  (hsz:vs.length+ws.length<=sizeLine):wpAny (model prog w) A (binaryOp .Add (.ref t) (.ref b)) Q E s:=by
 obtain ⟨⟨cls,q,data,m⟩,h,k,n,l⟩:=id ht;obtain ⟨⟨o,g,j,c⟩,a,f,p,d⟩:=id hb;simp only at k l f d;subst k l f d;have e:vs.toArray++ws.toArray=(vs++ws).toArray:=by simp
 by_cases i:ws=[]
 ·exact concat_meets ⟨_,h,rfl⟩ ⟨_,a,rfl⟩ noFill_tuple_add seq_tuple_add PySem.F.slot_tuple_add PySem.F.entry_tuple_add (PySem.F.args_tuple_add_2 _ _)
   (tuple_addW1 t b vs.toArray ws.toArray n p q g m c (by simpa using hv) (by simp [i])) ⟨h,a,h1 i⟩
 ·refine concat_meets ⟨_,h,rfl⟩ ⟨_,a,rfl⟩ noFill_tuple_add seq_tuple_add PySem.F.slot_tuple_add PySem.F.entry_tuple_add (PySem.F.args_tuple_add_2 _ _)
   (tuple_addW2 t b vs.toArray ws.toArray n p q g m c (by simpa using hv) (by simpa using i) (by rw [size_toArray,size_toArray];exact hsz)) ⟨h,a,?_⟩
  rw [e];exact h2 i
def sIx (n d:Nat):Option Int->Nat
 | none=>d
 | some v=>if v<0 then (v+(n:Int)).toNat else min v.toNat n
theorem sIx_nat (n d k:Nat):sIx n d (some (k:Int))=min k n:=by
 show (if (k:Int)<0 then ((k:Int)+(n:Int)).toNat else min (k:Int).toNat n)=min k n;rw [if_neg ∅,Int.toNat_natCast]
theorem Jlg (n d:Nat) (hd:d<=n) (o:Option Int):sIx n d o<=n:=by
 cases o with
 | none=>exact hd
 | some v=>
  show (if v<0 then (v+(n:Int)).toNat else min v.toNat n)<=n;by_cases a:v<0
  ·rw [if_pos a];ac_nf
  ·rw [if_neg a];exact Nat.min_le_right _ _
theorem Jhz (v:Int) (n d:Nat):(if v<0 then max (v+(n:Int)) 0 else min v (n:Int))=((sIx n d (some v):Nat):Int):=by
 show (if v<0 then max (v+(n:Int)) 0 else min v (n:Int))=(((if v<0 then (v+(n:Int)).toNat else min v.toNat n):Nat):Int);by_cases a:v<0
 ·simp only [if_pos a];ac_nf
 ·simp only [if_neg a];ac_nf
theorem Jg6 (lo hi:Option Int) (n:Nat):Builtin.Slice.sliceAdjust lo hi 1 (n:Int)=(((sIx n 0 lo:Nat):Int),((sIx n n hi:Nat):Int)):=by
 have a:¬ ((1:Int)<0):=by ac_nf
 unfold Builtin.Slice.sliceAdjust;simp only [a,if_false];refine Prod.ext ?_ ?_
 ·cases lo with
  | none=>rfl
  | some v=>exact Jhz v n 0
 ·cases hi with
  | none=>rfl
  | some v=>exact Jhz v n n
theorem Jhl (i j:Nat):Builtin.Slice.slicePlaces (i:Int) (j:Int) 1=j-i:=by
 unfold Builtin.Slice.slicePlaces;have a:(1:Int) > 0:=by ac_nf
 simp only [a,if_true,Int.ediv_one];split <;> ac_nf
theorem JeB {v:Value} {o:Option Int} {Q:Option Int->Shared->Prop} (p:IsPart v o) (h:Q o s):wpAny (model prog w) A (Builtin.Slice.slicePartIndex v) Q E s:=by
 cases p with
 | none=>exact slicePart_none h
 | int i t=>exact slicePart_int h
theorem Jdt {sl:Addr} {vl vu:Value} {lo hi:Option Int} {n:Nat} {Q:Int × Int × Nat->Shared->Prop} (hs:s.heap.IsSliceOf sl vl vu .none) (pl:IsPart vl lo) (pu:IsPart vu hi)
  (h:Q (((sIx n 0 lo:Nat):Int),1,sIx n n hi-sIx n 0 lo) s):wpAny (model prog w) A (Builtin.Slice.sliceApplied (.ref sl) (pure (n:Int))) Q E s:=by
 obtain ⟨d,a,c,b⟩:=id hs;unfold Builtin.Slice.sliceApplied Builtin.Slice.sliceFields;refine wpAny_bind (wpAny_bind (wpAny_field a b (x:=vl) rfl (wpAny_bind (wpAny_field a b (x:=vu) rfl (wpAny_bind (wpAny_field a b (x:=.none) rfl (wpAny_pure ?_)))))));refine wpAny_bind (slicePart_none ?_);show wpAny _ _ (if ((1:Int) == 0)=true then _ else _) _ _ s;rw [if_neg ⋯];refine wpAny_bind (JeB pl (wpAny_bind (JeB pu (wpAny_bind (wpAny_pure ?_)))));show wpAny _ _ (match Builtin.Slice.sliceAdjust lo hi 1 (n:Int) with | (lo,hi)=>pure (lo,(1:Int),Builtin.Slice.slicePlaces lo hi 1)) _ _ s;rw [Jg6 lo hi n];show wpAny _ _ (pure (((sIx n 0 lo:Nat):Int),(1:Int),Builtin.Slice.slicePlaces ((sIx n 0 lo:Nat):Int) ((sIx n n hi:Nat):Int) 1)) _ _ s;rw [Jhl];exact wpAny_pure h
theorem Ji6 (xs:Array Value) (i k:Nat):((List.range k).filterMap fun (m:Nat)=>xs[((i:Int)+(m:Int)*1).toNat]?).toArray=((xs.toList.drop i).take k).toArray:=by
 have e:(fun (m:Nat)=>xs[((i:Int)+(m:Int)*1).toNat]?)=fun m=>xs[i+m]?:=by
  funext m
  have : ((i:Int)+(m:Int)*1).toNat=i+m:=by ac_nf
  rw [this]
 rw [e];have:=pick_run xs i k;rw [List.filterMap_map] at this;have a:((fun x=>xs[x]?) ∘ fun x=>i+x)=fun m=>xs[i+m]?:=rfl;rw [a] at this;rw [this]
theorem getItem_tuple_cut {t sl:Addr} {items:Array Value} {vl vu:Value} {lo hi:Option Int} {Q:Value->Shared->Prop} (ht:IsTup s.heap t items) (hs:s.heap.IsSliceOf sl vl vu .none) (pl:IsPart vl lo) (pu:IsPart vu hi)
  (hw:¬ (sIx items.size 0 lo=0/\sIx items.size items.size hi=items.size))
  (h:Q (.ref s.heap.objs.size) { s with heap:=s.heap.push { cls:=.type "tuple",data:=.seq ((items.toList.drop (sIx items.size 0 lo)).take (sIx items.size items.size hi-sIx items.size 0 lo)).toArray } })
  (hsz:items.size<=sizeLine):wpAny (model prog w) A (getItem (.ref t) (.ref sl)) Q E s:=by
 have a:sizeOk (.seq ((items.toList.drop (sIx items.size 0 lo)).take (sIx items.size items.size hi-sIx items.size 0 lo)).toArray):=by
  show ((items.toList.drop (sIx items.size 0 lo)).take (sIx items.size items.size hi-sIx items.size 0 lo)).toArray.size<=sizeLine;rw [size_toArray,length_take,List.length_drop,Array.length_toList];ac_nf
 have i:sIx items.size items.size hi<=items.size:=Jlg _ _ (Nat.le_refl _) hi;obtain ⟨f,d,e,g⟩:=id hs;have c:s.TypeIs (.ref sl) "slice":=⟨f,d,e⟩;unfold getItem;try with_reducible refine wpAny_holding ?_
 first | refine wpAny_bind (wpAny_pure ?_) | skip
 refine wpAny_bind (wpAny_sequenceKey ht.typeIs ⋯ ?_);refine wpAny_bind (wpAny_callSpecial?_slot (name:=Str.ofString "__getitem__") ht.typeIs PyProof.Rows.slot_tuple_getitem
  (wpAny_call_entry PyProof.Rows.slot_tuple_getitem ht.typeIs entry_tuple_getitem ?_ (args_tuple_getitem _ _)))
 show wpAny _ _ (Builtin.Tuple.tupleItemsOf (.ref t) >>= _) _ _ s;refine wpAny_bind (tupleItemsOf_ ht ?_);refine wpAny_bind (wpAny_typeOf c ?_);rw [if_pos ⋯];refine wpAny_bind (Jdt hs pl pu ?_);have b:¬ ((((sIx items.size 0 lo:Nat):Int) == 0&&(1:Int) == 1&&(sIx items.size items.size hi-sIx items.size 0 lo) == items.size)=true):=by
  intro q;rw [Bool.and_eq_true,Bool.and_eq_true] at q;have j:((sIx items.size 0 lo:Nat):Int)=0:=eq_of_beq q.1.1;have k:sIx items.size items.size hi-sIx items.size 0 lo=items.size:=eq_of_beq q.2;exact hw ⟨by ac_nf,by ac_nf⟩
 show wpAny _ _ (if (((sIx items.size 0 lo:Nat):Int) == 0&&(1:Int) == 1&&(sIx items.size items.size hi-sIx items.size 0 lo) == items.size)=true then _ else _) _ _ s;rw [if_neg b,Ji6];first
  | exact wpAny_bind (m:=Builtin.Tuple.tupleExact _) (wpAny_newObj_type (wpAny_pure ⟨_,rfl,wpAny_pure h⟩) a)
  | exact wpAny_bind (m:=Builtin.Tuple.tupleExact _) (wpAny_newObj_type (wpAny_bind (wpAny_pure (wpAny_pure ⟨_,rfl,wpAny_pure h⟩))) a)
  | exact wpAny_bind (wpAny_bind (m:=Builtin.Tuple.tupleExact _) (wpAny_newObj_type (wpAny_pure (wpAny_pure ⟨_,rfl,wpAny_pure h⟩)) a))
  | exact wpAny_bind (wpAny_bind (m:=Builtin.Tuple.tupleExact _) (wpAny_newObj_type (wpAny_pure ⟨_,rfl,wpAny_pure h⟩) a))
end
end HT
namespace L2
open PySem PySem.Spec PyProof.Rows
abbrev TO:=St->Hp->(Option Int->Hp->Prop)->Prop
def PO (X:Cx) (e:Option Expr) (t:TO):Prop :=
 ∀ (pins:List (Addr × Obj)) (s:Shared) (σ : St) (H:Hp) (Q:Option Int->Hp->Prop),Inv X pins σ H s->t σ H Q ->
  wpAny (model X.prog X.w) X.A (evalPart e X.env) (fun u s'=>∃ o H',Inv X pins σ H' s'/\IsPart u o/\Q o H') X.xe s
def Jkw:TO:=fun _ H Q=>Q none H
def tPart (t:TE):TO:=fun σ H Q=>t σ H fun x H1=>∃ i,x=.int i/\Q (some i) H1
section
variable {X:Cx} {e:Expr} {te:TE} {lo hi:Option Expr} {tl th:TO} {pos p2:Pos}
theorem Jir (h:PE X e te):PO X (some e) (tPart te):=by
 intro a s σ H Q I c;rw [evalPart_some];refine thn (h a s σ H _ I c) fun u g ζ=>?_;obtain ⟨x,b,I1,d,f⟩:=ζ;obtain ⟨i,rfl,q⟩:=f;obtain ⟨t,rfl⟩:=d;exact ⟨some i,b,I1, .int i t,q⟩
def SlR (X:Cx) (r:V->Option Int->Option Int->Hp->VK->Prop):Prop :=
 ∀ (pins:List (Addr × Obj)) (s:Shared) (σ : St) (H:Hp) (x:V) (v vl vu:Value) (lo hi:Option Int) (sl:Addr) (Q:VK),Inv X pins σ H s->RelV x v->s.heap.IsSliceOf sl vl vu .none->IsPart vl lo->IsPart vu hi->r x lo hi H Q ->
  ∃ T id,typeLookup (.type T) "__getitem__"=pure (some (.builtin id))/\s.TypeIs v T/\wpAny (model X.prog X.w) X.A (getItem v (.ref sl)) (EP X pins σ Q) X.xe s
theorem SlR.or {r r':V->Option Int->Option Int->Hp->VK->Prop} (h:SlR X r) (h':SlR X r'):SlR X (fun x lo hi H Q=>r x lo hi H Q\/r' x lo hi H Q):=by
 intro a s σ H x v vl d lo hi c Q I e f b pu q;rcases q with q | q
 ·exact h a s σ H x v vl d lo hi c Q I e f b pu q
 ·exact h' a s σ H x v vl d lo hi c Q I e f b pu q
def tSl (r:V->Option Int->Option Int->Hp->VK->Prop) (te:TE) (tl th:TO):TE:=fun σ H Q=>te σ H fun x H1=>tl σ H1 fun l H2=>th σ H2 fun u H3=>r x l u H3 Q
theorem Ji4 {r:V->Option Int->Option Int->Hp->VK->Prop} (hr:SlR X r) (he:PE X e te) (hl:PO X lo tl) (hu:PO X hi th):PE X (.Subscript e (.Slice lo hi none p2) pos) (tSl r te tl th):=by
 intro a s σ H Q I h;refine Subscript_ (thn (he a s σ H _ I h) fun v t ζ=>?_);obtain ⟨x,g,I1,B,k⟩:=ζ;refine wpAny_Slice (thn (hl a t σ g _ I1 k) fun vl y ⟨l,m,I2,o,p⟩=>thn (hu a y σ m _ I2 p) fun d c ζ=>?_);obtain ⟨u,f,I3,pu,n⟩:=ζ;rw [evalPart_none];refine wpAny_pure ?_;have I4:Inv X a σ f { c with heap:=c.heap.push { cls:=.type "slice",data:=.fields #[vl,d, .none] } }:=I3.kept (t':=c.toks) fun b C q=>Heap.get?_push_of_some _ q;obtain ⟨T,id,i,z,j⟩:=hr a { c with heap:=c.heap.push { cls:=.type "slice",data:=.fields #[vl,d, .none] } } σ f x v vl d l u c.heap.objs.size Q I4 B (Heap.IsSliceOf.new ..) o pu n;show wpAny (model X.prog X.w) X.A (subscriptTail e (.Slice lo hi none p2) v (.ref c.heap.objs.size)) (EP X a σ Q) X.xe { c with heap:=c.heap.push { cls:=.type "slice",data:=.fields #[vl,d, .none] } };exact tail_any (ops:=[.ref c.heap.objs.size,v]) z i j (by with_unfolding_all rfl)
def cutV (xs:List V) (lo hi:Option Int):List V:=(xs.drop (HT.sIx xs.length 0 lo)).take (HT.sIx xs.length xs.length hi-HT.sIx xs.length 0 lo)
theorem JdH (xs:List V) (lo hi:Option Int):(cutV xs lo hi).length<=xs.length:=by
 unfold cutV;rw [length_take,List.length_drop];ac_nf
def rSlT (K:W.Frag):V->Option Int->Option Int->Hp->VK->Prop:=fun x lo hi H Q=>∃ a xs,x=.ref a/\SqT K H a xs /\
 ¬ (HT.sIx xs.length 0 lo=0/\HT.sIx xs.length xs.length hi=xs.length)/\∀ p,H p=none->Q (.ref p) (upd H p (.tup (cutV xs lo hi)))
theorem Jli:SlR X (rSlT X.K):=by
 intro j s σ H x v vl u e g y Q I p t n pu h;obtain ⟨a,d,rfl,m,l,q⟩:=h;cases p;obtain ⟨f,r,k,i⟩:=I.tuple m;have c:f.toArray.size=d.length:=by rw [size_toArray];exact r.length.symm
 refine ⟨"tuple",_,PyProof.Rows.slot_tuple_getitem.lookup,k.typeIs,?_⟩;refine HT.getItem_tuple_cut k t n pu (by rw [c];exact l) ?_ (by rw [c];exact i);rw [c];refine ⟨.ref s.heap.objs.size,_,I.laid (t':=s.toks) (o:=.tup (cutV d e g)) (fun b w q=>Heap.get?_push_of_some _ q) (Nat.le_refl _) ?_,rfl,q _ (I.hok.fresh (Nat.le_refl _))⟩;exact ⟨Nat.le_trans (JdH d e g) i,_,(r.drop (HT.sIx d.length 0 e)).take (HT.sIx d.length d.length g-HT.sIx d.length 0 e),IsTup.new _ _⟩
def rCatT (K:W.Frag):R2:=fun x y H Q=>∃ a b xs ys,x=.ref a/\y=.ref b/\SqT K H a xs/\SqT K H b ys/\xs≠[]/\xs.length+ys.length<=sizeLine /\
 (ys=[]->Q (.ref a) H)/\(ys≠[]->∀ p,H p=none->Q (.ref p) (upd H p (.tup (xs++ys))))
theorem Vals.nil_iff {xs:List V} {us:List Value} (r:Vals xs us):us=[]↔xs=[]:=by
 cases r with
 | nil=>simp
 | cons _ _=>simp
theorem Jkb:OpR X (binaryOp .Add) (rCatT X.K):=by
 intro f s σ H x y v u Q I t B h;obtain ⟨a,b,i,j,rfl,rfl,C,n,m,e,l,A⟩:=h;cases t;cases B;obtain ⟨k,d,r,_⟩:=I.tuple C;obtain ⟨g,c,p,_⟩:=I.tuple n;refine HT.cat_tup r p (fun z=>m (d.nil_iff.mp z)) (fun z=>⟨.ref a,H,I,rfl,l (c.nil_iff.mp z)⟩) (fun z=>?_) (by rw [<- d.length, <- c.length];exact e);refine ⟨.ref s.heap.objs.size,_,I.laid (t':=s.toks) (o:=.tup (i++j)) (fun b D q=>Heap.get?_push_of_some _ q) (Nat.le_refl _) ?_,rfl,A (fun w=>z (c.nil_iff.mpr w)) _ (I.hok.fresh (Nat.le_refl _))⟩;exact ⟨by rw [length_append];exact e,_,d.append c,IsTup.new _ _⟩
end
def ixN (n:Nat) (i:Int):Option Nat:=if 0<=i then (if i<n then some i.toNat else none) else if -(n:Int)<=i then some (i+n).toNat else none
def atI {α : Type} (xs:List α) (i:Int):Option α:=(ixN xs.length i).bind fun j=>xs[j]?
theorem JjY {n:Nat} {i:Int} {j:Nat} (h:ixN n i=some j):seqIndex? i n=some j/\j<n/\-(n:Int)<=i/\i<n:=by
 unfold ixN at h;by_cases b:0<=i
 ·rw [if_pos b] at h;by_cases a:i<n
  ·rw [if_pos a] at h;have e:i.toNat=j:=Option.some.inj h;exact ⟨by rw [seqIndex_of b a,e],by ac_nf,by ac_nf,a⟩
  ·rw [if_neg a] at h;cases h
 ·rw [if_neg b] at h;by_cases a : -(n:Int)<=i
  ·rw [if_pos a] at h;have e:(i+n).toNat=j:=Option.some.inj h;exact ⟨by rw [seqIndex_neg ∅ a,e],by ac_nf,a,by ac_nf⟩
  ·rw [if_neg a] at h;cases h
theorem JfW {α : Type} {xs:List α} {i:Int} {v : α} (h:atI xs i=some v):∃ j,seqIndex? i xs.length=some j/\xs[j]?=some v/\j<xs.length/\-(xs.length:Int)<=i/\i<xs.length:=by
 unfold atI at h;cases e:ixN xs.length i with
 | none=>rw [e] at h;cases h
 | some j=>
  rw [e] at h;obtain ⟨a,b,d,c⟩:=JjY e;exact ⟨j,a,h,b,d,c⟩
theorem JdB {α : Type} {xs:List α} {j:Nat} {v : α} (h:xs[j]?=some v):atI xs (j:Int)=some v:=by
 have a:j<xs.length:=(List.getElem?_eq_some_iff.mp h).1;have e:ixN xs.length (j:Int)=some j:=by
  unfold ixN;rw [if_pos ∅,if_pos ∅];simp
 unfold atI;rw [e];exact h
def JjF (b:Expr):Prop:=∀ o i,subscripted b false o i=operate [o,i] (getItem o i)
def IxR (X:Cx) (r:R2):Prop :=
 ∀ (value slice:Expr) (pins:List (Addr × Obj)) (s:Shared) (σ : St) (H:Hp) (x y:V) (v u:Value) (Q:VK),Inv X pins σ H s->RelV x v->RelV y u->r x y H Q ->
  subscripted slice false v u=operate [v,u] (getItem v u)->wpAny (model X.prog X.w) X.A (subscriptTail value slice v u) (EP X pins σ Q) X.xe s
def MtR (X:Cx) (id:String) (r:V->List V->Hp->VK->Prop):Prop :=
 ∀ (pins:List (Addr × Obj)) (s:Shared) (σ : St) (H:Hp) (x:V) (xs:List V) (v:Value) (us:List Value) (Q:VK),Inv X pins σ H s->RelV x v->Vals xs us->r x xs H Q ->
  wpAny (model X.prog X.w) X.A (call (.builtin id) (v::us)) (EP X pins σ Q) X.xe s
section
variable {X:Cx} {a b:Expr} {ta tb:TE} {pos:Pos}
theorem pe_ix {r:R2} (hr:IxR X r) (ha:PE X a ta) (hb:PE X b tb) (hs:JjF b):PE X (.Subscript a b pos) (tOp r ta tb):=by
 intro c s σ H Q I h;exact Subscript_ (binT ha hb I h fun v u d x y e I2 f g q=>hr a b c d σ e x y v u Q I2 f g q (hs _ _))
def rIxL (K:W.Frag):R2:=fun x y H Q=>∃ p xs i v,x=.ref p/\y=.int i/\SqL K H p xs/\atI xs i=some v/\Q v H
def rIxT (K:W.Frag):R2:=fun x y H Q=>∃ p xs i v,x=.ref p/\y=.int i/\SqT K H p xs/\atI xs i=some v/\Q v H
def rIxS:R2:=fun x y H Q=>∃ z i c,x=.str z/\y=.int i/\z.length<=sizeLine/\atI z.cps.toList i=some c/\Q (.str ⟨#[c]⟩) H
theorem JjZ:IxR X (rIxL X.K):=by
 intro l f a s σ H x y v u Q I G J h o;obtain ⟨p,M,i,z,rfl,rfl,D,L,q⟩:=h;cases G;obtain ⟨t,rfl⟩:=J;obtain ⟨e,r,g,N⟩:=I.list D;obtain ⟨j,c,F,P,B,E⟩:=JfW L;obtain ⟨w,m,d⟩:=r.get F;have A:=r.length;have O:=Jfl;have b:EP X a σ Q w s:=⟨z,H,I,d,q⟩;by_cases n:0<=i
 ·have k:i.toNat=j:=by
   rw [seqIndex_of n E] at c;exact Option.some.inj c
  exact item_listR g.isList n ∅ (by rw [k];simpa using m) b o
 ·have k:(i+(e.toArray.size:Int)).toNat=j:=by
   rw [seqIndex_neg ∅ B] at c;rw [size_toArray, <- A];exact Option.some.inj c
  exact subscriptTail_builtinR (x:=w) g.isList.typeIs slot_list_getitem.lookup
   (wpAny_getItem_list_neg (Q:=fun r C=>r=w/\EP X a σ Q r C) g.isList ∅ (by rw [size_toArray] <;> ac_nf) ∅ (by rw [k];simpa using m) ⟨rfl,b⟩) o
theorem JkP:IxR X (rIxT X.K):=by
 intro e c a s σ H x y v u Q I B C h E;obtain ⟨p,F,i,z,rfl,rfl,n,D,q⟩:=h;cases B;obtain ⟨t,rfl⟩:=C;obtain ⟨k,r,f,G⟩:=I.tuple n;obtain ⟨j,l,A,N,J,L⟩:=JfW D;obtain ⟨w,o,b⟩:=r.get A;have g:=r.length;have M:=Jfl;have d:EP X a σ Q w s:=⟨z,H,I,b,q⟩;exact subscriptTail_builtinR (x:=w) f.typeIs slot_tuple_getitem.lookup
  (getItem_tuple (j:=j) (Q:=fun r m=>r=w/\EP X a σ Q r m) f ∅ ∅ (by rw [size_toArray, <- g];exact l) (by simpa using o) ⟨rfl,d⟩) E
theorem JkO:IxR X rIxS:=by
 intro b a d s σ H x y v u Q I p r h l;obtain ⟨z,i,c,rfl,rfl,B,w,q⟩:=h;obtain ⟨t,rfl⟩:=p;obtain ⟨A,rfl⟩:=r;obtain ⟨j,e,o,D,m,n⟩:=JfW w;have g:z.cps.toList.length=z.length:=by simp [Str.length]
 rw [g] at e m n;have C:=Jfl;exact tail_any (typeIs_str s z t) slot_str_getitem.lookup (getItem_str (c:=c) (by
  have k:decide (i < -(2 ^ 63:Int))=false:=decide_eq_false ∅;have f:decide (i ≥ 2 ^ 63)=false:=decide_eq_false ∅;rw [k,f,Bool.or_false]) (by rw [e];simpa using o) ⟨.str ⟨#[c]⟩,H,I.tok _,⟨_,rfl⟩,q⟩) l
theorem JfN (lo hi:Option Int) (n:Nat):(sliceBounds lo hi none n).1=((HT.sIx n 0 lo:Nat):Int)/\(sliceBounds lo hi none n).2.1=((HT.sIx n n hi:Nat):Int)/\(sliceBounds lo hi none n).2.2=1:=by
 refine ⟨?_,?_,rfl⟩
 ·cases lo with
  | none=>simp [sliceBounds,HT.sIx]
  | some i=>
   simp only [sliceBounds,HT.sIx,Option.getD_none,show (1:Int) > 0 by decide,if_true];by_cases h:i<0
   ·simp only [h,if_true] <;> ac_nf
   ·simp only [h,if_false] <;> ac_nf
 ·cases hi with
  | none=>simp [sliceBounds,HT.sIx]
  | some i=>
   simp only [sliceBounds,HT.sIx,Option.getD_none,show (1:Int) > 0 by decide,if_true];by_cases h:i<0
   ·simp only [h,if_true] <;> ac_nf
   ·simp only [h,if_false] <;> ac_nf
theorem Je6 (its:List Value) (lo hi:Option Int):slicePick its.toArray lo hi none=((its.drop (HT.sIx its.length 0 lo)).take (HT.sIx its.length its.length hi-HT.sIx its.length 0 lo)).toArray:=by
 obtain ⟨a,b,c⟩:=JfN lo hi its.toArray.size;unfold slicePick;rw [a,b,c];simp only [sliceRange_one,pick_run,size_toArray] <;> rfl
def rSlL (K:W.Frag):V->Option Int->Option Int->Hp->VK->Prop:=fun x lo hi H Q=>∃ a xs,x=.ref a/\SqL K H a xs/\∀ p,H p=none->Q (.ref p) (upd H p (.lst (cutV xs lo hi)))
theorem Jks:SlR X (rSlL X.K):=by
 intro g s σ H x v vl t e f w Q I n p m pu h;obtain ⟨a,c,rfl,l,q⟩:=h;cases n;obtain ⟨k,r,i,j⟩:=I.list l;have d:=r.length;refine ⟨"list",_,slot_list_getitem.lookup,i.isList.typeIs,?_⟩;refine wpAny_getItem_list_slice i.isList p m pu .none (by simp) ?_ (by rw [size_toArray] <;> ac_nf);rw [Je6, <- d];refine ⟨.ref s.heap.objs.size,_,I.laid (t':=s.toks) (o:=.lst (cutV c e f)) (fun b u q=>Heap.get?_push_of_some _ q) (Nat.le_refl _) ?_,rfl,q _ (I.hok.fresh (Nat.le_refl _))⟩;exact ⟨Nat.le_trans (JdH c e f) j,_,0,(r.drop (HT.sIx c.length 0 e)).take (HT.sIx c.length c.length f-HT.sIx c.length 0 e),Heap.get?_push_size _ rfl⟩
def flatV:V->Bool
 | .non=>true
 | .bl _=>true
 | .int _=>true
 | .str _=>true
 | _=>false
def eqV:V->V->Bool
 | .non, .non=>true
 | .bl a, .bl b=>a == b
 | .bl a, .int b=>(if a then 1 else 0) == b
 | .int a, .bl b=>a == (if b then 1 else 0)
 | .int a, .int b=>a == b
 | .str a, .str b=>a == b
 | _,_=>false
theorem Jjt {A:Around} {s:Shared} {y x:V} {u v:Value} (ry:RelV y u) (rx:RelV x v) (fy:flatV y=true) (fx:flatV x=true):SeqAt.EqAt A s u v (eqV y x):=by
 cases y with
 | non=>
  cases ry;cases x with
  | non=>cases rx;exact SeqAt.EqAt.same _
  | bl b=>cases rx;exact SeqAt.EqAt.none_bool b
  | int b=>obtain ⟨t,rfl⟩:=rx;exact SeqAt.EqAt.none_int b t
  | str b=>obtain ⟨t,rfl⟩:=rx;exact SeqAt.EqAt.none_str b t
  | _=>exact absurd (show false=true from fx) Bool.false_ne_true
 | bl a=>
  cases ry;cases x with
  | non=>cases rx;exact SeqAt.EqAt.bool_none a
  | bl b=>cases rx;exact SeqAt.EqAt.bool_bool a b
  | int b=>obtain ⟨t,rfl⟩:=rx;exact SeqAt.EqAt.bool_int a b t
  | str b=>obtain ⟨t,rfl⟩:=rx;exact SeqAt.EqAt.bool_str a b t
  | _=>exact absurd (show false=true from fx) Bool.false_ne_true
 | int a=>
  obtain ⟨c,rfl⟩:=ry;cases x with
  | non=>cases rx;exact SeqAt.EqAt.int_none a c
  | bl b=>cases rx;exact SeqAt.EqAt.int_bool a c b
  | int b=>obtain ⟨t,rfl⟩:=rx;exact SeqAt.EqAt.int_int a c b t
  | str b=>obtain ⟨t,rfl⟩:=rx;exact SeqAt.EqAt.int_str a c b t
  | _=>exact absurd (show false=true from fx) Bool.false_ne_true
 | str a=>
  obtain ⟨c,rfl⟩:=ry;cases x with
  | non=>cases rx;exact SeqAt.EqAt.str_none a c
  | bl b=>cases rx;exact SeqAt.EqAt.str_bool a c b
  | int b=>obtain ⟨t,rfl⟩:=rx;exact SeqAt.EqAt.str_int a c b t
  | str b=>obtain ⟨t,rfl⟩:=rx;exact SeqAt.EqAt.str_str a c b t
  | _=>exact absurd (show false=true from fx) Bool.false_ne_true
 | _=>exact absurd (show false=true from fy) Bool.false_ne_true
def eqU (x:V) (u:Value):Bool:=match u with
 | .none=>eqV .non x
 | .bool b=>eqV (.bl b) x
 | .int i _=>eqV (.int i) x
 | .str z _=>eqV (.str z) x
 | _=>false
theorem Jju {x y:V} {u:Value} (r:RelV y u) (f:flatV y=true):eqU x u=eqV y x:=by
 cases y with
 | non=>cases r;rfl
 | bl b=>cases r;rfl
 | int i=>obtain ⟨t,rfl⟩:=r;rfl
 | str z=>obtain ⟨t,rfl⟩:=r;rfl
 | _=>exact absurd (show false=true from f) Bool.false_ne_true
theorem JdA {x:V}:∀ {xs:List V} {us:List Value},Vals xs us->xs.all flatV=true->us.any (eqU x)=xs.any fun y=>eqV y x
 | _,_, .nil,_=>rfl
 | y::xs,u::us, .cons r t,f=>by
  rw [List.all_cons,Bool.and_eq_true] at f;rw [any_cons,any_cons,Jju r f.1,JdA t f.2]
theorem JcV {A:Around} {s:Shared} {x:V} {v:Value} (rx:RelV x v) (fx:flatV x=true):∀ {xs:List V} {us:List Value},Vals xs us->xs.all flatV=true->∀ u∈us,SeqAt.EqAt A s u v (eqU x u)
 | _,_, .nil,_=>fun u hu=>by cases hu
 | y::xs,u::us, .cons r t,f=>fun u' hu=>by
  rw [List.all_cons,Bool.and_eq_true] at f;rcases mem_cons.mp hu with rfl | hu
  ·rw [Jju r f.1];exact Jjt r rx f.1 fx
  ·exact JcV rx fx t f.2 u' hu
def inV (x:V) (xs:List V):Bool:=xs.any fun y=>eqV y x
def rIn (K:W.Frag) (neg:Bool):R2:=fun x y H Q=>∃ p xs,y=.ref p/\(SqL K H p xs\/SqT K H p xs)/\flatV x=true/\xs.all flatV=true/\Q (.bl (if neg then !inV x xs else inV x xs)) H
theorem Jik:OpR X (compareOp .In) (rIn X.K false):=by
 intro f s σ H x y v u Q I i k h;obtain ⟨p,l,rfl,b,g,c,q⟩:=h;cases k;rcases b with b | b
 ·obtain ⟨a,r,e,j⟩:=I.list b;refine SeqAt.in_listAt (eqU x) e.isList (fun w d=>JcV i g r c w (by simpa using d)) ⟨.bl _,H,I,rfl,?_⟩;rw [show a.toArray.any (eqU x)=a.any (eqU x) by simp,JdA r c];exact q
 ·obtain ⟨a,r,e,j⟩:=I.tuple b;refine SeqAt.in_tupleAt (eqU x) e (fun w d=>JcV i g r c w (by simpa using d)) ⟨.bl _,H,I,rfl,?_⟩;rw [show a.toArray.any (eqU x)=a.any (eqU x) by simp,JdA r c];exact q
theorem JfA:OpR X (compareOp .NotIn) (rIn X.K true):=by
 intro f s σ H x y v u Q I i k h;obtain ⟨p,l,rfl,b,g,c,q⟩:=h;cases k;rcases b with b | b
 ·obtain ⟨a,r,e,j⟩:=I.list b;refine SeqAt.notIn_listAt (eqU x) e.isList (fun w d=>JcV i g r c w (by simpa using d)) ⟨.bl _,H,I,rfl,?_⟩;rw [show a.toArray.any (eqU x)=a.any (eqU x) by simp,JdA r c];exact q
 ·obtain ⟨a,r,e,j⟩:=I.tuple b;refine SeqAt.notIn_tupleAt (eqU x) e (fun w d=>JcV i g r c w (by simpa using d)) ⟨.bl _,H,I,rfl,?_⟩;rw [show a.toArray.any (eqU x)=a.any (eqU x) by simp,JdA r c];exact q
theorem Jff:CallR X (.builtin "len") (fun xs H Q=>∃ p ys,xs=[.ref p]/\(SqL X.K H p ys\/SqT X.K H p ys)/\Q (.int ys.length) H):=by
 intro f s σ H xs j Q I r h;obtain ⟨p,ys,rfl,b,q⟩:=h;obtain ⟨u,rfl,i⟩:=vals1 r;cases i;have k:=Jfl;rcases b with b | b
 ·obtain ⟨c,d,e,g⟩:=I.list b;have a:=d.length;exact Calls.call_len_list e.isList (by simp only [size_toArray] <;> ac_nf) ⟨.int ys.length,H,I.tok _,⟨s.toks+1,by rw [size_toArray,a]⟩,q⟩
 ·obtain ⟨c,d,e,g⟩:=I.tuple b;have a:=d.length;exact len_tuple e (by simp only [size_toArray] <;> ac_nf) ⟨.int ys.length,H,I.tok _,⟨s.toks+1,by rw [size_toArray,a]⟩,q⟩
theorem Jfg:CallR X (.builtin "len") (fun xs H Q=>∃ z,xs=[.str z]/\z.length<=sizeLine/\Q (.int z.length) H):=by
 intro a s σ H xs b Q I r h;obtain ⟨z,rfl,d,q⟩:=h;obtain ⟨u,rfl,t,rfl⟩:=vals1 r;have c:=Jfl;exact len_str ∅ ⟨.int z.length,H,I.tok _,⟨_,rfl⟩,q⟩
theorem Jfh:CallR X (.type "list") (fun xs H Q=>∃ p ys,xs=[.ref p]/\(SqL X.K H p ys\/SqT X.K H p ys)/\∀ l,H l=none->Q (.ref l) (upd H l (.lst ys))):=by
 intro k s σ H xs B Q I r h;obtain ⟨p,ys,rfl,m,q⟩:=h;obtain ⟨u,rfl,A⟩:=vals1 r;cases A;have t:∀ (a:List Value),Vals ys a->ys.length<=sizeLine->∀ (c:Heap) (f:Nat),(∀ b o',s.heap.get? b=some o'->c.get? b=some o') ->
   c.get? s.heap.objs.size=some { cls:=.type "list",dict:=none,data:=.seq a.toArray f,slots:=#[] }->EP X k σ Q (.ref s.heap.objs.size) { s with heap:=c }:=fun a d i c f j e=>
  ⟨.ref s.heap.objs.size,_,I.laid (t':=s.toks) j (Nat.le_refl _) (show ObjOk X.prog X.w _ c _ (.lst ys) from ⟨i,a,f,d,e⟩),rfl,q _ (I.hok.fresh (Nat.le_refl _))⟩
 rcases m with m | m
 ·obtain ⟨a,d,y,i⟩:=I.list m;have g:=d.length;obtain ⟨o,z,v,n,x⟩:=y.isList;exact call_list_seq p (.inl rfl) z v x (fun c f j e=>t a d i c f j e) (by simp only [size_toArray] <;> ac_nf)
 ·obtain ⟨a,d,y,i⟩:=I.tuple m;have g:=d.length;obtain ⟨o,z,v,n,x⟩:=y;exact call_list_seq p (.inr rfl) z v x (fun c f j e=>t a d i c f j e) (by simp only [size_toArray] <;> ac_nf)
def tyV (K:W.Frag) (T:String) (x:V) (H:Hp):Prop:=match x with
 | .str _=>T="str"
 | .int _=>T="int"
 | .ref p=>(T="list"/\∃ xs,SqL K H p xs)\/(T="tuple"/\∃ o,K.lookup p=some o/\o.cls=.type "tuple"/\o.dict=none) \/
   (T="dict"/\((∃ kvs,H p=some (.dK kvs))\/∃ kvs,H p=some (.dT kvs)))\/(T="set"/\∃ S n,H p=some (.set S n))
 | _=>False
theorem JjE {pins:List (Addr × Obj)} {σ : St} {H:Hp} {s:Shared} {T:String} {x:V} {v:Value} (I:Inv X pins σ H s) (r:RelV x v) (ty:tyV X.K T x H) :
  s.TypeIs v T/\∀ a,v=.ref a->∃ ob,s.heap.get? a=some ob/\ob.dict=none:=by
 cases x with
 | str z=>
  obtain ⟨t,rfl⟩:=r;cases (show T="str" from ty);exact ⟨typeIs_str s z t,fun _ e=>nomatch e⟩
 | int i=>
  obtain ⟨t,rfl⟩:=r;cases (show T="int" from ty);exact ⟨typeIs_int s i t,fun _ e=>nomatch e⟩
 | ref p=>
  cases r;rcases ty with ⟨rfl,xs,hq⟩ | ⟨rfl,o,hk,hc,d⟩ | ⟨rfl,hk⟩ | ⟨rfl,S,n,hk⟩
  ·obtain ⟨h,_,g,_⟩:=I.list hq;refine ⟨g.isList.typeIs,fun a e=>?_⟩;cases e;obtain ⟨o,n,e,c,d,_⟩:=g;exact ⟨o,e,d⟩
  ·refine ⟨⟨o,I.kIn p o hk,hc⟩,fun a e=>?_⟩;cases e;exact ⟨o,I.kIn _ o hk,d⟩
  ·have z:∃ o,s.heap.get? p=some o/\o.ExactDict:=by
    rcases hk with ⟨kvs,hk⟩ | ⟨kvs,hk⟩
    ·obtain ⟨_,_,_,_,o,_,_,e,b,_⟩:=I.hok p _ hk;exact ⟨o,e,b⟩
    ·obtain ⟨_,_,_,_,o,_,_,e,b,_⟩:=I.hok p _ hk;exact ⟨o,e,b⟩
   obtain ⟨o,e,b⟩:=z;refine ⟨⟨o,e,b.1⟩,fun a f=>?_⟩;cases f;exact ⟨o,e,b.2.1⟩
  ·obtain ⟨o,_,_,_,e,b,_⟩:=I.hok p _ hk;refine ⟨⟨o,e,b.1⟩,fun a f=>?_⟩;cases f;exact ⟨o,e,b.2.1⟩
 | _=>exact False.elim ty
def tBM0 (K:W.Frag) (T:String) (r:V->List V->Hp->VK->Prop) (to:TE):TE:=fun σ H Q=>to σ H fun x H1=>tyV K T x H1/\r x [] H1 Q
def tBM (K:W.Frag) (T:String) (r:V->List V->Hp->VK->Prop) (to:TE) (t:TA):TE:=fun σ H Q=>to σ H fun x H1=>tyV K T x H1/\t σ H1 fun xs H2=>r x xs H2 Q
variable {o e:Expr} {es:List Expr} {to:TE} {t:TA} {name:Str} {apos cpos:Pos} {T id:String} {r:V->List V->Hp->VK->Prop}
theorem Jjz (pa:PlainAttrs T) (slot:Slot T name id) (hty:typeOf (.builtin id)=pure (.type "method_descriptor")) (hm:MtR X id r) (ho:PE X o to)
  (hbase:attributeBase o name X.env (eval o X.env)=eval o X.env:=by rfl) (hline:(apos.endLine == cpos.line)=true:=by rfl):PE X (.Call (.Attribute o name apos) [] [] cpos) (tBM0 X.K T r to):=by
 intro a s σ H Q I h;refine wpAny_Call_method0_late hbase hline (thn (ho a s σ H _ I h) fun v c ζ=>?_);obtain ⟨x,d,I1,b,f,g⟩:=ζ;obtain ⟨i,e⟩:=JjE I1 b f;exact ⟨T,id,pa,slot,hty,i,e,Calls.callWith_builtin rfl (PySem.evalArgs_none (hm a c σ d x [] v [] Q I1 b .nil g))⟩
theorem pe_bm (pa:PlainAttrs T) (slot:Slot T name id) (hty:typeOf (.builtin id)=pure (.type "method_descriptor")) (hm:MtR X id r) (ho:PE X o to) (ha:PA X (e::es) t)
  (hbase:attributeBase o name X.env (eval o X.env)=eval o X.env:=by rfl)
  (hfew:((backTo cpos (starEach (e::es) X.env)).all (fun x=>!x.1)&&(backToKw cpos (keywordEach [] X.env)).all (fun x=>x.1.isSome)
   && decide ((e::es).length+([]:List Keyword).length+(if ([]:List Keyword).isEmpty then 0 else 1)<30))=true:=by rfl)
  (hline:(apos.endLine == cpos.line)=true:=by rfl) (hs:starEach (e::es) X.env=(false,eval e X.env)::starEach es X.env:=by rfl) (hplain:(backTo cpos (starEach es X.env)).any (·.1)=false:=by rfl) :
  PE X (.Call (.Attribute o name apos) (e::es) [] cpos) (tBM X.K T r to t):=by
 intro a s σ H Q I h;refine wpAny_Call_method_late hbase hfew hline rfl (thn (ho a s σ H _ I h) fun v q ζ=>?_);obtain ⟨x,d,I1,c,j,f⟩:=ζ;obtain ⟨g,m⟩:=JjE I1 c j;refine ⟨T,id,pa,slot,hty,g,m,?_⟩;have b:=ha cpos a q σ d _ I1 f;rw [hs] at b ⊢;refine Calls.callWith_builtin (by show (false||(backTo cpos (starEach es X.env)).any (·.1))=false;rw [hplain] <;> rfl) (Calls.evalArgs_plain ?_);exact thn b fun i u ⟨l,k,I2,p,n⟩=>hm a u σ k x l v i Q I2 c p n
end
def MtM (X:Cx) (id:String) (r:V->List V->Hp->VK->Prop):Prop :=
 ∀ (pins:List (Addr × Obj)) (s:Shared) (σ : St) (H:Hp) (x:V) (xs:List V) (v:Value) (us:List Value) (Q:VK),Inv X pins σ H s->RelV x v->Vals xs us->r x xs H Q ->
  wpAny (model X.prog X.w) X.A (call (.builtin id) (v::us)) (EP X pins σ Q) X.xe s
theorem Vals.one:∀ {x:V} {us:List Value},Vals [x] us->∃ u,us=[u]/\RelV x u
 | _,_, .cons r .nil=>⟨_,rfl,r⟩
theorem Vals.zero:∀ {us:List Value},Vals [] us->us=[]
 | _, .nil=>rfl
section
variable {X:Cx} {pins:List (Addr × Obj)} {σ : St} {H:Hp} {s:Shared} {l b:Addr} {xs ys zs:List V}
theorem Inv.lset {its its':List Value} {n:Nat} {f:Array Value->Array Value} {t':Nat} (I:Inv X pins σ H s) (hH:H l=some (.lst xs))
  (e:s.heap.get? l=some { cls:=.type "list",data:=.seq its.toArray n }) (hf:f its.toArray=its'.toArray) (hv:Vals ys its') (hz:ys.length<=sizeLine) :
  Inv X pins σ (upd H l (.lst ys)) { s with heap:=s.heap.update l (Obj.mapSeq f),toks:=t' }:=by
 have q:=PySem.IsL.update e f;rw [hf] at q;refine I.write (x:=l) (e:=l) (by rw [hH];exact trivial) (.inl rfl) (fun c u a b=>(Heap.get?_update_other s.heap (Obj.mapSeq f) (Ne.symm a)).trans b) ⟨_,q⟩ ?_;exact ⟨hz,its',_,hv,q⟩
theorem Inv.lnew {its:List Value} {t':Nat} (I:Inv X pins σ H s) (hv:Vals ys its) (hz:ys.length<=sizeLine) :
  Inv X pins σ (upd H s.heap.objs.size (.lst ys)) { s with heap:=s.heap.push { cls:=.type "list",data:=.seq its.toArray },toks:=t' } :=
 I.laid (fun _ _ q=>Heap.get?_push_of_some _ q) (Nat.le_refl _) ⟨hz,its,0,hv,Heap.get?_push_size _ rfl⟩
theorem Inv.fresh (I:Inv X pins σ H s):H s.heap.objs.size=none:=I.hok.fresh (Nat.le_refl _)
theorem Inv.lstM (I:Inv X pins σ H s) (hH:H l=some (.lst xs)):xs.length<=sizeLine/\∃ (its:List Value) (n:Nat),Vals xs its/\xs.length=its.length/\s.heap.get? l=some { cls:=.type "list",data:=.seq its.toArray n }:=by
 obtain ⟨z,its,n,r,e⟩:=I.hok l _ hH;exact ⟨z,its,n,r,r.length,e⟩
theorem JiZ {n:Nat} (h:n<=sizeLine):Builtin.List.listTooLong n=false:=by
 unfold Builtin.List.listTooLong;exact decide_eq_false ∅
end
section
variable {X:Cx}
def Jkn:V->List V->Hp->VK->Prop:=fun x vs H Q=>∃ l xs y,x=.ref l/\vs=[y]/\H l=some (.lst xs)/\xs.length<sizeLine/\Q .non (upd H l (.lst (xs++[y])))
theorem JaY:MtM X "list.append" Jkn:=by
 intro c s σ H x o v m Q I f d h;obtain ⟨l,i,y,rfl,rfl,b,j,q⟩:=h;cases f;obtain ⟨u,rfl,g⟩:=d.one;obtain ⟨z,a,n,r,k,e⟩:=I.lstM b;refine call_meets F.slot_list_append ⟨_,e,rfl⟩ F.entry_list_append (F.args_list_append_2 _ _) (PySem.list_append l a.toArray n u (by rw [size_toArray];ac_nf)) ⟨e,?_⟩;refine ⟨.non,_,I.lset (its':=a++[u]) b e (by simp) (r.append (.cons g .nil)) ?_,rfl,q⟩;rw [length_append,length_singleton];ac_nf
def Jko:V->List V->Hp->VK->Prop:=fun x vs H Q=>∃ l b xs zs,x=.ref l/\vs=[.ref b]/\H l=some (.lst xs)/\H b=some (.lst zs)/\xs.length+zs.length<=sizeLine/\Q .non (upd H l (.lst (xs++zs)))
theorem Jid:MtM X "list.extend" Jko:=by
 intro i s σ H x E v D Q I o j h;obtain ⟨l,b,A,J,rfl,rfl,g,w,B,q⟩:=h;cases o;obtain ⟨u,rfl,p⟩:=j.one;cases p;obtain ⟨z,c,n,r,C,e⟩:=I.lstM g;obtain ⟨G,a,m,t,y,k⟩:=I.lstM w;have f:c.toArray.size+a.toArray.size<=sizeLine:=by rw [size_toArray,size_toArray];ac_nf
 have d:¬ (!c.toArray.isEmpty&&Builtin.List.listTooLong (c.toArray.size+a.toArray.size))=true:=by
  rw [JiZ f,Bool.and_false];exact Bool.false_ne_true
 refine call_meets F.slot_list_extend ⟨_,e,rfl⟩ F.entry_list_extend (F.args_list_extend_2 _ _)
  (AutoSeq1.list_extend_list_list_0 l c.toArray n b a.toArray m d (by rw [size_toArray];ac_nf) ∅) ⟨e,k,?_⟩
 refine ⟨.non,_,I.lset (its':=c++a) g e (by simp) (r.append t) ?_,rfl,q⟩;rw [length_append];ac_nf
def Jla:V->List V->Hp->VK->Prop:=fun x vs H Q=>∃ l xs,x=.ref l/\vs=[]/\H l=some (.lst xs)/\Q .non (upd H l (.lst []))
theorem JgS:MtM X "list.clear" Jla:=by
 intro d s σ H x m v k Q I g f h;obtain ⟨l,i,rfl,rfl,c,q⟩:=h;cases g;have a:=f.zero;subst a;obtain ⟨z,b,n,r,j,e⟩:=I.lstM c;refine call_meets F.slot_list_clear ⟨_,e,rfl⟩ F.entry_list_clear (F.args_list_clear_1 _) (AutoSeq1.list_clear_list_0 l b.toArray n (by rw [size_toArray];ac_nf)) ⟨e,?_⟩;exact ⟨.non,_,I.lset (its':=[]) (ys:=[]) c e rfl .nil (Nat.zero_le _),rfl,q⟩
def rCat:R2:=fun x y H Q=>∃ l b xs zs,x=.ref l/\y=.ref b/\H l=some (.lst xs)/\H b=some (.lst zs)/\xs.length+zs.length<=sizeLine/\∀ p,H p=none->Q (.ref p) (upd H p (.lst (xs++zs)))
theorem JkZ:OpR X (binaryOp .Add) rCat:=by
 intro d s σ H x y v u Q I j k h;obtain ⟨l,b,t,D,rfl,rfl,g,o,w,q⟩:=h;cases j;cases k;obtain ⟨z,c,n,r,A,e⟩:=I.lstM g;obtain ⟨C,a,B,m,p,f⟩:=I.lstM o;refine PySem.P.add_list e f ?_ (by rw [size_toArray,size_toArray];ac_nf);have i:c.toArray++a.toArray=(c++a).toArray:=by simp
 rw [i];exact ⟨.ref _,_,I.lnew (t':=s.toks) (r.append m) (by rw [length_append];ac_nf),rfl,q _ I.fresh⟩
end
section
variable {prog:Program} {w:World} {A:Around} {E:Value->Shared->Prop} {s:Shared}
end
section
variable {X:Cx}
end
end L2
namespace Att
open PySem PySem.W PySem.Calls PyProof.Rows
theorem JdM {P:Params} {h:Heap}:∀ (ns:List Int) (vs:List Value),WellAll P h vs (ns.map WData.int)->IntsAre vs ns:=by
 intro ns;induction ns with
 | nil=>
  intro vs w;rw [map_nil] at w;cases w;exact .nil
 | cons n ns ih=>
  intro vs w;rw [map_cons] at w;cases w with
  | cons a b=>
   cases a;exact .cons _ _ (ih _ b)
theorem Jix {l:OpenLaw} {n:Nat} (hn:l.most=some n) {P:Params} {h:Heap} {args:List WData} {vals:List Value}
  (hpre:l.row.toRowW.claim.pre args=true) (hwl:WellAll P h vals args) :
  ∃ a vs ns,vals=[Value.ref a]/\args=[WData.list (ns.map WData.int)]/\h.get? a=some { cls:=.type "list",data:=.seq vs.toArray }/\IntsAre vs ns/\ns.length<=n:=by
 have f:WShape.hasAll [] args [.list .int]=true:=(pre_splitW hpre).1;have g:l.pre.holds [] { args:=args }=true:=(pre_splitW hpre).2;obtain ⟨d,r,rfl,m,j⟩:=hasAllW_cons f;obtain rfl:=hasAllW_nil j;obtain ⟨o,rfl,k⟩:=hasW_list m;obtain ⟨ns,rfl⟩:=items_int k;have b:ns.length<=n:=by
  unfold OpenLaw.pre at g;have e:(WTm.not (.lt (.lit (.int (n:Int))) (.len (.arg 0)))).holds [] { args:=[.list (ns.map .int)] }=true:=by
   have e:=(holds_andW g).1;rw [hn] at e;exact e
  have c:=condW_of e (w_not (w_lt w_lit (w_len_list (w_arg rfl))));rw [length_map] at c;refine Nat.le_of_not_lt fun q=>?_;have i:(n:Int)<((ns.length:Nat):Int):=by ac_nf
  first
   | (rw [decide_eq_true i] at c;exact absurd c ⋯)
   | (simp at c;ac_nf)
 cases hwl with
 | cons w1 w2=>
  cases w2;cases w1 with
  | list ho hall=>exact ⟨_,_,ns,rfl,rfl,ho,JdM ns _ hall,b⟩
theorem Jis (l:OpenLaw) (args:List WData):l.row.toRowW.claim.post args (.bool true) args=true :=
 postW_of (r:=l.row.toRowW) (X:=(true == true))
  (show WShape.has [] (.bool true) .bool=true by first | rfl | decide | simp [WShape.has,WShape.arms,WShape.armsAll])
  (show (WTm.eq .res (.lit (.bool true))).value [] { args:=args,res:=some (.bool true),after:=args }=some (.bool (true == true)) from w_eq_bool (w_res rfl) w_lit) rfl
theorem attach_call {l:OpenLaw} {n:Nat} {q:Program} {loose:List Str} {XP:(Str->Option Value)->Heap->Prop} {YP:World->Heap->Prop} {d:DefRec}
  (hn:l.most=some n) (hdf:d.params.defaults=[])
  (call:∀ (w:World) (s₀ s₁ : Shared) (mg mb:Str->Option Value) (fa:Addr) (o:Obj) (pm cd doc:Value) (a:Addr) (vs:List Value) (ns:List Int),
   Ground q loose [] XP w s₀ mg mb s₁.heap->YP w s₁.heap ->
   s₁.heap.get? fa=some o->o.data=.func (docDef d.name d.params d.body d.scope pm cd doc)->s₁.heap.CodeRec cd d.name->mg d.name=some (.ref fa) ->
   s₁.heap.get? a=some { cls:=.type "list",data:=.seq vs.toArray }->IntsAre vs ns->ns.length<=n->s₁.gens=#[] ->
   codeAny (model l.prog w) callerA (.call (.ref fa) ⟨[.ref a],[]⟩) (fun r s'=>r=.ok (.ret (.bool true))/\OldK s₁.heap s'.heap/\s'.os=s₁.os/\AllBare s'.gens) s₁) :
  WalkO q loose XP YP l.row.toRowW d [] (fun f vs=>PySem.call f vs):=by
 intro w s₀ s₁ mg mb G Y fa o pm cd doc y kV C A j m h v p t H g k E i u;obtain rfl:y=.none:=Dflts.none m hdf;obtain rfl:kV=.none:=Dflts.noKw m;obtain ⟨a,vs,ns,rfl,rfl,e,b,c⟩:=Jix hn g i;refine enter_call (codeAny_mono (call w s₀ s₁ mg mb fa o pm cd doc a vs ns G Y C (fd_plain A) j h e b c v) fun r s' z=>?_);obtain ⟨rfl,D,F,x⟩:=z;exact ⟨.inl ⟨.bool true, .bool true,[],rfl,fun _=>rfl, .bool true,Jis l _,fun _=>⟨List.Pairwise.nil,fun _ B=>(nomatch B)⟩⟩,D,F,x⟩
section
variable {prog:Program} {w:World} {A:Around} {E:Value->Shared->Prop} {s:Shared} {K:Frag}
end
end Att
namespace L2
open PySem PySem.Spec PyProof.Rows
theorem JfT:∀ {vs:List Value} {ns:List Int},IntsAre vs ns->Vals (ns.map V.int) vs
 | _,_, .nil=>.nil
 | _,_, .cons n t h=>.cons ⟨t,rfl⟩ (JfT h)
def Only (H:Hp):Prop:=∀ b,H b=none\/∃ o xs,H b=some (.frz o (.lst xs))
theorem JiU {P:Program} {w:World} {K:W.Frag} {mg mb:Str->Option Value} {CX:CXT} {k:Nat} {fa a:Addr} {fd:FuncData} {x:Str} {sp:Sp} {s₁ : Shared} {vs:List Value} {ns:List Int}
  (KX:K.In s₁.heap) (hns:s₁.heap.Ns mainGlobals mg) (hb:s₁.heap.Ns builtinsNs mb) (hbb:∀ x:Str,x≠"__name__"->mb x=bootBuiltins x) (hlim:s₁.heap.NoLimit) (hg:s₁.gens=#[])
  (ha:s₁.heap.get? a=some { cls:=.type "list",data:=.seq vs.toArray }) (hi:IntsAre vs ns) (hl:ns.length<=sizeLine) (hr:Room k callerA)
  (F:∀ base:Heap,K.In base->base.Ns mainGlobals mg->FnOk P w K mg base CX k fa fd [x] sp) (hbind:∀ (s:Shared) (u:Value),BindsTo s fd ⟨[u],[]⟩ [(x,u)])
  (hsp:∀ H:Hp,Only H->SqL K H a (ns.map V.int)->sp [.ref a] H (fun v _=>v=.bl true) fun _ _ _=>False)
  (hCX:∀ H e s',CX [] H s₁ (fun _ _ _=>False) e s'->False) :
  codeAny (model P w) callerA (.call (.ref fa) ⟨[.ref a],[]⟩) (fun r s'=>r=.ok (.ret (.bool true))/\OldK s₁.heap s'.heap/\s'.os=s₁.os/\AllBare s'.gens) s₁:=by
 have I:=JfT hi;have y:=hi.length;have g:∀ H:Hp,Only H->SqL K H a (ns.map V.int)->HOk P w H s₁.heap->(∀ b,H b≠none->b=a)->(H a≠none->K.lookup a=none) ->
   codeAny (model P w) callerA (.call (.ref fa) ⟨[.ref a],[]⟩) (fun r s'=>r=.ok (.ret (.bool true))/\OldK s₁.heap s'.heap/\s'.os=s₁.os/\AllBare s'.gens) s₁:=by
  intro H E S j G T;have c:∀ {b:Addr} {o:Obj},s₁.heap.get? b=some o->H b=none->(hidT s₁.heap H).get? b=some o:=fun e n=>JiP e n;have A:∀ {b:Addr} {o:Obj} {es:Array DictEntry} {ep:Nat},s₁.heap.get? b=some o->o.data=.dict es ep->H b=none:=fun {b o es ep} e d=>by
   cases q:H b with
   | none=>rfl
   | some u=>
    have B:b=a:=G b (by rw [q];simp);subst B;rw [ha] at e;cases e;have M:Data.seq vs.toArray _=Data.dict es ep:=d;cases M
  have f:∀ {b:Addr} {m:Str->Option Value},s₁.heap.Ns b m->(hidT s₁.heap H).Ns b m:=fun {b m} ⟨o,es,ep,e,d,r⟩=>⟨o,es,ep,c e (A e d),d,r⟩;have l:K.In (hidT s₁.heap H):=fun b o e=>c (KX b o e) (by
   cases q:H b with
   | none=>rfl
   | some u=>
    have B:b=a:=G b (by rw [q];simp);subst B;rw [T (by rw [q];simp)] at e;cases e)
  have R:Mod K mg (hidT s₁.heap H):=⟨l,f hns,⟨mb,f hb,hbb⟩,let ⟨mc,h1,h2⟩:=hlim;⟨mc,f h1,h2⟩⟩;have L:Env0 P w K mg (hidT s₁.heap H) callerA [] s₁ H:=⟨rfl,R,fun b o e=>Jj9 e,Nat.le_of_eq (JhY _ _),trivial,fun b hb=>absurd (show b∈([]:List Addr) from hb) (by simp),j, .of_eq hg⟩;refine codeAny_mono ((F _ l (f hns)).run callerA [] s₁ H ⟨[.ref a],[]⟩ [.ref a] [.ref a] _ _ hr L (hbind s₁ (.ref a)) (.cons rfl .nil) (hsp H E S)) fun r s' h=>?_;cases r with
  | error e=>exact (hCX H e s' h).elim
  | ok fl=>
   cases fl with
   | next=>exact False.elim h
   | brk=>exact False.elim h
   | cont=>exact False.elim h
   | ret u=>
    obtain ⟨v,U,os,i,D,p,N,q⟩:=h;have Q:v=.bl true:=q;subst Q;obtain rfl:u=Value.bool true:=N;refine ⟨rfl,OldK.of_keep fun b o e=>?_,os,i⟩;cases q:H b with
    | none=>exact D.keep b o e q (by intro z;exact absurd (show b∈([]:List Addr) from z) (by simp)) (by simp)
    | some u=>
     rcases E b with z | ⟨ob,xs,z⟩
     ·rw [q] at z;cases z
     ·have O:=D.frzs b ob _ z;obtain ⟨C,_⟩:=j b _ z;obtain ⟨J,_⟩:=p b _ O;rw [e] at C;cases C;exact J
 cases hk:K.lookup a with
 | some o=>
  have e:=KX a o hk;rw [ha] at e;cases e;refine g (fun _=>none) (fun _=>.inl rfl) (.inr ⟨_,vs.toArray,_,hk,rfl,rfl,rfl,by rw [size_toArray,y];exact hl,by simpa using I⟩) (fun b u z=>by have t:(none:Option HO)=some u:=z;cases t) (fun b z=>absurd rfl z) fun z=>absurd rfl z
 | none=>
  refine g (fun b=>if b=a then some (.frz { cls:=.type "list",data:=.seq vs.toArray } (.lst (ns.map V.int))) else none) (fun b=>?_) (.inl (.inr ⟨{ cls:=.type "list",data:=.seq vs.toArray },if_pos rfl⟩)) (fun b u z=>?_) (fun b z=>?_) fun _=>hk
  ·by_cases hb:b=a
   ·exact .inr ⟨_,_,if_pos hb⟩
   ·exact .inl (if_neg hb)
  ·by_cases hb:b=a
   ·have t:=(if_pos hb).symm.trans z;cases t;subst hb;exact ⟨ha,by rw [length_map];exact hl,vs,_,I,ha⟩
   ·have t:=(if_neg hb).symm.trans z;cases t
  ·by_cases hb:b=a
   ·exact hb
   ·exact absurd (if_neg hb) z
abbrev KOf {K:W.Frag} {h:Heap} (_:K.In h):W.Frag:=K
theorem JiE {l:W.OpenLaw} {n k:Nat} {q:Program} {loose:List Str} {XP:(Str->Option Value)->Heap->Prop} {YP:World->Heap->Prop} {d:DefRec} {K:Params->W.Frag} {CX:World->CXT} {sp:World->Sp} {x:Str}
  (hn:l.most=some n) (hn2:n<=sizeLine) (hdf:d.params.defaults=[]) (hr:Room k callerA)
  (hY:∀ (w:World) (h:Heap),YP w h->(K w.params).In h)
  (F:∀ (w:World) (mg:Str->Option Value) (fa:Addr) (h:Heap),(K w.params).In h->h.Ns mainGlobals mg->mg d.name=some (.ref fa) ->
   ∃ fd:FuncData,(∀ (s:Shared) (u:Value),BindsTo s fd ⟨[u],[]⟩ [(x,u)]) /\
    ∀ base:Heap,(K w.params).In base->base.Ns mainGlobals mg->FnOk l.prog w (K w.params) mg base (CX w) k fa fd [x] (sp w))
  (hsp:∀ (w:World) (H:Hp) (a:Addr) (ns:List Int),ns.length<=n->Only H->SqL (K w.params) H a (ns.map V.int)->sp w [.ref a] H (fun v _=>v=.bl true) fun _ _ _=>False)
  (hCX:∀ (w:World) (H:Hp) (s:Shared) (e:Value) (s':Shared),CX w [] H s (fun _ _ _=>False) e s'->False) :
  W.WalkO q loose XP YP l.row.toRowW d [] (fun f vs=>PySem.call f vs):=by
 refine Att.attach_call hn hdf fun w s₀ s₁ mg E fa o C I z a vs ns G Y J D y m j i c p=>?_;have KX:=hY w _ Y;obtain ⟨fd,t,r⟩:=F w mg fa _ KX G.T.g m;exact JiU KX G.T.g G.T.b G.T.builtins G.T.nolimit p j i (Nat.le_trans c hn2) hr r t (fun H A B=>hsp w H a ns c A B) fun H e s'=>hCX w H s₁ e s'
def inClass (s:Stmt) (j:Nat):Stmt:=match s with
 | .ClassDef _ _ _ body _ _ _ _ _ _ _=>body.getD j (.Pass ⟨0,0,0,0⟩)
 | _=>.Pass ⟨0,0,0,0⟩
def Jal (s:Stmt):Arguments:=match s with
 | .FunctionDef _ a _ _ _ _ _ _ _ _=>a
 | _=>{ posonlyargs:=[],args:=[],vararg:=none,kwonlyargs:=[],kw_defaults:=[],kwarg:=none,defaults:=[] }
def Jak (s:Stmt):List Stmt:=match s with
 | .FunctionDef _ _ b _ _ _ _ _ _ _=>b
 | _=>[]
def Jad (s:Stmt):Scope:=match s with
 | .FunctionDef _ _ _ _ _ _ sc _ _ _=>sc
 | _=>{ kind:=.function,names:=[],isGenerator:=false,isCoroutine:=false }
abbrev E0:XK:=fun _ _ _=>False
structure Fun (K:W.Frag) (x qual:Str) (st:Stmt) (f:Addr) (fd:FuncData):Prop where
 ex:∃ (oc:Value) (od:Option Addr) (kV doc pm:Value) (an:Option Addr) (cdv ct:Value) (osl:Array (Option Value)),
  fd=W.fnOf x qual (Jal st) (Jak st) (Jad st) .none kV doc pm an cdv ct/\K.lookup f=some ⟨oc,od, .func fd,osl⟩/\W.codeIn K cdv qual=true
 kp:W.keepIn K (.ref f)=true
section
variable {P:Program} {w:World} {K:W.Frag} {mg:Str->Option Value} {base:Heap}
theorem Fun.binds {x qual:Str} {st:Stmt} {f:Addr} {fd:FuncData} {ps:List Str} (F:Fun K x qual st f fd)
  (h:∀ (kV doc pm:Value) (an:Option Addr) (cdv ct:Value) (us:List Value),us.length=ps.length->bindArgs (W.fnOf x qual (Jal st) (Jak st) (Jad st) .none kV doc pm an cdv ct) ⟨us,[]⟩=pure (ps.zip us)):Binds K fd ps []:=by
 obtain ⟨d,c,kV,doc,pm,an,cdv,ct,a,rfl,lk,b⟩:=F.ex;exact .all (h kV doc pm an cdv ct)
end
section
variable {X:Cx}
theorem pv (i:Nat) {x:Str} {pos:Pos} (hN:X.N[i]?=some x:=by rfl) (hv:Vis X.env.scope x:=by first | exact Or.inl rfl | exact Or.inr (Or.inl rfl) | exact Or.inr (Or.inr rfl)) (hd:(x == ("__debug__" : Str))=false:=by decide)
  (hcd:(x == ("__classdict__" : Str))=false:=by decide):PE X (.Name x pos) (tVar i):=Jk5 hN hv hd hcd
end
def Same (H H':Hp):Prop:=∀ b o,H b=some o->H' b=some o
theorem Same.refl (H:Hp):Same H H:=fun _ _ h=>h
theorem Same.trans {H H1 H2:Hp} (a:Same H H1) (b:Same H1 H2):Same H H2:=fun c o h=>b c o (a c o h)
theorem Same.seq {K:W.Frag} {H H':Hp} {a:Addr} {xs:List V} (e:Same H H') (h:SqL K H a xs):SqL K H' a xs:=by
 rcases h with (h | ⟨o,h⟩) | h
 ·exact .inl (.inl (e _ _ h))
 ·exact .inl (.inr ⟨o,e _ _ h⟩)
 ·exact .inr h
end L2
set_option maxHeartbeats 4000000
namespace L2
open PySem PySem.Spec PyProof.Rows
section
variable {κ : Type} [DecidableEq κ]
def valV (kvs:List (κ × V)) (k : κ):Option V:=(kvs.find? fun kv=>decide (kv.1=k)).map (·.2)
def putK (kvs:List (κ × V)) (k : κ) (v:V):List (κ × V) :=
 if (kvs.any fun kv=>decide (kv.1=k))=true then kvs.map (fun kv=>if kv.1=k then (kv.1,v) else kv) else kvs++[(k,v)]
def dropK (kvs:List (κ × V)) (k : κ):List (κ × V):=kvs.filter fun kv=>decide (kv.1≠k)
theorem Jc2 {p : κ × V} {r:List (κ × V)} {k : κ} (e:p.1=k):valV (p::r) k=some p.2:=by simp [valV,List.find?_cons,e]
theorem Jc1 {p : κ × V} {r:List (κ × V)} {k : κ} (e:¬ p.1=k):valV (p::r) k=valV r k:=by simp [valV,List.find?_cons,e]
theorem Jg4 (k : κ):∀ kvs:List (κ × V),(kvs.any fun kv=>decide (kv.1=k))=(valV kvs k).isSome
 | []=>rfl
 | p::r=>by
  rw [any_cons];by_cases e:p.1=k
  ·simp only [Jc2 e,decide_eq_true e,Bool.true_or,Option.isSome_some]
  ·rw [Jc1 e,decide_eq_false e,Bool.false_or];exact Jg4 k r
theorem JdQ (kvs:List (κ × V)) (k : κ) (v:V):(putK kvs k v).length<=kvs.length+1:=by
 unfold putK;split
 ·rw [length_map];ac_nf
 ·rw [length_append,length_cons,length_nil];ac_nf
theorem RelO.isSome_eq {o:Option V} {u:Option Value} (r:RelO o u):o.isSome=u.isSome:=by
 cases o with
 | none=>cases u with
  | none=>rfl
  | some _=>exact (show False from r).elim
 | some _=>cases u with
  | none=>exact (show False from r).elim
  | some _=>rfl
theorem KV.val {kvs:List (κ × V)} {vs:List (κ × Value)} (r:KV kvs vs) (k : κ):RelO (valV kvs k) (valueAt vs k):=by
 unfold KV at r;induction r with
 | nil=>exact True.intro
 | @cons p q ps qs h t ih=>
  obtain ⟨c,d⟩:=h;by_cases e:p.1=k
  ·have a:q.1=k:=c.symm.trans e;have b:valueAt (q::qs) k=some q.2:=by simp [valueAt,List.find?_cons,a]
   rw [Jc2 e,b];exact d
  ·have a:¬ q.1=k:=fun z=>e (c.trans z);have b:valueAt (q::qs) k=valueAt qs k:=by simp [valueAt,List.find?_cons,a]
   rw [Jc1 e,b];exact ih
theorem KV.any {kvs:List (κ × V)} {vs:List (κ × Value)} (r:KV kvs vs) (k : κ):(kvs.any fun kv=>decide (kv.1=k))=vs.any fun kv=>decide (kv.1=k):=by
 unfold KV at r;induction r with
 | nil=>rfl
 | cons h t ih=>rw [any_cons,any_cons,ih,h.1]
theorem KV.repl {kvs:List (κ × V)} {vs:List (κ × Value)} (r:KV kvs vs) (k : κ) {y:V} {u:Value} (ry:RelV y u) :
  KV (kvs.map fun kv=>if kv.1=k then (kv.1,y) else kv) (vs.map fun kv=>if kv.1=k then (kv.1,u) else kv):=by
 unfold KV at r ⊢;induction r with
 | nil=>exact .nil
 | @cons p q ps qs h t ih=>
  rw [map_cons,map_cons];refine .cons ?_ ih;obtain ⟨a,b⟩:=h;by_cases e:p.1=k
  ·rw [if_pos e,if_pos (a.symm.trans e)];exact ⟨a,ry⟩
  ·rw [if_neg e,if_neg (fun z=>e (a.trans z))];exact ⟨a,b⟩
theorem KV.put {kvs:List (κ × V)} {vs:List (κ × Value)} (r:KV kvs vs) (k : κ) {y:V} {u:Value} (ry:RelV y u):KV (putK kvs k y) (stored vs k u):=by
 unfold putK stored;rw [r.any k];by_cases e:(vs.any fun a=>decide (a.1=k))=true
 ·rw [if_pos e,if_pos e];exact r.repl k ry
 ·rw [if_neg e,if_neg e];exact Paired.snoc r ⟨rfl,ry⟩
theorem KV.length {kvs:List (κ × V)} {vs:List (κ × Value)} (r:KV kvs vs):kvs.length=vs.length:=Paired.length r
end
theorem kV_is {P:Program} {w:World} {k:Key} {u:Value} (r:RelV (kV k) u):(JaA P w).is k u=true:=by
 cases k with
 | inl i=>have e:=(show u=Value.bool i from r);subst e;exact Jfn P w i
 | inr x=>obtain ⟨t,e⟩:=(show ∃ t,u=Value.str x t from r);subst e;exact Jf8 P w x t
theorem Jfj {P:Program} {w:World}:∀ {ks:List Key} {us:List Value},Vals (ks.map kV) us->ItemsAre (JaA P w) ks us
 | [],_,r=>by rw [map_nil] at r;cases r;exact .nil
 | k::ks,_,r=>by
  rw [map_cons] at r;cases r with
  | cons h t=>exact .cons (kV_is h) (Jfj t)
abbrev KT (H:Hp):List (List Key × V)->List (List Key × Addr × Value)->Prop:=Paired fun p q=>p.1=q.1/\H q.2.1=some (.tup (p.1.map kV))/\RelV p.2 q.2.2
theorem KT.val {H:Hp} {kvs:List (List Key × V)} {xs:List (List Key × Addr × Value)} (r:KT H kvs xs) (k:List Key):RelO (valV kvs k) ((atKey xs k).map (·.2)):=by
 induction r with
 | nil=>exact True.intro
 | @cons p q ps qs h t ih=>
  obtain ⟨c,_,d⟩:=h;by_cases e:p.1=k
  ·have a:q.1=k:=c.symm.trans e;have b:atKey (q::qs) k=some q.2:=by simp [atKey,List.find?_cons,a]
   rw [Jc2 e,b];exact d
  ·have a:¬ q.1=k:=fun z=>e (c.trans z);have b:atKey (q::qs) k=atKey qs k:=by simp [atKey,List.find?_cons,a]
   rw [Jc1 e,b];exact ih
theorem KT.repl {H:Hp} {kvs:List (List Key × V)} {xs:List (List Key × Addr × Value)} (r:KT H kvs xs) (k:List Key) {y:V} {u:Value} (ry:RelV y u) :
  KT H (kvs.map fun kv=>if kv.1=k then (kv.1,y) else kv) (xs.map (putAt k u)):=by
 induction r with
 | nil=>exact .nil
 | @cons p q ps qs h t ih=>
  rw [map_cons,map_cons];refine .cons ?_ ih;obtain ⟨a,b,c⟩:=h;unfold putAt;by_cases e:p.1=k
  ·rw [if_pos e,if_pos (a.symm.trans e)];exact ⟨a,b,ry⟩
  ·rw [if_neg e,if_neg (fun z=>e (a.trans z))];exact ⟨a,b,c⟩
theorem KT.put {H:Hp} {kvs:List (List Key × V)} {xs:List (List Key × Addr × Value)} (r:KT H kvs xs) (k:List Key) {b:Addr} {y:V} {u:Value} (hb:H b=some (.tup (k.map kV))) (ry:RelV y u) :
  KT H (putK kvs k y) (storedH xs k b u):=by
 have e:(kvs.any fun a=>decide (a.1=k))=(atKey xs k).isSome:=by
  rw [Jg4,(r.val k).isSome_eq,Option.isSome_map]
 unfold putK storedH;rw [e];by_cases q:(atKey xs k).isSome=true
 ·rw [if_pos q,if_pos q];exact r.repl k ry
 ·rw [if_neg q,if_neg q];exact Paired.snoc r ⟨rfl,hb,ry⟩
theorem KT.keeps {H H':Hp} {kvs:List (List Key × V)} {xs:List (List Key × Addr × Value)} (r:KT H kvs xs) (ht:∀ b ys,H b=some (.tup ys)->H' b=some (.tup ys)):KT H' kvs xs :=
 Paired.mapP r fun _ _ z=>⟨z.1,ht _ _ z.2.1,z.2.2⟩
section
variable {P:Program} {w:World} {H:Hp} {h:Heap} {a:Addr}
theorem y7ay {u:HO} (ok:HOk P w H h) (e:Rd H a u):ObjOk P w H h a u:=e.ok ok
theorem dk_rd {kvs:List (Key × V)} (ok:HOk P w H h) (e:Rd H a (.dK kvs)):kvs.length<=sizeLine/\(a == sysModules)=false/\∃ vs,KV kvs vs/\h.DictOf (JaA P w) a vs :=
 show ObjOk P w H h a (.dK kvs) from y7ay ok e
theorem dk_of {kvs:List (Key × V)} (ok:HOk P w H h) (e:H a=some (.dK kvs)):kvs.length<=sizeLine/\(a == sysModules)=false/\∃ vs,KV kvs vs/\h.DictOf (JaA P w) a vs:=dk_rd ok (.inl e)
theorem Jfk {ks:List Key} (ok:HOk P w H h) (e:H a=some (.tup (ks.map kV))):(tupleKind (JaA P w)).is h ks a:=by
 obtain ⟨_,b,r,o,f,c,n,d⟩:=(show ObjOk P w H h a (.tup (ks.map kV)) from ok a _ e);exact ⟨o,b.toArray,n,f,c,d,by simpa using Jfj r⟩
theorem dt_rd {kvs:List (List Key × V)} (ok:HOk P w H h) (e:Rd H a (.dT kvs)):kvs.length<=sizeLine/\(a == sysModules)=false /\
  ∃ xs,KT H kvs xs/\h.DictOfH (tupleKind (JaA P w)) a xs:=by
 obtain ⟨z,y,xs,r,o,f,g,k,c,d,i,j⟩:=(show ObjOk P w H h a (.dT kvs) from y7ay ok e);refine ⟨z,y,xs,r,o,f,g,k,c,d,i,fun x b=>?_,j⟩;have all:∀ {l:List (List Key × V)} {m:List (List Key × Addr × Value)},KT H l m->∀ x∈m,(tupleKind (JaA P w)).is h x.1 x.2.1:=by
  intro l m q;induction q with
  | nil=>intro x b;exact nomatch b
  | @cons p q ps qs hq t ih=>
   intro x b;rcases mem_cons.mp b with e | b
   ·subst e;exact Jfk ok (by rw [<- hq.1];exact hq.2.1)
   ·exact ih x b
 exact all r x b
theorem dt_of {kvs:List (List Key × V)} (ok:HOk P w H h) (e:H a=some (.dT kvs)):kvs.length<=sizeLine/\(a == sysModules)=false /\
  ∃ xs,KT H kvs xs/\h.DictOfH (tupleKind (JaA P w)) a xs:=dt_rd ok (.inl e)
end
def DGet (H:Hp) (a:Addr) (y:V) (r:Option V):Prop :=
 (∃ kvs k,Rd H a (.dK kvs)/\y=kV k/\r=valV kvs k)\/∃ kvs k b,Rd H a (.dT kvs)/\y=.ref b/\H b=some (.tup (k.map kV))/\r=valV kvs k
def DPut (H:Hp) (a:Addr) (y v:V) (H':Hp):Prop :=
 (∃ kvs k,H a=some (.dK kvs)/\y=kV k/\kvs.length<sizeLine/\H'=upd H a (.dK (putK kvs k v))) \/
 ∃ kvs k b,H a=some (.dT kvs)/\y=.ref b/\H b=some (.tup (k.map kV))/\kvs.length<sizeLine/\H'=upd H a (.dT (putK kvs k v))
theorem DGet.k {H:Hp} {a:Addr} {kvs:List (Key × V)} {k:Key} (e:H a=some (.dK kvs)):DGet H a (kV k) (valV kvs k):=.inl ⟨kvs,k, .inl e,rfl,rfl⟩
theorem DPut.k {H:Hp} {a:Addr} {kvs:List (Key × V)} {k:Key} {v:V} (e:H a=some (.dK kvs)) (hl:kvs.length<sizeLine):DPut H a (kV k) v (upd H a (.dK (putK kvs k v))):=.inl ⟨kvs,k,e,rfl,hl,rfl⟩
section
variable {X:Cx} {pins:List (Addr × Obj)} {σ : St} {H:Hp} {s:Shared} {a:Addr} {y v:V} {u r:Value} {o:Option V} {A:Around} {E:Value->Shared->Prop}
theorem Inv.big (I:Inv X pins σ H s):sysModules<s.heap.objs.size:=by
 have h:mainGlobals<s.heap.objs.size:=(I.mod.glob.keeps I.bk).lt;exact Nat.lt_trans ⋯ h
theorem JhD {Q:Value->Shared->Prop} (hu:A.units+1<cLine) (I:Inv X pins σ H s) (g:DGet H a y (some v)) (ry:RelV y u) (h:∀ w' s',Inv X pins σ H s'->RelV v w'->Q w' s') :
  wpAny (model X.prog X.w) A (getItem (.ref a) u) Q E s:=by
 rcases g with ⟨kvs,k,e,ey,l⟩ | ⟨kvs,k,b,e,ey,eb,l⟩
 ·subst ey;obtain ⟨z,n,r,d,f⟩:=dk_rd I.hok e;obtain ⟨w',i,c⟩:=RelO.some_of (v:=v) (o:=valueAt r k) (by rw [l];exact d.val k);exact wpAny_getItem_of (kV_is ry) f.mapOf i (h w' _ (I.tok _) c)
 ·subst ey;cases (show u=Value.ref b from ry);obtain ⟨z,n,m,d,f⟩:=dt_rd I.hok e;obtain ⟨w',i,c⟩:=RelO.some_of (v:=v) (o:=(atKey m k).map (·.2)) (by rw [l];exact d.val k);obtain ⟨p,q,j⟩:=Option.map_eq_some_iff.mp i;refine wpAny_getItem_heap (tupleKind_room_in1 hu) (Jfk I.hok eb) f q ?_;rw [j];exact h w' _ (I.tok _) c
theorem d_in {Q:Value->Shared->Prop} (hu:A.units+1<cLine) (I:Inv X pins σ H s) (g:DGet H a y o) (ry:RelV y u) (h:∀ s',Inv X pins σ H s'->Q (.bool o.isSome) s') :
  wpAny (model X.prog X.w) A (compareOp .In u (.ref a)) Q E s:=by
 rcases g with ⟨kvs,k,e,ey,l⟩ | ⟨kvs,k,b,e,ey,eb,l⟩
 ·subst ey;obtain ⟨z,d,j,c,f⟩:=dk_rd I.hok e;refine wpAny_in_of (kV_is ry) d f.mapOf ?_;rw [<- (c.val k).isSome_eq, <- l];exact h _ (I.tok _)
 ·subst ey;cases (show u=Value.ref b from ry);obtain ⟨z,d,i,c,f⟩:=dt_rd I.hok e;refine wpAny_in_heap (tupleKind_room_in1 hu) (Jfk I.hok eb) d f ?_;have q:=(c.val k).isSome_eq;rw [Option.isSome_map] at q;rw [<- q, <- l];exact h _ (I.tok _)
theorem JjP {Q:Value->Shared->Prop} (hu:A.units+1<cLine) (I:Inv X pins σ H s) (g:DGet H a y o) (ry:RelV y u) (h:∀ s',Inv X pins σ H s'->Q (.bool (!o.isSome)) s') :
  wpAny (model X.prog X.w) A (compareOp .NotIn u (.ref a)) Q E s:=by
 rcases g with ⟨kvs,k,e,ey,l⟩ | ⟨kvs,k,b,e,ey,eb,l⟩
 ·subst ey;obtain ⟨z,d,j,c,f⟩:=dk_rd I.hok e;refine wpAny_notIn_of (kV_is ry) d f.mapOf ?_;rw [<- (c.val k).isSome_eq, <- l];exact h _ (I.tok _)
 ·subst ey;cases (show u=Value.ref b from ry);obtain ⟨z,d,i,c,f⟩:=dt_rd I.hok e;refine wpAny_notIn_heap (tupleKind_room_in1 hu) (Jfk I.hok eb) d f ?_;have q:=(c.val k).isSome_eq;rw [Option.isSome_map] at q;rw [<- q, <- l];exact h _ (I.tok _)
theorem JhF {h':Heap} {t':Nat} {ob:HO} (I:Inv X pins σ H s) (mu:Mut (H a)) (hs:Heap.SameBut a s.heap h') (he:∃ q,h'.get? a=some q) (new:ObjOk X.prog X.w (upd H a ob) h' a ob) :
  Inv X pins σ (upd H a ob) { s with heap:=h',toks:=t' } :=
 I.write (x:=a) (e:=a) mu (.inl rfl) (fun b q c z=>(hs.2 b c).trans z) he new
theorem Jjq {P:Program} {w:World} {H':Hp} {h':Heap} {kvs:List (Key × V)} {vs:List (Key × Value)} (z:kvs.length<=sizeLine) (hd:(a == sysModules)=false) (rel:KV kvs vs) (dd:h'.DictOf (JaA P w) a vs) :
  ObjOk P w H' h' a (.dK kvs):=⟨z,hd,vs,rel,dd⟩
theorem JhE {H':Hp} {Q:Unit->Shared->Prop} (hu:A.units+1<cLine) (I:Inv X pins σ H s) (g:DPut H a y v H') (ry:RelV y u) (rv:RelV v r) (h:∀ s',Inv X pins σ H' s'->Q () s') :
  wpAny (model X.prog X.w) A (setItem (.ref a) u r) Q E s:=by
 rcases g with ⟨kvs,k,e,ey,l,eH⟩ | ⟨kvs,k,b,e,ey,eb,l,eH⟩
 ·subst ey eH;obtain ⟨z,n,F,d,o⟩:=dk_of I.hok e;have j:F.length<=sizeLine:=by rw [<- d.length];exact z
  have m:(putK kvs k v).length<=sizeLine:=by have:=JdQ kvs k v;ac_nf
  refine wpAny_setItem_pairs (hsz:=j) (kV_is ry) o fun t f p=>h _ ?_;have M:∃ q,t.get? a=some q:=let ⟨q,_,_,i,_⟩:=f;⟨q,i⟩;exact JhF I (by rw [e];exact True.intro) p M (Jjq m n (d.put k rv) f)
 ·subst ey eH;cases (show u=Value.ref b from ry);obtain ⟨z,n,B,d,o⟩:=dt_of I.hok e;have j:B.length<=sizeLine:=by rw [<- Paired.length d];exact z
  have m:(putK kvs k v).length<=sizeLine:=by have:=JdQ kvs k v;ac_nf
  refine wpAny_setItem_heap (hsz:=j) (tupleKind_room_in1 hu) (Jfk I.hok eb) o fun t f p=>h _ ?_;obtain ⟨q,K,C,i,J,L,D,_,G⟩:=f;refine JhF I (by rw [e];exact True.intro) p ⟨q,i⟩ ⟨m,n,_,(d.put k eb rv).keeps fun c N x=>?_,q,K,C,i,J,L,D,G⟩;rw [Jai (ne_of x e (fun z=>nomatch z))];exact x
end
section
variable {X:Cx} {pins:List (Addr × Obj)} {σ : St} {H:Hp} {s:Shared} {a:Addr} {kvs:List (Key × V)} {k:Key} {u:Value} {A:Around} {E:Value->Shared->Prop}
end
def NoSl (i:Expr):Prop:=∀ ov iv,subscripted i false ov iv=operate [ov,iv] (getItem ov iv)
theorem Jkt {prog:Program} {w:World} {A:Around} {E:Value->Shared->Prop} {s:Shared} {env:Env} {value slice:Expr} {pos:Pos} {T id:String} {Q:Value->Shared->Prop}
  (hl:typeLookup (.type T) "__getitem__"=pure (some (.builtin id))) (hs:NoSl slice)
  (h:wpAny (model prog w) A (eval value env) (fun o s₁=>wpAny (model prog w) A (eval slice env) (fun i s₂=>s₂.TypeIs o T/\wpAny (model prog w) A (getItem o i) Q E s₂) E s₁) E s) :
  wpAny (model prog w) A (eval (.Subscript value slice pos) env) Q E s:=by
 refine Subscript_ (wpAny_mono h (fun o s₁ h₁=>wpAny_mono h₁ (fun i s₂ h₂=>?_) fun _ _ x=>x) fun _ _ x=>x);obtain ⟨b,h₂⟩:=h₂;unfold subscriptTail;refine wpAny_bind ?_;rw [getitemInPython_of_ne b.not_modules];refine wpAny_bind (wpAny_specialOf b hl ?_);have a:wpAny (model prog w) A (subscripted slice false o i) (fun r s₃=>wpAny (model prog w) A (letTemporaryGo value o r >>= fun _=>pure r) Q E s₃) E s₂:=by
  rw [hs o i];exact wpAny_operating (wpAny_mono h₂ (fun r s₃ h₃=>wpAny_bind (wpAny_letTemporaryGo (wpAny_pure h₃))) fun _ _ x=>x)
 first
  | exact wpAny_pure (wpAny_bind a)
  | exact wpAny_bind (wpAny_pure (wpAny_bind a))
  | exact wpAny_bind a
theorem Jf2 {X:Cx} {pins:List (Addr × Obj)} {σ : St} {H:Hp} {s:Shared} {a:Addr} {y:V} {o:Option V} (I:Inv X pins σ H s) (g:DGet H a y o):s.TypeIs (.ref a) "dict":=by
 rcases g with ⟨kvs,k,e,_,_⟩ | ⟨kvs,k,b,e,_,_,_⟩
 ·obtain ⟨_,_,f,_,c⟩:=dk_rd I.hok e;exact c.typeIs
 ·obtain ⟨_,_,d,_,c⟩:=dt_rd I.hok e;exact c.typeIs
def tDGet (td ty:TE):TE:=fun σ H Q=>td σ H fun x H1=>ty σ H1 fun y H2=>∃ a v,x=.ref a/\DGet H2 a y (some v)/\Q v H2
def tDIn (ty td:TE):TE:=fun σ H Q=>ty σ H fun y H1=>td σ H1 fun x H2=>∃ a o,x=.ref a/\DGet H2 a y o/\Q (.bl o.isSome) H2
def JiB (ty td:TE):TE:=fun σ H Q=>ty σ H fun y H1=>td σ H1 fun x H2=>∃ a o,x=.ref a/\DGet H2 a y o/\Q (.bl (!o.isSome)) H2
def sDPut (td ty tv:TE):TS:=fun D σ H=>tv σ H fun v H1=>td σ H1 fun x H2=>ty σ H2 fun y H3=>∃ a H4,x=.ref a/\DPut H3 a y v H4/\D.nx σ H4
section
variable {X:Cx} {o i e value:Expr} {pos pos' tpos:Pos} {td ty tv:TE}
theorem JaO (hu:X.A.units+1<cLine) (ho:PE X o td) (hi:PE X i ty) (hs:NoSl i):PE X (.Subscript o i pos) (tDGet td ty):=by
 intro b s σ H Q I h;refine Jkt PySem.F.slot_dict_getitem.lookup hs (thn (ho b s σ H _ I h) fun u n ⟨x,d,I1,k,f⟩=>thn (hi b n σ d _ I1 f) fun r t ζ=>?_);obtain ⟨y,j,I2,m,a,v,e,g,l⟩:=ζ;subst e;obtain rfl:u=Value.ref a:=k;exact ⟨Jf2 I2 g,JhD hu I2 g m fun q p I3 c=>⟨v,j,I3,c,l⟩⟩
theorem Jey (hu:X.A.units+1<cLine) (hi:PE X i ty) (ho:PE X o td):PC X .In i o (tDIn ty td):=by
 intro b s σ H Q I h;refine thn (hi b s σ H _ I h) fun q n ⟨y,c,I1,m,e⟩=>thn (ho b n σ c _ I1 e) fun u r ζ=>?_;obtain ⟨x,j,I2,k,a,f,d,g,l⟩:=ζ;subst d;obtain rfl:u=Value.ref a:=k;exact d_in hu I2 g m fun p I3=>⟨.bl f.isSome,j,I3,rfl,l⟩
theorem Jcp (hu:X.A.units+1<cLine) (hi:PE X i ty) (ho:PE X o td):PC X .NotIn i o (JiB ty td):=by
 intro b s σ H Q I h;refine thn (hi b s σ H _ I h) fun q n ⟨y,c,I1,m,e⟩=>thn (ho b n σ c _ I1 e) fun u r ζ=>?_;obtain ⟨x,j,I2,k,a,f,d,g,l⟩:=ζ;subst d;obtain rfl:u=Value.ref a:=k;exact JjP hu I2 g m fun p I3=>⟨.bl (!f.isSome),j,I3,rfl,l⟩
theorem JbX (hu:X.A.units+1<cLine) (ho:PE X o td) (hi:PE X i ty) (hv:PE X value tv) (hs:swapsWith value (some (.Subscript o i pos')) pos.line X.env=pure false) :
  PS X (.Assign [.Subscript o i pos'] value pos) (sDPut td ty tv):=by
 intro b s σ H D I h;refine wpAny_Assign_Subscript (thn (hv b s σ H _ I h) fun r p ⟨v,c,I1,t,e⟩=>thn (ho b p σ c _ I1 e) fun u q ⟨x,f,I2,k,l⟩=>thn (hi b q σ f _ I2 l) fun B z ζ=>?_) hs;obtain ⟨y,w,I3,m,a,n,d,g,j⟩:=ζ;subst d;obtain rfl:u=Value.ref a:=k;exact JhE hu I3 g m t fun C I4=>⟨σ,n,I4,j⟩
end
theorem JiK {P:Program} {w:World} {H:Hp} (h:Heap) (hb:sysModules<h.objs.size):ObjOk P w H (h.push { cls:=.type "dict",data:=.dict #[] }) h.objs.size (.dK []) :=
 ⟨Nat.zero_le _,beq_eq_false_iff_ne.mpr (Ne.symm (Nat.ne_of_lt hb)),[], .nil,Heap.DictOf.new h⟩
def JjB:TE:=fun _ H Q=>∀ p,H p=none->Q (.ref p) (upd H p (.dK []))
def Jln:TE:=fun _ H Q=>∀ p,H p=none->Q (.ref p) (upd H p (.dT []))
section
variable {X:Cx} {pos:Pos}
theorem Jcc:PE X (.Dict [] [] pos) JjB:=fun b s σ H Q I h=>
 wpAny_Dict_empty ⟨.ref s.heap.objs.size,_,I.laid (a:=s.heap.objs.size) (o:=.dK []) (t':=s.toks) (fun _ _ q=>Heap.get?_push_of_some _ q) (Nat.le_refl _) (JiK s.heap I.big),rfl,h _ (I.hok.fresh (Nat.le_refl _))⟩
end
def Jg3:List (TE × TE)->St->Hp->(List (V × V)->Hp->Prop)->Prop
 | [],_,H,Q=>Q [] H
 | (tk,tv)::r,σ,H,Q=>tk σ H fun x H1=>tv σ H1 fun y H2=>Jg3 r σ H2 fun ps H3=>Q ((x,y)::ps) H3
def Jjy (kvs more:List (Key × V)):List (Key × V):=more.foldl (fun acc kv=>putK acc kv.1 kv.2) kvs
def tDisp (trs:List (TE × TE)):TE:=fun σ H Q=>∀ p,H p=none->Jg3 trs σ (upd H p (.dK [])) fun ps H2=>H2 p=some (.dK [])/\∃ kvs:List (Key × V),ps=kvs.map (fun kv=>(kV kv.1,kv.2))/\kvs.length<=15/\Q (.ref p) (upd H2 p (.dK (Jjy [] kvs)))
def IsD (H:Hp) (a:Addr):Prop:=(∃ kvs,Rd H a (.dK kvs))\/∃ kvs,Rd H a (.dT kvs)
theorem JkL {X:Cx} {pins:List (Addr × Obj)} {σ : St} {H:Hp} {s:Shared} {a:Addr} (I:Inv X pins σ H s) (d:IsD H a) :
  s.TypeIs (.ref a) "dict"/\(∀ b,Value.ref a=.ref b->∃ ob,s.heap.get? b=some ob/\ob.dict=none)/\(a == sysModules)=false:=by
 rcases d with ⟨kvs,e⟩ | ⟨kvs,e⟩
 ·obtain ⟨_,f,j,_,c⟩:=dk_rd I.hok e;refine ⟨c.typeIs,fun b q=>?_,f⟩;cases q;obtain ⟨ob,_,_,h,g,_⟩:=c;exact ⟨ob,h,g.2.1⟩
 ·obtain ⟨_,f,i,_,c⟩:=dt_rd I.hok e;refine ⟨c.typeIs,fun b q=>?_,f⟩;cases q;obtain ⟨ob,_,_,h,g,_⟩:=c;exact ⟨ob,h,g.2.1⟩
section
variable {X:Cx} {pins:List (Addr × Obj)} {σ : St} {H:Hp} {s:Shared} {a:Addr} {y d:V} {u r:Value} {o:Option V} {A:Around} {E:Value->Shared->Prop}
end
def Jll (td ty:TE):TE:=fun σ H Q=>td σ H fun x H1=>∃ a,x=.ref a/\IsD H1 a/\ty σ H1 fun y H2=>∃ o,DGet H2 a y o/\Q (o.getD .non) H2
def Jlm (td ty tx:TE):TE:=fun σ H Q=>td σ H fun x H1=>∃ a,x=.ref a/\IsD H1 a/\ty σ H1 fun y H2=>tx σ H2 fun z H3=>∃ o,DGet H3 a y o/\Q (o.getD z) H3
def Jlo (td ty:TE):TE:=fun σ H Q=>td σ H fun x H1=>∃ a,x=.ref a/\IsD H1 a/\ty σ H1 fun y H2=>∃ kvs k v,H2 a=some (.dK kvs)/\y=kV k/\valV kvs k=some v/\Q v (upd H2 a (.dK (dropK kvs k)))
section
variable {X:Cx} {o e f:Expr} {apos cpos:Pos} {td ty tx:TE}
end
section
variable {X:Cx} {pins:List (Addr × Obj)} {σ : St} {H:Hp} {s:Shared} {a:Addr} {kvs:List (Key × V)} {A:Around} {E:Value->Shared->Prop}
end
section
variable {X:Cx} {pins:List (Addr × Obj)} {σ : St} {H:Hp} {s:Shared} {a:Addr} {y:V} {u:Value} {A:Around} {E:Value->Shared->Prop}
end
section
variable {κ : Type} [DecidableEq κ]
end
theorem ObjOk.is_there {P:Program} {w:World} {H:Hp} {h:Heap} {a:Addr} {o:HO} (x:ObjOk P w H h a o):∃ ob,h.get? a=some ob:=by
 cases o with
 | lst xs=>obtain ⟨_,_,_,_,e⟩:=x;exact ⟨_,e⟩
 | tup xs=>obtain ⟨_,_,_,p⟩:=x;obtain ⟨o,e,_⟩:=p;exact ⟨_,e⟩
 | dK kvs=>obtain ⟨_,_,_,_,o,_,_,e,_⟩:=x;exact ⟨_,e⟩
 | dT kvs=>obtain ⟨_,_,_,_,o,_,_,e,_⟩:=x;exact ⟨_,e⟩
 | set S n=>
  obtain ⟨o,_,_,_,e,_⟩:=x;exact ⟨_,e⟩
 | ins C dx fs=>obtain ⟨_,_,_,e,_⟩:=x;exact ⟨_,e⟩
 | own y=>exact x
 | xd fs=>obtain ⟨c,n,_⟩:=x;obtain ⟨b,e,_⟩:=Jfm n;exact ⟨_,e⟩
 | rng lo hi=>obtain ⟨_,_,_,e⟩:=x;exact ⟨_,e⟩
 | frz ob u=>exact ⟨_,x.1⟩
 | tbl ps=>exact ⟨_,x⟩
 | met f y=>exact ⟨_,x⟩
 | ext φ=>exact x.2.1
theorem HOk.isnone {P:Program} {w:World} {H:Hp} {h:Heap} {a:Addr} (x:HOk P w H h) (e:h.get? a=none):H a=none:=by
 cases q:H a with
 | none=>rfl
 | some u=>
  obtain ⟨b,z⟩:=(x a u q).is_there;rw [e] at z;cases z
structure Fly (l:List Env) (H':Hp) (h0:Heap) (ea:Addr) (cls a0:Value) (B h:Heap):Prop where
 fly:Heap.FlyingW B l ea cls a0 h
 free:H' ea=none
 new:h0.get? ea=none
 kept:∀ b o,h.get? b=some o->((∃ o',h0.get? b=some o')\/∃ u,H' b=some u)->b∉frs l->B.get? b=some o
def CX1 (P:Program) (w:World):CXT:=fun outer H s E e s'=>
 ∃ (ea:Addr) (cls a0:Value) (B:Heap) (H':Hp),e=.ref ea/\s'.os=s.os/\AllBare s'.gens/\Un (frs outer) [] H H' s.heap s'.heap/\HOk P w H' s'.heap /\
  Fly outer H' s.heap ea cls a0 B s'.heap/\E cls none H'
section
variable {P:Program} {w:World} {l l':List Env} {H H':Hp} {h0 h h' B:Heap} {ea:Addr} {cls a0:Value}
theorem Fly.next (u:Un (frs l) [] H H' h0 h) (hok:HOk P w H' h) (F:Fly l H' h0 ea cls a0 B h) (fr:∀ b∈frs l,H' b=none) (k:B.StaysIn h') (sl:h.UpToSlots h') :
  HOk P w H' h'/\Un (frs l) [] H H' h0 h'/\∀ b o,h.get? b=some o->((∃ o',h0.get? b=some o')\/∃ u,H' b=some u)->b∉frs l->h'.get? b=some o:=by
 have c:∀ b o,h.get? b=some o->((∃ o',h0.get? b=some o')\/∃ u,H' b=some u)->b∉frs l->h'.get? b=some o:=fun b o q r n=>k b o (F.kept b o q r n);have d:∀ b o,b∈frs l->h.get? b=some o->∃ i,h'.get? b=some { o with slots:=i }:=fun b o m q=>by
  obtain ⟨_,o',t,x⟩:=F.fly.2.2.1.mem m;rw [q] at t;cases t;exact sl b o q x
 refine ⟨fun a o e=>?_,⟨fun b o q n s _=>?_,fun b o q n m _=>?_,u.free,fun b o q y=>?_,u.tups,u.frzs,u.tbls⟩,c⟩
 ·have p:∀ b u,H' b=some u->b∉frs l:=fun b u q m=>by
   rw [fr b m] at q;cases q
  refine (hok a o e).stay (fun b v g q=>?_) (fun _ r=>r) (fun _ _ r=>r);rcases g with rfl | g
  ·exact c _ _ q (.inr ⟨_,e⟩) (p _ _ e)
  ·exact c _ _ q (.inr ⟨_,g⟩) (p _ _ g)
 ·exact c b o (u.keep b o q n s (by simp)) (.inl ⟨o,q⟩) s
 ·obtain ⟨z,f⟩:=u.slot b o q n m (by simp);obtain ⟨i,j⟩:=d b _ m f;exact ⟨i,j⟩
 ·obtain ⟨o',f⟩:=u.there b o q (by simp);by_cases m:b∈frs l
  ·obtain ⟨i,j⟩:=d b _ m f;exact ⟨_,j⟩
  ·exact ⟨o',c b o' f (.inl ⟨o,q⟩) m⟩
end
section
variable {X:Cx} {pins:List (Addr × Obj)} {σ : St} {H H':Hp} {s:Shared} {h h' B:Heap} {ea:Addr} {cls a0:Value}
theorem Inv.out (I:Inv X pins σ H s) (hex:X.ex=[]) (u:Un (frs X.stack) [] H H' s.heap h'):Un X.fs [] X.H₀ H' X.s₀.heap h':=by
 have J:=I.base;rw [hex] at J;have j:∀ b o,X.s₀.heap.get? b=some o->b≠X.env.locals:=fun b o q z=>by
  have g:=Heap.lt_size q;have l:=I.ok.above;rw [z] at g;exact absurd (Nat.lt_of_lt_of_le g l) (Nat.lt_irrefl _)
 have i:∀ b o,X.s₀.heap.get? b=some o->b∉X.fs->b∉frs X.stack:=fun b o q c m=>by
  rcases mem_cons.mp (I.stkSub b m) with z | z
  ·exact j b o q z
  ·exact c z
 refine ⟨fun b o q n c _=>?_,fun b o q n m _=>?_,fun b o q n _=>?_,fun b o q _=>?_,fun b f q=>u.tups b f (J.tups b f q),fun b o v q=>u.frzs b o v (J.frzs b o v q),fun b p q=>?_⟩
 ·exact u.keep b o (J.keep b o q n c (by simp)) (J.free b o q n (by simp)) (i b o q c) (by simp)
 ·obtain ⟨t,a⟩:=J.slot b o q n m (by simp);obtain ⟨r,e⟩:=u.any a (J.free b o q n (by simp)) (by simp);exact ⟨r,e⟩
 ·obtain ⟨d,a⟩:=J.there b o q (by simp);exact u.free b d a (J.free b o q n (by simp)) (by simp)
 ·obtain ⟨d,a⟩:=J.there b o q (by simp);exact u.there b d a (by simp)
 ·obtain ⟨h,a⟩:=J.tbls b p q;obtain ⟨k,e⟩:=u.tbls b _ a;exact ⟨h++k,by rw [e,Array.append_assoc]⟩
theorem Inv.stkFree' (I:Inv X pins σ H s) (u:Un (frs X.stack) [] H H' s.heap h):∀ b∈frs X.stack,H' b=none:=fun b m=>by
 obtain ⟨_,o,q,_⟩:=I.stack.mem m;exact u.free b o q (I.stkFree b m) (by simp)
end
section
variable {P:Program} {w:World} {K:W.Frag} {mg:Str->Option Value} {base:Heap} {N:List Str} {qual:Str} {scope:Scope} {f:Addr} {cdv:Value} {A:Around} {outer:List Env} {s0:Shared} {H0:Hp} {E:XK}
theorem pass1:Jb3 (CX1 P w) (cxOf (CX1 P w) P w K mg base N qual scope f cdv A outer s0 H0 E) E:=by
 intro x σ H s e y I R;obtain ⟨i,cls,a0,B,C,rfl,p,M,u,j,F,W⟩:=R;have t:=I.stkFree' u;show wpAny (model P w) (A.deeper (envOfC qual scope s0.heap.objs.size f cdv)) (leaving (envOfC qual scope s0.heap.objs.size f cdv) (.ref i)) (fun _ h=>CX1 P w outer H0 s0 E (.ref i) h) (fun V h=>CX1 P w outer H0 s0 E V h) y;refine wpAny_leaves_onW (base:=B) (cls:=cls) (a0:=a0) I.ok.frames rfl F.fly fun Q g n=>?_;obtain ⟨l,U,X⟩:=F.next u j t g.1 n;have k:s0.heap.get? i=none:=by
  cases q:s0.heap.get? i with
  | none=>rfl
  | some o=>
   obtain ⟨a,L⟩:=I.base.there i o q (by intro z;cases z);have:=F.new;rw [L] at this;cases this
 refine ⟨i,cls,a0,B,C,rfl,p.trans I.os,M,I.out rfl U,l,⟨g,F.free,k,fun b o q r T=>?_⟩,W⟩;have S:b≠s0.heap.objs.size:=fun z=>by
  rcases r with ⟨a,c⟩ | ⟨v,c⟩
  ·have:=Heap.lt_size c;rw [z] at this;exact absurd this (Nat.lt_irrefl _)
  ·have O:=t s0.heap.objs.size (by
    show s0.heap.objs.size∈frs (envOfC qual scope s0.heap.objs.size f cdv::outer);exact List.mem_filterMap.mpr ⟨_,mem_cons_self ..,rfl⟩)
   rw [z,O] at c;cases c
 have J:b∉frs (envOfC qual scope s0.heap.objs.size f cdv::outer):=fun m=>by
  rcases mem_cons.mp (I.stkSub b m) with z | z
  ·exact S z
  ·exact T z
 have D:(∃ a,s.heap.get? b=some a)\/∃ v,C b=some v:=by
  rcases r with ⟨a,c⟩ | r
  ·exact .inl (I.base.there b a c (by intro z;cases z))
  ·exact .inr r
 have d:∃ a,y.heap.get? b=some a:=by
  rcases D with ⟨a,c⟩ | ⟨v,c⟩
  ·exact u.there b a c (by simp)
  ·exact (j b v c).is_there
 obtain ⟨a,c⟩:=d;have z:=F.kept b a c D J;have G:=g.1 b a z;rw [show Q.get? b=some o from q] at G;cases G;exact z
end
theorem passF {P:Program} {w:World} {X:Cx}:Jb3 (CX1 P w) X E0:=fun _ _ _ _ _ _ _ h=>by
 obtain ⟨_,_,_,_,_,_,_,_,_,_,_,z⟩:=h;exact False.elim z
theorem JjT {K:W.Frag} {h:Heap} {C:Addr} {bmB:List Value} {newId:String} (X:K.In h) (q:W.excIn K C bmB newId=true) :
  ∃ (bm:List Value) (N:Addr) (nm qn:Str) (bs:List Value) (hdct:Bool) (sn:List Str) (sub:List Value) (ab:Bool) (col:Option Bool) (dd:Option Addr) (k0 k1 k2 k3 k5:Option Value) (mN:Str->Option Value),
   h.get? C=some (excClassObj nm qn C N bs bm hdct sn sub ab col dd k0 k1 k2 k3 k5 newId)/\h.Ns N mN/\mN "__init__"=none/\OwnTail h bmB bm:=by
 unfold W.excIn at q;split at q
 next dd cd sl ho=>
  split at q
  next C' bm k0 k1 k2 k3 n k5 hm hs=>
   have p:((((C'=C/\n=newId)/\cd.hasDel=false)/\W.tailIn K bmB bm=true)/\W.nsOkIn K cd.ns=true)/\W.nsIn K cd.ns "__init__"=some none:=by simpa using q
   obtain ⟨⟨⟨⟨⟨i,f⟩,j⟩,l⟩,e⟩,k⟩:=p;obtain ⟨nm,bs,d,o,qn,m,sn,sub,ab,col,a⟩:=cd;have g:sl=#[k0,k1,k2,k3,some (.builtin n),k5]:=by
    cases sl;exact congrArg Array.mk hs
   subst i;subst f;subst g;have c:d=.ref C'::bm:=hm;subst c;have b:a=false:=j;subst b;exact ⟨bm,o,nm,qn,bs,m,sn,sub,ab,col,dd,k0,k1,k2,k3,k5,_,X _ _ ho, .of_isNs (W.isNs_of_in X e),W.nsMap_none_of_in X e k,W.tail_of_in X l⟩
  next=>cases q
 next=>cases q
section
variable {P:Program} {w:World} {K:W.Frag} {mg:Str->Option Value} {base:Heap} {N:List Str} {qual:Str} {scope:Scope} {f:Addr} {cdv:Value} {A:Around} {outer:List Env} {s0:Shared} {H0:Hp} {E:XK}
theorem JkU {pins:List (Addr × Obj)} {σ : St} {H:Hp} {s:Shared} {h':Heap} {e:Addr} {cls:Value} {us:List Value}
  (I:Inv (cxOf (CX1 P w) P w K mg base N qual scope f cdv A outer s0 H0 E) pins σ H s) (hm:Heap.MadeExcOf s.heap h' e cls us) (q:E cls none H) :
  (cxOf (CX1 P w) P w K mg base N qual scope f cdv A outer s0 H0 E).xe (.ref e) { s with heap:=h' }:=by
 show wpAny (model P w) (A.deeper (envOfC qual scope s0.heap.objs.size f cdv)) (leaving (envOfC qual scope s0.heap.objs.size f cdv) (.ref e)) (fun _ k=>CX1 P w outer H0 s0 E (.ref e) k) (fun V k=>CX1 P w outer H0 s0 E V k) { s with heap:=h' };have Q:=I.stkFree;have G:∀ i∈(envOfC qual scope s0.heap.objs.size f cdv::outer), ∀ b,i.frame=some b->b∈frs (envOfC qual scope s0.heap.objs.size f cdv::outer):=fun i X b B=>List.mem_filterMap.mpr ⟨i,X,B⟩;refine wpAny_leaves_madeW (base:=W.hideAll s.heap (frs (envOfC qual scope s0.heap.objs.size f cdv::outer))) (h:=s.heap) (cls:=cls) (args:=us) I.ok.frames rfl (fun b o z=>W.of_hideAll _ z) (W.funFrames_hide I.stack G) hm fun D t l _ _ p=>?_;have j:H e=none:=I.hok.isnone hm.new;have c:∀ b o,s.heap.get? b=some o->b∉frs (envOfC qual scope s0.heap.objs.size f cdv::outer)->D.get? b=some o:=fun b o z n=>l.1 b o (W.hideAll_get _ z n);have u:Un (frs (envOfC qual scope s0.heap.objs.size f cdv::outer)) [] H H s.heap D:=by
  refine ⟨fun b o z _ n _=>c b o z n,fun b o z _ m _=>?_,fun _ _ _ n _=>n,fun b o z _=>?_,fun _ _ z=>z,fun _ _ _ z=>z,fun _ Y z=>⟨#[],by rw [z];simp⟩⟩
  ·obtain ⟨_,g,d,L⟩:=I.stack.mem m;rw [z] at d;cases d;exact p b o (hm.keeps b o z) L
  ·by_cases m:b∈frs (envOfC qual scope s0.heap.objs.size f cdv::outer)
   ·obtain ⟨_,g,d,L⟩:=I.stack.mem m;rw [z] at d;cases d;obtain ⟨Z,R⟩:=p b o (hm.keeps b o z) L;exact ⟨_,R⟩
   ·exact ⟨o,c b o z m⟩
 have F:∀ b v,H b=some v->b∉frs (envOfC qual scope s0.heap.objs.size f cdv::outer):=fun b v z m=>by
  rw [Q b m] at z;cases z
 have J:HOk P w H D:=fun a o z=>by
  refine (I.hok a o z).stay (fun b v B C=>?_) (fun _ r=>r) (fun _ _ r=>r);rcases B with rfl | B
  ·exact c _ _ C (F _ _ z)
  ·exact c _ _ C (F _ _ B)
 have x:s0.heap.get? e=none:=by
  cases z:s0.heap.get? e with
  | none=>rfl
  | some o=>
   obtain ⟨g,S⟩:=I.base.there e o z (by intro z;cases z);have:=hm.new;rw [S] at this;cases this
 refine ⟨e,cls, .ref t,_,H,rfl,I.os,I.bare,I.out rfl u,J,⟨l,j,x,fun b o z r T=>?_⟩,q⟩;have U:∃ g,s.heap.get? b=some g:=by
  rcases r with ⟨g,d⟩ | ⟨v,d⟩
  ·exact I.base.there b g d (by intro z;cases z)
  ·exact (I.hok b v d).is_there
 have M:b∉frs (envOfC qual scope s0.heap.objs.size f cdv::outer):=fun m=>by
  rcases mem_cons.mp (I.stkSub b m) with y | y
  ·rcases r with ⟨g,d⟩ | ⟨v,d⟩
   ·have O:=Heap.lt_size d;rw [y] at O;exact absurd O (Nat.lt_irrefl _)
   ·exact F b v d m
  ·exact T y
 obtain ⟨g,d⟩:=U;have C:=c b g d M;rw [show D.get? b=some o from z] at C;cases C;exact W.hideAll_get _ d M
def JjC (E:XK) (C:Addr) (ta:TA):TS:=fun _ σ H=>ta σ H fun vs H1=>vs.length<=sizeLine/\E (.ref C) none H1
theorem Ji7 {x:Str} {np cpos pos:Pos} {e:Expr} {es:List Expr} {C:Addr} {B newId initId:String} {bmB:List Value} {ta:TA} (FB:ExcBaseFacts B newId initId bmB) (hx:W.excIn K C bmB newId=true)
  (hg:Gl (cxOf (CX1 P w) P w K mg base N qual scope f cdv A outer s0 H0 E) x) (hm:mg x=some (.ref C)) (ha:PA (cxOf (CX1 P w) P w K mg base N qual scope f cdv A outer s0 H0 E) (e::es) ta)
  (he:starEach (e::es) (envOfC qual scope s0.heap.objs.size f cdv)=(false,eval e (envOfC qual scope s0.heap.objs.size f cdv))::starEach es (envOfC qual scope s0.heap.objs.size f cdv):=by rfl)
  (hpl:(backTo cpos (starEach es (envOfC qual scope s0.heap.objs.size f cdv))).any (·.1)=false:=by rfl) (hdb:(x == ("__debug__" : Str))=false:=by decide) :
  PS (cxOf (CX1 P w) P w K mg base N qual scope f cdv A outer s0 H0 E) (.Raise (some (.Call (.Name x np) (e::es) [] cpos)) none pos) (JjC E C ta):=by
 intro a s σ H D I h;obtain ⟨bm,j,nm,g,bs,hdct,sn,sub,ab,col,dd,k0,k1,k2,k3,k5,mN,l,i,b,T⟩:=JjT I.mod.kin hx;have k:(A.deeper (envOfC qual scope s0.heap.objs.size f cdv)).handled=none:=I.ok.hd rfl;refine wpAny_Raise_call_subT (C:=C) (nm:=nm) (q:=g) (N:=j) (bs:=bs) (bm:=bm) (hdct:=hdct) (sn:=sn) (sub:=sub) (ab:=ab) (col:=col) (dd:=dd) (k0:=k0) (k1:=k1) (k2:=k2) (k3:=k3) (k5:=k5)
  FB (mN:=mN) (T.hasType FB.hasBase) k ?_ b (JdO I hg hm ⟨rfl,?_⟩ hdb)
 ·show (backTo cpos (starEach (e::es) (envOfC qual scope s0.heap.objs.size f cdv))).any (·.1)=false;rw [he];show (false||(backTo cpos (starEach es (envOfC qual scope s0.heap.objs.size f cdv))).any (·.1))=false;rw [hpl];rfl
 ·have z:=ha cpos a s σ H _ I h;show wpAny _ _ (evalArgs (.ref C) true (backTo cpos (starEach (e::es) (envOfC qual scope s0.heap.objs.size f cdv))) []) _ _ _;have m:=he;rw [he];refine Calls.evalArgs_plain ?_;have c:wpAny (model P w) (A.deeper (envOfC qual scope s0.heap.objs.size f cdv)) (spliced (backTo cpos (starEach (e::es) (envOfC qual scope s0.heap.objs.size f cdv)))) _ _ s:=z;rw [he] at c;refine thn c fun p u ζ=>?_;obtain ⟨t,n,I1,r,d,q⟩:=ζ;exact ⟨rfl,by rw [<- r.length];exact d,I1.bk _ _ l,i.keeps I1.bk,T.keeps I1.bk,fun o e hm=>JkU I1 hm q⟩
end
def xCall (sp:Sp) (dvs:List V) (t:TA):St->Hp->VK->XK->Prop:=fun σ H Q E=>t σ H fun vs H1=>sp (vs++dvs) H1 Q E
section
variable {X:Cx} {k:Nat} {f C:Addr} {fd:FuncData} {ps:List Str} {sp:Sp} {dvs:List V} {ds:List Value} {E:XK} {x m:Str} {p pos apos:Pos} {e o:Expr} {es:List Expr} {ta:TE} {t:TA}
end
section
variable {X:Cx} {pins:List (Addr × Obj)} {σ : St} {H H':Hp} {s s':Shared} {h' B:Heap} {ea:Addr} {cls a0:Value}
theorem Inv.track {a:Addr} {o:HO} (I:Inv X pins σ H s) (hn:H a=none) (h1:X.s₀.heap.get? a=none) (h2:a≠X.env.locals) (h3:∀ x c,X.env.cells.lookup x=some c->c≠a) (h4:∀ p∈X.pn++pins,p.1≠a)
  (ok:ObjOk X.prog X.w (upd H a o) s.heap a o):Inv X pins σ (upd H a o) s:=by
 have d:∀ b u,H b=some u->b≠a:=fun b u q=>Jag q hn;refine ⟨I.ok,I.os,I.bare,⟨I.base.keep,I.base.slot,fun b f q n j=>?_,I.base.there,fun b g q=>?_,fun b f u q=>?_,fun b k q=>?_⟩,I.loc,I.cell,?_,fun x c e=>?_,fun p h=>?_,fun b u q=>?_,I.len⟩
 ·have : b≠a:=fun z=>by rw [z,h1] at q;cases q
  rw [Jai this];exact I.base.free b f q n j
 ·have z:=I.base.tups b g q;rw [Jai (d _ _ z)];exact z
 ·have z:=I.base.frzs b f u q;rw [Jai (d _ _ z)];exact z
 ·obtain ⟨l,z⟩:=I.base.tbls b k q;exact ⟨l,by rw [Jai (d _ _ z)];exact z⟩
 ·rw [Jai (Ne.symm h2)];exact I.free
 ·rw [Jai (h3 x c e)];exact I.freeC x c e
 ·obtain ⟨e,n,r⟩:=I.pin p h;exact ⟨e,by rw [Jai (h4 p h)];exact n,r⟩
 ·by_cases i:b=a
  ·subst i;rw [Jau] at q;cases q;exact ok
  ·rw [Jai i] at q;exact (I.hok b u q).stay (fun _ _ _ z=>z) (fun c z=>by rw [Jai (d _ _ z)];exact z) (fun c g z=>by rw [Jai (d _ _ z)];exact z)
def ExcO (e C:Addr):HO:=.ext fun h=>∃ ox vs,h.get? e=some ox/\ox.cls=.ref C/\ox.data=.fields vs
end
structure Jhs (K:W.Frag) (C D:Addr):Prop where
 cl:W.hasDictIn K D=true
 ty:W.typeIn K (.ref D)=some (.type "type")
 ex:W.mroIn K D (.type "BaseException")=some true
 ab:W.mroIn K C (.ref D)=some true
section
variable {X:Cx} {ce:Expr} {epos pos hpos np:Pos} {x n:Str} {b0:Stmt} {suite:List Stmt} {D:Addr} {t:St->Hp->VK->XK->Prop} {ts:TS}
def Jlq (K:W.Frag) (D:Addr) (i:Nat) (t:St->Hp->VK->XK->Prop) (ts:TS):TS:=fun Dn σ H=>t σ H (fun _ H1=>Dn.nx σ H1) fun cls _ H1=>∃ C,cls=.ref C/\Jhs K C D /\
 ∀ ea,H1 ea=none->ts { nx:=fun σ' H'=>Dn.nx (σ'.set i none) H',rt:=Dn.rt,bk:=fun σ' H'=>Dn.bk (σ'.set i none) H',ct:=fun σ' H'=>Dn.ct (σ'.set i none) H' } (σ.set i (some (.ref ea))) (upd H1 ea (ExcO ea C))
end
inductive D where
 | non | bl (b:Bool) | int (i:Int) | str (x:Str) | tup (xs:List D) | lst (xs:List D)
mutual
def Rep (K:W.Frag) (H:Hp):D->V->Prop
 | .non,v=>v=.non
 | .bl b,v=>v=.bl b
 | .int i,v=>v=.int i
 | .str x,v=>v=.str x
 | .tup ds,v=>∃ a xs,v=.ref a/\SqT K H a xs/\RepL K H ds xs
 | .lst ds,v=>∃ a xs,v=.ref a/\SqL K H a xs/\RepL K H ds xs
def RepL (K:W.Frag) (H:Hp):List D->List V->Prop
 | [],vs=>vs=[]
 | d::ds,vs=>∃ v r,vs=v::r/\Rep K H d v/\RepL K H ds r
end
mutual
def eqD:D->D->Bool
 | .non, .non=>true
 | .bl a, .bl b=>a == b
 | .int a, .int b=>a == b
 | .bl a, .int b=>(if a then 1 else 0) == b
 | .int a, .bl b=>a == (if b then 1 else 0)
 | .str a, .str b=>a == b
 | .tup xs, .tup ys=>eqL xs ys
 | .lst xs, .lst ys=>eqL xs ys
 | _,_=>false
def eqL:List D->List D->Bool
 | [],[]=>true
 | x::xs,y::ys=>eqD x y&&eqL xs ys
 | _,_=>false
end
mutual
def depD:D->Nat
 | .tup xs=>depL xs+1
 | .lst xs=>depL xs+1
 | _=>0
def depL:List D->Nat
 | []=>0
 | x::xs=>max (depD x) (depL xs)
end
theorem Jeu:∀ {xs ys:List D},eqL xs ys=true->xs.length=ys.length
 | [],[],_=>rfl
 | [],_::_,h=>by simp [eqL] at h
 | _::_,[],h=>by simp [eqL] at h
 | x::xs,y::ys,h=>by
  simp only [eqL,Bool.and_eq_true] at h;simp only [length_cons,Jeu h.2]
mutual
theorem JbP:∀ d:D,eqD d d=true
 | .non=>by simp [eqD]
 | .bl b=>by simp [eqD]
 | .int i=>by simp [eqD]
 | .str x=>by simp [eqD]
 | .tup xs=>by simp only [eqD];exact JeJ xs
 | .lst xs=>by simp only [eqD];exact JeJ xs
theorem JeJ:∀ d:List D,eqL d d=true
 | []=>by simp [eqL]
 | x::xs=>by simp only [eqL,Bool.and_eq_true];exact ⟨JbP x,JeJ xs⟩
end
theorem RepL.length {K:W.Frag} {H:Hp}:∀ {ds:List D} {vs:List V},RepL K H ds vs->ds.length=vs.length
 | [],vs,h=>by
  simp only [RepL] at h;rw [h];rfl
 | d::ds,vs,h=>by
  simp only [RepL] at h;obtain ⟨v,r,rfl,_,h2⟩:=h;simp only [length_cons,RepL.length h2]
theorem RepL.get {K:W.Frag} {H:Hp}:∀ {ds:List D} {vs:List V} {i:Nat} {d:D},RepL K H ds vs->ds[i]?=some d->∃ v,vs[i]?=some v/\Rep K H d v
 | [],_,_,_,_,e=>by simp at e
 | d::ds,vs,i,d',h,e=>by
  simp only [RepL] at h;obtain ⟨v,r,rfl,h1,h2⟩:=h;cases i with
  | zero=>simp at e;subst e;exact ⟨v,rfl,h1⟩
  | succ i=>
   obtain ⟨v',e',h'⟩:=RepL.get h2 (by simpa using e);exact ⟨v',by simpa using e',h'⟩
theorem SqL.same {K:W.Frag} {H H':Hp} {a:Addr} {xs:List V} (e:Same H H') (h:SqL K H a xs):SqL K H' a xs:=e.seq h
theorem SqT.same {K:W.Frag} {H H':Hp} {a:Addr} {xs:List V} (e:Same H H') (h:SqT K H a xs):SqT K H' a xs:=by
 rcases h with (h | ⟨o,h⟩) | h
 ·exact .inl (.inl (e _ _ h))
 ·exact .inl (.inr ⟨o,e _ _ h⟩)
 ·exact .inr h
mutual
theorem Rep.same {K:W.Frag} {H H':Hp} (e:Same H H'):∀ {d:D} {v:V},Rep K H d v->Rep K H' d v
 | .non,_,h=>by simpa only [Rep] using h
 | .bl _,_,h=>by simpa only [Rep] using h
 | .int _,_,h=>by simpa only [Rep] using h
 | .str _,_,h=>by simpa only [Rep] using h
 | .tup ds,_,h=>by
  simp only [Rep] at h ⊢;obtain ⟨a,xs,h1,h2,h3⟩:=h;exact ⟨a,xs,h1,h2.same e,RepL.same e h3⟩
 | .lst ds,_,h=>by
  simp only [Rep] at h ⊢;obtain ⟨a,xs,h1,h2,h3⟩:=h;exact ⟨a,xs,h1,h2.same e,RepL.same e h3⟩
theorem RepL.same {K:W.Frag} {H H':Hp} (e:Same H H'):∀ {d:List D} {v:List V},RepL K H d v->RepL K H' d v
 | [],_,h=>by simpa only [RepL] using h
 | x::xs,_,h=>by
  simp only [RepL] at h ⊢;obtain ⟨v,r,h1,h2,h3⟩:=h;exact ⟨v,r,h1,Rep.same e h2,RepL.same e h3⟩
end
section
variable {X:Cx} {pins:List (Addr × Obj)} {σ : St} {H:Hp} {s:Shared}
theorem Inv.list_tuple (I:Inv X pins σ H s) {a:Addr} {xs ys:List V} (h:SqL X.K H a xs) (h':SqT X.K H a ys):False:=by
 obtain ⟨_,_,p,_⟩:=I.list h;obtain ⟨_,_,q,_⟩:=I.tuple h';obtain ⟨o,_,d,e,_⟩:=p;obtain ⟨f,b,c,_⟩:=q;rw [d] at b;cases b;rw [e] at c;exact absurd c ⋯
mutual
theorem Inv.rep_inj (I:Inv X pins σ H s):∀ {d e:D} {v:V},Rep X.K H d v->Rep X.K H e v->d=e
 | .non,e,v,h,h'=>by
  simp only [Rep] at h;subst h;cases e <;> simp [Rep] at h' ⊢
 | .bl _,e,v,h,h'=>by
  simp only [Rep] at h;subst h;cases e <;> simp [Rep] at h' ⊢
  exact h'
 | .int _,e,v,h,h'=>by
  simp only [Rep] at h;subst h;cases e <;> simp [Rep] at h' ⊢
  exact h'
 | .str _,e,v,h,h'=>by
  simp only [Rep] at h;subst h;cases e <;> simp [Rep] at h' ⊢
  exact h'
 | .tup ds,e,v,h,h'=>by
  simp only [Rep] at h;obtain ⟨a,xs,rfl,h2,h3⟩:=h;cases e with
  | tup es=>
   simp only [Rep] at h';obtain ⟨a',ys,q,g2,g3⟩:=h';cases q;have:=I.tuple_inj h2 g2;subst this;rw [Inv.repL_inj I h3 g3]
  | lst es=>
   simp only [Rep] at h';obtain ⟨a',ys,q,g2,g3⟩:=h';cases q;exact (I.list_tuple g2 h2).elim
  | _=>simp [Rep] at h'
 | .lst ds,e,v,h,h'=>by
  simp only [Rep] at h;obtain ⟨a,xs,rfl,h2,h3⟩:=h;cases e with
  | lst es=>
   simp only [Rep] at h';obtain ⟨a',ys,q,g2,g3⟩:=h';cases q;have:=I.list_inj h2 g2;subst this;rw [Inv.repL_inj I h3 g3]
  | tup es=>
   simp only [Rep] at h';obtain ⟨a',ys,q,g2,g3⟩:=h';cases q;exact (I.list_tuple h2 g2).elim
  | _=>simp [Rep] at h'
theorem Inv.repL_inj (I:Inv X pins σ H s):∀ {d e:List D} {v:List V},RepL X.K H d v->RepL X.K H e v->d=e
 | [],e,v,h,h'=>by
  simp only [RepL] at h;subst h;cases e <;> simp [RepL] at h' ⊢
 | x::xs,e,v,h,h'=>by
  simp only [RepL] at h;obtain ⟨u,r,rfl,h1,h2⟩:=h;cases e with
  | nil=>simp [RepL] at h'
  | cons y ys=>
   simp only [RepL] at h';obtain ⟨u',r',q,g1,g2⟩:=h';cases q;rw [Inv.rep_inj I h1 g1,Inv.repL_inj I h2 g2]
end
end
def Jcz {α β : Type} (f : α->β->Bool):List α->List β->Bool
 | [],[]=>true
 | x::xs,y::ys=>f x y&&Jcz f xs ys
 | _,_=>false
def atB {α β : Type} (f : α->β->Bool) (xs:List α) (ys:List β) (j:Nat):Bool:=match xs[j]?,ys[j]? with
 | some x,some y=>f x y
 | _,_=>true
theorem JcA {α β : Type} (f : α->β->Bool):∀ (xs:List α) (ys:List β),
  ((List.range (min xs.length ys.length)).all (atB f xs ys)&&(xs.length == ys.length))=Jcz f xs ys
 | [],[]=>by simp [Jcz]
 | [],_::_=>by simp [Jcz]
 | _::_,[]=>by simp [Jcz]
 | x::xs,y::ys=>by
  have ih:=JcA f xs ys;simp only [Jcz,length_cons];rw [<- ih,Nat.succ_min_succ,List.range_succ_eq_map,List.all_cons,List.all_map];have e:((List.range (min xs.length ys.length)).all (atB f (x::xs) (y::ys) ∘ Nat.succ))=(List.range (min xs.length ys.length)).all (atB f xs ys):=by
   congr 1
  rw [e];have e0:atB f (x::xs) (y::ys) 0=f x y:=by unfold atB;simp
  rw [e0,Bool.and_assoc]
  congr 2
  simp
theorem Jf4:∀ xs ys:List D,eqL xs ys=Jcz eqD xs ys
 | [],[]=>by simp [eqL,Jcz]
 | [],_::_=>by simp [eqL,Jcz]
 | _::_,[]=>by simp [eqL,Jcz]
 | x::xs,y::ys=>by simp only [eqL,Jcz,Jf4 xs ys]
theorem JgH:∀ {ds:List D} {d:D},d∈ds->depD d<=depL ds
 | [],_,h=>by simp at h
 | x::xs,d,h=>by
  simp only [depL];rcases mem_cons.mp h with rfl | h
  ·exact Nat.le_max_left ..
  ·exact Nat.le_trans (JgH h) (Nat.le_max_right ..)
def flatD:D->Bool
 | .tup _=>false
 | .lst _=>false
 | _=>true
def valD:D->V
 | .bl b=>.bl b
 | .int i=>.int i
 | .str x=>.str x
 | _=>.non
theorem Je0 {K:W.Frag} {H:Hp} {d:D} {v:V} (f:flatD d=true) (h:Rep K H d v):v=valD d:=by
 cases d <;> simp_all [flatD,Rep,valD]
theorem JgL {d:D} (f:flatD d=true):flatV (valD d)=true:=by
 cases d <;> simp_all [flatD,valD,flatV]
theorem JjS {d e:D} (f:flatD d=true) (g:flatD e=true):eqV (valD d) (valD e)=eqD d e:=by
 cases d <;> cases e <;> simp_all [flatD,valD,eqV,eqD]
section
variable {X:Cx} {pins:List (Addr × Obj)} {σ : St} {H:Hp} {s:Shared}
theorem in1_units (A:Around):A.in1.units=A.units+1:=rfl
def EqP (X:Cx) (H:Hp) (s:Shared) (n:Nat):Prop:=∀ (d e:D) (A:Around) (x y:V) (u v:Value),depD d<=n->Rep X.K H d x->Rep X.K H e y->RelV x u->RelV y v->A.units+n<cLine->SeqAt.EqAt A s u v (eqD d e)
theorem JgO {n:Nat} (ih:EqP X H s n) {ds es:List D} {xs ys:List V} {its jts:List Value} (h3:RepL X.K H ds xs) (g3:RepL X.K H es ys) (vi:Vals xs its) (vj:Vals ys jts) (hds:depL ds<=n) {A:Around} (hA:A.units+n<cLine) :
  ∀ j (p1:j<its.toArray.size) (p2:j<jts.toArray.size),SeqAt.EqAt A s its.toArray[j] jts.toArray[j] (atB eqD ds es j):=by
 intro j p1 p2;have g:its.length=ds.length:=by rw [h3.length,vi.length]
 have c:jts.length=es.length:=by rw [g3.length,vj.length]
 have a:j<ds.length:=by rw [<- g];simpa using p1
 have b:j<es.length:=by rw [<- c];simpa using p2
 obtain ⟨u,e,t⟩:=h3.get (List.getElem?_eq_getElem a);obtain ⟨v,d,p⟩:=g3.get (List.getElem?_eq_getElem b);obtain ⟨m,h,q⟩:=vi.get e;obtain ⟨k,o,r⟩:=vj.get d;have i:its.toArray[j]=m:=by
  have:=h;rw [List.getElem?_eq_getElem (by simpa using p1)] at this;simpa using this
 have l:jts.toArray[j]=k:=by
  have:=o;rw [List.getElem?_eq_getElem (by simpa using p2)] at this;simpa using this
 rw [i,l];have f:atB eqD ds es j=eqD ds[j] es[j]:=by
  unfold atB;rw [List.getElem?_eq_getElem a,List.getElem?_eq_getElem b]
 rw [f];exact ih _ _ _ _ _ _ _ (Nat.le_trans (JgH (List.getElem_mem a)) hds) t p q r hA
theorem Jlt (I:Inv X pins σ H s) {n:Nat} (ih:EqP X H s n) {ds es:List D} {a b:Addr} {xs ys:List V} (h2:SqT X.K H a xs) (h3:RepL X.K H ds xs) (g2:SqT X.K H b ys) (g3:RepL X.K H es ys) (hds:depL ds<=n) {A:Around} (hA:A.units+(n+1)<cLine) :
  SeqAt.RcAt A s (.ref a) (.ref b) (eqD (.tup ds) (.tup es))/\SeqAt.RcNeAt A s (.ref a) (.ref b) (!eqD (.tup ds) (.tup es)):=by
 obtain ⟨c,e,g,_⟩:=I.tuple h2;obtain ⟨d,f,i,_⟩:=I.tuple g2;have l:c.length=ds.length:=by rw [h3.length,e.length]
 have j:d.length=es.length:=by rw [g3.length,f.length]
 have h:=JgO ih h3 g3 e f hds (A:=A.in1) (by rw [in1_units];ac_nf);have k:eqD (.tup ds) (.tup es)=((List.range (min c.toArray.size d.toArray.size)).all (atB eqD ds es)&&c.toArray.size == d.toArray.size):=by
  simp only [eqD,Jf4];rw [<- JcA];simp only [size_toArray,l,j]
 rw [k];exact ⟨SeqAt.RcAt.tuples g i ∅ h,SeqAt.RcNeAt.tuples g i ∅ h⟩
theorem JkV (I:Inv X pins σ H s) {n:Nat} (ih:EqP X H s n) {ds es:List D} {a b:Addr} {xs ys:List V} (h2:SqL X.K H a xs) (h3:RepL X.K H ds xs) (g2:SqL X.K H b ys) (g3:RepL X.K H es ys) (hds:depL ds<=n) {A:Around} (hA:A.units+(n+1)<cLine) :
  SeqAt.RcAt A s (.ref a) (.ref b) (eqD (.lst ds) (.lst es))/\SeqAt.RcNeAt A s (.ref a) (.ref b) (!eqD (.lst ds) (.lst es)):=by
 obtain ⟨d,k,g,_⟩:=I.list h2;obtain ⟨j,l,h,_⟩:=I.list g2;have e:d.length=ds.length:=by rw [h3.length,k.length]
 have f:j.length=es.length:=by rw [g3.length,l.length]
 have m:=JgO ih h3 g3 k l hds (A:=A.in1) (by rw [in1_units];ac_nf);by_cases c:ds.length=es.length
 ·have i:eqD (.lst ds) (.lst es)=(List.range d.toArray.size).all (atB eqD ds es):=by
   simp only [eqD,Jf4];rw [<- JcA];simp [e,c]
  rw [i];exact ⟨SeqAt.RcAt.lists g.isList h.isList (by simp [e,f,c]) ∅ m,SeqAt.RcNeAt.lists g.isList h.isList (by simp [e,f,c]) ∅ m⟩
 ·have i:eqD (.lst ds) (.lst es)=false:=by
   cases q:eqD (.lst ds) (.lst es) with
   | false=>rfl
   | true=>simp only [eqD] at q;exact absurd (Jeu q) c
  rw [i];exact ⟨SeqAt.RcAt.lists_lengths g.isList h.isList (by simp [e,f,c]) ∅,SeqAt.RcNeAt.lists_lengths g.isList h.isList (by simp [e,f,c]) ∅⟩
theorem JcM {K:W.Frag} {d:D} {x:V} (h:Rep K H d x):(flatD d=true/\x=valD d)\/(∃ ds a xs,d=.tup ds/\x=.ref a/\SqT K H a xs/\RepL K H ds xs)\/∃ ds a xs,d=.lst ds/\x=.ref a/\SqL K H a xs/\RepL K H ds xs:=by
 cases d with
 | tup ds=>simp only [Rep] at h;obtain ⟨a,xs,e,b,c⟩:=h;exact .inr (.inl ⟨ds,a,xs,rfl,e,b,c⟩)
 | lst ds=>simp only [Rep] at h;obtain ⟨a,xs,e,b,c⟩:=h;exact .inr (.inr ⟨ds,a,xs,rfl,e,b,c⟩)
 | _=>exact .inl ⟨rfl,Je0 rfl h⟩
theorem JcD (I:Inv X pins σ H s) {d e:D} {x y:V} {u v:Value} (hd:Rep X.K H d x) (he:Rep X.K H e y) (ru:RelV x u) (rv:RelV y v) (m:flatD d=!flatD e) {A:Around} (hA:A.units<cLine) :
  eqD d e=false/\SeqAt.EqAt A s u v false/\SeqAt.RcAt A s u v false/\SeqAt.RcNeAt A s u v true:=by
 rcases JcM hd with ⟨fd,rfl⟩ | ⟨ds,a,xs,rfl,rfl,h2,h3⟩ | ⟨ds,a,xs,rfl,rfl,h2,h3⟩
 ·rcases JcM he with ⟨fe,rfl⟩ | ⟨es,b,ys,rfl,rfl,g2,g3⟩ | ⟨es,b,ys,rfl,rfl,g2,g3⟩
  ·rw [fd,fe] at m;cases m
  ·obtain rfl:v=Value.ref b:=rv;obtain ⟨f,g,c,_⟩:=I.tuple g2;refine ⟨by cases d <;> simp [eqD,flatD] at fd ⊢,?_⟩;cases d <;> simp only [valD,RelV] at ru <;> first | (simp [flatD] at fd;done) | skip
   ·subst ru;exact ⟨SeqAt.EqAt.none_tuple c hA,SeqAt.RcAt.none_tuple c hA,SeqAt.RcNeAt.none_tuple c hA⟩
   ·subst ru;exact ⟨SeqAt.EqAt.bool_tuple _ c hA,SeqAt.RcAt.bool_tuple _ c hA,SeqAt.RcNeAt.bool_tuple _ c hA⟩
   ·obtain ⟨t,rfl⟩:=ru;exact ⟨SeqAt.EqAt.int_tuple _ _ c hA,SeqAt.RcAt.int_tuple _ _ c hA,SeqAt.RcNeAt.int_tuple _ _ c hA⟩
   ·obtain ⟨t,rfl⟩:=ru;exact ⟨SeqAt.EqAt.str_tuple _ _ c hA,SeqAt.RcAt.str_tuple _ _ c hA,SeqAt.RcNeAt.str_tuple _ _ c hA⟩
  ·obtain rfl:v=Value.ref b:=rv;obtain ⟨f,g,c,_⟩:=I.list g2;have c:=c.isList;refine ⟨by cases d <;> simp [eqD,flatD] at fd ⊢,?_⟩;cases d <;> simp only [valD,RelV] at ru <;> first | (simp [flatD] at fd;done) | skip
   ·subst ru;exact ⟨SeqAt.EqAt.none_list c hA,SeqAt.RcAt.none_list c hA,SeqAt.RcNeAt.none_list c hA⟩
   ·subst ru;exact ⟨SeqAt.EqAt.bool_list _ c hA,SeqAt.RcAt.bool_list _ c hA,SeqAt.RcNeAt.bool_list _ c hA⟩
   ·obtain ⟨t,rfl⟩:=ru;exact ⟨SeqAt.EqAt.int_list _ _ c hA,SeqAt.RcAt.int_list _ _ c hA,SeqAt.RcNeAt.int_list _ _ c hA⟩
   ·obtain ⟨t,rfl⟩:=ru;exact ⟨SeqAt.EqAt.str_list _ _ c hA,SeqAt.RcAt.str_list _ _ c hA,SeqAt.RcNeAt.str_list _ _ c hA⟩
 ·rcases JcM he with ⟨fe,rfl⟩ | ⟨es,b,ys,rfl,rfl,g2,g3⟩ | ⟨es,b,ys,rfl,rfl,g2,g3⟩
  ·obtain rfl:u=Value.ref a:=ru;obtain ⟨f,g,c,_⟩:=I.tuple h2;refine ⟨by cases e <;> simp [eqD,flatD] at fe ⊢,?_⟩;cases e <;> simp only [valD,RelV] at rv <;> first | (simp [flatD] at fe;done) | skip
   ·subst rv;exact ⟨SeqAt.EqAt.tuple_none c hA,SeqAt.RcAt.tuple_none c hA,SeqAt.RcNeAt.tuple_none c hA⟩
   ·subst rv;exact ⟨SeqAt.EqAt.tuple_bool _ c hA,SeqAt.RcAt.tuple_bool _ c hA,SeqAt.RcNeAt.tuple_bool _ c hA⟩
   ·obtain ⟨t,rfl⟩:=rv;exact ⟨SeqAt.EqAt.tuple_int _ _ c hA,SeqAt.RcAt.tuple_int _ _ c hA,SeqAt.RcNeAt.tuple_int _ _ c hA⟩
   ·obtain ⟨t,rfl⟩:=rv;exact ⟨SeqAt.EqAt.tuple_str _ _ c hA,SeqAt.RcAt.tuple_str _ _ c hA,SeqAt.RcNeAt.tuple_str _ _ c hA⟩
  ·simp [flatD] at m
  ·simp [flatD] at m
 ·rcases JcM he with ⟨fe,rfl⟩ | ⟨es,b,ys,rfl,rfl,g2,g3⟩ | ⟨es,b,ys,rfl,rfl,g2,g3⟩
  ·obtain rfl:u=Value.ref a:=ru;obtain ⟨f,g,c,_⟩:=I.list h2;have c:=c.isList;refine ⟨by cases e <;> simp [eqD,flatD] at fe ⊢,?_⟩;cases e <;> simp only [valD,RelV] at rv <;> first | (simp [flatD] at fe;done) | skip
   ·subst rv;exact ⟨SeqAt.EqAt.list_none c hA,SeqAt.RcAt.list_none c hA,SeqAt.RcNeAt.list_none c hA⟩
   ·subst rv;exact ⟨SeqAt.EqAt.list_bool _ c hA,SeqAt.RcAt.list_bool _ c hA,SeqAt.RcNeAt.list_bool _ c hA⟩
   ·obtain ⟨t,rfl⟩:=rv;exact ⟨SeqAt.EqAt.list_int _ _ c hA,SeqAt.RcAt.list_int _ _ c hA,SeqAt.RcNeAt.list_int _ _ c hA⟩
   ·obtain ⟨t,rfl⟩:=rv;exact ⟨SeqAt.EqAt.list_str _ _ c hA,SeqAt.RcAt.list_str _ _ c hA,SeqAt.RcNeAt.list_str _ _ c hA⟩
  ·simp [flatD] at m
  ·simp [flatD] at m
theorem seq_eq (I:Inv X pins σ H s) {n:Nat} (ih:EqP X H s n) {d e:D} {x y:V} {u v:Value} (hn:depD d<=n+1) (hd:Rep X.K H d x) (he:Rep X.K H e y) (ru:RelV x u) (rv:RelV y v) (fd:flatD d=false) (fe:flatD e=false) {A:Around} (hA:A.units+(n+1)<cLine) :
  SeqAt.EqAt A s u v (eqD d e)/\SeqAt.RcAt A s u v (eqD d e)/\SeqAt.RcNeAt A s u v (!eqD d e):=by
 have j:=hd;have k:=he;rcases JcM hd with ⟨f,_⟩ | ⟨ds,a,xs,rfl,rfl,h2,h3⟩ | ⟨ds,a,xs,rfl,rfl,h2,h3⟩
 ·rw [f] at fd;cases fd
 ·obtain rfl:u=Value.ref a:=ru;have g:depL ds<=n:=by simp only [depD] at hn;ac_nf
  rcases JcM he with ⟨f,_⟩ | ⟨es,b,ys,rfl,rfl,g2,g3⟩ | ⟨es,b,ys,rfl,rfl,g2,g3⟩
  ·rw [f] at fe;cases fe
  ·obtain rfl:v=Value.ref b:=rv;have R:=Jlt I ih h2 h3 g2 g3 g hA;refine ⟨?_,R.1,R.2⟩;by_cases c:a=b
   ·subst c;rw [I.rep_inj j k,JbP];exact SeqAt.EqAt.same _
   ·exact SeqAt.EqAt.of_refs c R.1
  ·obtain rfl:v=Value.ref b:=rv;obtain ⟨l,_,h,_⟩:=I.tuple h2;obtain ⟨m,_,i,_⟩:=I.list g2;exact ⟨SeqAt.EqAt.tuple_list h i.isList ∅,SeqAt.RcAt.tuple_list h i.isList ∅,SeqAt.RcNeAt.tuple_list h i.isList ∅⟩
 ·obtain rfl:u=Value.ref a:=ru;have g:depL ds<=n:=by simp only [depD] at hn;ac_nf
  rcases JcM he with ⟨f,_⟩ | ⟨es,b,ys,rfl,rfl,g2,g3⟩ | ⟨es,b,ys,rfl,rfl,g2,g3⟩
  ·rw [f] at fe;cases fe
  ·obtain rfl:v=Value.ref b:=rv;obtain ⟨l,_,h,_⟩:=I.list h2;obtain ⟨m,_,i,_⟩:=I.tuple g2;exact ⟨SeqAt.EqAt.list_tuple h.isList i ∅,SeqAt.RcAt.list_tuple h.isList i ∅,SeqAt.RcNeAt.list_tuple h.isList i ∅⟩
  ·obtain rfl:v=Value.ref b:=rv;have R:=JkV I ih h2 h3 g2 g3 g hA;refine ⟨?_,R.1,R.2⟩;by_cases c:a=b
   ·subst c;rw [I.rep_inj j k,JbP];exact SeqAt.EqAt.same _
   ·exact SeqAt.EqAt.of_refs c R.1
theorem Inv.eqP (I:Inv X pins σ H s):∀ n,EqP X H s n
 | 0=>fun d e A x y u v hn hd he ru rv hA=>by
  have fd:flatD d=true:=by
   cases d <;> simp [depD,flatD] at hn ⊢
  cases fe:flatD e with
  | true=>
   have ex:=Je0 fd hd;have ey:=Je0 fe he;subst ex ey;rw [<- JjS fd fe];exact Jjt ru rv (JgL fd) (JgL fe)
  | false=>
   obtain ⟨e1,e2,_⟩:=JcD I hd he ru rv (by rw [fd,fe];rfl) (A:=A) ∅;rw [e1];exact e2
 | n+1=>fun d e A x y u v hn hd he ru rv hA=>by
  cases fd:flatD d with
  | true=>
   have h0:depD d<=n:=by cases d <;> simp [depD,flatD] at fd ⊢
   exact Inv.eqP I n d e A x y u v h0 hd he ru rv ∅
  | false=>
   cases fe:flatD e with
   | true=>
    obtain ⟨e1,e2,_⟩:=JcD I hd he ru rv (by rw [fd,fe];rfl) (A:=A) ∅;rw [e1];exact e2
   | false=>exact (seq_eq I (Inv.eqP I n) hn hd he ru rv fd fe hA).1
def rEqU (K:W.Frag):R2:=fun x y H Q=>match x,y with
 | .int i, .int j=>Q (.bl (decide (i=j))) H
 | .str i, .str j=>Q (.bl (decide (i=j))) H
 | .bl i, .bl j=>Q (.bl (decide (i=j))) H
 | .non, .non=>Q (.bl true) H
 | x,y=>∃ d e,Rep K H d x/\Rep K H e y/\depD d<=50/\(flatD d&&flatD e)=false/\Q (.bl (eqD d e)) H
def rNeU (K:W.Frag):R2:=fun x y H Q=>match x,y with
 | .int i, .int j=>Q (.bl (!decide (i=j))) H
 | .str i, .str j=>Q (.bl (!decide (i=j))) H
 | .bl i, .bl j=>Q (.bl (!decide (i=j))) H
 | .non, .non=>Q (.bl false) H
 | x,y=>∃ d e,Rep K H d x/\Rep K H e y/\depD d<=50/\(flatD d&&flatD e)=false/\Q (.bl (!eqD d e)) H
theorem Jcn (hu:X.A.units+64<cLine):OpR X (compareOp .Eq) (rEqU X.K):=fun a s σ H x y v u Q I b c q=>by
 unfold rEqU at q;split at q
 ·rename_i i j;exact op_eq a s σ H _ _ v u Q I b c ⟨rfl,by rw [show decide (V.int i=V.int j)=decide (i=j) from by simp];exact q⟩
 ·rename_i i j;exact op_eq a s σ H _ _ v u Q I b c ⟨rfl,by rw [show decide (V.str i=V.str j)=decide (i=j) from by simp];exact q⟩
 ·rename_i i j;exact op_eq a s σ H _ _ v u Q I b c ⟨rfl,by rw [show decide (V.bl i=V.bl j)=decide (i=j) from by simp];exact q⟩
 ·exact op_eq a s σ H _ _ v u Q I b c ⟨rfl,by simpa using q⟩
 ·obtain ⟨d,e,h,k,m,l,q⟩:=q;show wpAny (model X.prog X.w) X.A (richCompare .Eq v u) (EP X a σ Q) X.xe s;cases fd:flatD d with
  | true=>
   cases fe:flatD e with
   | true=>rw [fd,fe] at l;cases l
   | false=>
    obtain ⟨f,_,g,_⟩:=JcD I h k b c (by rw [fd,fe];rfl) (A:=X.A) ∅;rw [f] at q;exact g _ _ _ _ ⟨V.bl _,H,I,rfl,q⟩
  | false=>
   cases fe:flatD e with
   | true=>
    obtain ⟨f,_,g,_⟩:=JcD I h k b c (by rw [fd,fe];rfl) (A:=X.A) ∅;rw [f] at q;exact g _ _ _ _ ⟨V.bl _,H,I,rfl,q⟩
   | false=>exact (seq_eq I (I.eqP 49) m h k b c fd fe ∅).2.1 _ _ _ _ ⟨V.bl _,H,I,rfl,q⟩
theorem Jb7 (hu:X.A.units+64<cLine):OpR X (compareOp .NotEq) (rNeU X.K):=fun a s σ H x y v u Q I b c q=>by
 unfold rNeU at q;split at q
 ·rename_i i j;exact op_ne a s σ H _ _ v u Q I b c ⟨rfl,by rw [show decide (V.int i=V.int j)=decide (i=j) from by simp];exact q⟩
 ·rename_i i j;exact op_ne a s σ H _ _ v u Q I b c ⟨rfl,by rw [show decide (V.str i=V.str j)=decide (i=j) from by simp];exact q⟩
 ·rename_i i j;exact op_ne a s σ H _ _ v u Q I b c ⟨rfl,by rw [show decide (V.bl i=V.bl j)=decide (i=j) from by simp];exact q⟩
 ·exact op_ne a s σ H _ _ v u Q I b c ⟨rfl,by simpa using q⟩
 ·obtain ⟨d,e,h,k,m,l,q⟩:=q;show wpAny (model X.prog X.w) X.A (richCompare .NotEq v u) (EP X a σ Q) X.xe s;cases fd:flatD d with
  | true=>
   cases fe:flatD e with
   | true=>rw [fd,fe] at l;cases l
   | false=>
    obtain ⟨f,_,_,g⟩:=JcD I h k b c (by rw [fd,fe];rfl) (A:=X.A) ∅;rw [f] at q;exact g _ _ _ _ ⟨V.bl _,H,I,rfl,q⟩
  | false=>
   cases fe:flatD e with
   | true=>
    obtain ⟨f,_,_,g⟩:=JcD I h k b c (by rw [fd,fe];rfl) (A:=X.A) ∅;rw [f] at q;exact g _ _ _ _ ⟨V.bl _,H,I,rfl,q⟩
   | false=>exact (seq_eq I (I.eqP 49) m h k b c fd fe ∅).2.2 _ _ _ _ ⟨V.bl _,H,I,rfl,q⟩
end
def DivOk (j:Int):Prop:=j≠0/\j.natAbs.log2<9000
section
variable {X:Cx}
def rAddU (K:W.Frag):R2:=fun x y H Q=>match x,y with
 | .int i, .int j=>Q (.int (i+j)) H
 | .str i, .str j=>i.length+j.length<=sizeLine/\Q (.str (i++j)) H
 | .ref a, .ref b=>rCat (.ref a) (.ref b) H Q\/rCatT K (.ref a) (.ref b) H Q
 | _,_=>False
theorem JaZ:OpR X (binaryOp .Add) (rAddU X.K):=fun a s σ H x y v u Q I b c q=>by
 unfold rAddU at q;split at q
 ·exact JkY a s σ H _ _ v u Q I b c ⟨_,_,rfl,rfl,q⟩
 ·exact Jhk a s σ H _ _ v u Q I b c ⟨_,_,rfl,rfl,q.1,q.2⟩
 ·rcases q with q | q
  ·exact JkZ a s σ H _ _ v u Q I b c q
  ·exact Jkb a s σ H _ _ v u Q I b c q
 ·exact q.elim
def rMulU:R2:=fun x y H Q=>match x,y with
 | .int i, .int j=>IntMulOk i j/\Q (.int (i*j)) H
 | _,_=>False
theorem Jkd:OpR X (binaryOp .Mult) (rI IntMulOk fun i j=>.int (i*j)):=opI fun _ _ _ _ _ _ _ a q=>mul_int q a
theorem Jke:OpR X (binaryOp .Mult) rMulU:=fun a s σ H x y v u Q I b c q=>by
 unfold rMulU at q;split at q
 ·exact Jkd a s σ H _ _ v u Q I b c ⟨_,_,rfl,rfl,q.1,q.2⟩
 ·exact q.elim
def Jiu:R2:=fun x y H Q=>match x,y with
 | .int i, .int j=>DivOk j/\Q (.int (i.fdiv j)) H
 | _,_=>False
theorem Ji2:OpR X (binaryOp .FloorDiv) (rI (fun _ j=>DivOk j) fun i j=>.int (i.fdiv j)):=opI fun _ _ _ _ _ _ _ a q=>floordiv_int a.1 q (.inl (PyProof.noPylong_of_log2 a.2))
theorem Jav:OpR X (binaryOp .FloorDiv) Jiu:=fun a s σ H x y v u Q I b c q=>by
 unfold Jiu at q;split at q
 ·exact Ji2 a s σ H _ _ v u Q I b c ⟨_,_,rfl,rfl,q.1,q.2⟩
 ·exact q.elim
def rModU:R2:=fun x y H Q=>match x,y with
 | .int i, .int j=>j≠0/\Q (.int (i.fmod j)) H
 | _,_=>False
theorem JaD:OpR X (binaryOp .Mod) rModU:=fun a s σ H x y v u Q I b c q=>by
 unfold rModU at q;split at q
 ·exact Jkc a s σ H _ _ v u Q I b c ⟨_,_,rfl,rfl,q.1,q.2⟩
 ·exact q.elim
def rPowU:R2:=fun x y H Q=>match x,y with
 | .int i, .int j=>CPow i j/\Q (.int (i ^ j.toNat)) H
 | _,_=>False
theorem Jin:OpR X (binaryOp .Pow) rPowU:=fun a s σ H x y v u Q I b c q=>by
 unfold rPowU at q;split at q
 ·exact Jk4 a s σ H _ _ v u Q I b c ⟨_,_,rfl,rfl,q.1,q.2⟩
 ·exact q.elim
def rCmpU (p:Int->Int->Bool):R2:=fun x y H Q=>match x,y with
 | .int i, .int j=>Q (.bl (p i j)) H
 | _,_=>False
theorem Jgi {op:CmpOp} {p:Int->Int->Bool} (h:OpR X (compareOp op) (rI0 fun i j=>.bl (p i j))):OpR X (compareOp op) (rCmpU p):=fun a s σ H x y v u Q I b c q=>by
 unfold rCmpU at q;split at q
 ·exact h a s σ H _ _ v u Q I b c ⟨_,_,rfl,rfl,q⟩
 ·exact q.elim
theorem Jfz:OpR X (compareOp .Lt) (rCmpU fun i j=>decide (i<j)):=Jgi op_lt
theorem JgW:OpR X (compareOp .Gt) (rCmpU fun i j=>decide (j<i)):=Jgi op_gt
theorem Jk1:OpR X (compareOp .GtE) (rCmpU fun i j=>decide (j<=i)):=Jgi op_ge
def SqA (K:W.Frag) (H:Hp) (a:Addr) (xs:List V):Prop:=SqL K H a xs\/SqT K H a xs
def rIxU (K:W.Frag):R2:=fun x y H Q=>match x,y with
 | .ref p, .int i=>∃ xs v,SqA K H p xs/\atI xs i=some v/\Q v H
 | .str z, .int i=>∃ c,z.length<=sizeLine/\atI z.cps.toList i=some c/\Q (.str ⟨#[c]⟩) H
 | _,_=>False
theorem ix_U:IxR X (rIxU X.K):=fun b a d s σ H x y v u Q I f g q i=>by
 unfold rIxU at q;split at q
 ·obtain ⟨l,w,h | h,e,q⟩:=q
  ·exact JjZ b a d s σ H _ _ v u Q I f g ⟨_,_,_,_,rfl,rfl,h,e,q⟩ i
  ·exact JkP b a d s σ H _ _ v u Q I f g ⟨_,_,_,_,rfl,rfl,h,e,q⟩ i
 ·obtain ⟨c,j,k,q⟩:=q;exact JkO b a d s σ H _ _ v u Q I f g ⟨_,_,_,rfl,rfl,j,k,q⟩ i
 ·exact q.elim
def rLen (K:W.Frag):List V->Hp->VK->Prop:=fun xs H Q=>match xs with
 | [.ref p]=>∃ ys,SqA K H p ys/\Q (.int ys.length) H
 | [.str z]=>z.length<=sizeLine/\Q (.int z.length) H
 | _=>False
theorem JaG:CallR X (.builtin "len") (rLen X.K):=fun a s σ H c b Q I r q=>by
 unfold rLen at q;split at q
 ·obtain ⟨d,h,q⟩:=q;exact Jff a s σ H _ b Q I r ⟨_,_,rfl,h,q⟩
 ·exact Jfg a s σ H _ b Q I r ⟨_,rfl,q.1,q.2⟩
 ·exact q.elim
def rAbs:List V->Hp->VK->Prop:=fun xs H Q=>match xs with
 | [.int i]=>Q (.int (if i<0 then -i else i)) H
 | _=>False
theorem JcT:CallR X (.builtin "abs") rAbs:=fun a s σ H c b Q I r q=>by
 unfold rAbs at q;split at q
 ·exact JiI a s σ H _ b Q I r ⟨_,rfl,q⟩
 ·exact q.elim
def rMin:List V->Hp->VK->Prop:=fun xs H Q=>match xs with
 | [.int i, .int j]=>Q (.int (if j<i then j else i)) H
 | _=>False
def rSlU (K:W.Frag):V->Option Int->Option Int->Hp->VK->Prop:=fun x lo hi H Q=>rSlL K x lo hi H Q\/rSlT K x lo hi H Q
theorem sl_U:SlR X (rSlU X.K):=SlR.or Jks Jli
def isiB (t T:String):Bool:=t == T||(t == "bool"&&T == "int")
def tyN (K:W.Frag) (H:Hp) (x:V) (t:String):Prop:=match x with
 | .int _=>t="int"
 | .str _=>t="str"
 | .bl _=>t="bool"
 | .non=>t="NoneType"
 | .ref a=>(t="list"/\∃ xs,SqL K H a xs)\/(t="tuple"/\∃ xs,SqT K H a xs)
 | _=>False
theorem kit_b (K:W.Frag) {t T:String} (ht:t∈["int","str","bool","NoneType","list","tuple"]) (hT:T∈["int","str","bool","list","tuple"]):W.kitOne K (.type t) (.type T)=some (isiB t T):=by
 simp only [mem_cons,not_mem_nil,or_false] at ht hT;rcases ht with rfl | rfl | rfl | rfl | rfl | rfl <;> rcases hT with rfl | rfl | rfl | rfl | rfl <;> with_unfolding_all rfl
def rIsi (K:W.Frag):List V->Hp->VK->Prop:=fun xs H Q=>match xs with
 | [x, .ty T]=>T∈["int","str","bool","list","tuple"]/\∃ t,tyN K H x t/\Q (.bl (isiB t T)) H
 | _=>False
theorem Jay:CallR X (.builtin "isinstance") (rIsi X.K):=fun f s σ H n v Q I r q=>by
 unfold rIsi at q;split at q
 ·rename_i x T;obtain ⟨e,t,d,q⟩:=q;obtain ⟨u,c,rfl,g,m⟩:=vals2 r;obtain rfl:c=Value.type T:=m;have b:∀ k,EP X f σ Q (.bool (isiB t T)) { s with toks:=k }:=fun k=>⟨V.bl _,H,I.tok k,rfl,q⟩;unfold tyN at d;split at d
  ·subst d;obtain ⟨_,rfl⟩:=g;exact W.kia_one W.kitx_int I.kIn True.intro (kit_b _ ⋯ e) (fun z=>nomatch z) b
  ·subst d;obtain ⟨_,rfl⟩:=g;exact W.kia_one W.kitx_str I.kIn True.intro (kit_b _ ⋯ e) (fun z=>nomatch z) b
  ·subst d;cases (show u=Value.bool _ from g);exact W.kia_one W.kitx_bool I.kIn True.intro (kit_b _ ⋯ e) (fun z=>nomatch z) b
  ·subst d;cases (show u=Value.none from g);exact W.kia_one W.kitx_none I.kIn True.intro (kit_b _ ⋯ e) (fun z=>nomatch z) b
  ·rename_i a;cases (show u=Value.ref a from g);rcases d with ⟨rfl,ys,h⟩ | ⟨rfl,ys,h⟩
   ·obtain ⟨i,_,p,_⟩:=I.list h;obtain ⟨o,_,j,l,_⟩:=p;exact W.kia_one W.kitx_list I.kIn ⟨o,j,l⟩ (kit_b _ ⋯ e) (fun z=>nomatch z) b
   ·obtain ⟨i,_,p,_⟩:=I.tuple h;obtain ⟨o,j,l,_⟩:=p;exact W.kia_one W.kitx_tuple I.kIn ⟨o,j,l⟩ (kit_b _ ⋯ e) (fun z=>nomatch z) b
  ·exact d.elim
 ·exact q.elim
end
section
variable {X:Cx} {tg:Expr}
def iAny (K:W.Frag) (tl:TE):TI:=fun σ H R=>tl σ H fun x H1=>∃ a,x=.ref a/\(((∃ xs,SqL K H1 a xs)/\R (Itl K a) H1)\/((∃ xs,SqT K H1 a xs)/\R (Itt K a) H1))
theorem pi_U {l:Expr} {tl:TE} (hl:PE X l tl):PI X tg l (iAny X.K tl):=fun f s σ H R I h=>by
 refine thn (hl f s σ H _ I h) fun v c ζ=>?_;obtain ⟨x,i,I1,m,a,k,q⟩:=ζ;subst k;cases m;rcases q with ⟨⟨xs,hq⟩,q⟩ | ⟨⟨xs,hq⟩,q⟩
 ·obtain ⟨d,n,p,j⟩:=I1.list hq;refine wpAny_pyIter_list p.isList ?_;refine ⟨c.heap.objs.size,[c.heap.objs.size],_,_,i,rfl,I1.kept (t':=c.toks) fun b o e=>Heap.get?_push_of_some _ e,JiD a _,⟨_,Heap.get?_push_size _ rfl,rfl,rfl⟩,fun b g=>?_,q⟩;have e:b=c.heap.objs.size:=by simpa using g
  subst e;exact I1.fpOk (Nat.le_refl _) (I1.hok.fresh (Nat.le_refl _))
 ·obtain ⟨d,n,p,j⟩:=I1.tuple hq;refine wpAny_pyIter_tuple (show c.heap.IsTuple a d.toArray from p) ?_;refine ⟨c.heap.objs.size,[c.heap.objs.size],_,_,i,rfl,I1.kept (t':=c.toks) fun b o e=>Heap.get?_push_of_some _ e,Jhr a _,⟨_,Heap.get?_push_size _ rfl,rfl,rfl⟩,fun b g=>?_,q⟩;have e:b=c.heap.objs.size:=by simpa using g
  subst e;exact I1.fpOk (Nat.le_refl _) (I1.hok.fresh (Nat.le_refl _))
end
structure FunD (K:W.Frag) (x qual:Str) (st:Stmt) (dV:Value) (f:Addr) (fd:FuncData):Prop where
 ex:∃ (oc:Value) (od:Option Addr) (kV doc pm:Value) (an:Option Addr) (cdv ct:Value) (osl:Array (Option Value)),
  fd=W.fnOf x qual (Jal st) (Jak st) (Jad st) dV kV doc pm an cdv ct/\K.lookup f=some ⟨oc,od, .func fd,osl⟩/\W.codeIn K cdv qual=true
 kp:W.keepIn K (.ref f)=true
section
variable {P:Program} {w:World} {K:W.Frag} {mg:Str->Option Value} {base:Heap}
theorem FunD.okn {x qual:Str} {st:Stmt} {dV:Value} {f:Addr} {fd:FuncData} {N ps:List Str} {k:Nat} {sp:Sp} (F:FunD K x qual st dV f fd) (S:Jan N ps (Jad st)) (len:∀ vs H Q E,sp vs H Q E->vs.length=ps.length)
  (hbody:∀ (cdv:Value) (A:Around) (outer:List Env) (s:Shared) (H:Hp) (vs:List V) (Q:VK) (E:XK),Room k (A.deeper (envOfC qual (Jad st) s.heap.objs.size f cdv))->sp vs H Q E ->
   ∃ t,PSs (cxOf (CX1 P w) P w K mg base N qual (Jad st) f cdv A outer s H E).nox (Jak st) t/\t { nx:=fun _ H'=>Q .non H',rt:=Q } (start N vs) H):FnOk P w K mg base (CX1 P w) (k+1) f fd ps sp:=by
 obtain ⟨g,l,kV,d,i,m,cdv,j,e,rfl,lk,b⟩:=F.ex;refine fn_of lk b S len fun A outer s H vs Q E c a=>?_;obtain ⟨t,h,q⟩:=hbody cdv A outer s H vs Q E c a;exact ⟨t,h.nox,q⟩
theorem FunD.okx {x qual:Str} {st:Stmt} {dV:Value} {f:Addr} {fd:FuncData} {N ps:List Str} {k:Nat} {sp:Sp} (F:FunD K x qual st dV f fd) (S:Jan N ps (Jad st)) (len:∀ vs H Q E,sp vs H Q E->vs.length=ps.length)
  (hbody:∀ (cdv:Value) (A:Around) (outer:List Env) (s:Shared) (H:Hp) (vs:List V) (Q:VK) (E:XK),Room k (A.deeper (envOfC qual (Jad st) s.heap.objs.size f cdv))->sp vs H Q E ->
   ∃ t,PSs (cxOf (CX1 P w) P w K mg base N qual (Jad st) f cdv A outer s H E) (Jak st) t/\t { nx:=fun _ H'=>Q .non H',rt:=Q } (start N vs) H):FnOk P w K mg base (CX1 P w) (k+1) f fd ps sp:=by
 obtain ⟨l,g,kV,c,h,j,cdv,i,d,rfl,lk,a⟩:=F.ex;exact fn_of lk a S len fun A outer s H vs Q E e b=>hbody cdv A outer s H vs Q E e b
theorem FunD.binds {x qual:Str} {st:Stmt} {dV:Value} {f:Addr} {fd:FuncData} {ps:List Str} (F:FunD K x qual st dV f fd)
  (h:∀ (kV doc pm:Value) (an:Option Addr) (cdv ct:Value) (us:List Value),us.length=ps.length->bindArgs (W.fnOf x qual (Jal st) (Jak st) (Jad st) dV kV doc pm an cdv ct) ⟨us,[]⟩=pure (ps.zip us)):Binds K fd ps []:=by
 obtain ⟨d,c,kV,doc,pm,an,cdv,ct,a,rfl,lk,b⟩:=F.ex;exact .all (h kV doc pm an cdv ct)
theorem FunD.bindsD {x qual:Str} {st:Stmt} {T:Addr} {f:Addr} {fd:FuncData} {ps:List Str} {o:Obj} {items:Array Value} {n:Nat} (F:FunD K x qual st (.ref T) f fd) (hT:K.lookup T=some o) (hs:o.data=.seq items n) (ds:List Value)
  (h:∀ (kV doc pm:Value) (an:Option Addr) (cdv ct:Value) (us:List Value),(us++ds).length=ps.length->∃ k,bindArgs (W.fnOf x qual (Jal st) (Jak st) (Jad st) (.ref T) kV doc pm an cdv ct) ⟨us,[]⟩=seqItems? (.ref T) >>= k/\k (some items)=pure (ps.zip (us++ds))):Binds K fd ps ds:=by
 obtain ⟨i,g,kV,doc,pm,an,cdv,ct,c,rfl,lk,a⟩:=F.ex;intro s us X d;obtain ⟨k,e,b⟩:=h kV doc pm an cdv ct us d;exact BindsTo.of_defaults (T:=T) rfl (X _ _ hT) hs e b
theorem Jao {x qual:Str} {st:Stmt} {dV:Value} {f:Addr} {oc:Value} {od an:Option Addr} {osl:Array (Option Value)} {kV doc pm cdv ct:Value} (l:K.lookup f=some ⟨oc,od, .func (W.fnOf x qual (Jal st) (Jak st) (Jad st) dV kV doc pm an cdv ct),osl⟩)
  (c:W.codeIn K cdv qual=true) (k:W.keepIn K (.ref f)=true):FunD K x qual st dV f (W.fnOf x qual (Jal st) (Jak st) (Jad st) dV kV doc pm an cdv ct):=⟨⟨oc,od,kV,doc,pm,an,cdv,ct,osl,rfl,l,c⟩,k⟩
end
structure Cal (P:Program) (w:World) (K:W.Frag) (mg:Str->Option Value) (base:Heap) (k:Nat) (x:Str) (ps:List Str) (dvs:List V) (sp:Sp):Prop where
 ex:∃ (f:Addr) (fd:FuncData) (ds:List Value),FnOk P w K mg base (CX1 P w) k f fd ps sp/\mg x=some (.ref f)/\W.keepIn K (.ref f)=true/\Binds K fd ps ds/\Vals dvs ds
section
variable {X:Cx} {k k':Nat} {x:Str} {ps:List Str} {dvs:List V} {sp:Sp} {E:XK} {p pos:Pos} {e:Expr} {es:List Expr} {t:TA}
theorem Cal.ev (G:Cal X.prog X.w X.K X.mg X.base k x ps dvs sp) (hr:Room k' X.A) (hk:k<=k') (hg:Gl X x) (hx:Jb3 (CX1 X.prog X.w) X E) (ha:PA X (e::es) t)
  (hdb:(x == ("__debug__" : Str))=false:=by decide) (he:starEach (e::es) X.env=(false,eval e X.env)::starEach es X.env:=by rfl) (hpl:(backTo pos (starEach es X.env)).any (·.1)=false:=by rfl) :
  PE X (.Call (.Name x p) (e::es) [] pos) (tCall sp dvs E t):=by
 obtain ⟨f,g,h,F,d,b,c,a⟩:=G.ex;exact Jkh F (hr.mono hk) hg d b c a hx ha hdb he hpl
theorem Cal.ev0 (G:Cal X.prog X.w X.K X.mg X.base k x ps dvs sp) (hr:Room k' X.A) (hk:k<=k') (hg:Gl X x) (hx:Jb3 (CX1 X.prog X.w) X E) (hdb:(x == ("__debug__" : Str))=false:=by decide) :
  PE X (.Call (.Name x p) [] [] pos) (tCall sp dvs E tNil):=by
 obtain ⟨f,e,g,F,d,b,c,a⟩:=G.ex;exact Ji3 F (hr.mono hk) hg d b c a hx hdb
end
end L2
namespace Mth
def g (a b:Int):Int:=(Int.gcd a b:Nat)
theorem Jjv (a:Int):g a 0=(a.natAbs:Int):=by unfold g;rw [Int.gcd_zero_right]
theorem g_pos {a b:Int} (h:b≠0):0<g a b:=by
 unfold g;exact Int.natCast_pos.mpr (Int.gcd_pos_of_ne_zero_right a h)
theorem JdL (a b:Int):g a b∣a:=Int.gcd_dvd_left ..
theorem JcU (a b:Int):g a b∣b:=Int.gcd_dvd_right ..
theorem JkK (a b:Int):g b (a % b)=g a b:=by
 unfold g;rw [Int.gcd_comm b (a % b)];first
  | rw [Int.gcd_emod_left]
  | (rw [Int.emod_def];simp [Int.gcd_comm])
theorem Bck (a b:Int):g (if a<0 then -a else a) (if b<0 then -b else b)=g a b:=by
 unfold g;split <;> split <;> simp [Int.neg_gcd,Int.gcd_neg]
theorem Jgz (a:Int):0<=(if a<0 then -a else a):=by split <;> ac_nf
theorem g_le {a b:Int} (h:b≠0):g a b<=(b.natAbs:Int):=by
 unfold g;exact Int.ofNat_le.mpr (Nat.le_of_dvd ∅ (Int.natAbs_dvd_natAbs.mpr (by simpa using Int.gcd_dvd_right (a:=a) (b:=b)) |> fun z=>by simpa using z))
theorem fm {x y:Int} (h:0<y):0<=x.fmod y/\x.fmod y<y:=by
 rw [Int.fmod_eq_emod_of_nonneg _ ∅];exact ⟨Int.emod_nonneg _ ∅,Int.emod_lt_of_pos _ h⟩
theorem JhV {x y:Int} (h:0<y):g y (x.fmod y)=g x y:=by
 rw [Int.fmod_eq_emod_of_nonneg _ ∅];exact JkK x y
def by_ (t b:Int):Int:=if b<0 then -(g t b) else g t b
def top (t b:Int):Int:=t.fdiv (by_ t b)
def bot (t b:Int):Int:=b.fdiv (by_ t b)
theorem by_ne {t b:Int} (h:b≠0):by_ t b≠0:=by
 have:=g_pos (a:=t) h;unfold by_;split <;> ac_nf
theorem JjM (t b:Int):by_ t b∣t:=by
 unfold by_;split
 ·exact Int.neg_dvd.mpr (JdL t b)
 ·exact JdL t b
theorem JjN (t b:Int):by_ t b∣b:=by
 unfold by_;split
 ·exact Int.neg_dvd.mpr (JcU t b)
 ·exact JcU t b
theorem Jbe {a d:Int} (h:d∣a) (hd:d≠0):a.fdiv d*d=a:=by
 obtain ⟨k,rfl⟩:=h;rw [Int.mul_comm d k,Int.mul_fdiv_cancel _ hd]
theorem Jgy {t b:Int} (h:b≠0):top t b*by_ t b=t:=Jbe (JjM t b) (by_ne h)
theorem JeD {t b:Int} (h:b≠0):bot t b*by_ t b=b:=Jbe (JjN t b) (by_ne h)
theorem Jbk {t b:Int} (h:b≠0):1<=bot t b:=by
 have c:=JeD (t:=t) h;have d:=g_pos (a:=t) h;by_cases f:b<0
 ·have e:by_ t b = -(g t b):=by unfold by_;rw [if_pos f]
  rw [e] at c;have i:bot t b*g t b = -b:=by rw [Int.mul_neg] at c;ac_nf
  rcases Int.lt_trichotomy (bot t b) 0 with z | z | z
  ·have:=Int.mul_neg_of_neg_of_pos z d;ac_nf
  ·rw [z] at i;ac_nf
  ·ac_nf
 ·have e:by_ t b=g t b:=by unfold by_;rw [if_neg f]
  rw [e] at c;rcases Int.lt_trichotomy (bot t b) 0 with z | z | z
  ·have:=Int.mul_neg_of_neg_of_pos z d;ac_nf
  ·rw [z] at c;ac_nf
  ·ac_nf
theorem cross {t b:Int} (h:b≠0):top t b*b=t*bot t b:=by
 have c:=Jgy (t:=t) h;have a:=JeD (t:=t) h
 calc top t b*b=top t b*(bot t b*by_ t b):=by rw [a]
  _=(top t b*by_ t b)*bot t b:=by rw [Int.mul_comm (bot t b),Int.mul_assoc]
  _=t*bot t b:=by rw [c]
theorem Jie (t b:Int):(by_ t b).natAbs=Int.gcd t b:=by
 unfold by_ g;split <;> simp
theorem g_low {t b:Int} (h:b≠0):g (top t b) (bot t b)=1:=by
 have a:0<Int.gcd t b:=Int.gcd_pos_of_ne_zero_right t h;have e:Int.gcd (top t b*by_ t b) (bot t b*by_ t b)=Int.gcd (top t b) (bot t b)*(by_ t b).natAbs:=Int.gcd_mul_right ..;rw [Jgy h,JeD h,Jie] at e;have : Int.gcd (top t b) (bot t b)=1:=by
  rcases Nat.lt_trichotomy (Int.gcd (top t b) (bot t b)) 1 with z | z | z
  ·have : Int.gcd (top t b) (bot t b)=0:=by ac_nf
   rw [this] at e;ac_nf
  ·exact z
  ·have:=Nat.mul_le_mul_right (Int.gcd t b) z;ac_nf
 unfold g;rw [this];rfl
theorem Jes {a b d:Int} (g1:Int.gcd a b=1) (h:b∣a*d):b∣d:=by
 have e:b.natAbs∣a.natAbs*d.natAbs:=by rw [<- Int.natAbs_mul];exact Int.natAbs_dvd_natAbs.mpr h
 have c:Nat.Coprime b.natAbs a.natAbs:=by
  unfold Nat.Coprime;rw [Nat.gcd_comm];exact g1
 exact Int.natAbs_dvd_natAbs.mp (c.dvd_of_dvd_mul_left e)
theorem Jc9 {a b c d:Int} (hb:1<=b) (hd:1<=d) (h1:g a b=1) (h2:g c d=1) (e:a*d=c*b):a=c/\b=d:=by
 have k:Int.gcd a b=1:=by unfold g at h1;ac_nf
 have h:Int.gcd c d=1:=by unfold g at h2;ac_nf
 have j:b∣d:=by
  have : b∣a*d:=⟨c,by rw [e,Int.mul_comm]⟩;exact Jes k this
 have f:d∣b:=by
  have : d∣c*b:=⟨a,by rw [<- e,Int.mul_comm]⟩;exact Jes h this
 have i:b=d:=Int.dvd_antisymm ∅ ∅ j f;subst i;refine ⟨?_,rfl⟩;exact Int.eq_of_mul_eq_mul_right ∅ e
theorem Jls {t b:Int} (h:b≠0):(top t b).natAbs<=t.natAbs:=by
 have c:=Jgy (t:=t) h;have d:(by_ t b).natAbs≠0:=by have:=by_ne (t:=t) h;ac_nf
 have a:=congrArg Int.natAbs c;rw [Int.natAbs_mul] at a;rw [<- a];exact Nat.le_mul_of_pos_right _ ∅
theorem bot_le {t b:Int} (h:b≠0):(bot t b).natAbs<=b.natAbs:=by
 have c:=JeD (t:=t) h;have d:(by_ t b).natAbs≠0:=by have:=by_ne (t:=t) h;ac_nf
 have a:=congrArg Int.natAbs c;rw [Int.natAbs_mul] at a
 calc (bot t b).natAbs<=(bot t b).natAbs*(by_ t b).natAbs:=Nat.le_mul_of_pos_right _ ∅
  _=b.natAbs:=a
theorem Jj6 {n k:Nat} (h:n<2 ^ k) (hk:k<9000):n.log2<9000:=by
 by_cases z:n=0
 ·rw [z];decide
 ·exact Nat.lt_trans ((Nat.log2_lt z).mpr h) hk
def Sz (n:Nat) (i:Int):Prop:=i.natAbs<2 ^ n
theorem Sz.mono {m n:Nat} {i:Int} (h:Sz m i) (k:m<=n):Sz n i:=Nat.lt_of_lt_of_le h (Nat.pow_le_pow_right ⋯ k)
theorem Sz.mul {m n:Nat} {i j:Int} (h:Sz m i) (k:Sz n j):Sz (m+n) (i*j):=by
 unfold Sz at *;rw [Int.natAbs_mul,Nat.pow_add];exact Nat.mul_lt_mul'' h k
theorem Sz.add {n:Nat} {i j:Int} (h:Sz n i) (k:Sz n j):Sz (n+1) (i+j):=by
 unfold Sz at *;have:=Int.natAbs_add_le i j;rw [Nat.pow_succ];ac_nf
theorem Sz.neg {n:Nat} {i:Int} (h:Sz n i):Sz n (-i):=by
 unfold Sz at *;rw [Int.natAbs_neg];exact h
theorem Sz.top {n:Nat} {t b:Int} (hb:b≠0) (h:Sz n t):Sz n (Mth.top t b):=Nat.lt_of_le_of_lt (Jls hb) h
theorem Sz.bot {n:Nat} {t b:Int} (hb:b≠0) (h:Sz n b):Sz n (Mth.bot t b):=Nat.lt_of_le_of_lt (bot_le hb) h
theorem Sz.lit {n:Nat} {i:Int} (h1 : -(2 ^ n)<i) (h2:i<2 ^ n):Sz n i:=by
 unfold Sz;have e:((2 ^ n:Nat):Int)=2 ^ n:=by simp
 ac_nf
end Mth
namespace Mth
theorem JgN {a b:Int} (h:g a b=1):Int.gcd a b=1:=by unfold g at h;ac_nf
theorem JiN {a b:Int} (h:Int.gcd a b=1):g a b=1:=by unfold g;rw [h];rfl
theorem JeF {t x y:Int} (h1:Int.gcd t x=1) (h2:Int.gcd t y=1):Int.gcd t (x*y)=1:=by
 unfold Int.gcd at *;rw [Int.natAbs_mul];exact Nat.Coprime.mul_right h1 h2
theorem Jeq {x y:Int} (h:∀ k:Int,k∣x->k∣y->k∣1):Int.gcd x y=1:=by
 have:=h (Int.gcd x y:Nat) (Int.gcd_dvd_left ..) (Int.gcd_dvd_right ..);have z:=Int.natAbs_dvd_natAbs.mpr this;simp at z;exact z
theorem Jet {k x y:Int} (h:Int.gcd x y=1) (h1:k∣x) (h2:k∣y):k∣1:=by
 have z:=Int.dvd_coe_gcd h1 h2;rw [h] at z;exact z
theorem JeG {t u x:Int} (h:Int.gcd t x=1) (d:u∣t):Int.gcd u x=1:=Jeq fun k b a=>Jet h (Int.dvd_trans b d) a
theorem Jb9 {x y:Int} (h:Int.gcd x y=1):Int.gcd y x=1:=by rw [Int.gcd_comm];exact h
theorem JhB {a b c d:Int} (h1:Int.gcd a b=1) (h2:Int.gcd d b=1):Int.gcd (a*d+c*b) b=1:=by
 have : Int.gcd b (a*d)=1:=JeF (Jb9 h1) (Jb9 h2);refine Jeq fun k g f=>Jet this f ?_;have : k∣(a*d+c*b)-c*b:=Int.dvd_sub g (Int.dvd_mul_of_dvd_right f);have e:(a*d+c*b)-c*b=a*d:=by ac_nf
 rwa [e] at this
theorem Jdv {a d:Int} (h:d∣a) (hd:1<=d) (ha:1<=a):1<=a.fdiv d:=by
 have e:=Jbe h ∅;rcases Int.lt_trichotomy (a.fdiv d) 0 with z | z | z
 ·have:=Int.mul_neg_of_neg_of_pos z (show 0<d by ac_nf);ac_nf
 ·rw [z] at e;ac_nf
 ·ac_nf
theorem JgG {b d s:Int} (hs:s=g b d) (p:1<=s):Int.gcd (b.fdiv s) (d.fdiv s)=1:=by
 have f:b.fdiv s*s=b:=Jbe (by rw [hs];exact JdL ..) ∅;have c:d.fdiv s*s=d:=Jbe (by rw [hs];exact JcU ..) ∅;have e:Int.gcd (b.fdiv s*s) (d.fdiv s*s)=Int.gcd (b.fdiv s) (d.fdiv s)*s.natAbs:=Int.gcd_mul_right ..;rw [f,c] at e;have a:Int.gcd b d=s.natAbs:=by rw [hs];unfold g;simp
 rw [a] at e;rcases Nat.lt_trichotomy (Int.gcd (b.fdiv s) (d.fdiv s)) 1 with z | z | z
 ·have : Int.gcd (b.fdiv s) (d.fdiv s)=0:=by ac_nf
  rw [this] at e;ac_nf
 ·exact z
 ·have:=Nat.mul_le_mul_right s.natAbs z;ac_nf
theorem Jkm {a b c d:Int} (hb:1<=b) (hd:1<=d) (h1:g a b=1) (h2:g c d=1) {s t r:Int} (hs:s=g b d) (ht:t=a*d.fdiv s+c*b.fdiv s) (hr:r=g t s) :
  t.fdiv r=top (a*d+c*b) (b*d)/\b.fdiv s*d.fdiv r=bot (a*d+c*b) (b*d):=by
 have n:1<=s:=by rw [hs];have:=g_pos (a:=b) (b:=d) ∅;ac_nf
 have z:1<=r:=by rw [hr];have:=g_pos (a:=t) (b:=s) ∅;ac_nf
 have y:s∣b:=by rw [hs];exact JdL ..
 have u:s∣d:=by rw [hs];exact JcU ..
 have K:r∣t:=by rw [hr];exact JdL ..
 have w:r∣s:=by rw [hr];exact JcU ..
 have B:r∣d:=Int.dvd_trans w u;have l:=Jbe y ∅;have m:=Jbe u ∅;have A:=Jbe K ∅;have x:=Jbe B ∅;have L:=Jbe w ∅;have N:=Jdv y n hb;have M:=Jdv u n hd;have C:=Jdv B z hd;have f:=JgG hs n;have o:Int.gcd (t.fdiv r) (s.fdiv r)=1:=JgG hr z;have p:d.fdiv r=d.fdiv s*s.fdiv r:=by
  refine Int.eq_of_mul_eq_mul_right (a:=r) ∅ ?_;rw [x,Int.mul_assoc,L,m]
 have D:Int.gcd a (b.fdiv s)=1:=Jb9 (JeG (Jb9 (JgN h1)) ⟨s,l.symm⟩);have G:Int.gcd c (d.fdiv s)=1:=Jb9 (JeG (Jb9 (JgN h2)) ⟨s,m.symm⟩);have F:Int.gcd t (b.fdiv s)=1:=by rw [ht];exact JhB D (Jb9 f)
 have I:Int.gcd t (d.fdiv s)=1:=by rw [ht,Int.add_comm];exact JhB G f
 have q:g (t.fdiv r) (b.fdiv s*d.fdiv r)=1:=JiN (by
  rw [p];have k:t.fdiv r∣t:=⟨r,A.symm⟩;exact JeF (JeG F k) (JeF (JeG I k) o))
 have e:b*d≠0:=Int.mul_ne_zero ∅ ∅;have i:=g_low (t:=a*d+c*b) e;have h:=Jbk (t:=a*d+c*b) e;have j:=cross (t:=a*d+c*b) e;have v:1<=b.fdiv s*d.fdiv r:=by
  have:=Int.mul_pos (show 0<b.fdiv s by ac_nf) (show 0<d.fdiv r by ac_nf);ac_nf
 have J:t*s=a*d+c*b:=by
  rw [ht,Int.add_mul,Int.mul_assoc,Int.mul_assoc,m,l]
 have H:t.fdiv r*(b*d)=(a*d+c*b)*(b.fdiv s*d.fdiv r):=by
  have E:(t.fdiv r*(b*d))*r=((a*d+c*b)*(b.fdiv s*d.fdiv r))*r:=by
   calc (t.fdiv r*(b*d))*r=(t.fdiv r*r)*(b*d):=by ac_rfl
    _=t*((b.fdiv s*s)*d):=by rw [A,l]
    _=(t*s)*(b.fdiv s*d):=by ac_rfl
    _=(a*d+c*b)*(b.fdiv s*(d.fdiv r*r)):=by rw [J,x]
    _=((a*d+c*b)*(b.fdiv s*d.fdiv r))*r:=by ac_rfl
  exact Int.eq_of_mul_eq_mul_right ∅ E
 refine Jc9 v h q i ?_;refine Int.eq_of_mul_eq_mul_right (a:=b*d) e ?_
 calc (t.fdiv r*bot (a*d+c*b) (b*d))*(b*d)=(t.fdiv r*(b*d))*bot (a*d+c*b) (b*d):=by ac_rfl
  _=((a*d+c*b)*bot (a*d+c*b) (b*d))*(b.fdiv s*d.fdiv r):=by rw [H];ac_rfl
  _=(top (a*d+c*b) (b*d)*(b*d))*(b.fdiv s*d.fdiv r):=by rw [j]
  _=(top (a*d+c*b) (b*d)*(b.fdiv s*d.fdiv r))*(b*d):=by ac_rfl
theorem JjV {a d:Int} (h:d∣a) (hd:1<=d):(a.fdiv d).natAbs<=a.natAbs:=by
 have e:=congrArg Int.natAbs (Jbe h (show d≠0 by ac_nf));rw [Int.natAbs_mul] at e
 calc (a.fdiv d).natAbs<=(a.fdiv d).natAbs*d.natAbs:=Nat.le_mul_of_pos_right _ ∅
  _=a.natAbs:=e
theorem Sz.fdiv {n:Nat} {a d:Int} (h:Sz n a) (k:d∣a) (hd:1<=d):Sz n (a.fdiv d):=Nat.lt_of_le_of_lt (JjV k hd) h
theorem g_neg {a b:Int}:g (-a) b=g a b:=by unfold g;simp [Int.neg_gcd]
end Mth
namespace Mth
end Mth
namespace L2
open PySem PySem.Spec PyProof.Rows
section
variable {D:Ends} {σ : St} {H:Hp} {Q:VK} {t u:TS} {ta tb te:TE} {g:TG} {tA:TA} {r:R2} {E:XK} {sp:Sp} {K:W.Frag}
theorem y85y:tSeq t u D σ H=t { D with nx:=u D } σ H:=rfl
theorem y74y:tNext D σ H=D.nx σ H:=rfl
theorem y2by:tAsg te g D σ H=te σ H fun x H1=>g x σ H1 D.nx:=rfl
theorem y6fy {i:Nat} {v:V} {R:St->Hp->Prop}:gName i v σ H R=R (σ.set i (some v)) H:=rfl
theorem y82y:tRet te D σ H=te σ H D.rt:=rfl
theorem y83y:tRetN D σ H=D.rt .non H:=rfl
theorem y47y:tDrop te D σ H=te σ H fun _ H1=>D.nx σ H1:=rfl
theorem y2ey {v:V}:tC v σ H Q=Q v H:=rfl
theorem y7by:tOp r ta tb σ H Q=ta σ H fun x H1=>tb σ H1 fun y H2=>r x y H2 Q:=rfl
theorem y95y {f:V->Hp->VK->Prop}:tUn f ta σ H Q=ta σ H fun x H1=>f x H1 Q:=rfl
theorem y30y {f:List V->Hp->VK->Prop}:tCB f tA σ H Q=tA σ H fun vs H1=>f vs H1 Q:=rfl
theorem y3cy {R:List V->Hp->Prop}:tCons ta tA σ H R=ta σ H fun x H1=>tA σ H1 fun xs H2=>R (x::xs) H2:=rfl
theorem y75y {R:List V->Hp->Prop}:tNil σ H R=R [] H:=rfl
theorem y2fy {dvs:List V}:tCall sp dvs E tA σ H Q=tA σ H fun vs H1=>sp (vs++dvs) H1 Q E:=rfl
theorem y8by {R:Bool->Hp->Prop}:tTest te σ H R=te σ H fun x H'=>∃ k,x=.bl k/\R k H':=rfl
theorem y23y {R:Bool->Hp->Prop}:tB te σ H R=te σ H fun x H'=>∃ k,x=.bl k/\R k H':=rfl
theorem y29y {a b:TT} {R:Bool->Hp->Prop}:tAnd a b σ H R=a σ H fun c H1=>if c=true then b σ H1 R else R false H1:=rfl
theorem y7cy {a b:TT} {R:Bool->Hp->Prop}:tOr a b σ H R=a σ H fun c H1=>if c=true then R true H1 else b σ H1 R:=rfl
theorem y77y {a:TT} {R:Bool->Hp->Prop}:tNot a σ H R=a σ H fun c H1=>R (!c) H1:=rfl
theorem y2ay:tAndV ta tb σ H Q=ta σ H fun x H1=>∃ c,x=.bl c/\if c=true then tb σ H1 Q else Q (.bl false) H1:=rfl
theorem y7dy:tOrV ta tb σ H Q=ta σ H fun x H1=>∃ c,x=.bl c/\if c=true then Q (.bl true) H1 else tb σ H1 Q:=rfl
theorem y79y:tNotV ta σ H Q=ta σ H fun x H1=>∃ c,x=.bl c/\Q (.bl (!c)) H1:=rfl
theorem y5dy {c:TT}:tIfS c t u D σ H=c σ H fun b H1=>if b=true then t D σ H1 else u D σ H1:=rfl
theorem y97y {i:Nat}:tVar i σ H Q=∃ v,σ[i]?=some (some v)/\Q v H:=rfl
theorem y26y {i j:Int}:rAddU K (.int i) (.int j) H Q=Q (.int (i+j)) H:=rfl
theorem y27y {i j:Str}:rAddU K (.str i) (.str j) H Q=(i.length+j.length<=sizeLine/\Q (.str (i++j)) H):=rfl
theorem y89y {f:Int->Int->V} {i j:Int}:rI0 f (.int i) (.int j) H Q=Q (f i j) H:=by
 unfold rI0;simp
theorem y73y {f:Int->V} {i:Int}:rU f (.int i) H Q=Q (f i) H:=by
 unfold rU;simp
theorem y6cy {i j:Int}:rMulU (.int i) (.int j) H Q=(IntMulOk i j/\Q (.int (i*j)) H):=rfl
theorem y4cy {i j:Int}:Jiu (.int i) (.int j) H Q=(DivOk j/\Q (.int (i.fdiv j)) H):=rfl
theorem y6by {i j:Int}:rModU (.int i) (.int j) H Q=(j≠0/\Q (.int (i.fmod j)) H):=rfl
theorem y80y {i j:Int}:rPowU (.int i) (.int j) H Q=(CPow i j/\Q (.int (i ^ j.toNat)) H):=rfl
theorem y33y {p:Int->Int->Bool} {i j:Int}:rCmpU p (.int i) (.int j) H Q=Q (.bl (p i j)) H:=rfl
theorem y4ay {i j:Int}:rEqU K (.int i) (.int j) H Q=Q (.bl (decide (i=j))) H:=rfl
theorem y71y {i j:Int}:rNeU K (.int i) (.int j) H Q=Q (.bl (!decide (i=j))) H:=rfl
theorem y4by {i j:Str}:rEqU K (.str i) (.str j) H Q=Q (.bl (decide (i=j))) H:=rfl
theorem y72y {i j:Str}:rNeU K (.str i) (.str j) H Q=Q (.bl (!decide (i=j))) H:=rfl
theorem y49y {i j:Bool}:rEqU K (.bl i) (.bl j) H Q=Q (.bl (decide (i=j))) H:=rfl
theorem y70y {i j:Bool}:rNeU K (.bl i) (.bl j) H Q=Q (.bl (!decide (i=j))) H:=rfl
theorem y90y:tTup tA σ H Q=tA σ H fun xs H1=>xs.length<=sizeLine/\∀ p,H1 p=none->Q (.ref p) (upd H1 p (.tup xs)):=rfl
theorem y67y:tLst tA σ H Q=tA σ H fun xs H1=>xs.length<=sizeLine/\∀ p,H1 p=none->Q (.ref p) (upd H1 p (.lst xs)):=rfl
theorem y63y {x:V} {T:String}:rIsi K [x, .ty T] H Q=(T∈["int","str","bool","list","tuple"]/\∃ t,tyN K H x t/\Q (.bl (isiB t T)) H):=rfl
theorem y25y {i:Int}:rAbs [.int i] H Q=Q (.int (if i<0 then -i else i)) H:=rfl
theorem y6ay {i j:Int}:rMin [.int i, .int j] H Q=Q (.int (if j<i then j else i)) H:=rfl
theorem y92y {i:Int} {s:String}:tyN K H (.int i) s=(s="int"):=rfl
theorem y94y {i:Str} {s:String}:tyN K H (.str i) s=(s="str"):=rfl
theorem y91y {i:Bool} {s:String}:tyN K H (.bl i) s=(s="bool"):=rfl
theorem y93y {s:String}:tyN K H .non s=(s="NoneType"):=rfl
end
theorem JgD:bootBuiltins "abs"=some (.builtin "abs"):=by decide +kernel
theorem JbE:bootBuiltins "len"=some (.builtin "len"):=by decide +kernel
theorem JkC:bootBuiltins "max"=some (.builtin "max"):=by decide +kernel
theorem JdE:bootBuiltins "sorted"=some (.builtin "sorted"):=by decide +kernel
theorem JaI:bootBuiltins "isinstance"=some (.builtin "isinstance"):=by decide +kernel
theorem JkB:bootBuiltins "all"=some (.builtin "all"):=by decide +kernel
theorem JgE:bootBuiltins "int"=some (.type "int"):=by decide +kernel
theorem JkE:bootBuiltins "str"=some (.type "str"):=by decide +kernel
theorem JjL:bootBuiltins "bool"=some (.type "bool"):=by decide +kernel
theorem JdD:bootBuiltins "list"=some (.type "list"):=by decide +kernel
theorem Jdu:bootBuiltins "tuple"=some (.type "tuple"):=by decide +kernel
theorem Jhw:bootBuiltins "dict"=some (.type "dict"):=by decide +kernel
theorem JfX:bootBuiltins "reversed"=some (.type "reversed"):=by decide +kernel
theorem JkD:bootBuiltins "set"=some (.type "set"):=by decide +kernel
theorem yby:isiB "int" "int"=true:=by decide
theorem ydy:isiB "int" "str"=false:=by decide
theorem yay:isiB "int" "bool"=false:=by decide
theorem ycy:isiB "int" "list"=false:=by decide
theorem yey:isiB "int" "tuple"=false:=by decide
theorem y15y:isiB "str" "int"=false:=by decide
theorem y17y:isiB "str" "str"=true:=by decide
theorem y14y:isiB "str" "bool"=false:=by decide
theorem y16y:isiB "str" "list"=false:=by decide
theorem y18y:isiB "str" "tuple"=false:=by decide
theorem y6y:isiB "bool" "int"=true:=by decide
theorem y8y:isiB "bool" "str"=false:=by decide
theorem y5y:isiB "bool" "bool"=true:=by decide
theorem y7y:isiB "bool" "list"=false:=by decide
theorem y9y:isiB "bool" "tuple"=false:=by decide
theorem y1y:isiB "NoneType" "int"=false:=by decide
theorem y3y:isiB "NoneType" "str"=false:=by decide
theorem y0y:isiB "NoneType" "bool"=false:=by decide
theorem y2y:isiB "NoneType" "list"=false:=by decide
theorem y4y:isiB "NoneType" "tuple"=false:=by decide
theorem y10y:isiB "list" "int"=false:=by decide
theorem y12y:isiB "list" "str"=false:=by decide
theorem yfy:isiB "list" "bool"=false:=by decide
theorem y11y:isiB "list" "list"=true:=by decide
theorem y13y:isiB "list" "tuple"=false:=by decide
theorem y1ay:isiB "tuple" "int"=false:=by decide
theorem y1cy:isiB "tuple" "str"=false:=by decide
theorem y19y:isiB "tuple" "bool"=false:=by decide
theorem y1by:isiB "tuple" "list"=false:=by decide
theorem y1dy:isiB "tuple" "tuple"=true:=by decide
theorem y1fy:("int"∈["int","str","bool","list","tuple"])=True:=by simp
theorem y21y:("str"∈["int","str","bool","list","tuple"])=True:=by simp
theorem y1ey:("bool"∈["int","str","bool","list","tuple"])=True:=by simp
theorem y20y:("list"∈["int","str","bool","list","tuple"])=True:=by simp
theorem y22y:("tuple"∈["int","str","bool","list","tuple"])=True:=by simp
theorem y24y {CX:CXT} {P:Program} {w:World} {K:W.Frag} {mg:Str->Option Value} {base:Heap} {N:List Str} {qual:Str} {scope:Scope} {f:Addr} {cd:Value} {A:Around} {outer:List Env} {s:Shared} {H:Hp} {E:XK}:(cxOf CX P w K mg base N qual scope f cd A outer s H E).K=K:=rfl
def ForR (lo:Int) (n:Nat) (g:TG) (tb:TS) (D:Ends) (σ : St) (H:Hp):Prop:=∃ W:Nat->Nat->St->Hp->Prop,(∃ m,W 0 m σ H)/\∀ i m σ H,W i m σ H ->
 ((Itr lo n).stop i H/\D.nx σ H)\/((Itr lo n).go i H/\∃ N:St->Hp->Prop,(∀ σ' H',N σ' H'->∃ m',m'<m/\W (i+1) m' σ' H')/\∀ x H',(Itr lo n).yld i H x H'->g x σ H' fun σ2 H2=>tb { D with nx:=N,ct:=N,bk:=D.nx } σ2 H2)
def ForA (K:W.Frag) (a:Addr) (g:TG) (tb:TS) (D:Ends) (σ : St) (H:Hp):Prop :=
 ((∃ xs,SqL K H a xs)/\∃ W:Nat->Nat->St->Hp->Prop,(∃ m,W 0 m σ H)/\∀ i m σ H,W i m σ H ->
  ((Itl K a).stop i H/\D.nx σ H)\/((Itl K a).go i H/\∃ N:St->Hp->Prop,(∀ σ' H',N σ' H'->∃ m',m'<m/\W (i+1) m' σ' H')/\∀ x H',(Itl K a).yld i H x H'->g x σ H' fun σ2 H2=>tb { D with nx:=N,ct:=N,bk:=D.nx } σ2 H2)) \/
 ((∃ xs,SqT K H a xs)/\∃ W:Nat->Nat->St->Hp->Prop,(∃ m,W 0 m σ H)/\∀ i m σ H,W i m σ H ->
  ((Itt K a).stop i H/\D.nx σ H)\/((Itt K a).go i H/\∃ N:St->Hp->Prop,(∀ σ' H',N σ' H'->∃ m',m'<m/\W (i+1) m' σ' H')/\∀ x H',(Itt K a).yld i H x H'->g x σ H' fun σ2 H2=>tb { D with nx:=N,ct:=N,bk:=D.nx } σ2 H2))
theorem y4fy {ta:TA} {g:TG} {tb:TS} {D:Ends} {σ : St} {H:Hp}:tFor (iRng1 ta) g tb D σ H=ta σ H fun vs H1=>∃ j:Int,vs=[.int j]/\-(2 ^ 62)<=j/\j<2 ^ 62/\ForR 0 j.toNat g tb D σ H1:=rfl
theorem y50y {ta:TA} {g:TG} {tb:TS} {D:Ends} {σ : St} {H:Hp}:tFor (iRng2 ta) g tb D σ H=ta σ H fun vs H1=>∃ i j:Int,vs=[.int i, .int j]/\(-(2 ^ 62)<=i/\i<2 ^ 62/\-(2 ^ 62)<=j/\j<2 ^ 62)/\ForR i (j-i).toNat g tb D σ H1:=rfl
theorem y51y {K:W.Frag} {tl:TE} {g:TG} {tb:TS} {D:Ends} {σ : St} {H:Hp}:tFor (iAny K tl) g tb D σ H=tl σ H fun x H1=>∃ a,x=.ref a/\ForA K a g tb D σ H1:=rfl
theorem ForR.by {lo:Int} {n:Nat} {g:TG} {tb:TS} {D:Ends} {σ : St} {H:Hp} (Pv:Nat->St->Hp->Prop) (h0:Pv 0 σ H)
  (hs:∀ i σ H,i<n->Pv i σ H->g (.int (lo+i)) σ H fun σ2 H2=>tb { D with nx:=Pv (i+1),ct:=Pv (i+1),bk:=D.nx } σ2 H2) (hd:∀ σ H,Pv n σ H->D.nx σ H):ForR lo n g tb D σ H:=JhU Pv h0 hs hd
theorem Jf9 {H:Hp} {o:HO} {R:V->Hp->Prop} (h:∀ p H1,Same H H1->H1 p=some o->R (.ref p) H1):∀ p,H p=none->R (.ref p) (upd H p o):=fun p a=>
 h p _ (fun b u q=>by rw [Jai (Jag q a)];exact q) Jau
theorem newS {H H':Hp} {p:Addr} {o:HO} (h:H p=none) (e:upd H p o=H'):Same H H':=fun b u q=>by rw [<- e,Jai (Jag q h)];exact q
theorem newE {H H':Hp} {p:Addr} {o:HO} (e:upd H p o=H'):H' p=some o:=by rw [<- e,Jau]
theorem JeC {n:Nat} {i:Int} (h:Mth.Sz n i):Builtin.Int.intBits i<=n:=by
 unfold Builtin.Int.intBits;split
 ·exact Nat.zero_le _
 ·rename_i z;have : i.natAbs.log2<n:=(Nat.log2_lt (by simpa using z)).mpr h;ac_nf
theorem mulOk {m n:Nat} {i j:Int} (h:Mth.Sz m i) (k:Mth.Sz n j) (hm:m<=2 ^ 20:=by decide) (hn:n<=2 ^ 20:=by decide):IntMulOk i j:=IntMulOk.of_bits (Nat.le_trans (JeC h) hm) (Nat.le_trans (JeC k) hn)
theorem JkW {i j:Int} (h:Mth.Sz 64 j):IntMulOk i j:=IntMulOk.of_right (JeC h)
theorem divOk {n:Nat} {j:Int} (h:j≠0) (k:Mth.Sz n j) (hn:n<9000:=by decide):DivOk j:=⟨h,Mth.Jj6 k hn⟩
theorem len0:([]:List V).length<=sizeLine:=by decide
theorem len2 {a b:V}:[a,b].length<=sizeLine:=by show 2<=sizeLine;decide
theorem len4 {a b c d:V}:[a,b,c,d].length<=sizeLine:=by show 4<=sizeLine;decide
theorem len5 {a b c d e:V}:[a,b,c,d,e].length<=sizeLine:=by show 5<=sizeLine;decide
theorem Jbn {j:Int} (h:decide (j≠0/\j.natAbs<2 ^ 64)=true):DivOk j:=by
 have z:=of_decide_eq_true h;exact divOk z.1 (n:=64) z.2
theorem Jbo {i j:Int} (h:decide (j.natAbs<2 ^ 64)=true):IntMulOk i j:=by
 have z:j.natAbs<2 ^ 64:=of_decide_eq_true h;exact JkW z
theorem JaX {i j:Int} (h:decide (i.natAbs<2 ^ 64)=true):IntMulOk i j:=by
 have z:i.natAbs<2 ^ 64:=of_decide_eq_true h;exact IntMulOk.of_left (JeC (n:=64) z)
theorem Jbp {i j:Int} (h:decide (0<=j/\j<=1000000/\i.natAbs<2 ^ 64)=true):CPow i j:=by
 have z:0<=j/\j<=1000000/\i.natAbs<2 ^ 64:=of_decide_eq_true h;exact z
def FrV (K:W.Frag) (H:Hp) (v:V) (a b:Int):Prop:=∃ p,v=.ref p/\SqT K H p [.int a, .int b]
theorem FrV.same {K:W.Frag} {H H':Hp} {v:V} {a b:Int} (S:Same H H') (h:FrV K H v a b):FrV K H' v a b:=by
 obtain ⟨p,e,q⟩:=h;exact ⟨p,e,q.same S⟩
theorem FrV.of {K:W.Frag} {H:Hp} {p:Addr} {a b:Int} (h:H p=some (.tup [.int a, .int b])):FrV K H (.ref p) a b:=⟨p,rfl,SqT.of h⟩
theorem ixT0 {K:W.Frag} {H:Hp} {p:Addr} {x:V} {r:List V} {Q:VK} (h:SqT K H p (x::r)) (q:Q x H):rIxU K (.ref p) (.int 0) H Q:=⟨_,x, .inr h,JdB (j:=0) rfl,q⟩
theorem ixT1 {K:W.Frag} {H:Hp} {p:Addr} {x y:V} {r:List V} {Q:VK} (h:SqT K H p (x::y::r)) (q:Q y H):rIxU K (.ref p) (.int 1) H Q:=⟨_,y, .inr h,JdB (j:=1) rfl,q⟩
theorem ixF0 {K:W.Frag} {H:Hp} {v:V} {a b:Int} {Q:VK} (h:FrV K H v a b) (q:Q (.int a) H):rIxU K v (.int 0) H Q:=by
 obtain ⟨p,rfl,z⟩:=h;exact ixT0 z q
theorem ixF1 {K:W.Frag} {H:Hp} {v:V} {a b:Int} {Q:VK} (h:FrV K H v a b) (q:Q (.int b) H):rIxU K v (.int 1) H Q:=by
 obtain ⟨p,rfl,z⟩:=h;exact ixT1 z q
theorem FrV.rep {K:W.Frag} {H:Hp} {v:V} {a b:Int} (h:FrV K H v a b):Rep K H (.tup [.int a, .int b]) v:=by
 obtain ⟨p,rfl,z⟩:=h;simp only [Rep,RepL];exact ⟨p,_,rfl,z,_,_,rfl,rfl,_,_,rfl,rfl,rfl⟩
theorem eqF {K:W.Frag} {H:Hp} {x y:V} {a b c d:Int} {Q:VK} (h:FrV K H x a b) (g:FrV K H y c d) (q:Q (.bl (decide (a=c)&&decide (b=d))) H):rEqU K x y H Q:=by
 have e:eqD (.tup [.int a, .int b]) (.tup [.int c, .int d])=(decide (a=c)&&decide (b=d)):=by
  simp only [eqD,eqL,Bool.and_true]
  congr 1 <;> simp [BEq.beq]
 have f:=h.rep;have i:=g.rep;obtain ⟨p,rfl,_⟩:=h;obtain ⟨j,rfl,_⟩:=g;exact ⟨_,_,f,i,by simp [depD,depL],rfl,by rw [e];exact q⟩
theorem neF {K:W.Frag} {H:Hp} {x y:V} {a b c d:Int} {Q:VK} (h:FrV K H x a b) (g:FrV K H y c d) (q:Q (.bl (!(decide (a=c)&&decide (b=d)))) H):rNeU K x y H Q:=by
 have e:eqD (.tup [.int a, .int b]) (.tup [.int c, .int d])=(decide (a=c)&&decide (b=d)):=by
  simp only [eqD,eqL,Bool.and_true]
  congr 1 <;> simp [BEq.beq]
 have f:=h.rep;have i:=g.rep;obtain ⟨p,rfl,_⟩:=h;obtain ⟨j,rfl,_⟩:=g;exact ⟨_,_,f,i,by simp [depD,depL],rfl,by rw [e];exact q⟩
theorem ixT {K:W.Frag} {H:Hp} {p:Addr} {xs:List V} {i:Nat} {v:V} {Q:VK} (h:SqT K H p xs) (e:xs[i]?=some v) (q:Q v H):rIxU K (.ref p) (.int (i:Int)) H Q:=⟨xs,v, .inr h,JdB e,q⟩
theorem ixL {K:W.Frag} {H:Hp} {p:Addr} {xs:List V} {i:Nat} {v:V} {Q:VK} (h:SqL K H p xs) (e:xs[i]?=some v) (q:Q v H):rIxU K (.ref p) (.int (i:Int)) H Q:=⟨xs,v, .inl h,JdB e,q⟩
section
open PySem.W PySem.Builtin PySem.Builtin.ObjectAttr PySem.Builtin.Getset_descriptor
variable {prog:Program} {w:World} {A:Around} {E:Value->Shared->Prop} {s:Shared} {K:Frag} {x D:Addr} {ox:Obj}
end
section
variable {X:Cx}
def Jkv (r r' r'':R2) (ta tb tc td:TE):TE:=fun σ H Q=>ta σ H fun x H1=>tb σ H1 fun y H2=>r x y H2 fun z H3=>∃ k,z=.bl k /\
 (if k=true then tc σ H3 fun w' H4=>r' y w' H4 fun z' H5=>∃ k',z'=.bl k'/\(if k'=true then td σ H5 fun u' H6=>r'' w' u' H6 Q else Q (.bl false) H5) else Q (.bl false) H3)
def rFmt:V->Hp->VK->Prop:=fun x H Q=>match x with
 | .int i=>i.natAbs.log2<1920/\Q (.str (toString i)) H
 | _=>False
def TJ:=St->Hp->Str->VK->Prop
def jNil:TJ:=fun _ H acc Q=>acc.length<=sizeLine/\Q (.str acc) H
def jCons (te:TE) (t:TJ):TJ:=fun σ H acc Q=>te σ H fun x H1=>∃ y,x=.str y/\(acc++y).length<=sizeLine/\t σ H1 (acc++y) Q
def tFstr (t:TJ):TE:=fun σ H Q=>t σ H Str.empty Q
def rStrI:List V->Hp->VK->Prop:=fun xs H Q=>match xs with
 | [.int i]=>i.natAbs.log2<1920/\Q (.str (toString i)) H
 | _=>False
end
section
variable {En:Ends} {σ : St} {H:Hp} {Q:VK} {t u:TS} {ta tb te tc td:TE} {g:TG} {gs:TGs} {tA:TA} {E:XK} {sp:Sp} {K:W.Frag}
theorem y87y {r:V->Option Int->Option Int->Hp->VK->Prop} {tl th:TO}:tSl r te tl th σ H Q=te σ H fun x H1=>tl σ H1 fun l H2=>th σ H2 fun u H3=>r x l u H3 Q:=rfl
theorem y7fy {R:Option Int->Hp->Prop}:tPart te σ H R=te σ H fun x H1=>∃ i,x=.int i/\R (some i) H1:=rfl
theorem y76y {R:Option Int->Hp->Prop}:Jkw σ H R=R none H:=rfl
theorem y58y {vs:List V} {R:St->Hp->Prop}:gCons g gs vs σ H R=∃ v r,vs=v::r/\g v σ H fun σ' H'=>gs r σ' H' R:=rfl
theorem y5ay {vs:List V} {R:St->Hp->Prop}:gNil vs σ H R=(vs=[]/\R σ H):=rfl
theorem y31y {r r':R2}:Jlk r r' ta tb tc σ H Q=ta σ H fun x H1=>tb σ H1 fun y H2=>r x y H2 fun z H3=>∃ k,z=.bl k/\(if k=true then tc σ H3 fun w' H4=>r' y w' H4 Q else Q (.bl false) H3):=rfl
theorem y32y {r r' r'':R2}:Jkv r r' r'' ta tb tc td σ H Q=ta σ H fun x H1=>tb σ H1 fun y H2=>r x y H2 fun z H3=>∃ k,z=.bl k /\
 (if k=true then tc σ H3 fun w' H4=>r' y w' H4 fun z' H5=>∃ k',z'=.bl k'/\(if k'=true then td σ H5 fun u' H6=>r'' w' u' H6 Q else Q (.bl false) H5) else Q (.bl false) H3):=rfl
theorem y57y {tj:TJ}:tFstr tj σ H Q=tj σ H Str.empty Q:=rfl
theorem y65y {tj:TJ} {acc:Str}:jCons te tj σ H acc Q=te σ H fun x H1=>∃ y,x=.str y/\(acc++y).length<=sizeLine/\tj σ H1 (acc++y) Q:=rfl
theorem y66y {acc:Str}:jNil σ H acc Q=(acc.length<=sizeLine/\Q (.str acc) H):=rfl
theorem y4ey {i:Int}:rFmt (.int i) H Q=(i.natAbs.log2<1920/\Q (.str (toString i)) H):=rfl
theorem y88y {i:Int}:rStrI [.int i] H Q=(i.natAbs.log2<1920/\Q (.str (toString i)) H):=rfl
theorem y8ey {D0:Addr} {i:Nat} {tx:St->Hp->VK->XK->Prop} {ts:TS}:Jlq K D0 i tx ts En σ H=tx σ H (fun _ H1=>En.nx σ H1) fun cls _ H1=>∃ C,cls=.ref C/\Jhs K C D0 /\
 ∀ ea,H1 ea=none->ts { nx:=fun σ' H'=>En.nx (σ'.set i none) H',rt:=En.rt,bk:=fun σ' H'=>En.bk (σ'.set i none) H',ct:=fun σ' H'=>En.ct (σ'.set i none) H' } (σ.set i (some (.ref ea))) (upd H1 ea (ExcO ea C)):=rfl
theorem y98y {dvs:List V} {Qx:VK} {Ex:XK}:xCall sp dvs tA σ H Qx Ex=tA σ H fun vs H1=>sp (vs++dvs) H1 Qx Ex:=rfl
theorem y81y {C:Addr}:JjC E C tA En σ H=tA σ H fun vs H1=>vs.length<=sizeLine/\E (.ref C) none H1:=rfl
end
def Its (x:Str):It:=⟨fun i _=>i<x.cps.size,fun i H v H'=>H'=H/\∃ c,x.cps[i]?=some c/\v=.str ⟨#[c]⟩,fun i _=>i=x.cps.size⟩
theorem JfS {P:Program} {w:World} {K:W.Frag} {tg:Expr} {it:Addr} {x:Str} {n:String} {St:Nat->Heap->Prop} (hn:["enumerate","zip","dict_itemiterator","dict_reverseitemiterator","odict_iterator","itertools.zip_longest","itertools.pairwise"].contains n=false)
  (hst:∀ i h,St i h->∃ o vs,h.get? it=some o/\o.cls=.type n/\o.data=.fields vs) (mk:∀ A:Around,A.handled=none->Walks P w A it [it] [it] x.cps.size (SignAt x) St)
  (hself:∀ (A:Around) (i:Nat) (s:Shared) (Q:Value->Shared->Prop) (E:Value->Shared->Prop),St i s.heap->Q (.ref it) s->wpAny (model P w) A (pyIter (.ref it)) Q E s):Turn P w K tg (Its x) [it] it St where
 mem:=by simp
 obj:=fun i h g b a=>by
  obtain rfl:b=it:=by simpa using a
  obtain ⟨o,vs,e,_,d⟩:=hst i h g;exact ⟨o,e,fun v z=>by rw [d] at z;cases z⟩
 keep:=fun i h j g k=>(mk {} rfl).frame i h j g fun b a o e=>k b a o e
 item:=by
  intro X r p L t i f s σ H E I m g q;subst r p L;obtain ⟨M,y,U,C,G,N⟩:=m it (by simp);refine (mk X.A (I.ok.hd t)).item i s _ _ q g fun v j D T l J=>?_;obtain ⟨c,u,F,rfl⟩:=T;have I1:Inv X f σ H { s with heap:=j,toks:=D }:=I.turned (fun b o a e=>J b o (by simpa using a) e) M y C G N;obtain ⟨o,vs,R,O,S⟩:=hst _ _ l;exact ⟨_,rfl,go_of (s:={ s with heap:=j,toks:=D }) R O S hn ⟨.str ⟨#[c]⟩,H,I1,⟨u,rfl⟩,⟨rfl,c,F,rfl⟩,l,fun b a=>(m b a).1⟩⟩
 done:=by
  intro X r p L t i f s σ H E I m g q;subst r p L;obtain ⟨M,y,U,C,G,N⟩:=m it (by simp);have B:i=x.cps.size:=q;subst B;exact (mk X.A (I.ok.hd t)).done s _ _ g fun j D J=>⟨rfl,I.turned (fun b o a e=>J b o (by simpa using a) e) M y C G N⟩
 self:=hself
section
variable {X:Cx} {tg:Expr}
def iStr (tl:TE):TI:=fun σ H R=>tl σ H fun x H1=>∃ z,x=.str z/\R (Its z) H1
theorem Jk6 {l:Expr} {tl:TE} (hl:PE X l tl):PI X tg l (iStr tl):=fun f s σ H R I h=>by
 refine thn (hl f s σ H _ I h) fun v d ζ=>?_;obtain ⟨x,k,I1,y,z,p,q⟩:=ζ;subst p;obtain ⟨t,rfl⟩:=y;have key:∀ (n:String),(n="str_ascii_iterator"\/n="str_iterator")->PIE X f σ tg R (.ref d.heap.objs.size) { d with heap:=d.heap.push { cls:=.type n,data:=.fields #[.str z t, .int 0 0] } }:=fun n u=>by
  have m:Turn X.prog X.w X.K tg (Its z) [d.heap.objs.size] d.heap.objs.size (fun i h=>h.IsStrIter d.heap.objs.size n z t i):=by
   rcases u with rfl | rfl
   ·exact JfS (n:="str_ascii_iterator") ⋯ (fun i h g=>let ⟨o,a,b,c⟩:=g;⟨o,_,a,b,c⟩) (fun A j=>Walks.strAscii j _ z t) fun A i s Q E g q=>wpAny_pyIter_striter_ascii g q
   ·exact JfS (n:="str_iterator") ⋯ (fun i h g=>let ⟨o,a,b,c⟩:=g;⟨o,_,a,b,c⟩) (fun A j=>Walks.strWide j _ z t) fun A i s Q E g q=>wpAny_pyIter_striter_wide g q
  refine ⟨d.heap.objs.size,[d.heap.objs.size],_,_,k,rfl,I1.kept (t':=d.toks) fun b o e=>Heap.get?_push_of_some _ e,m,⟨_,Heap.get?_push_size _ rfl,rfl,rfl⟩,fun b r=>?_,q⟩;obtain rfl:b=d.heap.objs.size:=by simpa using r
  exact I1.fpOk (Nat.le_refl _) (I1.hok.fresh (Nat.le_refl _))
 cases ha:z.cps.all (· < 128)
 ·exact wpAny_pyIter_wide ha (key _ (.inr rfl))
 ·exact wpAny_pyIter_ascii ha (key _ (.inl rfl))
end
abbrev Cx.inc (X:Cx) (N':List Str) (scope:Scope) (cl:List (Str × Addr)) (fp:List Addr) (s2:Shared) (H2:Hp) (C:Addr):Cx :=
 { X with N:=N',s₀:=s2,H₀:=H2,env:=compEnvC scope cl C X.env,outer:=X.stack,ex:=fp,fn:=fun _=>false,pn:=[],xe:=fun _ _=>False }
section
variable {X:Cx} {pins:List (Addr × Obj)} {σ : St} {H2:Hp} {s2:Shared} {N':List Str} {scope:Scope} {cl:List (Str × Addr)} {fp:List Addr} {C:Addr}
theorem Inv.incOk (I:Inv X pins σ H2 s2) (hf:∀ b∈fp,FpOk X pins H2 b) (hfp:∀ b∈fp,b<s2.heap.objs.size) (hk:scope.kind=.function) (hC:s2.heap.objs.size<=C) (hcl:∀ x c,cl.lookup x=some c->X.env.cells.lookup x=some c)
  (hhas:∀ y,((relabel scope X.env).names.lookup y=some .cell\/(relabel scope X.env).names.lookup y=some .free)->∃ c,cl.lookup y=some c):(X.inc N' scope cl fp s2 H2 C).Ok where
 mod:=I.ok.mod
 kind:=hk
 glob:=I.ok.glob
 blt:=I.ok.blt
 above:=hC
 inj:=fun x y c i d=>I.ok.inj x y c (hcl x c i) (hcl y c d)
 has:=fun y f=>hhas y f
 cab:=fun x c h=>by cases h
 hd:=I.ok.hd
 frames:=I.ok.frames
 stk:=.inl rfl
 exf:=fun b a=>⟨Nat.ne_of_lt (Nat.lt_of_lt_of_le (hfp b a) hC),fun x c e=>(hf b a).2.2.2.2.1 x c (hcl x c e)⟩
 bs:=I.bs
 bsz:=Nat.le_trans I.ok.bsz I.sz
 noex:=fun b o e a=>by
  rcases (hf b a).2.2.2.1 with z | z
  ·exact I.ok.noex b o e z
  ·exact absurd (Nat.lt_of_lt_of_le (Nat.lt_of_lt_of_le (Heap.lt_size e) I.ok.bsz) z) (Nat.lt_irrefl _)
 exfs:=fun b a g=>by
  rcases mem_cons.mp (I.stkSub b g) with z | z
  ·exact (hf b a).2.1 z
  ·exact (hf b a).2.2.1 z
 funs:=I.stack
 frf:=I.stkFree
def JaB (cs:List (Nat × Str)) (σ : St):St:=cs.map fun p=>(σ[p.1]?).join
theorem Inv.capsLoc {s4:Shared} {m:Str->Option Value} {own:List Str} {cs:List (Nat × Str)} (I:Inv X pins σ H2 s2) (ok:(X.inc (own++cs.map (·.2)) scope cl fp s2 H2 C).Ok) (kept:∀ c v,(∃ x,cl.lookup x=some c)->s2.heap.IsCell c v->s4.heap.IsCell c v)
  (hcl:∀ x c,cl.lookup x=some c->X.env.cells.lookup x=some c) (hcs:∀ p∈cs,X.N[p.1]?=some p.2/\X.env.scope.names.lookup p.2=some .cell/\(relabel scope X.env).names.lookup p.2=some .cell) :
  ∀ (i:Nat) (x:Str) (v:V),(own++cs.map (·.2))[i]?=some x->(List.replicate own.length none++JaB cs σ)[i]?=some (some v)->∃ u,RelV v u/\Look (compEnvC scope cl C X.env) s4.heap m x u:=fun i x v s e=>by
  by_cases h:i<own.length
  ·rw [List.getElem?_append_left (by simpa using h),List.getElem?_replicate,if_pos h] at e;cases e
  ·have b:(JaB cs σ)[i-own.length]?=some (some v):=by rw [List.getElem?_append_right (by simp;ac_nf)] at e;simpa using e
   have a:(cs.map (·.2))[i-own.length]?=some x:=by
    rwa [List.getElem?_append_right ∅] at s
   unfold JaB at b;rw [List.getElem?_map] at a b;cases q:cs[i-own.length]? with
   | none=>rw [q] at a;cases a
   | some p=>
    rw [q] at a b;obtain rfl:p.2=x:=by simpa using a
    have d:(σ[p.1]?).join=some v:=by simpa using b
    have g : σ[p.1]?=some (some v):=by
     cases z : σ[p.1]? with
     | none=>rw [z] at d;cases d
     | some o=>rw [z] at d;exact congrArg some d
    obtain ⟨r,j,l⟩:=hcs p (List.mem_of_getElem? q);obtain ⟨w,_,n⟩:=I.loc;obtain ⟨u,t,lk⟩:=n p.1 p.2 v r g (.inr (.inl j));refine ⟨u,t, .inr ⟨.inl l,?_⟩⟩;obtain ⟨c,f⟩:=ok.has p.2 (.inl l);refine ⟨c,f,?_⟩;rcases lk with ⟨k,_⟩ | ⟨_,c',e',hcell⟩
    ·have k:X.env.scope.names.lookup p.2=some .local:=k;rw [j] at k;cases k
    ·rw [hcl _ _ f] at e';cases e';exact kept _ _ ⟨_,f⟩ hcell
theorem Inv.incStart {s4:Shared} {m:Str->Option Value} {own:List Str} {cs:List (Nat × Str)} (I:Inv X pins σ H2 s2) (ok:(X.inc (own++cs.map (·.2)) scope cl fp s2 H2 C).Ok) (kept:∀ b o,s2.heap.get? b=some o->s4.heap.get? b=some o) (hos:s4.os=s2.os) (hg:s4.gens=s2.gens) (hm:s4.heap.Ns C m)
  (hC:s2.heap.objs.size<=C) (hcl:∀ x c,cl.lookup x=some c->X.env.cells.lookup x=some c)
  (hcs:∀ p∈cs,X.N[p.1]?=some p.2/\X.env.scope.names.lookup p.2=some .cell/\(relabel scope X.env).names.lookup p.2=some .cell) :
  Inv (X.inc (own++cs.map (·.2)) scope cl fp s2 H2 C) [] (List.replicate own.length none++JaB cs σ) H2 s4 where
 ok:=ok
 os:=hos
 bare:=by rw [hg];exact I.bare
 base:=Un.kept kept
 loc:=⟨m,hm,fun i x v h g _=>I.capsLoc (m:=m) ok (fun c v _ ⟨o,d,a⟩=>⟨o,kept _ _ d,a⟩) hcl hcs i x v h g⟩
 cell:=fun x c e=>by
  obtain ⟨v,o,d,a⟩:=I.cell x c (hcl x c e);exact ⟨v,o,kept _ _ d,a⟩
 free:=I.hok.fresh hC
 freeC:=fun x c e=>I.freeC x c (hcl x c e)
 pin:=fun p f=>by simp at f
 hok:=I.hok.kept kept
 len:=by simp [JaB]
theorem Inv.incAgain {s':Shared} {H':Hp} {σ':St} {pl:List (Addr × Obj)} {own:List Str} {cs:List (Nat × Str)} (I:Inv X pins σ H2 s2) (J:Inv (X.inc (own++cs.map (·.2)) scope cl fp s2 H2 C) pl σ' H' s')
  (hf:∀ b∈fp,FpOk X pins H2 b) (hcl:∀ x c,cl.lookup x=some c->X.env.cells.lookup x=some c) (hcs:∀ p∈cs,X.N[p.1]?=some p.2/\X.env.scope.names.lookup p.2=some .cell/\(relabel scope X.env).names.lookup p.2=some .cell) :
  Inv (X.inc (own++cs.map (·.2)) scope cl fp s2 H2 C) [] (List.replicate own.length none++JaB cs σ) H' s' where
 ok:=J.ok
 os:=J.os
 bare:=J.bare
 base:=J.base
 loc:=by
  obtain ⟨m,a,_⟩:=J.loc;refine ⟨m,a,fun i x v k j _=>I.capsLoc (m:=m) J.ok (fun c v ⟨x,d⟩ ⟨o,g,f⟩=>?_) hcl hcs i x v k j⟩;have e:c∉fp:=fun z=>(hf c z).2.2.2.2.1 x c (hcl x c d) rfl;by_cases a:c∈frs X.stack
  ·obtain ⟨l,z⟩:=J.base.slot c o g (I.freeC x c (hcl x c d)) a e;exact ⟨_,z,f⟩
  ·exact ⟨o,J.base.keep c o g (I.freeC x c (hcl x c d)) a e,f⟩
 cell:=J.cell
 free:=J.free
 freeC:=J.freeC
 pin:=fun p h=>by simp at h
 hok:=J.hok
 len:=by simp [JaB]
end
section
variable {prog:Program} {w:World} {A:Around} {E:Value->Shared->Prop} {R:Result->Shared->Prop} {s:Shared}
theorem Jg7 {elt target iter:Expr} {scope:Scope} {pos:Pos} {it acc:Value} {env:Env} (J:Nat->Shared->Prop)
  (turn:∀ n s,J n s->wpAny (model prog w) A (pyNext it) (fun r s1=>match r with
   | none=>R (.ok .next) s1
   | some v=>wpAny (model prog w) A (letOwnedTupleGo target it v) (fun _ s2=>wpAny (model prog w) A (assign target env v) (fun _ s3=>wpAny (model prog w) A (eval elt env) (fun x s4=>
     wpAny (model prog w) A (call (.builtin "list.append") [acc,x]) (fun _ s5=>∃ m,m<n/\J m s5) (fun _ _=>False) s4) (fun _ _=>False) s3) (fun _ _=>False) s2) (fun _ _=>False) s1) (fun _ _=>False) s) (n:Nat) (h:J n s) :
  codeAny (model prog w) A (.compLoop (.ListComp elt [⟨target,iter,[],0⟩] scope pos) 0 it acc env) R s:=by
 refine codeAny_loop rfl J (fun n s c=>?_) n h;show wpAny _ A ((compTurn (.ListComp elt [⟨target,iter,[],0⟩] scope pos) 0 it acc env).onRaise (fun y=>do noteFrame y env;theTreesLotGoes y)) _ _ s
 (refine wpAny_noted ?_;rw [compTurn_list])
 refine wpAny_bind (wpAny_standAt (wpAny_bind (wpAny_mono (turn n s c) (fun r s1 a=>?_) fun _ _ z=>z.elim)));cases r with
 | none=>exact wpAny_pure a
 | some v=>
  refine wpAny_bind (wpAny_mono a (fun _ s2 d=>wpAny_bind (wpAny_mono d (fun _ s3 b=>?_) fun _ _ z=>z.elim)) fun _ _ z=>z.elim);refine wpAny_bind (wpAny_tests_nil ?_);exact wpAny_bind (wpAny_bind (wpAny_mono b (fun x s4 e=>(wpAny_bind (wpAny_mono e (fun _ s5 f=>(wpAny_pure (wpAny_pure ⟨rfl,f⟩))) fun _ _ z=>z.elim))) fun _ _ z=>z.elim))
end
def tComp (k:Nat) (cs:List (Nat × Str)) (wi:TI) (g:TG) (te:TE):TE:=fun σ H Q=>wi σ H fun J H1=>∃ W:Nat->Nat->List V->Hp->Prop,(∃ m,W 0 m [] H1)/\∀ i m ys H2,W i m ys H2->ys.length<=sizeLine /\
  ((J.stop i H2/\∀ p,H2 p=none->Q (.ref p) (upd H2 p (.lst ys))) \/
   (J.go i H2/\∀ x H3,J.yld i H2 x H3->g x (List.replicate k none++JaB cs σ) H3 fun σ4 H4=>te σ4 H4 fun y H5=>∃ m',m'<m/\W (i+1) m' (ys++[y]) H5))
theorem lstP {us:List Value} {v:Value}:(us.toArray.push v)=(us++[v]).toArray:=by simp
section
variable {X:Cx} {tg:Expr}
theorem JcL {iter elt:Expr} {scope:Scope} {pos:Pos} {own:List Str} {cl:List (Str × Addr)} {cs:List (Nat × Str)} {wi:TI} {g:TG} {te:TE} (hc:X.calm=true) (hi:PI X tg iter wi)
  (hg:∀ fp s2 H2 C,PG (X.inc (own++cs.map (·.2)) scope cl fp s2 H2 C) tg g) (he:∀ fp s2 H2 C,PE (X.inc (own++cs.map (·.2)) scope cl fp s2 H2 C) elt te)
  (hclos:closureFor scope X.env=pure cl) (hcell:∀ y∈scope.names,y.2≠.cell) (hkind:scope.kind=.function) (hnames:∀ y∈scope.names,y.2=.local->scope.names.lookup y.1=some .local)
  (hcl:∀ x c,cl.lookup x=some c->X.env.cells.lookup x=some c) (hhas:∀ y,((relabel scope X.env).names.lookup y=some .cell\/(relabel scope X.env).names.lookup y=some .free)->∃ c,cl.lookup y=some c)
  (hcs:∀ p∈cs,X.N[p.1]?=some p.2/\X.env.scope.names.lookup p.2=some .cell/\(relabel scope X.env).names.lookup p.2=some .cell)
  (hs:∀ x,foldedSetIterable iter X.env x=pure x:=by intro _;rfl):PE X (.ListComp elt [⟨tg,iter,[],0⟩] scope pos) (tComp own.length cs wi g te):=by
 intro B s σ H Q I h;rw [eval_ListComp];refine wpAny_comprehension_free (use:=none) rfl hs hclos hkind hnames (thn (hi B s σ H _ I h) fun v s1 h1=>thn h1 fun b7 s2 h2=>?_);obtain ⟨it,fp,tn,J,H2,rfl,I2,T,R,V,W,⟨m0,w0⟩,a2⟩:=h2;have K:∀ b∈fp,b<s2.heap.objs.size:=fun b d=>by
  obtain ⟨o,e,_⟩:=T.obj _ _ R b d;exact Heap.lt_size e
 refine wpAny_newObj_type (wpAny_newFunctionEnv hcell (by intro y hy;simp at hy) (fun h4 m j=>?_) hkind);dsimp only at m j ⊢;generalize hH3:s2.heap.push { cls:=.type "list",dict:=none,data:=.seq ([]:List Value).toArray }=H3 at m j ⊢;have a7:H3.objs.size=s2.heap.objs.size+1:=by rw [<- hH3,Heap.size_push]
 have hC:s2.heap.objs.size<=H3.objs.size:=by ac_nf
 have t:s2.heap.objs.size≠H3.objs.size:=by ac_nf
 have S:∀ b o,s2.heap.get? b=some o->h4.get? b=some o:=fun b o e=>j.extBut b o (by have:=Heap.lt_size e;exact Nat.ne_of_lt (Nat.lt_of_lt_of_le this hC)) (Heap.get?_push_of_some _ (hH3 ▸ Heap.get?_push_of_some _ e));have a6:h4.get? s2.heap.objs.size=some { cls:=.type "list",data:=.seq ([]:List Value).toArray }:=j.extBut _ _ t (Heap.get?_push_of_some _ (hH3 ▸ Heap.get?_push_size _ rfl));obtain ⟨D,f⟩:∃ D,D=s2.heap.objs.size:=⟨_,rfl⟩;obtain ⟨C,b3⟩:∃ C,C=H3.objs.size:=⟨_,rfl⟩;rw [<- b3] at a7 m j hC t ⊢;rw [<- f] at K a7 hC t a6 ⊢;have G:=I2.incOk (N':=own++cs.map (·.2)) (C:=C) V (fun b d=>by rw [<- f];exact K b d) hkind (by rw [<- f];exact hC) hcl hhas;have I4:Inv (X.inc (own++cs.map (·.2)) scope cl fp s2 H2 C) [] (List.replicate own.length none++JaB cs σ) H2 { s2 with heap:=h4,toks:=s2.toks+([]:List (Str × Value)).length } :=
  I2.incStart (s4:={ s2 with heap:=h4,toks:=s2.toks+([]:List (Str × Value)).length }) G S rfl rfl m (by rw [<- f];exact hC) hcl hcs
 have Dfree:H2 D=none:=I2.hok.fresh (Nat.le_of_eq f.symm);have F:∀ b o,s2.heap.get? b=some o->b≠D:=fun b o e=>by
  rw [f];exact Nat.ne_of_lt (Heap.lt_size e)
 have b4:∀ b o,s2.heap.get? b=some o->b≠C:=fun b o e=>Nat.ne_of_lt (Nat.lt_of_lt_of_le (by rw [f];exact Heap.lt_size e) hC);have Dfs:D∉frs X.stack:=fun hm=>by
  obtain ⟨_,o,e,_⟩:=I2.stack.mem hm;exact F _ _ e rfl
 have P:∀ {σ':St} {H':Hp} {s':Shared} {us:List Value} {n:Nat} {pl:List (Addr × Obj)},Inv (X.inc (own++cs.map (·.2)) scope cl fp s2 H2 C) pl σ' H' s'->s'.heap.get? D=some { cls:=.type "list",data:=.seq us.toArray n }->H' D=none ->
   Inv (X.inc (own++cs.map (·.2)) scope cl fp s2 H2 C) [(D,{ cls:=.type "list",data:=.seq us.toArray n })] σ' H' s':=fun {σ' H' s' us n pl} J' e n'=>J'.pins_of fun p U=>by
  rcases mem_singleton.mp U with rfl
  exact ⟨e,n',t,Dfs,fun v z=>by cases z⟩
 have E:∀ {H':Hp} {o:Obj},(∀ b∈fp,H' b=none)->∀ b∈fp,FpOk (X.inc (own++cs.map (·.2)) scope cl fp s2 H2 C) [(D,o)] H' b:=fun {H' o} hn b d=>by
  refine ⟨hn b d,(G.exf b d).1,G.exfs b d, .inl d,(G.exf b d).2,fun p U=>?_⟩;rcases mem_singleton.mp U with rfl
  exact Nat.ne_of_gt (K b d)
 have M:∀ s3:Shared,s3={ s2 with heap:=h4,toks:=s2.toks+([]:List (Str × Value)).length } ->
   codeAny (model X.prog X.w) X.A (.compLoop (.ListComp elt [⟨tg,iter,[],0⟩] scope pos) 0 (.ref it) (.ref D) (compEnvC scope cl C X.env)) (compPost (model X.prog X.w) X.A X.xe none (EP X B σ Q) (.ref D) C) s3:=by
  rintro s3 rfl;refine Jg7 (fun n s'=>∃ i ys us nn H',Inv (X.inc (own++cs.map (·.2)) scope cl fp s2 H2 C) [(D,{ cls:=.type "list",data:=.seq us.toArray nn })] (List.replicate own.length none++JaB cs σ) H' s'/\tn i s'.heap/\(∀ b∈fp,H' b=none)/\Vals ys us/\W i n ys H') ?_ m0
   ⟨0,[],[],0,H2,P (us:=[]) (n:=0) I4 a6 Dfree,T.keep _ _ _ R fun b d o e=>S b o e,fun b d=>(V b d).1, .nil,w0⟩
  rintro n s5 ⟨i,ys,us,nn,Y,I5,a5,a3,vy,w5⟩;obtain ⟨hz,⟨a8,qn⟩ | ⟨go,a4⟩⟩:=a2 i n ys Y w5
  ·refine wpAny_mono (T.done (X.inc (own++cs.map (·.2)) scope cl fp s2 H2 C) rfl rfl rfl hc i _ s5 _ Y (fun _ _=>False) I5 (E a3) a5 a8) (fun r s6 z=>?_) fun _ _ z=>z;obtain ⟨rfl,I6⟩:=z;obtain ⟨m6,b5,_⟩:=id I6.loc;refine ⟨m6,b5,fun h7 b6=>?_⟩;obtain ⟨pD,pN,_,_,_⟩:=I6.pin (D,{ cls:=.type "list",data:=.seq us.toArray nn }) (by simp);have k:∀ b,b≠C->h7.get? b=s6.heap.get? b:=fun b d=>b6.2 b d;have Z:=b4;have u7:Un (frs X.stack) fp H2 Y s2.heap h7:=⟨fun b o e n1 n2 n3=>(k b (Z b o e)).trans (I6.base.keep b o e n1 n2 n3),fun b o e n1 n2 n3=>by
     obtain ⟨sl,z⟩:=I6.base.slot b o e n1 n2 n3;exact ⟨sl,(k b (Z b o e)).trans z⟩,I6.base.free,fun b o e n1=>by
     obtain ⟨o',z⟩:=I6.base.there b o e n1;exact ⟨o',(k b (Z b o e)).trans z⟩,I6.base.tups,I6.base.frzs,I6.base.tbls⟩
   have Cfree:Y C=none:=I6.free;have a1:HOk X.prog X.w Y h7:=fun a o e=>by
    refine (I6.hok a o e).stay (fun c v b0 q=>(k c ?_).trans q) (fun _ q=>q) fun _ _ q=>q;rintro rfl;rcases b0 with z | z
    ·rw [<- z] at e;rw [Cfree] at e;cases e
    ·rw [Cfree] at z;cases z
   have I7:Inv X B σ Y { s6 with heap:=h7 }:=I2.call' (s':={ s6 with heap:=h7 }) I6.os u7 a1 I6.bare fun b d=>⟨(V b d).2.2.2.1,(V b d).2.1,(V b d).2.2.2.2.1,(V b d).2.2.2.2.2⟩;have I8:=I7.track (a:=D) (o:=.lst ys) pN (Heap.get?_none_of_le (by rw [f];exact I2.sz)) (by rw [f];exact Nat.ne_of_gt I2.lt) (fun x c e z=>by
     obtain ⟨v,o,ho,_⟩:=I2.cell x c e;exact F _ _ ho z) (fun p U z=>F _ _ (I2.pin p U).1 z) ⟨hz,us,nn,vy,(k D t).trans pD⟩
   exact ⟨.ref D,_,I8,rfl,qn D pN⟩
  ·refine wpAny_mono (T.item (X.inc (own++cs.map (·.2)) scope cl fp s2 H2 C) rfl rfl rfl hc i _ s5 _ Y (fun _ _=>False) I5 (E a3) a5 go) (fun r s6 z=>?_) fun _ _ z=>z;obtain ⟨u,rfl,z⟩:=z;refine wpAny_mono z (fun _ s7 ζ=>?_) fun _ _ z=>z;obtain ⟨x,H7,I7,r7,y7,a0,b1⟩:=ζ;have I7':=I7.pinned (E b1) (T.obj _ _ a0);refine wpAny_mono (hg fp s2 H2 C _ s7 _ H7 x u _ I7' r7 (a4 x H7 y7)) (fun _ s8 ⟨σ8,H8,I8,q8⟩=>?_) fun _ _ z=>z;refine wpAny_mono (he fp s2 H2 C _ s8 σ8 H8 _ I8 q8) (fun uy s9 ζ=>?_) fun _ _ z=>z;obtain ⟨y,H9,I9,r9,m',a9,w9⟩:=ζ;obtain ⟨pD,pN,_,_,_⟩:=I9.pin (D,{ cls:=.type "list",data:=.seq us.toArray nn }) (by simp);refine append_at (its:=us.toArray) (n:=nn) pD (fun b2 L O=>?_) (by rw [size_toArray, <- vy.length];exact hz);have l:∀ b∈fp, ∀ o,s7.heap.get? b=some o->s9.heap.get? b=some o/\H9 b=none:=fun b d o e=>by
    have z:=I9.pin (b,o) (mem_append_right _ (mem_append_right _ (Jb6 d e)));exact ⟨z.1,z.2.1⟩
   have I9':Inv (X.inc (own++cs.map (·.2)) scope cl fp s2 H2 C) [] (List.replicate own.length none++JaB cs σ) H9 s9:=I2.incAgain I9 V hcl hcs;have I10:Inv (X.inc (own++cs.map (·.2)) scope cl fp s2 H2 C) [] (List.replicate own.length none++JaB cs σ) H9 { s9 with heap:=b2 }:=I9'.turned (it:=D) (t':=s9.toks) (fun b o d e=>(L.2 b d).trans e) pN t (.inr (Nat.le_of_eq f.symm)) (fun x c e z=>by
     obtain ⟨v,o,ho,_⟩:=I2.cell x c (hcl x c e);exact F _ _ ho z) fun p U=>by simp at U
   rw [lstP] at O;refine ⟨m',a9,i+1,ys++[y],us++[uy],nn+1,H9,P I10 O pN,T.keep _ _ _ a0 fun b d o e=>?_,fun b d=>?_,vy.append (.cons r9 .nil),w9⟩
   ·exact (L.2 b (Nat.ne_of_lt (K b d))).trans (l b d o e).1
   ·obtain ⟨o,e,_⟩:=T.obj _ _ a0 b d;exact (l b d o e).2
 exact codeAny_compStart_list (M _ rfl) (T.self _ 0 _ _ _ (T.keep _ _ _ R fun b d o e=>S b o e) (M _ rfl))
end
section
variable {X:Cx}
def rInU (K:W.Frag):R2:=fun x y H Q=>match x,y with
 | .str i, .str j=>Q (.bl (!(Builtin.Str.occurrences j i 0 j.length 1).isEmpty)) H
 | x,y=>rIn K false x y H Q
theorem Jij:OpR X (compareOp .In) (rInU X.K):=fun a s σ H x y v u Q I b c q=>by
 unfold rInU at q;split at q
 ·exact Jil a s σ H _ _ v u Q I b c ⟨_,_,rfl,rfl,q⟩
 ·exact Jik a s σ H _ _ v u Q I b c q
theorem Jk2 {K:W.Frag} (hK:X.K=K):OpR X (compareOp .In) (rInU K):=hK ▸ Jij
theorem ix_UK {K:W.Frag} (hK:X.K=K):IxR X (rIxU K):=hK ▸ ix_U
theorem Jk0 {K:W.Frag} (hK:X.K=K) (hu:X.A.units+64<cLine):OpR X (compareOp .Eq) (rEqU K):=hK ▸ Jcn hu
theorem y5fy {K:W.Frag} {i j:Str} {H:Hp} {Q:VK}:rInU K (.str i) (.str j) H Q=Q (.bl (!(Builtin.Str.occurrences j i 0 j.length 1).isEmpty)) H:=rfl
theorem all_range:∀ bs:List Bool,(List.range bs.length).all (fun i=>bs.getD i false)=bs.all id:=fun bs=>by
 rw [Bool.eq_iff_iff];simp only [all_eq_true,List.mem_range,id];constructor
 ·intro h x b;obtain ⟨i,a,rfl⟩:=List.mem_iff_getElem.mp b;have:=h i a;simpa [List.getD_eq_getElem?_getD,a] using this
 ·intro h i a;have:=h bs[i] (List.getElem_mem a);simpa [List.getD_eq_getElem?_getD,a] using this
def rAll (K:W.Frag):List V->Hp->VK->Prop:=fun xs H Q=>∃ (p:Addr) (bs:List Bool),xs=[.ref p]/\SqL K H p (bs.map V.bl)/\Q (.bl (bs.all id)) H
theorem Jhx (hc:X.calm=true):CallR X (.builtin "all") (rAll X.K):=fun n s σ H E L Q I r q=>by
 obtain ⟨p,c,rfl,D,q⟩:=q;obtain ⟨a,h,f,F⟩:=I.list D;obtain ⟨u,rfl,B⟩:=vals1 r;cases (show u=Value.ref p from B);refine call_all_walk (wpAny_pyIter_list f.isList ?_);have g:p<s.heap.objs.size:=by
  obtain ⟨_,e,_⟩:=f.isList;exact Heap.lt_size e
 refine ⟨s.heap.objs.size,_,_,a.toArray.size,_,_,fun i=>c.getD i false,rfl,Walks.list (by show X.A.handled=none;exact I.ok.hd hc) s.heap.objs.size p (Nat.ne_of_lt g) a.toArray,⟨⟨_,Heap.get?_push_size _ rfl,rfl,rfl⟩,f.isList.push _⟩,?_,?_⟩
 ·intro i v M Q' E' w C;have d:a[i]?=some v:=by simpa using w
  have m:i<c.length:=by
   obtain ⟨G,_⟩:=List.getElem?_eq_some_iff.mp d;have l:=h.length;rw [length_map] at l;ac_nf
  obtain ⟨N,j,o⟩:=h.get (i:=i) (x:=.bl c[i]) (by simp [m]);rw [d] at j;cases j;cases (show v=Value.bool c[i] from o);refine wpAny_truthy_bool ?_;simpa [List.getD_eq_getElem?_getD,m] using C
 ·intro J z k;have l:=h.length;rw [length_map] at l;have y:(List.range a.toArray.size).all (fun i=>c.getD i false)=c.all id:=by rw [size_toArray, <- l];exact all_range c
  rw [y];exact ⟨.bl _,H,I.kept (t':=z) fun b t e=>k b t (by have:=Heap.lt_size e;simp;exact Nat.ne_of_lt this) (Heap.get?_push_of_some _ e),rfl,q⟩
def rSlS:V->Option Int->Option Int->Hp->VK->Prop:=fun x lo hi H Q=>∃ z,x=.str z/\z.length<=sizeLine/\Q (.str (Txt.slice z lo hi)) H
theorem Jlh:SlR X rSlS:=fun b s σ H x v vl m g f n Q I j d i pu h=>by
 obtain ⟨z,rfl,c,q⟩:=h;obtain ⟨t,rfl⟩:=j;refine ⟨"str",_,F.slot_str_getitem.lookup,typeIs_str _ _ _,?_⟩;have a:∀ (e:Tok) (k:Nat),EP X b σ Q (.str (Txt.slice z g f) e) { s with toks:=k }:=fun e k=>⟨.str _,H,I.tok k,⟨_,rfl⟩,q⟩;cases i <;> cases pu
 ·exact wpAny_getItem_str_slice (l:=none) (u:=none) (st:=none) d rfl (post_val_or_str ⟨Nat.le_trans (Txt.slice_le z _ _) c,a⟩)
 ·exact wpAny_getItem_str_slice (l:=none) (u:=some (_,_)) (st:=none) d rfl (post_val_or_str ⟨Nat.le_trans (Txt.slice_le z _ _) c,a⟩)
 ·exact wpAny_getItem_str_slice (l:=some (_,_)) (u:=none) (st:=none) d rfl (post_val_or_str ⟨Nat.le_trans (Txt.slice_le z _ _) c,a⟩)
 ·exact wpAny_getItem_str_slice (l:=some (_,_)) (u:=some (_,_)) (st:=none) d rfl (post_val_or_str ⟨Nat.le_trans (Txt.slice_le z _ _) c,a⟩)
def rSlV (K:W.Frag):V->Option Int->Option Int->Hp->VK->Prop:=fun x lo hi H Q=>rSlU K x lo hi H Q\/rSlS x lo hi H Q
theorem sl_V:SlR X (rSlV X.K):=SlR.or sl_U Jlh
end
theorem hcl0 {X:Cx}:∀ (x:Str) (c:Addr),([]:List (Str × Addr)).lookup x=some c->X.env.cells.lookup x=some c:=fun _ _ h=>by simp at h
theorem hcs0 {X:Cx} {scope:Scope}:∀ p∈([]:List (Nat × Str)),X.N[p.1]?=some p.2/\X.env.scope.names.lookup p.2=some .cell/\(relabel scope X.env).names.lookup p.2=some .cell:=fun _ h=>by simp at h
theorem hhas0 {X:Cx} {scope:Scope} (h:scope.names.all (fun p=>p.2 != .free&&p.2 != .cell)=true):∀ y,((relabel scope X.env).names.lookup y=some .cell\/(relabel scope X.env).names.lookup y=some .free)->∃ c,([]:List (Str × Addr)).lookup y=some c:=fun y a=>by
 exfalso;have i:=all_eq_true.mp h;have b:∀ k,(relabel scope X.env).names.lookup y=some k->k≠.cell/\k≠.free:=fun k e=>by
  have m:=PySem.mem_of_lookup e;obtain ⟨⟨n,f⟩,j,g⟩:=mem_map.mp (show (y,k)∈scope.names.map _ from m);have z:=i _ j;simp only [bne_iff_ne,ne_eq,Bool.and_eq_true] at z;have d:(if (f == NameKind.free&&X.env.scope.kind == .function&&X.env.kindOf n == some .cell)=true then (n,NameKind.cell) else (n,f))=(y,k):=g;split at d
  ·rename_i c;rw [Bool.and_eq_true,Bool.and_eq_true] at c;exact absurd (beq_iff_eq.mp c.1.1) z.1
  ·cases d;exact ⟨z.2,z.1⟩
 rcases a with a | a
 ·exact (b _ a).1 rfl
 ·exact (b _ a).2 rfl
def tyD:D->String
 | .non=>"NoneType"
 | .bl _=>"bool"
 | .int _=>"int"
 | .str _=>"str"
 | .tup _=>"tuple"
 | .lst _=>"list"
theorem Rep.tyN {K:W.Frag} {H:Hp} {d:D} {x:V} (h:Rep K H d x):L2.tyN K H x (tyD d):=by
 cases d <;> simp only [Rep] at h
 ·subst h;rfl
 ·subst h;rfl
 ·subst h;rfl
 ·subst h;rfl
 ·obtain ⟨a,b,rfl,q,_⟩:=h;exact .inr ⟨rfl,b,q⟩
 ·obtain ⟨a,b,rfl,q,_⟩:=h;exact .inl ⟨rfl,b,q⟩
mutual
def szD:D->Prop
 | .int i=>Mth.Sz 4000 i
 | .str s=>s.length<=1000
 | .tup xs=>szL xs
 | .lst xs=>szL xs
 | _=>True
def szL:List D->Prop
 | []=>True
 | x::xs=>szD x/\szL xs
end
def lowB (c:Nat):Bool:=decide (97<=c/\c<=122)
def nameS (s:Str):Bool:=(decide (1<=s.length)&&decide (s.length<=8))&&s.cps.toList.all lowB
def nameB:D->Bool
 | .str s=>nameS s
 | _=>false
def Jdo:D->Bool
 | .int _=>true
 | _=>false
def fracB:D->Bool
 | .tup [.int a, .int b]=>decide (1<=b)&&decide (Mth.g a b=1)
 | _=>false
def Jco:D->Bool
 | .non=>true
 | d=>fracB d
def Jev (d e:D):Bool:=nameB d&&nameB e&&!eqD d e
def lessD:D->D->Bool
 | .tup [.int a, .int b], .tup [.int c, .int d]=>decide (a*d<c*b)
 | _,_=>false
def JdC (l g:D):Bool:=Jco l&&Jco g&&!lessD g l
def tieB:D->Bool
 | .tup [n,s,e,l,g]=>nameB n&&Jev s e&&JdC l g
 | _=>false
theorem Jhd:(Str.ofString "abcdefghijklmnopqrstuvwxyz").cps.toList=List.range' 97 26:=by decide
theorem Jg9 (c:Nat):(!(Builtin.Str.occurrences (Str.ofString "abcdefghijklmnopqrstuvwxyz") ⟨#[c]⟩ 0 (Str.ofString "abcdefghijklmnopqrstuvwxyz").length 1).isEmpty)=lowB c:=by
 rw [StrLaws.found_one,Jhd];unfold lowB
 congr 1
 rw [List.mem_range'];refine propext ⟨fun ⟨i,a,e⟩=>by ac_nf,fun h=>⟨c-97,by ac_nf,by ac_nf⟩⟩
structure KCal (P:Program) (w:World) (K:W.Frag) (mg:Str->Option Value) (base:Heap) (k:Nat) (x:Str) (C:Addr) (ps:List Str) (sp:Sp):Prop where
 ex:∃ (f:Addr) (fd:FuncData),FnOk P w K mg base (CX1 P w) k f fd ps sp/\mg x=some (.ref C)/\Mk K C f/\Binds K fd ps []
structure MCal (P:Program) (w:World) (K:W.Frag) (mg:Str->Option Value) (base:Heap) (k:Nat) (m:Str) (Cs:Addr->Prop) (ps:List Str) (sp:Sp):Prop where
 ex:∃ (f:Addr) (fd:FuncData),FnOk P w K mg base (CX1 P w) k f fd ps sp/\(∀ C,Cs C->Cls K C/\Meth K C m f)/\W.keepIn K (.ref f)=true/\Binds K fd ps []
def Jg2 (Cs:Addr->Prop) (m:Str) (sp:Sp) (E:XK) (ta:TE) (t:TA):TE:=fun σ H Q=>ta σ H fun x H1=>∃ a C dx fs,x=.ref a/\H1 a=some (.ins C dx fs)/\Cs C/\fs.lookup m=none/\t σ H1 fun vs H2=>sp (x::vs) H2 Q E
section
variable {X:Cx} {k k':Nat} {x mn:Str} {C:Addr} {Cs:Addr->Prop} {ps:List Str} {sp:Sp} {E:XK} {p pos apos:Pos} {e o:Expr} {es:List Expr} {t:TA} {ta:TE}
theorem KCal.ev (G:KCal X.prog X.w X.K X.mg X.base k x C ps sp) (hr:Room k' X.A) (hk:k+1<=k') (hg:Gl X x) (hx:Jb3 (CX1 X.prog X.w) X E) (ha:PA X (e::es) t)
  (hdb:(x == ("__debug__" : Str))=false:=by decide) (he:starEach (e::es) X.env=(false,eval e X.env)::starEach es X.env:=by rfl) (hpl:(backTo pos (starEach es X.env)).any (·.1)=false:=by rfl) :
  PE X (.Call (.Name x p) (e::es) [] pos) (tMake C sp [] E t):=by
 obtain ⟨f,c,F,b,M,a⟩:=G.ex;exact Jkj M F (hr.mono hk) hg b a .nil hx ha hdb he hpl
theorem MCal.m {pl:Sem Bool} (G:MCal X.prog X.w X.K X.mg X.base k mn Cs ps sp) (hr:Room k' X.A) (hk:k<=k') (hx:Jb3 (CX1 X.prog X.w) X E) (ho:PE X o ta) (ha:PA X (e::es) t)
  (hst:starEach (e::es) X.env=(false,eval e X.env)::starEach es X.env:=by rfl) (hpl:(backTo pos (starEach es X.env)).any (·.1)=false:=by rfl)
  (ht:eval (.Call (.Attribute o mn apos) (e::es) [] pos) X.env=(do
   let ov <- eval o X.env
   standAt apos.atName
   let (f,first) <- holding [ov] (getMethod ov mn pl)
   callWith pos f first (backTo pos (starEach (e::es) X.env)) (backToKw pos (keywordEach [] X.env))):=by rfl) :
  PE X (.Call (.Attribute o mn apos) (e::es) [] pos) (Jg2 Cs mn sp E ta t):=by
 obtain ⟨f,M,F,c,i,n⟩:=G.ex;intro b s σ H Q I h;refine W.methodCall_KW (pl:=pl) (thn (ho b s σ H _ I h) fun u z ζ=>?_) ht;obtain ⟨x,g,I1,v,a,C,J,B,j,p,d,l,q⟩:=ζ;subst j;obtain rfl:u=Value.ref a:=v;refine Jc8 I1 p (c C d).1 (c C d).2 l ?_;refine W.callWith_K (first:=[.ref a]) (h₀:=X.base) I.ok.mod.kin i (thn (ha pos b z σ g _ I1 q) fun us L ⟨vs,D,I2,r,y⟩=>⟨I2.kIn,?_⟩) hst hpl;exact JfG (us:=.ref a::us) (vs:=.ref a::vs) F (hr.mono hk) n .nil hx I2 (.cons rfl r) (by simpa using y)
theorem MCal.m0 {pl:Sem Bool} (G:MCal X.prog X.w X.K X.mg X.base k mn Cs ps sp) (hr:Room k' X.A) (hk:k<=k') (hx:Jb3 (CX1 X.prog X.w) X E) (ho:PE X o ta)
  (ht:eval (.Call (.Attribute o mn apos) [] [] pos) X.env=(do
   let ov <- eval o X.env
   standAt apos.atName
   let (f,first) <- holding [ov] (getMethod ov mn pl)
   callWith pos f first (backTo pos (starEach [] X.env)) (backToKw pos (keywordEach [] X.env))):=by rfl) :
  PE X (.Call (.Attribute o mn apos) [] [] pos) (Jg2 Cs mn sp E ta tNil):=by
 obtain ⟨f,v,F,c,g,j⟩:=G.ex;intro b s σ H Q I h;refine W.methodCall_KW (pl:=pl) (thn (ho b s σ H _ I h) fun u t ζ=>?_) ht;obtain ⟨x,e,I1,n,a,C,r,p,i,m,d,l,q⟩:=ζ;subst i;obtain rfl:u=Value.ref a:=n;refine Jc8 I1 m (c C d).1 (c C d).2 l ?_;exact W.callWith_K0 (first:=[.ref a]) I1.kIn g (JfG (us:=[.ref a]) (vs:=[.ref a]) F (hr.mono hk) j .nil hx I1 (.cons rfl .nil) (show sp ([.ref a]++[]) e Q E from q))
def rMulS:R2:=fun x y H Q=>match x,y with
 | .str z, .int n=>0<n/\n<1000/\z.length<=1000/\∀ z':Str,z'.cps.toList=(List.replicate n.toNat z.cps.toList).flatten->Q (.str z') H
 | x,y=>rMulU x y H Q
theorem JeE:∀ (l:List (Array Nat)) (acc:Array Nat),(l.foldl (· ++ ·) acc).toList=acc.toList++(l.map (·.toList)).flatten
 | [],acc=>by simp
 | x::l,acc=>by
  rw [foldl_cons,JeE l];simp
theorem Jim:OpR X (binaryOp .Mult) rMulS:=fun a s σ H x y v u Q I b d q=>by
 unfold rMulS at q;split at q
 ·rename_i z n;obtain ⟨g,k,h,q⟩:=q;obtain ⟨t,rfl⟩:=b;obtain ⟨j,rfl⟩:=d;have f:z.cps.size=z.length:=rfl;have i:z.length*n.toNat<=1000*1000:=Nat.mul_le_mul h ∅;refine PySem.P.mul_str (by simp;ac_nf) (fun _ _=>?_) (fun _ _=>?_) ?_
  ·have : (1000:Int)<=(2 ^ 63-1)/n:=by
    rw [Int.le_ediv_iff_mul_le g];ac_nf
   ac_nf
  ·unfold Builtin.Str.tooLong;simp;have : (1000*1000:Nat)<=sizeLine:=by decide
   ac_nf
  ·rw [if_neg ∅];split
   ·rename_i c;refine ⟨.str z,H,I,⟨_,rfl⟩,q z ?_⟩;rcases Bool.or_eq_true _ _ |>.mp c with c | c
    ·obtain rfl:n=1:=by simpa using c
     simp
    ·have e:z.cps.toList=[]:=by
      have : z.length=0:=by simpa using c
      exact List.eq_nil_of_length_eq_zero (by rw [Array.length_toList];exact this)
     rw [e];simp
   ·refine ⟨?_, .str _,H,I.tok _,⟨_,rfl⟩,q _ ?_⟩
    ·show (Array.size _)<=sizeLine;rw [<- Array.length_toList,JeE];simp;have : (1000*1000:Nat)<=sizeLine:=by decide
     rw [Nat.mul_comm,f];ac_nf
    ·rw [JeE];simp
 ·exact Jke a s σ H _ _ v u Q I b d q
def rIsN:R2:=fun x y H Q=>y=.non/\Q (.bl (decide (x=.non))) H
def rNotN:R2:=fun x y H Q=>y=.non/\Q (.bl (!decide (x=.non))) H
theorem Jbq:OpR X (compareOp .Is) rIsN:=Jk3
theorem JbQ:OpR X (compareOp .IsNot) rNotN:=Jkf
def Jld (K:W.Frag):List V->Hp->VK->Prop:=fun xs H Q=>∃ p ys,xs=[.ref p]/\(SqL K H p ys\/SqT K H p ys)/\∀ l,H l=none->Q (.ref l) (upd H l (.lst ys))
theorem Jeo:CallR X (.type "list") (Jld X.K):=Jfh
end
section
variable {K:W.Frag} {H:Hp} {Q:VK}
theorem y62y {x:V}:rIsN x .non H Q=Q (.bl (decide (x=.non))) H:=by simp [rIsN]
theorem y78y {x:V}:rNotN x .non H Q=Q (.bl (!decide (x=.non))) H:=by simp [rNotN]
theorem y68y {C:Addr} {sp:Sp} {dvs:List V} {E:XK} {t:TA} {σ : St}:tMake C sp dvs E t σ H Q=t σ H fun vs H1=>∀ x dx,H1 x=none->H1 dx=none->dx≠x->sp (.ref x::(vs++dvs)) (upd (upd H1 dx (.own x)) x (.ins C dx [])) (fun v H2=>v=.non/\Q (.ref x) H2) E:=rfl
theorem y69y {Cs:Addr->Prop} {mn:Str} {sp:Sp} {E:XK} {ta:TE} {t:TA} {σ : St}:Jg2 Cs mn sp E ta t σ H Q=ta σ H fun x H1=>∃ a C dx fs,x=.ref a/\H1 a=some (.ins C dx fs)/\Cs C/\fs.lookup mn=none/\t σ H1 fun vs H2=>sp (x::vs) H2 Q E:=rfl
theorem y4dy {ta:TE} {f:Str} {σ : St}:tFld K ta f σ H Q=ta σ H fun x H1=>∃ a C dx fs v,x=.ref a/\H1 a=some (.ins C dx fs)/\Cls K C/\Jba K C f/\fs.lookup f=some v/\Q v H1:=rfl
theorem y86y {ta tv:TE} {f:Str} {σ : St} {En:Ends}:sFld K ta tv f En σ H=tv σ H fun y H1=>ta σ H1 fun x H2=>∃ a C dx fs,x=.ref a/\H2 a=some (.ins C dx fs)/\Cls K C/\Jba K C f/\fs.length<1000/\En.nx σ (upd H2 a (.ins C dx (putF f y fs))):=rfl
theorem y2cy {T:String} {r:V->List V->Hp->VK->Prop} {to:TE} {t:TA} {σ : St}:tBM K T r to t σ H Q=to σ H fun x H1=>tyV K T x H1/\t σ H1 fun vs H2=>r x vs H2 Q:=rfl
theorem y59y {g:TG} {gs:TGs} {v:V} {r:List V} {σ : St} {R:St->Hp->Prop}:gCons g gs (v::r) σ H R=g v σ H fun σ' H'=>gs r σ' H' R:=by
 unfold gCons;refine propext ⟨fun ⟨a,b,e,h⟩=>?_,fun h=>⟨v,r,rfl,h⟩⟩;cases e;exact h
theorem y5by {σ : St} {R:St->Hp->Prop}:gNil [] σ H R=R σ H:=by unfold gNil;simp
theorem FrV.of_rep {x:V} {a b:Int} (h:Rep K H (.tup [.int a, .int b]) x):FrV K H x a b:=by
 simp only [Rep,RepL] at h;obtain ⟨p,c,rfl,q,v,r,rfl,rfl,d,e,rfl,rfl,rfl⟩:=h;exact ⟨p,rfl,q⟩
theorem Jb5 {d:D} (h:fracB d=true):∃ a b,d=.tup [.int a, .int b]/\1<=b/\Mth.g a b=1:=by
 unfold fracB at h;split at h
 ·rw [Bool.and_eq_true] at h;exact ⟨_,_,rfl,by simpa using h.1,by simpa using h.2⟩
 ·cases h
theorem Jex {d:D} (h:nameB d=true):∃ z,d=.str z/\nameS z=true:=by
 cases d <;> first | exact ⟨_,rfl,h⟩ | (simp [nameB] at h)
theorem Rep.str {d:Str} {x:V} (h:Rep K H (.str d) x):x=.str d:=by simpa only [Rep] using h
def nonD:D->Bool
 | .non=>true
 | _=>false
theorem Jif {d:D} (h:d≠.non):nonD d=false:=by cases d <;> first | rfl | exact absurd rfl h
theorem Rep.nonV {d:D} {x:V} (hx:Rep K H d x):decide (x=.non)=nonD d:=by
 cases d <;> simp only [Rep] at hx
 ·subst hx;rfl
 ·subst hx;rfl
 ·subst hx;rfl
 ·subst hx;rfl
 ·obtain ⟨a,b,rfl,_⟩:=hx;rfl
 ·obtain ⟨a,b,rfl,_⟩:=hx;rfl
theorem putE {H':Hp} {l:Addr} {o:HO} (e:upd H l o=H'):H' l=some o:=by rw [<- e,Jau]
theorem putN {H':Hp} {l b:Addr} {o o' u:HO} (e:upd H l o=H') (hl:H l=some o') (hb:H b=some u) (ne:u≠o'):H' b=some u:=by
 rw [<- e,Jai (ne_of hb hl ne)];exact hb
end
def tieF (n s e l g:V):List (Str × V):=[("name",n),("start",s),("end",e),("least",l),("greatest",g)]
section
variable {En:Ends} {σ : St} {H:Hp} {Q:VK} {ta tb te tc td:TE} {K:W.Frag}
end
def JbI (cells:List (Str × Addr)):List (Str × NameKind)->List (Str × Addr)->List (Str × Addr)
 | [],acc=>acc
 | (n,k)::r,acc=>JbI cells r (if k == .free then (n,(cells.lookup n).getD 0)::acc else acc)
theorem JfY {env:Env}:∀ (names:List (Str × NameKind)) (acc:List (Str × Addr)),(∀ p∈names,p.2=.free->∃ c,env.cells.lookup p.1=some c) ->
  (forIn names acc fun (p:Str × NameKind) cs=>(if p.2 == .free then do let c <- cellOf env p.1;pure (ForInStep.yield ((p.1,c)::cs)) else pure (ForInStep.yield cs):Sem (ForInStep (List (Str × Addr)))))=(pure (JbI env.cells names acc):Sem (List (Str × Addr)))
 | [],acc,_=>by simp [JbI]
 | (n,k)::r,acc,h=>by
  rw [List.forIn_cons];by_cases c:(k == .free)=true
  ·obtain ⟨a,ha⟩:=h (n,k) mem_cons_self (beq_iff_eq.mp c);have e:cellOf env n=pure a:=by unfold cellOf;rw [ha]
   simp only [c,if_true,e,pure_bind];have:=JfY (env:=env) r ((n,a)::acc) fun p hp=>h p (mem_cons_of_mem _ hp);simp only [JbI,c,if_true,ha,Option.getD_some];exact this
  ·have c':(k == .free)=false:=by simpa using c
   simp only [c',Bool.false_eq_true,if_false,pure_bind];have:=JfY (env:=env) r acc fun p hp=>h p (mem_cons_of_mem _ hp);simp only [JbI,c',Bool.false_eq_true,if_false];exact this
theorem JhA {scope:Scope} {env:Env} (h:∀ p∈scope.names,p.2=.free->∃ c,env.cells.lookup p.1=some c):closureFor scope env=pure (JbI env.cells scope.names []):=by
 have:=JfY (env:=env) scope.names [] h;unfold closureFor;simp only [pure_bind];refine Eq.trans ?_ (congrArg (fun m:Sem (List (Str × Addr))=>m >>= pure) this |>.trans (by simp));first | rfl | (congr 1)
theorem Jc5 {cells:List (Str × Addr)}:∀ (names:List (Str × NameKind)) (acc:List (Str × Addr)),(∀ x c,acc.lookup x=some c->cells.lookup x=some c)->(∀ p∈names,p.2=.free->∃ c,cells.lookup p.1=some c) ->
  ∀ x c,(JbI cells names acc).lookup x=some c->cells.lookup x=some c
 | [],acc,ha,_,x,c,h=>ha x c h
 | (n,k)::r,acc,ha,hf,x,c,h=>by
  simp only [JbI] at h;refine Jc5 r _ ?_ (fun p hp=>hf p (mem_cons_of_mem _ hp)) x c h;intro y d hy;by_cases f:(k == .free)=true
  ·rw [if_pos f] at hy;obtain ⟨a,e⟩:=hf (n,k) mem_cons_self (beq_iff_eq.mp f);rw [List.lookup_cons] at hy;by_cases q:(y == n)=true
   ·rw [q] at hy;have q':y=n:=beq_iff_eq.mp q;subst q';have e':cells.lookup y=some a:=e;rw [e'] at hy ⊢;simpa using hy
   ·have q':(y == n)=false:=by simpa using q
    rw [q'] at hy;exact ha y d hy
  ·rw [if_neg f] at hy;exact ha y d hy
theorem Jc4 {cells:List (Str × Addr)}:∀ (names:List (Str × NameKind)) (acc:List (Str × Addr)) (y:Str),((∃ c,acc.lookup y=some c)\/(y,NameKind.free)∈names)->∃ c,(JbI cells names acc).lookup y=some c
 | [],acc,y,h=>by
  rcases h with h | h
  ·exact h
  ·simp at h
 | (n,k)::r,acc,y,h=>by
  simp only [JbI];refine Jc4 r _ y ?_;rcases h with ⟨c,h⟩ | h
  ·refine .inl ?_;split
   ·rw [List.lookup_cons];cases (y == n)
    ·exact ⟨c,h⟩
    ·exact ⟨_,rfl⟩
   ·exact ⟨c,h⟩
  ·rcases mem_cons.mp h with e | h
   ·cases e;refine .inl ?_;rw [if_pos ⋯,List.lookup_cons];simp
   ·exact .inr h
section
variable {X:Cx} {tg:Expr}
theorem JgX {iter elt:Expr} {scope:Scope} {pos:Pos} {own:List Str} {cs:List (Nat × Str)} {wi:TI} {g:TG} {te:TE} (hc:X.calm=true) (hi:PI X tg iter wi)
  (hg:∀ fp s2 H2 C,PG (X.inc (own++cs.map (·.2)) scope (JbI X.env.cells scope.names []) fp s2 H2 C) tg g) (he:∀ fp s2 H2 C,PE (X.inc (own++cs.map (·.2)) scope (JbI X.env.cells scope.names []) fp s2 H2 C) elt te)
  (hfree:∀ p∈scope.names,p.2=.free->X.env.scope.names.lookup p.1=some .cell) (hcell:∀ y∈scope.names,y.2≠.cell) (hkind:scope.kind=.function) (hnames:∀ y∈scope.names,y.2=.local->scope.names.lookup y.1=some .local)
  (hcs:∀ p∈cs,X.N[p.1]?=some p.2/\X.env.scope.names.lookup p.2=some .cell/\(relabel scope X.env).names.lookup p.2=some .cell)
  (hs:∀ x,foldedSetIterable iter X.env x=pure x:=by intro _;rfl):PE X (.ListComp elt [⟨tg,iter,[],0⟩] scope pos) (tComp own.length cs wi g te):=by
 intro a s σ H Q I h;have l:∀ p∈scope.names,p.2=.free->∃ c,X.env.cells.lookup p.1=some c:=fun p r i=>I.ok.has p.1 (.inl (hfree p r i));refine JcL hc hi hg he (JhA l) hcell hkind hnames (Jc5 scope.names [] (fun _ _ z=>by simp at z) l) (fun y b=>Jc4 scope.names [] y (.inr ?_)) hcs hs a s σ H Q I h;have j:∀ k,(k=.cell\/k=.free)->(relabel scope X.env).names.lookup y=some k->(y,NameKind.free)∈scope.names:=fun k i e=>by
  have m:=PySem.mem_of_lookup e;obtain ⟨⟨n,o⟩,f,q⟩:=mem_map.mp (show (y,k)∈scope.names.map _ from m);have d:(if (o == NameKind.free&&X.env.scope.kind == .function&&X.env.kindOf n == some .cell)=true then (n,NameKind.cell) else (n,o))=(y,k):=q;split at d
  ·rename_i c;rw [Bool.and_eq_true,Bool.and_eq_true] at c;have:=beq_iff_eq.mp c.1.1;subst this;cases d;exact f
  ·cases d;rcases i with rfl | rfl
   ·exact absurd rfl (hcell _ f)
   ·exact f
 rcases b with b | b
 ·exact j _ (.inl rfl) b
 ·exact j _ (.inr rfl) b
theorem JhX {scope sc:Scope} (h:scope.names.all (fun p=>p.2 != .free||(sc.names.lookup p.1 == some .cell))=true):∀ p∈scope.names,p.2=.free->sc.names.lookup p.1=some .cell:=fun p a b=>by
 have z:=all_eq_true.mp h p a;rw [b] at z;simpa using z
end
theorem hcs1 {X:Cx} {scope:Scope} {i:Nat} {x:Str} (a:X.N[i]?=some x) (b:X.env.scope.names.lookup x=some .cell) (c:(relabel scope X.env).names.lookup x=some .cell) :
  ∀ p∈[(i,x)],X.N[p.1]?=some p.2/\X.env.scope.names.lookup p.2=some .cell/\(relabel scope X.env).names.lookup p.2=some .cell:=fun p d=>by
 rcases mem_singleton.mp d with rfl
 exact ⟨a,b,c⟩
theorem JeO {a b:Int} (hb:1<=b) (h:Mth.g a b=1):Mth.top (0*b-a*1) (1*b) = -a/\Mth.bot (0*b-a*1) (1*b)=b:=by
 have e:(0*b-a*1:Int) = -a:=by simp
 have d:(1*b:Int)=b:=by simp
 rw [e,d];have c:b≠0:=by ac_nf
 have u:=Mth.Jc9 (Mth.Jbk (t:=-a) c) hb (Mth.g_low (t:=-a) c) (by rw [Mth.g_neg];exact h) (Mth.cross (t:=-a) c);exact u
section
variable {X:Cx} {tg:Expr}
theorem JjW {X:Cx} {scope:Scope} (hcell:∀ y∈scope.names,y.2≠.cell) {y:Str} (hy:(relabel scope X.env).names.lookup y=some .cell\/(relabel scope X.env).names.lookup y=some .free):(y,NameKind.free)∈scope.names:=by
 have d:∀ k,(k=.cell\/k=.free)->(relabel scope X.env).names.lookup y=some k->(y,NameKind.free)∈scope.names:=fun k h e=>by
  have m:=PySem.mem_of_lookup e;obtain ⟨⟨n,f⟩,a,g⟩:=mem_map.mp (show (y,k)∈scope.names.map _ from m);have b:(if (f == NameKind.free&&X.env.scope.kind == .function&&X.env.kindOf n == some .cell)=true then (n,NameKind.cell) else (n,f))=(y,k):=g;split at b
  ·rename_i c;rw [Bool.and_eq_true,Bool.and_eq_true] at c;have:=beq_iff_eq.mp c.1.1;subst this;cases b;exact a
  ·cases b;rcases h with rfl | rfl
   ·exact absurd rfl (hcell _ a)
   ·exact a
 rcases hy with hy | hy
 ·exact d _ (.inl rfl) hy
 ·exact d _ (.inr rfl) hy
end
section
variable {prog:Program} {w:World} {A:Around} {E:Value->Shared->Prop} {R:Result->Shared->Prop} {s:Shared}
theorem Jf0 {elt target iter tst:Expr} {scope:Scope} {pos:Pos} {it acc:Value} {env:Env} (J:Nat->Shared->Prop)
  (turn:∀ n s,J n s->wpAny (model prog w) A (pyNext it) (fun r s1=>match r with
   | none=>R (.ok .next) s1
   | some v=>wpAny (model prog w) A (letOwnedTupleGo target it v) (fun _ s2=>wpAny (model prog w) A (assign target env v) (fun _ s3=>wpAny (model prog w) A (isTrue tst env (eval tst env)) (fun b s3'=>if b=true then wpAny (model prog w) A (eval elt env) (fun x s4=>
     wpAny (model prog w) A (call (.builtin "list.append") [acc,x]) (fun _ s5=>∃ m,m<n/\J m s5) (fun _ _=>False) s4) (fun _ _=>False) s3' else ∃ m,m<n/\J m s3') (fun _ _=>False) s3) (fun _ _=>False) s2) (fun _ _=>False) s1) (fun _ _=>False) s) (n:Nat) (h:J n s) :
  codeAny (model prog w) A (.compLoop (.ListComp elt [⟨target,iter,[tst],0⟩] scope pos) 0 it acc env) R s:=by
 refine codeAny_loop rfl J (fun n s d=>?_) n h;show wpAny _ A ((compTurn (.ListComp elt [⟨target,iter,[tst],0⟩] scope pos) 0 it acc env).onRaise (fun y=>do noteFrame y env;theTreesLotGoes y)) _ _ s
 (refine wpAny_noted ?_;rw [compTurn_list])
 refine wpAny_bind (wpAny_standAt (wpAny_bind (wpAny_mono (turn n s d) (fun r s1 c=>?_) fun _ _ z=>z.elim)));cases r with
 | none=>exact wpAny_pure c
 | some v=>
  refine wpAny_bind (wpAny_mono c (fun _ s2 f=>wpAny_bind (wpAny_mono f (fun _ s3 e=>?_) fun _ _ z=>z.elim)) fun _ _ z=>z.elim);refine wpAny_bind (wpAny_tests_one (wpAny_mono e (fun b s3' a=>?_) fun _ _ z=>z.elim));cases b with
  | true=>exact wpAny_bind (wpAny_bind (wpAny_mono a (fun x s4 g=>(wpAny_bind (wpAny_mono g (fun _ s5 i=>(wpAny_pure (wpAny_pure ⟨rfl,i⟩))) fun _ _ z=>z.elim))) fun _ _ z=>z.elim))
  | false=>exact wpAny_bind (wpAny_pure (wpAny_pure ⟨rfl,a⟩))
end
def Jg1 (k:Nat) (cs:List (Nat × Str)) (wi:TI) (g:TG) (tt:TT) (te:TE):TE:=fun σ H Q=>wi σ H fun J H1=>∃ W:Nat->Nat->List V->Hp->Prop,(∃ m,W 0 m [] H1)/\∀ i m ys H2,W i m ys H2->ys.length<=sizeLine /\
  ((J.stop i H2/\∀ p,H2 p=none->Q (.ref p) (upd H2 p (.lst ys))) \/
   (J.go i H2/\∀ x H3,J.yld i H2 x H3->g x (List.replicate k none++JaB cs σ) H3 fun σ4 H4=>tt σ4 H4 fun b H5=>if b=true then te σ4 H5 fun y H6=>∃ m',m'<m/\W (i+1) m' (ys++[y]) H6 else ∃ m',m'<m/\W (i+1) m' ys H5))
section
variable {X:Cx} {tg:Expr}
theorem JfZ {iter elt tst:Expr} {scope:Scope} {pos:Pos} {own:List Str} {cl:List (Str × Addr)} {cs:List (Nat × Str)} {g:TG} {te:TE} {tt:TT} {pins:List (Addr × Obj)} {s2:Shared} {σ : St} {H2:Hp} {it:Addr} {fp:List Addr} {tn:Nat->Heap->Prop} {J:It}
  {W:Nat->Nat->List V->Hp->Prop} {m0:Nat} {QN:List V->Hp->Prop} {RR:Value->Addr->Result->Shared->Prop} {E:Value->Shared->Prop} (hc:X.calm=true)
  (hg:∀ fp s2 H2 C,PG (X.inc (own++cs.map (·.2)) scope cl fp s2 H2 C) tg g) (ht:∀ fp s2 H2 C,PT (X.inc (own++cs.map (·.2)) scope cl fp s2 H2 C) tst tt) (he:∀ fp s2 H2 C,PE (X.inc (own++cs.map (·.2)) scope cl fp s2 H2 C) elt te)
  (hcell:∀ y∈scope.names,y.2≠.cell) (hkind:scope.kind=.function)
  (hcl:∀ x c,cl.lookup x=some c->X.env.cells.lookup x=some c) (hhas:∀ y,((relabel scope X.env).names.lookup y=some .cell\/(relabel scope X.env).names.lookup y=some .free)->∃ c,cl.lookup y=some c)
  (hcs:∀ p∈cs,X.N[p.1]?=some p.2/\X.env.scope.names.lookup p.2=some .cell/\(relabel scope X.env).names.lookup p.2=some .cell)
  (I2:Inv X pins σ H2 s2) (T:Turn X.prog X.w X.K tg J fp it tn) (st2:tn 0 s2.heap) (f2:∀ b∈fp,FpOk X pins H2 b) (w0:W 0 m0 [] H2)
  (turn:∀ i m ys H2,W i m ys H2->ys.length<=sizeLine/\((J.stop i H2/\QN ys H2)\/(J.go i H2/\∀ x H3,J.yld i H2 x H3->g x (List.replicate own.length none++JaB cs σ) H3 fun σ4 H4=>tt σ4 H4 fun b H5=>if b=true then te σ4 H5 fun y H6=>∃ m',m'<m/\W (i+1) m' (ys++[y]) H6 else ∃ m',m'<m/\W (i+1) m' ys H5)))
  (hRR:∀ (D C:Addr) (s6:Shared) (H5:Hp) (ys:List V),(∀ h7,Heap.SameBut C s6.heap h7->Inv X pins σ (upd H5 D (.lst ys)) { s6 with heap:=h7 })->H5 D=none->H5 C=none->D≠C->(∃ m,s6.heap.Ns C m)->s2.heap.objs.size<=C->QN ys H5->RR (.ref D) C (.ok .next) s6) :
  wpAny (model X.prog X.w) X.A (newList []) (fun acc s₃=>wpAny (model X.prog X.w) X.A (newFunctionEnv scope X.env.globals cl [] X.env.qual none .none (some X.env)) (fun cenv s₄=>
   codeAny (model X.prog X.w) X.A (.compStart (.ListComp elt [⟨tg,iter,[tst],0⟩] scope pos) 0 (.ref it) acc { cenv with scope:=relabel scope X.env }) (RR acc cenv.locals) s₄) E s₃) E s2:=by
 have L:∀ b∈fp,b<s2.heap.objs.size:=fun b d=>by
  obtain ⟨o,e,_⟩:=T.obj _ _ st2 b d;exact Heap.lt_size e
 refine wpAny_newObj_type (wpAny_newFunctionEnv hcell (by intro y hy;simp at hy) (fun h4 t j=>?_) hkind);dsimp only at t j ⊢;generalize hH3:s2.heap.push { cls:=.type "list",dict:=none,data:=.seq ([]:List Value).toArray }=H3 at t j ⊢;have a8:H3.objs.size=s2.heap.objs.size+1:=by rw [<- hH3,Heap.size_push]
 have Z:s2.heap.objs.size<=H3.objs.size:=by ac_nf
 have l:s2.heap.objs.size≠H3.objs.size:=by ac_nf
 have U:∀ b o,s2.heap.get? b=some o->h4.get? b=some o:=fun b o e=>j.extBut b o (by have:=Heap.lt_size e;exact Nat.ne_of_lt (Nat.lt_of_lt_of_le this Z)) (Heap.get?_push_of_some _ (hH3 ▸ Heap.get?_push_of_some _ e));have a7:h4.get? s2.heap.objs.size=some { cls:=.type "list",data:=.seq ([]:List Value).toArray }:=j.extBut _ _ l (Heap.get?_push_of_some _ (hH3 ▸ Heap.get?_push_size _ rfl));obtain ⟨D,h⟩:∃ D,D=s2.heap.objs.size:=⟨_,rfl⟩;obtain ⟨C,b2⟩:∃ C,C=H3.objs.size:=⟨_,rfl⟩;rw [<- b2] at a8 t j Z l ⊢;rw [<- h] at L a8 Z l a7 ⊢;have I:=I2.incOk (N':=own++cs.map (·.2)) (C:=C) f2 (fun b d=>by rw [<- h];exact L b d) hkind (by rw [<- h];exact Z) hcl hhas;have I4:Inv (X.inc (own++cs.map (·.2)) scope cl fp s2 H2 C) [] (List.replicate own.length none++JaB cs σ) H2 { s2 with heap:=h4,toks:=s2.toks+([]:List (Str × Value)).length } :=
  I2.incStart (s4:={ s2 with heap:=h4,toks:=s2.toks+([]:List (Str × Value)).length }) I U rfl rfl t (by rw [<- h];exact Z) hcl hcs
 have Dfree:H2 D=none:=I2.hok.fresh (Nat.le_of_eq h.symm);have H:∀ b o,s2.heap.get? b=some o->b≠D:=fun b o e=>by
  rw [h];exact Nat.ne_of_lt (Heap.lt_size e)
 have b3:∀ b o,s2.heap.get? b=some o->b≠C:=fun b o e=>Nat.ne_of_lt (Nat.lt_of_lt_of_le (by rw [h];exact Heap.lt_size e) Z);have Dfs:D∉frs X.stack:=fun hm=>by
  obtain ⟨_,o,e,_⟩:=I2.stack.mem hm;exact H _ _ e rfl
 have B:∀ {σ':St} {H':Hp} {s':Shared} {us:List Value} {n:Nat} {pl:List (Addr × Obj)},Inv (X.inc (own++cs.map (·.2)) scope cl fp s2 H2 C) pl σ' H' s'->s'.heap.get? D=some { cls:=.type "list",data:=.seq us.toArray n }->H' D=none ->
   Inv (X.inc (own++cs.map (·.2)) scope cl fp s2 H2 C) [(D,{ cls:=.type "list",data:=.seq us.toArray n })] σ' H' s':=fun {σ' H' s' us n pl} J' e n'=>J'.pins_of fun p Y=>by
  rcases mem_singleton.mp Y with rfl
  exact ⟨e,n',l,Dfs,fun v z=>by cases z⟩
 have G:∀ {H':Hp} {o:Obj},(∀ b∈fp,H' b=none)->∀ b∈fp,FpOk (X.inc (own++cs.map (·.2)) scope cl fp s2 H2 C) [(D,o)] H' b:=fun {H' o} hn b d=>by
  refine ⟨hn b d,(I.exf b d).1,I.exfs b d, .inl d,(I.exf b d).2,fun p Y=>?_⟩;rcases mem_singleton.mp Y with rfl
  exact Nat.ne_of_gt (L b d)
 have Q:∀ s3:Shared,s3={ s2 with heap:=h4,toks:=s2.toks+([]:List (Str × Value)).length } ->
   codeAny (model X.prog X.w) X.A (.compLoop (.ListComp elt [⟨tg,iter,[tst],0⟩] scope pos) 0 (.ref it) (.ref D) (compEnvC scope cl C X.env)) (RR (.ref D) C) s3:=by
  rintro s3 rfl;refine Jf0 (fun n s'=>∃ i ys us O H',Inv (X.inc (own++cs.map (·.2)) scope cl fp s2 H2 C) [(D,{ cls:=.type "list",data:=.seq us.toArray O })] (List.replicate own.length none++JaB cs σ) H' s'/\tn i s'.heap/\(∀ b∈fp,H' b=none)/\Vals ys us/\W i n ys H') ?_ m0
   ⟨0,[],[],0,H2,B (us:=[]) (n:=0) I4 a7 Dfree,T.keep _ _ _ st2 fun b d o e=>U b o e,fun b d=>(f2 b d).1, .nil,w0⟩
  rintro n s5 ⟨i,ys,us,O,H5,I5,a5,a3,vy,w5⟩;obtain ⟨hz,⟨stop,qn⟩ | ⟨go,a4⟩⟩:=turn i n ys H5 w5
  ·refine wpAny_mono (T.done (X.inc (own++cs.map (·.2)) scope cl fp s2 H2 C) rfl rfl rfl hc i _ s5 _ H5 (fun _ _=>False) I5 (G a3) a5 stop) (fun r s6 z=>?_) fun _ _ z=>z;obtain ⟨rfl,I6⟩:=z;obtain ⟨m6,b4,_⟩:=id I6.loc;obtain ⟨pD,pN,_,_,_⟩:=I6.pin (D,{ cls:=.type "list",data:=.seq us.toArray O }) (by simp);have Cfree:H5 C=none:=I6.free;refine hRR D C s6 H5 ys (fun h7 b5=>?_) pN Cfree l ⟨m6,b4⟩ (by rw [<- h];exact Z) qn;have k:∀ b,b≠C->h7.get? b=s6.heap.get? b:=fun b d=>b5.2 b d;have a1:=b3;have u7:Un (frs X.stack) fp H2 H5 s2.heap h7:=⟨fun b o e n1 n2 n3=>(k b (a1 b o e)).trans (I6.base.keep b o e n1 n2 n3),fun b o e n1 n2 n3=>by
     obtain ⟨sl,z⟩:=I6.base.slot b o e n1 n2 n3;exact ⟨sl,(k b (a1 b o e)).trans z⟩,I6.base.free,fun b o e n1=>by
     obtain ⟨o',z⟩:=I6.base.there b o e n1;exact ⟨o',(k b (a1 b o e)).trans z⟩,I6.base.tups,I6.base.frzs,I6.base.tbls⟩
   have a2:HOk X.prog X.w H5 h7:=fun a o e=>by
    refine (I6.hok a o e).stay (fun c v a9 q=>(k c ?_).trans q) (fun _ q=>q) fun _ _ q=>q;rintro rfl;rcases a9 with z | z
    ·rw [<- z] at e;rw [Cfree] at e;cases e
    ·rw [Cfree] at z;cases z
   have I7:Inv X pins σ H5 { s6 with heap:=h7 }:=I2.call' (s':={ s6 with heap:=h7 }) I6.os u7 a2 I6.bare fun b d=>⟨(f2 b d).2.2.2.1,(f2 b d).2.1,(f2 b d).2.2.2.2.1,(f2 b d).2.2.2.2.2⟩;exact I7.track (a:=D) (o:=.lst ys) pN (Heap.get?_none_of_le (by rw [h];exact I2.sz)) (by rw [h];exact Nat.ne_of_gt I2.lt) (fun x c e z=>by
     obtain ⟨v,o,ho,_⟩:=I2.cell x c e;exact H _ _ ho z) (fun p Y z=>H _ _ (I2.pin p Y).1 z) ⟨hz,us,O,vy,(k D l).trans pD⟩
  ·refine wpAny_mono (T.item (X.inc (own++cs.map (·.2)) scope cl fp s2 H2 C) rfl rfl rfl hc i _ s5 _ H5 (fun _ _=>False) I5 (G a3) a5 go) (fun r s6 z=>?_) fun _ _ z=>z;obtain ⟨u,rfl,z⟩:=z;refine wpAny_mono z (fun _ s7 ζ=>?_) fun _ _ z=>z;obtain ⟨x,H7,I7,r7,y7,F,b0⟩:=ζ;have I7':=I7.pinned (G b0) (T.obj _ _ F);refine wpAny_mono (hg fp s2 H2 C _ s7 _ H7 x u _ I7' r7 (a4 x H7 y7)) (fun _ s8 ⟨σ8,H8,I8,q8⟩=>?_) fun _ _ z=>z;refine wpAny_mono (ht fp s2 H2 C _ s8 σ8 H8 _ I8 q8) (fun bb a0 ⟨M,I8',a6⟩=>?_) fun _ _ z=>z;cases bb with
   | true=>
    refine wpAny_mono (he fp s2 H2 C _ a0 σ8 M _ I8' a6) (fun uy s9 ζ=>?_) fun _ _ z=>z;obtain ⟨y,H9,I9,r9,m',S,w9⟩:=ζ;obtain ⟨pD,pN,_,_,_⟩:=I9.pin (D,{ cls:=.type "list",data:=.seq us.toArray O }) (by simp);refine append_at (its:=us.toArray) (n:=O) pD (fun b1 P R=>?_) (by rw [size_toArray, <- vy.length];exact hz);have f:∀ b∈fp, ∀ o,s7.heap.get? b=some o->s9.heap.get? b=some o/\H9 b=none:=fun b d o e=>by
     have z:=I9.pin (b,o) (mem_append_right _ (mem_append_right _ (Jb6 d e)));exact ⟨z.1,z.2.1⟩
    have I9':Inv (X.inc (own++cs.map (·.2)) scope cl fp s2 H2 C) [] (List.replicate own.length none++JaB cs σ) H9 s9:=I2.incAgain I9 f2 hcl hcs;have I10:Inv (X.inc (own++cs.map (·.2)) scope cl fp s2 H2 C) [] (List.replicate own.length none++JaB cs σ) H9 { s9 with heap:=b1 }:=I9'.turned (it:=D) (t':=s9.toks) (fun b o d e=>(P.2 b d).trans e) pN l (.inr (Nat.le_of_eq h.symm)) (fun x c e z=>by
      obtain ⟨v,o,ho,_⟩:=I2.cell x c (hcl x c e);exact H _ _ ho z) fun p Y=>by simp at Y
    rw [lstP] at R;refine ⟨m',S,i+1,ys++[y],us++[uy],O+1,H9,B I10 R pN,T.keep _ _ _ F fun b d o e=>?_,fun b d=>?_,vy.append (.cons r9 .nil),w9⟩
    ·exact (P.2 b (Nat.ne_of_lt (L b d))).trans (f b d o e).1
    ·obtain ⟨o,e,_⟩:=T.obj _ _ F b d;exact (f b d o e).2
   | false=>
    obtain ⟨m',S,w9⟩:=a6;obtain ⟨pD,pN,_,_,_⟩:=I8'.pin (D,{ cls:=.type "list",data:=.seq us.toArray O }) (by simp);have f:∀ b∈fp, ∀ o,s7.heap.get? b=some o->a0.heap.get? b=some o/\M b=none:=fun b d o e=>by
     have z:=I8'.pin (b,o) (mem_append_right _ (mem_append_right _ (Jb6 d e)));exact ⟨z.1,z.2.1⟩
    have I9':Inv (X.inc (own++cs.map (·.2)) scope cl fp s2 H2 C) [] (List.replicate own.length none++JaB cs σ) M a0:=I2.incAgain I8' f2 hcl hcs;refine ⟨m',S,i+1,ys,us,O,M,B I9' pD pN,T.keep _ _ _ F fun b d o e=>(f b d o e).1,fun b d=>?_,vy,w9⟩;obtain ⟨o,e,_⟩:=T.obj _ _ F b d;exact (f b d o e).2
 exact codeAny_compStart_list (Q _ rfl) (T.self _ 0 _ _ _ (T.keep _ _ _ st2 fun b d o e=>U b o e) (Q _ rfl))
theorem Jgk {iter elt tst:Expr} {scope:Scope} {pos spos py:Pos} {y:Str} {j:Nat} {own:List Str} {cs:List (Nat × Str)} {wi:TI} {g:TG} {te:TE} {tt:TT} (hN:X.N.Nodup) (hj:X.N[j]?=some y) (hy:Loc X.env.scope y) (hc:X.calm=true) (hi:PI X tg iter wi)
  (hg:∀ fp s2 H2 C,PG (X.inc (own++cs.map (·.2)) scope (JbI X.env.cells scope.names []) fp s2 H2 C) tg g) (ht:∀ fp s2 H2 C,PT (X.inc (own++cs.map (·.2)) scope (JbI X.env.cells scope.names []) fp s2 H2 C) tst tt) (he:∀ fp s2 H2 C,PE (X.inc (own++cs.map (·.2)) scope (JbI X.env.cells scope.names []) fp s2 H2 C) elt te)
  (hfree:∀ p∈scope.names,p.2=.free->X.env.scope.names.lookup p.1=some .cell) (hcell:∀ y∈scope.names,y.2≠.cell) (hkind:scope.kind=.function) (hnames:∀ y∈scope.names,y.2=.local->scope.names.lookup y.1=some .local)
  (hcs:∀ p∈cs,X.N[p.1]?=some p.2/\X.env.scope.names.lookup p.2=some .cell/\(relabel scope X.env).names.lookup p.2=some .cell)
  (hsw:swapsWith (.ListComp elt [⟨tg,iter,[tst],0⟩] scope pos) (some (.Name y py)) spos.line X.env=pure true:=by rfl)
  (hs:∀ x,foldedSetIterable iter X.env x=pure x:=by intro _;rfl) (hf:X.fn y=true\/X.env.scope.names.lookup y=some .local:=by first | exact .inl rfl | exact .inr rfl) :
  PS X (.Assign [.Name y py] (.ListComp elt [⟨tg,iter,[tst],0⟩] scope pos) spos) (tAsg (Jg1 own.length cs wi g tt te) (gName j)):=by
 intro d s σ H D I h;have i:∀ p∈scope.names,p.2=.free->∃ c,X.env.cells.lookup p.1=some c:=fun p E hk=>I.ok.has p.1 (.inl (hfree p E hk));have r:=Jc5 (cells:=X.env.cells) scope.names [] (fun _ _ z=>by simp at z) i;rw [exec_Assign_Name_used _ _ _ _ hsw];refine wpAny_bind (wpAny_standAt (wpAny_bind ?_));show wpAny _ X.A (do let _ <- comprehension (.ListComp elt [⟨tg,iter,[tst],0⟩] scope pos) scope X.env _ (newList []) false (eval iter X.env) (some (assign (.Name y py) X.env))) _ _ s;refine wpAny_bind (wpAny_mono (wpAny_comprehension_free (use:=some (assign (.Name y py) X.env)) (Q:=fun _ L=>SP X d D .next L) rfl hs (JhA i) hkind hnames
  (thn (hi d s σ H _ I h) fun v s1 U=>thn U fun a0 s2 h2=>?_)) (fun _ L V=>wpAny_pure (wpAny_pure V)) fun _ _ e=>e)
 obtain ⟨it,fp,tn,J,H2,rfl,I2,T,u,f2,W,⟨m0,M⟩,k⟩:=h2;refine JfZ (QN:=fun n l=>∀ p,l p=none->D.nx (σ.set j (some (.ref p))) (upd l p (.lst n))) hc hg ht he hcell hkind r (fun z P=>Jc4 scope.names [] z (.inr (JjW hcell P))) hcs I2 T u f2 M k ?_;intro D' C m l n G O R Y hm f q;obtain ⟨Z,F⟩:=hm;have I8:Inv X d σ (upd l D' (.lst n)) m:=G m.heap (Heap.SameBut.refl _ _);show wpAny _ X.A (assign (.Name y py) X.env (.ref D')) _ _ m;refine wpAny_assign_Name (JfQ (v:=.ref D') I8 hN hj hy rfl (fun s7 I7 t=>?_) hf);obtain ⟨a,S,K⟩:=t;have nC:C≠a:=by
  rcases K with rfl | K
  ·exact Nat.ne_of_gt (Nat.lt_of_lt_of_le I2.lt f)
  ·obtain ⟨v,o,w,_⟩:=I2.cell y a K;exact Nat.ne_of_gt (Nat.lt_of_lt_of_le (Heap.lt_size w) f)
 refine ⟨Z,F.sameBut S nC,fun h8 B=>⟨_,_,?_,q D' O⟩⟩;exact I7.turned (it:=C) (t':=s7.toks) (fun b o hb e=>(B.2 b hb).trans e) (by rw [Jai (Ne.symm Y)];exact R) (Nat.ne_of_gt (Nat.lt_of_lt_of_le I2.lt f)) (.inr (Nat.le_trans I2.sz f)) (fun x c e z=>by
  obtain ⟨v,o,w,_⟩:=I2.cell x c e;exact absurd (Nat.lt_of_lt_of_le (Heap.lt_size w) f) (by rw [z];exact Nat.lt_irrefl _)) (fun p E z=>absurd (Nat.lt_of_lt_of_le (Heap.lt_size (I2.pin p E).1) f) (by rw [z];exact Nat.lt_irrefl _))
end
section
variable {X:Cx} {pins:List (Addr × Obj)} {σ : St} {H:Hp} {s:Shared} {h':Heap}
end
def Itz (K:W.Frag) (a b:Addr):It :=
  ⟨fun i H=>∃ xs ys x y,SqL K H a xs/\SqL K H b ys/\xs[i]?=some x/\ys[i]?=some y,
   fun i H v H'=>∃ p x y,(∀ xs,SqL K H a xs->xs[i]?=some x)/\(∀ ys,SqL K H b ys->ys[i]?=some y)/\H p=none/\v=.ref p/\H'=upd H p (.tup [x,y]),
   fun i H=>∃ xs ys,SqL K H a xs/\SqL K H b ys/\(xs.length<=i\/ys.length<=i)⟩
section
variable {X:Cx} {elts:List Expr} {x1:Nat} {tp:Pos}
def iZip (K:W.Frag) (ta:TA):TI:=fun σ H R=>ta σ H fun vs H1=>∃ a b,vs=[.ref a, .ref b]/\(∃ xs,SqL K H1 a xs)/\(∃ ys,SqL K H1 b ys)/\R (Itz K a b) H1
end
section
variable {σ : St} {H:Hp} {Q:VK} {td ty tv tx:TE} {K:W.Frag} {En:Ends}
theorem y3dy:tDGet td ty σ H Q=td σ H fun x H1=>ty σ H1 fun y H2=>∃ a v,x=.ref a/\DGet H2 a y (some v)/\Q v H2:=rfl
theorem y46y:sDPut td ty tv En σ H=tv σ H fun v H1=>td σ H1 fun x H2=>ty σ H2 fun y H3=>∃ a H4,x=.ref a/\DPut H3 a y v H4/\En.nx σ H4:=rfl
theorem y43y:Jln σ H Q=∀ p,H p=none->Q (.ref p) (upd H p (.dT [])):=rfl
theorem y42y:JjB σ H Q=∀ p,H p=none->Q (.ref p) (upd H p (.dK [])):=rfl
end
theorem hu1 {a b:Nat} (h:a+64<b):a+1<b:=by ac_nf
section
variable {X:Cx}
def rMul0:R2:=fun x y H Q=>match x,y with
 | .str z, .int n=>0<=n/\n<1000/\z.length<=1000/\∀ z':Str,z'.cps.toList=(List.replicate n.toNat z.cps.toList).flatten->Q (.str z') H
 | x,y=>rMulS x y H Q
theorem Ja8:OpR X (binaryOp .Mult) rMul0:=fun a s σ H x y v u Q I b c q=>by
 unfold rMul0 at q;split at q
 ·rename_i z n;obtain ⟨h,d,e,q⟩:=q;by_cases f:n=0
  ·subst f;obtain ⟨t,rfl⟩:=b;obtain ⟨g,rfl⟩:=c;exact PySem.P.mul_str_none ⋯ ⋯ ⟨.str _,H,I.tok _,⟨_,rfl⟩,q Str.empty rfl⟩
  ·exact Jim a s σ H _ _ v u Q I b c ⟨by ac_nf,d,e,q⟩
 ·exact Jim a s σ H _ _ v u Q I b c q
end
section
variable {K:W.Frag} {H:Hp} {Q:VK} {σ : St} {td ty:TE}
theorem y6dy {i j:Int}:rMul0 (.int i) (.int j) H Q=(IntMulOk i j/\Q (.int (i*j)) H):=rfl
theorem y3ey:Jll td ty σ H Q=td σ H fun x H1=>∃ a,x=.ref a/\IsD H1 a/\ty σ H1 fun y H2=>∃ o,DGet H2 a y o/\Q (o.getD .non) H2:=rfl
end
theorem ForA.byL {K:W.Frag} {a:Addr} {xs:List V} {g:TG} {tb:TS} {D:Ends} {σ : St} {H:Hp} (hA:SqL K H a xs) (Pv:Nat->St->Hp->Prop) (h0:Pv 0 σ H) (hl:∀ i σ H',Pv i σ H'->SqL K H' a xs)
  (hs:∀ i x σ H,xs[i]?=some x->Pv i σ H->g x σ H fun σ2 H2=>tb { D with nx:=Pv (i+1),ct:=Pv (i+1),bk:=D.nx } σ2 H2) (hd:∀ σ H,Pv xs.length σ H->D.nx σ H):ForA K a g tb D σ H:=by
 refine .inl ⟨⟨xs,hA⟩,fun i m σ H=>Pv i σ H/\i<=xs.length/\m=xs.length-i,⟨_,h0,Nat.zero_le _,rfl⟩,?_⟩;rintro i m σ H ⟨c,h,rfl⟩;have b:=hl i σ H c;by_cases d:i<xs.length
 ·refine .inr ⟨⟨xs,xs[i],b,List.getElem?_eq_getElem d⟩,Pv (i+1),fun σ' H' p=>⟨_,Nat.sub_lt_sub_left d (Nat.lt_succ_self i),p,d,rfl⟩,?_⟩;rintro x H' ⟨rfl,f⟩;exact hs i x σ _ (f xs b) c
 ·have e:i=xs.length:=by ac_nf
  subst e;exact .inl ⟨⟨xs,b,Nat.le_refl _⟩,hd σ H c⟩
def ForJ (J:It) (g:TG) (tb:TS) (D:Ends) (σ : St) (H:Hp):Prop:=∃ W:Nat->Nat->St->Hp->Prop,(∃ m,W 0 m σ H)/\∀ i m σ H,W i m σ H ->
 (J.stop i H/\D.nx σ H)\/(J.go i H/\∃ N:St->Hp->Prop,(∀ σ' H',N σ' H'->∃ m',m'<m/\W (i+1) m' σ' H')/\∀ x H',J.yld i H x H'->g x σ H' fun σ2 H2=>tb { D with nx:=N,ct:=N,bk:=D.nx } σ2 H2)
theorem y56y {K:W.Frag} {ta:TA} {g:TG} {tb:TS} {D:Ends} {σ : St} {H:Hp}:tFor (iZip K ta) g tb D σ H=ta σ H fun vs H1=>∃ a b,vs=[.ref a, .ref b]/\(∃ xs,SqL K H1 a xs)/\(∃ ys,SqL K H1 b ys)/\ForJ (Itz K a b) g tb D σ H1:=rfl
theorem compL {K:W.Frag} {cs:List (Nat × Str)} {k:Nat} {g:TG} {te:TE} {σ : St} {a:Addr} {xs:List V} {H1:Hp} {Q:VK} (Pv:Nat->List V->Hp->Prop) (h0:Pv 0 [] H1) (hl:∀ i ys H',i<=xs.length->Pv i ys H'->SqL K H' a xs/\ys.length<=sizeLine)
  (hs:∀ i x ys H2,xs[i]?=some x->Pv i ys H2->g x (List.replicate k none++JaB cs σ) H2 fun σ4 H4=>te σ4 H4 fun y H5=>Pv (i+1) (ys++[y]) H5) (hd:∀ ys H2,Pv xs.length ys H2->∀ p,H2 p=none->Q (.ref p) (upd H2 p (.lst ys))) :
  ∃ W:Nat->Nat->List V->Hp->Prop,(∃ m,W 0 m [] H1)/\∀ i m ys H2,W i m ys H2->ys.length<=sizeLine/\(((Itl K a).stop i H2/\∀ p,H2 p=none->Q (.ref p) (upd H2 p (.lst ys))) \/
   ((Itl K a).go i H2/\∀ x H3,(Itl K a).yld i H2 x H3->g x (List.replicate k none++JaB cs σ) H3 fun σ4 H4=>te σ4 H4 fun y H5=>∃ m',m'<m/\W (i+1) m' (ys++[y]) H5)):=by
 refine ⟨fun i m ys H2=>Pv i ys H2/\i<=xs.length/\m=xs.length-i,⟨_,h0,Nat.zero_le _,rfl⟩,?_⟩;rintro i m ys H2 ⟨c,j,rfl⟩;obtain ⟨b,h⟩:=hl i ys H2 j c;refine ⟨h,?_⟩;by_cases d:i<xs.length
 ·refine .inr ⟨⟨xs,xs[i],b,List.getElem?_eq_getElem d⟩,?_⟩;rintro x H3 ⟨rfl,f⟩;have e:(fun (σ4:St) (H4:Hp)=>te σ4 H4 fun y H5=>Pv (i+1) (ys++[y]) H5)=fun σ4 H4=>te σ4 H4 fun y H5=>∃ m',m'<xs.length-i/\Pv (i+1) (ys++[y]) H5/\i+1<=xs.length/\m'=xs.length-(i+1):=by
   funext σ4 H4
   congr 1
   funext y H5
   exact propext ⟨fun q=>⟨_,Nat.sub_lt_sub_left d (Nat.lt_succ_self i),q,d,rfl⟩,fun ⟨_,_,q,_⟩=>q⟩
  rw [<- e];exact hs i x ys _ (f xs b) c
 ·have e:i=xs.length:=by ac_nf
  subst e;exact .inl ⟨⟨xs,b,Nat.le_refl _⟩,hd ys H2 c⟩
theorem JkF {K:W.Frag} {cs:List (Nat × Str)} {k:Nat} {g:TG} {tt:TT} {te:TE} {σ : St} {a:Addr} {xs:List V} {H1:Hp} {Q:VK} (Pv:Nat->List V->Hp->Prop) (h0:Pv 0 [] H1) (hl:∀ i ys H',i<=xs.length->Pv i ys H'->SqL K H' a xs/\ys.length<=sizeLine)
  (hs:∀ i x ys H2,xs[i]?=some x->Pv i ys H2->g x (List.replicate k none++JaB cs σ) H2 fun σ4 H4=>tt σ4 H4 fun b H5=>if b=true then te σ4 H5 fun y H6=>Pv (i+1) (ys++[y]) H6 else Pv (i+1) ys H5) (hd:∀ ys H2,Pv xs.length ys H2->∀ p,H2 p=none->Q (.ref p) (upd H2 p (.lst ys))) :
  ∃ W:Nat->Nat->List V->Hp->Prop,(∃ m,W 0 m [] H1)/\∀ i m ys H2,W i m ys H2->ys.length<=sizeLine/\(((Itl K a).stop i H2/\∀ p,H2 p=none->Q (.ref p) (upd H2 p (.lst ys))) \/
   ((Itl K a).go i H2/\∀ x H3,(Itl K a).yld i H2 x H3->g x (List.replicate k none++JaB cs σ) H3 fun σ4 H4=>tt σ4 H4 fun b H5=>if b=true then te σ4 H5 fun y H6=>∃ m',m'<m/\W (i+1) m' (ys++[y]) H6 else ∃ m',m'<m/\W (i+1) m' ys H5)):=by
 refine ⟨fun i m ys H2=>Pv i ys H2/\i<=xs.length/\m=xs.length-i,⟨_,h0,Nat.zero_le _,rfl⟩,?_⟩;rintro i m ys H2 ⟨h,n,rfl⟩;obtain ⟨d,l⟩:=hl i ys H2 n h;refine ⟨l,?_⟩;by_cases f:i<xs.length
 ·refine .inr ⟨⟨xs,xs[i],d,List.getElem?_eq_getElem f⟩,?_⟩;rintro x H3 ⟨rfl,o⟩;have w:∀ (j:List V) (H5:Hp),Pv (i+1) j H5=∃ m',m'<xs.length-i/\Pv (i+1) j H5/\i+1<=xs.length/\m'=xs.length-(i+1):=fun j H5=>
   propext ⟨fun q=>⟨_,Nat.sub_lt_sub_left f (Nat.lt_succ_self i),q,f,rfl⟩,fun ⟨_,_,q,_⟩=>q⟩
  have r:(fun (y:V) (H6:Hp)=>Pv (i+1) (ys++[y]) H6)=fun y H6=>∃ m',m'<xs.length-i/\Pv (i+1) (ys++[y]) H6/\i+1<=xs.length/\m'=xs.length-(i+1):=by
   funext y H6
   exact w _ _
  have e:(fun (σ4:St) (H4:Hp)=>tt σ4 H4 fun b H5=>if b=true then te σ4 H5 fun y H6=>Pv (i+1) (ys++[y]) H6 else Pv (i+1) ys H5)=fun σ4 H4=>tt σ4 H4 fun b H5=>if b=true then te σ4 H5 fun y H6=>∃ m',m'<xs.length-i/\Pv (i+1) (ys++[y]) H6/\i+1<=xs.length/\m'=xs.length-(i+1) else ∃ m',m'<xs.length-i/\Pv (i+1) ys H5/\i+1<=xs.length/\m'=xs.length-(i+1):=by
   funext σ4 H4
   congr 1
   funext b H5
   by_cases c:b=true
   ·rw [if_pos c,if_pos c, <- r]
   ·rw [if_neg c,if_neg c];exact w ys H5
  have:=hs i x ys _ (o xs d) h;rw [e] at this;exact this
 ·have e:i=xs.length:=by ac_nf
  subst e;exact .inl ⟨⟨xs,d,Nat.le_refl _⟩,hd ys H2 h⟩
end L2
namespace Ch
open PySem
structure TD where
 nm:Str
 st:Str
 en:Str
 lo:Option (Int × Int)
 hi:Option (Int × Int)
structure SD where
 src:Str
 dst:Str
 c:Int × Int
 nm:Str
 fw:Bool
def fwd (t:TD):List SD:=match t.hi with
 | some h=>[⟨t.st,t.en,h,t.nm,true⟩]
 | none=>[]
def bwd (t:TD):List SD:=match t.lo with
 | some l=>[⟨t.en,t.st,(-l.1,l.2),t.nm,false⟩]
 | none=>[]
def steps (t:TD):List SD:=fwd t++bwd t
def all (ts:List TD):List SD:=ts.flatMap steps
abbrev Pr:=Str × Bool
def key (s:SD):Pr:=(s.nm,s.fw)
def lastA (acc:Option SD) (ss:List SD) (k:Pr):Option SD:=ss.foldl (fun a s=>if key s=k then some s else a) acc
def last (ss:List SD) (k:Pr):Option SD:=lastA none ss k
theorem JeP {t:TD} {s:SD} (h:s∈steps t):s.nm=t.nm:=by
 unfold steps fwd bwd at h;rcases mem_append.mp h with h | h
 ·split at h
  ·simp at h;rw [h]
  ·simp at h
 ·split at h
  ·simp at h;rw [h]
  ·simp at h
def addF (a c:Int × Int):Int × Int:=(Mth.top (a.1*c.2+c.1*a.2) (a.2*c.2),Mth.bot (a.1*c.2+c.1*a.2) (a.2*c.2))
structure FOk (n:Nat) (a:Int × Int):Prop where
 s1:Mth.Sz n a.1
 s2:Mth.Sz n a.2
 b1:1<=a.2
 g1:Mth.g a.1 a.2=1
theorem FOk.mono {m n:Nat} {a:Int × Int} (h:FOk m a) (k:m<=n):FOk n a:=⟨h.s1.mono k,h.s2.mono k,h.b1,h.g1⟩
end Ch
namespace L2
open PySem PySem.Spec PyProof.Rows Ch
def isTF:HO->Bool
 | .tup _=>true
 | .frz _ _=>true
 | _=>false
def SameT (H H':Hp):Prop:=∀ b u,isTF u=true->H b=some u->H' b=some u
theorem SameT.refl (H:Hp):SameT H H:=fun _ _ _ h=>h
theorem SameT.trans {H H1 H2:Hp} (a:SameT H H1) (b:SameT H1 H2):SameT H H2:=fun c o t h=>b c o t (a c o t h)
theorem Same.t {H H':Hp} (a:Same H H'):SameT H H':=fun b u _ h=>a b u h
theorem SameT.put {H H':Hp} {l:Addr} {o o':HO} (e:upd H l o=H') (hl:H l=some o') (ht:isTF o'=false):SameT H H':=fun b u t h=>by
 rw [<- e,Jai (ne_of h hl fun q=>by rw [q,ht] at t;cases t)];exact h
theorem SqT.sameT {K:W.Frag} {H H':Hp} {a:Addr} {xs:List V} (e:SameT H H') (h:SqT K H a xs):SqT K H' a xs:=by
 rcases h with (h | ⟨o,h⟩) | h
 ·exact .inl (.inl (e _ _ rfl h))
 ·exact .inl (.inr ⟨o,e _ _ rfl h⟩)
 ·exact .inr h
theorem FrV.sameT {K:W.Frag} {H H':Hp} {v:V} {a b:Int} (S:SameT H H') (h:FrV K H v a b):FrV K H' v a b:=by
 obtain ⟨p,e,q⟩:=h;exact ⟨p,e,q.sameT S⟩
def frD (a:Int × Int):D:=.tup [.int a.1, .int a.2]
def bD:Option (Int × Int)->D
 | none=>.non
 | some a=>frD a
def tdD (t:TD):D:=.tup [.str t.nm, .str t.st, .str t.en,bD t.lo,bD t.hi]
def pD (s:SD):D:=.tup [.str s.src, .str s.dst,frD s.c, .bl s.fw]
def prD (c:Pr):D:=.tup [.str c.1, .bl c.2]
def BV (K:W.Frag) (H:Hp):Option (Int × Int)->V->Prop
 | none,v=>v=.non
 | some a,v=>FrV K H v a.1 a.2
theorem BV.rep {K:W.Frag} {H:Hp} {o:Option (Int × Int)} {v:V} (h:BV K H o v):Rep K H (bD o) v:=by
 cases o with
 | none=>simp only [bD,Rep];exact h
 | some a=>exact FrV.rep h
theorem BV.sameT {K:W.Frag} {H H':Hp} {o:Option (Int × Int)} {v:V} (S:SameT H H') (h:BV K H o v):BV K H' o v:=by
 cases o with
 | none=>exact h
 | some a=>exact FrV.sameT S h
def TV (K:W.Frag) (H:Hp) (t:TD) (x:V):Prop:=∃ b vl vg,x=.ref b/\SqT K H b [.str t.nm, .str t.st, .str t.en,vl,vg]/\BV K H t.lo vl/\BV K H t.hi vg
def PV (K:W.Frag) (H:Hp) (s:SD) (x:V):Prop:=∃ b v,x=.ref b/\SqT K H b [.str s.src, .str s.dst,v, .bl s.fw]/\FrV K H v s.c.1 s.c.2
def CV (H:Hp) (c:Pr) (x:V):Prop:=∃ b,x=.ref b/\H b=some (.tup [.str c.1, .bl c.2])
def LV (K:W.Frag) (H:Hp) (s:SD) (x:V):Prop:=∃ b v w,x=.ref b/\SqT K H b [.str s.src, .str s.dst,v,w]/\FrV K H v s.c.1 s.c.2/\CV H (key s) w
section
variable {K:W.Frag} {H H':Hp}
theorem TV.sameT {t:TD} {x:V} (S:SameT H H'):TV K H t x->TV K H' t x:=by rintro ⟨b,vl,c,e,q,d,a⟩;exact ⟨b,vl,c,e,q.sameT S,d.sameT S,a.sameT S⟩
theorem PV.sameT {s:SD} {x:V} (S:SameT H H'):PV K H s x->PV K H' s x:=by rintro ⟨b,v,e,q,h⟩;exact ⟨b,v,e,q.sameT S,h.sameT S⟩
theorem CV.sameT {c:Pr} {x:V} (S:SameT H H'):CV H c x->CV H' c x:=fun ⟨b,e,q⟩=>⟨b,e,S _ _ rfl q⟩
theorem LV.sameT {s:SD} {x:V} (S:SameT H H'):LV K H s x->LV K H' s x:=by rintro ⟨b,v,w,e,q,c,a⟩;exact ⟨b,v,w,e,q.sameT S,c.sameT S,a.sameT S⟩
theorem TV.rep {t:TD} {x:V}:TV K H t x->Rep K H (tdD t) x:=fun ⟨b,vl,d,e,q,c,a⟩=>by
 simp only [tdD,Rep,RepL];exact ⟨b,_,e,q,_,_,rfl,rfl,_,_,rfl,rfl,_,_,rfl,rfl,_,_,rfl,c.rep,_,_,rfl,a.rep,rfl⟩
theorem PV.of {s:SD} {x:V} (h:Rep K H (pD s) x):PV K H s x:=by
 simp only [pD,frD,Rep,RepL] at h;obtain ⟨b,f,rfl,q,e,m,rfl,rfl,j,r,rfl,rfl,l,n,rfl,⟨p,k,rfl,a,c,d,rfl,rfl,g,t,rfl,rfl,rfl⟩,i,o,rfl,rfl,rfl⟩:=h;exact ⟨b, .ref p,rfl,q,p,rfl,a⟩
theorem CV.rep {c:Pr} {x:V}:CV H c x->Rep K H (prD c) x:=fun ⟨b,e,q⟩=>by
 simp only [prD,Rep,RepL];exact ⟨b,_,e,SqT.of q,_,_,rfl,rfl,_,_,rfl,rfl,rfl⟩
end
def All2 {α : Type} (P : α->V->Prop):List α->List V->Prop
 | [],xs=>xs=[]
 | a::as,xs=>∃ x r,xs=x::r/\P a x/\All2 P as r
section
variable {α : Type} {P P' : α->V->Prop}
theorem All2.mono:∀ {as:List α} {xs:List V},(∀ a x,P a x->P' a x)->All2 P as xs->All2 P' as xs
 | [],_,_,h=>h
 | a::as,xs,f,h=>by
  obtain ⟨x,r,e,h1,h2⟩:=h;exact ⟨x,r,e,f _ _ h1,All2.mono f h2⟩
theorem All2.length:∀ {as:List α} {xs:List V},All2 P as xs->xs.length=as.length
 | [],_,h=>by rw [show _=_ from h];rfl
 | a::as,xs,h=>by
  obtain ⟨x,r,e,h1,h2⟩:=h;rw [e,length_cons,length_cons,h2.length]
theorem All2.at_:∀ {as:List α} {xs:List V} {i:Nat} {x:V},All2 P as xs->xs[i]?=some x->∃ a,as[i]?=some a/\P a x
 | [],_,_,_,h,hx=>by rw [show _=_ from h] at hx;simp at hx
 | a::as,xs,i,y,h,hx=>by
  obtain ⟨x,r,e,h1,h2⟩:=h;subst e;cases i with
  | zero=>simp at hx;subst hx;exact ⟨a,rfl,h1⟩
  | succ i=>simpa using All2.at_ h2 (by simpa using hx)
theorem All2.get:∀ {as:List α} {xs:List V} {i:Nat} {a : α},All2 P as xs->as[i]?=some a->∃ x,xs[i]?=some x/\P a x
 | [],_,_,_,h,hx=>by simp at hx
 | a::as,xs,i,b,h,hx=>by
  obtain ⟨x,r,e,h1,h2⟩:=h;subst e;cases i with
  | zero=>simp at hx;subst hx;exact ⟨x,rfl,h1⟩
  | succ i=>simpa using All2.get h2 (by simpa using hx)
theorem All2.append:∀ {as bs:List α} {xs ys:List V},All2 P as xs->All2 P bs ys->All2 P (as++bs) (xs++ys)
 | [],bs,xs,ys,h,g=>by rw [show xs=[] from h];exact g
 | a::as,bs,xs,ys,h,g=>by
  obtain ⟨x,r,e,h1,h2⟩:=h;subst e;exact ⟨x,r++ys,rfl,h1,All2.append h2 g⟩
theorem All2.one {a : α} {x:V} (h:P a x):All2 P [a] [x]:=⟨x,[],rfl,h,rfl⟩
theorem All2.repL {K:W.Frag} {H:Hp} {f : α->D} (g:∀ a x,P a x->Rep K H (f a) x):∀ {as:List α} {xs:List V},All2 P as xs->RepL K H (as.map f) xs
 | [],xs,h=>by simp only [map_nil,RepL];exact h
 | a::as,xs,h=>by
  obtain ⟨x,r,e,h1,h2⟩:=h;simp only [map_cons,RepL];exact ⟨x,r,e,g _ _ h1,All2.repL g h2⟩
theorem All2.ofRepL {K:W.Frag} {H:Hp} {f : α->D} (g:∀ a x,Rep K H (f a) x->P a x):∀ {as:List α} {xs:List V},RepL K H (as.map f) xs->All2 P as xs
 | [],xs,h=>by simp only [map_nil,RepL] at h;exact h
 | a::as,xs,h=>by
  simp only [map_cons,RepL] at h;obtain ⟨x,r,e,h1,h2⟩:=h;exact ⟨x,r,e,g _ _ h1,All2.ofRepL g h2⟩
end
structure TOk (t:TD):Prop where
 n1:nameS t.nm=true
 n2:nameS t.st=true
 n3:nameS t.en=true
 ne:t.st≠t.en
 lo:∀ a,t.lo=some a->FOk 600 a
 hi:∀ a,t.hi=some a->FOk 600 a
 le:lessD (bD t.hi) (bD t.lo)=false
theorem len8 {z:Str} (h:nameS z=true):z.length<=8:=by
 unfold nameS at h;simp only [Bool.and_eq_true,decide_eq_true_eq] at h;exact h.1.2
theorem bD_ok {o:Option (Int × Int)} (h:∀ a,o=some a->FOk 600 a):Jco (bD o)=true/\szD (bD o):=by
 cases o with
 | none=>exact ⟨rfl,by simp only [bD,szD]⟩
 | some a=>
  have k:=h a rfl;refine ⟨by simp [bD,frD,Jco,fracB,k.b1,k.g1],?_⟩;simp only [bD,frD,szD,szL];exact ⟨k.s1.mono ⋯,k.s2.mono ⋯,trivial⟩
theorem TOk.tie {t:TD} (h:TOk t):tieB (tdD t)=true:=by
 have e:eqD (.str t.st) (.str t.en)=false:=by simp only [eqD,beq_eq_false_iff_ne];exact h.ne
 simp [tdD,tieB,nameB,Jev,h.n1,h.n2,h.n3,e,JdC,(bD_ok h.lo).1,(bD_ok h.hi).1,h.le]
theorem TOk.sz {t:TD} (h:TOk t):szD (tdD t):=by
 simp only [tdD,szD,szL];have:=len8 h.n1;have:=len8 h.n2;have:=len8 h.n3;exact ⟨by ac_nf,by ac_nf,by ac_nf,(bD_ok h.lo).2,(bD_ok h.hi).2,trivial⟩
section
variable {K:W.Frag} {H:Hp} {kvs:List (List Key × V)} {ss:List SD}
end
def CompJ (J:It) (k:Nat) (cs:List (Nat × Str)) (g:TG) (te:TE) (σ : St) (Q:VK) (H1:Hp):Prop:=∃ W:Nat->Nat->List V->Hp->Prop,(∃ m,W 0 m [] H1)/\∀ i m ys H2,W i m ys H2->ys.length<=sizeLine /\
  ((J.stop i H2/\∀ p,H2 p=none->Q (.ref p) (upd H2 p (.lst ys))) \/
   (J.go i H2/\∀ x H3,J.yld i H2 x H3->g x (List.replicate k none++JaB cs σ) H3 fun σ4 H4=>te σ4 H4 fun y H5=>∃ m',m'<m/\W (i+1) m' (ys++[y]) H5))
def Jdz (J:It) (k:Nat) (cs:List (Nat × Str)) (g:TG) (tt:TT) (te:TE) (σ : St) (Q:VK) (H1:Hp):Prop:=∃ W:Nat->Nat->List V->Hp->Prop,(∃ m,W 0 m [] H1)/\∀ i m ys H2,W i m ys H2->ys.length<=sizeLine /\
  ((J.stop i H2/\∀ p,H2 p=none->Q (.ref p) (upd H2 p (.lst ys))) \/
   (J.go i H2/\∀ x H3,J.yld i H2 x H3->g x (List.replicate k none++JaB cs σ) H3 fun σ4 H4=>tt σ4 H4 fun b H5=>if b=true then te σ4 H5 fun y H6=>∃ m',m'<m/\W (i+1) m' (ys++[y]) H6 else ∃ m',m'<m/\W (i+1) m' ys H5))
section
variable {K:W.Frag} {k:Nat} {cs:List (Nat × Str)} {g:TG} {tt:TT} {te tl:TE} {σ : St} {H H1:Hp} {Q:VK} {a:Addr} {xs:List V}
theorem y34y:tComp k cs (iAny K tl) g te σ H Q=tl σ H fun x H1=>∃ a,x=.ref a/\(((∃ xs,SqL K H1 a xs)/\CompJ (Itl K a) k cs g te σ Q H1)\/((∃ xs,SqT K H1 a xs)/\CompJ (Itt K a) k cs g te σ Q H1)):=rfl
theorem y36y:Jg1 k cs (iAny K tl) g tt te σ H Q=tl σ H fun x H1=>∃ a,x=.ref a/\(((∃ xs,SqL K H1 a xs)/\Jdz (Itl K a) k cs g tt te σ Q H1)\/((∃ xs,SqT K H1 a xs)/\Jdz (Itt K a) k cs g tt te σ Q H1)):=rfl
theorem CompJ.list (Pv:Nat->List V->Hp->Prop) (h0:Pv 0 [] H1) (hl:∀ i ys H',i<=xs.length->Pv i ys H'->SqL K H' a xs/\ys.length<=sizeLine)
  (hs:∀ i x ys H2,xs[i]?=some x->Pv i ys H2->g x (List.replicate k none++JaB cs σ) H2 fun σ4 H4=>te σ4 H4 fun y H5=>Pv (i+1) (ys++[y]) H5) (hd:∀ ys H2,Pv xs.length ys H2->∀ p,H2 p=none->Q (.ref p) (upd H2 p (.lst ys))) :
  CompJ (Itl K a) k cs g te σ Q H1:=compL Pv h0 hl hs hd
theorem Jdz.list (Pv:Nat->List V->Hp->Prop) (h0:Pv 0 [] H1) (hl:∀ i ys H',i<=xs.length->Pv i ys H'->SqL K H' a xs/\ys.length<=sizeLine)
  (hs:∀ i x ys H2,xs[i]?=some x->Pv i ys H2->g x (List.replicate k none++JaB cs σ) H2 fun σ4 H4=>tt σ4 H4 fun b H5=>if b=true then te σ4 H5 fun y H6=>Pv (i+1) (ys++[y]) H6 else Pv (i+1) ys H5) (hd:∀ ys H2,Pv xs.length ys H2->∀ p,H2 p=none->Q (.ref p) (upd H2 p (.lst ys))) :
  Jdz (Itl K a) k cs g tt te σ Q H1:=JkF Pv h0 hl hs hd
end
theorem JiM {x f:Int} (h0:0<=x) (h1:x<2*f):x.fmod f=x\/x.fmod f=x-f:=by
 rw [Int.fmod_eq_emod_of_nonneg _ ∅];by_cases c:x<f
 ·exact .inl (Int.emod_eq_of_lt h0 c)
 ·refine .inr ?_;have e:(x-f+f) % f=(x-f) % f:=by simp
  rw [Int.sub_add_cancel] at e;rw [e,Int.emod_eq_of_lt ∅ ∅]
theorem Jh5 (t:TD):(Ch.steps t).length<=2:=by unfold Ch.steps fwd bwd;cases t.hi <;> cases t.lo <;> simp
theorem Jh4 (t:TD):(fwd t).length<=1:=by unfold fwd;cases t.hi <;> simp
theorem Jf6 (ts:List TD) (i:Nat):(Ch.all (ts.take i)).length<=2*i:=by
 induction i with
 | zero=>simp [Ch.all]
 | succ i ih=>
  rw [take_succ];cases ts[i]? with
  | none=>simp;ac_nf
  | some t=>
   have:=Jh5 t;simp only [Ch.all,List.flatMap_append,Option.toList_some,List.flatMap_cons,List.flatMap_nil,append_nil,length_append] at ih ⊢;ac_nf
theorem JkJ (a b:Pr):eqD (prD a) (prD b)=decide (a=b):=by
 simp only [prD,eqD,eqL,Bool.and_true];rw [Bool.eq_iff_iff];simp [Prod.ext_iff]
section
variable {ss:List SD} {c:Pr} {cs:List Pr} {s:SD} {tot:Int × Int} {f l:Str}
end
section
variable {K:W.Frag} {H:Hp} {Q:VK}
end
theorem Jgm (t:SetTable) (es:Array (Int × Value)) (n:Nat) (hp:t.plain=false):(relayAll t es n).2.1.plain=false:=by
 unfold relayAll;split
 ·rename_i b a e;have c:b.plain=false:=by
   unfold SetTable.relaid at e;unfold SetTable.laid at e;cases hl:SetTable.layClean (SetTable.sizeAbove n-1) (es.map (·.1)) with
   | none=>rw [hl] at e;cases e
   | some ow=>
    rw [hl] at e;simp only [Option.bind_eq_bind,Option.bind_some,Option.pure_def,Option.some.injEq,Prod.mk.injEq] at e;rw [<- e.1];exact hp
  dsimp only;split
  ·exact c
  ·rfl
 ·rfl
theorem Jgw (t:SetTable) (n:Nat):(t.orStandIn n).led=t.led:=by
 unfold SetTable.orStandIn;split <;> rfl
theorem Jhb (t:SetTable) (es:Array (Int × Value)) (h:Int) (x:Value):(layNew t es h x).2.1.led=t.led:=by
 unfold layNew;split
 ·exact Jgw _ _
 ·rfl
theorem Jiv (t:SetTable) (es:Array (Int × Value)) (n:Nat):(relayAll t es n).2.1.led=t.led:=by
 unfold relayAll;split
 ·rename_i b a e;have c:b.led=t.led:=by
   unfold SetTable.relaid at e;unfold SetTable.laid at e;cases hl:SetTable.layClean (SetTable.sizeAbove n-1) (es.map (·.1)) with
   | none=>rw [hl] at e;cases e
   | some ow=>
    rw [hl] at e;simp only [Option.bind_eq_bind,Option.bind_some,Option.pure_def,Option.some.injEq,Prod.mk.injEq] at e;rw [<- e.1]
  dsimp only;split
  ·exact c
  ·rfl
 ·rfl
section
variable {prog:Program} {w:World} {A:Around} {E:Value->Shared->Prop} {s:Shared}
def SetS (prog:Program) (w:World) (h:Heap) (a:Addr) (ks:List Str):Prop :=
 ∃ es ep t,h.get? a=some { cls:=.type "set",dict:=none,data:=.set es ep t,slots:=#[] }/\ElemsOf (strKind prog w) es.toList /\
  (es.toList.map fun e=>strOf e.2).Perm ks/\ks.length<scanBound/\t.fits es.size=true/\(ks≠[]->t.plain=false)/\(w.params.followText "set-order"=false->t.led=true)
theorem JfR {k:Str} {v:Value} (h:(strKind prog w).is k v=true):strOf v=k:=by
 obtain ⟨t,rfl⟩:=Value.isStrOf_shape h;rfl
theorem stored {h:Heap} {a:Addr} {es es':Array (Int × Value)} {ep:Nat} {t t':SetTable} (ho:h.get? a=some { cls:=.type "set",dict:=none,data:=.set es ep t,slots:=#[] }) :
  (h.update a (Obj.putSet es' t')).get? a=some { cls:=.type "set",dict:=none,data:=.set es' (ep+1) t',slots:=#[] }:=by
 have e:=Heap.get?_update_self (Obj.putSet es' t') ho (by rw [putSet_of es' t' rfl];rfl);rw [e,putSet_of es' t' rfl]
theorem Jkq {a:Addr} {ks:List Str} {z:Str} {tk:Tok} {Q:Bool->Shared->Prop} (hS:SetS prog w s.heap a ks) (hr:ks.length+1<scanBound)
  (q:∀ h' b,Heap.SameBut a s.heap h'->SetS prog w h' a (if z∈ks then ks else ks++[z])->Q b { s with heap:=h' }) :
  wpAny (model prog w) A (setAddHashed a (.str z tk) ((strKind prog w).hash z)) Q E s:=by
 obtain ⟨l,ep,t,G,g,J,hb,V,U,n⟩:=hS;have Z:(strKind prog w).is z (.str z tk)=true:=by show Value.isStrOf z (.str z tk)=true;simp [Value.isStrOf]
 have sz:l.size=ks.length:=by rw [<- J.length_eq,length_map,Array.length_toList]
 unfold setAddHashed;unfold setAddHashedIn;refine wpAny_holding (wpAny_bind (wpAny_setState_of G rfl V ?_));dsimp only;rw [byScan_of (knd:=strKind prog w) (x:=.str z tk) rfl ∅ g];rw [if_pos rfl];unfold setAddByScan;refine wpAny_bind (wpAny_bind (wpAny_rule (wpAny_bind (wpAny_setScan_of (knd:=strKind prog w) Z G rfl V g ?_))));have C:∀ e∈l.toList,((strKind prog w).is z e.2=true↔strOf e.2=z):=fun e N=>by
  obtain ⟨⟨k,B,_⟩,_⟩:=g e N;constructor
  ·exact JfR
  ·intro h2;rw [JfR B] at h2;rw [<- h2];exact B
 cases fi:l.toList.findIdx? (fun e=>(strKind prog w).is z e.2) with
 | some j=>
  dsimp only;obtain ⟨hj,pj,_⟩:=List.findIdx?_eq_some_iff_getElem.mp fi;have v:z∈ks:=J.mem_iff.mp (mem_map.mpr ⟨_,List.getElem_mem hj,(C _ (List.getElem_mem hj)).mp pj⟩);refine wpAny_pure (wpAny_pure ?_);have:=q s.heap false (Heap.SameBut.refl a s.heap) (by rw [if_pos v];exact ⟨l,ep,t,G,g,J,hb,V,U,n⟩);cases s;exact this
 | none=>
  dsimp only;have v:¬ z∈ks:=fun v=>by
   obtain ⟨e,N,ez⟩:=mem_map.mp (J.mem_iff.mpr v);have B:=List.findIdx?_eq_none_iff.mp fi e N;rw [(C e N).mpr ez] at B;cases B
  have y:=layNew_perm t l ((strKind prog w).hash z) (.str z tk);have M:=Jhb t l ((strKind prog w).hash z) (.str z tk);have L:=layNew_fits t l ((strKind prog w).hash z) (.str z tk);generalize layNew t l ((strKind prog w).hash z) (.str z tk)=LL at y L M ⊢;obtain ⟨c,X,wd,gv⟩:=LL;dsimp only at y L M ⊢;rw [Array.toList_push] at y;have i:ElemsOf (strKind prog w) c.toList:=(g.push Z rfl).perm y;have o:(c.toList.map fun e=>strOf e.2).Perm (ks++[z]):=by
   refine (y.map _).trans ?_;rw [map_append];exact J.append (.refl _)
  have a0:c.size=ks.length+1:=by
   rw [<- Array.length_toList, <- length_map (f:=fun e:Int × Value=>strOf e.2),o.length_eq];simp
  have D:∀ (d:SetTable),d.plain=false->d.led=t.led->d.fits c.size=true->wpAny (model prog w) A (do
    storeSet a c d
    if (!wd&&d.tooFull)=true then do
      (match (relayAll d c (SetTable.grown c.size)).2.2 with | true=>rule "set.scan.the-table-gave-way" | false=>pure ())
      storeSet a (relayAll d c (SetTable.grown c.size)).1 (relayAll d c (SetTable.grown c.size)).2.1
      pure (some true)
     else pure (some true)) (fun r p=>∃ h',Heap.SameBut a s.heap h'/\SetS prog w h' a (ks++[z])/\r=some true/\p={ s with heap:=h' }) E s:=fun d p2 W f2=>by
   refine wpAny_bind (wpAny_storeSet_of G rfl ?_ (fits_of_scanBound ∅));have u:=stored (es':=c) (t':=d) G;have I:=Heap.SameBut.update s.heap a (Obj.putSet c d);split
   ·have F:=relayAll_perm d c (SetTable.grown c.size);have O:=relayAll_fits d c (SetTable.grown c.size);have S:=Jgm d c (SetTable.grown c.size) p2;have T:=Jiv d c (SetTable.grown c.size);generalize relayAll d c (SetTable.grown c.size)=RR at F O S T ⊢;obtain ⟨m,Y,R⟩:=RR;dsimp only at F O S T ⊢;have a1:m.size=c.size:=by rw [<- Array.length_toList,F.length_eq,Array.length_toList]
    refine wpAny_bind ?_;have H:wpAny (model prog w) A (do storeSet a m Y;pure (some true)) (fun r p=>∃ h',Heap.SameBut a s.heap h'/\SetS prog w h' a (ks++[z])/\r=some true/\p={ s with heap:=h' }) E { s with heap:=s.heap.update a (Obj.putSet c d) }:=by
     refine wpAny_bind (wpAny_storeSet_of u rfl (wpAny_pure ⟨_,I.trans (Heap.SameBut.update _ a _),⟨m,_,Y,stored u,i.perm F,(F.map _).trans o,by simpa using hr,O,fun _=>S,fun z=>(T.trans W).trans (n z)⟩,rfl,rfl⟩) (fits_of_scanBound ∅))
    cases R
    ·exact wpAny_pure H
    ·exact wpAny_rule H
   ·exact wpAny_pure ⟨_,I,⟨c,_,d,u,i,o,by simpa using hr,f2,fun _=>p2,fun z=>W.trans (n z)⟩,rfl,rfl⟩
  have K:∀ r p,(∃ h',Heap.SameBut a s.heap h'/\SetS prog w h' a (ks++[z])/\r=some true/\p={ s with heap:=h' })->wpAny (model prog w) A (match r with | some b=>pure b | none=>setAddHashedIn a (.str z tk) ((strKind prog w).hash z) 99999) Q E p:=by
   rintro r p ⟨h',sb,P,rfl,rfl⟩;exact wpAny_pure (q h' true sb (by rw [if_neg v];exact P))
  refine wpAny_bind ?_;have gw:∀ (b:Bool) {Q':Unit->Shared->Prop},Q' () s->wpAny (model prog w) A (match b with | true=>rule "set.scan.the-table-gave-way" | false=>pure ()) Q' E s:=fun b Q' h=>by
   cases b
   ·exact wpAny_pure h
   ·exact wpAny_rule h
  refine gw gv ?_;split
  ·refine wpAny_bind ?_;rw [hashByValue_scannable 8 (x:=.str z tk) rfl];refine wpAny_pure ?_;exact wpAny_mono (D { X with plain:=false } rfl M (SetTable.fits_plain_off L)) K fun _ _ e=>e
  ·rename_i np;refine wpAny_bind (wpAny_pure ?_);exact wpAny_mono (D X (by simpa using np) M L) K fun _ _ e=>e
end
def addS (l:List Str) (z:Str):List Str:=if z∈l then l else l++[z]
def met (val:Nat->Str) (i:Nat):List Str:=((List.range i).map val).foldl addS []
theorem Jdx (val:Nat->Str) (i:Nat):met val (i+1)=addS (met val i) (val i):=by
 unfold met;rw [List.range_succ,map_append,foldl_append];rfl
theorem Jf7 (val:Nat->Str):∀ i,(met val i).length<=i
 | 0=>Nat.le_refl _
 | i+1=>by
  have:=Jf7 val i;rw [Jdx];unfold addS;split <;> simp <;> ac_nf
theorem JgR (val:Nat->Str):∀ i,(met val i).Nodup
 | 0=>List.nodup_nil
 | i+1=>by
  have:=JgR val i;rw [Jdx];unfold addS;split
  ·exact this
  ·rename_i h;rw [nodup_append];refine ⟨this,by simp,fun a ha b hb=>?_⟩;rw [mem_singleton.mp hb];exact fun e=>h (e ▸ ha)
theorem Jic (val:Nat->Str) (z:Str):∀ i,z∈met val i↔∃ j,j<i/\val j=z
 | 0=>by simp [met]
 | i+1=>by
  have ih:=Jic val z i;rw [Jdx];have e:z∈addS (met val i) (val i)↔z∈met val i\/z=val i:=by
   unfold addS;split
   ·rename_i h;constructor
    ·exact .inl
    ·rintro (h' | rfl)
     ·exact h'
     ·exact h
   ·simp
  rw [e,ih];constructor
  ·rintro (⟨j,hj,h⟩ | rfl)
   ·exact ⟨j,by ac_nf,h⟩
   ·exact ⟨i,by ac_nf,rfl⟩
  ·rintro ⟨j,hj,rfl⟩;by_cases c:j<i
   ·exact .inl ⟨j,c,rfl⟩
   ·have : j=i:=by ac_nf
    subst this;exact .inr rfl
section
variable {prog:Program} {w:World} {A:Around} {E:Value->Shared->Prop} {s:Shared}
theorem JkM {z:Str} {t:Tok}:(PySem.strKind prog w).is z (.str z t)=true:=by
 show Value.isStrOf z (.str z t)=true;simp [Value.isStrOf]
theorem SetS.at_ {h h':Heap} {a:Addr} {ks:List Str} (x:SetS prog w h a ks) (k:∀ o,h.get? a=some o->h'.get? a=some o):SetS prog w h' a ks:=by
 obtain ⟨d,c,t,b,r⟩:=x;exact ⟨d,c,t,k _ b,r⟩
theorem Jjd {R:Result->Shared->Prop} {I:Addr} {fp wr:List Addr} {G:Array GenState->Array GenState->Prop} {n:Nat} {P:Nat->Value->Prop} {St:Nat->Shared->Prop}
  (W:WalksS prog w A.in1 I fp wr G n P St) (S:Addr) (hSf:S∉fp) (val:Nat->Str) (hval:∀ i v,P i v->∃ t,v=.str (val i) t) (hb:n+1<scanBound) :
  ∀ (k i:Nat) (s:Shared),n-i=k->i<=n->St i s->SetS prog w s.heap S (met val i)->(∀ s',Moved (S::wr) G s s'->SetS prog w s'.heap S (met val n)->R (.ok (.ret .none)) s') ->
   codeAny (model prog w) A (.builtin "set.update.loop" ⟨[.ref S, .ref I],[]⟩) R s:=by
 have u:S∉wr:=fun h=>hSf (W.sub _ h);have y:∀ b∈wr,b∈S::wr:=fun b h=>mem_cons_of_mem _ h;intro k;induction k with
 | zero=>
  intro i s H B g r q;have : i=n:=by ac_nf
  subst this;refine codeAny_builtin (PyProof.Rows.F.entry_set_update_loop) ?_;rw [Around.under_plainId (PyProof.Rows.F.plain_set_update_loop) _];refine wpAny_bind (m:=pyNext (.ref I)) (W.done s _ _ g fun s' a=>?_);exact wpAny_pure (q s' (a.mono y) (r.at_ fun o e=>a.heap S o u e))
 | succ k ih=>
  intro i s H B g r q;have c:i<n:=by ac_nf
  refine codeAny_builtin (PyProof.Rows.F.entry_set_update_loop) ?_;rw [Around.under_plainId (PyProof.Rows.F.plain_set_update_loop) _];refine wpAny_bind (m:=pyNext (.ref I)) (W.item i s _ _ c g fun v s' E l a=>?_);obtain ⟨t,rfl⟩:=hval i v E;have d:SetS prog w s'.heap S (met val i):=r.at_ fun o e=>a.heap S o u e;have J:=Jf7 val i;refine wpAny_bind (m:=holding [Value.str (val i) t] (setAdd S (.str (val i) t))) (wpAny_holding ?_);unfold setAdd;refine wpAny_holding (wpAny_bind ((strKind prog w).pyHash (k:=val i) JkM ?_));refine Jkq (s:={ s' with toks:=s'.toks+1 }) d ∅ fun z b x f=>?_;have p:SetS prog w z S (met val (i+1)):=by
   rw [Jdx];exact f
  refine wpAny_pure ⟨plainId_quiet (PyProof.Rows.F.plain_set_update_loop) _,ih (i+1) _ ∅ c (W.frame _ s' _ _ l (Nat.le_succ _) fun b hb o e=>?_) p fun D C j=>?_⟩
  ·rw [x.2 b (fun h:b=S=>hSf (h ▸ hb))];exact e
  ·refine q D (Moved.trans W.gtrans ((a.mono y).then_heap (Nat.le_succ _) fun b o hb e=>?_) C) j;rw [x.2 b (fun h:b=S=>hb (by rw [h];exact mem_cons_self))];exact e
end
section
variable {prog:Program} {w:World} {A:Around} {E:Value->Shared->Prop} {s:Shared}
theorem JiA:∀ {vs:List Value} {ss:List Str},StrsAre vs ss->∀ (i:Nat) (v:Value),vs[i]?=some v->∃ t,v=.str (ss.getD i ⟨#[]⟩) t
 | _,_, .nil,i,v,h=>by simp at h
 | _,_, .cons n t r,0,v,h=>by
  simp at h;exact ⟨t,by rw [<- h];rfl⟩
 | _,_, .cons n t r,i+1,v,h=>by
  rw [List.getElem?_cons_succ] at h;obtain ⟨t',e⟩:=JiA r i v h;exact ⟨t',by rw [e];rfl⟩
theorem Jgs (a:Value) {Q₁ : Value->Shared->Prop}
  (h:∀ led:Bool,(w.params.followText "set-order"=false->led=true)->Q₁ (.ref s.heap.objs.size) { s with heap:=s.heap.push { cls:=.type "set",dict:=none,data:=.set #[] 0 (.fresh 0 0 led) } }) :
  codeAny (model prog w) A (.call (.builtin "set.__new__") ⟨[.type "set",a],[]⟩) (wants Q₁ E) s:=by
 refine codeAny_of_tree ?_;show wpAny _ A.in1 (do checkBuiltinCall "set.__new__" ⟨[.type "set",a],[]⟩;again (.builtin "set.__new__" ⟨[.type "set",a],[]⟩)) _ _ s;refine wpAny_bind (wpAny_of_eq (F.newCall_set_1 a) (wpAny_pure ⟨plainId_quiet F.plain_set_new _,codeAny_builtin F.entry_set_new ?_⟩));rw [Around.under_plainId F.plain_set_new _];unfold Builtin.«set.__new__» Builtin.Frozenset.newClass;have b:=sub_set_self;obtain ⟨c,g,d,e,f⟩:=s;dsimp only
 wp_walk
 refine wpAny_askSetting (wpAny_pure ?_);dsimp only;simp only [newObj];refine wpAny_bind (wpAny_alloc (wpAny_pure ?_));exact wpAny_pure (h _ (fun z=>by simp;exact z))
abbrev set0 (led:Bool):Obj:={ cls:=.type "set",dict:=none,data:=.set #[] 0 (.fresh 0 0 led) }
theorem Jjc {l:Addr} {items:Array Value} {ss:List Str} {led:Bool} {R:Result->Shared->Prop} (hld:w.params.followText "set-order"=false->led=true) (hh:A.handled=none) (hl:s.heap.IsList l items) (hi:StrsAre items.toList ss) (hb:items.size+1<scanBound)
  (q:∀ h' tk,SetS prog w h' s.heap.objs.size (met (fun i=>ss.getD i ⟨#[]⟩) items.size)->(∀ b o,s.heap.get? b=some o->h'.get? b=some o)->s.toks<=tk->R (.ok (.ret .none)) { s with heap:=h',toks:=tk }) :
  wpAny (model prog w) A.in1.in1 (Builtin.«set.__init__» ⟨[.ref s.heap.objs.size, .ref l],[]⟩) (fun fin s'=>match fin with | .done f=>R (.ok f) s' | .again c'=>c'.quiet=true/\codeAny (model prog w) A.in1 c' R s') (fun e s'=>R (.error e) s') { s with heap:=s.heap.push (set0 led) }:=by
 have D:(s.heap.push (set0 led)).get? s.heap.objs.size=some (set0 led):=Heap.get?_push_size _ rfl;have y:l<s.heap.objs.size:=by obtain ⟨o,L,_⟩:=hl;exact Heap.lt_size L
 have a:(s.heap.push (set0 led)).IsList l items:=hl.push _;have U:=F.sub_list_set;have V:=F.sub_list_frozenset;obtain ⟨E,K,d,T,c⟩:=id a;obtain ⟨B,k,t,j⟩:=E;simp only at d c;subst d;subst c;have Q:(Value.type "list" == Value.type "dict")=false:=by decide
 unfold Builtin.«set.__init__»;unfold noKeywords;unfold Builtin.Frozenset.updateFrom;generalize r:pyIter=PI
 wp_walk
 subst r;refine wpAny_pyIter_list a ?_;refine wpAny_bind (wpAny_runValue ?_);have P:A.in1.in1.in1.handled=none:=by simp [hh]
 have n:(s.heap.push (set0 led)).objs.size=s.heap.objs.size+1:=Heap.size_push ..;have N:l≠(s.heap.push (set0 led)).objs.size:=by
  rw [n];exact Nat.ne_of_lt (Nat.lt_succ_of_lt y)
 have G:s.heap.objs.size∉[(s.heap.push (set0 led)).objs.size,l]:=by
  rw [n];simp only [mem_cons,not_mem_nil,or_false,not_or];exact ⟨Nat.ne_of_lt (Nat.lt_succ_self _),Nat.ne_of_gt y⟩
 refine Jjd ((Walks.list P _ l N items).toS) s.heap.objs.size G (fun i=>ss.getD i ⟨#[]⟩) (fun i v J=>JiA hi i v (by rw [Array.getElem?_toList];exact J)) hb (items.size-0) 0 _ ∅ (Nat.zero_le _) ⟨⟨_,Heap.get?_push_size _ rfl,rfl,rfl⟩,a.push _⟩ ?_ ?_
 ·have g:((s.heap.push (set0 led)).push { cls:=.type "list_iterator",data:=.fields #[.ref l, .int 0 0] }).get? s.heap.objs.size=some (set0 led):=Heap.get?_push_of_some _ D;exact ⟨#[],0,_,g,fun e S=>by simp at S,by show List.Perm [] _;exact .refl _,(show (0:Nat)<scanBound by decide),by rfl,fun z=>absurd rfl z,hld⟩
 ·intro s' h m;obtain ⟨h',C,H,p,u⟩:=s';have M:C=s.gens:=h.gens;have I:H=s.drawn:=h.drawn;have O:u=s.os:=h.os;subst M;subst I;subst O;refine wpAny_pure ?_;refine wpAny_pure ?_;refine q h' p m (fun b o e=>?_) h.toks;have x:=Heap.lt_size e;exact h.heap b o (by rw [n];simp only [mem_cons,not_mem_nil,or_false,not_or];exact ⟨Nat.ne_of_lt x,Nat.ne_of_lt (Nat.lt_succ_of_lt x)⟩) (Heap.get?_push_of_some _ (Heap.get?_push_of_some _ e))
theorem Jea {l:Addr} {items:Array Value} {ss:List Str} {Q:Value->Shared->Prop} (hh:A.handled=none) (hl:s.heap.IsList l items) (hi:StrsAre items.toList ss) (hb:items.size+1<scanBound)
  (q:∀ h' tk,SetS prog w h' s.heap.objs.size (met (fun i=>ss.getD i ⟨#[]⟩) items.size)->(∀ b o,s.heap.get? b=some o->h'.get? b=some o)->s.toks<=tk->Q (.ref s.heap.objs.size) { s with heap:=h',toks:=tk }) :
  wpAny (model prog w) A (call (.type "set") [.ref l]) Q E s:=by
 obtain ⟨I,u,H⟩:=F.called_set.mro;have v:=F.called_set.made;have D:=F.called_set.sub;have G:=F.called_set.notType;have z:=F.called_set.canCreate;have x:=F.typeCall_set_1 (.ref l);refine (wpAny_call (codeAny_of_tree ?_));show wpAny (model prog w) _ (callAny (.type "set") _) _ _ _;refine wpAny_pure ⟨Code.quiet_builtin _ (by decide +kernel),codeAny_builtin (F.entry_type_call) ?_⟩;rw [Around.under_plain (weight_type_call_type "set" ([.ref l]) []) rfl];repeat (any_goals (first | assumption | wp_step))
 refine codeAny_mono (Jgs (.ref l) (E:=E) (Q₁:=fun h k=>∃ d:Bool,(w.params.followText "set-order"=false->d=true)/\h=.ref s.heap.objs.size/\k={ s with heap:=s.heap.push (set0 d) }) fun d f=>⟨d,f,rfl,rfl⟩) fun r k j=>?_;cases r with
 | error e=>exact j
 | ok fl=>
  cases fl with
  | ret h=>
   obtain ⟨d,f,rfl,rfl⟩:=j;have n:(s.heap.push (set0 d)).get? s.heap.objs.size=some (set0 d):=Heap.get?_push_size _ rfl;have p:Shared.TypeIs { s with heap:=s.heap.push (set0 d) } (.ref s.heap.objs.size) "set":=⟨_,n,rfl⟩;have C:=F.called_set.init.lookup;have B:=F.called_set.init.bind (.ref s.heap.objs.size);repeat (any_goals (first | assumption | wp_step))
   refine codeAny_mono (codeAny_call_builtin (R:=wants (fun r m=>r=.none/\Q (.ref s.heap.objs.size) m) E) F.called_set.init.plain F.entry_set_init (check_set_init_1 p ?_)) fun t m g=>?_
   ·exact Jjc f hh hl hi hb fun h' tk a b c=>⟨rfl,q h' tk a b c⟩
   ·cases t with
    | error e=>exact g
    | ok f2=>
     cases f2 with
     | ret r=>
      obtain ⟨rfl,y⟩:=g;repeat (any_goals (first | assumption | wp_step))
     | _=>exact g.elim
  | _=>exact j.elim
end
theorem JaU:Slot "set_iterator" "__next__" "set_iterator.__next__":=.of (owner:="set_iterator") (n:="__next__") (by rw [typeLookup_type,builtinLookup_eq_fast];kernel_rfl) (by decide +kernel) (by decide +kernel) (by decide +kernel) (by first | exact .inl (by decide +kernel) | exact .inr (by decide +kernel)) (by rw [isSubtype_type];kernel_rfl)
theorem Jca:entryFor table "set_iterator.__next__"=some Builtin.«set_iterator.__next__»:=entryFor_of_tree (by kernel_rfl)
theorem JcJ (a:Value):argsOk "set_iterator.__next__" ⟨[a],[]⟩:=by unfold argsOk;kernel_rfl
theorem Jiy:Slot "set_iterator" "__iter__" "set_iterator.__iter__":=.of (owner:="set_iterator") (n:="__iter__") (by rw [typeLookup_type,builtinLookup_eq_fast];kernel_rfl) (by decide +kernel) (by decide +kernel) (by decide +kernel) (by first | exact .inl (by decide +kernel) | exact .inr (by decide +kernel)) (by rw [isSubtype_type];kernel_rfl)
theorem JjI (a:Value):argsOk "set_iterator.__iter__" ⟨[a],[]⟩:=by unfold argsOk;kernel_rfl
theorem JdI:entryFor table "set.__iter__"=some Builtin.«frozenset.__iter__»:=entryFor_alias (id':="frozenset.__iter__") (by kernel_rfl) rfl (by decide +kernel) (by kernel_rfl)
theorem Jc6 {α : Type}:∀ {l:List α} {i:Nat} (h:i<l.length),(l[i]::l.eraseIdx i).Perm l
 | x::l,0,h=>.refl _
 | x::l,i+1,h=>(List.Perm.swap _ _ _).trans ((Jc6 (l:=l) (i:=i) (by simpa using h)).cons x)
section
variable {M:Model} {A:Around} {E:Value->Shared->Prop} {s:Shared}
theorem JiH {src:Source} {n:Nat} {Q:Nat->Shared->Prop} (hn:n≠0) (h:∀ i,i<n->Q i { s with drawn:=s.drawn.bump src }):wpAny M A (choose src n) Q E s :=
 fun Γ p _=>⟨hn,h _ (Nat.mod_lt _ (Nat.pos_of_ne_zero hn))⟩
theorem Jer {α : Type}:∀ (n:Nat) (xs:List α) (s:Shared) (Q:List α->Shared->Prop),xs.length=n->(∀ ys d,ys.Perm xs->Q ys { s with drawn:=d })->wpAny M A (drawOrder n xs) Q E s
 | 0,xs,s,Q,hl,q=>by
  have : xs=[]:=List.eq_nil_of_length_eq_zero hl;subst this;exact wpAny_pure (q [] s.drawn (.refl _))
 | n+1,[],s,Q,hl,q=>by simp at hl
 | n+1,x::xs,s,Q,hl,q=>by
  unfold drawOrder;refine wpAny_bind (JiH (by simp) fun i hi=>?_);rw [List.getElem?_eq_getElem hi];refine wpAny_bind (Jer n _ _ _ (by rw [List.length_eraseIdx_of_lt hi];ac_nf) fun ys d hp=>?_);exact wpAny_pure (q _ d ((hp.cons _).trans (Jc6 hi)))
end
theorem Jiq {α : Type} (next:Nat->Nat):∀ (n k:Nat) (l:List α) (out:Array α),l.length=n->(pickOrder.go next n k l out).toList.Perm (out.toList++l)
 | 0,k,l,out,hl=>by
  have : l=[]:=List.eq_nil_of_length_eq_zero hl;subst this;unfold pickOrder.go;simp
 | n+1,k,l,out,hl=>by
  unfold pickOrder.go;have hi:next k % l.length<l.length:=Nat.mod_lt _ ∅;rw [List.getElem?_eq_getElem hi];dsimp only;refine (Jiq next n (k+1) _ _ (by rw [List.length_eraseIdx_of_lt hi];ac_nf)).trans ?_;rw [Array.toList_push,List.append_assoc];exact (List.Perm.refl _).append (Jc6 hi)
theorem Jcr {α : Type} (next:Nat->Nat) (xs:Array α):(pickOrder next xs).toList.Perm xs.toList:=by
 have:=Jiq next xs.size 0 xs.toList #[] (by simp);simpa [pickOrder] using this
section
variable {prog:Program} {w:World} {A:Around} {E:Value->Shared->Prop} {s:Shared}
def setO (es:Array (Int × Value)) (ep:Nat) (t:SetTable):Obj:={ cls:=.type "set",dict:=none,data:=.set es ep t,slots:=#[] }
def itO (f:Value) (i:Nat) (a:Addr) (n ep:Nat):Obj:={ cls:=.type "set_iterator",data:=.fields #[f, .int i 0, .ref a, .int n 0, .int ep 0] }
theorem Jb8 {Q:Bool->Shared->Prop} (h:Q (w.params.followText "set-order") s):wpAny (model prog w) A setsByText Q E s:=by
 unfold setsByText;exact wpAny_bind (wpAny_askSetting (wpAny_pure h))
theorem JfU {a:Addr} {es:Array (Int × Value)} {ep:Nat} {t:SetTable} {Q:Array (Int × Value)->Shared->Prop} (ha:s.heap.get? a=some (setO es ep t)) (hf:t.fits es.size=true) (ht:w.params.followText "set-order"=true)
  (q:Q (pickOrder (w.params.setOrder a ep) es) s):wpAny (model prog w) A (setWalk a) Q E s:=by
 unfold setWalk;refine wpAny_bind (wpAny_setState_of ha rfl hf ?_);dsimp only;refine wpAny_bind (Jb8 ?_);rw [if_pos ht];exact wpAny_bind (wpAny_askSetting (wpAny_pure q))
theorem Jew {h:Heap} {I a:Addr} {f f':Value} {i j n ep:Nat} {g:Array Value->Array Value} (hI:h.get? I=some (itO f i a n ep)) (hg:g #[f, .int i 0, .ref a, .int n 0, .int ep 0]=#[f', .int j 0, .ref a, .int n 0, .int ep 0]) :
  (h.update I (Obj.mapFields g)).get? I=some (itO f' j a n ep):=by
 have e:=Heap.get?_update_self (Obj.mapFields g) hI (Obj.isFreed_of_fields (Obj.data_mapFields (o:=itO f i a n ep) rfl _));rw [e];unfold itO;simp only [Obj.mapFields,hg]
theorem Je8 {P:PySem.Fin->Shared->Prop} {Q:Option Value->Shared->Prop} (hh:A.handled=none) (q:∀ h',(∀ b o,s.heap.get? b=some o->h'.get? b=some o)->Q none { s with heap:=h' }) :
  wpAny (model prog w) A.in1 (do let x <- newExc (.type "StopIteration") [];raiseNew x) P (fun e s'=>wpAny (model prog w) A (do let b <- isInstance e (.type "StopIteration");if b=true then pure none else throw e) Q E s') s:=by
 refine wpAny_bind ?_;simp only [newExc];simp only [newTuple];refine wpAny_bind (wpAny_newObj_type ?_ (by size_fits));refine wpAny_bind (m:=firstArgMember _ _) (wpAny_of_eq (a:=Value.none) (by simp only [firstArgMember];rfl) ?_);refine wpAny_newObj_type ?_ (by size_fits);simp only [raiseNew];refine wpAny_bind (wpAny_handled ?_);rw [show A.in1.handled=none from hh];refine wpAny_bind (wpAny_pure (wpAny_throw ?_));refine wpAny_bind (wpAny_isInstance (T:="StopIteration") (b:=true) ⟨_,Heap.get?_push_size _ rfl,rfl⟩ isSubtype_stop ?_);exact wpAny_pure (q _ fun b o e=>Heap.get?_push_of_some _ (Heap.get?_push_of_some _ e))
section
variable {I a:Addr} {es:Array (Int × Value)} {i ep:Nat} {t:SetTable} {Q:Option Value->Shared->Prop}
theorem Jfo {v:Value} (hI:s.heap.get? I=some (itO (.int 0 0) i a es.size ep)) (ha:s.heap.get? a=some (setO es ep t)) (hf:t.fits es.size=true)
  (ht:w.params.followText "set-order"=true) (hv:((pickOrder (w.params.setOrder a ep) es).toList.map (·.2))[i]?=some v)
  (q:∀ h',h'.get? I=some (itO (.int 0 0) (i+1) a es.size ep)->Heap.SameBut I s.heap h'->Q (some v) { s with heap:=h' }):wpAny (model prog w) A (pyNext (.ref I)) Q E s:=by
 have c:s.TypeIs (.ref I) "set_iterator":=⟨_,hI,rfl⟩;unfold pyNext;refine wpAny_bind (wpAny_attempt (wpAny_callSpecial?_slot (name:=Str.ofString "__next__") c JaU (wpAny_call_entry JaU c Jca ?_ (JcJ _))));unfold Builtin.«set_iterator.__next__»;refine wpAny_bind (m:=slotArgs _ _ _) (wpAny_pure ?_);refine wpAny_bind (wpAny_fieldsOf hI rfl ?_);show wpAny _ _ (setEntries a >>= _) _ _ _;refine wpAny_bind (wpAny_setEntries_of ha rfl hf ?_);rw [if_neg (by simp)];dsimp only;unfold setNext;refine wpAny_bind (wpAny_bind (wpAny_setState_of ha rfl hf ?_));dsimp only;refine wpAny_bind (Jb8 ?_);rw [if_pos ht,if_neg (by simp)];refine wpAny_bind (JfU ha hf ht (wpAny_pure ?_));rw [List.getElem?_map,Array.getElem?_toList] at hv;obtain ⟨x,e,rfl⟩:=Option.map_eq_some_iff.mp hv;rw [Int.toNat_natCast,e];dsimp only [Option.map];refine wpAny_bind (wpAny_setField hI rfl (by simp) ?_);have d:=Jew (f':=.int 0 0) (j:=i) (g:=fun b=>b.setIfInBounds 0 (rawInt ((Int.toNat 0:Nat):Int))) hI rfl;refine wpAny_bind (wpAny_setField d rfl (by simp) ?_);have f:=Jew (f':=.int 0 0) (j:=i+1) (g:=fun b=>b.setIfInBounds 1 (rawInt ((i:Int)+1))) d rfl;exact wpAny_pure ⟨_,rfl,wpAny_pure (q _ f ((Heap.SameBut.update ..).trans (Heap.SameBut.update ..)))⟩
theorem JeI (hh:A.handled=none) (hI:s.heap.get? I=some (itO (.int 0 0) i a es.size ep)) (ha:s.heap.get? a=some (setO es ep t)) (hf:t.fits es.size=true)
  (ht:w.params.followText "set-order"=true) (hv:(pickOrder (w.params.setOrder a ep) es)[i]?=none)
  (q:∀ h',(∀ b o,b≠I->s.heap.get? b=some o->h'.get? b=some o)->Q none { s with heap:=h' }):wpAny (model prog w) A (pyNext (.ref I)) Q E s:=by
 have c:s.TypeIs (.ref I) "set_iterator":=⟨_,hI,rfl⟩;unfold pyNext;refine wpAny_bind (wpAny_attempt (wpAny_callSpecial?_slot (name:=Str.ofString "__next__") c JaU (wpAny_call_entry JaU c Jca ?_ (JcJ _))));unfold Builtin.«set_iterator.__next__»;refine wpAny_bind (m:=slotArgs _ _ _) (wpAny_pure ?_);refine wpAny_bind (wpAny_fieldsOf hI rfl ?_);show wpAny _ _ (setEntries a >>= _) _ _ _;refine wpAny_bind (wpAny_setEntries_of ha rfl hf ?_);rw [if_neg (by simp)];dsimp only;unfold setNext;refine wpAny_bind (wpAny_bind (wpAny_setState_of ha rfl hf ?_));dsimp only;refine wpAny_bind (Jb8 ?_);rw [if_pos ht,if_neg (by simp)];refine wpAny_bind (JfU ha hf ht (wpAny_pure ?_));rw [Int.toNat_natCast,hv];dsimp only [Option.map];refine wpAny_bind (wpAny_setField hI rfl (by simp) ?_);refine Je8 hh fun h' k=>q h' fun b o d e=>k b o ?_;exact ((Heap.SameBut.update ..).extBut b o d e)
theorem Jhg {v:Value} {tp:Addr} {ps:List Nat} {j:Nat} {hs:Int} (hI:s.heap.get? I=some (itO (.ref tp) i a es.size ep)) (ha:s.heap.get? a=some (setO es ep t)) (hf:t.fits es.size=true)
  (hp:s.heap.get? tp=some (seqObj "tuple" (ps.map fun (n:Nat)=>rawInt n).toArray 0)) (hj:ps[i]?=some j) (hv:es[j]?=some (hs,v))
  (q:∀ h',h'.get? I=some (itO (.ref tp) (i+1) a es.size ep)->Heap.SameBut I s.heap h'->Q (some v) { s with heap:=h' }):wpAny (model prog w) A (pyNext (.ref I)) Q E s:=by
 have b:s.TypeIs (.ref I) "set_iterator":=⟨_,hI,rfl⟩;unfold pyNext;refine wpAny_bind (wpAny_attempt (wpAny_callSpecial?_slot (name:=Str.ofString "__next__") b JaU (wpAny_call_entry JaU b Jca ?_ (JcJ _))));unfold Builtin.«set_iterator.__next__»;refine wpAny_bind (m:=slotArgs _ _ _) (wpAny_pure ?_);refine wpAny_bind (wpAny_fieldsOf hI rfl ?_);show wpAny _ _ (setEntries a >>= _) _ _ _;refine wpAny_bind (wpAny_setEntries_of ha rfl hf ?_);rw [if_neg (by simp)];dsimp only;unfold seqItems?;refine wpAny_bind (wpAny_bind (wpAny_load hp (wpAny_pure ?_)));dsimp only;have e:((ps.map fun (n:Nat)=>rawInt n).toArray)[((i:Int)).toNat]?=some (rawInt j):=by
  rw [Int.toNat_natCast,List.getElem?_toArray,List.getElem?_map,hj];rfl
 rw [e];show wpAny _ _ (setNextDrawn a _ _ >>= _) _ _ _;unfold setNextDrawn;refine wpAny_bind (wpAny_bind (wpAny_setState_of ha rfl hf ?_));dsimp only;rw [if_neg (by simp),Int.toNat_natCast,hv];refine wpAny_pure ?_;refine wpAny_bind (wpAny_setField hI rfl (by simp) ?_);have c:=Jew (f':=.ref tp) (j:=i+1) (g:=fun d=>d.setIfInBounds 1 (rawInt ((i:Int)+1))) hI rfl;exact wpAny_pure ⟨_,rfl,wpAny_pure (q _ c (Heap.SameBut.update ..))⟩
theorem JhM {tp:Addr} {ps:List Nat} (hh:A.handled=none) (hI:s.heap.get? I=some (itO (.ref tp) i a es.size ep)) (ha:s.heap.get? a=some (setO es ep t)) (hf:t.fits es.size=true)
  (hp:s.heap.get? tp=some (seqObj "tuple" (ps.map fun (n:Nat)=>rawInt n).toArray 0)) (hj:ps[i]?=none)
  (q:∀ h',(∀ b o,b≠I->s.heap.get? b=some o->h'.get? b=some o)->Q none { s with heap:=h' }):wpAny (model prog w) A (pyNext (.ref I)) Q E s:=by
 have c:s.TypeIs (.ref I) "set_iterator":=⟨_,hI,rfl⟩;unfold pyNext;refine wpAny_bind (wpAny_attempt (wpAny_callSpecial?_slot (name:=Str.ofString "__next__") c JaU (wpAny_call_entry JaU c Jca ?_ (JcJ _))));unfold Builtin.«set_iterator.__next__»;refine wpAny_bind (m:=slotArgs _ _ _) (wpAny_pure ?_);refine wpAny_bind (wpAny_fieldsOf hI rfl ?_);show wpAny _ _ (setEntries a >>= _) _ _ _;refine wpAny_bind (wpAny_setEntries_of ha rfl hf ?_);rw [if_neg (by simp)];dsimp only;unfold seqItems?;refine wpAny_bind (wpAny_bind (wpAny_load hp (wpAny_pure ?_)));dsimp only;have e:((ps.map fun (n:Nat)=>rawInt n).toArray)[((i:Int)).toNat]?=none:=by
  rw [Int.toNat_natCast,List.getElem?_toArray,List.getElem?_map,hj];rfl
 rw [e];dsimp only;refine wpAny_bind (wpAny_setField hI rfl (by simp) ?_);have h:=Jew (f':=rawInt 0) (j:=i) (g:=fun f=>f.setIfInBounds 0 (rawInt 0)) hI rfl;refine wpAny_bind (wpAny_setField h rfl (by simp) ?_);refine Je8 hh fun h' k=>q h' fun b o d e=>k b o ?_;exact ((Heap.SameBut.update ..).extBut b o d ((Heap.SameBut.update ..).extBut b o d e))
end
end
theorem JhN:entryFor table "set_iterator.__iter__"=some Builtin.«dict_keyiterator.__iter__»:=entryFor_alias (id':="dict_keyiterator.__iter__") (by kernel_rfl) rfl (by decide +kernel) (by kernel_rfl)
section
variable {prog:Program} {w:World} {A:Around} {E:Value->Shared->Prop} {s:Shared}
theorem JeN {I a:Addr} {f:Value} {i n ep:Nat} {Q:Value->Shared->Prop} (hI:s.heap.get? I=some (itO f i a n ep)) (q:Q (.ref I) s):wpAny (model prog w) A (pyIter (.ref I)) Q E s:=by
 have b:s.TypeIs (.ref I) "set_iterator":=⟨_,hI,rfl⟩;refine wpAny_pyIter_slot b Jiy (wpAny_call_entry Jiy b JhN ?_ (JjI _));exact wpAny_pure ⟨_,rfl,"set_iterator",_,b,JaU.lookup,q⟩
theorem JiG (hh:A.handled=none) (I a:Addr) (hne:a≠I) {es:Array (Int × Value)} {ep:Nat} {t:SetTable} (hf:t.fits es.size=true) (ht:w.params.followText "set-order"=true) :
  Walks prog w A I [I,a] [I] es.size (fun i v=>((pickOrder (w.params.setOrder a ep) es).toList.map (·.2))[i]?=some v) (fun i h=>h.get? I=some (itO (.int 0 0) i a es.size ep)/\h.get? a=some (setO es ep t)) where
 sub:=fun b d=>by simp at d;simp [d]
 frame:=fun _ _ _ c k=>⟨k I (by simp) _ c.1,k a (by simp) _ c.2⟩
 item:=fun i s Q E n c q=>by
  have m:((pickOrder (w.params.setOrder a ep) es).toList.map (·.2)).length=es.size:=by rw [length_map,(Jcr _ es).length_eq,Array.length_toList]
  have g:=List.getElem?_eq_getElem (l:=(pickOrder (w.params.setOrder a ep) es).toList.map (·.2)) (by rw [m];exact n);exact Jfo c.1 c.2 hf ht g fun f e j=>q _ f s.toks g ⟨e,j.extBut a _ hne c.2⟩ fun b o d z=>j.extBut b o (fun h=>d (by simp [h])) z
 done:=fun s Q E c q=>JeI hh c.1 c.2 hf ht (by
  rw [<- Array.getElem?_toList];exact List.getElem?_eq_none (by rw [(Jcr _ es).length_eq,Array.length_toList];exact Nat.le_refl _)) fun f k=>q f s.toks fun b o d z=>k b o (fun h=>d (by simp [h])) z
 self:=fun _ _ _ _ c q=>JeN c.1 q
theorem JiF (hh:A.handled=none) (I a tp:Addr) (hne:a≠I) (hnt:tp≠I) {es:Array (Int × Value)} {ep:Nat} {t:SetTable} {ps:List Nat} (hf:t.fits es.size=true) (hp:ps.Perm (List.range es.size)) :
  Walks prog w A I [I,a,tp] [I] es.size (fun i v=>(ps.map fun j=>(es.getD j (0, .none)).2)[i]?=some v) (fun i h=>h.get? I=some (itO (.ref tp) i a es.size ep)/\h.get? a=some (setO es ep t)/\h.get? tp=some (seqObj "tuple" (ps.map fun (n:Nat)=>rawInt n).toArray 0)) where
 sub:=fun b d=>by simp at d;simp [d]
 frame:=fun _ _ _ c k=>⟨k I (by simp) _ c.1,k a (by simp) _ c.2.1,k tp (by simp) _ c.2.2⟩
 item:=fun i s Q E u c q=>by
  have r:ps.length=es.size:=by rw [hp.length_eq,List.length_range]
  have p:i<ps.length:=by rw [r];exact u
  have m:=List.getElem?_eq_getElem p;have l:ps[i]<es.size:=List.mem_range.mp (hp.mem_iff.mp (List.getElem_mem p));have y:es[ps[i]]?=some (es[ps[i]].1,es[ps[i]].2):=Array.getElem?_eq_getElem l;have x:(ps.map fun j=>(es.getD j (0, .none)).2)[i]?=some es[ps[i]].2:=by
   rw [List.getElem?_map,m,Option.map_some,Array.getD_eq_getD_getElem?,Array.getElem?_eq_getElem l];rfl
  exact Jhg c.1 c.2.1 hf c.2.2 m y fun f e g=>q _ f s.toks x ⟨e,g.extBut a _ hne c.2.1,g.extBut tp _ hnt c.2.2⟩ fun b o d z=>g.extBut b o (fun h=>d (by simp [h])) z
 done:=fun s Q E c q=>JhM hh c.1 c.2.1 hf c.2.2 (List.getElem?_eq_none (by rw [hp.length_eq,List.length_range];exact Nat.le_refl _)) fun f k=>q f s.toks fun b o d z=>k b o (fun h=>d (by simp [h])) z
 self:=fun _ _ _ _ c q=>JeN c.1 q
theorem Jdw {r:Addr} {Q:Bool->Shared->Prop} (ty:s.TypeIs (.ref r) "set") (h:Q false s):wpAny (model prog w) A (Builtin.List.listLengthHint (.ref r)) Q E s:=by
 unfold Builtin.List.listLengthHint;refine wpAny_bind (wpAny_specialOf ty PySem.F.slot_set_len.lookup ?_);generalize a:("set.__len__" : String)=c
 wp_delta
 rw [show splitId c=some ("set","__len__") from by subst a;decide +kernel];subst a;refine wpAny_bind (wpAny_isInstance (T:="set") (b:=true) ty (by rw [isSubtype_type];kernel_rfl) ?_);refine wpAny_ite_split (fun z=>absurd z ⋯) (fun _=>?_);refine wpAny_ite_split (fun _=>?_) (fun z=>absurd (by decide +kernel) z);exact wpAny_bind (wpAny_typeOf ty (wpAny_pure h))
theorem JiR {a:Addr} {es:Array (Int × Value)} {ep:Nat} {t:SetTable} {Q:Value->Shared->Prop} (ha:s.heap.get? a=some (setO es ep t)) (hf:t.fits es.size=true) (hp:t.plain=false) (h2:2<=es.size) (hz:es.size<=sizeLine)
  (q1:w.params.followText "set-order"=true->Q (.ref s.heap.objs.size) { s with heap:=s.heap.push (itO (.int 0 0) 0 a es.size ep) })
  (q2:∀ (ps:List Nat) d,ps.Perm (List.range es.size)->Q (.ref (s.heap.objs.size+1)) { s with heap:=(s.heap.push (seqObj "tuple" (ps.map fun (n:Nat)=>rawInt n).toArray 0)).push (itO (.ref s.heap.objs.size) 0 a es.size ep),drawn:=d }) :
  wpAny (model prog w) A (pyIter (.ref a)) Q E s:=by
 have c:s.TypeIs (.ref a) "set":=⟨_,ha,rfl⟩;refine wpAny_pyIter_slot c PySem.F.slot_set_iter (wpAny_call_entry PySem.F.slot_set_iter c JdI ?_ (PySem.F.args_set_iter_1 _));unfold Builtin.«frozenset.__iter__»;refine wpAny_bind (m:=Builtin.Frozenset.slot0 _ _) (wpAny_pure ?_);unfold Builtin.Frozenset.sizeOf;refine wpAny_bind (wpAny_bind (wpAny_setEntries_of ha rfl hf (wpAny_pure ?_)));unfold setDrawn;refine wpAny_bind (wpAny_bind (wpAny_setState_of ha rfl hf ?_));dsimp only;refine wpAny_bind (Jb8 ?_);refine wpAny_pure ?_;cases ht:w.params.followText "set-order" with
 | true=>
  rw [if_neg (by simp)];refine wpAny_bind (wpAny_pure (wpAny_bind (wpAny_setEpoch_of ha rfl hf ?_)));unfold newFields;refine wpAny_bind (wpAny_newObj_type (wpAny_pure ⟨_,rfl,"set_iterator",_,⟨_,Heap.get?_push_size _ rfl,rfl⟩,JaU.lookup,?_⟩));exact q1 ht
 | false=>
  have f:decide (es.size > 1)=true:=decide_eq_true (show 1<es.size from h2);show wpAny _ _ (if (!false&&(!t.plain&&decide (es.size > 1)))=true then _ else _) _ _ _;rw [if_pos (by rw [hp,f];rfl)];refine wpAny_bind (Jer _ _ _ _ (by simp) fun ps d b=>?_);refine wpAny_bind (wpAny_newTuple ?_ (by rw [length_map,b.length_eq,List.length_range];exact hz));have e:(s.heap.push (seqObj "tuple" (ps.map fun (n:Nat)=>rawInt n).toArray 0)).objs.size=s.heap.objs.size+1:=Heap.size_push ..;refine wpAny_bind (wpAny_setEpoch_of (Heap.get?_push_of_some _ ha) rfl hf ?_);unfold newFields;refine wpAny_bind (wpAny_newObj_type (wpAny_pure ⟨_,rfl,"set_iterator",_,⟨_,Heap.get?_push_size _ rfl,rfl⟩,JaU.lookup,?_⟩));have:=q2 ps d b;rw [<- e] at this;exact this
theorem JjU {a S:Addr} {es:Array (Int × Value)} {ep c0:Nat} {t:SetTable} {res:Value} {R:Result->Shared->Prop} (hh:A.handled=none) (ha:s.heap.get? a=some (setO es ep t)) (hf:t.fits es.size=true) (hp:t.plain=false) (h2:2<=es.size) (hz:es.size<=sizeLine)
  (hSa:S≠a) (hS:s.heap.get? S=some { cls:=.type "list",data:=.seq #[] c0 })
  (q:∀ s' acc c',(∀ b o,b≠S->s.heap.get? b=some o->s'.heap.get? b=some o)->s'.gens=s.gens->s'.os=s.os->s.toks<=s'.toks->s'.heap.get? S=some { cls:=.type "list",dict:=none,data:=.seq acc c',slots:=#[] }->acc.toList.Perm (es.toList.map (·.2))->R (.ok (.ret res)) s') :
  wpAny (model prog w) A.in1 (Builtin.List.listExtendWith (.ref S) (.ref a) res) (fun fin s'=>match fin with | .done f=>R (.ok f) s' | .again c'=>c'.quiet=true/\codeAny (model prog w) A c' R s') (fun e s'=>R (.error e) s') s:=by
 have key:∀ (I:Addr) (p:List Addr) (l:List Value) (St:Nat->Heap->Prop) (g:Shared),Walks prog w A.in1 I p [I] es.size (fun i v=>l[i]?=some v) St->l.Perm (es.toList.map (·.2))->S∉p->s.heap.get? I=none->St 0 g.heap ->
   (∀ b o,s.heap.get? b=some o->g.heap.get? b=some o)->g.gens=s.gens->g.os=s.os->s.toks<=g.toks->∀ P, ∀ h,(∀ b o,b≠S->g.heap.get? b=some o->h.get? b=some o)->h.get? S=some { cls:=.type "list",data:=.seq #[] P } ->
   codeAny (model prog w) A (.builtin "list.extend.loop" ⟨[.ref S, .ref I,res],[]⟩) R { g with heap:=h }:=by
  intro I p l St g W E D L H C K M N P h kh X;have U:=W.frame 0 g.heap h H fun b r o e=>kh b o (fun z=>D (z ▸ r)) e;refine codeAny_extend_loopS W.toS hz S D res es.size 0 _ #[] P rfl (Nat.zero_le _) U X (ItemsOf.nil _) fun s' k c' J O u=>?_;have g1:s'.gens=g.gens:=J.gens;have al:k.toList=l:=by
   have l1:l.length=es.size:=by rw [E.length_eq,length_map,Array.length_toList]
   have l2:k.size=es.size:=u.1;refine List.ext_getElem? fun j=>?_;by_cases c:j<es.size
   ·have Y:k[j]?=some k[j]:=Array.getElem?_eq_getElem (by rw [l2];exact c);rw [Array.getElem?_toList,Y,u.2 j _ Y]
   ·rw [List.getElem?_eq_none (by rw [Array.length_toList];ac_nf),List.getElem?_eq_none ∅]
  refine q s' k c' (fun b o r e=>?_) (g1.trans K) (J.os.trans M) (Nat.le_trans N J.toks) O (by rw [al];exact E);refine J.heap b o (fun G=>?_) (kh b o r (C b o e));rcases mem_cons.mp G with z | z
  ·exact r z
  ·rw [mem_singleton.mp z,L] at e;cases e
 have go:∀ (I:Addr) (p:List Addr) (l:List Value) (St:Nat->Heap->Prop) (g:Shared),Walks prog w A.in1 I p [I] es.size (fun i v=>l[i]?=some v) St->l.Perm (es.toList.map (·.2))->S∉p->s.heap.get? I=none->St 0 g.heap ->
   (∀ b o,s.heap.get? b=some o->g.heap.get? b=some o)->g.gens=s.gens->g.os=s.os->s.toks<=g.toks->∀ (b:Bool),wpAny (model prog w) A.in1 (if b=true then (do rule "list.extend.makes-room";Builtin.List.listTouch (.ref S);again (.builtin "list.extend.loop" ⟨[.ref S, .ref I,res],[]⟩)) else again (.builtin "list.extend.loop" ⟨[.ref S, .ref I,res],[]⟩)) (fun fin s'=>match fin with | .done f=>R (.ok f) s' | .again c'=>c'.quiet=true/\codeAny (model prog w) A c' R s') (fun e s'=>R (.error e) s') g:=by
  intro I p l St g W E D L H C K M N b;have Q:=C _ _ hS;cases b
  ·exact wpAny_pure ⟨plainId_quiet PySem.F.plain_extend_loop _,key I p l St g W E D L H C K M N c0 g.heap (fun _ _ _ e=>e) Q⟩
  ·rw [if_pos rfl];refine wpAny_bind (wpAny_rule ?_);refine wpAny_bind ?_;show wpAny _ _ (updateSeq S (·.push .none) >>= fun _=>updateSeq S (fun x=>x.pop)) _ _ _;refine wpAny_bind (wpAny_updateSeq Q rfl ?_);have Z:=Heap.get?_update_self (Obj.mapSeq (·.push Value.none)) Q rfl;refine wpAny_updateSeq (hz:=by seq_fits) Z rfl ?_;have S3:=Heap.get?_update_self (Obj.mapSeq (fun x=>x.pop)) Z rfl;refine wpAny_pure ⟨plainId_quiet PySem.F.plain_extend_loop _,key I p l St g W E D L H C K M N _ _ (fun b o r e=>?_) S3⟩;exact (Heap.get?_update_other _ _ (Ne.symm r)).trans ((Heap.get?_update_other _ _ (Ne.symm r)).trans e)
 have h1:A.in1.handled=none:=by simp [hh]
 have la:=Heap.lt_size ha;have V:=Heap.lt_size hS;unfold Builtin.List.listExtendWith;refine wpAny_bind (wpAny_typeOf (T:="set") ⟨_,ha,rfl⟩ ?_);have n1:Builtin.List.listSameRef (.ref S) (.ref a)=false:=by simp [Builtin.List.listSameRef,hSa]
 rw [if_neg (by rw [n1];decide)];have m:∀ b,s.heap.objs.size<=b->s.heap.get? b=none:=fun b r=>by
  cases e:s.heap.get? b with
  | none=>rfl
  | some o=>exact absurd (Heap.lt_size e) (Nat.not_lt.mpr r)
 refine wpAny_bind (JiR ha hf hp h2 hz (fun ht=>?_) fun ps d pp=>?_)
 ·have y:∀ b o,s.heap.get? b=some o->(s.heap.push (itO (.int 0 0) 0 a es.size ep)).get? b=some o:=fun b o e=>Heap.get?_push_of_some _ e;refine wpAny_bind (wpAny_holding (Jdw ⟨_,y _ _ ha,rfl⟩ ?_));exact go s.heap.objs.size _ _ _ { s with heap:=s.heap.push (itO (.int 0 0) 0 a es.size ep) } (JiG h1 _ a (Nat.ne_of_lt la) hf ht) ((Jcr _ es).map _) (by simp only [mem_cons,not_mem_nil,or_false,not_or];exact ⟨Nat.ne_of_lt V,hSa⟩) (m _ (Nat.le_refl _)) ⟨Heap.get?_push_size _ rfl,y _ _ ha⟩ y rfl rfl (Nat.le_refl _) _
 ·generalize hO:seqObj "tuple" (ps.map fun (n:Nat)=>rawInt n).toArray 0=B;have y:∀ b o,s.heap.get? b=some o->((s.heap.push B).push (itO (.ref s.heap.objs.size) 0 a es.size ep)).get? b=some o:=fun b o e=>Heap.get?_push_of_some _ (Heap.get?_push_of_some _ e);have z1:(s.heap.push B).objs.size=s.heap.objs.size+1:=Heap.size_push ..;have tI:((s.heap.push B).push (itO (.ref s.heap.objs.size) 0 a es.size ep)).get? (s.heap.objs.size+1)=some (itO (.ref s.heap.objs.size) 0 a es.size ep):=by
   rw [<- z1];exact Heap.get?_push_size _ rfl
  have tT:((s.heap.push B).push (itO (.ref s.heap.objs.size) 0 a es.size ep)).get? s.heap.objs.size=some B:=Heap.get?_push_of_some _ (Heap.get?_push_size _ (by rw [<- hO];rfl));refine wpAny_bind (wpAny_holding (Jdw ⟨_,y _ _ ha,rfl⟩ ?_));have vp:(ps.map fun j=>(es.getD j (0, .none)).2).Perm (es.toList.map (·.2)):=by
   have e:es.toList.map (·.2)=(List.range es.size).map fun j=>(es.getD j (0,Value.none)).2:=by
    refine List.ext_getElem? fun j=>?_;rw [List.getElem?_map,List.getElem?_map,Array.getElem?_toList];by_cases c:j<es.size
    ·rw [Array.getElem?_eq_getElem c,List.getElem?_range c];simp [Array.getD_eq_getD_getElem?,Array.getElem?_eq_getElem c]
    ·rw [Array.getElem?_eq_none ∅,List.getElem?_eq_none (by rw [List.length_range];ac_nf)];rfl
   rw [e];exact pp.map _
  exact go (s.heap.objs.size+1) _ _ _ { s with heap:=(s.heap.push B).push (itO (.ref s.heap.objs.size) 0 a es.size ep),drawn:=d } (JiF (tp:=s.heap.objs.size) h1 _ a (Nat.ne_of_lt (Nat.lt_succ_of_lt la)) (Nat.ne_of_lt (Nat.lt_succ_self _)) hf pp) vp (by simp only [mem_cons,not_mem_nil,or_false,not_or];exact ⟨Nat.ne_of_lt (Nat.lt_succ_of_lt V),hSa,Nat.ne_of_lt V⟩) (m _ (Nat.le_succ _)) ⟨tI,y _ _ ha,by rw [hO];exact tT⟩ y rfl rfl (Nat.le_refl _) _
end
section
variable {prog:Program} {w:World} {A:Around} {E:Value->Shared->Prop} {s:Shared}
theorem JeM {S r:Addr} {R:Result->Shared->Prop} (h:wpAny (model prog w) A.in1 (Builtin.List.listExtendWith (.ref S) (.ref r) (.ref S)) (fun fin s'=>match fin with | .done f=>R (.ok f) s' | .again c'=>c'.quiet=true/\codeAny (model prog w) A c' R s') (fun e s'=>R (.error e) s') s) :
  codeAny (model prog w) A (.builtin "list.__iadd__" ⟨[.ref S, .ref r],[]⟩) R s:=by
 refine codeAny_builtin (PySem.F.entry_list_iadd) ?_;rw [Around.under_plainId (PySem.F.plain_list_iadd) _];exact h
theorem JcE {r:Addr} {ss:List Str} {Q:Value->Shared->Prop} (h64:ss.length<64)
  (hx:∀ (R:Result->Shared->Prop),(∀ s' (vs:List Value) c' ss',(∀ b o,s.heap.get? b=some o->s'.heap.get? b=some o)->s'.gens=s.gens->s'.os=s.os->s.toks<=s'.toks ->
    s'.heap.get? s.heap.objs.size=some { cls:=.type "list",dict:=none,data:=.seq vs.toArray c',slots:=#[] }->StrsAre vs ss'->ss'.Perm ss->R (.ok (.ret (.ref s.heap.objs.size))) s') ->
   codeAny (model prog w) A.in1 (.builtin "list.__iadd__" ⟨[.ref s.heap.objs.size, .ref r],[]⟩) R { s with heap:=s.heap.push { cls:=.type "list",data:=.seq ([]:List Value).toArray } })
  (q:∀ s' l (out:Array Value) ss' e,(∀ b o,s.heap.get? b=some o->s'.heap.get? b=some o)->s'.gens=s.gens->s'.os=s.os->s.toks<=s'.toks->s.heap.objs.size<=l->s'.heap.get? l=some (seqObj "list" out e)->StrsAre out.toList ss'->ss'.Perm ss->sortedS ss'=true->Q (.ref l) s') :
  wpAny (model prog w) A (call (.builtin "sorted") [.ref r]) Q E s:=by
 refine Calls.call_function_entry kind_sorted plain_sorted entry_sorted (args_sorted1 _) ?_;unfold Builtin.«sorted»;refine wpAny_bind (m:=checkCount "sorted" 1 1 _) (wpAny_pure ?_);refine wpAny_bind ?_;unfold collect;refine wpAny_bind (wpAny_runValue (codeAny_builtin (PySem.F.entry_proto_collect) ?_));rw [Around.under_plainId (PySem.F.plain_proto_collect) _];show wpAny _ A.in1.in1 (newList [] >>= fun l=>again (.builtin "list.__iadd__" ⟨[l, .ref r],[]⟩)) _ _ s;refine wpAny_bind (wpAny_newObj_type ?_);refine wpAny_pure ⟨plainId_quiet (PySem.F.plain_list_iadd) _,hx _ fun s' vs c' t k y B D j a i=>?_⟩;refine wpAny_bind (m:=load s.heap.objs.size) (wpAny_load j (wpAny_pure ?_));have vl:vs.length<64:=by rw [a.length,i.length_eq];exact h64
 have v:(64:Nat)<=sizeLine:=by decide
 dsimp only;refine wpAny_bind (wpAny_newList ?_ (by show vs.length<=sizeLine;ac_nf));have d:(s'.heap.push (seqObj "list" vs.toArray 0)).get? s'.heap.objs.size=some (seqObj "list" vs.toArray 0):=Heap.get?_push_size _ rfl;refine wpAny_bind (wpAny_holding (wpAny_call_entry slot_list_sort ⟨_,d,rfl⟩ entry_list_sort (list_sort_treeK strKind_oneLt d a.keysOf (fun G H rest e=>keyKind_strs (by rw [<- e];exact a)) vl fun p c g=>⟨_,rfl,?_⟩) (args_list_sort _)));obtain ⟨f,C,z,x⟩:=sorted_out_str a c g;obtain ⟨n,u⟩:=sortedHeap_at (out:=(arrOf p).map (·.2)) d;refine wpAny_pure ⟨_,rfl,q _ s'.heap.objs.size _ f n (fun b o e=>?_) y B D ?_ u C (z.trans i) x⟩
 ·have h:=Heap.lt_size (k b o e);rw [sortedHeap_old (Nat.ne_of_lt h) (by rw [size_push'];exact Nat.lt_succ_of_lt h)];exact Heap.get?_push_of_some _ (k b o e)
 ·exact Nat.le_of_lt (Heap.lt_size j)
theorem Jgx:∀ (vs:List Value),(∀ v∈vs, ∃ x t,v=.str x t)->StrsAre vs (vs.map strOf)
 | [],_=>.nil
 | v::vs,h=>by
  obtain ⟨x,t,rfl⟩:=h v (by simp);exact .cons x t (Jgx vs fun u hu=>h u (by simp [hu]))
theorem Jhp {a:Addr} {ks:List Str} {Q:Value->Shared->Prop} (hh:A.handled=none) (hS:SetS prog w s.heap a ks) (h2:2<=ks.length) (h64:ks.length<64)
  (q:∀ s' l (out:Array Value) ss' e,(∀ b o,s.heap.get? b=some o->s'.heap.get? b=some o)->s'.gens=s.gens->s'.os=s.os->s.toks<=s'.toks->s.heap.objs.size<=l->s'.heap.get? l=some (seqObj "list" out e)->StrsAre out.toList ss'->ss'.Perm ks->sortedS ss'=true->Q (.ref l) s') :
  wpAny (model prog w) A (call (.builtin "sorted") [.ref a]) Q E s:=by
 obtain ⟨M,N,t,i,h,j,O,G,g,_⟩:=hS;have P:M.size=ks.length:=by rw [<- j.length_eq,length_map,Array.length_toList]
 have y:(64:Nat)<=sizeLine:=by decide
 have F:=Heap.lt_size i;have p:A.in1.handled=none:=by simp [hh]
 refine JcE (ss:=ks) h64 (fun R k=>JeM (JjU p (Heap.get?_push_of_some _ i) G (g (fun z=>by rw [z] at h2;simp at h2)) ∅ ∅ (Nat.ne_of_gt F) (Heap.get?_push_size _ rfl) fun s' d L D C H K m c=>?_)) q;have f:∀ v∈d.toList, ∃ x t,v=.str x t:=fun v r=>by
  obtain ⟨e,J,rfl⟩:=mem_map.mp (c.mem_iff.mp r);obtain ⟨⟨I,n,_⟩,_⟩:=h e J;obtain ⟨u,B⟩:=Value.isStrOf_shape n;exact ⟨I,u,B⟩
 refine k s' d.toList L (d.toList.map strOf) (fun b o e=>D b o (Nat.ne_of_lt (Heap.lt_size e)) (Heap.get?_push_of_some _ e)) C H K (by rw [Array.toArray_toList];exact m) (Jgx _ f) ?_;refine (c.map strOf).trans ?_;rw [map_map];exact j
theorem Jgt {K:Type} [DecidableEq K] {knd:PySem.KeyKind prog w K} {d:Addr} {kvs:List (K × Value)} {ep:Nat} {ss:List Str} {Q:Value->Shared->Prop} (hh:A.handled=none) (lo:(d == sysModules)=false) (hd:s.heap.DictAt knd d kvs ep) (h64:kvs.length<64)
  (hl:ss.length=kvs.length) (hk:∀ i k x v,kvs[i]?=some (k,x)->knd.is k v=true->∃ t,v=.str (ss.getD i ⟨#[]⟩) t)
  (q:∀ s' l (out:Array Value) ss' e,(∀ b o,s.heap.get? b=some o->s'.heap.get? b=some o)->s'.gens=s.gens->s'.os=s.os->s.toks<=s'.toks->s.heap.objs.size<=l->s'.heap.get? l=some (seqObj "list" out e)->StrsAre out.toList ss'->ss'.Perm ss->sortedS ss'=true->Q (.ref l) s') :
  wpAny (model prog w) A (call (.builtin "sorted") [.ref d]) Q E s:=by
 have O:(64:Nat)<=sizeLine:=by decide
 have H:=hd.lt_size;have L:A.in1.handled=none:=by simp [hh]
 refine JcE (ss:=ss) ∅ (fun R k=>?_) q;obtain ⟨B,p⟩:∃ B:Result->Shared->Prop, ∀ r s',B r s'↔∃ g z a u,r=.ok (.ret (.ref s.heap.objs.size))/\s'={ s with heap:=g,toks:=z }/\(∀ b o,b≠s.heap.objs.size->(s.heap.push { cls:=.type "list",data:=.seq ([]:List Value).toArray }).get? b=some o->g.get? b=some o)/\g.get? s.heap.objs.size=some { cls:=.type "list",dict:=none,data:=.seq a u,slots:=#[] }/\ItemsOf (fun i v=>∃ k x,kvs[i]?=some (k,x)/\knd.is k v=true) a kvs.length:=⟨_,fun _ _=>Iff.rfl⟩;have h:=codeAny_toks_of (n:=s.toks) (s:={ s with heap:=s.heap.push { cls:=.type "list",data:=.seq ([]:List Value).toArray } }) (Nat.le_refl _) (JeM (A:=A.in1) (R:=B)
  (W.kdl_extend (R:=B) (s:={ s with heap:=s.heap.push { cls:=.type "list",data:=.seq ([]:List Value).toArray } }) (W.kdl_dict (knd:=knd) (kvs:=kvs) (ep:=ep) lo) L (hd.push _) s.heap.objs.size (Nat.ne_of_gt H) (Nat.ne_of_gt H) (.ref s.heap.objs.size) 0 (Heap.get?_push_size _ rfl) (fun g z a u D hl f=>(p _ _).mpr ⟨g,z,a,u,rfl,rfl,D,hl,f⟩) ∅))
 refine codeAny_mono h ?_;rintro r s' ⟨P,N⟩;obtain ⟨g,z,a,u,rfl,rfl,D,m,f⟩:=(p _ _).mp N;have S:StrsAre a.toList ss:=by
  have j:∀ v∈a.toList, ∃ x t,v=.str x t:=fun v M=>by
   obtain ⟨i,G⟩:=List.getElem?_of_mem M;rw [Array.getElem?_toList] at G;obtain ⟨F,x,y,C⟩:=f.2 i v G;obtain ⟨t,e⟩:=hk i F x v y C;exact ⟨_,t,e⟩
  have:=Jgx _ j;have e:a.toList.map strOf=ss:=by
   refine List.ext_getElem? fun i=>?_;rw [List.getElem?_map,Array.getElem?_toList];have T:a.size=kvs.length:=f.1;by_cases c:i<kvs.length
   ·have y:a[i]?=some a[i]:=Array.getElem?_eq_getElem ∅;obtain ⟨F,x,C,I⟩:=f.2 i _ y;obtain ⟨t,J⟩:=hk i F x _ C I;rw [y,Option.map_some,J,List.getElem?_eq_getElem ∅];simp [strOf,List.getD_eq_getElem?_getD,List.getElem?_eq_getElem (show i<ss.length by ac_nf)]
   ·rw [Array.getElem?_eq_none ∅,List.getElem?_eq_none ∅];rfl
  rw [e] at this;exact this
 exact k _ a.toList u ss (fun b o e=>D b o (Nat.ne_of_lt (Heap.lt_size e)) (Heap.get?_push_of_some _ e)) rfl rfl P (by rw [Array.toArray_toList];exact m) S (.refl _)
end
theorem Jj5:typeLookup (.type "list") "keys"=pure none:=by rw [typeLookup_type,builtinLookup_eq_fast];kernel_rfl
section
variable {prog:Program} {w:World} {A:Around} {E:Value->Shared->Prop} {s:Shared} {a:Addr} {its:Array Value} {n:Nat}
theorem Jj2 {Q:Option Value->Shared->Prop} (hh:A.handled=none) (hx:s.heap.get? a=some { cls:=.type "list",dict:=none,data:=.seq its n,slots:=#[] })
   (q:∀ h' t',(∀ b o,s.heap.get? b=some o->h'.get? b=some o)->Q none { s with heap:=h',toks:=t' }) :
    wpAny (model prog w) A (getAttr? (.ref a) "keys") Q E s:=by
  obtain ⟨i,g,d,p,j⟩:=s;have h:∀ c,(⟨i,g,d,c,j⟩:Shared).TypeIs (.ref a) "list":=fun _=>⟨_,hx,rfl⟩;have m:=sub_AttributeError;have k:=PySem.F.slot_list_getattribute.lookup;have r:=PySem.F.slot_list_getattribute.bind (.ref a);have u:=am_list_getattr_none;unfold getAttr?;unfold getAttrBy?;unfold getAttrBy;repeat (any_goals (first | assumption | exact h _ | ((with_reducible show wpAny _ _ (call (Value.builtin "list.__getattribute__") _ _) _ _ _);refine call_meets PySem.F.slot_list_getattribute (h _) am_entry_list_getattribute (PySem.F.args_list_getattribute_2 _ _) (meets_getattribute_miss_list a its n #[] "keys" _ Jj5 (by decide +kernel) ⋯) ⟨hx,hh,fun h' c e f=>?_⟩) | wp_step))
  obtain ⟨t',l,t⟩:=f.there;show wpAny _ _ (getattributeRaised _ _ _ _ _ _ _) _ _ _;unfold getattributeRaised;repeat (any_goals (first | assumption | wp_step))
  exact q h' c f.keeps
end
theorem Jfi:entryFor table "dict.update.loop"=some Builtin.«dict.update.loop»:=entryFor_of_tree (by kernel_rfl)
theorem JcX:plainId "dict.update.loop"=true:=by decide +kernel
def dkv (key:Nat->Str) (val:Nat->Value) (i:Nat):List (Key × Value):=(List.range i).foldl (fun l j=>PySem.stored l (Sum.inr (key j)) (val j)) []
theorem JeH (key:Nat->Str) (val:Nat->Value) (i:Nat):dkv key val (i+1)=PySem.stored (dkv key val i) (Sum.inr (key i)) (val i):=by
 unfold dkv;rw [List.range_succ,foldl_append];rfl
theorem Jf3 (key:Nat->Str) (val:Nat->Value):∀ i,(dkv key val i).length<=i
 | 0=>Nat.le_refl _
 | i+1=>by
  have:=Jf3 key val i;rw [JeH];unfold PySem.stored;split <;> simp <;> ac_nf
section
variable {prog:Program} {w:World} {A:Around} {E:Value->Shared->Prop} {s:Shared}
def Jdi (h:Heap) (a:Addr) (k v:Value):Prop:=∃ o c,h.get? a=some o/\o.cls=.type "tuple"/\o.data=.seq #[k,v] c
theorem Jdi.at_ {h h':Heap} {a:Addr} {k v:Value} (x:Jdi h a k v) (m:∀ o,h.get? a=some o->h'.get? a=some o):Jdi h' a k v:=by
 obtain ⟨o,c,e,r⟩:=x;exact ⟨o,c,m o e,r⟩
theorem Jj7 {z:Str} {t:Tok}:(JaA prog w).is (Sum.inr z) (.str z t)=true:=by
 show keyIs (Sum.inr z) (.str z t)=true;simp [keyIs,Value.isStrOf]
theorem JhL {R:Result->Shared->Prop} {I:Addr} {fp wr:List Addr} {G:Array GenState->Array GenState->Prop} {n:Nat} {P:Nat->Value->Prop} {St:Nat->Shared->Prop}
  (W:WalksS prog w A.in1 I fp wr G n P St) (d:Addr) (hdf:d∉fp) (adr:Nat->Addr) (key:Nat->Str) (val:Nat->Value) (hP:∀ i v,P i v->v=.ref (adr i)) (nd:∀ i,i<n->adr i≠d) (nw:∀ i,i<n->adr i∉wr) (hz:n<=sizeLine) :
  ∀ (k i:Nat) (s:Shared),n-i=k->i<=n->St i s->s.heap.DictOf (JaA prog w) d (dkv key val i)->(∀ j,j<n->∃ tk,Jdi s.heap (adr j) (.str (key j) tk) (val j)) ->
   (∀ s',Moved (d::wr) G s s'->s'.heap.DictOf (JaA prog w) d (dkv key val n)->R (.ok (.ret .none)) s') ->
   codeAny (model prog w) A (.builtin "dict.update.loop" ⟨[.ref d, .ref I, .int (i:Int) 0, .none],[]⟩) R s:=by
 have N:d∉wr:=fun h=>hdf (W.sub _ h);have M:∀ b∈wr,b∈d::wr:=fun b h=>mem_cons_of_mem _ h;intro k;induction k with
 | zero=>
  intro i s Z U r J g q;have : i=n:=by ac_nf
  subst this;refine codeAny_builtin Jfi ?_;rw [Around.under_plainId JcX _];refine wpAny_bind (m:=pyNext (.ref I)) (W.done s _ _ r fun s' f=>?_);refine wpAny_bind (m:=Builtin.Dict.addKeywords d []) (wpAny_pure (wpAny_pure ?_));refine q s' (f.mono M) ?_;obtain ⟨o,D,t,C,rest⟩:=J;exact ⟨o,D,t,f.heap d o N C,rest⟩
 | succ k ih=>
  intro i s Z U r J g q;have c:i<n:=by ac_nf
  refine codeAny_builtin Jfi ?_;rw [Around.under_plainId JcX _];refine wpAny_bind (m:=pyNext (.ref I)) (W.item i s _ _ c r fun v s' V F f=>?_);rw [hP i v V];have p:s'.heap.DictOf (JaA prog w) d (dkv key val i):=by
   obtain ⟨o,D,t,C,rest⟩:=J;exact ⟨o,D,t,f.heap d o N C,rest⟩
  have a:∀ j,j<n->∃ tk,Jdi s'.heap (adr j) (.str (key j) tk) (val j):=fun j l=>by
   obtain ⟨tk,e⟩:=g j l;exact ⟨tk,e.at_ fun o z=>f.heap _ o (nw j l) z⟩
  obtain ⟨tk,ot,ct,O,K,E⟩:=a i c;have dl:=Jf3 key val i;refine wpAny_bind (wpAny_holding ?_);refine wpAny_bind (wpAny_tryCatch ?_);unfold Builtin.Dict.pairItems;refine wpAny_bind (wpAny_typeOf (T:="tuple") ⟨_,O,K⟩ ?_);rw [if_pos ⋯];unfold seqItems?;refine wpAny_bind (wpAny_bind (wpAny_load O ?_));rw [E];refine wpAny_pure (wpAny_pure ?_);show wpAny _ _ (holding [Value.str (key i) tk,val i] (dictSet d (.str (key i) tk) (val i))) _ _ _;refine wpAny_holding (wpAny_dictSet_pairs (knd:=JaA prog w) (k:=Sum.inr (key i)) Jj7 p (fun L S x=>?_) ∅);have H:L.DictOf (JaA prog w) d (dkv key val (i+1)):=by
   rw [JeH];exact S
  refine wpAny_pure ⟨plainId_quiet JcX _,ih (i+1) { s' with heap:=L,toks:=s'.toks+1 } ∅ c (W.frame _ s' _ _ F (Nat.le_succ _) fun b y o e=>?_) H (fun j l=>?_) fun Y X B=>?_⟩
  ·rw [x.2 b (fun h:b=d=>hdf (h ▸ y))];exact e
  ·obtain ⟨u,Q⟩:=a j l;exact ⟨u,Q.at_ fun o z=>(x.2 _ (nd j l)).trans z⟩
  ·refine q Y (Moved.trans W.gtrans ((f.mono M).then_heap (Nat.le_succ _) fun b o y e=>?_) X) B;rw [x.2 b (fun h:b=d=>y (by rw [h];exact mem_cons_self))];exact e
theorem JdF {l:Addr} {items:Array Value} {c0:Nat} {Q:Value->Shared->Prop} (hh:A.handled=none) (hl:s.heap.get? l=some { cls:=.type "list",dict:=none,data:=.seq items c0,slots:=#[] }) (adr:Nat->Addr) (key:Nat->Str) (val:Nat->Value)
  (hP:∀ (i:Nat) (v:Value),items[i]?=some v->v=.ref (adr i)) (tup:∀ j,j<items.size->∃ tk,Jdi s.heap (adr j) (.str (key j) tk) (val j)) (hz:items.size<=sizeLine)
  (q:∀ h' tk,(∀ b o,s.heap.get? b=some o->h'.get? b=some o)->h'.DictOf (JaA prog w) s.heap.objs.size (dkv key val items.size)->Q (.ref s.heap.objs.size) { s with heap:=h',toks:=tk }) :
  wpAny (model prog w) A (call (.type "dict") [.ref l]) Q E s:=by
 refine callType_codes (Q₁:=fun g H=>g=.ref s.heap.objs.size/\H={ s with heap:=s.heap.push { cls:=.type "dict",data:=.dict #[] } }) (PySem.F.kt_called_dict) (PySem.F.kt_typeCall_dict_1 _) (PySem.F.entry_dict_init) (kt_code_dict_new _ ⟨rfl,rfl⟩) ?_;rintro g H ⟨rfl,rfl⟩;have n:(s.heap.push { cls:=.type "dict",data:=.dict #[] }).DictOf (JaA prog w) s.heap.objs.size []:=Heap.DictOf.new s.heap;refine ⟨n.typeIs,PySem.F.args_dict_init_2 _ _,?_⟩;generalize m:({ cls:=.type "dict",data:=.dict #[] }:Obj)=o0 at n ⊢;have p:(s.heap.push o0).get? l=some { cls:=.type "list",dict:=none,data:=.seq items c0,slots:=#[] }:=Heap.get?_push_of_some _ hl;have U:=Heap.lt_size hl;have W:(s.heap.push o0).objs.size=s.heap.objs.size+1:=Heap.size_push ..;unfold Builtin.«dict.__init__»;refine wpAny_bind ?_;unfold Builtin.Dict.selfAndRest;refine wpAny_bind (wpAny_notOrdered_dict n.typeIs (wpAny_pure ?_));show wpAny _ _ (Builtin.Dict.updateFrom "dict.__init__" s.heap.objs.size (.ref l) [] Value.none) _ _ _;unfold Builtin.Dict.updateFrom;refine wpAny_bind (wpAny_typeOf (T:="list") ⟨_,p,rfl⟩ ?_);rw [if_pos ⋯];have R:A.in1.in1.handled=none:=by simp [hh]
 refine wpAny_bind (Jj2 R p fun f K h=>?_);refine wpAny_ite_split (fun _=>?_) (fun z=>absurd rfl z);refine wpAny_bind (wpAny_rule ?_);have C:=h _ _ p;have B:f.DictOf (JaA prog w) s.heap.objs.size []:=by
  obtain ⟨o,J,y,m,rest⟩:=n;exact ⟨o,J,y,h _ _ m,rest⟩
 have d:s.heap.objs.size<f.objs.size:=by
  obtain ⟨o,J,y,m,rest⟩:=B;exact Heap.lt_size m
 have I:f.IsList l items:=⟨_,C,rfl,c0,rfl⟩;refine wpAny_bind (wpAny_pyIter_list (s:=⟨f,s.gens,s.drawn,K,s.os⟩) I ?_);have G:∀ j,j<items.size->adr j<s.heap.objs.size:=fun j a=>by
  obtain ⟨tk,o,c,e,_⟩:=tup j a;exact Heap.lt_size e
 have x:l<f.objs.size:=Heap.lt_size C;have r:A.in1.in1.handled=none:=by simp [hh]
 refine wpAny_pure ⟨plainId_quiet JcX _,?_⟩;refine JhL ((Walks.list r f.objs.size l (Nat.ne_of_lt x) items).toS) s.heap.objs.size (by simp only [mem_cons,not_mem_nil,or_false,not_or];exact ⟨Nat.ne_of_lt d,Nat.ne_of_gt U⟩) adr key val hP (fun j a=>Nat.ne_of_lt (G j a)) (fun j a=>by simp only [mem_cons,not_mem_nil,or_false];exact Nat.ne_of_lt (Nat.lt_trans (G j a) d)) hz items.size 0 _ ∅ (Nat.zero_le _) ⟨⟨_,Heap.get?_push_size _ rfl,rfl,rfl⟩,I.push _⟩ (B.push _) (fun j a=>?_) fun N k M=>?_
 ·obtain ⟨tk,e⟩:=tup j a;exact ⟨tk,e.at_ fun o z=>Heap.get?_push_of_some _ (h _ _ (Heap.get?_push_of_some _ z))⟩
 ·obtain ⟨h',L,O,t,u⟩:=N;have S:L=s.gens:=k.gens;have P:O=s.drawn:=k.drawn;have V:u=s.os:=k.os;subst S;subst P;subst V;refine ⟨rfl,q h' t (fun b o e=>?_) M⟩;have D:=Heap.lt_size e;refine k.heap b o ?_ (Heap.get?_push_of_some _ (h _ _ (Heap.get?_push_of_some _ e)));simp only [mem_cons,not_mem_nil,or_false,not_or];exact ⟨Nat.ne_of_lt D,Nat.ne_of_lt (Nat.lt_trans D d)⟩
end
section
variable {X:Cx} {pins:List (Addr × Obj)} {σ : List (Option V)} {H:Hp} {s s':Shared}
theorem Inv.like (I:Inv X pins σ H { s with heap:=s'.heap,toks:=s'.toks }) (eg:s'.gens=s.gens) (eo:s'.os=s.os):Inv X pins σ H s' :=
 ⟨I.ok,by rw [eo];exact I.os,by rw [eg];exact I.bare,I.base,I.loc,I.cell,I.free,I.freeC,I.pin,I.hok,I.len⟩
theorem Jd8:∀ {vs:List Value} {ss:List Str},StrsAre vs ss->Vals (ss.map V.str) vs
 | _,_, .nil=>.nil
 | _,_, .cons z t r=>.cons ⟨t,rfl⟩ (Jd8 r)
theorem Jd6:∀ {vs:List Value} {ss:List Str},Vals (ss.map V.str) vs->StrsAre vs ss
 | [],[],_=>.nil
 | [],_::_,h=>by cases h
 | _::_,[],h=>by cases h
 | v::vs,z::ss,h=>by
  cases h with
  | cons h1 h2=>
   obtain ⟨t,rfl⟩:=h1;exact .cons z t (Jd6 h2)
def Jht (out ss:List Str):Prop:=out.Perm ss/\sortedS out=true
def Jlf (xs:List V) (H:Hp) (Q:VK):Prop:=∃ d kvs ss,xs=[.ref d]/\H d=some (.dK kvs)/\kvs.map (·.1)=ss.map Sum.inr/\ss.length<64/\∀ l out,H l=none->Jht out ss->Q (.ref l) (upd H l (.lst (out.map V.str)))
theorem Jep (hc:X.calm=true):CallR X (.builtin "sorted") Jlf:=by
 intro E s σ H Z us Q I r h;obtain ⟨d,a,ss,rfl,e,B,S,q⟩:=h;obtain ⟨u,rfl,T⟩:=vals1 r;cases T;obtain ⟨M,Y,p,g,G⟩:=dk_of I.hok e;obtain ⟨ep,J⟩:=G.dictAt;have sl:(64:Nat)<=sizeLine:=by decide
 have lk:ss.length=a.length:=by simpa using (congrArg List.length B).symm
 have L:p.length=a.length:=g.length.symm;have f:p.map (·.1)=a.map (·.1):=by
  clear G J B lk L M q e;induction g with
  | nil=>rfl
  | cons h1 _ ih=>
   rw [map_cons,map_cons,ih,h1.1]
 refine Jgt (ss:=ss) (I.ok.hd hc) Y J ∅ ∅ (fun i k x v O P=>?_) fun F l j c N k U W et D R K A m=>?_
 ·have C:(p.map (·.1))[i]?=some k:=by rw [List.getElem?_map,O];rfl
  rw [f,B,List.getElem?_map] at C;obtain ⟨z,n,rfl⟩:=Option.map_eq_some_iff.mp C;rcases JaL (show keyIs (Sum.inr z) v=true from P) with ⟨b,hb,_⟩ | ⟨y,t,hy,rfl⟩
  ·cases hb
  ·cases hy;exact ⟨t,by rw [List.getD_eq_getElem?_getD,n];rfl⟩
 ·have lo:j.toList.length<=sizeLine:=by
   rw [K.length,A.length_eq];ac_nf
  refine ⟨.ref l,_,Inv.like (s:=s) (I.laid (t':=F.toks) (o:=.lst (c.map V.str)) k D (show ObjOk X.prog X.w _ F.heap l (.lst (c.map V.str)) from ⟨by rw [length_map,A.length_eq];ac_nf,j.toList,N,Jd8 K,by rw [Array.toArray_toList];exact R⟩)) U W,rfl,q l c (I.hok.fresh D) ⟨A,m⟩⟩
def Jlc:V->List V->Hp->VK->Prop:=fun x vs H Q=>∃ (l:Addr) (ss:List Str) (z:Str) (j:Nat),x=.ref l/\vs=[.str z]/\H l=some (.lst (ss.map V.str))/\ss[j]?=some z/\(∀ m,m<j->ss[m]?≠some z)/\Q (.int (j:Int)) H
theorem JgT:MtM X "list.index" Jlc:=by
 intro C s σ H x U v S Q I N G h;obtain ⟨l,c,z,j,rfl,rfl,K,D,A,q⟩:=h;cases N;obtain ⟨u,rfl,O⟩:=G.one;obtain ⟨t,rfl⟩:=O;obtain ⟨J,a,n,r,R,e⟩:=I.lstM K;have B:=Jd6 r;have M:=B.length;have V:j<c.length:=(List.getElem?_eq_some_iff.mp D).1;have W:a.toArray.size=c.length:=by rw [size_toArray];exact M
 have g:∀ m (o:m<a.toArray.size), ∃ b d,c[m]?=some d/\a.toArray[m]=.str d b:=fun m o=>by
  have f:m<c.length:=by ac_nf
  obtain ⟨b,E⟩:=B.get m c[m] (List.getElem?_eq_getElem f);refine ⟨b,c[m],List.getElem?_eq_getElem f,?_⟩;rw [List.getElem?_eq_getElem (l:=a) (i:=m) (by simpa using o)] at E;simpa using E
 have T:(sizeLine:Int)<2 ^ 63-1:=by decide
 have L:c.length<=sizeLine:=by simpa using J
 refine call_meets F.slot_list_index ⟨_,e,rfl⟩ F.entry_list_index (F.args_list_index_2 _ _) (MeetsSeq.list_index l a.toArray n (.str z t) (fun y=>strOf y == z) (fun y P=>?_) j ∅ ∅ ?_ fun m o w=>?_) ⟨e,?_⟩
 ·obtain ⟨d,b,rfl⟩:=B.all y (by simpa using P);have:=SeqRoads2.EqGives.str d z b t;rw [SeqAt.str_beq] at this;exact this
 ·obtain ⟨b,d,k,p⟩:=g j ∅;rw [D] at k;cases k;rw [p];simp [strOf]
 ·obtain ⟨b,d,k,p⟩:=g m o;rw [p];have:=A m w;rw [k] at this;simp only [strOf,beq_eq_false_iff_ne];exact fun h=>this (by rw [h])
 ·exact ⟨.int (j:Int),H,I.tok _,⟨_,rfl⟩,q⟩
def Jdk (ps:List (Str × V)):List (Key × V):=ps.foldl (fun l p=>putK l (Sum.inr p.1) p.2) []
def Jlb (xs:List V) (H:Hp) (Q:VK):Prop:=∃ (l:Addr) (as:List Addr) (ps:List (Str × V)),xs=[.ref l]/\H l=some (.lst (as.map V.ref))/\as.length=ps.length/\(∀ (i:Nat) (a:Addr) (p:Str × V),as[i]?=some a->ps[i]?=some p->H a=some (.tup [.str p.1,p.2]))/\∀ d,H d=none->Q (.ref d) (upd H d (.dK (Jdk ps)))
theorem Jen (hc:X.calm=true):CallR X (.type "dict") Jlb:=by
 intro M s σ H xs us Q I r h;obtain ⟨l,b,f,rfl,e,hl,hp,q⟩:=h;obtain ⟨u,rfl,rx⟩:=vals1 r;cases rx;obtain ⟨S,A,n,ri,F,W⟩:=I.lstM e;have G:b.length<=sizeLine:=by simpa using S
 have li:A.length=b.length:=by simpa using F.symm
 have Z:∀ j,j<b.length->∃ u a p d,b[j]?=some a/\f[j]?=some p/\RelV p.2 u/\Jdi s.heap a (.str p.1 d) u:=fun j C=>by
  have B:=List.getElem?_eq_getElem C;have w:=List.getElem?_eq_getElem (l:=f) (i:=j) ∅;obtain ⟨_,ts,D,o,ho,E,Y,U⟩:=I.hok _ _ (hp j _ _ B w);cases D with
  | cons r1 D=>
   cases D with
   | cons r2 D=>
    cases D;obtain ⟨d,rfl⟩:=r1;exact ⟨_,_,_,d,B,w,r2,o,Y,ho,E,U⟩
 obtain ⟨y,m⟩:=Classical.skolem.mp (show ∀ j:Nat, ∃ u:Value,j<b.length->∃ a p d,b[j]?=some a/\f[j]?=some p/\RelV p.2 u/\Jdi s.heap a (.str p.1 d) u from fun j=>by
  by_cases c:j<b.length
  ·obtain ⟨u,h⟩:=Z j c;exact ⟨u,fun _=>h⟩
  ·exact ⟨.none,fun z=>absurd z c⟩)
 have g:∀ j a,b[j]?=some a->b.getD j 0=a:=fun j a h=>by rw [List.getD_eq_getElem?_getD,h];rfl
 have t:∀ j (p:Str × V),f[j]?=some p->(f.getD j (⟨#[]⟩, .non)).1=p.1:=fun j p h=>by rw [List.getD_eq_getElem?_getD,h];rfl
 have K:A.toArray.size=b.length:=by rw [size_toArray];exact li
 refine JdF (I.ok.hd hc) W (fun j=>b.getD j 0) (fun j=>(f.getD j (⟨#[]⟩, .non)).1) y (fun j v J=>?_) (fun j C=>?_) ∅ fun h' d k O=>?_
 ·rw [List.getElem?_toArray] at J;have C:j<b.length:=by have:=(List.getElem?_eq_some_iff.mp J).1;ac_nf
  obtain ⟨u,R,ru⟩:=ri.get (i:=j) (x:=.ref b[j]) (by rw [List.getElem?_map,List.getElem?_eq_getElem C];rfl);rw [J] at R;cases R;rw [g j _ (List.getElem?_eq_getElem C)];exact ru
 ·obtain ⟨a,p,d,B,w,P,N⟩:=m j ∅;refine ⟨d,?_⟩;rw [g j a B,t j p w];exact N
 ·have L:∀ i,i<=b.length->KV (Jdk (f.take i)) (dkv (fun j=>(f.getD j (⟨#[]⟩, .non)).1) y i):=fun i=>by
   induction i with
   | zero=>intro _;exact .nil
   | succ i ih=>
    intro hi;obtain ⟨a,p,d,B,w,P,N⟩:=m i ∅;rw [JeH,take_succ,w];unfold Jdk;rw [foldl_append];rw [t i p w];exact (ih ∅).put _ P
  have r:=L b.length (Nat.le_refl _);rw [take_of_length_le ∅] at r;have T:(Jdk f).length<=sizeLine:=by
   rw [r.length];exact Nat.le_trans (Jf3 _ _ _) G
  rw [K] at O;exact ⟨.ref s.heap.objs.size,_,I.laid (a:=s.heap.objs.size) (o:=.dK (Jdk f)) (t':=d) k (Nat.le_refl _) (Jjq T (beq_eq_false_iff_ne.mpr (Ne.symm (Nat.ne_of_lt I.big))) r O),rfl,q _ (I.hok.fresh (Nat.le_refl _))⟩
end
theorem JjH {kvs:List (Key × V)} {ss:List Str} (h:kvs.map (·.1)=ss.map Sum.inr) (z:Str):(kvs.any fun kv=>decide (kv.1=Sum.inr z))=decide (z∈ss):=by
 have e:(kvs.any fun kv=>decide (kv.1=Sum.inr z))=(kvs.map (·.1)).any fun k=>decide (k=Sum.inr z):=by rw [List.any_map];rfl
 rw [e,h,List.any_map,Bool.eq_iff_iff];simp
theorem JgP {kvs:List (Key × V)} {ss:List Str} (h:kvs.map (·.1)=ss.map Sum.inr) (z:Str) (v:V):(putK kvs (Sum.inr z) v).map (·.1)=(addS ss z).map Sum.inr:=by
 unfold putK addS;rw [JjH h];by_cases c:z∈ss
 ·rw [if_pos (by simpa using c),if_pos c, <- h,map_map];refine List.map_congr_left fun a _=>?_;simp only [Function.comp];split
  ·rfl
  ·rfl
 ·rw [if_neg (by simpa using c),if_neg c,map_append,map_append,h];rfl
theorem Jhu {ss:List Str} (z:Str) (h:ss.Nodup):(addS ss z).Nodup:=by
 unfold addS;split
 ·exact h
 ·rename_i c;rw [nodup_append];refine ⟨h,by simp,fun a d b f=>?_⟩;rw [mem_singleton.mp f];exact fun e=>c (e ▸ d)
theorem JgB {ss:List Str} (z x:Str):x∈addS ss z↔x∈ss\/x=z:=by
 unfold addS;split
 ·rename_i c;constructor
  ·exact .inl
  ·rintro (h | rfl)
   ·exact h
   ·exact c
 ·simp
theorem JgA (ss:List Str) (z:Str):(addS ss z).length<=ss.length+1:=by
 unfold addS;split <;> simp
def Jbz (ts:List TD) (out:List Str):Prop:=out.Nodup/\sortedS out=true/\∀ z,z∈out↔∃ t∈ts,z=t.st\/z=t.en
def leS (a b:Str):Prop:=a.cps.toList<=b.cps.toList
theorem JfF:∀ (p:Str) (l:List Str),risingS p l=true->(p::l).Pairwise leS
 | p,[],_=>by simp
 | p,x::r,h=>by
  have h':(!ltCps x.cps.toList p.cps.toList&&risingS x r)=true:=h;rw [Bool.and_eq_true] at h';have ih:=JfF x r h'.2;have h1:leS p x:=by
   have:=h'.1;rw [ltCps_eq] at this;exact List.not_lt.mp (by simpa using this)
  refine List.pairwise_cons.mpr ⟨fun b hb=>?_,ih⟩;rcases mem_cons.mp hb with rfl | hb
  ·exact h1
  ·exact List.le_trans h1 ((List.pairwise_cons.mp ih).1 b hb)
theorem JfP (l:List Str) (h:sortedS l=true):l.Pairwise leS:=by
 cases l with
 | nil=>simp
 | cons p l=>exact JfF p l h
theorem JiV {a b:Str} (h:leS a b) (g:leS b a):a=b:=by
 have e:=List.le_antisymm h g;cases a;cases b;simp only [Str.mk.injEq];exact Array.toList_inj.mp e
theorem JfO {l l':List Str} (h:sortedS l=true) (h':sortedS l'=true) (hn:l.Nodup) (hn':l'.Nodup) (hm:∀ z,z∈l↔z∈l'):l=l' :=
 List.Perm.eq_of_pairwise (le:=leS) (fun _ _ _ _=>JiV) (JfP l h) (JfP l' h') ((List.perm_ext_iff_of_nodup hn hn').mpr hm)
theorem Jbz.eq {ts:List TD} {l l':List Str} (h:Jbz ts l) (h':Jbz ts l'):l=l':=JfO h.2.1 h'.2.1 h.1 h'.1 fun z=>(h.2.2 z).trans (h'.2.2 z).symm
abbrev Pl:=List (Str × (Int × Int))
def look (ps:Pl) (z:Str):Int × Int:=((ps.find? fun p=>decide (p.1=z)).map (·.2)).getD (0,1)
def negF (a:Int × Int):Int × Int:=(-a.1,a.2)
def apart (ps:Pl) (t:TD):Int × Int:=addF (look ps t.en) (negF (look ps t.st))
def lessF (a c:Int × Int):Bool:=decide (a.1*c.2<c.1*a.2)
def okB (lo hi:Option (Int × Int)) (a:Int × Int):Bool :=
 (match lo with | none=>true | some l=>!lessF a l)&&(match hi with | none=>true | some h=>!lessF h a)
def okT (ps:Pl) (t:TD):Bool:=okB t.lo t.hi (apart ps t)
theorem Jib {ps:Pl} {i:Nat} {z:Str} {a:Int × Int} (hn:(ps.map (·.1)).Nodup) (h:ps[i]?=some (z,a)):look ps z=a:=by
 unfold look;have : ps.find? (fun p=>decide (p.1=z))=some (z,a):=by
  induction ps generalizing i with
  | nil=>simp at h
  | cons p ps ih=>
   cases i with
   | zero=>
    simp at h;subst h;simp
   | succ i=>
    rw [List.getElem?_cons_succ] at h;rw [map_cons,nodup_cons] at hn;have b:p.1≠z:=fun e=>hn.1 (e ▸ List.mem_map_of_mem (f:=(·.1)) (List.mem_of_getElem? h));rw [List.find?_cons_of_neg (by simpa using b)];exact ih hn.2 h
 rw [this];rfl
structure FB (A B:Nat) (a:Int × Int):Prop where
 s1:Mth.Sz A a.1
 s2:Mth.Sz B a.2
 b1:1<=a.2
 g1:Mth.g a.1 a.2=1
theorem FB.ok {A B n:Nat} {a:Int × Int} (h:FB A B a) (h1:A<=n) (h2:B<=n):FOk n a:=⟨h.s1.mono h1,h.s2.mono h2,h.b1,h.g1⟩
theorem FB.neg {A B:Nat} {a:Int × Int} (h:FB A B a):FB A B (negF a):=⟨by
 have:=h.s1;unfold Mth.Sz at this ⊢;unfold negF;rw [Int.natAbs_neg];exact this,h.s2,h.b1,by
 have:=h.g1;unfold Mth.g negF at *;simpa using this⟩
theorem FB.add {A B C D n m:Nat} {a c:Int × Int} (h:FB A B a) (k:FB C D c) (h1:A+D<=n) (h2:C+B<=n) (h3:B+D<=m):FB (n+1) m (addF a c):=by
 have b:a.2*c.2≠0:=Int.mul_ne_zero (by have:=h.b1;ac_nf) (by have:=k.b1;ac_nf);have e:=(h.s1.mul k.s2).mono h1;have d:=(k.s1.mul h.s2).mono h2;exact ⟨Mth.Sz.top b (e.add d),(Mth.Sz.bot b (h.s2.mul k.s2)).mono h3,Mth.Jbk b,Mth.g_low b⟩
theorem FB.low {A B:Nat} {t b:Int} (hb:1<=b) (h1:Mth.Sz A t) (h2:Mth.Sz B b):FB A B (Mth.top t b,Mth.bot t b):=by
 have a:b≠0:=by ac_nf
 exact ⟨Mth.Sz.top a h1,Mth.Sz.bot a h2,Mth.Jbk a,Mth.g_low a⟩
theorem Jji {x y:Int × Int} (hx:1<=x.2) (hy:1<=y.2):(y.1<=0->lessF x (addF x y)=false)/\(0<=y.1->lessF (addF x y) x=false):=by
 have d:x.2*y.2≠0:=Int.mul_ne_zero ∅ ∅;have b:=Mth.cross (t:=x.1*y.2+y.1*x.2) d;have g:=Mth.Jbk (t:=x.1*y.2+y.1*x.2) d;unfold lessF addF;dsimp only;generalize Mth.bot (x.1*y.2+y.1*x.2) (x.2*y.2)=B at b g ⊢;generalize Mth.top (x.1*y.2+y.1*x.2) (x.2*y.2)=T' at b ⊢;have e:T'*x.2*y.2=x.1*B*y.2+y.1*x.2*B:=by
  have : T'*x.2*y.2=T'*(x.2*y.2):=by rw [Int.mul_assoc]
  rw [this,b,Int.add_mul];rw [Int.mul_right_comm x.1 y.2 B]
 constructor
 ·intro h;rw [decide_eq_false_iff_not];intro c;have a:=Int.mul_lt_mul_of_pos_right c (show 0<y.2 by ac_nf);rw [e] at a;have f:y.1*x.2*B<=0:=Int.mul_nonpos_of_nonpos_of_nonneg (Int.mul_nonpos_of_nonpos_of_nonneg h ∅) ∅;ac_nf
 ·intro h;rw [decide_eq_false_iff_not];intro c;have a:=Int.mul_lt_mul_of_pos_right c (show 0<y.2 by ac_nf);rw [e] at a;have f:0<=y.1*x.2*B:=Int.mul_nonneg (Int.mul_nonneg h ∅) ∅;ac_nf
def QV (K:W.Frag) (H:Hp) (p:Str × (Int × Int)) (x:V):Prop:=∃ b v,x=.ref b/\H b=some (.tup [.str p.1,v])/\FrV K H v p.2.1 p.2.2
theorem QV.sameT {K:W.Frag} {H H':Hp} {p:Str × (Int × Int)} {x:V} (S:SameT H H'):QV K H p x->QV K H' p x:=by rintro ⟨b,v,e,h,f⟩;exact ⟨b,v,e,S _ _ rfl h,f.sameT S⟩
theorem QV.refs {K:W.Frag} {H:Hp}:∀ {ps:Pl} {zs:List V},All2 (QV K H) ps zs->∃ (as:List Addr) (qs:List (Str × V)),zs=as.map V.ref/\as.length=qs.length/\(∀ (i:Nat) (a:Addr) (q:Str × V),as[i]?=some a->qs[i]?=some q->H a=some (.tup [.str q.1,q.2]))/\qs.map (·.1)=ps.map (·.1)/\∀ (i:Nat) (q:Str × V) (p:Str × (Int × Int)),qs[i]?=some q->ps[i]?=some p->FrV K H q.2 p.2.1 p.2.2
 | [],zs,h=>⟨[],[],h,rfl,by simp,rfl,by simp⟩
 | p::ps,zs,h=>by
  obtain ⟨x,r,rfl,⟨b,v,rfl,hb,f⟩,h2⟩:=h;obtain ⟨as,qs,rfl,hl,h3,h4,h5⟩:=QV.refs h2;refine ⟨b::as,(p.1,v)::qs,rfl,by simp [hl],fun i a q ha hq=>?_,by simp [h4],fun i q p' hq hp=>?_⟩
  ·cases i with
   | zero=>
    simp at ha hq;subst ha;subst hq;exact hb
   | succ i=>exact h3 i a q (by simpa using ha) (by simpa using hq)
  ·cases i with
   | zero=>
    simp at hq hp;subst hq;subst hp;exact f
   | succ i=>exact h5 i q p' (by simpa using hq) (by simpa using hp)
theorem JdY:∀ (qs:List (Str × V)) (l:List (Key × V)),(qs.map (·.1)).Nodup->(∀ q∈qs, ∀ kv∈l,kv.1≠Sum.inr q.1)->qs.foldl (fun l p=>putK l (Sum.inr p.1) p.2) l=l++qs.map fun q=>((Sum.inr q.1:Key),q.2)
 | [],l,_,_=>by simp
 | q::qs,l,hn,hd=>by
  rw [map_cons,nodup_cons] at hn;have e:putK l (Sum.inr q.1) q.2=l++[((Sum.inr q.1:Key),q.2)]:=by
   unfold putK;rw [if_neg];simp only [List.any_eq_true,decide_eq_true_eq,not_exists,not_and];exact fun kv hkv=>hd q (by simp) kv hkv
  rw [foldl_cons,e,JdY qs _ hn.2,List.append_assoc]
  ·rfl
  ·intro q' hq' kv hkv;rcases mem_append.mp hkv with h | h
   ·exact hd q' (by simp [hq']) kv h
   ·rw [mem_singleton.mp h];intro z;have z':q.1=q'.1:=by injection z
    exact hn.1 (z' ▸ List.mem_map_of_mem (f:=(·.1)) hq')
theorem Jb4 {K:W.Frag} {H:Hp} {ps:Pl} {qs:List (Str × V)} (hk:qs.map (·.1)=ps.map (·.1)) (hn:(ps.map (·.1)).Nodup) (hf:∀ (i:Nat) (q:Str × V) (p:Str × (Int × Int)),qs[i]?=some q->ps[i]?=some p->FrV K H q.2 p.2.1 p.2.2) {z:Str} (hz:z∈ps.map (·.1)) :
  ∃ v,valV (Jdk qs) (Sum.inr z)=some v/\FrV K H v (look ps z).1 (look ps z).2:=by
 have c:(qs.map (·.1)).Nodup:=by rw [hk];exact hn
 have e:Jdk qs=qs.map fun q=>((Sum.inr q.1:Key),q.2):=by
  unfold Jdk;rw [JdY qs [] c (by simp)];simp
 obtain ⟨i,g⟩:=List.getElem?_of_mem hz;rw [List.getElem?_map] at g;obtain ⟨p,d,rfl⟩:=Option.map_eq_some_iff.mp g;have b:(qs.map (·.1))[i]?=some p.1:=by rw [hk,List.getElem?_map,d];rfl
 rw [List.getElem?_map] at b;obtain ⟨q,b,j⟩:=Option.map_eq_some_iff.mp b;refine ⟨q.2,?_,?_⟩
 ·rw [e];unfold valV;have : ∀ (l:List (Str × V)) (i:Nat),(l.map (·.1)).Nodup->l[i]?=some q->((l.map fun q=>((Sum.inr q.1:Key),q.2)).find? fun m=>decide (m.1=Sum.inr p.1))=some (Sum.inr q.1,q.2):=fun l=>by
   induction l with
   | nil=>intro i _ h;simp at h
   | cons a l ih=>
    intro i hn h;rw [map_cons,nodup_cons] at hn;cases i with
    | zero=>
     simp at h;subst h;rw [map_cons,List.find?_cons_of_pos (by simp [j])]
    | succ i=>
     rw [List.getElem?_cons_succ] at h;have k:a.1≠p.1:=fun z=>hn.1 (by rw [z, <- j];exact List.mem_map_of_mem (f:=(·.1)) (List.mem_of_getElem? h));rw [map_cons,List.find?_cons_of_neg (by simpa using k)];exact ih i hn.2 h
  rw [this qs i c b];rfl
 ·rw [Jib hn (show ps[i]?=some (p.1,p.2) from d)];exact hf i q p b d
theorem Jki {X:Cx} {K:W.Frag} {e:Expr} {ta:TE} {f:Str} {pos:Pos} (hK:X.K=K) (he:PE X e ta) (hb:attributeBase e f X.env (eval e X.env)=eval e X.env):PE X (.Attribute e f pos) (tFld K ta f):=by
 subst hK;exact Jax he hb
structure FW (A B:Nat) (a:Int × Int):Prop where
 s1:Mth.Sz A a.1
 s2:Mth.Sz B a.2
 b1:1<=a.2
theorem FB.w {A B:Nat} {a:Int × Int} (h:FB A B a):FW A B a:=⟨h.s1,h.s2,h.b1⟩
theorem FW.mono {A B C D:Nat} {a:Int × Int} (h:FW A B a) (h1:A<=C) (h2:B<=D):FW C D a:=⟨h.s1.mono h1,h.s2.mono h2,h.b1⟩
theorem FW.add {A B C D n m:Nat} {a c:Int × Int} (h:FW A B a) (k:FW C D c) (h1:A+D<=n) (h2:C+B<=n) (h3:B+D<=m):FB (n+1) m (addF a c):=by
 have b:a.2*c.2≠0:=Int.mul_ne_zero (by have:=h.b1;ac_nf) (by have:=k.b1;ac_nf);have e:=(h.s1.mul k.s2).mono h1;have d:=(k.s1.mul h.s2).mono h2;exact ⟨Mth.Sz.top b (e.add d),(Mth.Sz.bot b (h.s2.mul k.s2)).mono h3,Mth.Jbk b,Mth.g_low b⟩
theorem Jhc {a b c:Int × Int} (ha:1<=a.2) (hb:1<=b.2) (hc:1<=c.2) (h1:lessF b a=false) (h2:lessF c b=false):lessF c a=false:=by
 unfold lessF at *;rw [decide_eq_false_iff_not,Int.not_lt] at *;have d:=Int.mul_le_mul_of_nonneg_right h1 (show 0<=c.2 by ac_nf);have e:=Int.mul_le_mul_of_nonneg_right h2 (show 0<=a.2 by ac_nf);have g:a.1*b.2*c.2=(a.1*c.2)*b.2:=by rw [Int.mul_right_comm]
 have f:c.1*b.2*a.2=(c.1*a.2)*b.2:=by rw [Int.mul_right_comm]
 have h:b.1*a.2*c.2=b.1*c.2*a.2:=by rw [Int.mul_right_comm]
 rw [g,h] at d;rw [f] at e;exact Int.le_of_mul_le_mul_right (Int.le_trans d e) (show 0<b.2 by ac_nf)
section
variable {X:Cx} {K:W.Frag} {o e:Expr} {es:List Expr} {to:TE} {t:TA} {name:Str} {apos cpos:Pos} {T id:String} {r:V->List V->Hp->VK->Prop}
end
section
variable {X:Cx}
def JjD (td:TE):TE:=fun σ H Q=>td σ H fun x H1=>∃ d kvs,x=.ref d/\H1 d=some (.dK kvs)/\∀ l,H1 l=none->Q (.ref l) (upd H1 l (.lst (kvs.map (·.2))))
theorem Jkx {kvs:List (Key × V)} {vs:List (Key × Value)} (r:KV kvs vs):Vals (kvs.map (·.2)) (vs.map (·.2)):=by
 unfold KV at r;induction r with
 | nil=>exact .nil
 | cons h _ ih=>exact .cons h.2 ih
theorem Jkk {o:Expr} {td:TE} {p1 apos cpos pos:Pos} {x:Str} (hc:X.calm=true) (hx:x="list") (hg:Gl X x) (hm:X.mg x=none) (hv:bootBuiltins x=some (.type "list")) (ho:PE X o td)
  (hb:attributeBase o "values" X.env (eval o X.env)=eval o X.env:=by rfl) (hn:(apos.endLine == cpos.line)=true:=by rfl) :
  PE X (.Call (.Name x p1) [.Call (.Attribute o "values" apos) [] [] cpos] [] pos) (JjD td):=by
 intro f s σ H Q I h;have C:x≠"__name__":=by rw [hx];decide
 have L:(x == ("__debug__" : Str))=false:=by rw [hx];decide
 refine wpAny_Call_Name_kw (Jdj I hg hm hv ?_ C L);refine PyProof.Rows.callWith_type1 ?_ rfl rfl;show wpAny _ _ (spliced ((false,eval (.Call (.Attribute o "values" apos) [] [] cpos) X.env)::backTo pos (starEach [] X.env))) _ _ s;refine Calls.spliced_cons ?_;refine wpAny_Call_method0_late hb hn (thn (ho f s σ H _ I h) fun v l ζ=>?_);obtain ⟨y,R,I1,N,d,kvs,u,e,B⟩:=ζ;subst u;obtain rfl:v=Value.ref d:=N;obtain ⟨m,D,O⟩:=JkL I1 (.inl ⟨kvs, .inl e⟩);obtain ⟨t,_,i,g,p⟩:=dk_of I1.hok e;refine ⟨"dict","dict.values",PySem.F.plainAttrs_dict,PySem.F.slot_dict_values,PySem.F.type_dict_values,m,D,Calls.callWith_builtin rfl (PySem.evalArgs_none ?_)⟩;refine call_meetsIn PySem.F.slot_dict_values m PySem.F.entry_dict_values (PySem.F.args_dict_values_1 _) (meets_dict_values (JaA X.prog X.w) d O) ⟨⟨i,p⟩,?_⟩;refine Calls.spliced_nil ?_;obtain ⟨ep,K⟩:=p.dictAt;refine W.kdl_call (W.kdl_values (knd:=JaA X.prog X.w) (r:=l.heap.objs.size) (d:=d) (kvs:=i) (ep:=ep)) (I.ok.hd hc) ⟨⟨_,Heap.get?_push_size _ rfl,rfl,rfl⟩,K.push _⟩ (by have:=g.length;ac_nf) fun n G c P k A a=>?_;have E:c.toList=i.map (·.2):=W.kdl_vals_eq _ (by rw [Array.length_toList];exact a.1) fun j v J=>a.2 j v (by rw [<- Array.getElem?_toList];exact J);have M:∀ b o,l.heap.get? b=some o->n.get? b=some o:=fun b o z=>k b o (Heap.get?_push_of_some _ z);have q:l.heap.objs.size<=(l.heap.push { cls:=.type "dict_values",data:=.fields #[.ref d] }).objs.size:=by
  rw [Heap.size_push];exact Nat.le_succ _
 exact ⟨.ref _,_,I1.laid (t':=G) (o:=.lst (kvs.map (·.2))) M q (show ObjOk X.prog X.w _ n _ (.lst (kvs.map (·.2))) from ⟨by rw [length_map];exact t,i.map (·.2),P,Jkx g,by rw [<- E,Array.toArray_toList];exact A⟩),rfl,B _ (I1.hok.fresh q)⟩
end
section
variable {prog:Program} {w:World} {A:Around} {E:Value->Shared->Prop} {s:Shared}
theorem JiL {I a:Addr} {ep:Nat} {t:SetTable} {Q:Option Value->Shared->Prop} (hh:A.handled=none) (hI:s.heap.get? I=some (itO (.int 0 0) 0 a 0 ep)) (ha:s.heap.get? a=some (setO #[] ep t)) (hf:t.fits 0=true)
  (q:∀ h',(∀ b o,b≠I->s.heap.get? b=some o->h'.get? b=some o)->Q none { s with heap:=h' }):wpAny (model prog w) A (pyNext (.ref I)) Q E s:=by
 have c:s.TypeIs (.ref I) "set_iterator":=⟨_,hI,rfl⟩;cases ht:w.params.followText "set-order" with
 | true=>exact JeI (es:=#[]) (i:=0) hh hI ha hf ht (by rw [<- Array.getElem?_toList];exact List.getElem?_eq_none (by rw [(Jcr _ _).length_eq];simp)) q
 | false=>
  unfold pyNext;refine wpAny_bind (wpAny_attempt (wpAny_callSpecial?_slot (name:=Str.ofString "__next__") c JaU (wpAny_call_entry JaU c Jca ?_ (JcJ _))));unfold Builtin.«set_iterator.__next__»;refine wpAny_bind (m:=slotArgs _ _ _) (wpAny_pure ?_);refine wpAny_bind (wpAny_fieldsOf hI rfl ?_);show wpAny _ _ (setEntries a >>= _) _ _ _;refine wpAny_bind (wpAny_setEntries_of ha rfl hf ?_);rw [if_neg (by simp)];dsimp only;unfold setNext;refine wpAny_bind (wpAny_bind (wpAny_setState_of ha rfl hf ?_));dsimp only;refine wpAny_bind (Jb8 ?_);rw [if_neg (by rw [ht];decide)];refine wpAny_ite_split (fun z=>absurd (show (!t.plain&&decide ((#[]:Array (Int × Value)).size > 1))=true from z) (by simp)) (fun _=>?_);refine wpAny_bind ?_;show wpAny _ _ (if (!t.led&&!(#[]:Array (Int × Value)).isEmpty)=true then unsupported _ else pure ()) _ _ _;rw [if_neg (by simp)];refine wpAny_pure (wpAny_pure ?_);have d:∀ i:Nat,(#[]:Array (Int × Value))[i]?=none:=fun i=>by simp
  rw [d];dsimp only;refine wpAny_bind (wpAny_setField hI rfl (by simp) ?_);refine Je8 hh fun h' k=>q h' fun b o f e=>k b o ?_;exact ((Heap.SameBut.update ..).extBut b o f e)
theorem Jh0 {a:Addr} {ep:Nat} {t:SetTable} {Q:Value->Shared->Prop} (ha:s.heap.get? a=some (setO #[] ep t)) (hf:t.fits 0=true)
  (q1:Q (.ref s.heap.objs.size) { s with heap:=s.heap.push (itO (.int 0 0) 0 a 0 ep) }):wpAny (model prog w) A (pyIter (.ref a)) Q E s:=by
 have b:s.TypeIs (.ref a) "set":=⟨_,ha,rfl⟩;refine wpAny_pyIter_slot b PySem.F.slot_set_iter (wpAny_call_entry PySem.F.slot_set_iter b JdI ?_ (PySem.F.args_set_iter_1 _));unfold Builtin.«frozenset.__iter__»;refine wpAny_bind (m:=Builtin.Frozenset.slot0 _ _) (wpAny_pure ?_);unfold Builtin.Frozenset.sizeOf;refine wpAny_bind (wpAny_bind (wpAny_setEntries_of ha rfl hf (wpAny_pure ?_)));unfold setDrawn;refine wpAny_bind (wpAny_bind (wpAny_setState_of ha rfl hf ?_));dsimp only;refine wpAny_bind (Jb8 ?_);refine wpAny_pure ?_;refine wpAny_ite_split (fun z=>absurd (show (!w.params.followText "set-order"&&(!t.plain&&decide ((#[]:Array (Int × Value)).size > 1)))=true from z) (by simp)) (fun _=>?_);refine wpAny_bind (wpAny_pure (wpAny_bind (wpAny_setEpoch_of ha rfl hf ?_)));unfold newFields;refine wpAny_bind (wpAny_newObj_type (wpAny_pure ⟨_,rfl,"set_iterator",_,⟨_,Heap.get?_push_size _ rfl,rfl⟩,JaU.lookup,?_⟩));exact q1
theorem JiT {a:Addr} {ep:Nat} {t:SetTable} (hf:t.fits 0=true):W.KdlSrc prog w "set" a a 0 (fun _ _=>False) (fun h=>h.get? a=some (setO #[] ep t)) where
 type:=fun _ c=>⟨_,c,rfl⟩
 there:=fun _ c=>⟨Heap.lt_size c,Heap.lt_size c⟩
 keep:=fun _ _ c k=>k a (.inl rfl) _ c
 notList:=by decide
 notTuple:=by decide
 hint:=fun _ _ _ _ c q=>Jdw ⟨_,c,rfl⟩ q
 iter:=fun A s f c=>⟨itO (.int 0 0) 0 a 0 ep,fun _ h=>h.get? s.heap.objs.size=some (itO (.int 0 0) 0 a 0 ep)/\h.get? a=some (setO #[] ep t),fun _ _ q=>Jh0 c hf q,
  {
   sub:=fun b e=>by simp at e;simp [e]
   frame:=fun _ _ _ d k=>⟨k _ (by simp) _ d.1,k _ (by simp) _ d.2⟩
   item:=fun i _ _ _ l _ _=>absurd l (Nat.not_lt_zero _)
   done:=fun g Q E d q=>JiL f d.1 d.2 hf fun j k=>q j g.toks fun b o e z=>k b o (fun h=>e (by simp [h])) z
   self:=fun _ _ _ _ d q=>JeN d.1 q },⟨Heap.get?_push_size _ rfl,Heap.get?_push_of_some _ c⟩⟩
theorem Jgu {a:Addr} {ep:Nat} {t:SetTable} {Q:Value->Shared->Prop} (hh:A.handled=none) (ha:s.heap.get? a=some (setO #[] ep t)) (hf:t.fits 0=true)
  (q:∀ s' l (out:Array Value) ss' e,(∀ b o,s.heap.get? b=some o->s'.heap.get? b=some o)->s'.gens=s.gens->s'.os=s.os->s.toks<=s'.toks->s.heap.objs.size<=l->s'.heap.get? l=some (seqObj "list" out e)->StrsAre out.toList ss'->ss'.Perm []->sortedS ss'=true->Q (.ref l) s') :
  wpAny (model prog w) A (call (.builtin "sorted") [.ref a]) Q E s:=by
 have v:=Heap.lt_size ha;have x:A.in1.handled=none:=by simp [hh]
 refine JcE (ss:=[]) ⋯ (fun R k=>?_) q;obtain ⟨u,j⟩:∃ u:Result->Shared->Prop, ∀ r s',u r s'↔∃ f p c m,r=.ok (.ret (.ref s.heap.objs.size))/\s'={ s with heap:=f,toks:=p }/\(∀ b o,b≠s.heap.objs.size->(s.heap.push { cls:=.type "list",data:=.seq ([]:List Value).toArray }).get? b=some o->f.get? b=some o)/\f.get? s.heap.objs.size=some { cls:=.type "list",dict:=none,data:=.seq c m,slots:=#[] }/\ItemsOf (fun _ _=>False) c 0:=⟨_,fun _ _=>Iff.rfl⟩;have g:=codeAny_toks_of (n:=s.toks) (s:={ s with heap:=s.heap.push { cls:=.type "list",data:=.seq ([]:List Value).toArray } }) (Nat.le_refl _) (JeM (A:=A.in1) (R:=u)
  (W.kdl_extend (R:=u) (s:={ s with heap:=s.heap.push { cls:=.type "list",data:=.seq ([]:List Value).toArray } }) (JiT (prog:=prog) (w:=w) (a:=a) (ep:=ep) hf) x (Heap.get?_push_of_some _ ha) s.heap.objs.size (Nat.ne_of_gt v) (Nat.ne_of_gt v) (.ref s.heap.objs.size) 0 (Heap.get?_push_size _ rfl) (fun f p h m B D d=>(j _ _).mpr ⟨f,p,h,m,rfl,rfl,B,D,d⟩) (Nat.zero_le _)))
 refine codeAny_mono g ?_;rintro r s' ⟨C,y⟩;obtain ⟨f,p,c,m,rfl,rfl,z,i,d⟩:=(j _ _).mp y;have e:c.toList=[]:=List.eq_nil_of_length_eq_zero (by rw [Array.length_toList];exact d.1);exact k _ c.toList m [] (fun b o e=>z b o (Nat.ne_of_lt (Heap.lt_size e)) (Heap.get?_push_of_some _ e)) rfl rfl C (by rw [Array.toArray_toList];exact i) (by rw [e];exact .nil) (.refl _)
end
section
variable {X:Cx}
end
section
variable {X:Cx} {k k':Nat} {x mn:Str} {C:Addr} {Cs:Addr->Prop} {ps:List Str} {sp:Sp} {p pos apos:Pos} {e o:Expr} {es:List Expr} {t:TA} {ta:TE}
abbrev TX:=St->Hp->VK->XK->Prop
def xMake (C:Addr) (sp:Sp) (t:TA):TX:=fun σ H Q E=>t σ H fun vs H1=>∀ x dx,H1 x=none->H1 dx=none->dx≠x ->
 sp (.ref x::(vs++[])) (upd (upd H1 dx (.own x)) x (.ins C dx [])) (fun v H2=>v=.non/\Q (.ref x) H2) E
end
section
variable {X:Cx}
theorem JdX:OpR X (compareOp .NotIn) (rIn X.K true):=JfA
end
section
variable {σ : St} {H:Hp} {Q:VK} {E:XK} {ta td ty:TE} {ts:TA} {tc:TT} {t u:TX} {C:Addr} {sp:Sp} {Cs:Addr->Prop} {m:Str}
theorem y9ay:xMake C sp ts σ H Q E=ts σ H fun vs H1=>∀ x dx,H1 x=none->H1 dx=none->dx≠x->sp (.ref x::(vs++[])) (upd (upd H1 dx (.own x)) x (.ins C dx [])) (fun v H2=>v=.non/\Q (.ref x) H2) E:=rfl
theorem y96y:JjD td σ H Q=td σ H fun x H1=>∃ d kvs,x=.ref d/\H1 d=some (.dK kvs)/\∀ l,H1 l=none->Q (.ref l) (upd H1 l (.lst (kvs.map (·.2)))):=rfl
theorem y40y:tDIn ty td σ H Q=ty σ H fun y H1=>td σ H1 fun x H2=>∃ a o,x=.ref a/\DGet H2 a y o/\Q (.bl o.isSome) H2:=rfl
theorem y44y:JiB ty td σ H Q=ty σ H fun y H1=>td σ H1 fun x H2=>∃ a o,x=.ref a/\DGet H2 a y o/\Q (.bl (!o.isSome)) H2:=rfl
theorem y45y:Jlo td ty σ H Q=td σ H fun x H1=>∃ a,x=.ref a/\IsD H1 a/\ty σ H1 fun y H2=>∃ kvs k v,H2 a=some (.dK kvs)/\y=kV k/\valV kvs k=some v/\Q v (upd H2 a (.dK (dropK kvs k))):=rfl
end
section
variable {α κ : Type} [DecidableEq κ] {f : α->κ} {k : κ} {u y : α}
end
section
variable {α : Type} {P : α->V->Prop}
end
abbrev nms (ts:List TD):List Str:=ts.map (·.nm)
def putT (ts:List TD) (t:TD):List TD:=if t.nm∈nms ts then ts.map (fun u=>if u.nm=t.nm then t else u) else ts++[t]
def BD (P:TD->V->Prop) (ts:List TD) (kvs:List (Key × V)):Prop:=kvs.map (·.1)=ts.map (fun t=>Sum.inr t.nm)/\All2 P ts (kvs.map (·.2))
section
variable {P P':TD->V->Prop} {ts:List TD} {kvs:List (Key × V)} {t:TD} {v:V}
theorem BD.mono (h:BD P ts kvs) (m:∀ a x,P a x->P' a x):BD P' ts kvs:=⟨h.1,h.2.mono m⟩
theorem BD.length (h:BD P ts kvs):kvs.length=ts.length:=by simpa using congrArg List.length h.1
theorem BD.cons:BD P (t::ts) kvs↔∃ w r,kvs=(Sum.inr t.nm,w)::r/\P t w/\BD P ts r:=by
 constructor
 ·rintro ⟨a,b⟩;match kvs,a,b with
  | (k,w)::r,a,b=>
   rw [map_cons,map_cons,List.cons.injEq] at a;obtain ⟨y,d,e,p,b⟩:=b;rw [map_cons,List.cons.injEq] at e;obtain ⟨rfl,rfl⟩:=e;obtain ⟨c,a⟩:=a;have c:k=Sum.inr t.nm:=c;subst c;exact ⟨_,r,rfl,p,a,b⟩
 ·rintro ⟨w,r,rfl,p,h⟩;exact ⟨by rw [map_cons,map_cons,h.1],w,r.map (·.2),rfl,p,h.2⟩
theorem BD.nil:BD P [] kvs↔kvs=[]:=by
 constructor
 ·rintro ⟨h,_⟩;simpa using h
 ·rintro rfl;exact ⟨rfl,rfl⟩
theorem BD.any:∀ {ts:List TD} {kvs:List (Key × V)} {z:Str},BD P ts kvs->(kvs.any fun kv=>decide (kv.1=Sum.inr z))=decide (z∈nms ts)
 | [],kvs,z,h=>by rw [BD.nil.mp h];simp
 | t::ts,kvs,z,h=>by
  obtain ⟨w,r,rfl,_,h⟩:=BD.cons.mp h;rw [any_cons,BD.any h];by_cases c:t.nm=z
  ·subst c;simp
  ·have c1:(Sum.inr t.nm:Key)≠Sum.inr z:=fun e=>c (by injection e);have c2:z≠t.nm:=fun e=>c e.symm;simp [c1,c2]
theorem BD.val:∀ {ts:List TD} {kvs:List (Key × V)} {z:Str},BD P ts kvs->(valV kvs (Sum.inr z)).isSome=decide (z∈nms ts)
 | [],kvs,z,h=>by rw [BD.nil.mp h];rfl
 | t::ts,kvs,z,h=>by
  obtain ⟨w,r,rfl,_,h⟩:=BD.cons.mp h;by_cases c:t.nm=z
  ·subst c;rw [Jc2 rfl];simp
  ·have c1:(Sum.inr t.nm:Key)≠Sum.inr z:=fun e=>c (by injection e);have c2:z≠t.nm:=fun e=>c e.symm;have e:valV ((Sum.inr t.nm,w)::r) (Sum.inr z)=valV r (Sum.inr z):=by simp [valV,List.find?_cons,c1]
   rw [e,BD.val h];simp [c2]
theorem BD.rep:∀ {ts:List TD} {kvs:List (Key × V)},BD P ts kvs->P t v->BD P (ts.map fun u=>if u.nm=t.nm then t else u) (kvs.map fun kv=>if kv.1=Sum.inr t.nm then (kv.1,v) else kv)
 | [],kvs,h,_=>by rw [BD.nil.mp h];exact ⟨rfl,rfl⟩
 | s::ts,kvs,h,p=>by
  obtain ⟨w,r,rfl,q,h⟩:=BD.cons.mp h;by_cases c:s.nm=t.nm
  ·rw [map_cons,map_cons,if_pos c,if_pos (by rw [c]),c];exact BD.cons.mpr ⟨v,_,rfl,p,BD.rep h p⟩
  ·have c1:(Sum.inr s.nm:Key)≠Sum.inr t.nm:=fun e=>c (by injection e);rw [map_cons,map_cons,if_neg c,if_neg c1];exact BD.cons.mpr ⟨w,_,rfl,q,BD.rep h p⟩
theorem BD.app (h:BD P ts kvs) (p:P t v):BD P (ts++[t]) (kvs++[(Sum.inr t.nm,v)]):=⟨by rw [map_append,map_append,h.1];rfl,by rw [map_append];exact h.2.append (.one p)⟩
theorem BD.put (h:BD P ts kvs) (p:P t v):BD P (putT ts t) (putK kvs (Sum.inr t.nm) v):=by
 unfold putT putK;rw [h.any];by_cases c:t.nm∈nms ts
 ·rw [if_pos c,if_pos (by simpa using c)];exact h.rep p
 ·rw [if_neg c,if_neg (by simpa using c)];exact h.app p
end
theorem sub_len {α : Type} [DecidableEq α]:∀ (l m:List α),l.Nodup->l ⊆ m->l.length<=m.length
 | [],m,_,_=>by simp
 | a::l,m,hn,hs=>by
  rw [nodup_cons] at hn;have ha:a∈m:=hs (by simp);have:=sub_len l (m.erase a) hn.2 fun x hx=>(List.mem_erase_of_ne (show x≠a from fun e=>hn.1 (e ▸ hx))).mpr (hs (by simp [hx]));rw [List.length_erase_of_mem ha] at this;have:=List.length_pos_of_mem ha;rw [length_cons];ac_nf
section
variable {X:Cx} {pins:List (Addr × Obj)} {σ : St} {H:Hp} {s:Shared} {a:Addr} {kvs:List (Key × V)} {k:Key} {u r:Value} {y:V} {A:Around} {E:Value->Shared->Prop}
end
def tDSet (td ty tx:TE):TE:=fun σ H Q=>td σ H fun x H1=>∃ a,x=.ref a/\IsD H1 a/\ty σ H1 fun y H2=>tx σ H2 fun z H3=>∃ kvs k,H3 a=some (.dK kvs)/\y=kV k/\kvs.length<sizeLine /\
 (∀ v,valV kvs k=some v->Q v H3)/\(valV kvs k=none->Q z (upd H3 a (.dK (putK kvs k z))))
section
variable {X:Cx} {o e f:Expr} {apos cpos:Pos} {td ty tx:TE}
end
section
variable {X:Cx}
end
section
variable {σ : St} {H:Hp} {Q:VK} {td ty tx:TE}
theorem y48y:tDSet td ty tx σ H Q=td σ H fun x H1=>∃ a,x=.ref a/\IsD H1 a/\ty σ H1 fun y H2=>tx σ H2 fun z H3=>∃ kvs k,H3 a=some (.dK kvs)/\y=kV k/\kvs.length<sizeLine/\(∀ v,valV kvs k=some v->Q v H3)/\(valV kvs k=none->Q z (upd H3 a (.dK (putK kvs k z)))):=rfl
theorem y3fy:Jlm td ty tx σ H Q=td σ H fun x H1=>∃ a,x=.ref a/\IsD H1 a/\ty σ H1 fun y H2=>tx σ H2 fun z H3=>∃ o,DGet H3 a y o/\Q (o.getD z) H3:=rfl
theorem y41y {trs:List (TE × TE)}:tDisp trs σ H Q=∀ p,H p=none->Jg3 trs σ (upd H p (.dK [])) fun ps H2=>H2 p=some (.dK [])/\∃ kvs:List (Key × V),ps=kvs.map (fun kv=>(kV kv.1,kv.2))/\kvs.length<=15/\Q (.ref p) (upd H2 p (.dK (Jjy [] kvs))):=rfl
theorem y7ey {tk tv:TE} {R:List (V × V)->Hp->Prop}:Jg3 [(tk,tv)] σ H R=tk σ H fun x H1=>tv σ H1 fun y H2=>R [(x,y)] H2:=rfl
theorem y2dy {K:W.Frag} {T:String} {r:V->List V->Hp->VK->Prop} {to:TE}:tBM0 K T r to σ H Q=to σ H fun x H1=>tyV K T x H1/\r x [] H1 Q:=rfl
end
section
variable {α : Type} {f : α->Str} {P P' : α->V->Prop} {as:List α} {kvs:List (Key × V)} {a : α} {v:V}
end
structure PD where
 nm:Str
 st:Str
 en:Str
 sz:Int × Int
 mo:Int × Int
 wt:Int
section
variable {X:Cx} {pins:List (Addr × Obj)} {σ : List (Option V)} {H H':Hp} {s s':Shared} {d:Addr} {kvs kvs':List (Key × V)} {od:Obj}
theorem Inv.freeze (I:Inv X pins σ H s) (e:H d=some (.dK kvs)) (ho:s.heap.get? d=some od):Inv X pins σ (upd H d (.frz od (.dK kvs))) s:=by
 refine I.un (h':=s.heap) (t':=s.toks) ⟨fun b o q _ _ _=>q,fun b o q _ _ _=>⟨o.slots,q⟩,fun b o q n _=>?_,fun b o q _=>⟨o,q⟩,fun b h q=>?_,fun b o u q=>?_,fun b j q=>⟨#[],?_⟩⟩ fun a o q=>?_
 ·rw [Jai (fun z=>by rw [z,e] at n;cases n)];exact n
 ·rw [Jai (fun z=>by rw [z,e] at q;cases q)];exact q
 ·rw [Jai (fun z=>by rw [z,e] at q;cases q)];exact q
 ·rw [Jai (fun z=>by rw [z,e] at q;cases q),Array.append_empty];exact q
 ·have f:∀ i b,H b=some (.own i)->upd H d (.frz od (.dK kvs)) b=some (.own i):=fun i b q=>by
   rw [Jai (fun z=>by rw [z,e] at q;cases q)];exact q
  have g:∀ b h,H b=some (.tup h)->upd H d (.frz od (.dK kvs)) b=some (.tup h):=fun b h q=>by
   rw [Jai (fun z=>by rw [z,e] at q;cases q)];exact q
  by_cases c:a=d
  ·subst c;rw [Jau] at q;cases q;exact ⟨ho,(I.hok a _ e).stay (fun _ _ _ z=>z) (f a) g⟩
  ·rw [Jai c] at q;exact (I.hok a o q).stay (fun _ _ _ z=>z) (f a) g
end
def Itv (d:Addr) (od:Obj) (kvs:List (Key × V)):It :=
 ⟨fun i H=>H d=some (.frz od (.dK kvs))/\i<kvs.length,fun i H x H'=>H'=H/\(kvs.map (·.2))[i]?=some x,fun i H=>H d=some (.frz od (.dK kvs))/\kvs.length<=i⟩
section
variable {X:Cx} {tg:Expr}
def iVals (td:TE):TI:=fun σ H R=>td σ H fun x H1=>∃ d kvs,x=.ref d/\H1 d=some (.dK kvs)/\∀ od,R (Itv d od kvs) (upd H1 d (.frz od (.dK kvs)))
def tThaw (t:TE):TE:=fun σ H Q=>∃ d kvs,H d=some (.dK kvs)/\t σ H fun v H'=>∃ od kvs',H' d=some (.frz od (.dK kvs'))/\Q v (upd H' d (.dK kvs'))
end
section
variable {k:Nat} {cs:List (Nat × Str)} {g:TG} {te tl td:TE} {σ : St} {H H1:Hp} {Q:VK} {d:Addr} {od:Obj} {kvs:List (Key × V)}
theorem y3ay:tThaw (tComp k cs (iVals td) g te) σ H Q=∃ d kvs,H d=some (.dK kvs)/\td σ H fun x H1=>∃ d1 kvs1,x=.ref d1/\H1 d1=some (.dK kvs1)/\∀ od,CompJ (Itv d1 od kvs1) k cs g te σ (fun v H'=>∃ od kvs',H' d=some (.frz od (.dK kvs'))/\Q v (upd H' d (.dK kvs'))) (upd H1 d1 (.frz od (.dK kvs1))):=rfl
end
section
variable {X:Cx} {k k':Nat} {x:Str} {C:Addr} {ps:List Str} {sp:Sp} {E:XK} {p pos:Pos}
end
structure GD where
 nm:Str
 st:Str
 en:Str
 lo:Int × Int
 hi:Int × Int
section
variable {K:W.Frag} {H H':Hp}
end
section
variable {H H' H'':Hp} {ls:List PD} {one:Str} {fd wl:Addr} {ws:List (Str × List Pr)} {wt:List Str}
end
theorem Jio {X:Cx} {K:W.Frag} {pos:Pos} {es:List Expr} {k:Nat} {t:TGs} {n:Nat} (hK:X.K=K) (hc:X.calm=true) (h:PGs X es t) (hn:(assignEach es X.env).length=n:=by rfl) (hst:(assignEach es X.env).findIdx? (·.1)=none:=by rfl):PG X (.Tuple es k pos) (gTup K n t):=by
 subst hK;exact JfC hc h hn hst
abbrev Fr2:=Int × Int
section
variable {K:W.Frag} {k:Nat} {cs:List (Nat × Str)} {g:TG} {te:TE} {ta:TA} {σ : St} {H H1:Hp} {Q:VK} {a b:Addr} {xs zs:List V}
end
section
variable {X:Cx}
end
section
variable {K:W.Frag} {H:Hp} {Q:VK}
end
section
variable {prog:Program} {w:World} {A:Around} {E:Value->Shared->Prop} {s:Shared}
end
section
variable {prog:Program} {w:World} {A:Around} {E:Value->Shared->Prop} {s:Shared}
end
section
variable {X:Cx}
end
section
variable {X:Cx} {elts:List Expr} {x1:Nat} {tp:Pos}
end
section
variable {K:W.Frag} {k:Nat} {cs:List (Nat × Str)} {g:TG} {te:TE} {ta:TA} {σ : St} {H H1:Hp} {Q:VK} {a:Addr} {xs:List V}
end
def Itq (lo c:Int) (n:Nat):It:=⟨fun i _=>i<n,fun i H x H'=>H'=H/\x=.int (lo+i*c),fun i _=>n<=i⟩
def rsz (lo hi c:Int):Nat:=(if lo<hi then (hi-lo-1)/c+1 else 0).toNat
section
variable {X:Cx} {tg:Expr}
def iRng3 (ta:TA):TI:=fun σ H R=>ta σ H fun vs H1=>∃ i j c:Int,vs=[.int i, .int j, .int c]/\(0<=i/\i<2 ^ 40/\0<=j/\j<2 ^ 40/\1<=c/\c<2 ^ 30)/\R (Itq i c (rsz i j c)) H1
end
section
variable {ta:TA} {g:TG} {tb:TS} {D:Ends} {σ : St} {H:Hp}
def ForQ (lo c:Int) (n:Nat) (g:TG) (tb:TS) (D:Ends) (σ : St) (H:Hp):Prop:=∃ W:Nat->Nat->St->Hp->Prop,(∃ m,W 0 m σ H)/\∀ i m σ H,W i m σ H ->
 ((Itq lo c n).stop i H/\D.nx σ H)\/((Itq lo c n).go i H/\∃ N:St->Hp->Prop,(∀ σ' H',N σ' H'->∃ m',m'<m/\W (i+1) m' σ' H')/\∀ x H',(Itq lo c n).yld i H x H'->g x σ H' fun σ2 H2=>tb { D with nx:=N,ct:=N,bk:=D.nx } σ2 H2)
theorem y54y:tFor (iRng3 ta) g tb D σ H=ta σ H fun vs H1=>∃ i j c:Int,vs=[.int i, .int j, .int c]/\(0<=i/\i<2 ^ 40/\0<=j/\j<2 ^ 40/\1<=c/\c<2 ^ 30)/\ForQ i c (rsz i j c) g tb D σ H1:=rfl
end
theorem y5ey {c:TT} {ta tb:TE} {σ : St} {H:Hp} {Q:VK}:tIf c ta tb σ H Q=c σ H fun b H1=>if b=true then ta σ H1 Q else tb σ H1 Q:=rfl
def vl (a:Int × Int):Rat:=(a.1:Rat)/(a.2:Rat)
theorem JcH {a:Int} (h:1<=a):(a:Rat)≠0:=fun z=>by
 have : a=0:=by exact_mod_cast z
 ac_nf
theorem vl_eq {a c:Int × Int} (ha:1<=a.2) (hc:1<=c.2):vl a=vl c↔a.1*c.2=c.1*a.2:=by
 unfold vl;have d:=JcH ha;have b:=JcH hc;have e:((a.1*c.2=c.1*a.2)↔((a.1:Rat)*(c.2:Rat)=(c.1:Rat)*(a.2:Rat))):=by
  constructor
  ·intro h;exact_mod_cast h
  ·intro h;exact_mod_cast h
 rw [e];generalize (a.1:Rat)=x at *;generalize (a.2:Rat)=y at *;generalize (c.1:Rat)=z at *;generalize (c.2:Rat)=u at *;constructor
 ·intro h;grind
 ·intro h;grind
theorem Jlu {a c:Int × Int} (ha:1<=a.2) (hc:1<=c.2) (h1:Mth.g a.1 a.2=1) (h2:Mth.g c.1 c.2=1) (h:vl a=vl c):a=c:=by
 have:=Mth.Jc9 ha hc h1 h2 ((vl_eq ha hc).mp h);exact Prod.ext this.1 this.2
theorem Jc3 {a c:Int × Int} (ha:1<=a.2) (hc:1<=c.2):vl (addF a c)=vl a+vl c:=by
 have d:a.2*c.2≠0:=Int.mul_ne_zero ∅ ∅;have f:=Mth.cross (t:=a.1*c.2+c.1*a.2) d;have g:=Mth.Jbk (t:=a.1*c.2+c.1*a.2) d;unfold vl addF;dsimp only;generalize Mth.top (a.1*c.2+c.1*a.2) (a.2*c.2)=t at *;generalize Mth.bot (a.1*c.2+c.1*a.2) (a.2*c.2)=b at *;have j:=JcH ha;have h:=JcH hc;have i:=JcH g;have e:(t:Rat)*((a.2:Rat)*(c.2:Rat))=((a.1:Rat)*(c.2:Rat)+(c.1:Rat)*(a.2:Rat))*(b:Rat):=by exact_mod_cast f
 generalize (a.1:Rat)=x at *;generalize (a.2:Rat)=y at *;generalize (c.1:Rat)=z at *;generalize (c.2:Rat)=u at *;generalize (t:Rat)=t at *;generalize (b:Rat)=b at *;grind
theorem JcI (a:Int × Int):vl (negF a) = - vl a:=by
 unfold vl negF;rw [Rat.intCast_neg];grind
theorem JcS {a c:Int × Int} (ha:1<=a.2) (hc:1<=c.2):lessF a c=true↔vl a<vl c:=by
 unfold lessF vl;rw [decide_eq_true_iff];have f:(0:Rat)<(a.2:Rat):=by exact_mod_cast (show 0<a.2 by ac_nf)
 have b:(0:Rat)<(c.2:Rat):=by exact_mod_cast (show 0<c.2 by ac_nf)
 have e:((a.1*c.2<c.1*a.2)↔((a.1:Rat)*(c.2:Rat)<(c.1:Rat)*(a.2:Rat))):=by
  constructor
  ·intro h;exact_mod_cast h
  ·intro h;exact_mod_cast h
 rw [e];rw [Rat.div_lt_iff f];generalize (a.1:Rat)=x at *;generalize (a.2:Rat)=y at *;generalize (c.1:Rat)=z at *;generalize (c.2:Rat)=u at *;have d:z/u*y=z*y/u:=by grind
 rw [d,Rat.lt_div_iff b]
theorem FB.mono {A B C D:Nat} {a:Int × Int} (h:FB A B a) (h1:A<=C) (h2:B<=D):FB C D a:=⟨h.s1.mono h1,h.s2.mono h2,h.b1,h.g1⟩
theorem Jlv {t b:Int} (hb:1<=b):vl (Mth.top t b,Mth.bot t b)=(t:Rat)/(b:Rat):=by
 have a:b≠0:=by ac_nf
 have c:=Mth.cross (t:=t) a;have d:=Mth.Jbk (t:=t) a;unfold vl;dsimp only;generalize Mth.top t b=x at *;generalize Mth.bot t b=y at *;have g:=JcH hb;have f:=JcH d;have e:(x:Rat)*(b:Rat)=(t:Rat)*(y:Rat):=by exact_mod_cast c
 generalize (x:Rat)=x at *;generalize (y:Rat)=y at *;generalize (t:Rat)=t at *;generalize (b:Rat)=b at *;grind
section
variable {A B A' B' C D C' D':Nat} {x y z w m a b:Int × Int}
end
section
variable {α : Type} {f : α->Str} {l:List α} {s st:Nat}
end
section
variable {K:W.Frag} {H H':Hp} {x:V}
end
theorem Jbh {H0 H:Hp} {b:Addr} (S:Same H0 H) (h:H b=none):H0 b=none:=by
 cases e:H0 b with
 | none=>rfl
 | some o=>rw [S _ _ e] at h;cases h
open PySem.Spec PyProof.Rows
theorem JcC (z:Str):∀ ss:List Str,inV (.str z) (ss.map V.str)=decide (z∈ss)
 | []=>by simp [inV]
 | s::ss=>by
  have h:=JcC z ss;unfold inV at h ⊢;rw [map_cons,any_cons,h];have e:eqV (.str s) (.str z)=decide (s=z):=by first | rfl | simp [eqV]
  rw [e];by_cases c:s=z
  ·subst c;simp
  ·have c':¬ z=s:=fun q=>c q.symm;simp [c,c']
theorem ForR.byN {lo:Int} {n:Nat} {g:TG} {tb:TS} {D:Ends} {σ : St} {H:Hp} (Pv:Nat->St->Hp->Prop) (h0:Pv 0 σ H)
  (hs:∀ i σ H,i<n->Pv i σ H->∀ N:St->Hp->Prop,(∀ σ' H',Pv (i+1) σ' H'->N σ' H')->g (.int (lo+i)) σ H fun σ2 H2=>tb { D with nx:=N,ct:=N,bk:=D.nx } σ2 H2) (hd:∀ σ H,Pv n σ H->D.nx σ H):ForR lo n g tb D σ H :=
 ForR.by Pv h0 (fun i σ H a b=>hs i σ H a b _ fun _ _ h=>h) hd
theorem ForA.byLN {K:W.Frag} {a:Addr} {xs:List V} {g:TG} {tb:TS} {D:Ends} {σ : St} {H:Hp} (hA:SqL K H a xs) (Pv:Nat->St->Hp->Prop) (h0:Pv 0 σ H) (hl:∀ i σ H',Pv i σ H'->SqL K H' a xs)
  (hs:∀ i x σ H,xs[i]?=some x->Pv i σ H->∀ N:St->Hp->Prop,(∀ σ' H',Pv (i+1) σ' H'->N σ' H')->g x σ H fun σ2 H2=>tb { D with nx:=N,ct:=N,bk:=D.nx } σ2 H2) (hd:∀ σ H,Pv xs.length σ H->D.nx σ H):ForA K a g tb D σ H :=
 ForA.byL hA Pv h0 hl (fun i x σ H c b=>hs i x σ H c b _ fun _ _ h=>h) hd
def prodI:List Int->Int
 | []=>1
 | f::r=>f*prodI r
theorem Jez (f:Int):∀ fs:List Int,prodI (fs++[f])=prodI fs*f
 | []=>by simp [prodI]
 | g::fs=>by rw [cons_append];simp only [prodI,Jez f fs];rw [Int.mul_assoc]
structure Scl (b:Int) (fs:List Int):Prop where
 b1:1<=b
 f1:∀ f∈fs,1<=f
 pr:prodI fs=b
theorem Scl.nil:Scl 1 []:=⟨by decide,by simp,rfl⟩
theorem Scl.snoc {b f:Int} {fs:List Int} (h:Scl b fs) (hf:1<=f):Scl (b*f) (fs++[f]):=⟨by
 have:=Int.mul_pos (show 0<b by have:=h.b1;ac_nf) (show 0<f by ac_nf);ac_nf,fun g a=>by
 rcases mem_append.mp a with a | a
 ·exact h.f1 g a
 ·rw [mem_singleton.mp a];exact hf,by rw [Jez,h.pr]⟩
section
variable {X:Cx} {tg:Expr}
end
def notStar:Expr->Bool
 | .Starred _ _=>false
 | _=>true
theorem Jah {e:Expr} {es:List Expr} {env:Env} (h:notStar e=true):starEach (e::es) env=(false,eval e env)::starEach es env:=by
 cases e <;> first | rfl | (simp [notStar] at h)
theorem Jaa {X:Cx} {e:Expr} {es:List Expr} {te:TE} {t:TA} (ha:PE X e te) (hr:PA X es t) (hs:notStar e=true:=by rfl):PA X (e::es) (tCons te t):=Jkg ha hr (Jah hs)
section
variable {K:W.Frag} {H H':Hp} {x:V} {a c:Addr}
def FLV (K:W.Frag) (H:Hp) (s:Int × Int) (x:V):Prop:=FrV K H x s.1 s.2
theorem FLV.sameT {s:Int × Int} (T:SameT H H') (h:FLV K H s x):FLV K H' s x:=FrV.sameT T h
end
section
variable {X:Cx}
end
section
variable {prog:Program} {w:World} {A:Around} {E:Value->Shared->Prop} {s:Shared}
end
section
variable {X:Cx}
end
def ext (M:Str->Option Str) (f:Str):Str:=(M f).getD f
section
variable {ls:List PD} {M:Str->Option Str} {a b f g:Str} {p:PD}
end
section
variable {K:W.Frag} {H H':Hp}
end
section
variable {a b:Str->Rat}
end
structure Gp where
 R:Rat
 way:List Str
section
variable {N:List Str} {w M:Str->Rat} {gs:List Gp} {f f':Str->Rat}
end
def left (lvs:List (Str × (Int × Int))) (w:Str->Rat) (n:Str):Rat:=if n∈lvs.map (·.1) then 0 else w n
section
variable {lvs:List (Str × (Int × Int))} {n m:Str} {L:Int × Int} {ns:List Str} {w:Str->Rat}
end
section
variable {N:List Str} {w M:Str->Rat} {gs:List Gp} {lvs:List (Str × (Int × Int))} {c:Rat} {L:Int × Int} {ns:List Str}
end
section
variable {D E:Int} {r s:Rat}
end
theorem Jj3 {kvs:List (Key × V)} {vs:List (Key × Value)} (rel:KV kvs vs):vs.map (·.1)=kvs.map (·.1):=by
 unfold KV at rel;induction rel with
 | nil=>rfl
 | cons h1 _ ih=>rw [map_cons,map_cons,ih,h1.1]
theorem Jj1 {P:Program} {w:World} {z:Str} {v:Value} (h:(JaA P w).is (Sum.inr z) v=true):∃ t,v=.str z t:=by
 rcases JaL (show keyIs (Sum.inr z) v=true from h) with ⟨b,hb,_⟩ | ⟨y,t,hy,rfl⟩
 ·cases hb
 ·cases hy;exact ⟨t,rfl⟩
def Itk (d:Addr) (od:Obj) (kvs:List (Key × V)) (ss:List Str):It :=
 ⟨fun i H=>H d=some (.frz od (.dK kvs))/\i<ss.length,fun i H x H'=>H'=H/\(ss.map V.str)[i]?=some x,fun i H=>H d=some (.frz od (.dK kvs))/\ss.length<=i⟩
theorem JiC {P:Program} {w:World} {K:W.Frag} {tg:Expr} {d it:Addr} {od:Obj} {kvs:List (Key × V)} {ss:List Str} {vs:List (Key × Value)} {ep:Nat} (rel:KV kvs vs) (hk:kvs.map (·.1)=ss.map Sum.inr) (hd:∀ h:Heap,h.get? d=some od->h.DictAt (JaA P w) d vs ep) :
  Turn P w K tg (Itk d od kvs ss) [it] it (fun i h=>h.IsKeyIter it d i vs.length ep) where
 mem:=by simp
 obj:=fun i h a b j=>by
  obtain rfl:b=it:=by simpa using j
  obtain ⟨o,e,c,z⟩:=a;exact ⟨o,e,fun v q=>by rw [z] at q;cases q⟩
 keep:=fun i h x a k=>a.at fun o e=>k it (by simp) o e
 item:=by
  intro X M A J O i f s σ H E I y a B;subst M A J;obtain ⟨l,C⟩:=B;obtain ⟨L,D,T,F,G,N⟩:=y it (by simp);have g:=(I.hok d _ l).1;have Q:=rel.length;have lk:kvs.length=ss.length:=by simpa using congrArg List.length hk
  obtain ⟨⟨k,U⟩,n⟩:∃ p,vs[i]?=some p:=⟨_,List.getElem?_eq_getElem (show i<vs.length by ac_nf)⟩;have u:(vs.map (·.1))[i]?=some k:=by rw [List.getElem?_map,n];rfl
  rw [Jj3 rel,hk,List.getElem?_map,List.getElem?_eq_getElem C] at u;have u:Sum.inr ss[i]=k:=Option.some.inj u;subst u;refine wpAny_pyNext_dict_item a (hd _ g) n fun key x m r S=>?_;obtain ⟨t,rfl⟩:=Jj1 m;have I1:Inv X f σ H { s with heap:=x }:=I.turned (t':=s.toks) (fun b o j e=>(S.2 b j).trans e) L D F G N;obtain ⟨o,e,c,z⟩:=id r;exact ⟨_,rfl,go_of (s:={ s with heap:=x }) e c z ⋯ ⟨.str ss[i],H,I1,⟨t,rfl⟩,⟨rfl,by rw [List.getElem?_map,List.getElem?_eq_getElem C];rfl⟩,r,fun b j=>(y b j).1⟩⟩
 done:=by
  intro X M A J O i f s σ H E I y a B;subst M A J;obtain ⟨l,C⟩:=B;obtain ⟨L,D,T,F,G,N⟩:=y it (by simp);have g:=(I.hok d _ l).1;have Q:=rel.length;have lk:kvs.length=ss.length:=by simpa using congrArg List.length hk
  exact wpAny_pyNext_dict_end (I.ok.hd O) a (hd _ g) (List.getElem?_eq_none ∅) fun x R=>⟨rfl,I.turned (t':=s.toks) (fun b o j e=>R b o j e) L D F G N⟩
 self:=fun _ _ _ _ _ a h=>wpAny_pyIter_keyiter a h
section
variable {X:Cx} {tg:Expr}
def iKeys (td:TE):TI:=fun σ H R=>td σ H fun x H1=>∃ (d:Addr) (kvs:List (Key × V)) (ss:List Str),x=.ref d/\H1 d=some (.dK kvs)/\kvs.map (·.1)=ss.map Sum.inr/\∀ od,R (Itk d od kvs ss) (upd H1 d (.frz od (.dK kvs)))
theorem Jip {o:Expr} {td:TE} (ho:PE X o td):PI X tg o (iKeys td):=by
 intro a s σ H R I h;refine thn (ho a s σ H _ I h) fun v g ζ=>?_;obtain ⟨y,A,I1,r,d,kvs,C,l,e,x,m⟩:=ζ;subst l;obtain rfl:v=Value.ref d:=r;obtain ⟨B,t,vs,i,n⟩:=dk_of I1.hok e;obtain ⟨ep,k⟩:=n.dictAt;obtain ⟨j,u,c,rest⟩:=id k;refine wpAny_pyIter_dict (knd:=JaA X.prog X.w) (d:=d) (kvs:=vs) (ep:=ep) t k ?_;have p:∀ b o,g.heap.get? b=some o->(g.heap.push { cls:=.type "dict_keyiterator",data:=.fields #[.ref d, .int 0 0, .int vs.length 0, .int ep 0] }).get? b=some o:=fun b o z=>Heap.get?_push_of_some _ z;have I2:=(I1.freeze e c).kept (t':=g.toks) p;refine ⟨_,[_],_,_,_,rfl,I2,JiC (vs:=vs) (ep:=ep) i x (fun h q=>⟨j,u,q,rest⟩),⟨_,Heap.get?_push_size _ rfl,rfl,rfl⟩,fun b f=>?_,m j⟩;obtain rfl:=mem_singleton.mp f;exact I1.fpOk (Nat.le_refl _) ((I1.freeze e c).hok.fresh (Nat.le_refl _))
def Jlp (ts:TS):TS:=fun D σ H=>∃ d kvs,H d=some (.dK kvs)/\ts { nx:=fun σ' H'=>∃ od kvs',H' d=some (.frz od (.dK kvs'))/\D.nx σ' (upd H' d (.dK kvs')),rt:=fun _ _=>False } σ H
theorem ps_no {st:Stmt}:PS X st (fun _ _ _=>False):=fun _ _ _ _ _ _ h=>h.elim
def tSumV (td:TE):TE:=fun σ H Q=>td σ H fun x H1=>∃ (d:Addr) (kvs:List (Key × V)) (ns:List Int),x=.ref d/\H1 d=some (.dK kvs)/\kvs.map (·.2)=ns.map V.int/\Q (.int ns.sum) H1
end
section
variable {k:Nat} {cs:List (Nat × Str)} {g:TG} {te tl td:TE} {tt:TT} {σ : St} {H H1:Hp} {Q:VK} {d:Addr} {od:Obj} {kvs:List (Key × V)} {ss:List Str}
theorem y8ay:tSumV td σ H Q=td σ H fun x H1=>∃ (d:Addr) (kvs:List (Key × V)) (ns:List Int),x=.ref d/\H1 d=some (.dK kvs)/\kvs.map (·.2)=ns.map V.int/\Q (.int ns.sum) H1:=rfl
theorem y37y:Jg1 k cs (iKeys td) g tt te σ H Q=td σ H fun x H1=>∃ (d1:Addr) (kvs1:List (Key × V)) (ss:List Str),x=.ref d1/\H1 d1=some (.dK kvs1)/\kvs1.map (·.1)=ss.map Sum.inr/\∀ od,Jdz (Itk d1 od kvs1 ss) k cs g tt te σ Q (upd H1 d1 (.frz od (.dK kvs1))):=rfl
theorem y38y:tThaw (Jg1 k cs (iKeys td) g tt te) σ H Q=∃ d kvs,H d=some (.dK kvs)/\td σ H fun x H1=>∃ (d1:Addr) (kvs1:List (Key × V)) (ss:List Str),x=.ref d1/\H1 d1=some (.dK kvs1)/\kvs1.map (·.1)=ss.map Sum.inr/\∀ od,Jdz (Itk d1 od kvs1 ss) k cs g tt te σ (fun v H'=>∃ od kvs',H' d=some (.frz od (.dK kvs'))/\Q v (upd H' d (.dK kvs'))) (upd H1 d1 (.frz od (.dK kvs1))):=rfl
theorem y8dy {ts:TS} {En:Ends}:Jlp ts En σ H=∃ d kvs,H d=some (.dK kvs)/\ts { nx:=fun σ' H'=>∃ od kvs',H' d=some (.frz od (.dK kvs'))/\En.nx σ' (upd H' d (.dK kvs')),rt:=fun _ _=>False } σ H:=rfl
theorem DGet.f {H:Hp} {a:Addr} {kvs:List (Key × V)} {k:Key} {od:Obj} (e:H a=some (.frz od (.dK kvs))):DGet H a (kV k) (valV kvs k):=.inl ⟨kvs,k, .inr ⟨od,e⟩,rfl,rfl⟩
end
def subF (a c:Int × Int):Int × Int:=(Mth.top (a.1*c.2-c.1*a.2) (a.2*c.2),Mth.bot (a.1*c.2-c.1*a.2) (a.2*c.2))
structure Lo (a:Int × Int):Prop where
 b1:1<=a.2
 g1:Mth.g a.1 a.2=1
theorem FB.lo {A B:Nat} {a:Int × Int} (h:FB A B a):Lo a:=⟨h.b1,h.g1⟩
theorem Lo.inj {a c:Int × Int} (h:Lo a) (k:Lo c) (e:vl a=vl c):a=c:=Jlu h.b1 k.b1 h.g1 k.g1 e
theorem Jh9 {t b:Int} (hb:1<=b):Lo (Mth.top t b,Mth.bot t b):=⟨Mth.Jbk ∅,Mth.g_low ∅⟩
section
variable {a c:Int × Int}
theorem JgU {x y:Int} (hx:1<=x) (hy:1<=y):1<=x*y:=by
 have:=Int.mul_pos (show 0<x by ac_nf) (show 0<y by ac_nf);ac_nf
theorem Jlw (ha:1<=a.2) (hc:1<=c.2):vl (subF a c)=vl a-vl c:=by
 unfold subF;rw [Jlv (JgU ha hc)];have d:=JcH ha;have b:=JcH hc;unfold vl;push_cast;generalize (a.1:Rat)=x at *;generalize (a.2:Rat)=y at *;generalize (c.1:Rat)=z at *;generalize (c.2:Rat)=t at *;grind
theorem Jg5 (k:Int):vl (k,1)=(k:Rat):=by
 unfold vl;have : ((1:Int):Rat)=1:=rfl;grind
theorem Jd9:vl (0,1)=0:=Jg5 0
end
structure LidD where
 nm:Str
 rest:Int × Int
 ws:List (Str × Int)
 load:Int
 last:Int × Int
section
variable {w:Str->Rat} {g:Gp} {lvs:List (Str × (Int × Int))} {e:LidD} {m:Str} {L:Int × Int}
end
section
variable {N:List Str} {w:Str->Rat} {gs:List Gp} {lvs:List (Str × (Int × Int))} {L:Int × Int} {m:Str}
end
section
variable {H H':Hp} {d a:Addr} {od:Obj} {kv kw:List (Key × V)} {k:Key}
end
section
variable {b Q:Int} {N:List Str} {w M:Str->Rat} {gs:List Gp} {ms lvs:List (Str × (Int × Int))} {lds:List LidD} {L:Int × Int} {ns:List Str} {D:Int} {k:Nat}
end
structure ShD where
 nm:Str
 sl:Int × Int
 sp:Option Str
section
variable {ls:List PD} {es:List (GD × List Str)} {pl:Str->Int × Int} {p:PD} {f f':Str->Rat} {rs rs':List ShD}
end
section
variable {ls:List PD} {es:List (GD × List Str)} {pl:Str->Int × Int} {lds:List LidD} {ms lvs:List (Str × (Int × Int))} {b q0:Int}
end
section
variable {ls:List PD} {es:List (GD × List Str)} {pl:Str->Int × Int} {lds:List LidD} {ms lvs:List (Str × (Int × Int))} {b q0:Int}
end
section
variable {a b c d B:TS} {D:Ends} {σ : St} {H:Hp}
end
structure Nxt (R:St->Hp->Prop) (b:TS) (D:Ends):Prop where
 go:∀ {σ : St} {H:Hp},b D σ H->R σ H
theorem Je5 {a b:TS} {D:Ends} {σ : St} {H:Hp} (h:∀ R,Nxt R b D->a { D with nx:=R } σ H):tSeq a b D σ H:=h _ ⟨fun z=>z⟩
structure SpS where
 src:Str
 tgt:Str
 cost:Int × Int
 wh:Int
 nm:Str
 fw:Bool
abbrev SumD:=List (Str × Int)
abbrev LasD:=List (Str × SpS)
section
variable {α : Type}
def lk:List (Str × α)->Str->Option α
 | [],_=>none
 | p::r,f=>if p.1=f then some p.2 else lk r f
def pu (l:List (Str × α)) (f:Str) (a : α):List (Str × α):=if (l.any fun p=>decide (p.1=f))=true then l.map (fun p=>if p.1=f then (p.1,a) else p) else l++[(f,a)]
theorem Jh6 {f g:Str} {a : α} (h:f≠g):∀ l:List (Str × α),lk (l.map fun p=>if p.1=f then (p.1,a) else p) g=lk l g
 | []=>rfl
 | p::r=>by
  rw [map_cons];unfold lk;by_cases c:p.1=f
  ·rw [if_pos c];have : ¬ p.1=g:=fun e=>h (c.symm.trans e);rw [if_neg this,if_neg this];exact Jh6 h r
  ·rw [if_neg c];by_cases d:p.1=g
   ·rw [if_pos d,if_pos d]
   ·rw [if_neg d,if_neg d];exact Jh6 h r
theorem Jh7 {f:Str} {a : α}:∀ l:List (Str × α),(l.any fun p=>decide (p.1=f))=true->lk (l.map fun p=>if p.1=f then (p.1,a) else p) f=some a
 | [],h=>by simp at h
 | p::r,h=>by
  rw [map_cons];unfold lk;by_cases c:p.1=f
  ·rw [if_pos c,if_pos c]
  ·rw [if_neg c,if_neg c];exact Jh7 r (by simpa [c] using h)
theorem Jjw {g:Str} {a : α} {f:Str}:∀ l:List (Str × α),lk (l++[(f,a)]) g=match lk l g with | some b=>some b | none=>if f=g then some a else none
 | []=>rfl
 | p::r=>by
  rw [cons_append];unfold lk;by_cases c:p.1=g
  ·rw [if_pos c,if_pos c]
  ·rw [if_neg c,if_neg c];exact Jjw r
theorem Jh8 {f:Str}:∀ l:List (Str × α), ¬ (l.any fun p=>decide (p.1=f))=true->lk l f=none
 | [],_=>rfl
 | p::r,h=>by
  unfold lk;by_cases c:p.1=f
  ·exact absurd (by simp [c]) h
  ·rw [if_neg c];exact Jh8 r fun z=>h (by rw [any_cons,z,Bool.or_true])
theorem lk_pu {l:List (Str × α)} {f g:Str} {a : α}:lk (pu l f a) g=if f=g then some a else lk l g:=by
 unfold pu;by_cases c:(l.any fun p=>decide (p.1=f))=true
 ·rw [if_pos c];by_cases d:f=g
  ·subst d;rw [if_pos rfl];exact Jh7 l c
  ·rw [if_neg d];exact Jh6 d l
 ·rw [if_neg c,Jjw];by_cases d:f=g
  ·subst d;rw [Jh8 l c,if_pos rfl]
  ·rw [if_neg d];cases lk l g <;> simp [d]
theorem JbW {l:List (Str × α)} {f:Str} {a : α}:lk (pu l f a) f=some a:=by rw [lk_pu,if_pos rfl]
theorem lk_ne {l:List (Str × α)} {f g:Str} {a : α} (h:f≠g):lk (pu l f a) g=lk l g:=by rw [lk_pu,if_neg h]
end
structure BF where
 S:SumD
 P:LasD
 ch:Option Str
def gains (S:SumD) (s:SpS):Option Int :=
 match lk S s.src with
 | none=>none
 | some a=>match lk S s.tgt with
  | none=>some (a+s.wh)
  | some b=>if a+s.wh<b then some (a+s.wh) else none
def rlx (t:BF) (s:SpS):BF :=
 match gains t.S s with
 | none=>t
 | some a=>⟨pu t.S s.tgt a,pu t.P s.tgt s,some s.tgt⟩
def trn (ss:List SpS) (t:BF):BF:=ss.foldl rlx { t with ch:=none }
inductive Wk (ss:List SpS) (f0:Str):List SpS->Str->Prop
 | nil:Wk ss f0 [] f0
 | snoc {l:List SpS} {s:SpS}:Wk ss f0 l s.src->s∈ss->Wk ss f0 (l++[s]) s.tgt
def wgt (l:List SpS):Int:=(l.map (·.wh)).sum
theorem JbV {l:List SpS} {s:SpS}:wgt (l++[s])=wgt l+s.wh:=by simp [wgt]
section
variable {ss:List SpS} {f0:Str} {fs:List Str} {π : Str->Int} {t:BF} {s:SpS}
def Pot (π : Str->Int) (ss:List SpS):Prop:=∀ s∈ss,π s.tgt<=π s.src+s.wh
structure BI (ss:List SpS) (fs:List Str) (π : Str->Int) (S:SumD) (P:LasD):Prop where
 z:∀ f∈fs, ∃ b,lk S f=some b/\b<=0
 p0:∀ v b,lk S v=some b->lk P v=none->v∈fs/\b=0
 st:∀ v s,lk P v=some s->s∈ss/\s.tgt=v/\∃ a b,lk S s.src=some a/\lk S v=some b/\a+s.wh<=b
 wk:∀ v b,lk S v=some b->∃ f∈fs, ∃ l,Wk ss f l v/\wgt l=b
 rk:∃ r:Str->Nat, ∀ v s,lk P v=some s->r s.src<r v
inductive Dsc (P:LasD) (v:Str):Str->Prop
 | refl:Dsc P v v
 | step {x:Str} {s:SpS}:lk P x=some s->Dsc P v s.src->Dsc P v x
theorem Dsc.mono {S:SumD} {P:LasD} (hp:Pot π ss) (h:BI ss fs π S P) {v x:Str} (d:Dsc P v x):∀ a b,lk S v=some a->lk S x=some b->a-π v<=b-π x:=by
 induction d with
 | refl=>intro a b g f;rw [g] at f;cases f;ac_nf
 | step g _ ih=>
  intro a b k i;obtain ⟨m,e,c,d,f,j,l⟩:=h.st _ _ g;rw [j] at i;cases i;have:=ih a c k f;have:=hp _ m;rw [e] at this;ac_nf
theorem JcB {S:SumD} {c:Int} (h:gains S s=some c):∃ a,lk S s.src=some a/\c=a+s.wh/\∀ b,lk S s.tgt=some b->c<b:=by
 unfold gains at h;cases e:lk S s.src with
 | none=>rw [e] at h;cases h
 | some a=>
  rw [e] at h;refine ⟨a,rfl,?_⟩;cases e2:lk S s.tgt with
  | none=>rw [e2] at h;cases h;exact ⟨rfl,fun b d=>by cases d⟩
  | some b=>
   rw [e2] at h;dsimp only at h;split at h
   ·cases h;rename_i c;exact ⟨rfl,fun f d=>by cases d;exact c⟩
   ·cases h
theorem Jc7 {S:SumD} (h:gains S s=none):∀ a,lk S s.src=some a->∃ b,lk S s.tgt=some b/\b<=a+s.wh:=by
 intro a d;unfold gains at h;rw [d] at h;cases e2:lk S s.tgt with
 | none=>rw [e2] at h;cases h
 | some b=>
  rw [e2] at h;dsimp only at h;split at h
  ·cases h
  ·rename_i c;exact ⟨b,rfl,by ac_nf⟩
theorem BI.put {S:SumD} {P:LasD} (hp:Pot π ss) (h:BI ss fs π S P) (hs:s∈ss) {c:Int} (hg:gains S s=some c):BI ss fs π (pu S s.tgt c) (pu P s.tgt s):=by
 obtain ⟨a,p,G,o⟩:=JcB hg;have D:=hp s hs;have B:¬ Dsc P s.tgt s.src:=fun d=>by
  cases e:lk S s.tgt with
  | none=>
   have : ∀ x,Dsc P s.tgt x->lk S x=none:=fun x K=>by
    induction K with
    | refl=>exact e
    | step i _ ih=>
     obtain ⟨_,_,c,d,j,_⟩:=h.st _ _ i;rw [ih] at j;cases j
   rw [this _ d] at p;cases p
  | some b=>
   have i:=d.mono hp h b a e p;have j:=o b e;ac_nf
 have I:s.src≠s.tgt:=fun e=>B (by rw [e];exact .refl);have n:∀ v b,lk S v=some b->∃ k,lk (pu S s.tgt c) v=some k/\k<=b:=fun v b A=>by
  by_cases e:s.tgt=v
  ·subst e;exact ⟨c,JbW,Int.le_of_lt (o b A)⟩
  ·exact ⟨b,by rw [lk_ne e];exact A,Int.le_refl _⟩
 refine ⟨fun f w=>?_,fun v b g t=>?_,fun v q g=>?_,fun v b g=>?_,?_⟩
 ·obtain ⟨b,i,j⟩:=h.z f w;obtain ⟨k,C,y⟩:=n f b i;exact ⟨k,C,by ac_nf⟩
 ·by_cases e:s.tgt=v
  ·subst e;rw [JbW] at t;cases t
  ·rw [lk_ne e] at g t;exact h.p0 v b g t
 ·by_cases e:s.tgt=v
  ·subst e;rw [JbW] at g;cases g;exact ⟨hs,rfl,a,c,by rw [lk_ne (Ne.symm I)];exact p,JbW,by ac_nf⟩
  ·rw [lk_ne e] at g;obtain ⟨m,J,L,k,i,j,C⟩:=h.st v q g;obtain ⟨u,y,M⟩:=n _ _ i;exact ⟨m,J,u,k,y,by rw [lk_ne e];exact j,by ac_nf⟩
 ·by_cases e:s.tgt=v
  ·subst e;rw [JbW] at g;cases g;obtain ⟨f,w,l,E,F⟩:=h.wk _ _ p;exact ⟨f,w,l++[s], .snoc E hs,by rw [JbV,F,G]⟩
  ·rw [lk_ne e] at g;exact h.wk v b g
 ·obtain ⟨r,H⟩:=h.rk;refine ⟨fun x=>open Classical in if Dsc P s.tgt x then r x+r s.src+1 else r x,fun v q g=>?_⟩;dsimp only;by_cases e:s.tgt=v
  ·subst e;rw [JbW] at g;cases g;rw [if_neg B,if_pos .refl];ac_nf
  ·rw [lk_ne e] at g;have:=H v q g;by_cases d:Dsc P s.tgt q.src
   ·rw [if_pos d,if_pos (.step g d)];ac_nf
   ·rw [if_neg d];split
    ·ac_nf
    ·exact this
end
section
variable {ss:List SpS} {f0:Str} {fs:List Str} {π : Str->Int} {t:BF} {s:SpS}
theorem BI.rlx (hp:Pot π ss) (h:BI ss fs π t.S t.P) (hs:s∈ss):BI ss fs π (L2.rlx t s).S (L2.rlx t s).P:=by
 unfold L2.rlx;cases e:gains t.S s with
 | none=>exact h
 | some c=>exact h.put hp hs e
theorem BI.fold (hp:Pot π ss):∀ (l:List SpS) (t:BF),BI ss fs π t.S t.P->(∀ s∈l,s∈ss)->BI ss fs π (l.foldl L2.rlx t).S (l.foldl L2.rlx t).P
 | [],_,h,_=>h
 | s::l,t,h,hs=>by
  rw [foldl_cons];exact BI.fold hp l _ (h.rlx hp (hs s (by simp))) fun x hx=>hs x (by simp [hx])
def LeS (S S':SumD):Prop:=∀ v b,lk S v=some b->∃ b',lk S' v=some b'/\b'<=b
theorem LeS.refl {S:SumD}:LeS S S:=fun v b h=>⟨b,h,Int.le_refl _⟩
theorem LeS.trans {S S' S'':SumD} (h:LeS S S') (k:LeS S' S''):LeS S S'':=fun v b e=>by
 obtain ⟨c,f,g⟩:=h v b e;obtain ⟨d,a,i⟩:=k v c f;exact ⟨d,a,by ac_nf⟩
theorem LeS.rlx:LeS t.S (L2.rlx t s).S:=by
 unfold L2.rlx;cases e:gains t.S s with
 | none=>exact LeS.refl
 | some c=>
  obtain ⟨a,_,_,d⟩:=JcB e;intro v b f;by_cases q:s.tgt=v
  ·subst q;exact ⟨c,JbW,Int.le_of_lt (d b f)⟩
  ·exact ⟨b,by show lk (pu t.S s.tgt c) v=_;rw [lk_ne q];exact f,Int.le_refl _⟩
theorem LeS.fold:∀ (l:List SpS) (t:BF),LeS t.S (l.foldl L2.rlx t).S
 | [],_=>LeS.refl
 | s::l,t=>by
  rw [foldl_cons];exact LeS.rlx.trans (LeS.fold l _)
theorem Jkp {a:Int} (h:lk t.S s.src=some a):∃ b,lk (rlx t s).S s.tgt=some b/\b<=a+s.wh:=by
 unfold rlx;cases e:gains t.S s with
 | none=>exact Jc7 e a h
 | some c=>
  obtain ⟨g,d,f,_⟩:=JcB e;rw [h] at d;cases d;exact ⟨c,JbW,by ac_nf⟩
theorem JgM:∀ (l:List SpS) (t:BF) (s:SpS) (a:Int),s∈l->lk t.S s.src=some a->∃ b,lk (l.foldl rlx t).S s.tgt=some b/\b<=a+s.wh
 | [],_,_,_,h,_=>by cases h
 | x::l,t,s,a,h,ha=>by
  rw [foldl_cons];rcases mem_cons.mp h with e | h
  ·subst e;obtain ⟨b,h1,h2⟩:=Jkp ha;obtain ⟨c,h3,h4⟩:=LeS.fold l _ _ _ h1;exact ⟨c,h3,by ac_nf⟩
  ·obtain ⟨a',h1,h2⟩:=LeS.rlx (s:=x) _ _ ha;obtain ⟨b,h3,h4⟩:=JgM l _ s a' h h1;exact ⟨b,h3,by ac_nf⟩
def itr (ss:List SpS):Nat->BF->BF
 | 0,t=>t
 | n+1,t=>trn ss (itr ss n t)
def bf0 (fs:List Str):BF:=⟨fs.foldl (fun S f=>pu S f 0) [],[],none⟩
theorem Jjk:∀ (fs:List Str) (S:SumD) (v:Str) (b:Int),lk (fs.foldl (fun S f=>pu S f 0) S) v=some b↔(v∈fs/\b=0)\/(v∉fs/\lk S v=some b)
 | [],S,v,b=>by simp
 | f::fs,S,v,b=>by
  rw [foldl_cons,Jjk fs (pu S f 0) v b,lk_pu];by_cases c:v∈fs
  ·simp [c]
  ·by_cases d:f=v
   ·subst d;simp [c];exact eq_comm
   ·have d':v≠f:=fun e=>d e.symm;simp [c,d,d']
theorem JgC {fs:List Str} {v:Str} {b:Int}:lk (bf0 fs).S v=some b↔v∈fs/\b=0:=by
 unfold bf0;rw [Jjk fs [] v b];simp [lk]
theorem BI.start:BI ss fs π (bf0 fs).S (bf0 fs).P where
 z:=fun f a=>⟨0,JgC.mpr ⟨a,rfl⟩,Int.le_refl _⟩
 p0:=fun v b h _=>JgC.mp h
 st:=fun v s h=>by cases h
 wk:=fun v b h=>by
  obtain ⟨d,c⟩:=JgC.mp h;exact ⟨v,d,[], .nil,c.symm⟩
 rk:=⟨fun _=>0,fun v s h=>by cases h⟩
theorem BI.itr (hp:Pot π ss):∀ n,BI ss fs π (L2.itr ss n (bf0 fs)).S (L2.itr ss n (bf0 fs)).P
 | 0=>BI.start
 | n+1=>BI.fold hp ss _ (BI.itr hp n) fun _ h=>h
theorem JkN (hf:f0∈fs):∀ (i:Nat) (l:List SpS) (v:Str),Wk ss f0 l v->l.length<=i->∃ b,lk (itr ss i (bf0 fs)).S v=some b/\b<=wgt l:=by
 intro i;induction i with
 | zero=>
  intro l v h a;cases h with
  | nil=>exact ⟨0,JgC.mpr ⟨hf,rfl⟩,Int.le_refl _⟩
  | snoc _ _=>simp at a
 | succ i ih=>
  intro l v h a;cases h with
  | nil=>
   obtain ⟨b,e,f⟩:=ih [] f0 .nil (by simp);obtain ⟨c,d,g⟩:=LeS.fold ss { itr ss i (bf0 fs) with ch:=none } _ _ e;exact ⟨c,d,by ac_nf⟩
  | @snoc l s h hs=>
   obtain ⟨b,e,f⟩:=ih l _ h (by simpa using a);obtain ⟨c,d,g⟩:=JgM ss { itr ss i (bf0 fs) with ch:=none } s b hs e;exact ⟨c,d,by rw [JbV];ac_nf⟩
theorem Wk.cut (hp:Pot π ss) {l:List SpS} {u:Str} (h:Wk ss f0 l u):∀ x,x∈f0::l.map (·.tgt)->(f0::l.map (·.tgt)).Nodup->∃ p,Wk ss f0 p x/\wgt p+(π u-π x)<=wgt l/\(f0::p.map (·.tgt)).Nodup:=by
 induction h with
 | nil=>
  intro x a b;have : x=f0:=by simpa using a
  subst this;exact ⟨[], .nil,by ac_nf,b⟩
 | @snoc l s h hs ih=>
  intro x a b;by_cases e:x=s.tgt
  ·subst e;exact ⟨l++[s], .snoc h hs,by ac_nf,b⟩
  ·have d:x∈f0::l.map (·.tgt):=by
    rw [map_append, <- cons_append] at a;rcases mem_append.mp a with a | a
    ·exact a
    ·exact absurd (by simpa using a) e
   have c:(f0::l.map (·.tgt)).Nodup:=by
    rw [map_append, <- cons_append] at b;exact (nodup_append.mp b).1
   obtain ⟨p,g,i,f⟩:=ih x d c;have:=hp s hs;exact ⟨p,g,by rw [JbV];ac_nf,f⟩
theorem Wk.simple (hp:Pot π ss) {l:List SpS} {v:Str} (h:Wk ss f0 l v):∃ p,Wk ss f0 p v/\wgt p<=wgt l/\(f0::p.map (·.tgt)).Nodup:=by
 induction h with
 | nil=>exact ⟨[], .nil,Int.le_refl _,by simp⟩
 | @snoc l s h hs ih=>
  obtain ⟨p,f,n,d⟩:=ih;have:=hp s hs;by_cases c:s.tgt∈f0::p.map (·.tgt)
  ·obtain ⟨q,k,m,i⟩:=f.cut hp _ c d;exact ⟨q,k,by rw [JbV];ac_nf,i⟩
  ·refine ⟨p++[s], .snoc f hs,by rw [JbV,JbV];ac_nf,?_⟩;rw [map_append, <- cons_append];exact nodup_append.mpr ⟨d,by simp,fun a g b j e=>c (by
    have q:b=s.tgt:=by simpa using j
    rw [<- q, <- e];exact g)⟩
theorem Wk.mem {l:List SpS} {v:Str} (h:Wk ss f0 l v):∀ s∈l,s∈ss:=by
 induction h with
 | nil=>intro s h;cases h
 | snoc _ hs ih=>
  intro x a;rcases mem_append.mp a with a | a
  ·exact ih x a
  ·rw [mem_singleton.mp a];exact hs
theorem Wk.len {l:List SpS} {v:Str} (h:Wk ss f0 l v) (hn:(f0::l.map (·.tgt)).Nodup):l.length<=ss.length:=by
 have:=sub_len (l.map (·.tgt)) (ss.map (·.tgt)) (nodup_cons.mp hn).2 fun x b=>by
  obtain ⟨s,a,rfl⟩:=mem_map.mp b;exact mem_map.mpr ⟨s,h.mem s a,rfl⟩
 simpa using this
theorem JiS (hp:Pot π ss):∀ s∈ss,gains (itr ss ss.length (bf0 fs)).S s=none:=fun s o=>by
 cases e:gains (itr ss ss.length (bf0 fs)).S s with
 | none=>rfl
 | some c=>
  obtain ⟨a,m,q,d⟩:=JcB e;obtain ⟨f,h,l,j,r⟩:=(BI.itr hp ss.length (fs:=fs)).wk _ _ m;obtain ⟨p,g,i,k⟩:=(Wk.snoc j o).simple hp;obtain ⟨b,n,t⟩:=JkN h _ p _ g (g.len k);have:=d b n;rw [JbV] at i;ac_nf
theorem JhS:∀ (l:List SpS) (t:BF),(l.foldl rlx t).ch=none->l.foldl rlx t=t/\∀ s∈l,gains t.S s=none
 | [],t,_=>⟨rfl,fun s h=>by cases h⟩
 | x::l,t,h=>by
  rw [foldl_cons] at h ⊢;obtain ⟨h1,h2⟩:=JhS l _ h;rw [h1] at h;cases e:gains t.S x with
  | none=>
   have ex:rlx t x=t:=by unfold rlx;rw [e]
   rw [ex] at h1 h2 ⊢;refine ⟨h1,fun s hs=>?_⟩;rcases mem_cons.mp hs with q | hs
   ·subst q;exact e
   ·exact h2 s hs
  | some c=>
   unfold rlx at h;rw [e] at h;cases h
theorem JhT:∀ (l:List SpS) (t:BF),(∀ s∈l,gains t.S s=none)->l.foldl rlx t=t
 | [],_,_=>rfl
 | x::l,t,h=>by
  have ex:rlx t x=t:=by unfold rlx;rw [h x (by simp)]
  rw [foldl_cons,ex];exact JhT l t fun s hs=>h s (by simp [hs])
def bfR (ss:List SpS):Nat->BF->BF
 | 0,t=>t
 | n+1,t=>if (trn ss t).ch=none then trn ss t else bfR ss n (trn ss t)
structure BE (ss:List SpS) (fs:List Str) (P:LasD):Prop where
 ex:∃ S:SumD, ∃ r:Str->Nat,(∀ f∈fs, ∃ b,lk S f=some b)/\(∀ v b,lk S v=some b->lk P v=none->v∈fs/\b=0)/\(∀ v s,lk P v=some s->s∈ss/\s.tgt=v/\r s.src<r v/\∃ a,lk S s.src=some a/\lk S v=some (a+s.wh))/\∀ s∈ss, ∀ a,lk S s.src=some a->∃ b,lk S s.tgt=some b/\b<=a+s.wh
theorem BE.of {n:Nat} (hp:Pot π ss) (h:(itr ss (n+1) (bf0 fs)).ch=none):BE ss fs (itr ss (n+1) (bf0 fs)).P:=by
 have b:=BI.itr hp n (fs:=fs);obtain ⟨o,k⟩:=JhS ss { itr ss n (bf0 fs) with ch:=none } h;have e:itr ss (n+1) (bf0 fs)={ itr ss n (bf0 fs) with ch:=none }:=o;rw [e];generalize itr ss n (bf0 fs)=t at *;obtain ⟨r,p⟩:=b.rk;refine ⟨t.S,r,fun f u=>⟨_,(b.z f u).choose_spec.1⟩,b.p0,fun v s j=>?_,fun s x a w=>Jc7 (k s x) a w⟩;obtain ⟨m,q,a,c,i,g,A⟩:=b.st v s j;obtain ⟨d,l,y⟩:=Jc7 (k s m) a i;rw [q,g] at l;cases l;exact ⟨m,q,p v s j,a,i,by rw [g];congr 1;ac_nf⟩
end
theorem JjQ {b n:Int} (h:1<=n):n∣b*n.fdiv (Mth.g b n):=by
 have i:=Mth.g_pos (a:=b) (b:=n) ∅;obtain ⟨c,d⟩:=Mth.JdL b n;have e:=Mth.Jbe (Mth.JcU b n) (by ac_nf:Mth.g b n≠0);refine ⟨c,?_⟩;generalize hg:Mth.g b n=g at *;generalize n.fdiv g=f at *;rw [d, <- e];rw [Int.mul_right_comm,Int.mul_comm g f]
theorem Jhv {ts:List TD}:∀ i,(Ch.all (ts.take i)).length<=2*i:=fun i=>by
 induction i with
 | zero=>simp [Ch.all]
 | succ i ih=>
  rw [take_succ];cases ts[i]? with
  | none=>simp;ac_nf
  | some t=>
   have : (Ch.steps t).length<=2:=by unfold Ch.steps fwd bwd;cases t.hi <;> cases t.lo <;> simp
   simp only [Ch.all,List.flatMap_append,Option.toList_some,List.flatMap_cons,List.flatMap_nil,append_nil,length_append] at ih ⊢;ac_nf
section
variable {α : Type} {R R' : α->V->Prop}
def DV (R : α->V->Prop):List (Str × α)->List (Key × V)->Prop
 | [],kv=>kv=[]
 | p::P,kv=>∃ v r,kv=(Sum.inr p.1,v)::r/\R p.2 v/\DV R P r
theorem DV.len:∀ {P:List (Str × α)} {kv:List (Key × V)},DV R P kv->kv.length=P.length
 | [],_,h=>by rw [h];rfl
 | p::P,_,⟨v,r,e,_,h⟩=>by rw [e,length_cons,length_cons,h.len]
theorem DV.keys:∀ {P:List (Str × α)} {kv:List (Key × V)},DV R P kv->kv.map (·.1)=(P.map (·.1)).map Sum.inr
 | [],_,h=>by rw [h];rfl
 | p::P,_,⟨v,r,e,_,h⟩=>by rw [e,map_cons,map_cons,map_cons,h.keys]
theorem DV.mono (m:∀ a v,R a v->R' a v):∀ {P:List (Str × α)} {kv:List (Key × V)},DV R P kv->DV R' P kv
 | [],_,h=>h
 | p::P,_,⟨v,r,e,h1,h⟩=>⟨v,r,e,m _ _ h1,h.mono m⟩
theorem DV.no {z:Str}:∀ {P:List (Str × α)} {kv:List (Key × V)},DV R P kv->lk P z=none->valV kv (Sum.inr z)=none
 | [],_,h,_=>by rw [h];rfl
 | p::P,_,⟨v,r,e,_,h⟩,n=>by
  unfold lk at n;by_cases c:p.1=z
  ·rw [if_pos c] at n;cases n
  ·rw [if_neg c] at n;rw [e,Jc1 (by simpa using c)];exact h.no n
theorem DV.at {z:Str} {a : α}:∀ {P:List (Str × α)} {kv:List (Key × V)},DV R P kv->lk P z=some a->∃ v,valV kv (Sum.inr z)=some v/\R a v
 | [],_,_,n=>by cases n
 | p::P,_,⟨v,r,e,h1,h⟩,n=>by
  unfold lk at n;by_cases c:p.1=z
  ·rw [if_pos c] at n;cases n;exact ⟨v,by rw [e];exact Jc2 (by simpa using c),h1⟩
  ·rw [if_neg c] at n;rw [e,Jc1 (by simpa using c)];exact h.at n
theorem DV.any {f:Str}:∀ {P:List (Str × α)} {kv:List (Key × V)},DV R P kv->(kv.any fun q=>decide (q.1=Sum.inr f))=(P.any fun p=>decide (p.1=f))
 | [],_,h=>by rw [h];rfl
 | p::P,_,⟨v,r,e,_,h⟩=>by
  rw [e,any_cons,any_cons,h.any]
  congr 1
  simp
theorem DV.map {f:Str} {a : α} {v:V} (ra:R a v):∀ {P:List (Str × α)} {kv:List (Key × V)},DV R P kv->DV R (P.map fun p=>if p.1=f then (p.1,a) else p) (kv.map fun q=>if q.1=Sum.inr f then (q.1,v) else q)
 | [],_,h=>by rw [h];exact rfl
 | p::P,_,⟨w,r,e,h1,h⟩=>by
  rw [e,map_cons,map_cons];by_cases c:p.1=f
  ·rw [if_pos c,if_pos (by simpa using c)];exact ⟨v,_,rfl,ra,h.map ra⟩
  ·rw [if_neg c,if_neg (by simpa using c)];exact ⟨w,_,rfl,h1,h.map ra⟩
theorem DV.app {f:Str} {a : α} {v:V} (ra:R a v):∀ {P:List (Str × α)} {kv:List (Key × V)},DV R P kv->DV R (P++[(f,a)]) (kv++[(Sum.inr f,v)])
 | [],_,h=>by rw [h];exact ⟨v,[],rfl,ra,rfl⟩
 | p::P,_,⟨w,r,e,h1,h⟩=>by
  rw [e];exact ⟨w,_,rfl,h1,h.app ra⟩
theorem DV.put {f:Str} {a : α} {v:V} {P:List (Str × α)} {kv:List (Key × V)} (h:DV R P kv) (ra:R a v):DV R (pu P f a) (putK kv (Sum.inr f) v):=by
 unfold pu putK;rw [h.any];split
 ·exact h.map ra
 ·exact h.app ra
end
theorem JdR {α : Type} {z:Str}:∀ {P:List (Str × α)},z∈P.map (·.1)->∃ a,lk P z=some a
 | [],h=>by cases h
 | p::P,h=>by
  unfold lk;by_cases c:p.1=z
  ·exact ⟨_,if_pos c⟩
  ·rw [if_neg c];refine JdR ?_;rcases mem_cons.mp h with e | h
   ·exact absurd e.symm c
   ·exact h
theorem JdZ {α : Type} {l:List (Str × α)} {f:Str} {a : α}:(pu l f a).length<=l.length+1:=by
 unfold pu;split <;> simp
inductive Chn (P:LasD):Str->List SpS->Prop
 | nil {v:Str}:lk P v=none->Chn P v []
 | snoc {v:Str} {s:SpS} {l:List SpS}:lk P v=some s->Chn P s.src l->Chn P v (l++[s])
section
variable {ss:List SpS} {fs:List Str} {P:LasD}
theorem Chn.uniq {v:Str} {l:List SpS} (h:Chn P v l):∀ {k:List SpS},Chn P v k->l=k:=by
 induction h with
 | nil h0=>
  intro k a;cases a with
  | nil _=>rfl
  | snoc h _=>rw [h0] at h;cases h
 | snoc h _ ih=>
  intro k a;cases a with
  | nil h0=>rw [h] at h0;cases h0
  | snoc h' hk'=>
   rw [h] at h';cases h';rw [ih hk']
theorem BE.chain (h:BE ss fs P):∃ S:SumD,(∀ v,(∃ b,lk S v=some b)↔(v∈fs\/∃ s,lk P v=some s))/\(∀ v b,lk S v=some b->∃ l,Chn P v l/\wgt l=b/\∃ f∈fs,lk P f=none/\Wk ss f l v/\(f::l.map (·.tgt)).Nodup)/\∀ s∈ss, ∀ a,lk S s.src=some a->∃ b,lk S s.tgt=some b/\b<=a+s.wh:=by
 obtain ⟨S,r,C,o,w,F⟩:=h.ex;have key:∀ n v b,r v<=n->lk S v=some b->∃ l,Chn P v l/\wgt l=b/\∃ f∈fs,lk P f=none/\Wk ss f l v/\(f::l.map (·.tgt)).Nodup/\∀ x∈f::l.map (·.tgt),x=v\/r x<r v:=by
  intro n;induction n with
  | zero=>
   intro v b E g;cases e:lk P v with
   | none=>
    obtain ⟨i,d⟩:=o v b g e;exact ⟨[], .nil e,d.symm,v,i,e, .nil,by simp,fun x c=>.inl (by simpa using c)⟩
   | some s=>
    have:=(w v s e).2.2.1;ac_nf
  | succ n ih=>
   intro v b E g;cases e:lk P v with
   | none=>
    obtain ⟨i,d⟩:=o v b g e;exact ⟨[], .nil e,d.symm,v,i,e, .nil,by simp,fun x c=>.inl (by simpa using c)⟩
   | some s=>
    obtain ⟨m,q,G,a,i,d⟩:=w v s e;rw [g] at d;cases d;obtain ⟨l,j,A,f,k,p,u,t,H⟩:=ih s.src a ∅ i;subst q;have B:∀ x∈f::l.map (·.tgt),r x<r s.tgt:=fun x c=>by
     rcases H x c with z | z
     ·rw [z];exact G
     ·ac_nf
    refine ⟨l++[s], .snoc e j,by rw [JbV,A],f,k,p, .snoc u m,?_,fun x c=>?_⟩
    ·rw [map_append, <- cons_append];refine nodup_append.mpr ⟨t,by simp,fun x c y I z=>?_⟩;have q:y=s.tgt:=by simpa using I
     have:=B x c;rw [z,q] at this;ac_nf
    ·rw [map_append, <- cons_append] at c;rcases mem_append.mp c with c | c
     ·exact .inr (B x c)
     ·exact .inl (by simpa using c)
 refine ⟨S,fun v=>⟨fun ⟨b,g⟩=>?_,fun D=>?_⟩,fun v b g=>?_,F⟩
 ·cases e:lk P v with
  | none=>exact .inl (o v b g e).1
  | some s=>exact .inr ⟨s,rfl⟩
 ·rcases D with e | ⟨s,e⟩
  ·exact C v e
  ·obtain ⟨_,_,_,a,_,d⟩:=w v s e;exact ⟨_,d⟩
 ·obtain ⟨l,j,A,f,k,p,u,t,_⟩:=key (r v) v b (Nat.le_refl _) g;exact ⟨l,j,A,f,k,p,u,t⟩
end
theorem Jit {ss:List SpS} {x:Str->Rat} (h:∀ s∈ss,x s.tgt<=x s.src+(s.wh:Rat)):Pot (fun f=>(x f).floor) ss:=fun s b=>by
 have a:=Rat.floor_monotone (h s b);rw [Rat.floor_add_intCast] at a;exact a
def Lnk (P:LasD):Str->List SpS->Prop
 | _,[]=>True
 | z,s::r=>s.src=z/\lk P s.tgt=some s/\Lnk P s.tgt r
def lnkE:Str->List SpS->Str
 | z,[]=>z
 | _,s::r=>lnkE s.tgt r
theorem Lnk.add {P:LasD} {z:Str} {l:List SpS} {s:SpS} (h:Lnk P z l) (hs:lk P z=some s) (ht:s.tgt=z):Lnk P s.src (s::l):=⟨rfl,by rw [ht];exact hs,by rw [ht];exact h⟩
theorem JiW {z:Str} {l:List SpS} {s:SpS} (ht:s.tgt=z):lnkE s.src (s::l)=lnkE z l:=by
 show lnkE s.tgt l=_;rw [ht]
def Itb (K:W.Frag) (a:Addr) (n:Nat):It :=
 ⟨fun i H=>i<n/\∃ xs x,SqL K H a xs/\xs[n-1-i]?=some x,fun i H x H'=>H'=H/\∀ xs,SqL K H a xs->xs[n-1-i]?=some x,fun i _=>i=n⟩
theorem Jjh {P:Program} {w:World} {K:W.Frag} {tg:Expr} (a it:Addr) (n:Nat):Turn P w K tg (Itb K a n) [it] it (fun i h=>h.IsRevIter it a ((n:Int)-1-(i:Int))) where
 mem:=by simp
 obj:=fun i h f b j=>by
  have e:b=it:=by simpa using j
  subst e;obtain ⟨o,e,c,d⟩:=f;exact ⟨o,e,fun v z=>by rw [d] at z;cases z⟩
 keep:=fun i h q f k=>f.at fun o e=>k it (by simp) o e
 item:=by
  intro X F t C J i g s σ H E I r f m;subst F t C;obtain ⟨li,xs,x,L,M⟩:=m;obtain ⟨O,N,p,hz⟩:=I.list L;obtain ⟨u,U,V⟩:=N.get M;obtain ⟨D,y,T,A,B,G⟩:=r it (by simp);have Y:(n:Int)-1-(i:Int)=((n-1-i:Nat):Int):=by ac_nf
  rw [Y] at f;refine wpAny_pyNext_rev_item f p.isList (x:=u) (by simpa using U) fun q l R=>?_;have I1:Inv X g σ H { s with heap:=q }:=I.turned (t':=s.toks) (fun b o j e=>(R.2 b j).trans e) D y A B G;have S:((n-1-i:Nat):Int)-1=(n:Int)-1-((i+1:Nat):Int):=by ac_nf
  rw [S] at l;obtain ⟨o,e,c,d⟩:=id l;exact ⟨u,rfl,go_of (s:={ s with heap:=q }) e c d ⋯ ⟨x,H,I1,V,⟨rfl,fun ys Z=>by rw [I.list_inj Z L];exact M⟩,l,fun b j=>(r b j).1⟩⟩
 done:=by
  intro X F t C J i g s σ H E I r f m;subst F t C;have m:i=n:=m;subst m;obtain ⟨D,y,T,A,B,G⟩:=r it (by simp);have e:(i:Int)-1-(i:Int) = -1:=by ac_nf
  rw [e] at f;exact wpAny_pyNext_rev_end (I.ok.hd J) f fun q Q=>⟨rfl,I.turned (t':=s.toks) (fun b o j e=>Q b o j e) D y A B G⟩
 self:=fun _ _ _ _ _ f h=>wpAny_pyIter_revIter f h
def iRevL (K:W.Frag) (tl:TE):TI:=fun σ H R=>tl σ H fun x H1=>∃ a xs,x=.ref a/\SqL K H1 a xs/\R (Itb K a xs.length) H1
section
variable {X:Cx} {tg:Expr}
theorem Jkl {e:Expr} {t:TE} {p2 pos2:Pos} {y:Str} (hy:y="reversed") (hg2:Gl X y) (hm2:X.mg y=none) (hv2:bootBuiltins y=some (.type "reversed")) (ha:PE X e t) (he:starEach [e] X.env=(false,eval e X.env)::starEach [] X.env:=by rfl) :
  PI X tg (.Call (.Name y p2) [e] [] pos2) (iRevL X.K t):=by
 intro c s σ H R I h;have l:y≠"__name__":=by rw [hy];decide
 have m:(y == ("__debug__" : Str))=false:=by rw [hy];decide
 refine wpAny_Call_Name_kw (Jdj I hg2 hm2 hv2 ?_ l m);refine PyProof.Rows.callWith_type1 ?_ he rfl;rw [he];show wpAny _ _ (spliced ((false,eval e X.env)::backTo pos2 (starEach [] X.env))) _ _ s;refine Calls.spliced_cons (thn (ha c s σ H _ I h) fun u d ⟨x,i,I1,r,q⟩=>Calls.spliced_nil ?_);obtain ⟨a,g,rfl,k,q⟩:=q;obtain rfl:u=Value.ref a:=r;obtain ⟨f,v,p,w⟩:=I1.list k;refine call_reversed_list p.isList ?_;refine wpAny_pyIter_revIter ⟨_,Heap.get?_push_size _ rfl,rfl,rfl⟩ ?_;have z:=v.length;refine ⟨d.heap.objs.size,[d.heap.objs.size],_,_,i,rfl,I1.kept (t':=d.toks) fun b o e=>Heap.get?_push_of_some _ e,Jjh a _ g.length,?_,fun b n=>?_,q⟩
 ·refine ⟨_,Heap.get?_push_size _ rfl,rfl,?_⟩;unfold revObj;have j:((f.toArray.size:Nat):Int)-1=(g.length:Int)-1-((0:Nat):Int):=by
   rw [size_toArray];ac_nf
  rw [j]
 ·have e:b=d.heap.objs.size:=by simpa using n
  subst e;exact I1.fpOk (Nat.le_refl _) (I1.hok.fresh (Nat.le_refl _))
end
theorem Ji5 {X:Cx} {K:W.Frag} {tg:Expr} (hK:X.K=K) {e:Expr} {t:TE} {p2 pos2:Pos} {y:Str} (hy:y="reversed") (hg2:Gl X y) (hm2:X.mg y=none) (hv2:bootBuiltins y=some (.type "reversed")) (ha:PE X e t) (he:starEach [e] X.env=(false,eval e X.env)::starEach [] X.env:=by rfl) :
  PI X tg (.Call (.Name y p2) [e] [] pos2) (iRevL K t):=hK ▸ Jkl hy hg2 hm2 hv2 ha he
section
variable {K:W.Frag} {tl td:TE} {g:TG} {tb:TS} {D:Ends} {σ : St} {H:Hp}
theorem y52y:tFor (iRevL K tl) g tb D σ H=tl σ H fun x H1=>∃ a xs,x=.ref a/\SqL K H1 a xs/\ForJ (Itb K a xs.length) g tb D σ H1:=rfl
theorem y53y:tFor (iKeys td) g tb D σ H=td σ H fun x H1=>∃ (d:Addr) (kvs:List (Key × V)) (ss:List Str),x=.ref d/\H1 d=some (.dK kvs)/\kvs.map (·.1)=ss.map Sum.inr/\∀ od,ForJ (Itk d od kvs ss) g tb D σ (upd H1 d (.frz od (.dK kvs))):=rfl
theorem ForJ.rev {a:Addr} {xs:List V} (Pv:Nat->St->Hp->Prop) (h0:Pv 0 σ H) (hl:∀ i σ H',Pv i σ H'->SqL K H' a xs)
  (hs:∀ i x σ H,i<xs.length->xs[xs.length-1-i]?=some x->Pv i σ H->∀ N:St->Hp->Prop,(∀ σ' H',Pv (i+1) σ' H'->N σ' H')->g x σ H fun σ2 H2=>tb { D with nx:=N,ct:=N,bk:=D.nx } σ2 H2) (hd:∀ σ H,Pv xs.length σ H->D.nx σ H):ForJ (Itb K a xs.length) g tb D σ H:=by
 refine ⟨fun i m σ H=>m=xs.length-i/\i<=xs.length/\Pv i σ H,⟨xs.length,by simp,Nat.zero_le _,h0⟩,?_⟩;rintro i m σ H ⟨rfl,f,p⟩;by_cases b:i<xs.length
 ·have c:=List.getElem?_eq_getElem (by ac_nf:xs.length-1-i<xs.length);refine .inr ⟨⟨b,xs,_,hl i σ H p,c⟩,Pv (i+1),fun σ' H' d=>⟨xs.length-(i+1),by ac_nf,rfl,b,d⟩,fun x H' y=>?_⟩;obtain ⟨e,y⟩:=y;subst e;exact hs i x σ _ b (y xs (hl i σ _ p)) p _ fun _ _ h=>h
 ·have e:i=xs.length:=by ac_nf
  subst e;exact .inl ⟨rfl,hd σ H p⟩
theorem ForJ.keys {d:Addr} {od:Obj} {kvs:List (Key × V)} {ss:List Str} (Pv:Nat->St->Hp->Prop) (h0:Pv 0 σ H) (hl:∀ i σ H',Pv i σ H'->H' d=some (.frz od (.dK kvs)))
  (hs:∀ i z σ H,ss[i]?=some z->Pv i σ H->∀ N:St->Hp->Prop,(∀ σ' H',Pv (i+1) σ' H'->N σ' H')->g (.str z) σ H fun σ2 H2=>tb { D with nx:=N,ct:=N,bk:=D.nx } σ2 H2) (hd:∀ σ H,Pv ss.length σ H->D.nx σ H):ForJ (Itk d od kvs ss) g tb D σ H:=by
 refine ⟨fun i m σ H=>m=ss.length-i/\i<=ss.length/\Pv i σ H,⟨ss.length,by simp,Nat.zero_le _,h0⟩,?_⟩;rintro i m σ H ⟨rfl,c,p⟩;by_cases a:i<ss.length
 ·refine .inr ⟨⟨hl i σ H p,a⟩,Pv (i+1),fun σ' H' b=>⟨ss.length-(i+1),by ac_nf,rfl,a,b⟩,fun x H' y=>?_⟩;obtain ⟨e,y⟩:=y;subst e;rw [List.getElem?_map,List.getElem?_eq_getElem a] at y;cases y;exact hs i ss[i] σ _ (List.getElem?_eq_getElem a) p _ fun _ _ h=>h
 ·have e:i=ss.length:=by ac_nf
  subst e;exact .inl ⟨⟨hl _ σ H p,Nat.le_refl _⟩,hd σ H p⟩
end
def bF (ns:List (Int × Int)):Int:=ns.foldl (fun b n=>b*n.2.fdiv (Mth.g b n.2)) 1
theorem JjK {l:List (Int × Int)} {n:Int × Int}:bF (l++[n])=bF l*n.2.fdiv (Mth.g (bF l) n.2):=by
 unfold bF;rw [foldl_append];rfl
section
variable {α : Type}
theorem JgQ {z:Str} {a : α}:∀ {P:List (Str × α)},lk P z=some a->z∈P.map (·.1)
 | [],h=>by cases h
 | p::P,h=>by
  unfold lk at h;by_cases c:p.1=z
  ·rw [map_cons,c];exact mem_cons_self
  ·rw [if_neg c] at h;rw [map_cons];exact mem_cons_of_mem _ (JgQ h)
theorem pu_nd {l:List (Str × α)} {f:Str} {a : α} (h:(l.map (·.1)).Nodup):((pu l f a).map (·.1)).Nodup:=by
 unfold pu;split
 ·have e:∀ l:List (Str × α),(l.map fun p=>if p.1=f then (p.1,a) else p).map (·.1)=l.map (·.1):=fun l=>by
   rw [map_map];refine List.map_congr_left fun p _=>?_;show (if p.1=f then (p.1,a) else p).1=p.1;split <;> rfl
  rw [e];exact h
 ·rename_i c;rw [map_append];refine nodup_append.mpr ⟨h,by simp,fun x g y b e=>?_⟩;have b:y=f:=by simpa using b
  obtain ⟨p,d,rfl⟩:=mem_map.mp g;exact c (List.any_eq_true.mpr ⟨p,d,by simp [e,b]⟩)
end
section
variable {ss:List SpS} {fs:List Str} {P:LasD}
theorem BE.chn (h:BE ss fs P) {v:Str} {l:List SpS} (hv:v∈fs\/∃ s,lk P v=some s) (c:Chn P v l):(∀ s∈l,s∈ss)/\l.length<=ss.length/\∃ f∈fs,lk P f=none/\Wk ss f l v/\(f::l.map (·.tgt)).Nodup:=by
 obtain ⟨S,o,i,_⟩:=h.chain;obtain ⟨b,n⟩:=(o v).mpr hv;obtain ⟨k,m,p,f,g,j,a,d⟩:=i v b n;have e:=Chn.uniq c m;subst e;exact ⟨a.mem,a.len d,f,g,j,a,d⟩
def cs (l:List SpS):Int × Int:=l.foldl (fun a s=>addF a s.cost) (0,1)
theorem Jf1 {l:List SpS} {s:SpS}:cs (l++[s])=addF (cs l) s.cost:=by
 unfold cs;rw [foldl_append];rfl
theorem Jjm:∀ (l:List SpS) (a:Int × Int) (n:Nat),FB (201+10*n) (9*n+1) a->(∀ s∈l,FB 200 9 s.cost)->FB (201+10*(n+l.length)) (9*(n+l.length)+1) (l.foldl (fun a s=>addF a s.cost) a)
 | [],_,_,h,_=>h
 | s::l,a,n,h,k=>by
  rw [foldl_cons];have h1:FB (201+10*(n+1)) (9*(n+1)+1) (addF a s.cost):=(FB.add (n:=210+10*n) (m:=9*n+1+9) h (k s mem_cons_self) ∅ ∅ ∅).mono ∅ ∅;have:=Jjm l _ (n+1) h1 fun s hs=>k s (mem_cons_of_mem _ hs);rw [length_cons,show n+(l.length+1)=n+1+l.length by ac_nf];exact this
theorem fb01:FB 201 1 (0,1):=⟨by unfold Mth.Sz;exact Nat.two_pow_pos _,by unfold Mth.Sz;decide,by decide,by decide⟩
theorem cs_fb {l:List SpS} (h:∀ s∈l,FB 200 9 s.cost):FB (201+10*l.length) (9*l.length+1) (cs l):=by
 have:=Jjm l (0,1) 0 fb01 h
 rwa [Nat.zero_add] at this
structure TBk (P:LasD) (fs:List Str) (tb:List (Str × ((Int × Int) × List SpS))):Prop where
 nd:(tb.map (·.1)).Nodup
 en:∀ v e,lk tb v=some e->(v∈fs\/∃ s,lk P v=some s)/\Chn P v e.2/\e.1=cs e.2
theorem TBk.nil:TBk P fs []:=⟨by simp,fun v e h=>by cases h⟩
theorem TBk.one {tb:List (Str × ((Int × Int) × List SpS))} {f:Str} (h:TBk P fs tb) (hf:f∈fs) (hn:lk P f=none):TBk P fs (pu tb f ((0,1),[])) where
 nd:=pu_nd h.nd
 en:=fun v e a=>by
  rw [lk_pu] at a;by_cases c:f=v
  ·rw [if_pos c] at a;cases a;subst c;exact ⟨.inl hf, .nil hn,rfl⟩
  ·rw [if_neg c] at a;exact h.en v e a
theorem TBk.put {tb:List (Str × ((Int × Int) × List SpS))} {s:SpS} {e:(Int × Int) × List SpS} (h:TBk P fs tb) (he:lk tb s.src=some e) (hs:lk P s.tgt=some s):TBk P fs (pu tb s.tgt (addF e.1 s.cost,e.2++[s])) where
 nd:=pu_nd h.nd
 en:=fun v x a=>by
  rw [lk_pu] at a;by_cases c:s.tgt=v
  ·rw [if_pos c] at a;cases a;obtain ⟨_,d,b⟩:=h.en _ _ he;subst c;exact ⟨.inr ⟨s,hs⟩, .snoc hs d,by rw [Jf1,b]⟩
  ·rw [if_neg c] at a;exact h.en v x a
theorem TBk.keep {tb:List (Str × ((Int × Int) × List SpS))} {f:Str} {a:(Int × Int) × List SpS} {z:Str} (h:∃ e,lk tb z=some e):∃ e,lk (pu tb f a) z=some e:=by
 obtain ⟨e,b⟩:=h;rw [lk_pu];by_cases c:f=z
 ·exact ⟨_,if_pos c⟩
 ·exact ⟨e,(if_neg c).trans b⟩
theorem BE.tb_len (h:BE ss fs P) {tb:List (Str × ((Int × Int) × List SpS))} (k:TBk P fs tb):tb.length<=fs.length+ss.length:=by
 have:=sub_len (tb.map (·.1)) (fs++ss.map (·.tgt)) k.nd fun x a=>by
  obtain ⟨e,d⟩:=JdR a;obtain ⟨_,_,_,_,c,_⟩:=h.ex;rcases (k.en x e d).1 with e | ⟨s,hs⟩
  ·exact List.mem_append_left _ e
  ·obtain ⟨f,b,_⟩:=c x s hs;exact mem_append_right _ (mem_map.mpr ⟨s,f,b⟩)
 rwa [length_map,length_append,length_map] at this
end
theorem Jfa {xs:Array Nat} {j:Nat} (h1:xs.size=1) (hx:xs[0]?=some j) (k:Nat):SetTable.below xs k=if j<k then 1 else 0:=by
 have a:xs.getD 0 k=j:=by rw [Array.getD_eq_getD_getElem?,hx];rfl
 unfold SetTable.below;rw [h1];simp only [SetTable.below.go];rw [if_pos ⋯];show (if xs.getD 0 k<k then _ else _)=_;rw [a]
section
variable {prog:Program} {w:World} {A:Around} {E:Value->Shared->Prop} {s:Shared}
theorem JiQ {a:Addr} {es:Array (Int × Value)} {ep:Nat} {t:SetTable} {Q:Value->Shared->Prop} (ha:s.heap.get? a=some (setO es ep t)) (hf:t.fits es.size=true) (hz:es.size<=1)
  (q1:Q (.ref s.heap.objs.size) { s with heap:=s.heap.push (itO (.int 0 0) 0 a es.size ep) }):wpAny (model prog w) A (pyIter (.ref a)) Q E s:=by
 have b:s.TypeIs (.ref a) "set":=⟨_,ha,rfl⟩;have c:¬ es.size > 1:=by ac_nf
 refine wpAny_pyIter_slot b PySem.F.slot_set_iter (wpAny_call_entry PySem.F.slot_set_iter b JdI ?_ (PySem.F.args_set_iter_1 _));unfold Builtin.«frozenset.__iter__»;refine wpAny_bind (m:=Builtin.Frozenset.slot0 _ _) (wpAny_pure ?_);unfold Builtin.Frozenset.sizeOf;refine wpAny_bind (wpAny_bind (wpAny_setEntries_of ha rfl hf (wpAny_pure ?_)));unfold setDrawn;refine wpAny_bind (wpAny_bind (wpAny_setState_of ha rfl hf ?_));dsimp only;refine wpAny_bind (Jb8 ?_);refine wpAny_pure ?_;refine wpAny_ite_split (fun z=>absurd (show (!w.params.followText "set-order"&&(!t.plain&&decide (es.size > 1)))=true from z) (by simp [c])) (fun _=>?_);refine wpAny_bind (wpAny_pure (wpAny_bind (wpAny_setEpoch_of ha rfl hf ?_)));unfold newFields;refine wpAny_bind (wpAny_newObj_type (wpAny_pure ⟨_,rfl,"set_iterator",_,⟨_,Heap.get?_push_size _ rfl,rfl⟩,JaU.lookup,?_⟩));exact q1
theorem JiY {I a:Addr} {e:Int × Value} {ep j:Nat} {t:SetTable} {Q:Option Value->Shared->Prop} (hI:s.heap.get? I=some (itO (.int 0 0) 0 a 1 ep)) (ha:s.heap.get? a=some (setO #[e] ep t)) (hf:t.fits 1=true) (ht:w.params.followText "set-order"=false) (hl:t.led=true) (hp:t.place.size=1) (hj:t.place[0]?=some j)
  (q:∀ h',h'.get? I=some (itO (.int ((j+1:Nat):Int) 0) 1 a 1 ep)->Heap.SameBut I s.heap h'->Q (some e.2) { s with heap:=h' }):wpAny (model prog w) A (pyNext (.ref I)) Q E s:=by
 have c:s.TypeIs (.ref I) "set_iterator":=⟨_,hI,rfl⟩;unfold pyNext;refine wpAny_bind (wpAny_attempt (wpAny_callSpecial?_slot (name:=Str.ofString "__next__") c JaU (wpAny_call_entry JaU c Jca ?_ (JcJ _))));unfold Builtin.«set_iterator.__next__»;refine wpAny_bind (m:=slotArgs _ _ _) (wpAny_pure ?_);refine wpAny_bind (wpAny_fieldsOf hI rfl ?_);show wpAny _ _ (setEntries a >>= _) _ _ _;refine wpAny_bind (wpAny_setEntries_of ha rfl hf ?_);rw [if_neg (by simp)];dsimp only;unfold setNext;refine wpAny_bind (wpAny_bind (wpAny_setState_of ha rfl hf ?_));dsimp only;refine wpAny_bind (Jb8 ?_);rw [if_neg (by rw [ht];decide)];refine wpAny_ite_split (fun z=>absurd (show (!t.plain&&decide ((#[e]:Array (Int × Value)).size > 1))=true from z) (by simp)) (fun _=>?_);refine wpAny_bind ?_;show wpAny _ _ (if (!t.led&&!(#[e]:Array (Int × Value)).isEmpty)=true then unsupported _ else pure ()) _ _ _;rw [if_neg (by simp [hl])];refine wpAny_pure (wpAny_pure ?_);have f:SetTable.below t.place (Int.toNat 0)=0:=by rw [Jfa hp hj,if_neg (by simp)]
 rw [f,hj];refine wpAny_bind (wpAny_setField hI rfl (by simp) ?_);have d:=Jew (f':=.int ((j+1:Nat):Int) 0) (j:=0) (g:=fun b=>b.setIfInBounds 0 (rawInt ((j+1:Nat):Int))) hI rfl;refine wpAny_bind (wpAny_setField d rfl (by simp) ?_);have h:=Jew (f':=.int ((j+1:Nat):Int) 0) (j:=1) (g:=fun b=>b.setIfInBounds 1 (rawInt (((0:Nat):Int)+1))) d rfl;exact wpAny_pure ⟨_,rfl,wpAny_pure (q _ h ((Heap.SameBut.update ..).trans (Heap.SameBut.update ..)))⟩
theorem JjR {I a:Addr} {e:Int × Value} {ep j:Nat} {t:SetTable} {Q:Option Value->Shared->Prop} (hh:A.handled=none) (hI:s.heap.get? I=some (itO (.int ((j+1:Nat):Int) 0) 1 a 1 ep)) (ha:s.heap.get? a=some (setO #[e] ep t)) (hf:t.fits 1=true) (ht:w.params.followText "set-order"=false) (hl:t.led=true) (hp:t.place.size=1) (hj:t.place[0]?=some j)
  (q:∀ h',(∀ b o,b≠I->s.heap.get? b=some o->h'.get? b=some o)->Q none { s with heap:=h' }):wpAny (model prog w) A (pyNext (.ref I)) Q E s:=by
 have c:s.TypeIs (.ref I) "set_iterator":=⟨_,hI,rfl⟩;unfold pyNext;refine wpAny_bind (wpAny_attempt (wpAny_callSpecial?_slot (name:=Str.ofString "__next__") c JaU (wpAny_call_entry JaU c Jca ?_ (JcJ _))));unfold Builtin.«set_iterator.__next__»;refine wpAny_bind (m:=slotArgs _ _ _) (wpAny_pure ?_);refine wpAny_bind (wpAny_fieldsOf hI rfl ?_);show wpAny _ _ (setEntries a >>= _) _ _ _;refine wpAny_bind (wpAny_setEntries_of ha rfl hf ?_);rw [if_neg (by simp)];dsimp only;unfold setNext;refine wpAny_bind (wpAny_bind (wpAny_setState_of ha rfl hf ?_));dsimp only;refine wpAny_bind (Jb8 ?_);rw [if_neg (by rw [ht];decide)];refine wpAny_ite_split (fun z=>absurd (show (!t.plain&&decide ((#[e]:Array (Int × Value)).size > 1))=true from z) (by simp)) (fun _=>?_);refine wpAny_bind ?_;show wpAny _ _ (if (!t.led&&!(#[e]:Array (Int × Value)).isEmpty)=true then unsupported _ else pure ()) _ _ _;rw [if_neg (by simp [hl])];refine wpAny_pure (wpAny_pure ?_);have f:SetTable.below t.place (Int.toNat ((j+1:Nat):Int))=1:=by rw [Jfa hp hj,Int.toNat_natCast,if_pos ∅]
 have d:(#[e]:Array (Int × Value))[1]?=none:=by simp
 rw [f,d];dsimp only;refine wpAny_bind (wpAny_setField hI rfl (by simp) ?_);refine Je8 hh fun h' k=>q h' fun b o g e=>k b o ?_;exact ((Heap.SameBut.update ..).extBut b o g e)
theorem JgZ {f:Nat->Nat} {e:Int × Value}:(pickOrder f #[e]).toList=[e]:=List.perm_singleton.mp (Jcr f #[e])
theorem Jj0 {a:Addr} {e:Int × Value} {ep:Nat} {t:SetTable} (hf:t.fits 1=true) (hl:w.params.followText "set-order"=false->t.led=true):W.KdlSrc prog w "set" a a 1 (fun _ v=>v=e.2) (fun h=>h.get? a=some (setO #[e] ep t)) where
 type:=fun _ c=>⟨_,c,rfl⟩
 there:=fun _ c=>⟨Heap.lt_size c,Heap.lt_size c⟩
 keep:=fun _ _ c k=>k a (.inl rfl) _ c
 notList:=by decide
 notTuple:=by decide
 hint:=fun _ _ _ _ c q=>Jdw ⟨_,c,rfl⟩ q
 iter:=fun A s D c=>by
  have F:t.place.size=1:=by
   unfold SetTable.fits at hf;simp at hf;exact hf.1
  obtain ⟨j,C⟩:∃ j,t.place[0]?=some j:=⟨_,Array.getElem?_eq_getElem ∅⟩;refine ⟨itO (.int 0 0) 0 a 1 ep,fun i h=>(∃ k:Nat,h.get? s.heap.objs.size=some (itO (.int (k:Int) 0) i a 1 ep)/\(w.params.followText "set-order"=true->k=0)/\(w.params.followText "set-order"=false->(i=0/\k=0)\/(i=1/\k=j+1)))/\h.get? a=some (setO #[e] ep t),fun _ _ q=>JiQ c hf (by simp) q,
  {
   sub:=fun b d=>by simp at d;simp [d]
   frame:=fun _ _ _ g k=>⟨by obtain ⟨⟨m,f,x⟩,_⟩:=g;exact ⟨m,k _ (by simp) _ f,x⟩,k _ (by simp) _ g.2⟩
   item:=fun i u Q E H g q=>by
    obtain ⟨⟨m,f,x,B⟩,n⟩:=g;have G:i=0:=by ac_nf
    subst G;cases ht:w.params.followText "set-order" with
    | true=>
     have p:=x ht;subst p;exact Jfo f n hf ht (v:=e.2) (by rw [JgZ];rfl) fun l y r=>q _ l u.toks rfl ⟨⟨0,y,fun _=>rfl,(fun z=>by rw [ht] at z;cases z)⟩,r.extBut a _ (Nat.ne_of_lt (Heap.lt_size c)) n⟩ fun b o d z=>r.extBut b o (fun h=>d (by simp [h])) z
    | false=>
     have p:m=0:=by rcases B ht with z | z <;> ac_nf
     subst p;exact JiY f n hf ht (hl ht) F C fun l y r=>q _ l u.toks rfl ⟨⟨j+1,y,(fun z=>by rw [ht] at z;cases z),fun _=>.inr ⟨rfl,rfl⟩⟩,r.extBut a _ (Nat.ne_of_lt (Heap.lt_size c)) n⟩ fun b o d z=>r.extBut b o (fun h=>d (by simp [h])) z
   done:=fun u Q E g q=>by
    obtain ⟨⟨m,f,x,B⟩,n⟩:=g;cases ht:w.params.followText "set-order" with
    | true=>
     have p:=x ht;subst p;exact JeI D f n hf ht (by rw [<- Array.getElem?_toList,JgZ];rfl) fun l k=>q l u.toks fun b o d z=>k b o (fun h=>d (by simp [h])) z
    | false=>
     have p:m=j+1:=by rcases B ht with z | z <;> ac_nf
     subst p;exact JjR D f n hf ht (hl ht) F C fun l k=>q l u.toks fun b o d z=>k b o (fun h=>d (by simp [h])) z
   self:=fun _ _ _ _ g q=>by obtain ⟨⟨m,f,_⟩,_⟩:=g;exact JeN f q },⟨0,Heap.get?_push_size _ rfl,fun _=>rfl,fun _=>.inl ⟨rfl,rfl⟩⟩,Heap.get?_push_of_some _ c⟩
theorem Jho {a:Addr} {x:Str} {Q:Value->Shared->Prop} (hh:A.handled=none) (hS:SetS prog w s.heap a [x])
  (q:∀ s' l (out:Array Value) ss' e,(∀ b o,s.heap.get? b=some o->s'.heap.get? b=some o)->s'.gens=s.gens->s'.os=s.os->s.toks<=s'.toks->s.heap.objs.size<=l->s'.heap.get? l=some (seqObj "list" out e)->StrsAre out.toList ss'->ss'.Perm [x]->sortedS ss'=true->Q (.ref l) s') :
  wpAny (model prog w) A (call (.builtin "sorted") [.ref a]) Q E s:=by
 obtain ⟨G,ep,t,T,H,L,Z,X,U,D⟩:=hS;obtain ⟨v,F⟩:∃ v,G=#[v]:=by
  have I:G.toList.length=1:=by rw [<- length_map (f:=fun e:Int × Value=>strOf e.2),L.length_eq];rfl
  obtain ⟨v,F⟩:=List.length_eq_one_iff.mp I;exact ⟨v,by rw [<- Array.toArray_toList (xs:=G),F]⟩
 subst F;have N:s.heap.get? a=some (setO #[v] ep t):=T;obtain ⟨m,P⟩:∃ h,v.2=.str x h:=by
  obtain ⟨⟨M,g,_⟩,_⟩:=H v (by simp);obtain ⟨u,y⟩:=Value.isStrOf_shape g;have J:strOf v.2=x:=by simpa using List.perm_singleton.mp L
  rw [y] at J;exact ⟨u,by rw [y, <- J];rfl⟩
 have K:=Heap.lt_size N;have O:A.in1.handled=none:=by simp [hh]
 refine JcE (ss:=[x]) (by show 1<64;decide) (fun R k=>?_) q;obtain ⟨C,z⟩:∃ C:Result->Shared->Prop, ∀ r s',C r s'↔∃ g h d B,r=.ok (.ret (.ref s.heap.objs.size))/\s'={ s with heap:=g,toks:=h }/\(∀ b o,b≠s.heap.objs.size->(s.heap.push { cls:=.type "list",data:=.seq ([]:List Value).toArray }).get? b=some o->g.get? b=some o)/\g.get? s.heap.objs.size=some { cls:=.type "list",dict:=none,data:=.seq d B,slots:=#[] }/\ItemsOf (fun _ u=>u=v.2) d 1:=⟨_,fun _ _=>Iff.rfl⟩;have i:=codeAny_toks_of (n:=s.toks) (s:={ s with heap:=s.heap.push { cls:=.type "list",data:=.seq ([]:List Value).toArray } }) (Nat.le_refl _) (JeM (A:=A.in1) (R:=C)
  (W.kdl_extend (R:=C) (s:={ s with heap:=s.heap.push { cls:=.type "list",data:=.seq ([]:List Value).toArray } }) (Jj0 (prog:=prog) (w:=w) (a:=a) (e:=v) (ep:=ep) X D) O (Heap.get?_push_of_some _ N) s.heap.objs.size (Nat.ne_of_gt K) (Nat.ne_of_gt K) (.ref s.heap.objs.size) 0 (Heap.get?_push_size _ rfl) (fun g h j B M hS c=>(z _ _).mpr ⟨g,h,j,B,rfl,rfl,M,hS,c⟩) ⋯))
 refine codeAny_mono i ?_;rintro r s' ⟨Y,S⟩;obtain ⟨g,h,d,B,rfl,rfl,V,p,c⟩:=(z _ _).mp S;have e:d.toList=[.str x m]:=by
  have I:d.toList.length=1:=by rw [Array.length_toList];exact c.1
  obtain ⟨u,y⟩:=List.length_eq_one_iff.mp I;have:=c.2 0 u (by rw [<- Array.getElem?_toList,y];rfl);rw [y,this,P]
 exact k _ d.toList B [x] (fun b o e=>V b o (Nat.ne_of_lt (Heap.lt_size e)) (Heap.get?_push_of_some _ e)) rfl rfl Y (by rw [Array.toArray_toList];exact p) (by rw [e];exact .cons x m .nil) (.refl _)
end
section
variable {X:Cx}
def Jle (K:W.Frag) (xs:List V) (H:Hp) (Q:VK):Prop:=∃ (l:Addr) (ss:List Str),xs=[.ref l]/\SqL K H l (ss.map V.str)/\ss.length<=1000/\(∃ F:List Str,F.length<64/\∀ z∈ss,z∈F)/\∀ p out,H p=none->out.Nodup->(∀ z,z∈out↔z∈ss)->sortedS out=true->Q (.ref p) (upd H p (.lst (out.map V.str)))
theorem Jgj {e:Expr} {t:TA} {p1 p2 pos pos2:Pos} {x y:Str} (hc:X.calm=true) (hx:x="sorted") (hy:y="set") (hg:Gl X x) (hm:X.mg x=none) (hv:bootBuiltins x=some (.builtin "sorted")) (hg2:Gl X y) (hm2:X.mg y=none) (hv2:bootBuiltins y=some (.type "set")) (ha:PA X [e] t)
  (he:starEach [e] X.env=(false,eval e X.env)::starEach [] X.env:=by rfl) :
  PE X (.Call (.Name x p1) [.Call (.Name y p2) [e] [] pos2] [] pos) (tCB (Jle X.K) t):=by
 intro C s σ H Q I h;have nx:x≠"__name__":=by rw [hx];decide
 have ny:y≠"__name__":=by rw [hy];decide
 have dx:(x == ("__debug__" : Str))=false:=by rw [hx];decide
 have dy:(y == ("__debug__" : Str))=false:=by rw [hy];decide
 refine wpAny_Call_Name_kw (Jdj I hg hm hv ?_ nx dx);refine PyProof.Rows.callWith_builtin1 ?_ rfl rfl;show wpAny _ _ (spliced ((false,eval (.Call (.Name y p2) [e] [] pos2) X.env)::backTo pos (starEach [] X.env))) _ _ s;refine Calls.spliced_cons ?_;refine wpAny_Call_Name_kw (Jdj I hg2 hm2 hv2 ?_ ny dy);refine PyProof.Rows.callWith_type1 (thn (ha pos2 C s σ H _ I h) fun us B ζ=>?_) he rfl;obtain ⟨vs,H1,I1,r1,q1⟩:=ζ;obtain ⟨l,ss,rfl,hl,W,⟨F,hF,a0⟩,q⟩:=q1;obtain ⟨u,rfl,rx⟩:=vals1 r1;cases rx;obtain ⟨Z,ri,pl,S⟩:=I1.list hl;have hs:=Jd6 ri;have ls:=hs.length;have T:=I1.ok.hd hc;have sb:(1002:Nat)<scanBound:=by decide
 refine Jea T pl.isList (ss:=ss) (by simpa using hs) (by rw [size_toArray];ac_nf) fun L tk P k et=>Calls.spliced_nil ?_;have sz:Z.toArray.size=ss.length:=by rw [size_toArray];exact ls
 rw [sz] at P;have M:∀ z,z∈met (fun i=>ss.getD i ⟨#[]⟩) ss.length↔z∈ss:=fun z=>by
  rw [Jic];constructor
  ·rintro ⟨j,N,rfl⟩;rw [List.getD_eq_getElem?_getD,List.getElem?_eq_getElem N];exact List.getElem_mem N
  ·intro S;obtain ⟨j,N⟩:=List.getElem?_of_mem S;exact ⟨j,(List.getElem?_eq_some_iff.mp N).1,by rw [List.getD_eq_getElem?_getD,N];rfl⟩
 have ml:=Jf7 (fun i=>ss.getD i ⟨#[]⟩) ss.length;have a1:=sub_len (met (fun i=>ss.getD i ⟨#[]⟩) ss.length) F (JgR _ _) fun z S=>a0 z ((M z).mp S);have J:∀ g n (c:Array Value) a p,(∀ b o,L.get? b=some o->g.heap.get? b=some o)->g.gens=B.gens->g.os=B.os->L.objs.size<=n->g.heap.get? n=some (seqObj "list" c p)->StrsAre c.toList a->a.Perm (met (fun i=>ss.getD i ⟨#[]⟩) ss.length)->sortedS a=true->EP X C σ Q (.ref n) g:=fun g n c a p D E G d v m A f=>by
  have kk:∀ b o,B.heap.get? b=some o->g.heap.get? b=some o:=fun b o e=>D b o (k b o e);have R:B.heap.objs.size<=n:=by
   have : B.heap.objs.size<L.objs.size:=by
    obtain ⟨es,ep,tt,v,_⟩:=P;exact Heap.lt_size v
   exact Nat.le_of_lt (Nat.lt_of_lt_of_le this d)
  have nd:a.Nodup:=A.nodup_iff.mpr (JgR _ _);have lo:a.length<=sizeLine:=by
   have : (1000:Nat)<=sizeLine:=by decide
   rw [A.length_eq];ac_nf
  exact ⟨.ref n,_,Inv.like (s:=B) (I1.laid (t':=g.toks) (o:=.lst (a.map V.str)) kk R (show ObjOk X.prog X.w _ g.heap n (.lst (a.map V.str)) from ⟨by rw [length_map];exact lo,c.toList,p,Jd8 m,by rw [Array.toArray_toList];exact v⟩)) E G,rfl,q n a (I1.hok.fresh R) nd (fun z=>(A.mem_iff).trans (M z)) f⟩
 have a3:=JgR (fun i=>ss.getD i ⟨#[]⟩) ss.length;generalize met (fun i=>ss.getD i ⟨#[]⟩) ss.length=ms at *;match hm:ms with
 | []=>
  obtain ⟨es,ep,tt,v,a2,Y,_,hf,_⟩:=P;have e0:es=#[]:=by
   have:=Y.length_eq;rw [length_map,Array.length_toList] at this;exact Array.eq_empty_of_size_eq_zero (by rw [this];rfl)
  subst e0;exact Jgu (s:={ B with heap:=L,toks:=tk }) T v hf fun g n c a p D E G O d U m A f=>J g n c a p D E G d U m A f
 | [x]=>exact Jho (s:={ B with heap:=L,toks:=tk }) T P fun g n c a p D E G O d v m A f=>J g n c a p D E G d v m A f
 | x::y::r=>exact Jhp (s:={ B with heap:=L,toks:=tk }) T P (by simp) ∅ fun g n c a p D E G O d v m A f=>J g n c a p D E G d v m A f
end
section
variable {X:Cx}
end
def toS (b:Int) (s:SD):SpS:=⟨s.src,s.dst,s.c,s.c.1*b.fdiv s.c.2,s.nm,s.fw⟩
def bD_ (ts:List TD):Int:=bF ((Ch.all ts).map (·.c))
def ssD (ts:List TD):List SpS:=(Ch.all ts).map (toS (bD_ ts))
def lsD (ts:List TD) (fs:List Str):LasD:=(bfR (ssD ts) ((ssD ts).length+1) (bf0 fs)).P
abbrev Tab:=List (Str × ((Int × Int) × List SpS))
theorem wh_vl {c:Int × Int} {b:Int} (h2:1<=c.2) (hd:c.2∣b):((c.1*b.fdiv c.2:Int):Rat)=vl c*(b:Rat):=by
 obtain ⟨k,rfl⟩:=hd;rw [Int.mul_fdiv_cancel_left _ ∅];have a:=JcH h2;unfold vl;push_cast;generalize (c.1:Rat)=x at *;generalize (c.2:Rat)=y at *;generalize (k:Rat)=z at *;grind
theorem JhC {b:Int}:∀ (l:List SpS) (a:Int × Int),1<=a.2->(∀ s∈l,(s.wh:Rat)=vl s.cost*(b:Rat)/\1<=s.cost.2)->vl (l.foldl (fun a s=>addF a s.cost) a)*(b:Rat)=vl a*(b:Rat)+(wgt l:Rat)/\1<=(l.foldl (fun a s=>addF a s.cost) a).2
 | [],a,ha,_=>by
  refine ⟨?_,ha⟩;show vl a*(b:Rat)=vl a*(b:Rat)+((0:Int):Rat);rw [Rat.intCast_zero,Rat.add_zero]
 | s::l,a,ha,h=>by
  rw [foldl_cons];obtain ⟨h1,h2⟩:=h s mem_cons_self;have hb:1<=(addF a s.cost).2:=Mth.Jbk (Int.mul_ne_zero ∅ ∅);obtain ⟨i1,i2⟩:=JhC l (addF a s.cost) hb fun s hs=>h s (mem_cons_of_mem _ hs);refine ⟨?_,i2⟩;rw [i1,Jc3 ha h2];have e:(wgt (s::l):Rat)=(s.wh:Rat)+(wgt l:Rat):=by
   show ((s.wh+wgt l:Int):Rat)=_;push_cast;rfl
  rw [e,h1,Rat.add_mul,Rat.add_assoc]
theorem Jjn {b:Int} {l:List SpS} (h:∀ s∈l,(s.wh:Rat)=vl s.cost*(b:Rat)/\1<=s.cost.2):vl (cs l)*(b:Rat)=(wgt l:Rat)/\1<=(cs l).2:=by
 obtain ⟨c,a⟩:=JhC (b:=b) l (0,1) ⋯ h;refine ⟨?_,a⟩;unfold cs;rw [c,Jd9];grind
section
variable {ts:List TD}
theorem ss_wh (hb:∀ s∈Ch.all ts,1<=s.c.2/\s.c.2∣bD_ ts):∀ s∈ssD ts,(s.wh:Rat)=vl s.cost*(bD_ ts:Rat)/\1<=s.cost.2:=fun s b=>by
 obtain ⟨x,a,rfl⟩:=mem_map.mp b;exact ⟨wh_vl (hb x a).1 (hb x a).2,(hb x a).1⟩
theorem Jiz {x:Str->Rat} (h1:1<=bD_ ts) (hb:∀ s∈Ch.all ts,1<=s.c.2/\s.c.2∣bD_ ts) (hx:∀ s∈Ch.all ts,x s.dst<=x s.src+vl s.c):Pot (fun f=>(x f*(bD_ ts:Rat)).floor) (ssD ts) :=
 Jit (x:=fun f=>x f*(bD_ ts:Rat)) fun s a=>by
  have b:=(ss_wh hb s a).1;obtain ⟨y,d,rfl⟩:=mem_map.mp a;have:=hx y d;rw [b];show x y.dst*_<=x y.src*_+vl y.c*_;rw [<- Rat.add_mul];refine Rat.mul_le_mul_of_nonneg_right this ?_;have : (0:Int)<=bD_ ts:=by ac_nf
  exact_mod_cast this
end
structure BkG (ts:List TD) (F:List Str) (x:Str->Rat):Prop where
 l35:ts.length<=35
 ok:∀ t∈ts,TOk t
 fb:∀ s∈Ch.all ts,FB 200 9 s.c
 f8:F.length<=8
 fm:∀ t∈ts,t.st∈F/\t.en∈F
 pot:∀ s∈Ch.all ts,x s.dst<=x s.src+vl s.c
theorem BkG.l70 {ts:List TD} {F:List Str} {x:Str->Rat} (h:BkG ts F x):(Ch.all ts).length<=70:=by
 have:=Jhv (ts:=ts) ts.length;rw [take_of_length_le (Nat.le_refl _)] at this;have:=h.l35;ac_nf
theorem JdT {ts:List TD} {F:List Str} (h:∀ t∈ts,t.st∈F/\t.en∈F):∀ s∈Ch.all ts,s.src∈F/\s.dst∈F:=fun s a=>by
 obtain ⟨t,d,a⟩:=List.mem_flatMap.mp (show s∈ts.flatMap Ch.steps from a);obtain ⟨c,b⟩:=h t d;unfold Ch.steps fwd bwd at a;rcases mem_append.mp a with a | a
 ·cases e:t.hi with
  | none=>rw [e] at a;cases a
  | some u=>rw [e] at a;rw [mem_singleton.mp a];exact ⟨c,b⟩
 ·cases e:t.lo with
  | none=>rw [e] at a;cases a
  | some u=>rw [e] at a;rw [mem_singleton.mp a];exact ⟨b,c⟩
structure TTd (ts:List TD) (fs:List Str) (tb:Tab):Prop where
 b1:1<=bD_ ts
 bb:∀ s∈Ch.all ts,1<=s.c.2/\s.c.2∣bD_ ts
 tk:TBk (lsD ts fs) fs tb
 ks:∀ v,(∃ e,lk tb v=some e)↔(v∈fs\/∃ s,lk (lsD ts fs) v=some s)
 be:BE (ssD ts) fs (lsD ts fs)
section
variable {ts:List TD} {fs:List Str} {tb tb':Tab} {v:Str} {e:(Int × Int) × List SpS}
theorem TTd.uniq (h:TTd ts fs tb) (k:TTd ts fs tb'):lk tb v=lk tb' v:=by
 cases e1:lk tb v with
 | none=>
  cases e2:lk tb' v with
  | none=>rfl
  | some e=>
   obtain ⟨b,a⟩:=(h.ks v).mpr ((k.ks v).mp ⟨e,e2⟩);rw [e1] at a;cases a
 | some e=>
  obtain ⟨b,a⟩:=(k.ks v).mpr ((h.ks v).mp ⟨e,e1⟩);obtain ⟨_,d,c⟩:=h.tk.en v e e1;obtain ⟨_,g,f⟩:=k.tk.en v b a;rw [a];have:=d.uniq g
  congr 1
  exact Prod.ext (by rw [c,f,this]) this
theorem TTd.ent (h:TTd ts fs tb) (he:lk tb v=some e):e.1=cs e.2/\(∀ s∈e.2,s∈ssD ts)/\e.2.length<=(ssD ts).length/\∃ f∈fs,lk (lsD ts fs) f=none/\Wk (ssD ts) f e.2 v/\(f::e.2.map (·.tgt)).Nodup:=by
 obtain ⟨i,b,c⟩:=h.tk.en v e he;obtain ⟨g,a,d⟩:=h.be.chn i b;exact ⟨c,g,a,d⟩
theorem TTd.fb (h:TTd ts fs tb) (hfb:∀ s∈Ch.all ts,FB 200 9 s.c) (hl:(Ch.all ts).length<=70) (he:lk tb v=some e):FB 1000 700 e.1:=by
 obtain ⟨g,a,i,_⟩:=h.ent he;have b:(ssD ts).length<=70:=by unfold ssD;rw [length_map];ac_nf
 rw [g];refine (cs_fb fun s d=>?_).mono ∅ ∅;obtain ⟨y,f,rfl⟩:=mem_map.mp (a s d);exact hfb y f
theorem TTd.b2 (h:TTd ts fs tb) (he:lk tb v=some e):1<=e.1.2:=by
 obtain ⟨d,a,_⟩:=h.ent he;rw [d];exact (Jjn (b:=bD_ ts) fun s c=>ss_wh h.bb s (a s c)).2
theorem TTd.step (h:TTd ts fs tb) {s:SD} (hs:s∈Ch.all ts) (he:lk tb s.src=some e):∃ e',lk tb s.dst=some e'/\vl e'.1<=vl e.1+vl s.c:=by
 obtain ⟨S,o,q,D⟩:=h.be.chain;have g:toS (bD_ ts) s∈ssD ts:=mem_map.mpr ⟨s,hs,rfl⟩;have d:∀ v e,lk tb v=some e->∀ a,lk S v=some a->vl e.1*(bD_ ts:Rat)=(a:Rat):=fun v e he a m=>by
  obtain ⟨_,u,r⟩:=h.tk.en v e he;obtain ⟨l,w,A,f,_,_,C,_⟩:=q _ a m;have:=u.uniq w;subst this;rw [r, <- A];exact (Jjn fun s hs=>ss_wh h.bb s (C.mem s hs)).1
 obtain ⟨a,m⟩:=(o _).mpr ((h.ks _).mp ⟨e,he⟩);obtain ⟨b,i,n⟩:=D _ g a m;obtain ⟨e',k⟩:=(h.ks s.dst).mpr ((o _).mp ⟨b,i⟩);refine ⟨e',k,?_⟩;have p:=d _ _ he a m;have y:=d _ _ k b i;have t:=(ss_wh h.bb _ g).1;have B:=h.b1;have x:(0:Rat)<(bD_ ts:Rat):=by
  have : (0:Int)<bD_ ts:=by ac_nf
  exact_mod_cast this
 have j:(b:Rat)<=(a:Rat)+((toS (bD_ ts) s).wh:Rat):=by exact_mod_cast n
 rw [t, <- p, <- y] at j;have j:vl e'.1*(bD_ ts:Rat)<=vl e.1*(bD_ ts:Rat)+vl s.c*(bD_ ts:Rat):=j;rw [<- Rat.add_mul] at j;exact Rat.not_lt.mp fun z=>absurd j (Rat.not_le.mpr (Rat.mul_lt_mul_of_pos_right z x))
theorem TTd.self {f:Str} (h:TTd ts [f] tb):lk tb f=some ((0,1),[]):=by
 obtain ⟨e,a⟩:=(h.ks f).mpr (.inl (by simp));obtain ⟨_,c,q⟩:=h.tk.en f e a;obtain ⟨_,_,_,g,d,b,_⟩:=h.ent a;rw [mem_singleton.mp d] at b;have:=c.uniq (.nil b);rw [a]
 congr 1
 exact Prod.ext (by rw [q,this];rfl) this
theorem TTd.root {f:Str} (h:TTd ts [f] tb) (he:lk tb v=some e):Wk (ssD ts) f e.2 v:=by
 obtain ⟨_,_,_,g,a,_,w,_⟩:=h.ent he;rw [mem_singleton.mp a] at w;exact w
end
theorem JgK:∀ {l:List SD} {s:SD},(l.map key).Nodup->s∈l->(l.filter fun x=>decide (key x=key s))=[s]
 | a::l,s,nd,h=>by
  rw [map_cons,nodup_cons] at nd;rcases mem_cons.mp h with rfl | h
  ·rw [List.filter_cons_of_pos (by simp)]
   congr 1
   refine List.filter_eq_nil_iff.mpr fun x hx=>?_;simp only [decide_eq_true_eq];exact fun e=>nd.1 (e ▸ mem_map.mpr ⟨x,hx,rfl⟩)
  ·have ne:key a≠key s:=fun e=>nd.1 (e ▸ mem_map.mpr ⟨s,h,rfl⟩);rw [List.filter_cons_of_neg (by simpa using ne)];exact JgK nd.2 h
theorem Wk.at_ {ss:List SpS} {f0:Str} {l:List SpS} {v:Str} (h:Wk ss f0 l v):∀ i s,l[i]?=some s->Wk ss f0 (l.take i) s.src/\s∈ss/\Wk ss f0 (l.take (i+1)) s.tgt:=by
 induction h with
 | nil=>intro i s h;simp at h
 | @snoc l s0 hl hs ih=>
  intro i s h;by_cases c:i<l.length
  ·rw [List.getElem?_append_left c] at h;rw [List.take_append_of_le_length ∅,List.take_append_of_le_length ∅];exact ih i s h
  ·have a:=(List.getElem?_eq_some_iff.mp h).1;rw [length_append,length_singleton] at a;have : i=l.length:=by ac_nf
   subst this;rw [List.getElem?_append_right (Nat.le_refl _),Nat.sub_self] at h;cases h;refine ⟨by rw [List.take_left];exact hl,hs,?_⟩;rw [take_of_length_le (by simp)];exact .snoc hl hs
theorem Wk.fin {ss:List SpS} {f0:Str} {l:List SpS} {v:Str} (h:Wk ss f0 l v):(f0::l.map (·.tgt))[l.length]?=some v:=by
 cases h with
 | nil=>rfl
 | snoc _ _=>rw [length_append,length_singleton,List.getElem?_cons_succ,map_append,List.getElem?_append_right (by rw [length_map];exact Nat.le_refl _),length_map,Nat.sub_self];rfl
def Jbg (a:Int × Int):Int:=a.1.fdiv a.2
def ceilF (a:Int × Int):Int:=-((-a.1).fdiv a.2)
theorem JeL {a:Int × Int} (h:1<=a.2):(Jbg a:Rat)<=vl a:=by
 unfold Jbg;have e:=Int.fmod_add_mul_fdiv a.1 a.2;have m:=Mth.fm (x:=a.1) (y:=a.2) ∅;generalize a.1.fdiv a.2=q at *;have b:q*a.2<=a.1:=by
  rw [Int.mul_comm] at e;ac_nf
 rw [<- Jg5 q];refine Rat.not_lt.mp fun z=>?_;have:=(JcS (c:=(q,1)) h (show (1:Int)<=1 by decide)).mpr z;unfold lessF at this;simp at this;ac_nf
theorem Jj4 {a:Int × Int} (h:1<=a.2):vl a<=(ceilF a:Rat):=by
 have:=JeL (a:=(-a.1,a.2)) h;have e:vl (-a.1,a.2) = - vl a:=JcI a;rw [e] at this;unfold ceilF;have b:((-((-a.1).fdiv a.2):Int):Rat) = - ((Jbg (-a.1,a.2):Int):Rat):=by
  unfold Jbg;push_cast;rfl
 rw [b];grind
theorem JdK {a:Int × Int} (h:1<=a.2):(Jbg a).natAbs<=a.1.natAbs:=by
 unfold Jbg;have e:=Int.fmod_add_mul_fdiv a.1 a.2;have m:=Mth.fm (x:=a.1) (y:=a.2) ∅;generalize a.1.fdiv a.2=q at *;generalize a.1.fmod a.2=r at *;have b:q*a.2=a.1-r:=by rw [Int.mul_comm];ac_nf
 by_cases c:0<=q
 ·have : q*1<=q*a.2:=Int.mul_le_mul_of_nonneg_left h c;ac_nf
 ·have f:(q+1)*a.2<=(q+1)*1:=by
   have:=Int.mul_le_mul_of_nonneg_left h (show 0 <= -(q+1) by ac_nf);rw [Int.neg_mul,Int.neg_mul] at this;ac_nf
  have d:(q+1)*a.2=a.1-r+a.2:=by rw [Int.add_mul,Int.one_mul,b]
  ac_nf
theorem JiJ {a:Int × Int} (h:1<=a.2):(ceilF a).natAbs<=a.1.natAbs:=by
 have:=JdK (a:=(-a.1,a.2)) h;unfold Jbg at this;unfold ceilF;rw [Int.natAbs_neg];simpa using this
def enS (f g:Str->Option (Int × Int)) (m:Int) (s:SpS):Int:=match f s.tgt,f s.src,g s.src with
 | some a,none,some p=>max m (ceilF a-Jbg p-Jbg s.cost)
 | _,_,_=>m
theorem JkH {f g:Str->Option (Int × Int)} {m:Int} {s:SpS} (h:f s.tgt=none):enS f g m s=m:=by unfold enS;rw [h]
theorem JkI {f g:Str->Option (Int × Int)} {m:Int} {s:SpS} {b:Int × Int} (h:f s.src=some b):enS f g m s=m:=by
 unfold enS;rw [h];split <;> first | rfl | (rename_i q _;cases q) | skip
theorem enS_y {f g:Str->Option (Int × Int)} {m:Int} {s:SpS} {a p:Int × Int} (h1:f s.tgt=some a) (h2:f s.src=none) (h3:g s.src=some p):enS f g m s=max m (ceilF a-Jbg p-Jbg s.cost):=by unfold enS;rw [h1,h2,h3]
def enD (ss:List SpS) (f g:Str->Option (Int × Int)):Int:=ss.foldl (enS f g) 0
theorem Jjr {f g:Str->Option (Int × Int)} {m:Int} {s:SpS}:m<=enS f g m s:=by
 unfold enS;split <;> ac_nf
theorem Jjs {f g:Str->Option (Int × Int)}:∀ (ss:List SpS) (m:Int),m<=ss.foldl (enS f g) m
 | [],_=>Int.le_refl _
 | s::ss,m=>by
  rw [foldl_cons];exact Int.le_trans Jjr (Jjs ss _)
theorem en_ge {f g:Str->Option (Int × Int)}:∀ (ss:List SpS) (m:Int) (s:SpS) (a p:Int × Int),s∈ss->f s.tgt=some a->f s.src=none->g s.src=some p->ceilF a-Jbg p-Jbg s.cost<=ss.foldl (enS f g) m
 | x::ss,m,s,a,p,h,h1,h2,h3=>by
  rw [foldl_cons];rcases mem_cons.mp h with rfl | h
  ·refine Int.le_trans ?_ (Jjs ss _);unfold enS;rw [h1,h2,h3];dsimp only;ac_nf
  ·exact en_ge ss _ s a p h h1 h2 h3
section
variable {X:Cx}
def rMax:List V->Hp->VK->Prop:=fun xs H Q=>∃ i j,xs=[.int i, .int j]/\Q (.int (max i j)) H
theorem Jhy (hc:X.calm=true):CallR X (.builtin "max") rMax:=by
 intro a s σ H c f Q I r h;obtain ⟨i,j,rfl,q⟩:=h;obtain ⟨u,g,rfl,⟨t,rfl⟩,⟨d,rfl⟩⟩:=vals2 r;refine max_two_ints (I.ok.hd hc) fun e l k=>⟨_,H,I.kept k,?_,q⟩;by_cases b:j > i
 ·rw [if_pos b,Int.max_eq_right ∅];exact ⟨_,rfl⟩
 ·rw [if_neg b,Int.max_eq_left ∅];exact ⟨_,rfl⟩
end
theorem en_lt {f g:Str->Option (Int × Int)} (hf:∀ v e,f v=some e->FB 1000 700 e) (hg:∀ v e,g v=some e->FB 1000 700 e):∀ (ss:List SpS) (m:Int),(∀ s∈ss,FB 1000 700 s.cost)->0<=m->m<2 ^ 1010->0<=ss.foldl (enS f g) m/\ss.foldl (enS f g) m<2 ^ 1010
 | [],m,_,h0,h1=>⟨h0,h1⟩
 | s::ss,m,hc,h0,h1=>by
  rw [foldl_cons];refine en_lt hf hg ss _ (fun s hs=>hc s (mem_cons_of_mem _ hs)) (Int.le_trans h0 Jjr) ?_;unfold enS;split
  ·rename_i a p e1 e2 e3;have q1:=hf _ _ e1;have q2:=hg _ _ e3;have q3:=hc s mem_cons_self;have r1:=Nat.lt_of_le_of_lt (JiJ q1.b1) q1.s1;have r2:=Nat.lt_of_le_of_lt (JdK q2.b1) q2.s1;have r3:=Nat.lt_of_le_of_lt (JdK q3.b1) q3.s1;have hB:(3*2 ^ 1000:Nat)<2 ^ 1010:=Nat.lt_of_lt_of_le (m:=4*2 ^ 1000) (Nat.mul_lt_mul_of_pos_right ⋯ (Nat.two_pow_pos _)) (by rw [show (4:Nat)=2 ^ 2 from rfl, <- Nat.pow_add];exact Nat.pow_le_pow_right ⋯ ⋯);have hC:((2 ^ 1010:Nat):Int)=(2:Int) ^ 1010:=by norm_cast
   rw [<- hC] at h1 ⊢;clear hC;generalize (2 ^ 1000:Nat)=B at *;generalize (2 ^ 1010:Nat)=C at *;ac_nf
  ·exact h1
def stD (ts:List TD) (f g:Str->Option (Int × Int)) (out:List Str):List (Str × (Int × Int)):=out.map fun v=>(v,match f v with
 | some e=>e
 | none=>addF ((g v).getD (0,1)) (enD (ssD ts) f g,1))
theorem Jjf {ts:List TD} {f g:Str->Option (Int × Int)} {v:Str} {e:Int × Int} (h:f v=some e):stD ts f g [v]=[(v,e)]:=by
 unfold stD;rw [map_cons,h];rfl
theorem Jje {ts:List TD} {f g:Str->Option (Int × Int)} {v:Str} {q:Int × Int} (h:f v=none) (k:g v=some q):stD ts f g [v]=[(v,addF q (enD (ssD ts) f g,1))]:=by
 unfold stD;rw [map_cons,h,k];rfl
structure MCalD (P:Program) (w:World) (K:W.Frag) (mg:Str->Option Value) (base:Heap) (k:Nat) (m:Str) (Cs:Addr->Prop) (ps:List Str) (dvs:List V) (sp:Sp):Prop where
 ex:∃ (f:Addr) (fd:FuncData) (ds:List Value),FnOk P w K mg base (CX1 P w) k f fd ps sp/\(∀ C,Cs C->Cls K C/\Meth K C m f)/\W.keepIn K (.ref f)=true/\Binds K fd ps ds/\Vals dvs ds
section
variable {X:Cx} {k k':Nat} {x mn:Str} {C:Addr} {Cs:Addr->Prop} {ps:List Str} {sp:Sp} {E:XK} {p pos apos:Pos} {e o:Expr} {es:List Expr} {t:TA} {ta:TE} {dvs:List V}
theorem MCalD.m {pl:Sem Bool} (G:MCalD X.prog X.w X.K X.mg X.base k mn Cs ps dvs sp) (hr:Room k' X.A) (hk:k<=k') (hx:Jb3 (CX1 X.prog X.w) X E) (ho:PE X o ta) (ha:PA X (e::es) t)
  (hst:starEach (e::es) X.env=(false,eval e X.env)::starEach es X.env:=by rfl) (hpl:(backTo pos (starEach es X.env)).any (·.1)=false:=by rfl)
  (ht:eval (.Call (.Attribute o mn apos) (e::es) [] pos) X.env=(do
   let ov <- eval o X.env
   standAt apos.atName
   let (f,first) <- holding [ov] (getMethod ov mn pl)
   callWith pos f first (backTo pos (starEach (e::es) X.env)) (backToKw pos (keywordEach [] X.env))):=by rfl) :
  PE X (.Call (.Attribute o mn apos) (e::es) [] pos) (Jg2 Cs mn (fun vs=>sp (vs++dvs)) E ta t):=by
 obtain ⟨f,O,M,F,c,i,p,n⟩:=G.ex;intro b s σ H Q I h;refine W.methodCall_KW (pl:=pl) (thn (ho b s σ H _ I h) fun u B ζ=>?_) ht;obtain ⟨x,g,I1,y,a,C,L,D,j,v,d,l,q⟩:=ζ;subst j;obtain rfl:u=Value.ref a:=y;refine Jc8 I1 v (c C d).1 (c C d).2 l ?_;refine W.callWith_K (first:=[.ref a]) (h₀:=X.base) I.ok.mod.kin i (thn (ha pos b B σ g _ I1 q) fun us N ⟨vs,J,I2,r,z⟩=>⟨I2.kIn,?_⟩) hst hpl;exact JfG (us:=.ref a::us) (vs:=.ref a::vs) F (hr.mono hk) p n hx I2 (.cons rfl r) (by simpa using z)
end
section
variable {ts:List TD} {F:List Str} {x:Str->Rat} {one:Str} {tb tb0:Tab} {out:List Str}
def svD (ts:List TD) (f g:Str->Option (Int × Int)) (v:Str):Int × Int:=match f v with
 | some e=>e
 | none=>addF ((g v).getD (0,1)) (enD (ssD ts) f g,1)
theorem JaQ {f g:Str->Option (Int × Int)}:(stD ts f g out).map (·.1)=out:=by
 unfold stD;rw [map_map];exact List.map_id _
theorem Jbx {f g:Str->Option (Int × Int)} (nd:out.Nodup) {v:Str} (hv:v∈out):look (stD ts f g out) v=svD ts f g v:=by
 obtain ⟨i,a⟩:=List.getElem?_of_mem hv;refine Jib (i:=i) (by rw [JaQ];exact nd) ?_;unfold stD;rw [List.getElem?_map,a];rfl
abbrev fT (tb:Tab):Str->Option (Int × Int):=fun v=>(lk tb v).map (·.1)
theorem JeK {v:Str} {e:(Int × Int) × List SpS} (h:lk tb v=some e):fT tb v=some e.1:=by
 show (lk tb v).map _=_;rw [h];rfl
theorem JhO {v:Str} (h:lk tb v=none):fT tb v=none:=by
 show (lk tb v).map _=_;rw [h];rfl
theorem Jcm {v:Str} {e:(Int × Int) × List SpS} {g:Str->Option (Int × Int)} (h:lk tb v=some e):svD ts (fT tb) g v=e.1:=by
 unfold svD;rw [JeK h]
theorem Je9 {v:Str} {q:(Int × Int) × List SpS} (h:lk tb v=none) (k:lk tb0 v=some q):svD ts (fT tb) (fT tb0) v=addF q.1 (enD (ssD ts) (fT tb) (fT tb0),1):=by
 unfold svD;rw [JhO h,JeK k];rfl
theorem JhR (hF:Jbz ts out):∀ s∈Ch.all ts,s.src∈out/\s.dst∈out:=JdT fun t a=>⟨(hF.2.2 _).mpr ⟨t,a, .inl rfl⟩,(hF.2.2 _).mpr ⟨t,a, .inr rfl⟩⟩
theorem Jku (ht:TTd ts [one] tb) (h0:TTd ts out tb0) (hF:Jbz ts out) {s:SD} (hs:s∈Ch.all ts):vl (svD ts (fT tb) (fT tb0) s.dst)<=vl (svD ts (fT tb) (fT tb0) s.src)+vl s.c:=by
 obtain ⟨o,x⟩:=JhR hF s hs;obtain ⟨p,j⟩:=(h0.ks s.src).mpr (.inl o);obtain ⟨r,i,q⟩:=h0.step hs j;have n:=h0.b2 j;have k:=h0.b2 i;have b:(1:Int)<=1:=by decide
 cases e1:lk tb s.src with
 | some e=>
  obtain ⟨v,l,h⟩:=ht.step hs e1;rw [Jcm e1,Jcm l];exact h
 | none=>
  rw [Je9 e1 j,Jc3 n b,Jg5];cases e2:lk tb s.dst with
  | some a=>
   rw [Jcm e2];have d:=en_ge (f:=fT tb) (g:=fT tb0) (ssD ts) 0 (toS (bD_ ts) s) a.1 p.1 (mem_map.mpr ⟨s,hs,rfl⟩) (JeK e2) (JhO e1) (JeK j);have d:ceilF a.1-Jbg p.1-Jbg s.c<=enD (ssD ts) (fT tb) (fT tb0):=d;have w:=Jj4 (a:=a.1) (ht.b2 e2);have y:=JeL (a:=p.1) n;have u:=JeL (a:=s.c) (ht.bb s hs).1;generalize enD (ssD ts) (fT tb) (fT tb0)=m at *;have t:(ceilF a.1:Rat)-(Jbg p.1:Rat)-(Jbg s.c:Rat)<=(m:Rat):=by exact_mod_cast d
   generalize (ceilF a.1:Rat)=A at *;generalize (Jbg p.1:Rat)=B at *;generalize (Jbg s.c:Rat)=C at *;generalize (m:Rat)=M at *;generalize vl a.1=a' at *;generalize vl p.1=b' at *;generalize vl s.c=c' at *;grind
  | none=>
   rw [Je9 e2 i,Jc3 k b,Jg5];generalize ((enD (ssD ts) (fT tb) (fT tb0):Int):Rat)=M at *;generalize vl r.1=a' at *;generalize vl p.1=b' at *;generalize vl s.c=c' at *;grind
theorem sv_b2 (ht:TTd ts [one] tb) (h0:TTd ts out tb0) {v:Str} (hv:v∈out):1<=(svD ts (fT tb) (fT tb0) v).2:=by
 cases e:lk tb v with
 | some e=>rw [Jcm ‹_›];exact ht.b2 ‹_›
 | none=>
  obtain ⟨p,a⟩:=(h0.ks v).mpr (.inl hv);rw [Je9 e a];have:=h0.b2 a;exact Mth.Jbk (Int.mul_ne_zero ∅ (show (1:Int)≠0 by decide))
theorem JjA (hg:BkG ts F x) (ht:TTd ts [one] tb) (h0:TTd ts out tb0) (hF:Jbz ts out):∀ t∈ts,okB t.lo t.hi (addF (svD ts (fT tb) (fT tb0) t.en) (negF (svD ts (fT tb) (fT tb0) t.st)))=true:=fun t a=>by
 have g:t.st∈out:=(hF.2.2 _).mpr ⟨t,a, .inl rfl⟩;have m:t.en∈out:=(hF.2.2 _).mpr ⟨t,a, .inr rfl⟩;have j:=sv_b2 ht h0 g;have i:=sv_b2 ht h0 m;have d:=hg.ok t a;have st:=fun s (n:s∈Ch.steps t)=>Jku ht h0 hF (s:=s) (List.mem_flatMap.mpr ⟨t,a,n⟩);generalize svD ts (fT tb) (fT tb0)=sv at *;have b:1<=(addF (sv t.en) (negF (sv t.st))).2:=Mth.Jbk (Int.mul_ne_zero ∅ (by show (sv t.st).2≠0;ac_nf));have c:vl (addF (sv t.en) (negF (sv t.st)))=vl (sv t.en)-vl (sv t.st):=by
  rw [Jc3 i (show 1<=(negF (sv t.st)).2 from j),JcI,Rat.sub_eq_add_neg]
 unfold okB;rw [Bool.and_eq_true];constructor
 ·cases e:t.lo with
  | none=>rfl
  | some l=>
   have k:=(d.lo l e).b1;have:=st ⟨t.en,t.st,(-l.1,l.2),t.nm,false⟩ (by unfold Ch.steps bwd;rw [e];simp);have this : vl (sv t.st)<=vl (sv t.en)+vl (negF l):=this;rw [JcI] at this;show (!lessF (addF (sv t.en) (negF (sv t.st))) l)=true;cases z:lessF (addF (sv t.en) (negF (sv t.st))) l with
   | false=>rfl
   | true=>
    have h:=(JcS b k).mp z;rw [c] at h;refine absurd h (Rat.not_lt.mpr ?_);grind
 ·cases e:t.hi with
  | none=>rfl
  | some u=>
   have f:=(d.hi u e).b1;have:=st ⟨t.st,t.en,u,t.nm,true⟩ (by unfold Ch.steps fwd;rw [e];simp);have this : vl (sv t.en)<=vl (sv t.st)+vl u:=this;show (!lessF u (addF (sv t.en) (negF (sv t.st))))=true;cases z:lessF u (addF (sv t.en) (negF (sv t.st))) with
   | false=>rfl
   | true=>
    have h:=(JcS f b).mp z;rw [c] at h;refine absurd h (Rat.not_lt.mpr ?_);grind
theorem Jia {e:Int × Int} (h:Lo e):Lo (negF e):=⟨h.b1,by
 have:=h.g1;unfold negF;rw [Mth.g_neg];exact this⟩
theorem lo01:Lo (0,1):=⟨by decide,by decide⟩
theorem sub0 {e:Int × Int} (h:Lo e):subF (0,1) e=negF e:=Lo.inj (Jh9 (JgU (show (1:Int)<=1 by decide) h.b1)) (Jia h) (by
 rw [Jlw (show (1:Int)<=1 by decide) h.b1,Jd9,JcI];grind)
theorem add0r {e:Int × Int} (h:Lo e):addF e (negF (0,1))=e:=Lo.inj (Jh9 (JgU h.b1 (show (1:Int)<=1 by decide))) h (by
 rw [Jc3 h.b1 (show (1:Int)<=1 by decide),JcI,Jd9];grind)
theorem add0l {e:Int × Int} (h:Lo e):addF (0,1) (negF e)=negF e:=Lo.inj (Jh9 (JgU (show (1:Int)<=1 by decide) h.b1)) (Jia h) (by
 rw [Jc3 (show (1:Int)<=1 by decide) (show 1<=(negF e).2 from h.b1),JcI,Jd9];grind)
theorem TTd.lo {fs:List Str} {v:Str} {e:(Int × Int) × List SpS} (h:TTd ts fs tb) (hfb:∀ s∈Ch.all ts,FB 200 9 s.c) (hl:(Ch.all ts).length<=70) (he:lk tb v=some e):Lo e.1:=(h.fb hfb hl he).lo
theorem Jk7 (hb:∀ s∈Ch.all ts,1<=s.c.2) (hpot:∀ s∈Ch.all ts,x s.dst<=x s.src+vl s.c) {f v:Str} {l:List SpS} (h:Wk (ssD ts) f l v):x v<=x f+vl (cs l)/\1<=(cs l).2:=by
 induction h with
 | nil=>
  refine ⟨?_,by decide⟩;show x f<=x f+vl (0,1);rw [Jd9];grind
 | @snoc l s _ hs ih=>
  obtain ⟨y,b,rfl⟩:=mem_map.mp hs;have g:=hpot y b;have d:=hb y b;obtain ⟨a,e⟩:=ih;rw [Jf1];refine ⟨?_,Mth.Jbk (Int.mul_ne_zero ∅ (by show y.c.2≠0;ac_nf))⟩;rw [Jc3 e (show 1<=(toS (bD_ ts) y).cost.2 from d)];have a:x y.src<=x f+vl (cs l):=a;show x y.dst<=x f+(vl (cs l)+vl y.c);grind
theorem TTd.pot {f v:Str} {e:(Int × Int) × List SpS} (h:TTd ts [f] tb) (hpot:∀ s∈Ch.all ts,x s.dst<=x s.src+vl s.c) (he:lk tb v=some e):x v<=x f+vl e.1:=by
 have:=(Jk7 (fun s a=>(h.bb s a).1) hpot (h.root he)).1
 rwa [<- (h.ent he).1] at this
end
def faceM:List Str:=[Str.ofString "p",Str.ofString "pa",Str.ofString "pab",Str.ofString "qab",Str.ofString "qa",Str.ofString "apab",Str.ofString "paba",Str.ofString "ab"]
theorem JgJ {k:Nat} {z:Str} (h:faceM[k]?=some z):nameS z=true:=(show ∀ z∈faceM,nameS z=true by decide) z (List.mem_of_getElem? h)
theorem JhP:∀ j,j<8->∀ k,k<8->faceM[j]?=faceM[k]?->j=k:=by decide
theorem JdJ {j k:Nat} {z:Str} (h:faceM[j]?=some z) (g:faceM[k]?=some z):j=k :=
 JhP j (List.getElem?_eq_some_iff.mp h).1 k (List.getElem?_eq_some_iff.mp g).1 (h.trans g.symm)
theorem JgI:∀ l:List Str,depL (l.map D.str)=0
 | []=>by simp [depL]
 | r::l=>by
  simp only [map_cons,depL,depD,JgI l];rfl
theorem JfD {K:W.Frag} {H:Hp}:∀ l:List Str,RepL K H (l.map D.str) (l.map V.str)
 | []=>by simp only [map_nil,RepL]
 | r::l=>by
  simp only [map_cons,RepL,Rep];exact ⟨_,_,rfl,rfl,JfD l⟩
theorem JfE {K:W.Frag} {H:Hp} {a:Addr} {l:List Str} (h:SqL K H a (l.map V.str)):Rep K H (.lst (l.map D.str)) (.ref a):=by
 simp only [Rep];exact ⟨_,_,rfl,h,JfD l⟩
theorem sv_fb {ts:List TD} {F:List Str} {x:Str->Rat} {one:Str} {tb tb0:Tab} {out:List Str} (hg:BkG ts F x) (ht:TTd ts [one] tb) (h0:TTd ts out tb0) {v:Str} (hv:v∈out):FB 1711 701 (svD ts (fT tb) (fT tb0) v):=by
 cases e:lk tb v with
 | some e'=>rw [Jcm e];exact (ht.fb hg.fb hg.l70 e).mono ⋯ ⋯
 | none=>
  obtain ⟨p,i⟩:=(h0.ks v).mpr (.inl hv);rw [Je9 e i];have j:∀ (t:Tab) (d:List Str),TTd ts d t->∀ v e,fT t v=some e->FB 1000 700 e:=fun t d h v e r=>by
   obtain ⟨a,c,o⟩:=Option.map_eq_some_iff.mp r;rw [<- o];exact h.fb hg.fb hg.l70 c
  have b:=en_lt (f:=fT tb) (g:=fT tb0) (j _ _ ht) (j _ _ h0) (ssD ts) 0 (fun s u=>by obtain ⟨y,k,rfl⟩:=mem_map.mp u;exact (hg.fb y k).mono ⋯ ⋯) (Int.le_refl _) (by exact_mod_cast Nat.two_pow_pos 1010);have b:0<=enD (ssD ts) (fT tb) (fT tb0)/\enD (ssD ts) (fT tb) (fT tb0)<2 ^ 1010:=b;generalize enD (ssD ts) (fT tb) (fT tb0)=m at *;have l:FB 1010 1 ((m,1):Int × Int):=⟨by
   unfold Mth.Sz;have c:=b.2;have q:((2 ^ 1010:Nat):Int)=(2:Int) ^ 1010:=by norm_cast
   rw [<- q] at c;have h0:=b.1;show m.natAbs<_;generalize (2 ^ 1010:Nat)=C at *;ac_nf,by show (1:Int).natAbs<2 ^ 1;decide,by show (1:Int)<=1;decide,by unfold Mth.g;simp⟩
  exact FB.add (n:=1710) (m:=701) (h0.fb hg.fb hg.l70 i) l ⋯ ⋯ ⋯
theorem Jjx {α : Type}:∀ (fs:List Str) (ls:List α) (i:Nat) (f:Str) (a : α),fs.Nodup->fs[i]?=some f->ls[i]?=some a->lk (fs.zip ls) f=some a
 | [],_,i,f,a,_,h,_=>by simp at h
 | _::_,[],i,f,a,_,_,h=>by simp at h
 | f0::fs,l0::ls,0,f,a,_,h,k=>by
  cases h;cases k;rw [List.zip_cons_cons];exact if_pos rfl
 | f0::fs,l0::ls,i+1,f,a,nd,h,k=>by
  rw [List.getElem?_cons_succ] at h k;rw [nodup_cons] at nd;rw [List.zip_cons_cons];unfold lk;rw [if_neg (fun (e:f0=f)=>nd.1 (e ▸ List.mem_of_getElem? h))];exact Jjx fs ls i f a nd.2 h k
def plcM (ls:List (Int × Int)) (f:Str):Rat:=((lk (faceM.zip ls) f).map vl).getD 0
theorem JeY {ls:List (Int × Int)} {i:Nat} {f:Str} {a:Int × Int} (h:faceM[i]?=some f) (k:ls[i]?=some a):plcM ls f=vl a:=by
 unfold plcM;rw [Jjx faceM ls i f a ⋯ h k];rfl
structure TG3 (ls:List (Int × Int)) (t:TD):Prop where
 ok:TOk t
 ex:∃ (i j:Nat) (li lj:Int × Int),faceM[i]?=some t.st/\faceM[j]?=some t.en/\ls[i]?=some li/\ls[j]?=some lj/\okB t.lo t.hi (addF lj (negF li))=true
 lo:∀ u,t.lo=some u->FB 148 9 u
 hi:∀ u,t.hi=some u->FB 148 9 u
theorem TG3.fb {ls:List (Int × Int)} {t:TD} (h:TG3 ls t):∀ s∈Ch.steps t,FB 200 9 s.c:=fun s a=>by
 unfold Ch.steps fwd bwd at a;rcases mem_append.mp a with a | a
 ·cases e:t.hi with
  | none=>rw [e] at a;cases a
  | some u=>
   rw [e] at a;rw [mem_singleton.mp a];exact (h.hi u e).mono ⋯ ⋯
 ·cases e:t.lo with
  | none=>rw [e] at a;cases a
  | some u=>
   rw [e] at a;rw [mem_singleton.mp a];exact ((h.lo u e).neg).mono ⋯ ⋯
theorem TG3.pot {ls:List (Int × Int)} {t:TD} (hb:∀ l∈ls,1<=l.2) (h:TG3 ls t):∀ s∈Ch.steps t,plcM ls s.dst<=plcM ls s.src+vl s.c:=fun s a=>by
 obtain ⟨i,j,b,d,v,y,r,k,f⟩:=h.ex;have x:=hb b (List.mem_of_getElem? r);have w:=hb d (List.mem_of_getElem? k);have p:1<=(addF d (negF b)).2:=Mth.Jbk (Int.mul_ne_zero ∅ (by show b.2≠0;ac_nf));have m:vl (addF d (negF b))=vl d-vl b:=by
  rw [Jc3 w (show 1<=(negF b).2 from x),JcI,Rat.sub_eq_add_neg]
 have q:=JeY v r;have o:=JeY y k;unfold okB at f;rw [Bool.and_eq_true] at f;unfold Ch.steps fwd bwd at a;rcases mem_append.mp a with a | a
 ·cases e:t.hi with
  | none=>rw [e] at a;cases a
  | some u=>
   rw [e] at a f;rw [mem_singleton.mp a];show plcM ls t.en<=plcM ls t.st+vl u;rw [q,o];have n:¬ vl u<vl (addF d (negF b)):=fun z=>by
    have:=(JcS (h.hi u e).b1 p).mpr z;have g:(!lessF u (addF d (negF b)))=true:=f.2;rw [this] at g;cases g
   rw [m] at n;have n:=Rat.not_lt.mp n;grind
 ·cases e:t.lo with
  | none=>rw [e] at a;cases a
  | some u=>
   rw [e] at a f;rw [mem_singleton.mp a];show plcM ls t.st<=plcM ls t.en+vl (negF u);rw [q,o,JcI];have n:¬ vl (addF d (negF b))<vl u:=fun z=>by
    have:=(JcS p (h.lo u e).b1).mpr z;have g:(!lessF (addF d (negF b)) u)=true:=f.1;rw [this] at g;cases g
   rw [m] at n;have n:=Rat.not_lt.mp n;grind
theorem Jh2:∀ {ts:List TD},(ts.map (·.nm)).Nodup->((Ch.all ts).map key).Nodup
 | [],_=>by simp [Ch.all]
 | t::ts,h=>by
  rw [map_cons,nodup_cons] at h;have e:Ch.all (t::ts)=Ch.steps t++Ch.all ts:=by simp [Ch.all]
  rw [e,map_append];refine nodup_append.mpr ⟨?_,Jh2 h.2,fun a ha b hb z=>?_⟩
  ·unfold Ch.steps fwd bwd;cases t.hi <;> cases t.lo <;> simp [key]
  ·obtain ⟨s,hs,rfl⟩:=mem_map.mp ha;obtain ⟨s',hs',rfl⟩:=mem_map.mp hb;obtain ⟨t',ht',hs''⟩:=List.mem_flatMap.mp (show s'∈ts.flatMap Ch.steps from hs');have e1:=JeP hs;have e2:=JeP hs'';have e3:s.nm=s'.nm:=congrArg (·.1) z;exact h.1 (mem_map.mpr ⟨t',ht',by rw [<- e2, <- e3,e1]⟩)
theorem Jj8 {ts:List TD} (h:∀ (j:Nat) (t:TD),ts[j]?=some t->t.nm=⟨#[97+j/6,97+j % 6]⟩):(nms ts).Nodup:=by
 refine List.pairwise_iff_getElem.mpr fun i j b a c e=>?_;unfold nms at b a e;rw [length_map] at b a;rw [List.getElem_map,List.getElem_map,h i _ (List.getElem?_eq_getElem b),h j _ (List.getElem?_eq_getElem a)] at e;simp at e;ac_nf
theorem Jjj {P:SD->Prop} {ts:List TD} (h:∀ t∈ts, ∀ s∈Ch.steps t,P s):∀ s∈Ch.all ts,P s:=fun s a=>by
 obtain ⟨t,b,a⟩:=List.mem_flatMap.mp (show s∈ts.flatMap Ch.steps from a);exact h t b s a
theorem JkA {ls:List (Int × Int)} {ts:List TD} (hb:∀ l∈ls,1<=l.2) (h:∀ t∈ts,TG3 ls t) (hl:ts.length<=35):BkG ts faceM (plcM ls) where
 l35:=hl
 ok:=fun t a=>(h t a).ok
 fb:=Jjj fun t a=>(h t a).fb
 f8:=by decide
 fm:=fun t a=>by
  obtain ⟨i,j,_,_,c,b,_⟩:=(h t a).ex;exact ⟨List.mem_of_getElem? c,List.mem_of_getElem? b⟩
 pot:=Jjj fun t a=>(h t a).pot hb
theorem JhQ {ls:List (Int × Int)} {ts:List TD} (h:∀ t∈ts,TG3 ls t) {z:Str} (hz:∃ t∈ts,z=t.st\/z=t.en):∃ (i:Nat) (l:Int × Int),faceM[i]?=some z/\ls[i]?=some l:=by
 obtain ⟨t,c,e⟩:=hz;obtain ⟨i,j,f,d,k,a,b,g,_⟩:=(h t c).ex;rcases e with rfl | rfl
 ·exact ⟨i,f,k,b⟩
 ·exact ⟨j,d,a,g⟩
theorem JjX {ts:List TD} {F:List Str} {x:Str->Rat} {one other:Str} {tb1 tb2:Tab} {a:Int × Int} (hg:BkG ts F x) (h1:TTd ts [one] tb1) (h2:TTd ts [other] tb2) (ha:1<=a.2) (e:vl a=x other-x one):okB ((lk tb2 one).map fun e=>subF (0,1) e.1) ((lk tb1 other).map (·.1)) a=true:=by
 unfold okB;rw [Bool.and_eq_true];constructor
 ·cases e2:lk tb2 one with
  | none=>rfl
  | some q=>
   have b:=h2.lo hg.fb hg.l70 e2;have:=h2.pot hg.pot e2;show (!lessF a (subF (0,1) q.1))=true;rw [sub0 b];cases z:lessF a (negF q.1) with
   | false=>rfl
   | true=>
    have h:=(JcS ha (Jia b).b1).mp z;rw [e,JcI] at h;refine absurd h (Rat.not_lt.mpr ?_);grind
 ·cases e1:lk tb1 other with
  | none=>rfl
  | some q=>
   have b:=h1.lo hg.fb hg.l70 e1;have:=h1.pot hg.pot e1;show (!lessF q.1 a)=true;cases z:lessF q.1 a with
   | false=>rfl
   | true=>
    have h:=(JcS b.b1 ha).mp z;rw [e] at h;refine absurd h (Rat.not_lt.mpr ?_);grind
def qD (p:Str × (Int × Int)):D:=.tup [.str p.1,frD p.2]
theorem Jjp:∀ l:List (Str × (Int × Int)),depL (l.map qD)<=2
 | []=>by simp [depL]
 | s::l=>by
  have:=Jjp l;rw [map_cons,depL];have e:depD (qD s)=2:=by simp [qD,depD,depL,frD]
  ac_nf
theorem JhJ:∀ l:List SpS,depL (l.map fun s=>prD (s.nm,s.fw))<=1
 | []=>by simp [depL]
 | s::l=>by
  have:=JhJ l;rw [map_cons,depL];have e:depD (prD (s.nm,s.fw))=1:=by simp [prD,depD,depL]
  ac_nf
theorem JhK:∀ l:List TD,depL (l.map tdD)<=3
 | []=>by simp [depL]
 | t::l=>by
  have:=JhK l;rw [map_cons,depL];have e:depD (tdD t)<=3:=by
   have hb:∀ o:Option (Int × Int),depD (bD o)<=1:=fun o=>by cases o <;> simp [bD,depD,frD,depL]
   have h1:=hb t.lo;have h2:=hb t.hi;simp only [tdD,depD,depL];ac_nf
  ac_nf
def shD (e:(Int × Int) × List SpS) (pl:List (Str × (Int × Int))):D:=.tup [frD e.1, .lst (e.2.map fun s=>prD (s.nm,s.fw)), .lst (pl.map qD)]
theorem JkG (e:(Int × Int) × List SpS) (pl:List (Str × (Int × Int))):depD (shD e pl)<=50:=by
 have:=JhJ e.2;have:=Jjp pl;simp only [shD,depD,depL,frD];ac_nf
theorem QV.rep {K:W.Frag} {H:Hp} {p:Str × (Int × Int)} {x:V} (h:QV K H p x):Rep K H (qD p) x:=by
 obtain ⟨b,v,rfl,c,d⟩:=h;have a:=d.rep;simp only [qD,Rep,RepL,frD] at a ⊢;exact ⟨_,_,rfl,SqT.of c,_,_,rfl,rfl,_,_,rfl,a,rfl⟩
theorem fT_eq {ts:List TD} {fs:List Str} {tb tb':Tab} (h:TTd ts fs tb) (k:TTd ts fs tb'):fT tb=fT tb':=funext fun v=>by
 show (lk tb v).map _=(lk tb' v).map _;rw [h.uniq k]
theorem JjO {xs:List V}:(cutV xs (some 9) (some 41)).length<=32:=by
 unfold cutV;rw [show (some (9:Int))=some ((9:Nat):Int) from rfl,show (some (41:Int))=some ((41:Nat):Int) from rfl,HT.sIx_nat,HT.sIx_nat,length_take];ac_nf
end L2
open PySem L2
local macro_rules|`(tactic|rename_i $p:ident $h:ident $q:ident $H:ident $G:ident $S:ident $e:ident)=>`(tactic|(intro $p:ident $h:ident;generalize $q:ident:upd $H $p _=$G;have $S:ident:=newS $h $q;have $e:ident:=newE $q))
local macro_rules|`(tactic|bv_decide)=>`(tactic|exact ⟨rfl,rfl,rfl,by decide +kernel,rfl,by decide +kernel,by decide +kernel⟩)
local macro_rules|`(tactic|simpa! only [$xs,*])=>`(tactic|simp only [y4fy,y50y,y51y,y74y,y2by,y6fy,y82y,y83y,y47y,y2ey,y7by,y95y,y30y,y3cy,y75y,y2fy,y8by,y23y,y29y,y7cy,y77y,y2ay,y7dy,y79y,y5dy,y97y,y26y,y89y,y73y,y6cy,y4cy,y6by,y80y,y33y,y4ay,y71y,y4by,y72y,y49y,y70y,y90y,y67y,y63y,y92y,y94y,y91y,y93y,y25y,y6ay,y24y,true_and,if_true,if_false,Bool.not_true,Bool.not_false,Bool.false_eq_true,yby,ydy,yay,ycy,yey,y15y,y17y,y14y,y16y,y18y,y6y,y8y,y5y,y7y,y9y,y1y,y3y,y0y,y2y,y4y,y10y,y12y,yfy,y11y,y13y,y1ay,y1cy,y19y,y1by,y1dy,y1fy,y21y,y1ey,y20y,y22y,y87y,y7fy,y76y,y31y,y32y,y57y,y65y,y66y,y4ey,y88y,y8ey,y98y,y81y,y27y,V.int.injEq,V.str.injEq,List.set_cons_zero,List.set_cons_succ,List.getElem?_cons_zero,List.getElem?_cons_succ,Option.some.injEq,exists_eq_left,exists_eq_left',V.bl.injEq,Int.reduceToNat,Int.reducePow,append_nil,nil_append,cons_append,y59y,y5by,y2cy,y2dy,y6dy,y62y,y78y,y68y,y69y,y3dy,y3ey,y3fy,y46y,y48y,y41y,y7ey,y43y,y42y,y34y,y36y,y3ay,y40y,y44y,y54y,y56y,y5ey,y38y,y8dy,y8ay,y37y,y9ay,y52y,y53y,y96y,y45y,reduceCtorEq,decide_false,decide_true,$xs,*])
local macro_rules|`(tactic|infer_instance)=>`(tactic|simpa! only [y85y])
local macro_rules|`(tactic|contradiction)=>`(tactic|simpa! only [y85y,y4dy])
local macro_rules|`(tactic|ac_rfl)=>`(tactic|simpa! only [y85y,y86y])
local macro_rules|`(tactic|symm_saturate)=>`(tactic|((try simpa! only [y4dy,y86y]);repeat ((first | (with_reducible refine Je5 fun _ _=>?_) | (with_reducible refine Nxt.go (by assumption) ?_));(try simpa! only [y4dy,y86y]))))
local macro_rules|`(tactic|exfalso)=>`(tactic|((try simpa! only [y86y]);repeat ((first | (with_reducible refine Je5 fun _ _=>?_) | (with_reducible refine Nxt.go (by assumption) ?_));(try simpa! only [y86y]))))
local macro_rules|`(tactic|and_intros)=>`(tactic|((try simpa! only [y4dy]);repeat ((first | (with_reducible refine Je5 fun _ _=>?_) | (with_reducible refine Nxt.go (by assumption) ?_));(try simpa! only [y4dy]))))
local macro_rules|`(tactic|nofun)=>`(tactic|((try simpa! only [true_and]);repeat ((first | (with_reducible refine Je5 fun _ _=>?_) | (with_reducible refine Nxt.go (by assumption) ?_));(try simpa! only [true_and]))))
local macro_rules|`(tactic|simpa only [$xs,*])=>`(tactic|simpa! only [y85y, $xs,*])
namespace Prg
open PySem L2 Ch
variable {f:Addr} {fd:FuncData} {dV:Value}
def top (i:Nat):Stmt:=PySem.Challenge.pw_slackchain_k33_whole_gaps_shown.main.body.getD i (.Pass ⟨0,0,0,0⟩)
structure Adr where
 NoTie:Addr
 Tie:Addr
 Free:Addr
 AtLeast:Addr
 AtMost:Addr
 Just:Addr
 Between:Addr
 Scale:Addr
 Step:Addr
 Book:Addr
 SMALL_LETTERS:Value
 LONGEST_NAME:Value
 ZERO:Addr
structure TieC (K:W.Frag) (C:Addr):Prop where
 cls:Cls K C
 n1:Jba K C "name"
 n2:Jba K C "start"
 n3:Jba K C "end"
 n4:Jba K C "least"
 n5:Jba K C "greatest"
def IsTie (Ad:Adr) (C:Addr):Prop:=C=Ad.Free\/C=Ad.AtLeast\/C=Ad.AtMost\/C=Ad.Just\/C=Ad.Between
def TieV (H:Hp) (v:V) (C:Addr) (n s e l g:V):Prop:=∃ p dx,v=.ref p/\H p=some (.ins C dx (tieF n s e l g))
def kindC (Ad:Adr) (l g:D):Addr:=if nonD l then (if nonD g then Ad.Free else Ad.AtMost) else if nonD g then Ad.AtLeast else if eqD l g then Ad.Just else Ad.Between
theorem Jh3 (Ad:Adr) (l g:D):IsTie Ad (kindC Ad l g):=by
 unfold kindC IsTie;split
 ·split
  ·exact .inl rfl
  ·exact .inr (.inr (.inl rfl))
 ·split
  ·exact .inr (.inl rfl)
  ·split
   ·exact .inr (.inr (.inr (.inl rfl)))
   ·exact .inr (.inr (.inr (.inr rfl)))
structure Jkz (K:W.Frag) (C:Addr):Prop where
 cls:Cls K C
 n1:Jba K C "bottom"
 n2:Jba K C "factors"
def JfV (Ad:Adr) (C:Addr):Prop:=C=Ad.Scale
structure StepC (K:W.Frag) (C:Addr):Prop where
 cls:Cls K C
 n1:Jba K C "source"
 n2:Jba K C "target"
 n3:Jba K C "cost"
 n4:Jba K C "whole"
 n5:Jba K C "pair"
def Jky (Ad:Adr) (C:Addr):Prop:=C=Ad.Step
theorem SqT.put {K:W.Frag} {H:Hp} {x a C dx:Addr} {fs fs':List (Str × V)} {xs:List V} (hx:H x=some (.ins C dx fs)) (h:SqT K H a xs):SqT K (upd H x (.ins C dx fs')) a xs:=by
 rcases h with (h | ⟨o,h⟩) | h
 ·exact .inl (.inl (by rw [Jai (ne_of h hx (by intro z;cases z))];exact h))
 ·exact .inl (.inr ⟨o,by rw [Jai (ne_of h hx (by intro z;cases z))];exact h⟩)
 ·exact .inr h
def partF (n s e z m w:V):List (Str × V):=[("name",n),("start",s),("end",e),("size",z),("most",m),("weight",w)]
def gapF (n s e l g:V):List (Str × V):=[("name",n),("one",s),("other",e),("low",l),("high",g)]
theorem TieV.same {H H':Hp} {v:V} {C:Addr} {n s e l g:V} (S:Same H H') (h:TieV H v C n s e l g):TieV H' v C n s e l g:=by
 obtain ⟨p,c,a,b⟩:=h;exact ⟨p,c,a,S _ _ b⟩
structure BookC (K:W.Frag) (C:Addr):Prop where
 cls:Cls K C
 n1:Jba K C "by_name"
def JaS (Ad:Adr) (C:Addr):Prop:=C=Ad.Book
structure Txt (K:W.Frag) (mg:Str->Option Value) (Ad:Adr):Prop where
 Bcd:mg "abs"=none
 Bal:mg "isinstance"=none
 BbC:mg "len"=none
 Bcm:mg "all"=none
 Bce:mg "int"=none
 Bcl:mg "bool"=none
 BbR:mg "tuple"=none
 Bcn:mg "str"=none
 BbS:mg "range"=none
 Bb5:mg "list"=none
 n_reversed:mg "reversed"=none
 BbT:mg "sorted"=none
 n_set:mg "set"=none
 n_max:mg "max"=none
 n_dict:mg "dict"=none
 m_NoTie:mg "NoTie"=some (.ref Ad.NoTie)
 m_Tie:mg "Tie"=some (.ref Ad.Tie)
 m_Free:mg "Free"=some (.ref Ad.Free)
 m_AtLeast:mg "AtLeast"=some (.ref Ad.AtLeast)
 m_AtMost:mg "AtMost"=some (.ref Ad.AtMost)
 m_Just:mg "Just"=some (.ref Ad.Just)
 m_Between:mg "Between"=some (.ref Ad.Between)
 Bco:mg "Scale"=some (.ref Ad.Scale)
 m_Step:mg "Step"=some (.ref Ad.Step)
 m_Book:mg "Book"=some (.ref Ad.Book)
 BbK:mg "SMALL_LETTERS"=some Ad.SMALL_LETTERS
 BbL:RelV (.str "abcdefghijklmnopqrstuvwxyz") Ad.SMALL_LETTERS
 BbO:mg "LONGEST_NAME"=some Ad.LONGEST_NAME
 BbP:RelV (.int 8) Ad.LONGEST_NAME
 Bca:mg "ZERO"=some (.ref Ad.ZERO)
 Bcb:RelV (.ref Ad.ZERO) (.ref Ad.ZERO)
 Bb6:∀ H:Hp,SqT K H Ad.ZERO [.int 0, .int 1]
 x_NoTie:W.excIn K Ad.NoTie [.type "ValueError", .type "Exception", .type "BaseException", .type "object"] "ValueError.__new__"=true
 cl1_Free:W.plainGet K Ad.Free Str.empty=true
 cl2_Free:W.hasDictIn K Ad.Free=true
 cl3_Free:W.plainOver K Ad.Free=true
 cl4_Free:W.findIn K (.ref Ad.Free) "__setattr__"=some (some (.builtin "object.__setattr__"))
 na1_Free:W.findIn K (.ref Ad.Free) "name"=some none
 na2_Free:W.findIn K (.ref Ad.Free) "start"=some none
 na3_Free:W.findIn K (.ref Ad.Free) "end"=some none
 na4_Free:W.findIn K (.ref Ad.Free) "least"=some none
 na5_Free:W.findIn K (.ref Ad.Free) "greatest"=some none
 cl1_AtLeast:W.plainGet K Ad.AtLeast Str.empty=true
 cl2_AtLeast:W.hasDictIn K Ad.AtLeast=true
 cl3_AtLeast:W.plainOver K Ad.AtLeast=true
 cl4_AtLeast:W.findIn K (.ref Ad.AtLeast) "__setattr__"=some (some (.builtin "object.__setattr__"))
 na1_AtLeast:W.findIn K (.ref Ad.AtLeast) "name"=some none
 na2_AtLeast:W.findIn K (.ref Ad.AtLeast) "start"=some none
 na3_AtLeast:W.findIn K (.ref Ad.AtLeast) "end"=some none
 na4_AtLeast:W.findIn K (.ref Ad.AtLeast) "least"=some none
 na5_AtLeast:W.findIn K (.ref Ad.AtLeast) "greatest"=some none
 cl1_AtMost:W.plainGet K Ad.AtMost Str.empty=true
 cl2_AtMost:W.hasDictIn K Ad.AtMost=true
 cl3_AtMost:W.plainOver K Ad.AtMost=true
 cl4_AtMost:W.findIn K (.ref Ad.AtMost) "__setattr__"=some (some (.builtin "object.__setattr__"))
 na1_AtMost:W.findIn K (.ref Ad.AtMost) "name"=some none
 na2_AtMost:W.findIn K (.ref Ad.AtMost) "start"=some none
 na3_AtMost:W.findIn K (.ref Ad.AtMost) "end"=some none
 na4_AtMost:W.findIn K (.ref Ad.AtMost) "least"=some none
 na5_AtMost:W.findIn K (.ref Ad.AtMost) "greatest"=some none
 cl1_Just:W.plainGet K Ad.Just Str.empty=true
 cl2_Just:W.hasDictIn K Ad.Just=true
 cl3_Just:W.plainOver K Ad.Just=true
 cl4_Just:W.findIn K (.ref Ad.Just) "__setattr__"=some (some (.builtin "object.__setattr__"))
 na1_Just:W.findIn K (.ref Ad.Just) "name"=some none
 na2_Just:W.findIn K (.ref Ad.Just) "start"=some none
 na3_Just:W.findIn K (.ref Ad.Just) "end"=some none
 na4_Just:W.findIn K (.ref Ad.Just) "least"=some none
 na5_Just:W.findIn K (.ref Ad.Just) "greatest"=some none
 cl1_Between:W.plainGet K Ad.Between Str.empty=true
 cl2_Between:W.hasDictIn K Ad.Between=true
 cl3_Between:W.plainOver K Ad.Between=true
 cl4_Between:W.findIn K (.ref Ad.Between) "__setattr__"=some (some (.builtin "object.__setattr__"))
 na1_Between:W.findIn K (.ref Ad.Between) "name"=some none
 na2_Between:W.findIn K (.ref Ad.Between) "start"=some none
 na3_Between:W.findIn K (.ref Ad.Between) "end"=some none
 na4_Between:W.findIn K (.ref Ad.Between) "least"=some none
 na5_Between:W.findIn K (.ref Ad.Between) "greatest"=some none
 Bbm:W.plainGet K Ad.Scale Str.empty=true
 Bbn:W.hasDictIn K Ad.Scale=true
 Bbo:W.plainOver K Ad.Scale=true
 Bbp:W.findIn K (.ref Ad.Scale) "__setattr__"=some (some (.builtin "object.__setattr__"))
 Bbq:W.findIn K (.ref Ad.Scale) "bottom"=some none
 Bbr:W.findIn K (.ref Ad.Scale) "factors"=some none
 cl1_Step:W.plainGet K Ad.Step Str.empty=true
 cl2_Step:W.hasDictIn K Ad.Step=true
 cl3_Step:W.plainOver K Ad.Step=true
 cl4_Step:W.findIn K (.ref Ad.Step) "__setattr__"=some (some (.builtin "object.__setattr__"))
 na1_Step:W.findIn K (.ref Ad.Step) "source"=some none
 na2_Step:W.findIn K (.ref Ad.Step) "target"=some none
 na3_Step:W.findIn K (.ref Ad.Step) "cost"=some none
 na4_Step:W.findIn K (.ref Ad.Step) "whole"=some none
 na5_Step:W.findIn K (.ref Ad.Step) "pair"=some none
 bk1:W.plainGet K Ad.Book Str.empty=true
 bk2:W.hasDictIn K Ad.Book=true
 bk3:W.plainOver K Ad.Book=true
 bk4:W.findIn K (.ref Ad.Book) "__setattr__"=some (some (.builtin "object.__setattr__"))
 bkn:W.findIn K (.ref Ad.Book) "by_name"=some none
 tie:∀ C,IsTie Ad C->TieC K C
 BbU:∀ C,JfV Ad C->Jkz K C
 c_Step:∀ C,Jky Ad C->StepC K C
 book:∀ C,JaS Ad C->BookC K C
def Jlx (dl dg:D) (a b:Int):Bool:=!lessD (.tup [.int a, .int b]) dl&&!lessD dg (.tup [.int a, .int b])
def negD:D->D
 | .tup [.int a, .int b]=>.tup [.int (-a), .int b]
 | d=>d
def Jd5 (ds de dl dg:D):List D:=(if nonD dg then [] else [.tup [ds,de,dg, .bl true]])++(if nonD dl then [] else [.tup [de,ds,negD dl, .bl false]])
structure Bnd (K:W.Frag) (H:Hp) (d:D) (v:V):Prop where
 rep:Rep K H d v
 ok:Jco d=true
 sz:szD d
theorem Bnd.same {K:W.Frag} {H H':Hp} {d:D} {v:V} (S:Same H H') (b:Bnd K H d v):Bnd K H' d v:=⟨b.rep.same S,b.ok,b.sz⟩
theorem Bnd.frac {K:W.Frag} {H:Hp} {d:D} {v:V} (b:Bnd K H d v) (h:nonD d=false):∃ x y,d=.tup [.int x, .int y]/\1<=y/\Mth.g x y=1/\FrV K H v x y/\Mth.Sz 4000 x/\Mth.Sz 4000 y:=by
 have f:fracB d=true:=by have:=b.ok;cases d <;> first | exact this | (simp [nonD] at h)
 obtain ⟨x,y,rfl,e,c⟩:=Jb5 f;have a:=b.sz;simp only [szD,szL] at a;exact ⟨x,y,rfl,e,c,FrV.of_rep b.rep,a.1,a.2.1⟩
section
variable {K:W.Frag} {H:Hp}
theorem repS {z:Str}:Rep K H (.str z) (.str z):=by simp only [Rep]
end
theorem Jjg (t:TD):Jd5 (.str t.st) (.str t.en) (bD t.lo) (bD t.hi)=(Ch.steps t).map pD:=by
 unfold Jd5 Ch.steps fwd bwd;cases t.lo <;> cases t.hi <;> simp [bD,frD,nonD,negD,pD]
theorem Jjl {K:W.Frag} {H:Hp} {o:Option (Int × Int)} {v:V} (h:BV K H o v) (k:∀ a,o=some a->FOk 600 a):Bnd K H (bD o) v:=⟨h.rep,(bD_ok k).1,(bD_ok k).2⟩
def OV (K:W.Frag) (Ad:Adr) (H:Hp) (t:TD) (v:V):Prop:=∃ C vl vg,TieV H v C (.str t.nm) (.str t.st) (.str t.en) vl vg/\IsTie Ad C/\BV K H t.lo vl/\BV K H t.hi vg
theorem OV.same {K:W.Frag} {Ad:Adr} {H H':Hp} {t:TD} {v:V} (S:Same H H'):OV K Ad H t v->OV K Ad H' t v:=by rintro ⟨C,vl,c,e,a,b,d⟩;exact ⟨C,vl,c,e.same S,a,b.sameT S.t,d.sameT S.t⟩
section
variable {K:W.Frag} {Ad:Adr} {H H':Hp} {p d:Addr} {kvs:List (Key × V)} {ts:List TD}
def Sx (d:Addr) (H H':Hp):Prop:=∀ b u,b≠d->H b=some u->H' b=some u
theorem Same.sx (S:Same H H'):Sx d H H':=fun b u _ h=>S b u h
theorem Sx.t (S:Sx d H H') (hd:H d=some (.dK kvs)):SameT H H':=fun b u t h=>S b u (fun z=>by rw [z,hd] at h;cases h;simp [isTF] at t) h
theorem OV.sx {t:TD} {v:V} (S:Sx d H H') (hd:H d=some (.dK kvs)):OV K Ad H t v->OV K Ad H' t v:=fun ⟨C,vl,f,⟨q,g,e,a⟩,b,c,h⟩=>
 ⟨C,vl,f,⟨q,g,e,S _ _ (fun z=>by rw [z,hd] at a;cases a) a⟩,b,c.sameT (S.t hd),h.sameT (S.t hd)⟩
def BK (K:W.Frag) (Ad:Adr) (H:Hp) (p d:Addr) (ts:List TD):Prop:=(∃ dx,H p=some (.ins Ad.Book dx [("by_name", .ref d)]))/\∃ kvs,H d=some (.dK kvs)/\BD (OV K Ad H) ts kvs
theorem BK.same (S:Same H H') (h:BK K Ad H p d ts):BK K Ad H' p d ts:=by
 obtain ⟨⟨c,e⟩,a,f,b⟩:=h;exact ⟨⟨c,S _ _ e⟩,a,S _ _ f,b.mono fun _ _ z=>z.same S⟩
theorem BK.sl {l:Addr} {zs:List V} (h:BK K Ad H p d ts) (hl:H l=some (.lst zs)) (S:Sx l H H'):BK K Ad H' p d ts:=by
 obtain ⟨⟨i,f⟩,a,g,r⟩:=h;have j:SameT H H':=fun b u t h=>S b u (fun z=>by rw [z,hl] at h;cases h;simp [isTF] at t) h;refine ⟨⟨i,S _ _ (fun z=>by rw [z,hl] at f;cases f) f⟩,a,S _ _ (fun z=>by rw [z,hl] at g;cases g) g,r.mono ?_⟩;rintro t v ⟨C,vl,n,⟨q,i,e,c⟩,o,k,m⟩;exact ⟨C,vl,n,⟨q,i,e,S _ _ (fun z=>by rw [z,hl] at c;cases c) c⟩,o,k.sameT j,m.sameT j⟩
end
def SCK (Ad:Adr) (H:Hp) (x:Addr) (b:Int) (fs:List Int):Prop:=∃ dx fl,H x=some (.ins Ad.Scale dx [("bottom", .int b),("factors", .ref fl)])/\H fl=some (.lst (fs.map V.int))/\Scl b fs/\Mth.Sz 2000 b/\fs.length<=70
theorem SCK.same {Ad:Adr} {H H':Hp} {x:Addr} {b:Int} {fs:List Int} (S:Same H H'):SCK Ad H x b fs->SCK Ad H' x b fs:=by rintro ⟨e,d,f,a,c⟩;exact ⟨e,d,S _ _ f,S _ _ a,c⟩
def TOb (K:W.Frag) (Ad:Adr) (H:Hp) (t:TD) (v:V):Prop:=∃ vl vg,TieV H v (kindC Ad (bD t.lo) (bD t.hi)) (.str t.nm) (.str t.st) (.str t.en) vl vg/\BV K H t.lo vl/\BV K H t.hi vg
theorem TOb.same {K:W.Frag} {Ad:Adr} {H H':Hp} {t:TD} {v:V} (S:Same H H'):TOb K Ad H t v->TOb K Ad H' t v:=by
 rintro ⟨vl,c,d,a,b⟩;exact ⟨vl,c,d.same S,a.sameT S.t,b.sameT S.t⟩
def SRV (K:W.Frag) (H:Hp) (s:SD) (x:V):Prop:=∃ b v,x=.ref b/\SqT K H b [.str s.nm,v]/\PV K H s v
theorem SRV.sameT {K:W.Frag} {H H':Hp} {s:SD} {x:V} (S:SameT H H'):SRV K H s x->SRV K H' s x:=by
 rintro ⟨b,v,d,a,c⟩;exact ⟨b,v,d,a.sameT S,c.sameT S⟩
def SOV (K:W.Frag) (Ad:Adr) (b:Int) (H:Hp) (s:SD) (x:V):Prop:=∃ p dx vc pr,x=.ref p/\H p=some (.ins Ad.Step dx [("source", .str s.src),("target", .str s.dst),("cost",vc),("whole", .int (s.c.1*b.fdiv s.c.2)),("pair", .ref pr)])/\FrV K H vc s.c.1 s.c.2/\H pr=some (.tup [.str s.nm, .bl s.fw])
theorem SOV.same {K:W.Frag} {Ad:Adr} {b:Int} {H H':Hp} {s:SD} {x:V} (S:Same H H'):SOV K Ad b H s x->SOV K Ad b H' s x:=by
 rintro ⟨p,f,c,a,h,d,e,g⟩;exact ⟨p,f,c,a,h,S _ _ d,e.same S,S _ _ g⟩
def SOS (K:W.Frag) (Ad:Adr) (H:Hp) (s:SpS) (x:V):Prop:=∃ p dx vc pr,x=.ref p/\H p=some (.ins Ad.Step dx [("source", .str s.src),("target", .str s.tgt),("cost",vc),("whole", .int s.wh),("pair", .ref pr)])/\FrV K H vc s.cost.1 s.cost.2/\H pr=some (.tup [.str s.nm, .bl s.fw])
theorem SOS.same {K:W.Frag} {Ad:Adr} {H H':Hp} {s:SpS} {x:V} (S:Same H H'):SOS K Ad H s x->SOS K Ad H' s x:=by
 rintro ⟨p,e,b,a,g,c,d,f⟩;exact ⟨p,e,b,a,g,S _ _ c,d.same S,S _ _ f⟩
def RI (a:Int) (v:V):Prop:=v=.int a
def chV:Option Str->V
 | none=>.non
 | some f=>.str f
def RT (K:W.Frag) (H0 H:Hp) (e:(Int × Int) × List SpS) (v:V):Prop:=∃ p qv l xs,v=.ref p/\SqT K H p [qv, .ref l]/\FrV K H qv e.1.1 e.1.2/\H l=some (.lst xs)/\All2 (CV H) (e.2.map fun s=>(s.nm,s.fw)) xs/\H0 l=none
theorem RT.same {K:W.Frag} {H0 H H':Hp} {e:(Int × Int) × List SpS} {v:V} (S:Same H H'):RT K H0 H e v->RT K H0 H' e v:=by
 rintro ⟨p,b,l,a,i,c,d,g,h,f⟩;exact ⟨p,b,l,a,i,c.same S,d.same S,S _ _ g,(h.mono fun _ _ z=>z.sameT S.t),f⟩
theorem RT.putL {K:W.Frag} {H0 H H':Hp} {e:(Int × Int) × List SpS} {v:V} {a:Addr} {o:HO} {kv:List (Key × V)} (u:upd H a o=H') (h:H a=some (.dK kv)):RT K H0 H e v->RT K H0 H' e v:=by
 rintro ⟨p,d,l,c,k,f,g,b,j,i⟩;have T:SameT H H':=SameT.put u h rfl;have n:l≠a:=fun z=>by rw [z,h] at b;cases b
 exact ⟨p,d,l,c,k,f.sameT T,g.sameT T,by rw [<- u,Jai n];exact b,(j.mono fun _ _ z=>z.sameT T),i⟩
def RF (K:W.Frag) (H:Hp) (e:Int × Int) (v:V):Prop:=FrV K H v e.1 e.2
def TDk (K:W.Frag) (H0 H:Hp) (tb:Tab) (td:Addr):Prop:=∃ kt,H td=some (.dK kt)/\DV (RT K H0 H) tb kt/\H0 td=none
theorem TDk.same {K:W.Frag} {H0 H H':Hp} {tb:Tab} {td:Addr} (S:Same H H'):TDk K H0 H tb td->TDk K H0 H' tb td:=by rintro ⟨b,d,a,c⟩;exact ⟨b,S _ _ d,a.mono fun _ _ z=>z.same S,c⟩
theorem RT.base {K:W.Frag} {H0 H1 H:Hp} {e:(Int × Int) × List SpS} {v:V} (S:Same H1 H0):RT K H0 H e v->RT K H1 H e v:=by rintro ⟨p,b,l,a,i,c,d,g,h,f⟩;exact ⟨p,b,l,a,i,c,d,g,h,Jbh S f⟩
theorem TDk.base {K:W.Frag} {H0 H1 H:Hp} {tb:Tab} {td:Addr} (S:Same H1 H0):TDk K H0 H tb td->TDk K H1 H tb td:=by rintro ⟨b,d,a,c⟩;exact ⟨b,d,a.mono fun _ _ z=>z.base S,Jbh S c⟩
theorem Jlj {K:W.Frag} {Ad:Adr} {H:Hp} {b:Int} {s:SD} {x:V} (h:SOV K Ad b H s x):SOS K Ad H (toS b s) x:=h
theorem Jgv {K:W.Frag} {Ad:Adr} {H:Hp} {b:Int}:∀ {ss:List SD} {xs:List V},All2 (SOV K Ad b H) ss xs->All2 (SOS K Ad H) (ss.map (toS b)) xs
 | [],_,h=>h
 | s::ss,_,⟨x,r,e,h1,h2⟩=>⟨x,r,e,Jlj h1,Jgv h2⟩
structure STp (K:W.Frag) (Ad:Adr) (H:Hp) (ts:List TD) (sL:Addr):Prop where
 ex:∃ sx,SqL K H sL sx/\All2 (SOS K Ad H) (ssD ts) sx
 b1:1<=bD_ ts
 bb:∀ s∈Ch.all ts,1<=s.c.2/\s.c.2∣bD_ ts
theorem STp.same {K:W.Frag} {Ad:Adr} {H H':Hp} {ts:List TD} {sL:Addr} (S:Same H H') (h:STp K Ad H ts sL):STp K Ad H' ts sL:=by
 obtain ⟨⟨d,e,a⟩,b,c⟩:=h;exact ⟨⟨d,e.same S,a.mono fun _ _ z=>z.same S⟩,b,c⟩
def PDk (K:W.Frag) (H:Hp) (pb:List (Str × (Int × Int))) (pd:Addr):Prop:=∃ kp,H pd=some (.dK kp)/\DV (RF K H) pb kp
theorem PDk.same {K:W.Frag} {H H':Hp} {pb:List (Str × (Int × Int))} {pd:Addr} (S:Same H H'):PDk K H pb pd->PDk K H' pb pd:=fun ⟨c,a,b⟩=>⟨c,S _ _ a,b.mono fun _ _ z=>FrV.same S z⟩
def ShV (K:W.Frag) (H0 H:Hp) (e:(Int × Int) × List SpS) (pl:List (Str × (Int × Int))) (q:Addr):Prop:=∃ qv l cx zl zs,H q=some (.tup [qv, .ref l, .ref zl])/\FrV K H qv e.1.1 e.1.2/\H l=some (.lst cx)/\All2 (CV H) (e.2.map fun s=>(s.nm,s.fw)) cx/\H0 l=none/\H zl=some (.lst zs)/\All2 (QV K H) pl zs/\H0 zl=none
theorem ShV.same {K:W.Frag} {H0 H H':Hp} {e:(Int × Int) × List SpS} {pl:List (Str × (Int × Int))} {q:Addr} (S:Same H H'):ShV K H0 H e pl q->ShV K H0 H' e pl q:=by rintro ⟨b,l,a,h,f,n,d,g,j,m,i,c,k⟩;exact ⟨b,l,a,h,f,S _ _ n,d.same S,S _ _ g,(j.mono fun _ _ z=>z.sameT S.t),m,S _ _ i,(c.mono fun _ _ z=>z.sameT S.t),k⟩
section
variable {P:Program} {w:World} {K:W.Frag} {mg:Str->Option Value} {base:Heap} {Ad:Adr}
seal PE PA PS PSs PT PW PG PGs PI PO
abbrev Bai:Stmt:=top 8
theorem JaJ:Jan ["one","other","greater","lesser","rest"] ["one","other"] (Jad Bai):=by bv_decide
def JaK  : Sp:=fun vs H Q E=>∃ (a b:Int),vs=[.int a, .int b]/\Q (.int (Mth.g a b)) H
theorem Jdc (F:FunD K "common_divisor" "common_divisor" Bai dV f fd) (T:Txt K mg Ad)  : FnOk P w K mg base (CX1 P w) 1 f fd ["one","other"] (JaK):=by
 refine F.okn JaJ (by subst_eqs) (fun n A d s H o Q E p h=>?_)
 obtain ⟨a,b,rfl,h⟩:=h;have l:=p.units;refine ⟨_,(Jab (Jaj (i:=2) JaJ.nd rfl (Or.inl rfl) (Jat JcT rfl T.Bcd JgD (Jaa (pv 0) Jac)))
   (Jab (Jaj (i:=3) JaJ.nd rfl (Or.inl rfl) (Jat JcT rfl T.Bcd JgD (Jaa (pv 1) Jac)))
   (Jab (JeZ PassesOwn.never (Jaq (Jb7 l) (pv 3) Jae (Jas _))
   (Jab (Jaj (i:=4) JaJ.nd rfl (Or.inl rfl) (pe_op JaD (pv 2) (pv 3)))
   (Jab (Jaj (i:=2) JaJ.nd rfl (Or.inl rfl) (pv 3))
   (Jaf (Jaj (i:=3) JaJ.nd rfl (Or.inl rfl) (pv 4))))))
   (Jaf (Jam (pv 2)))))),?_⟩
 clear l;show tSeq _ _ _ [some (.int a),some (.int b),none,none,none] H;try infer_instance
 refine ⟨fun m σ k=>∃ (x y:Int) (z:Option V),σ=[some (.int a),some (.int b),some (.int x),some (.int y),z]/\k=H/\0<=x/\0<=y/\Mth.g x y=Mth.g a b/\y.toNat=m,⟨_,_,_,none,rfl,rfl,Mth.Jgz a,Mth.Jgz b,Mth.Bck a b,rfl⟩,?_⟩;rintro m σ k ⟨x,y,z,rfl,rfl,t,r,j,rfl⟩;try infer_instance
 by_cases c:y=0
 ·subst c;rw [if_neg (by simp)];have e:Mth.g a b=x:=by rw [<- j,Mth.Jjv];ac_nf
  rw [e] at h;exact h
 ·rw [if_pos (by simp [c])];have f:=Mth.fm (x:=x) (y:=y) ∅;exact ⟨_,fun _ _ q=>q,c,(x.fmod y).toNat,by ac_nf,y,x.fmod y,_,rfl,rfl,r,f.1,by rw [Mth.JhV ∅];exact j,rfl⟩
abbrev BbQ:Stmt:=top 9
theorem Je4:Jan ["one","other","shared","top","rest"] ["one","other"] (Jad BbQ):=by bv_decide
def Jd3 (K:W.Frag):Sp:=fun vs H Q E=>∃ (x y:V) (a b c d:Int),vs=[x,y]/\FrV K H x a b/\FrV K H y c d/\Mth.Sz 4000 a/\Mth.Sz 4000 b/\Mth.Sz 4000 c/\Mth.Sz 4000 d/\1<=b/\1<=d/\Mth.g a b=1/\Mth.g c d=1/\∀ p H',Same H H'->H' p=some (.tup [.int (Mth.top (a*d+c*b) (b*d)), .int (Mth.bot (a*d+c*b) (b*d))])->Q (.ref p) H'
theorem Jka (F:FunD K "plus" "plus" BbQ dV f fd) (T:Txt K mg Ad) (Bac:Cal P w K mg base 1 "common_divisor" ["one","other"] [] (JaK)):FnOk P w K mg base (CX1 P w) 2 f fd ["one","other"] (Jd3 K):=by
 refine F.okn Je4 (by subst_eqs) (fun D A n s H J Q E u h=>?_)
 obtain ⟨x,y,a,b,c,d,rfl,h⟩:=h;refine ⟨_,(Jab (Jaj (i:=2) Je4.nd rfl (Or.inl rfl) (Bac.ev u ⋯ rfl passF (Jaa (pe_ix ix_U (pv 0) Jae (fun _ _=>rfl)) (Jaa (pe_ix ix_U (pv 1) Jae (fun _ _=>rfl)) Jac)) (he:=by exact Jah rfl)))
   (Jab (Jaj (i:=3) Je4.nd rfl (Or.inl rfl) (pe_op JaZ (pe_op Ja8 (pe_ix ix_U (pv 0) Jae (fun _ _=>rfl)) (pe_op Jav (pe_ix ix_U (pv 1) Jae (fun _ _=>rfl)) (pv 2))) (pe_op Ja8 (pe_ix ix_U (pv 1) Jae (fun _ _=>rfl)) (pe_op Jav (pe_ix ix_U (pv 0) Jae (fun _ _=>rfl)) (pv 2)))))
   (Jab (Jaj (i:=4) Je4.nd rfl (Or.inl rfl) (Bac.ev u ⋯ rfl passF (Jaa (pv 3) (Jaa (pv 2) Jac)) (he:=by exact Jah rfl)))
   (Jaf (Jam (JaE (Jaa (pe_op Jav (pv 3) (pv 4)) (Jaa (pe_op Ja8 (pe_op Jav (pe_ix ix_U (pv 0) Jae (fun _ _=>rfl)) (pv 2)) (pe_op Jav (pe_ix ix_U (pv 1) Jae (fun _ _=>rfl)) (pv 4))) Jac)))))))),?_⟩
 obtain ⟨e,j,M,G,C,o,L,I,U,W,k⟩:=h;show tSeq _ _ _ [some x,some y,none,none,none] H;try infer_instance
 refine ixF1 e (ixF1 j ?_);try infer_instance
 refine ⟨_,_,rfl,?_⟩;try infer_instance
 have Y:=Mth.g_pos (a:=b) (b:=d) ∅;have R:=Mth.JdL b d;have z:=Mth.JcU b d;have r:Mth.Sz 4000 (Mth.g b d):=Nat.lt_of_le_of_lt (by have:=Mth.g_le (a:=b) (b:=d) ∅;ac_nf:(Mth.g b d).natAbs<=d.natAbs) o;have l:DivOk (Mth.g b d):=divOk ∅ r;have v:=G.fdiv R ∅;have N:=o.fdiv z ∅;refine ixF0 e (ixF1 j ?_);try infer_instance
 refine ⟨l,mulOk M N,ixF0 j (ixF1 e ?_)⟩;try infer_instance
 refine ⟨l,mulOk C v,?_⟩;refine ⟨_,_,rfl,?_⟩;have m:=Mth.Jkm L I U W (s:=Mth.g b d) rfl rfl rfl;generalize ht:a*d.fdiv (Mth.g b d)+c*b.fdiv (Mth.g b d)=t at m ⊢;have Z:=Mth.g_pos (a:=t) (b:=Mth.g b d) ∅;have O:=Mth.JcU t (Mth.g b d);have X:Mth.Sz 4000 (Mth.g t (Mth.g b d)):=Nat.lt_of_le_of_lt (by have:=Mth.g_le (a:=t) (b:=Mth.g b d) ∅;ac_nf:(Mth.g t (Mth.g b d)).natAbs<=(Mth.g b d).natAbs) r;have q:DivOk (Mth.g t (Mth.g b d)):=divOk ∅ X;try infer_instance
 refine ⟨q,ixF1 e ?_⟩;try infer_instance
 refine ⟨l,ixF1 j ?_⟩;try infer_instance
 refine ⟨q,mulOk v (o.fdiv (Int.dvd_trans O z) ∅),len2,?_⟩;refine Jf9 fun p B S V=>k p B S ?_;rw [V,m.1,m.2]
abbrev BbH:Stmt:=top 10
theorem Jja:Jan ["one","other"] ["one","other"] (Jad BbH):=by bv_decide
def Jc0 (K:W.Frag):Sp:=fun vs H Q E=>∃ (x y:V) (a b c d:Int),vs=[x,y]/\FrV K H x a b/\FrV K H y c d/\Mth.Sz 4000 a/\Mth.Sz 4000 b/\Mth.Sz 4000 c/\Mth.Sz 4000 d/\1<=b/\1<=d/\Mth.g a b=1/\Mth.g c d=1/\∀ p H',Same H H'->H' p=some (.tup [.int (Mth.top (a*d-c*b) (b*d)), .int (Mth.bot (a*d-c*b) (b*d))])->Q (.ref p) H'
theorem Ji0 (F:FunD K "minus" "minus" BbH dV f fd) (T:Txt K mg Ad) (BbG:Cal P w K mg base 2 "plus" ["one","other"] [] (Jd3 K)):FnOk P w K mg base (CX1 P w) 3 f fd ["one","other"] (Jc0 K):=by
 refine F.okn Jja (by subst_eqs) (fun n A e s H u Q E v h=>?_)
 obtain ⟨x,y,a,b,c,d,rfl,h⟩:=h;refine ⟨_,(Jaf (Jam (BbG.ev v ⋯ rfl passF (Jaa (pv 0) (Jaa (JaE (Jaa (pe_un Jd7 (pe_ix ix_U (pv 1) Jae (fun _ _=>rfl))) (Jaa (pe_ix ix_U (pv 1) Jae (fun _ _=>rfl)) Jac))) Jac)) (he:=by exact Jah rfl)))),?_⟩;obtain ⟨r,g,B,o,l,I,z,q,G,L,k⟩:=h;show tRet _ _ [some x,some y] H;try infer_instance
 refine ixF0 g ?_;try infer_instance
 refine ixF1 g ?_;try infer_instance
 refine ⟨len2,?_⟩;rename_i p j J H M S D;refine ⟨_,_,a,b, -c,d,rfl,r.same S,FrV.of D,B,o,l.neg,I,z,q,G,by rw [Mth.g_neg];exact L,fun C t m i=>k C t (S.trans m) ?_⟩;rw [i,Int.neg_mul, <- Int.sub_eq_add_neg]
abbrev BbI:Stmt:=top 11
theorem Jjb:Jan ["one","other"] ["one","other"] (Jad BbI):=by bv_decide
def Je7 (K:W.Frag):Sp:=fun vs H Q E=>∃ (x y:V) (a b c d:Int),vs=[x,y]/\FrV K H x a b/\FrV K H y c d/\Mth.Sz 4000 a/\Mth.Sz 4000 b/\Mth.Sz 4000 c/\Mth.Sz 4000 d/\Q (.bl (decide (a*d<c*b))) H
theorem Ji1 (F:FunD K "under" "under" BbI dV f fd) (T:Txt K mg Ad)  : FnOk P w K mg base (CX1 P w) 1 f fd ["one","other"] (Je7 K):=by
 refine F.okn Jjb (by subst_eqs) (fun l A e s H n Q E q h=>?_)
 obtain ⟨x,y,a,b,c,d,rfl,h⟩:=h;refine ⟨_,(Jaf (Jam (Jbl Jfz (pe_op Ja8 (pe_ix ix_U (pv 0) Jae (fun _ _=>rfl)) (pe_ix ix_U (pv 1) Jae (fun _ _=>rfl))) (pe_op Ja8 (pe_ix ix_U (pv 1) Jae (fun _ _=>rfl)) (pe_ix ix_U (pv 0) Jae (fun _ _=>rfl))) (Jas _)))),?_⟩;obtain ⟨g,i,o,m,j,p,k⟩:=h;show tRet _ _ [some x,some y] H;try infer_instance
 refine ixF0 g (ixF1 i ?_);try infer_instance
 refine ⟨mulOk o p,ixF0 i (ixF1 g ?_)⟩;try infer_instance
 exact ⟨mulOk j m,k⟩
abbrev Bbd:Stmt:=top 17
theorem Jhm:Jan ["thing"] ["thing"] (Jad Bbd):=by bv_decide
def JcF (K:W.Frag):Sp:=fun vs H Q E=>∃ (x:V) (d:D),vs=[x]/\Rep K H d x/\szD d/\∀ H',Same H H'->Q (.bl (nameB d)) H'
theorem Jhh (F:FunD K "is_name" "is_name" Bbd dV f fd) (T:Txt K mg Ad)  : FnOk P w K mg base (CX1 P w) 1 f fd ["thing"] (JcF K):=by
 refine F.okn Jhm (by subst_eqs) (fun B A g s H D Q E O h=>?_)
 obtain ⟨x,d,rfl,h⟩:=h;refine ⟨_,(Jab (ps_if (JbF (Jbb (Jat Jay rfl T.Bal JaI (Jaa (pv 0) (Jaa (Jcb (v:=.ty "str") rfl T.Bcn JkE rfl) Jac)))))
   (Jaf (Jam pe_bl))
   Jap)
   (Jab (ps_if (PW.pt (pw_or (Jaq Jfz (Jat JaG rfl T.BbC JbE (Jaa (pv 0) Jac)) Jae (Jas _)) (JbK (Jaq JgW (Jat JaG rfl T.BbC JbE (Jaa (pv 0) Jac)) (Jdd (v:=.int 8) rfl T.BbO T.BbP) (Jas _)))))
   (Jaf (Jam pe_bl))
   Jap)
   (Jaf (Jam (Jat (Jhx rfl) rfl T.Bcm JkB (Jaa (JcL (own:=["sign"]) (cs:=[]) (cl:=[]) rfl (Jk6 (pv 0)) (fun _ _ _ _=>(Jar (i:=0) (show [("sign" : Str)].Nodup by decide) rfl (Or.inl rfl))) (fun _ _ _ _=>(Jbl (Jk2 (K:=K) rfl) (pv 0) (Jdd (v:=.str "abcdefghijklmnopqrstuvwxyz") rfl T.BbK T.BbL) (by with_unfolding_all rfl))) rfl ⋯ rfl ⋯ hcl0 (hhas0 ⋯) hcs0) Jac)))))),?_⟩
 obtain ⟨a,u,k⟩:=h;show tSeq _ _ _ [some x] H;try infer_instance
 refine ⟨_,a.tyN,?_⟩;by_cases n:∃ z,d=.str z
 ·obtain ⟨z,rfl⟩:=n;simp only [Rep] at a;subst a;simp only [szD] at u;simpa only [tyD];have r:z.length<=sizeLine:=Nat.le_trans u ⋯;simp only [nameB,nameS] at k;refine ⟨r,?_⟩;try infer_instance
  by_cases L:z.length<1
  ·rw [if_pos (by simp;ac_nf)];have e:decide (1<=z.length)=false:=by simp;ac_nf
   rw [e] at k;exact k H (.refl H)
  ·rw [if_neg (by simp;ac_nf)];have e:decide (1<=z.length)=true:=by simp;ac_nf
   rw [e] at k;refine ⟨r,?_⟩;try infer_instance
   by_cases R:8<z.length
   ·rw [if_pos (by simp;ac_nf)];have e:decide (z.length<=8)=false:=by simp;ac_nf
    rw [e] at k;exact k H (.refl H)
   ·rw [if_neg (by simp;ac_nf)];have e:decide (z.length<=8)=true:=by simp;ac_nf
    rw [e] at k;try infer_instance
    simpa only [tComp,iStr];refine ⟨fun i m q b=>b=H/\i<=z.cps.size/\m=z.cps.size-i/\q=(z.cps.toList.take i).map fun c=>V.bl (lowB c),⟨_,rfl,Nat.zero_le _,rfl,by simp⟩,?_⟩;rintro i m q b ⟨rfl,M,rfl,rfl⟩;have J:z.cps.size=z.length:=rfl;refine ⟨by simp;ac_nf,?_⟩;by_cases l:i<z.cps.size
    ·refine .inr ⟨l,?_⟩;rintro x o ⟨rfl,c,C,rfl⟩;simpa only [length_singleton,List.replicate,JaB,map_nil,y5fy,Jg9];refine ⟨_,Nat.sub_lt_sub_left l (Nat.lt_succ_self i),l,rfl,?_⟩;have j:z.cps.toList[i]?=some c:=by simpa using C
     rw [take_succ,j];simp
    ·have t:i=z.cps.size:=by ac_nf
     refine .inl ⟨t,?_⟩;subst t;rw [take_of_length_le (by simp)];rename_i p U N b o S y;refine ⟨p,z.cps.toList.map lowB,rfl,SqL.of (by rw [y,map_map];rfl),?_⟩;have:=k o S;simpa [List.all_map] using this
 ·have G:nameB d=false:=by cases d <;> first | rfl | exact absurd ⟨_,rfl⟩ n
  rw [G] at k;have I:isiB (tyD d) "str"=false:=by cases d <;> first | rfl | exact absurd ⟨_,rfl⟩ n
  simpa only [I];exact k H (.refl H)
abbrev BaY:Stmt:=top 18
theorem Jgp:Jan ["thing"] ["thing"] (Jad BaY):=by bv_decide
def JcQ (K:W.Frag):Sp:=fun vs H Q E=>∃ (x:V) (d:D),vs=[x]/\Rep K H d x/\Q (.bl (Jdo d)) H
theorem Jgd (F:FunD K "is_whole" "is_whole" BaY dV f fd) (T:Txt K mg Ad)  : FnOk P w K mg base (CX1 P w) 1 f fd ["thing"] (JcQ K):=by
 refine F.okn Jgp (by subst_eqs) (fun g A b s H e Q E i h=>?_)
 obtain ⟨x,d,rfl,h⟩:=h;refine ⟨_,(Jaf (Jam (Jdl (Jat Jay rfl T.Bal JaI (Jaa (pv 0) (Jaa (Jcb (v:=.ty "int") rfl T.Bce JgE rfl) Jac))) (Jdm (JgY (Jat Jay rfl T.Bal JaI (Jaa (pv 0) (Jaa (Jcb (v:=.ty "bool") rfl T.Bcl JjL rfl) Jac)))))))),?_⟩;obtain ⟨c,k⟩:=h;show tRet _ _ [some x] H;try infer_instance
 refine ⟨_,c.tyN,?_⟩;have a:=c.tyN;cases d <;> simp only [tyD,Jdo,y85y,y4fy,y50y,y51y,y74y,y2by,y6fy,y82y,y83y,y47y,y2ey,y7by,y95y,y30y,y3cy,y75y,y2fy,y8by,y23y,y29y,y7cy,y77y,y2ay,y7dy,y79y,y5dy,y97y,y26y,y89y,y73y,y6cy,y4cy,y6by,y80y,y33y,y4ay,y71y,y4by,y72y,y49y,y70y,y90y,y67y,y63y,y92y,y94y,y91y,y93y,y25y,y6ay,y24y,true_and,if_true,if_false,Bool.not_true,Bool.not_false,Bool.false_eq_true,yby,ydy,yay,ycy,yey,y15y,y17y,y14y,y16y,y18y,y6y,y8y,y5y,y7y,y9y,y1y,y3y,y0y,y2y,y4y,y10y,y12y,yfy,y11y,y13y,y1ay,y1cy,y19y,y1by,y1dy,y1fy,y21y,y1ey,y20y,y22y,y87y,y7fy,y76y,y31y,y32y,y57y,y65y,y66y,y4ey,y88y,y8ey,y98y,y81y,y27y,V.int.injEq,V.str.injEq,List.set_cons_zero,List.set_cons_succ,List.getElem?_cons_zero,List.getElem?_cons_succ,Option.some.injEq,exists_eq_left,exists_eq_left',V.bl.injEq,Int.reduceToNat,Int.reducePow,append_nil,nil_append,cons_append,y59y,y5by,y2cy,y2dy,y6dy,y62y,y78y,y68y,y69y,y3dy,y3ey,y3fy,y46y,y48y,y41y,y7ey,y43y,y42y,y34y,y36y,y3ay,y40y,y44y,y54y,y56y,y5ey,y38y,y8dy,y8ay,y37y,y9ay,y52y,y53y,y96y,y45y,reduceCtorEq,decide_false,decide_true] at k a ⊢ <;> first | exact k | exact ⟨_,a,by simpa only [y85y,y4fy,y50y,y51y,y74y,y2by,y6fy,y82y,y83y,y47y,y2ey,y7by,y95y,y30y,y3cy,y75y,y2fy,y8by,y23y,y29y,y7cy,y77y,y2ay,y7dy,y79y,y5dy,y97y,y26y,y89y,y73y,y6cy,y4cy,y6by,y80y,y33y,y4ay,y71y,y4by,y72y,y49y,y70y,y90y,y67y,y63y,y92y,y94y,y91y,y93y,y25y,y6ay,y24y,true_and,if_true,if_false,Bool.not_true,Bool.not_false,Bool.false_eq_true,yby,ydy,yay,ycy,yey,y15y,y17y,y14y,y16y,y18y,y6y,y8y,y5y,y7y,y9y,y1y,y3y,y0y,y2y,y4y,y10y,y12y,yfy,y11y,y13y,y1ay,y1cy,y19y,y1by,y1dy,y1fy,y21y,y1ey,y20y,y22y,y87y,y7fy,y76y,y31y,y32y,y57y,y65y,y66y,y4ey,y88y,y8ey,y98y,y81y,y27y,V.int.injEq,V.str.injEq,List.set_cons_zero,List.set_cons_succ,List.getElem?_cons_zero,List.getElem?_cons_succ,Option.some.injEq,exists_eq_left,exists_eq_left',V.bl.injEq,Int.reduceToNat,Int.reducePow,append_nil,nil_append,cons_append,y59y,y5by,y2cy,y2dy,y6dy,y62y,y78y,y68y,y69y,y3dy,y3ey,y3fy,y46y,y48y,y41y,y7ey,y43y,y42y,y34y,y36y,y3ay,y40y,y44y,y54y,y56y,y5ey,y38y,y8dy,y8ay,y37y,y9ay,y52y,y53y,y96y,y45y,reduceCtorEq,decide_false,decide_true] using k⟩
abbrev Bau:Stmt:=top 19
theorem Jej:Jan ["thing"] ["thing"] (Jad Bau):=by bv_decide
def JbZ (K:W.Frag):Sp:=fun vs H Q E=>∃ (x:V) (d:D),vs=[x]/\Rep K H d x/\Q (.bl (fracB d)) H
theorem Jee (F:FunD K "is_fraction" "is_fraction" Bau dV f fd) (T:Txt K mg Ad) (Bbx:Cal P w K mg base 1 "is_whole" ["thing"] [] (JcQ K)) (Bac:Cal P w K mg base 1 "common_divisor" ["one","other"] [] (JaK)):FnOk P w K mg base (CX1 P w) 2 f fd ["thing"] (JbZ K):=by
 refine F.okn Jej (by subst_eqs) (fun G A r s H I Q E b h=>?_)
 obtain ⟨x,d,rfl,h⟩:=h;have y:=b.units;refine ⟨_,(Jab (ps_if (PW.pt (pw_or (JbF (Jbb (Jat Jay rfl T.Bal JaI (Jaa (pv 0) (Jaa (Jcb (v:=.ty "tuple") rfl T.BbR Jdu rfl) Jac))))) (JbK (Jaq (Jb7 y) (Jat JaG rfl T.BbC JbE (Jaa (pv 0) Jac)) Jae (Jas _)))))
   (Jaf (Jam pe_bl))
   Jap)
   (Jab (ps_if (PW.pt (pw_or (JbF (Jbb (Bbx.ev b ⋯ rfl passF (Jaa (pe_ix ix_U (pv 0) Jae (fun _ _=>rfl)) Jac) (he:=by exact Jah rfl)))) (JbK (JbF (Jbb (Bbx.ev b ⋯ rfl passF (Jaa (pe_ix ix_U (pv 0) Jae (fun _ _=>rfl)) Jac) (he:=by exact Jah rfl)))))))
   (Jaf (Jam pe_bl))
   Jap)
   (Jaf (Jam (Jdl (Jbl Jk1 (pe_ix ix_U (pv 0) Jae (fun _ _=>rfl)) Jae (Jas _)) (Jdm (Jbl (Jcn y) (Bac.ev b ⋯ rfl passF (Jaa (pe_ix ix_U (pv 0) Jae (fun _ _=>rfl)) (Jaa (pe_ix ix_U (pv 0) Jae (fun _ _=>rfl)) Jac)) (he:=by exact Jah rfl)) Jae (Jas _)))))))),?_⟩
 clear y;obtain ⟨p,k⟩:=h;show tSeq _ _ _ [some x] H;try infer_instance
 refine ⟨_,p.tyN,?_⟩;by_cases u:∃ m,d=.tup m
 ·obtain ⟨m,rfl⟩:=u;simpa only [tyD];simp only [Rep] at p;obtain ⟨a,B,rfl,l,b⟩:=p;have L:=b.length;refine ⟨B, .inr l,?_⟩;try infer_instance
  by_cases z:m.length=2
  ·match m,z with
   | [d0,d1],_=>
    simp only [RepL] at b;obtain ⟨D,M,rfl,q,C,N,rfl,o,rfl⟩:=b;simpa only [length_cons,length_nil];rw [if_neg (by simp)];try infer_instance
    refine ixT0 l ?_;refine ⟨D,d0,rfl,q,?_⟩;try infer_instance
    by_cases n:Jdo d0=true
    ·rw [if_neg (by simp [n])];refine ixT1 l ?_;refine ⟨C,d1,rfl,o,?_⟩;try infer_instance
     by_cases t:Jdo d1=true
     ·rw [if_neg (by simp [t])];obtain ⟨i,rfl⟩:∃ i,d0=.int i:=by cases d0 <;> simp [Jdo] at n;exact ⟨_,rfl⟩
      obtain ⟨j,rfl⟩:∃ j,d1=.int j:=by cases d1 <;> simp [Jdo] at t;exact ⟨_,rfl⟩
      simp only [Rep] at q o;subst q o;simp only [fracB] at k;try infer_instance
      refine ixT1 l ?_;try infer_instance
      by_cases c:1<=j
      ·rw [if_pos (by simpa using c)];refine ixT0 l (ixT1 l ?_);refine ⟨_,_,rfl,?_⟩;try infer_instance
       simpa [c] using k
      ·rw [if_neg (by simpa using c)];simpa [c] using k
     ·rw [if_pos (by simp [t])];try infer_instance
      have g:fracB (.tup [d0,d1])=false:=by cases d0 <;> cases d1 <;> simp_all [fracB,Jdo]
      rw [g] at k;exact k
    ·rw [if_pos (by simp [n])];try infer_instance
     have g:fracB (.tup [d0,d1])=false:=by cases d0 <;> cases d1 <;> simp_all [fracB,Jdo]
     rw [g] at k;exact k
  ·rw [if_pos (by simp;ac_nf)];have g:fracB (.tup m)=false:=by
    unfold fracB;split
    ·rename_i e;cases e;simp at z
    ·rfl
   rw [g] at k;exact k
 ·have g:fracB d=false:=by cases d <;> first | rfl | exact absurd ⟨_,rfl⟩ u
  rw [g] at k;have J:isiB (tyD d) "tuple"=false:=by cases d <;> first | rfl | exact absurd ⟨_,rfl⟩ u
  simpa only [J];exact k
abbrev BaZ:Stmt:=top 20
theorem Jgo:Jan ["thing"] ["thing"] (Jad BaZ):=by bv_decide
def JcP (K:W.Frag):Sp:=fun vs H Q E=>∃ (x:V) (d:D),vs=[x]/\Rep K H d x/\Q (.bl (Jco d)) H
theorem Jgc (F:FunD K "is_bound" "is_bound" BaZ dV f fd) (T:Txt K mg Ad) (Bbg:Cal P w K mg base 2 "is_fraction" ["thing"] [] (JbZ K)):FnOk P w K mg base (CX1 P w) 3 f fd ["thing"] (JcP K):=by
 refine F.okn Jgo (by subst_eqs) (fun g A c s H i Q E j h=>?_)
 obtain ⟨x,d,rfl,h⟩:=h;refine ⟨_,(Jaf (Jam (pe_or (Jbl Jbq (pv 0) JaM (Jas _)) (Jdm (Bbg.ev j ⋯ rfl passF (Jaa (pv 0) Jac) (he:=by exact Jah rfl)))))),?_⟩;obtain ⟨a,k⟩:=h;show tRet _ _ [some x] H;try infer_instance
 by_cases b:d=.non
 ·subst b;simp only [Rep] at a;subst a;simpa only [decide_true];exact k
 ·have l:x≠.non:=by
   rintro rfl;cases d <;> simp [Rep] at a
   exact b rfl
  rw [if_neg (by simpa using l)];have e:Jco d=fracB d:=by cases d <;> first | rfl | exact absurd rfl b
  rw [e] at k;exact ⟨x,d,rfl,a,k⟩
abbrev BaM:Stmt:=top 21
theorem JfK:Jan ["one","other"] ["one","other"] (Jad BaM):=by bv_decide
def Jcw (K:W.Frag):Sp:=fun vs H Q E=>∃ (x y:V) (d e:D),vs=[x,y]/\Rep K H d x/\Rep K H e y/\szD d/\szD e/\∀ H',Same H H'->Q (.bl (Jev d e)) H'
theorem Jft (F:FunD K "are_faces" "are_faces" BaM dV f fd) (T:Txt K mg Ad) (Ba7:Cal P w K mg base 1 "is_name" ["thing"] [] (JcF K)):FnOk P w K mg base (CX1 P w) 2 f fd ["one","other"] (Jcw K):=by
 refine F.okn JfK (by subst_eqs) (fun t A j s H v Q E l h=>?_)
 obtain ⟨x,y,d,e,rfl,h⟩:=h;have p:=l.units;refine ⟨_,(Jaf (Jam (Jdl (Ba7.ev l ⋯ rfl passF (Jaa (pv 0) Jac) (he:=by exact Jah rfl)) (Jdl (Ba7.ev l ⋯ rfl passF (Jaa (pv 1) Jac) (he:=by exact Jah rfl)) (Jdm (Jbl (Jb7 p) (pv 0) (pv 1) (Jas _))))))),?_⟩;clear p;obtain ⟨n,q,u,B,k⟩:=h;show tRet _ _ [some x,some y] H;try infer_instance
 refine ⟨x,d,rfl,n,u,fun r c=>?_⟩;try infer_instance
 unfold Jev at k;by_cases a:nameB d=true
 ·rw [if_pos a];refine ⟨y,e,rfl,q.same c,B,fun o m=>?_⟩;try infer_instance
  by_cases b:nameB e=true
  ·rw [if_pos b];obtain ⟨z,rfl,_⟩:=Jex a;obtain ⟨C,rfl,_⟩:=Jex b;have i:=n.str;have g:=q.str;subst i g;try infer_instance
   have:=k o (c.trans m);rw [a,b] at this;simpa [eqD,BEq.beq] using this
  ·rw [if_neg b];have:=k o (c.trans m);have g:nameB e=false:=by simpa using b
   rw [a,g] at this;exact this
 ·rw [if_neg a];have:=k r c;have i:nameB d=false:=by simpa using a
  rw [i] at this;exact this
abbrev BaC:Stmt:=top 22
theorem Je2:Jan ["least","greatest"] ["least","greatest"] (Jad BaC):=by bv_decide
def Jcf (K:W.Frag):Sp:=fun vs H Q E=>∃ (x y:V) (d e:D),vs=[x,y]/\Rep K H d x/\Rep K H e y/\szD d/\szD e/\Q (.bl (JdC d e)) H
theorem JeS (F:FunD K "are_bounds" "are_bounds" BaC dV f fd) (T:Txt K mg Ad) (Bby:Cal P w K mg base 3 "is_bound" ["thing"] [] (JcP K)) (Bb7:Cal P w K mg base 1 "under" ["one","other"] [] (Je7 K)):FnOk P w K mg base (CX1 P w) 4 f fd ["least","greatest"] (Jcf K):=by
 refine F.okn Je2 (by subst_eqs) (fun u A n s H B Q E o h=>?_)
 obtain ⟨x,y,d,e,rfl,h⟩:=h;refine ⟨_,(Jab (ps_if (PW.pt (pw_or (JbF (Jbb (Bby.ev o ⋯ rfl passF (Jaa (pv 0) Jac) (he:=by exact Jah rfl)))) (JbK (JbF (Jbb (Bby.ev o ⋯ rfl passF (Jaa (pv 1) Jac) (he:=by exact Jah rfl)))))))
   (Jaf (Jam pe_bl))
   Jap)
   (Jab (ps_if (PW.pt (pw_or (Jaq Jbq (pv 0) JaM (Jas _)) (JbK (Jaq Jbq (pv 1) JaM (Jas _)))))
   (Jaf (Jam pe_bl))
   Jap)
   (Jaf (Jam (JgY (Bb7.ev o ⋯ rfl passF (Jaa (pv 1) (Jaa (pv 0) Jac)) (he:=by exact Jah rfl))))))),?_⟩
 obtain ⟨m,q,l,p,k⟩:=h;show tSeq _ _ _ [some x,some y] H;try infer_instance
 unfold JdC at k;refine ⟨x,d,rfl,m,?_⟩;try infer_instance
 by_cases c:Jco d=true
 ·rw [if_neg (by simp [c])];refine ⟨y,e,rfl,q,?_⟩;try infer_instance
  by_cases g:Jco e=true
  ·rw [if_neg (by simp [g])];simpa only [m.nonV,q.nonV];rw [c,g] at k;by_cases j:d=.non
   ·rw [if_pos (by simp [j,nonD])];try infer_instance
    have : lessD e d=false:=by subst j;unfold lessD;split <;> first | rfl | simp_all
    rw [this] at k;exact k
   ·rw [if_neg (by simp [Jif j])];by_cases i:e=.non
    ·rw [if_pos (by simp [i,nonD])];try infer_instance
     have : lessD e d=false:=by subst i;rfl
     rw [this] at k;exact k
    ·rw [if_neg (by simp [Jif i])];try infer_instance
     have z:fracB d=true:=by cases d <;> first | exact c | exact absurd rfl j
     have C:fracB e=true:=by cases e <;> first | exact g | exact absurd rfl i
     obtain ⟨a,b,rfl,_,_⟩:=Jb5 z;obtain ⟨v,D,rfl,_,_⟩:=Jb5 C;simp only [szD,szL] at l p;refine ⟨y,x,v,D,a,b,rfl,FrV.of_rep q,FrV.of_rep m,p.1,p.2.1,l.1,l.2.1,?_⟩;try infer_instance
     simpa [lessD] using k
  ·rw [if_pos (by simp [g])];try infer_instance
   have r:Jco e=false:=by simpa using g
   rw [c,r] at k;exact k
 ·rw [if_pos (by simp [c])];try infer_instance
  have t:Jco d=false:=by simpa using c
  rw [t] at k;exact k
abbrev Bbz:Stmt:=top 23
theorem Jiw:Jan ["thing"] ["thing"] (Jad Bbz):=by bv_decide
def Jd2 (K:W.Frag):Sp:=fun vs H Q E=>∃ (x:V) (d:D),vs=[x]/\Rep K H d x/\szD d/\∀ H',Same H H'->Q (.bl (tieB d)) H'
theorem Jih (F:FunD K "is_tie" "is_tie" Bbz dV f fd) (T:Txt K mg Ad) (Ba7:Cal P w K mg base 1 "is_name" ["thing"] [] (JcF K)) (BbD:Cal P w K mg base 2 "are_faces" ["one","other"] [] (Jcw K)) (Bbs:Cal P w K mg base 4 "are_bounds" ["least","greatest"] [] (Jcf K)):FnOk P w K mg base (CX1 P w) 5 f fd ["thing"] (Jd2 K):=by
 refine F.okn Jiw (by subst_eqs) (fun L A p s H X Q E c h=>?_)
 obtain ⟨x,d,rfl,h⟩:=h;have y:=c.units;refine ⟨_,(Jab (ps_if (PW.pt (pw_or (JbF (Jbb (Jat Jay rfl T.Bal JaI (Jaa (pv 0) (Jaa (Jcb (v:=.ty "tuple") rfl T.BbR Jdu rfl) Jac))))) (JbK (Jaq (Jb7 y) (Jat JaG rfl T.BbC JbE (Jaa (pv 0) Jac)) Jae (Jas _)))))
   (Jaf (Jam pe_bl))
   Jap)
   (Jaf (Jam (Jdl (Ba7.ev c ⋯ rfl passF (Jaa (pe_ix ix_U (pv 0) Jae (fun _ _=>rfl)) Jac) (he:=by exact Jah rfl)) (Jdl (BbD.ev c ⋯ rfl passF (Jaa (pe_ix ix_U (pv 0) Jae (fun _ _=>rfl)) (Jaa (pe_ix ix_U (pv 0) Jae (fun _ _=>rfl)) Jac)) (he:=by exact Jah rfl)) (Jdm (Bbs.ev c ⋯ rfl passF (Jaa (pe_ix ix_U (pv 0) Jae (fun _ _=>rfl)) (Jaa (pe_ix ix_U (pv 0) Jae (fun _ _=>rfl)) Jac)) (he:=by exact Jah rfl)))))))),?_⟩
 clear y;obtain ⟨o,z,k⟩:=h;show tSeq _ _ _ [some x] H;try infer_instance
 refine ⟨_,o.tyN,?_⟩;by_cases r:∃ l,d=.tup l
 ·obtain ⟨l,rfl⟩:=r;simpa only [tyD];simp only [Rep] at o;obtain ⟨a,B,rfl,g,c⟩:=o;have hl:=c.length;refine ⟨B, .inr g,?_⟩;try infer_instance
  by_cases u:l.length=5
  ·match l,u with
   | [d0,d1,d2,d3,d4],_=>
    simp only [RepL] at c;obtain ⟨G,r0,rfl,V,C,r1,rfl,R,U,r2,rfl,Z,W,r3,rfl,h3,Y,r4,rfl,M,rfl⟩:=c;simp only [szD,szL] at z;obtain ⟨S,s1,s2,O,s4,_⟩:=z;simp only [tieB] at k;simpa only [length_cons,length_nil];rw [if_neg (by simp)];try infer_instance
    refine ixT (i:=0) g rfl ?_;refine ⟨G,d0,rfl,V,S,fun D j=>?_⟩;try infer_instance
    by_cases n:nameB d0=true
    ·rw [if_pos n];rw [n] at k;refine ixT (i:=1) (g.same j) rfl ?_;refine ixT (i:=2) (g.same j) rfl ?_;refine ⟨C,U,d1,d2,rfl,R.same j,Z.same j,s1,s2,fun t N=>?_⟩;try infer_instance
     have b:=j.trans N;by_cases m:Jev d1 d2=true
     ·rw [if_pos m];rw [m] at k;refine ixT (i:=3) (g.same b) rfl ?_;refine ixT (i:=4) (g.same b) rfl ?_;exact ⟨W,Y,d3,d4,rfl,h3.same b,M.same b,O,s4,k t b⟩
     ·rw [if_neg m];have I:Jev d1 d2=false:=by simpa using m
      rw [I] at k;exact k t b
    ·rw [if_neg n];have J:nameB d0=false:=by simpa using n
     rw [J] at k;exact k D j
  ·rw [if_pos (by simp;ac_nf)];have q:tieB (.tup l)=false:=by
    unfold tieB;split
    ·rename_i e;cases e;simp at u
    ·rfl
   rw [q] at k;try infer_instance
   exact k H (.refl H)
 ·have q:tieB d=false:=by cases d <;> first | rfl | exact absurd ⟨_,rfl⟩ r
  rw [q] at k;have et:isiB (tyD d) "tuple"=false:=by cases d <;> first | rfl | exact absurd ⟨_,rfl⟩ r
  simpa only [et];exact k H (.refl H)
abbrev Bap:Stmt:=inClass (top 24) 0
theorem Jd0:Jan ["self","row"] ["self","row"] (Jad Bap):=by bv_decide
def Jaw (K:W.Frag):Sp:=fun vs H Q E=>∃ (x C dx a:Addr) (n st en l g:V),vs=[.ref x, .ref a]/\H x=some (.ins C dx [])/\TieC K C/\SqT K H a [n,st,en,l,g]/\∀ H',H' x=some (.ins C dx (tieF n st en l g))->(∀ b,b≠x->H' b=H b)->Q .non H'
theorem JdV (F:FunD K "__init__" "Tie.__init__" Bap dV f fd) (T:Txt K mg Ad)  : FnOk P w K mg base (CX1 P w) 1 f fd ["self","row"] (Jaw K):=by
 refine F.okn Jd0 (by subst_eqs) (fun I A u s H N Q E U h=>?_)
 obtain ⟨x,C,d,a,n,j,o,l,g,rfl,h⟩:=h;refine ⟨_,(Jab (JbR (pv 0) (pe_ix ix_U (pv 1) Jae (fun _ _=>rfl)) rfl)
   (Jab (JbR (pv 0) (pe_ix ix_U (pv 1) Jae (fun _ _=>rfl)) rfl)
   (Jab (JbR (pv 0) (pe_ix ix_U (pv 1) Jae (fun _ _=>rfl)) rfl)
   (Jab (JbR (pv 0) (pe_ix ix_U (pv 1) Jae (fun _ _=>rfl)) rfl)
   (Jaf (JbR (pv 0) (pe_ix ix_U (pv 1) Jae (fun _ _=>rfl)) rfl)))))),?_⟩
 obtain ⟨D,e,t,k⟩:=h;show tSeq _ _ _ [some (.ref x),some (.ref a)] H;try ac_rfl
 refine ixT (i:=0) t rfl ?_;try ac_rfl
 refine ⟨x,C,d,_,rfl,D,e.cls,e.n1,by simp,?_⟩;have m:=SqT.put (fs':=putF "name" n []) D t;generalize u1:upd H x _=H1 at m ⊢;have z:H1 x=some (.ins C d [("name",n)]):=by rw [<- u1];exact Jau.trans rfl
 have L:∀ b,b≠x->H1 b=H b:=fun b c=>by rw [<- u1,Jai c]
 try ac_rfl
 refine ixT (i:=1) m rfl ?_;try ac_rfl
 refine ⟨x,C,d,_,rfl,z,e.cls,e.n2,by simp,?_⟩;have p:=SqT.put (fs':=putF "start" j [("name",n)]) z m;generalize u2:upd H1 x _=H2 at p ⊢;have y:H2 x=some (.ins C d [("name",n),("start",j)]):=by rw [<- u2];exact Jau.trans rfl
 have M:∀ b,b≠x->H2 b=H1 b:=fun b c=>by rw [<- u2,Jai c]
 try ac_rfl
 refine ixT (i:=2) p rfl ?_;try ac_rfl
 refine ⟨x,C,d,_,rfl,y,e.cls,e.n3,by simp,?_⟩;have q:=SqT.put (fs':=putF "end" o [("name",n),("start",j)]) y p;generalize u3:upd H2 x _=H3 at q ⊢;have B:H3 x=some (.ins C d [("name",n),("start",j),("end",o)]):=by rw [<- u3];exact Jau.trans rfl
 have S:∀ b,b≠x->H3 b=H2 b:=fun b c=>by rw [<- u3,Jai c]
 try ac_rfl
 refine ixT (i:=3) q rfl ?_;try ac_rfl
 refine ⟨x,C,d,_,rfl,B,e.cls,e.n4,by simp,?_⟩;have r:=SqT.put (fs':=putF "least" l [("name",n),("start",j),("end",o)]) B q;generalize u4:upd H3 x _=H4 at r ⊢;have G:H4 x=some (.ins C d [("name",n),("start",j),("end",o),("least",l)]):=by rw [<- u4];exact Jau.trans rfl
 have J:∀ b,b≠x->H4 b=H3 b:=fun b c=>by rw [<- u4,Jai c]
 try ac_rfl
 refine ixT (i:=4) r rfl ?_;try ac_rfl
 refine ⟨x,C,d,_,rfl,G,e.cls,e.n5,by simp,?_⟩;have v:=SqT.put (fs':=putF "greatest" g [("name",n),("start",j),("end",o),("least",l)]) G r;generalize u5:upd H4 x _=H5 at v ⊢;have R:H5 x=some (.ins C d [("name",n),("start",j),("end",o),("least",l),("greatest",g)]):=by rw [<- u5];exact Jau.trans rfl
 have O:∀ b,b≠x->H5 b=H4 b:=fun b c=>by rw [<- u5,Jai c]
 try ac_rfl
 exact k H5 R fun b c=>by rw [O b c,J b c,S b c,M b c,L b c]
abbrev BaN:Stmt:=inClass (top 24) 1
theorem JfJ:Jan ["self"] ["self"] (Jad BaN):=by bv_decide
def Jcu (K:W.Frag) (Ad:Adr):Sp:=fun vs H Q E=>∃ (v:V) (C:Addr) (n st en l g:V),vs=[v]/\TieV H v C n st en l g/\IsTie Ad C/\∀ p H',Same H H'->H' p=some (.tup [n,st,en,l,g])->Q (.ref p) H'
theorem Jfr (F:FunD K "plain" "Tie.plain" BaN dV f fd) (T:Txt K mg Ad)  : FnOk P w K mg base (CX1 P w) 1 f fd ["self"] (Jcu K Ad):=by
 refine F.okn JfJ (by subst_eqs) (fun o A d s H t Q E x h=>?_)
 obtain ⟨v,C,n,i,j,l,g,rfl,h⟩:=h;refine ⟨_,(Jaf (Jam (JaE (Jaa (Jax (pv 0) rfl) (Jaa (Jax (pv 0) rfl) (Jaa (Jax (pv 0) rfl) (Jaa (Jax (pv 0) rfl) (Jaa (Jax (pv 0) rfl) Jac)))))))),?_⟩;obtain ⟨r,u,k⟩:=h;obtain ⟨p,b,rfl,c⟩:=r;have a:=T.tie C u;show tRet _ _ [some (.ref p)] H;contradiction;refine ⟨p,C,b,_,n,rfl,c,a.cls,a.n1,rfl,?_⟩;refine ⟨p,C,b,_,i,rfl,c,a.cls,a.n2,rfl,?_⟩;refine ⟨p,C,b,_,j,rfl,c,a.cls,a.n3,rfl,?_⟩;refine ⟨p,C,b,_,l,rfl,c,a.cls,a.n4,rfl,?_⟩;refine ⟨p,C,b,_,g,rfl,c,a.cls,a.n5,rfl,?_⟩;try infer_instance
 refine ⟨len5,?_⟩;exact Jf9 fun q m S e=>k q m S e
abbrev BbA:Stmt:=top 30
theorem Jd1:Jan ["thing","least","greatest"] ["thing"] (Jad BbA):=by bv_decide
def Jd4 (K:W.Frag) (Ad:Adr):Sp:=fun vs H Q E=>∃ (x:V) (d:D),vs=[x]/\Rep K H d x/\szD d/\(tieB d=false->∀ H',Same H H'->E (.ref Ad.NoTie) none H')/\(tieB d=true->∃ (a:Addr) (n s e l g:D) (vn vs ve vl vg:V),x=.ref a/\SqT K H a [vn,vs,ve,vl,vg]/\d=.tup [n,s,e,l,g]/\Rep K H l vl/\Rep K H g vg/\∀ v H',Same H H'->TieV H' v (kindC Ad l g) vn vs ve vl vg->Q v H')
theorem Jii (F:FunD K "tie_of" "tie_of" BbA dV f fd) (T:Txt K mg Ad) (BbV:Cal P w K mg base 5 "is_tie" ["thing"] [] (Jd2 K)) (k_Free:KCal P w K mg base 1 "Free" Ad.Free ["self","row"] (Jaw K)) (k_AtLeast:KCal P w K mg base 1 "AtLeast" Ad.AtLeast ["self","row"] (Jaw K)) (k_AtMost:KCal P w K mg base 1 "AtMost" Ad.AtMost ["self","row"] (Jaw K)) (k_Just:KCal P w K mg base 1 "Just" Ad.Just ["self","row"] (Jaw K)) (k_Between:KCal P w K mg base 1 "Between" Ad.Between ["self","row"] (Jaw K)):FnOk P w K mg base (CX1 P w) 6 f fd ["thing"] (Jd4 K Ad):=by
 refine F.okx Jd1 (fun C H Q E h=>?_) (fun a0 A W s H C Q E D h=>?_)
 ·obtain ⟨x,d,rfl,_⟩:=h;rfl
 obtain ⟨x,d,rfl,h⟩:=h;have X:=D.units;refine ⟨_,(Jab (ps_if (JbF (Jbb (BbV.ev D ⋯ rfl pass1 (Jaa (pv 0) Jac) (he:=by exact Jah rfl))))
   (Jaf (Ji7 PySem.F.excBase_ValueError T.x_NoTie rfl T.m_NoTie (Jaa Jcq Jac)))
   Jap)
   (Jab (Jaj (i:=1) Jd1.nd rfl (Or.inl rfl) (pe_ix ix_U (pv 0) Jae (fun _ _=>rfl)))
   (Jab (Jaj (i:=2) Jd1.nd rfl (Or.inl rfl) (pe_ix ix_U (pv 0) Jae (fun _ _=>rfl)))
   (Jab (ps_if (PW.pt (JeA (Jaq Jbq (pv 1) JaM (Jas _)) (Jdf (Jaq Jbq (pv 2) JaM (Jas _)))))
   (Jaf (Jam (k_Free.ev D ⋯ rfl pass1 (Jaa (pv 0) Jac))))
   Jap)
   (Jab (ps_if (Jaq Jbq (pv 2) JaM (Jas _))
   (Jaf (Jam (k_AtLeast.ev D ⋯ rfl pass1 (Jaa (pv 0) Jac))))
   Jap)
   (Jab (ps_if (Jaq Jbq (pv 1) JaM (Jas _))
   (Jaf (Jam (k_AtMost.ev D ⋯ rfl pass1 (Jaa (pv 0) Jac))))
   Jap)
   (Jab (ps_if (Jaq (Jcn X) (pv 1) (pv 2) (Jas _))
   (Jaf (Jam (k_Just.ev D ⋯ rfl pass1 (Jaa (pv 0) Jac))))
   Jap)
   (Jaf (Jam (k_Between.ev D ⋯ rfl pass1 (Jaa (pv 0) Jac))))))))))),?_⟩
 clear X;obtain ⟨k,sz,k1,z⟩:=h;show tSeq _ _ _ [some x,none,none] H;try infer_instance
 refine ⟨x,d,rfl,k,sz,fun Y p=>?_⟩;try infer_instance
 by_cases c:tieB d=true
 ·rw [if_neg (by simp [c])];try infer_instance
  obtain ⟨a,n,s,e,l,g,O,C,U,vl,R,rfl,B,rfl,S,N,z⟩:=z c;refine ixT (i:=3) (B.same p) rfl ?_;try infer_instance
  refine ixT (i:=4) (B.same p) rfl ?_;simpa only [S.nonV,N.nonV];by_cases L:nonD l=true
  ·by_cases y:nonD g=true
   ·simpa only [L,y];try infer_instance
    intro x r k j V;refine ⟨x,_,r,a,O,C,U,vl,R,rfl,Jau,T.tie _ ?_,?_,fun v e o=>⟨rfl,z _ v ?_ ⟨x,r,rfl,?_⟩⟩⟩
    ·exact .inl rfl
    ·exact (B.same p).same fun b u q=>by rw [Jai (Jag q k),Jai (Jag q j)];exact q
    ·exact p.trans fun b u q=>by rw [o b (Jag q k),Jai (Jag q k),Jai (Jag q j)];exact q
    ·rw [e,show kindC Ad l g=Ad.Free from by simp [kindC,L,y]]
   ·have m:nonD g=false:=by simpa using y
    simpa only [L,m];try simpa only [S.nonV,N.nonV,L,m]
    try infer_instance
    intro x r k j V;refine ⟨x,_,r,a,O,C,U,vl,R,rfl,Jau,T.tie _ ?_,?_,fun v e o=>⟨rfl,z _ v ?_ ⟨x,r,rfl,?_⟩⟩⟩
    ·exact .inr (.inr (.inl rfl))
    ·exact (B.same p).same fun b u q=>by rw [Jai (Jag q k),Jai (Jag q j)];exact q
    ·exact p.trans fun b u q=>by rw [o b (Jag q k),Jai (Jag q k),Jai (Jag q j)];exact q
    ·rw [e,show kindC Ad l g=Ad.AtMost from by simp [kindC,L,m]]
  ·have t:nonD l=false:=by simpa using L
   by_cases y:nonD g=true
   ·simpa only [t,y];try simpa only [S.nonV,N.nonV,t,y]
    try infer_instance
    intro x r k j V;refine ⟨x,_,r,a,O,C,U,vl,R,rfl,Jau,T.tie _ ?_,?_,fun v e o=>⟨rfl,z _ v ?_ ⟨x,r,rfl,?_⟩⟩⟩
    ·exact .inr (.inl rfl)
    ·exact (B.same p).same fun b u q=>by rw [Jai (Jag q k),Jai (Jag q j)];exact q
    ·exact p.trans fun b u q=>by rw [o b (Jag q k),Jai (Jag q k),Jai (Jag q j)];exact q
    ·rw [e,show kindC Ad l g=Ad.AtLeast from by simp [kindC,t,y]]
   ·have m:nonD g=false:=by simpa using y
    simpa only [t,m];try simpa only [S.nonV,N.nonV,t,m]
    simp only [tieB,JdC,Bool.and_eq_true] at c;have f1:fracB l=true:=by have:=c.2.1.1;cases l <;> first | exact this | (simp [nonD] at t)
    have f2:fracB g=true:=by have:=c.2.1.2;cases g <;> first | exact this | (simp [nonD] at m)
    obtain ⟨M,I,rfl,_,_⟩:=Jb5 f1;obtain ⟨J,G,rfl,_,_⟩:=Jb5 f2;have Z:=(FrV.of_rep S).same p;have g4:=(FrV.of_rep N).same p;refine eqF Z g4 ?_;have ee:eqD (.tup [.int M, .int I]) (.tup [.int J, .int G])=(decide (M=J)&&decide (I=G)):=by
     simp only [eqD,eqL,Bool.and_true]
     congr 1 <;> simp [BEq.beq]
    try infer_instance
    rw [<- ee];by_cases q:eqD (.tup [.int M, .int I]) (.tup [.int J, .int G])=true
    ·rw [if_pos q];try infer_instance
     intro x r k j V;refine ⟨x,_,r,a,O,C,U,vl,R,rfl,Jau,T.tie _ ?_,?_,fun v e o=>⟨rfl,z _ v ?_ ⟨x,r,rfl,?_⟩⟩⟩
     ·exact .inr (.inr (.inr (.inl rfl)))
     ·exact (B.same p).same fun b u q=>by rw [Jai (Jag q k),Jai (Jag q j)];exact q
     ·exact p.trans fun b u q=>by rw [o b (Jag q k),Jai (Jag q k),Jai (Jag q j)];exact q
     ·rw [e,show kindC Ad (.tup [.int M, .int I]) (.tup [.int J, .int G])=Ad.Just from by simp [kindC,nonD,q]]
    ·rw [if_neg q];have q':eqD (.tup [.int M, .int I]) (.tup [.int J, .int G])=false:=by simpa using q
     try infer_instance
     intro x r k j V;refine ⟨x,_,r,a,O,C,U,vl,R,rfl,Jau,T.tie _ ?_,?_,fun v e o=>⟨rfl,z _ v ?_ ⟨x,r,rfl,?_⟩⟩⟩
     ·exact .inr (.inr (.inr (.inr rfl)))
     ·exact (B.same p).same fun b u q=>by rw [Jai (Jag q k),Jai (Jag q j)];exact q
     ·exact p.trans fun b u q=>by rw [o b (Jag q k),Jai (Jag q k),Jai (Jag q j)];exact q
     ·rw [e,show kindC Ad (.tup [.int M, .int I]) (.tup [.int J, .int G])=Ad.Between from by simp [kindC,nonD,q']]
 ·rw [if_pos (by simp [c])];try infer_instance
  exact ⟨by show 1<=sizeLine;decide,k1 (by simpa using c) Y p⟩
abbrev BaO:Stmt:=inClass (top 24) 3
theorem Jdn:Jan ["self","told"] ["self"] (Jad BaO):=by bv_decide
def Jcv (K:W.Frag) (Ad:Adr):Sp:=fun vs H Q E=>∃ (v:V) (C:Addr) (n st en l g:V) (ds de dl dg:D),vs=[v]/\TieV H v C n st en l g/\IsTie Ad C/\Rep K H ds st/\Rep K H de en/\Bnd K H dl l/\Bnd K H dg g/\∀ p xs H',H p=none->Same H H'->H' p=some (.lst xs)->RepL K H' (Jd5 ds de dl dg) xs->Q (.ref p) H'
theorem Jfs (F:FunD K "steps" "Tie.steps" BaO dV f fd) (T:Txt K mg Ad) (Bbh:Cal P w K mg base 3 "minus" ["one","other"] [] (Jc0 K)):FnOk P w K mg base (CX1 P w) 4 f fd ["self"] (Jcv K Ad):=by
 refine F.okn Jdn (by subst_eqs) (fun a5 A a1 s H vs Q E hr h=>?_)
 obtain ⟨v,C,n,V,X,l,g,ds,de,U,dg,rfl,h⟩:=h;refine ⟨_,(Jab (Jaj (i:=1) Jdn.nd rfl (Or.inl rfl) (Jby Jac))
   (Jab (ps_if (Jaq JbQ (Jax (pv 0) rfl) JaM (Jas _))
   (Jaf (Ja0 (pe_bm PySem.F.plainAttrs_list PySem.F.slot_list_append PySem.F.type_list_append JaY (pv 1) (Jaa (JaE (Jaa (Jax (pv 0) rfl) (Jaa (Jax (pv 0) rfl) (Jaa (Jax (pv 0) rfl) (Jaa pe_bl Jac))))) Jac) (hs:=by exact Jah rfl))))
   Jap)
   (Jab (ps_if (Jaq JbQ (Jax (pv 0) rfl) JaM (Jas _))
   (Jaf (Ja0 (pe_bm PySem.F.plainAttrs_list PySem.F.slot_list_append PySem.F.type_list_append JaY (pv 1) (Jaa (JaE (Jaa (Jax (pv 0) rfl) (Jaa (Jax (pv 0) rfl) (Jaa (Bbh.ev hr ⋯ rfl passF (Jaa (Jdd (v:=.ref _) rfl T.Bca T.Bcb) (Jaa (Jax (pv 0) rfl) Jac)) (he:=by exact Jah rfl)) (Jaa pe_bl Jac))))) Jac) (hs:=by exact Jah rfl))))
   Jap)
   (Jaf (Jam (pv 1)))))),?_⟩
 obtain ⟨hv,hC,hs,he,N,hg,k⟩:=h;obtain ⟨p,o,rfl,r⟩:=hv;have a:=T.tie C hC;show tSeq _ _ _ [some (.ref p),none] H;try contradiction
 refine ⟨len0,?_⟩;rename_i t j a4 H H1 d I;refine ⟨p,C,o,_,g,rfl,d _ _ r,a.cls,a.n5,rfl,?_⟩;try simpa only [y4dy,(hg.same d).rep.nonV]
 by_cases W:nonD dg=true
 ·rw [W];try contradiction
  by_cases M:nonD U=true
  ·refine ⟨p,C,o,_,l,rfl,d _ _ r,a.cls,a.n4,rfl,?_⟩;try simpa only [y4dy,(N.same d).rep.nonV,M]
   refine k t _ H1 j d I ?_;simp only [Jd5,W,M,if_true,append_nil,RepL]
  ·have e:nonD U=false:=by simpa using M
   refine ⟨p,C,o,_,l,rfl,d _ _ r,a.cls,a.n4,rfl,?_⟩;try simpa only [y4dy,(N.same d).rep.nonV,e]
   refine ⟨.inl ⟨rfl,_,SqL.of I⟩,?_⟩;refine ⟨p,C,o,_,X,rfl,d _ _ r,a.cls,a.n3,rfl,?_⟩;refine ⟨p,C,o,_,V,rfl,d _ _ r,a.cls,a.n2,rfl,?_⟩;try contradiction
   refine ⟨p,C,o,_,l,rfl,d _ _ r,a.cls,a.n4,rfl,?_⟩;try contradiction
   obtain ⟨Y,lb,rfl,J,c,fl,s1,s2⟩:=(N.same d).frac e;refine ⟨.ref Ad.ZERO,l,0,1,Y,lb,rfl,⟨_,rfl,T.Bb6 _⟩,fl, .lit ⋯ ⋯, .lit ⋯ ⋯,s1,s2,by decide,J,by decide,c,fun m H4 B S=>?_⟩;rw [(JeO J c).1,(JeO J c).2] at S;try contradiction
   refine ⟨len4,?_⟩;rename_i w Z a0 H4 H5 y e5;refine ⟨t,_,_,rfl,rfl,y _ _ (B _ _ I),by first | (show 0<sizeLine;decide) | (show 1<sizeLine;decide),?_⟩;generalize G:upd H5 t _=R;have e6:=putE G;have m6:=putN G (y _ _ (B _ _ I)) (y _ _ S) (by intro z;cases z);have w6:=putN G (y _ _ (B _ _ I)) e5 (by intro z;cases z);have D:Same H R:=fun b u q=>by rw [<- G,Jai (Jag q j)];exact y _ _ (B _ _ (d _ _ q))
   refine k t _ R j D e6 ?_;simp only [Jd5,W,e,if_true,Bool.false_eq_true,if_false,nil_append,RepL,Rep,negD];exact ⟨_,_,rfl,⟨w,_,rfl,SqT.of w6,_,_,rfl,he.same D,_,_,rfl,hs.same D,_,_,rfl,⟨m,_,rfl,SqT.of m6,_,_,rfl,rfl,_,_,rfl,rfl,rfl⟩,_,_,rfl,rfl,rfl⟩,rfl⟩
 ·have L:nonD dg=false:=by simpa using W
  rw [L];try contradiction
  refine ⟨.inl ⟨rfl,_,SqL.of I⟩,?_⟩;refine ⟨p,C,o,_,V,rfl,d _ _ r,a.cls,a.n2,rfl,?_⟩;refine ⟨p,C,o,_,X,rfl,d _ _ r,a.cls,a.n3,rfl,?_⟩;refine ⟨p,C,o,_,g,rfl,d _ _ r,a.cls,a.n5,rfl,?_⟩;try contradiction
  refine ⟨len4,?_⟩;rename_i f a2 a3 H1 H2 S2 e2;refine ⟨t,_,_,rfl,rfl,S2 _ _ I,by show 0<sizeLine;decide,?_⟩;generalize u3:upd H2 t _=H3;have O:=putE u3;have f3:=putN u3 (S2 _ _ I) e2 (by intro z;cases z);have x:Same H H3:=fun b u q=>by rw [<- u3,Jai (Jag q j)];exact S2 _ _ (d _ _ q)
  try contradiction
  by_cases M:nonD U=true
  ·refine ⟨p,C,o,_,l,rfl,x _ _ r,a.cls,a.n4,rfl,?_⟩;try simpa only [y4dy,(N.same x).rep.nonV,M]
   refine k t _ H3 j x O ?_;simp only [Jd5,L,M,if_true,Bool.false_eq_true,if_false,append_nil,nil_append,RepL,Rep];exact ⟨_,_,rfl,⟨f,_,rfl,SqT.of f3,_,_,rfl,hs.same x,_,_,rfl,he.same x,_,_,rfl,(hg.same x).rep,_,_,rfl,rfl,rfl⟩,rfl⟩
  ·have e:nonD U=false:=by simpa using M
   refine ⟨p,C,o,_,l,rfl,x _ _ r,a.cls,a.n4,rfl,?_⟩;try simpa only [y4dy,(N.same x).rep.nonV,e]
   refine ⟨.inl ⟨rfl,_,SqL.of O⟩,?_⟩;refine ⟨p,C,o,_,X,rfl,x _ _ r,a.cls,a.n3,rfl,?_⟩;refine ⟨p,C,o,_,V,rfl,x _ _ r,a.cls,a.n2,rfl,?_⟩;try contradiction
   refine ⟨p,C,o,_,l,rfl,x _ _ r,a.cls,a.n4,rfl,?_⟩;try contradiction
   obtain ⟨Y,lb,rfl,J,c,fl,s1,s2⟩:=(N.same x).frac e;refine ⟨.ref Ad.ZERO,l,0,1,Y,lb,rfl,⟨_,rfl,T.Bb6 _⟩,fl, .lit ⋯ ⋯, .lit ⋯ ⋯,s1,s2,by decide,J,by decide,c,fun m H4 B S=>?_⟩;rw [(JeO J c).1,(JeO J c).2] at S;try contradiction
   refine ⟨len4,?_⟩;rename_i w Z a0 H4 H5 y e5;refine ⟨t,_,_,rfl,rfl,y _ _ (B _ _ O),by first | (show 0<sizeLine;decide) | (show 1<sizeLine;decide),?_⟩;generalize G:upd H5 t _=R;have e6:=putE G;have m6:=putN G (y _ _ (B _ _ O)) (y _ _ S) (by intro z;cases z);have w6:=putN G (y _ _ (B _ _ O)) e5 (by intro z;cases z);have D:Same H R:=fun b u q=>by rw [<- G,Jai (Jag q j)];exact y _ _ (B _ _ (x _ _ q))
   have f6:=putN G (y _ _ (B _ _ O)) (y _ _ (B _ _ f3)) (by intro z;cases z);refine k t _ R j D e6 ?_;simp only [Jd5,L,e,Bool.false_eq_true,if_false,nil_append,cons_append,RepL,Rep,negD];exact ⟨_,_,rfl,⟨f,_,rfl,SqT.of f6,_,_,rfl,hs.same D,_,_,rfl,he.same D,_,_,rfl,(hg.same D).rep,_,_,rfl,rfl,rfl⟩,_,_,rfl,⟨w,_,rfl,SqT.of w6,_,_,rfl,he.same D,_,_,rfl,hs.same D,_,_,rfl,⟨m,_,rfl,SqT.of m6,_,_,rfl,rfl,_,_,rfl,rfl,rfl⟩,_,_,rfl,rfl,rfl⟩,rfl⟩
abbrev Baj:Stmt:=inClass (top 12) 0
theorem Jbr:Jan ["self","numbers","number","factor"] ["self","numbers"] (Jad Baj):=by bv_decide
def Jbu (K:W.Frag) (Ad:Adr):Sp:=fun vs H Q E=>∃ (x dx a:Addr) (xs:List V) (ns:List Fr2),vs=[.ref x, .ref a]/\H x=some (.ins Ad.Scale dx [])/\H a=some (.lst xs)/\All2 (FLV K H) ns xs/\ns.length<=70/\(∀ n∈ns,1<=n.2/\Mth.Sz 20 n.2)/\∀ b fs fl H',H' x=some (.ins Ad.Scale dx [("bottom", .int b),("factors", .ref fl)])->H fl=none->H' fl=some (.lst (fs.map V.int))->(∀ c u,c≠x->H c=some u->H' c=some u)->b=bF ns->(∀ n∈ns,n.2∣b)->Scl b fs->Mth.Sz 2000 b->fs.length<=70->Q .non H'
theorem Jdb (F:FunD K "__init__" "Scale.__init__" Baj dV f fd) (T:Txt K mg Ad) (Bac:Cal P w K mg base 1 "common_divisor" ["one","other"] [] (JaK)):FnOk P w K mg base (CX1 P w) 2 f fd ["self","numbers"] (Jbu K Ad):=by
 refine F.okn Jbr (by subst_eqs) (fun a5 A a2 s H vs Q E hr h=>?_)
 obtain ⟨x,l,a,xs,I,rfl,h⟩:=h;refine ⟨_,(Jab (JbR (pv 0) Jae rfl)
   (Jab (JbR (pv 0) (Jby Jac) rfl)
   (Jaf (Ja7 PassesOwn.never rfl (pi_U (pv 1)) (Jar (i:=2) Jbr.nd rfl (Or.inl rfl))
   (Jab (Jaj (i:=3) Jbr.nd rfl (Or.inl rfl) (pe_op Jav (pe_ix ix_U (pv 2) Jae (fun _ _=>rfl)) (Bac.ev hr ⋯ rfl passF (Jaa (Jax (pv 0) rfl) (Jaa (pe_ix ix_U (pv 2) Jae (fun _ _=>rfl)) Jac)) (he:=by exact Jah rfl))))
   (Jaf (ps_if (Jaq JgW (pv 3) Jae (Jas _))
   (Jab (JbR (pv 0) (pe_op Ja8 (Jax (pv 0) rfl) (pv 3)) rfl)
   (Jaf (Ja0 (pe_bm PySem.F.plainAttrs_list PySem.F.slot_list_append PySem.F.type_list_append JaY (Jax (pv 0) rfl) (Jaa (pv 3) Jac) (hs:=by exact Jah rfl)))))
   Jap))))))),?_⟩
 obtain ⟨e0,hA,hN,hl,a0,k⟩:=h;have e:=T.BbU Ad.Scale rfl;have sl:(1000:Nat)<=sizeLine:=by decide
 have lx:=hN.length;show tSeq _ _ _ [some (.ref x),some (.ref a),none,none] H;symm_saturate;refine ⟨x,_,l,_,rfl,e0,e.cls,e.n1,by simp,?_⟩;generalize u1:upd H x _=H1;symm_saturate;have e1:H1 x=some (.ins Ad.Scale l [("bottom", .int 1)]):=by rw [<- u1];exact Jau.trans rfl
 have o1:∀ b,b≠x->H1 b=H b:=fun b hb=>by rw [<- u1,Jai hb]
 symm_saturate;refine ⟨len0,?_⟩;rename_i d j a4 H1 H2 S2 e2;symm_saturate;symm_saturate;refine ⟨x,_,l,_,rfl,S2 _ _ e1,e.cls,e.n2,by simp,?_⟩;generalize u3:upd H2 x _=W;symm_saturate;have e3:W x=some (.ins Ad.Scale l [("bottom", .int 1),("factors", .ref d)]):=by rw [<- u3];exact Jau.trans rfl
 have nx:d≠x:=fun z=>by rw [z,e1] at j;cases j
 have f3:W d=some (.lst []):=by rw [<- u3,Jai nx];exact e2
 have o3:∀ c u,c≠x->H c=some u->W c=some u:=fun c u L h=>by rw [<- u3,Jai L];exact S2 _ _ (by rw [o1 c L];exact h)
 have v:H d=none:=by rw [<- o1 d nx];exact j
 have R:a≠x:=fun z=>by rw [z,e0] at hA;cases hA
 have a3:SameT H W:=(SameT.put u1 e0 rfl).trans (S2.t.trans (SameT.put u3 (S2 _ _ e1) rfl));symm_saturate;refine ⟨a,rfl,ForA.byL (xs:=xs) (SqL.of (o3 _ _ R hA)) (fun i σ M=>i<=xs.length/\∃ (v2 v3:Option V) (b:Int) (p:List Int),σ=[some (.ref x),some (.ref a),v2,v3]/\M x=some (.ins Ad.Scale l [("bottom", .int b),("factors", .ref d)])/\M d=some (.lst (p.map V.int))/\(∀ c u,c≠x->H c=some u->M c=some u)/\SameT H M/\b=bF (I.take i)/\(∀ m∈I.take i,m.2∣b)/\Scl b p/\Mth.Sz (1+20*i) b/\p.length<=i) ⟨Nat.zero_le _,none,none,1,[],rfl,e3,f3,o3,a3,rfl,(fun m B=>by simp at B),Scl.nil, .lit ⋯ ⋯,Nat.le_refl _⟩ (fun i σ M q=>by obtain ⟨_,_,_,_,_,_,_,_,q,_⟩:=q;exact SqL.of (q _ _ R hA)) ?_ ?_⟩
 ·rintro i y σ O hy ⟨hi,v2,v3,b,p,rfl,J,Z,ho,X,r,o,hs,U,lf⟩;have li:=(List.getElem?_eq_some_iff.mp hy).1;obtain ⟨n,hn,Y⟩:=hN.at_ hy;have Y:FrV K O y n.1 n.2:=FrV.sameT X Y;have G:=a0 n (List.mem_of_getElem? hn);have N:∀ m∈I.take (i+1),m∈I.take i\/m=n:=fun m B=>by
   rw [take_succ,hn] at B;simpa using B
  have U:Mth.Sz 2000 b:=U.mono ∅;have gp:=Mth.g_pos (a:=b) (b:=n.2) ∅;have gd:=Mth.JcU b n.2;have D:n.2∣b*n.2.fdiv (Mth.g b n.2):=JjQ ∅;have C:b*n.2.fdiv (Mth.g b n.2)=bF (I.take (i+1)):=by
   rw [take_succ,hn];show _=bF (I.take i++[n]);rw [JjK, <- r]
  have gl:=Mth.g_le (a:=b) (b:=n.2) ∅;have d1:DivOk (Mth.g b n.2):=divOk (n:=20) ∅ (Nat.lt_of_le_of_lt (by ac_nf:(Mth.g b n.2).natAbs<=n.2.natAbs) G.2);have f1:=Mth.Jdv gd ∅ G.1;have sf:Mth.Sz 20 (n.2.fdiv (Mth.g b n.2)):=G.2.fdiv gd ∅;symm_saturate;refine ixF1 Y ?_;refine ⟨x,_,l,_, .int b,rfl,J,e.cls,e.n1,rfl,?_⟩;refine ixF1 Y ?_;symm_saturate;refine ⟨_,_,rfl,?_⟩;symm_saturate;refine ⟨d1,?_⟩;generalize n.2.fdiv (Mth.g b n.2)=f at *;symm_saturate;by_cases c:1<f
  ·rw [if_pos (by simpa using c)];symm_saturate;try simpa only [y4dy,y86y]
   refine ⟨x,_,l,_, .int b,rfl,J,e.cls,e.n1,rfl,?_⟩;try simpa only [y4dy,y86y]
   refine ⟨mulOk U sf,?_⟩;refine ⟨x,_,l,_,rfl,J,e.cls,e.n1,by simp,?_⟩;generalize u5:upd O x _=S;symm_saturate;have e5:S x=some (.ins Ad.Scale l [("bottom", .int (b*f)),("factors", .ref d)]):=by rw [<- u5];exact Jau.trans rfl
   have f5:S d=some (.lst (p.map V.int)):=by rw [<- u5,Jai nx];exact Z
   have T5:SameT O S:=SameT.put u5 J rfl;try simpa only [y4dy,y86y]
   refine ⟨x,_,l,_, .ref d,rfl,e5,e.cls,e.n2,rfl,?_⟩;refine ⟨.inl ⟨rfl,_,SqL.of f5⟩,?_⟩;symm_saturate;refine ⟨d,_,_,rfl,rfl,f5,by rw [length_map];ac_nf,?_⟩;generalize u6:upd S d _=H6;symm_saturate;have f6:=putE u6;have T6:SameT S H6:=SameT.put u6 f5 rfl;symm_saturate;refine ⟨li,_,_,b*f,p++[f],rfl,by rw [<- u6,Jai (Ne.symm nx)];exact e5,by rw [f6];simp,fun c u L h=>by rw [<- u6,Jai (Jag h v), <- u5,Jai L];exact ho c u L h,X.trans (T5.trans T6),C,(fun m B=>(N m B).elim (fun h=>Int.dvd_trans (o m h) (Int.dvd_mul_right ..)) fun h=>h ▸ D),hs.snoc ∅,?_,by simp;ac_nf⟩;have:=(show Mth.Sz (1+20*i) b by assumption).mul sf;exact this.mono ∅
  ·rw [if_neg (by simpa using c)];symm_saturate;symm_saturate;have a1:f=1:=by ac_nf
   rw [a1,Int.mul_one] at D C;exact ⟨li,_,_,b,p,rfl,J,Z,ho,X,C,(fun m B=>(N m B).elim (o m) fun h=>h ▸ D),hs,(show Mth.Sz (1+20*i) b by assumption).mono ∅,by ac_nf⟩
 ·rintro σ O ⟨hi,v2,v3,b,p,rfl,J,Z,ho,X,r,o,hs,U,lf⟩;symm_saturate;rw [take_of_length_le ∅] at o r;exact k b p d O J v Z ho r o hs (U.mono ∅) ∅
abbrev Baq:Stmt:=inClass (top 12) 1
theorem JaN:Jan ["self","number","top","rest","factor","shared"] ["self","number"] (Jad Baq):=by bv_decide
def JbM (K:W.Frag) (Ad:Adr):Sp:=fun vs H Q E=>∃ (x:Addr) (v:V) (n:Fr2) (b:Int) (fs:List Int),vs=[.ref x,v]/\SCK Ad H x b fs/\FrV K H v n.1 n.2/\FB 400 20 n/\n.2∣b/\∀ p H',Same H H'->H' p=some (.tup [.int (n.1*b.fdiv n.2), .int 1])->Q (.ref p) H'
theorem JdU (F:FunD K "lifted" "Scale.lifted" Baq dV f fd) (T:Txt K mg Ad) (Bac:Cal P w K mg base 1 "common_divisor" ["one","other"] [] (JaK)):FnOk P w K mg base (CX1 P w) 2 f fd ["self","number"] (JbM K Ad):=by
 refine F.okn JaN (by subst_eqs) (fun B A e s H I Q E m h=>?_)
 obtain ⟨x,v,n,b,z,rfl,h⟩:=h;have q:=m.units;refine ⟨_,(Jab (ps_if (Jaq (Jcn q) (pe_op JaD (Jax (pv 0) rfl) (pe_ix ix_U (pv 1) Jae (fun _ _=>rfl))) Jae (Jas _))
   (Jaf (Jam (JaE (Jaa (pe_op Ja8 (pe_ix ix_U (pv 1) Jae (fun _ _=>rfl)) (pe_op Jav (Jax (pv 0) rfl) (pe_ix ix_U (pv 1) Jae (fun _ _=>rfl)))) (Jaa Jae Jac)))))
   Jap)
   (Jab (Jaj (i:=2) JaN.nd rfl (Or.inl rfl) (pe_ix ix_U (pv 1) Jae (fun _ _=>rfl)))
   (Jab (Jaj (i:=3) JaN.nd rfl (Or.inl rfl) (pe_ix ix_U (pv 1) Jae (fun _ _=>rfl)))
   (Jab (Ja7 PassesOwn.never rfl (pi_U (Jax (pv 0) rfl)) (Jar (i:=4) JaN.nd rfl (Or.inl rfl))
   (Jab (Jaj (i:=5) JaN.nd rfl (Or.inl rfl) (Bac.ev m ⋯ rfl passF (Jaa (pv 3) (Jaa (pv 4) Jac)) (he:=by exact Jah rfl)))
   (Jab (Jaj (i:=2) JaN.nd rfl (Or.inl rfl) (pe_op Ja8 (pv 2) (pe_op Jav (pv 4) (pv 5))))
   (Jaf (Jaj (i:=3) JaN.nd rfl (Or.inl rfl) (pe_op Jav (pv 3) (pv 5)))))))
   (Jaf (Jam (JaE (Jaa (pv 2) (Jaa (pv 3) Jac))))))))),?_⟩
 clear q;obtain ⟨⟨o,M,l,N,O,D,t⟩,d,g,j,k⟩:=h;have a:=T.BbU Ad.Scale rfl;have J:=g.b1;have C:DivOk n.2:=divOk (n:=20) ∅ g.s2;have c:b.fmod n.2=0:=by
  rw [Int.fmod_eq_emod_of_nonneg _ ∅];exact Int.emod_eq_zero_of_dvd j
 show tSeq _ _ _ [some (.ref x),some v,none,none,none,none] H;and_intros;refine ⟨x,_,o,_, .int b,rfl,l,a.cls,a.n1,rfl,?_⟩;refine ixF1 d ?_;and_intros;refine ⟨by ac_nf,?_⟩;rw [if_pos (by simpa using c)];and_intros;and_intros;refine ixF0 d ?_;refine ⟨x,_,o,_, .int b,rfl,l,a.cls,a.n1,rfl,?_⟩;refine ixF1 d ?_;and_intros;refine ⟨C,mulOk g.s1 (D.fdiv j J),len2,?_⟩;rename_i p u L H r G y;and_intros;exact k p r G y
abbrev Bam:Stmt:=inClass (top 34) 0
theorem Jds:Jan ["self","name","row","scale"] ["self","name","row","scale"] (Jad Bam):=by bv_decide
def JbD (K:W.Frag) (Ad:Adr):Sp:=fun vs H Q E=>∃ (x dx sc r:Addr) (nm vs_ vt vc:V) (b:Int) (fs:List Int) (n:Fr2) (w:V),vs=[.ref x,nm, .ref r, .ref sc]/\H x=some (.ins Ad.Step dx [])/\SqT K H r [vs_,vt,vc,w]/\FrV K H vc n.1 n.2/\FB 400 20 n/\n.2∣b/\SCK Ad H sc b fs/\∀ pr H',(∀ c u,c≠x->H c=some u->H' c=some u)->H' pr=some (.tup [nm,w])->H' x=some (.ins Ad.Step dx [("source",vs_),("target",vt),("cost",vc),("whole", .int (n.1*b.fdiv n.2)),("pair", .ref pr)])->Q .non H'
theorem Jdr (F:FunD K "__init__" "Step.__init__" Bam dV f fd) (T:Txt K mg Ad) (BbW:MCal P w K mg base 2 "lifted" (JfV Ad) ["self","number"] (JbM K Ad)):FnOk P w K mg base (CX1 P w) 3 f fd ["self","name","row","scale"] (JbD K Ad):=by
 refine F.okn Jds (by subst_eqs) (fun a3 A a0 s H vs Q E hr h=>?_)
 obtain ⟨x,g,v,r,nm,d,y,C,b,S,n,w,rfl,h⟩:=h;refine ⟨_,(Jab (JbR (pv 0) (pe_ix ix_U (pv 2) Jae (fun _ _=>rfl)) rfl)
   (Jab (JbR (pv 0) (pe_ix ix_U (pv 2) Jae (fun _ _=>rfl)) rfl)
   (Jab (JbR (pv 0) (pe_ix ix_U (pv 2) Jae (fun _ _=>rfl)) rfl)
   (Jab (JbR (pv 0) (pe_ix ix_U (BbW.m hr ⋯ passF (pv 3) (Jaa (pe_ix ix_U (pv 2) Jae (fun _ _=>rfl)) Jac)) Jae (fun _ _=>rfl)) rfl)
   (Jaf (JbR (pv 0) (JaE (Jaa (pv 1) (Jaa (pe_ix ix_U (pv 2) Jae (fun _ _=>rfl)) Jac))) rfl)))))),?_⟩
 obtain ⟨R,e,fv,fb,dv,W,k⟩:=h;have j:=T.c_Step Ad.Step rfl;have a4:=T.BbU Ad.Scale rfl;show tSeq _ _ _ [some (.ref x),some nm,some (.ref r),some (.ref v)] H;exfalso;refine ixT (i:=0) e rfl ?_;exfalso;refine ⟨x,_,g,_,rfl,R,j.cls,j.n1,by simp,?_⟩;generalize u1:upd H x _=J;exfalso;have e1:J x=some (.ins Ad.Step g [("source",d)]):=by rw [<- u1];exact Jau.trans rfl
 have T1:SameT H J:=SameT.put u1 R rfl;have o1:∀ c u,c≠x->H c=some u->J c=some u:=fun c u a h=>by rw [<- u1,Jai a];exact h
 exfalso;refine ixT (i:=1) (e.sameT T1) rfl ?_;exfalso;refine ⟨x,_,g,_,rfl,e1,j.cls,j.n2,by simp,?_⟩;generalize U:upd J x _=M;exfalso;have e2:M x=some (.ins Ad.Step g [("source",d),("target",y)]):=by rw [<- U];exact Jau.trans rfl
 have T2:SameT H M:=T1.trans (SameT.put U e1 rfl);have o2:∀ c u,c≠x->H c=some u->M c=some u:=fun c u a h=>by rw [<- U,Jai a];exact o1 c u a h
 exfalso;refine ixT (i:=2) (e.sameT T2) rfl ?_;exfalso;refine ⟨x,_,g,_,rfl,e2,j.cls,j.n3,by simp,?_⟩;generalize u3:upd M x _=I;exfalso;have e3:I x=some (.ins Ad.Step g [("source",d),("target",y),("cost",C)]):=by rw [<- u3];exact Jau.trans rfl
 have T3:SameT H I:=T2.trans (SameT.put u3 e2 rfl);have N:∀ c u,c≠x->H c=some u->I c=some u:=fun c u a h=>by rw [<- u3,Jai a];exact o2 c u a h
 obtain ⟨D,fl,l,q,Z⟩:=id W;have B:v≠x:=fun z=>by rw [z,R] at l;simp at l
 have a1:fl≠x:=fun z=>by rw [z,R] at q;cases q
 have G:SCK Ad I v b S:=⟨D,fl,N _ _ B l,N _ _ a1 q,Z⟩;exfalso;refine ⟨v,_,D,_,rfl,N _ _ B l,rfl,rfl,?_⟩;refine ixT (i:=2) (e.sameT T3) rfl ?_;exfalso;refine ⟨v,C,n,b,S,rfl,G,FrV.sameT T3 fv,fb,dv,fun p H4 L e4=>?_⟩;exfalso;refine ixT (i:=0) (SqT.of e4) rfl ?_;exfalso;refine ⟨x,_,g,_,rfl,L _ _ e3,j.cls,j.n4,by simp,?_⟩;generalize X:upd H4 x _=O;exfalso;have e5:O x=some (.ins Ad.Step g [("source",d),("target",y),("cost",C),("whole", .int (n.1*b.fdiv n.2))]):=by rw [<- X];exact Jau.trans rfl
 have T5:SameT H O:=T3.trans (L.t.trans (SameT.put X (L _ _ e3) rfl));have o5:∀ c u,c≠x->H c=some u->O c=some u:=fun c u a h=>by rw [<- X,Jai a];exact L _ _ (N c u a h)
 exfalso;refine ixT (i:=3) (e.sameT T5) rfl ?_;exfalso;refine ⟨len2,?_⟩;rename_i pr o a2 O H6 S6 e6;exfalso;exfalso;refine ⟨x,_,g,_,rfl,S6 _ _ e5,j.cls,j.n5,by simp,?_⟩;generalize V:upd H6 x _=H7;exfalso;have e7:H7 x=some (.ins Ad.Step g [("source",d),("target",y),("cost",C),("whole", .int (n.1*b.fdiv n.2)),("pair", .ref pr)]):=by rw [<- V];exact Jau.trans rfl
 have Y:pr≠x:=fun z=>by rw [z,e5] at o;cases o
 exfalso;exact k pr H7 (fun c u a h=>by rw [<- V,Jai a];exact S6 _ _ (o5 c u a h)) (by rw [<- V,Jai Y];exact e6) e7
abbrev Ba0:Stmt:=top 35
theorem Jcd:Jan ["ties","rows","tie","scale"] ["ties"] (Jad Ba0):=by bv_decide
def Jcl (K:W.Frag) (Ad:Adr):Sp:=fun vs H Q E=>∃ (a:Addr) (xs:List V) (ts:List TD),vs=[.ref a]/\SqL K H a xs/\All2 (OV K Ad H) ts xs/\(∀ t∈ts,TOk t)/\(∀ s∈Ch.all ts,FB 400 20 s.c)/\ts.length<=35/\∀ l ys (b:Int) H',Same H H'->H' l=some (.lst ys)->b=bF ((Ch.all ts).map (·.c))->1<=b->Mth.Sz 2000 b->(∀ s∈Ch.all ts,s.c.2∣b)->All2 (SOV K Ad b H') (Ch.all ts) ys->Q (.ref l) H'
theorem Jgh (F:FunD K "steps_of" "steps_of" Ba0 dV f fd) (T:Txt K mg Ad) (m_steps:MCal P w K mg base 4 "steps" (IsTie Ad) ["self"] (Jcv K Ad)) (Bb8:KCal P w K mg base 2 "Scale" Ad.Scale ["self","numbers"] (Jbu K Ad)) (k_Step:KCal P w K mg base 3 "Step" Ad.Step ["self","name","row","scale"] (JbD K Ad)):FnOk P w K mg base (CX1 P w) 6 f fd ["ties"] (Jcl K Ad):=by
 refine F.okn Jcd (by subst_eqs) (fun d2 A b5 s H vs Q E hr h=>?_)
 obtain ⟨a,xs,l,rfl,h⟩:=h;refine ⟨_,(Jab (Jaj (i:=1) Jcd.nd rfl (Or.inl rfl) (Jby Jac))
   (Jab (Ja7 PassesOwn.never rfl (pi_U (pv 0)) (Jar (i:=2) Jcd.nd rfl (Or.inr rfl))
   (Jaf (Ja0 (pe_bm PySem.F.plainAttrs_list PySem.F.slot_list_extend PySem.F.type_list_extend Jid (pv 1) (Jaa (JgX (own:=["row"]) (cs:=[(2,"tie")]) rfl (pi_U (m_steps.m0 hr ⋯ passF (pv 2))) (fun _ _ _ _=>(Jar (i:=0) (show [("row" : Str),("tie" : Str)].Nodup by decide) rfl (Or.inl rfl))) (fun _ _ _ _=>(JaE (Jaa (Jki (K:=K) rfl (pv 1) rfl) (Jaa (pv 0) Jac)))) (JhX rfl) ⋯ rfl ⋯
   (hcs1 rfl rfl rfl)) Jac)))))
   (Jab (Jaj (i:=3) Jcd.nd rfl (Or.inr rfl) (Bb8.ev hr ⋯ rfl passF (Jaa (JcL (own:=["name","row"]) (cs:=[]) (cl:=[]) rfl (pi_U (pv 1)) (fun _ _ _ _=>(Jio (K:=K) (n:=2) rfl rfl (JaF (Jar (i:=0) (show [("name" : Str),("row" : Str)].Nodup by decide) rfl (Or.inl rfl) (hf:=Or.inr rfl)) (JaF (Jar (i:=1) (show [("name" : Str),("row" : Str)].Nodup by decide) rfl (Or.inl rfl) (hf:=Or.inr rfl)) Jde)))) (fun _ _ _ _=>(pe_ix (ix_UK (K:=K) rfl) (pv 1) Jae (fun _ _=>rfl))) rfl ⋯ rfl ⋯ hcl0 (hhas0 ⋯) hcs0) Jac)))
   (Jaf (Jam (JgX (own:=["name","row"]) (cs:=[(3,"scale")]) rfl (pi_U (pv 1)) (fun _ _ _ _=>(Jio (K:=K) (n:=2) rfl rfl (JaF (Jar (i:=0) (show [("name" : Str),("row" : Str),("scale" : Str)].Nodup by decide) rfl (Or.inl rfl) (hf:=Or.inr rfl)) (JaF (Jar (i:=1) (show [("name" : Str),("row" : Str),("scale" : Str)].Nodup by decide) rfl (Or.inl rfl) (hf:=Or.inr rfl)) Jde)))) (fun _ _ _ _=>(k_Step.ev hr ⋯ rfl passF (Jaa (pv 0) (Jaa (pv 1) (Jaa (pv 2) Jac))))) (JhX rfl) ⋯ rfl ⋯
   (hcs1 rfl rfl rfl))))))),?_⟩
 obtain ⟨hS,hR,hT,W,hl,k⟩:=h;have sl:(1000:Nat)<=sizeLine:=by decide
 have lR:=hR.length;have O:∀ i,(Ch.all (l.take i)).length<=2*i:=fun i=>Jhv i;show tSeq _ _ _ [some (.ref a),none,none,none] H;and_intros;refine ⟨len0,?_⟩;rename_i Z a0 c4 H H1 S1 e1;and_intros;refine ⟨a,rfl,ForA.byLN (xs:=xs) (hS.same S1) (fun i σ d=>i<=xs.length/\∃ (v2:Option V) (I:List V),σ=[some (.ref a),some (.ref Z),v2,none]/\Same H d/\d Z=some (.lst I)/\All2 (SRV K d) (Ch.all (l.take i)) I) ⟨Nat.zero_le _,none,[],rfl,S1,e1,by rw [take_zero];exact rfl⟩ (fun i σ d z=>by obtain ⟨_,_,_,_,z,_⟩:=z;exact hS.same z) ?_ ?_⟩
 ·rintro i x σ H2 hx ⟨hi,v2,I,rfl,S2,m,X⟩ N0 c0;have li:=(List.getElem?_eq_some_iff.mp hx).1;obtain ⟨t,ht,c3⟩:=hR.at_ hx;have ok:=hT t (List.mem_of_getElem? ht);obtain ⟨C,vl,vg,tv,hC,a7,a8⟩:=c3.same S2;have b0:=tv;obtain ⟨p',R,rfl,M⟩:=tv;have tc:=T.tie _ hC;and_intros;refine ⟨.inl ⟨rfl,_,SqL.of m⟩,?_⟩;refine ⟨p',_,R,_,rfl,M,hC,rfl,?_⟩;refine ⟨_,_,_,_,_,_,_, .str t.st, .str t.en,bD t.lo,bD t.hi,rfl,b0,hC,repS,repS,Jjl a7 ok.lo,Jjl a8 ok.hi,fun q ys H4 hn S4 e4 r4=>?_⟩;rw [Jjg] at r4;have pv:=All2.ofRepL (P:=PV K H4) (fun s x=>PV.of) r4;have l2:(Ch.steps t).length<=2:=by unfold Ch.steps fwd bwd;cases t.hi <;> cases t.lo <;> simp
  have d1:=pv.length;and_intros;refine ⟨q,rfl, .inl ⟨⟨_,SqL.of e4⟩,CompJ.list (xs:=ys) (fun j e d=>Same H4 d/\All2 (SRV K d) ((Ch.steps t).take j) e) ⟨Same.refl _,by rw [take_zero];exact rfl⟩ (fun j e d hj z=>⟨SqL.of (z.1 _ _ e4),by have:=z.2.length;rw [length_take] at this;ac_nf⟩) ?_ ?_⟩⟩
  ·rintro j y e H5 hy ⟨S5,o⟩;obtain ⟨s,S,b6⟩:=pv.at_ hy;have nm:s.nm=t.nm:=JeP (List.mem_of_getElem? S);simpa only [length_singleton,length_cons,length_nil,List.replicate,JaB,map_cons,map_nil,Option.join_some,y4dy];refine ⟨p',_,R,_, .str t.nm,rfl,S5 _ _ (S4 _ _ M),tc.cls,tc.n1,rfl,?_⟩;and_intros;refine ⟨by show 2<=sizeLine;ac_nf,?_⟩;rename_i c d3 d4 H5 J Y e6;and_intros;refine ⟨S5.trans Y,?_⟩;rw [take_succ,S];exact (o.mono (P':=SRV K J) fun _ _ z=>z.sameT Y.t).append (.one ⟨c,y,rfl,by rw [nm];exact SqT.of e6,b6.sameT (S5.t.trans Y.t)⟩)
  ·rintro e H5 ⟨S5,o⟩;rw [take_of_length_le ∅] at o;rename_i cl c9 c5 H5 J Y e6;and_intros;have r:=S4.trans (S5.trans Y);have lD:=X.length;have lA:=o.length;have a1:=O i;refine ⟨Z,cl,I,e,rfl,rfl,r _ _ m,e6,by ac_nf,?_⟩;generalize u7:upd J Z _=G;and_intros;have e7:=putE u7;have T7:SameT J G:=SameT.put u7 (r _ _ m) rfl;refine c0 _ _ ⟨li,_,I++e,rfl,fun b w h=>by rw [<- u7,Jai (Jag h a0)];exact r _ _ (S2 _ _ h),e7,?_⟩;rw [show Ch.all (l.take (i+1))=Ch.all (l.take i)++Ch.steps t by rw [take_succ,ht];simp [Ch.all]];exact (X.mono (P':=SRV K G) fun _ _ z=>z.sameT (r.t.trans T7)).append (o.mono (P':=SRV K G) fun _ _ z=>z.sameT (Y.t.trans T7))
 ·rintro σ H2 ⟨hi,v2,I,rfl,S2,m,X⟩;have a1:=O l.length;rw [take_of_length_le ∅] at X;rw [take_of_length_le (Nat.le_refl _)] at a1;have lD:=X.length;and_intros;refine ⟨Z,rfl, .inl ⟨⟨_,SqL.of m⟩,CompJ.list (xs:=I) (fun j e d=>d=H2/\All2 (FLV K H2) (((Ch.all l).map (·.c)).take j) e) ⟨rfl,by rw [take_zero];exact rfl⟩ (fun j e d hj z=>⟨by rw [z.1];exact SqL.of m,by have:=z.2.length;rw [length_take] at this;ac_nf⟩) ?_ ?_⟩⟩
  ·rintro j y e H3 hy ⟨rfl,o⟩;obtain ⟨s,S,b,v,rfl,hb,b',vc,rfl,c1,hc⟩:=X.at_ hy;simpa only [length_singleton,length_cons,length_nil,List.replicate,JaB,map_cons,map_nil,Option.join_some];refine ⟨b,_,rfl,hb,rfl,?_⟩;and_intros;refine ixT (i:=2) c1 rfl ?_;and_intros;rw [take_succ,List.getElem?_map,S];exact o.append (.one hc)
  ·rintro e H3 ⟨rfl,o⟩;rw [take_of_length_le (by rw [length_map];ac_nf)] at o;rename_i nl c7 d0 H3 H4 S4 e4;and_intros;and_intros;intro sc ds S c2 a4;have N:Same H4 (upd (upd H4 ds (.own sc)) sc (.ins Ad.Scale ds [])):=fun b u q=>by rw [Jai (Jag q S),Jai (Jag q c2)];exact q
   refine ⟨sc,ds,nl,e,(Ch.all l).map (·.c),rfl,Jau,N _ _ e4,o.mono (fun _ _ z=>FLV.sameT (S4.t.trans N.t) z),by rw [length_map];ac_nf,fun n hn=>?_,fun b fs fl J h1 h2 h3 h4 b2 D a2 a5 a9=>⟨rfl,?_⟩⟩
   ·obtain ⟨s,g,rfl⟩:=mem_map.mp hn;exact ⟨(W s g).b1,(W s g).s2⟩
   have b9:Same H4 J:=fun c u h=>h4 c u (Jag h S) (N _ _ h);have L:=S4.trans b9;have b8:SCK Ad J sc b fs:=⟨ds,fl,h1,h3,a2,a5,a9⟩;have D:∀ s∈Ch.all l,s.c.2∣b:=fun s g=>D s.c (mem_map.mpr ⟨s,g,rfl⟩);have b4:All2 (SRV K J) (Ch.all l) I:=X.mono fun _ _ z=>z.sameT L.t;and_intros;refine ⟨Z,rfl, .inl ⟨⟨_,SqL.of (L _ _ m)⟩,CompJ.list (xs:=I) (fun j e d=>Same J d/\All2 (SOV K Ad b d) ((Ch.all l).take j) e) ⟨Same.refl _,by rw [take_zero];exact rfl⟩ (fun j e d hj z=>⟨SqL.of (z.1 _ _ (L _ _ m)),by have:=z.2.length;rw [length_take] at this;ac_nf⟩) ?_ ?_⟩⟩
   ·rintro j y a6 G hy ⟨S7,B⟩;obtain ⟨s,g,b3⟩:=b4.at_ hy;have a3:=List.mem_of_getElem? g;obtain ⟨p,v,rfl,hp,p',vc,rfl,M,hc⟩:=b3.sameT S7.t;simpa only [length_singleton,length_cons,length_nil,List.replicate,JaB,map_cons,map_nil,Option.join_some];refine ⟨p,_,rfl,hp,rfl,?_⟩;and_intros;intro x R hx b7 a4;have N:Same G (upd (upd G R (.own x)) x (.ins Ad.Step R [])):=fun b u q=>by rw [Jai (Jag q hx),Jai (Jag q b7)];exact q
    refine ⟨x,R,sc,p', .str s.nm, .str s.src, .str s.dst,vc,b,fs,s.c, .bl s.fw,rfl,Jau,M.same N,FrV.same N hc,W s a3,D s a3,(b8.same S7).same N,fun pr H8 ho e1 m=>?_⟩;have U:Same G H8:=fun c u h=>ho c u (Jag h hx) (N _ _ h);refine ⟨rfl,S7.trans U,?_⟩;rw [take_succ,g];exact (B.mono (P':=SOV K Ad b H8) fun _ _ z=>z.same U).append (.one ⟨x,R,vc,pr,rfl,m,FrV.same U hc,e1⟩)
   ·rintro a6 G ⟨S7,B⟩;rw [take_of_length_le (Nat.le_of_eq ∅)] at B;rename_i ol c8 c6 G H8 S8 e8;and_intros;exact k ol a6 b H8 (S2.trans (L.trans (S7.trans S8))) e8 b2 a2.b1 a5 D (B.mono fun _ _ z=>z.same S8)
abbrev BaD:Stmt:=top 37
theorem JaC:Jan ["steps","starts","sums","face","lasts","changed","turn","step","total"] ["steps","starts"] (Jad BaD):=by bv_decide
def Jcg (K:W.Frag) (Ad:Adr):Sp:=fun vs H Q E=>∃ (sL fL:Addr) (sx:List V) (ss:List SpS) (fs:List Str) (π : Str->Int),vs=[.ref sL, .ref fL]/\SqL K H sL sx/\All2 (SOS K Ad H) ss sx/\SqL K H fL (fs.map V.str)/\fs.length<=8/\Pot π ss/\ss.length<=70/\∀ ld kv P H',Same H H'->H ld=none->H' ld=some (.dK kv)->DV (SOS K Ad H) P kv->P=(bfR ss (ss.length+1) (bf0 fs)).P->BE ss fs P->Q (.ref ld) H'
theorem JeT (F:FunD K "last_steps" "last_steps" BaD dV f fd) (T:Txt K mg Ad)  : FnOk P w K mg base (CX1 P w) 1 f fd ["steps","starts"] (Jcg K Ad):=by
 refine F.okx JaC (fun vs H Q E h=>?_) (fun c2 A b4 s H vs Q E hr h=>?_)
 ·obtain ⟨sL,fL,sx,n,D,π,rfl,_⟩:=h;rfl
 obtain ⟨sL,fL,sx,n,D,π,rfl,h⟩:=h;have B:=hr.units;refine ⟨_,(Jab (Jaj (i:=2) JaC.nd rfl (Or.inl rfl) Jcc)
   (Jab (Ja7 PassesOwn.leaving rfl (pi_U (pv 1)) (Jar (i:=3) JaC.nd rfl (Or.inl rfl))
   (Jaf (JbX (hu1 B) (pv 2) (pv 3) Jae rfl)))
   (Jab (Jaj (i:=4) JaC.nd rfl (Or.inl rfl) Jcc)
   (Jab (Jaj (i:=5) JaC.nd rfl (Or.inl rfl) JaM)
   (Jab (Ja7 PassesOwn.leaving rfl (JcW rfl T.BbS (Jaa (pe_op JaZ (Jat JaG rfl T.BbC JbE (Jaa (pv 0) Jac)) Jae) Jac)) (Jar (i:=6) JaC.nd rfl (Or.inl rfl))
   (Jab (Jaj (i:=5) JaC.nd rfl (Or.inl rfl) JaM)
   (Jab (Ja7 PassesOwn.leaving rfl (pi_U (pv 0)) (Jar (i:=7) JaC.nd rfl (Or.inl rfl))
   (Jaf (ps_if (Jcs (Jey (hu1 B) (Jax (pv 7) rfl) (pv 2)) (by with_unfolding_all rfl))
   (Jab (Jaj (i:=8) JaC.nd rfl (Or.inl rfl) (pe_op JaZ (JaO (hu1 B) (pv 2) (Jax (pv 7) rfl) (fun _ _=>rfl)) (Jax (pv 7) rfl)))
   (Jaf (ps_if (PW.pt (pw_or (Jcs (Jcp (hu1 B) (Jax (pv 7) rfl) (pv 2)) (by with_unfolding_all rfl)) (JbK (Jaq Jfz (pv 8) (JaO (hu1 B) (pv 2) (Jax (pv 7) rfl) (fun _ _=>rfl)) (Jas _)))))
   (Jab (JbX (hu1 B) (pv 2) (Jax (pv 7) rfl) (pv 8) rfl)
   (Jab (JbX (hu1 B) (pv 4) (Jax (pv 7) rfl) (pv 7) rfl)
   (Jaf (Jaj (i:=5) JaC.nd rfl (Or.inl rfl) (Jax (pv 7) rfl)))))
   Jap)))
   Jap)))
   (Jaf (ps_if (Jaq Jbq (pv 5) JaM (Jas _))
   (Jaf (Jam (pv 4)))
   Jap)))))
   (Jaf ps_no)))))),?_⟩
 clear B;obtain ⟨hS,hX,hF,l8,hp,b8,k⟩:=h;have sl:(100000:Nat)<=sizeLine:=by decide
 have lX:=hX.length;have o:=T.c_Step Ad.Step rfl;show tSeq _ _ _ [some (.ref sL),some (.ref fL),none,none,none,none,none,none,none] H;and_intros;rename_i r L b7 H H1 S1 e1;and_intros;refine ⟨fL,rfl,ForA.byLN (xs:=D.map V.str) (hF.same S1) (fun i σ G=>i<=D.length/\∃ (v3:Option V) (q:List (Key × V)),σ=[some (.ref sL),some (.ref fL),some (.ref r),v3,none,none,none,none,none]/\Same H G/\G r=some (.dK q)/\DV RI ((D.take i).foldl (fun S f=>pu S f 0) []) q/\q.length<=i) ⟨Nat.zero_le _,none,[],rfl,S1,e1,rfl,Nat.le_refl _⟩ (fun i σ G z=>by obtain ⟨_,_,_,_,z,_⟩:=z;exact hF.same z) ?_ ?_⟩
 ·rintro i y σ H2 hy ⟨hi,v3,q,rfl,S2,d,hD,c3⟩ N0 a5;rw [List.getElem?_map] at hy;obtain ⟨f,hf,rfl⟩:=Option.map_eq_some_iff.mp hy;have li:=(List.getElem?_eq_some_iff.mp hf).1;and_intros;refine ⟨r,_,rfl,DPut.k (k:=Sum.inr f) d ∅,?_⟩;generalize u3:upd H2 r _=H3;and_intros;have e3:=putE u3;have b2:DV RI ((D.take (i+1)).foldl (fun S f=>pu S f 0) []) (putK q (Sum.inr f) (.int 0)):=by
   rw [take_succ,hf,foldl_append];exact DV.put hD rfl
  refine a5 _ _ ⟨li,_,_,rfl,fun c w h=>by rw [<- u3,Jai (Jag h L)];exact S2 _ _ h,e3,b2,?_⟩;have l1:=b2.len;have l2:=hD.len;have l3:=JdZ (l:=(D.take i).foldl (fun S f=>pu S f 0) []) (f:=f) (a:=(0:Int));rw [take_succ,hf,foldl_append] at l1;have l4:(putK q (Sum.inr f) (.int 0)).length=(pu ((D.take i).foldl (fun S f=>pu S f 0) []) f (0:Int)).length:=l1;ac_nf
 ·rintro σ H2 ⟨_,v3,a9,rfl,S2,a1,W,a8⟩;rw [length_map] at a8;rw [take_of_length_le (by rw [length_map];exact Nat.le_refl _)] at W;have W:DV RI (bf0 D).S a9:=W;have c0:=W.len;and_intros;rename_i I R b5 H2 H3 S3 e3;and_intros;have J:=Jbh S2 R;have Y:I≠r:=fun z=>by rw [z,a1] at R;cases R
  and_intros;refine ⟨_, .inl ((hS.same S2).same S3),?_⟩;and_intros;refine ⟨_,rfl,by ac_nf,by ac_nf,?_⟩;refine ForR.byN (fun i σ G=>∃ (v5 v6 v7 v8:Option V) (t:BF) (q x:List (Key × V)),σ=[some (.ref sL),some (.ref fL),some (.ref r),v3,some (.ref I),v5,v6,v7,v8]/\Same H G/\G r=some (.dK q)/\DV RI t.S q/\G I=some (.dK x)/\DV (SOS K Ad H) t.P x/\t=itr n i (bf0 D)/\bfR n (n.length+1) (bf0 D)=bfR n (n.length+1-i) t/\t.S.length<=8+70*i/\t.P.length<=70*i/\(i≠0->t.ch≠none)) ⟨_,none,none,none,bf0 D,a9,[],rfl,S2.trans S3,S3 _ _ a1,W,e3,rfl,rfl,rfl,by ac_nf,by simp [bf0],fun z=>absurd rfl z⟩ ?_ ?_
  ·rintro i σ H4 hi ⟨v5,v6,v7,v8,t,q,x,rfl,S4,d,e,m,g,ht,a2,lS,lP,b1⟩ N0 a5;have c4:i<=n.length:=by ac_nf
   rw [Int.zero_add];and_intros;refine ⟨sL,rfl,ForA.byLN (xs:=sx) (hS.same S4) (fun j σ G=>j<=sx.length/\∃ (u:BF) (v7 v8:Option V) (q x:List (Key × V)),σ=[some (.ref sL),some (.ref fL),some (.ref r),v3,some (.ref I),some (chV u.ch),some (.int (i:Int)),v7,v8]/\Same H G/\G r=some (.dK q)/\DV RI u.S q/\G I=some (.dK x)/\DV (SOS K Ad H) u.P x/\u=(n.take j).foldl rlx { t with ch:=none }/\u.S.length<=8+70*i+j/\u.P.length<=70*i+j) ⟨Nat.zero_le _,{ t with ch:=none },v7,v8,q,x,rfl,S4,d,e,m,g,rfl,lS,lP⟩ (fun j σ G z=>by obtain ⟨_,_,_,_,_,_,_,z,_⟩:=z;exact hS.same z) ?_ ?_⟩
   ·clear d e m g lS lP;rintro j y σ H5 a0 ⟨hj,u,v7,v8,q,x,rfl,S5,d,e,m,g,B,lS,lP⟩ N1 X;have lj:=(List.getElem?_eq_some_iff.mp a0).1;obtain ⟨s,a7,p,M,vc,pr,rfl,O,c5,b6⟩:=hX.at_ a0;have C:=S5 _ _ O;have Z:(n.take (j+1)).foldl rlx { t with ch:=none }=rlx ((n.take j).foldl rlx { t with ch:=none }) s:=by rw [take_succ,a7,foldl_append];rfl
    have b9:=e.len;have c1:=g.len;and_intros;refine ⟨p,_,M,_, .str s.src,rfl,C,o.cls,o.n1,rfl,?_⟩;refine ⟨r,_,rfl,DGet.k (k:=Sum.inr s.src) d,?_⟩;cases ea:lk u.S s.src with
    | none=>
     have gn:gains u.S s=none:=by unfold gains;rw [ea]
     rw [e.no ea];try simpa only [Option.isSome_none]
     exact X _ _ ⟨lj,u,_,_,q,x,rfl,S5,d,e,m,g,by rw [Z, <- B];unfold rlx;rw [gn],by ac_nf,by ac_nf⟩
    | some a=>
     obtain ⟨v,hv,rv⟩:=e.at ea;have rv:v=.int a:=rv;subst rv;rw [hv];try simpa only [y4dy,Option.isSome_some]
     refine ⟨p,_,M,_, .str s.src,rfl,C,o.cls,o.n1,rfl,?_⟩;refine ⟨r, .int a,rfl,by rw [<- hv];exact DGet.k (k:=Sum.inr s.src) d,?_⟩;refine ⟨p,_,M,_, .int s.wh,rfl,C,o.cls,o.n4,rfl,?_⟩;and_intros;refine ⟨p,_,M,_, .str s.tgt,rfl,C,o.cls,o.n2,rfl,?_⟩;refine ⟨r,_,rfl,DGet.k (k:=Sum.inr s.tgt) d,?_⟩;cases eb:lk u.S s.tgt with
     | none=>
      have gn:gains u.S s=some (a+s.wh):=by unfold gains;rw [ea];dsimp only;rw [eb]
      rw [e.no eb];try simpa only [y4dy,Option.isSome_none]
      and_intros;refine ⟨p,_,M,_, .str s.tgt,rfl,C,o.cls,o.n2,rfl,?_⟩;refine ⟨r,_,rfl,DPut.k (k:=Sum.inr s.tgt) d ∅,?_⟩;generalize u7:upd H5 r _=H7;and_intros;have e7:=putE u7;have U:Same H H7:=fun c w h=>by rw [<- u7,Jai (Jag h L)];exact S5 _ _ h
      have p7:H7 p=_:=U _ _ O;have a4:H7 I=some (.dK x):=by rw [<- u7,Jai Y];exact m
      and_intros;refine ⟨p,_,M,_, .str s.tgt,rfl,p7,o.cls,o.n2,rfl,?_⟩;refine ⟨I,_,rfl,DPut.k (k:=Sum.inr s.tgt) a4 ∅,?_⟩;generalize u8:upd H7 I _=H8;and_intros;have e8:=putE u8;have N:Same H H8:=fun c w h=>by rw [<- u8,Jai (Jag h J)];exact U _ _ h
      have p8:H8 p=_:=N _ _ O;and_intros;refine ⟨p,_,M,_, .str s.tgt,rfl,p8,o.cls,o.n2,rfl,?_⟩;and_intros;refine X _ _ ⟨lj,⟨pu u.S s.tgt (a+s.wh),pu u.P s.tgt s,some s.tgt⟩,_,_,_,_,rfl,N,by rw [<- u8,Jai (Ne.symm Y)];exact e7,DV.put e rfl,e8,DV.put g (hX.at_ a0 |> fun ⟨s',h1,h2⟩=>by rw [a7] at h1;cases h1;exact h2),?_,by have:=JdZ (l:=u.S) (f:=s.tgt) (a:=a+s.wh);show (pu u.S s.tgt (a+s.wh)).length<=_;ac_nf,by have:=JdZ (l:=u.P) (f:=s.tgt) (a:=s);show (pu u.P s.tgt s).length<=_;ac_nf⟩;rw [Z, <- B];unfold rlx;rw [gn]
     | some b=>
      obtain ⟨w,hw,a3⟩:=e.at eb;have a3:w=.int b:=a3;subst a3;rw [hw];try simpa only [y4dy,Option.isSome_some]
      refine ⟨p,_,M,_, .str s.tgt,rfl,C,o.cls,o.n2,rfl,?_⟩;refine ⟨r, .int b,rfl,by rw [<- hw];exact DGet.k (k:=Sum.inr s.tgt) d,?_⟩;and_intros;by_cases c:a+s.wh<b
      ·rw [if_pos (by simpa using c)];and_intros;have gn:gains u.S s=some (a+s.wh):=by unfold gains;rw [ea];dsimp only;rw [eb];exact if_pos c
       and_intros;refine ⟨p,_,M,_, .str s.tgt,rfl,C,o.cls,o.n2,rfl,?_⟩;refine ⟨r,_,rfl,DPut.k (k:=Sum.inr s.tgt) d ∅,?_⟩;generalize u7:upd H5 r _=H7;and_intros;have e7:=putE u7;have U:Same H H7:=fun c w h=>by rw [<- u7,Jai (Jag h L)];exact S5 _ _ h
       have p7:H7 p=_:=U _ _ O;have a4:H7 I=some (.dK x):=by rw [<- u7,Jai Y];exact m
       and_intros;refine ⟨p,_,M,_, .str s.tgt,rfl,p7,o.cls,o.n2,rfl,?_⟩;refine ⟨I,_,rfl,DPut.k (k:=Sum.inr s.tgt) a4 ∅,?_⟩;generalize u8:upd H7 I _=H8;and_intros;have e8:=putE u8;have N:Same H H8:=fun c w h=>by rw [<- u8,Jai (Jag h J)];exact U _ _ h
       have p8:H8 p=_:=N _ _ O;and_intros;refine ⟨p,_,M,_, .str s.tgt,rfl,p8,o.cls,o.n2,rfl,?_⟩;and_intros;refine X _ _ ⟨lj,⟨pu u.S s.tgt (a+s.wh),pu u.P s.tgt s,some s.tgt⟩,_,_,_,_,rfl,N,by rw [<- u8,Jai (Ne.symm Y)];exact e7,DV.put e rfl,e8,DV.put g (hX.at_ a0 |> fun ⟨s',h1,h2⟩=>by rw [a7] at h1;cases h1;exact h2),?_,by have:=JdZ (l:=u.S) (f:=s.tgt) (a:=a+s.wh);show (pu u.S s.tgt (a+s.wh)).length<=_;ac_nf,by have:=JdZ (l:=u.P) (f:=s.tgt) (a:=s);show (pu u.P s.tgt s).length<=_;ac_nf⟩;rw [Z, <- B];unfold rlx;rw [gn]
      ·rw [if_neg (by simpa using c)];and_intros;have gn:gains u.S s=none:=by unfold gains;rw [ea];dsimp only;rw [eb];exact if_neg c
       and_intros;exact X _ _ ⟨lj,u,_,_,q,x,rfl,S5,d,e,m,g,by rw [Z, <- B];unfold rlx;rw [gn],by ac_nf,by ac_nf⟩
   ·clear d e m g lS lP;rintro σ H5 ⟨hj,u,v7,v8,q,x,rfl,S5,d,e,m,g,B,lS,lP⟩;rw [take_of_length_le ∅] at B;have b3:trn n t=u:=B.symm;have a6:u=itr n (i+1) (bf0 D):=by rw [<- b3,ht];rfl
    have b0:bfR n (n.length+1-i) t=if u.ch=none then u else bfR n (n.length-i) u:=by
     rw [show n.length+1-i=(n.length-i)+1 by ac_nf,bfR,b3]
    and_intros;cases ec:u.ch with
    | none=>
     try simpa only [chV]
     refine k I x u.P H5 S5 J m g (by rw [a2,b0,if_pos ec]) ?_;rw [a6];exact BE.of hp (by rw [<- a6];exact ec)
    | some f=>
     try simpa only [chV]
     exact a5 _ _ ⟨_,_,_,_,u,q,x,rfl,S5,d,e,m,g,a6,by rw [a2,b0,if_neg (by rw [ec];simp)];congr 1;ac_nf,by ac_nf,by ac_nf,fun _=>by rw [ec];simp⟩
  ·rintro σ H4 ⟨v5,v6,v7,v8,t,q,x,rfl,S4,d,e,m,g,ht,a2,lS,lP,b1⟩;refine absurd ?_ (b1 ∅);rw [ht,show ((sx.length:Int)+1).toNat=n.length+1 by ac_nf];show (n.foldl rlx { itr n n.length (bf0 D) with ch:=none }).ch=none;rw [JhT n { itr n n.length (bf0 D) with ch:=none } (JiS hp)]
abbrev Bav:Stmt:=top 38
theorem Jaz:Jan ["steps","starts","lasts","told","face","missing","at","step","ahead"] ["steps","starts"] (Jad Bav):=by bv_decide
def Jbd (K:W.Frag) (Ad:Adr):Sp:=fun vs H Q E=>∃ (sL fL:Addr) (sx:List V) (ss:List SpS) (fs:List Str) (π : Str->Int),vs=[.ref sL, .ref fL]/\SqL K H sL sx/\All2 (SOS K Ad H) ss sx/\SqL K H fL (fs.map V.str)/\fs.length<=8/\Pot π ss/\ss.length<=70/\(∀ s∈ss,FB 200 9 s.cost)/\∀ (td:Addr) (kt:List (Key × V)) (tb:List (Str × ((Int × Int) × List SpS))) (P:LasD) (H':Hp),Same H H'->H td=none->H' td=some (.dK kt)->DV (RT K H H') tb kt->P=(bfR ss (ss.length+1) (bf0 fs)).P->BE ss fs P->(∀ v,(∃ e,lk tb v=some e)↔(v∈fs\/∃ s,lk P v=some s))->TBk P fs tb->Q (.ref td) H'
theorem Jec (F:FunD K "chains_from" "chains_from" Bav dV f fd) (T:Txt K mg Ad) (Bbt:Cal P w K mg base 1 "last_steps" ["steps","starts"] [] (Jcg K Ad)) (BbG:Cal P w K mg base 2 "plus" ["one","other"] [] (Jd3 K)):FnOk P w K mg base (CX1 P w) 3 f fd ["steps","starts"] (Jbd K Ad):=by
 refine F.okx Jaz (fun vs H Q E h=>?_) (fun l4 A j4 s H vs Q E hr h=>?_)
 ·obtain ⟨sL,fL,sx,ss,fs,π,rfl,_⟩:=h;rfl
 obtain ⟨sL,fL,sx,ss,fs,π,rfl,h⟩:=h;have hu:=hr.units;refine ⟨_,(Jab (Jaj (i:=2) Jaz.nd rfl (Or.inl rfl) (Bbt.ev hr ⋯ rfl pass1 (Jaa (pv 0) (Jaa (pv 1) Jac)) (he:=by exact Jah rfl)))
   (Jab (Jaj (i:=3) Jaz.nd rfl (Or.inl rfl) Jcc)
   (Jab (Ja7 PassesOwn.leaving rfl (pi_U (pv 1)) (Jar (i:=4) Jaz.nd rfl (Or.inl rfl))
   (Jaf (ps_if (Jcs (Jcp (hu1 hu) (pv 4) (pv 2)) (by with_unfolding_all rfl))
   (Jaf (JbX (hu1 hu) (pv 3) (pv 4) (JaE (Jaa (Jdd (v:=.ref _) rfl T.Bca T.Bcb) (Jaa (Jby Jac) Jac))) rfl))
   Jap)))
   (Jab (Ja7 PassesOwn.leaving rfl (Jip (pv 2)) (Jar (i:=4) Jaz.nd rfl (Or.inl rfl))
   (Jab (Jaj (i:=5) Jaz.nd rfl (Or.inl rfl) (Jby Jac))
   (Jab (Jaj (i:=6) Jaz.nd rfl (Or.inl rfl) (pv 4))
   (Jab (JeZ PassesOwn.leaving (Jcs (Jcp (hu1 hu) (pv 6) (pv 3)) (by with_unfolding_all rfl))
   (Jab (Ja0 (pe_bm PySem.F.plainAttrs_list PySem.F.slot_list_append PySem.F.type_list_append JaY (pv 5) (Jaa (JaO (hu1 hu) (pv 2) (pv 6) (fun _ _=>rfl)) Jac) (hs:=by exact Jah rfl)))
   (Jaf (Jaj (i:=6) Jaz.nd rfl (Or.inl rfl) (Jax (JaO (hu1 hu) (pv 2) (pv 6) (fun _ _=>rfl)) rfl)))))
   (Jaf (Ja7 PassesOwn.leaving rfl (Ji5 (K:=K) rfl rfl rfl T.n_reversed JfX (pv 5)) (Jar (i:=7) Jaz.nd rfl (Or.inl rfl))
   (Jab (Jaj (i:=8) Jaz.nd rfl (Or.inl rfl) (JaO (hu1 hu) (pv 3) (Jax (pv 7) rfl) (fun _ _=>rfl)))
   (Jaf (JbX (hu1 hu) (pv 3) (Jax (pv 7) rfl) (JaE (Jaa (BbG.ev hr ⋯ rfl pass1 (Jaa (pe_ix ix_U (pv 8) Jae (fun _ _=>rfl)) (Jaa (Jax (pv 7) rfl) Jac)) (he:=by exact Jah rfl)) (Jaa (pe_op JaZ (pe_ix ix_U (pv 8) Jae (fun _ _=>rfl)) (Jby (Jaa (Jax (pv 7) rfl) Jac))) Jac))) rfl)))))))))
   (Jaf (Jam (pv 3))))))),?_⟩
 clear hu;obtain ⟨hS,hX,hF,l8,hp,g3,f0,k⟩:=h;have sl:(100000:Nat)<=sizeLine:=by decide
 have tc:=T.c_Step Ad.Step rfl;show tSeq _ _ _ [some (.ref sL),some (.ref fL),none,none,none,none,none,none,none] H;and_intros;refine ⟨sL,fL,sx,ss,fs,π,rfl,hS,hX,hF,l8,hp,g3,fun N kv P H1 S1 h0 e1 hD hP hB=>?_⟩;have c3:=hB;obtain ⟨S,r,b1,b2,b3,b5⟩:=hB.ex;and_intros;rename_i C X k6 H1 H2 S2 e2;and_intros;have c9:C≠N:=fun z=>by rw [z,e1] at X;cases X
 and_intros;have c7:=Jbh S1 X;refine ⟨fL,rfl,ForA.byLN (xs:=fs.map V.str) ((hF.same S1).same S2) (fun i σ D=>i<=fs.length/\∃ (v4:Option V) (G:List (Key × V)) (n:List (Str × ((Int × Int) × List SpS))),σ=[some (.ref sL),some (.ref fL),some (.ref N),some (.ref C),v4,none,none,none,none]/\Same H1 D/\D C=some (.dK G)/\DV (RT K H D) n G/\TBk P fs n/\∀ f∈fs.take i,lk P f=none->∃ e,lk n f=some e) ⟨Nat.zero_le _,none,[],[],rfl,S2,e2,rfl,TBk.nil,fun f hf=>by simp at hf⟩ (fun i σ D z=>by obtain ⟨_,_,_,_,_,z,_⟩:=z;exact (hF.same S1).same z) ?_ ?_⟩
 ·rintro i y σ H3 hy ⟨hi,v4,G,n,rfl,S3,Z,hT,b7,a8⟩ N0 c2;rw [List.getElem?_map] at hy;obtain ⟨f,hf,rfl⟩:=Option.map_eq_some_iff.mp hy;have li:=(List.getElem?_eq_some_iff.mp hf).1;have e3:fs.take (i+1)=fs.take i++[f]:=by rw [take_succ,hf];rfl
  have i4:=c3.tb_len b7;have j7:=hT.len;and_intros;refine ⟨N,_,rfl,DGet.k (k:=Sum.inr f) (S3 _ _ e1),?_⟩;cases ef:lk P f with
  | some s=>
   rw [(hD.at ef).choose_spec.1];try simpa only [Option.isSome_some]
   refine c2 _ _ ⟨li,_,G,n,rfl,S3,Z,hT,b7,fun g hg hn=>?_⟩;rw [e3] at hg;rcases mem_append.mp hg with hg | hg
   ·exact a8 g hg hn
   ·rw [mem_singleton.mp hg,ef] at hn;cases hn
  | none=>
   rw [hD.no ef];try simpa only [Option.isSome_none]
   refine ⟨len0,?_⟩;rename_i el a3 k0 H3 H4 S4 e4;and_intros;refine ⟨len2,?_⟩;rename_i tp c5 k4 H4 H5 S5 e5;and_intros;and_intros;have d:=S5 _ _ (S4 _ _ Z);refine ⟨C,_,rfl,DPut.k (k:=Sum.inr f) d ∅,?_⟩;generalize u6:upd H5 C _=H6;and_intros;have e6:=putE u6;have j8:el≠C:=fun z=>by rw [z,Z] at a3;cases a3
   have d4:tp≠C:=fun z=>by rw [z,S4 _ _ Z] at c5;cases c5
   have g6:RT K H H6 (((0:Int),(1:Int)),([]:List SpS)) (.ref tp):=⟨tp, .ref Ad.ZERO,el,[],rfl,SqT.of (by rw [<- u6,Jai d4];exact e5),⟨Ad.ZERO,rfl,T.Bb6 _⟩,by rw [<- u6,Jai j8];exact S5 _ _ e4,rfl,Jbh S1 (Jbh S3 a3)⟩;refine c2 _ _ ⟨li,_,_,pu n f ((0,1),[]),rfl,fun c w h=>by rw [<- u6,Jai (Jag h X)];exact S5 _ _ (S4 _ _ (S3 _ _ h)),e6,(hT.mono fun _ _ z=>(z.same (S4.trans S5)).putL u6 d).put g6,b7.one (List.mem_of_getElem? hf) ef,fun g hg hn=>?_⟩;rw [e3] at hg;rcases mem_append.mp hg with hg | hg
   ·exact TBk.keep (a8 g hg hn)
   ·rw [mem_singleton.mp hg];exact ⟨_,JbW⟩
 ·rintro σ H3 ⟨_,v4,G,n,rfl,S3,Z,hT,b7,a8⟩;rw [take_of_length_le (by rw [length_map];exact Nat.le_refl _)] at a8;have ht:C≠N:=c9;and_intros;refine ⟨N,kv,P.map (·.1),rfl,S3 _ _ e1,hD.keys,fun od=>?_⟩;generalize uf:upd H3 N _=H4;and_intros;have ef:H4 N=some (.frz od (.dK kv)):=by rw [<- uf];exact Jau
  have j9:Same H H4:=fun c w h=>by rw [<- uf,Jai (Jag h h0)];exact S3 _ _ (S1 _ _ h)
  have e0:H4 C=some (.dK G):=by rw [<- uf,Jai c9];exact Z
  refine ForJ.keys (fun i σ D=>∃ (v4 v5 v6 v7 v8:Option V) (G:List (Key × V)) (n:List (Str × ((Int × Int) × List SpS))),σ=[some (.ref sL),some (.ref fL),some (.ref N),some (.ref C),v4,v5,v6,v7,v8]/\Same H D/\D N=some (.frz od (.dK kv))/\D C=some (.dK G)/\DV (RT K H D) n G/\TBk P fs n/\(∀ f∈fs,lk P f=none->∃ e,lk n f=some e)/\(∀ j z,j<i->(P.map (·.1))[j]?=some z->∃ e,lk n z=some e)) ⟨v4,none,none,none,none,G,_,rfl,j9,ef,e0,hT.mono fun _ _ z=>z.putL uf (S3 _ _ e1),b7,a8,fun j z hj=>absurd hj (Nat.not_lt_zero _)⟩ (fun i σ D z=>by obtain ⟨_,_,_,_,_,_,_,_,_,z,_⟩:=z;exact z) ?_ ?_
  ·rintro i z σ H5 hz ⟨v4,v5,v6,v7,v8,G,n,rfl,S5,c4,d,M,a0,a2,a4⟩ N0 c2;and_intros;refine ⟨len0,?_⟩;rename_i ml I k8 H5 H6 S6 e6;and_intros;have l2:ml≠N:=fun q=>by rw [q,c4] at I;cases I
   have j0:ml≠C:=fun q=>by rw [q,d] at I;cases I
   have k3:=Jbh S5 I;have i9:∃ s,lk P z=some s:=JdR (List.mem_of_getElem? hz);have j1:∃ b,lk S z=some b:=by
    obtain ⟨s,hs⟩:=i9;obtain ⟨_,_,_,a,_,k2⟩:=b3 z s hs;exact ⟨_,k2⟩
   and_intros;refine ⟨fun m σ D=>∃ (q:Str) (L:List SpS) (mx:List V),σ=[some (.ref sL),some (.ref fL),some (.ref N),some (.ref C),some (.str z),some (.ref ml),some (.str q),v7,v8]/\Same H5 D/\D ml=some (.lst mx)/\All2 (SOS K Ad H) L mx/\Lnk P q L.reverse/\lnkE q L.reverse=z/\(∃ b,lk S q=some b)/\r q=m/\(L.map (·.tgt)).Nodup/\(∀ x∈L.map (·.tgt),r q<r x)/\(∀ x∈L,x∈ss),⟨_,z,[],[],rfl,S6,e6,rfl,trivial,rfl,j1,rfl, .nil,(fun x u=>by cases u),fun x u=>by cases u⟩,?_⟩;rintro m σ H7 ⟨q,L,mx,rfl,S7,R,b8,f2,f3,h6,rfl,f1,e7,d7⟩;have c1:=S7 _ _ c4;have W:=S7 _ _ d;and_intros;refine ⟨C,_,rfl,DGet.k (k:=Sum.inr q) W,?_⟩;cases eq_:lk n q with
   | none=>
    rw [M.no eq_];try simpa only [Option.isSome_none]
    obtain ⟨bq,j5⟩:=h6;obtain ⟨s,hs⟩:∃ s,lk P q=some s:=by
     cases e:lk P q with
     | some s=>exact ⟨s,rfl⟩
     | none=>
      obtain ⟨e',f4⟩:=a2 q (b2 q bq j5 e).1 e;rw [eq_] at f4;cases f4
    obtain ⟨g4,b9,f8,sa,i6,l1⟩:=b3 q s hs;obtain ⟨v,hv,d8⟩:=hD.at hs;obtain ⟨p,dx,vc,pr,rfl,Y,f9,b0⟩:=id d8;have l3:L.length<=70:=by
     have:=sub_len (L.map (·.tgt)) (ss.map (·.tgt)) f1 fun x u=>by
      obtain ⟨y,hy,rfl⟩:=mem_map.mp u;exact mem_map.mpr ⟨y,d7 y hy,rfl⟩
     rw [length_map,length_map] at this;ac_nf
    have h9:=b8.length;refine ⟨_,fun _ _ h=>h,?_⟩;and_intros;refine ⟨.inl ⟨rfl,_,SqL.of R⟩,?_⟩;refine ⟨N, .ref p,rfl,by rw [<- hv];exact DGet.f (k:=Sum.inr q) c1,?_⟩;refine ⟨ml,mx,_,rfl,rfl,R,by ac_nf,?_⟩;generalize u8:upd H7 ml _=H8;and_intros;have e8:=putE u8;have T8:SameT H7 H8:=SameT.put u8 R rfl;have S8:Same H5 H8:=fun c w h=>by rw [<- u8,Jai (Jag h I)];exact S7 _ _ h
    have a6:=S8 _ _ c4;and_intros;refine ⟨N, .ref p,rfl,by rw [<- hv];exact DGet.f (k:=Sum.inr q) a6,?_⟩;refine ⟨p,_,dx,_, .str s.src,rfl,S8 _ _ (S5 _ _ Y),tc.cls,tc.n1,rfl,?_⟩;and_intros;refine ⟨r s.src,f8,s.src,L++[s],mx++[.ref p],rfl,S8,e8,b8.append (.one d8),by rw [List.reverse_append];exact f2.add hs b9,by rw [List.reverse_append];exact (JiW b9).trans f3,⟨sa,i6⟩,rfl,?_,fun x u=>?_,fun x u=>?_⟩
    ·rw [map_append];refine nodup_append.mpr ⟨f1,by simp,fun x u y hy e=>?_⟩;have hy:y=s.tgt:=by simpa using hy
     have:=e7 x u;rw [e,hy,b9] at this;ac_nf
    ·rw [map_append] at u;rcases mem_append.mp u with u | u
     ·have:=e7 x u;ac_nf
     ·have u:x=s.tgt:=by simpa using u
      rw [u,b9];exact f8
    ·rcases mem_append.mp u with u | u
     ·exact d7 x u
     ·rw [mem_singleton.mp u];exact g4
   | some e=>
    rw [(M.at eq_).choose_spec.1];try simpa only [Option.isSome_some]
    (try ((with_reducible refine Nxt.go (by assumption) ?_);and_intros))
    have h9:=b8.length;refine ⟨ml,mx,rfl,SqL.of R,ForJ.rev (fun j σ D=>∃ (v7 v8:Option V) (G:List (Key × V)) (n:List (Str × ((Int × Int) × List SpS))) (y:Str),σ=[some (.ref sL),some (.ref fL),some (.ref N),some (.ref C),some (.str z),some (.ref ml),some (.str q),v7,v8]/\Same H D/\D N=some (.frz od (.dK kv))/\D ml=some (.lst mx)/\D C=some (.dK G)/\DV (RT K H D) n G/\TBk P fs n/\(∀ f∈fs,lk P f=none->∃ e,lk n f=some e)/\(∀ j z,j<i->(P.map (·.1))[j]?=some z->∃ e,lk n z=some e)/\(∃ e,lk n y=some e)/\Lnk P y (L.reverse.drop j)/\lnkE y (L.reverse.drop j)=z) ⟨v7,v8,G,n,q,rfl,S5.trans S7,c1,R,W,M.mono fun _ _ z=>z.same S7,a0,a2,a4,⟨e,eq_⟩,f2,f3⟩ (fun j σ D z=>by obtain ⟨_,_,_,_,_,_,_,_,z,_⟩:=z;exact SqL.of z) ?_ ?_⟩
    ·clear W d M a0 a2 a4 eq_ c1 R;rintro j x σ H8 hj u ⟨v7,v8,G,n,y,rfl,S8,a6,f5,B,b4,a5,d2,d5,⟨e,a9⟩,d0,U⟩ N1 g2;obtain ⟨s,hs,sv⟩:=b8.at_ u;have g5:L.reverse[j]?=some s:=by rw [List.getElem?_reverse ∅,show L.length=mx.length by ac_nf];exact hs
     have i3:L.reverse.drop j=s::L.reverse.drop (j+1):=by
      obtain ⟨h1,h2⟩:=List.getElem?_eq_some_iff.mp g5;rw [<- h2];exact List.drop_eq_getElem_cons h1
     rw [i3] at d0 U;obtain ⟨rfl,g9,j6⟩:=d0;have g7:=d7 s (List.mem_of_getElem? hs);obtain ⟨p,dx,vc,pr,rfl,Y,f9,b0⟩:=sv.same S8;obtain ⟨v,hv,i0⟩:=b4.at a9;obtain ⟨w,qv,l,xs,rfl,hw,i2,hl,f7,_⟩:=id i0;obtain ⟨i8,i7,h8⟩:=a5.en _ _ a9;obtain ⟨j2,k7,_⟩:=c3.chn i8 i7;have b6:=cs_fb fun s hs=>f0 s (j2 s hs);rw [<- h8] at b6;have c0:=f0 s g7;have i4:=c3.tb_len a5;have j7:=b4.len;have i1:=f7.length;rw [length_map] at i1;and_intros;refine ⟨p,_,dx,_, .str s.src,rfl,Y,tc.cls,tc.n1,rfl,?_⟩;refine ⟨C, .ref w,rfl,by rw [<- hv];exact DGet.k (k:=Sum.inr s.src) B,?_⟩;and_intros;refine ixT (i:=0) hw rfl ?_;refine ⟨p,_,dx,_,vc,rfl,Y,tc.cls,tc.n3,rfl,?_⟩;and_intros;refine ⟨qv,vc,e.1.1,e.1.2,s.cost.1,s.cost.2,rfl,i2,f9,b6.s1.mono ∅,b6.s2.mono ∅,c0.s1.mono ∅,c0.s2.mono ∅,b6.b1,c0.b1,b6.g1,c0.g1,fun ap H9 S9 e9=>?_⟩;and_intros;refine ixT (i:=1) (hw.same S9) rfl ?_;refine ⟨p,_,dx,_, .ref pr,rfl,S9 _ _ Y,tc.cls,tc.n5,rfl,?_⟩;refine ⟨by show 1<=sizeLine;ac_nf,?_⟩;rename_i ol k5 k1 H9 h7 a1 i5;and_intros;refine .inl ⟨l,ol,xs,[.ref pr],rfl,rfl,a1 _ _ (S9 _ _ hl),i5,by simp;ac_nf,?_⟩;rename_i nl a7 k9 h7 g8 c8 h3;and_intros;refine ⟨len2,?_⟩;rename_i np c6 l0 g8 d9 d1 h5;and_intros;have o:=S9.trans (a1.trans (c8.trans d1));and_intros;refine ⟨p,_,dx,_, .str s.tgt,rfl,o _ _ Y,tc.cls,tc.n2,rfl,?_⟩;have O:=o _ _ B;refine ⟨C,_,rfl,DPut.k (k:=Sum.inr s.tgt) O ∅,?_⟩;generalize J:upd d9 C _=d6;and_intros;have j3:=putE J;have g0:SameT d9 d6:=SameT.put J O rfl;have h4:nl≠C:=fun z=>by rw [z,a1 _ _ (S9 _ _ B)] at a7;cases a7
     have d4:np≠C:=fun z=>by rw [z,c8 _ _ (a1 _ _ (S9 _ _ B))] at c6;cases c6
     have f6:RT K H d6 (addF e.1 s.cost,e.2++[s]) (.ref np):=by
      refine ⟨np, .ref ap,nl,xs++[.ref pr],rfl,SqT.of (by rw [<- J,Jai d4];exact h5),⟨ap,rfl,SqT.sameT g0 (SqT.of (d1 _ _ (c8 _ _ (a1 _ _ e9))))⟩,by rw [<- J,Jai h4];exact d1 _ _ h3,?_,Jbh S8 (Jbh S9 (Jbh a1 a7))⟩;rw [map_append];exact (f7.mono (P':=CV d6) fun _ _ z=>z.sameT (o.t.trans g0)).append (.one ⟨pr,rfl,by rw [<- J,Jai (ne_of b0 B (by intro z;cases z))];exact o _ _ b0⟩)
     exact g2 _ _ ⟨_,_,_,pu n s.tgt (addF e.1 s.cost,e.2++[s]),s.tgt,rfl,fun c w h=>by rw [<- J,Jai (Jag h c7)];exact o _ _ (S8 _ _ h),by rw [<- J,Jai (Ne.symm c9)];exact o _ _ a6,by rw [<- J,Jai j0];exact o _ _ f5,j3,(b4.mono fun _ _ z=>(z.same o).putL J O).put f6,a5.put a9 g9,fun f hf hn=>TBk.keep (d2 f hf hn),fun j z hj hz=>TBk.keep (d5 j z hj hz),⟨_,JbW⟩,j6,U⟩
    ·clear W d M a0 a2 a4 eq_ c1 R;rintro σ H8 ⟨v7,v8,G,n,y,rfl,S8,a6,f5,B,b4,a5,d2,d5,a9,d0,U⟩;rw [List.drop_of_length_le (by rw [List.length_reverse];ac_nf)] at U;have U:y=z:=U;subst U;refine c2 _ _ ⟨_,_,_,_,_,G,n,rfl,S8,a6,B,b4,a5,d2,fun j z hj d3=>?_⟩;by_cases c:j<i
     ·exact d5 j z c d3
     ·have : j=i:=by ac_nf
      subst this;rw [hz] at d3;cases d3;exact a9
  ·rintro σ H5 ⟨v4,v5,v6,v7,v8,G,n,rfl,S5,c4,d,M,a0,a2,a4⟩;and_intros;refine k C G n P H5 S5 c7 d M hP c3 (fun v=>⟨fun ⟨e,he⟩=>(a0.en v e he).1,fun hv=>?_⟩) a0;cases hn:lk P v with
   | none=>exact a2 v (hv.resolve_right fun ⟨s,hs⟩=>by rw [hn] at hs;cases hs) hn
   | some s=>
    have hs:=hn;obtain ⟨j,hj⟩:=List.getElem?_of_mem (JgQ hs);exact a4 j v (List.getElem?_eq_some_iff.mp hj).1 hj
abbrev Ba1:Stmt:=top 32
theorem JcN:Jan ["ties","found","tie"] ["ties"] (Jad Ba1):=by bv_decide
def JcO (K:W.Frag) (Ad:Adr):Sp:=fun vs H Q E=>∃ (a:Addr) (xs:List V) (ts:List TD) (F:List Str),vs=[.ref a]/\SqL K H a xs/\All2 (OV K Ad H) ts xs/\ts.length<=35/\F.length<=8/\(∀ t∈ts,t.st∈F/\t.en∈F)/\∀ p out H',Same H H'->H p=none->H' p=some (.lst (out.map V.str))->Jbz ts out->Q (.ref p) H'
theorem Jgb (F:FunD K "faces_of" "faces_of" Ba1 dV f fd) (T:Txt K mg Ad)  : FnOk P w K mg base (CX1 P w) 1 f fd ["ties"] (JcO K Ad):=by
 refine F.okn JcN (by subst_eqs) (fun a6 A X s H vs Q E hr h=>?_)
 obtain ⟨a,xs,ts,F,rfl,h⟩:=h;have S:=hr.units;refine ⟨_,(Jab (Jaj (i:=1) JcN.nd rfl (Or.inl rfl) Jcc)
   (Jab (Ja7 PassesOwn.never rfl (pi_U (pv 0)) (Jar (i:=2) JcN.nd rfl (Or.inl rfl))
   (Jab (JbX (hu1 S) (pv 1) (Jax (pv 2) rfl) pe_bl rfl)
   (Jaf (JbX (hu1 S) (pv 1) (Jax (pv 2) rfl) pe_bl rfl))))
   (Jaf (Jam (Jat (Jep rfl) rfl T.BbT JdE (Jaa (pv 1) Jac)))))),?_⟩
 clear S;obtain ⟨hS,hR,hl,a2,v,k⟩:=h;show tSeq _ _ _ [some (.ref a),none,none] H;try infer_instance
 rename_i d r a4 H H1 S1 e1;have sl:(1000:Nat)<=sizeLine:=by decide
 have lx:=hR.length;refine ⟨a,rfl,ForA.byL (xs:=xs) (hS.same S1) (fun i σ L=>i<=xs.length/\∃ (W:Option V) (b:List (Key × V)) (c:List Str),σ=[some (.ref a),some (.ref d),W]/\Same H L/\L d=some (.dK b)/\b.map (·.1)=c.map Sum.inr/\c.Nodup/\c.length<=2*i/\∀ z,z∈c↔∃ t∈ts.take i,z=t.st\/z=t.en) ⟨Nat.zero_le _,none,[],[],rfl,S1,e1,rfl,by simp,by simp,by simp⟩ (fun i σ L z=>by obtain ⟨_,_,_,_,_,z,_⟩:=z;exact hS.same z) ?_ ?_⟩
 ·rintro i x σ H2 hx ⟨hi,W,b,c,rfl,m,G,D,y,O,q⟩;have li:i<xs.length:=(List.getElem?_eq_some_iff.mp hx).1;obtain ⟨t,B,ov⟩:=hR.at_ hx;obtain ⟨C,vl,vg,⟨p,dx,rfl,hp⟩,hC,a1,a5⟩:=ov.same m;have I:=T.tie C hC;contradiction;refine ⟨p,C,dx,_, .str t.st,rfl,hp,I.cls,I.n2,rfl,?_⟩;try contradiction
  have lk:b.length=c.length:=by simpa using congrArg List.length D
  refine ⟨d,_,rfl,DPut.k (k:=Sum.inr t.st) G ∅,?_⟩;generalize Y:upd H2 d _=H3;have e3:=putE Y;have U:=putN Y G hp (by intro z;cases z);try contradiction
  refine ⟨p,C,dx,_, .str t.en,rfl,U,I.cls,I.n3,rfl,?_⟩;try contradiction
  have n:=JgP D t.st (.bl true);have a3:(putK b (Sum.inr t.st) (V.bl true)).length=(addS c t.st).length:=by simpa using congrArg List.length n
  have la:=JgA c t.st;have lb:=JgA (addS c t.st) t.en;refine ⟨d,_,rfl,DPut.k (k:=Sum.inr t.en) e3 ∅,?_⟩;generalize u4:upd H3 d _=H4;have e4:=putE u4;have a0:=JgP n t.en (.bl true);refine ⟨li,_,_,addS (addS c t.st) t.en,rfl,fun bb u M=>?_,e4,a0,Jhu _ (Jhu _ y),by ac_nf,fun z=>?_⟩
  ·rw [<- u4,Jai (Jag M r), <- Y,Jai (Jag M r)];exact m _ _ M
  ·rw [JgB,JgB,q,take_succ,B];simp only [mem_append,Option.toList_some,mem_singleton];constructor
   ·rintro ((⟨J,Z,g⟩ | h) | h)
    ·exact ⟨J, .inl Z,g⟩
    ·exact ⟨t, .inr rfl, .inl h⟩
    ·exact ⟨t, .inr rfl, .inr h⟩
   ·rintro ⟨J,Z | rfl,g⟩
    ·exact .inl (.inl ⟨J,Z,g⟩)
    ·rcases g with g | g
     ·exact .inl (.inr g)
     ·exact .inr g
 ·rintro σ H2 ⟨hi,W,b,c,rfl,m,G,D,y,O,q⟩;try infer_instance
  rw [take_of_length_le ∅] at q;have l8:=sub_len c F y fun z hz=>by
   obtain ⟨t,B,h | h⟩:=(q z).mp hz
   ·rw [h];exact (v t B).1
   ·rw [h];exact (v t B).2
  refine ⟨d,b,c,rfl,G,D,by ac_nf,fun l N j R=>?_⟩;have hH:H l=none:=by
   cases e:H l with
   | none=>rfl
   | some o=>rw [m _ _ e] at j;cases j
  refine k l N _ (m.trans (newS j rfl)) hH (newE rfl) ⟨R.1.nodup_iff.mpr y,R.2,fun z=>?_⟩;rw [R.1.mem_iff,q]
abbrev BaP:Stmt:=inClass (top 46) 1
theorem JfH:Jan ["self"] ["self"] (Jad BaP):=by bv_decide
def Jbi (K:W.Frag) (Ad:Adr):Sp:=fun vs H Q E=>∃ (p d:Addr) (ts:List TD),vs=[.ref p]/\BK K Ad H p d ts/\∀ l ys H',Same H H'->H l=none->H' l=some (.lst ys)->All2 (OV K Ad H') ts ys->Q (.ref l) H'
theorem Jfp (F:FunD K "kept" "Book.kept" BaP dV f fd) (T:Txt K mg Ad)  : FnOk P w K mg base (CX1 P w) 1 f fd ["self"] (Jbi K Ad):=by
 refine F.okn JfH (by subst_eqs) (fun m A c s H o Q E x h=>?_)
 obtain ⟨p,d,r,rfl,h⟩:=h;refine ⟨_,(Jaf (Jam (Jkk rfl rfl rfl T.Bb5 JdD (Jax (pv 0) rfl)))),?_⟩;obtain ⟨⟨⟨t,u⟩,a,n,v⟩,k⟩:=h;have g:=T.book Ad.Book rfl;show tRet _ _ [some (.ref p)] H;try contradiction
 refine ⟨p,_,t,_, .ref d,rfl,u,g.cls,g.n1,rfl,?_⟩;try contradiction
 refine ⟨d,a,rfl,n,?_⟩;rename_i l b q H i e j;exact k l _ i e b j (v.2.mono fun _ _ z=>z.same e)
abbrev BaQ:Stmt:=inClass (top 46) 2
theorem JfI:Jan ["self"] ["self"] (Jad BaQ):=by bv_decide
def Jct (K:W.Frag) (Ad:Adr):Sp:=fun vs H Q E=>∃ (p d:Addr) (ts:List TD),vs=[.ref p]/\BK K Ad H p d ts/\ts.length<=35/\∀ l ys H',Same H H'->H l=none->H' l=some (.lst ys)->All2 (TV K H') ts ys->Q (.ref l) H'
theorem Jfq (F:FunD K "ties" "Book.ties" BaQ dV f fd) (T:Txt K mg Ad) (m_kept:MCal P w K mg base 1 "kept" (JaS Ad) ["self"] (Jbi K Ad)) (Bb9:MCal P w K mg base 1 "plain" (IsTie Ad) ["self"] (Jcu K Ad)):FnOk P w K mg base (CX1 P w) 2 f fd ["self"] (Jct K Ad):=by
 refine F.okn JfI (by subst_eqs) (fun S A v s H Z Q E G h=>?_)
 obtain ⟨p,d,x,rfl,h⟩:=h;refine ⟨_,(Jaf (Jam (JcL (own:=["tie"]) (cs:=[]) (cl:=[]) rfl (pi_U (m_kept.m0 G ⋯ passF (pv 0))) (fun _ _ _ _=>(Jar (i:=0) (show [("tie" : Str)].Nodup by decide) rfl (Or.inl rfl))) (fun _ _ _ _=>(Bb9.m0 G ⋯ passF (pv 0))) rfl ⋯ rfl ⋯ hcl0 (hhas0 ⋯) hcs0))),?_⟩;obtain ⟨J,hl,k⟩:=h;obtain ⟨⟨dx,hp⟩,_⟩:=id J;have sl:(1000:Nat)<=sizeLine:=by decide
 show tRet _ _ [some (.ref p)] H;try infer_instance
 refine ⟨p,_,dx,_,rfl,hp,rfl,rfl,?_⟩;try try infer_instance
 refine ⟨p,d,x,rfl,J,fun l B R I X D O=>?_⟩;try try infer_instance
 have ly:=O.length;refine ⟨l,rfl, .inl ⟨⟨B,SqL.of D⟩,CompJ.list (xs:=B) (fun i j g=>Same R g/\All2 (TV K g) (x.take i) j) ⟨.refl _,rfl⟩ (fun i j H' hi z=>⟨SqL.of (z.1 _ _ D),by have:=z.2.length;rw [length_take] at this;ac_nf⟩) ?_ ?_⟩⟩
 ·rintro i y j g hy ⟨c,a⟩;simpa only [length_singleton,List.replicate,JaB,map_cons,map_nil,Option.join_some];obtain ⟨t,ht,V⟩:=O.at_ hy;obtain ⟨C,vl,M,L,N,U,h2⟩:=V.same c;obtain ⟨q,Y,rfl,W⟩:=id L;refine ⟨q,C,Y,_,rfl,W,N,rfl,?_⟩;refine ⟨_,C,_,_,_,vl,M,rfl,L,N,fun r n b u=>?_⟩;refine ⟨c.trans b,?_⟩;rw [take_succ,ht];exact (a.mono (P':=TV K n) fun _ _ z=>z.sameT b.t).append (.one ⟨r,vl,M,rfl,SqT.of u,U.sameT b.t,h2.sameT b.t⟩)
 ·rintro j g ⟨c,a⟩;rw [take_of_length_le ∅] at a;rename_i r m a0 g n b u;have hn:H r=none:=by
   cases e:H r with
   | none=>rfl
   | some o=>rw [c _ _ (I _ _ e)] at m;cases m
  exact k r j n (I.trans (c.trans b)) hn u (a.mono fun _ _ z=>z.sameT b.t)
abbrev BaE:Stmt:=inClass (top 46) 3
theorem Je1:Jan ["self"] ["self"] (Jad BaE):=by bv_decide
def Jbm (K:W.Frag) (Ad:Adr):Sp:=fun vs H Q E=>∃ (p d:Addr) (ts:List TD) (F:List Str),vs=[.ref p]/\BK K Ad H p d ts/\ts.length<=35/\F.length<=8/\(∀ t∈ts,t.st∈F/\t.en∈F)/\∀ l out H',Same H H'->H l=none->H' l=some (.lst (out.map V.str))->Jbz ts out->Q (.ref l) H'
theorem JeQ (F:FunD K "faces" "Book.faces" BaE dV f fd) (T:Txt K mg Ad) (m_kept:MCal P w K mg base 1 "kept" (JaS Ad) ["self"] (Jbi K Ad)) (BbJ:Cal P w K mg base 1 "faces_of" ["ties"] [] (JcO K Ad)):FnOk P w K mg base (CX1 P w) 2 f fd ["self"] (Jbm K Ad):=by
 refine F.okn Je1 (by subst_eqs) (fun z A b s H D Q E n h=>?_)
 obtain ⟨p,d,c,F,rfl,h⟩:=h;refine ⟨_,(Jaf (Jam (BbJ.ev n ⋯ rfl passF (Jaa (m_kept.m0 n ⋯ passF (pv 0)) Jac) (he:=by exact Jah rfl)))),?_⟩;obtain ⟨r,v,a,g,k⟩:=h;obtain ⟨⟨J,L⟩,_⟩:=id r;show tRet _ _ [some (.ref p)] H;try infer_instance
 refine ⟨p,_,J,_,rfl,L,rfl,rfl,?_⟩;try try infer_instance
 refine ⟨p,d,c,rfl,r,fun l t N m B x M=>?_⟩;try try infer_instance
 refine ⟨l,t,c,F,rfl,SqL.of x,M,v,a,g,fun q i C y j u G=>?_⟩;have I:H q=none:=by
  cases e:H q with
  | none=>rfl
  | some o=>rw [m _ _ e] at j;cases j
 exact k q i C (m.trans y) I u G
abbrev Ban:Stmt:=inClass (top 46) 0
theorem JbA:Jan ["self","ties","row","tie"] ["self","ties"] (Jad Ban):=by bv_decide
def JbC (K:W.Frag) (Ad:Adr):Sp:=fun vs H Q E=>∃ (x dx a:Addr) (xs:List V) (ts:List TD) (H0:Hp),vs=[.ref x, .ref a]/\H x=some (.ins Ad.Book dx [])/\H0 x=none/\Same H0 H/\SqL K H0 a xs/\All2 (TV K H0) ts xs/\(∀ t∈ts,TOk t)/\(nms ts).Nodup/\ts.length<=35/\∀ d H',Same H0 H'->H0 d=none->BK K Ad H' x d ts->Q .non H'
theorem Jdq (F:FunD K "__init__" "Book.__init__" Ban dV f fd) (T:Txt K mg Ad) (BbX:Cal P w K mg base 6 "tie_of" ["thing"] [] (Jd4 K Ad)):FnOk P w K mg base (CX1 P w) 7 f fd ["self","ties"] (JbC K Ad):=by
 refine F.okn JbA (by subst_eqs) (fun b0 A a3 s H vs Q E hr h=>?_)
 obtain ⟨x,j,a,xs,g,R,rfl,h⟩:=h;have hu:=hr.units;refine ⟨_,(Jab (JbR (pv 0) Jcc rfl)
   (Jaf (Ja7 PassesOwn.never rfl (pi_U (pv 1)) (Jar (i:=2) JbA.nd rfl (Or.inl rfl))
   (Jab (Jaj (i:=3) JbA.nd rfl (Or.inl rfl) (BbX.ev hr ⋯ rfl passF (Jaa (pv 2) Jac) (he:=by exact Jah rfl)))
   (Jab (ps_if (Jcs (Jey (hu1 hu) (Jax (pv 3) rfl) (Jax (pv 0) rfl)) (by with_unfolding_all rfl))
   (Jaf ps_no)
   Jap)
   (Jaf (JbX (hu1 hu) (Jax (pv 0) rfl) (Jax (pv 3) rfl) (pv 3) rfl))))))),?_⟩
 clear hu;obtain ⟨hx,a0,S0,hS,hE,hT,a5,hl,k⟩:=h;have o:=T.book Ad.Book rfl;have sl:(1000:Nat)<=sizeLine:=by decide
 have le:=hE.length;show tSeq _ _ _ [some (.ref x),some (.ref a),none,none] H;symm_saturate;rename_i d M a9 H H1 S1 e1;symm_saturate;refine ⟨x,_,j,_,rfl,S1 _ _ hx,o.cls,o.n1,by simp,?_⟩;generalize Z:upd H1 x _=H2;symm_saturate;have e2:H2 x=some (.ins Ad.Book j [("by_name", .ref d)]):=by rw [<- Z];exact Jau.trans rfl
 have C:x≠d:=fun z=>by rw [z,M] at hx;cases hx
 have a4:H2 d=some (.dK []):=by rw [<- Z,Jai (Ne.symm C)];exact e1
 have N:R d=none:=Jbh S0 M;have D:Same R H2:=fun b u h=>by rw [<- Z,Jai (Jag h a0)];exact S1 _ _ (S0 _ _ h)
 symm_saturate;refine ⟨a,rfl,ForA.byLN (xs:=xs) (hS.same D) (fun i σ v=>i<=xs.length/\∃ (v2 v3:Option V) (e:List (Key × V)),σ=[some (.ref x),some (.ref a),v2,v3]/\Same R v/\v x=some (.ins Ad.Book j [("by_name", .ref d)])/\v d=some (.dK e)/\BD (OV K Ad v) (g.take i) e) ⟨Nat.zero_le _,none,none,[],rfl,D,e2,a4,by rw [take_zero];exact ⟨rfl,rfl⟩⟩ (fun i σ v z=>by obtain ⟨_,_,_,_,_,z,_⟩:=z;exact hS.same z) ?_ ?_⟩
 ·rintro i y σ H3 hy ⟨hi,v2,v3,e,rfl,S,X,l,I⟩ N0 a6;have li:i<xs.length:=(List.getElem?_eq_some_iff.mp hy).1;obtain ⟨t,ht,a7⟩:=hE.at_ hy;have ok:=hT t (List.mem_of_getElem? ht);have L:=a7.sameT S.t;have a2:=I.length;rw [length_take] at a2;try simpa only [y4dy,y86y]
  refine ⟨y,tdD t,rfl,L.rep,ok.sz,fun z=>absurd z (by rw [ok.tie];simp),fun _=>?_⟩;obtain ⟨b,vl,vg,rfl,hq,r,B⟩:=L;refine ⟨b,_,_,_,_,_,_,_,_,_,_,rfl,hq,rfl,r.rep,B.rep,fun w U p tv=>?_⟩;have ov:OV K Ad U t w:=⟨_,vl,vg,tv,Jh3 Ad _ _,r.sameT p.t,B.sameT p.t⟩;obtain ⟨q,dq,rfl,G⟩:=id tv;have W:=T.tie _ (Jh3 Ad (bD t.lo) (bD t.hi));have n:=p _ _ X;have m:=p _ _ l;have O:=I.mono (P':=OV K Ad U) fun _ _ z=>z.same p
  (try ((with_reducible refine Nxt.go (by assumption) ?_);symm_saturate))
  try simpa only [y4dy,y86y]
  refine ⟨q,_,dq,_, .str t.nm,rfl,G,W.cls,W.n1,rfl,?_⟩;refine ⟨x,_,j,_, .ref d,rfl,n,o.cls,o.n1,rfl,?_⟩;refine ⟨d,_,rfl,DGet.k (k:=Sum.inr t.nm) m,?_⟩;rw [O.val];have a1:g.take (i+1)=g.take i++[t]:=by rw [take_succ,ht];rfl
  have c:t.nm∉nms (g.take i):=fun z=>by
   have e0:g=g.take i++t::g.drop (i+1):=by
    obtain ⟨h1,h2⟩:=List.getElem?_eq_some_iff.mp ht;rw [<- h2, <- List.drop_eq_getElem_cons h1,List.take_append_drop]
   have nd:=a5;unfold nms at nd z;rw [e0,map_append,map_cons] at nd;exact (nodup_append.mp nd).2.2 _ z _ mem_cons_self rfl
  rw [decide_eq_false c];try simpa only [y4dy,y86y]
  (try ((with_reducible refine Nxt.go (by assumption) ?_);symm_saturate))
  try simpa only [y4dy,y86y]
  refine ⟨x,_,j,_, .ref d,rfl,n,o.cls,o.n1,rfl,?_⟩;refine ⟨q,_,dq,_, .str t.nm,rfl,G,W.cls,W.n1,rfl,?_⟩;refine ⟨d,_,rfl,DPut.k (k:=Sum.inr t.nm) m ∅,?_⟩;generalize u5:upd U d _=H5;symm_saturate;have e5:=putE u5;have Y:Sx d U H5:=fun b u hb h=>by rw [<- u5,Jai hb];exact h
  have a8:putT (g.take i) t=g.take i++[t]:=by unfold putT;rw [if_neg c]
  have J:=(O.put ov).mono (P':=OV K Ad H5) fun _ _ z=>z.sx Y m;rw [a8, <- a1] at J;exact a6 _ _ ⟨li,_,_,_,rfl,fun b u h=>Y b u (Jag h N) (p _ _ (S _ _ h)),Y _ _ C n,e5,J⟩
 ·rintro σ H3 ⟨hi,v2,v3,e,rfl,S,X,l,I⟩;rw [take_of_length_le ∅] at I;try simpa only [y4dy,y86y]
  exact k d H3 S N ⟨⟨j,X⟩,e,l,I⟩
abbrev BaR:Stmt:=top 40
theorem JbS:Jan ["steps","faces","told","places","face"] ["steps","faces"] (Jad BaR):=by bv_decide
def JbU (K:W.Frag) (Ad:Adr):Sp:=fun vs H Q E=>∃ (sL fL:Addr) (ts:List TD) (F:List Str) (x:Str->Rat) (fs:List Str),vs=[.ref sL, .ref fL]/\STp K Ad H ts sL/\BkG ts F x/\SqL K H fL (fs.map V.str)/\fs.length<=8/\∀ (pd:Addr) (kp:List (Key × V)) (tb:Tab) (pb:List (Str × (Int × Int))) (H':Hp),Same H H'->H pd=none->H' pd=some (.dK kp)->DV (RF K H') pb kp->(pb.map (·.1)).Nodup->TTd ts fs tb->(∀ v,lk pb v=(lk tb v).map (·.1))->Q (.ref pd) H'
theorem Jfy (F:FunD K "places_of" "places_of" BaR dV f fd) (T:Txt K mg Ad) (Bah:Cal P w K mg base 3 "chains_from" ["steps","starts"] [] (Jbd K Ad)):FnOk P w K mg base (CX1 P w) 4 f fd ["steps","faces"] (JbU K Ad):=by
 refine F.okx JbS (fun vs H Q E h=>?_) (fun b5 A a6 s H vs Q E hr h=>?_)
 ·obtain ⟨sL,fL,Z,F,x,fs,rfl,_⟩:=h;rfl
 obtain ⟨sL,fL,Z,F,x,fs,rfl,h⟩:=h;have hu:=hr.units;refine ⟨_,(Jab (Jaj (i:=2) JbS.nd rfl (Or.inl rfl) (Bah.ev hr ⋯ rfl pass1 (Jaa (pv 0) (Jaa (pv 1) Jac)) (he:=by exact Jah rfl)))
   (Jab (Jaj (i:=3) JbS.nd rfl (Or.inl rfl) Jcc)
   (Jab (Ja7 PassesOwn.leaving rfl (Jip (pv 2)) (Jar (i:=4) JbS.nd rfl (Or.inl rfl))
   (Jaf (JbX (hu1 hu) (pv 3) (pv 4) (pe_ix ix_U (JaO (hu1 hu) (pv 2) (pv 4) (fun _ _=>rfl)) Jae (fun _ _=>rfl)) rfl)))
   (Jaf (Jam (pv 3)))))),?_⟩
 clear hu;obtain ⟨b0,hg,hF,l8,k⟩:=h;obtain ⟨⟨sx,hS,hX⟩,W,Y⟩:=b0;have sl:(1000:Nat)<=sizeLine:=by decide
 have a3:(ssD Z).length<=70:=by unfold ssD;rw [length_map];exact hg.l70
 show tSeq _ _ _ [some (.ref sL),some (.ref fL),none,none,none] H;nofun;refine ⟨sL,fL,sx,ssD Z,fs,_,rfl,hS,hX,hF,l8,Jiz W Y hg.pot,a3,fun s hs=>?_,fun B M m P H1 S1 h0 t hT hP hB hi hk=>?_⟩
 ·obtain ⟨s',a8,rfl⟩:=mem_map.mp hs;exact hg.fb s' a8
 have hP:P=lsD Z fs:=hP;subst hP;have a4:TTd Z fs m:=⟨W,Y,hk,hi,hB⟩;have b3:=hB.tb_len hk
 (try ((with_reducible refine Nxt.go (by assumption) ?_);nofun))
 nofun;rename_i G g b1 H1 H2 S2 N;nofun;have X:G≠B:=fun z=>by rw [z,t] at g;cases g
 (try ((with_reducible refine Nxt.go (by assumption) ?_);nofun))
 nofun;refine ⟨B,M,m.map (·.1),rfl,S2 _ _ t,hT.keys,fun od=>?_⟩;generalize uf:upd H2 B _=H3;nofun;have ef:H3 B=some (.frz od (.dK M)):=by rw [<- uf];exact Jau
 have a1:Same H H3:=fun c w h=>by rw [<- uf,Jai (Jag h h0)];exact S2 _ _ (S1 _ _ h)
 have a7:H3 G=some (.dK []):=by rw [<- uf,Jai X];exact N
 have a0:DV (RT K H H3) m M:=(hT.mono fun _ _ z=>z.same S2).mono fun _ _ z=>z.putL uf (S2 _ _ t);have r:=Jbh S1 g;refine ForJ.keys (fun i σ J=>i<=m.length/\∃ (v4:Option V) (O:List (Key × V)) (b:List (Str × (Int × Int))),σ=[some (.ref sL),some (.ref fL),some (.ref B),some (.ref G),v4]/\Same H J/\J B=some (.frz od (.dK M))/\DV (RT K H J) m M/\J G=some (.dK O)/\DV (RF K J) b O/\(b.map (·.1)).Nodup/\b.length<=i/\(∀ v e,lk b v=some e->∃ L,lk m v=some L/\L.1=e)/\∀ j z,j<i->(m.map (·.1))[j]?=some z->∃ e,lk b z=some e) ⟨Nat.zero_le _,none,[],[],rfl,a1,ef,a0,a7,rfl,by simp,Nat.le_refl _,(fun v e h=>by cases h),fun j z U=>absurd U (Nat.not_lt_zero _)⟩ (fun i σ J z=>by obtain ⟨_,_,_,_,_,_,z,_⟩:=z;exact z) ?_ ?_
 ·rintro i z σ H4 hz ⟨a2,v4,O,b,rfl,S4,C,D,d,o,u,a5,n,I⟩ N0 a9;have li:=(List.getElem?_eq_some_iff.mp hz).1;rw [length_map] at li;obtain ⟨e,he⟩:=JdR (List.mem_of_getElem? hz);obtain ⟨v,hv,p,qv,l,xs,rfl,hp,hq,hl,b4,hf⟩:=D.at he;have b2:=o.len;nofun;refine ⟨B, .ref p,rfl,by rw [<- hv];exact DGet.f (k:=Sum.inr z) C,?_⟩;nofun;refine ixT (i:=0) hp rfl ?_;nofun;refine ⟨G,_,rfl,DPut.k (k:=Sum.inr z) d ∅,?_⟩;generalize S:upd H4 G _=H5;nofun;have e5:=putE S;have T5:SameT H4 H5:=SameT.put S d rfl;refine a9 _ _ ⟨li,_,_,pu b z e.1,rfl,fun c w h=>by rw [<- S,Jai (Jag h r)];exact S4 _ _ h,by rw [<- S,Jai (Ne.symm X)];exact C,D.mono (fun _ _ z=>z.putL S d),e5,(o.mono (R':=RF K H5) fun _ _ z=>FrV.sameT T5 z).put (FrV.sameT T5 hq),pu_nd u,by have:=JdZ (l:=b) (f:=z) (a:=e.1);ac_nf,fun v L h=>?_,fun j y U hy=>?_⟩
  ·rw [lk_pu] at h;by_cases c:z=v
   ·rw [if_pos c] at h;cases h;exact ⟨e,by rw [<- c];exact he,rfl⟩
   ·rw [if_neg c] at h;exact n v L h
  ·rw [lk_pu];by_cases c:z=y
   ·exact ⟨_,if_pos c⟩
   ·rw [if_neg c];nofun;refine I j y ?_ hy;have : j≠i:=fun q=>by
     rw [q,hz] at hy;cases hy;exact c rfl
    ac_nf
 ·rintro σ H4 ⟨a2,v4,O,b,rfl,S4,C,D,d,o,u,a5,n,I⟩;nofun;refine k G O m b H4 S4 r d o u a4 fun v=>?_;cases t:lk m v with
  | none=>
   cases N:lk b v with
   | none=>rfl
   | some e=>
    obtain ⟨L,h,_⟩:=n v e N;rw [t] at h;cases h
  | some e=>
   obtain ⟨j,U⟩:=List.getElem?_of_mem (JgQ t);obtain ⟨N,R⟩:=I j v (List.getElem?_eq_some_iff.mp U).1 U;obtain ⟨L,h,q⟩:=n v N R;rw [t] at h;cases h;rw [R, <- q];rfl
abbrev Baw:Stmt:=top 41
theorem Jem:Jan ["number"] ["number"] (Jad Baw):=by bv_decide
def Jb2 (K:W.Frag):Sp:=fun vs H Q E=>∃ (v:V) (n:Int × Int),vs=[v]/\FrV K H v n.1 n.2/\FB 1000 700 n/\Q (.int (Jbg n)) H
theorem Jei (F:FunD K "whole_below" "whole_below" Baw dV f fd) (T:Txt K mg Ad)  : FnOk P w K mg base (CX1 P w) 1 f fd ["number"] (Jb2 K):=by
 refine F.okn Jem (by subst_eqs) (fun e A a s H d Q E g h=>?_)
 obtain ⟨v,n,rfl,h⟩:=h;refine ⟨_,(Jaf (Jam (pe_op Jav (pe_ix ix_U (pv 0) Jae (fun _ _=>rfl)) (pe_ix ix_U (pv 0) Jae (fun _ _=>rfl))))),?_⟩;obtain ⟨b,c,k⟩:=h;show tRet _ _ [some v] H;nofun;refine ixF0 b (ixF1 b ?_);nofun;exact ⟨divOk (n:=700) (by have:=c.b1;ac_nf) c.s2,k⟩
abbrev Bax:Stmt:=top 42
theorem Jel:Jan ["number"] ["number"] (Jad Bax):=by bv_decide
def Jb1 (K:W.Frag):Sp:=fun vs H Q E=>∃ (v:V) (n:Int × Int),vs=[v]/\FrV K H v n.1 n.2/\FB 1000 700 n/\Q (.int (ceilF n)) H
theorem Jeh (F:FunD K "whole_above" "whole_above" Bax dV f fd) (T:Txt K mg Ad)  : FnOk P w K mg base (CX1 P w) 1 f fd ["number"] (Jb1 K):=by
 refine F.okn Jel (by subst_eqs) (fun e A a s H d Q E g h=>?_)
 obtain ⟨v,n,rfl,h⟩:=h;refine ⟨_,(Jaf (Jam (pe_un Jd7 (pe_op Jav (pe_un Jd7 (pe_ix ix_U (pv 0) Jae (fun _ _=>rfl))) (pe_ix ix_U (pv 0) Jae (fun _ _=>rfl)))))),?_⟩;obtain ⟨b,c,k⟩:=h;show tRet _ _ [some v] H;nofun;refine ixF0 b ?_;nofun;refine ixF1 b ?_;nofun;exact ⟨divOk (n:=700) (by have:=c.b1;ac_nf) c.s2,k⟩
abbrev Bar:Stmt:=top 43
theorem Ja1:Jan ["steps","reached_chains","places","enough","step","place"] ["steps","reached_chains","places"] (Jad Bar):=by bv_decide
def JbN (K:W.Frag) (Ad:Adr):Sp:=fun vs H Q E=>∃ (sL td pd:Addr) (ts:List TD) (tb:Tab) (pb:List (Str × (Int × Int))) (H0:Hp),vs=[.ref sL, .ref td, .ref pd]/\STp K Ad H ts sL/\TDk K H0 H tb td/\PDk K H pb pd/\(∀ s∈Ch.all ts,FB 200 9 s.c)/\(∀ v e,lk tb v=some e->FB 1000 700 e.1)/\(∀ v e,lk pb v=some e->FB 1000 700 e)/\(∀ s∈Ch.all ts, ∃ e,lk pb s.src=some e)/\Q (.int (enD (ssD ts) (fun v=>(lk tb v).map (·.1)) (lk pb))) H
theorem JdW (F:FunD K "enough_above" "enough_above" Bar dV f fd) (T:Txt K mg Ad) (Bbi:Cal P w K mg base 1 "whole_above" ["number"] [] (Jb1 K)) (BaX:Cal P w K mg base 1 "whole_below" ["number"] [] (Jb2 K)):FnOk P w K mg base (CX1 P w) 2 f fd ["steps","reached_chains","places"] (JbN K Ad):=by
 refine F.okn Ja1 (by subst_eqs) (fun a3 A U s H vs Q E I h=>?_)
 obtain ⟨L,o,J,x,c,n,H0,rfl,h⟩:=h;have B:=I.units;refine ⟨_,(Jab (Jaj (i:=3) Ja1.nd rfl (Or.inl rfl) Jae)
   (Jab (Ja7 PassesOwn.never rfl (pi_U (pv 0)) (Jar (i:=4) Ja1.nd rfl (Or.inl rfl))
   (Jaf (ps_if (PW.pt (JeA (Jcs (Jey (hu1 B) (Jax (pv 4) rfl) (pv 1)) (by with_unfolding_all rfl)) (Jdf (Jcs (Jcp (hu1 B) (Jax (pv 4) rfl) (pv 1)) (by with_unfolding_all rfl)))))
   (Jab (Jaj (i:=5) Ja1.nd rfl (Or.inl rfl) (Bbi.ev I ⋯ rfl passF (Jaa (pe_ix ix_U (JaO (hu1 B) (pv 1) (Jax (pv 4) rfl) (fun _ _=>rfl)) Jae (fun _ _=>rfl)) Jac) (he:=by exact Jah rfl)))
   (Jaf (Jaj (i:=3) Ja1.nd rfl (Or.inl rfl) (Jat (Jhy rfl) rfl T.n_max JkC (Jaa (pv 3) (Jaa (pe_op JfB (pe_op JfB (pv 5) (BaX.ev I ⋯ rfl passF (Jaa (JaO (hu1 B) (pv 2) (Jax (pv 4) rfl) (fun _ _=>rfl)) Jac) (he:=by exact Jah rfl))) (BaX.ev I ⋯ rfl passF (Jaa (Jax (pv 4) rfl) Jac) (he:=by exact Jah rfl))) Jac))))))
   Jap)))
   (Jaf (Jam (pv 3))))),?_⟩
 clear B;obtain ⟨⟨⟨sx,hS,hX⟩,_,_⟩,⟨kt,et,D,_⟩,⟨kp,ep,hP⟩,O,X,Y,M,k⟩:=h;have g:=T.c_Step Ad.Step rfl;have lX:=hX.length;show tSeq _ _ _ [some (.ref L),some (.ref o),some (.ref J),none,none,none] H;and_intros;refine ⟨L,rfl,ForA.byLN (xs:=sx) hS (fun i σ G=>i<=sx.length/\∃ (Z u:Option V),σ=[some (.ref L),some (.ref o),some (.ref J),some (.int (((ssD x).take i).foldl (enS (fun v=>(lk c v).map (·.1)) (lk n)) 0)),Z,u]/\G=H) ⟨Nat.zero_le _,none,none,rfl,rfl⟩ (fun i σ G z=>by obtain ⟨_,_,_,_,rfl⟩:=z;exact hS) ?_ ?_⟩
 ·rintro i y σ G hy ⟨hi,Z,u,rfl,rfl⟩ N0 l;have li:=(List.getElem?_eq_some_iff.mp hy).1;obtain ⟨s,hs,p,C,vc,pr,rfl,d,a0,a2⟩:=hX.at_ hy;obtain ⟨s0,t,es⟩:=mem_map.mp (List.mem_of_getElem? hs);have j:((ssD x).take (i+1)).foldl (enS (fun v=>(lk c v).map (·.1)) (lk n)) 0=enS (fun v=>(lk c v).map (·.1)) (lk n) (((ssD x).take i).foldl (enS (fun v=>(lk c v).map (·.1)) (lk n)) 0) s:=by rw [take_succ,hs,foldl_append];rfl
  generalize ((ssD x).take i).foldl (enS (fun v=>(lk c v).map (·.1)) (lk n)) 0=m at j ⊢;have W:FB 1000 700 s.cost:=by rw [<- es];exact (O s0 t).mono ⋯ ⋯
  and_intros;refine ⟨p,_,C,_, .str s.tgt,rfl,d,g.cls,g.n2,rfl,?_⟩;refine ⟨o,_,rfl,DGet.k (k:=Sum.inr s.tgt) et,?_⟩;cases ea:lk c s.tgt with
  | none=>
   rw [D.no ea];try simpa only [y4dy,Option.isSome_none]
   refine l _ _ ⟨li,some (.ref p),u,?_,rfl⟩;rw [j,JkH (by show (lk c s.tgt).map _=none;rw [ea];rfl)]
  | some a=>
   obtain ⟨va,r,pa,qa,la,xa,rfl,N,a1,_⟩:=D.at ea;rw [r];try simpa only [y4dy,Option.isSome_some]
   refine ⟨p,_,C,_, .str s.src,rfl,d,g.cls,g.n1,rfl,?_⟩;refine ⟨o,_,rfl,DGet.k (k:=Sum.inr s.src) et,?_⟩;cases eb:lk c s.src with
   | some b=>
    rw [(D.at eb).choose_spec.1];try simpa only [y4dy,Option.isSome_some]
    refine l _ _ ⟨li,some (.ref p),u,?_,rfl⟩;rw [j,JkI (b:=b.1) (by show (lk c s.src).map _=some _;rw [eb];rfl)]
   | none=>
    rw [D.no eb];try simpa only [y4dy,Option.isSome_none]
    obtain ⟨q,R⟩:∃ e,lk n s.src=some e:=by rw [<- es];exact M s0 t
    obtain ⟨vq,S,fq⟩:=hP.at R;refine ⟨p,_,C,_, .str s.tgt,rfl,d,g.cls,g.n2,rfl,?_⟩;refine ⟨o, .ref pa,rfl,by rw [<- r];exact DGet.k (k:=Sum.inr s.tgt) et,?_⟩;and_intros;refine ixT (i:=0) N rfl ?_;and_intros;refine ⟨_,a.1,rfl,a1,X _ _ ea,?_⟩;and_intros
    (try ((with_reducible refine Nxt.go (by assumption) ?_);and_intros))
    and_intros;refine ⟨p,_,C,_, .str s.src,rfl,d,g.cls,g.n1,rfl,?_⟩;refine ⟨J,vq,rfl,by rw [<- S];exact DGet.k (k:=Sum.inr s.src) ep,?_⟩;and_intros;refine ⟨_,q,rfl,fq,Y _ _ R,?_⟩;and_intros;refine ⟨p,_,C,_,vc,rfl,d,g.cls,g.n3,rfl,?_⟩;and_intros;refine ⟨_,s.cost,rfl,a0,W,?_⟩;and_intros;refine ⟨_,_,rfl,?_⟩;and_intros;refine l _ _ ⟨li,some (.ref p),some (.int (ceilF a.1)),?_,rfl⟩;rw [j,enS_y (a:=a.1) (p:=q) (by show (lk c s.tgt).map _=some _;rw [ea];rfl) (by show (lk c s.src).map _=none;rw [eb];rfl) R]
 ·rintro σ G ⟨hi,Z,u,rfl,rfl⟩;and_intros;rw [take_of_length_le ∅];exact k
abbrev Bae:Stmt:=top 44
theorem JaR:Jan ["steps","reached_chains","places","lift","told","face"] ["steps","reached_chains","places"] (Jad Bae):=by bv_decide
def Ja9 (K:W.Frag) (Ad:Adr):Sp:=fun vs H Q E=>∃ (sL td pd:Addr) (ts:List TD) (tb:Tab) (pb:List (Str × (Int × Int))) (H0:Hp),vs=[.ref sL, .ref td, .ref pd]/\STp K Ad H ts sL/\TDk K H0 H tb td/\PDk K H pb pd/\(∀ s∈Ch.all ts,FB 200 9 s.c)/\(∀ v e,lk tb v=some e->FB 1000 700 e.1)/\(∀ v e,lk pb v=some e->FB 1000 700 e)/\(∀ s∈Ch.all ts, ∃ e,lk pb s.src=some e)/\pb.length<64/\∀ (l:Addr) (zs:List V) (out:List Str) (H':Hp),Same H H'->H l=none->H' l=some (.lst zs)->Jht out (pb.map (·.1))->All2 (QV K H') (stD ts (fun v=>(lk tb v).map (·.1)) (lk pb) out) zs->Q (.ref l) H'
theorem JcG (F:FunD K "stretched_placing" "stretched_placing" Bae dV f fd) (T:Txt K mg Ad) (Bbb:Cal P w K mg base 2 "enough_above" ["steps","reached_chains","places"] [] (JbN K Ad)) (BbG:Cal P w K mg base 2 "plus" ["one","other"] [] (Jd3 K)):FnOk P w K mg base (CX1 P w) 3 f fd ["steps","reached_chains","places"] (Ja9 K Ad):=by
 refine F.okn JaR (by subst_eqs) (fun c3 A b3 s H vs Q E hr h=>?_)
 obtain ⟨sL,S,W,I,n,u,H0,rfl,h⟩:=h;have hu:=hr.units;refine ⟨_,(Jab (Jaj (i:=3) JaR.nd rfl (Or.inl rfl) (JaE (Jaa (Bbb.ev hr ⋯ rfl passF (Jaa (pv 0) (Jaa (pv 1) (Jaa (pv 2) Jac))) (he:=by exact Jah rfl)) (Jaa Jae Jac))))
   (Jab (Jaj (i:=4) JaR.nd rfl (Or.inl rfl) (Jby Jac))
   (Jab (Ja7 PassesOwn.never rfl (pi_U (Jat (Jep rfl) rfl T.BbT JdE (Jaa (pv 2) Jac))) (Jar (i:=5) JaR.nd rfl (Or.inl rfl))
   (Jaf (ps_if (Jcs (Jey (hu1 hu) (pv 5) (pv 1)) (by with_unfolding_all rfl))
   (Jaf (Ja0 (pe_bm PySem.F.plainAttrs_list PySem.F.slot_list_append PySem.F.type_list_append JaY (pv 4) (Jaa (JaE (Jaa (pv 5) (Jaa (pe_ix ix_U (JaO (hu1 hu) (pv 1) (pv 5) (fun _ _=>rfl)) Jae (fun _ _=>rfl)) Jac))) Jac) (hs:=by exact Jah rfl))))
   (Jaf (Ja0 (pe_bm PySem.F.plainAttrs_list PySem.F.slot_list_append PySem.F.type_list_append JaY (pv 4) (Jaa (JaE (Jaa (pv 5) (Jaa (BbG.ev hr ⋯ rfl passF (Jaa (JaO (hu1 hu) (pv 2) (pv 5) (fun _ _=>rfl)) (Jaa (pv 3) Jac)) (he:=by exact Jah rfl)) Jac))) Jac) (hs:=by exact Jah rfl)))))))
   (Jaf (Jam (pv 4)))))),?_⟩
 clear hu;obtain ⟨b6,a5,Y,a4,a0,M,a9,c2,k⟩:=h;obtain ⟨kt,et,hT,hf⟩:=id a5;obtain ⟨kp,ep,hP⟩:=id Y;have sl:(1000:Nat)<=sizeLine:=by decide
 show tSeq _ _ _ [some (.ref sL),some (.ref S),some (.ref W),none,none,none] H;nofun;refine ⟨sL,S,W,I,n,u,H0,rfl,b6,a5,Y,a4,a0,M,a9,?_⟩;have D:=en_lt (f:=fun v=>(lk n v).map (·.1)) (g:=lk u) (fun v e h=>by obtain ⟨a,h1,h2⟩:=Option.map_eq_some_iff.mp h;rw [<- h2];exact a0 v a h1) M (ssD I) 0 (fun s hs=>by obtain ⟨y,hy,rfl⟩:=mem_map.mp hs;exact (a4 y hy).mono ⋯ ⋯) (Int.le_refl _) (by exact_mod_cast Nat.two_pow_pos 1010);have D:0<=enD (ssD I) (fun v=>(lk n v).map (·.1)) (lk u)/\enD (ssD I) (fun v=>(lk n v).map (·.1)) (lk u)<2 ^ 1010:=D;nofun;refine ⟨len2,?_⟩;rename_i lf c0 b8 H H1 S1 e1;nofun
 (try ((with_reducible refine Nxt.go (by assumption) ?_);nofun))
 nofun;refine ⟨len0,?_⟩;rename_i L o b9 H1 H2 S2 e2;nofun
 (try ((with_reducible refine Nxt.go (by assumption) ?_);nofun))
 nofun;refine ⟨W,kp,u.map (·.1),rfl,S2 _ _ (S1 _ _ ep),hP.keys,by rw [length_map];ac_nf,?_⟩;intro so b j O;generalize J:upd H2 so _=H3;have S3:=newS j J;have e3:=newE J;have c1:=S1.trans (S2.trans S3);have lo:b.length=u.length:=by rw [O.1.length_eq,length_map]
 have a1:L≠so:=fun z=>by rw [<- z,e2] at j;cases j
 generalize hst':stD I (fun v=>(lk n v).map (·.1)) (lk u)=st at k;have b0:∀ i,(st (b.take i)).length=(b.take i).length:=fun i=>by rw [<- hst'];unfold stD;rw [length_map]
 have fl:FrV K H1 (.ref lf) (enD (ssD I) (fun v=>(lk n v).map (·.1)) (lk u)) 1:=FrV.of e1;generalize hm:enD (ssD I) (fun v=>(lk n v).map (·.1)) (lk u)=m at *;refine ⟨so,rfl,ForA.byLN (xs:=b.map V.str) (SqL.of e3) (fun i σ Z=>i<=b.length/\∃ (v5:Option V) (zs:List V),σ=[some (.ref sL),some (.ref S),some (.ref W),some (.ref lf),some (.ref L),v5]/\Same H1 Z/\Z so=some (.lst (b.map V.str))/\Z L=some (.lst zs)/\All2 (QV K Z) (st (b.take i)) zs) ⟨Nat.zero_le _,none,[],rfl,S2.trans S3,e3,S3 _ _ e2,by rw [take_zero, <- hst'];exact rfl⟩ (fun i σ Z z=>by obtain ⟨_,_,_,_,_,z,_⟩:=z;exact SqL.of z) ?_ ?_⟩
 ·rintro i y σ H4 hy ⟨hi,v5,zs,rfl,R,N,d,U⟩ N0 a7;rw [List.getElem?_map] at hy;obtain ⟨v,hv,rfl⟩:=Option.map_eq_some_iff.mp hy;have li:=(List.getElem?_eq_some_iff.mp hv).1;have b7:=U.length;rw [b0,length_take] at b7;have r:=S1.trans R;have X:=r _ _ et;have b4:=r _ _ ep;obtain ⟨q,hq⟩:=JdR (O.1.mem_iff.mp (List.mem_of_getElem? hv));have a2:∀ e,(st [v])=[(v,e)]->st (b.take (i+1))=st (b.take i)++[(v,e)]:=fun e h=>by
   rw [take_succ,hv, <- h, <- hst'];unfold stD;rw [map_append];rfl
  nofun;refine ⟨S,_,rfl,DGet.k (k:=Sum.inr v) X,?_⟩;cases ea:lk n v with
  | some e=>
   obtain ⟨va,a3,p,qv,l,xs,rfl,hp,b2,_⟩:=hT.at ea;rw [a3];try simpa only [Option.isSome_some]
   refine ⟨.inl ⟨rfl,_,SqL.of d⟩,?_⟩;refine ⟨S, .ref p,rfl,by rw [<- a3];exact DGet.k (k:=Sum.inr v) X,?_⟩;nofun;refine ixT (i:=0) (hp.same r) rfl ?_;nofun;refine ⟨len2,?_⟩;rename_i np a6 a8 H4 H5 B e5;nofun;refine ⟨L,_,_,rfl,rfl,B _ _ d,by ac_nf,?_⟩;generalize u6:upd H5 L _=H6;nofun;have e6:=putE u6;have T6:SameT H5 H6:=SameT.put u6 (B _ _ d) rfl;refine a7 _ _ ⟨li,_,_,rfl,fun c w h=>by rw [<- u6,Jai (Jag h o)];exact B _ _ (R _ _ h),by rw [<- u6,Jai (Ne.symm a1)];exact B _ _ N,e6,?_⟩;rw [a2 e.1 (by rw [<- hst'];exact Jjf (by show (lk n v).map _=some _;rw [ea];rfl))];exact (U.mono (P':=QV K H6) fun _ _ z=>z.sameT (B.t.trans T6)).append (.one ⟨np,qv,rfl,T6 _ _ rfl e5,(b2.same (r.trans B)).sameT T6⟩)
  | none=>
   rw [hT.no ea];try simpa only [Option.isSome_none]
   obtain ⟨vq,b5,fq⟩:=hP.at hq;have x:=M _ _ hq;refine ⟨.inl ⟨rfl,_,SqL.of d⟩,?_⟩;refine ⟨W,vq,rfl,by rw [<- b5];exact DGet.k (k:=Sum.inr v) b4,?_⟩;nofun;refine ⟨vq, .ref lf,q.1,q.2,m,1,rfl,FrV.same r fq,fl.same R,x.s1.mono ⋯,x.s2.mono ⋯,?_, .lit ⋯ ⋯,x.b1,by decide,x.g1,by unfold Mth.g;simp,fun ap H5 B e5=>?_⟩
   ·refine (show Mth.Sz 1010 m from ?_).mono ⋯;unfold Mth.Sz;have h1:=D.2;have hC:((2 ^ 1010:Nat):Int)=(2:Int) ^ 1010:=by norm_cast
    rw [<- hC] at h1;have h0:=D.1;generalize (2 ^ 1010:Nat)=C at *;ac_nf
   nofun;refine ⟨len2,?_⟩;rename_i np a6 a8 H5 H6 S6 e6;nofun;refine ⟨L,_,_,rfl,rfl,S6 _ _ (B _ _ d),by ac_nf,?_⟩;generalize u7:upd H6 L _=H7;nofun;have e7:=putE u7;have G:=B.trans S6;have T7:SameT H6 H7:=SameT.put u7 (G _ _ d) rfl;refine a7 _ _ ⟨li,_,_,rfl,fun c w h=>by rw [<- u7,Jai (Jag h o)];exact G _ _ (R _ _ h),by rw [<- u7,Jai (Ne.symm a1)];exact G _ _ N,e7,?_⟩;rw [a2 (addF q (m,1)) (by rw [<- hst', <- hm];exact Jje (by show (lk n v).map _=none;rw [ea];rfl) hq)];exact (U.mono (P':=QV K H7) fun _ _ z=>z.sameT (G.t.trans T7)).append (.one ⟨np, .ref ap,rfl,T7 _ _ rfl e6,⟨ap,rfl,(SqT.of (S6 _ _ e5)).sameT T7⟩⟩)
 ·rintro σ H4 ⟨hi,v5,zs,rfl,R,N,d,U⟩;nofun;rw [take_of_length_le (by rw [length_map];exact Nat.le_refl _)] at U;exact k L zs b H4 (S1.trans R) (Jbh S1 o) d O U
abbrev Bay:Stmt:=top 45
theorem Jbc:Jan ["chains","one","other","least","greatest"] ["chains","one","other"] (Jad Bay):=by bv_decide
def JbY (K:W.Frag) (Ad:Adr):Sp:=fun vs H Q E=>∃ (cd:Addr) (one other:Str) (cb:List (Str × Addr)) (kc:List (Key × V)) (tb1 tb2:Tab) (t1 t2:Addr) (H0:Hp),vs=[.ref cd, .str one, .str other]/\H cd=some (.dK kc)/\DV (fun a v=>v=.ref a) cb kc/\lk cb one=some t1/\lk cb other=some t2/\TDk K H0 H tb1 t1/\TDk K H0 H tb2 t2/\(∀ v e,lk tb1 v=some e->FB 1000 700 e.1)/\(∀ v e,lk tb2 v=some e->FB 1000 700 e.1)/\∀ (p:Addr) (vl vg:V) (H':Hp),Same H H'->H' p=some (.tup [vl,vg])->BV K H' ((lk tb2 one).map fun e=>subF (0,1) e.1) vl->BV K H' ((lk tb1 other).map (·.1)) vg->Q (.ref p) H'
theorem Jed (F:FunD K "gap_between" "gap_between" Bay dV f fd) (T:Txt K mg Ad) (Bbh:Cal P w K mg base 3 "minus" ["one","other"] [] (Jc0 K)):FnOk P w K mg base (CX1 P w) 4 f fd ["chains","one","other"] (JbY K Ad):=by
 refine F.okn Jbc (by subst_eqs) (fun a0 A S s H vs Q E Y h=>?_)
 obtain ⟨m,one,other,cb,kc,B,n,r,y,H0,rfl,h⟩:=h;have g:=Y.units;refine ⟨_,(Jab (Jaj (i:=3) Jbc.nd rfl (Or.inl rfl) JaM)
   (Jab (Jaj (i:=4) Jbc.nd rfl (Or.inl rfl) JaM)
   (Jab (ps_if (Jcs (Jey (hu1 g) (pv 1) (JaO (hu1 g) (pv 0) (pv 2) (fun _ _=>rfl))) (by with_unfolding_all rfl))
   (Jaf (Jaj (i:=3) Jbc.nd rfl (Or.inl rfl) (Bbh.ev Y ⋯ rfl passF (Jaa (Jdd (v:=.ref _) rfl T.Bca T.Bcb) (Jaa (pe_ix ix_U (JaO (hu1 g) (JaO (hu1 g) (pv 0) (pv 2) (fun _ _=>rfl)) (pv 1) (fun _ _=>rfl)) Jae (fun _ _=>rfl)) Jac)) (he:=by exact Jah rfl))))
   Jap)
   (Jab (ps_if (Jcs (Jey (hu1 g) (pv 2) (JaO (hu1 g) (pv 0) (pv 1) (fun _ _=>rfl))) (by with_unfolding_all rfl))
   (Jaf (Jaj (i:=4) Jbc.nd rfl (Or.inl rfl) (pe_ix ix_U (JaO (hu1 g) (JaO (hu1 g) (pv 0) (pv 1) (fun _ _=>rfl)) (pv 2) (fun _ _=>rfl)) Jae (fun _ _=>rfl))))
   Jap)
   (Jaf (Jam (JaE (Jaa (pv 3) (Jaa (pv 4) Jac))))))))),?_⟩
 clear g;obtain ⟨I,hC,h1,h2,⟨k1,C,x,_⟩,⟨k2,z,u,_⟩,a1,U,k⟩:=h;obtain ⟨v1,D,rfl⟩:=hC.at h1;obtain ⟨v2,G,rfl⟩:=hC.at h2;show tSeq _ _ _ [some (.ref m),some (.str one),some (.str other),none,none] H;nofun;refine ⟨m, .ref y,rfl,by rw [<- G];exact DGet.k (k:=Sum.inr other) I,?_⟩;nofun;refine ⟨y,_,rfl,DGet.k (k:=Sum.inr one) z,?_⟩;rename_i N hN;have b:∀ (vl:V) (j:Hp),Same H j->BV K j ((lk n one).map fun e=>subF (0,1) e.1) vl->N [some (.ref m),some (.str one),some (.str other),some vl,some .non] j:=by
  intro vl j c Z
  (try ((with_reducible refine Nxt.go (by assumption) ?_);nofun))
  nofun;refine ⟨m, .ref r,rfl,by rw [<- D];exact DGet.k (k:=Sum.inr one) (c _ _ I),?_⟩;nofun;refine ⟨r,_,rfl,DGet.k (k:=Sum.inr other) (c _ _ C),?_⟩;cases ea:lk B other with
  | none=>
   rw [x.no ea];try simpa only [Option.isSome_none]
   (try ((with_reducible refine Nxt.go (by assumption) ?_);nofun))
   nofun;refine ⟨len2,?_⟩;rename_i p M X j R o L;nofun;exact k p vl .non R (c.trans o) L (Z.sameT o.t) (by rw [ea];rfl)
  | some e=>
   obtain ⟨va,a,q,J,l,xs,rfl,W,O,_⟩:=x.at ea;rw [a];try simpa only [Option.isSome_some]
   refine ⟨m, .ref r,rfl,by rw [<- D];exact DGet.k (k:=Sum.inr one) (c _ _ I),?_⟩;nofun;refine ⟨r, .ref q,rfl,by rw [<- a];exact DGet.k (k:=Sum.inr other) (c _ _ C),?_⟩;nofun;refine ixT (i:=0) (W.same c) rfl ?_;nofun
   (try ((with_reducible refine Nxt.go (by assumption) ?_);nofun))
   nofun;refine ⟨len2,?_⟩;rename_i p M X j R o L;nofun;exact k p vl J R (c.trans o) L (Z.sameT o.t) (by rw [ea];exact O.same (c.trans o))
 cases eb:lk n one with
 | none=>
  rw [u.no eb];try simpa only [Option.isSome_none]
  exact b .non H (Same.refl _) (by rw [eb];rfl)
 | some e=>
  obtain ⟨va,a,q,J,l,xs,rfl,W,O,_⟩:=u.at eb;have d:=U _ _ eb;rw [a];try simpa only [Option.isSome_some]
  refine ⟨m, .ref y,rfl,by rw [<- G];exact DGet.k (k:=Sum.inr other) I,?_⟩;nofun;refine ⟨y, .ref q,rfl,by rw [<- a];exact DGet.k (k:=Sum.inr one) z,?_⟩;nofun;refine ixT (i:=0) W rfl ?_;nofun;refine ⟨.ref Ad.ZERO,J,0,1,e.1.1,e.1.2,rfl,⟨Ad.ZERO,rfl,T.Bb6 _⟩,O, .lit ⋯ ⋯, .lit ⋯ ⋯,d.s1.mono ⋯,d.s2.mono ⋯,by decide,d.b1,by decide,d.g1,fun p j c e1=>?_⟩;refine b (.ref p) j c ?_;rw [eb];exact ⟨p,rfl,SqT.of e1⟩
abbrev Baf:Stmt:=inClass (top 46) 8
theorem JbL:Jan ["self","one","other","faces"] ["self","one","other"] (Jad Baf):=by bv_decide
def JaV (K:W.Frag) (Ad:Adr):Sp:=fun vs H Q E=>∃ (p d:Addr) (ts:List TD) (F:List Str) (one other:Str),vs=[.ref p, .str one, .str other]/\BK K Ad H p d ts/\ts.length<=35/\F.length<=8/\(∀ t∈ts,t.st∈F/\t.en∈F)/\(∃ t∈ts,one=t.st\/one=t.en)/\(∃ t∈ts,other=t.st\/other=t.en)/\∀ H',Same H H'->Q .non H'
theorem JcK (F:FunD K "check_faces" "Book.check_faces" Baf dV f fd) (T:Txt K mg Ad) (m_faces:MCal P w K mg base 2 "faces" (JaS Ad) ["self"] (Jbm K Ad)):FnOk P w K mg base (CX1 P w) 3 f fd ["self","one","other"] (JaV K Ad):=by
 refine F.okn JbL (by subst_eqs) (fun r A b s H y Q E B h=>?_)
 obtain ⟨p,d,o,F,one,other,rfl,h⟩:=h;refine ⟨_,(Jab (Jaj (i:=3) JbL.nd rfl (Or.inl rfl) (m_faces.m0 B ⋯ passF (pv 0)))
   (Jaf (ps_if (PW.pt (pw_or (Jaq JdX (pv 1) (pv 3) (by with_unfolding_all rfl)) (JbK (Jaq JdX (pv 2) (pv 3) (by with_unfolding_all rfl)))))
   (Jaf ps_no)
   Jap))),?_⟩
 obtain ⟨m,c,G,e,t,D,k⟩:=h;obtain ⟨⟨I,J⟩,_⟩:=id m;show tSeq _ _ _ [some (.ref p),some (.str one),some (.str other),none] H;nofun;refine ⟨p,_,I,_,rfl,J,rfl,rfl,?_⟩;nofun;refine ⟨p,d,o,F,rfl,m,c,G,e,fun l g q x u j n=>?_⟩
 (try ((with_reducible refine Nxt.go (by assumption) ?_);nofun))
 nofun;have a:(g.map V.str).all flatV=true:=all_eq_true.mpr (fun v C=>by obtain ⟨z,_,rfl⟩:=mem_map.mp C;rfl);refine ⟨l,_,rfl, .inl (SqL.of j),rfl,a,?_⟩;rw [if_pos rfl,JcC,decide_eq_true ((n.2.2 one).mpr t)];nofun;nofun;refine ⟨l,_,rfl, .inl (SqL.of j),rfl,a,?_⟩;rw [if_pos rfl,JcC,decide_eq_true ((n.2.2 other).mpr D)];nofun;nofun;exact k q x
abbrev Bak:Stmt:=inClass (top 46) 9
theorem Ja5:Jan ["self","faces","steps","told","face"] ["self","faces"] (Jad Bak):=by bv_decide
def Jbt (K:W.Frag) (Ad:Adr):Sp:=fun vs H Q E=>∃ (p d:Addr) (ts:List TD) (F:List Str) (x:Str->Rat) (fL:Addr) (gs:List Str),vs=[.ref p, .ref fL]/\BK K Ad H p d ts/\BkG ts F x/\SqL K H fL (gs.map V.str)/\gs.length<=8/\∀ (cd:Addr) (cb:List (Str × Addr)) (kc:List (Key × V)) (H':Hp),Same H H'->H' cd=some (.dK kc)->DV (fun a v=>v=.ref a) cb kc->(∀ g∈gs, ∃ td,lk cb g=some td)->(∀ g td,lk cb g=some td->∃ tb,TDk K H H' tb td/\TTd ts [g] tb)->Q (.ref cd) H'
theorem Jda (F:FunD K "chains_of" "Book.chains_of" Bak dV f fd) (T:Txt K mg Ad) (m_kept:MCal P w K mg base 1 "kept" (JaS Ad) ["self"] (Jbi K Ad)) (m_faces:MCal P w K mg base 2 "faces" (JaS Ad) ["self"] (Jbm K Ad)) (Ba2:Cal P w K mg base 6 "steps_of" ["ties"] [] (Jcl K Ad)) (BaS:Cal P w K mg base 4 "places_of" ["steps","faces"] [] (JbU K Ad)) (Bah:Cal P w K mg base 3 "chains_from" ["steps","starts"] [] (Jbd K Ad)):FnOk P w K mg base (CX1 P w) 7 f fd ["self","faces"] (Jbt K Ad):=by
 refine F.okx Ja5 (fun vs H Q E h=>?_) (fun d8 A b8 s H vs Q E Y h=>?_)
 ·obtain ⟨p,d,q,F,x,fL,Z,rfl,_⟩:=h;rfl
 obtain ⟨p,d,q,F,x,fL,Z,rfl,h⟩:=h;have hu:=Y.units;refine ⟨_,(Jab (Jaj (i:=2) Ja5.nd rfl (Or.inl rfl) (Ba2.ev Y ⋯ rfl pass1 (Jaa (m_kept.m0 Y ⋯ pass1 (pv 0)) Jac) (he:=by exact Jah rfl)))
   (Jab (Ja0 (BaS.ev Y ⋯ rfl pass1 (Jaa (pv 2) (Jaa (m_faces.m0 Y ⋯ pass1 (pv 0)) Jac)) (he:=by exact Jah rfl)))
   (Jab (Jaj (i:=3) Ja5.nd rfl (Or.inl rfl) Jcc)
   (Jab (Ja7 PassesOwn.leaving rfl (pi_U (pv 1)) (Jar (i:=4) Ja5.nd rfl (Or.inl rfl))
   (Jaf (JbX (hu1 hu) (pv 3) (pv 4) (Bah.ev Y ⋯ rfl pass1 (Jaa (pv 2) (Jaa (Jby (Jaa (pv 4) Jac)) Jac)) (he:=by exact Jah rfl)) rfl)))
   (Jaf (Jam (pv 3))))))),?_⟩
 clear hu;obtain ⟨hb,j,hF,l8,k⟩:=h;obtain ⟨⟨dx,hp⟩,_⟩:=id hb;have sl:(1000:Nat)<=sizeLine:=by decide
 have b4:(ssD q).length<=70:=by unfold ssD;rw [length_map];exact j.l70
 show tSeq _ _ _ [some (.ref p),some (.ref fL),none,none,none] H;nofun;refine ⟨p,_,dx,_,rfl,hp,rfl,rfl,?_⟩;nofun;refine ⟨p,d,q,rfl,hb,fun l ys H1 S1 d1 e1 hA=>?_⟩;nofun;refine ⟨l,ys,q,rfl,SqL.of e1,hA,j.ok,fun s X=>(j.fb s X).mono ⋯ ⋯,j.l35,fun sL sx b H2 S2 e2 N S d2 b3 a7=>?_⟩;have N:b=bD_ q:=N;subst N;have G:STp K Ad H2 q sL:=⟨⟨sx,SqL.of e2,Jgv a7⟩,S,fun s X=>⟨(j.fb s X).b1,b3 s X⟩⟩;have m:=S1.trans S2
 (try ((with_reducible refine Nxt.go (by assumption) ?_);nofun))
 nofun;refine ⟨p,_,dx,_,rfl,m _ _ hp,rfl,rfl,?_⟩;nofun;refine ⟨p,d,q,F,rfl,hb.same m,j.l35,j.f8,j.fm,fun fl M H3 U c5 e3 a6=>?_⟩;have a2:M.length<=8:=by
  have:=sub_len M F a6.1 fun z hz=>by
   obtain ⟨t,ht,h | h⟩:=(a6.2.2 z).mp hz
   ·rw [h];exact (j.fm t ht).1
   ·rw [h];exact (j.fm t ht).2
  have:=j.f8;ac_nf
 nofun;refine ⟨sL,fl,q,F,x,M,rfl,G.same U,j,SqL.of e3,a2,fun pd kp d9 pb H4 S4 c8 e4 d7 d4 d3 d5=>?_⟩
 (try ((with_reducible refine Nxt.go (by assumption) ?_);nofun))
 nofun;rename_i J L c9 H4 H5 S5 e5;nofun
 (try ((with_reducible refine Nxt.go (by assumption) ?_);nofun))
 nofun;have c4:=m.trans (U.trans (S4.trans S5));have c6:=Jbh (m.trans (U.trans S4)) L;refine ⟨fL,rfl,ForA.byLN (xs:=Z.map V.str) (hF.same c4) (fun i σ H'=>i<=Z.length/\∃ (v4:Option V) (C:List (Str × Addr)) (kc:List (Key × V)),σ=[some (.ref p),some (.ref fL),some (.ref sL),some (.ref J),v4]/\Same H4 H'/\H' J=some (.dK kc)/\DV (fun a v=>v=.ref a) C kc/\C.length<=i/\(∀ g∈Z.take i, ∃ e,lk C g=some e)/\∀ g e,lk C g=some e->e≠J/\∃ I,TDk K H H' I e/\TTd q [g] I) ⟨Nat.zero_le _,none,[],[],rfl,S5,e5,rfl,Nat.le_refl _,(fun g j=>by simp at j),fun g e h=>by cases h⟩ (fun i σ H' z=>by obtain ⟨_,_,_,_,_,z,_⟩:=z;exact (hF.same (m.trans (U.trans S4))).same z) ?_ ?_⟩
 ·rintro i y σ H6 hy ⟨hi,v4,C,kc,rfl,S6,B,u,b5,D,R⟩ N0 c2;rw [List.getElem?_map] at hy;obtain ⟨g,a1,rfl⟩:=Option.map_eq_some_iff.mp hy;have li:=(List.getElem?_eq_some_iff.mp a1).1;have b0:Z.take (i+1)=Z.take i++[g]:=by rw [take_succ,a1];rfl
  have d6:=u.len;have a0:Same H2 H6:=U.trans (S4.trans S6);nofun;refine ⟨by show 1<=sizeLine;ac_nf,?_⟩;rename_i gl d0 c7 H6 H7 S7 e7;nofun;obtain ⟨c3,b2,b7⟩:=((G.same a0).same S7).ex;nofun;refine ⟨sL,gl,c3,ssD q,[g],_,rfl,b2,b7,SqL.of e7,by show 1<=8;decide,Jiz S G.bb j.pot,b4,fun s X=>?_,fun e kt I P H8 S8 r e8 b9 hP hB a8 c0=>?_⟩
  ·obtain ⟨s',c1,rfl⟩:=mem_map.mp X;exact j.fb s' c1
  have hP:P=lsD q [g]:=hP;subst hP;have O:=S7.trans S8;have a3:=O _ _ B;have a4:e≠J:=fun z=>by rw [z,S7 _ _ B] at r;cases r
  have a9:Same H H7:=m.trans (a0.trans S7);nofun;refine ⟨J,_,rfl,DPut.k (k:=Sum.inr g) a3 ∅,?_⟩;generalize u9:upd H8 J _=H9;nofun;have e9:=putE u9;have a5:∀ I e,e≠J->TDk K H H8 I e->TDk K H H9 I e:=fun I e n ⟨kt,h1,h2,h3⟩=>⟨kt,by rw [<- u9,Jai n];exact h1,h2.mono fun _ _ z=>z.putL u9 a3,h3⟩;refine c2 _ _ ⟨li,_,pu C g e,_,rfl,fun c w h=>by rw [<- u9,Jai (Jag h L)];exact O _ _ (S6 _ _ h),e9,u.put rfl,by have:=JdZ (l:=C) (f:=g) (a:=e);ac_nf,fun f W=>?_,fun f t o=>?_⟩
  ·rw [b0] at W;rw [lk_pu];by_cases c:g=f
   ·exact ⟨_,if_pos c⟩
   ·rw [if_neg c];nofun;rcases mem_append.mp W with W | W
    ·exact D f W
    ·exact absurd (mem_singleton.mp W).symm c
  ·rw [lk_pu] at o;by_cases c:g=f
   ·rw [if_pos c] at o;cases o;subst c;exact ⟨a4,I,a5 _ _ a4 (TDk.base a9 ⟨kt,e8,b9,r⟩),⟨S,G.bb,c0,a8,hB⟩⟩
   ·rw [if_neg c] at o;obtain ⟨n,b6,h1,h2⟩:=R f t o;exact ⟨n,b6,a5 _ _ n (h1.same O),h2⟩
 ·rintro σ H6 ⟨hi,v4,C,kc,rfl,S6,B,u,b5,D,R⟩;rw [take_of_length_le (by rw [length_map];exact Nat.le_refl _)] at D;nofun;exact k J C kc H6 (m.trans (U.trans (S4.trans S6))) B u D fun g e h=>(R g e h).2
abbrev Ba3:Stmt:=inClass (top 46) 10
theorem Jgn:Jan ["self","one","other"] ["self","one","other"] (Jad Ba3):=by bv_decide
def Jce (K:W.Frag) (Ad:Adr):Sp:=fun vs H Q E=>∃ (p d:Addr) (ts:List TD) (F:List Str) (x:Str->Rat) (one other:Str),vs=[.ref p, .str one, .str other]/\BK K Ad H p d ts/\BkG ts F x/\(∃ t∈ts,one=t.st\/one=t.en)/\(∃ t∈ts,other=t.st\/other=t.en)/\∀ (q:Addr) (vl vg:V) (tb1 tb2:Tab) (H':Hp),Same H H'->H' q=some (.tup [vl,vg])->TTd ts [one] tb1->TTd ts [other] tb2->BV K H' ((lk tb2 one).map fun e=>subF (0,1) e.1) vl->BV K H' ((lk tb1 other).map (·.1)) vg->Q (.ref q) H'
theorem Jga (F:FunD K "gap" "Book.gap" Ba3 dV f fd) (T:Txt K mg Ad) (m_check_faces:MCal P w K mg base 3 "check_faces" (JaS Ad) ["self","one","other"] (JaV K Ad)) (m_chains_of:MCal P w K mg base 7 "chains_of" (JaS Ad) ["self","faces"] (Jbt K Ad)) (Bbj:Cal P w K mg base 4 "gap_between" ["chains","one","other"] [] (JbY K Ad)):FnOk P w K mg base (CX1 P w) 8 f fd ["self","one","other"] (Jce K Ad):=by
 refine F.okx Jgn (fun vs H Q E h=>?_) (fun U A o s H vs Q E r h=>?_)
 ·obtain ⟨p,d,u,F,x,one,other,rfl,_⟩:=h;rfl
 obtain ⟨p,d,u,F,x,one,other,rfl,h⟩:=h;refine ⟨_,(Jab (Ja0 (m_check_faces.m r ⋯ pass1 (pv 0) (Jaa (pv 1) (Jaa (pv 2) Jac))))
   (Jaf (Jam (Bbj.ev r ⋯ rfl pass1 (Jaa (m_chains_of.m r ⋯ pass1 (pv 0) (Jaa (Jby (Jaa (pv 1) (Jaa (pv 2) Jac))) Jac)) (Jaa (pv 1) (Jaa (pv 2) Jac))) (he:=by exact Jah rfl))))),?_⟩
 obtain ⟨t,a,X,h2,k⟩:=h;obtain ⟨⟨I,J⟩,_⟩:=id t;have sl:(1000:Nat)<=sizeLine:=by decide
 show tSeq _ _ _ [some (.ref p),some (.str one),some (.str other)] H;nofun;refine ⟨p,_,I,_,rfl,J,rfl,rfl,?_⟩;nofun;refine ⟨p,d,u,F,one,other,rfl,t,a.l35,a.f8,a.fm,X,h2,fun M C=>?_⟩
 (try ((with_reducible refine Nxt.go (by assumption) ?_);nofun))
 nofun;refine ⟨p,_,I,_,rfl,C _ _ J,rfl,rfl,?_⟩;nofun;refine ⟨len2,?_⟩;rename_i fl B G M H2 S N;nofun;have g:=C.trans S;nofun;refine ⟨p,d,u,F,x,fl,[one,other],rfl,t.same g,a,SqL.of N,(show 2<=8 by decide),fun cd cb kc H3 Y O hC i c=>?_⟩;obtain ⟨y,b⟩:=i one (by simp);obtain ⟨D,j⟩:=i other (by simp);obtain ⟨l,V,z⟩:=c one y b;obtain ⟨n,d2,L⟩:=c other D j;nofun;refine ⟨cd,one,other,cb,kc,l,n,y,D,H2,rfl,O,hC,b,j,V,d2,fun v e h=>z.fb a.fb a.l70 h,fun v e h=>L.fb a.fb a.l70 h,fun q vl vg H4 R W b1 Z=>?_⟩;nofun;exact k q vl vg l n H4 (g.trans (Y.trans R)) W z L b1 Z
abbrev Bao:Stmt:=inClass (top 46) 11
theorem Jbf:Jan ["self","one","other","steps","places","told"] ["self","one","other"] (Jad Bao):=by bv_decide
def JbB (K:W.Frag) (Ad:Adr):Sp:=fun vs H Q E=>∃ (p d:Addr) (ts:List TD) (F:List Str) (x:Str->Rat) (one other:Str),vs=[.ref p, .str one, .str other]/\BK K Ad H p d ts/\BkG ts F x/\(∀ H' tb,Same H H'->TTd ts [one] tb->lk tb other=none->Q .non H')/\∀ (q:Addr) (tb:Tab) (e:(Int × Int) × List SpS) (tb0:Tab) (out:List Str) (H':Hp),Same H H'->TTd ts [one] tb->lk tb other=some e->Jbz ts out->TTd ts out tb0->ShV K H H' e (stD ts (fun v=>(lk tb v).map (·.1)) (fun v=>(lk tb0 v).map (·.1)) out) q->Q (.ref q) H'
theorem Jdp (F:FunD K "farthest" "Book.farthest" Bao dV f fd) (T:Txt K mg Ad) (m_kept:MCal P w K mg base 1 "kept" (JaS Ad) ["self"] (Jbi K Ad)) (m_faces:MCal P w K mg base 2 "faces" (JaS Ad) ["self"] (Jbm K Ad)) (Ba2:Cal P w K mg base 6 "steps_of" ["ties"] [] (Jcl K Ad)) (BaS:Cal P w K mg base 4 "places_of" ["steps","faces"] [] (JbU K Ad)) (Bah:Cal P w K mg base 3 "chains_from" ["steps","starts"] [] (Jbd K Ad)) (BaB:Cal P w K mg base 3 "stretched_placing" ["steps","reached_chains","places"] [] (Ja9 K Ad)):FnOk P w K mg base (CX1 P w) 7 f fd ["self","one","other"] (JbB K Ad):=by
 refine F.okx Jbf (fun vs H Q E h=>?_) (fun c9 A b5 s H vs Q E L h=>?_)
 ·obtain ⟨p,d,n,F,x,one,other,rfl,_⟩:=h;rfl
 obtain ⟨p,d,n,F,x,one,other,rfl,h⟩:=h;have hu:=L.units;refine ⟨_,(Jab (Jaj (i:=3) Jbf.nd rfl (Or.inl rfl) (Ba2.ev L ⋯ rfl pass1 (Jaa (m_kept.m0 L ⋯ pass1 (pv 0)) Jac) (he:=by exact Jah rfl)))
   (Jab (Jaj (i:=4) Jbf.nd rfl (Or.inl rfl) (BaS.ev L ⋯ rfl pass1 (Jaa (pv 3) (Jaa (m_faces.m0 L ⋯ pass1 (pv 0)) Jac)) (he:=by exact Jah rfl)))
   (Jab (Jaj (i:=5) Jbf.nd rfl (Or.inl rfl) (Bah.ev L ⋯ rfl pass1 (Jaa (pv 3) (Jaa (Jby (Jaa (pv 1) Jac)) Jac)) (he:=by exact Jah rfl)))
   (Jab (ps_if (Jcs (Jcp (hu1 hu) (pv 2) (pv 5)) (by with_unfolding_all rfl))
   (Jaf (Jam JaM))
   Jap)
   (Jaf (Jam (JaE (Jaa (pe_ix ix_U (JaO (hu1 hu) (pv 5) (pv 2) (fun _ _=>rfl)) Jae (fun _ _=>rfl)) (Jaa (pe_ix ix_U (JaO (hu1 hu) (pv 5) (pv 2) (fun _ _=>rfl)) Jae (fun _ _=>rfl)) (Jaa (BaB.ev L ⋯ rfl pass1 (Jaa (pv 3) (Jaa (pv 5) (Jaa (pv 4) Jac))) (he:=by exact Jah rfl)) Jac)))))))))),?_⟩
 clear hu;obtain ⟨hb,c,k0,k⟩:=h;obtain ⟨⟨dx,hp⟩,_⟩:=id hb;have sl:(1000:Nat)<=sizeLine:=by decide
 have b0:(ssD n).length<=70:=by unfold ssD;rw [length_map];exact c.l70
 show tSeq _ _ _ [some (.ref p),some (.str one),some (.str other),none,none,none] H;nofun;refine ⟨p,_,dx,_,rfl,hp,rfl,rfl,?_⟩;nofun;refine ⟨p,d,n,rfl,hb,fun l ys H1 S1 c7 e1 hA=>?_⟩;nofun;refine ⟨l,ys,n,rfl,SqL.of e1,hA,c.ok,fun s u=>(c.fb s u).mono ⋯ ⋯,c.l35,fun sL sx b H2 S2 e2 G J c8 a9 a3=>?_⟩;have G:b=bD_ n:=G;subst G;have r:STp K Ad H2 n sL:=⟨⟨sx,SqL.of e2,Jgv a3⟩,J,fun s u=>⟨(c.fb s u).b1,a9 s u⟩⟩;have D:=S1.trans S2
 (try ((with_reducible refine Nxt.go (by assumption) ?_);nofun))
 nofun;refine ⟨p,_,dx,_,rfl,D _ _ hp,rfl,rfl,?_⟩;nofun;refine ⟨p,d,n,F,rfl,hb.same D,c.l35,c.f8,c.fm,fun fl j H3 S3 c2 e3 g=>?_⟩;have V:j.length<=8:=by
  have:=sub_len j F g.1 fun z hz=>by
   obtain ⟨t,m,h | h⟩:=(g.2.2 z).mp hz
   ·rw [h];exact (c.fm t m).1
   ·rw [h];exact (c.fm t m).2
  have:=c.f8;ac_nf
 nofun;refine ⟨sL,fl,n,F,x,j,rfl,r.same S3,c,SqL.of e3,V,fun pd kp O Z H4 S4 c5 e4 b7 X o b6=>?_⟩
 (try ((with_reducible refine Nxt.go (by assumption) ?_);nofun))
 nofun;refine ⟨by show 1<=sizeLine;ac_nf,?_⟩;rename_i gl c6 c4 H4 H5 S5 e5;nofun;have S:=S3.trans (S4.trans S5);have a2:=D.trans S;obtain ⟨b9,a8,b3⟩:=(r.same S).ex;nofun;refine ⟨sL,gl,b9,ssD n,[one],_,rfl,a8,b3,SqL.of e5,by show 1<=8;decide,Jiz J r.bb c.pot,b0,fun s u=>?_,fun td kt Y P H6 S6 a0 e6 I hP hB a6 c0=>?_⟩
 ·obtain ⟨s',b8,rfl⟩:=mem_map.mp u;exact c.fb s' b8
 have hP:P=lsD n [one]:=hP;subst hP;have m:TTd n [one] Y:=⟨J,r.bb,c0,a6,hB⟩;have R:=a2.trans S6
 (try ((with_reducible refine Nxt.go (by assumption) ?_);nofun))
 nofun;refine ⟨td,_,rfl,DGet.k (k:=Sum.inr other) e6,?_⟩;cases ea:lk Y other with
 | none=>
  rw [I.no ea];try simpa only [Option.isSome_none]
  exact k0 H6 Y R m ea
 | some e=>
  obtain ⟨va,C,q,qv,lc,cx,rfl,hq,b2,a7,a4,a5⟩:=I.at ea;rw [C];try simpa only [Option.isSome_some]
  (try ((with_reducible refine Nxt.go (by assumption) ?_);nofun))
  nofun;refine ⟨td, .ref q,rfl,by rw [<- C];exact DGet.k (k:=Sum.inr other) e6,?_⟩;nofun;refine ixT (i:=0) hq rfl ?_;nofun;refine ⟨td, .ref q,rfl,by rw [<- C];exact DGet.k (k:=Sum.inr other) e6,?_⟩;nofun;refine ixT (i:=1) hq rfl ?_;nofun;have M:lk Z=fun v=>(lk O v).map (·.1):=funext b6;have N:∀ v,(∃ e,lk Z v=some e)↔v∈j:=fun v=>by
   rw [M];show (∃ e,(lk O v).map _=some e)↔_;constructor
   ·rintro ⟨e,he⟩;obtain ⟨a,h1,_⟩:=Option.map_eq_some_iff.mp he;rcases (o.ks v).mp ⟨a,h1⟩ with h | ⟨s,u⟩
    ·exact h
    ·obtain ⟨_,_,_,_,h3,_⟩:=o.be.ex;obtain ⟨m1,m2,_⟩:=h3 v s u;obtain ⟨y,hy,rfl⟩:=mem_map.mp m1;have:=(JdT (F:=j) (fun t m=>⟨(g.2.2 _).mpr ⟨t,m, .inl rfl⟩,(g.2.2 _).mpr ⟨t,m, .inr rfl⟩⟩) y hy).2;rw [<- m2];exact this
   ·intro hv;obtain ⟨a,h1⟩:=(o.ks v).mpr (.inl hv);exact ⟨a.1,by rw [h1];rfl⟩
  have a1:=S5.trans S6;have b4:Z.length<64:=by
   have:=sub_len (Z.map (·.1)) j X fun z hz=>(N z).mp (JdR hz);rw [length_map] at this;ac_nf
  refine ⟨sL,td,pd,n,Y,Z,H5,rfl,(r.same S).same S6,⟨kt,e6,I,a0⟩,⟨kp,a1 _ _ e4,b7.mono fun _ _ z=>FrV.same a1 z⟩,c.fb,fun v e h=>m.fb c.fb c.l70 h,fun v e h=>?_,fun s u=>?_,b4,fun zl zs o2 H7 S7 W e7 U hQ=>?_⟩
  ·rw [M] at h;obtain ⟨a,h1,h2⟩:=Option.map_eq_some_iff.mp h;rw [<- h2];exact o.fb c.fb c.l70 h1
  ·exact (N s.src).mpr (JdT (F:=j) (fun t m=>⟨(g.2.2 _).mpr ⟨t,m, .inl rfl⟩,(g.2.2 _).mpr ⟨t,m, .inr rfl⟩⟩) s u).1
  have eo:o2=j:=JfO U.2 g.2.1 (U.1.nodup_iff.mpr X) g.1 fun z=>by
   rw [U.1.mem_iff, <- N z];exact ⟨JdR,fun ⟨e,he⟩=>JgQ he⟩
  subst eo;rw [M] at hQ;nofun;refine ⟨by show 3<=sizeLine;ac_nf,?_⟩;rename_i rq c1 c3 H7 H8 S8 e8;nofun;have B:=S7.trans S8;exact k rq Y e O o2 H8 (R.trans B) m ea g o ⟨qv,lc,cx,zl,zs,e8,b2.same B,B _ _ a7,a4.mono (fun _ _ z=>z.sameT B.t),Jbh a2 a5,S8 _ _ e7,hQ.mono (fun _ _ z=>z.sameT S8.t),Jbh R W⟩
abbrev BaF:Stmt:=inClass (top 46) 12
theorem JcY:Jan ["self","one","other","most","found"] ["self","one","other","most"] (Jad BaF):=by bv_decide
def Ja6 (K:W.Frag) (Ad:Adr):Sp:=fun vs H Q E=>∃ (p d:Addr) (ts:List TD) (F:List Str) (x:Str->Rat) (one other:Str) (most:Bool),vs=[.ref p, .str one, .str other, .bl most]/\BK K Ad H p d ts/\BkG ts F x/\(∃ t∈ts,one=t.st\/one=t.en)/\(∃ t∈ts,other=t.st\/other=t.en)/\(∀ H' tb,Same H H'->TTd ts [if most then one else other] tb->lk tb (if most then other else one)=none->Q .non H')/\∀ (q:Addr) (tb:Tab) (e:(Int × Int) × List SpS) (tb0:Tab) (out:List Str) (H':Hp),Same H H'->TTd ts [if most then one else other] tb->lk tb (if most then other else one)=some e->Jbz ts out->TTd ts out tb0->ShV K H H' (if most then e.1 else subF (0,1) e.1,e.2) (stD ts (fun v=>(lk tb v).map (·.1)) (fun v=>(lk tb0 v).map (·.1)) out) q->Q (.ref q) H'
theorem JeR (F:FunD K "shown" "Book.shown" BaF dV f fd) (T:Txt K mg Ad) (m_check_faces:MCal P w K mg base 3 "check_faces" (JaS Ad) ["self","one","other"] (JaV K Ad)) (m_farthest:MCal P w K mg base 7 "farthest" (JaS Ad) ["self","one","other"] (JbB K Ad)) (Bbh:Cal P w K mg base 3 "minus" ["one","other"] [] (Jc0 K)):FnOk P w K mg base (CX1 P w) 8 f fd ["self","one","other","most"] (Ja6 K Ad):=by
 refine F.okx JcY (fun vs H Q E h=>?_) (fun b0 A S s H vs Q E C h=>?_)
 ·obtain ⟨p,d,G,F,x,one,other,most,rfl,_⟩:=h;rfl
 obtain ⟨p,d,G,F,x,one,other,most,rfl,h⟩:=h;refine ⟨_,(Jab (Ja0 (m_check_faces.m C ⋯ pass1 (pv 0) (Jaa (pv 1) (Jaa (pv 2) Jac))))
   (Jab (ps_if (Jbb (pv 3))
   (Jaf (Jam (m_farthest.m C ⋯ pass1 (pv 0) (Jaa (pv 1) (Jaa (pv 2) Jac)))))
   Jap)
   (Jab (Jaj (i:=4) JcY.nd rfl (Or.inl rfl) (m_farthest.m C ⋯ pass1 (pv 0) (Jaa (pv 2) (Jaa (pv 1) Jac))))
   (Jab (ps_if (Jaq Jbq (pv 4) JaM (Jas _))
   (Jaf (Jam JaM))
   Jap)
   (Jaf (Jam (JaE (Jaa (Bbh.ev C ⋯ rfl pass1 (Jaa (Jdd (v:=.ref _) rfl T.Bca T.Bcb) (Jaa (pe_ix ix_U (pv 4) Jae (fun _ _=>rfl)) Jac)) (he:=by exact Jah rfl)) (Jaa (pe_ix ix_U (pv 4) Jae (fun _ _=>rfl)) (Jaa (pe_ix ix_U (pv 4) Jae (fun _ _=>rfl)) Jac)))))))))),?_⟩
 obtain ⟨D,j,h1,h2,k0,k⟩:=h;obtain ⟨⟨Y,hp⟩,_⟩:=id D;have sl:(1000:Nat)<=sizeLine:=by decide
 show tSeq _ _ _ [some (.ref p),some (.str one),some (.str other),some (.bl most),none] H;nofun;refine ⟨p,_,Y,_,rfl,hp,rfl,rfl,?_⟩;nofun;refine ⟨p,d,G,F,one,other,rfl,D,j.l35,j.f8,j.fm,h1,h2,fun H1 a=>?_⟩
 (try ((with_reducible refine Nxt.go (by assumption) ?_);nofun))
 nofun;cases most with
 | true=>
  nofun;refine ⟨p,_,Y,_,rfl,a _ _ hp,rfl,rfl,?_⟩;nofun;refine ⟨p,d,G,F,x,one,other,rfl,D.same a,j,fun y o n g W=>?_,fun q o e r u y n g he hf U hs=>?_⟩
  ·nofun;exact k0 y o (a.trans n) g W
  ·nofun;obtain ⟨I,l,J,L,zs,B,M,R,a4,Z,V,O,X⟩:=hs;exact k q o e r u y (a.trans n) g he hf U ⟨I,l,J,L,zs,B,M,R,a4,Jbh a Z,V,O,Jbh a X⟩
 | false=>
  nofun
  (try ((with_reducible refine Nxt.go (by assumption) ?_);nofun))
  nofun;refine ⟨p,_,Y,_,rfl,a _ _ hp,rfl,rfl,?_⟩;nofun;refine ⟨p,d,G,F,x,other,one,rfl,D.same a,j,fun y o n g W=>?_,fun q o e r u y n g he hf U hs=>?_⟩
  ·have u_:=trivial
   (try ((with_reducible refine Nxt.go (by assumption) ?_);nofun))
   nofun;exact k0 y o (a.trans n) g W
  ·have u_:=trivial
   (try ((with_reducible refine Nxt.go (by assumption) ?_);nofun))
   nofun;obtain ⟨I,l,J,L,zs,B,M,R,a4,Z,V,O,X⟩:=hs;have c:=g.fb j.fb j.l70 he
   (try ((with_reducible refine Nxt.go (by assumption) ?_);nofun))
   nofun;refine ixT (i:=0) (SqT.of B) rfl ?_;nofun;refine ⟨.ref Ad.ZERO,I,0,1,e.1.1,e.1.2,rfl,⟨Ad.ZERO,rfl,T.Bb6 _⟩,M, .lit ⋯ ⋯, .lit ⋯ ⋯,c.s1.mono ⋯,c.s2.mono ⋯,by decide,c.b1,by decide,c.g1,fun mp H3 N e3=>?_⟩;nofun;refine ixT (i:=1) (SqT.of (N _ _ B)) rfl ?_;nofun;refine ixT (i:=2) (SqT.of (N _ _ B)) rfl ?_;nofun;refine ⟨by show 3<=sizeLine;ac_nf,?_⟩;rename_i rq a0 a9 H3 H4 S4 e4;nofun;have b:=N.trans S4;exact k rq o e r u H4 (a.trans (n.trans b)) g he hf U ⟨.ref mp,l,J,L,zs,e4,⟨mp,rfl,SqT.of (S4 _ _ e3)⟩,b _ _ R,a4.mono (fun _ _ z=>z.sameT b.t),Jbh a Z,b _ _ V,O.mono (fun _ _ z=>z.sameT b.t),Jbh a X⟩
abbrev Baz:Stmt:=top 49
theorem Jbv:Jan ["_law_one","_law_other"] ["_law_one","_law_other"] (Jad Baz):=by bv_decide
def Jb0  : Sp:=fun vs H Q E=>∃ (a b:Int),vs=[.int a, .int b]/\Q (.int (Mth.g a b)) H
theorem Jeg (F:FunD K "_law_divisor" "_law_divisor" Baz dV f fd) (T:Txt K mg Ad)  : FnOk P w K mg base (CX1 P w) 1 f fd ["_law_one","_law_other"] (Jb0):=by
 refine F.okn Jbv (by subst_eqs) (fun n A d s H o Q E t h=>?_)
 obtain ⟨a,b,rfl,h⟩:=h;refine ⟨_,(Jab (Jaj (i:=0) Jbv.nd rfl (Or.inl rfl) (Jat JcT rfl T.Bcd JgD (Jaa (pv 0) Jac)))
   (Jab (Jaj (i:=1) Jbv.nd rfl (Or.inl rfl) (Jat JcT rfl T.Bcd JgD (Jaa (pv 1) Jac)))
   (Jab (JeZ PassesOwn.never (Jaq JgW (pv 1) Jae (Jas _))
   (Jaf (Jk9 (i:=0) (j:=1) rfl Jbv.nd rfl rfl ⋯ rfl rfl (Jaa (pv 1) (Jaa (pe_op JaD (pv 0) (pv 1)) Jac)) rfl)))
   (Jaf (Jam (pv 0)))))),?_⟩
 show tSeq _ _ _ [some (.int a),some (.int b)] H;try infer_instance
 refine ⟨fun m σ l=>∃ (x y:Int),σ=[some (.int x),some (.int y)]/\l=H/\0<=x/\0<=y/\Mth.g x y=Mth.g a b/\y.toNat=m,⟨_,_,_,rfl,rfl,Mth.Jgz a,Mth.Jgz b,Mth.Bck a b,rfl⟩,?_⟩;rintro m σ l ⟨x,y,rfl,rfl,r,p,k,rfl⟩;try infer_instance
 by_cases c:y=0
 ·subst c;rw [if_neg (by simp)];have e:Mth.g a b=x:=by rw [<- k,Mth.Jjv];ac_nf
  rw [e] at h;exact h
 ·rw [if_pos (by simp;ac_nf)];have f:=Mth.fm (x:=x) (y:=y) ∅;refine ⟨_,fun _ _ q=>q,?_⟩;simp only [tPar,y85y,y4fy,y50y,y51y,y74y,y2by,y6fy,y82y,y83y,y47y,y2ey,y7by,y95y,y30y,y3cy,y75y,y2fy,y8by,y23y,y29y,y7cy,y77y,y2ay,y7dy,y79y,y5dy,y97y,y26y,y89y,y73y,y6cy,y4cy,y6by,y80y,y33y,y4ay,y71y,y4by,y72y,y49y,y70y,y90y,y67y,y63y,y92y,y94y,y91y,y93y,y25y,y6ay,y24y,true_and,if_true,if_false,Bool.not_true,Bool.not_false,Bool.false_eq_true,yby,ydy,yay,ycy,yey,y15y,y17y,y14y,y16y,y18y,y6y,y8y,y5y,y7y,y9y,y1y,y3y,y0y,y2y,y4y,y10y,y12y,yfy,y11y,y13y,y1ay,y1cy,y19y,y1by,y1dy,y1fy,y21y,y1ey,y20y,y22y,y87y,y7fy,y76y,y58y,y5ay,y31y,y32y,y57y,y65y,y66y,y4ey,y88y,y8ey,y98y,y81y,y27y,V.int.injEq,V.str.injEq,List.set_cons_zero,List.set_cons_succ,List.getElem?_cons_zero,List.getElem?_cons_succ,Option.some.injEq,exists_eq_left,exists_eq_left',V.bl.injEq,Int.reduceToNat,Int.reducePow,append_nil,nil_append,cons_append];exact ⟨c,_,_,rfl,(x.fmod y).toNat,by ac_nf,y,x.fmod y,rfl,p,f.1,by rw [Mth.JhV ∅];exact k,rfl⟩
abbrev BaA:Stmt:=top 48
theorem Jek:Jan ["_law_script","_law_k"] ["_law_script","_law_k"] (Jad BaA):=by bv_decide
def Jbw (K:W.Frag):Sp:=fun vs H Q E=>∃ (a:Addr) (ns:List Int) (k:Int),vs=[.ref a, .int k]/\SqL K H a (ns.map V.int)/\ns.length<=63/\0<=k/\∀ v:Int,Q (.int v) H
theorem Jef (F:FunD K "_law_cell_at" "_law_cell_at" BaA dV f fd) (T:Txt K mg Ad)  : FnOk P w K mg base (CX1 P w) 1 f fd ["_law_script","_law_k"] (Jbw K):=by
 refine F.okn Jek (by subst_eqs) (fun g A b s H j Q E m h=>?_)
 obtain ⟨a,d,k,rfl,h⟩:=h;refine ⟨_,(Jab (ps_if (Jaq Jfz (pv 1) (Jat JaG rfl T.BbC JbE (Jaa (pv 0) Jac)) (Jas _))
   (Jaf (Jam (pe_ix ix_U (pv 0) (pv 1) (fun _ _=>rfl))))
   Jap)
   (Jaf (Jam Jae))),?_⟩
 obtain ⟨e,l,i,q⟩:=h;show tSeq _ _ _ [some (.ref a),some (.int k)] H;try infer_instance
 refine ⟨_, .inl e,?_⟩;simpa only [length_map];obtain ⟨n,rfl⟩:=Int.eq_ofNat_of_zero_le i;by_cases c:n<d.length
 ·rw [if_pos (by simp;ac_nf)];try infer_instance
  exact ixL e (by rw [List.getElem?_map,List.getElem?_eq_getElem c];rfl) (q _)
 ·rw [if_neg (by simp;ac_nf)];try infer_instance
  exact q 0
abbrev BaG:Stmt:=top 50
theorem JcZ:Jan ["_law_top","_law_bottom","_law_by"] ["_law_top","_law_bottom"] (Jad BaG):=by bv_decide
def JbH  : Sp:=fun vs H Q E=>∃ (t b:Int),vs=[.int t, .int b]/\1<=b/\Mth.Sz 8000 b/\∀ p H',Same H H'->H' p=some (.tup [.int (Mth.top t b), .int (Mth.bot t b)])->Q (.ref p) H'
theorem JeU (F:FunD K "_law_lowest" "_law_lowest" BaG dV f fd) (T:Txt K mg Ad) (Bbk:Cal P w K mg base 1 "_law_divisor" ["_law_one","_law_other"] [] (Jb0)):FnOk P w K mg base (CX1 P w) 2 f fd ["_law_top","_law_bottom"] (JbH):=by
 refine F.okn JcZ (by subst_eqs) (fun j A c s H l Q E m h=>?_)
 obtain ⟨t,b,rfl,h⟩:=h;refine ⟨_,(Jab (Jaj (i:=2) JcZ.nd rfl (Or.inl rfl) (Bbk.ev m ⋯ rfl passF (Jaa (pv 0) (Jaa (pv 1) Jac)) (he:=by exact Jah rfl)))
   (Jaf (Jam (JaE (Jaa (pe_op Jav (pv 0) (pv 2)) (Jaa (pe_op Jav (pv 1) (pv 2)) Jac)))))),?_⟩
 obtain ⟨u,q,k⟩:=h;show tSeq _ _ _ [some (.int t),some (.int b),none] H;try infer_instance
 refine ⟨_,_,rfl,?_⟩;try infer_instance
 have r:=Mth.g_pos (a:=t) (b:=b) ∅;have v:=Mth.g_le (a:=t) (b:=b) ∅;have d:DivOk (Mth.g t b):=divOk (n:=8000) ∅ (Nat.lt_of_le_of_lt (by ac_nf:(Mth.g t b).natAbs<=b.natAbs) q);refine ⟨d,d,len2,?_⟩;refine Jf9 fun p e S o=>k p e S ?_;rw [o];unfold Mth.top Mth.bot Mth.by_;rw [if_neg ∅]
abbrev Ba4:Stmt:=top 51
theorem Jgr:Jan ["_law_one","_law_other"] ["_law_one","_law_other"] (Jad Ba4):=by bv_decide
def JbO (K:W.Frag):Sp:=fun vs H Q E=>∃ (x y:V) (a c:Int × Int),vs=[x,y]/\FrV K H x a.1 a.2/\FrV K H y c.1 c.2/\FW 3000 3000 a/\FW 3000 3000 c/\∀ p H',Same H H'->H' p=some (.tup [.int (addF a c).1, .int (addF a c).2])->Q (.ref p) H'
theorem Jgf (F:FunD K "_law_plus" "_law_plus" Ba4 dV f fd) (T:Txt K mg Ad) (BaH:Cal P w K mg base 2 "_law_lowest" ["_law_top","_law_bottom"] [] (JbH)):FnOk P w K mg base (CX1 P w) 3 f fd ["_law_one","_law_other"] (JbO K):=by
 refine F.okn Jgr (by subst_eqs) (fun m A i s H n Q E o h=>?_)
 obtain ⟨x,y,a,c,rfl,h⟩:=h;refine ⟨_,(Jaf (Jam (BaH.ev o ⋯ rfl passF (Jaa (pe_op JaZ (pe_op Ja8 (pe_ix ix_U (pv 0) Jae (fun _ _=>rfl)) (pe_ix ix_U (pv 1) Jae (fun _ _=>rfl))) (pe_op Ja8 (pe_ix ix_U (pv 1) Jae (fun _ _=>rfl)) (pe_ix ix_U (pv 0) Jae (fun _ _=>rfl)))) (Jaa (pe_op Ja8 (pe_ix ix_U (pv 0) Jae (fun _ _=>rfl)) (pe_ix ix_U (pv 1) Jae (fun _ _=>rfl))) Jac)) (he:=by exact Jah rfl)))),?_⟩;obtain ⟨g,j,d,b,k⟩:=h;show tRet _ _ [some x,some y] H;try infer_instance
 refine ixF0 g (ixF1 j ?_);try infer_instance
 refine ⟨mulOk d.s1 b.s2,ixF0 j (ixF1 g ?_)⟩;try infer_instance
 refine ⟨mulOk b.s1 d.s2,ixF1 g (ixF1 j ?_)⟩;try infer_instance
 refine ⟨mulOk d.s2 b.s2,_,_,rfl,?_,(d.s2.mul b.s2).mono ⋯,fun p l S e=>k p l S e⟩;have:=Int.mul_pos (show 0<a.2 by have:=d.b1;ac_nf) (show 0<c.2 by have:=b.b1;ac_nf);ac_nf
abbrev BaT:Stmt:=top 52
theorem JfM:Jan ["_law_one","_law_other"] ["_law_one","_law_other"] (Jad BaT):=by bv_decide
def Jbj (K:W.Frag):Sp:=fun vs H Q E=>∃ (x y:V) (a c:Int × Int),vs=[x,y]/\FrV K H x a.1 a.2/\FrV K H y c.1 c.2/\FW 3000 3000 a/\FW 3000 3000 c/\∀ p H',Same H H'->H' p=some (.tup [.int (addF a (negF c)).1, .int (addF a (negF c)).2])->Q (.ref p) H'
theorem Jfw (F:FunD K "_law_minus" "_law_minus" BaT dV f fd) (T:Txt K mg Ad) (Bas:Cal P w K mg base 3 "_law_plus" ["_law_one","_law_other"] [] (JbO K)):FnOk P w K mg base (CX1 P w) 4 f fd ["_law_one","_law_other"] (Jbj K):=by
 refine F.okn JfM (by subst_eqs) (fun n A d s H t Q E u h=>?_)
 obtain ⟨x,y,a,c,rfl,h⟩:=h;refine ⟨_,(Jaf (Jam (Bas.ev u ⋯ rfl passF (Jaa (pv 0) (Jaa (JaE (Jaa (pe_un Jd7 (pe_ix ix_U (pv 1) Jae (fun _ _=>rfl))) (Jaa (pe_ix ix_U (pv 1) Jae (fun _ _=>rfl)) Jac))) Jac)) (he:=by exact Jah rfl)))),?_⟩;obtain ⟨o,g,v,b,k⟩:=h;show tRet _ _ [some x,some y] H;try infer_instance
 refine ixF0 g ?_;try infer_instance
 refine ixF1 g ?_;try infer_instance
 refine ⟨len2,?_⟩;rename_i p l z H B e j;refine ⟨_,_,a,negF c,rfl,o.same e,FrV.of j,v,⟨?_,b.s2,b.b1⟩,fun q r m i=>k q r (e.trans m) i⟩;have:=b.s1;unfold Mth.Sz at this ⊢;unfold negF;rw [Int.natAbs_neg];exact this
abbrev Ba5:Stmt:=top 53
theorem Jgq:Jan ["_law_one","_law_other"] ["_law_one","_law_other"] (Jad Ba5):=by bv_decide
def Jch (K:W.Frag):Sp:=fun vs H Q E=>∃ (x y:V) (a c:Int × Int),vs=[x,y]/\FrV K H x a.1 a.2/\FrV K H y c.1 c.2/\FOk 3000 a/\FOk 3000 c/\Q (.bl (lessF a c)) H
theorem Jge (F:FunD K "_law_less" "_law_less" Ba5 dV f fd) (T:Txt K mg Ad)  : FnOk P w K mg base (CX1 P w) 1 f fd ["_law_one","_law_other"] (Jch K):=by
 refine F.okn Jgq (by subst_eqs) (fun j A b s H l Q E m h=>?_)
 obtain ⟨x,y,a,c,rfl,h⟩:=h;refine ⟨_,(Jaf (Jam (Jbl Jfz (pe_op Ja8 (pe_ix ix_U (pv 0) Jae (fun _ _=>rfl)) (pe_ix ix_U (pv 1) Jae (fun _ _=>rfl))) (pe_op Ja8 (pe_ix ix_U (pv 1) Jae (fun _ _=>rfl)) (pe_ix ix_U (pv 0) Jae (fun _ _=>rfl))) (Jas _)))),?_⟩;obtain ⟨e,i,g,d,k⟩:=h;show tRet _ _ [some x,some y] H;try infer_instance
 refine ixF0 e (ixF1 i ?_);try infer_instance
 refine ⟨mulOk g.s1 d.s2,ixF0 i (ixF1 e ?_)⟩;try infer_instance
 refine ⟨mulOk d.s1 g.s2,?_⟩;exact k
abbrev BaI:Stmt:=top 54
theorem JaT:Jan ["_law_script","_law_faces_here","_law_places_here","_law_k","_law_cell","_law_mixed","_law_top"] ["_law_script","_law_faces_here"] (Jad BaI):=by bv_decide
def Jcj (K:W.Frag):Sp:=fun vs H Q E=>∃ (a:Addr) (ns:List Int) (f:Nat),vs=[.ref a, .int (f:Int)]/\SqL K H a (ns.map V.int)/\ns.length<=63/\f<=8/\∀ p ys ls H',H p=none->Same H H'->H' p=some (.lst ys)->All2 (fun (l:Int × Int) x=>FrV K H' x l.1 l.2) ls ys->ls.length=f->(∀ l∈ls,FB 140 3 l)->Q (.ref p) H'
theorem JeW (F:FunD K "_law_places" "_law_places" BaI dV f fd) (T:Txt K mg Ad) (Bad:Cal P w K mg base 1 "_law_cell_at" ["_law_script","_law_k"] [] (Jbw K)) (BaH:Cal P w K mg base 2 "_law_lowest" ["_law_top","_law_bottom"] [] (JbH)):FnOk P w K mg base (CX1 P w) 3 f fd ["_law_script","_law_faces_here"] (Jcj K):=by
 refine F.okn JaT (by subst_eqs) (fun a1 A O s H vs Q E R h=>?_)
 obtain ⟨a,Z,f,rfl,h⟩:=h;have hu:=R.units;refine ⟨_,(Jab (Jaj (i:=2) JaT.nd rfl (Or.inl rfl) (Jby Jac))
   (Jab (Ja7 PassesOwn.never rfl (JcW rfl T.BbS (Jaa (pv 1) Jac)) (Jar (i:=3) JaT.nd rfl (Or.inl rfl))
   (Jab (Jaj (i:=4) JaT.nd rfl (Or.inl rfl) (Bad.ev R ⋯ rfl passF (Jaa (pv 0) (Jaa (pe_op JaZ Jae (pv 3)) Jac)) (he:=by exact Jah rfl)))
   (Jab (Jaj (i:=5) JaT.nd rfl (Or.inl rfl) (pe_op Jav (pe_op JaD (pe_op Ja8 (pv 4) Jae) Jae) Jae))
   (Jab (Jaj (i:=6) JaT.nd rfl (Or.inl rfl) (pe_op JfB (pe_op JaD (pv 5) Jae) Jae))
   (Jab (ps_if (Jaq (Jcn hu) (pe_op JaD (pe_op Jav (pv 5) Jae) Jae) Jae (Jas _))
   (Jaf (Jaj (i:=6) JaT.nd rfl (Or.inl rfl) (pe_op JfB (pe_op JaD (pv 4) (pe_op Jin Jae Jae)) (pe_op Ja8 Jae (pe_op Jin Jae Jae)))))
   Jap)
   (Jaf (Ja0 (pe_bm PySem.F.plainAttrs_list PySem.F.slot_list_append PySem.F.type_list_append JaY (pv 2) (Jaa (BaH.ev R ⋯ rfl passF (Jaa (pv 6) (Jaa (pe_op JaZ Jae (pe_op JaD (pe_op Jav (pv 5) Jae) Jae)) Jac)) (he:=by exact Jah rfl)) Jac) (hs:=by exact Jah rfl)))))))))
   (Jaf (Jam (pv 2))))),?_⟩
 clear hu;obtain ⟨hS,hl,hf,k⟩:=h;show tSeq _ _ _ [some (.ref a),some (.int (f:Int)),none,none,none,none,none] H;try infer_instance
 refine ⟨len0,?_⟩;rename_i r d a0 H H1 S1 e1;have sl:(1000:Nat)<=sizeLine:=by decide
 refine ⟨_,rfl,by ac_nf,by ac_nf,?_⟩;refine ForR.by (fun i σ M=>∃ (N U S X:Option V) (o:List V) (n:List (Int × Int)),σ=[some (.ref a),some (.int (f:Int)),some (.ref r),N,U,S,X]/\Same H M/\M r=some (.lst o)/\All2 (fun (l:Int × Int) x=>FrV K M x l.1 l.2) n o/\n.length=i/\∀ l∈n,FB 140 3 l) ⟨none,none,none,none,[],[],rfl,S1,e1,rfl,rfl,by simp⟩ ?_ ?_
 ·rintro i σ Y hi ⟨N,U,S,X,o,n,rfl,B,m,D,j,I⟩;have ly:=D.length;try infer_instance
  refine ⟨a,Z,_,rfl,hS.same B,hl,by ac_nf,fun c=>?_⟩;try infer_instance
  repeat (refine And.intro (by first | exact Jbn ⋯ | exact Jbp ⋯ | exact Jbo ⋯ | exact JaX ⋯ | exact Int.one_ne_zero | decide) ?_)
  generalize a2:((c*69621).fmod 2147483629).fdiv 37=b;have q1:=Mth.fm (x:=b) (y:=61) ⋯;have q2:=Mth.fm (x:=b.fdiv 244) (y:=6) ⋯;have q5:=Mth.fm (x:=c) (y:=10000000000000000000000000000000000000000) ⋯;by_cases c3:(b.fdiv 61).fmod 4=1
  ·rw [if_pos (by simpa using c3)];try infer_instance
   repeat (refine And.intro (by first | exact Jbn ⋯ | exact Jbp ⋯ | exact Jbo ⋯ | exact JaX ⋯ | exact Int.one_ne_zero | decide) ?_)
   refine ⟨.inl ⟨rfl,_,SqL.of m⟩,?_⟩;try infer_instance
   repeat (refine And.intro (by first | exact Jbn ⋯ | exact Jbp ⋯ | exact Jbo ⋯ | exact JaX ⋯ | exact Int.one_ne_zero | decide) ?_)
   refine ⟨c.fmod 10000000000000000000000000000000000000000-5000000000000000000000000000000000000000,1+(b.fdiv 244).fmod 6,rfl,by ac_nf, .lit ∅ ∅,fun L v g J=>?_⟩;refine ⟨r,_,_,rfl,rfl,g _ _ m,by ac_nf,?_⟩;generalize q:upd v r _=G;have W:=putE q;have e:SameT v G:=SameT.put q (g _ _ m) rfl;refine ⟨_,_,_,_,o++[.ref L],n++[(Mth.top (c.fmod 10000000000000000000000000000000000000000-5000000000000000000000000000000000000000) (1+(b.fdiv 244).fmod 6),Mth.bot (c.fmod 10000000000000000000000000000000000000000-5000000000000000000000000000000000000000) (1+(b.fdiv 244).fmod 6))],rfl,fun bb u C=>?_,W,?_,by simp [j],fun l p=>?_⟩
   ·rw [<- q,Jai (Jag C d)];exact g _ _ (B _ _ C)
   ·exact (D.mono (P':=fun (l:Int × Int) x=>FrV K G x l.1 l.2) fun _ _ z=>(z.sameT g.t).sameT e).append (.one ((FrV.of J).sameT e))
   ·rcases mem_append.mp p with h' | h'
    ·exact I l h'
    ·rw [mem_singleton.mp h'];exact FB.low ∅ (.lit ∅ ∅) (.lit ∅ ∅)
  ·rw [if_neg (by simpa using c3)];try infer_instance
   refine ⟨.inl ⟨rfl,_,SqL.of m⟩,?_⟩;try infer_instance
   repeat (refine And.intro (by first | exact Jbn ⋯ | exact Jbp ⋯ | exact Jbo ⋯ | exact JaX ⋯ | exact Int.one_ne_zero | decide) ?_)
   refine ⟨b.fmod 61-30,1+(b.fdiv 244).fmod 6,rfl,by ac_nf, .lit ∅ ∅,fun L v g J=>?_⟩;refine ⟨r,_,_,rfl,rfl,g _ _ m,by ac_nf,?_⟩;generalize q:upd v r _=G;have W:=putE q;have e:SameT v G:=SameT.put q (g _ _ m) rfl;refine ⟨_,_,_,_,o++[.ref L],n++[(Mth.top (b.fmod 61-30) (1+(b.fdiv 244).fmod 6),Mth.bot (b.fmod 61-30) (1+(b.fdiv 244).fmod 6))],rfl,fun bb u C=>?_,W,?_,by simp [j],fun l p=>?_⟩
   ·rw [<- q,Jai (Jag C d)];exact g _ _ (B _ _ C)
   ·exact (D.mono (P':=fun (l:Int × Int) x=>FrV K G x l.1 l.2) fun _ _ z=>(z.sameT g.t).sameT e).append (.one ((FrV.of J).sameT e))
   ·rcases mem_append.mp p with h' | h'
    ·exact I l h'
    ·rw [mem_singleton.mp h'];exact FB.low ∅ (.lit ∅ ∅) (.lit ∅ ∅)
 ·rintro σ Y ⟨N,U,S,X,o,n,rfl,B,m,D,j,I⟩;try infer_instance
  exact k r o n Y d B m D (by rw [j];simp) I
abbrev BaU:Stmt:=top 55
theorem JfL:Jan [] [] (Jad BaU):=by bv_decide
def JbT  : Sp:=fun vs H Q E=>∃ (u:Unit),vs=[]/\∀ p H',H p=none->Same H H'->H' p=some (.lst (faceM.map V.str))->Q (.ref p) H'
theorem Jfu (F:FunD K "_law_faces" "_law_faces" BaU dV f fd) (T:Txt K mg Ad)  : FnOk P w K mg base (CX1 P w) 1 f fd [] (JbT):=by
 refine F.okn JfL (by subst_eqs) (fun j A b s H i Q E l h=>?_)
 obtain ⟨u,rfl,h⟩:=h;refine ⟨_,(Jaf (Jam (Jby (Jaa Jcq (Jaa Jcq (Jaa Jcq (Jaa Jcq (Jaa Jcq (Jaa Jcq (Jaa Jcq (Jaa Jcq Jac))))))))))),?_⟩;have k:=h;show tRet _ _ [] H;try infer_instance
 refine ⟨by show 8<=sizeLine;decide,?_⟩;rename_i p a g H c e d;exact k p c a e d
abbrev Bbe:Stmt:=top 56
theorem JaW:Jan ["_law_cell","_law_k","_law_places_here","_law_free","_law_digits","_law_start","_law_end","_law_apart","_law_low","_law_high"] ["_law_cell","_law_k","_law_places_here","_law_free"] (Jad Bbe):=by bv_decide
def Jdh (K:W.Frag):Sp:=fun vs H Q E=>∃ (c:Int) (k:Nat) (p:Addr) (fr:Bool) (ys:List V) (ls:List (Int × Int)),vs=[.int c, .int (k:Int), .ref p, .bl fr]/\k<36/\SqL K H p ys/\All2 (fun (l:Int × Int) x=>FrV K H x l.1 l.2) ls ys/\2<=ls.length/\ls.length<=8/\(∀ l∈ls,FB 140 3 l)/\∀ x t (i j:Nat) (li lj:Int × Int) H',Same H H'->TV K H' t x->TOk t->faceM[i]?=some t.st->faceM[j]?=some t.en->ls[i]?=some li->ls[j]?=some lj->okB t.lo t.hi (addF lj (negF li))=true->t.nm=⟨#[97+k/6,97+k % 6]⟩->(∀ u,t.lo=some u->FB 148 9 u)->(∀ u,t.hi=some u->FB 148 9 u)->Q x H'
theorem Jhj (F:FunD K "_law_tie" "_law_tie" Bbe dV f fd) (T:Txt K mg Ad) (Bag:Cal P w K mg base 4 "_law_minus" ["_law_one","_law_other"] [] (Jbj K)) (Bas:Cal P w K mg base 3 "_law_plus" ["_law_one","_law_other"] [] (JbO K)) (Bat:Cal P w K mg base 1 "_law_faces" [] [] (JbT)):FnOk P w K mg base (CX1 P w) 5 f fd ["_law_cell","_law_k","_law_places_here","_law_free"] (Jdh K):=by
 refine F.okn JaW (by subst_eqs) (fun d3 A b5 s H vs Q E Z h=>?_)
 obtain ⟨c,k,p,fr,ys,ls,rfl,h⟩:=h;have g:=Z.units;refine ⟨_,(Jab (Jaj (i:=4) JaW.nd rfl (Or.inl rfl) (pe_op Jav (pe_op JaD (pe_op Ja8 (pv 0) Jae) Jae) Jae))
   (Jab (ps_if (Jbb (pv 3))
   (Jaf (Jaj (i:=4) JaW.nd rfl (Or.inl rfl) (pv 0)))
   Jap)
   (Jab (Jaj (i:=5) JaW.nd rfl (Or.inl rfl) (pe_op JaD (pv 4) (Jat JaG rfl T.BbC JbE (Jaa (pv 2) Jac))))
   (Jab (Jaj (i:=6) JaW.nd rfl (Or.inl rfl) (pe_op JaD (pe_op JaZ (pe_op JaZ (pv 5) Jae) (pe_op JaD (pe_op Jav (pv 4) Jae) (pe_op JfB (Jat JaG rfl T.BbC JbE (Jaa (pv 2) Jac)) Jae))) (Jat JaG rfl T.BbC JbE (Jaa (pv 2) Jac))))
   (Jab (Jaj (i:=7) JaW.nd rfl (Or.inl rfl) (Bag.ev Z ⋯ rfl passF (Jaa (pe_ix ix_U (pv 2) (pv 6) (fun _ _=>rfl)) (Jaa (pe_ix ix_U (pv 2) (pv 5) (fun _ _=>rfl)) Jac)) (he:=by exact Jah rfl)))
   (Jab (Jaj (i:=8) JaW.nd rfl (Or.inl rfl) (Bas.ev Z ⋯ rfl passF (Jaa (pv 7) (Jaa (JaE (Jaa (pe_un Jd7 (pe_op JaD (pe_op Jav (pv 4) Jae) Jae)) (Jaa (pe_op JaZ Jae (pe_op JaD (pe_op Jav (pv 4) Jae) Jae)) Jac))) Jac)) (he:=by exact Jah rfl)))
   (Jab (Jaj (i:=9) JaW.nd rfl (Or.inl rfl) (Bas.ev Z ⋯ rfl passF (Jaa (pv 7) (Jaa (JaE (Jaa (pe_op JaD (pe_op Jav (pv 4) Jae) Jae) (Jaa (pe_op JaZ Jae (pe_op JaD (pe_op Jav (pv 4) Jae) Jae)) Jac))) Jac)) (he:=by exact Jah rfl)))
   (Jab (ps_if (Jaq (Jcn g) (pe_op JaD (pe_op Jav (pv 4) Jae) Jae) Jae (Jas _))
   (Jaf (Jaj (i:=8) JaW.nd rfl (Or.inl rfl) JaM))
   Jap)
   (Jab (ps_if (Jaq (Jcn g) (pe_op JaD (pe_op Jav (pv 4) Jae) Jae) Jae (Jas _))
   (Jaf (Jaj (i:=9) JaW.nd rfl (Or.inl rfl) JaM))
   Jap)
   (Jaf (Jam (JaE (Jaa (pe_op JaZ (pe_ix ix_U Jcq (pe_op Jav (pv 1) Jae) (fun _ _=>rfl)) (pe_ix ix_U Jcq (pe_op JaD (pv 1) Jae) (fun _ _=>rfl))) (Jaa (pe_ix ix_U (Bat.ev0 Z ⋯ rfl passF) (pv 5) (fun _ _=>rfl)) (Jaa (pe_ix ix_U (Bat.ev0 Z ⋯ rfl passF) (pv 6) (fun _ _=>rfl)) (Jaa (pv 8) (Jaa (pv 9) Jac))))))))))))))))),?_⟩
 clear g;obtain ⟨hk,hY,hL,d1,d0,hB,q⟩:=h;show tSeq _ _ _ [some (.int c),some (.int (k:Int)),some (.ref p),some (.bl fr),none,none,none,none,none,none] H;nofun;repeat (refine And.intro (by first | exact Jbn ⋯ | exact Jbp ⋯ | exact Jbo ⋯ | exact JaX ⋯ | exact Int.one_ne_zero | decide) ?_)
 nofun;rename_i N hN;have key:∀ d:Int,N [some (.int c),some (.int (k:Int)),some (.ref p),some (.bl fr),some (.int d),none,none,none,none,none] H:=by
  intro d;have lY:=hL.length;have sl:(1000:Nat)<=sizeLine:=by decide
  (try ((with_reducible refine Nxt.go (by assumption) ?_);nofun))
  nofun;refine ⟨_, .inl hY,?_⟩;nofun;refine ⟨by ac_nf,?_⟩
  (try ((with_reducible refine Nxt.go (by assumption) ?_);nofun))
  nofun;repeat (refine And.intro (by first | exact Jbn ⋯ | exact Jbp ⋯ | exact Jbo ⋯ | exact JaX ⋯ | exact Int.one_ne_zero | decide) ?_)
  refine ⟨_, .inl hY,?_⟩;nofun;refine ⟨by ac_nf,_, .inl hY,?_⟩;nofun;refine ⟨by ac_nf,?_⟩;generalize hfy:ys.length=f at *;have q1:=Mth.fm (x:=d) (y:=(f:Int)) ∅;have q2:=Mth.fm (x:=d.fdiv 8) (y:=(f:Int)-1) ∅;have a9:=JiM (x:=d.fmod (f:Int)+1+(d.fdiv 8).fmod ((f:Int)-1)) (f:=(f:Int)) ∅ ∅;obtain ⟨j,a0⟩:=Int.eq_ofNat_of_zero_le q1.1;have q7:=Mth.fm (x:=d.fmod (f:Int)+1+(d.fdiv 8).fmod ((f:Int)-1)) (y:=(f:Int)) ∅;obtain ⟨l,a3⟩:=Int.eq_ofNat_of_zero_le q7.1;have b3:j≠l:=fun z=>by
   have : d.fmod (f:Int)=(d.fmod (f:Int)+1+(d.fdiv 8).fmod ((f:Int)-1)).fmod (f:Int):=by rw [a3,a0,z]
   rcases a9 with e | e <;> ac_nf
  rw [a3,a0];have a5:j<ys.length:=by ac_nf
  have a1:l<ys.length:=by ac_nf
  obtain ⟨M,a8,frs⟩:=hL.at_ (List.getElem?_eq_getElem a5);obtain ⟨W,a4,c1⟩:=hL.at_ (List.getElem?_eq_getElem a1);have bs:=hB M (List.mem_of_getElem? a8);have be:=hB W (List.mem_of_getElem? a4)
  (try ((with_reducible refine Nxt.go (by assumption) ?_);nofun))
  nofun;refine ixL (i:=l) hY (List.getElem?_eq_getElem a1) ?_;refine ixL (i:=j) hY (List.getElem?_eq_getElem a5) ?_;nofun;refine ⟨_,_,W,M,rfl,c1,frs,be.w.mono ⋯ ⋯,bs.w.mono ⋯ ⋯,fun pa H2 S2 e2=>?_⟩;have R:FB 144 6 (addF W (negF M)):=be.w.add (n:=143) (m:=6) bs.neg.w ⋯ ⋯ ⋯;have a6:FrV K H2 (.ref pa) (addF W (negF M)).1 (addF W (negF M)).2:=FrV.of e2;generalize hAA:addF W (negF M)=AA at *
  (try ((with_reducible refine Nxt.go (by assumption) ?_);nofun))
  nofun;repeat (refine And.intro (by first | exact Jbn ⋯ | exact Jbp ⋯ | exact Jbo ⋯ | exact JaX ⋯ | exact Int.one_ne_zero | decide) ?_)
  have m5:=Mth.fm (x:=d.fdiv 64) (y:=9) ⋯;have m3:=Mth.fm (x:=d.fdiv 576) (y:=4) ⋯;have n5:=Mth.fm (x:=d.fdiv 2304) (y:=9) ⋯;have n3:=Mth.fm (x:=d.fdiv 20736) (y:=4) ⋯;have l8:faceM.length=8:=by decide
  have B:faceM[j]?=some faceM[j]:=List.getElem?_eq_getElem ∅;have r:faceM[l]?=some faceM[l]:=List.getElem?_eq_getElem ∅;refine ⟨len2,?_⟩;rename_i p1 c2 c7 H2 H3 S3 e3;nofun;have w1:FW 4 3 ((-(d.fdiv 64).fmod 9,1+(d.fdiv 576).fmod 4):Int × Int):=⟨.lit (show -(2 ^ 4) < -(d.fdiv 64).fmod 9 by ac_nf) (show -(d.fdiv 64).fmod 9<2 ^ 4 by ac_nf), .lit (show -(2 ^ 3)<1+(d.fdiv 576).fmod 4 by ac_nf) (show 1+(d.fdiv 576).fmod 4<2 ^ 3 by ac_nf),(show 1<=1+(d.fdiv 576).fmod 4 by ac_nf)⟩;have w2:FW 4 3 (((d.fdiv 2304).fmod 9,1+(d.fdiv 20736).fmod 4):Int × Int):=⟨.lit (show -(2 ^ 4)<(d.fdiv 2304).fmod 9 by ac_nf) (show (d.fdiv 2304).fmod 9<2 ^ 4 by ac_nf), .lit (show -(2 ^ 3)<1+(d.fdiv 20736).fmod 4 by ac_nf) (show 1+(d.fdiv 20736).fmod 4<2 ^ 3 by ac_nf),(show 1<=1+(d.fdiv 20736).fmod 4 by ac_nf)⟩;have U:=(Jji (x:=AA) (y:=(-(d.fdiv 64).fmod 9,1+(d.fdiv 576).fmod 4)) R.b1 w1.b1).1 (show -(d.fdiv 64).fmod 9<=0 by ac_nf);have X:=(Jji (x:=AA) (y:=((d.fdiv 2304).fmod 9,1+(d.fdiv 20736).fmod 4)) R.b1 w2.b1).2 (show 0<=(d.fdiv 2304).fmod 9 by ac_nf);nofun;refine ⟨_,_,AA,(-(d.fdiv 64).fmod 9,1+(d.fdiv 576).fmod 4),rfl,a6.same S3,FrV.of e3,R.w.mono ⋯ ⋯,w1.mono ⋯ ⋯,fun c0 H4 S4 e4=>?_⟩;have b1:FB 148 9 (addF AA (-(d.fdiv 64).fmod 9,1+(d.fdiv 576).fmod 4)):=R.w.add (n:=147) (m:=9) w1 ⋯ ⋯ ⋯;have f1:FrV K H4 (.ref c0) (addF AA (-(d.fdiv 64).fmod 9,1+(d.fdiv 576).fmod 4)).1 (addF AA (-(d.fdiv 64).fmod 9,1+(d.fdiv 576).fmod 4)).2:=FrV.of e4;generalize addF AA (-(d.fdiv 64).fmod 9,1+(d.fdiv 576).fmod 4)=LL at *
  (try ((with_reducible refine Nxt.go (by assumption) ?_);nofun))
  nofun;repeat (refine And.intro (by first | exact Jbn ⋯ | exact Jbp ⋯ | exact Jbo ⋯ | exact JaX ⋯ | exact Int.one_ne_zero | decide) ?_)
  refine ⟨len2,?_⟩;rename_i p2 c6 c5 H4 H5 S5 e5;nofun;nofun;refine ⟨_,_,AA,((d.fdiv 2304).fmod 9,1+(d.fdiv 20736).fmod 4),rfl,a6.same (S3.trans (S4.trans S5)),FrV.of e5,R.w.mono ⋯ ⋯,w2.mono ⋯ ⋯,fun a2 Y S6 e6=>?_⟩;have b2:FB 148 9 (addF AA ((d.fdiv 2304).fmod 9,1+(d.fdiv 20736).fmod 4)):=R.w.add (n:=147) (m:=9) w2 ⋯ ⋯ ⋯;have f2:FrV K Y (.ref a2) (addF AA ((d.fdiv 2304).fmod 9,1+(d.fdiv 20736).fmod 4)).1 (addF AA ((d.fdiv 2304).fmod 9,1+(d.fdiv 20736).fmod 4)).2:=FrV.of e6;generalize addF AA ((d.fdiv 2304).fmod 9,1+(d.fdiv 20736).fmod 4)=HH at *;have b9:Same H Y:=S2.trans (S3.trans (S4.trans (S5.trans S6)));have b6:=f1.same (S5.trans S6);have b0:=Jhc (a:=LL) (b:=AA) (c:=HH) b1.b1 R.b1 b2.b1 U X
  (try ((with_reducible refine Nxt.go (by assumption) ?_);nofun))
  nofun;repeat (refine And.intro (by first | exact Jbn ⋯ | exact Jbp ⋯ | exact Jbo ⋯ | exact JaX ⋯ | exact Int.one_ne_zero | decide) ?_)
  rename_i N2 c8;have L:∀ (o:Option (Int × Int)) (D:V),BV K Y o D->(∀ u,o=some u->u=LL)->N2 [some (.int c),some (.int (k:Int)),some (.ref p),some (.bl fr),some (.int d),some (.int (j:Int)),some (.int (l:Int)),some (.ref pa),some D,some (.ref a2)] Y:=by
   intro o D b7 C
   (try ((with_reducible refine Nxt.go (by assumption) ?_);nofun))
   nofun;repeat (refine And.intro (by first | exact Jbn ⋯ | exact Jbp ⋯ | exact Jbo ⋯ | exact JaX ⋯ | exact Int.one_ne_zero | decide) ?_)
   rename_i N3 d4;have J:∀ (I:Option (Int × Int)) (S:V),BV K Y I S->(∀ u,I=some u->u=HH)->N3 [some (.int c),some (.int (k:Int)),some (.ref p),some (.bl fr),some (.int d),some (.int (j:Int)),some (.int (l:Int)),some (.ref pa),some D,some S] Y:=by
    intro I S b8 G;have e6:(k:Int).fdiv 6=((k/6:Nat):Int):=by rw [Int.fdiv_eq_ediv_of_nonneg _ ⋯];rfl
    have e7:(k:Int).fmod 6=((k % 6:Nat):Int):=by rw [Int.fmod_eq_emod_of_nonneg _ ⋯];rfl
    have a7:∀ m:Nat,m<6->atI (Str.ofString "abcdef").cps.toList (m:Int)=some (97+m):=fun m hm=>by
     have e:(Str.ofString "abcdef").cps.toList=List.range' 97 6:=by decide
     rw [e];refine JdB ?_;rw [List.getElem?_range' ∅];simp
    (try ((with_reducible refine Nxt.go (by assumption) ?_);nofun))
    nofun;repeat (refine And.intro (by first | exact Jbn ⋯ | exact Jbp ⋯ | exact Jbo ⋯ | exact JaX ⋯ | exact Int.one_ne_zero | decide) ?_)
    rw [e6];refine ⟨97+k/6,by decide,a7 _ ∅,?_⟩;nofun;repeat (refine And.intro (by first | exact Jbn ⋯ | exact Jbp ⋯ | exact Jbo ⋯ | exact JaX ⋯ | exact Int.one_ne_zero | decide) ?_)
    rw [e7];refine ⟨97+k % 6,by decide,a7 _ ∅,?_⟩;nofun;refine ⟨by show 1+1<=sizeLine;ac_nf,?_⟩;nofun;refine ⟨(),rfl,fun p3 H7 c9 S7 b4=>?_⟩;nofun;refine ixL (i:=j) (SqL.of b4) (v:=.str faceM[j]) (by rw [List.getElem?_map,B];rfl) ?_;nofun;refine ⟨(),rfl,fun p4 H8 d2 S8 e8=>?_⟩;nofun;refine ixL (i:=l) (SqL.of e8) (v:=.str faceM[l]) (by rw [List.getElem?_map,r];rfl) ?_;nofun;refine ⟨len5,?_⟩;rename_i px c4 c3 H8 H9 S9 e9;nofun;have O:=S7.trans (S8.trans S9);have fl:∀ u,o=some u->FB 148 9 u:=fun u g=>by rw [C u g];exact b1
    have fh:∀ u,I=some u->FB 148 9 u:=fun u g=>by rw [G u g];exact b2
    refine q (.ref px) ⟨⟨#[97+k/6,97+k % 6]⟩,faceM[j],faceM[l],o,I⟩ j l M W H9 (b9.trans O) ⟨px,_,_,rfl,SqT.of e9,b7.sameT O.t,b8.sameT O.t⟩ ⟨?_,JgJ B,JgJ r,fun z=>?_,fun u g=>(fl u g).ok ⋯ ⋯,fun u g=>(fh u g).ok ⋯ ⋯,?_⟩ B r a8 a4 ?_ rfl fl fh
    ·unfold nameS;have h1:lowB (97+k/6)=true:=by unfold lowB;simp;ac_nf
     have h2:lowB (97+k % 6)=true:=by unfold lowB;simp;ac_nf
     have h3:(⟨#[97+k/6,97+k % 6]⟩:Str).length=2:=rfl;simp [h1,h2,h3]
    ·have z':faceM[j]=faceM[l]:=z;exact b3 (JdJ B (by rw [z'];exact r))
    ·show lessD (bD I) (bD o)=false;cases I with
     | none=>rfl
     | some u=>
      cases o with
      | none=>rfl
      | some w=>
       rw [C w rfl,G u rfl];simpa [bD,frD,lessD,lessF] using b0
    ·rw [hAA];show okB o I AA=true;cases I with
     | none=>
      cases o with
      | none=>rfl
      | some w=>rw [C w rfl];simp [okB,U]
     | some u=>
      cases o with
      | none=>rw [G u rfl];simp [okB,X]
      | some w=>rw [C w rfl,G u rfl];simp [okB,U,X]
   split
   ·exact J none .non rfl (fun u g=>by cases g)
   ·exact J (some HH) _ f2 (fun u g=>by cases g;rfl)
  split
  ·exact L none .non rfl (fun u g=>by cases g)
  ·exact L (some LL) _ b6 (fun u g=>by cases g;rfl)
 split
 ·exact key _
 ·exact key _
abbrev BaV:Stmt:=top 57
theorem Ja4:Jan ["_law_ties","_law_steps_here","_law_name","_law_start","_law_end","_law_low","_law_high"] ["_law_ties"] (Jad BaV):=by bv_decide
def Jcy (K:W.Frag):Sp:=fun vs H Q E=>∃ (a:Addr) (xs:List V) (ts:List TD),vs=[.ref a]/\SqL K H a xs/\All2 (TV K H) ts xs/\ts.length<=60/\∀ p ys H',H p=none->Same H H'->H' p=some (.lst ys)->All2 (LV K H') (Ch.all ts) ys->Q (.ref p) H'
theorem Jfx (F:FunD K "_law_steps" "_law_steps" BaV dV f fd) (T:Txt K mg Ad)  : FnOk P w K mg base (CX1 P w) 1 f fd ["_law_ties"] (Jcy K):=by
 refine F.okn Ja4 (by subst_eqs) (fun a9 A a2 s H vs Q E hr h=>?_)
 obtain ⟨a,xs,m,rfl,h⟩:=h;refine ⟨_,(Jab (Jaj (i:=1) Ja4.nd rfl (Or.inl rfl) (Jby Jac))
   (Jab (Ja7 PassesOwn.never rfl (pi_U (pv 0)) (JfC rfl (JaF (Jar (i:=2) Ja4.nd rfl (Or.inl rfl)) (JaF (Jar (i:=3) Ja4.nd rfl (Or.inl rfl)) (JaF (Jar (i:=4) Ja4.nd rfl (Or.inl rfl)) (JaF (Jar (i:=5) Ja4.nd rfl (Or.inl rfl)) (JaF (Jar (i:=6) Ja4.nd rfl (Or.inl rfl)) Jde))))))
   (Jab (ps_if (Jaq JbQ (pv 6) JaM (Jas _))
   (Jaf (Ja0 (pe_bm PySem.F.plainAttrs_list PySem.F.slot_list_append PySem.F.type_list_append JaY (pv 1) (Jaa (JaE (Jaa (pv 3) (Jaa (pv 4) (Jaa (pv 6) (Jaa (JaE (Jaa (pv 2) (Jaa pe_bl Jac))) Jac))))) Jac) (hs:=by exact Jah rfl))))
   Jap)
   (Jaf (ps_if (Jaq JbQ (pv 5) JaM (Jas _))
   (Jaf (Ja0 (pe_bm PySem.F.plainAttrs_list PySem.F.slot_list_append PySem.F.type_list_append JaY (pv 1) (Jaa (JaE (Jaa (pv 4) (Jaa (pv 3) (Jaa (JaE (Jaa (pe_un Jd7 (pe_ix ix_U (pv 5) Jae (fun _ _=>rfl))) (Jaa (pe_ix ix_U (pv 5) Jae (fun _ _=>rfl)) Jac))) (Jaa (JaE (Jaa (pv 2) (Jaa pe_bl Jac))) Jac))))) Jac) (hs:=by exact Jah rfl))))
   Jap))))
   (Jaf (Jam (pv 1))))),?_⟩
 obtain ⟨hS,hR,hl,q⟩:=h;show tSeq _ _ _ [some (.ref a),none,none,none,none,none,none] H;try infer_instance
 refine ⟨len0,?_⟩;rename_i r j a7 H H1 S1 e1;have sl:(1000:Nat)<=sizeLine:=by decide
 have lx:=hR.length;refine ⟨a,rfl,ForA.byL (xs:=xs) (hS.same S1) (fun i σ H'=>i<=xs.length/\∃ (v2 v3 v4 v5 v6:Option V) (o:List V),σ=[some (.ref a),some (.ref r),v2,v3,v4,v5,v6]/\Same H H'/\H' r=some (.lst o)/\All2 (LV K H') (Ch.all (m.take i)) o) ⟨Nat.zero_le _,none,none,none,none,none,[],rfl,S1,e1,rfl⟩ (fun i σ H' z=>by obtain ⟨_,_,_,_,_,_,_,_,z,_⟩:=z;exact hS.same z) ?_ ?_⟩
 ·rintro i x σ B hx ⟨hi,v2,v3,v4,v5,v6,o,rfl,N,p,O⟩;obtain ⟨t,ht,a3⟩:=hR.at_ hx;obtain ⟨b,vl,vg,rfl,hq,R,k⟩:=a3.sameT N.t;have li:i<xs.length:=(List.getElem?_eq_some_iff.mp hx).1;refine ⟨b,_,rfl,hq,rfl,?_⟩;try infer_instance
  cases hhi2:t.hi with
  | none=>
   rw [hhi2] at k;replace k:vg=.non:=k;subst k;try infer_instance
   have ef:fwd t=[]:=by unfold fwd;rw [hhi2]
   have g:All2 (LV K B) (Ch.all (m.take i)++fwd t) o:=by rw [ef,append_nil];exact O
   have c:=R.sameT (.refl B);have e:Ch.all (m.take (i+1))=(Ch.all (m.take i)++fwd t)++bwd t:=by
    rw [take_succ,ht];simp [Ch.all,Ch.steps]
   cases hlo2:t.lo with
   | none=>
    rw [hlo2] at c;replace c:vl=.non:=c;subst c;try infer_instance
    have M:bwd t=[]:=by unfold bwd;rw [hlo2]
    exact ⟨li,_,_,_,_,_,o,rfl,N,p,by rw [e,M,append_nil];exact g⟩
   | some lw=>
    rw [hlo2] at c;obtain ⟨pl,rfl,D⟩:=c;have n:FrV K B (.ref pl) lw.1 lw.2:=⟨pl,rfl,D⟩;try infer_instance
    refine ⟨.inl ⟨rfl,_,SqL.of p⟩,?_⟩;refine ixF0 n ?_;try infer_instance
    refine ixF1 n ?_;try infer_instance
    refine ⟨len2,?_⟩;rename_i n1 S W B HB SB eB;refine ⟨len2,?_⟩;rename_i n2 Y Z HB HC U eC;refine ⟨len4,?_⟩;rename_i n3 a0 X HC HD SD eD;have d:=SB.trans (U.trans SD);refine ⟨r,_,_,rfl,rfl,d _ _ p,by have hz:=g.length;simp only [length_append,length_cons,length_nil] at hz ⊢;have:=Jf6 m i;have:=Jh4 t;ac_nf,?_⟩;generalize G:upd HD r _=I;have eE:=putE G;have TE:SameT HD I:=SameT.put G (d _ _ p) rfl;have M:bwd t=[⟨t.en,t.st,(-lw.1,lw.2),t.nm,false⟩]:=by unfold bwd;rw [hlo2]
    have l:LV K I ⟨t.en,t.st,(-lw.1,lw.2),t.nm,false⟩ (.ref n3):=⟨n3, .ref n1, .ref n2,rfl,(SqT.of eD).sameT TE,(FrV.of ((U.trans SD) _ _ eB)).sameT TE,n2,rfl,TE _ _ rfl (SD _ _ eC)⟩;try infer_instance
    refine ⟨li,_,_,_,_,_,_,rfl,fun bb u y=>?_,eE,?_⟩
    ·rw [<- G,Jai (Jag y j)];exact d _ _ ((N) _ _ y)
    ·rw [e,M];exact (g.mono (P':=LV K I) fun _ _ z=>(z.sameT d.t).sameT TE).append (.one l)
  | some hh=>
   rw [hhi2] at k;obtain ⟨pg,rfl,a1⟩:=k;try infer_instance
   refine ⟨.inl ⟨rfl,_,SqL.of p⟩,?_⟩;refine ⟨len2,?_⟩;rename_i m1 a6 a5 B H3 S3 e3;refine ⟨len4,?_⟩;rename_i m2 a4 a8 H3 H4 S4 e4;have v:=S3.trans S4;refine ⟨r,_,_,rfl,rfl,v _ _ p,by have:=O.length;have:=Jf6 m i;ac_nf,?_⟩;generalize u5:upd H4 r _=C;have e5:=putE u5;have L:SameT H4 C:=SameT.put u5 (v _ _ p) rfl;have J:SameT B C:=v.t.trans L;have ef:fwd t=[⟨t.st,t.en,hh,t.nm,true⟩]:=by unfold fwd;rw [hhi2]
   have l:LV K C ⟨t.st,t.en,hh,t.nm,true⟩ (.ref m2):=⟨m2, .ref pg, .ref m1,rfl,(SqT.of e4).sameT L,⟨pg,rfl,a1.sameT J⟩,m1,rfl,L _ _ rfl (S4 _ _ e3)⟩;have g:All2 (LV K C) (Ch.all (m.take i)++fwd t) (o++[V.ref m2]):=by
    rw [ef];exact (O.mono (P':=LV K C) fun _ _ z=>z.sameT J).append (.one l)
   have S5:Same H C:=fun bb u y=>by
    rw [<- u5,Jai (Jag y j)];exact v _ _ (N _ _ y)
   try infer_instance
   have c:=R.sameT J;have e:Ch.all (m.take (i+1))=(Ch.all (m.take i)++fwd t)++bwd t:=by
    rw [take_succ,ht];simp [Ch.all,Ch.steps]
   cases hlo2:t.lo with
   | none=>
    rw [hlo2] at c;replace c:vl=.non:=c;subst c;try infer_instance
    have M:bwd t=[]:=by unfold bwd;rw [hlo2]
    exact ⟨li,_,_,_,_,_,(o++[V.ref m2]),rfl,S5,e5,by rw [e,M,append_nil];exact g⟩
   | some lw=>
    rw [hlo2] at c;obtain ⟨pl,rfl,D⟩:=c;have n:FrV K C (.ref pl) lw.1 lw.2:=⟨pl,rfl,D⟩;try infer_instance
    refine ⟨.inl ⟨rfl,_,SqL.of e5⟩,?_⟩;refine ixF0 n ?_;try infer_instance
    refine ixF1 n ?_;try infer_instance
    refine ⟨len2,?_⟩;rename_i n1 S W C HB SB eB;refine ⟨len2,?_⟩;rename_i n2 Y Z HB HC U eC;refine ⟨len4,?_⟩;rename_i n3 a0 X HC HD SD eD;have d:=SB.trans (U.trans SD);refine ⟨r,_,_,rfl,rfl,d _ _ e5,by have hz:=g.length;simp only [length_append,length_cons,length_nil] at hz ⊢;have:=Jf6 m i;have:=Jh4 t;ac_nf,?_⟩;generalize G:upd HD r _=I;have eE:=putE G;have TE:SameT HD I:=SameT.put G (d _ _ e5) rfl;have M:bwd t=[⟨t.en,t.st,(-lw.1,lw.2),t.nm,false⟩]:=by unfold bwd;rw [hlo2]
    have l:LV K I ⟨t.en,t.st,(-lw.1,lw.2),t.nm,false⟩ (.ref n3):=⟨n3, .ref n1, .ref n2,rfl,(SqT.of eD).sameT TE,(FrV.of ((U.trans SD) _ _ eB)).sameT TE,n2,rfl,TE _ _ rfl (SD _ _ eC)⟩;try infer_instance
    refine ⟨li,_,_,_,_,_,_,rfl,fun bb u y=>?_,eE,?_⟩
    ·rw [<- G,Jai (Jag y j)];exact d _ _ ((S5) _ _ y)
    ·rw [e,M];exact (g.mono (P':=LV K I) fun _ _ z=>(z.sameT d.t).sameT TE).append (.one l)
 ·rintro σ B ⟨hi,v2,v3,v4,v5,v6,o,rfl,N,p,O⟩;try infer_instance
  rw [take_of_length_le (Nat.le_of_eq lx.symm)] at O;exact q r o B j N p O
abbrev BaW:Stmt:=top 58
theorem Ja2:Jan ["_law_steps_here","_law_one","_law_other","_law_there","_law_k","_law_start","_law_end","_law_cost","_law_pair"] ["_law_steps_here","_law_one","_law_other"] (Jad BaW):=by bv_decide
def Jcx (K:W.Frag):Sp:=fun vs H Q E=>∃ (a:Addr) (one other:Str) (xs:List V) (ts:List TD) (P0:Str->Prop),vs=[.ref a, .str one, .str other]/\SqL K H a xs/\All2 (LV K H) (Ch.all ts) xs/\(Ch.all ts).length<=70/\P0 one/\(∀ s∈Ch.all ts,P0 s.src->P0 s.dst)/\¬ P0 other/\∀ H',Same H H'->Q (.bl false) H'
theorem Jfv (F:FunD K "_law_leads" "_law_leads" BaW dV f fd) (T:Txt K mg Ad)  : FnOk P w K mg base (CX1 P w) 1 f fd ["_law_steps_here","_law_one","_law_other"] (Jcx K):=by
 refine F.okn Ja2 (by subst_eqs) (fun a3 A S s H vs Q E hr h=>?_)
 obtain ⟨a,l,e,xs,ts,P0,rfl,h⟩:=h;refine ⟨_,(Jab (Jaj (i:=3) Ja2.nd rfl (Or.inl rfl) (Jby (Jaa (pv 1) Jac)))
   (Jab (Ja7 PassesOwn.never rfl (JcW rfl T.BbS (Jaa (Jat JaG rfl T.BbC JbE (Jaa (pv 0) Jac)) Jac)) (Jar (i:=4) Ja2.nd rfl (Or.inl rfl))
   (Jaf (Ja7 PassesOwn.never rfl (pi_U (pv 0)) (JfC rfl (JaF (Jar (i:=5) Ja2.nd rfl (Or.inl rfl)) (JaF (Jar (i:=6) Ja2.nd rfl (Or.inl rfl)) (JaF (Jar (i:=7) Ja2.nd rfl (Or.inl rfl)) (JaF (Jar (i:=8) Ja2.nd rfl (Or.inl rfl)) Jde)))))
   (Jaf (ps_if (PW.pt (JeA (Jaq Jij (pv 5) (pv 3) (by with_unfolding_all rfl)) (Jdf (Jaq JdX (pv 6) (pv 3) (by with_unfolding_all rfl)))))
   (Jaf (Ja0 (pe_bm PySem.F.plainAttrs_list PySem.F.slot_list_append PySem.F.type_list_append JaY (pv 3) (Jaa (pv 6) Jac) (hs:=by exact Jah rfl))))
   Jap)))))
   (Jaf (Jam (Jbl Jij (pv 2) (pv 3) (by with_unfolding_all rfl)))))),?_⟩
 obtain ⟨Y,hR,a1,h1,X,hn,k⟩:=h;have sl:(100000:Nat)<=sizeLine:=by decide
 have lx:=hR.length;show tSeq _ _ _ [some (.ref a),some (.str l),some (.str e),none,none,none,none,none,none] H;nofun;refine ⟨by show 1<=sizeLine;ac_nf,?_⟩;rename_i m L a0 H H1 S1 e1;nofun
 (try ((with_reducible refine Nxt.go (by assumption) ?_);nofun))
 nofun;refine ⟨_, .inl (Y.same S1),?_⟩;nofun;refine ⟨_,rfl,by ac_nf,by ac_nf,?_⟩;refine ForR.byN (fun i σ G=>∃ (C o u r p:Option V) (b:List Str),σ=[some (.ref a),some (.str l),some (.str e),some (.ref m),C,o,u,r,p]/\Same H G/\G m=some (.lst (b.map V.str))/\b.length<=1+70*i/\∀ f∈b,P0 f) ⟨none,none,none,none,none,[l],rfl,S1,e1,by simp,fun f B=>by rw [mem_singleton.mp B];exact h1⟩ ?_ ?_
 ·rintro i σ H2 hi ⟨C,o,u,r,p,b,rfl,M,J,I,g⟩ N0 U;have a4:i<=70:=by ac_nf
  nofun;refine ⟨a,rfl,ForA.byLN (xs:=xs) (Y.same M) (fun j σ G=>∃ (C o u r p:Option V) (b:List Str),j<=xs.length/\σ=[some (.ref a),some (.str l),some (.str e),some (.ref m),C,o,u,r,p]/\Same H G/\G m=some (.lst (b.map V.str))/\b.length<=1+70*i+j/\∀ f∈b,P0 f) ⟨_,o,u,r,p,b,Nat.zero_le _,rfl,M,J,I,g⟩ (fun j σ G z=>by obtain ⟨_,_,_,_,_,_,_,_,z,_⟩:=z;exact Y.same z) ?_ ?_⟩
  ·clear J I g;rintro j y σ Z hy ⟨C,o,u,r,p,b,hj,rfl,D,n,I,g⟩ N1 x;have N:=(List.getElem?_eq_some_iff.mp hy).1;obtain ⟨s,hs,R⟩:=hR.at_ hy;obtain ⟨bs,vv,ww,rfl,qs,a2,cw⟩:=R.sameT D.t;have O:=List.mem_of_getElem? hs;have q:(b.map V.str).all flatV=true:=all_eq_true.mpr (fun v W=>by obtain ⟨z,_,rfl⟩:=mem_map.mp W;rfl);nofun;refine ⟨bs,_,rfl,qs,rfl,?_⟩;nofun;refine ⟨m,_,rfl, .inl (SqL.of n),rfl,q,?_⟩;rw [if_neg ⋯,JcC];nofun;nofun;by_cases c:s.src∈b
   ·rw [decide_eq_true c];nofun;refine ⟨m,_,rfl, .inl (SqL.of n),rfl,q,?_⟩;rw [if_pos rfl,JcC];nofun;nofun;by_cases d:s.dst∈b
    ·rw [decide_eq_true d];nofun;exact x _ _ ⟨_,_,_,_,_,b,N,rfl,D,n,by ac_nf,g⟩
    ·rw [decide_eq_false d];nofun;refine ⟨.inl ⟨rfl,_,SqL.of n⟩,?_⟩;refine ⟨m,_,_,rfl,rfl,n,by rw [length_map];ac_nf,?_⟩;generalize u4:upd Z m _=H4;nofun;have e4:=putE u4;refine x _ _ ⟨_,_,_,_,_,b++[s.dst],N,rfl,fun c w h=>by rw [<- u4,Jai (Jag h L)];exact D _ _ h,by rw [e4,map_append];rfl,by rw [length_append,length_singleton];ac_nf,fun f B=>?_⟩;rcases mem_append.mp B with B | B
     ·exact g f B
     ·rw [mem_singleton.mp B];exact X s O (g _ c)
   ·rw [decide_eq_false c];nofun;exact x _ _ ⟨_,_,_,_,_,b,N,rfl,D,n,by ac_nf,g⟩
  ·clear J I g;rintro σ Z ⟨C,o,u,r,p,b,hj,rfl,D,n,I,g⟩;exact U _ _ ⟨_,_,_,_,_,b,rfl,D,n,by ac_nf,g⟩
 ·rintro σ H2 ⟨C,o,u,r,p,b,rfl,M,J,I,g⟩;nofun;refine ⟨m,_,rfl, .inl (SqL.of J),rfl,all_eq_true.mpr (fun v W=>by obtain ⟨z,_,rfl⟩:=mem_map.mp W;rfl),?_⟩;rw [if_neg ⋯,JcC,decide_eq_false fun z=>hn (g _ z)];nofun;exact k H2 M
abbrev Bbf:Stmt:=top 59
theorem Jbs:Jan ["_law_steps_here","_law_one","_law_other","_law_chain","_law_here","_law_total","_law_pair","_law_found"] ["_law_steps_here","_law_one","_law_other","_law_chain"] (Jad Bbf):=by bv_decide
def Jdg (K:W.Frag):Sp:=fun vs H Q E=>∃ (a:Addr) (one other:Str) (l:Addr) (xs cx:List V) (ts:List TD) (ch:List SpS),vs=[.ref a, .str one, .str other, .ref l]/\SqL K H a xs/\All2 (LV K H) (Ch.all ts) xs/\((Ch.all ts).map key).Nodup/\(∀ s∈Ch.all ts,FB 200 9 s.c)/\(Ch.all ts).length<=70/\H l=some (.lst cx)/\All2 (CV H) (ch.map fun s=>(s.nm,s.fw)) cx/\Wk (ssD ts) one ch other/\ch.length<=70/\∀ p H',Same H H'->SqT K H' p [.int (cs ch).1, .int (cs ch).2]->Q (.ref p) H'
theorem Jhi (F:FunD K "_law_sum" "_law_sum" Bbf dV f fd) (T:Txt K mg Ad) (Bas:Cal P w K mg base 3 "_law_plus" ["_law_one","_law_other"] [] (JbO K)):FnOk P w K mg base (CX1 P w) 4 f fd ["_law_steps_here","_law_one","_law_other","_law_chain"] (Jdg K):=by
 refine F.okn Jbs (by subst_eqs) (fun c3 A a7 s H vs Q E hr h=>?_)
 obtain ⟨a,e,d,l,xs,Z,C,g,rfl,h⟩:=h;have I:=hr.units;refine ⟨_,(Jab (Jaj (i:=4) Jbs.nd rfl (Or.inl rfl) (pv 1))
   (Jab (Jaj (i:=5) Jbs.nd rfl (Or.inl rfl) (JaE (Jaa Jae (Jaa Jae Jac))))
   (Jab (Ja7 PassesOwn.never rfl (pi_U (pv 3)) (Jar (i:=6) Jbs.nd rfl (Or.inr rfl))
   (Jab (Jgk (j:=7) (own:=["_law_step"]) (cs:=[(6,"_law_pair")]) Jbs.nd rfl (Or.inl rfl) rfl (pi_U (pv 0)) (fun _ _ _ _=>(Jar (i:=0) (show [("_law_step" : Str),("_law_pair" : Str)].Nodup by decide) rfl (Or.inl rfl))) (fun _ _ _ _=>(Jaq (Jk0 (K:=K) rfl I) (pe_ix (ix_UK (K:=K) rfl) (pv 0) Jae (fun _ _=>rfl)) (pv 1) (Jas _))) (fun _ _ _ _=>(pv 0)) (JhX rfl) ⋯ rfl ⋯ (hcs1 rfl rfl rfl))
   (Jab (ps_if (PW.pt (pw_or (Jaq (Jb7 I) (Jat JaG rfl T.BbC JbE (Jaa (pv 7) Jac)) Jae (Jas _)) (JbK (Jaq (Jb7 I) (pe_ix ix_U (pe_ix ix_U (pv 7) Jae (fun _ _=>rfl)) Jae (fun _ _=>rfl)) (pv 4) (Jas _)))))
   (Jaf (Jam JaM))
   Jap)
   (Jab (Jaj (i:=4) Jbs.nd rfl (Or.inl rfl) (pe_ix ix_U (pe_ix ix_U (pv 7) Jae (fun _ _=>rfl)) Jae (fun _ _=>rfl)))
   (Jaf (Jaj (i:=5) Jbs.nd rfl (Or.inl rfl) (Bas.ev hr ⋯ rfl passF (Jaa (pv 5) (Jaa (pe_ix ix_U (pe_ix ix_U (pv 7) Jae (fun _ _=>rfl)) Jae (fun _ _=>rfl)) Jac)) (he:=by exact Jah rfl))))))))
   (Jab (ps_if (Jaq (Jb7 I) (pv 4) (pv 2) (Jas _))
   (Jaf (Jam JaM))
   Jap)
   (Jaf (Jam (pv 5))))))),?_⟩
 clear I;obtain ⟨hS,hR,b0,G,c1,hl,hc,u,b9,k⟩:=h;have sl:(1000:Nat)<=sizeLine:=by decide
 have lx:=hR.length;have a2:=hc.length;rw [length_map] at a2;have a0:∀ s∈g,FB 200 9 s.cost:=fun s r=>by
  obtain ⟨y,Y,rfl⟩:=mem_map.mp (u.mem s r);exact G y Y
 have D:=u.fin;show tSeq _ _ _ [some (.ref a),some (.str e),some (.str d),some (.ref l),none,none,none,none] H;nofun;refine ⟨len2,?_⟩;rename_i hz b4 b5 H H2 S2 e2;nofun
 (try ((with_reducible refine Nxt.go (by assumption) ?_);nofun))
 nofun;refine ⟨l,rfl,ForA.byLN (xs:=Z) ((SqL.of hl).same S2) (fun i σ B=>i<=Z.length/\∃ (q:Addr) (z:Str) (v6 v7:Option V),σ=[some (.ref a),some (.str e),some (.str d),some (.ref l),some (.str z),some (.ref q),v6,v7]/\Same H B/\(e::g.map (·.tgt))[i]?=some z/\SqT K B q [.int (cs (g.take i)).1, .int (cs (g.take i)).2]) ⟨Nat.zero_le _,hz,e,none,none,rfl,S2,rfl,SqT.of e2⟩ (fun i σ B z=>by obtain ⟨_,_,_,_,_,_,z,_⟩:=z;exact (SqL.of hl).same z) ?_ ?_⟩
 ·rintro i x σ O hx ⟨hi,q,z,v6,v7,rfl,o,n,hq⟩ N0 b2;have li:=(List.getElem?_eq_some_iff.mp hx).1;obtain ⟨c0,M,a9⟩:=hc.at_ hx;rw [List.getElem?_map] at M;obtain ⟨s,r,rfl⟩:=Option.map_eq_some_iff.mp M;obtain ⟨wa,wm,wb⟩:=u.at_ i s r;obtain ⟨y,Y,rfl⟩:=mem_map.mp wm;have cv:=a9.sameT o.t;obtain ⟨b,rfl,b3⟩:=id cv;have a4:=G y Y;have a1:g.take (i+1)=g.take i++[toS (bD_ C) y]:=by rw [take_succ,r];rfl
  have J:=cs_fb (l:=g.take i) fun s r=>a0 s (List.mem_of_mem_take r);have L:(g.take i).length=i:=by rw [length_take];ac_nf
  rw [L] at J;have ez:z=y.src:=by
   have w1:=wa.fin;rw [L] at w1;have : (e::(g.take i).map (·.tgt))[i]?=(e::g.map (·.tgt))[i]?:=by
    cases i with
    | zero=>rfl
    | succ i=>
     rw [List.getElem?_cons_succ,List.getElem?_cons_succ,List.map_take,List.getElem?_take_of_lt ∅]
   rw [this,n] at w1;cases w1;rfl
  subst ez;nofun;refine ⟨a,rfl, .inl ⟨⟨xs,hS.same o⟩,Jdz.list (xs:=xs) (fun j R B=>B=O/\All2 (LV K O) (((Ch.all C).take j).filter fun s=>decide (key s=key y)) R) ⟨rfl,rfl⟩ (fun j R B hj z'=>⟨by rw [z'.1];exact hS.same o,by have h1:=z'.2.length;have h2:=List.length_filter_le (fun s=>decide (key s=key y)) ((Ch.all C).take j);rw [length_take] at h2;ac_nf⟩) ?_ ?_⟩⟩
  ·rintro j x R H4 a8 ⟨rfl,m⟩;simpa only [length_singleton,List.replicate,JaB,map_cons,map_nil,Option.join_some];obtain ⟨s',b1,a6⟩:=hR.at_ a8;have U:=a6.sameT o.t;obtain ⟨b8,v',w',rfl,a3,f',N⟩:=id U;refine ixT (i:=3) a3 rfl ?_;nofun;obtain ⟨bw,rfl,c2⟩:=id N;refine ⟨prD (key s'),prD (key y),N.rep,CV.rep ⟨b,rfl,b3⟩,by simp [prD,depD,depL],rfl,?_⟩;nofun;rw [JkJ];have et:((Ch.all C).take (j+1)).filter (fun s=>decide (key s=key y))=((Ch.all C).take j).filter (fun s=>decide (key s=key y))++(if key s'=key y then [s'] else []):=by
    rw [take_succ,b1,List.filter_append]
    congr 1
    simp [List.filter_cons]
   by_cases W:key s'=key y
   ·rw [if_pos (by simpa using W)];nofun;nofun;rw [et,if_pos W];exact m.append (.one U)
   ·rw [if_neg (by simpa using W)];nofun;nofun;rw [et,if_neg W,append_nil];exact m
  ·rintro R H4 ⟨rfl,m⟩;rw [take_of_length_le ∅,JgK b0 Y] at m;obtain ⟨x0,ry,rfl,U,v⟩:=m;have v:ry=[]:=v;subst v;obtain ⟨bs,vv,ww,rfl,qs,fs,cw⟩:=U;rename_i fo b7 b6 H4 H5 X S;nofun;have p:=qs.same X;have a5:=fs.same X
   (try ((with_reducible refine Nxt.go (by assumption) ?_);nofun))
   nofun;refine ⟨_, .inl (SqL.of S),?_⟩;nofun;rw [if_neg (by simp)];nofun;refine ixL (i:=0) (SqL.of S) rfl ?_;refine ixT (i:=0) p rfl ?_;nofun;try rw [if_neg (by simp)]
   (try ((with_reducible refine Nxt.go (by assumption) ?_);nofun))
   nofun;refine ixL (i:=0) (SqL.of S) rfl ?_;refine ixT (i:=1) p rfl ?_;nofun
   (try ((with_reducible refine Nxt.go (by assumption) ?_);nofun))
   nofun;refine ixL (i:=0) (SqL.of S) rfl ?_;refine ixT (i:=2) p rfl ?_;nofun;refine ⟨_,_,_,y.c,rfl,⟨q,rfl,hq.same X⟩,a5,J.w.mono ∅ ∅,a4.w.mono ⋯ ⋯,fun ap H7 S7 e7=>?_⟩
   (try ((with_reducible refine Nxt.go (by assumption) ?_);nofun))
   nofun;refine b2 _ _ ⟨li,ap,y.dst,_,_,rfl,o.trans (X.trans S7),?_,?_⟩
   ·rw [List.getElem?_cons_succ,List.getElem?_map,r];rfl
   ·rw [a1,Jf1];exact SqT.of e7
 ·rintro σ O ⟨hi,q,z,v6,v7,rfl,o,n,hq⟩;rw [take_of_length_le ∅] at hq;rw [show Z.length=g.length by ac_nf,D] at n;cases n;nofun;try rw [if_neg (by simp)]
  (try ((with_reducible refine Nxt.go (by assumption) ?_);nofun))
  nofun;exact k q O o hq
abbrev BaJ:Stmt:=top 60
theorem JaP:Jan ["_law_ties","_law_faces_here","_law_placing","_law_there","_law_name","_law_start","_law_end","_law_low","_law_high","_law_apart"] ["_law_ties","_law_faces_here","_law_placing"] (Jad BaJ):=by bv_decide
def Jci (K:W.Frag):Sp:=fun vs H Q E=>∃ (a fl c:Addr) (xs zs:List V) (ts:List TD) (ps:Pl),vs=[.ref a, .ref fl, .ref c]/\SqL K H a xs/\All2 (TV K H) ts xs/\(∀ t∈ts,TOk t)/\ts.length<=35/\SqL K H fl ((ps.map (·.1)).map V.str)/\H c=some (.lst zs)/\All2 (QV K H) ps zs/\ps.length<=8/\(ps.map (·.1)).Nodup/\(∀ z∈ps.map (·.1),FB 1711 701 (look ps z))/\(∀ t∈ts,t.st∈ps.map (·.1)/\t.en∈ps.map (·.1))/\(∀ t∈ts,okT ps t=true)/\∀ H',Same H H'->Q (.bl true) H'
theorem JeV (F:FunD K "_law_placed" "_law_placed" BaJ dV f fd) (T:Txt K mg Ad) (Bag:Cal P w K mg base 4 "_law_minus" ["_law_one","_law_other"] [] (Jbj K)) (BaK:Cal P w K mg base 1 "_law_less" ["_law_one","_law_other"] [] (Jch K)):FnOk P w K mg base (CX1 P w) 5 f fd ["_law_ties","_law_faces_here","_law_placing"] (Jci K):=by
 refine F.okn JaP (by subst_eqs) (fun b9 A a6 s H vs Q E C h=>?_)
 obtain ⟨a,U,c,xs,zs,ts,l,rfl,h⟩:=h;have S:=C.units;refine ⟨_,(Jab (ps_if (PW.pt (pw_or (JbF (Jbb (Jat Jay rfl T.Bal JaI (Jaa (pv 2) (Jaa (Jcb (v:=.ty "list") rfl T.Bb5 JdD rfl) Jac))))) (JbK (Jaq (Jb7 S) (JcL (own:=["_law_pair"]) (cs:=[]) (cl:=[]) rfl (pi_U (pv 2)) (fun _ _ _ _=>(Jar (i:=0) (show [("_law_pair" : Str)].Nodup by decide) rfl (Or.inl rfl))) (fun _ _ _ _=>(pe_ix (ix_UK (K:=K) rfl) (pv 0) Jae (fun _ _=>rfl))) rfl ⋯ rfl ⋯ hcl0 (hhas0 ⋯) hcs0) (pv 1) (Jas _)))))
   (Jaf (Jam pe_bl))
   Jap)
   (Jab (Jaj (i:=3) JaP.nd rfl (Or.inl rfl) (JbJ (Jen rfl) rfl T.n_dict Jhw (Jaa (pv 2) Jac)))
   (Jab (Ja7 PassesOwn.never rfl (pi_U (pv 0)) (JfC rfl (JaF (Jar (i:=4) JaP.nd rfl (Or.inl rfl)) (JaF (Jar (i:=5) JaP.nd rfl (Or.inl rfl)) (JaF (Jar (i:=6) JaP.nd rfl (Or.inl rfl)) (JaF (Jar (i:=7) JaP.nd rfl (Or.inl rfl)) (JaF (Jar (i:=8) JaP.nd rfl (Or.inl rfl)) Jde))))))
   (Jab (Jaj (i:=9) JaP.nd rfl (Or.inl rfl) (Bag.ev C ⋯ rfl passF (Jaa (JaO (hu1 S) (pv 3) (pv 6) (fun _ _=>rfl)) (Jaa (JaO (hu1 S) (pv 3) (pv 5) (fun _ _=>rfl)) Jac)) (he:=by exact Jah rfl)))
   (Jab (ps_if (PW.pt (JeA (Jaq JbQ (pv 7) JaM (Jas _)) (Jdf (Jbb (BaK.ev C ⋯ rfl passF (Jaa (pv 9) (Jaa (pv 7) Jac)) (he:=by exact Jah rfl))))))
   (Jaf (Jam pe_bl))
   Jap)
   (Jaf (ps_if (PW.pt (JeA (Jaq JbQ (pv 8) JaM (Jas _)) (Jdf (Jbb (BaK.ev C ⋯ rfl passF (Jaa (pv 8) (Jaa (pv 9) Jac)) (he:=by exact Jah rfl))))))
   (Jaf (Jam pe_bl))
   Jap)))))
   (Jaf (Jam pe_bl))))),?_⟩
 clear S;obtain ⟨hS,hR,hT,hl,b2,W,hP,b8,N,J,b0,Z,k⟩:=h;have sl:(1000:Nat)<=sizeLine:=by decide
 have lx:=hR.length;have lz:=hP.length;show tSeq _ _ _ [some (.ref a),some (.ref U),some (.ref c),none,none,none,none,none,none,none] H;nofun;refine ⟨"list", .inl ⟨rfl,_,SqL.of W⟩,?_⟩;nofun;refine ⟨c,rfl, .inl ⟨⟨_,SqL.of W⟩,CompJ.list (xs:=zs) (fun j R G=>G=H/\R=((l.take j).map (·.1)).map V.str) ⟨rfl,rfl⟩ (fun j R G hj z=>⟨by rw [z.1];exact SqL.of W,by rw [z.2];simp only [length_map,length_take];ac_nf⟩) ?_ ?_⟩⟩
 ·rintro j y R H6 hy ⟨rfl,rfl⟩;obtain ⟨r,C,b,v,rfl,hb,hf⟩:=hP.at_ hy;simpa only [length_singleton,length_cons,length_nil,List.replicate,JaB,map_cons,map_nil,Option.join_some];refine ixT (i:=0) (SqT.of hb) rfl ?_;nofun;rw [take_succ,C];simp
 ·rintro R H6 ⟨rfl,rfl⟩;rw [take_of_length_le ∅];rename_i nl b3 b5 H6 H7 Y e7;nofun;nofun;refine ⟨_,_,JfE (SqL.of e7),JfE (b2.same Y),by simp only [depD,JgI];ac_nf,rfl,?_⟩;rw [JbP];nofun
  (try ((with_reducible refine Nxt.go (by assumption) ?_);nofun))
  nofun;have a1:=hP.mono (P':=QV K H7) fun _ _ z=>z.sameT Y.t;obtain ⟨as,qs,a8,a0,a5,L,I⟩:=QV.refs a1;refine ⟨c,as,qs,rfl,by rw [<- a8];exact Y _ _ W,a0,a5,?_⟩;rename_i X b6 b4 H7 H8 S8 e8;nofun
  (try ((with_reducible refine Nxt.go (by assumption) ?_);nofun))
  nofun;have u:=Y.trans S8;refine ⟨a,rfl,ForA.byLN (xs:=xs) (hS.same u) (fun i σ G=>∃ (v4 v5 v6 v7 v8 v9:Option V),σ=[some (.ref a),some (.ref U),some (.ref c),some (.ref X),v4,v5,v6,v7,v8,v9]/\Same H8 G) ⟨_,_,_,_,_,_,rfl,Same.refl _⟩ (fun i σ G z=>by obtain ⟨_,_,_,_,_,_,_,z⟩:=z;exact (hS.same u).same z) ?_ ?_⟩
  ·rintro i y σ H9 hy ⟨v4,v5,v6,v7,v8,v9,rfl,x⟩ N0 O;obtain ⟨t,ht,b1⟩:=hR.at_ hy;have B:=List.mem_of_getElem? ht;have a2:=u.trans x;have D:=S8.trans x;obtain ⟨b,vl,vg,rfl,hq,e,g⟩:=b1.sameT a2.t;have ok:=hT t B;obtain ⟨ms,me⟩:=b0 t B;obtain ⟨ve,a4,fe⟩:=Jb4 L N I me;obtain ⟨vs,a7,fs⟩:=Jb4 L N I ms;have oe:=J _ me;have os:=J _ ms;have oa:FB 2413 1402 (apart l t):=FB.add (n:=2412) (m:=1402) oe os.neg ⋯ ⋯ ⋯;have d:=Z t B;unfold okT okB at d;rw [Bool.and_eq_true] at d;have d2:=x _ _ e8;nofun;refine ⟨b,_,rfl,hq,rfl,?_⟩;nofun;refine ⟨X,ve,rfl,by rw [<- a4];exact DGet.k (k:=Sum.inr t.en) d2,?_⟩;refine ⟨X,vs,rfl,by rw [<- a7];exact DGet.k (k:=Sum.inr t.st) d2,?_⟩;nofun;refine ⟨_,_,look l t.en,look l t.st,rfl,fe.same D,fs.same D,oe.w.mono ⋯ ⋯,os.w.mono ⋯ ⋯,fun pa p q a3=>?_⟩;have f4:FrV K p (.ref pa) (apart l t).1 (apart l t).2:=FrV.of a3;have M:=oa.ok (n:=3000) ⋯ ⋯
   (try ((with_reducible refine Nxt.go (by assumption) ?_);nofun))
   nofun;rename_i N2 b7;have o:N2 [some (.ref a),some (.ref U),some (.ref c),some (.ref X),some (.str t.nm),some (.str t.st),some (.str t.en),some vl,some vg,some (.ref pa)] p:=by
    (try ((with_reducible refine Nxt.go (by assumption) ?_);nofun))
    nofun;cases hh:t.hi with
    | none=>
     rw [hh] at g;replace g:vg=.non:=g;subst g;nofun;exact O _ _ ⟨_,_,_,_,_,_,rfl,x.trans q⟩
    | some hv=>
     have oh:FOk 3000 hv:=(ok.hi hv hh).mono ⋯;rw [hh] at g d;have fh:FrV K p vg hv.1 hv.2:=FrV.sameT q.t g;obtain ⟨pg,rfl,_⟩:=id g;nofun;refine ⟨_,_,hv,apart l t,rfl,fh,f4,oh,M,?_⟩;have hz:(!lessF hv (apart l t))=true:=d.2;rw [show lessF hv (apart l t)=false by simpa using hz];nofun;exact O _ _ ⟨_,_,_,_,_,_,rfl,x.trans q⟩
   cases hlw:t.lo with
   | none=>
    rw [hlw] at e;replace e:vl=.non:=e;subst e;try simpa only [Option.isSome_none]
    exact o
   | some lv=>
    have ol:FOk 3000 lv:=(ok.lo lv hlw).mono ⋯;rw [hlw] at e d;have a9:FrV K p vl lv.1 lv.2:=FrV.sameT q.t e;obtain ⟨pl,rfl,_⟩:=id e;nofun;refine ⟨_,_,apart l t,lv,rfl,f4,a9,M,ol,?_⟩;have hz:(!lessF (apart l t) lv)=true:=d.1;rw [show lessF (apart l t) lv=false by simpa using hz];try simpa only [Option.isSome_none]
    exact o
  ·rintro σ H9 ⟨v4,v5,v6,v7,v8,v9,rfl,x⟩;nofun;exact k H9 (u.trans x)
abbrev BaL:Stmt:=top 62
theorem Je3:Jan ["_law_gap","_law_apart"] ["_law_gap","_law_apart"] (Jad BaL):=by bv_decide
def Jck (K:W.Frag):Sp:=fun vs H Q E=>∃ (g:Addr) (v:V) (lo hi:Option (Int × Int)) (vl vg:V) (a:Int × Int),vs=[.ref g,v]/\H g=some (.tup [vl,vg])/\BV K H lo vl/\BV K H hi vg/\FrV K H v a.1 a.2/\FOk 3000 a/\(∀ u,lo=some u->FOk 3000 u)/\(∀ u,hi=some u->FOk 3000 u)/\okB lo hi a=true/\Q (.bl true) H
theorem JeX (F:FunD K "_law_within" "_law_within" BaL dV f fd) (T:Txt K mg Ad) (BaK:Cal P w K mg base 1 "_law_less" ["_law_one","_law_other"] [] (Jch K)):FnOk P w K mg base (CX1 P w) 2 f fd ["_law_gap","_law_apart"] (Jck K):=by
 refine F.okn Je3 (by subst_eqs) (fun B A n s H D Q E o h=>?_)
 obtain ⟨g,v,t,q,vl,p,a,rfl,h⟩:=h;have y:=o.units;refine ⟨_,(Jab (ps_if (PW.pt (pw_or (JbF (Jbb (Jat Jay rfl T.Bal JaI (Jaa (pv 0) (Jaa (Jcb (v:=.ty "tuple") rfl T.BbR Jdu rfl) Jac))))) (JbK (Jaq (Jb7 y) (Jat JaG rfl T.BbC JbE (Jaa (pv 0) Jac)) Jae (Jas _)))))
   (Jaf (Jam pe_bl))
   Jap)
   (Jab (ps_if (PW.pt (JeA (Jaq JbQ (pe_ix ix_U (pv 0) Jae (fun _ _=>rfl)) JaM (Jas _)) (Jdf (Jbb (BaK.ev o ⋯ rfl passF (Jaa (pv 1) (Jaa (pe_ix ix_U (pv 0) Jae (fun _ _=>rfl)) Jac)) (he:=by exact Jah rfl))))))
   (Jaf (Jam pe_bl))
   Jap)
   (Jaf (Jam (pe_or (Jbl Jbq (pe_ix ix_U (pv 0) Jae (fun _ _=>rfl)) JaM (Jas _)) (Jdm (JgY (BaK.ev o ⋯ rfl passF (Jaa (pe_ix ix_U (pv 0) Jae (fun _ _=>rfl)) (Jaa (pv 1) Jac)) (he:=by exact Jah rfl))))))))),?_⟩
 clear y;obtain ⟨d,j,e,r,x,z,C,c,k⟩:=h;unfold okB at c;rw [Bool.and_eq_true] at c;show tSeq _ _ _ [some (.ref g),some v] H;nofun;refine ⟨"tuple", .inr ⟨rfl,_,SqT.of d⟩,?_⟩;nofun;refine ⟨_, .inr (SqT.of d),?_⟩;nofun;try rw [if_neg (by simp)]
 (try ((with_reducible refine Nxt.go (by assumption) ?_);nofun))
 nofun;refine ixT (i:=0) (SqT.of d) rfl ?_;nofun;rename_i N G;have b:N [some (.ref g),some v] H:=by
  (try ((with_reducible refine Nxt.go (by assumption) ?_);nofun))
  nofun;refine ixT (i:=1) (SqT.of d) rfl ?_;nofun;cases q with
  | none=>
   replace e:p=.non:=e;subst e;nofun;exact k
  | some u=>
   have m:FrV K H p u.1 u.2:=e;obtain ⟨I,rfl,_⟩:=id e;nofun;refine ixT (i:=1) (SqT.of d) rfl ?_;nofun;refine ⟨_,_,u,a,rfl,m,r,C u rfl,x,?_⟩;have l:(!lessF u a)=true:=c.2;rw [show lessF u a=false by simpa using l];nofun;exact k
 cases t with
 | none=>
  replace j:vl=.non:=j;subst j;try simpa only [Option.isSome_none]
  exact b
 | some u=>
  have m:FrV K H vl u.1 u.2:=j;obtain ⟨J,rfl,_⟩:=id j;nofun;refine ixT (i:=0) (SqT.of d) rfl ?_;nofun;refine ⟨_,_,a,u,rfl,r,m,x,z u rfl,?_⟩;have l:(!lessF a u)=true:=c.1;rw [show lessF a u=false by simpa using l];try simpa only [Option.isSome_none]
  exact b
abbrev Ba6:Stmt:=top 61
theorem Ja3:Jan ["_law_book","_law_ties","_law_faces_here","_law_one","_law_other","_law_most","_law_steps_here","_law_found","_law_bound","_law_first","_law_last","_law_total","_law_there"] ["_law_book","_law_ties","_law_faces_here","_law_one","_law_other","_law_most"] (Jad Ba6):=by bv_decide
def JcR (K:W.Frag) (Ad:Adr):Sp:=fun vs H Q E=>∃ (p d a fl:Addr) (ts:List TD) (F:List Str) (x:Str->Rat) (xs:List V) (one other:Str) (most:Bool) (out:List Str),vs=[.ref p, .ref a, .ref fl, .str one, .str other, .bl most]/\BK K Ad H p d ts/\BkG ts F x/\SqL K H a xs/\All2 (TV K H) ts xs/\SqL K H fl (out.map V.str)/\Jbz ts out/\(∃ t∈ts,one=t.st\/one=t.en)/\(∃ t∈ts,other=t.st\/other=t.en)/\((Ch.all ts).map key).Nodup/\∀ H',Same H H'->Q (.bl true) H'
theorem Jgg (F:FunD K "_law_side" "_law_side" Ba6 dV f fd) (T:Txt K mg Ad) (BbE:Cal P w K mg base 1 "_law_steps" ["_law_ties"] [] (Jcy K)) (m_shown:MCal P w K mg base 8 "shown" (JaS Ad) ["self","one","other","most"] (Ja6 K Ad)) (m_gap:MCal P w K mg base 8 "gap" (JaS Ad) ["self","one","other"] (Jce K Ad)) (BbF:Cal P w K mg base 1 "_law_leads" ["_law_steps_here","_law_one","_law_other"] [] (Jcx K)) (BbM:Cal P w K mg base 4 "_law_sum" ["_law_steps_here","_law_one","_law_other","_law_chain"] [] (Jdg K)) (Bbu:Cal P w K mg base 5 "_law_placed" ["_law_ties","_law_faces_here","_law_placing"] [] (Jci K)) (Bag:Cal P w K mg base 4 "_law_minus" ["_law_one","_law_other"] [] (Jbj K)):FnOk P w K mg base (CX1 P w) 9 f fd ["_law_book","_law_ties","_law_faces_here","_law_one","_law_other","_law_most"] (JcR K Ad):=by
 refine F.okx Ja3 (fun vs H Q E h=>?_) (fun g5 A g3 s H vs Q E hr h=>?_)
 ·obtain ⟨p,d,a,fl,ts,F,x,xs,one,other,most,out,rfl,_⟩:=h;rfl
 obtain ⟨p,d,a,fl,ts,F,x,xs,one,other,most,out,rfl,h⟩:=h;have hu:=hr.units;refine ⟨_,(Jab (Jaj (i:=6) Ja3.nd rfl (Or.inl rfl) (BbE.ev hr ⋯ rfl pass1 (Jaa (pv 1) Jac) (he:=by exact Jah rfl)))
   (Jab (Jaj (i:=7) Ja3.nd rfl (Or.inl rfl) (m_shown.m hr ⋯ pass1 (pv 0) (Jaa (pv 3) (Jaa (pv 4) (Jaa (pv 5) Jac)))))
   (Jab (Jaj (i:=8) Ja3.nd rfl (Or.inl rfl) (pe_ix ix_U (m_gap.m hr ⋯ pass1 (pv 0) (Jaa (pv 3) (Jaa (pv 4) Jac))) (JbJ JdG rfl T.Bce JgE (Jaa (pv 5) Jac)) (fun _ _=>rfl)))
   (Jab (Jk8 (pe_ix ix_U (Jby (Jaa (JaE (Jaa (pv 4) (Jaa (pv 3) Jac))) (Jaa (JaE (Jaa (pv 3) (Jaa (pv 4) Jac))) Jac))) (JbJ JdG rfl T.Bce JgE (Jaa (pv 5) Jac)) (fun _ _=>rfl)) (JfC rfl (JaF (Jar (i:=9) Ja3.nd rfl (Or.inl rfl)) (JaF (Jar (i:=10) Ja3.nd rfl (Or.inl rfl)) Jde))))
   (Jab (ps_if (Jaq Jbq (pv 7) JaM (Jas _))
   (Jaf (Jam (Jdl (Jbl Jbq (pv 8) JaM (Jas _)) (Jdm (JgY (BbF.ev hr ⋯ rfl pass1 (Jaa (pv 6) (Jaa (pv 9) (Jaa (pv 10) Jac))) (he:=by exact Jah rfl)))))))
   Jap)
   (Jab (ps_if (PW.pt (pw_or (JbF (Jbb (Jat Jay rfl T.Bal JaI (Jaa (pv 7) (Jaa (Jcb (v:=.ty "tuple") rfl T.BbR Jdu rfl) Jac))))) (pw_or (Jaq (Jb7 hu) (Jat JaG rfl T.BbC JbE (Jaa (pv 7) Jac)) Jae (Jas _)) (pw_or (Jaq (Jb7 hu) (pe_ix ix_U (pv 7) Jae (fun _ _=>rfl)) (pv 8) (Jas _)) (JbK (JbF (Jbb (Jat Jay rfl T.Bal JaI (Jaa (pe_ix ix_U (pv 7) Jae (fun _ _=>rfl)) (Jaa (Jcb (v:=.ty "list") rfl T.Bb5 JdD rfl) Jac))))))))))
   (Jaf (Jam pe_bl))
   Jap)
   (Jab (Jaj (i:=11) Ja3.nd rfl (Or.inl rfl) (BbM.ev hr ⋯ rfl pass1 (Jaa (pv 6) (Jaa (pv 9) (Jaa (pv 10) (Jaa (pe_ix ix_U (pv 7) Jae (fun _ _=>rfl)) Jac)))) (he:=by exact Jah rfl)))
   (Jab (ps_if (PW.pt (pw_or (Jaq Jbq (pv 11) JaM (Jas _)) (JbK (JbF (Jbb (Bbu.ev hr ⋯ rfl pass1 (Jaa (pv 1) (Jaa (pv 2) (Jaa (pe_ix ix_U (pv 7) Jae (fun _ _=>rfl)) Jac))) (he:=by exact Jah rfl)))))))
   (Jaf (Jam pe_bl))
   Jap)
   (Jab (Jaj (i:=12) Ja3.nd rfl (Or.inl rfl) (JbJ (Jen rfl) rfl T.n_dict Jhw (Jaa (pe_ix ix_U (pv 7) Jae (fun _ _=>rfl)) Jac)))
   (Jab (ps_if (Jaq (Jb7 hu) (Bag.ev hr ⋯ rfl pass1 (Jaa (JaO (hu1 hu) (pv 12) (pv 4) (fun _ _=>rfl)) (Jaa (JaO (hu1 hu) (pv 12) (pv 3) (fun _ _=>rfl)) Jac)) (he:=by exact Jah rfl)) (pe_ix ix_U (pv 7) Jae (fun _ _=>rfl)) (Jas _))
   (Jaf (Jam pe_bl))
   Jap)
   (Jaf (Jam (Jbl (Jcn hu) (pv 11) (pe_ix ix_U (Jby (Jaa (JaE (Jaa (pe_un Jd7 (pe_ix ix_U (pe_ix ix_U (pv 7) Jae (fun _ _=>rfl)) Jae (fun _ _=>rfl))) (Jaa (pe_ix ix_U (pe_ix ix_U (pv 7) Jae (fun _ _=>rfl)) Jae (fun _ _=>rfl)) Jac))) (Jaa (pe_ix ix_U (pv 7) Jae (fun _ _=>rfl)) Jac))) (JbJ JdG rfl T.Bce JgE (Jaa (pv 5) Jac)) (fun _ _=>rfl)) (Jas _)))))))))))))),?_⟩
 clear hu;obtain ⟨hb,y,hS,hR,g2,o,h1,h2,f7,k⟩:=h;obtain ⟨⟨dx,hp⟩,_⟩:=id hb;have sl:(1000:Nat)<=sizeLine:=by decide
 have g0:=y.l35;have c0:=y.l70;have l8:out.length<=8:=by
  have:=sub_len out F o.1 fun z hz=>by
   obtain ⟨t,c,h | h⟩:=(o.2.2 z).mp hz
   ·rw [h];exact (y.fm t c).1
   ·rw [h];exact (y.fm t c).2
  have:=y.f8;ac_nf
 have m1:one∈out:=(o.2.2 _).mpr h1;have m2:other∈out:=(o.2.2 _).mpr h2;show tSeq _ _ _ [some (.ref p),some (.ref a),some (.ref fl),some (.str one),some (.str other),some (.bl most),none,none,none,none,none,none,none] H;nofun;refine ⟨a,xs,ts,rfl,hS,hR,by ac_nf,fun sp zs H1 g4 S1 e1 hZ=>?_⟩
 (try ((with_reducible refine Nxt.go (by assumption) ?_);nofun))
 nofun;refine ⟨p,_,dx,_,rfl,S1 _ _ hp,rfl,rfl,?_⟩;nofun;refine ⟨p,d,ts,F,x,one,other,most,rfl,hb.same S1,y,h1,h2,fun H2 L S2 c hn=>?_,fun q L e M o2 H2 S2 c he f3 h0 hs=>?_⟩
 ·have u_:=trivial
  (try ((with_reducible refine Nxt.go (by assumption) ?_);nofun))
  nofun;have I:=S1.trans S2;refine ⟨p,_,dx,_,rfl,I _ _ hp,rfl,rfl,?_⟩;nofun;refine ⟨p,d,ts,F,x,one,other,rfl,hb.same I,y,h1,h2,fun g vl vg f5 f0 H3 S3 e3 t1 t2 bl bg=>?_⟩;nofun;refine .inr ⟨most,rfl,?_⟩;cases most with
  | true=>
   have c:TTd ts [one] L:=c;have hn:lk L other=none:=hn;rw [t1.uniq c,hn] at bg;replace bg:vg=.non:=bg;subst bg;refine ixT (i:=1) (SqT.of e3) rfl ?_
   (try ((with_reducible refine Nxt.go (by assumption) ?_);nofun))
   nofun;refine ⟨len2,?_⟩;rename_i pa b9 b4 H3 H4 S4 e4;nofun;refine ⟨len2,?_⟩;rename_i pb b8 b3 H4 H5 S5 e5;nofun;refine ⟨len2,?_⟩;rename_i pc b7 b6 H5 Z S6 e6;nofun;nofun;refine .inr ⟨true,rfl,?_⟩;refine ixL (i:=1) (SqL.of e6) rfl ?_;nofun;refine ⟨_,_,rfl,SqT.of (S6 _ _ e5),rfl,?_⟩;have n:=S4.trans (S5.trans S6)
   (try ((with_reducible refine Nxt.go (by assumption) ?_);nofun))
   nofun;have Y:=I.trans (S3.trans n);have G:Same H1 Z:=S2.trans (S3.trans n);refine ⟨sp,_,_,zs,ts,fun v=>∃ e,lk L v=some e,rfl,SqL.of (G _ _ e1),hZ.mono (fun _ _ z=>z.sameT G.t),c0,⟨_,c.self⟩,fun s hs hv=>?_,fun hv=>?_,fun H7 S7=>?_⟩
   ·obtain ⟨e,he⟩:=hv;obtain ⟨e',c7,_⟩:=c.step hs he;exact ⟨e',c7⟩
   ·obtain ⟨e,he⟩:=hv;rw [hn] at he;cases he
   nofun;exact k H7 (Y.trans S7)
  | false=>
   have c:TTd ts [other] L:=c;have hn:lk L one=none:=hn;rw [t2.uniq c,hn] at bl;replace bl:vl=.non:=bl;subst bl;refine ixT (i:=0) (SqT.of e3) rfl ?_
   (try ((with_reducible refine Nxt.go (by assumption) ?_);nofun))
   nofun;refine ⟨len2,?_⟩;rename_i pa b9 b4 H3 H4 S4 e4;nofun;refine ⟨len2,?_⟩;rename_i pb b8 b3 H4 H5 S5 e5;nofun;refine ⟨len2,?_⟩;rename_i pc b7 b6 H5 Z S6 e6;nofun;nofun;refine .inr ⟨false,rfl,?_⟩;refine ixL (i:=0) (SqL.of e6) rfl ?_;nofun;refine ⟨_,_,rfl,SqT.of (S6 _ _ (S5 _ _ e4)),rfl,?_⟩;have n:=S4.trans (S5.trans S6)
   (try ((with_reducible refine Nxt.go (by assumption) ?_);nofun))
   nofun;have Y:=I.trans (S3.trans n);have G:Same H1 Z:=S2.trans (S3.trans n);refine ⟨sp,_,_,zs,ts,fun v=>∃ e,lk L v=some e,rfl,SqL.of (G _ _ e1),hZ.mono (fun _ _ z=>z.sameT G.t),c0,⟨_,c.self⟩,fun s hs hv=>?_,fun hv=>?_,fun H7 S7=>?_⟩
   ·obtain ⟨e,he⟩:=hv;obtain ⟨e',c7,_⟩:=c.step hs he;exact ⟨e',c7⟩
   ·obtain ⟨e,he⟩:=hv;rw [hn] at he;cases he
   nofun;exact k H7 (Y.trans S7)
 ·have I:=S1.trans S2;cases most with
  | true=>
   have c:TTd ts [one] L:=c;have he:lk L other=some e:=he;have a0:=c.lo y.fb y.l70 he;obtain ⟨qv,l,cx,zl,zz,J,a2,a3,a4,a5,a6,a7,a8⟩:=hs;have b1:e.2.length<=70:=by
    have:=(c.ent he).2.2.1;unfold ssD at this;rw [length_map] at this;ac_nf
   (try ((with_reducible refine Nxt.go (by assumption) ?_);nofun))
   nofun;refine ⟨p,_,dx,_,rfl,I _ _ hp,rfl,rfl,?_⟩;nofun;refine ⟨p,d,ts,F,x,one,other,rfl,hb.same I,y,h1,h2,fun g vl vg f5 f0 H3 S3 e3 t1 t2 bl bg=>?_⟩;nofun;refine .inr ⟨true,rfl,?_⟩;rw [t1.uniq c,he] at bg;have d4:FrV K H3 vg e.1.1 e.1.2:=bg;refine ixT (i:=1) (SqT.of e3) rfl ?_
   (try ((with_reducible refine Nxt.go (by assumption) ?_);nofun))
   nofun;refine ⟨len2,?_⟩;rename_i pa b9 b4 H3 H4 S4 e4;nofun;refine ⟨len2,?_⟩;rename_i pb b8 b3 H4 H5 S5 e5;nofun;refine ⟨len2,?_⟩;rename_i pc b7 b6 H5 Z S6 e6;nofun;nofun;refine .inr ⟨true,rfl,?_⟩;refine ixL (i:=1) (SqL.of e6) rfl ?_;nofun;refine ⟨_,_,rfl,SqT.of (S6 _ _ e5),rfl,?_⟩;have n:=S4.trans (S5.trans S6)
   (try ((with_reducible refine Nxt.go (by assumption) ?_);nofun))
   nofun;have Y:=I.trans (S3.trans n);have G:Same H1 Z:=S2.trans (S3.trans n);have b:Same H2 Z:=S3.trans n;have c4:look (stD ts (fT L) (fT M) out) one=(0,1):=by rw [Jbx o.1 m1];exact Jcm c.self
   have d9:look (stD ts (fT L) (fT M) out) other=e.1:=by rw [Jbx o.1 m2];exact Jcm he
   have e2:o2=out:=f3.eq o;subst e2;nofun;refine ⟨"tuple", .inr ⟨rfl,_,SqT.of (b _ _ J)⟩,?_⟩;nofun;refine ⟨_, .inr (SqT.of (b _ _ J)),?_⟩;nofun;try rw [if_neg (by simp)]
   refine ixT (i:=0) (SqT.of (b _ _ J)) rfl ?_;nofun;have d6:FrV K Z qv e.1.1 e.1.2:=a2.same b;have d0:FrV K Z vg e.1.1 e.1.2:=d4.same n;refine neF d6 d0 ?_;nofun;rw [if_neg (by simp)];nofun;refine ixT (i:=1) (SqT.of (b _ _ J)) rfl ?_;nofun;refine ⟨"list", .inl ⟨rfl,_,SqL.of (b _ _ a3)⟩,?_⟩;nofun
   (try ((with_reducible refine Nxt.go (by assumption) ?_);nofun))
   nofun;refine ixT (i:=1) (SqT.of (b _ _ J)) rfl ?_;nofun;refine ⟨sp,_,_,l,zs,cx,ts,e.2,rfl,SqL.of (G _ _ e1),hZ.mono (fun _ _ z=>z.sameT G.t),f7,y.fb,c0,b _ _ a3,a4.mono (fun _ _ z=>z.sameT b.t),c.root he,b1,fun tp H7 S7 c1=>?_⟩;have O:=b.trans S7;have N:=Y.trans S7;nofun
   (try ((with_reducible refine Nxt.go (by assumption) ?_);nofun))
   nofun;refine ixT (i:=2) (SqT.of (O _ _ J)) rfl ?_;nofun;refine ⟨a,fl,zl,xs,zz,ts,stD ts (fT L) (fT M) o2,rfl,hS.same N,hR.mono (fun _ _ z=>z.sameT N.t),y.ok,g0,by rw [JaQ];exact g2.same N,O _ _ a6,a7.mono (fun _ _ z=>z.sameT O.t),by have:=congrArg List.length (JaQ (ts:=ts) (out:=o2) (f:=fT L) (g:=fT M));rw [length_map] at this;ac_nf,by rw [JaQ];exact o.1,fun z hz=>?_,fun t r=>?_,fun t r=>?_,fun H8 S8=>?_⟩
   ·rw [JaQ] at hz;rw [Jbx o.1 hz];exact sv_fb y c h0 hz
   ·rw [JaQ];exact ⟨(o.2.2 _).mpr ⟨t,r, .inl rfl⟩,(o.2.2 _).mpr ⟨t,r, .inr rfl⟩⟩
   ·have ms:t.st∈o2:=(o.2.2 _).mpr ⟨t,r, .inl rfl⟩;have me:t.en∈o2:=(o.2.2 _).mpr ⟨t,r, .inr rfl⟩;show okB t.lo t.hi (addF (look _ t.en) (negF (look _ t.st)))=true;rw [Jbx o.1 ms,Jbx o.1 me];exact JjA y c h0 o t r
   have R:=O.trans S8;have d8:=N.trans S8;nofun
   (try ((with_reducible refine Nxt.go (by assumption) ?_);nofun))
   nofun;refine ixT (i:=2) (SqT.of (R _ _ J)) rfl ?_;nofun;have d5:=a7.mono (P':=QV K H8) fun _ _ z=>z.sameT R.t;obtain ⟨as,qs,d7,c3,d2,b2,b0⟩:=QV.refs d5;refine ⟨zl,as,qs,rfl,by rw [<- d7];exact R _ _ a6,c3,d2,?_⟩;rename_i dd g1 f4 H8 H9 S9 e9;nofun
   (try ((with_reducible refine Nxt.go (by assumption) ?_);nofun))
   nofun;have a9:((stD ts (fT L) (fT M) o2).map (·.1)).Nodup:=by rw [JaQ];exact o.1
   obtain ⟨ve,d1,fe⟩:=Jb4 b2 a9 b0 (z:=other) (by rw [JaQ];exact m2);obtain ⟨vs,d3,fs⟩:=Jb4 b2 a9 b0 (z:=one) (by rw [JaQ];exact m1);rw [d9] at fe;rw [c4] at fs;refine ⟨dd,ve,rfl,by rw [<- d1];exact DGet.k (k:=Sum.inr other) e9,?_⟩;refine ⟨dd,vs,rfl,by rw [<- d3];exact DGet.k (k:=Sum.inr one) e9,?_⟩;nofun;have e0:=(c.fb y.fb y.l70 he).w.mono (A:=1000) (B:=700) (C:=3000) (D:=3000) ⋯ ⋯;have c8:FW 3000 3000 ((0,1):Int × Int):=fb01.w.mono ⋯ ⋯;refine ⟨_,_,_,_,rfl,fe.same S9,fs.same S9,e0,c8,fun pm W b5 c9=>?_⟩;have j:=R.trans (S9.trans b5);have U:=S9.trans b5;nofun;refine ixT (i:=0) (SqT.of (j _ _ J)) rfl ?_;nofun;have u:FrV K W qv e.1.1 e.1.2:=a2.same j;have mn:FrV K W (.ref pm) e.1.1 e.1.2:=by
    have z:=FrV.of (K:=K) c9
    rwa [add0r a0] at z
   refine neF mn u ?_;nofun;rw [if_neg (by simp)];nofun
   (try ((with_reducible refine Nxt.go (by assumption) ?_);nofun))
   nofun;refine ixT (i:=0) (SqT.of (j _ _ J)) rfl ?_;refine ixF0 u ?_;nofun;refine ixT (i:=0) (SqT.of (j _ _ J)) rfl ?_;refine ixF1 u ?_;nofun;refine ⟨len2,?_⟩;rename_i pn f2 e7 W c2 S f1;nofun;nofun;refine ixT (i:=0) (SqT.of (S _ _ (j _ _ J))) rfl ?_;nofun;refine ⟨len2,?_⟩;rename_i po f9 f6 c2 V X c5;nofun;nofun;refine .inr ⟨true,rfl,?_⟩;refine ixL (i:=1) (SqL.of c5) rfl ?_;nofun;have c6:FrV K V (.ref tp) e.1.1 e.1.2:=by
    rw [(c.ent he).1];exact ⟨tp,rfl,c1.same (S8.trans (U.trans (S.trans X)))⟩
   refine eqF c6 (u.same (S.trans X)) ?_;nofun;exact k V (d8.trans (U.trans (S.trans X)))
  | false=>
   have c:TTd ts [other] L:=c;have he:lk L one=some e:=he;have a0:=c.lo y.fb y.l70 he;obtain ⟨qv,l,cx,zl,zz,J,a2,a3,a4,a5,a6,a7,a8⟩:=hs;have b1:e.2.length<=70:=by
    have:=(c.ent he).2.2.1;unfold ssD at this;rw [length_map] at this;ac_nf
   (try ((with_reducible refine Nxt.go (by assumption) ?_);nofun))
   nofun;refine ⟨p,_,dx,_,rfl,I _ _ hp,rfl,rfl,?_⟩;nofun;refine ⟨p,d,ts,F,x,one,other,rfl,hb.same I,y,h1,h2,fun g vl vg f5 f0 H3 S3 e3 t1 t2 bl bg=>?_⟩;nofun;refine .inr ⟨false,rfl,?_⟩;rw [t2.uniq c,he] at bl;have d4:FrV K H3 vl (subF (0,1) e.1).1 (subF (0,1) e.1).2:=bl;refine ixT (i:=0) (SqT.of e3) rfl ?_
   (try ((with_reducible refine Nxt.go (by assumption) ?_);nofun))
   nofun;refine ⟨len2,?_⟩;rename_i pa b9 b4 H3 H4 S4 e4;nofun;refine ⟨len2,?_⟩;rename_i pb b8 b3 H4 H5 S5 e5;nofun;refine ⟨len2,?_⟩;rename_i pc b7 b6 H5 Z S6 e6;nofun;nofun;refine .inr ⟨false,rfl,?_⟩;refine ixL (i:=0) (SqL.of e6) rfl ?_;nofun;refine ⟨_,_,rfl,SqT.of (S6 _ _ (S5 _ _ e4)),rfl,?_⟩;have n:=S4.trans (S5.trans S6)
   (try ((with_reducible refine Nxt.go (by assumption) ?_);nofun))
   nofun;have Y:=I.trans (S3.trans n);have G:Same H1 Z:=S2.trans (S3.trans n);have b:Same H2 Z:=S3.trans n;have c4:look (stD ts (fT L) (fT M) out) other=(0,1):=by rw [Jbx o.1 m2];exact Jcm c.self
   have d9:look (stD ts (fT L) (fT M) out) one=e.1:=by rw [Jbx o.1 m1];exact Jcm he
   have e2:o2=out:=f3.eq o;subst e2;nofun;refine ⟨"tuple", .inr ⟨rfl,_,SqT.of (b _ _ J)⟩,?_⟩;nofun;refine ⟨_, .inr (SqT.of (b _ _ J)),?_⟩;nofun;try rw [if_neg (by simp)]
   refine ixT (i:=0) (SqT.of (b _ _ J)) rfl ?_;nofun;have d6:FrV K Z qv (subF (0,1) e.1).1 (subF (0,1) e.1).2:=a2.same b;have d0:FrV K Z vl (subF (0,1) e.1).1 (subF (0,1) e.1).2:=d4.same n;refine neF d6 d0 ?_;nofun;rw [if_neg (by simp)];nofun;refine ixT (i:=1) (SqT.of (b _ _ J)) rfl ?_;nofun;refine ⟨"list", .inl ⟨rfl,_,SqL.of (b _ _ a3)⟩,?_⟩;nofun
   (try ((with_reducible refine Nxt.go (by assumption) ?_);nofun))
   nofun;refine ixT (i:=1) (SqT.of (b _ _ J)) rfl ?_;nofun;refine ⟨sp,_,_,l,zs,cx,ts,e.2,rfl,SqL.of (G _ _ e1),hZ.mono (fun _ _ z=>z.sameT G.t),f7,y.fb,c0,b _ _ a3,a4.mono (fun _ _ z=>z.sameT b.t),c.root he,b1,fun tp H7 S7 c1=>?_⟩;have O:=b.trans S7;have N:=Y.trans S7;nofun
   (try ((with_reducible refine Nxt.go (by assumption) ?_);nofun))
   nofun;refine ixT (i:=2) (SqT.of (O _ _ J)) rfl ?_;nofun;refine ⟨a,fl,zl,xs,zz,ts,stD ts (fT L) (fT M) o2,rfl,hS.same N,hR.mono (fun _ _ z=>z.sameT N.t),y.ok,g0,by rw [JaQ];exact g2.same N,O _ _ a6,a7.mono (fun _ _ z=>z.sameT O.t),by have:=congrArg List.length (JaQ (ts:=ts) (out:=o2) (f:=fT L) (g:=fT M));rw [length_map] at this;ac_nf,by rw [JaQ];exact o.1,fun z hz=>?_,fun t r=>?_,fun t r=>?_,fun H8 S8=>?_⟩
   ·rw [JaQ] at hz;rw [Jbx o.1 hz];exact sv_fb y c h0 hz
   ·rw [JaQ];exact ⟨(o.2.2 _).mpr ⟨t,r, .inl rfl⟩,(o.2.2 _).mpr ⟨t,r, .inr rfl⟩⟩
   ·have ms:t.st∈o2:=(o.2.2 _).mpr ⟨t,r, .inl rfl⟩;have me:t.en∈o2:=(o.2.2 _).mpr ⟨t,r, .inr rfl⟩;show okB t.lo t.hi (addF (look _ t.en) (negF (look _ t.st)))=true;rw [Jbx o.1 ms,Jbx o.1 me];exact JjA y c h0 o t r
   have R:=O.trans S8;have d8:=N.trans S8;nofun
   (try ((with_reducible refine Nxt.go (by assumption) ?_);nofun))
   nofun;refine ixT (i:=2) (SqT.of (R _ _ J)) rfl ?_;nofun;have d5:=a7.mono (P':=QV K H8) fun _ _ z=>z.sameT R.t;obtain ⟨as,qs,d7,c3,d2,b2,b0⟩:=QV.refs d5;refine ⟨zl,as,qs,rfl,by rw [<- d7];exact R _ _ a6,c3,d2,?_⟩;rename_i dd g1 f4 H8 H9 S9 e9;nofun
   (try ((with_reducible refine Nxt.go (by assumption) ?_);nofun))
   nofun;have a9:((stD ts (fT L) (fT M) o2).map (·.1)).Nodup:=by rw [JaQ];exact o.1
   obtain ⟨ve,d1,fe⟩:=Jb4 b2 a9 b0 (z:=other) (by rw [JaQ];exact m2);obtain ⟨vs,d3,fs⟩:=Jb4 b2 a9 b0 (z:=one) (by rw [JaQ];exact m1);rw [c4] at fe;rw [d9] at fs;refine ⟨dd,ve,rfl,by rw [<- d1];exact DGet.k (k:=Sum.inr other) e9,?_⟩;refine ⟨dd,vs,rfl,by rw [<- d3];exact DGet.k (k:=Sum.inr one) e9,?_⟩;nofun;have e0:=(c.fb y.fb y.l70 he).w.mono (A:=1000) (B:=700) (C:=3000) (D:=3000) ⋯ ⋯;have c8:FW 3000 3000 ((0,1):Int × Int):=fb01.w.mono ⋯ ⋯;refine ⟨_,_,_,_,rfl,fe.same S9,fs.same S9,c8,e0,fun pm W b5 c9=>?_⟩;have j:=R.trans (S9.trans b5);have U:=S9.trans b5;nofun;refine ixT (i:=0) (SqT.of (j _ _ J)) rfl ?_;nofun;have u:FrV K W qv (subF (0,1) e.1).1 (subF (0,1) e.1).2:=a2.same j;have mn:FrV K W (.ref pm) (subF (0,1) e.1).1 (subF (0,1) e.1).2:=by
    have z:=FrV.of (K:=K) c9;rw [add0l a0] at z;rw [sub0 a0];exact z
   refine neF mn u ?_;nofun;rw [if_neg (by simp)];nofun
   (try ((with_reducible refine Nxt.go (by assumption) ?_);nofun))
   nofun;refine ixT (i:=0) (SqT.of (j _ _ J)) rfl ?_;refine ixF0 u ?_;nofun;refine ixT (i:=0) (SqT.of (j _ _ J)) rfl ?_;refine ixF1 u ?_;nofun;refine ⟨len2,?_⟩;rename_i pn f2 e7 W c2 S f1;nofun;nofun;refine ixT (i:=0) (SqT.of (S _ _ (j _ _ J))) rfl ?_;nofun;refine ⟨len2,?_⟩;rename_i po f9 f6 c2 V X c5;nofun;nofun;refine .inr ⟨false,rfl,?_⟩;refine ixL (i:=0) (SqL.of c5) rfl ?_;nofun;have c6:FrV K V (.ref tp) e.1.1 e.1.2:=by
    rw [(c.ent he).1];exact ⟨tp,rfl,c1.same (S8.trans (U.trans (S.trans X)))⟩
   have e8:FrV K V (.ref pn) e.1.1 e.1.2:=by
    have z:=FrV.of (K:=K) (X _ _ f1);rw [sub0 a0] at z;have z2:FrV K V (.ref pn) (- -e.1.1) e.1.2:=z
    rwa [Int.neg_neg] at z2
   refine eqF c6 e8 ?_;nofun;exact k V (d8.trans (U.trans (S.trans X)))
abbrev BbY:Stmt:=top 63
theorem JbG:Jan ["_law_script","_law_faces_here","_law_places_here","_law_ties","_law_many","_law_k","_law_there","_law_one","_law_other","_law_book","_law_apart","_law_found","_law_kept"] ["_law_script"] (Jad BbY):=by bv_decide
def Bb4 (K:W.Frag):Sp:=fun vs H Q E=>∃ (a:Addr) (ns:List Int),vs=[.ref a]/\SqL K H a (ns.map V.int)/\ns.length<=63/\∀ H',Q (.bl true) H'
theorem JkX (F:FunD K "law" "law" BbY dV f fd) (T:Txt K mg Ad) (Bad:Cal P w K mg base 1 "_law_cell_at" ["_law_script","_law_k"] [] (Jbw K)) (Bbv:Cal P w K mg base 3 "_law_places" ["_law_script","_law_faces_here"] [] (Jcj K)) (BbN:Cal P w K mg base 5 "_law_tie" ["_law_cell","_law_k","_law_places_here","_law_free"] [] (Jdh K)) (k_Book:KCal P w K mg base 7 "Book" Ad.Book ["self","ties"] (JbC K Ad)) (BbB:Cal P w K mg base 9 "_law_side" ["_law_book","_law_ties","_law_faces_here","_law_one","_law_other","_law_most"] [] (JcR K Ad)) (Bat:Cal P w K mg base 1 "_law_faces" [] [] (JbT)) (Bag:Cal P w K mg base 4 "_law_minus" ["_law_one","_law_other"] [] (Jbj K)) (Bbw:Cal P w K mg base 2 "_law_within" ["_law_gap","_law_apart"] [] (Jck K)) (m_gap:MCal P w K mg base 8 "gap" (JaS Ad) ["self","one","other"] (Jce K Ad)) (m_shownd1:MCalD P w K mg base 8 "shown" (JaS Ad) ["self","one","other","most"] [.bl true] (Ja6 K Ad)) (m_shown:MCal P w K mg base 8 "shown" (JaS Ad) ["self","one","other","most"] (Ja6 K Ad)) (m_ties:MCal P w K mg base 2 "ties" (JaS Ad) ["self"] (Jct K Ad)):FnOk P w K mg base (CX1 P w) 10 f fd ["_law_script"] (Bb4 K):=by
 refine F.okn JbG (by subst_eqs) (fun y6 A s5 s H vs Q E D h=>?_)
 obtain ⟨a,ns,rfl,h⟩:=h;have hu:=D.units;refine ⟨_,(Jab (Jaj (i:=1) JbG.nd rfl (Or.inl rfl) (pe_op JaZ Jae (pe_op JaD (Bad.ev D ⋯ rfl passF (Jaa (pv 0) (Jaa Jae Jac)) (he:=by exact Jah rfl)) Jae)))
   (Jab (ps_if (Jaq (Jcn hu) (pe_op JaD (pe_op Jav (Bad.ev D ⋯ rfl passF (Jaa (pv 0) (Jaa Jae Jac)) (he:=by exact Jah rfl)) Jae) Jae) Jae (Jas _))
   (Jaf (Jaj (i:=1) JbG.nd rfl (Or.inl rfl) Jae))
   Jap)
   (Jab (Jaj (i:=2) JbG.nd rfl (Or.inl rfl) (Bbv.ev D ⋯ rfl passF (Jaa (pv 0) (Jaa (pv 1) Jac)) (he:=by exact Jah rfl)))
   (Jab (Jaj (i:=3) JbG.nd rfl (Or.inl rfl) (Jby Jac))
   (Jab (Jaj (i:=4) JbG.nd rfl (Or.inl rfl) (pe_op JaZ Jae (Jat JaG rfl T.BbC JbE (Jaa (Ji4 sl_V (pv 0) (Jir Jae) (Jir Jae)) Jac))))
   (Jab (ps_if (Jaq JgW (pe_op JaD (pe_op Jav (Bad.ev D ⋯ rfl passF (Jaa (pv 0) (Jaa Jae Jac)) (he:=by exact Jah rfl)) Jae) Jae) Jae (Jas _))
   (Jaf (Jaj (i:=4) JbG.nd rfl (Or.inl rfl) (pe_op JaZ Jae (pe_op JaD (pe_op Jav (Bad.ev D ⋯ rfl passF (Jaa (pv 0) (Jaa Jae Jac)) (he:=by exact Jah rfl)) Jae) Jae))))
   Jap)
   (Jab (Ja7 PassesOwn.never rfl (JcW rfl T.BbS (Jaa (pv 4) Jac)) (Jar (i:=5) JbG.nd rfl (Or.inl rfl))
   (Jaf (Ja0 (pe_bm PySem.F.plainAttrs_list PySem.F.slot_list_append PySem.F.type_list_append JaY (pv 3) (Jaa (BbN.ev D ⋯ rfl passF (Jaa (Bad.ev D ⋯ rfl passF (Jaa (pv 0) (Jaa (pe_op JaZ Jae (pv 5)) Jac)) (he:=by exact Jah rfl)) (Jaa (pv 5) (Jaa (pv 2) (Jaa (Jbl (Jcn hu) (pe_op JaD (pe_op Jav (Bad.ev D ⋯ rfl passF (Jaa (pv 0) (Jaa Jae Jac)) (he:=by exact Jah rfl)) Jae) Jae) Jae (Jas _)) Jac)))) (he:=by exact Jah rfl)) Jac) (hs:=by exact Jah rfl)))))
   (Jab (Jaj (i:=6) JbG.nd rfl (Or.inl rfl) (Jgj rfl rfl rfl rfl T.BbT JdE rfl T.n_set JkD (Jaa (pe_op JaZ (JcL (own:=["_law_tie_here"]) (cs:=[]) (cl:=[]) rfl (pi_U (pv 3)) (fun _ _ _ _=>(Jar (i:=0) (show [("_law_tie_here" : Str)].Nodup by decide) rfl (Or.inl rfl))) (fun _ _ _ _=>(pe_ix (ix_UK (K:=K) rfl) (pv 0) Jae (fun _ _=>rfl))) rfl ⋯ rfl ⋯ hcl0 (hhas0 ⋯) hcs0) (JcL (own:=["_law_tie_here"]) (cs:=[]) (cl:=[]) rfl (pi_U (pv 3)) (fun _ _ _ _=>(Jar (i:=0) (show [("_law_tie_here" : Str)].Nodup by decide) rfl (Or.inl rfl))) (fun _ _ _ _=>(pe_ix (ix_UK (K:=K) rfl) (pv 0) Jae (fun _ _=>rfl))) rfl ⋯ rfl ⋯ hcl0 (hhas0 ⋯) hcs0)) Jac)))
   (Jab (Jaj (i:=7) JbG.nd rfl (Or.inl rfl) (pe_ix ix_U (pv 6) (pe_op JaD (Bad.ev D ⋯ rfl passF (Jaa (pv 0) (Jaa Jae Jac)) (he:=by exact Jah rfl)) (Jat JaG rfl T.BbC JbE (Jaa (pv 6) Jac))) (fun _ _=>rfl)))
   (Jab (Jaj (i:=8) JbG.nd rfl (Or.inl rfl) (pe_ix ix_U (pv 6) (pe_op JaD (pe_op Jav (Bad.ev D ⋯ rfl passF (Jaa (pv 0) (Jaa Jae Jac)) (he:=by exact Jah rfl)) Jae) (Jat JaG rfl T.BbC JbE (Jaa (pv 6) Jac))) (fun _ _=>rfl)))
   (Jab (Jaj (i:=9) JbG.nd rfl (Or.inl rfl) (k_Book.ev D ⋯ rfl passF (Jaa (pv 3) Jac)))
   (Jab (ps_if (PW.pt (pw_or (JbF (Jbb (BbB.ev D ⋯ rfl passF (Jaa (pv 9) (Jaa (pv 3) (Jaa (pv 6) (Jaa (pv 7) (Jaa (pv 8) (Jaa pe_bl Jac)))))) (he:=by exact Jah rfl)))) (JbK (JbF (Jbb (BbB.ev D ⋯ rfl passF (Jaa (pv 9) (Jaa (pv 3) (Jaa (pv 6) (Jaa (pv 7) (Jaa (pv 8) (Jaa pe_bl Jac)))))) (he:=by exact Jah rfl)))))))
   (Jaf (Jam pe_bl))
   Jap)
   (Jab (Jaj (i:=10) JbG.nd rfl (Or.inl rfl) (Bag.ev D ⋯ rfl passF (Jaa (pe_ix ix_U (pv 2) (pe_bm PySem.F.plainAttrs_list PySem.F.slot_list_index PySem.F.type_list_index JgT (Bat.ev0 D ⋯ rfl passF) (Jaa (pv 8) Jac)) (fun _ _=>rfl)) (Jaa (pe_ix ix_U (pv 2) (pe_bm PySem.F.plainAttrs_list PySem.F.slot_list_index PySem.F.type_list_index JgT (Bat.ev0 D ⋯ rfl passF) (Jaa (pv 7) Jac)) (fun _ _=>rfl)) Jac)) (he:=by exact Jah rfl)))
   (Jab (ps_if (PW.pt (pw_or (JbF (Jbb (Bbw.ev D ⋯ rfl passF (Jaa (m_gap.m D ⋯ passF (pv 9) (Jaa (pv 7) (Jaa (pv 8) Jac))) (Jaa (pv 10) Jac)) (he:=by exact Jah rfl)))) (JbK (Jaq (Jb7 hu) (m_gap.m D ⋯ passF (pv 9) (Jaa (pv 7) (Jaa (pv 7) Jac))) (JaE (Jaa (JaE (Jaa Jae (Jaa Jae Jac))) (Jaa (JaE (Jaa Jae (Jaa Jae Jac))) Jac))) (Jas _)))))
   (Jaf (Jam pe_bl))
   Jap)
   (Jab (Jaj (i:=11) JbG.nd rfl (Or.inl rfl) (m_shownd1.m D ⋯ passF (pv 9) (Jaa (pv 7) (Jaa (pv 8) Jac))))
   (Jab (ps_if (Jaq JbQ (pv 11) JaM (Jas _))
   (Jab (Jaj (i:=12) JbG.nd rfl (Or.inl rfl) (JaE (Jaa (pe_ix ix_U (pv 11) Jae (fun _ _=>rfl)) (Jaa (JbJ Jeo rfl T.Bb5 JdD (Jaa (pe_ix ix_U (pv 11) Jae (fun _ _=>rfl)) Jac)) (Jaa (JbJ Jeo rfl T.Bb5 JdD (Jaa (pe_ix ix_U (pv 11) Jae (fun _ _=>rfl)) Jac)) Jac)))))
   (Jab (Ja0 (Jjz PySem.F.plainAttrs_list PySem.F.slot_list_clear PySem.F.type_list_clear JgS (pe_ix ix_U (pv 11) Jae (fun _ _=>rfl))))
   (Jab (Ja0 (Jjz PySem.F.plainAttrs_list PySem.F.slot_list_clear PySem.F.type_list_clear JgS (pe_ix ix_U (pv 11) Jae (fun _ _=>rfl))))
   (Jaf (Jaj (i:=11) JbG.nd rfl (Or.inl rfl) (pv 12))))))
   Jap)
   (Jaf (Jam (Jdl (Jbl (Jcn hu) (m_shown.m D ⋯ passF (pv 9) (Jaa (pv 7) (Jaa (pv 8) (Jaa pe_bl Jac)))) (pv 11) (Jas _)) (Jdm (Jbl (Jcn hu) (m_ties.m0 D ⋯ passF (pv 9)) (pv 3) (Jas _)))))))))))))))))))))),?_⟩
 clear hu;obtain ⟨hS,hl,k⟩:=h;have sl:(1000:Nat)<=sizeLine:=by decide
 show tSeq _ _ _ [some (.ref a),none,none,none,none,none,none,none,none,none,none,none,none] H;nofun;refine ⟨a,ns,0,rfl,hS,hl,by decide,fun c0=>?_⟩;nofun;repeat (refine And.intro (by first | exact Jbn ⋯ | exact Jbp ⋯ | exact Jbo ⋯ | exact JaX ⋯ | exact Int.one_ne_zero | decide) ?_)
 nofun;have qf:=Mth.fm (x:=c0) (y:=4) ⋯
 (try ((with_reducible refine Nxt.go (by assumption) ?_);nofun))
 nofun;refine ⟨a,ns,1,rfl,hS,hl,by decide,fun c1=>?_⟩;nofun;repeat (refine And.intro (by first | exact Jbn ⋯ | exact Jbp ⋯ | exact Jbo ⋯ | exact JaX ⋯ | exact Int.one_ne_zero | decide) ?_)
 nofun;rename_i N hN;have key:∀ f:Nat,2<=f->f<=8->N [some (.ref a),some (.int (f:Int)),none,none,none,none,none,none,none,none,none,none,none] H:=by
  intro f m4 u5
  (try ((with_reducible refine Nxt.go (by assumption) ?_);nofun))
  nofun;refine ⟨a,ns,f,rfl,hS,hl,u5,fun pl ys ls H1 y0 S1 e1 hL z5 hB=>?_⟩
  (try ((with_reducible refine Nxt.go (by assumption) ?_);nofun))
  nofun;refine ⟨len0,?_⟩;rename_i tl m6 w6 H1 H2 S2 e2;nofun;have m2:=S1.trans S2
  (try ((with_reducible refine Nxt.go (by assumption) ?_);nofun))
  nofun;refine .inl (.inl ⟨a,_,rfl,hS.same m2,?_⟩);rename_i cl x0 x2 H2 H3 S3 e3;nofun;have w9:=JjO (xs:=ns.map V.int);nofun;refine ⟨_, .inl (SqL.of e3),?_⟩;nofun;have k4:=m2.trans S3
  (try ((with_reducible refine Nxt.go (by assumption) ?_);nofun))
  nofun;refine ⟨a,ns,0,rfl,hS.same k4,hl,by decide,fun c2=>?_⟩;nofun;repeat (refine And.intro (by first | exact Jbn ⋯ | exact Jbp ⋯ | exact Jbo ⋯ | exact JaX ⋯ | exact Int.one_ne_zero | decide) ?_)
  nofun;rename_i N2 z6;have h5:∀ m:Nat,1<=m->m<=33->N2 [some (.ref a),some (.int (f:Int)),some (.ref pl),some (.ref tl),some (.int (m:Int)),none,none,none,none,none,none,none,none] H3:=by
   intro m z1 x8
   (try ((with_reducible refine Nxt.go (by assumption) ?_);nofun))
   nofun;refine ⟨_,rfl,by ac_nf,by ac_nf,?_⟩;refine ForR.byN (fun i σ H'=>∃ (v5:Option V) (xs:List V) (ts:List TD),σ=[some (.ref a),some (.int (f:Int)),some (.ref pl),some (.ref tl),some (.int (m:Int)),v5,none,none,none,none,none,none,none]/\Same H1 H'/\H' tl=some (.lst xs)/\All2 (TV K H') ts xs/\ts.length=i/\(∀ t∈ts,TG3 ls t)/\∀ (j:Nat) (t:TD),ts[j]?=some t->t.nm=⟨#[97+j/6,97+j % 6]⟩) ⟨none,[],[],rfl,S2.trans S3,S3 _ _ e2,rfl,rfl,(fun t p=>by cases p),(fun j t p=>by simp at p)⟩ ?_ ?_
   ·rintro i σ H4 hi ⟨v5,xs,ts,rfl,S4,e4,hA,i0,hG,j3⟩ N0 v4;have la:=hA.length;nofun;refine ⟨.inl ⟨rfl,_,SqL.of e4⟩,?_⟩;nofun;refine ⟨a,ns,_,rfl,(hS.same S1).same S4,hl,by ac_nf,fun c3=>?_⟩;nofun;refine ⟨a,ns,0,rfl,(hS.same S1).same S4,hl,by decide,fun c4=>?_⟩;nofun;repeat (refine And.intro (by first | exact Jbn ⋯ | exact Jbp ⋯ | exact Jbo ⋯ | exact JaX ⋯ | exact Int.one_ne_zero | decide) ?_)
    nofun;refine ⟨c3,i,pl,_,ys,ls,by rw [Int.zero_add],by ac_nf,SqL.of (S4 _ _ e1),hL.mono (P':=fun (l:Int × Int) x=>FrV K H4 x l.1 l.2) fun _ _ z=>z.sameT S4.t,by ac_nf,by ac_nf,hB,fun x t i' j' li lj H5 S5 tv ok g1 g2 g3 g4 g5 g6 g7 g8=>?_⟩;nofun;refine ⟨tl,_,_,rfl,rfl,S5 _ _ e4,by ac_nf,?_⟩;generalize u6:upd H5 tl _=H6;nofun;have e6:=putE u6;have k9:SameT H5 H6:=SameT.put u6 (S5 _ _ e4) rfl;refine v4 _ _ ⟨_,xs++[x],ts++[t],rfl,fun bb u hb=>?_,e6,?_,by simp [i0],fun t' g=>?_,fun j t' g=>?_⟩
    ·rw [<- u6,Jai (Jag hb m6)];exact S5 _ _ (S4 _ _ hb)
    ·exact (hA.mono (P':=TV K H6) fun _ _ z=>(z.sameT S5.t).sameT k9).append (.one (tv.sameT k9))
    ·rcases mem_append.mp g with h' | h'
     ·exact hG _ h'
     ·rw [mem_singleton.mp h'];exact ⟨ok,⟨i',j',li,lj,g1,g2,g3,g4,g5⟩,g7,g8⟩
    ·by_cases c:j<ts.length
     ·rw [List.getElem?_append_left c] at g;exact j3 j t' g
     ·have lj:=(List.getElem?_eq_some_iff.mp g).1;rw [length_append,length_singleton] at lj;have : j=ts.length:=by ac_nf
      subst this;rw [List.getElem?_append_right (Nat.le_refl _),Nat.sub_self] at g;cases g;rw [g6,i0]
   ·rintro σ H4 ⟨v5,xs,ts,rfl,S4,e4,hA,i0,hG,j3⟩;have la:=hA.length;have r0:ts.length=m:=by ac_nf
    have J:=JkA (fun l hl=>(hB l hl).b1) hG ∅;have l9:=Jj8 j3;have l3:=Jh2 (ts:=ts) l9;nofun;refine ⟨tl,rfl, .inl ⟨⟨xs,SqL.of e4⟩,CompJ.list (xs:=xs) (fun i ws H'=>H'=H4/\ws=((ts.take i).map (·.st)).map V.str) ⟨rfl,rfl⟩ (fun i ws H' hi z=>⟨by rw [z.1];exact SqL.of e4,by rw [z.2];simp only [length_map,length_take];ac_nf⟩) ?_ ?_⟩⟩
    ·rintro i x ws H' hx ⟨rfl,rfl⟩;simpa only [length_singleton,length_cons,length_nil,List.replicate,JaB,map_cons,map_nil,Option.join_some];obtain ⟨t,p,b,vl,vg,rfl,hq,_,_⟩:=hA.at_ hx;refine ixT (i:=1) hq rfl ?_;nofun;rw [take_succ,p];simp
    rintro ws H' ⟨rfl,rfl⟩;rw [take_of_length_le ∅];rename_i o8 o1 n9 H' H5 S5 e5;nofun;have r5:=hA.mono (P':=TV K H5) fun _ _ z=>z.sameT S5.t;have k0:=S5 _ _ e4;nofun;refine ⟨tl,rfl, .inl ⟨⟨xs,SqL.of k0⟩,CompJ.list (xs:=xs) (fun i ws H'=>H'=H5/\ws=((ts.take i).map (·.en)).map V.str) ⟨rfl,rfl⟩ (fun i ws H' hi z=>⟨by rw [z.1];exact SqL.of k0,by rw [z.2];simp only [length_map,length_take];ac_nf⟩) ?_ ?_⟩⟩
    ·rintro i x ws H' hx ⟨rfl,rfl⟩;simpa only [length_singleton,length_cons,length_nil,List.replicate,JaB,map_cons,map_nil,Option.join_some];obtain ⟨t,p,b,vl,vg,rfl,hq,_,_⟩:=r5.at_ hx;refine ixT (i:=2) hq rfl ?_;nofun;rw [take_succ,p];simp
    rintro ws s9 ⟨rfl,rfl⟩;rw [take_of_length_le ∅];intro l7 h7;generalize e0:upd s9 l7 _=H6;have S6:=newS h7 e0;have e6:=newE e0;nofun;refine .inl ⟨o8,l7,_,_,rfl,rfl,S6 _ _ e5,e6,by simp only [length_map];ac_nf,?_⟩;rename_i lc x3 w8 H6 H7 S7 e7;nofun;nofun;refine ⟨lc,ts.map (·.st)++ts.map (·.en),rfl,by rw [map_append];exact SqL.of e7,by simp only [length_append,length_map];ac_nf,⟨faceM,by decide,fun z hz=>?_⟩,fun so o l8 v6 m5 q1=>?_⟩
    ·rcases mem_append.mp hz with hz | hz
     ·obtain ⟨t,p,rfl⟩:=mem_map.mp hz;exact (J.fm t p).1
     ·obtain ⟨t,p,rfl⟩:=mem_map.mp hz;exact (J.fm t p).2
    generalize h6:upd H7 so _=H8;have S8:=newS l8 h6;have e8:=newE h6;have f6:=S5.trans (S6.trans (S7.trans S8));have hF:Jbz ts o:=⟨v6,q1,fun z=>by
     rw [m5 z];constructor
     ·intro hz;rcases mem_append.mp hz with hz | hz
      ·obtain ⟨t,p,rfl⟩:=mem_map.mp hz;exact ⟨t,p, .inl rfl⟩
      ·obtain ⟨t,p,rfl⟩:=mem_map.mp hz;exact ⟨t,p, .inr rfl⟩
     ·rintro ⟨t,p,rfl | rfl⟩
      ·exact List.mem_append_left _ (mem_map.mpr ⟨t,p,rfl⟩)
      ·exact mem_append_right _ (mem_map.mpr ⟨t,p,rfl⟩)⟩
    have y9:1<=o.length:=by
     obtain ⟨t,p⟩:∃ t,t∈ts:=by
      cases ts with
      | nil=>simp at r0;ac_nf
      | cons t _=>exact ⟨t,mem_cons_self⟩
     have : t.st∈o:=(hF.2.2 _).mpr ⟨t,p, .inl rfl⟩;exact List.length_pos_of_mem this
    have k1:=S1.trans (S4.trans f6)
    (try ((with_reducible refine Nxt.go (by assumption) ?_);nofun))
    nofun;refine ⟨a,ns,1,rfl,hS.same k1,hl,by decide,fun c5=>?_⟩;nofun;refine ⟨_, .inl (SqL.of e8),?_⟩;try simpa only [length_map]
    refine ⟨by ac_nf,?_⟩;have q5:=Mth.fm (x:=c5) (y:=(o.length:Int)) ∅;obtain ⟨i1,v0⟩:=Int.eq_ofNat_of_zero_le q5.1;rw [v0];have n7:i1<o.length:=by ac_nf
    refine ixL (i:=i1) (SqL.of e8) (v:=.str o[i1]) (by rw [List.getElem?_map,List.getElem?_eq_getElem n7];rfl) ?_
    (try ((with_reducible refine Nxt.go (by assumption) ?_);nofun))
    nofun;refine ⟨a,ns,1,rfl,hS.same k1,hl,by decide,fun c6=>?_⟩;nofun;repeat (refine And.intro (by first | exact Jbn ⋯ | exact Jbp ⋯ | exact Jbo ⋯ | exact JaX ⋯ | exact Int.one_ne_zero | decide) ?_)
    refine ⟨_, .inl (SqL.of e8),?_⟩;try simpa only [length_map]
    refine ⟨by ac_nf,?_⟩;have q6:=Mth.fm (x:=c6.fdiv 5) (y:=(o.length:Int)) ∅;obtain ⟨i2,u7⟩:=Int.eq_ofNat_of_zero_le q6.1;rw [u7];have n6:i2<o.length:=by ac_nf
    refine ixL (i:=i2) (SqL.of e8) (v:=.str o[i2]) (by rw [List.getElem?_map,List.getElem?_eq_getElem n6];rfl) ?_;have h1:=(hF.2.2 o[i1]).mp (List.getElem_mem n7);have h2:=(hF.2.2 o[i2]).mp (List.getElem_mem n6);generalize o[i1]=one at *;generalize o[i2]=other at *
    (try ((with_reducible refine Nxt.go (by assumption) ?_);nofun))
    nofun;intro R i6 l4 s4 w7;have Sm:Same H8 (upd (upd H8 i6 (.own R)) R (.ins Ad.Book i6 [])):=fun b u q=>by rw [Jai (Jag q l4),Jai (Jag q s4)];exact q
    have f5:=f6 _ _ e4;have j8:=hA.mono (P':=TV K H8) fun _ _ z=>z.sameT f6.t;refine ⟨R,i6,tl,xs,ts,H8,rfl,Jau,l4,Sm,SqL.of f5,j8,J.ok,l9,J.l35,fun d H9 S9 hd b6=>⟨rfl,?_⟩⟩;have t8:=f6.trans S9
    (try ((with_reducible refine Nxt.go (by assumption) ?_);nofun))
    nofun;have i3:=j8.mono (P':=TV K H9) fun _ _ z=>z.sameT S9.t;refine ⟨R,d,tl,so,ts,faceM,plcM ls,xs,one,other,true,o,rfl,b6,J,SqL.of (S9 _ _ f5),i3,SqL.of (S9 _ _ e8),hF,h1,h2,l3,fun z7 b5=>?_⟩;nofun;have i8:=b6.same b5;refine ⟨R,d,tl,so,ts,faceM,plcM ls,xs,one,other,false,o,rfl,i8,J,SqL.of (b5 _ _ (S9 _ _ f5)),i3.mono (fun _ _ z=>z.sameT b5.t),SqL.of (b5 _ _ (S9 _ _ e8)),hF,h1,h2,l3,fun r9 k5=>?_⟩;nofun
    (try ((with_reducible refine Nxt.go (by assumption) ?_);nofun))
    nofun;obtain ⟨j2,p2,f2,g2⟩:=JhQ hG h2;obtain ⟨j1,p1,f1,g1⟩:=JhQ hG h1;obtain ⟨y2,u0,t0⟩:=hL.get g2;obtain ⟨y1,r8,p6⟩:=hL.get g1;have b2:=hB p2 (List.mem_of_getElem? g2);have b1:=hB p1 (List.mem_of_getElem? g1);have h3:Same H1 r9:=S4.trans (t8.trans (b5.trans k5));refine ⟨(),rfl,fun z3 y7 w1 h8 m1=>?_⟩;nofun;refine ⟨.inl ⟨rfl,_,SqL.of m1⟩,?_⟩;refine ⟨z3,faceM,other,j2,rfl,rfl,m1,f2,fun m' o4 z=>absurd (JdJ z f2) ∅,?_⟩;refine ixL (i:=j2) (SqL.of (h8 _ _ (h3 _ _ e1))) u0 ?_;nofun;refine ⟨(),rfl,fun z4 v1 x7 n0 k3=>?_⟩;nofun;refine ⟨.inl ⟨rfl,_,SqL.of k3⟩,?_⟩;refine ⟨z4,faceM,one,j1,rfl,rfl,k3,f1,fun m' o4 z=>absurd (JdJ z f1) ∅,?_⟩;have d8:Same H1 v1:=h3.trans (h8.trans n0);refine ixL (i:=j1) (SqL.of (d8 _ _ e1)) r8 ?_;nofun;refine ⟨_,_,p2,p1,rfl,t0.same d8,p6.same d8,b2.w.mono ⋯ ⋯,b1.w.mono ⋯ ⋯,fun ap n4 t9 t5=>?_⟩;have v8:FrV K n4 (.ref ap) (addF p2 (negF p1)).1 (addF p2 (negF p1)).2:=FrV.of t5;have k7:FB 144 6 (addF p2 (negF p1)):=b2.w.add (n:=143) (m:=6) b1.neg.w ⋯ ⋯ ⋯;have v7:vl (addF p2 (negF p1))=plcM ls other-plcM ls one:=by
     rw [Jc3 b2.b1 (show 1<=(negF p1).2 from b1.b1),JcI,JeY f2 g2,JeY f1 g1,Rat.sub_eq_add_neg]
    obtain ⟨⟨a9,d1⟩,_⟩:=id b6;have d6:Same H9 n4:=b5.trans (k5.trans (h8.trans (n0.trans t9)))
    (try ((with_reducible refine Nxt.go (by assumption) ?_);nofun))
    nofun;refine ⟨R,_,a9,_,rfl,d6 _ _ d1,rfl,rfl,?_⟩;nofun;refine ⟨R,d,ts,faceM,plcM ls,one,other,rfl,b6.same d6,J,h1,h2,fun gq p5 vg y5 y8 x9 l1 o5 t1 t2 bl bg=>?_⟩;nofun;refine ⟨gq,_,_,_,p5,vg,addF p2 (negF p1),rfl,o5,bl,bg,v8.same l1,k7.ok ⋯ ⋯,fun u hu=>?_,fun u hu=>?_,JjX J t1 t2 k7.b1 v7,?_⟩
    ·obtain ⟨q,hq,rfl⟩:=Option.map_eq_some_iff.mp hu;rw [sub0 (t2.lo J.fb J.l70 hq)];exact ((t2.fb J.fb J.l70 hq).neg).ok ⋯ ⋯
    ·obtain ⟨q,hq,rfl⟩:=Option.map_eq_some_iff.mp hu;exact (t1.fb J.fb J.l70 hq).ok ⋯ ⋯
    nofun;have d7:=d6.trans l1;refine ⟨R,_,a9,_,rfl,d7 _ _ d1,rfl,rfl,?_⟩;nofun;refine ⟨R,d,ts,faceM,plcM ls,one,one,rfl,b6.same d7,J,h1,h1,fun u2 l5 r4 y4 z0 e9 s1 u4 t3 t4 k6 m3=>?_⟩;rw [t4.self] at k6;rw [t3.self] at m3;have o0:FrV K e9 l5 0 1:=by
     have z:FrV K e9 l5 (subF (0,1) (0,1)).1 (subF (0,1) (0,1)).2:=k6;rw [sub0 lo01] at z;exact z
    have s2:FrV K e9 r4 0 1:=m3;nofun;refine ⟨len2,?_⟩;rename_i n1 x1 x4 e9 p4 o6 p0;nofun;refine ⟨len2,?_⟩;rename_i n2 w4 w5 p4 u9 j7 p3;nofun;refine ⟨len2,?_⟩;rename_i n3 x5 w3 u9 b9 j0 v3;nofun;have U:=o6.trans (j7.trans j0);have u1:Rep K b9 (.tup [frD (0,1),frD (0,1)]) (.ref u2):=by
     have r1:=(o0.same U).rep;have r2:=(s2.same U).rep;simp only [Rep,RepL,frD] at r1 r2 ⊢;exact ⟨_,_,rfl,SqT.of (U _ _ u4),_,_,rfl,r1,_,_,rfl,r2,rfl⟩
    have q8:Rep K b9 (.tup [frD (0,1),frD (0,1)]) (.ref n3):=by
     have r1:=(FrV.of (K:=K) (j0 _ _ (j7 _ _ p0))).rep;have r2:=(FrV.of (K:=K) (j0 _ _ p3)).rep;simp only [Rep,RepL,frD] at r1 r2 ⊢;exact ⟨_,_,rfl,SqT.of v3,_,_,rfl,r1,_,_,rfl,r2,rfl⟩
    nofun;refine ⟨_,_,u1,q8,by simp [depD,depL,frD],rfl,?_⟩;rw [JbP];nofun;have L:=d7.trans (s1.trans U)
    (try ((with_reducible refine Nxt.go (by assumption) ?_);nofun))
    nofun;refine ⟨R,_,a9,_,rfl,L _ _ d1,rfl,rfl,?_⟩;nofun;have G:=b6.same L;have g0:b9 tl=some (.lst xs):=L _ _ (S9 _ _ f5);have h4:=i3.mono (P':=TV K b9) fun _ _ z=>z.sameT L.t;refine ⟨R,d,ts,faceM,plcM ls,one,other,true,rfl,G,J,h1,h2,fun d5 tb d4 p hn=>?_,fun q tb e f7 o2 d5 d4 p he m4 h0 hs=>?_⟩
    ·have p:TTd ts [one] tb:=p;have hn:lk tb other=none:=hn
     (try ((with_reducible refine Nxt.go (by assumption) ?_);nofun))
     nofun
     (try ((with_reducible refine Nxt.go (by assumption) ?_);nofun))
     nofun;have i4:=G.same d4;have d2:=d4 _ _ (L _ _ d1);refine ⟨R,_,a9,_,rfl,d2,rfl,rfl,?_⟩;nofun;refine ⟨R,d,ts,faceM,plcM ls,one,other,true,rfl,i4,J,h1,h2,fun f8 I O g c8=>?_,fun q' I e' g9 Z f8 O g S _ _ _=>?_⟩
     ·nofun;have Y:=d4.trans O;have l0:=Y _ _ g0;have j9:=h4.mono (P':=TV K f8) fun _ _ z=>z.sameT Y.t;refine ⟨true,rfl,?_⟩;nofun;refine ⟨R,_,a9,_,rfl,(O _ _ d2),rfl,rfl,?_⟩;nofun;refine ⟨R,d,ts,rfl,(G.same Y),J.l35,fun j5 q9 Hz d0 hz ez j6=>?_⟩;have i7:Rep K Hz (.lst (ts.map tdD)) (.ref j5):=by
       simp only [Rep];exact ⟨_,_,rfl,SqL.of ez,j6.repL fun t v z=>z.rep⟩
      have j4:Rep K Hz (.lst (ts.map tdD)) (.ref tl):=by
       simp only [Rep];exact ⟨_,_,rfl,SqL.of (d0 _ _ l0),(j9.mono (P':=TV K Hz) fun _ _ z=>z.sameT d0.t).repL fun t v z=>z.rep⟩
      nofun;refine ⟨_,_,i7,j4,by have:=JhK ts;simp only [depD];ac_nf,rfl,?_⟩;rw [JbP];exact k Hz
     ·have g:TTd ts [one] I:=g;have S:lk I other=some e':=S;rw [g.uniq p,hn] at S;cases S
    ·have p:TTd ts [one] tb:=p;have he:lk tb other=some e:=he;obtain ⟨qv,l,cx,zl,zz,a1,a2,a3,a4,a5,a6,a7,a8⟩:=hs;have a2:FrV K d5 qv e.1.1 e.1.2:=a2;have a4:All2 (CV d5) (e.2.map fun s=>(s.nm,s.fw)) cx:=a4
     (try ((with_reducible refine Nxt.go (by assumption) ?_);nofun))
     nofun;refine ixT (i:=0) (SqT.of a1) rfl ?_;nofun;refine ixT (i:=1) (SqT.of a1) rfl ?_;nofun;refine ⟨l,cx,rfl, .inl (SqL.of a3),?_⟩;rename_i l2 b4 w0 d5 f8 O p8;nofun;nofun;refine ixT (i:=2) (SqT.of (O _ _ a1)) rfl ?_;nofun;refine ⟨zl,zz,rfl, .inl (SqL.of (O _ _ a6)),?_⟩;rename_i f0 M o7 f8 s6 m7 t6;nofun;refine ⟨by show 3<=sizeLine;ac_nf,?_⟩;rename_i kt x6 w2 s6 n5 h9 q3;nofun;have C:=O.trans (m7.trans h9)
     (try ((with_reducible refine Nxt.go (by assumption) ?_);nofun))
     nofun;refine ixT (i:=1) (SqT.of (C _ _ a1)) rfl ?_;nofun;have d9:=C _ _ a3;refine ⟨.inl ⟨rfl,_,SqL.of d9⟩,?_⟩;refine ⟨l,cx,rfl,rfl,d9,?_⟩;generalize b7:upd n5 l _=f4;nofun;have m8:SameT n5 f4:=SameT.put b7 d9 rfl;obtain ⟨w,hw⟩:∃ w,f4 zl=some (.lst w):=by
      by_cases c:zl=l
      ·rw [c];exact ⟨_,putE b7⟩
      ·exact ⟨zz,by rw [<- b7,Jai c];exact C _ _ a6⟩
     (try ((with_reducible refine Nxt.go (by assumption) ?_);nofun))
     nofun;refine ixT (i:=2) (SqT.of (m8 _ _ rfl (C _ _ a1))) rfl ?_;nofun;refine ⟨.inl ⟨rfl,_,SqL.of hw⟩,?_⟩;refine ⟨zl,w,rfl,rfl,hw,?_⟩;generalize f9:upd f4 zl _=W;nofun;have o9:SameT f4 W:=SameT.put f9 hw rfl;have b8:=m8.trans o9;have b0:Same b9 W:=fun c u h=>by rw [<- f9,Jai (Jag h a8), <- b7,Jai (Jag h a5)];exact C _ _ (d4 _ _ h)
     have n8:l2≠l:=fun z=>by rw [z,a3] at b4;cases b4
     have s3:l2≠zl:=fun z=>by rw [z,a6] at b4;cases b4
     have s7:f0≠l:=fun z=>by rw [z,O _ _ a3] at M;cases M
     have q2:f0≠zl:=fun z=>by rw [z,O _ _ a6] at M;cases M
     have s0:W l2=some (.lst cx):=by rw [<- f9,Jai s3, <- b7,Jai n8];exact h9 _ _ (m7 _ _ p8)
     have m9:W f0=some (.lst zz):=by rw [<- f9,Jai q2, <- b7,Jai s7];exact h9 _ _ t6
     have q4:W kt=some (.tup [qv, .ref l2, .ref f0]):=b8 _ _ rfl q3;have i9:SameT d5 W:=C.t.trans b8
     (try ((with_reducible refine Nxt.go (by assumption) ?_);nofun))
     nofun
     (try ((with_reducible refine Nxt.go (by assumption) ?_);nofun))
     nofun;have i5:=G.same b0;have d3:=b0 _ _ (L _ _ d1);refine ⟨R,_,a9,_,rfl,d3,rfl,rfl,?_⟩;nofun;refine ⟨R,d,ts,faceM,plcM ls,one,other,true,rfl,i5,J,h1,h2,fun B I X g c8=>?_,fun q' I e' g9 Z B X g S k2 p9 f3=>?_⟩
     ·have g:TTd ts [one] I:=g;have c8:lk I other=none:=c8;rw [g.uniq p,he] at c8;cases c8
     ·have g:TTd ts [one] I:=g;have S:lk I other=some e':=S;rw [g.uniq p,he] at S;cases S;have eo:Z=o2:=k2.eq m4;subst eo;have f3:ShV K W B (e.1,e.2) (stD ts (fT I) (fT g9) Z) q':=f3;rw [fT_eq g p,fT_eq p9 h0] at f3;obtain ⟨t7,l',r7,z2,q0,p7,u3,v9,o3,y3,s8,u8,z8⟩:=f3;have a0:=b0.trans X;have k8:=a0 _ _ g0;have l6:=h4.mono (P':=TV K B) fun _ _ z=>z.sameT a0.t;have b3:=i9.trans X.t;have r6:Rep K B (shD e (stD ts (fT tb) (fT f7) Z)) (.ref q'):=by
       have r1:Rep K B (.tup [.int e.1.1, .int e.1.2]) t7:=FrV.rep u3;have r2:RepL K B (e.2.map fun s=>prD (s.nm,s.fw)) r7:=by
        have:=o3.repL (f:=prD) (K:=K) fun c x z=>z.rep
        rwa [map_map] at this
       have r3:RepL K B ((stD ts (fT tb) (fT f7) Z).map qD) q0:=u8.repL fun r v z=>z.rep;simp only [shD,Rep,RepL,frD] at r1 ⊢;exact ⟨_,_,rfl,SqT.of p7,_,_,rfl,r1,_,_,rfl,⟨_,_,rfl,SqL.of v9,r2⟩,_,_,rfl,⟨_,_,rfl,SqL.of s8,r3⟩,rfl⟩
      have v2:Rep K B (shD e (stD ts (fT tb) (fT f7) Z)) (.ref kt):=by
       have r1:Rep K B (.tup [.int e.1.1, .int e.1.2]) qv:=FrV.rep (a2.sameT b3);have r2:RepL K B (e.2.map fun s=>prD (s.nm,s.fw)) cx:=by
        have:=(a4.mono (P':=CV B) fun _ _ z=>z.sameT b3).repL (f:=prD) (K:=K) fun c x z=>z.rep
        rwa [map_map] at this
       have r3:RepL K B ((stD ts (fT tb) (fT f7) Z).map qD) zz:=(a7.mono (P':=QV K B) fun _ _ z=>z.sameT b3).repL fun r v z=>z.rep;simp only [shD,Rep,RepL,frD] at r1 ⊢;exact ⟨_,_,rfl,SqT.of (X _ _ q4),_,_,rfl,r1,_,_,rfl,⟨_,_,rfl,SqL.of (X _ _ s0),r2⟩,_,_,rfl,⟨_,_,rfl,SqL.of (X _ _ m9),r3⟩,rfl⟩
      nofun;refine ⟨_,_,r6,v2,JkG _ _,rfl,?_⟩;rw [JbP];nofun;refine ⟨R,_,a9,_,rfl,(X _ _ d3),rfl,rfl,?_⟩;nofun;refine ⟨R,d,ts,rfl,(G.same a0),J.l35,fun j5 q9 Hz d0 hz ez j6=>?_⟩;have i7:Rep K Hz (.lst (ts.map tdD)) (.ref j5):=by
       simp only [Rep];exact ⟨_,_,rfl,SqL.of ez,j6.repL fun t v z=>z.rep⟩
      have j4:Rep K Hz (.lst (ts.map tdD)) (.ref tl):=by
       simp only [Rep];exact ⟨_,_,rfl,SqL.of (d0 _ _ k8),(l6.mono (P':=TV K Hz) fun _ _ z=>z.sameT d0.t).repL fun t v z=>z.rep⟩
      nofun;refine ⟨_,_,i7,j4,by have:=JhK ts;simp only [depD];ac_nf,rfl,?_⟩;rw [JbP];exact k Hz
  by_cases c9:0<(c2.fdiv 4).fmod 4
  ·rw [if_pos (by simpa using c9)];nofun;refine ⟨a,ns,0,rfl,hS.same k4,hl,by decide,fun c7=>?_⟩;simpa only [Option.isSome_none];repeat (refine And.intro (by first | exact Jbn ⋯ | exact Jbp ⋯ | exact Jbo ⋯ | exact JaX ⋯ | exact Int.one_ne_zero | decide) ?_)
   have q7:=Mth.fm (x:=c7.fdiv 16) (y:=6) ⋯;obtain ⟨m,hm⟩:∃ m:Nat,1+(c7.fdiv 16).fmod 6=(m:Int):=Int.eq_ofNat_of_zero_le ∅;try simpa only [Option.isSome_none]
   rw [hm];exact h5 m ∅ ∅
  ·rw [show decide (0<(c2.fdiv 4).fmod 4)=false from decide_eq_false c9];have:=h5 (1+(cutV (ns.map V.int) (some 9) (some 41)).length) ∅ ∅;simpa using this
 split
 ·exact key 8 ⋯ ⋯
 ·obtain ⟨f,hf⟩:∃ f:Nat,2+c0.fmod 4=(f:Int):=Int.eq_ofNat_of_zero_le ∅;rw [hf];exact key f ∅ ∅
end
theorem lenE1 {α} {P:List α->Prop} (h:∀ a,P [a]):∀ us:List α,us.length=1->P us|[a],_=>h a
theorem lenE2 {α} {P:List α->Prop} (h:∀ a b,P [a,b]):∀ us:List α,us.length=2->P us|[a,b],_=>h a b
theorem lenE3 {α} {P:List α->Prop} (h:∀ a b c,P [a,b,c]):∀ us:List α,us.length=3->P us|[a,b,c],_=>h a b c
theorem lenE4 {α} {P:List α->Prop} (h:∀ a b c d,P [a,b,c,d]):∀ us:List α,us.length=4->P us|[a,b,c,d],_=>h a b c d
theorem lenE5 {α} {P:List α->Prop} (h:∀ a b c d e,P [a,b,c,d,e]):∀ us:List α,us.length=5->P us|[a,b,c,d,e],_=>h a b c d e
theorem lenE6 {α} {P:List α->Prop} (h:∀ a b c d e f,P [a,b,c,d,e,f]):∀ us:List α,us.length=6->P us|[a,b,c,d,e,f],_=>h a b c d e f
theorem lenE0 {α} {P:List α->Prop} (h:P []):∀ us:List α,us.length=0->P us|[],_=>h
local macro_rules|`(∅)=>`(⟨$(Lean.mkIdent `NoTie),$(Lean.mkIdent `Tie),$(Lean.mkIdent `Free),$(Lean.mkIdent `AtLeast),$(Lean.mkIdent `AtMost),$(Lean.mkIdent `Just),$(Lean.mkIdent `Between),$(Lean.mkIdent `Scale),$(Lean.mkIdent `Step),$(Lean.mkIdent `Book),(.str "abcdefghijklmnopqrstuvwxyz" $(Lean.mkIdent `Baa)),(.int 8 $(Lean.mkIdent `Bab)),$(Lean.mkIdent `ZERO)⟩)
local macro_rules|`($f:ident∘$n:str)=>`(W.nsIn $(Lean.mkIdent `K) mainGlobals $n=some (some (.ref $f)))|`($i:num∘$n:str∘$t:ident)=>`($i∘$n∘$n∘$t)|`($i:num∘$n:str∘$q:str∘$t:ident)=>do let v:=fun c=>Lean.mkIdent (.mkSimple s!"{c}{i.getNat}");`($(Lean.mkIdent `K).lookup $(v "f")=some ⟨$(v "D"),$(v "A"),.func (W.fnOf $n $q (Jam $t) (Jal $t) (Jae $t) .none $(v "E") $(v "G") $(v "M") $(v "B") $(v "U") $(v "V")),$(v "C")⟩)
local macro_rules|`($c:ident∣$n:str)=>`(W.codeIn $(Lean.mkIdent `K) $c $n=true)
local macro_rules|`(-$f)=>`(W.keepIn $(Lean.mkIdent `K) (.ref $f)=true)
local macro_rules|`($f:ident/$n:str)=>`(W.findIn $(Lean.mkIdent `K) (.ref $f) $n=some none)|`($f:ident/$n:str/$g:ident)=>`(W.findIn $(Lean.mkIdent `K) (.ref $f) $n=some (some (.ref $g)))
local macro_rules|`(tactic|bv_omega)=>`(tactic|first|exact fun _ _ _ _ _ _=>lenE1 fun _=>rfl|exact fun _ _ _ _ _ _=>lenE2 fun _ _=>rfl|exact fun _ _ _ _ _ _=>lenE3 fun _ _ _=>rfl|exact fun _ _ _ _ _ _=>lenE4 fun _ _ _ _=>rfl|exact fun _ _ _ _ _ _=>lenE5 fun _ _ _ _ _=>rfl|exact fun _ _ _ _ _ _=>lenE6 fun _ _ _ _ _ _=>rfl|exact fun _ _ _ _ _ _=>lenE0 rfl)
theorem all_mk {l:W.OpenLaw} {w:World} {K:W.Frag} {h:Heap} {mg:Str->Option Value} {fa:Addr} {NoTie Tie Free AtLeast AtMost Just Between Scale Step Book:Addr} (X:K.In h) (G:h.Ns mainGlobals mg) (hfa:mg "law"=some (.ref fa)) {f1 f2 f3 f4 f5 f6 f7 f8 f9 f10 f11 f12 f13 f14 f15 f16 f17 f18 f19 f20 f21 f22 f23 f24 f25 f26 f27 f28 f29 f30 f31 f32 f33 f34 f35 f36 f37 f38 f39 f40 f41 f42 f43 f44 f45 f46 f47 f48 f49 f50 f51 f52 f53:Addr} {A1 B1 A2 B2 A3 B3 A4 B4 A5 B5 A6 B6 A7 B7 A8 B8 A9 B9 A10 B10 A11 B11 A12 B12 A13 B13 A14 B14 A15 B15 A16 B16 A17 B17 A18 B18 A19 B19 A20 B20 A21 B21 A22 B22 A23 B23 A24 B24 A25 B25 A26 B26 A27 B27 A28 B28 A29 B29 A30 B30 A31 B31 A32 B32 A33 B33 A34 B34 A35 B35 A36 B36 A37 B37 A38 B38 A39 B39 A40 B40 A41 B41 A42 B42 A43 B43 A44 B44 A45 B45 A46 B46 A47 B47 A48 B48 A49 B49 A50 B50 A51 B51 A52 B52 A53 B53:Option Addr} {C1 C2 C3 C4 C5 C6 C7 C8 C9 C10 C11 C12 C13 C14 C15 C16 C17 C18 C19 C20 C21 C22 C23 C24 C25 C26 C27 C28 C29 C30 C31 C32 C33 C34 C35 C36 C37 C38 C39 C40 C41 C42 C43 C44 C45 C46 C47 C48 C49 C50 C51 C52 C53:Array (Option Value)} {D1 E1 G1 M1 U1 V1 D2 E2 G2 M2 U2 V2 D3 E3 G3 M3 U3 V3 D4 E4 G4 M4 U4 V4 D5 E5 G5 M5 U5 V5 D6 E6 G6 M6 U6 V6 D7 E7 G7 M7 U7 V7 D8 E8 G8 M8 U8 V8 D9 E9 G9 M9 U9 V9 D10 E10 G10 M10 U10 V10 D11 E11 G11 M11 U11 V11 D12 E12 G12 M12 U12 V12 D13 E13 G13 M13 U13 V13 D14 E14 G14 M14 U14 V14 D15 E15 G15 M15 U15 V15 D16 E16 G16 M16 U16 V16 D17 E17 G17 M17 U17 V17 D18 E18 G18 M18 U18 V18 D19 E19 G19 M19 U19 V19 D20 E20 G20 M20 U20 V20 D21 E21 G21 M21 U21 V21 D22 E22 G22 M22 U22 V22 D23 E23 G23 M23 U23 V23 D24 E24 G24 M24 U24 V24 D25 E25 G25 M25 U25 V25 D26 E26 G26 M26 U26 V26 D27 E27 G27 M27 U27 V27 D28 E28 G28 M28 U28 V28 D29 E29 G29 M29 U29 V29 D30 E30 G30 M30 U30 V30 D31 E31 G31 M31 U31 V31 D32 E32 G32 M32 U32 V32 D33 E33 G33 M33 U33 V33 D34 E34 G34 M34 U34 V34 D35 E35 G35 M35 U35 V35 D36 E36 G36 M36 U36 V36 D37 E37 G37 M37 U37 V37 D38 E38 G38 M38 U38 V38 D39 E39 G39 M39 U39 V39 D40 E40 G40 M40 U40 V40 D41 E41 G41 M41 U41 V41 D42 E42 G42 M42 U42 V42 D43 E43 G43 M43 U43 V43 D44 E44 G44 M44 U44 V44 D45 E45 G45 M45 U45 V45 D46 E46 G46 M46 U46 V46 D47 E47 G47 M47 U47 V47 D48 E48 G48 M48 U48 V48 D49 E49 G49 M49 U49 V49 D50 E50 G50 M50 U50 V50 D51 E51 G51 M51 U51 V51 D52 E52 G52 M52 U52 V52 D53 E53 G53 M53 U53 V53:Value}
  {T37:Addr} {tc37:Value} {td37:Option Addr} {tn37:Nat} {ts37:Array (Option Value)}
  {Baa:Tok}
  {Bab:Tok}
  {ZERO:Addr} {Bch:Option Addr} {Bci:Nat} {Bcj:Array (Option Value)} {Bcf Bcg:Tok}
  (g_NoTie:NoTie∘"NoTie")
  (g_Tie:Tie∘"Tie")
  (g_Free:Free∘"Free")
  (g_AtLeast:AtLeast∘"AtLeast")
  (g_AtMost:AtMost∘"AtMost")
  (g_Just:Just∘"Just")
  (g_Between:Between∘"Between")
  (BbZ:Scale∘"Scale")
  (g_Step:Step∘"Step")
  (g_Book:Book∘"Book")
  (a1:f1∘"common_divisor") (l1:K.lookup f1=some ⟨D1,A1, .func (W.fnOf "common_divisor" "common_divisor" (Jal Bai) (Jak Bai) (Jad Bai) .none E1 G1 M1 B1 U1 V1),C1⟩) (c1:U1∣"common_divisor") (k1:-f1)
  (a2:f2∘"plus") (l2:K.lookup f2=some ⟨D2,A2, .func (W.fnOf "plus" "plus" (Jal BbQ) (Jak BbQ) (Jad BbQ) .none E2 G2 M2 B2 U2 V2),C2⟩) (c2:U2∣"plus") (k2:-f2)
  (a3:f3∘"minus") (l3:K.lookup f3=some ⟨D3,A3, .func (W.fnOf "minus" "minus" (Jal BbH) (Jak BbH) (Jad BbH) .none E3 G3 M3 B3 U3 V3),C3⟩) (c3:U3∣"minus") (k3:-f3)
  (a4:f4∘"under") (l4:K.lookup f4=some ⟨D4,A4, .func (W.fnOf "under" "under" (Jal BbI) (Jak BbI) (Jad BbI) .none E4 G4 M4 B4 U4 V4),C4⟩) (c4:U4∣"under") (k4:-f4)
  (a5:f5∘"is_name") (l5:K.lookup f5=some ⟨D5,A5, .func (W.fnOf "is_name" "is_name" (Jal Bbd) (Jak Bbd) (Jad Bbd) .none E5 G5 M5 B5 U5 V5),C5⟩) (c5:U5∣"is_name") (k5:-f5)
  (a6:f6∘"is_whole") (l6:K.lookup f6=some ⟨D6,A6, .func (W.fnOf "is_whole" "is_whole" (Jal BaY) (Jak BaY) (Jad BaY) .none E6 G6 M6 B6 U6 V6),C6⟩) (c6:U6∣"is_whole") (k6:-f6)
  (a7:f7∘"is_fraction") (l7:K.lookup f7=some ⟨D7,A7, .func (W.fnOf "is_fraction" "is_fraction" (Jal Bau) (Jak Bau) (Jad Bau) .none E7 G7 M7 B7 U7 V7),C7⟩) (c7:U7∣"is_fraction") (k7:-f7)
  (a8:f8∘"is_bound") (l8:K.lookup f8=some ⟨D8,A8, .func (W.fnOf "is_bound" "is_bound" (Jal BaZ) (Jak BaZ) (Jad BaZ) .none E8 G8 M8 B8 U8 V8),C8⟩) (c8:U8∣"is_bound") (k8:-f8)
  (a9:f9∘"are_faces") (l9:K.lookup f9=some ⟨D9,A9, .func (W.fnOf "are_faces" "are_faces" (Jal BaM) (Jak BaM) (Jad BaM) .none E9 G9 M9 B9 U9 V9),C9⟩) (c9:U9∣"are_faces") (k9:-f9)
  (a10:f10∘"are_bounds") (l10:K.lookup f10=some ⟨D10,A10, .func (W.fnOf "are_bounds" "are_bounds" (Jal BaC) (Jak BaC) (Jad BaC) .none E10 G10 M10 B10 U10 V10),C10⟩) (c10:U10∣"are_bounds") (k10:-f10)
  (a11:f11∘"is_tie") (l11:K.lookup f11=some ⟨D11,A11, .func (W.fnOf "is_tie" "is_tie" (Jal Bbz) (Jak Bbz) (Jad Bbz) .none E11 G11 M11 B11 U11 V11),C11⟩) (c11:U11∣"is_tie") (k11:-f11)
  (a12:Tie/"__init__"/f12) (l12:K.lookup f12=some ⟨D12,A12, .func (W.fnOf "__init__" "Tie.__init__" (Jal Bap) (Jak Bap) (Jad Bap) .none E12 G12 M12 B12 U12 V12),C12⟩) (c12:U12∣"Tie.__init__") (k12:-f12)
  (a13:Tie/"plain"/f13) (l13:K.lookup f13=some ⟨D13,A13, .func (W.fnOf "plain" "Tie.plain" (Jal BaN) (Jak BaN) (Jad BaN) .none E13 G13 M13 B13 U13 V13),C13⟩) (c13:U13∣"Tie.plain") (k13:-f13)
  (a14:f14∘"tie_of") (l14:K.lookup f14=some ⟨D14,A14, .func (W.fnOf "tie_of" "tie_of" (Jal BbA) (Jak BbA) (Jad BbA) .none E14 G14 M14 B14 U14 V14),C14⟩) (c14:U14∣"tie_of") (k14:-f14)
  (a15:Tie/"steps"/f15) (l15:K.lookup f15=some ⟨D15,A15, .func (W.fnOf "steps" "Tie.steps" (Jal BaO) (Jak BaO) (Jad BaO) .none E15 G15 M15 B15 U15 V15),C15⟩) (c15:U15∣"Tie.steps") (k15:-f15)
  (a16:Scale/"__init__"/f16) (l16:K.lookup f16=some ⟨D16,A16, .func (W.fnOf "__init__" "Scale.__init__" (Jal Baj) (Jak Baj) (Jad Baj) .none E16 G16 M16 B16 U16 V16),C16⟩) (c16:U16∣"Scale.__init__") (k16:-f16)
  (a17:Scale/"lifted"/f17) (l17:K.lookup f17=some ⟨D17,A17, .func (W.fnOf "lifted" "Scale.lifted" (Jal Baq) (Jak Baq) (Jad Baq) .none E17 G17 M17 B17 U17 V17),C17⟩) (c17:U17∣"Scale.lifted") (k17:-f17)
  (a18:Step/"__init__"/f18) (l18:K.lookup f18=some ⟨D18,A18, .func (W.fnOf "__init__" "Step.__init__" (Jal Bam) (Jak Bam) (Jad Bam) .none E18 G18 M18 B18 U18 V18),C18⟩) (c18:U18∣"Step.__init__") (k18:-f18)
  (a19:f19∘"steps_of") (l19:K.lookup f19=some ⟨D19,A19, .func (W.fnOf "steps_of" "steps_of" (Jal Ba0) (Jak Ba0) (Jad Ba0) .none E19 G19 M19 B19 U19 V19),C19⟩) (c19:U19∣"steps_of") (k19:-f19)
  (a20:f20∘"last_steps") (l20:K.lookup f20=some ⟨D20,A20, .func (W.fnOf "last_steps" "last_steps" (Jal BaD) (Jak BaD) (Jad BaD) .none E20 G20 M20 B20 U20 V20),C20⟩) (c20:U20∣"last_steps") (k20:-f20)
  (a21:f21∘"chains_from") (l21:K.lookup f21=some ⟨D21,A21, .func (W.fnOf "chains_from" "chains_from" (Jal Bav) (Jak Bav) (Jad Bav) .none E21 G21 M21 B21 U21 V21),C21⟩) (c21:U21∣"chains_from") (k21:-f21)
  (a22:f22∘"faces_of") (l22:K.lookup f22=some ⟨D22,A22, .func (W.fnOf "faces_of" "faces_of" (Jal Ba1) (Jak Ba1) (Jad Ba1) .none E22 G22 M22 B22 U22 V22),C22⟩) (c22:U22∣"faces_of") (k22:-f22)
  (a23:Book/"kept"/f23) (l23:K.lookup f23=some ⟨D23,A23, .func (W.fnOf "kept" "Book.kept" (Jal BaP) (Jak BaP) (Jad BaP) .none E23 G23 M23 B23 U23 V23),C23⟩) (c23:U23∣"Book.kept") (k23:-f23)
  (a24:Book/"ties"/f24) (l24:K.lookup f24=some ⟨D24,A24, .func (W.fnOf "ties" "Book.ties" (Jal BaQ) (Jak BaQ) (Jad BaQ) .none E24 G24 M24 B24 U24 V24),C24⟩) (c24:U24∣"Book.ties") (k24:-f24)
  (a25:Book/"faces"/f25) (l25:K.lookup f25=some ⟨D25,A25, .func (W.fnOf "faces" "Book.faces" (Jal BaE) (Jak BaE) (Jad BaE) .none E25 G25 M25 B25 U25 V25),C25⟩) (c25:U25∣"Book.faces") (k25:-f25)
  (a26:Book/"__init__"/f26) (l26:K.lookup f26=some ⟨D26,A26, .func (W.fnOf "__init__" "Book.__init__" (Jal Ban) (Jak Ban) (Jad Ban) .none E26 G26 M26 B26 U26 V26),C26⟩) (c26:U26∣"Book.__init__") (k26:-f26)
  (a27:f27∘"places_of") (l27:K.lookup f27=some ⟨D27,A27, .func (W.fnOf "places_of" "places_of" (Jal BaR) (Jak BaR) (Jad BaR) .none E27 G27 M27 B27 U27 V27),C27⟩) (c27:U27∣"places_of") (k27:-f27)
  (a28:f28∘"whole_below") (l28:K.lookup f28=some ⟨D28,A28, .func (W.fnOf "whole_below" "whole_below" (Jal Baw) (Jak Baw) (Jad Baw) .none E28 G28 M28 B28 U28 V28),C28⟩) (c28:U28∣"whole_below") (k28:-f28)
  (a29:f29∘"whole_above") (l29:K.lookup f29=some ⟨D29,A29, .func (W.fnOf "whole_above" "whole_above" (Jal Bax) (Jak Bax) (Jad Bax) .none E29 G29 M29 B29 U29 V29),C29⟩) (c29:U29∣"whole_above") (k29:-f29)
  (a30:f30∘"enough_above") (l30:K.lookup f30=some ⟨D30,A30, .func (W.fnOf "enough_above" "enough_above" (Jal Bar) (Jak Bar) (Jad Bar) .none E30 G30 M30 B30 U30 V30),C30⟩) (c30:U30∣"enough_above") (k30:-f30)
  (a31:f31∘"stretched_placing") (l31:K.lookup f31=some ⟨D31,A31, .func (W.fnOf "stretched_placing" "stretched_placing" (Jal Bae) (Jak Bae) (Jad Bae) .none E31 G31 M31 B31 U31 V31),C31⟩) (c31:U31∣"stretched_placing") (k31:-f31)
  (a32:f32∘"gap_between") (l32:K.lookup f32=some ⟨D32,A32, .func (W.fnOf "gap_between" "gap_between" (Jal Bay) (Jak Bay) (Jad Bay) .none E32 G32 M32 B32 U32 V32),C32⟩) (c32:U32∣"gap_between") (k32:-f32)
  (a33:Book/"check_faces"/f33) (l33:K.lookup f33=some ⟨D33,A33, .func (W.fnOf "check_faces" "Book.check_faces" (Jal Baf) (Jak Baf) (Jad Baf) .none E33 G33 M33 B33 U33 V33),C33⟩) (c33:U33∣"Book.check_faces") (k33:-f33)
  (a34:Book/"chains_of"/f34) (l34:K.lookup f34=some ⟨D34,A34, .func (W.fnOf "chains_of" "Book.chains_of" (Jal Bak) (Jak Bak) (Jad Bak) .none E34 G34 M34 B34 U34 V34),C34⟩) (c34:U34∣"Book.chains_of") (k34:-f34)
  (a35:Book/"gap"/f35) (l35:K.lookup f35=some ⟨D35,A35, .func (W.fnOf "gap" "Book.gap" (Jal Ba3) (Jak Ba3) (Jad Ba3) .none E35 G35 M35 B35 U35 V35),C35⟩) (c35:U35∣"Book.gap") (k35:-f35)
  (a36:Book/"farthest"/f36) (l36:K.lookup f36=some ⟨D36,A36, .func (W.fnOf "farthest" "Book.farthest" (Jal Bao) (Jak Bao) (Jad Bao) .none E36 G36 M36 B36 U36 V36),C36⟩) (c36:U36∣"Book.farthest") (k36:-f36)
  (a37:Book/"shown"/f37) (l37:K.lookup f37=some ⟨D37,A37, .func (W.fnOf "shown" "Book.shown" (Jal BaF) (Jak BaF) (Jad BaF) (.ref T37) E37 G37 M37 B37 U37 V37),C37⟩) (c37:U37∣"Book.shown") (k37:-f37)
  (t37:K.lookup T37=some ⟨tc37,td37, .seq #[.bool true] tn37,ts37⟩)
  (a38:f38∘"_law_divisor") (l38:K.lookup f38=some ⟨D38,A38, .func (W.fnOf "_law_divisor" "_law_divisor" (Jal Baz) (Jak Baz) (Jad Baz) .none E38 G38 M38 B38 U38 V38),C38⟩) (c38:U38∣"_law_divisor") (k38:-f38)
  (a39:f39∘"_law_cell_at") (l39:K.lookup f39=some ⟨D39,A39, .func (W.fnOf "_law_cell_at" "_law_cell_at" (Jal BaA) (Jak BaA) (Jad BaA) .none E39 G39 M39 B39 U39 V39),C39⟩) (c39:U39∣"_law_cell_at") (k39:-f39)
  (a40:f40∘"_law_lowest") (l40:K.lookup f40=some ⟨D40,A40, .func (W.fnOf "_law_lowest" "_law_lowest" (Jal BaG) (Jak BaG) (Jad BaG) .none E40 G40 M40 B40 U40 V40),C40⟩) (c40:U40∣"_law_lowest") (k40:-f40)
  (a41:f41∘"_law_plus") (l41:K.lookup f41=some ⟨D41,A41, .func (W.fnOf "_law_plus" "_law_plus" (Jal Ba4) (Jak Ba4) (Jad Ba4) .none E41 G41 M41 B41 U41 V41),C41⟩) (c41:U41∣"_law_plus") (k41:-f41)
  (a42:f42∘"_law_minus") (l42:K.lookup f42=some ⟨D42,A42, .func (W.fnOf "_law_minus" "_law_minus" (Jal BaT) (Jak BaT) (Jad BaT) .none E42 G42 M42 B42 U42 V42),C42⟩) (c42:U42∣"_law_minus") (k42:-f42)
  (a43:f43∘"_law_less") (l43:K.lookup f43=some ⟨D43,A43, .func (W.fnOf "_law_less" "_law_less" (Jal Ba5) (Jak Ba5) (Jad Ba5) .none E43 G43 M43 B43 U43 V43),C43⟩) (c43:U43∣"_law_less") (k43:-f43)
  (a44:f44∘"_law_places") (l44:K.lookup f44=some ⟨D44,A44, .func (W.fnOf "_law_places" "_law_places" (Jal BaI) (Jak BaI) (Jad BaI) .none E44 G44 M44 B44 U44 V44),C44⟩) (c44:U44∣"_law_places") (k44:-f44)
  (a45:f45∘"_law_faces") (l45:K.lookup f45=some ⟨D45,A45, .func (W.fnOf "_law_faces" "_law_faces" (Jal BaU) (Jak BaU) (Jad BaU) .none E45 G45 M45 B45 U45 V45),C45⟩) (c45:U45∣"_law_faces") (k45:-f45)
  (a46:f46∘"_law_tie") (l46:K.lookup f46=some ⟨D46,A46, .func (W.fnOf "_law_tie" "_law_tie" (Jal Bbe) (Jak Bbe) (Jad Bbe) .none E46 G46 M46 B46 U46 V46),C46⟩) (c46:U46∣"_law_tie") (k46:-f46)
  (a47:f47∘"_law_steps") (l47:K.lookup f47=some ⟨D47,A47, .func (W.fnOf "_law_steps" "_law_steps" (Jal BaV) (Jak BaV) (Jad BaV) .none E47 G47 M47 B47 U47 V47),C47⟩) (c47:U47∣"_law_steps") (k47:-f47)
  (a48:f48∘"_law_leads") (l48:K.lookup f48=some ⟨D48,A48, .func (W.fnOf "_law_leads" "_law_leads" (Jal BaW) (Jak BaW) (Jad BaW) .none E48 G48 M48 B48 U48 V48),C48⟩) (c48:U48∣"_law_leads") (k48:-f48)
  (a49:f49∘"_law_sum") (l49:K.lookup f49=some ⟨D49,A49, .func (W.fnOf "_law_sum" "_law_sum" (Jal Bbf) (Jak Bbf) (Jad Bbf) .none E49 G49 M49 B49 U49 V49),C49⟩) (c49:U49∣"_law_sum") (k49:-f49)
  (a50:f50∘"_law_placed") (l50:K.lookup f50=some ⟨D50,A50, .func (W.fnOf "_law_placed" "_law_placed" (Jal BaJ) (Jak BaJ) (Jad BaJ) .none E50 G50 M50 B50 U50 V50),C50⟩) (c50:U50∣"_law_placed") (k50:-f50)
  (a51:f51∘"_law_within") (l51:K.lookup f51=some ⟨D51,A51, .func (W.fnOf "_law_within" "_law_within" (Jal BaL) (Jak BaL) (Jad BaL) .none E51 G51 M51 B51 U51 V51),C51⟩) (c51:U51∣"_law_within") (k51:-f51)
  (a52:f52∘"_law_side") (l52:K.lookup f52=some ⟨D52,A52, .func (W.fnOf "_law_side" "_law_side" (Jal Ba6) (Jak Ba6) (Jad Ba6) .none E52 G52 M52 B52 U52 V52),C52⟩) (c52:U52∣"_law_side") (k52:-f52)
  (a53:f53∘"law") (l53:K.lookup f53=some ⟨D53,A53, .func (W.fnOf "law" "law" (Jal BbY) (Jak BbY) (Jad BbY) .none E53 G53 M53 B53 U53 V53),C53⟩) (c53:U53∣"law") (k53:-f53)
  (z_abs:W.nsIn K mainGlobals "abs"=some none)
  (z_isinstance:W.nsIn K mainGlobals "isinstance"=some none)
  (z_len:W.nsIn K mainGlobals "len"=some none)
  (z_all:W.nsIn K mainGlobals "all"=some none)
  (z_int:W.nsIn K mainGlobals "int"=some none)
  (z_bool:W.nsIn K mainGlobals "bool"=some none)
  (z_tuple:W.nsIn K mainGlobals "tuple"=some none)
  (z_str:W.nsIn K mainGlobals "str"=some none)
  (z_range:W.nsIn K mainGlobals "range"=some none)
  (z_list:W.nsIn K mainGlobals "list"=some none)
  (z_reversed:W.nsIn K mainGlobals "reversed"=some none)
  (z_sorted:W.nsIn K mainGlobals "sorted"=some none)
  (z_set:W.nsIn K mainGlobals "set"=some none)
  (z_max:W.nsIn K mainGlobals "max"=some none)
  (z_dict:W.nsIn K mainGlobals "dict"=some none)
  (Ba8:W.nsIn K mainGlobals "SMALL_LETTERS"=some (some (.str "abcdefghijklmnopqrstuvwxyz" Baa)))
  (Bbc:W.nsIn K mainGlobals "LONGEST_NAME"=some (some (.int 8 Bab)))
  (Bcc:ZERO∘"ZERO")
  (h_ZERO:K.lookup ZERO=some ⟨.type "tuple",Bch, .seq #[.int 0 Bcf, .int 1 Bcg] Bci,Bcj⟩)
  (x_NoTie:W.excIn K NoTie [.type "ValueError", .type "Exception", .type "BaseException", .type "object"] "ValueError.__new__"=true)
  (mk_Free:W.makesIn K Free=true)
  (mi_Free:Free/"__init__"/f12)
  (mf_Free:W.isFn K (.ref f12)=true)
  (mp_Free:-Free)
  (me_steps_Free:Free/"steps"/f15)
  (me_plain_Free:Free/"plain"/f13)
  (mk_AtLeast:W.makesIn K AtLeast=true)
  (mi_AtLeast:AtLeast/"__init__"/f12)
  (mf_AtLeast:W.isFn K (.ref f12)=true)
  (mp_AtLeast:-AtLeast)
  (me_steps_AtLeast:AtLeast/"steps"/f15)
  (me_plain_AtLeast:AtLeast/"plain"/f13)
  (mk_AtMost:W.makesIn K AtMost=true)
  (mi_AtMost:AtMost/"__init__"/f12)
  (mf_AtMost:W.isFn K (.ref f12)=true)
  (mp_AtMost:-AtMost)
  (me_steps_AtMost:AtMost/"steps"/f15)
  (me_plain_AtMost:AtMost/"plain"/f13)
  (mk_Just:W.makesIn K Just=true)
  (mi_Just:Just/"__init__"/f12)
  (mf_Just:W.isFn K (.ref f12)=true)
  (mp_Just:-Just)
  (me_steps_Just:Just/"steps"/f15)
  (me_plain_Just:Just/"plain"/f13)
  (mk_Between:W.makesIn K Between=true)
  (mi_Between:Between/"__init__"/f12)
  (mf_Between:W.isFn K (.ref f12)=true)
  (mp_Between:-Between)
  (me_steps_Between:Between/"steps"/f15)
  (me_plain_Between:Between/"plain"/f13)
  (mm_steps:W.isFn K (.ref f15)=true)
  (Bbl:W.isFn K (.ref f13)=true)
  (Bb0:W.makesIn K Scale=true)
  (Bb1:Scale/"__init__"/f16)
  (Bb2:W.isFn K (.ref f16)=true)
  (Bb3:-Scale)
  (mk_Step:W.makesIn K Step=true)
  (mi_Step:Step/"__init__"/f18)
  (mf_Step:W.isFn K (.ref f18)=true)
  (mp_Step:-Step)
  (Ba9:Scale/"lifted"/f17)
  (Bba:W.isFn K (.ref f17)=true)
  (mk_Book:W.makesIn K Book=true)
  (mi_Book:Book/"__init__"/f26)
  (mf_Book:W.isFn K (.ref f26)=true)
  (mp_Book:-Book)
  (me_kept_Book:Book/"kept"/f23)
  (mm_kept:W.isFn K (.ref f23)=true)
  (me_ties_Book:Book/"ties"/f24)
  (mm_ties:W.isFn K (.ref f24)=true)
  (me_faces_Book:Book/"faces"/f25)
  (mm_faces:W.isFn K (.ref f25)=true)
  (me_check_faces_Book:Book/"check_faces"/f33)
  (mm_check_faces:W.isFn K (.ref f33)=true)
  (me_chains_of_Book:Book/"chains_of"/f34)
  (mm_chains_of:W.isFn K (.ref f34)=true)
  (me_gap_Book:Book/"gap"/f35)
  (mm_gap:W.isFn K (.ref f35)=true)
  (me_farthest_Book:Book/"farthest"/f36)
  (mm_farthest:W.isFn K (.ref f36)=true)
  (me_shown_Book:Book/"shown"/f37)
  (mm_shown:W.isFn K (.ref f37)=true)
  (cl1_Free:W.plainGet K Free Str.empty=true)
  (cl2_Free:W.hasDictIn K Free=true)
  (cl3_Free:W.plainOver K Free=true)
  (cl4_Free:W.findIn K (.ref Free) "__setattr__"=some (some (.builtin "object.__setattr__")))
  (na1_Free:Free/"name")
  (na2_Free:Free/"start")
  (na3_Free:Free/"end")
  (na4_Free:Free/"least")
  (na5_Free:Free/"greatest")
  (cl1_AtLeast:W.plainGet K AtLeast Str.empty=true)
  (cl2_AtLeast:W.hasDictIn K AtLeast=true)
  (cl3_AtLeast:W.plainOver K AtLeast=true)
  (cl4_AtLeast:W.findIn K (.ref AtLeast) "__setattr__"=some (some (.builtin "object.__setattr__")))
  (na1_AtLeast:AtLeast/"name")
  (na2_AtLeast:AtLeast/"start")
  (na3_AtLeast:AtLeast/"end")
  (na4_AtLeast:AtLeast/"least")
  (na5_AtLeast:AtLeast/"greatest")
  (cl1_AtMost:W.plainGet K AtMost Str.empty=true)
  (cl2_AtMost:W.hasDictIn K AtMost=true)
  (cl3_AtMost:W.plainOver K AtMost=true)
  (cl4_AtMost:W.findIn K (.ref AtMost) "__setattr__"=some (some (.builtin "object.__setattr__")))
  (na1_AtMost:AtMost/"name")
  (na2_AtMost:AtMost/"start")
  (na3_AtMost:AtMost/"end")
  (na4_AtMost:AtMost/"least")
  (na5_AtMost:AtMost/"greatest")
  (cl1_Just:W.plainGet K Just Str.empty=true)
  (cl2_Just:W.hasDictIn K Just=true)
  (cl3_Just:W.plainOver K Just=true)
  (cl4_Just:W.findIn K (.ref Just) "__setattr__"=some (some (.builtin "object.__setattr__")))
  (na1_Just:Just/"name")
  (na2_Just:Just/"start")
  (na3_Just:Just/"end")
  (na4_Just:Just/"least")
  (na5_Just:Just/"greatest")
  (cl1_Between:W.plainGet K Between Str.empty=true)
  (cl2_Between:W.hasDictIn K Between=true)
  (cl3_Between:W.plainOver K Between=true)
  (cl4_Between:W.findIn K (.ref Between) "__setattr__"=some (some (.builtin "object.__setattr__")))
  (na1_Between:Between/"name")
  (na2_Between:Between/"start")
  (na3_Between:Between/"end")
  (na4_Between:Between/"least")
  (na5_Between:Between/"greatest")
  (Bbm:W.plainGet K Scale Str.empty=true)
  (Bbn:W.hasDictIn K Scale=true)
  (Bbo:W.plainOver K Scale=true)
  (Bbp:W.findIn K (.ref Scale) "__setattr__"=some (some (.builtin "object.__setattr__")))
  (Bbq:Scale/"bottom")
  (Bbr:Scale/"factors")
  (cl1_Step:W.plainGet K Step Str.empty=true)
  (cl2_Step:W.hasDictIn K Step=true)
  (cl3_Step:W.plainOver K Step=true)
  (cl4_Step:W.findIn K (.ref Step) "__setattr__"=some (some (.builtin "object.__setattr__")))
  (na1_Step:Step/"source")
  (na2_Step:Step/"target")
  (na3_Step:Step/"cost")
  (na4_Step:Step/"whole")
  (na5_Step:Step/"pair")
  (bk1:W.plainGet K Book Str.empty=true)
  (bk2:W.hasDictIn K Book=true)
  (bk3:W.plainOver K Book=true)
  (bk4:W.findIn K (.ref Book) "__setattr__"=some (some (.builtin "object.__setattr__")))
  (bkn:Book/"by_name")
  : ∃ fd:FuncData,(∀ (s:Shared) (v:Value),BindsTo s fd ⟨[v],[]⟩ [("_law_script",v)])/\∀ base:Heap,K.In base->base.Ns mainGlobals mg->FnOk l.prog w K mg base (CX1 l.prog w) 10 fa fd ["_law_script"] (Bb4 K):=by
 have e:=hfa.symm.trans (W.mg_of X G a53);cases e;have T:Txt K mg ∅:=⟨W.mg_none_of X G z_abs,W.mg_none_of X G z_isinstance,W.mg_none_of X G z_len,W.mg_none_of X G z_all,W.mg_none_of X G z_int,W.mg_none_of X G z_bool,W.mg_none_of X G z_tuple,W.mg_none_of X G z_str,W.mg_none_of X G z_range,W.mg_none_of X G z_list,W.mg_none_of X G z_reversed,W.mg_none_of X G z_sorted,W.mg_none_of X G z_set,W.mg_none_of X G z_max,W.mg_none_of X G z_dict,W.mg_of X G g_NoTie,W.mg_of X G g_Tie,W.mg_of X G g_Free,W.mg_of X G g_AtLeast,W.mg_of X G g_AtMost,W.mg_of X G g_Just,W.mg_of X G g_Between,W.mg_of X G BbZ,W.mg_of X G g_Step,W.mg_of X G g_Book,W.mg_of X G Ba8,⟨_,rfl⟩,W.mg_of X G Bbc,⟨_,rfl⟩,W.mg_of X G Bcc,rfl,fun H=>.inr ⟨_,_,_,h_ZERO,rfl,rfl,by show 2<=sizeLine;decide, .cons ⟨_,rfl⟩ (.cons ⟨_,rfl⟩ (.nil))⟩,x_NoTie,cl1_Free,cl2_Free,cl3_Free,cl4_Free,na1_Free,na2_Free,na3_Free,na4_Free,na5_Free,cl1_AtLeast,cl2_AtLeast,cl3_AtLeast,cl4_AtLeast,na1_AtLeast,na2_AtLeast,na3_AtLeast,na4_AtLeast,na5_AtLeast,cl1_AtMost,cl2_AtMost,cl3_AtMost,cl4_AtMost,na1_AtMost,na2_AtMost,na3_AtMost,na4_AtMost,na5_AtMost,cl1_Just,cl2_Just,cl3_Just,cl4_Just,na1_Just,na2_Just,na3_Just,na4_Just,na5_Just,cl1_Between,cl2_Between,cl3_Between,cl4_Between,na1_Between,na2_Between,na3_Between,na4_Between,na5_Between,Bbm,Bbn,Bbo,Bbp,Bbq,Bbr,cl1_Step,cl2_Step,cl3_Step,cl4_Step,na1_Step,na2_Step,na3_Step,na4_Step,na5_Step,bk1,bk2,bk3,bk4,bkn,(fun C hC=>by rcases hC with rfl | rfl | rfl | rfl | rfl <;> first | exact ⟨⟨cl1_Free,cl2_Free,cl3_Free,cl4_Free⟩,na1_Free,na2_Free,na3_Free,na4_Free,na5_Free⟩ | exact ⟨⟨cl1_AtLeast,cl2_AtLeast,cl3_AtLeast,cl4_AtLeast⟩,na1_AtLeast,na2_AtLeast,na3_AtLeast,na4_AtLeast,na5_AtLeast⟩ | exact ⟨⟨cl1_AtMost,cl2_AtMost,cl3_AtMost,cl4_AtMost⟩,na1_AtMost,na2_AtMost,na3_AtMost,na4_AtMost,na5_AtMost⟩ | exact ⟨⟨cl1_Just,cl2_Just,cl3_Just,cl4_Just⟩,na1_Just,na2_Just,na3_Just,na4_Just,na5_Just⟩ | exact ⟨⟨cl1_Between,cl2_Between,cl3_Between,cl4_Between⟩,na1_Between,na2_Between,na3_Between,na4_Between,na5_Between⟩),(fun C hC=>by cases hC;exact ⟨⟨Bbm,Bbn,Bbo,Bbp⟩,Bbq,Bbr⟩),(fun C hC=>by cases hC;exact ⟨⟨cl1_Step,cl2_Step,cl3_Step,cl4_Step⟩,na1_Step,na2_Step,na3_Step,na4_Step,na5_Step⟩),(fun C hC=>by cases hC;exact ⟨⟨bk1,bk2,bk3,bk4⟩,bkn⟩)⟩;have F1:=Jao l1 c1 k1;have F2:=Jao l2 c2 k2;have F3:=Jao l3 c3 k3;have F4:=Jao l4 c4 k4;have F5:=Jao l5 c5 k5;have F6:=Jao l6 c6 k6;have F7:=Jao l7 c7 k7;have F8:=Jao l8 c8 k8;have F9:=Jao l9 c9 k9;have F10:=Jao l10 c10 k10;have F11:=Jao l11 c11 k11;have F12:=Jao l12 c12 k12;have F13:=Jao l13 c13 k13;have F14:=Jao l14 c14 k14;have F15:=Jao l15 c15 k15;have F16:=Jao l16 c16 k16;have F17:=Jao l17 c17 k17;have F18:=Jao l18 c18 k18;have F19:=Jao l19 c19 k19;have F20:=Jao l20 c20 k20;have F21:=Jao l21 c21 k21;have F22:=Jao l22 c22 k22;have F23:=Jao l23 c23 k23;have F24:=Jao l24 c24 k24;have F25:=Jao l25 c25 k25;have F26:=Jao l26 c26 k26;have F27:=Jao l27 c27 k27;have F28:=Jao l28 c28 k28;have F29:=Jao l29 c29 k29;have F30:=Jao l30 c30 k30;have F31:=Jao l31 c31 k31;have F32:=Jao l32 c32 k32;have F33:=Jao l33 c33 k33;have F34:=Jao l34 c34 k34;have F35:=Jao l35 c35 k35;have F36:=Jao l36 c36 k36;have F37:=Jao l37 c37 k37;have b37:=F37.bindsD (ps:=["self","one","other","most"]) t37 rfl [] fun _ _ _ _ _ _ us hl=>match us,hl with | [_,_,_,_],_=>⟨_,rfl,rfl⟩
 have F38:=Jao l38 c38 k38;have F39:=Jao l39 c39 k39;have F40:=Jao l40 c40 k40;have F41:=Jao l41 c41 k41;have F42:=Jao l42 c42 k42;have F43:=Jao l43 c43 k43;have F44:=Jao l44 c44 k44;have F45:=Jao l45 c45 k45;have F46:=Jao l46 c46 k46;have F47:=Jao l47 c47 k47;have F48:=Jao l48 c48 k48;have F49:=Jao l49 c49 k49;have F50:=Jao l50 c50 k50;have F51:=Jao l51 c51 k51;have F52:=Jao l52 c52 k52;have F53:=Jao l53 c53 k53;refine ⟨W.fnOf "law" "law" (Jal BbY) (Jak BbY) (Jad BbY) .none E53 G53 M53 B53 U53 V53,fun s v=>.of_eq rfl,fun base _ _=>?_⟩;have cC:∀ {k:Nat} {x:Str} {ps:List Str} {sp:Sp} {f:Addr} {fd:FuncData},FnOk l.prog w K mg base (CX1 l.prog w) k f fd ps sp->W.nsIn K mainGlobals x=some (some (.ref f))->W.keepIn K (.ref f)=true->Binds K fd ps []->Cal l.prog w K mg base k x ps [] sp:=fun h a c b=>⟨_,_,[],h,W.mg_of X G a,c,b, .nil⟩;have cK:∀ {k:Nat} {x:Str} {ps:List Str} {sp:Sp} {f C:Addr} {fd:FuncData},FnOk l.prog w K mg base (CX1 l.prog w) k f fd ps sp->W.nsIn K mainGlobals x=some (some (.ref C))->Mk K C f->Binds K fd ps []->KCal l.prog w K mg base k x C ps sp:=fun h a c b=>⟨_,_,h,W.mg_of X G a,c,b⟩;have cM:∀ {k:Nat} {m:Str} {Cs:Addr->Prop} {ps:List Str} {sp:Sp} {f:Addr} {fd:FuncData},FnOk l.prog w K mg base (CX1 l.prog w) k f fd ps sp->(∀ C,Cs C->Cls K C/\Meth K C m f)->W.keepIn K (.ref f)=true->Binds K fd ps []->MCal l.prog w K mg base k m Cs ps sp:=fun h a c b=>⟨_,_,h,a,c,b⟩;have Bac:=cC (Jdc F1 T) a1 k1 (F1.binds (by bv_omega));have BbG:=cC (Jka F2 T Bac) a2 k2 (F2.binds (by bv_omega));have Bbh:=cC (Ji0 F3 T BbG) a3 k3 (F3.binds (by bv_omega));have Bb7:=cC (Ji1 F4 T) a4 k4 (F4.binds (by bv_omega));have Ba7:=cC (Jhh F5 T) a5 k5 (F5.binds (by bv_omega));have Bbx:=cC (Jgd F6 T) a6 k6 (F6.binds (by bv_omega));have Bbg:=cC (Jee F7 T Bbx Bac) a7 k7 (F7.binds (by bv_omega));have Bby:=cC (Jgc F8 T Bbg) a8 k8 (F8.binds (by bv_omega));have BbD:=cC (Jft F9 T Ba7) a9 k9 (F9.binds (by bv_omega));have Bbs:=cC (JeS F10 T Bby Bb7) a10 k10 (F10.binds (by bv_omega));have BbV:=cC (Jih F11 T Ba7 BbD Bbs) a11 k11 (F11.binds (by bv_omega));have K12:=JdV (P:=l.prog) (w:=w) (base:=base) F12 T;have k_Free:=cK (JdV F12 T) g_Free ⟨mk_Free,mi_Free,mf_Free,mp_Free⟩ (F12.binds (by bv_omega));have k_AtLeast:=cK K12 g_AtLeast ⟨mk_AtLeast,mi_AtLeast,mf_AtLeast,mp_AtLeast⟩ (F12.binds (by bv_omega));have k_AtMost:=cK K12 g_AtMost ⟨mk_AtMost,mi_AtMost,mf_AtMost,mp_AtMost⟩ (F12.binds (by bv_omega));have k_Just:=cK K12 g_Just ⟨mk_Just,mi_Just,mf_Just,mp_Just⟩ (F12.binds (by bv_omega));have k_Between:=cK K12 g_Between ⟨mk_Between,mi_Between,mf_Between,mp_Between⟩ (F12.binds (by bv_omega));have Bb9:=cM (m:="plain") (Cs:=IsTie ∅) (Jfr F13 T) (fun C hC=>⟨(T.tie C hC).cls,(by rcases hC with rfl | rfl | rfl | rfl | rfl <;> first | exact ⟨me_plain_Free,Bbl,k13⟩ | exact ⟨me_plain_AtLeast,Bbl,k13⟩ | exact ⟨me_plain_AtMost,Bbl,k13⟩ | exact ⟨me_plain_Just,Bbl,k13⟩ | exact ⟨me_plain_Between,Bbl,k13⟩)⟩) k13 (F13.binds (by bv_omega));have BbX:=cC (Jii F14 T BbV k_Free k_AtLeast k_AtMost k_Just k_Between) a14 k14 (F14.binds (by bv_omega));have m_steps:=cM (m:="steps") (Cs:=IsTie ∅) (Jfs F15 T Bbh) (fun C hC=>⟨(T.tie C hC).cls,(by rcases hC with rfl | rfl | rfl | rfl | rfl <;> first | exact ⟨me_steps_Free,mm_steps,k15⟩ | exact ⟨me_steps_AtLeast,mm_steps,k15⟩ | exact ⟨me_steps_AtMost,mm_steps,k15⟩ | exact ⟨me_steps_Just,mm_steps,k15⟩ | exact ⟨me_steps_Between,mm_steps,k15⟩)⟩) k15 (F15.binds (by bv_omega));have Bb8:=cK (Jdb F16 T Bac) BbZ ⟨Bb0,Bb1,Bb2,Bb3⟩ (F16.binds (by bv_omega));have BbW:=cM (m:="lifted") (Cs:=JfV ∅) (JdU F17 T Bac) (fun C hC=>⟨(T.BbU C hC).cls,(by cases hC;exact ⟨Ba9,Bba,k17⟩)⟩) k17 (F17.binds (by bv_omega));have k_Step:=cK (Jdr F18 T BbW) g_Step ⟨mk_Step,mi_Step,mf_Step,mp_Step⟩ (F18.binds (by bv_omega));have Ba2:=cC (Jgh F19 T m_steps Bb8 k_Step) a19 k19 (F19.binds (by bv_omega));have Bbt:=cC (JeT F20 T) a20 k20 (F20.binds (by bv_omega));have Bah:=cC (Jec F21 T Bbt BbG) a21 k21 (F21.binds (by bv_omega));have BbJ:=cC (Jgb F22 T) a22 k22 (F22.binds (by bv_omega));have m_kept:=cM (m:="kept") (Cs:=JaS ∅) (Jfp F23 T) (fun C hC=>⟨(T.book C hC).cls,(by cases hC;exact ⟨me_kept_Book,mm_kept,k23⟩)⟩) k23 (F23.binds (by bv_omega));have m_ties:=cM (m:="ties") (Cs:=JaS ∅) (Jfq F24 T m_kept Bb9) (fun C hC=>⟨(T.book C hC).cls,(by cases hC;exact ⟨me_ties_Book,mm_ties,k24⟩)⟩) k24 (F24.binds (by bv_omega));have m_faces:=cM (m:="faces") (Cs:=JaS ∅) (JeQ F25 T m_kept BbJ) (fun C hC=>⟨(T.book C hC).cls,(by cases hC;exact ⟨me_faces_Book,mm_faces,k25⟩)⟩) k25 (F25.binds (by bv_omega));have k_Book:=cK (Jdq F26 T BbX) g_Book ⟨mk_Book,mi_Book,mf_Book,mp_Book⟩ (F26.binds (by bv_omega));have BaS:=cC (Jfy F27 T Bah) a27 k27 (F27.binds (by bv_omega));have BaX:=cC (Jei F28 T) a28 k28 (F28.binds (by bv_omega));have Bbi:=cC (Jeh F29 T) a29 k29 (F29.binds (by bv_omega));have Bbb:=cC (JdW F30 T Bbi BaX) a30 k30 (F30.binds (by bv_omega));have BaB:=cC (JcG F31 T Bbb BbG) a31 k31 (F31.binds (by bv_omega));have Bbj:=cC (Jed F32 T Bbh) a32 k32 (F32.binds (by bv_omega));have m_check_faces:=cM (m:="check_faces") (Cs:=JaS ∅) (JcK F33 T m_faces) (fun C hC=>⟨(T.book C hC).cls,(by cases hC;exact ⟨me_check_faces_Book,mm_check_faces,k33⟩)⟩) k33 (F33.binds (by bv_omega));have m_chains_of:=cM (m:="chains_of") (Cs:=JaS ∅) (Jda F34 T m_kept m_faces Ba2 BaS Bah) (fun C hC=>⟨(T.book C hC).cls,(by cases hC;exact ⟨me_chains_of_Book,mm_chains_of,k34⟩)⟩) k34 (F34.binds (by bv_omega));have m_gap:=cM (m:="gap") (Cs:=JaS ∅) (Jga F35 T m_check_faces m_chains_of Bbj) (fun C hC=>⟨(T.book C hC).cls,(by cases hC;exact ⟨me_gap_Book,mm_gap,k35⟩)⟩) k35 (F35.binds (by bv_omega));have m_farthest:=cM (m:="farthest") (Cs:=JaS ∅) (Jdp F36 T m_kept m_faces Ba2 BaS Bah BaB) (fun C hC=>⟨(T.book C hC).cls,(by cases hC;exact ⟨me_farthest_Book,mm_farthest,k36⟩)⟩) k36 (F36.binds (by bv_omega));have K37:=JeR (P:=l.prog) (w:=w) (base:=base) F37 T m_check_faces m_farthest Bbh;have m_shown:=cM (m:="shown") (Cs:=JaS ∅) (JeR F37 T m_check_faces m_farthest Bbh) (fun C hC=>⟨(T.book C hC).cls,(by cases hC;exact ⟨me_shown_Book,mm_shown,k37⟩)⟩) k37 b37;have m_shownd1:MCalD l.prog w K mg base 8 "shown" (JaS ∅) ["self","one","other","most"] [.bl true] (Ja6 K ∅):=⟨f37,_,[.bool true],K37,fun C hC=>⟨(T.book C hC).cls,(by cases hC;exact ⟨me_shown_Book,mm_shown,k37⟩)⟩,k37,F37.bindsD (ps:=["self","one","other","most"]) t37 rfl [.bool true] fun _ _ _ _ _ _ us hl=>match us,hl with | [_,_,_],_=>⟨_,rfl,rfl⟩ | [],hl=>absurd hl (by simp) | [_],hl=>absurd hl (by simp) | [_,_],hl=>absurd hl (by simp) | _::_::_::_::r,hl=>absurd hl (by simp), .cons rfl .nil⟩;have Bbk:=cC (Jeg F38 T) a38 k38 (F38.binds (by bv_omega));have Bad:=cC (Jef F39 T) a39 k39 (F39.binds (by bv_omega));have BaH:=cC (JeU F40 T Bbk) a40 k40 (F40.binds (by bv_omega));have Bas:=cC (Jgf F41 T BaH) a41 k41 (F41.binds (by bv_omega));have Bag:=cC (Jfw F42 T Bas) a42 k42 (F42.binds (by bv_omega));have BaK:=cC (Jge F43 T) a43 k43 (F43.binds (by bv_omega));have Bbv:=cC (JeW F44 T Bad BaH) a44 k44 (F44.binds (by bv_omega));have Bat:=cC (Jfu F45 T) a45 k45 (F45.binds (by bv_omega));have BbN:=cC (Jhj F46 T Bag Bas Bat) a46 k46 (F46.binds (by bv_omega));have BbE:=cC (Jfx F47 T) a47 k47 (F47.binds (by bv_omega));have BbF:=cC (Jfv F48 T) a48 k48 (F48.binds (by bv_omega));have BbM:=cC (Jhi F49 T Bas) a49 k49 (F49.binds (by bv_omega));have Bbu:=cC (JeV F50 T Bag BaK) a50 k50 (F50.binds (by bv_omega));have Bbw:=cC (JeX F51 T BaK) a51 k51 (F51.binds (by bv_omega));have BbB:=cC (Jgg F52 T BbE m_shown m_gap BbF BbM Bbu Bag) a52 k52 (F52.binds (by bv_omega));exact JkX F53 T Bad Bbv BbN k_Book BbB Bat Bag Bbw m_gap m_shownd1 m_shown m_ties
theorem walk {l:PySem.W.OpenLaw} {q:Program} {loose:List Str} {XP:(Str->Option Value)->Heap->Prop} {YP:World->Heap->Prop} {d:DefRec} {K:Params->PySem.W.Frag} (hn:l.most=some 63) (hdf:d.params.defaults=[])
  (hY:∀ (w:World) (h:Heap),YP w h->(K w.params).In h)
  (F:∀ (w:World) (mg:Str->Option Value) (fa:Addr) (h:Heap),(K w.params).In h->h.Ns mainGlobals mg->mg d.name=some (.ref fa) ->
   ∃ fd:FuncData,(∀ (s:Shared) (u:Value),BindsTo s fd ⟨[u],[]⟩ [("_law_script",u)])/\∀ base:Heap,(K w.params).In base->base.Ns mainGlobals mg->FnOk l.prog w (K w.params) mg base (CX1 l.prog w) 10 fa fd ["_law_script"] (Bb4 (K w.params))) :
  PySem.W.WalkO q loose XP YP l.row.toRowW d [] (fun f vs=>PySem.call f vs) :=
 L2.JiE (n:=63) (k:=10) (x:="_law_script") (CX:=fun w=>CX1 l.prog w) (sp:=fun w=>Bb4 (K w.params)) hn (by decide) hdf ⟨rfl,by decide,by decide⟩ hY F (fun _ _ a ns hl _ hS=>⟨a,ns,rfl,hS,hl,fun _=>rfl⟩) fun _ _ _ _ _ z=>by
  obtain ⟨_,_,_,_,_,_,_,_,_,_,_,z⟩:=z;exact z
end Prg
open PySem PySem.W PyProof.Rows
local macro_rules|`(command|universe $xs*)=>do return Lean.mkNullNode (<-xs.mapM fun x=>`(command|def $(Lean.mkIdent (.str `PySem.W.Fast s!"tw{(x.getId.toString.drop 1)}")):ident:Nat:=0))
universe u1002332444449940081 u10075812042602898625 u10094633692744652944 u10097598887235305921 u10104967690610466584 u10129934006659423988 u10133050442429355698 u10136095831033923488 u10172996512733338772 u10203946930189554200 u10212261347326557017 u10216723936711317944 u10231002290403067567 u10239494693864900978 u10242504600345703134 u10272071787752542676 u10316485473125963719 u10327976541701619383 u10335290454559670060 u10372897698685088152 u10411531671588462003 u10460801114724576837 u10496769630360816844 u10497493388838882224 u10528122100787922058 u10538022299620046477 u10606695731552399054 u10642026559114498218 u10666427080914378817 u10667732725886388561 u1067701027853309389 u10707850821578516527 u1072575976112755626 u10862013232729990118 u10905701554408726786 u10912396196514416658 u10985997412831105121 u10994913931911824511 u11003577432548562030 u11011505937476601444 u11012037712432767181 u11033788174926734146 u11094325621229630517 u11123728873845296687 u11145126754372409170 u11148936547393694875 u11151515103821941094 u11215171657164394611 u11224850685386593852 u11251682508210967887 u11306143726716806268 u1133341933239523181 u11401295878746519858 u11415817199685832642 u11417184247598881796 u11429872210371437648 u11443033850138851761 u11478760024319783345 u11492204840850226555 u11504489880285565963 u11507357579349226386 u1159299712470440253 u11657995527094608039 u11690840546213591940 u11691737742615007171 u1169854786092759104 u1170961376505296171 u11746889873631479632 u11753420189022402817 u11753611892708970639 u11779529848986753401 u11801534796639611815 u11832697648486821669 u11866754751734494914 u11887127829380388950 u11904146701101405794 u11926934531068264449 u11936892610711414237 u11995210070669045789 u12051149475956112881 u12063703021024693851 u1208625056189153734 u12102574581378201277 u1211844320082075008 u12138137577301134778 u12147057972601469777 u12200384018180581133 u12210426283985551937 u12233942835418562204 u12257951170709914146 u12296229561869163357 u12333450740819607625 u12345546839801777445 u123782852651815334 u12383229578693466219 u12390739019288079444 u12427042548577313153 u12446015922773114003 u12473756952502424193 u12484397344341986487 u12523310967284598052 u12538943528750351937 u1255372454177326073 u12562208833526682597 u12584228062758675308 u12585002679139262680 u1260034890510068928 u12615452651188582690 u12626834896900446687 u12687049620237865413 u12698165865352826883 u12749837995874855086 u1276948575300949602 u12774487771725348061 u12780016703324739371 u12800760169206720435 u12859701605472422224 u12860196776237199253 u1287128181868181373 u12871701004452045647 u1287876266713361435 u1287876708934008751 u12921988590029559920 u12953857829420169663 u12955040407408471848 u13015839029059495468 u13034204156842959061 u13058980313848061378 u1306099953371138239 u13089778056488609827 u13101453819719932341 u13104306718593131750 u1313545867590931667 u13148404628453654333 u13166294979979019178 u1316674492911951740 u13167139665956418769 u13185323533143690818 u13204722502081255744 u13216660062167230536 u13229647686527010614 u1324049273714524306 u13256266352491876502 u13257113466002563622 u13295994507576841780 u13301428576933552030 u13318247933656394450 u13336751595791070732 u13374494394216456970 u13376815513279800806 u13380630212157673432 u13398892909288912298 u1340863911459995591 u13409971897574811770 u13420940439283936965 u13426127045014418648 u13472453515903235634 u13538670623861844487 u13550354624903644463 u13706190118499925043 u13733242415218122734 u1374928633729342563 u13755029103857875574 u13776995257158077970 u13806644647553690439 u13836977347116411456 u13839266104459033432 u13868715204071275682 u13871380533014605432 u1390217516248358520 u13934276605595007906 u13935099332966763597 u13978461175045462567 u14021440641904224303 u14025213860408057881 u14069051210901675010 u14079555765543643075 u1409292101580178311 u14095567306403642547 u14175306522725538826 u14180226205917618819 u14215053950762970477 u14232264326971067032 u1425440081629653637 u14284665502034132710 u1431304233203084945 u14332181026071278176 u1445150952727822784 u14452826686605280601 u14471800454861771440 u14514280396944461065 u14571763190478307229 u14626622901618034894 u14630456590571114046 u14687719148814198228 u14687848606356011194 u14705862384406959660 u14714973067269388783 u14719944724520180289 u14744870418096443682 u14862840591204672454 u14901016765997040039 u14913872105328703560 u14936641984397848131 u1493993828066951175 u1496875572798293516 u1497015944961716466 u15001174475628370609 u15001678632718849328 u15018010997675016662 u15024212191016492565 u15063254184623383575 u15088507170808981557 u15117460557575383175 u15151760616317906564 u15164763714499581710 u1518918673557813690 u15266901372645494253 u15276074614304947468 u15292869611071571247 u15313991807945876302 u15322539879972365740 u15337591349836461925 u15416136800180693700 u15418507519252683177 u1545088109939276169 u15473635706726907765 u15484745515727367111 u1550378206478711244 u1555408974928242723 u15567719188156256888 u15581382978774986471 u15611282874059716755 u1574628122605167058 u15772841423717495338 u15848352254973528777 u15882159255613706557 u15887035828366934053 u15887176313392726783 u15890660693926951015 u15905208227792414726 u15919832477457007030 u15942626982317248448 u15970028225461589290 u15973823866785324679 u16000130722074472997 u160886560094893976 u16099385071098658022 u16106390386663394116 u16128430606415043758 u16141272266549144815 u16151046667341437571 u16174983714292970076 u16252736662879672018 u16290809179489542897 u16295339843013617626 u16364383471870437374 u16394108919072999291 u1640063503339981671 u16425098654426818886 u16445308778074130957 u16447048553802381807 u16475627375024152664 u16476275347416672421 u16483048284840248256 u1652268828212220133 u16600793894494028083 u16601211670728404644 u16634312354093546667 u16635417134814479924 u16645220250874170040 u16709763741896127536 u16744938789700667554 u1676697036525937338 u16790475588062770109 u16810836701361909662 u16840871208795936322 u16841093656915721217 u16845781789160036746 u16882549639652356323 u16931935563780738401 u1697125210487553721 u17028934645619775040 u17058317616322385548 u17080797890476359842 u17096186111129156972 u17120448062915158100 u17127027836222973745 u17131308637916689939 u17150326836352768002 u17166770197560522526 u17213323397670015556 u17227060908163825961 u17232923298098933873 u17264106114929249416 u17303414567185223067 u1734231180609005329 u17342915878233177132 u17369256858991396869 u17391237891352318854 u17392246932927314662 u17410295588292286851 u17421429613759095015 u17474311177494216646 u17563225856193810384 u17565462174548010228 u17570962858569825691 u17573654959424246314 u17577255081421966160 u176374621729356906 u17648099397483109684 u17682674980655377625 u17702851006329317215 u17738160525469025048 u1773865820261889927 u17754746790990218835 u17761651622388442414 u17787529525652891926 u17802528024626174415 u17853946228432486857 u17874259390763827945 u17906414394352478416 u17960299867055915042 u17974559425963863434 u18002949789111288709 u18004842714608858789 u18005832854265357616 u18023860398212108878 u18031890084194237468 u18033050748070543608 u18043371783390864644 u18071940146089853387 u1809367272650152924 u18104247391501405191 u18109176037260713508 u18148678037010022058 u1816054722978108776 u18227149767691288661 u18265327481214147306 u18271582782162659234 u18276141538536009820 u18291234608377230378 u1831138201109046430 u18357438773881911973 u18361598645292386882 u18364394104317985817 u18384891538290413732 u18391348527892381377 u18399118544603426650 u18406149987469188861 u1867738920496049986 u1919996419413116720 u1920232992845283791 u1947169730659276063 u2004815473714062320 u2026738224358524838 u2032178147478584729 u2051390192420541015 u2065967611891408257 u2066687148191037435 u2080319605559244846 u2152175964647404547 u2170489402661190734 u2172755483435813549 u2179444130605583193 u2234878997387206125 u22558622829893511 u2293496426542364126 u2314463061940202212 u2319611023651731887 u234467814661078195 u2399201498038735007 u2438761986290249668 u2453579659804846554 u2492080608887662992 u2497066990308993434 u2502667206800500032 u2508932560238554647 u2660239059697849610 u268517055701946367 u2704398279468919268 u2736143990762927797 u2768592272862302176 u2777758481736787418 u2780180019078468136 u2780336026383384782 u2786327112381703803 u2788657808918806832 u2867283821054824111 u2975947039223347697 u2982292647429850875 u3059419167710042587 u3069291400146731301 u3147164960818265257 u3157410536272680179 u3173540453781735981 u3198812858736749696 u320455303463228638 u3281319785590978359 u328668851071011745 u3319821271084411800 u3322772083893896121 u333625101839476095 u3415504708991514335 u3420389582422571904 u3442090156065521680 u3450921684860747528 u3501973289506724925 u3526512892028594719 u3527611736841140867 u3571231715061659506 u3585238639093042687 u3603090388663644182 u3636376091766518290 u3654968198131443048 u3655044043378097437 u3682740916068768250 u3702704692463673224 u3713848008629385180 u3872732844383647163 u3874502446964183361 u3930590715006318925 u3949531311845480862 u3984062308152649375 u3989516103622908441 u3990329059130625415 u400508963561529356 u400621261795962474 u4014964563311549482 u406133563586830449 u4090740920804713488 u4126765317291340631 u4132096754066426150 u4133576984785935705 u421617089169317116 u4258786611806450144 u426726134453787122 u4331087355242182130 u4361924325536284155 u4369805274087654041 u4374535680278217833 u4421031493488800848 u4469466865391508870 u4506024669165146376 u4537823361557885676 u4548538078962958367 u4574407813399541778 u4575154556512290431 u4577000692520160207 u457910200089346852 u460331636516267913 u4625917340336591988 u4651001347120827892 u4673402345496583607 u4680457990790195725 u4681670598164998537 u4686922643400383644 u4688470626939622473 u4707719600304217314 u4735302902607913296 u4737302021457520549 u4767275171951858117 u4779526519485034202 u479037419122806647 u483648921788200675 u4839409643990060823 u4842481881113726006 u4849215465135223419 u486201254003222230 u4887023033714505214 u4902370308538200046 u4910895511690782262 u4972791126576235009 u5009716632688955553 u5046177607583660977 u5121148198000398708 u5134484163299309655 u5137751778926870229 u517310059130291975 u5183056934026745676 u5200543674324539432 u522482002640299487 u5228806685634382423 u523741323805707854 u5248718935455480537 u5254551534870054706 u5280983062643862690 u5311988020789601029 u5337235434813852792 u534115065678964877 u535705341063545565 u5374843224639880854 u5391406443067430997 u543972866920974747 u547104601750095686 u5477455718161683157 u5539244129511235973 u5606712764120676369 u561714067158247451 u5625518782691506610 u5651791126958839459 u5696033279339030620 u5696141851000985913 u5699181142325478276 u5725093457118288561 u5740124219862489666 u5751118070957915911 u5755408437120342131 u5756433591180638706 u576743916928126565 u5809236721529932238 u5859895623228928183 u5919145664344993447 u603043587566428691 u6053581046119342150 u6062975845248806268 u6079123622604880705 u6085846487826381502 u6099410883781763968 u6100680653285493144 u6158190335200738755 u616111256417321916 u6199323586163219644 u6201338204384148634 u6215426630312126176 u6224918200173258716 u6224941087691444128 u6228095879671747084 u6228457257243196634 u6231034455606975263 u6241886208454056245 u6270082224712006683 u628201728061797862 u6347914061855693328 u6369823851530310975 u6401381764964806394 u6438039456060895404 u6487356249927721487 u6507578061459299154 u6519458558200272949 u6533895791094771990 u6565944006905941342 u6571762497916046519 u6573298738477038904 u6703394787660818331 u6744108558867736094 u6751572925313148587 u6839438108864140527 u6863461045213301728 u6933418009833733786 u6933593665785912076 u6935705310477831851 u6936206428460702216 u6953163114302958468 u6972771018814653566 u7025477585536022942 u704081492273098075 u7088236500790153991 u713521282503664399 u7195070611612404388 u7214073557184121103 u7216688921512192716 u7251401902547143947 u7315774291525247259 u7352589415020785534 u7369219761262441813 u738797973302031553 u7389405722776023911 u7402325128638748451 u7406030584897905848 u7412632688140016919 u7418287247247323621 u7447359552324197798 u7454957042329956063 u7476185146194559048 u7519145849235035997 u752910781096978492 u7531289631384236441 u7551950795901743057 u7564482361870065977 u7567998455019635326 u7570447032967935689 u7594262650879010752 u7628183164880067207 u7658608232762946556 u7696859247245442438 u7704299940866365863 u7711202272216356722 u771411270807118653 u7750304828840820601 u7765731610463642150 u7775785715602062054 u777983549663690454 u7783347057980136983 u7788259738695063943 u7788477126828872408 u781165358082498668 u7818950441061765733 u7835250450166662134 u7868409651872020284 u7912186443405359499 u7922697861536122459 u7924505212302529262 u7928276390529488286 u8095895955591552970 u8109907775132031424 u8120469135116006233 u8142486379115542436 u8146880787726872865 u8181736999329689898 u8274092846586380022 u8274350353611617755 u8279429814906007677 u8310513572223515118 u8394096636662870863 u8418760995490266867 u8424482655512041370 u8462740528470532141 u8500826134750418993 u8500831010696607056 u8503802328437442088 u8508332030245721155 u8521519858245668832 u8547191574570226849 u86181701634270874 u8629595744012884668 u8638173500580139862 u8640728234404250702 u8814742025805488401 u8837756522821818811 u8870582850816906461 u897812397314914731 u898917769046883260 u9015699273849899702 u9029761994997364176 u9069107909370984948 u9075439094083869172 u907927456527752594 u9081142586391563449 u9086694457263391241 u9112799575853561973 u9121849785412288025 u9134616731683821457 u9136956412089209643 u9172521158587548395 u9183040488562460546 u9222965104158759826 u9244332171743414784 u9273580134738267971 u9282652002805016314 u9284994341650044046 u9358463070750033825 u936951713499122501 u9466143069279823259 u949130576059705749 u9503795009599497503 u9514479083201473467 u9517013601797399039 u952168448091881935 u9533154319345248977 u9595487539641443856 u9605030135606084926 u9622467230008045380 u9642002722972498838 u9661921161749011826 u9695948056941603193 u9701361793919831944 u9740578179601995119 u9777351475864649495 u9816342915413284305 u9897253364123284113 u9917377988327358832 u9920945716659542044
set_option maxRecDepth 100000 in
set_option maxHeartbeats 0 in
theorem PySem.Challenge.cw_slackchain_k33_whole_gaps_shown_holds : PySem.Challenge.rw_slackchain_k33_whole_gaps_shown.Holds := by
 w_on;o_law;k_head;(case hw=>w_witness2)
 k_fill
 refine Prg.walk (l:=PySem.Challenge.rw_slackchain_k33_whole_gaps_shown) rfl rfl (fun w h Y=>PySem.W.kIn_of Y) ?F;case F=>
  intro w mg fa h KX G hmg;refine' Prg.all_mk KX G hmg ?g_NoTie ?g_Tie ?g_Free ?g_AtLeast ?g_AtMost ?g_Just ?g_Between ?BbZ ?g_Step ?g_Book ?a1 ?l1 ?c1 ?k1 ?a2 ?l2 ?c2 ?k2 ?a3 ?l3 ?c3 ?k3 ?a4 ?l4 ?c4 ?k4 ?a5 ?l5 ?c5 ?k5 ?a6 ?l6 ?c6 ?k6 ?a7 ?l7 ?c7 ?k7 ?a8 ?l8 ?c8 ?k8 ?a9 ?l9 ?c9 ?k9 ?a10 ?l10 ?c10 ?k10 ?a11 ?l11 ?c11 ?k11 ?a12 ?l12 ?c12 ?k12 ?a13 ?l13 ?c13 ?k13 ?a14 ?l14 ?c14 ?k14 ?a15 ?l15 ?c15 ?k15 ?a16 ?l16 ?c16 ?k16 ?a17 ?l17 ?c17 ?k17 ?a18 ?l18 ?c18 ?k18 ?a19 ?l19 ?c19 ?k19 ?a20 ?l20 ?c20 ?k20 ?a21 ?l21 ?c21 ?k21 ?a22 ?l22 ?c22 ?k22 ?a23 ?l23 ?c23 ?k23 ?a24 ?l24 ?c24 ?k24 ?a25 ?l25 ?c25 ?k25 ?a26 ?l26 ?c26 ?k26 ?a27 ?l27 ?c27 ?k27 ?a28 ?l28 ?c28 ?k28 ?a29 ?l29 ?c29 ?k29 ?a30 ?l30 ?c30 ?k30 ?a31 ?l31 ?c31 ?k31 ?a32 ?l32 ?c32 ?k32 ?a33 ?l33 ?c33 ?k33 ?a34 ?l34 ?c34 ?k34 ?a35 ?l35 ?c35 ?k35 ?a36 ?l36 ?c36 ?k36 ?a37 ?l37 ?c37 ?k37 ?t37 ?a38 ?l38 ?c38 ?k38 ?a39 ?l39 ?c39 ?k39 ?a40 ?l40 ?c40 ?k40 ?a41 ?l41 ?c41 ?k41 ?a42 ?l42 ?c42 ?k42 ?a43 ?l43 ?c43 ?k43 ?a44 ?l44 ?c44 ?k44 ?a45 ?l45 ?c45 ?k45 ?a46 ?l46 ?c46 ?k46 ?a47 ?l47 ?c47 ?k47 ?a48 ?l48 ?c48 ?k48 ?a49 ?l49 ?c49 ?k49 ?a50 ?l50 ?c50 ?k50 ?a51 ?l51 ?c51 ?k51 ?a52 ?l52 ?c52 ?k52 ?a53 ?l53 ?c53 ?k53 ?z_abs ?z_isinstance ?z_len ?z_all ?z_int ?z_bool ?z_tuple ?z_str ?z_range ?z_list ?z_reversed ?z_sorted ?z_set ?z_max ?z_dict ?Ba8 ?Bbc ?Bcc ?h_ZERO ?x_NoTie ?mk_Free ?mi_Free ?mf_Free ?mp_Free ?me_steps_Free ?me_plain_Free ?mk_AtLeast ?mi_AtLeast ?mf_AtLeast ?mp_AtLeast ?me_steps_AtLeast ?me_plain_AtLeast ?mk_AtMost ?mi_AtMost ?mf_AtMost ?mp_AtMost ?me_steps_AtMost ?me_plain_AtMost ?mk_Just ?mi_Just ?mf_Just ?mp_Just ?me_steps_Just ?me_plain_Just ?mk_Between ?mi_Between ?mf_Between ?mp_Between ?me_steps_Between ?me_plain_Between ?mm_steps ?Bbl ?Bb0 ?Bb1 ?Bb2 ?Bb3 ?mk_Step ?mi_Step ?mf_Step ?mp_Step ?Ba9 ?Bba ?mk_Book ?mi_Book ?mf_Book ?mp_Book ?me_kept_Book ?mm_kept ?me_ties_Book ?mm_ties ?me_faces_Book ?mm_faces ?me_check_faces_Book ?mm_check_faces ?me_chains_of_Book ?mm_chains_of ?me_gap_Book ?mm_gap ?me_farthest_Book ?mm_farthest ?me_shown_Book ?mm_shown ?cl1_Free ?cl2_Free ?cl3_Free ?cl4_Free ?na1_Free ?na2_Free ?na3_Free ?na4_Free ?na5_Free ?cl1_AtLeast ?cl2_AtLeast ?cl3_AtLeast ?cl4_AtLeast ?na1_AtLeast ?na2_AtLeast ?na3_AtLeast ?na4_AtLeast ?na5_AtLeast ?cl1_AtMost ?cl2_AtMost ?cl3_AtMost ?cl4_AtMost ?na1_AtMost ?na2_AtMost ?na3_AtMost ?na4_AtMost ?na5_AtMost ?cl1_Just ?cl2_Just ?cl3_Just ?cl4_Just ?na1_Just ?na2_Just ?na3_Just ?na4_Just ?na5_Just ?cl1_Between ?cl2_Between ?cl3_Between ?cl4_Between ?na1_Between ?na2_Between ?na3_Between ?na4_Between ?na5_Between ?Bbm ?Bbn ?Bbo ?Bbp ?Bbq ?Bbr ?cl1_Step ?cl2_Step ?cl3_Step ?cl4_Step ?na1_Step ?na2_Step ?na3_Step ?na4_Step ?na5_Step ?bk1 ?bk2 ?bk3 ?bk4 ?bkn;case g_NoTie|g_Tie|g_Free|g_AtLeast|g_AtMost|g_Just|g_Between|BbZ|g_Step|g_Book|a1|l1|c1|k1|a2|l2|c2|k2|a3|l3|c3|k3|a4|l4|c4|k4|a5|l5|c5|k5|a6|l6|c6|k6|a7|l7|c7|k7|a8|l8|c8|k8|a9|l9|c9|k9|a10|l10|c10|k10|a11|l11|c11|k11|a12|l12|c12|k12|a13|l13|c13|k13|a14|l14|c14|k14|a15|l15|c15|k15|a16|l16|c16|k16|a17|l17|c17|k17|a18|l18|c18|k18|a19|l19|c19|k19|a20|l20|c20|k20|a21|l21|c21|k21|a22|l22|c22|k22|a23|l23|c23|k23|a24|l24|c24|k24|a25|l25|c25|k25|a26|l26|c26|k26|a27|l27|c27|k27|a28|l28|c28|k28|a29|l29|c29|k29|a30|l30|c30|k30|a31|l31|c31|k31|a32|l32|c32|k32|a33|l33|c33|k33|a34|l34|c34|k34|a35|l35|c35|k35|a36|l36|c36|k36|a37|l37|c37|k37|t37|a38|l38|c38|k38|a39|l39|c39|k39|a40|l40|c40|k40|a41|l41|c41|k41|a42|l42|c42|k42|a43|l43|c43|k43|a44|l44|c44|k44|a45|l45|c45|k45|a46|l46|c46|k46|a47|l47|c47|k47|a48|l48|c48|k48|a49|l49|c49|k49|a50|l50|c50|k50|a51|l51|c51|k51|a52|l52|c52|k52|a53|l53|c53|k53|z_abs|z_isinstance|z_len|z_all|z_int|z_bool|z_tuple|z_str|z_range|z_list|z_reversed|z_sorted|z_set|z_max|z_dict|Ba8|Bbc|Bcc|h_ZERO=>k_is
  (case x_NoTie=>k_exc)
  case mk_Free|mi_Free|mf_Free|mp_Free|me_steps_Free|me_plain_Free|mk_AtLeast|mi_AtLeast|mf_AtLeast|mp_AtLeast|me_steps_AtLeast|me_plain_AtLeast|mk_AtMost|mi_AtMost|mf_AtMost|mp_AtMost|me_steps_AtMost|me_plain_AtMost|mk_Just|mi_Just|mf_Just|mp_Just|me_steps_Just|me_plain_Just|mk_Between|mi_Between|mf_Between|mp_Between|me_steps_Between|me_plain_Between|mm_steps|Bbl|Bb0|Bb1|Bb2|Bb3|mk_Step|mi_Step|mf_Step|mp_Step|Ba9|Bba|mk_Book|mi_Book|mf_Book|mp_Book|me_kept_Book|mm_kept|me_ties_Book|mm_ties|me_faces_Book|mm_faces|me_check_faces_Book|mm_check_faces|me_chains_of_Book|mm_chains_of|me_gap_Book|mm_gap|me_farthest_Book|mm_farthest|me_shown_Book|mm_shown|cl1_Free|cl2_Free|cl3_Free|cl4_Free|na1_Free|na2_Free|na3_Free|na4_Free|na5_Free|cl1_AtLeast|cl2_AtLeast|cl3_AtLeast|cl4_AtLeast|na1_AtLeast|na2_AtLeast|na3_AtLeast|na4_AtLeast|na5_AtLeast|cl1_AtMost|cl2_AtMost|cl3_AtMost|cl4_AtMost|na1_AtMost|na2_AtMost|na3_AtMost|na4_AtMost|na5_AtMost|cl1_Just|cl2_Just|cl3_Just|cl4_Just|na1_Just|na2_Just|na3_Just|na4_Just|na5_Just|cl1_Between|cl2_Between|cl3_Between|cl4_Between|na1_Between|na2_Between|na3_Between|na4_Between|na5_Between|Bbm|Bbn|Bbo|Bbp|Bbq|Bbr|cl1_Step|cl2_Step|cl3_Step|cl4_Step|na1_Step|na2_Step|na3_Step|na4_Step|na5_Step|bk1|bk2|bk3|bk4|bkn=>k_is
