import PyProof.Rows.All
import Wide.All
import OpenK.AllK
import Wide.FinOn
import Lean
import PyProof.EqAt
import PyProof.EqKinds
import PyProof.TupleCall
import PyProof.ZipIter
import PyProof.Rows.SetFrom
import PyProof.Rows.SortStr
import KE.KDictList
import PyProof.AttrMissHeap
import KE.KDictOf
import KE.KDictLaws
import KE.KRevIter
import PyProof.CollectIter
import PyProof.FactsAll.range_2
import PyProof.FactsAll.range_iterator_1
import PyProof.WalksEnum
import PyProof.EnumMake
import PyProof.Rows.Range3
import PySem.Challenge.RW_slackchain_k32_whole_a_ring_or_a_placing
set_option Elab.async false
set_option linter.all false
set_option maxRecDepth 100000
open List (mem_cons_self mem_cons_of_mem mem_cons mem_append mem_append_left mem_append_right length_cons map_cons length_map append_nil nodup_cons length_take length_append size_toArray any_cons length_singleton map_nil length_nil mem_singleton mem_map foldl_cons eq_nil_of_length_eq_zero take_succ map_append foldl_append nodup_append cons_append take_of_length_le nil_append take_zero)
local macro_rules|`(tactic|ac_nf)=>`(tactic|first|lia|omega)
local macro_rules|`(⋯)=>`(by decide)
local macro_rules|`(∅)=>`(by ac_nf)
local macro_rules|`(tactic|subst_eqs)=>`(tactic|(intro _ _ _ _ h;(repeat obtain ⟨_,h⟩:=h);subst_vars;rfl))
namespace L2
open PySem PySem.Spec PyProof.Rows
abbrev Key:=Sum Bool Str
def isBoolOf:Bool->Value->Bool
 | b, .bool c=>b == c
 | _,_=>false
theorem Jdx {b:Bool} {v:Value} (h:isBoolOf b v=true):v=.bool b:=by
 cases v <;> simp_all [isBoolOf]
def keyIs:Key->Value->Bool
 | .inl k,v=>isBoolOf k v
 | .inr x,v=>Value.isStrOf x v
def keyH (w:World):Key->Int
 | .inl k=>hashInt (if k then 1 else 0)
 | .inr x=>hashStr w x
theorem JaH:∀ {k:Key} {v:Value},keyIs k v=true->(∃ i,k=Sum.inl i/\v=Value.bool i)\/(∃ x t,k=Sum.inr x/\v=Value.str x t)
 | .inl i,v,h=>.inl ⟨i,rfl,Jdx h⟩
 | .inr x,v,h=>by
  obtain ⟨t,e⟩:=Value.isStrOf_shape (x:=x) (v:=v) h;exact .inr ⟨x,t,rfl,e⟩
theorem Jgu (i:Bool):keyIs (.inl i) (.bool i)=true:=by simp [keyIs,isBoolOf]
theorem Jhk (x:Str) (t:Tok):keyIs (.inr x) (.str x t)=true:=by simp [keyIs,Value.isStrOf]
theorem Jkp (a b:Bool):decide ((Sum.inl a:Key)=Sum.inl b)=(a == b):=by cases a <;> cases b <;> rfl
theorem Jks (a b:Str):decide ((Sum.inr a:Key)=Sum.inr b)=decide (a=b):=by
 by_cases e:a=b
 ·subst e;simp
 ·have h:¬ (Sum.inr a:Key)=Sum.inr b:=fun q=>e (Sum.inr.inj q);rw [decide_eq_false h,decide_eq_false e]
theorem Jkq (a:Bool) (b:Str):decide ((Sum.inl a:Key)=Sum.inr b)=false:=decide_eq_false (fun q=>nomatch q)
theorem Jkr (a:Str) (b:Bool):decide ((Sum.inr a:Key)=Sum.inl b)=false:=decide_eq_false (fun q=>nomatch q)
theorem JfD {prog:Program} {w:World} {A:Around} {E:Value->Shared->Prop} {s:Shared} {b:Bool} {Q:Int->Shared->Prop} (h:Q (hashInt (if b then 1 else 0)) { s with toks:=s.toks+1 }) :
  wpAny (model prog w) A (pyHash (.bool b)) Q E s:=by
 have c:=rawHash_range (if b then 1 else 0);have a:s.TypeIs (.bool b) "bool":=rfl;unfold pyHash;have d:[Value.bool b].any Value.onHeap=false:=rfl;refine wpAny_bind ?_;rw [cRoomFor,if_neg (by rw [d];exact Bool.false_ne_true)];refine wpAny_pure ?_;refine wpAny_bind (wpAny_specialOf a F.slot_bool_hash.lookup ?_);show wpAny _ _ (if (some (Value.builtin "int.__hash__") == some Value.none)=true then _ else _) Q E s;rw [if_neg (by rw [beq_builtin_none];exact Bool.false_ne_true)];refine wpAny_bind (wpAny_specialOf a F.slot_bool_hash.lookup ?_);show wpAny _ _ (callSpecialIfBoundUnlessNone? (.bool b) "__hash__" _ >>= _) Q E s;refine wpAny_bind (wpAny_callSpecialIfBoundUnlessNone?_slot a F.slot_bool_hash
  (wpAny_call_entry F.slot_bool_hash a entry_int_hash
   (show wpAny _ _ (do ret (<- mkInt (rawHash (if b then 1 else 0)))) _ _ s from wpAny_ret_mkInt ?_) (args_int_hash _)))
 show wpAny _ _ (if (decide (-(2:Int) ^ 63<=rawHash (if b then 1 else 0))&&decide (rawHash (if b then 1 else 0)<2 ^ 63))=true then _ else _) Q E _;rw [if_pos (by rw [decide_eq_true c.1,decide_eq_true c.2];rfl)];exact wpAny_pure h
def JaU (prog:Program) (w:World):PySem.KeyKind prog w Key where
 is:=keyIs
 hash:=keyH w
 inj:=fun v a b ha hb=>by
  rcases JaH ha with ⟨i,rfl,rfl⟩ | ⟨x,t,rfl,rfl⟩
  ·rcases JaH hb with ⟨j,rfl,e⟩ | ⟨y,u,rfl,e⟩
   ·injection e with e1;rw [e1]
   ·exact nomatch e
  ·rcases JaH hb with ⟨j,rfl,e⟩ | ⟨y,u,rfl,e⟩
   ·exact nomatch e
   ·injection e with e1 _;rw [e1]
 byValue:=fun k v h=>by
  rcases JaH h with ⟨i,rfl,rfl⟩ | ⟨x,t,rfl,rfl⟩ <;> rfl
 pyHash:=fun hv h=>by
  rcases JaH hv with ⟨i,rfl,rfl⟩ | ⟨x,t,rfl,rfl⟩
  ·exact JfD h
  ·exact wpAny_pyHash_str h
 eqBool:=fun hu hv h=>by
  rcases JaH hu with ⟨i,rfl,rfl⟩ | ⟨x,t,rfl,rfl⟩
  ·rcases JaH hv with ⟨j,rfl,rfl⟩ | ⟨y,u,rfl,rfl⟩
   ·rw [Jkp] at h;exact SeqAt.EqAt.bool_bool i j _ _ _ _ h
   ·rw [Jkq] at h;exact SeqAt.EqAt.bool_str i y u _ _ _ _ h
  ·rcases JaH hv with ⟨j,rfl,rfl⟩ | ⟨y,u,rfl,rfl⟩
   ·rw [Jkr] at h;exact SeqAt.EqAt.str_bool x t j _ _ _ _ h
   ·rw [Jks] at h;exact wpAny_eqBool_str h
 «strs»:=fun k x t v h=>by
  rcases JaH h with ⟨i,rfl,e⟩ | ⟨y,u,rfl,e⟩
  ·exact nomatch e
  ·injection e with e1 _
   subst e1;cases v <;> rfl
theorem JeN (prog:Program) (w:World) (i:Bool):(JaU prog w).is (.inl i) (.bool i)=true:=Jgu i
theorem Jfq (prog:Program) (w:World) (x:Str) (t:Tok):(JaU prog w).is (.inr x) (.str x t)=true:=Jhk x t
inductive V where
 | non | bl (b:Bool) | int (i:Int) | str (x:Str) | byt (b:Array UInt8) | flt (b:UInt64) | ref (a:Addr) | ty (n:String)
 deriving DecidableEq
def RelV:V->Value->Prop
 | .non,u=>u=Value.none
 | .bl b,u=>u=Value.bool b
 | .int i,u=>∃ t,u=Value.int i t
 | .str x,u=>∃ t,u=Value.str x t
 | .byt b,u=>∃ t,u=Value.bytes b t
 | .flt b,u=>∃ t,u=Value.float b t
 | .ref a,u=>u=Value.ref a
 | .ty n,u=>u=Value.type n
abbrev Vals:List V->List Value->Prop:=Paired RelV
theorem Vals.length {xs:List V} {us:List Value} (r:Vals xs us):xs.length=us.length:=Paired.length r
theorem Vals.get:∀ {xs:List V} {us:List Value} {i:Nat} {x:V},Vals xs us->xs[i]?=some x->∃ u,us[i]?=some u/\RelV x u
 | _,_,_,_, .nil,e=>by simp at e
 | _,_,0,_, .cons r _,e=>by simp at e;subst e;exact ⟨_,rfl,r⟩
 | _,_,i+1,x, .cons _ t,e=>by
  obtain ⟨u,h1,h2⟩:=Vals.get (i:=i) (x:=x) t (by simpa using e);exact ⟨u,by simpa using h1,h2⟩
theorem Vals.append:∀ {xs ys:List V} {us ws:List Value},Vals xs us->Vals ys ws->Vals (xs++ys) (us++ws)
 | _,_,_,_, .nil,s=>s
 | _,_,_,_, .cons r t,s=>.cons r (Vals.append t s)
theorem Vals.take:∀ {xs:List V} {us:List Value} (n:Nat),Vals xs us->Vals (xs.take n) (us.take n)
 | _,_,0,_=>.nil
 | _,_,_+1, .nil=>.nil
 | _,_,n+1, .cons r t=>.cons r (Vals.take n t)
theorem Vals.drop:∀ {xs:List V} {us:List Value} (n:Nat),Vals xs us->Vals (xs.drop n) (us.drop n)
 | _,_,0,r=>r
 | _,_,_+1, .nil=>.nil
 | _,_,n+1, .cons _ t=>Vals.drop n t
def RelO:Option V->Option Value->Prop
 | some v,some u=>RelV v u
 | none,none=>True
 | _,_=>False
def KV {κ : Type}:List (κ × V)->List (κ × Value)->Prop:=Paired fun (p : κ × V) (q : κ × Value)=>p.1=q.1/\RelV p.2 q.2
def kV:Key->V
 | .inl i=>.bl i
 | .inr x=>.str x
inductive HO where
 | lst (xs:List V)
 | tup (xs:List V)
 | dK (kvs:List (Key × V)) | dT (kvs:List (List Key × V))
 | set (S:Int->Bool) (n:Nat)
 | ins (C dx:Addr) (fs:List (Str × V))
 | own (x:Addr)
 | xd (fs:List (Str × V))
 | met (f x:Addr)
 | rng (lo hi:Int)
 | frz (o:Obj) (u:HO)
 | tbl (ps:Array Value)
 | ext (φ : Heap->Prop)
abbrev Hp:=Addr->Option HO
def upd (H:Hp) (a:Addr) (o:HO):Hp:=fun b=>if b=a then some o else H b
theorem Jam {H:Hp} {a:Addr} {o:HO}:upd H a o a=some o:=by unfold upd;rw [if_pos rfl]
theorem Jaf {H:Hp} {a b:Addr} {o:HO} (h:b≠a):upd H a o b=H b:=by unfold upd;rw [if_neg h]
theorem ne_of {H:Hp} {a b:Addr} {o u:HO} (h:H a=some o) (h':H b=some u) (d:o≠u):a≠b:=by
 intro e;subst e;rw [h] at h';exact d (Option.some.inj h')
theorem Jac {H:Hp} {a b:Addr} {o:HO} (h:H a=some o) (h':H b=none):a≠b:=by
 intro e;subst e;rw [h] at h';cases h'
section
variable (P:Program) (w:World)
def ObjOk (H:Hp) (h:Heap) (a:Addr):HO->Prop
 | .lst xs=>xs.length<=sizeLine/\∃ (its:List Value) (n:Nat),Vals xs its/\h.get? a=some { cls:=.type "list",data:=.seq its.toArray n }
 | .tup xs=>xs.length<=sizeLine/\∃ its:List Value,Vals xs its/\IsTup h a its.toArray
 | .dK kvs=>kvs.length<=sizeLine/\(a == sysModules)=false/\∃ vs,KV kvs vs/\h.DictOf (JaU P w) a vs
 | .dT kvs=>kvs.length<=sizeLine/\(a == sysModules)=false/\∃ xs:List (List Key × Addr × Value),
   Paired (fun (p:List Key × V) (q:List Key × Addr × Value)=>p.1=q.1/\H q.2.1=some (.tup (p.1.map kV))/\RelV p.2 q.2.2) kvs xs /\
   ∃ o es ep,h.get? a=some o/\o.ExactDict/\o.data=.dict es ep/\es.toList=xs.map (entryOfKey (tupleKind (JaU P w)))/\(xs.map (·.1)).Nodup
 | .set S n=>h.SetOf (intKind P w) a S n
 | .ins C dx fs=>H dx=some (.own a)/\fs.length<=1000/\dx≠a/\h.get? a=some (W.instObj C dx) /\
   ∃ mA,h.Ns1 dx mA/\(∀ f,RelO (fs.lookup f) (mA f))/\PySem.Within mA (fs.map (·.1))
 | .own _=>∃ o,h.get? a=some o
 | .xd fs=>∃ mA,h.Ns1 a mA/\∀ f,RelO (fs.lookup f) (mA f)
 | .rng lo hi=>∃ t u v,h.get? a=some { cls:=.type "range",data:=.fields #[.int lo t, .int hi u, .int 1 v] }
 | .frz o u=>h.get? a=some o/\ObjOk H h a u
 | .tbl ps=>h.get? a=some { cls:=.none,data:=.fields ps }
 | .met f x=>h.get? a=some (W.methodObj (.ref f) (.ref x))
 | .ext φ=>φ h/\(∃ o,h.get? a=some o)/\∀ h1 h2:Heap,φ h1->(∀ o,h1.get? a=some o->h2.get? a=some o)->φ h2
def HOk (H:Hp) (h:Heap):Prop:=∀ a o,H a=some o->ObjOk P w H h a o
end
section
variable {P:Program} {w:World} {H H':Hp} {h h':Heap} {a:Addr} {o:HO}
theorem ObjOk.lt (x:ObjOk P w H h a o):a<h.objs.size:=by
 cases o with
 | lst xs=>obtain ⟨_,_,_,_,e⟩:=x;exact Heap.lt_size e
 | tup xs=>obtain ⟨_,_,_,p⟩:=x;exact p.lt
 | dK kvs=>obtain ⟨_,_,_,_,o,_,_,e,_⟩:=x;exact Heap.lt_size e
 | dT kvs=>obtain ⟨_,_,_,_,o,_,_,e,_⟩:=x;exact Heap.lt_size e
 | set S n=>obtain ⟨o,_,_,_,e,_⟩:=x;exact Heap.lt_size e
 | ins C dx fs=>obtain ⟨_,_,_,e,_⟩:=x;exact Heap.lt_size e
 | own y=>obtain ⟨_,e⟩:=x;exact Heap.lt_size e
 | xd fs=>obtain ⟨_,⟨_,_,_,e,_⟩,_⟩:=x;exact Heap.lt_size e
 | rng lo hi=>obtain ⟨_,_,_,e⟩:=x;exact Heap.lt_size e
 | frz ob u=>obtain ⟨e,_⟩:=x;exact Heap.lt_size e
 | tbl ps=>exact Heap.lt_size (show h.get? a=some _ from x)
 | met f y=>exact Heap.lt_size (show h.get? a=some _ from x)
 | ext φ=>obtain ⟨_,⟨_,e⟩,_⟩:=x;exact Heap.lt_size e
theorem Paired.mapP {α β : Type} {F G : α->β->Prop}:∀ {l₁ : List α} {l₂ : List β},Paired F l₁ l₂->(∀ a b,F a b->G a b)->Paired G l₁ l₂
 | _,_, .nil,_=>.nil
 | _,_, .cons r t,f=>.cons (f _ _ r) (Paired.mapP t f)
theorem ObjOk.stay (x:ObjOk P w H h a o) (k:∀ b u,(b=a\/H b=some (.own a))->h.get? b=some u->h'.get? b=some u)
  (ho:∀ b,H b=some (.own a)->H' b=some (.own a)) (ht:∀ b xs,H b=some (.tup xs)->H' b=some (.tup xs)):ObjOk P w H' h' a o:=by
 induction o with
 | lst xs=>obtain ⟨z,l,n,r,e⟩:=x;exact ⟨z,l,n,r,k _ _ (.inl rfl) e⟩
 | tup xs=>obtain ⟨z,l,r,g,e,c⟩:=x;exact ⟨z,l,r,g,k _ _ (.inl rfl) e,c⟩
 | dK kvs=>obtain ⟨z,y,E,r,g,i,j,e,c⟩:=x;exact ⟨z,y,E,r,g,i,j,k _ _ (.inl rfl) e,c⟩
 | dT kvs=>
  obtain ⟨z,y,xs,r,g,i,j,e,c⟩:=x;exact ⟨z,y,xs,Paired.mapP r fun p q z=>⟨z.1,ht _ _ z.2.1,z.2.2⟩,g,i,j,k _ _ (.inl rfl) e,c⟩
 | set S n=>obtain ⟨g,i,j,t,e,c⟩:=x;exact ⟨g,i,j,t,k _ _ (.inl rfl) e,c⟩
 | ins C dx fs=>
  obtain ⟨d,z,D,e,s,⟨m,i,j,B,c⟩,r⟩:=x;exact ⟨ho _ d,z,D,k _ _ (.inl rfl) e,s,⟨m,i,j,k _ _ (.inr d) B,c⟩,r⟩
 | own y=>obtain ⟨g,e⟩:=x;exact ⟨g,k _ _ (.inl rfl) e⟩
 | xd fs=>obtain ⟨s,⟨m,i,j,e,c⟩,r⟩:=x;exact ⟨s,⟨m,i,j,k _ _ (.inl rfl) e,c⟩,r⟩
 | rng lo hi=>obtain ⟨t,u,v,e⟩:=x;exact ⟨t,u,v,k _ _ (.inl rfl) e⟩
 | frz g u ih=>obtain ⟨e,q⟩:=x;exact ⟨k _ _ (.inl rfl) e,ih q⟩
 | tbl ps=>
  have e:h.get? a=some { cls:=.none,data:=.fields ps }:=x;show h'.get? a=some { cls:=.none,data:=.fields ps };exact k a _ (.inl rfl) e
 | met f y=>
  have e:h.get? a=some (W.methodObj (.ref f) (.ref y)):=x;show h'.get? a=some (W.methodObj (.ref f) (.ref y));exact k a _ (.inl rfl) e
 | ext φ=>obtain ⟨p,⟨o,e⟩,A⟩:=x;exact ⟨A _ _ p fun o q=>k _ _ (.inl rfl) q,⟨o,k _ _ (.inl rfl) e⟩,A⟩
theorem HOk.lt (x:HOk P w H h) (e:H a=some o):a<h.objs.size:=(x a o e).lt
theorem HOk.fresh (x:HOk P w H h) (e:h.objs.size<=a):H a=none:=by
 cases q:H a with
 | none=>rfl
 | some u=>exact absurd (Nat.lt_of_lt_of_le (x.lt q) e) (Nat.lt_irrefl _)
theorem HOk.kept (x:HOk P w H h) (k:∀ b u,h.get? b=some u->h'.get? b=some u):HOk P w H h':=fun a o e=>
 (x a o e).stay (fun b u _ q=>k b u q) (fun _ q=>q) fun _ _ q=>q
theorem HOk.laid (x:HOk P w H h) (k:∀ b u,h.get? b=some u->h'.get? b=some u) (hp:h.objs.size<=a) (new:ObjOk P w (upd H a o) h' a o):HOk P w (upd H a o) h':=fun b u e=>by
 have f:=x.fresh hp;by_cases d:b=a
 ·subst d;rw [Jam] at e;cases e;exact new
 ·rw [Jaf d] at e;exact (x b u e).stay (fun c v _ q=>k c v q) (fun c q=>by rw [Jaf (Jac q f)];exact q) fun c g q=>by rw [Jaf (Jac q f)];exact q
end
def Rd (H:Hp) (a:Addr) (u:HO):Prop:=H a=some u\/∃ o,H a=some (.frz o u)
theorem Rd.ok {P:Program} {w:World} {H:Hp} {h:Heap} {a:Addr} {u:HO} (r:Rd H a u) (x:HOk P w H h):ObjOk P w H h a u:=by
 rcases r with r | ⟨o,r⟩
 ·exact x a u r
 ·obtain ⟨_,q⟩:=x a _ r;exact q
def Mut:Option HO->Prop
 | some (.lst _)=>True
 | some (.dK _)=>True
 | some (.dT _)=>True
 | some (.set _ _)=>True
 | some (.ins _ _ _)=>True
 | some (.ext _)=>True
 | _=>False
section
variable {P:Program} {w:World} {H:Hp} {h h':Heap} {x e:Addr} {o':HO}
theorem HOk.write (ok:HOk P w H h) (mu:Mut (H x)) (he:e=x\/H e=some (.own x)) (k:∀ b u,b≠e->h.get? b=some u->h'.get? b=some u) (heo:∃ u,h'.get? e=some u)
  (new:ObjOk P w (upd H x o') h' x o'):HOk P w (upd H x o') h':=fun b u q=>by
 have d:∀ c y,H c=some (.own y)->c≠x:=fun c y r z=>by subst z;rw [r] at mu;exact mu
 have f:∀ c g,H c=some (.tup g)->c≠x:=fun c g r z=>by subst z;rw [r] at mu;exact mu
 by_cases i:b=x
 ·subst i;rw [Jam] at q;cases q;exact new
 ·rw [Jaf i] at q;by_cases a:b=e
  ·have l:H b=some (.own x):=by
    rcases he with z | z
    ·exact absurd (a.trans z) i
    ·rw [a];exact z
   rw [q] at l;cases l;obtain ⟨v,m⟩:=heo;exact ⟨v,by rw [a];exact m⟩
  ·refine (ok b u q).stay (fun c v j r=>k c v ?_ r) (fun c r=>by rw [Jaf (d c b r)];exact r) fun c g r=>by rw [Jaf (f c g r)];exact r
   rcases j with rfl | j
   ·exact a
   ·rintro rfl;rcases he with z | z
    ·exact d c b j z
    ·rw [j] at z;cases z;exact i rfl
end
structure Un (fs ex:List Addr) (H H':Hp) (h h':Heap):Prop where
 keep:∀ b o,h.get? b=some o->H b=none->b∉fs->b∉ex->h'.get? b=some o
 slot:∀ b o,h.get? b=some o->H b=none->b∈fs->b∉ex->∃ sl,h'.get? b=some { o with slots:=sl }
 free:∀ b o,h.get? b=some o->H b=none->b∉ex->H' b=none
 there:∀ b o,h.get? b=some o->b∉ex->∃ o',h'.get? b=some o'
 tups:∀ b xs,H b=some (.tup xs)->H' b=some (.tup xs)
 frzs:∀ b o u,H b=some (.frz o u)->H' b=some (.frz o u)
 tbls:∀ b ps,H b=some (.tbl ps)->∃ more,H' b=some (.tbl (ps++more))
section
variable {fs fs' ex ex':List Addr} {H H1 H2:Hp} {h h1 h2 h':Heap} {a x e:Addr} {o:HO}
theorem Un.any (u:Un fs ex H H1 h h1) {b:Addr} {ob:Obj} (q:h.get? b=some ob) (n:H b=none) (hx:b∉ex):∃ sl,h1.get? b=some { ob with slots:=sl }:=by
 by_cases a:b∈fs
 ·exact u.slot b ob q n a hx
 ·exact ⟨ob.slots,u.keep b ob q n a hx⟩
theorem Un.kept (k:∀ b u,h.get? b=some u->h'.get? b=some u):Un fs ex H H h h' :=
 ⟨fun b a q _ _ _=>k b a q,fun b a q _ _ _=>⟨a.slots,k b a q⟩,fun _ _ _ n _=>n,fun b a q _=>⟨a,k b a q⟩,fun _ _ q=>q,fun _ _ _ q=>q,fun _ c q=>⟨#[],by rw [q];simp⟩⟩
theorem Un.refl:Un fs ex H H h h:=Un.kept fun _ _ q=>q
theorem Un.laid (k:∀ b u,h.get? b=some u->h'.get? b=some u) (hp:h.objs.size<=a) (hn:H a=none):Un fs ex H (upd H a o) h h' where
 keep:=fun b u q _ _ _=>k b u q
 slot:=fun b u q _ _ _=>⟨u.slots,k b u q⟩
 free:=fun b u q n _=>by rw [Jaf (Nat.ne_of_lt (Nat.lt_of_lt_of_le (Heap.lt_size q) hp))];exact n
 there:=fun b u q _=>⟨u,k b u q⟩
 tups:=fun b c q=>by rw [Jaf (Jac q hn)];exact q
 frzs:=fun b u c q=>by rw [Jaf (Jac q hn)];exact q
 tbls:=fun b d q=>⟨#[],by rw [Jaf (Jac q hn),q];simp⟩
theorem Un.write (mu:Mut (H x)) (he:e=x\/H e=some (.own x)) (k:∀ b u,b≠e->h.get? b=some u->h'.get? b=some u) (heo:∃ u,h'.get? e=some u):Un fs ex H (upd H x o) h h':=by
 have d:∀ b,H b=none->b≠x:=fun b n z=>by subst z;rw [n] at mu;exact mu
 have f:∀ b,H b=none->b≠e:=fun b n z=>by
  subst z;rcases he with r | r
  ·exact d b n r
  ·rw [n] at r;cases r
 have c:∀ b u,H b=some u->¬ Mut (some u)->b≠x:=fun b u q i z=>by subst z;rw [q] at mu;exact i mu
 refine ⟨fun b u q n _ _=>k b u (f b n) q,fun b u q n _ _=>⟨u.slots,k b u (f b n) q⟩,fun b u q n _=>by rw [Jaf (d b n)];exact n,fun b u q _=>?_,
  fun b g q=>by rw [Jaf (c b _ q fun z=>z)];exact q,fun b u g q=>by rw [Jaf (c b _ q fun z=>z)];exact q,fun b j q=>⟨#[],by rw [Jaf (c b _ q fun z=>z),q];simp⟩⟩
 by_cases a:b=e
 ·subst a;exact heo
 ·exact ⟨u,k b u a q⟩
end
def trk (h:Heap) (H:Hp):List Addr:=(List.range h.objs.size).filter fun a=>(H a).isSome
def hidT (h:Heap) (H:Hp):Heap:=W.hideAll h (trk h H)
theorem Jhg (h:Heap) (H:Hp):(hidT h H).objs.size=h.objs.size:=W.hideAll_size _ _
theorem Jii {h:Heap} {H:Hp} {b:Addr} {o:Obj} (e:h.get? b=some o) (n:H b=none):(hidT h H).get? b=some o :=
 W.hideAll_get _ e fun a=>by
  have q:(H b).isSome=true:=(List.mem_filter.mp a).2;rw [n] at q;simp at q
theorem JjC {h:Heap} {H:Hp} {b:Addr} {o:Obj} (e:(hidT h H).get? b=some o):h.get? b=some o/\H b=none:=by
 have a:h.get? b=some o:=W.of_hideAll (trk h H) e;refine ⟨a,?_⟩;cases q:H b with
 | none=>rfl
 | some x=>
  have c:b∈trk h H:=List.mem_filter.mpr ⟨List.mem_range.mpr (Heap.lt_size a),by simp [q]⟩;have z:(hidT h H).get? b=none:=W.hideAll_none (trk h H) c;rw [z] at e;cases e
def Jjh (g h:Heap) (L:Addr):List (Addr × Obj):=(List.range h.objs.size).filterMap fun a=>if a=L\/(g.get? a).isSome=true then none else (h.get? a).map fun o=>(a,o)
def rest (g h:Heap) (L d:Addr):List (Addr × Obj):=(Jjh g h L).filter fun p=>decide (p.1≠d)
structure Mod (K:W.Frag) (mg:Str->Option Value) (base:Heap):Prop where
 kin:K.In base
 glob:base.Ns mainGlobals mg
 blt:∃ mb,base.Ns builtinsNs mb/\∀ x:Str,x≠"__name__"->mb x=bootBuiltins x
 nolimit:base.NoLimit
structure Cx where
 prog:Program
 w:World
 K:W.Frag
 mg:Str->Option Value
 base:Heap
 A:Around
 N:List Str
 s₀ : Shared
 H₀ : Hp
 env:Env
 outer:List Env
 stack:List Env
 ex:List Addr
 fn:Str->Bool
 calm:Bool
 pn:List (Addr × Obj)
 xe:Value->Shared->Prop
def frs (l:List Env):List Addr:=l.filterMap (·.frame)
abbrev Cx.fs (X:Cx):List Addr:=frs X.outer
def Vis (sc:Scope) (x:Str):Prop:=sc.names.lookup x=some .local\/sc.names.lookup x=some .cell\/sc.names.lookup x=some .free
def Loc (sc:Scope) (x:Str):Prop:=sc.names.lookup x=some .local\/sc.names.lookup x=some .cell
def Look (env:Env) (h:Heap) (m:Str->Option Value) (x:Str) (u:Value):Prop :=
 (env.kindOf x=some .local/\m x=some u)\/((env.kindOf x=some .cell\/env.kindOf x=some .free)/\∃ c,env.cells.lookup x=some c/\h.IsCell c (some u))
structure Cx.Ok (X:Cx):Prop where
 mod:Mod X.K X.mg X.base
 kind:X.env.scope.kind=.function
 glob:X.env.globals=mainGlobals
 blt:X.env.builtins=builtinsNs
 above:X.s₀.heap.objs.size<=X.env.locals
 inj:∀ x y c,X.env.cells.lookup x=some c->X.env.cells.lookup y=some c->x=y
 has:∀ x,(X.env.kindOf x=some .cell\/X.env.kindOf x=some .free)->∃ c,X.env.cells.lookup x=some c
 cab:∀ x c,X.fn x=true->X.env.cells.lookup x=some c->X.s₀.heap.objs.size<=c
 hd:X.calm=true->X.A.handled=none
 frames:X.A.frames=some X.stack
 stk:X.stack=X.outer\/(X.stack=X.env::X.outer/\X.env.frame=some X.env.locals)
 exf:∀ b∈X.ex,b≠X.env.locals/\∀ x c,X.env.cells.lookup x=some c->c≠b
 bs:∀ b o,X.base.get? b=some o->X.s₀.heap.get? b=some o/\X.H₀ b=none
 bsz:X.base.objs.size<=X.s₀.heap.objs.size
 noex:∀ b o,X.base.get? b=some o->b∉X.ex
 exfs:∀ b∈X.ex,b∉X.fs
 funs:X.s₀.heap.FunFrames X.base X.outer
 frf:∀ b∈X.fs,X.H₀ b=none
structure Inv (X:Cx) (pins:List (Addr × Obj)) (σ : List (Option V)) (H:Hp) (s:Shared):Prop where
 ok:X.Ok
 os:s.os=X.s₀.os
 bare:AllBare s.gens
 base:Un X.fs X.ex X.H₀ H X.s₀.heap s.heap
 loc:∃ m,s.heap.Ns X.env.locals m/\∀ (i:Nat) (x:Str) (v:V),X.N[i]?=some x->σ[i]?=some (some v)->Vis X.env.scope x->∃ u,RelV v u/\Look X.env s.heap m x u
 cell:∀ x c,X.env.cells.lookup x=some c->∃ v,s.heap.IsCell c v
 free:H X.env.locals=none
 freeC:∀ x c,X.env.cells.lookup x=some c->H c=none
 pin:∀ p∈X.pn++pins,s.heap.get? p.1=some p.2/\H p.1=none/\p.1≠X.env.locals/\p.1∉X.fs/\∀ v,p.2.data≠.cell v
 hok:HOk X.prog X.w H s.heap
 len : σ.length=X.N.length
section
variable {X:Cx} {pins:List (Addr × Obj)} {σ : List (Option V)} {H H':Hp} {s:Shared} {h':Heap}
theorem Cx.Ok.nofr (ok:X.Ok) {b:Addr} {o:Obj} (e:X.base.get? b=some o):b∉X.fs:=fun a=>by
 have:=(ok.funs.mem a).1;rw [e] at this;cases this
theorem Inv.bs (I:Inv X pins σ H s):∀ b o,X.base.get? b=some o->s.heap.get? b=some o/\H b=none:=fun b o e=>
 ⟨I.base.keep b o (I.ok.bs b o e).1 (I.ok.bs b o e).2 (I.ok.nofr e) (I.ok.noex b o e),I.base.free b o (I.ok.bs b o e).1 (I.ok.bs b o e).2 (I.ok.noex b o e)⟩
theorem Inv.bk (I:Inv X pins σ H s):∀ b o,X.base.get? b=some o->s.heap.get? b=some o:=fun b o e=>(I.bs b o e).1
theorem Inv.mod (I:Inv X pins σ H s):Mod X.K X.mg X.base:=I.ok.mod
theorem Inv.kIn (I:Inv X pins σ H s):X.K.In s.heap:=I.ok.mod.kin.keeps I.bk
theorem Inv.lt (I:Inv X pins σ H s):X.env.locals<s.heap.objs.size:=let ⟨_,hn,_⟩:=I.loc;hn.lt
theorem Inv.sz (I:Inv X pins σ H s):X.s₀.heap.objs.size<=s.heap.objs.size:=Nat.le_trans I.ok.above (Nat.le_of_lt I.lt)
theorem Inv.nofs (I:Inv X pins σ H s) {a:Addr} (h:s.heap.objs.size<=a):a∉X.fs:=fun b=>by
 obtain ⟨_,o,c,_⟩:=I.ok.funs.mem b;exact absurd (Nat.lt_of_lt_of_le (Heap.lt_size c) (Nat.le_trans I.sz h)) (Nat.lt_irrefl _)
theorem Inv.cne (I:Inv X pins σ H s):∀ x c,X.env.cells.lookup x=some c->c≠X.env.locals:=fun x c e z=>by
 obtain ⟨v,o,f,d⟩:=I.cell x c e;obtain ⟨m,⟨i,g,h,b,a,_⟩,_⟩:=I.loc;rw [z,b] at f;cases f;rw [a] at d;cases d
theorem Inv.funs (I:Inv X pins σ H s):s.heap.FunFrames X.base X.outer:=by
 have all:∀ (l:List Env),(∀ b∈frs l,b∈X.fs)->X.s₀.heap.FunFrames X.base l->s.heap.FunFrames X.base l:=by
  intro l;induction l with
  | nil=>intro _ _;trivial
  | cons env r ih=>
   intro f k;obtain ⟨i,⟨L,o,a,m,j,h⟩,g⟩:=k;have d:L∈X.fs:=f L (by unfold frs;rw [List.filterMap_cons,a];exact mem_cons_self);obtain ⟨n,e⟩:=I.base.slot L o j (I.ok.frf L d) d fun z=>I.ok.exfs L z d;exact ⟨i,⟨L,_,a,m,e,h⟩,ih (fun b c=>f b (by unfold frs;rw [List.filterMap_cons,a];exact mem_cons_of_mem _ c)) g⟩
 exact all X.outer (fun _ c=>c) I.ok.funs
theorem Inv.stack (I:Inv X pins σ H s):s.heap.FunFrames X.base X.stack:=by
 rcases I.ok.stk with e | ⟨e,hf⟩
 ·rw [e];exact I.funs
 ·rw [e];obtain ⟨m,a,_⟩:=I.loc;refine .cons (by rw [I.ok.kind];decide) hf a ?_ I.funs;exact Heap.get?_none_of_le (Nat.le_trans I.ok.bsz I.ok.above)
theorem Inv.stkSub (I:Inv X pins σ H s):∀ b∈frs X.stack,b∈X.env.locals::X.fs:=fun b a=>by
 rcases I.ok.stk with e | ⟨e,hf⟩
 ·rw [e] at a;exact mem_cons_of_mem _ a
 ·rw [e] at a;unfold frs at a;rw [List.filterMap_cons,hf] at a;exact a
theorem Inv.stkFree (I:Inv X pins σ H s):∀ b∈frs X.stack,H b=none:=fun b a=>by
 rcases mem_cons.mp (I.stkSub b a) with e | a
 ·rw [e];exact I.free
 ·obtain ⟨_,o,c,_⟩:=I.ok.funs.mem a;exact I.base.free b o c (I.ok.frf b a) fun z=>I.ok.exfs b z a
theorem Inv.step {g':Array GenState} {t':Nat} {d':Drawn} {ch:List Addr} (I:Inv X pins σ H s)
  (hch:∀ b∈ch,(b∈X.ex\/X.s₀.heap.objs.size<=b)/\b≠X.env.locals/\(∀ x c,X.env.cells.lookup x=some c->c≠b)/\∀ p∈X.pn++pins,p.1≠b)
  (keep:∀ b o,b≠X.env.locals->b∉X.fs->b∉ch->s.heap.get? b=some o->H b=none->h'.get? b=some o)
  (slot:∀ b o,b≠X.env.locals->b∈X.fs->b∉ch->s.heap.get? b=some o->H b=none->∃ sl,h'.get? b=some { o with slots:=sl }) (free:∀ b o,b∉ch->s.heap.get? b=some o->H b=none->H' b=none)
  (there:∀ b o,b∉ch->s.heap.get? b=some o->∃ o',h'.get? b=some o')
  (tups:∀ b xs,H b=some (.tup xs)->H' b=some (.tup xs)) (frzs:∀ b o u,H b=some (.frz o u)->H' b=some (.frz o u)) (tbls:∀ b ps,H b=some (.tbl ps)->∃ more,H' b=some (.tbl (ps++more)))
  (ns:∀ m,s.heap.Ns X.env.locals m->h'.Ns X.env.locals m) (hok:HOk X.prog X.w H' h') (hg:AllBare g') :
  Inv X pins σ H' { s with heap:=h',gens:=g',drawn:=d',toks:=t' }:=by
 have B:∀ b o,X.s₀.heap.get? b=some o->b≠X.env.locals:=fun b o e=>Nat.ne_of_lt (Nat.lt_of_lt_of_le (Heap.lt_size e) I.ok.above);have h:∀ b o,X.s₀.heap.get? b=some o->b∉X.ex->b∉ch:=fun b o e a t=>by
  rcases (hch b t).1 with z | z
  ·exact a z
  ·exact absurd (Nat.lt_of_lt_of_le (Heap.lt_size e) z) (Nat.lt_irrefl _)
 have f:∀ x c,X.env.cells.lookup x=some c->∀ v,s.heap.IsCell c v->h'.IsCell c v:=fun x c e v ⟨o,y,C⟩=>by
  have g:c∉ch:=fun z=>(hch c z).2.2.1 x c e rfl;by_cases F:c∈X.fs
  ·obtain ⟨sl,q⟩:=slot c o (I.cne x c e) F g y (I.freeC x c e);exact ⟨_,q,C⟩
  ·exact ⟨o,keep c o (I.cne x c e) F g y (I.freeC x c e),C⟩
 refine ⟨I.ok,I.os,hg,⟨fun b o e n t a=>?_,fun b o e n t a=>?_,fun b o e n a=>?_,fun b o e a=>?_,fun b xs e=>tups b xs (I.base.tups b xs e),fun b o xs e=>frzs b o xs (I.base.frzs b o xs e),fun b ps e=>?_⟩,?_,fun x c e=>?_,?_,fun x c e=>?_,fun p G=>?_,hok,I.len⟩
 ·exact keep b o (B b o e) t (h b o e a) (I.base.keep b o e n t a) (I.base.free b o e n a)
 ·obtain ⟨sl,j⟩:=I.base.slot b o e n t a;obtain ⟨D,A⟩:=slot b _ (B b o e) t (h b o e a) j (I.base.free b o e n a);exact ⟨D,A⟩
 ·obtain ⟨o',j⟩:=I.base.there b o e a;exact free b o' (h b o e a) j (I.base.free b o e n a)
 ·obtain ⟨o',j⟩:=I.base.there b o e a;exact there b o' (h b o e a) j
 ·obtain ⟨M,j⟩:=I.base.tbls b ps e;obtain ⟨L,A⟩:=tbls b _ j;exact ⟨M++L,by rw [A,Array.append_assoc]⟩
 ·obtain ⟨m,O,N⟩:=I.loc;refine ⟨m,ns m O,fun i x v j A K=>?_⟩;obtain ⟨u,r,l⟩:=N i x v j A K;refine ⟨u,r,?_⟩;rcases l with l | ⟨k,c,e,z⟩
  ·exact .inl l
  ·exact .inr ⟨k,c,e,f x c e _ z⟩
 ·obtain ⟨v,z⟩:=I.cell x c e;exact ⟨v,f x c e v z⟩
 ·obtain ⟨m,⟨o,_,_,y,_⟩,_⟩:=I.loc;exact free _ o (fun z=>(hch _ z).2.1 rfl) y I.free
 ·obtain ⟨v,o,y,C⟩:=I.cell x c e;exact free c o (fun z=>(hch c z).2.2.1 x c e rfl) y (I.freeC x c e)
 ·obtain ⟨e,n,J,E,d⟩:=I.pin p G;have g:p.1∉ch:=fun z=>(hch p.1 z).2.2.2 p G rfl;exact ⟨keep p.1 p.2 J E g e n,free p.1 p.2 g e n,J,E,d⟩
theorem Inv.un {t':Nat} (I:Inv X pins σ H s) (u:Un X.fs [] H H' s.heap h') (hok:HOk X.prog X.w H' h'):Inv X pins σ H' { s with heap:=h',toks:=t' }:=by
 obtain ⟨m,⟨o,p,t,g,r⟩,_⟩:=id I.loc;obtain ⟨l,i⟩:=u.any g I.free (by simp);exact I.step (g':=s.gens) (d':=s.drawn) (ch:=[]) (fun _ z=>nomatch z) (fun b o _ f _ e n=>u.keep b o e n f (by simp)) (fun b o _ f _ e n=>u.slot b o e n f (by simp)) (fun b o _ e n=>u.free b o e n (by simp)) (fun b o _ e=>u.there b o e (by simp)) u.tups u.frzs u.tbls (fun q h=>by
  obtain ⟨k,c,d,a,j⟩:=h;rw [g] at a;cases a;exact ⟨_,c,d,i,j⟩) hok I.bare
theorem Inv.call {g':Array GenState} {t':Nat} {d':Drawn} {ch:List Addr} (I:Inv X pins σ H s) (u:Un (frs X.stack) ch H H' s.heap h') (hok:HOk X.prog X.w H' h') (hg:AllBare g')
  (hch:∀ b∈ch,(b∈X.ex\/X.s₀.heap.objs.size<=b)/\b≠X.env.locals/\(∀ x c,X.env.cells.lookup x=some c->c≠b)/\∀ p∈X.pn++pins,p.1≠b) :
  Inv X pins σ H' { s with heap:=h',gens:=g',drawn:=d',toks:=t' }:=by
 obtain ⟨m,⟨o,v,A,i,r⟩,_⟩:=id I.loc;obtain ⟨t,f⟩:=u.any i I.free fun z=>(hch _ z).2.1 rfl;exact I.step (ch:=ch) hch (fun b o f k a e n=>u.keep b o e n (fun z=>(mem_cons.mp (I.stkSub b z)).elim f k) a) (fun b o _ _ a e n=>u.any e n a) (fun b o a e n=>u.free b o e n a) (fun b o a e=>u.there b o e a) u.tups u.frzs u.tbls (fun y j=>by
  obtain ⟨q,g,h,d,l⟩:=j;rw [i] at d;cases d;exact ⟨_,g,h,f,l⟩) hok hg
theorem Inv.turned {t':Nat} {it:Addr} (I:Inv X pins σ H s) (k:∀ b o,b≠it->s.heap.get? b=some o->h'.get? b=some o) (hn:H it=none) (hL:it≠X.env.locals)
  (h1:it∈X.ex\/X.s₀.heap.objs.size<=it) (h2:∀ x c,X.env.cells.lookup x=some c->c≠it) (h3:∀ p∈X.pn++pins,p.1≠it):Inv X pins σ H { s with heap:=h',toks:=t' }:=by
 have d:∀ b u,H b=some u->b≠it:=fun b u e z=>by rw [z,hn] at e;cases e
 refine I.step (g':=s.gens) (d':=s.drawn) (ch:=[it]) (fun b i=>?_) (fun b o _ _ a e _=>k b o (fun z=>a (by simp [z])) e) (fun b o _ _ a e _=>⟨o.slots,k b o (fun z=>a (by simp [z])) e⟩) (fun _ _ _ _ n=>n)
  (fun b o a e=>⟨o,k b o (fun z=>a (by simp [z])) e⟩) (fun _ _ e=>e) (fun _ _ _ e=>e) (fun b l e=>⟨#[],by rw [e];simp⟩) (fun m f=>?_) (fun b u e=>?_) I.bare
 ·have e:b=it:=by simpa using i
  subst e;exact ⟨h1,hL,h2,h3⟩
 ·obtain ⟨o,g,h,j,r⟩:=f;exact ⟨o,g,h,k _ o (Ne.symm hL) j,r⟩
 ·refine (I.hok b u e).stay (fun c v a q=>k c v ?_ q) (fun _ q=>q) fun _ _ q=>q;rcases a with z | z
  ·rw [z];exact d b u e
  ·exact d c _ z
theorem Inv.tok (I:Inv X pins σ H s) (t:Nat):Inv X pins σ H { s with toks:=t }:=I.un (h':=s.heap) (t':=t) Un.refl I.hok
theorem Inv.kept {t':Nat} (I:Inv X pins σ H s) (k:∀ b u,s.heap.get? b=some u->h'.get? b=some u):Inv X pins σ H { s with heap:=h',toks:=t' }:=I.un (Un.kept k) (I.hok.kept k)
theorem Inv.laid {a:Addr} {o:HO} {t':Nat} (I:Inv X pins σ H s) (k:∀ b u,s.heap.get? b=some u->h'.get? b=some u) (hp:s.heap.objs.size<=a) (new:ObjOk X.prog X.w (upd H a o) h' a o) :
  Inv X pins σ (upd H a o) { s with heap:=h',toks:=t' }:=I.un (Un.laid k hp (I.hok.fresh hp)) (I.hok.laid k hp new)
theorem Inv.write {x e:Addr} {o:HO} {t':Nat} (I:Inv X pins σ H s) (mu:Mut (H x)) (he:e=x\/H e=some (.own x)) (k:∀ b u,b≠e->s.heap.get? b=some u->h'.get? b=some u) (heo:∃ u,h'.get? e=some u)
  (new:ObjOk X.prog X.w (upd H x o) h' x o):Inv X pins σ (upd H x o) { s with heap:=h',toks:=t' }:=I.un (Un.write mu he k heo) (I.hok.write mu he k heo new)
theorem Inv.pins_of {pins':List (Addr × Obj)} (I:Inv X pins σ H s) (h:∀ p∈pins',s.heap.get? p.1=some p.2/\H p.1=none/\p.1≠X.env.locals/\p.1∉X.fs/\∀ v,p.2.data≠.cell v):Inv X pins' σ H s :=
 ⟨I.ok,I.os,I.bare,I.base,I.loc,I.cell,I.free,I.freeC,fun p a=>(mem_append.mp a).elim (fun z=>I.pin p (mem_append_left _ z)) (h p),I.hok,I.len⟩
theorem Jd9 {N:List Str} (hN:N.Nodup) {i j:Nat} {x:Str} (a:N[i]?=some x) (b:N[j]?=some x):i=j:=by
 obtain ⟨f,d⟩:=List.getElem?_eq_some_iff.mp a;obtain ⟨e,c⟩:=List.getElem?_eq_some_iff.mp b;exact (List.getElem_inj hN).mp (d.trans c.symm)
theorem Je6 {M:Model} {A:Around} {E:Value->Shared->Prop} {i:Nat} {x:Str} {v:V} {u:Value} {Q:Unit->Shared->Prop} (I:Inv X pins σ H s) (hN:X.N.Nodup) (hi:X.N[i]?=some x) (hx:Loc X.env.scope x) (r:RelV v u)
  (h:∀ s',Inv X pins (σ.set i (some v)) H s'->(∃ a,Heap.SameBut a s.heap s'.heap/\(a=X.env.locals\/X.env.cells.lookup x=some a))->Q () s') (hf:X.fn x=true\/X.env.scope.names.lookup x=some .local:=by first | exact .inl rfl | exact .inr rfl | assumption):wpAny M A (storeName X.env x u) Q E s:=by
 obtain ⟨m,hn,hl⟩:=id I.loc;have O:(X.env.scope.kind == .class||(X.env.scope.kind == .module&&X.env.locals != X.env.globals))=false:=by rw [I.ok.kind];rfl
 have hiσ : i<σ.length:=by rw [I.len];exact (List.getElem?_eq_some_iff.mp hi).1
 have D:=I.cne;have g:∀ {a:Addr} {K:Heap},(∃ o,s.heap.get? a=some o/\H a=none)->Heap.SameBut a s.heap K->HOk X.prog X.w H K:=fun {a K} ha f b ob e=>by
  obtain ⟨_,_,B⟩:=ha;refine (I.hok b ob e).stay (fun c W t q=>(f.2 c ?_).trans q) (fun _ q=>q) fun _ _ q=>q;rintro rfl;rcases t with rfl | t
  ·rw [B] at e;cases e
  ·rw [B] at t;cases t
 rcases hx with hk | hk
 ·refine wpAny_storeName_local hk hn (fun K a1 f=>?_) O;obtain ⟨oL,_,_,a0,_⟩:=id hn;refine h _ ⟨I.ok,I.os,I.bare,⟨fun b o e n J hx=>?_,fun b o e n J hx=>?_,I.base.free,fun b o e hx=>?_,I.base.tups,I.base.frzs,I.base.tbls⟩,⟨_,a1,fun j y v' l C e3=>?_⟩,fun y c e=>?_,I.free,I.freeC,fun p hp=>?_,g ⟨oL,a0,I.free⟩ f,by simpa using I.len⟩ ⟨_,f, .inl rfl⟩
  ·exact (f.2 b (Nat.ne_of_lt (Nat.lt_of_lt_of_le (Heap.lt_size e) I.ok.above))).trans (I.base.keep b o e n J hx)
  ·obtain ⟨sl,l⟩:=I.base.slot b o e n J hx;exact ⟨sl,(f.2 b (Nat.ne_of_lt (Nat.lt_of_lt_of_le (Heap.lt_size e) I.ok.above))).trans l⟩
  ·obtain ⟨o',l⟩:=I.base.there b o e hx;exact ⟨o',(f.2 b (Nat.ne_of_lt (Nat.lt_of_lt_of_le (Heap.lt_size e) I.ok.above))).trans l⟩
  ·by_cases G:j=i
   ·subst G;rw [hi] at l;cases l;rw [List.getElem?_set_self hiσ] at C;cases C;exact ⟨u,r, .inl ⟨hk,by simp⟩⟩
   ·rw [List.getElem?_set_ne (Ne.symm G)] at C;obtain ⟨Y,r',q⟩:=hl j y v' l C e3;refine ⟨Y,r',?_⟩;rcases q with ⟨k,e⟩ | ⟨k,c,e,z⟩
    ·refine .inl ⟨k,?_⟩;have : y≠x:=fun e=>G (Jd9 hN l (e ▸ hi));simp [this,e]
    ·exact .inr ⟨k,c,e,z.sameBut f (D y c e)⟩
  ·obtain ⟨W,z⟩:=I.cell y c e;exact ⟨W,z.sameBut f (D y c e)⟩
  ·obtain ⟨e,n,T,Z,d⟩:=I.pin p hp;exact ⟨(f.2 p.1 T).trans e,n,T,Z,d⟩
 ·have F:X.fn x=true:=by
   rcases hf with z | z
   ·exact z
   ·rw [z] at hk;cases hk
  obtain ⟨c,t⟩:=I.ok.has x (.inl hk);obtain ⟨W,z⟩:=I.cell x c t;refine wpAny_storeName_cell I.ok.kind hk t z (fun K P f=>?_);obtain ⟨oc,L,R⟩:=id z;refine h { s with heap:=K } ⟨I.ok,I.os,I.bare,⟨fun b o e n J hx=>?_,fun b o e n J hx=>?_,I.base.free,fun b o e hx=>?_,I.base.tups,I.base.frzs,I.base.tbls⟩,⟨m,hn.sameBut f (Ne.symm (D x c t)),fun j y v' l C e3=>?_⟩,fun y U e=>?_,I.free,I.freeC,fun p hp=>?_,g ⟨oc,L,I.freeC x c t⟩ f,by simpa using I.len⟩ ⟨c,f, .inr t⟩
  ·exact (f.2 b (Nat.ne_of_lt (Nat.lt_of_lt_of_le (Heap.lt_size e) (I.ok.cab x c F t)))).trans (I.base.keep b o e n J hx)
  ·obtain ⟨sl,l⟩:=I.base.slot b o e n J hx;exact ⟨sl,(f.2 b (Nat.ne_of_lt (Nat.lt_of_lt_of_le (Heap.lt_size e) (I.ok.cab x c F t)))).trans l⟩
  ·obtain ⟨o',l⟩:=I.base.there b o e hx;exact ⟨o',(f.2 b (Nat.ne_of_lt (Nat.lt_of_lt_of_le (Heap.lt_size e) (I.ok.cab x c F t)))).trans l⟩
  ·by_cases G:j=i
   ·subst G;rw [hi] at l;cases l;rw [List.getElem?_set_self hiσ] at C;cases C;exact ⟨u,r, .inr ⟨.inl hk,c,t,P⟩⟩
   ·rw [List.getElem?_set_ne (Ne.symm G)] at C;obtain ⟨Y,r',q⟩:=hl j y v' l C e3;refine ⟨Y,r',?_⟩;rcases q with q | ⟨k,U,e,z'⟩
    ·exact .inl q
    ·refine .inr ⟨k,U,e,z'.sameBut f ?_⟩;rintro rfl;exact G (Jd9 hN l (I.ok.inj _ _ _ e t ▸ hi))
  ·by_cases S:U=c
   ·subst S;exact ⟨_,P⟩
   ·obtain ⟨w2,z2⟩:=I.cell y U e;exact ⟨w2,z2.sameBut f S⟩
  ·obtain ⟨e,n,T,Z,d⟩:=I.pin p hp;refine ⟨(f.2 p.1 ?_).trans e,n,T,Z,d⟩;intro q;rw [q,L] at e;have q':oc=p.2:=Option.some.inj e;exact d W (by rw [<- q'];exact R)
theorem JcK {M:Model} {A:Around} {E:Value->Shared->Prop} {i:Nat} {x:Str} {v:V} {u:Value} {Q:Unit->Shared->Prop} (I:Inv X pins σ H s) (hN:X.N.Nodup) (hi:X.N[i]?=some x) (hx:Loc X.env.scope x) (r:RelV v u)
  (h:∀ s',Inv X pins (σ.set i (some v)) H s'->Q () s') (hf:X.fn x=true\/X.env.scope.names.lookup x=some .local:=by first | exact .inl rfl | exact .inr rfl | assumption):wpAny M A (storeName X.env x u) Q E s :=
 Je6 I hN hi hx r (fun s' I' _=>h s' I') hf
theorem Inv.call' {s':Shared} {ch:List Addr} (I:Inv X pins σ H s) (ho:s'.os=s.os) (u:Un (frs X.stack) ch H H' s.heap s'.heap) (hok:HOk X.prog X.w H' s'.heap) (hg:AllBare s'.gens)
  (hch:∀ b∈ch,(b∈X.ex\/X.s₀.heap.objs.size<=b)/\b≠X.env.locals/\(∀ x c,X.env.cells.lookup x=some c->c≠b)/\∀ p∈X.pn++pins,p.1≠b):Inv X pins σ H' s':=by
 obtain ⟨d,g',d',t',a⟩:=s';have e:a=s.os:=ho;subst e;exact I.call (g':=g') (t':=t') (d':=d') u hok hg hch
end
abbrev XK:=Value->Option Addr->Hp->Prop
abbrev St:=List (Option V)
abbrev VK:=V->Hp->Prop
abbrev TE:=St->Hp->VK->Prop
abbrev TT:=St->Hp->(Bool->Hp->Prop)->Prop
abbrev TA:=St->Hp->(List V->Hp->Prop)->Prop
structure Ends where
 nx:St->Hp->Prop
 rt:VK
 bk:St->Hp->Prop:=fun _ _=>False
 ct:St->Hp->Prop:=fun _ _=>False
abbrev TS:=Ends->St->Hp->Prop
def EP (X:Cx) (pins:List (Addr × Obj)) (σ : St) (Q:VK) (u:Value) (s':Shared):Prop:=∃ v H',Inv X pins σ H' s'/\RelV v u/\Q v H'
def TP (X:Cx) (pins:List (Addr × Obj)) (σ : St) (Q:Bool->Hp->Prop) (b:Bool) (s':Shared):Prop:=∃ H',Inv X pins σ H' s'/\Q b H'
def AP (X:Cx) (pins:List (Addr × Obj)) (σ : St) (Q:List V->Hp->Prop) (us:List Value) (s':Shared):Prop:=∃ vs H',Inv X pins σ H' s'/\Vals vs us/\Q vs H'
def SP (X:Cx) (pins:List (Addr × Obj)) (D:Ends) (f:Flow) (s':Shared):Prop :=
 match f with
 | .next=>∃ σ' H',Inv X pins σ' H' s'/\D.nx σ' H'
 | .brk=>∃ σ' H',Inv X pins σ' H' s'/\D.bk σ' H'
 | .cont=>∃ σ' H',Inv X pins σ' H' s'/\D.ct σ' H'
 | .ret u=>∃ v σ' H',Inv X pins σ' H' s'/\RelV v u/\D.rt v H'
def PE (X:Cx) (e:Expr) (t:TE):Prop :=
 ∀ (pins:List (Addr × Obj)) (s:Shared) (σ : St) (H:Hp) (Q:VK),Inv X pins σ H s->t σ H Q->wpAny (model X.prog X.w) X.A (eval e X.env) (EP X pins σ Q) X.xe s
def PT (X:Cx) (e:Expr) (t:TT):Prop :=
 ∀ (pins:List (Addr × Obj)) (s:Shared) (σ : St) (H:Hp) (Q:Bool->Hp->Prop),Inv X pins σ H s->t σ H Q->wpAny (model X.prog X.w) X.A (isTrue e X.env (eval e X.env)) (TP X pins σ Q) X.xe s
def PW (X:Cx) (e:Expr) (t:TT):Prop :=
 ∀ (whole:Sem Value) (pins:List (Addr × Obj)) (s:Shared) (σ : St) (H:Hp) (Q:Bool->Hp->Prop),Inv X pins σ H s->t σ H Q->wpAny (model X.prog X.w) X.A (isTrue e X.env whole) (TP X pins σ Q) X.xe s
theorem PW.pt {X:Cx} {e:Expr} {t:TT} (h:PW X e t):PT X e t:=h _
def PA (X:Cx) (es:List Expr) (t:TA):Prop :=
 ∀ (pos:Pos) (pins:List (Addr × Obj)) (s:Shared) (σ : St) (H:Hp) (Q:List V->Hp->Prop),Inv X pins σ H s->t σ H Q->wpAny (model X.prog X.w) X.A (spliced (backTo pos (starEach es X.env))) (AP X pins σ Q) X.xe s
def PS (X:Cx) (st:Stmt) (t:TS):Prop :=
 ∀ (pins:List (Addr × Obj)) (s:Shared) (σ : St) (H:Hp) (D:Ends),Inv X pins σ H s->t D σ H->wpAny (model X.prog X.w) X.A (exec st X.env) (SP X pins D) X.xe s
def PSs (X:Cx) (st:List Stmt) (t:TS):Prop :=
 ∀ (pins:List (Addr × Obj)) (s:Shared) (σ : St) (H:Hp) (D:Ends),Inv X pins σ H s->t D σ H->wpAny (model X.prog X.w) X.A (execs st X.env) (SP X pins D) X.xe s
theorem thn {α : Type} {t:Sem α} {Q Q' : α->Shared->Prop} {M:Model} {A:Around} {E:Value->Shared->Prop} {s:Shared} (h:wpAny M A t Q E s) (hQ:∀ a s,Q a s->Q' a s):wpAny M A t Q' E s:=wpAny_mono h hQ fun _ _ x=>x
section
variable {X:Cx}
def tVar (i:Nat):TE:=fun σ H Q=>∃ v,σ[i]?=some (some v)/\Q v H
def tC (v:V):TE:=fun _ H Q=>Q v H
theorem JkI {i:Nat} {x:Str} {pos:Pos} (hN:X.N[i]?=some x) (hv:Vis X.env.scope x) (hd:(x == ("__debug__" : Str))=false:=by decide) (hcd:(x == ("__classdict__" : Str))=false:=by decide):PE X (.Name x pos) (tVar i):=by
 intro b s σ H Q I h;obtain ⟨v,e,h⟩:=h;obtain ⟨m,f,d⟩:=I.loc;obtain ⟨u,r,l⟩:=d i x v hN e hv;have a:EP X b σ Q u s:=⟨v,H,I,r,h⟩;rcases l with ⟨hk,hm⟩ | ⟨hk,c,hc,hcell⟩
 ·exact wpAny_Name (wpAny_loadName_local I.ok.kind hk f hm a) hd
 ·rcases hk with hk | hk
  ·exact wpAny_Name (wpAny_loadName_cell I.ok.kind hk hc hcell a) hd
  ·exact wpAny_Name (wpAny_loadName_free I.ok.kind hk hc hcell a hcd) hd
theorem Jad {i j pos}:PE X (.Constant (.int i) j pos) (tC (.int i)):=fun _ _ _ H _ I h=>wpAny_Constant_int ⟨.int i,H,I.tok _,⟨_,rfl⟩,h⟩
theorem pe_bl {b j pos}:PE X (.Constant (.bool b) j pos) (tC (.bl b)):=fun _ _ _ H _ I h=>Constant_bool ⟨.bl b,H,I,rfl,h⟩
theorem JaQ {j pos}:PE X (.Constant .none j pos) (tC .non):=fun _ _ _ H _ I h=>Constant_none ⟨.non,H,I,rfl,h⟩
theorem Jco {x j pos}:PE X (.Constant (.str x) j pos) (tC (.str x)):=fun _ _ _ H _ I h=>Calls.Constant_str ⟨.str x,H,I.tok _,⟨_,rfl⟩,h⟩
def Gl (X:Cx) (x:Str):Prop:=X.env.kindOf x=some .globalImplicit
theorem Jcr {E:Value->Shared->Prop} {pins:List (Addr × Obj)} {s:Shared} {σ : St} {H:Hp} {x:Str} {u:Value} {pos:Pos} {Q:Value->Shared->Prop} (I:Inv X pins σ H s) (hg:Gl X x) (hm:X.mg x=some u) (h:Q u s)
  (hd:(x == ("__debug__" : Str))=false:=by decide):wpAny (model X.prog X.w) X.A (eval (.Name x pos) X.env) Q E s :=
 Calls.Name_function_global I.ok.kind hg (Calls.loadGlobal_global (by rw [I.ok.glob];exact I.mod.glob.keeps I.bk) hm h) hd
theorem Jcm {E:Value->Shared->Prop} {pins:List (Addr × Obj)} {s:Shared} {σ : St} {H:Hp} {x:Str} {u:Value} {pos:Pos} {Q:Value->Shared->Prop} (I:Inv X pins σ H s) (hg:Gl X x) (hm:X.mg x=none) (hv:bootBuiltins x=some u) (h:Q u s)
  (hn:x≠"__name__":=by decide) (hd:(x == ("__debug__" : Str))=false:=by decide):wpAny (model X.prog X.w) X.A (eval (.Name x pos) X.env) Q E s:=by
 obtain ⟨c,b,a⟩:=I.mod.blt;exact Calls.Name_function_global I.ok.kind hg (Calls.loadGlobal_builtin (by rw [I.ok.glob];exact I.mod.glob.keeps I.bk) hm (by rw [I.ok.blt];exact b.keeps I.bk) ((a x hn).trans hv) h) hd
theorem Jeh {x:Str} {v:V} {u:Value} {pos:Pos} (hg:Gl X x) (hm:X.mg x=some u) (r:RelV v u) (hd:(x == ("__debug__" : Str))=false:=by decide):PE X (.Name x pos) (tC v) :=
 fun _ _ _ H _ I h=>Jcr I hg hm ⟨v,H,I,r,h⟩ hd
theorem Jb4 {x:Str} {v:V} {u:Value} {pos:Pos} (hg:Gl X x) (hm:X.mg x=none) (hv:bootBuiltins x=some u) (r:RelV v u) (hn:x≠"__name__":=by decide) (hd:(x == ("__debug__" : Str))=false:=by decide):PE X (.Name x pos) (tC v) :=
 fun _ _ _ H _ I h=>Jcm I hg hm hv ⟨v,H,I,r,h⟩ hn hd
variable {a b:Expr} {ta tb:TE} {pos:Pos}
def PC (X:Cx) (op:CmpOp) (a b:Expr) (t:TE):Prop :=
 ∀ (pins:List (Addr × Obj)) (s:Shared) (σ : St) (H:Hp) (Q:VK),Inv X pins σ H s->t σ H Q ->
  wpAny (model X.prog X.w) X.A (eval a X.env) (fun v s₁=>wpAny (model X.prog X.w) X.A (eval b X.env) (fun u s₂=>wpAny (model X.prog X.w) X.A (compareOp op v u) (EP X pins σ Q) X.xe s₂) X.xe s₁) X.xe s
def tB (t:TE):TT:=fun σ H Q=>t σ H fun x H1=>∃ c,x=.bl c/\Q c H1
theorem JdR {op:CmpOp} {t:TE} (h:PC X op a b t) (h1:behindInMarks op b=false:=by first | exact nobehind _ ⋯ ⋯ | rfl):PT X (.Compare a [op] [b] pos) (tB t):=by
 intro e s σ H Q I g;refine wpAny_isTrue_Compare1 (thn (h e s σ H _ I g) fun v n h1=>thn h1 fun u l i=>thn i fun c m ζ=>?_) h1;obtain ⟨x,j,I1,k,f⟩:=ζ;obtain ⟨d,rfl,q⟩:=f;cases k;exact wpAny_truthy_bool ⟨j,I1,q⟩
theorem Jbk {e:Expr} {t:TE} (h:PE X e t) (he:∀ whole,isTrue e X.env whole=(do let v <- whole;standAt e.pos;holding [v] (truthy v)):=by intro _;rfl):PT X e (tB t):=by
 intro a s σ H Q I f;refine isTrue_plain (thn (h a s σ H _ I f) fun v i ζ=>?_) (he _);obtain ⟨x,b,I1,g,c⟩:=ζ;obtain ⟨d,rfl,q⟩:=c;cases g;exact wpAny_truthy_bool ⟨b,I1,q⟩
variable {tA tB':TT} {rest:List Expr}
def tAnd (t u:TT):TT:=fun σ H Q=>t σ H fun c H1=>if c=true then u σ H1 Q else Q false H1
def tOr (t u:TT):TT:=fun σ H Q=>t σ H fun c H1=>if c=true then Q true H1 else u σ H1 Q
def tNot (t:TT):TT:=fun σ H Q=>t σ H fun c H1=>Q (!c) H1
theorem Jej (ha:PT X a tA):PW X (.BoolOp .And [a] pos) tA:=by
 intro f b s σ H Q I h;refine isTrue_and (thn (ha b s σ H Q I h) fun c d e=>?_);cases c with
 | true=>exact isTrue_and_nil e
 | false=>exact e
theorem JbA (ha:PT X a tA):PW X (.BoolOp .Or [a] pos) tA:=by
 intro f b s σ H Q I h;refine isTrue_or (thn (ha b s σ H Q I h) fun c d e=>?_);cases c with
 | false=>exact isTrue_or_nil e
 | true=>exact e
theorem Jgi (ha:PT X a tA) (hb:PW X (.BoolOp .And (b::rest) pos) tB'):PW X (.BoolOp .And (a::b::rest) pos) (tAnd tA tB'):=by
 intro i d s σ H Q I h;refine isTrue_and (thn (ha d s σ H _ I h) fun c g ⟨e,I1,f⟩=>?_);cases c with
 | true=>exact hb i d g σ e Q I1 f
 | false=>exact ⟨e,I1,f⟩
theorem pw_or (ha:PT X a tA) (hb:PW X (.BoolOp .Or (b::rest) pos) tB'):PW X (.BoolOp .Or (a::b::rest) pos) (tOr tA tB'):=by
 intro i d s σ H Q I h;refine isTrue_or (thn (ha d s σ H _ I h) fun c g ⟨e,I1,f⟩=>?_);cases c with
 | true=>exact ⟨e,I1,f⟩
 | false=>exact hb i d g σ e Q I1 f
theorem Jbz (ha:PT X a tA):PT X (.UnaryOp .Not a pos) (tNot tA):=by
 intro b s σ H Q I h;exact isTrue_not (ha b s σ H (fun c d=>Q (!c) d) I h)
def tAndV (ta tb:TE):TE:=fun σ H Q=>ta σ H fun x H1=>∃ c,x=.bl c/\if c=true then tb σ H1 Q else Q (.bl false) H1
def tOrV (ta tb:TE):TE:=fun σ H Q=>ta σ H fun x H1=>∃ c,x=.bl c/\if c=true then Q (.bl true) H1 else tb σ H1 Q
def tNotV (ta:TE):TE:=fun σ H Q=>ta σ H fun x H1=>∃ c,x=.bl c/\Q (.bl (!c)) H1
theorem JcV {op} {t:TE} (h:PE X a t):PE X (.BoolOp op [a] pos) t:=fun b s σ H Q I c=>BoolOp_one (h b s σ H Q I c)
theorem Jcn (ha:PE X a ta) (hb:PE X (.BoolOp .And (b::rest) pos) tb):PE X (.BoolOp .And (a::b::rest) pos) (tAndV ta tb):=by
 intro d s σ H Q I h;refine BoolOp_and (thn (ha d s σ H _ I h) fun v g ζ=>?_);obtain ⟨x,f,I1,i,e⟩:=ζ;obtain ⟨c,rfl,e⟩:=e;cases i;refine wpAny_truthy_bool ?_;cases c with
 | true=>exact hb d g σ f Q I1 e
 | false=>exact ⟨.bl false,f,I1,rfl,e⟩
theorem pe_or (ha:PE X a ta) (hb:PE X (.BoolOp .Or (b::rest) pos) tb):PE X (.BoolOp .Or (a::b::rest) pos) (tOrV ta tb):=by
 intro d s σ H Q I h;refine BoolOp_or (thn (ha d s σ H _ I h) fun v g ζ=>?_);obtain ⟨x,f,I1,i,e⟩:=ζ;obtain ⟨c,rfl,e⟩:=e;cases i;refine wpAny_truthy_bool ?_;cases c with
 | false=>exact hb d g σ f Q I1 e
 | true=>exact ⟨.bl true,f,I1,rfl,e⟩
theorem Ji8 (ha:PE X a ta):PE X (.UnaryOp .Not a pos) (tNotV ta):=by
 intro b s σ H Q I h;refine UnaryOp_ (thn (ha b s σ H _ I h) fun v g ζ=>?_);obtain ⟨x,e,I1,f,d⟩:=ζ;obtain ⟨c,rfl,d⟩:=d;cases f;exact not_of (wpAny_truthy_bool ⟨.bl (!c),e,I1,rfl,d⟩)
def tIf (t:TT) (ta tb:TE):TE:=fun σ H Q=>t σ H fun c H1=>if c=true then ta σ H1 Q else tb σ H1 Q
theorem Jiw {c:Expr} (hc:PT X c tA) (ha:PE X a ta) (hb:PE X b tb):PE X (.IfExp c a b pos) (tIf tA ta tb):=by
 intro e s σ H Q I h;refine wpAny_IfExp (thn (hc e s σ H _ I h) fun d f ⟨g,I1,i⟩=>?_);cases d with
 | true=>exact ha e f σ g Q I1 i
 | false=>exact hb e f σ g Q I1 i
end
def SqL (K:W.Frag) (H:Hp) (a:Addr) (xs:List V):Prop :=
 Rd H a (.lst xs) \/
  ∃ (o:Obj) (its:Array Value) (n:Nat),K.lookup a=some o/\o.cls=.type "list"/\o.dict=none/\o.data=.seq its n/\its.size<=sizeLine/\Vals xs its.toList
def SqT (K:W.Frag) (H:Hp) (a:Addr) (xs:List V):Prop :=
 Rd H a (.tup xs) \/
  ∃ (o:Obj) (its:Array Value) (n:Nat),K.lookup a=some o/\o.cls=.type "tuple"/\o.data=.seq its n/\its.size<=sizeLine/\Vals xs its.toList
def absV:Value->Option V
 | .none=>some .non
 | .bool b=>some (.bl b)
 | .int i _=>some (.int i)
 | .str x _=>some (.str x)
 | .bytes b _=>some (.byt b)
 | .float b _=>some (.flt b)
 | .ref a=>some (.ref a)
 | .type n=>some (.ty n)
 | _=>none
theorem RelV.abs {x:V} {u:Value} (r:RelV x u):absV u=some x:=by
 cases x with
 | non=>cases r;rfl
 | bl _=>cases r;rfl
 | int _=>obtain ⟨t,rfl⟩:=r;rfl
 | str _=>obtain ⟨t,rfl⟩:=r;rfl
 | byt _=>obtain ⟨t,rfl⟩:=r;rfl
 | flt _=>obtain ⟨t,rfl⟩:=r;rfl
 | ref _=>cases r;rfl
 | ty _=>cases r;rfl
theorem RelV.inj {x y:V} {u:Value} (r:RelV x u) (q:RelV y u):x=y:=Option.some.inj (r.abs.symm.trans q.abs)
theorem Vals.inj:∀ {xs ys:List V} {us:List Value},Vals xs us->Vals ys us->xs=ys
 | _,_,_, .nil, .nil=>rfl
 | _,_,_, .cons r t, .cons r' t'=>by rw [r.inj r',Vals.inj t t']
section
variable {X:Cx} {pins:List (Addr × Obj)} {σ : St} {H:Hp} {s:Shared} {a:Addr} {xs ys:List V}
theorem SqL.of {K:W.Frag} (h:H a=some (.lst xs)):SqL K H a xs:=.inl (.inl h)
theorem SqT.of {K:W.Frag} (h:H a=some (.tup xs)):SqT K H a xs:=.inl (.inl h)
theorem Inv.list (I:Inv X pins σ H s) (h:SqL X.K H a xs):∃ its:List Value,Vals xs its/\PlainL s.heap a its.toArray/\xs.length<=sizeLine:=by
 rcases h with h | ⟨o,its,n,hk,hc,hd,hs,hz,r⟩
 ·obtain ⟨z,its,n,r,e⟩:=h.ok I.hok;exact ⟨its,r,⟨_,n,e,rfl,rfl,rfl⟩,z⟩
 ·refine ⟨its.toList,r,⟨o,n,I.kIn a o hk,hc,hd,by simpa using hs⟩,?_⟩;have e:=r.length;simp only [Array.length_toList] at e;ac_nf
theorem Inv.tuple (I:Inv X pins σ H s) (h:SqT X.K H a xs):∃ its:List Value,Vals xs its/\IsTup s.heap a its.toArray/\xs.length<=sizeLine:=by
 rcases h with h | ⟨o,its,n,hk,hc,hs,hz,r⟩
 ·obtain ⟨z,its,r,p⟩:=h.ok I.hok;exact ⟨its,r,p,z⟩
 ·refine ⟨its.toList,r,⟨o,I.kIn a o hk,hc,n,by simpa using hs⟩,?_⟩;have e:=r.length;simp only [Array.length_toList] at e;ac_nf
theorem Inv.list_inj (I:Inv X pins σ H s) (h:SqL X.K H a xs) (h':SqL X.K H a ys):xs=ys:=by
 obtain ⟨c,r,⟨o,n,e,_,_,d⟩,_⟩:=I.list h;obtain ⟨b,i,⟨k,j,f,_,_,g⟩,_⟩:=I.list h';rw [e] at f;cases f;rw [d] at g;injection g with d1 _
 have : c=b:=by simpa using congrArg Array.toList d1
 subst this;exact r.inj i
theorem Inv.tuple_inj (I:Inv X pins σ H s) (h:SqT X.K H a xs) (h':SqT X.K H a ys):xs=ys:=by
 obtain ⟨c,r,⟨o,e,_,n,d⟩,_⟩:=I.tuple h;obtain ⟨b,i,⟨k,f,_,j,g⟩,_⟩:=I.tuple h';rw [e] at f;cases f;rw [d] at g;injection g with d1 _
 have : c=b:=by simpa using congrArg Array.toList d1
 subst this;exact r.inj i
end
abbrev Cx.wish (X:Cx) (E:Value->Shared->Prop):Cx:={ X with xe:=E }
abbrev Cx.nox (X:Cx):Cx:=X.wish fun _ _=>False
theorem Cx.Ok.wish {X:Cx} (ok:X.Ok) (E:Value->Shared->Prop):(X.wish E).Ok :=
 ⟨ok.mod,ok.kind,ok.glob,ok.blt,ok.above,ok.inj,ok.has,ok.cab,ok.hd,ok.frames,ok.stk,ok.exf,ok.bs,ok.bsz,ok.noex,ok.exfs,ok.funs,ok.frf⟩
theorem Cx.Ok.unwish {X:Cx} {E:Value->Shared->Prop} (ok:(X.wish E).Ok):X.Ok :=
 ⟨ok.mod,ok.kind,ok.glob,ok.blt,ok.above,ok.inj,ok.has,ok.cab,ok.hd,ok.frames,ok.stk,ok.exf,ok.bs,ok.bsz,ok.noex,ok.exfs,ok.funs,ok.frf⟩
section
variable {X:Cx} {pins:List (Addr × Obj)} {σ : St} {H:Hp} {s:Shared} {E:Value->Shared->Prop}
theorem Inv.wish (I:Inv X pins σ H s) (E:Value->Shared->Prop):Inv (X.wish E) pins σ H s:=⟨I.ok.wish E,I.os,I.bare,I.base,I.loc,I.cell,I.free,I.freeC,I.pin,I.hok,I.len⟩
theorem Inv.unwish (I:Inv (X.wish E) pins σ H s):Inv X pins σ H s:=⟨I.ok.unwish,I.os,I.bare,I.base,I.loc,I.cell,I.free,I.freeC,I.pin,I.hok,I.len⟩
theorem SP.unwish {D:Ends} {f:Flow} {s':Shared} (h:SP (X.wish E) pins D f s'):SP X pins D f s':=by
 cases f with
 | next=>obtain ⟨σ',a,I,q⟩:=h;exact ⟨σ',a,I.unwish,q⟩
 | brk=>obtain ⟨σ',a,I,q⟩:=h;exact ⟨σ',a,I.unwish,q⟩
 | cont=>obtain ⟨σ',a,I,q⟩:=h;exact ⟨σ',a,I.unwish,q⟩
 | ret u=>obtain ⟨v,σ',a,I,r,q⟩:=h;exact ⟨v,σ',a,I.unwish,r,q⟩
theorem PSs.nox {st:List Stmt} {t:TS} (h:PSs X.nox st t):PSs X st t:=fun a s σ H D I b=>
 wpAny_mono (h a s σ H D (I.wish _) b) (fun _ _ q=>q.unwish) fun _ _ z=>False.elim z
end
section
variable {X:Cx} {st:Stmt} {rest:List Stmt} {t u:TS} {e:Expr} {te:TE} {pos:Pos}
def tNext:TS:=fun D σ H=>D.nx σ H
def tSeq (t u:TS):TS:=fun D σ H=>t { D with nx:=u D } σ H
theorem Jas:PSs X [] tNext:=fun _ _ σ H _ I h=>wpAny_execs_nil ⟨σ,H,I,h⟩
theorem Jab (h1:PS X st t) (h2:PSs X rest u):PSs X (st::rest) (tSeq t u):=by
 intro a s σ H D I h;refine wpAny_execs_cons (thn (h1 a s σ H { D with nx:=u D } I h) fun f b q=>?_);cases f with
 | next=>
  obtain ⟨σ',c,I',q⟩:=q;exact h2 a b σ' c D I' q
 | ret v=>exact q
 | brk=>exact q
 | cont=>exact q
theorem Jah (h1:PS X st t):PSs X [st] t:=by
 intro a s σ H D I h;refine wpAny_execs_cons (thn (h1 a s σ H D I h) fun f b q=>?_);cases f with
 | next=>exact wpAny_execs_nil q
 | ret v=>exact q
 | brk=>exact q
 | cont=>exact q
theorem Inv.quiet {pins:List (Addr × Obj)} {σ : St} {H:Hp} {s:Shared} (I:Inv X pins σ H s):interactive X.env=false:=by simp [interactive,I.ok.kind]
def tDrop (te:TE):TS:=fun D σ H=>te σ H fun _ H1=>D.nx σ H1
theorem Ja6 (he:PE X e te) (hs:swapsWith e none pos.line X.env=pure false:=by rfl):PS X (.Expr e pos) (tDrop te):=by
 intro a s σ H D I h;exact wpAny_Expr_any (thn (he a s σ H _ I h) fun v d ⟨x,b,I1,f,c⟩=>⟨σ,b,I1,c⟩) I.quiet hs
def tRet (te:TE):TS:=fun D σ H=>te σ H D.rt
theorem Jao (he:PE X e te):PS X (.Return (some e) pos) (tRet te):=by
 intro a s σ H D I h;exact wpAny_Return_some (thn (he a s σ H _ I h) fun v f ⟨x,b,I1,d,c⟩=>⟨x,σ,b,I1,d,c⟩)
def tRetN:TS:=fun D _ H=>D.rt .non H
def tIfS (c:TT) (t u:TS):TS:=fun D σ H=>c σ H fun b H1=>if b=true then t D σ H1 else u D σ H1
theorem ps_if {c:Expr} {a b:List Stmt} {tc:TT} (hc:PT X c tc) (ha:PSs X a t) (hb:PSs X b u):PS X (.If c a b pos) (tIfS tc t u):=by
 intro e s σ H D I h;refine wpAny_If (thn (hc e s σ H _ I h) fun d f ⟨g,I1,i⟩=>?_);cases d with
 | true=>exact ha e f σ g D I1 i
 | false=>exact hb e f σ g D I1 i
end
abbrev TG:=V->St->Hp->(St->Hp->Prop)->Prop
abbrev TGs:=List V->St->Hp->(St->Hp->Prop)->Prop
def PG (X:Cx) (target:Expr) (t:TG):Prop :=
 ∀ (pins:List (Addr × Obj)) (s:Shared) (σ : St) (H:Hp) (v:V) (u:Value) (Q:St->Hp->Prop),Inv X pins σ H s->RelV v u->t v σ H Q ->
  wpAny (model X.prog X.w) X.A (assign target X.env u) (fun _ s'=>∃ σ' H',Inv X pins σ' H' s'/\Q σ' H') X.xe s
def PGs (X:Cx) (ts:List Expr) (t:TGs):Prop :=
 ∀ (pins:List (Addr × Obj)) (s:Shared) (σ : St) (H:Hp) (vs:List V) (us:List Value) (Q:St->Hp->Prop),Inv X pins σ H s->Vals vs us->t vs σ H Q ->
  wpAny (model X.prog X.w) X.A (assignInOrder ((assignEach ts X.env).map (·.2)) us) (fun _ s'=>∃ σ' H',Inv X pins σ' H' s'/\Q σ' H') X.xe s
section
variable {X:Cx} {pos:Pos}
def gName (i:Nat):TG:=fun v σ H Q=>Q (σ.set i (some v)) H
theorem Jat {i:Nat} {x:Str} (hN:X.N.Nodup) (hi:X.N[i]?=some x) (hx:Loc X.env.scope x) (hf:X.fn x=true\/X.env.scope.names.lookup x=some .local:=by first | exact .inl rfl | exact .inr rfl | assumption):PG X (.Name x pos) (gName i):=by
 intro a s σ H v u Q I r h;exact wpAny_assign_Name (JcK I hN hi hx r (fun b I'=>⟨_,H,I',h⟩) hf)
def gNil:TGs:=fun vs σ H Q=>vs=[]/\Q σ H
def gCons (t:TG) (u:TGs):TGs:=fun vs σ H Q=>∃ v r,vs=v::r/\t v σ H fun σ' H'=>u r σ' H' Q
theorem Jei:PGs X [] gNil:=by
 intro a s σ H b c Q I r h;obtain ⟨e,h⟩:=h;subst e;cases r;exact assignInOrder_nil ⟨σ,H,I,h⟩
theorem JaW {e:Expr} {es:List Expr} {t:TG} {u:TGs} (h1:PG X e t) (h2:PGs X es u)
  (hs:(assignEach (e::es) X.env).map (·.2)=assign e X.env::(assignEach es X.env).map (·.2):=by rfl):PGs X (e::es) (gCons t u):=by
 intro a s σ H i j Q I r h;obtain ⟨v,g,f,h⟩:=h;subst f;cases r with
 | cons r rr=>
  rw [hs];refine assignInOrder_cons (thn (h1 a s σ H _ _ _ I r h) fun _ b ⟨σ1,c,I1,d⟩=>?_);exact h2 a b σ1 c _ _ Q I1 rr d
def gTup (K:W.Frag) (n:Nat) (t:TGs):TG:=fun v σ H Q=>∃ a xs,v=.ref a/\SqT K H a xs/\xs.length=n/\t xs σ H Q
theorem JhF {es:List Expr} {k:Nat} {t:TGs} {n:Nat} (hc:X.calm=true) (h:PGs X es t)
  (hn:(assignEach es X.env).length=n:=by rfl) (hst:(assignEach es X.env).findIdx? (·.1)=none:=by rfl):PG X (.Tuple es k pos) (gTup X.K n t):=by
 intro c s σ H v u Q I r d;obtain ⟨a,j,q,l,w,d⟩:=d;subst q;cases r;obtain ⟨p,f,i,x⟩:=I.tuple l;refine assign_Tuple_tuple (I.ok.hd hc) i (by simp [hn, <- w,f.length]) hst fun g m=>?_;have I1:Inv X c σ H { s with heap:=g }:=I.kept (t':=s.toks) fun b o e=>m b o (Nat.ne_of_lt (Heap.lt_size e)) e;exact h c _ σ H j _ Q I1 (by simpa using f) d
def tAsg (te:TE) (g:TG):TS:=fun D σ H=>te σ H fun x H1=>g x σ H1 D.nx
theorem Jaj {i:Nat} {x:Str} {e:Expr} {te:TE} {pos':Pos} (hN:X.N.Nodup) (hi:X.N[i]?=some x) (hx:Loc X.env.scope x) (he:PE X e te) (hs:swapsWith e (some (.Name x pos')) pos.line X.env=pure false:=by rfl) (hf:X.fn x=true\/X.env.scope.names.lookup x=some .local:=by first | exact .inl rfl | exact .inr rfl | assumption) :
  PS X (.Assign [.Name x pos'] e pos) (tAsg te (gName i)):=by
 intro a s σ H D I h;refine wpAny_Assign_Name (thn (he a s σ H _ I h) fun v g ζ=>?_) hs;obtain ⟨y,b,I1,d,c⟩:=ζ;exact JcK I1 hN hi hx d (fun f I2=>⟨_,b,I2,c⟩) hf
def tPar (i j:Nat) (ta:TA):TS:=fun D σ H=>ta σ H fun vs H1=>∃ v w,vs=[v,w]/\D.nx ((σ.set i (some v)).set j (some w)) H1
theorem JkK {i j:Nat} {x y:Str} {a b:Expr} {ta:TA} {px py pt:Pos} {kt k2 pt2} (hc:X.calm=true) (hN:X.N.Nodup) (hi:X.N[i]?=some x) (hj:X.N[j]?=some y) (hij:i≠j)
  (hx:X.env.scope.names.lookup x=some .local) (hy:X.env.scope.names.lookup y=some .local) (ha:PA X [a,b] ta)
  (hw:swappedStores [.Tuple [.Name x px, .Name y py] kt pt] (.Tuple [a,b] k2 pt2) X.env=pure (some [x,y]))
  (hs:swapsWithSole [.Tuple [.Name x px, .Name y py] kt pt] (.Tuple [a,b] k2 pt2) pos.line X.env=pure false:=by rfl) :
  PS X (.Assign [.Tuple [.Name x px, .Name y py] kt pt] (.Tuple [a,b] k2 pt2) pos) (tPar i j ta):=by
 intro c s σ H D I h;rw [exec_Assign_arm];refine wpAny_bind (wpAny_standAt ?_);rw [hs];refine wpAny_bind (wpAny_pure ?_);rw [if_neg ⋯];refine wpAny_bind (Tuple_ (thn (ha _ c s σ H _ I h) fun t f ζ=>?_));obtain ⟨E,n,I1,u,k⟩:=ζ;obtain ⟨v,w,z,k⟩:=k;subst z;obtain ⟨d,g,rfl,r,l⟩:∃ d g,t=[d,g]/\RelV v d/\RelV w g:=by
  cases u with
  | cons p q=>
   cases q with
   | cons p' q'=>
    cases q';exact ⟨_,_,rfl,p,p'⟩
 refine wpAny_newObj_type ?_ (by show 2<=sizeLine;decide);have I2:Inv X c σ n { f with heap:=f.heap.push { cls:=.type "tuple",data:=.seq [d,g].toArray } }:=I1.kept (t':=f.toks) fun b o e=>Heap.get?_push_of_some _ e;rw [hw];refine wpAny_bind (wpAny_pure ?_);show wpAny (model X.prog X.w) X.A (do rule "assign.swapped-stores";let items <- unpackItems (.ref f.heap.objs.size) 2 none;assignInOrder [fun v=>bindName X.env y v,fun v=>bindName X.env x v] items.reverse;pure Flow.next) _ _ _;refine wpAny_bind (wpAny_rule (wpAny_bind (unpackItems_tuple (items:=#[d,g]) (I.ok.hd hc) (IsTup.new f.heap _) fun h' m=>?_)));have I3:=I2.kept (h':=h') (t':=f.toks) fun b o e=>m b o (Nat.ne_of_lt (Heap.lt_size e)) e;show wpAny _ _ (assignInOrder [fun v=>bindName X.env y v,fun v=>bindName X.env x v] [g,d] >>= fun _=>pure Flow.next) _ _ _;refine wpAny_bind (assignInOrder_cons (wpAny_bindName (JcK I3 hN hj (.inl hy) l (fun B I4=>?_) (.inr hy))));refine assignInOrder_cons (wpAny_bindName (JcK I4 hN hi (.inl hx) r (fun C I5=>assignInOrder_nil (wpAny_pure ?_)) (.inr hx)));rw [List.set_comm _ _ (Ne.symm hij)] at I5;exact ⟨_,n,I5,k⟩
end
section
variable {X:Cx} {pos:Pos}
def JkW (c:TT) (tb:TS):TS:=fun D σ H=>∃ W:Nat->St->Hp->Prop,(∃ m,W m σ H)/\∀ m σ H,W m σ H ->
 c σ H fun b H1=>if b=true then ∃ N:St->Hp->Prop,(∀ σ' H',N σ' H'->∃ m',m'<m/\W m' σ' H')/\tb { D with nx:=N,ct:=N,bk:=D.nx } σ H1 else D.nx σ H1
theorem JcH {c:Expr} {body:List Stmt} {tc:TT} {tb:TS} (hp:PassesOwn (model X.prog X.w) X.A X.env X.xe) (hc:PT X c tc) (hb:PSs X body tb):PS X (.While c body [] pos) (JkW tc tb):=by
 intro a s σ H D I h;obtain ⟨W,⟨r,y⟩,e⟩:=h;refine wpAny_While (codeAny_whileLoop (fun n x=>∃ σ' H',Inv X a σ' H' x/\W n σ' H') ?_ r ⟨σ,H,I,y⟩);rintro n u ⟨σ1,p,I1,z⟩;refine wpAny_passesOwn hp (thn (hc a u σ1 p _ I1 (e n σ1 p z)) fun b t ⟨q,I2,g⟩=>?_);cases b with
 | true=>
  obtain ⟨N,o,g⟩:=g;rw [if_pos rfl];refine wpAny_passesOwn hp (thn (hb a t σ1 q _ I2 g) fun f B i=>?_);cases f with
  | next=>
   obtain ⟨σ3,d,I3,m⟩:=i;obtain ⟨l,j,k⟩:=o σ3 d m;exact ⟨l,j,σ3,d,I3,k⟩
  | cont=>
   obtain ⟨σ3,d,I3,m⟩:=i;obtain ⟨l,j,k⟩:=o σ3 d m;exact ⟨l,j,σ3,d,I3,k⟩
  | brk=>exact i
  | ret v=>exact i
 | false=>
  rw [if_neg Bool.false_ne_true];exact wpAny_execs_nil ⟨σ1,q,I2,g⟩
end
structure It where
 go:Nat->Hp->Prop
 yld:Nat->Hp->V->Hp->Prop
 stop:Nat->Hp->Prop
def FpOk (X:Cx) (pins:List (Addr × Obj)) (H:Hp) (b:Addr):Prop :=
 H b=none/\b≠X.env.locals/\b∉X.fs/\(b∈X.ex\/X.s₀.heap.objs.size<=b)/\(∀ x c,X.env.cells.lookup x=some c->c≠b)/\∀ p∈X.pn++pins,p.1≠b
theorem Inv.fpOk {X:Cx} {pins:List (Addr × Obj)} {σ : St} {H H':Hp} {s:Shared} {b:Addr} (I:Inv X pins σ H s) (hb:s.heap.objs.size<=b) (hn:H' b=none):FpOk X pins H' b:=by
 refine ⟨hn,Nat.ne_of_gt (Nat.lt_of_lt_of_le I.lt hb),I.nofs hb, .inr (Nat.le_trans I.sz hb),fun x c e z=>?_,fun p a z=>?_⟩
 ·obtain ⟨v,q⟩:=I.cell x c e;exact absurd (Nat.lt_of_lt_of_le q.lt (by rw [z];exact hb)) (Nat.lt_irrefl _)
 ·exact absurd (Nat.lt_of_lt_of_le (Heap.lt_size (I.pin p a).1) (by rw [z];exact hb)) (Nat.lt_irrefl _)
structure Turn (P:Program) (w:World) (K:W.Frag) (tg:Expr) (J:It) (fp:List Addr) (it:Addr) (tn:Nat->Heap->Prop):Prop where
 mem:it∈fp
 obj:∀ i h,tn i h->∀ b∈fp, ∃ o,h.get? b=some o/\∀ v,o.data≠.cell v
 keep:∀ i h h',tn i h->(∀ b∈fp, ∀ o,h.get? b=some o->h'.get? b=some o)->tn i h'
 item:∀ (X:Cx),X.prog=P->X.w=w->X.K=K->X.calm=true->∀ (i:Nat) (pins:List (Addr × Obj)) (s:Shared) (σ : St) (H:Hp) (E:Value->Shared->Prop),Inv X pins σ H s->(∀ b∈fp,FpOk X pins H b)->tn i s.heap->J.go i H ->
  wpAny (model P w) X.A (pyNext (.ref it)) (fun r s1=>∃ u,r=some u /\
   wpAny (model P w) X.A (letOwnedTupleGo tg (.ref it) u) (fun _ s2=>∃ x H',Inv X pins σ H' s2/\RelV x u/\J.yld i H x H'/\tn (i+1) s2.heap/\∀ b∈fp,H' b=none) E s1) E s
 done:∀ (X:Cx),X.prog=P->X.w=w->X.K=K->X.calm=true->∀ (i:Nat) (pins:List (Addr × Obj)) (s:Shared) (σ : St) (H:Hp) (E:Value->Shared->Prop),Inv X pins σ H s->(∀ b∈fp,FpOk X pins H b)->tn i s.heap->J.stop i H ->
  wpAny (model P w) X.A (pyNext (.ref it)) (fun r s1=>r=none/\Inv X pins σ H s1) E s
 self:∀ (A:Around) (i:Nat) (s:Shared) (Q:Value->Shared->Prop) (E:Value->Shared->Prop),tn i s.heap->Q (.ref it) s->wpAny (model P w) A (pyIter (.ref it)) Q E s
abbrev TI:=St->Hp->(It->Hp->Prop)->Prop
def PIE (X:Cx) (pins:List (Addr × Obj)) (σ : St) (tg:Expr) (R:It->Hp->Prop) (itv:Value) (s2:Shared):Prop :=
 ∃ (it:Addr) (fp:List Addr) (tn:Nat->Heap->Prop) (J:It) (H':Hp),itv=.ref it/\Inv X pins σ H' s2/\Turn X.prog X.w X.K tg J fp it tn/\tn 0 s2.heap/\(∀ b∈fp,FpOk X pins H' b)/\R J H'
def PI (X:Cx) (tg iter:Expr) (wi:TI):Prop :=
 ∀ (pins:List (Addr × Obj)) (s:Shared) (σ : St) (H:Hp) (R:It->Hp->Prop),Inv X pins σ H s->wi σ H R ->
  wpAny (model X.prog X.w) X.A (eval iter X.env) (fun v s1=>wpAny (model X.prog X.w) X.A (pyIter v) (PIE X pins σ tg R) X.xe s1) X.xe s
theorem go_of {M:Model} {A:Around} {E:Value->Shared->Prop} {s:Shared} {tg:Expr} {it:Addr} {u:Value} {o:Obj} {n:String} {vs:Array Value} {Q:Unit->Shared->Prop} (ho:s.heap.get? it=some o) (hc:o.cls=.type n) (hd:o.data=.fields vs)
    (hn:["enumerate","zip","dict_itemiterator","dict_reverseitemiterator","odict_iterator","itertools.zip_longest","itertools.pairwise"].contains n=false) (hQ:Q () s):wpAny M A (letOwnedTupleGo tg (.ref it) u) Q E s:=by
  unfold letOwnedTupleGo;cases tg <;> first
    | exact wpAny_pure hQ
    | (cases u <;> first
        | exact wpAny_pure hQ
        | (refine wpAny_bind (wpAny_load ho ?_)
           rw [hc,hd];show wpAny M A (if (["enumerate","zip","dict_itemiterator","dict_reverseitemiterator","odict_iterator","itertools.zip_longest","itertools.pairwise"].contains n&&vs[0]? == some (rawInt _))=true then _ else _) Q E s;rw [if_neg (by intro h;rw [hn,Bool.false_and] at h;cases h)];exact wpAny_pure hQ))
def Itl (K:W.Frag) (a:Addr):It :=
 ⟨fun i H=>∃ xs x,SqL K H a xs/\xs[i]?=some x,fun i H x H'=>H'=H/\∀ xs,SqL K H a xs->xs[i]?=some x,fun i H=>∃ xs,SqL K H a xs/\xs.length<=i⟩
def Itt (K:W.Frag) (a:Addr):It :=
 ⟨fun i H=>∃ xs x,SqT K H a xs/\xs[i]?=some x,fun i H x H'=>H'=H/\∀ xs,SqT K H a xs->xs[i]?=some x,fun i H=>∃ xs,SqT K H a xs/\xs.length<=i⟩
def Itr (lo:Int) (n:Nat):It:=⟨fun i _=>i<n,fun i H x H'=>H'=H/\x=.int (lo+i),fun i _=>n<=i⟩
theorem Jh4 {P:Program} {w:World} {K:W.Frag} {tg:Expr} (a it:Addr):Turn P w K tg (Itl K a) [it] it (fun i h=>h.IsListIter it a i) where
 mem:=by simp
 obj:=fun i h f b j=>by
  have e:b=it:=by simpa using j
  subst e;obtain ⟨o,e,c,d⟩:=f;exact ⟨o,e,fun v z=>by rw [d] at z;cases z⟩
 keep:=fun i h m f k=>f.at fun o e=>k it (by simp) o e
 item:=by
  intro X C r G N i g s σ H E I q f L;subst C r G;obtain ⟨V,x,n,F⟩:=L;obtain ⟨J,t,p,T⟩:=I.list n;obtain ⟨u,Q,U⟩:=t.get F;obtain ⟨B,D,O,M,y,A⟩:=q it (by simp);refine wpAny_pyNext_list_item f p.isList (x:=u) (by simpa using Q) fun m l Y=>?_;have I1:Inv X g σ H { s with heap:=m }:=I.turned (t':=s.toks) (fun b o j e=>(Y.2 b j).trans e) B D M y A;obtain ⟨o,e,c,d⟩:=id l;exact ⟨u,rfl,go_of (s:={ s with heap:=m }) e c d ⋯ ⟨x,H,I1,U,⟨rfl,fun Z R=>by rw [I.list_inj R n];exact F⟩,l,fun b j=>(q b j).1⟩⟩
 done:=by
  intro X C r G N i g s σ H E I q f L;subst C r G;obtain ⟨V,n,F⟩:=L;obtain ⟨J,t,p,T⟩:=I.list n;obtain ⟨B,D,O,M,y,A⟩:=q it (by simp);have hl:=t.length;exact wpAny_pyNext_list_end (I.ok.hd N) f p.isList (by simp;ac_nf) fun m S=>⟨rfl,I.turned (t':=s.toks) (fun b o j e=>S b o j e) B D M y A⟩
 self:=fun _ _ _ _ _ f h=>wpAny_pyIter_listiter f h
theorem JgN {P:Program} {w:World} {K:W.Frag} {tg:Expr} (a it:Addr):Turn P w K tg (Itt K a) [it] it (fun i h=>h.IsTupleIter it a i) where
 mem:=by simp
 obj:=fun i h f b l=>by
  have e:b=it:=by simpa using l
  subst e;obtain ⟨o,e,c,d⟩:=f;exact ⟨o,e,fun v z=>by rw [d] at z;cases z⟩
 keep:=fun i h n f k=>f.at fun o e=>k it (by simp) o e
 item:=by
  intro X D t J N i g s σ H E I r f L;subst D t J;obtain ⟨V,x,q,G⟩:=L;obtain ⟨j,y,p,T⟩:=I.tuple q;obtain ⟨u,Q,U⟩:=y.get G;obtain ⟨C,F,O,M,A,B⟩:=r it (by simp);refine wpAny_pyNext_tuple_item f (show s.heap.IsTuple a j.toArray from p) (x:=u) (by simpa using Q) fun n m Y=>?_;have I1:Inv X g σ H { s with heap:=n }:=I.turned (t':=s.toks) (fun b o l e=>(Y.2 b l).trans e) C F M A B;obtain ⟨o,e,c,d⟩:=id m;exact ⟨u,rfl,go_of (s:={ s with heap:=n }) e c d ⋯ ⟨x,H,I1,U,⟨rfl,fun Z R=>by rw [I.tuple_inj R q];exact G⟩,m,fun b l=>(r b l).1⟩⟩
 done:=by
  intro X D t J N i g s σ H E I r f L;subst D t J;obtain ⟨V,q,G⟩:=L;obtain ⟨j,y,p,T⟩:=I.tuple q;obtain ⟨C,F,O,M,A,B⟩:=r it (by simp);have hl:=y.length;exact wpAny_pyNext_tuple_end (I.ok.hd N) f (show s.heap.IsTuple a j.toArray from p) (by simp;ac_nf) fun n S=>⟨rfl,I.turned (t':=s.toks) (fun b o l e=>S b o l e) C F M A B⟩
 self:=fun _ _ _ _ _ f h=>wpAny_pyIter_tupleiter f h
theorem JgM {P:Program} {w:World} {K:W.Frag} {tg:Expr} (it:Addr) (lo:Int) (n:Nat):Turn P w K tg (Itr lo n) [it] it (fun i h=>IsRangeIter h it (lo+(i:Nat)*1) ((n:Int)-(i:Nat)) 1) where
 mem:=by simp
 obj:=fun i h a b d=>by
  have e:b=it:=by simpa using d
  subst e;exact ⟨_,a,fun v z=>by
   have J:Data.fields _=Data.cell v:=z;cases J⟩
 keep:=fun i h g a k=>k it (by simp) _ a
 item:=by
  intro X u l y q i c s σ H E I j a A;subst u l y;obtain ⟨r,x,D,B,m,p⟩:=j it (by simp);have W:=Walks.range (prog:=X.prog) (w:=X.w) (I.ok.hd q) it lo 1 n;refine W.item i s _ _ A a fun v g C L f G=>?_;obtain ⟨t,rfl⟩:=L;have I1:Inv X c σ H { s with heap:=g,toks:=C }:=I.turned (fun b o d e=>G b o (by simpa using d) e) r x B m p;refine ⟨_,rfl,go_of (s:={ s with heap:=g,toks:=C }) (n:="range_iterator") f rfl rfl ⋯ ⟨.int (lo+i),H,I1,⟨t,?_⟩,⟨rfl,rfl⟩,f,fun b d=>(j b d).1⟩⟩;rw [Int.mul_one]
 done:=by
  intro X u l y q i c s σ H E I j a A;subst u l y;obtain ⟨r,x,D,B,m,p⟩:=j it (by simp);exact wpAny_pyNext_range_end (I.ok.hd q) a (by have : n<=i:=A;ac_nf) fun g F=>⟨rfl,I.turned (t':=s.toks) (fun b o d e=>F b o d e) r x B m p⟩
 self:=fun _ _ _ _ _ a h=>wpAny_pyIter_rangeiter a h
section
variable {X:Cx} {tg:Expr}
theorem JiD {pins:List (Addr × Obj)} {σ : St} {H:Hp} {s:Shared} {R:It->Hp->Prop} {E:Value->Shared->Prop} {lo hi:Int} {t u v:Tok} {tk:Nat} (I:Inv X pins σ H s) (h1 : -(2 ^ 62)<=lo) (h2:lo<2 ^ 62) (h3 : -(2 ^ 62)<=hi) (h4:hi<2 ^ 62)
  (q:R (Itr lo (hi-lo).toNat) H):wpAny (model X.prog X.w) X.A (pyIter (.ref s.heap.objs.size)) (PIE X pins σ tg R) E { s with heap:=s.heap.push { cls:=.type "range",data:=.fields #[.int lo t, .int hi u, .int 1 v] },toks:=tk }:=by
 refine wpAny_pyIter_range (IsRange.new ..) (small_one h1 h2 h3 h4) ?_;have I1:Inv X pins σ H { s with heap:=s.heap.push { cls:=.type "range",data:=.fields #[.int lo t, .int hi u, .int 1 v] },toks:=tk }:=I.kept fun b o e=>Heap.get?_push_of_some _ e;refine ⟨(s.heap.push { cls:=.type "range",data:=.fields #[.int lo t, .int hi u, .int 1 v] }).objs.size,[(s.heap.push { cls:=.type "range",data:=.fields #[.int lo t, .int hi u, .int 1 v] }).objs.size],_,_,H,rfl,
  I1.kept (t':=tk) fun b o e=>Heap.get?_push_of_some _ e,JgM _ lo (hi-lo).toNat,?_,fun b c=>?_,q⟩
 ·have d:lo+((0:Nat):Int)*1=lo:=by simp
  have a:(((hi-lo).toNat:Nat):Int)-((0:Nat):Int)=Builtin.Range.rangeSize lo hi 1:=by rw [rangeSize_one];split <;> ac_nf
  show IsRangeIter _ _ (lo+((0:Nat):Int)*1) ((((hi-lo).toNat:Nat):Int)-((0:Nat):Int)) 1;rw [d,a];exact Heap.get?_push_size _ rfl
 ·have e:b=(s.heap.push { cls:=.type "range",data:=.fields #[.int lo t, .int hi u, .int 1 v] }).objs.size:=by simpa using c
  subst e;exact I1.fpOk (Nat.le_refl _) (I1.hok.fresh (Nat.le_refl _))
def iRng1 (ta:TA):TI:=fun σ H R=>ta σ H fun vs H1=>∃ j:Int,vs=[.int j]/\-(2 ^ 62)<=j/\j<2 ^ 62/\R (Itr 0 j.toNat) H1
def iRng2 (ta:TA):TI:=fun σ H R=>ta σ H fun vs H1=>∃ i j:Int,vs=[.int i, .int j]/\(-(2 ^ 62)<=i/\i<2 ^ 62/\-(2 ^ 62)<=j/\j<2 ^ 62)/\R (Itr i (j-i).toNat) H1
theorem Jdp {a:Expr} {ta:TA} {p pos:Pos} (hg:Gl X "range") (hm:X.mg "range"=none) (ha:PA X [a] ta) (hs:starEach [a] X.env=[(false,eval a X.env)]:=by rfl):PI X tg (.Call (.Name "range" p) [a] [] pos) (iRng1 ta):=by
 intro b s σ H R I h;refine Call_ (Jcm I hg hm boot_range (PyProof.Rows.callWith_type1 (thn (ha pos b s σ H _ I h) fun l g ζ=>?_) hs rfl));obtain ⟨k,i,I1,f,c⟩:=ζ;obtain ⟨j,e,c,d,q⟩:=c;subst e;cases f with
 | cons r rr=>
  cases rr;obtain ⟨t,rfl⟩:=r;exact call_range_1 (JiD I1 ∅ ∅ c d (by simpa using q))
def tFor (wi:TI) (g:TG) (tb:TS):TS:=fun D σ H=>wi σ H fun J H1=>∃ W:Nat->Nat->St->Hp->Prop,(∃ m,W 0 m σ H1)/\∀ i m σ H,W i m σ H ->
 (J.stop i H/\D.nx σ H)\/(J.go i H/\∃ N:St->Hp->Prop,(∀ σ' H',N σ' H'->∃ m',m'<m/\W (i+1) m' σ' H')/\∀ x H',J.yld i H x H'->g x σ H' fun σ2 H2=>tb { D with nx:=N,ct:=N,bk:=D.nx } σ2 H2)
def Jge (fp:List Addr) (h:Heap):List (Addr × Obj):=fp.filterMap fun b=>(h.get? b).map fun o=>(b,o)
theorem JbM {fp:List Addr} {h:Heap} {b:Addr} {o:Obj} (hb:b∈fp) (e:h.get? b=some o):(b,o)∈Jge fp h:=List.mem_filterMap.mpr ⟨b,hb,by rw [e];rfl⟩
theorem Jhx {fp:List Addr} {h:Heap} {p:Addr × Obj} (hp:p∈Jge fp h):p.1∈fp/\h.get? p.1=some p.2:=by
 obtain ⟨b,c,e⟩:=List.mem_filterMap.mp hp;cases q:h.get? b with
 | none=>rw [q] at e;cases e
 | some o=>
  rw [q] at e;have a:(b,o)=p:=Option.some.inj e;subst a;exact ⟨c,q⟩
theorem Inv.pinned {pins:List (Addr × Obj)} {σ : St} {H:Hp} {s:Shared} {fp:List Addr} (I:Inv X pins σ H s) (hf:∀ b∈fp,FpOk X pins H b) (ho:∀ b∈fp, ∃ o,s.heap.get? b=some o/\∀ v,o.data≠.cell v):Inv X (pins++Jge fp s.heap) σ H s :=
 I.pins_of fun p f=>(mem_append.mp f).elim (fun z=>I.pin p (mem_append_right _ z)) fun z=>by
  obtain ⟨c,e⟩:=Jhx z;obtain ⟨h,i,g,_⟩:=hf p.1 c;obtain ⟨o,a,d⟩:=ho p.1 c;rw [e] at a;cases a;exact ⟨e,h,i,g,d⟩
theorem Inv.unpinned {pins pl:List (Addr × Obj)} {σ : St} {H:Hp} {s:Shared} (I:Inv X (pins++pl) σ H s):Inv X pins σ H s:=I.pins_of fun p a=>I.pin p (mem_append_right _ (mem_append_left _ a))
theorem Jbc {iter:Expr} {body:List Stmt} {wi:TI} {g:TG} {tb:TS} {pos:Pos} (hp:PassesOwn (model X.prog X.w) X.A X.env X.xe) (hc:X.calm=true) (hi:PI X tg iter wi) (hg:PG X tg g) (hb:PSs X body tb)
  (hs:∀ x,foldedSetIterable iter X.env x=pure x:=by intro _;rfl):PS X (.For tg iter body [] pos) (tFor wi g tb):=by
 intro a s σ H D I h;refine wpAny_For (thn (hi a s σ H _ I h) fun v s1 h1=>thn h1 fun a0 s2 Y=>?_) hs;obtain ⟨it,y,M,J,H2,e,I2,T,F,L,W,⟨V,w0⟩,z⟩:=Y;subst e;have c:∀ {H':Hp},(∀ b∈y,H' b=none)->∀ b∈y,FpOk X a H' b:=fun hn b hb=>⟨hn b hb,(L b hb).2⟩;refine codeAny_forLoop_any (fun n R=>∃ i σ' H',Inv X a σ' H' R/\M i R.heap/\(∀ b∈y,H' b=none)/\W i n σ' H') ?_ V ⟨0,σ,H2,I2,F,fun b hb=>(L b hb).1,w0⟩;rintro n Q ⟨i,σ3,C,I3,t,q,Z⟩;rcases z i n σ3 C Z with ⟨stop,qn⟩ | ⟨go,N,hN,step⟩
 ·refine wpAny_passesOwn hp (thn (T.done X rfl rfl rfl hc i a Q σ3 C X.xe I3 (c q) t stop) fun r s4 ⟨K,I4⟩=>?_);subst K;exact wpAny_execs_nil ⟨σ3,C,I4,qn⟩
 ·refine wpAny_passesOwn hp (thn (T.item X rfl rfl rfl hc i a Q σ3 C X.xe I3 (c q) t go) fun r s4 ⟨u,K,h4⟩=>?_);subst K;refine wpAny_passesOwn hp (thn h4 fun _ P ζ=>?_);obtain ⟨x,O,I5,r5,y5,p,E⟩:=ζ;have I5':=I5.pinned (c E) (T.obj _ _ p);refine wpAny_passesOwn hp (thn (hg _ P σ3 O x u _ I5' r5 (step x O y5)) fun _ s6 ⟨σ6,H6,I6,S⟩=>?_);refine wpAny_passesOwn hp (thn (hb _ s6 σ6 H6 _ I6 S) fun f G l=>?_);have k:∀ {σ7:St} {j:Hp},Inv X (a++Jge y P.heap) σ7 j G->N σ7 j->∃ m,m<n/\∃ i σ' H',Inv X a σ' H' G/\M i G.heap/\(∀ b∈y,H' b=none)/\W i m σ' H':=fun {σ7 j} I7 B=>by
   obtain ⟨m',U,w7⟩:=hN σ7 j B;refine ⟨m',U,i+1,σ7,j,I7.unpinned,T.keep _ _ _ p fun b hb o e=>(I7.pin (b,o) (mem_append_right _ (mem_append_right _ (JbM hb e)))).1,fun b hb=>?_,w7⟩;obtain ⟨o,e,d⟩:=T.obj _ _ p b hb;exact (I7.pin (b,o) (mem_append_right _ (mem_append_right _ (JbM hb e)))).2.1
  cases f with
  | next=>obtain ⟨σ7,j,I7,B⟩:=l;exact k I7 B
  | cont=>obtain ⟨σ7,j,I7,B⟩:=l;exact k I7 B
  | brk=>obtain ⟨σ7,j,I7,l⟩:=l;exact ⟨σ7,j,I7.unpinned,l⟩
  | ret v=>obtain ⟨x7,σ7,j,I7,r7,l⟩:=l;exact ⟨x7,σ7,j,I7.unpinned,r7,l⟩
end
theorem Jhe {lo:Int} {n:Nat} {g:TG} {tb:TS} {D:Ends} {σ : St} {H:Hp} (Pv:Nat->St->Hp->Prop) (h0:Pv 0 σ H)
  (hs:∀ i σ H,i<n->Pv i σ H->g (.int (lo+i)) σ H fun σ2 H2=>tb { D with nx:=Pv (i+1),ct:=Pv (i+1),bk:=D.nx } σ2 H2) (hd:∀ σ H,Pv n σ H->D.nx σ H) :
  ∃ W:Nat->Nat->St->Hp->Prop,(∃ m,W 0 m σ H)/\∀ i m σ H,W i m σ H ->
   ((Itr lo n).stop i H/\D.nx σ H)\/((Itr lo n).go i H/\∃ N:St->Hp->Prop,(∀ σ' H',N σ' H'->∃ m',m'<m/\W (i+1) m' σ' H')/\∀ x H',(Itr lo n).yld i H x H'->g x σ H' fun σ2 H2=>tb { D with nx:=N,ct:=N,bk:=D.nx } σ2 H2):=by
 refine ⟨fun i m σ H=>m=n-i/\i<=n/\Pv i σ H,⟨n,by simp,Nat.zero_le _,h0⟩,?_⟩;rintro i m σ H ⟨rfl,c,p⟩;by_cases a:i<n
 ·refine .inr ⟨a,Pv (i+1),fun σ' H' b=>⟨n-(i+1),by ac_nf,rfl,a,b⟩,fun x H' y=>?_⟩;obtain ⟨e,y⟩:=y;subst e y;exact hs i σ _ a p
 ·have e:i=n:=by ac_nf
  subst e;exact .inl ⟨Nat.le_refl _,hd σ H p⟩
abbrev R2:=V->V->Hp->VK->Prop
def OpR (X:Cx) (f:Value->Value->Sem Value) (r:R2):Prop :=
 ∀ (pins:List (Addr × Obj)) (s:Shared) (σ : St) (H:Hp) (x y:V) (v u:Value) (Q:VK),Inv X pins σ H s->RelV x v->RelV y u->r x y H Q ->
  wpAny (model X.prog X.w) X.A (f v u) (EP X pins σ Q) X.xe s
def UnR (X:Cx) (f:Value->Sem Value) (r:V->Hp->VK->Prop):Prop :=
 ∀ (pins:List (Addr × Obj)) (s:Shared) (σ : St) (H:Hp) (x:V) (v:Value) (Q:VK),Inv X pins σ H s->RelV x v->r x H Q ->
  wpAny (model X.prog X.w) X.A (f v) (EP X pins σ Q) X.xe s
def CallR (X:Cx) (f:Value) (r:List V->Hp->VK->Prop):Prop :=
 ∀ (pins:List (Addr × Obj)) (s:Shared) (σ : St) (H:Hp) (xs:List V) (us:List Value) (Q:VK),Inv X pins σ H s->Vals xs us->r xs H Q ->
  wpAny (model X.prog X.w) X.A (call f us) (EP X pins σ Q) X.xe s
def tOp (r:R2) (ta tb:TE):TE:=fun σ H Q=>ta σ H fun x H1=>tb σ H1 fun y H2=>r x y H2 Q
def tUn (r:V->Hp->VK->Prop) (ta:TE):TE:=fun σ H Q=>ta σ H fun x H1=>r x H1 Q
def rI (C:Int->Int->Prop) (g:Int->Int->V):R2:=fun x y H Q=>∃ i j,x=.int i/\y=.int j/\C i j/\Q (g i j) H
def rI0 (g:Int->Int->V):R2:=fun x y H Q=>∃ i j,x=.int i/\y=.int j/\Q (g i j) H
def rU (g:Int->V):V->Hp->VK->Prop:=fun x H Q=>∃ i,x=.int i/\Q (g i) H
section
variable {X:Cx} {a b c:Expr} {ta tb tc:TE} {pos:Pos}
theorem binT (ha:PE X a ta) (hb:PE X b tb) {pins:List (Addr × Obj)} {s:Shared} {σ : St} {H:Hp} {R:V->V->Hp->Prop} (I:Inv X pins σ H s)
  (h:ta σ H fun x H1=>tb σ H1 fun y H2=>R x y H2) {Q:Value->Shared->Prop} {f:Value->Value->Sem Value}
  (hf:∀ v u s2 x y H2,Inv X pins σ H2 s2->RelV x v->RelV y u->R x y H2->wpAny (model X.prog X.w) X.A (f v u) Q X.xe s2) :
  wpAny (model X.prog X.w) X.A (eval a X.env) (fun v s₁=>wpAny (model X.prog X.w) X.A (eval b X.env) (fun u s₂=>wpAny (model X.prog X.w) X.A (f v u) Q X.xe s₂) X.xe s₁) X.xe s:=by
 refine thn (ha pins s σ H _ I h) fun v c ζ=>?_;obtain ⟨x,H1,I1,i,e⟩:=ζ;refine thn (hb pins c σ H1 _ I1 e) fun u s2 ζ=>?_;obtain ⟨y,H2,I2,d,g⟩:=ζ;exact hf v u s2 x y H2 I2 i d g
theorem pe_op {op:Operator} {r:R2} (ho:OpR X (binaryOp op) r) (ha:PE X a ta) (hb:PE X b tb):PE X (.BinOp a op b pos) (tOp r ta tb):=by
 intro c s σ H Q I h;exact wpAny_BinOp (binT ha hb I h fun v u d x y g I2 e f q=>ho c d σ g x y v u Q I2 e f q)
theorem pe_un {op:UnaryOp} {r:V->Hp->VK->Prop} (ho:UnR X (unaryOp op) r) (ha:PE X a ta):PE X (.UnaryOp op a pos) (tUn r ta):=by
 intro b s σ H Q I h;exact UnaryOp_ (thn (ha b s σ H _ I h) fun v c ⟨x,d,I1,f,e⟩=>ho b c σ d x v Q I1 f e)
theorem opI {f:Value->Value->Sem Value} {C:Int->Int->Prop} {g:Int->Int->Int}
  (rule:∀ (i j:Int) (t u:Tok) (s:Shared) (Q:Value->Shared->Prop) (E:Value->Shared->Prop),C i j->Q (.int (g i j) s.toks) { s with toks:=s.toks+1 }->wpAny (model X.prog X.w) X.A (f (.int i t) (.int j u)) Q E s) :
  OpR X f (rI C fun i j=>.int (g i j)):=by
 intro a s σ H x y v u Q I b d h;obtain ⟨i,j,rfl,rfl,e,q⟩:=h;obtain ⟨t,rfl⟩:=b;obtain ⟨c,rfl⟩:=d;exact rule i j t c s _ _ e ⟨.int (g i j),H,I.tok _,⟨_,rfl⟩,q⟩
theorem opI0 {f:Value->Value->Sem Value} {g:Int->Int->Int}
  (rule:∀ (i j:Int) (t u:Tok) (s:Shared) (Q:Value->Shared->Prop) (E:Value->Shared->Prop),Q (.int (g i j) s.toks) { s with toks:=s.toks+1 }->wpAny (model X.prog X.w) X.A (f (.int i t) (.int j u)) Q E s) :
  OpR X f (rI0 fun i j=>.int (g i j)):=by
 intro a s σ H x y v u Q I b d h;obtain ⟨i,j,rfl,rfl,q⟩:=h;obtain ⟨t,rfl⟩:=b;obtain ⟨c,rfl⟩:=d;exact rule i j t c s _ _ ⟨.int (g i j),H,I.tok _,⟨_,rfl⟩,q⟩
theorem opB0 {f:Value->Value->Sem Value} {g:Int->Int->Bool}
  (rule:∀ (i j:Int) (t u:Tok) (s:Shared) (Q:Value->Shared->Prop) (E:Value->Shared->Prop),Q (.bool (g i j)) s->wpAny (model X.prog X.w) X.A (f (.int i t) (.int j u)) Q E s) :
  OpR X f (rI0 fun i j=>.bl (g i j)):=by
 intro a s σ H x y v u Q I b d h;obtain ⟨i,j,rfl,rfl,q⟩:=h;obtain ⟨t,rfl⟩:=b;obtain ⟨c,rfl⟩:=d;exact rule i j t c s _ _ ⟨.bl (g i j),H,I,rfl,q⟩
def CPow (i j:Int):Prop:=0<=j/\j<=1000000/\i.natAbs<2 ^ 64
theorem JkB:OpR X (binaryOp .Add) (rI0 fun i j=>.int (i+j)):=opI0 fun _ _ _ _ _ _ _ q=>add_int q
theorem Jgb:OpR X (binaryOp .Sub) (rI0 fun i j=>.int (i-j)):=opI0 fun _ _ _ _ _ _ _ q=>sub_int q
theorem JjF:OpR X (binaryOp .Mod) (rI (fun _ j=>j≠0) fun i j=>.int (i.fmod j)):=opI fun _ _ _ _ _ _ _ a q=>mod_int' a q
theorem JkH:OpR X (binaryOp .Pow) (rI CPow fun i j=>.int (i ^ j.toNat)):=opI fun _ _ _ _ _ _ _ a q=>pow_int_small a.1 a.2.1 a.2.2 q
theorem unI {f:Value->Sem Value} {g:Int->Int}
  (rule:∀ (i:Int) (t:Tok) (s:Shared) (Q:Value->Shared->Prop) (E:Value->Shared->Prop),Q (.int (g i) s.toks) { s with toks:=s.toks+1 }->wpAny (model X.prog X.w) X.A (f (.int i t)) Q E s) :
  UnR X f (rU fun i=>.int (g i)):=by
 intro a s σ H x v Q I b h;obtain ⟨i,rfl,q⟩:=h;obtain ⟨t,rfl⟩:=b;exact rule i t s _ _ ⟨.int (g i),H,I.tok _,⟨_,rfl⟩,q⟩
theorem Jfa:UnR X (unaryOp .USub) (rU fun i=>.int (-i)):=unI fun _ _ _ _ _ q=>neg_int q
end
def scal:V->V->Bool
 | .non, .non=>true | .non, .int _=>true | .int _, .non=>true | .non, .bl _=>true | .bl _, .non=>true | .non, .str _=>true | .str _, .non=>true
 | .int _, .int _=>true | .bl _, .bl _=>true | .str _, .str _=>true | .byt _, .byt _=>true
 | .int _, .str _=>true | .str _, .int _=>true | .bl _, .str _=>true | .str _, .bl _=>true
 | _,_=>false
def rEq:R2:=fun x y H Q=>scal x y=true/\Q (.bl (decide (x=y))) H
def rNe:R2:=fun x y H Q=>scal x y=true/\Q (.bl (!decide (x=y))) H
theorem Jg4 {i j:Int}:decide (V.int i=V.int j)=(i == j):=by
 rw [Bool.eq_iff_iff];simp
theorem JiU {i j:Bool}:decide (V.bl i=V.bl j)=(i == j):=by
 rw [Bool.eq_iff_iff];simp
theorem Jg5 {i j:Str}:decide (V.str i=V.str j)=(i == j):=by
 rw [Bool.eq_iff_iff];simp
theorem Jg3 {i j:Array UInt8}:decide (V.byt i=V.byt j)=(i.toList == j.toList):=by
 rw [Bool.eq_iff_iff];cases i;cases j;simp
section
variable {X:Cx} {a b c:Expr} {ta tb tc:TE} {pos:Pos}
theorem JaE {pins:List (Addr × Obj)} {σ : St} {H:Hp} {s:Shared} {Q:VK} {k k':Bool} (I:Inv X pins σ H s) (q:Q (.bl k) H) (e:k=k'):EP X pins σ Q (.bool k') s:=by
 subst e;exact ⟨.bl k,H,I,rfl,q⟩
theorem op_eq:OpR X (compareOp .Eq) rEq:=by
 intro e s σ H x y v u Q I d a h;obtain ⟨c,q⟩:=h;cases x with
 | non=>
  cases d;cases y with
  | non=>cases a;exact PySem.EqNone.eq_none_none (JaE I q (by simp))
  | bl j=>cases a;exact PySem.EqNone.eq_none_bool (JaE I q (by simp))
  | int j=>obtain ⟨b,rfl⟩:=a;exact PySem.EqNone.eq_none_int (JaE I q (by simp))
  | str j=>obtain ⟨b,rfl⟩:=a;exact PySem.EqNone.eq_none_str (JaE I q (by simp))
  | _=>exact absurd (show false=true from c) Bool.false_ne_true
 | bl i=>
  cases d;cases y with
  | non=>cases a;exact PySem.EqNone.eq_bool_none (JaE I q (by simp))
  | bl j=>cases a;exact eq_bool (JaE I q JiU)
  | str j=>obtain ⟨b,rfl⟩:=a;exact PySem.EqMixed.eq_bool_str (JaE I q (by simp))
  | _=>exact absurd (show false=true from c) Bool.false_ne_true
 | int i=>
  obtain ⟨t,rfl⟩:=d;cases y with
  | non=>cases a;exact PySem.EqNone.eq_int_none (JaE I q (by simp))
  | int j=>obtain ⟨b,rfl⟩:=a;exact eq_int (JaE I q Jg4)
  | str j=>obtain ⟨b,rfl⟩:=a;exact PySem.EqMixed.eq_int_str (JaE I q (by simp))
  | _=>exact absurd (show false=true from c) Bool.false_ne_true
 | str i=>
  obtain ⟨t,rfl⟩:=d;cases y with
  | non=>cases a;exact PySem.EqNone.eq_str_none (JaE I q (by simp))
  | bl j=>cases a;exact PySem.EqMixed.eq_str_bool (JaE I q (by simp))
  | int j=>obtain ⟨b,rfl⟩:=a;exact PySem.EqMixed.eq_str_int (JaE I q (by simp))
  | str j=>obtain ⟨b,rfl⟩:=a;exact eq_str (JaE I q Jg5)
  | _=>exact absurd (show false=true from c) Bool.false_ne_true
 | byt i=>
  obtain ⟨t,rfl⟩:=d;cases y with
  | byt j=>obtain ⟨b,rfl⟩:=a;exact W.eq_bytes (JaE I q Jg3)
  | _=>exact absurd (show false=true from c) Bool.false_ne_true
 | _=>cases y <;> exact absurd (show false=true from c) Bool.false_ne_true
theorem op_ne:OpR X (compareOp .NotEq) rNe:=by
 intro e s σ H x y v u Q I d a h;obtain ⟨c,q⟩:=h;cases x with
 | non=>
  cases d;cases y with
  | non=>cases a;exact PySem.EqNone.ne_none_none (JaE I q (by simp))
  | bl j=>cases a;exact PySem.EqNone.ne_none_bool (JaE I q (by simp))
  | int j=>obtain ⟨b,rfl⟩:=a;exact PySem.EqNone.ne_none_int (JaE I q (by simp))
  | str j=>obtain ⟨b,rfl⟩:=a;exact PySem.EqNone.ne_none_str (JaE I q (by simp))
  | _=>exact absurd (show false=true from c) Bool.false_ne_true
 | bl i=>
  cases d;cases y with
  | non=>cases a;exact PySem.EqNone.ne_bool_none (JaE I q (by simp))
  | bl j=>cases a;exact ne_bool (JaE I q (congrArg not JiU))
  | str j=>obtain ⟨b,rfl⟩:=a;exact PySem.EqMixed.ne_bool_str (JaE I q (by simp))
  | _=>exact absurd (show false=true from c) Bool.false_ne_true
 | int i=>
  obtain ⟨t,rfl⟩:=d;cases y with
  | non=>cases a;exact PySem.EqNone.ne_int_none (JaE I q (by simp))
  | int j=>obtain ⟨b,rfl⟩:=a;exact ne_int (JaE I q (congrArg not Jg4))
  | str j=>obtain ⟨b,rfl⟩:=a;exact PySem.EqMixed.ne_int_str (JaE I q (by simp))
  | _=>exact absurd (show false=true from c) Bool.false_ne_true
 | str i=>
  obtain ⟨t,rfl⟩:=d;cases y with
  | non=>cases a;exact PySem.EqNone.ne_str_none (JaE I q (by simp))
  | bl j=>cases a;exact PySem.EqMixed.ne_str_bool (JaE I q (by simp))
  | int j=>obtain ⟨b,rfl⟩:=a;exact PySem.EqMixed.ne_str_int (JaE I q (by simp))
  | str j=>obtain ⟨b,rfl⟩:=a;exact ne_str (JaE I q (congrArg not Jg5))
  | _=>exact absurd (show false=true from c) Bool.false_ne_true
 | byt i=>
  obtain ⟨t,rfl⟩:=d;cases y with
  | byt j=>obtain ⟨b,rfl⟩:=a;exact W.ne_bytes (JaE I q (congrArg not Jg3))
  | _=>exact absurd (show false=true from c) Bool.false_ne_true
 | _=>cases y <;> exact absurd (show false=true from c) Bool.false_ne_true
theorem op_lt:OpR X (compareOp .Lt) (rI0 fun i j=>.bl (decide (i<j))):=opB0 fun _ _ _ _ _ _ _ q=>lt_int q
theorem op_gt:OpR X (compareOp .Gt) (rI0 fun i j=>.bl (decide (j<i))):=opB0 fun _ _ _ _ _ _ _ q=>gt_int q
theorem op_ge:OpR X (compareOp .GtE) (rI0 fun i j=>.bl (decide (j<=i))):=opB0 fun _ _ _ _ _ _ _ q=>ge_int q
theorem JhB:OpR X (compareOp .In) (fun x y H Q=>∃ i j,x=.str i/\y=.str j/\Q (.bl (!(Builtin.Str.occurrences j i 0 j.length 1).isEmpty)) H):=by
 intro a s σ H x y v u Q I b c h;obtain ⟨i,j,rfl,rfl,q⟩:=h;obtain ⟨t,rfl⟩:=b;obtain ⟨d,rfl⟩:=c;exact in_str (JaE I q rfl)
theorem JkG:OpR X (compareOp .Is) (fun x y H Q=>y=.non/\Q (.bl (decide (x=.non))) H):=by
 intro b s σ H x y v u Q I a c h;obtain ⟨rfl,q⟩:=h;cases c;refine is_none_gen (JaE I q ?_);cases x <;> first
  | (cases a;rfl)
  | (obtain ⟨t,rfl⟩:=a;rfl)
theorem JjI:OpR X (compareOp .IsNot) (fun x y H Q=>y=.non/\Q (.bl (!decide (x=.non))) H):=by
 intro b s σ H x y v u Q I a c h;obtain ⟨rfl,q⟩:=h;cases c;refine isnot_none_gen (JaE I q ?_);cases x <;> first
  | (cases a;rfl)
  | (obtain ⟨t,rfl⟩:=a;rfl)
theorem Jar (b:Expr) {op:CmpOp} (h:op≠.In:=by decide) (h2:op≠.NotIn:=by decide):behindInMarks op b=false:=by
 have c:(op == CmpOp.In)=false:=by cases op <;> first | rfl | exact absurd rfl h
 have a:(op == CmpOp.NotIn)=false:=by cases op <;> first | rfl | exact absurd rfl h2
 cases b <;> simp [behindInMarks,c,a]
theorem Ja5 {op:CmpOp} {r:R2} (ho:OpR X (compareOp op) r) (ha:PE X a ta) (hb:PE X b tb) (hm:behindInMarks op b=false):PE X (.Compare a [op] [b] pos) (tOp r ta tb):=by
 intro c s σ H Q I h;exact wpAny_Compare1 (binT ha hb I h fun v u d x y g I2 e f q=>ho c d σ g x y v u Q I2 e f q) hm
def tTest (t:TE):TT:=fun σ H Q=>t σ H fun x H'=>∃ k,x=.bl k/\Q k H'
theorem Jaq {op:CmpOp} {r:R2} (ho:OpR X (compareOp op) r) (ha:PE X a ta) (hb:PE X b tb) (hm:behindInMarks op b=false):PT X (.Compare a [op] [b] pos) (tTest (tOp r ta tb)):=by
 intro d s σ H Q I h;refine wpAny_isTrue_Compare1 (thn (ha d s σ H _ I h) fun v p ⟨x,l,I1,o,f⟩=>thn (hb d p σ l _ I1 f) fun u j ⟨y,t,I2,i,g⟩=>
  thn (ho d j σ t x y v u _ I2 o i g) fun c w ⟨z,n,I3,m,k,e,q⟩=>?_) hm
 subst e;cases m;exact wpAny_truthy_bool ⟨n,I3,q⟩
def JkU (r r':R2) (ta tb tc:TE):TE:=fun σ H Q=>ta σ H fun x H1=>tb σ H1 fun y H2=>r x y H2 fun z H3=>∃ k,z=.bl k /\
 (if k=true then tc σ H3 fun w' H4=>r' y w' H4 Q else Q (.bl false) H3)
theorem JeK:(sizeLine:Nat)<2 ^ 63:=by rw [sizeLine_eq];decide
theorem JgE:OpR X (binaryOp .Add) (fun x y H Q=>∃ i j,x=.str i/\y=.str j/\i.length+j.length<=sizeLine/\Q (.str (i++j)) H):=by
 intro a s σ H x y v u Q I b d h;obtain ⟨i,j,rfl,rfl,e,q⟩:=h;obtain ⟨t,rfl⟩:=b;obtain ⟨c,rfl⟩:=d;exact add_str (fun c f=>⟨.str (i++j),H,I.tok _,⟨_,rfl⟩,q⟩) e
theorem vals1 {x:V} {us:List Value} (r:Vals [x] us):∃ u,us=[u]/\RelV x u:=by
 cases r with
 | cons r1 r2=>cases r2;exact ⟨_,rfl,r1⟩
theorem vals2 {x y:V} {us:List Value} (r:Vals [x,y] us):∃ u w',us=[u,w']/\RelV x u/\RelV y w':=by
 cases r with
 | cons r1 r2=>
  cases r2 with
  | cons r3 r4=>cases r4;exact ⟨_,_,rfl,r1,r3⟩
theorem Jia:CallR X (.builtin "abs") (fun xs H Q=>∃ i,xs=[.int i]/\Q (.int (if i<0 then -i else i)) H):=by
 intro a s σ H xs b Q I r h;obtain ⟨i,rfl,q⟩:=h;obtain ⟨u,rfl,t,rfl⟩:=vals1 r;exact call_abs_int fun u c=>⟨.int (if i<0 then -i else i),H,I.tok _,⟨_,rfl⟩,q⟩
end
structure ObjM (h:Heap) (x dx C:Addr) (mA:Str->Option Value):Prop where
 obj:h.get? x=some (W.instObj C dx)
 ns:h.Ns1 dx mA
 ne:dx≠x
theorem Jdj {h:Heap} {dx:Addr} {mA:Str->Option Value} (n:h.Ns1 dx mA):∃ od,h.get? dx=some od/\∀ name,W.lookIn name od=some (mA name):=by
 obtain ⟨o,c,l,i,g,j,_,k⟩:=n;refine ⟨o,i,fun name=>?_⟩;have e:=k name;unfold nsFind findBy at e;rw [<- Array.find?_toList] at e;unfold W.lookIn;rw [g];dsimp only;split
 ·rename_i y q;rw [q] at e;exact congrArg some e
 ·rename_i q;rw [q] at e;have a:c.toList.any (·.refKey)=false:=by
   rw [List.any_eq_false];intro y d;obtain ⟨z,t,b⟩:=j y (Array.mem_toList_iff.mp d);simp [DictEntry.refKey,b]
  have f:¬ c.toList.any (·.refKey)=true:=by rw [a];exact Bool.false_ne_true
  rw [if_neg f];exact congrArg some e
theorem ObjM.look {h:Heap} {x dx C:Addr} {mA:Str->Option Value} (I:ObjM h x dx C mA):∃ od,W.InstAt h x (W.instObj C dx) C (some od)/\∀ name,W.lookIn name od=some (mA name) :=
 let ⟨od,ho,hl⟩:=Jdj I.ns
 ⟨od,⟨I.obj,rfl,rfl,ho⟩,hl⟩
section
variable {prog:Program} {w:World} {A:Around} {E:Value->Shared->Prop} {s:Shared} {K:W.Frag} {x dx C f:Addr} {mA:Str->Option Value} {name:Str} {v:Value}
theorem get_map {expr:Bool} {Q:Value->Shared->Prop} (X:K.In s.heap) (I:ObjM s.heap x dx C mA) (hg:W.plainGet K C name=true) (hh:W.hasDictIn K C=true)
  (ha:W.findIn K (.ref C) name=some none) (hv:mA name=some v) (hv':W.handedIn v=true) (h:Q v { s with toks:=s.toks+1 }) :
  wpAny (model prog w) A (getAttr (.ref x) name expr) Q E s:=by
 obtain ⟨b,J,a⟩:=I.look;exact W.get_value X J (W.plainGet_of hg).1 (W.findObj_own hh ha rfl (by rw [a,hv])) hv' h
theorem Jih {pl:Sem Bool} {Q:Value × List Value->Shared->Prop} (X:K.In s.heap) (I:ObjM s.heap x dx C mA) (hg:W.plainGet K C name=true)
  (hf:W.findIn K (.ref C) name=some (some (.ref f))) (ht:W.isFn K (.ref f)=true) (hv:mA name=none) (h:Q (.ref f,[.ref x]) s) :
  wpAny (model prog w) A (getMethod (.ref x) name pl) Q E s:=by
 obtain ⟨a,J,b⟩:=I.look;exact W.method_fn X J (W.plainGet_of hg).1 (W.plainGet_of hg).2 hf (beq_iff_eq.mp ht) (by show (W.lookIn name a).map (·.isSome)=some false;rw [b,hv];rfl) h
theorem Jj0 {ns:List Str} {Q:Unit->Shared->Prop} (X:K.In s.heap) (I:ObjM s.heap x dx C mA)
  (hs:W.findIn K (.ref C) "__setattr__"=some (some (.builtin "object.__setattr__"))) (hp:W.plainOver K C=true) (ht:W.takerIn K C name=some none) (hh:W.hasDictIn K C=true)
  (hw:PySem.Within mA ns) (hsz:ns.length<=sizeLine)
  (h:∀ h',ObjM h' x dx C (fun y=>if y=name then some v else mA y)->Heap.SameBut dx s.heap h'->Q () { s with heap:=h',toks:=s.toks+2 }) :
  wpAny (model prog w) A (setAttr (.ref x) name v) Q E s:=by
 obtain ⟨o,J,q⟩:=I.look;refine W.set_plain X J hs (W.osa_open (s:={ s with toks:=s.toks+1 }) (r:=none) X J hp ht fun b=>?_);obtain ⟨p,m,g⟩:=W.any_some hh;have j:s.heap.get? x=some ⟨.ref C,some dx, .plain, #[]⟩:=I.obj;refine wpAny_bind (wpAny_pure (wpAny_bind (wpAny_bind (wpAny_loadPart j (wpAny_bind (W.Looks.here (s:={ s with toks:=s.toks+1 }) (W.looks_clsIn X m) ?_))))));rw [g];refine wpAny_pure (a:=some dx) (wpAny_bind (wpAny_pure (wpAny_bind ?_)));refine wpAny_nsSet1 (s:={ s with toks:=s.toks+1 }) I.ns fun h' c d=>?_;obtain ⟨n,k,l,i,f,e⟩:=c.count (PySem.Within.cons name v hw);refine wpAny_bind (wpAny_lookBehind i (by rw [f];exact pastItsLine_dict (Nat.le_trans e (by rw [length_cons];ac_nf))) ?_);exact wpAny_pure (h _ ⟨(d.2 _ (Ne.symm I.ne)).trans I.obj,c,I.ne⟩ d)
theorem Jip {R:Result->Shared->Prop} {vs:List Value} {kw:List (Str × Value)} (X:K.In s.heap) (hm:W.makesIn K C=true)
  (hi:W.findIn K (.ref C) "__init__"=some (some (.ref f))) (hf:W.typeIn K (.ref f)=some (.type "function"))
  (h:codeAny (model prog w) (A.under (.builtin "type.__call__" ⟨.ref C::vs,kw⟩)) (.call (.ref f) ⟨.ref (s.heap.objs.size+1)::vs,kw⟩) (W.InitBack (s.heap.objs.size+1) R)
   { s with heap:=(s.heap.push W.emptyDict).push (W.instObj C s.heap.objs.size) }) :
  codeAny (model prog w) A (.call (.ref C) ⟨vs,kw⟩) R s:=by
 obtain ⟨c,g,d,t,b⟩:=s;exact W.make_core (W.makes_of X hm) (W.looks_findIn X hi) (fun a=>W.bind_fn X a hf) (.inl rfl) h
end
def putF (f:Str) (v:V):List (Str × V)->List (Str × V)
 | []=>[(f,v)]
 | (g,x)::r=>if g=f then (g,v)::r else (g,x)::putF f v r
theorem Jdk (f g:Str) (v:V):∀ fs:List (Str × V),(putF f v fs).lookup g=if g=f then some v else fs.lookup g
 | []=>by
  show List.lookup g [(f,v)]=_;by_cases h:g=f
  ·have hb:(g == f)=true:=beq_iff_eq.mpr h;simp only [List.lookup,hb,if_pos h]
  ·have hb:(g == f)=false:=beq_eq_false_iff_ne.mpr h;simp only [List.lookup,hb,if_neg h]
 | (k,x)::r=>by
  have ih:=Jdk f g v r;rw [show putF f v ((k,x)::r)=(if k=f then (k,v)::r else (k,x)::putF f v r) from rfl];by_cases hk:k=f
  ·rw [if_pos hk];by_cases h:g=k
   ·have hb:(g == k)=true:=beq_iff_eq.mpr h;simp only [List.lookup,hb,if_pos (h.trans hk)]
   ·have hb:(g == k)=false:=beq_eq_false_iff_ne.mpr h;simp only [List.lookup,hb,if_neg (fun e:g=f=>h (e.trans hk.symm))]
  ·rw [if_neg hk];by_cases h:g=k
   ·have hb:(g == k)=true:=beq_iff_eq.mpr h;simp only [List.lookup,hb,if_neg (fun e:g=f=>hk (h.symm.trans e))]
   ·have hb:(g == k)=false:=beq_eq_false_iff_ne.mpr h;simp only [List.lookup,hb];exact ih
theorem Jdg (f:Str) (v:V):∀ fs:List (Str × V),f∈(putF f v fs).map (·.1)/\∀ g,g∈fs.map (·.1)->g∈(putF f v fs).map (·.1)
 | []=>⟨by simp [putF],fun g h=>by simp at h⟩
 | (k,x)::r=>by
  obtain ⟨i1,i2⟩:=Jdg f v r;rw [show putF f v ((k,x)::r)=(if k=f then (k,v)::r else (k,x)::putF f v r) from rfl];by_cases hk:k=f
  ·rw [if_pos hk];subst hk;exact ⟨by simp,fun g h=>by simpa using h⟩
  ·rw [if_neg hk];refine ⟨?_,fun g h=>?_⟩
   ·rw [map_cons];exact mem_cons_of_mem _ i1
   ·rw [map_cons] at h ⊢;rcases mem_cons.mp h with e | e
    ·exact mem_cons.mpr (.inl e)
    ·exact mem_cons_of_mem _ (i2 g e)
theorem Jdh (f:Str) (v:V):∀ fs:List (Str × V),(putF f v fs).length<=fs.length+1
 | []=>by simp [putF]
 | (k,x)::r=>by
  have ih:=Jdh f v r;rw [show putF f v ((k,x)::r)=(if k=f then (k,v)::r else (k,x)::putF f v r) from rfl];by_cases hk:k=f
  ·rw [if_pos hk,length_cons,length_cons];ac_nf
  ·rw [if_neg hk,length_cons,length_cons];ac_nf
theorem RelO.some_of {v:V} {o:Option Value} (r:RelO (some v) o):∃ u,o=some u/\RelV v u:=by
 cases o with
 | none=>exact (show False from r).elim
 | some u=>exact ⟨u,rfl,r⟩
theorem RelO.none_of {o:Option Value} (r:RelO none o):o=none:=by
 cases o with
 | none=>rfl
 | some u=>exact (show False from r).elim
theorem JeH {v:V} {u:Value} (r:RelV v u):W.handedIn u=true:=by
 cases v with
 | non=>cases (show u=Value.none from r);rfl
 | bl b=>cases (show u=Value.bool b from r);rfl
 | int i=>obtain ⟨t,e⟩:=(show ∃ t,u=Value.int i t from r);cases e;rfl
 | str x=>obtain ⟨t,e⟩:=(show ∃ t,u=Value.str x t from r);cases e;rfl
 | byt b=>obtain ⟨t,e⟩:=(show ∃ t,u=Value.bytes b t from r);cases e;rfl
 | flt b=>obtain ⟨t,e⟩:=(show ∃ t,u=Value.float b t from r);cases e;rfl
 | ref a=>cases (show u=Value.ref a from r);rfl
 | ty n=>cases (show u=Value.type n from r);rfl
section
variable {P:Program} {w:World} {H H':Hp} {h h':Heap} {a C dx:Addr} {fs fs':List (Str × V)}
theorem Jfn (hok:HOk P w H h) (e:H a=some (.ins C dx fs)):∃ mA,ObjM h a dx C mA/\(∀ f,RelO (fs.lookup f) (mA f))/\PySem.Within mA (fs.map (·.1))/\fs.length<=1000/\H dx=some (.own a):=by
 obtain ⟨d,z,b,c,mA,n,r,q⟩:=(show ObjOk P w H h a (.ins C dx fs) from hok a _ e);exact ⟨mA,⟨c,n,b⟩,r,q,z,d⟩
end
structure Cls (K:W.Frag) (C:Addr):Prop where
 pg:W.plainGet K C Str.empty=true
 hd:W.hasDictIn K C=true
 po:W.plainOver K C=true
 sa:W.findIn K (.ref C) "__setattr__"=some (some (.builtin "object.__setattr__"))
theorem Cls.get {K:W.Frag} {C:Addr} (c:Cls K C) (f:Str):W.plainGet K C f=true:=c.pg
def Ja2 (K:W.Frag) (C:Addr) (f:Str):Prop:=W.findIn K (.ref C) f=some none
theorem Ja2.taker {K:W.Frag} {C:Addr} {f:Str} (n:Ja2 K C f):W.takerIn K C f=some none:=by
 unfold W.takerIn;rw [show W.findIn K (.ref C) f=some none from n];rfl
structure Meth (K:W.Frag) (C:Addr) (m:Str) (f:Addr):Prop where
 at_:W.findIn K (.ref C) m=some (some (.ref f))
 fn:W.isFn K (.ref f)=true
 kp:W.keepIn K (.ref f)=true
section
variable {X:Cx} {pins:List (Addr × Obj)} {σ : St} {H:Hp} {s:Shared} {a C dx:Addr} {fs:List (Str × V)} {f:Str} {v:V} {A:Around} {E:Value->Shared->Prop}
theorem Jgs {b:Bool} {Q:Value->Shared->Prop} (I:Inv X pins σ H s) (e:H a=some (.ins C dx fs)) (c:Cls X.K C) (n:Ja2 X.K C f) (l:fs.lookup f=some v)
  (h:∀ u s',Inv X pins σ H s'->RelV v u->Q u s'):wpAny (model X.prog X.w) A (getAttr (.ref a) f b) Q E s:=by
 obtain ⟨i,O,r,_,_,_⟩:=Jfn I.hok e;obtain ⟨u,g,d⟩:=RelO.some_of (v:=v) (o:=i f) (by rw [<- l];exact r f);exact get_map I.kIn O (c.get f) c.hd n g (JeH d) (h u _ (I.tok _) d)
theorem JcQ {m:Str} {g:Addr} {pl:Sem Bool} {Q:Value × List Value->Shared->Prop} (I:Inv X pins σ H s) (e:H a=some (.ins C dx fs)) (c:Cls X.K C) (k:Meth X.K C m g) (l:fs.lookup m=none)
  (h:Q (.ref g,[.ref a]) s):wpAny (model X.prog X.w) A (getMethod (.ref a) m pl) Q E s:=by
 obtain ⟨b,O,r,_,_,_⟩:=Jfn I.hok e;have d:b m=none:=RelO.none_of (by rw [<- l];exact r m);exact Jih I.kIn O (c.get m) k.at_ k.fn d h
theorem JgI {y:V} {u:Value} {Q:Unit->Shared->Prop} (I:Inv X pins σ H s) (e:H a=some (.ins C dx fs)) (c:Cls X.K C) (n:Ja2 X.K C f) (hl:fs.length<1000) (ry:RelV y u)
  (h:∀ s',Inv X pins σ (upd H a (.ins C dx (putF f y fs))) s'->Q () s'):wpAny (model X.prog X.w) A (setAttr (.ref a) f u) Q E s:=by
 obtain ⟨i,O,r,j,_,d⟩:=Jfn I.hok e;have k:(fs.map (·.1)).length<=sizeLine:=by rw [length_map,sizeLine_eq];ac_nf
 refine Jj0 I.kIn O c.sa c.po n.taker c.hd j k fun l O' m=>h _ ?_;have p:∃ o,l.get? dx=some o:=let ⟨o,_,_,e',_⟩:=O'.ns;⟨o,e'⟩;refine I.write (x:=a) (e:=dx) (by rw [e];exact True.intro) (.inr d) (fun b q t z=>(m.2 b t).trans z) p ?_;refine ⟨by rw [Jaf O.ne];exact d,?_,O.ne,O'.obj,_,O'.ns,fun g=>?_,fun g v=>?_⟩
 ·have:=Jdh f y fs;ac_nf
 ·show RelO ((putF f y fs).lookup g) (if g=f then some u else i g);rw [Jdk];by_cases q:g=f
  ·rw [if_pos q,if_pos q];exact ry
  ·rw [if_neg q,if_neg q];exact r g
 ·by_cases q:g=f
  ·rw [q];exact (Jdg f y fs).1
  ·refine (Jdg f y fs).2 g (j g fun z=>v ?_);show (if g=f then some u else i g)=none;rw [if_neg q];exact z
theorem Inv.made (I:Inv X pins σ H s):Inv X pins σ (upd (upd H s.heap.objs.size (.own (s.heap.objs.size+1))) (s.heap.objs.size+1) (.ins C s.heap.objs.size []))
  { s with heap:=(s.heap.push W.emptyDict).push (W.instObj C s.heap.objs.size) }:=by
 have d:(s.heap.push W.emptyDict).get? s.heap.objs.size=some W.emptyDict:=Heap.get?_push_size s.heap rfl;have h:((s.heap.push W.emptyDict).push (W.instObj C s.heap.objs.size)).get? (s.heap.objs.size+1)=some (W.instObj C s.heap.objs.size):=by
  have:=Heap.get?_push_size (s.heap.push W.emptyDict) (o:=W.instObj C s.heap.objs.size) rfl
  rwa [Heap.size_push] at this
 have i:(s.heap.push W.emptyDict).Ns s.heap.objs.size (fun _=>none):=⟨W.emptyDict, #[],_,d,rfl,(fun e g=>absurd g (by simp)),fun _=>rfl⟩;have I1:=I.laid (a:=s.heap.objs.size) (o:=.own (s.heap.objs.size+1)) (h':=s.heap.push W.emptyDict) (t':=s.toks) (fun b u q=>Heap.get?_push_of_some _ q) (Nat.le_refl _) ⟨_,d⟩;refine I1.laid (a:=s.heap.objs.size+1) (o:=.ins C s.heap.objs.size []) (t':=s.toks) (fun b u q=>Heap.get?_push_of_some _ q) (Nat.le_of_eq (Heap.size_push _ _)) ?_;have c:s.heap.objs.size≠s.heap.objs.size+1:=Nat.ne_of_lt (Nat.lt_succ_self _);refine ⟨by rw [Jaf c,Jam],Nat.zero_le _,c,h,fun _=>none,(Heap.Ns1.of_empty i).at fun o q=>Heap.get?_push_of_some _ q,fun _=>True.intro,fun y f=>absurd rfl f⟩
theorem JgQ {prog:Program} {w:World} {env:Env} {e:Expr} {f:Str} {pos:Pos} {s:Shared} {Q:Value->Shared->Prop} (hb:attributeBase e f env (eval e env)=eval e env)
  (h:wpAny (model prog w) A (eval e env) (fun o s₁=>wpAny (model prog w) A (getAttr o f true) Q E s₁) E s):wpAny (model prog w) A (eval (.Attribute e f pos) env) Q E s :=
 Attribute_any_ h (by rw [arm_eval_Attribute,hb])
end
def tFld (K:W.Frag) (ta:TE) (f:Str):TE:=fun σ H Q=>ta σ H fun x H1=>∃ a C dx fs v,x=.ref a/\H1 a=some (.ins C dx fs)/\Cls K C/\Ja2 K C f/\fs.lookup f=some v/\Q v H1
def sFld (K:W.Frag) (ta tv:TE) (f:Str):TS:=fun D σ H=>tv σ H fun y H1=>ta σ H1 fun x H2=>∃ a C dx fs,x=.ref a/\H2 a=some (.ins C dx fs)/\Cls K C/\Ja2 K C f/\fs.length<1000 /\
 D.nx σ (upd H2 a (.ins C dx (putF f y fs)))
section
variable {X:Cx} {o e value:Expr} {f:Str} {pos pos' tpos:Pos} {ta tv:TE}
theorem Jax (he:PE X e ta) (hb:attributeBase e f X.env (eval e X.env)=eval e X.env):PE X (.Attribute e f pos) (tFld X.K ta f):=by
 intro b s σ H Q I h;refine JgQ hb (thn (he b s σ H _ I h) fun u p ζ=>?_);obtain ⟨x,k,I1,g,a,C,t,r,v,i,d,c,n,l,q⟩:=ζ;subst i;obtain rfl:u=Value.ref a:=g;exact Jgs I1 d c n l fun m o I2 j=>⟨v,k,I2,j,q⟩
theorem Jby (ha:PE X o ta) (hv:PE X value tv) (hs:swapsWith value (some (.Attribute o f pos')) pos.line X.env=pure false):PS X (.Assign [.Attribute o f pos'] value pos) (sFld X.K ta tv f):=by
 intro b s σ H D I h;refine plainObj_wpAny_Assign_Attribute (thn (hv b s σ H _ I h) fun u p ⟨y,k,I1,g,q⟩=>thn (ha b p σ k _ I1 q) fun m r ζ=>?_) hs;obtain ⟨x,z,I2,e,a,C,w,v,j,d,c,n,l,i⟩:=ζ;subst j;obtain rfl:m=Value.ref a:=e;exact JgI I2 d c n l g fun t I3=>⟨σ,_,I3,i⟩
end
section
variable {X:Cx} {pins:List (Addr × Obj)} {σ : St} {H:Hp} {s:Shared} {A:Around} {E:Value->Shared->Prop} {Q:Value->Shared->Prop} {c:Value} {b:Bool}
end
structure Room (k:Nat) (A:Around):Prop where
 hd:A.handled=none
 dp:A.depth+3*k+5<recursionLimit
 un:A.units+16*k+200<cLine
theorem Room.mono {j k:Nat} {A:Around} (r:Room k A) (h:j<=k):Room j A:=⟨r.hd,by have:=r.dp;ac_nf,by have:=r.un;ac_nf⟩
theorem Room.deeper {k:Nat} {A:Around} (r:Room (k+1) A) (env:Env):Room k (A.deeper env) :=
 ⟨r.hd,by have:=r.dp;show A.depth+1+3*k+5<_;ac_nf,by have:=r.un;show A.units+3+16*k+200<_;ac_nf⟩
theorem Jgy {A:Around} {C:Addr} {us:List Value} {kw:List (Str × Value)}:(A.under (.builtin "type.__call__" ⟨.ref C::us,kw⟩)).depth=A.depth+1:=by
 first | rfl | simp [Around.under,Code.weight,Code.isCreation,Code.isGuard,Code.isCaller,Code.frames,Code.isFrame,guardIds]
theorem Jgz {A:Around} {C:Addr} {us:List Value} {kw:List (Str × Value)}:(A.under (.builtin "type.__call__" ⟨.ref C::us,kw⟩)).units=A.units+1:=by
 first | rfl | simp [Around.under,Code.cUnits,Code.frames,Code.isFrame]
theorem Room.make {k:Nat} {A:Around} (r:Room (k+1) A) (C:Addr) (us:List Value) (kw:List (Str × Value)):Room k (A.under (.builtin "type.__call__" ⟨.ref C::us,kw⟩)) :=
 ⟨r.hd,by have:=r.dp;rw [Jgy];ac_nf,by have:=r.un;rw [Jgz];ac_nf⟩
theorem Room.depth {k:Nat} {A:Around} (r:Room k A):A.depth<recursionLimit:=by have:=r.dp;ac_nf
theorem Room.units {k:Nat} {A:Around} (r:Room k A):A.units+64<cLine:=by have:=r.un;ac_nf
def tNil:TA:=fun _ H Q=>Q [] H
def tCons (ta:TE) (tr:TA):TA:=fun σ H Q=>ta σ H fun x H1=>tr σ H1 fun xs H2=>Q (x::xs) H2
section
variable {X:Cx} {e:Expr} {es:List Expr} {te:TE} {t:TA} {pos:Pos}
theorem Jag:PA X [] tNil:=fun _ _ _ _ H Q I h=>Calls.spliced_nil ⟨[],H,I, .nil,h⟩
theorem JjJ (ha:PE X e te) (hr:PA X es t) (hs:starEach (e::es) X.env=(false,eval e X.env)::starEach es X.env:=by rfl):PA X (e::es) (tCons te t):=by
 intro b a s σ H Q I h;rw [hs];show wpAny _ _ (spliced ((false,eval e X.env)::backTo b (starEach es X.env))) _ _ s;refine Calls.spliced_cons (thn (ha a s σ H _ I h) fun u k ζ=>?_);obtain ⟨x,i,I1,j,c⟩:=ζ;exact thn (hr b a k σ i _ I1 c) fun m n ⟨g,l,I2,f,d⟩=>⟨x::g,l,I2, .cons j f,d⟩
def tTup (t:TA):TE:=fun σ H Q=>t σ H fun xs H1=>xs.length<=sizeLine/\∀ p,H1 p=none->Q (.ref p) (upd H1 p (.tup xs))
def tLst (t:TA):TE:=fun σ H Q=>t σ H fun xs H1=>xs.length<=sizeLine/\∀ p,H1 p=none->Q (.ref p) (upd H1 p (.lst xs))
theorem JaR {x1} (h:PA X es t):PE X (.Tuple es x1 pos) (tTup t):=by
 intro a s σ H Q I i;refine wpAny_Tuple_spliced (thn (h pos a s σ H _ I i) fun j c ⟨f,d,I1,r,z,q⟩=>⟨by rw [<- r.length];exact z,?_⟩);have g:d c.heap.objs.size=none:=I1.hok.fresh (Nat.le_refl _);refine ⟨.ref c.heap.objs.size,upd d c.heap.objs.size (.tup f),I1.laid (t':=c.toks) (fun b u e=>Heap.get?_push_of_some _ e) (Nat.le_refl _) ?_,rfl,q _ g⟩;exact ⟨z,j,r,⟨_,Heap.get?_push_size _ rfl,rfl,_,rfl⟩⟩
theorem Jbs (h:PA X es t):PE X (.List es pos) (tLst t):=by
 intro a s σ H Q I i;refine wpAny_List_spliced (thn (h pos a s σ H _ I i) fun j c ⟨f,d,I1,r,z,q⟩=>⟨by rw [<- r.length];exact z,?_⟩);have g:d c.heap.objs.size=none:=I1.hok.fresh (Nat.le_refl _);refine ⟨.ref c.heap.objs.size,upd d c.heap.objs.size (.lst f),I1.laid (t':=c.toks) (fun b u e=>Heap.get?_push_of_some _ e) (Nat.le_refl _) ?_,rfl,q _ g⟩;exact ⟨z,j,0,r,Heap.get?_push_size _ rfl⟩
end
abbrev Sp:=List V->Hp->VK->XK->Prop
abbrev CXT:=List Env->Hp->Shared->XK->Value->Shared->Prop
structure Env0 (P:Program) (w:World) (K:W.Frag) (mg:Str->Option Value) (base:Heap) (A:Around) (outer:List Env) (s:Shared) (H:Hp):Prop where
 frames:A.frames=some outer
 mod:Mod K mg base
 bs:∀ b o,base.get? b=some o->s.heap.get? b=some o/\H b=none
 bsz:base.objs.size<=s.heap.objs.size
 funs:s.heap.FunFrames base outer
 frf:∀ b∈frs outer,H b=none
 hok:HOk P w H s.heap
 bare:AllBare s.gens
def CE (outer:List Env) (P:Program) (w:World) (H:Hp) (s:Shared) (Q:VK) (u:Value) (s':Shared):Prop :=
 ∃ v H',s'.os=s.os/\AllBare s'.gens/\Un (frs outer) [] H H' s.heap s'.heap/\HOk P w H' s'.heap/\RelV v u/\Q v H'
def CR (CX:CXT) (outer:List Env) (P:Program) (w:World) (H:Hp) (s:Shared) (Q:VK) (E:XK) (r:Result) (s':Shared):Prop :=
 match r with
 | .ok (.ret u)=>CE outer P w H s Q u s'
 | .ok _=>False
 | .error e=>CX outer H s E e s'
structure FnOk (P:Program) (w:World) (K:W.Frag) (mg:Str->Option Value) (base:Heap) (CX:CXT) (k:Nat) (f:Addr) (fd:FuncData) (ps:List Str) (sp:Sp):Prop where
 len:∀ vs H Q E,sp vs H Q E->vs.length=ps.length
 run:∀ (A:Around) (outer:List Env) (s:Shared) (H:Hp) (args:Args) (us:List Value) (vs:List V) (Q:VK) (E:XK),Room k A->Env0 P w K mg base A outer s H->BindsTo s fd args (ps.zip us)->Vals vs us->sp vs H Q E ->
  codeAny (model P w) A (.call (.ref f) args) (CR CX outer P w H s Q E) s
theorem Env0.make {P:Program} {w:World} {K:W.Frag} {mg:Str->Option Value} {base:Heap} {A:Around} {outer:List Env} {s:Shared} {H:Hp} (e:Env0 P w K mg base A outer s H) (C:Addr) (us:List Value) (kw:List (Str × Value)) :
  Env0 P w K mg base (A.under (.builtin "type.__call__" ⟨.ref C::us,kw⟩)) outer s H:=⟨by first | exact e.frames | (simpa [Around.under,Code.envs,Code.isFrame,pushEnvs] using e.frames),e.mod,e.bs,e.bsz,e.funs,e.frf,e.hok,e.bare⟩
section
variable {X:Cx} {pins:List (Addr × Obj)} {σ : St} {H:Hp} {s s':Shared}
theorem Inv.env0 (I:Inv X pins σ H s):Env0 X.prog X.w X.K X.mg X.base X.A X.stack s H :=
 ⟨I.ok.frames,I.ok.mod,I.bs,Nat.le_trans I.ok.bsz I.sz,I.stack,I.stkFree,I.hok,I.bare⟩
theorem Inv.after {Q:VK} {u:Value} (I:Inv X pins σ H s) (h:CE X.stack X.prog X.w H s Q u s'):EP X pins σ Q u s':=by
 obtain ⟨v,k,f,a,j,e,r,q⟩:=h;obtain ⟨i,g,d,t,c⟩:=s';obtain rfl:c=s.os:=f;exact ⟨v,k,I.call (h':=i) (g':=g) (d':=d) (t':=t) (ch:=[]) j e a (fun b z=>absurd z (by simp)),r,q⟩
end
def tCall (sp:Sp) (dvs:List V) (E:XK) (t:TA):TE:=fun σ H Q=>t σ H fun vs H1=>sp (vs++dvs) H1 Q E
def tMake (C:Addr) (sp:Sp) (dvs:List V) (E:XK) (t:TA):TE:=fun σ H Q=>t σ H fun vs H1=>∀ x dx,H1 x=none->H1 dx=none->dx≠x ->
 sp (.ref x::(vs++dvs)) (upd (upd H1 dx (.own x)) x (.ins C dx [])) (fun v H2=>v=.non/\Q (.ref x) H2) E
def Binds (K:W.Frag) (fd:FuncData) (ps:List Str) (ds:List Value):Prop :=
 ∀ (s:Shared) (us:List Value),K.In s.heap->(us++ds).length=ps.length->BindsTo s fd ⟨us,[]⟩ (ps.zip (us++ds))
theorem Binds.all {K:W.Frag} {fd:FuncData} {ps:List Str} (h:∀ us:List Value,us.length=ps.length->bindArgs fd ⟨us,[]⟩=pure (ps.zip us)):Binds K fd ps []:=fun s us _ a=>by
 rw [append_nil] at a ⊢;exact .of_eq (h us a)
def JbI (CX:CXT) (X:Cx) (E:XK):Prop:=∀ (pins:List (Addr × Obj)) (σ : St) (H:Hp) (s:Shared) (e:Value) (s':Shared),Inv X pins σ H s->CX X.stack H s E e s'->X.xe e s'
section
variable {X:Cx} {CX:CXT} {k:Nat} {f C:Addr} {fd:FuncData} {ps:List Str} {sp:Sp} {dvs:List V} {ds:List Value} {E:XK} {x m:Str} {p pos apos:Pos} {e o:Expr} {es:List Expr} {ta:TE} {t:TA}
theorem JhS {pins:List (Addr × Obj)} {σ : St} {H:Hp} {s:Shared} {Q:VK} {us:List Value} {vs:List V} (F:FnOk X.prog X.w X.K X.mg X.base CX k f fd ps sp) (hr:Room k X.A) (hb:Binds X.K fd ps ds) (hd:Vals dvs ds) (hx:JbI CX X E)
  (I:Inv X pins σ H s) (r:Vals vs us) (h:sp (vs++dvs) H Q E):wpAny (model X.prog X.w) X.A (call (.ref f) us) (EP X pins σ Q) X.xe s:=by
 have b:Vals (vs++dvs) (us++ds):=r.append hd;have d:(us++ds).length=ps.length:=by rw [<- b.length];exact F.len _ _ _ _ h
 refine wpAny_call (codeAny_mono (F.run X.A X.stack s H ⟨us,[]⟩ (us++ds) (vs++dvs) Q E hr I.env0 (hb s us I.kIn d) b h) fun r c a=>?_);cases r with
 | error e=>exact hx pins σ H s e c I a
 | ok fl=>
  cases fl with
  | ret u=>exact I.after a
  | next=>exact False.elim a
  | brk=>exact False.elim a
  | cont=>exact False.elim a
theorem JjK (F:FnOk X.prog X.w X.K X.mg X.base CX k f fd ps sp) (hr:Room k X.A) (hg:Gl X x) (hm:X.mg x=some (.ref f)) (hk:W.keepIn X.K (.ref f)=true) (hb:Binds X.K fd ps ds) (hd:Vals dvs ds) (hx:JbI CX X E)
  (ha:PA X (e::es) t) (hdb:(x == ("__debug__" : Str))=false:=by decide) (he:starEach (e::es) X.env=(false,eval e X.env)::starEach es X.env:=by rfl) (hpl:(backTo pos (starEach es X.env)).any (·.1)=false:=by rfl) :
  PE X (.Call (.Name x p) (e::es) [] pos) (tCall sp dvs E t):=by
 intro a s σ H Q I h;refine wpAny_Call_Name_kw (Jcr I hg hm ?_ hdb);refine W.callWith_K (h₀:=X.base) I.ok.mod.kin hk (thn (ha pos a s σ H _ I h) fun g b ⟨d,c,I1,r,q⟩=>⟨I1.kIn,?_⟩) he hpl;exact JhS F hr hb hd hx I1 r q
structure Mk (K:W.Frag) (C f:Addr):Prop where
 makes:W.makesIn K C=true
 init:W.findIn K (.ref C) "__init__"=some (some (.ref f))
 fn:W.isFn K (.ref f)=true
 kp:W.keepIn K (.ref C)=true
theorem JiE {pins:List (Addr × Obj)} {σ : St} {H:Hp} {s:Shared} {Q:VK} {us:List Value} {vs:List V} (M:Mk X.K C f) (F:FnOk X.prog X.w X.K X.mg X.base CX k f fd ps sp) (hr:Room (k+1) X.A) (hb:Binds X.K fd ps ds) (hd:Vals dvs ds)
  (hx:JbI CX X E) (I:Inv X pins σ H s) (r:Vals vs us)
  (h:∀ x dx,H x=none->H dx=none->dx≠x->sp (.ref x::(vs++dvs)) (upd (upd H dx (.own x)) x (.ins C dx [])) (fun v H2=>v=.non/\Q (.ref x) H2) E) :
  wpAny (model X.prog X.w) X.A (call (.ref C) us) (EP X pins σ Q) X.xe s:=by
 have c:=h (s.heap.objs.size+1) s.heap.objs.size (I.hok.fresh (Nat.le_succ _)) (I.hok.fresh (Nat.le_refl _)) (Nat.ne_of_lt (Nat.lt_succ_self _));have I2:=Inv.made (C:=C) I;have b:Vals (V.ref (s.heap.objs.size+1)::(vs++dvs)) (Value.ref (s.heap.objs.size+1)::(us++ds)):=.cons rfl (r.append hd);have m:(Value.ref (s.heap.objs.size+1)::us++ds).length=ps.length:=by
  have e:=b.length;rw [F.len _ _ _ _ c] at e;exact e.symm
 refine wpAny_call (Jip (f:=f) I.kIn M.makes M.init (beq_iff_eq.mp M.fn) (codeAny_mono (F.run _ X.stack _ _ ⟨Value.ref (s.heap.objs.size+1)::us,[]⟩ (Value.ref (s.heap.objs.size+1)::(us++ds)) _ _ E (hr.make C us [])
  (I2.env0.make C us []) (hb _ (Value.ref (s.heap.objs.size+1)::us) I2.kIn m) b c) fun r l a=>?_))
 cases r with
 | error e=>exact hx pins σ _ _ e l I2 a
 | ok fl=>
  cases fl with
  | ret u=>
   obtain ⟨v,j,I3,i,g,d⟩:=I2.after a;subst g;exact ⟨i,⟨V.ref (s.heap.objs.size+1),j,I3,rfl,d⟩⟩
  | next=>exact False.elim a
  | brk=>exact False.elim a
  | cont=>exact False.elim a
theorem JjN (M:Mk X.K C f) (F:FnOk X.prog X.w X.K X.mg X.base CX k f fd ps sp) (hr:Room (k+1) X.A) (hg:Gl X x) (hm:X.mg x=some (.ref C)) (hb:Binds X.K fd ps ds) (hd:Vals dvs ds) (hx:JbI CX X E)
  (ha:PA X (e::es) t) (hdb:(x == ("__debug__" : Str))=false:=by decide) (he:starEach (e::es) X.env=(false,eval e X.env)::starEach es X.env:=by rfl) (hpl:(backTo pos (starEach es X.env)).any (·.1)=false:=by rfl) :
  PE X (.Call (.Name x p) (e::es) [] pos) (tMake C sp dvs E t):=by
 intro a s σ H Q I h;refine wpAny_Call_Name_kw (Jcr I hg hm ?_ hdb);refine W.callWith_K (h₀:=X.base) I.ok.mod.kin M.kp (thn (ha pos a s σ H _ I h) fun g b ⟨d,c,I1,r,q⟩=>⟨I1.kIn,?_⟩) he hpl;exact JiE M F hr hb hd hx I1 r q
end
section
variable {X:Cx} {CX:CXT} {k:Nat} {f C:Addr} {fd:FuncData} {ps ks:List Str} {sp:Sp} {E:XK} {x m:Str} {p pos apos kpos:Pos} {e o:Expr} {es:List Expr} {kws:List Keyword} {te ta:TE} {t tk:TA} {nm:Option Str}
variable {g:List Value->List Value->List Value} {gV:List V->List V->List V}
end
structure Jan (N P:List Str) (sc:Scope):Prop where
 kind:sc.kind=.function
 co:sc.isCoroutine=false
 gen:sc.isGenerator=false
 nd:N.Nodup
 pre:N.take P.length=P
 par:∀ x∈P,sc.names.lookup x=some .local\/sc.names.lookup x=some .cell
 nofree:∀ y∈sc.names,y.2≠.free
theorem JeC {kindOf:Str->Option NameKind} {x:Str}:∀ {binds:List (Str × Value)} {m:Str->Option Value},(∀ v,(x,v)∉binds)->bindL kindOf binds m x=m x
 | [],_,_=>rfl
 | (n,v)::r,m,h=>by
  unfold bindL;rw [JeC fun w hw=>h w (mem_cons_of_mem _ hw)];split
  ·have : x≠n:=by rintro rfl;exact h v mem_cons_self
   simp [this]
  ·rfl
theorem JeA {kindOf:Str->Option NameKind} {x:Str}:∀ {binds:List (Str × Value)} {m:Str->Option Value},(∀ v,(x,v)∉binds)->bindC kindOf binds m x=m x
 | [],_,_=>rfl
 | (n,v)::r,m,h=>by
  unfold bindC;rw [JeA fun w hw=>h w (mem_cons_of_mem _ hw)];split
  ·rfl
  ·have : x≠n:=by rintro rfl;exact h v mem_cons_self
   simp [this]
theorem JeB {kindOf:Str->Option NameKind} {x:Str} {v:Value}:∀ {P:List Str} {vs:List Value} {i:Nat} {m:Str->Option Value},P.Nodup->P[i]?=some x->vs[i]?=some v->kindOf x=some .local ->
  bindL kindOf (P.zip vs) m x=some v
 | [],_,_,_,_,h,_,_=>by simp at h
 | _::_,[],_,_,_,_,h,_=>by simp at h
 | p::P,w::vs,0,m,nd,h1,h2,hk=>by
  simp at h1 h2;subst h1;subst h2;show bindL kindOf ((p,w)::P.zip vs) m p=_;unfold bindL;rw [JeC fun v hv=>(nodup_cons.mp nd).1 (List.of_mem_zip hv).1,if_pos hk];simp
 | p::P,w::vs,i+1,m,nd,h1,h2,hk=>by
  show bindL kindOf ((p,w)::P.zip vs) m x=_;unfold bindL;exact JeB (i:=i) (nodup_cons.mp nd).2 (by simpa using h1) (by simpa using h2) hk
theorem Jez {kindOf:Str->Option NameKind} {x:Str} {v:Value}:∀ {P:List Str} {vs:List Value} {i:Nat} {m:Str->Option Value},P.Nodup->P[i]?=some x->vs[i]?=some v->kindOf x≠some .local ->
  bindC kindOf (P.zip vs) m x=some v
 | [],_,_,_,_,h,_,_=>by simp at h
 | _::_,[],_,_,_,_,h,_=>by simp at h
 | p::P,w::vs,0,m,nd,h1,h2,hk=>by
  simp at h1 h2;subst h1;subst h2;show bindC kindOf ((p,w)::P.zip vs) m p=_;unfold bindC;rw [JeA fun v hv=>(nodup_cons.mp nd).1 (List.of_mem_zip hv).1,if_neg hk];simp
 | p::P,w::vs,i+1,m,nd,h1,h2,hk=>by
  show bindC kindOf ((p,w)::P.zip vs) m x=_;unfold bindC;exact Jez (i:=i) (nodup_cons.mp nd).2 (by simpa using h1) (by simpa using h2) hk
def start (N:List Str) (vs:List V):St:=vs.map some++List.replicate (N.length-vs.length) none
def cxOf (CX:CXT) (P:Program) (w:World) (K:W.Frag) (mg:Str->Option Value) (base:Heap) (N:List Str) (qual:Str) (scope:Scope) (f:Addr) (cd:Value) (A:Around) (outer:List Env) (s:Shared) (H:Hp) (E:XK):Cx where
 prog:=P
 w:=w
 K:=K
 mg:=mg
 base:=base
 A:=A.deeper (envOfC qual scope s.heap.objs.size f cd)
 N:=N
 s₀:=s
 H₀:=H
 env:=envOfC qual scope s.heap.objs.size f cd
 outer:=outer
 stack:=envOfC qual scope s.heap.objs.size f cd::outer
 ex:=[]
 calm:=true
 fn:=fun _=>true
 pn:=[]
 xe:=fun e s'=>wpAny (model P w) (A.deeper (envOfC qual scope s.heap.objs.size f cd)) (leaving (envOfC qual scope s.heap.objs.size f cd) e) (fun _ s''=>CX outer H s E e s'') (fun e' s''=>CX outer H s E e' s'') s'
theorem JfU {sc:Scope} {n:Nat} {x:Str} (h:sc.names.lookup x=some .cell):∃ c,(cellsFrom n sc.names []).lookup x=some c:=by
 have q:=W.cellsFrom_some sc.names n [] (.inl h);exact Option.isSome_iff_exists.mp q
theorem Jhh {CX:CXT} {P:Program} {w:World} {K:W.Frag} {mg:Str->Option Value} {base:Heap} {N ps:List Str} {qual:Str} {scope:Scope} {f:Addr} {cd:Value} {A:Around} {outer:List Env} {s s1:Shared} {H:Hp} {E:XK} {us:List Value} {vs:List V}
  (S:Jan N ps scope) (hd:A.handled=none) (e0:Env0 P w K mg base A outer s H) (hl:vs.length=ps.length) (r:Vals vs us)
  (x:InCallC s s.heap.objs.size (bindL (envOfC qual scope s.heap.objs.size f cd).kindOf (ps.zip us) fun _=>none) (cellsFrom (s.heap.objs.size+1) scope.names []) (bindC (envOfC qual scope s.heap.objs.size f cd).kindOf (ps.zip us) fun _=>none) s1) :
  Inv (cxOf CX P w K mg base N qual scope f cd A outer s H E) [] (start N vs) H s1:=by
 have G:ps.length<=N.length:=by have:=congrArg List.length S.pre;rw [length_take] at this;ac_nf
 obtain ⟨t,I,rfl,C⟩:=x.done;have g:∀ b:Addr,b∉(cxOf CX P w K mg base N qual scope f cd A outer s H E).ex:=fun b z=>absurd (show b∈([]:List Addr) from z) (by simp);refine ⟨⟨e0.mod,S.kind,rfl,rfl,Nat.le_refl _,fun y z c t d=>?_,fun y j=>?_,fun y c _ h=>?_,fun _=>hd,Around.frames_deeper e0.frames, .inr ⟨rfl,rfl⟩,fun b z=>absurd z (g b),e0.bs,e0.bsz,fun b _ _=>g b,fun b z=>absurd z (g b),e0.funs,e0.frf⟩,
  rfl,e0.bare,Un.kept C,⟨_,x.toInCall.ns,fun i y v t d J=>?_⟩,fun y c h=>⟨_,x.cell y c h⟩,e0.hok.fresh (Nat.le_refl _),fun y c h=>?_,fun p l=>absurd (show p∈([]:List (Addr × Obj)) from l) (by simp),e0.hok.kept C,?_⟩
 ·exact name_of_addr x.apart (PySem.mem_of_lookup t) (PySem.mem_of_lookup d)
 ·have j:scope.names.lookup y=some .cell\/scope.names.lookup y=some .free:=j;rcases j with j | j
  ·exact JfU j
  ·exact absurd rfl (S.nofree _ (PySem.mem_of_lookup j))
 ·exact Nat.le_of_lt (x.above y c (PySem.mem_of_lookup h))
 ·have o:i<vs.length:=by
   unfold start at d;by_cases o:i<vs.length
   ·exact o
   ·rw [List.getElem?_append_right (by simpa using o)] at d;rw [List.getElem?_replicate] at d;split at d <;> cases d
  have D:vs[i]?=some v:=by
   unfold start at d;rw [List.getElem?_append_left (by simpa using o),List.getElem?_map] at d;cases e:vs[i]? with
   | none=>rw [e] at d;cases d
   | some a=>rw [e] at d;cases d;rfl
  obtain ⟨u,B,F⟩:=r.get D;have l:ps[i]?=some y:=by
   rw [<- S.pre,List.getElem?_take_of_lt ∅];exact t
  have m:ps.Nodup:=by rw [<- S.pre];exact S.nd.sublist (List.take_sublist _ _)
  refine ⟨u,F,?_⟩;rcases S.par y (List.mem_of_getElem? l) with k | k
  ·exact .inl ⟨k,JeB m l B k⟩
  ·obtain ⟨c,e⟩:=JfU (n:=s.heap.objs.size+1) k;refine .inr ⟨.inl k,c,e,?_⟩;have q:=x.cell y c e;rw [Jez m l B (by show scope.names.lookup y≠_;rw [k];decide)] at q;exact q
 ·exact e0.hok.fresh (Nat.le_of_lt (x.above y c (PySem.mem_of_lookup h)))
 ·unfold start;show _=N.length;rw [length_append,length_map,List.length_replicate];ac_nf
theorem fn_of {CX:CXT} {P:Program} {w:World} {K:W.Frag} {mg:Str->Option Value} {base:Heap} {k:Nat} {f:Addr} {name qual:Str} {params:Arguments} {body:List Stmt} {scope:Scope} {dV kV doc pm cdv ct oc:Value} {an od:Option Addr}
  {osl:Array (Option Value)} {N ps:List Str} {sp:Sp} (lk:K.lookup f=some ⟨oc,od, .func (W.fnOf name qual params body scope dV kV doc pm an cdv ct),osl⟩) (hcd:W.codeIn K cdv qual=true) (S:Jan N ps scope)
  (len:∀ vs H Q E,sp vs H Q E->vs.length=ps.length)
  (hbody:∀ (A:Around) (outer:List Env) (s:Shared) (H:Hp) (vs:List V) (Q:VK) (E:XK),Room k (A.deeper (envOfC qual scope s.heap.objs.size f cdv))->sp vs H Q E ->
   ∃ t,PSs (cxOf CX P w K mg base N qual scope f cdv A outer s H E) body t/\t { nx:=fun _ H'=>Q .non H',rt:=Q } (start N vs) H) :
  FnOk P w K mg base CX (k+1) f (W.fnOf name qual params body scope dV kV doc pm an cdv ct) ps sp:=by
 refine ⟨len,fun A outer s H z G vs Q E l g M r h=>?_⟩;have R:=len _ _ _ _ h;have KX:K.In s.heap:=g.mod.kin.keeps fun b o e=>(g.bs b o e).1;have j:s.heap.NoLimit:=g.mod.nolimit.keeps fun b o e=>(g.bs b o e).1;have a:∀ y∈ps.zip G,scope.names.lookup y.1=some .local\/(scope.names.lookup y.1=some .cell/\((cellsFrom (s.heap.objs.size+1) scope.names []).lookup y.1).isSome=true):=fun ⟨n,v⟩ C=>by
  rcases S.par n (List.of_mem_zip C).1 with q | q
  ·exact .inl q
  ·exact .inr ⟨q,W.cellsFrom_some _ _ _ (.inl q)⟩
 refine codeAny_call_function l.depth (KX _ _ lk) rfl S.co S.gen rfl (W.codeRec_of KX hcd) (M _ _ _ _ ?_);refine wpAny_newFunctionEnv_cells S.kind a fun O D p x=>?_;subst D;refine ⟨j.keeps x.toInCall.keep,codeAny_func ?_⟩;obtain ⟨t,B,F⟩:=hbody A outer s H vs Q E (l.deeper _) h;have I:Inv (cxOf CX P w K mg base N qual scope f cdv A outer s H E) [] (start N vs) H p:=Jhh S l.hd g R r x;refine wpAny_mono (B [] p (start N vs) H _ I F) (fun L m c=>?_) fun e m c=>c;have d:∀ {σ':St} {H':Hp} {v:V} {u:Value},Inv (cxOf CX P w K mg base N qual scope f cdv A outer s H E) [] σ' H' m->RelV v u->Q v H'->CE outer P w H s Q u m :=
  fun {σ' H' v u} J i q=>⟨v,H',J.os,J.bare,J.base,J.hok,i,q⟩
 cases L with
 | ret u=>
  obtain ⟨v,σ',H',J,i,q⟩:=c;exact d J i q
 | next=>
  obtain ⟨σ',H',J,q⟩:=c;exact d (v:=V.non) (u:=Value.none) J rfl q
 | brk=>
  obtain ⟨_,_,_,q⟩:=c;exact False.elim q
 | cont=>
  obtain ⟨_,_,_,q⟩:=c;exact False.elim q
section
variable {X:Cx} {x:Str} {p pos:Pos} {e:Expr} {es:List Expr} {t:TA} {id T:String} {r:List V->Hp->VK->Prop}
def tCB (r:List V->Hp->VK->Prop) (t:TA):TE:=fun σ H Q=>t σ H fun vs H1=>r vs H1 Q
theorem Jav (hc:CallR X (.builtin id) r) (hg:Gl X x) (hm:X.mg x=none) (hv:bootBuiltins x=some (.builtin id)) (ha:PA X (e::es) t) (hn:x≠"__name__":=by decide) (hdb:(x == ("__debug__" : Str))=false:=by decide)
  (he:starEach (e::es) X.env=(false,eval e X.env)::starEach es X.env:=by rfl) (hpl:(backTo pos (starEach es X.env)).any (·.1)=false:=by rfl):PE X (.Call (.Name x p) (e::es) [] pos) (tCB r t):=by
 intro a s σ H Q I h;refine wpAny_Call_Name_kw (Jcm I hg hm hv ?_ hn hdb);exact PyProof.Rows.callWith_builtin1 (thn (ha pos a s σ H _ I h) fun g b ⟨f,c,I1,i,d⟩=>hc a b σ c f g Q I1 i d) he hpl
theorem JcG (hc:CallR X (.type T) r) (hg:Gl X x) (hm:X.mg x=none) (hv:bootBuiltins x=some (.type T)) (ha:PA X (e::es) t) (hn:x≠"__name__":=by decide) (hdb:(x == ("__debug__" : Str))=false:=by decide)
  (he:starEach (e::es) X.env=(false,eval e X.env)::starEach es X.env:=by rfl) (hpl:(backTo pos (starEach es X.env)).any (·.1)=false:=by rfl):PE X (.Call (.Name x p) (e::es) [] pos) (tCB r t):=by
 intro a s σ H Q I h;refine wpAny_Call_Name_kw (Jcm I hg hm hv ?_ hn hdb);exact PyProof.Rows.callWith_type1 (thn (ha pos a s σ H _ I h) fun g b ⟨f,c,I1,i,d⟩=>hc a b σ c f g Q I1 i d) he hpl
end
end L2
namespace HT
open PySem PyProof.Rows
section
open PySem.SeqAt
open PySem.AutoSeq1 (wpAny_loadPart')
open PySem.MeetsSeq PySem.MeetsSeq2 PySem.MeetsSeq3
end
section
variable {prog:Program} {w:World} {A:Around} {E:Value->Shared->Prop} {s:Shared}
theorem cat_tup {t b:Addr} {vs ws:List Value} {Q:Value->Shared->Prop} (ht:IsTup s.heap t vs.toArray) (hb:IsTup s.heap b ws.toArray) (hv:vs≠[])
  (h1:ws=[]->Q (.ref t) s) (h2:ws≠[]->Q (.ref s.heap.objs.size) { s with heap:=s.heap.push { cls:=.type "tuple",data:=.seq (vs++ws).toArray } })
  (hsz:vs.length+ws.length<=sizeLine):wpAny (model prog w) A (binaryOp .Add (.ref t) (.ref b)) Q E s:=by
 obtain ⟨⟨cls,p,data,k⟩,i,q,n,m⟩:=id ht;obtain ⟨⟨l,g,j,c⟩,a,d,o,f⟩:=id hb;simp only at q m d f;subst q m d f;have e:vs.toArray++ws.toArray=(vs++ws).toArray:=by simp
 by_cases h:ws=[]
 ·exact concat_meets ⟨_,i,rfl⟩ ⟨_,a,rfl⟩ noFill_tuple_add seq_tuple_add PySem.F.slot_tuple_add PySem.F.entry_tuple_add (PySem.F.args_tuple_add_2 _ _)
   (tuple_addW1 t b vs.toArray ws.toArray n o p g k c (by simpa using hv) (by simp [h])) ⟨i,a,h1 h⟩
 ·refine concat_meets ⟨_,i,rfl⟩ ⟨_,a,rfl⟩ noFill_tuple_add seq_tuple_add PySem.F.slot_tuple_add PySem.F.entry_tuple_add (PySem.F.args_tuple_add_2 _ _)
   (tuple_addW2 t b vs.toArray ws.toArray n o p g k c (by simpa using hv) (by simpa using h) (by rw [size_toArray,size_toArray];exact hsz)) ⟨i,a,?_⟩
  rw [e];exact h2 h
def sIx (n d:Nat):Option Int->Nat
 | none=>d
 | some v=>if v<0 then (v+(n:Int)).toNat else min v.toNat n
theorem sIx_nat (n d k:Nat):sIx n d (some (k:Int))=min k n:=by
 show (if (k:Int)<0 then ((k:Int)+(n:Int)).toNat else min (k:Int).toNat n)=min k n;rw [if_neg ∅,Int.toNat_natCast]
theorem JkP (n d:Nat) (hd:d<=n) (o:Option Int):sIx n d o<=n:=by
 cases o with
 | none=>exact hd
 | some v=>
  show (if v<0 then (v+(n:Int)).toNat else min v.toNat n)<=n;by_cases a:v<0
  ·rw [if_pos a];ac_nf
  ·rw [if_neg a];exact Nat.min_le_right _ _
theorem JgU (v:Int) (n d:Nat):(if v<0 then max (v+(n:Int)) 0 else min v (n:Int))=((sIx n d (some v):Nat):Int):=by
 show (if v<0 then max (v+(n:Int)) 0 else min v (n:Int))=(((if v<0 then (v+(n:Int)).toNat else min v.toNat n):Nat):Int);by_cases a:v<0
 ·simp only [if_pos a];ac_nf
 ·simp only [if_neg a];ac_nf
theorem Jgq (lo hi:Option Int) (n:Nat):Builtin.Slice.sliceAdjust lo hi 1 (n:Int)=(((sIx n 0 lo:Nat):Int),((sIx n n hi:Nat):Int)):=by
 have a:¬ ((1:Int)<0):=by ac_nf
 unfold Builtin.Slice.sliceAdjust;simp only [a,if_false];refine Prod.ext ?_ ?_
 ·cases lo with
  | none=>rfl
  | some v=>exact JgU v n 0
 ·cases hi with
  | none=>rfl
  | some v=>exact JgU v n n
theorem JgF (i j:Nat):Builtin.Slice.slicePlaces (i:Int) (j:Int) 1=j-i:=by
 unfold Builtin.Slice.slicePlaces;have a:(1:Int) > 0:=by ac_nf
 simp only [a,if_true,Int.ediv_one];split <;> ac_nf
theorem JdS {v:Value} {o:Option Int} {Q:Option Int->Shared->Prop} (p:IsPart v o) (h:Q o s):wpAny (model prog w) A (Builtin.Slice.slicePartIndex v) Q E s:=by
 cases p with
 | none=>exact slicePart_none h
 | int i t=>exact slicePart_int h
theorem Jc3 {sl:Addr} {vl vu:Value} {lo hi:Option Int} {n:Nat} {Q:Int × Int × Nat->Shared->Prop} (hs:s.heap.IsSliceOf sl vl vu .none) (pl:IsPart vl lo) (pu:IsPart vu hi)
  (h:Q (((sIx n 0 lo:Nat):Int),1,sIx n n hi-sIx n 0 lo) s):wpAny (model prog w) A (Builtin.Slice.sliceApplied (.ref sl) (pure (n:Int))) Q E s:=by
 obtain ⟨d,b,c,a⟩:=id hs;unfold Builtin.Slice.sliceApplied Builtin.Slice.sliceFields;refine wpAny_bind (wpAny_bind (wpAny_field b a (x:=vl) rfl (wpAny_bind (wpAny_field b a (x:=vu) rfl (wpAny_bind (wpAny_field b a (x:=.none) rfl (wpAny_pure ?_)))))));refine wpAny_bind (slicePart_none ?_);show wpAny _ _ (if ((1:Int) == 0)=true then _ else _) _ _ s;rw [if_neg ⋯];refine wpAny_bind (JdS pl (wpAny_bind (JdS pu (wpAny_bind (wpAny_pure ?_)))));show wpAny _ _ (match Builtin.Slice.sliceAdjust lo hi 1 (n:Int) with | (lo,hi)=>pure (lo,(1:Int),Builtin.Slice.slicePlaces lo hi 1)) _ _ s;rw [Jgq lo hi n];show wpAny _ _ (pure (((sIx n 0 lo:Nat):Int),(1:Int),Builtin.Slice.slicePlaces ((sIx n 0 lo:Nat):Int) ((sIx n n hi:Nat):Int) 1)) _ _ s;rw [JgF];exact wpAny_pure h
theorem JiA (xs:Array Value) (i k:Nat):((List.range k).filterMap fun (m:Nat)=>xs[((i:Int)+(m:Int)*1).toNat]?).toArray=((xs.toList.drop i).take k).toArray:=by
 have e:(fun (m:Nat)=>xs[((i:Int)+(m:Int)*1).toNat]?)=fun m=>xs[i+m]?:=by
  funext m
  have : ((i:Int)+(m:Int)*1).toNat=i+m:=by ac_nf
  rw [this]
 rw [e];have:=pick_run xs i k;rw [List.filterMap_map] at this;have a:((fun x=>xs[x]?) ∘ fun x=>i+x)=fun m=>xs[i+m]?:=rfl;rw [a] at this;rw [this]
theorem getItem_tuple_cut {t sl:Addr} {items:Array Value} {vl vu:Value} {lo hi:Option Int} {Q:Value->Shared->Prop} (ht:IsTup s.heap t items) (hs:s.heap.IsSliceOf sl vl vu .none) (pl:IsPart vl lo) (pu:IsPart vu hi)
  (hw:¬ (sIx items.size 0 lo=0/\sIx items.size items.size hi=items.size))
  (h:Q (.ref s.heap.objs.size) { s with heap:=s.heap.push { cls:=.type "tuple",data:=.seq ((items.toList.drop (sIx items.size 0 lo)).take (sIx items.size items.size hi-sIx items.size 0 lo)).toArray } })
  (hsz:items.size<=sizeLine):wpAny (model prog w) A (getItem (.ref t) (.ref sl)) Q E s:=by
 have a:sizeOk (.seq ((items.toList.drop (sIx items.size 0 lo)).take (sIx items.size items.size hi-sIx items.size 0 lo)).toArray):=by
  show ((items.toList.drop (sIx items.size 0 lo)).take (sIx items.size items.size hi-sIx items.size 0 lo)).toArray.size<=sizeLine;rw [size_toArray,length_take,List.length_drop,Array.length_toList];ac_nf
 have k:sIx items.size items.size hi<=items.size:=JkP _ _ (Nat.le_refl _) hi;obtain ⟨f,d,b,g⟩:=id hs;have e:s.TypeIs (.ref sl) "slice":=⟨f,d,b⟩;unfold getItem;try with_reducible refine wpAny_holding ?_
 first | refine wpAny_bind (wpAny_pure ?_) | skip
 refine wpAny_bind (wpAny_sequenceKey ht.typeIs ⋯ ?_);refine wpAny_bind (wpAny_callSpecial?_slot (name:=Str.ofString "__getitem__") ht.typeIs PyProof.Rows.slot_tuple_getitem
  (wpAny_call_entry PyProof.Rows.slot_tuple_getitem ht.typeIs entry_tuple_getitem ?_ (args_tuple_getitem _ _)))
 show wpAny _ _ (Builtin.Tuple.tupleItemsOf (.ref t) >>= _) _ _ s;refine wpAny_bind (tupleItemsOf_ ht ?_);refine wpAny_bind (wpAny_typeOf e ?_);rw [if_pos ⋯];refine wpAny_bind (Jc3 hs pl pu ?_);have c:¬ ((((sIx items.size 0 lo:Nat):Int) == 0&&(1:Int) == 1&&(sIx items.size items.size hi-sIx items.size 0 lo) == items.size)=true):=by
  intro q;rw [Bool.and_eq_true,Bool.and_eq_true] at q;have i:((sIx items.size 0 lo:Nat):Int)=0:=eq_of_beq q.1.1;have j:sIx items.size items.size hi-sIx items.size 0 lo=items.size:=eq_of_beq q.2;exact hw ⟨by ac_nf,by ac_nf⟩
 show wpAny _ _ (if (((sIx items.size 0 lo:Nat):Int) == 0&&(1:Int) == 1&&(sIx items.size items.size hi-sIx items.size 0 lo) == items.size)=true then _ else _) _ _ s;rw [if_neg c,JiA];first
  | exact wpAny_bind (m:=Builtin.Tuple.tupleExact _) (wpAny_newObj_type (wpAny_pure ⟨_,rfl,wpAny_pure h⟩) a)
  | exact wpAny_bind (m:=Builtin.Tuple.tupleExact _) (wpAny_newObj_type (wpAny_bind (wpAny_pure (wpAny_pure ⟨_,rfl,wpAny_pure h⟩))) a)
  | exact wpAny_bind (wpAny_bind (m:=Builtin.Tuple.tupleExact _) (wpAny_newObj_type (wpAny_pure (wpAny_pure ⟨_,rfl,wpAny_pure h⟩)) a))
  | exact wpAny_bind (wpAny_bind (m:=Builtin.Tuple.tupleExact _) (wpAny_newObj_type (wpAny_pure ⟨_,rfl,wpAny_pure h⟩) a))
end
end HT
namespace L2
open PySem PySem.Spec PyProof.Rows
abbrev TO:=St->Hp->(Option Int->Hp->Prop)->Prop
def PO (X:Cx) (e:Option Expr) (t:TO):Prop :=
 ∀ (pins:List (Addr × Obj)) (s:Shared) (σ : St) (H:Hp) (Q:Option Int->Hp->Prop),Inv X pins σ H s->t σ H Q ->
  wpAny (model X.prog X.w) X.A (evalPart e X.env) (fun u s'=>∃ o H',Inv X pins σ H' s'/\IsPart u o/\Q o H') X.xe s
def Jj5:TO:=fun _ H Q=>Q none H
def tPart (t:TE):TO:=fun σ H Q=>t σ H fun x H1=>∃ i,x=.int i/\Q (some i) H1
section
variable {X:Cx} {e:Expr} {te:TE} {lo hi:Option Expr} {tl th:TO} {pos p2:Pos}
theorem JhL (h:PE X e te):PO X (some e) (tPart te):=by
 intro a s σ H Q I d;rw [evalPart_some];refine thn (h a s σ H _ I d) fun u g ζ=>?_;obtain ⟨x,b,I1,f,c⟩:=ζ;obtain ⟨i,rfl,q⟩:=c;obtain ⟨t,rfl⟩:=f;exact ⟨some i,b,I1, .int i t,q⟩
def SlR (X:Cx) (r:V->Option Int->Option Int->Hp->VK->Prop):Prop :=
 ∀ (pins:List (Addr × Obj)) (s:Shared) (σ : St) (H:Hp) (x:V) (v vl vu:Value) (lo hi:Option Int) (sl:Addr) (Q:VK),Inv X pins σ H s->RelV x v->s.heap.IsSliceOf sl vl vu .none->IsPart vl lo->IsPart vu hi->r x lo hi H Q ->
  ∃ T id,typeLookup (.type T) "__getitem__"=pure (some (.builtin id))/\s.TypeIs v T/\wpAny (model X.prog X.w) X.A (getItem v (.ref sl)) (EP X pins σ Q) X.xe s
theorem SlR.or {r r':V->Option Int->Option Int->Hp->VK->Prop} (h:SlR X r) (h':SlR X r'):SlR X (fun x lo hi H Q=>r x lo hi H Q\/r' x lo hi H Q):=by
 intro a s σ H x v vl e lo hi c Q I d f b pu q;rcases q with q | q
 ·exact h a s σ H x v vl e lo hi c Q I d f b pu q
 ·exact h' a s σ H x v vl e lo hi c Q I d f b pu q
def tSl (r:V->Option Int->Option Int->Hp->VK->Prop) (te:TE) (tl th:TO):TE:=fun σ H Q=>te σ H fun x H1=>tl σ H1 fun l H2=>th σ H2 fun u H3=>r x l u H3 Q
theorem Jiy {r:V->Option Int->Option Int->Hp->VK->Prop} (hr:SlR X r) (he:PE X e te) (hl:PO X lo tl) (hu:PO X hi th):PE X (.Subscript e (.Slice lo hi none p2) pos) (tSl r te tl th):=by
 intro a s σ H Q I h;refine Subscript_ (thn (he a s σ H _ I h) fun v t ζ=>?_);obtain ⟨x,n,I1,p,i⟩:=ζ;refine wpAny_Slice (thn (hl a t σ n _ I1 i) fun vl m ⟨l,B,I2,g,j⟩=>thn (hu a m σ B _ I2 j) fun d c ζ=>?_);obtain ⟨u,f,I3,pu,y⟩:=ζ;rw [evalPart_none];refine wpAny_pure ?_;have I4:Inv X a σ f { c with heap:=c.heap.push { cls:=.type "slice",data:=.fields #[vl,d, .none] } }:=I3.kept (t':=c.toks) fun b C q=>Heap.get?_push_of_some _ q;obtain ⟨T,id,o,k,z⟩:=hr a { c with heap:=c.heap.push { cls:=.type "slice",data:=.fields #[vl,d, .none] } } σ f x v vl d l u c.heap.objs.size Q I4 p (Heap.IsSliceOf.new ..) g pu y;show wpAny (model X.prog X.w) X.A (subscriptTail e (.Slice lo hi none p2) v (.ref c.heap.objs.size)) (EP X a σ Q) X.xe { c with heap:=c.heap.push { cls:=.type "slice",data:=.fields #[vl,d, .none] } };exact tail_any (ops:=[.ref c.heap.objs.size,v]) k o z (by with_unfolding_all rfl)
def cutV (xs:List V) (lo hi:Option Int):List V:=(xs.drop (HT.sIx xs.length 0 lo)).take (HT.sIx xs.length xs.length hi-HT.sIx xs.length 0 lo)
theorem Jdc (xs:List V) (lo hi:Option Int):(cutV xs lo hi).length<=xs.length:=by
 unfold cutV;rw [length_take,List.length_drop];ac_nf
def rSlT (K:W.Frag):V->Option Int->Option Int->Hp->VK->Prop:=fun x lo hi H Q=>∃ a xs,x=.ref a/\SqT K H a xs /\
 ¬ (HT.sIx xs.length 0 lo=0/\HT.sIx xs.length xs.length hi=xs.length)/\∀ p,H p=none->Q (.ref p) (upd H p (.tup (cutV xs lo hi)))
theorem JkR:SlR X (rSlT X.K):=by
 intro i s σ H x v vl w e f u Q I m t l pu h;obtain ⟨a,d,rfl,p,n,q⟩:=h;cases m;obtain ⟨g,r,j,k⟩:=I.tuple p;have c:g.toArray.size=d.length:=by rw [size_toArray];exact r.length.symm
 refine ⟨"tuple",_,PyProof.Rows.slot_tuple_getitem.lookup,j.typeIs,?_⟩;refine HT.getItem_tuple_cut j t l pu (by rw [c];exact n) ?_ (by rw [c];exact k);rw [c];refine ⟨.ref s.heap.objs.size,_,I.laid (t':=s.toks) (o:=.tup (cutV d e f)) (fun b y q=>Heap.get?_push_of_some _ q) (Nat.le_refl _) ?_,rfl,q _ (I.hok.fresh (Nat.le_refl _))⟩;exact ⟨Nat.le_trans (Jdc d e f) k,_,(r.drop (HT.sIx d.length 0 e)).take (HT.sIx d.length d.length f-HT.sIx d.length 0 e),IsTup.new _ _⟩
def rCatT (K:W.Frag):R2:=fun x y H Q=>∃ a b xs ys,x=.ref a/\y=.ref b/\SqT K H a xs/\SqT K H b ys/\xs≠[]/\xs.length+ys.length<=sizeLine /\
 (ys=[]->Q (.ref a) H)/\(ys≠[]->∀ p,H p=none->Q (.ref p) (upd H p (.tup (xs++ys))))
theorem Vals.nil_iff {xs:List V} {us:List Value} (r:Vals xs us):us=[]↔xs=[]:=by
 cases r with
 | nil=>simp
 | cons _ _=>simp
theorem JjE:OpR X (binaryOp .Add) (rCatT X.K):=by
 intro e s σ H x y v u Q I i k h;obtain ⟨a,b,p,A,rfl,rfl,j,C,r,g,l,n⟩:=h;cases i;cases k;obtain ⟨B,d,m,_⟩:=I.tuple j;obtain ⟨f,c,t,_⟩:=I.tuple C;refine HT.cat_tup m t (fun z=>r (d.nil_iff.mp z)) (fun z=>⟨.ref a,H,I,rfl,l (c.nil_iff.mp z)⟩) (fun z=>?_) (by rw [<- d.length, <- c.length];exact g);refine ⟨.ref s.heap.objs.size,_,I.laid (t':=s.toks) (o:=.tup (p++A)) (fun b D q=>Heap.get?_push_of_some _ q) (Nat.le_refl _) ?_,rfl,n (fun w=>z (c.nil_iff.mpr w)) _ (I.hok.fresh (Nat.le_refl _))⟩;exact ⟨by rw [length_append];exact g,_,d.append c,IsTup.new _ _⟩
end
def ixN (n:Nat) (i:Int):Option Nat:=if 0<=i then (if i<n then some i.toNat else none) else if -(n:Int)<=i then some (i+n).toNat else none
def atI {α : Type} (xs:List α) (i:Int):Option α:=(ixN xs.length i).bind fun j=>xs[j]?
theorem Jju {n:Nat} {i:Int} {j:Nat} (h:ixN n i=some j):seqIndex? i n=some j/\j<n/\-(n:Int)<=i/\i<n:=by
 unfold ixN at h;by_cases b:0<=i
 ·rw [if_pos b] at h;by_cases a:i<n
  ·rw [if_pos a] at h;have e:i.toNat=j:=Option.some.inj h;exact ⟨by rw [seqIndex_of b a,e],by ac_nf,by ac_nf,a⟩
  ·rw [if_neg a] at h;cases h
 ·rw [if_neg b] at h;by_cases a : -(n:Int)<=i
  ·rw [if_pos a] at h;have e:(i+n).toNat=j:=Option.some.inj h;exact ⟨by rw [seqIndex_neg ∅ a,e],by ac_nf,a,by ac_nf⟩
  ·rw [if_neg a] at h;cases h
theorem Jff {α : Type} {xs:List α} {i:Int} {v : α} (h:atI xs i=some v):∃ j,seqIndex? i xs.length=some j/\xs[j]?=some v/\j<xs.length/\-(xs.length:Int)<=i/\i<xs.length:=by
 unfold atI at h;cases e:ixN xs.length i with
 | none=>rw [e] at h;cases h
 | some j=>
  rw [e] at h;obtain ⟨c,d,b,a⟩:=Jju e;exact ⟨j,c,h,d,b,a⟩
theorem Jc8 {α : Type} {xs:List α} {j:Nat} {v : α} (h:xs[j]?=some v):atI xs (j:Int)=some v:=by
 have a:j<xs.length:=(List.getElem?_eq_some_iff.mp h).1;have e:ixN xs.length (j:Int)=some j:=by
  unfold ixN;rw [if_pos ∅,if_pos ∅];simp
 unfold atI;rw [e];exact h
def Jjg (b:Expr):Prop:=∀ o i,subscripted b false o i=operate [o,i] (getItem o i)
def IxR (X:Cx) (r:R2):Prop :=
 ∀ (value slice:Expr) (pins:List (Addr × Obj)) (s:Shared) (σ : St) (H:Hp) (x y:V) (v u:Value) (Q:VK),Inv X pins σ H s->RelV x v->RelV y u->r x y H Q ->
  subscripted slice false v u=operate [v,u] (getItem v u)->wpAny (model X.prog X.w) X.A (subscriptTail value slice v u) (EP X pins σ Q) X.xe s
def MtR (X:Cx) (id:String) (r:V->List V->Hp->VK->Prop):Prop :=
 ∀ (pins:List (Addr × Obj)) (s:Shared) (σ : St) (H:Hp) (x:V) (xs:List V) (v:Value) (us:List Value) (Q:VK),Inv X pins σ H s->RelV x v->Vals xs us->r x xs H Q ->
  wpAny (model X.prog X.w) X.A (call (.builtin id) (v::us)) (EP X pins σ Q) X.xe s
section
variable {X:Cx} {a b:Expr} {ta tb:TE} {pos:Pos}
theorem pe_ix {r:R2} (hr:IxR X r) (ha:PE X a ta) (hb:PE X b tb) (hs:Jjg b):PE X (.Subscript a b pos) (tOp r ta tb):=by
 intro c s σ H Q I h;exact Subscript_ (binT ha hb I h fun v u d x y g I2 e f q=>hr a b c d σ g x y v u Q I2 e f q (hs _ _))
def rIxL (K:W.Frag):R2:=fun x y H Q=>∃ p xs i v,x=.ref p/\y=.int i/\SqL K H p xs/\atI xs i=some v/\Q v H
def rIxT (K:W.Frag):R2:=fun x y H Q=>∃ p xs i v,x=.ref p/\y=.int i/\SqT K H p xs/\atI xs i=some v/\Q v H
def rIxS:R2:=fun x y H Q=>∃ z i c,x=.str z/\y=.int i/\z.length<=sizeLine/\atI z.cps.toList i=some c/\Q (.str ⟨#[c]⟩) H
theorem Jjv:IxR X (rIxL X.K):=by
 intro e f a s σ H x y v u Q I B C h o;obtain ⟨p,N,i,z,rfl,rfl,F,E,q⟩:=h;cases B;obtain ⟨t,rfl⟩:=C;obtain ⟨g,r,d,M⟩:=I.list F;obtain ⟨j,c,D,O,G,J⟩:=Jff E;obtain ⟨w,m,l⟩:=r.get D;have A:=r.length;have P:=JeK;have b:EP X a σ Q w s:=⟨z,H,I,l,q⟩;by_cases n:0<=i
 ·have k:i.toNat=j:=by
   rw [seqIndex_of n J] at c;exact Option.some.inj c
  exact item_listR d.isList n ∅ (by rw [k];simpa using m) b o
 ·have k:(i+(g.toArray.size:Int)).toNat=j:=by
   rw [seqIndex_neg ∅ G] at c;rw [size_toArray, <- A];exact Option.some.inj c
  exact subscriptTail_builtinR (x:=w) d.isList.typeIs slot_list_getitem.lookup
   (wpAny_getItem_list_neg (Q:=fun r L=>r=w/\EP X a σ Q r L) d.isList ∅ (by rw [size_toArray] <;> ac_nf) ∅ (by rw [k];simpa using m) ⟨rfl,b⟩) o
theorem Jko:IxR X (rIxT X.K):=by
 intro b c a s σ H x y v u Q I g k h D;obtain ⟨p,G,i,z,rfl,rfl,n,m,q⟩:=h;cases g;obtain ⟨t,rfl⟩:=k;obtain ⟨B,r,f,F⟩:=I.tuple n;obtain ⟨j,o,l,L,J,M⟩:=Jff m;obtain ⟨w,A,e⟩:=r.get l;have E:=r.length;have N:=JeK;have d:EP X a σ Q w s:=⟨z,H,I,e,q⟩;exact subscriptTail_builtinR (x:=w) f.typeIs slot_tuple_getitem.lookup
  (getItem_tuple (j:=j) (Q:=fun r C=>r=w/\EP X a σ Q r C) f ∅ ∅ (by rw [size_toArray, <- E];exact o) (by simpa using A) ⟨rfl,d⟩) D
theorem Jkn:IxR X rIxS:=by
 intro b a d s σ H x y v u Q I g k h m;obtain ⟨z,i,c,rfl,rfl,B,o,q⟩:=h;obtain ⟨t,rfl⟩:=g;obtain ⟨A,rfl⟩:=k;obtain ⟨j,e,n,C,p,w⟩:=Jff o;have f:z.cps.toList.length=z.length:=by simp [Str.length]
 rw [f] at e p w;have D:=JeK;exact tail_any (typeIs_str s z t) slot_str_getitem.lookup (getItem_str (c:=c) (by
  have r:decide (i < -(2 ^ 63:Int))=false:=decide_eq_false ∅;have l:decide (i ≥ 2 ^ 63)=false:=decide_eq_false ∅;rw [r,l,Bool.or_false]) (by rw [e];simpa using n) ⟨.str ⟨#[c]⟩,H,I.tok _,⟨_,rfl⟩,q⟩) m
theorem Je4 (lo hi:Option Int) (n:Nat):(sliceBounds lo hi none n).1=((HT.sIx n 0 lo:Nat):Int)/\(sliceBounds lo hi none n).2.1=((HT.sIx n n hi:Nat):Int)/\(sliceBounds lo hi none n).2.2=1:=by
 refine ⟨?_,?_,rfl⟩
 ·cases lo with
  | none=>simp [sliceBounds,HT.sIx]
  | some i=>
   simp only [sliceBounds,HT.sIx,Option.getD_none,show (1:Int) > 0 by decide,if_true];by_cases h:i<0
   ·simp only [h,if_true] <;> ac_nf
   ·simp only [h,if_false] <;> ac_nf
 ·cases hi with
  | none=>simp [sliceBounds,HT.sIx]
  | some i=>
   simp only [sliceBounds,HT.sIx,Option.getD_none,show (1:Int) > 0 by decide,if_true];by_cases h:i<0
   ·simp only [h,if_true] <;> ac_nf
   ·simp only [h,if_false] <;> ac_nf
theorem Jeq (its:List Value) (lo hi:Option Int):slicePick its.toArray lo hi none=((its.drop (HT.sIx its.length 0 lo)).take (HT.sIx its.length its.length hi-HT.sIx its.length 0 lo)).toArray:=by
 obtain ⟨c,a,b⟩:=Je4 lo hi its.toArray.size;unfold slicePick;rw [c,a,b];simp only [sliceRange_one,pick_run,size_toArray] <;> rfl
def rSlL (K:W.Frag):V->Option Int->Option Int->Hp->VK->Prop:=fun x lo hi H Q=>∃ a xs,x=.ref a/\SqL K H a xs/\∀ p,H p=none->Q (.ref p) (upd H p (.lst (cutV xs lo hi)))
theorem Jj1:SlR X (rSlL X.K):=by
 intro g s σ H x v vl u e f t Q I k p j pu h;obtain ⟨a,c,rfl,m,q⟩:=h;cases k;obtain ⟨n,r,i,l⟩:=I.list m;have d:=r.length;refine ⟨"list",_,slot_list_getitem.lookup,i.isList.typeIs,?_⟩;refine wpAny_getItem_list_slice i.isList p j pu .none (by simp) ?_ (by rw [size_toArray] <;> ac_nf);rw [Jeq, <- d];refine ⟨.ref s.heap.objs.size,_,I.laid (t':=s.toks) (o:=.lst (cutV c e f)) (fun b w q=>Heap.get?_push_of_some _ q) (Nat.le_refl _) ?_,rfl,q _ (I.hok.fresh (Nat.le_refl _))⟩;exact ⟨Nat.le_trans (Jdc c e f) l,_,0,(r.drop (HT.sIx c.length 0 e)).take (HT.sIx c.length c.length f-HT.sIx c.length 0 e),Heap.get?_push_size _ rfl⟩
def flatV:V->Bool
 | .non=>true
 | .bl _=>true
 | .int _=>true
 | .str _=>true
 | _=>false
def eqV:V->V->Bool
 | .non, .non=>true
 | .bl a, .bl b=>a == b
 | .bl a, .int b=>(if a then 1 else 0) == b
 | .int a, .bl b=>a == (if b then 1 else 0)
 | .int a, .int b=>a == b
 | .str a, .str b=>a == b
 | _,_=>false
theorem JiY {A:Around} {s:Shared} {y x:V} {u v:Value} (ry:RelV y u) (rx:RelV x v) (fy:flatV y=true) (fx:flatV x=true):SeqAt.EqAt A s u v (eqV y x):=by
 cases y with
 | non=>
  cases ry;cases x with
  | non=>cases rx;exact SeqAt.EqAt.same _
  | bl b=>cases rx;exact SeqAt.EqAt.none_bool b
  | int b=>obtain ⟨t,rfl⟩:=rx;exact SeqAt.EqAt.none_int b t
  | str b=>obtain ⟨t,rfl⟩:=rx;exact SeqAt.EqAt.none_str b t
  | _=>exact absurd (show false=true from fx) Bool.false_ne_true
 | bl a=>
  cases ry;cases x with
  | non=>cases rx;exact SeqAt.EqAt.bool_none a
  | bl b=>cases rx;exact SeqAt.EqAt.bool_bool a b
  | int b=>obtain ⟨t,rfl⟩:=rx;exact SeqAt.EqAt.bool_int a b t
  | str b=>obtain ⟨t,rfl⟩:=rx;exact SeqAt.EqAt.bool_str a b t
  | _=>exact absurd (show false=true from fx) Bool.false_ne_true
 | int a=>
  obtain ⟨c,rfl⟩:=ry;cases x with
  | non=>cases rx;exact SeqAt.EqAt.int_none a c
  | bl b=>cases rx;exact SeqAt.EqAt.int_bool a c b
  | int b=>obtain ⟨t,rfl⟩:=rx;exact SeqAt.EqAt.int_int a c b t
  | str b=>obtain ⟨t,rfl⟩:=rx;exact SeqAt.EqAt.int_str a c b t
  | _=>exact absurd (show false=true from fx) Bool.false_ne_true
 | str a=>
  obtain ⟨c,rfl⟩:=ry;cases x with
  | non=>cases rx;exact SeqAt.EqAt.str_none a c
  | bl b=>cases rx;exact SeqAt.EqAt.str_bool a c b
  | int b=>obtain ⟨t,rfl⟩:=rx;exact SeqAt.EqAt.str_int a c b t
  | str b=>obtain ⟨t,rfl⟩:=rx;exact SeqAt.EqAt.str_str a c b t
  | _=>exact absurd (show false=true from fx) Bool.false_ne_true
 | _=>exact absurd (show false=true from fy) Bool.false_ne_true
def eqU (x:V) (u:Value):Bool:=match u with
 | .none=>eqV .non x
 | .bool b=>eqV (.bl b) x
 | .int i _=>eqV (.int i) x
 | .str z _=>eqV (.str z) x
 | _=>false
theorem JiZ {x y:V} {u:Value} (r:RelV y u) (f:flatV y=true):eqU x u=eqV y x:=by
 cases y with
 | non=>cases r;rfl
 | bl b=>cases r;rfl
 | int i=>obtain ⟨t,rfl⟩:=r;rfl
 | str z=>obtain ⟨t,rfl⟩:=r;rfl
 | _=>exact absurd (show false=true from f) Bool.false_ne_true
theorem Jfe {x:V}:∀ {xs:List V} {us:List Value},Vals xs us->xs.all flatV=true->us.any (eqU x)=xs.any fun y=>eqV y x
 | _,_, .nil,_=>rfl
 | y::xs,u::us, .cons r t,f=>by
  rw [List.all_cons,Bool.and_eq_true] at f;rw [any_cons,any_cons,JiZ r f.1,Jfe t f.2]
theorem Jd5 {A:Around} {s:Shared} {x:V} {v:Value} (rx:RelV x v) (fx:flatV x=true):∀ {xs:List V} {us:List Value},Vals xs us->xs.all flatV=true->∀ u∈us,SeqAt.EqAt A s u v (eqU x u)
 | _,_, .nil,_=>fun u hu=>by cases hu
 | y::xs,u::us, .cons r t,f=>fun u' hu=>by
  rw [List.all_cons,Bool.and_eq_true] at f;rcases mem_cons.mp hu with rfl | hu
  ·rw [JiZ r f.1];exact JiY r rx f.1 fx
  ·exact Jd5 rx fx t f.2 u' hu
def inV (x:V) (xs:List V):Bool:=xs.any fun y=>eqV y x
def rIn (K:W.Frag) (neg:Bool):R2:=fun x y H Q=>∃ p xs,y=.ref p/\(SqL K H p xs\/SqT K H p xs)/\flatV x=true/\xs.all flatV=true/\Q (.bl (if neg then !inV x xs else inV x xs)) H
theorem JhA:OpR X (compareOp .In) (rIn X.K false):=by
 intro g s σ H x y v u Q I f j h;obtain ⟨p,l,rfl,b,i,c,q⟩:=h;cases j;rcases b with b | b
 ·obtain ⟨a,r,d,k⟩:=I.list b;refine SeqAt.in_listAt (eqU x) d.isList (fun w e=>Jd5 f i r c w (by simpa using e)) ⟨.bl _,H,I,rfl,?_⟩;rw [show a.toArray.any (eqU x)=a.any (eqU x) by simp,Jfe r c];exact q
 ·obtain ⟨a,r,d,k⟩:=I.tuple b;refine SeqAt.in_tupleAt (eqU x) d (fun w e=>Jd5 f i r c w (by simpa using e)) ⟨.bl _,H,I,rfl,?_⟩;rw [show a.toArray.any (eqU x)=a.any (eqU x) by simp,Jfe r c];exact q
theorem JeD:CallR X (.builtin "len") (fun xs H Q=>∃ p ys,xs=[.ref p]/\(SqL X.K H p ys\/SqT X.K H p ys)/\Q (.int ys.length) H):=by
 intro f s σ H xs j Q I r h;obtain ⟨p,ys,rfl,b,q⟩:=h;obtain ⟨u,rfl,g⟩:=vals1 r;cases g;have k:=JeK;rcases b with b | b
 ·obtain ⟨d,e,c,i⟩:=I.list b;have a:=e.length;exact Calls.call_len_list c.isList (by simp only [size_toArray] <;> ac_nf) ⟨.int ys.length,H,I.tok _,⟨s.toks+1,by rw [size_toArray,a]⟩,q⟩
 ·obtain ⟨d,e,c,i⟩:=I.tuple b;have a:=e.length;exact len_tuple c (by simp only [size_toArray] <;> ac_nf) ⟨.int ys.length,H,I.tok _,⟨s.toks+1,by rw [size_toArray,a]⟩,q⟩
theorem JeE:CallR X (.builtin "len") (fun xs H Q=>∃ z,xs=[.str z]/\z.length<=sizeLine/\Q (.int z.length) H):=by
 intro a s σ H xs d Q I r h;obtain ⟨z,rfl,b,q⟩:=h;obtain ⟨u,rfl,t,rfl⟩:=vals1 r;have c:=JeK;exact len_str ∅ ⟨.int z.length,H,I.tok _,⟨_,rfl⟩,q⟩
theorem JeF:CallR X (.type "list") (fun xs H Q=>∃ p ys,xs=[.ref p]/\(SqL X.K H p ys\/SqT X.K H p ys)/\∀ l,H l=none->Q (.ref l) (upd H l (.lst ys))):=by
 intro g s σ H xs B Q I r h;obtain ⟨p,ys,rfl,j,q⟩:=h;obtain ⟨u,rfl,A⟩:=vals1 r;cases A;have k:∀ (a:List Value),Vals ys a->ys.length<=sizeLine->∀ (c:Heap) (d:Nat),(∀ b o',s.heap.get? b=some o'->c.get? b=some o') ->
   c.get? s.heap.objs.size=some { cls:=.type "list",dict:=none,data:=.seq a.toArray d,slots:=#[] }->EP X g σ Q (.ref s.heap.objs.size) { s with heap:=c }:=fun a f i c d t e=>
  ⟨.ref s.heap.objs.size,_,I.laid (t':=s.toks) t (Nat.le_refl _) (show ObjOk X.prog X.w _ c _ (.lst ys) from ⟨i,a,d,f,e⟩),rfl,q _ (I.hok.fresh (Nat.le_refl _))⟩
 rcases j with j | j
 ·obtain ⟨a,f,v,i⟩:=I.list j;have m:=f.length;obtain ⟨o,z,y,n,x⟩:=v.isList;exact call_list_seq p (.inl rfl) z y x (fun c d t e=>k a f i c d t e) (by simp only [size_toArray] <;> ac_nf)
 ·obtain ⟨a,f,v,i⟩:=I.tuple j;have m:=f.length;obtain ⟨o,z,y,n,x⟩:=v;exact call_list_seq p (.inr rfl) z y x (fun c d t e=>k a f i c d t e) (by simp only [size_toArray] <;> ac_nf)
def tyV (K:W.Frag) (T:String) (x:V) (H:Hp):Prop:=match x with
 | .str _=>T="str"
 | .int _=>T="int"
 | .ref p=>(T="list"/\∃ xs,SqL K H p xs)\/(T="tuple"/\∃ o,K.lookup p=some o/\o.cls=.type "tuple"/\o.dict=none) \/
   (T="dict"/\((∃ kvs,H p=some (.dK kvs))\/∃ kvs,H p=some (.dT kvs)))\/(T="set"/\∃ S n,H p=some (.set S n))
 | _=>False
theorem Jje {pins:List (Addr × Obj)} {σ : St} {H:Hp} {s:Shared} {T:String} {x:V} {v:Value} (I:Inv X pins σ H s) (r:RelV x v) (ty:tyV X.K T x H) :
  s.TypeIs v T/\∀ a,v=.ref a->∃ ob,s.heap.get? a=some ob/\ob.dict=none:=by
 cases x with
 | str z=>
  obtain ⟨t,rfl⟩:=r;cases (show T="str" from ty);exact ⟨typeIs_str s z t,fun _ e=>nomatch e⟩
 | int i=>
  obtain ⟨t,rfl⟩:=r;cases (show T="int" from ty);exact ⟨typeIs_int s i t,fun _ e=>nomatch e⟩
 | ref p=>
  cases r;rcases ty with ⟨rfl,xs,hq⟩ | ⟨rfl,o,hk,hc,f⟩ | ⟨rfl,hk⟩ | ⟨rfl,S,n,hk⟩
  ·obtain ⟨h,_,g,_⟩:=I.list hq;refine ⟨g.isList.typeIs,fun a e=>?_⟩;cases e;obtain ⟨o,n,e,c,f,_⟩:=g;exact ⟨o,e,f⟩
  ·refine ⟨⟨o,I.kIn p o hk,hc⟩,fun a e=>?_⟩;cases e;exact ⟨o,I.kIn _ o hk,f⟩
  ·have z:∃ o,s.heap.get? p=some o/\o.ExactDict:=by
    rcases hk with ⟨kvs,hk⟩ | ⟨kvs,hk⟩
    ·obtain ⟨_,_,_,_,o,_,_,e,b,_⟩:=I.hok p _ hk;exact ⟨o,e,b⟩
    ·obtain ⟨_,_,_,_,o,_,_,e,b,_⟩:=I.hok p _ hk;exact ⟨o,e,b⟩
   obtain ⟨o,e,b⟩:=z;refine ⟨⟨o,e,b.1⟩,fun a d=>?_⟩;cases d;exact ⟨o,e,b.2.1⟩
  ·obtain ⟨o,_,_,_,e,b,_⟩:=I.hok p _ hk;refine ⟨⟨o,e,b.1⟩,fun a d=>?_⟩;cases d;exact ⟨o,e,b.2.1⟩
 | _=>exact False.elim ty
def tBM0 (K:W.Frag) (T:String) (r:V->List V->Hp->VK->Prop) (to:TE):TE:=fun σ H Q=>to σ H fun x H1=>tyV K T x H1/\r x [] H1 Q
def tBM (K:W.Frag) (T:String) (r:V->List V->Hp->VK->Prop) (to:TE) (t:TA):TE:=fun σ H Q=>to σ H fun x H1=>tyV K T x H1/\t σ H1 fun xs H2=>r x xs H2 Q
variable {o e:Expr} {es:List Expr} {to:TE} {t:TA} {name:Str} {apos cpos:Pos} {T id:String} {r:V->List V->Hp->VK->Prop}
theorem JhE (pa:PlainAttrs T) (slot:Slot T name id) (hty:typeOf (.builtin id)=pure (.type "method_descriptor")) (hm:MtR X id r) (ho:PE X o to)
  (hbase:attributeBase o name X.env (eval o X.env)=eval o X.env:=by rfl) (hline:(apos.endLine == cpos.line)=true:=by rfl):PE X (.Call (.Attribute o name apos) [] [] cpos) (tBM0 X.K T r to):=by
 intro a s σ H Q I h;refine wpAny_Call_method0_late hbase hline (thn (ho a s σ H _ I h) fun v c ζ=>?_);obtain ⟨x,d,I1,b,i,e⟩:=ζ;obtain ⟨g,f⟩:=Jje I1 b i;exact ⟨T,id,pa,slot,hty,g,f,Calls.callWith_builtin rfl (PySem.evalArgs_none (hm a c σ d x [] v [] Q I1 b .nil e))⟩
theorem pe_bm (pa:PlainAttrs T) (slot:Slot T name id) (hty:typeOf (.builtin id)=pure (.type "method_descriptor")) (hm:MtR X id r) (ho:PE X o to) (ha:PA X (e::es) t)
  (hbase:attributeBase o name X.env (eval o X.env)=eval o X.env:=by rfl)
  (hfew:((backTo cpos (starEach (e::es) X.env)).all (fun x=>!x.1)&&(backToKw cpos (keywordEach [] X.env)).all (fun x=>x.1.isSome)
   && decide ((e::es).length+([]:List Keyword).length+(if ([]:List Keyword).isEmpty then 0 else 1)<30))=true:=by rfl)
  (hline:(apos.endLine == cpos.line)=true:=by rfl) (hs:starEach (e::es) X.env=(false,eval e X.env)::starEach es X.env:=by rfl) (hplain:(backTo cpos (starEach es X.env)).any (·.1)=false:=by rfl) :
  PE X (.Call (.Attribute o name apos) (e::es) [] cpos) (tBM X.K T r to t):=by
 intro a s σ H Q I h;refine wpAny_Call_method_late hbase hfew hline rfl (thn (ho a s σ H _ I h) fun v n ζ=>?_);obtain ⟨x,m,I1,c,l,d⟩:=ζ;obtain ⟨u,g⟩:=Jje I1 c l;refine ⟨T,id,pa,slot,hty,u,g,?_⟩;have b:=ha cpos a n σ m _ I1 d;rw [hs] at b ⊢;refine Calls.callWith_builtin (by show (false||(backTo cpos (starEach es X.env)).any (·.1))=false;rw [hplain] <;> rfl) (Calls.evalArgs_plain ?_);exact thn b fun j k ⟨p,q,I2,i,f⟩=>hm a k σ q x p v j Q I2 c i f
end
def MtM (X:Cx) (id:String) (r:V->List V->Hp->VK->Prop):Prop :=
 ∀ (pins:List (Addr × Obj)) (s:Shared) (σ : St) (H:Hp) (x:V) (xs:List V) (v:Value) (us:List Value) (Q:VK),Inv X pins σ H s->RelV x v->Vals xs us->r x xs H Q ->
  wpAny (model X.prog X.w) X.A (call (.builtin id) (v::us)) (EP X pins σ Q) X.xe s
theorem Vals.one:∀ {x:V} {us:List Value},Vals [x] us->∃ u,us=[u]/\RelV x u
 | _,_, .cons r .nil=>⟨_,rfl,r⟩
theorem Vals.zero:∀ {us:List Value},Vals [] us->us=[]
 | _, .nil=>rfl
section
variable {X:Cx} {pins:List (Addr × Obj)} {σ : St} {H:Hp} {s:Shared} {l b:Addr} {xs ys zs:List V}
theorem Inv.lset {its its':List Value} {n:Nat} {f:Array Value->Array Value} {t':Nat} (I:Inv X pins σ H s) (hH:H l=some (.lst xs))
  (e:s.heap.get? l=some { cls:=.type "list",data:=.seq its.toArray n }) (hf:f its.toArray=its'.toArray) (hv:Vals ys its') (hz:ys.length<=sizeLine) :
  Inv X pins σ (upd H l (.lst ys)) { s with heap:=s.heap.update l (Obj.mapSeq f),toks:=t' }:=by
 have q:=PySem.IsL.update e f;rw [hf] at q;refine I.write (x:=l) (e:=l) (by rw [hH];exact trivial) (.inl rfl) (fun c u a b=>(Heap.get?_update_other s.heap (Obj.mapSeq f) (Ne.symm a)).trans b) ⟨_,q⟩ ?_;exact ⟨hz,its',_,hv,q⟩
theorem Inv.lnew {its:List Value} {t':Nat} (I:Inv X pins σ H s) (hv:Vals ys its) (hz:ys.length<=sizeLine) :
  Inv X pins σ (upd H s.heap.objs.size (.lst ys)) { s with heap:=s.heap.push { cls:=.type "list",data:=.seq its.toArray },toks:=t' } :=
 I.laid (fun _ _ q=>Heap.get?_push_of_some _ q) (Nat.le_refl _) ⟨hz,its,0,hv,Heap.get?_push_size _ rfl⟩
theorem Inv.fresh (I:Inv X pins σ H s):H s.heap.objs.size=none:=I.hok.fresh (Nat.le_refl _)
theorem Inv.lstM (I:Inv X pins σ H s) (hH:H l=some (.lst xs)):xs.length<=sizeLine/\∃ (its:List Value) (n:Nat),Vals xs its/\xs.length=its.length/\s.heap.get? l=some { cls:=.type "list",data:=.seq its.toArray n }:=by
 obtain ⟨z,its,n,r,e⟩:=I.hok l _ hH;exact ⟨z,its,n,r,r.length,e⟩
theorem Jir {n:Nat} (h:n<=sizeLine):Builtin.List.listTooLong n=false:=by
 unfold Builtin.List.listTooLong;exact decide_eq_false ∅
end
section
variable {X:Cx}
def JjT:V->List V->Hp->VK->Prop:=fun x vs H Q=>∃ l xs y,x=.ref l/\vs=[y]/\H l=some (.lst xs)/\xs.length<sizeLine/\Q .non (upd H l (.lst (xs++[y])))
theorem Ja3:MtM X "list.append" JjT:=by
 intro c s σ H x m v k Q I d f h;obtain ⟨l,j,y,rfl,rfl,b,i,q⟩:=h;cases d;obtain ⟨u,rfl,g⟩:=f.one;obtain ⟨z,a,n,r,o,e⟩:=I.lstM b;refine call_meets F.slot_list_append ⟨_,e,rfl⟩ F.entry_list_append (F.args_list_append_2 _ _) (PySem.list_append l a.toArray n u (by rw [size_toArray];ac_nf)) ⟨e,?_⟩;refine ⟨.non,_,I.lset (its':=a++[u]) b e (by simp) (r.append (.cons g .nil)) ?_,rfl,q⟩;rw [length_append,length_singleton];ac_nf
def JjU:V->List V->Hp->VK->Prop:=fun x vs H Q=>∃ l b xs zs,x=.ref l/\vs=[.ref b]/\H l=some (.lst xs)/\H b=some (.lst zs)/\xs.length+zs.length<=sizeLine/\Q .non (upd H l (.lst (xs++zs)))
theorem Jht:MtM X "list.extend" JjU:=by
 intro i s σ H x G v C Q I j m h;obtain ⟨l,b,B,D,rfl,rfl,g,w,A,q⟩:=h;cases j;obtain ⟨u,rfl,p⟩:=m.one;cases p;obtain ⟨z,c,n,r,J,e⟩:=I.lstM g;obtain ⟨E,a,y,o,t,k⟩:=I.lstM w;have f:c.toArray.size+a.toArray.size<=sizeLine:=by rw [size_toArray,size_toArray];ac_nf
 have d:¬ (!c.toArray.isEmpty&&Builtin.List.listTooLong (c.toArray.size+a.toArray.size))=true:=by
  rw [Jir f,Bool.and_false];exact Bool.false_ne_true
 refine call_meets F.slot_list_extend ⟨_,e,rfl⟩ F.entry_list_extend (F.args_list_extend_2 _ _)
  (AutoSeq1.list_extend_list_list_0 l c.toArray n b a.toArray y d (by rw [size_toArray];ac_nf) ∅) ⟨e,k,?_⟩
 refine ⟨.non,_,I.lset (its':=c++a) g e (by simp) (r.append o) ?_,rfl,q⟩;rw [length_append];ac_nf
def JkL:V->List V->Hp->VK->Prop:=fun x vs H Q=>∃ l xs,x=.ref l/\vs=[]/\H l=some (.lst xs)/\Q .non (upd H l (.lst []))
theorem Jd6:MtM X "list.clear" JkL:=by
 intro d s σ H x k v j Q I f g h;obtain ⟨l,i,rfl,rfl,c,q⟩:=h;cases f;have a:=g.zero;subst a;obtain ⟨z,b,n,r,m,e⟩:=I.lstM c;refine call_meets F.slot_list_clear ⟨_,e,rfl⟩ F.entry_list_clear (F.args_list_clear_1 _) (AutoSeq1.list_clear_list_0 l b.toArray n (by rw [size_toArray];ac_nf)) ⟨e,?_⟩;exact ⟨.non,_,I.lset (its':=[]) (ys:=[]) c e rfl .nil (Nat.zero_le _),rfl,q⟩
def rCat:R2:=fun x y H Q=>∃ l b xs zs,x=.ref l/\y=.ref b/\H l=some (.lst xs)/\H b=some (.lst zs)/\xs.length+zs.length<=sizeLine/\∀ p,H p=none->Q (.ref p) (upd H p (.lst (xs++zs)))
theorem JkC:OpR X (binaryOp .Add) rCat:=by
 intro d s σ H x y v u Q I g j h;obtain ⟨l,b,w,A,rfl,rfl,i,p,t,q⟩:=h;cases g;cases j;obtain ⟨z,c,n,r,D,e⟩:=I.lstM i;obtain ⟨B,a,C,m,o,k⟩:=I.lstM p;refine PySem.P.add_list e k ?_ (by rw [size_toArray,size_toArray];ac_nf);have f:c.toArray++a.toArray=(c++a).toArray:=by simp
 rw [f];exact ⟨.ref _,_,I.lnew (t':=s.toks) (r.append m) (by rw [length_append];ac_nf),rfl,q _ I.fresh⟩
end
section
variable {prog:Program} {w:World} {A:Around} {E:Value->Shared->Prop} {s:Shared}
end
section
variable {X:Cx}
end
end L2
namespace Att
open PySem PySem.W PySem.Calls PyProof.Rows
theorem Jdf {P:Params} {h:Heap}:∀ (ns:List Int) (vs:List Value),WellAll P h vs (ns.map WData.int)->IntsAre vs ns:=by
 intro ns;induction ns with
 | nil=>
  intro vs w;rw [map_nil] at w;cases w;exact .nil
 | cons n ns ih=>
  intro vs w;rw [map_cons] at w;cases w with
  | cons a b=>
   cases a;exact .cons _ _ (ih _ b)
theorem JhV {l:OpenLaw} {n:Nat} (hn:l.most=some n) {P:Params} {h:Heap} {args:List WData} {vals:List Value}
  (hpre:l.row.toRowW.claim.pre args=true) (hwl:WellAll P h vals args) :
  ∃ a vs ns,vals=[Value.ref a]/\args=[WData.list (ns.map WData.int)]/\h.get? a=some { cls:=.type "list",data:=.seq vs.toArray }/\IntsAre vs ns/\ns.length<=n:=by
 have f:WShape.hasAll [] args [.list .int]=true:=(pre_splitW hpre).1;have g:l.pre.holds [] { args:=args }=true:=(pre_splitW hpre).2;obtain ⟨d,r,rfl,m,k⟩:=hasAllW_cons f;obtain rfl:=hasAllW_nil k;obtain ⟨o,rfl,j⟩:=hasW_list m;obtain ⟨ns,rfl⟩:=items_int j;have b:ns.length<=n:=by
  unfold OpenLaw.pre at g;have e:(WTm.not (.lt (.lit (.int (n:Int))) (.len (.arg 0)))).holds [] { args:=[.list (ns.map .int)] }=true:=by
   have e:=(holds_andW g).1;rw [hn] at e;exact e
  have c:=condW_of e (w_not (w_lt w_lit (w_len_list (w_arg rfl))));rw [length_map] at c;refine Nat.le_of_not_lt fun q=>?_;have i:(n:Int)<((ns.length:Nat):Int):=by ac_nf
  first
   | (rw [decide_eq_true i] at c;exact absurd c ⋯)
   | (simp at c;ac_nf)
 cases hwl with
 | cons w1 w2=>
  cases w2;cases w1 with
  | list ho hall=>exact ⟨_,_,ns,rfl,rfl,ho,Jdf ns _ hall,b⟩
theorem JhM (l:OpenLaw) (args:List WData):l.row.toRowW.claim.post args (.bool true) args=true :=
 postW_of (r:=l.row.toRowW) (X:=(true == true))
  (show WShape.has [] (.bool true) .bool=true by first | rfl | decide | simp [WShape.has,WShape.arms,WShape.armsAll])
  (show (WTm.eq .res (.lit (.bool true))).value [] { args:=args,res:=some (.bool true),after:=args }=some (.bool (true == true)) from w_eq_bool (w_res rfl) w_lit) rfl
theorem attach_call {l:OpenLaw} {n:Nat} {q:Program} {loose:List Str} {XP:(Str->Option Value)->Heap->Prop} {YP:World->Heap->Prop} {d:DefRec}
  (hn:l.most=some n) (hdf:d.params.defaults=[])
  (call:∀ (w:World) (s₀ s₁ : Shared) (mg mb:Str->Option Value) (fa:Addr) (o:Obj) (pm cd doc:Value) (a:Addr) (vs:List Value) (ns:List Int),
   Ground q loose [] XP w s₀ mg mb s₁.heap->YP w s₁.heap ->
   s₁.heap.get? fa=some o->o.data=.func (docDef d.name d.params d.body d.scope pm cd doc)->s₁.heap.CodeRec cd d.name->mg d.name=some (.ref fa) ->
   s₁.heap.get? a=some { cls:=.type "list",data:=.seq vs.toArray }->IntsAre vs ns->ns.length<=n->s₁.gens=#[] ->
   codeAny (model l.prog w) callerA (.call (.ref fa) ⟨[.ref a],[]⟩) (fun r s'=>r=.ok (.ret (.bool true))/\OldK s₁.heap s'.heap/\s'.os=s₁.os/\AllBare s'.gens) s₁) :
  WalkO q loose XP YP l.row.toRowW d [] (fun f vs=>PySem.call f vs):=by
 intro w s₀ s₁ mg mb G Y fa o pm cd doc z kV F v i m h E t p H g k u j D;obtain rfl:z=.none:=Dflts.none m hdf;obtain rfl:kV=.none:=Dflts.noKw m;obtain ⟨a,vs,ns,rfl,rfl,c,b,e⟩:=JhV hn g j;refine enter_call (codeAny_mono (call w s₀ s₁ mg mb fa o pm cd doc a vs ns G Y F (fd_plain v) i h c b e E) fun r s' A=>?_);obtain ⟨rfl,x,C,B⟩:=A;exact ⟨.inl ⟨.bool true, .bool true,[],rfl,fun _=>rfl, .bool true,JhM l _,fun _=>⟨List.Pairwise.nil,fun _ y=>(nomatch y)⟩⟩,x,C,B⟩
section
variable {prog:Program} {w:World} {A:Around} {E:Value->Shared->Prop} {s:Shared} {K:Frag}
end
end Att
namespace L2
open PySem PySem.Spec PyProof.Rows
theorem Jfb:∀ {vs:List Value} {ns:List Int},IntsAre vs ns->Vals (ns.map V.int) vs
 | _,_, .nil=>.nil
 | _,_, .cons n t h=>.cons ⟨t,rfl⟩ (Jfb h)
def Only (H:Hp):Prop:=∀ b,H b=none\/∃ o xs,H b=some (.frz o (.lst xs))
theorem Jin {P:Program} {w:World} {K:W.Frag} {mg mb:Str->Option Value} {CX:CXT} {k:Nat} {fa a:Addr} {fd:FuncData} {x:Str} {sp:Sp} {s₁ : Shared} {vs:List Value} {ns:List Int}
  (KX:K.In s₁.heap) (hns:s₁.heap.Ns mainGlobals mg) (hb:s₁.heap.Ns builtinsNs mb) (hbb:∀ x:Str,x≠"__name__"->mb x=bootBuiltins x) (hlim:s₁.heap.NoLimit) (hg:s₁.gens=#[])
  (ha:s₁.heap.get? a=some { cls:=.type "list",data:=.seq vs.toArray }) (hi:IntsAre vs ns) (hl:ns.length<=sizeLine) (hr:Room k callerA)
  (F:∀ base:Heap,K.In base->base.Ns mainGlobals mg->FnOk P w K mg base CX k fa fd [x] sp) (hbind:∀ (s:Shared) (u:Value),BindsTo s fd ⟨[u],[]⟩ [(x,u)])
  (hsp:∀ H:Hp,Only H->SqL K H a (ns.map V.int)->sp [.ref a] H (fun v _=>v=.bl true) fun _ _ _=>False)
  (hCX:∀ H e s',CX [] H s₁ (fun _ _ _=>False) e s'->False) :
  codeAny (model P w) callerA (.call (.ref fa) ⟨[.ref a],[]⟩) (fun r s'=>r=.ok (.ret (.bool true))/\OldK s₁.heap s'.heap/\s'.os=s₁.os/\AllBare s'.gens) s₁:=by
 have C:=Jfb hi;have t:=hi.length;have g:∀ H:Hp,Only H->SqL K H a (ns.map V.int)->HOk P w H s₁.heap->(∀ b,H b≠none->b=a)->(H a≠none->K.lookup a=none) ->
   codeAny (model P w) callerA (.call (.ref fa) ⟨[.ref a],[]⟩) (fun r s'=>r=.ok (.ret (.bool true))/\OldK s₁.heap s'.heap/\s'.os=s₁.os/\AllBare s'.gens) s₁:=by
  intro H I M y D R;have c:∀ {b:Addr} {o:Obj},s₁.heap.get? b=some o->H b=none->(hidT s₁.heap H).get? b=some o:=fun e n=>Jii e n;have B:∀ {b:Addr} {o:Obj} {es:Array DictEntry} {ep:Nat},s₁.heap.get? b=some o->o.data=.dict es ep->H b=none:=fun {b o es ep} e d=>by
   cases q:H b with
   | none=>rfl
   | some u=>
    have A:b=a:=D b (by rw [q];simp);subst A;rw [ha] at e;cases e;have N:Data.seq vs.toArray _=Data.dict es ep:=d;cases N
  have f:∀ {b:Addr} {m:Str->Option Value},s₁.heap.Ns b m->(hidT s₁.heap H).Ns b m:=fun {b m} ⟨o,es,ep,e,d,r⟩=>⟨o,es,ep,c e (B e d),d,r⟩;have j:K.In (hidT s₁.heap H):=fun b o e=>c (KX b o e) (by
   cases q:H b with
   | none=>rfl
   | some u=>
    have A:b=a:=D b (by rw [q];simp);subst A;rw [R (by rw [q];simp)] at e;cases e)
  have O:Mod K mg (hidT s₁.heap H):=⟨j,f hns,⟨mb,f hb,hbb⟩,let ⟨mc,h1,h2⟩:=hlim;⟨mc,f h1,h2⟩⟩;have Q:Env0 P w K mg (hidT s₁.heap H) callerA [] s₁ H:=⟨rfl,O,fun b o e=>JjC e,Nat.le_of_eq (Jhg _ _),trivial,fun b hb=>absurd (show b∈([]:List Addr) from hb) (by simp),y, .of_eq hg⟩;refine codeAny_mono ((F _ j (f hns)).run callerA [] s₁ H ⟨[.ref a],[]⟩ [.ref a] [.ref a] _ _ hr Q (hbind s₁ (.ref a)) (.cons rfl .nil) (hsp H I M)) fun r s' h=>?_;cases r with
  | error e=>exact (hCX H e s' h).elim
  | ok fl=>
   cases fl with
   | next=>exact False.elim h
   | brk=>exact False.elim h
   | cont=>exact False.elim h
   | ret u=>
    obtain ⟨v,U,os,i,G,l,T,q⟩:=h;have L:v=.bl true:=q;subst L;obtain rfl:u=Value.bool true:=T;refine ⟨rfl,OldK.of_keep fun b o e=>?_,os,i⟩;cases q:H b with
    | none=>exact G.keep b o e q (by intro z;exact absurd (show b∈([]:List Addr) from z) (by simp)) (by simp)
    | some u=>
     rcases I b with z | ⟨ob,xs,z⟩
     ·rw [q] at z;cases z
     ·have S:=G.frzs b ob _ z;obtain ⟨E,_⟩:=y b _ z;obtain ⟨J,_⟩:=l b _ S;rw [e] at E;cases E;exact J
 cases hk:K.lookup a with
 | some o=>
  have e:=KX a o hk;rw [ha] at e;cases e;refine g (fun _=>none) (fun _=>.inl rfl) (.inr ⟨_,vs.toArray,_,hk,rfl,rfl,rfl,by rw [size_toArray,t];exact hl,by simpa using C⟩) (fun b u z=>by have p:(none:Option HO)=some u:=z;cases p) (fun b z=>absurd rfl z) fun z=>absurd rfl z
 | none=>
  refine g (fun b=>if b=a then some (.frz { cls:=.type "list",data:=.seq vs.toArray } (.lst (ns.map V.int))) else none) (fun b=>?_) (.inl (.inr ⟨{ cls:=.type "list",data:=.seq vs.toArray },if_pos rfl⟩)) (fun b u z=>?_) (fun b z=>?_) fun _=>hk
  ·by_cases hb:b=a
   ·exact .inr ⟨_,_,if_pos hb⟩
   ·exact .inl (if_neg hb)
  ·by_cases hb:b=a
   ·have p:=(if_pos hb).symm.trans z;cases p;subst hb;exact ⟨ha,by rw [length_map];exact hl,vs,_,C,ha⟩
   ·have p:=(if_neg hb).symm.trans z;cases p
  ·by_cases hb:b=a
   ·exact hb
   ·exact absurd (if_neg hb) z
abbrev KOf {K:W.Frag} {h:Heap} (_:K.In h):W.Frag:=K
theorem Jh6 {l:W.OpenLaw} {n k:Nat} {q:Program} {loose:List Str} {XP:(Str->Option Value)->Heap->Prop} {YP:World->Heap->Prop} {d:DefRec} {K:Params->W.Frag} {CX:World->CXT} {sp:World->Sp} {x:Str}
  (hn:l.most=some n) (hn2:n<=sizeLine) (hdf:d.params.defaults=[]) (hr:Room k callerA)
  (hY:∀ (w:World) (h:Heap),YP w h->(K w.params).In h)
  (F:∀ (w:World) (mg:Str->Option Value) (fa:Addr) (h:Heap),(K w.params).In h->h.Ns mainGlobals mg->mg d.name=some (.ref fa) ->
   ∃ fd:FuncData,(∀ (s:Shared) (u:Value),BindsTo s fd ⟨[u],[]⟩ [(x,u)]) /\
    ∀ base:Heap,(K w.params).In base->base.Ns mainGlobals mg->FnOk l.prog w (K w.params) mg base (CX w) k fa fd [x] (sp w))
  (hsp:∀ (w:World) (H:Hp) (a:Addr) (ns:List Int),ns.length<=n->Only H->SqL (K w.params) H a (ns.map V.int)->sp w [.ref a] H (fun v _=>v=.bl true) fun _ _ _=>False)
  (hCX:∀ (w:World) (H:Hp) (s:Shared) (e:Value) (s':Shared),CX w [] H s (fun _ _ _=>False) e s'->False) :
  W.WalkO q loose XP YP l.row.toRowW d [] (fun f vs=>PySem.call f vs):=by
 refine Att.attach_call hn hdf fun w s₀ s₁ mg E fa o I D p a vs ns G Y J C r m j i c B=>?_;have KX:=hY w _ Y;obtain ⟨fd,A,t⟩:=F w mg fa _ KX G.T.g m;exact Jin KX G.T.g G.T.b G.T.builtins G.T.nolimit B j i (Nat.le_trans c hn2) hr t A (fun H z y=>hsp w H a ns c z y) fun H e s'=>hCX w H s₁ e s'
def inClass (s:Stmt) (j:Nat):Stmt:=match s with
 | .ClassDef _ _ _ body _ _ _ _ _ _ _=>body.getD j (.Pass ⟨0,0,0,0⟩)
 | _=>.Pass ⟨0,0,0,0⟩
def Jal (s:Stmt):Arguments:=match s with
 | .FunctionDef _ a _ _ _ _ _ _ _ _=>a
 | _=>{ posonlyargs:=[],args:=[],vararg:=none,kwonlyargs:=[],kw_defaults:=[],kwarg:=none,defaults:=[] }
def Jak (s:Stmt):List Stmt:=match s with
 | .FunctionDef _ _ b _ _ _ _ _ _ _=>b
 | _=>[]
def Jae (s:Stmt):Scope:=match s with
 | .FunctionDef _ _ _ _ _ _ sc _ _ _=>sc
 | _=>{ kind:=.function,names:=[],isGenerator:=false,isCoroutine:=false }
abbrev E0:XK:=fun _ _ _=>False
structure Fun (K:W.Frag) (x qual:Str) (st:Stmt) (f:Addr) (fd:FuncData):Prop where
 ex:∃ (oc:Value) (od:Option Addr) (kV doc pm:Value) (an:Option Addr) (cdv ct:Value) (osl:Array (Option Value)),
  fd=W.fnOf x qual (Jal st) (Jak st) (Jae st) .none kV doc pm an cdv ct/\K.lookup f=some ⟨oc,od, .func fd,osl⟩/\W.codeIn K cdv qual=true
 kp:W.keepIn K (.ref f)=true
section
variable {P:Program} {w:World} {K:W.Frag} {mg:Str->Option Value} {base:Heap}
theorem Fun.binds {x qual:Str} {st:Stmt} {f:Addr} {fd:FuncData} {ps:List Str} (F:Fun K x qual st f fd)
  (h:∀ (kV doc pm:Value) (an:Option Addr) (cdv ct:Value) (us:List Value),us.length=ps.length->bindArgs (W.fnOf x qual (Jal st) (Jak st) (Jae st) .none kV doc pm an cdv ct) ⟨us,[]⟩=pure (ps.zip us)):Binds K fd ps []:=by
 obtain ⟨c,d,kV,doc,pm,an,cdv,ct,b,rfl,lk,a⟩:=F.ex;exact .all (h kV doc pm an cdv ct)
end
section
variable {X:Cx}
theorem pv (i:Nat) {x:Str} {pos:Pos} (hN:X.N[i]?=some x:=by rfl) (hv:Vis X.env.scope x:=by first | exact Or.inl rfl | exact Or.inr (Or.inl rfl) | exact Or.inr (Or.inr rfl)) (hd:(x == ("__debug__" : Str))=false:=by decide)
  (hcd:(x == ("__classdict__" : Str))=false:=by decide):PE X (.Name x pos) (tVar i):=JkI hN hv hd hcd
end
def Same (H H':Hp):Prop:=∀ b o,H b=some o->H' b=some o
theorem Same.refl (H:Hp):Same H H:=fun _ _ h=>h
theorem Same.trans {H H1 H2:Hp} (a:Same H H1) (b:Same H1 H2):Same H H2:=fun c o h=>b c o (a c o h)
theorem Same.seq {K:W.Frag} {H H':Hp} {a:Addr} {xs:List V} (e:Same H H') (h:SqL K H a xs):SqL K H' a xs:=by
 rcases h with (h | ⟨o,h⟩) | h
 ·exact .inl (.inl (e _ _ h))
 ·exact .inl (.inr ⟨o,e _ _ h⟩)
 ·exact .inr h
end L2
set_option maxHeartbeats 4000000
namespace L2
open PySem PySem.Spec PyProof.Rows
section
variable {κ : Type} [DecidableEq κ]
def valV (kvs:List (κ × V)) (k : κ):Option V:=(kvs.find? fun kv=>decide (kv.1=k)).map (·.2)
def putK (kvs:List (κ × V)) (k : κ) (v:V):List (κ × V) :=
 if (kvs.any fun kv=>decide (kv.1=k))=true then kvs.map (fun kv=>if kv.1=k then (kv.1,v) else kv) else kvs++[(k,v)]
theorem JcM {p : κ × V} {r:List (κ × V)} {k : κ} (e:p.1=k):valV (p::r) k=some p.2:=by simp [valV,List.find?_cons,e]
theorem JcL {p : κ × V} {r:List (κ × V)} {k : κ} (e:¬ p.1=k):valV (p::r) k=valV r k:=by simp [valV,List.find?_cons,e]
theorem Jgm (k : κ):∀ kvs:List (κ × V),(kvs.any fun kv=>decide (kv.1=k))=(valV kvs k).isSome
 | []=>rfl
 | p::r=>by
  rw [any_cons];by_cases e:p.1=k
  ·simp only [JcM e,decide_eq_true e,Bool.true_or,Option.isSome_some]
  ·rw [JcL e,decide_eq_false e,Bool.false_or];exact Jgm k r
theorem Jdi (kvs:List (κ × V)) (k : κ) (v:V):(putK kvs k v).length<=kvs.length+1:=by
 unfold putK;split
 ·rw [length_map];ac_nf
 ·rw [length_append,length_cons,length_nil];ac_nf
theorem RelO.isSome_eq {o:Option V} {u:Option Value} (r:RelO o u):o.isSome=u.isSome:=by
 cases o with
 | none=>cases u with
  | none=>rfl
  | some _=>exact (show False from r).elim
 | some _=>cases u with
  | none=>exact (show False from r).elim
  | some _=>rfl
theorem KV.val {kvs:List (κ × V)} {vs:List (κ × Value)} (r:KV kvs vs) (k : κ):RelO (valV kvs k) (valueAt vs k):=by
 unfold KV at r;induction r with
 | nil=>exact True.intro
 | @cons p q ps qs h t ih=>
  obtain ⟨c,d⟩:=h;by_cases e:p.1=k
  ·have a:q.1=k:=c.symm.trans e;have b:valueAt (q::qs) k=some q.2:=by simp [valueAt,List.find?_cons,a]
   rw [JcM e,b];exact d
  ·have a:¬ q.1=k:=fun z=>e (c.trans z);have b:valueAt (q::qs) k=valueAt qs k:=by simp [valueAt,List.find?_cons,a]
   rw [JcL e,b];exact ih
theorem KV.any {kvs:List (κ × V)} {vs:List (κ × Value)} (r:KV kvs vs) (k : κ):(kvs.any fun kv=>decide (kv.1=k))=vs.any fun kv=>decide (kv.1=k):=by
 unfold KV at r;induction r with
 | nil=>rfl
 | cons h t ih=>rw [any_cons,any_cons,ih,h.1]
theorem KV.repl {kvs:List (κ × V)} {vs:List (κ × Value)} (r:KV kvs vs) (k : κ) {y:V} {u:Value} (ry:RelV y u) :
  KV (kvs.map fun kv=>if kv.1=k then (kv.1,y) else kv) (vs.map fun kv=>if kv.1=k then (kv.1,u) else kv):=by
 unfold KV at r ⊢;induction r with
 | nil=>exact .nil
 | @cons p q ps qs h t ih=>
  rw [map_cons,map_cons];refine .cons ?_ ih;obtain ⟨a,b⟩:=h;by_cases e:p.1=k
  ·rw [if_pos e,if_pos (a.symm.trans e)];exact ⟨a,ry⟩
  ·rw [if_neg e,if_neg (fun z=>e (a.trans z))];exact ⟨a,b⟩
theorem KV.put {kvs:List (κ × V)} {vs:List (κ × Value)} (r:KV kvs vs) (k : κ) {y:V} {u:Value} (ry:RelV y u):KV (putK kvs k y) (stored vs k u):=by
 unfold putK stored;rw [r.any k];by_cases e:(vs.any fun a=>decide (a.1=k))=true
 ·rw [if_pos e,if_pos e];exact r.repl k ry
 ·rw [if_neg e,if_neg e];exact Paired.snoc r ⟨rfl,ry⟩
theorem KV.length {kvs:List (κ × V)} {vs:List (κ × Value)} (r:KV kvs vs):kvs.length=vs.length:=Paired.length r
end
theorem kV_is {P:Program} {w:World} {k:Key} {u:Value} (r:RelV (kV k) u):(JaU P w).is k u=true:=by
 cases k with
 | inl i=>have e:=(show u=Value.bool i from r);subst e;exact JeN P w i
 | inr x=>obtain ⟨t,e⟩:=(show ∃ t,u=Value.str x t from r);subst e;exact Jfq P w x t
theorem JeI {P:Program} {w:World}:∀ {ks:List Key} {us:List Value},Vals (ks.map kV) us->ItemsAre (JaU P w) ks us
 | [],_,r=>by rw [map_nil] at r;cases r;exact .nil
 | k::ks,_,r=>by
  rw [map_cons] at r;cases r with
  | cons h t=>exact .cons (kV_is h) (JeI t)
abbrev KT (H:Hp):List (List Key × V)->List (List Key × Addr × Value)->Prop:=Paired fun p q=>p.1=q.1/\H q.2.1=some (.tup (p.1.map kV))/\RelV p.2 q.2.2
theorem KT.val {H:Hp} {kvs:List (List Key × V)} {xs:List (List Key × Addr × Value)} (r:KT H kvs xs) (k:List Key):RelO (valV kvs k) ((atKey xs k).map (·.2)):=by
 induction r with
 | nil=>exact True.intro
 | @cons p q ps qs h t ih=>
  obtain ⟨c,_,d⟩:=h;by_cases e:p.1=k
  ·have a:q.1=k:=c.symm.trans e;have b:atKey (q::qs) k=some q.2:=by simp [atKey,List.find?_cons,a]
   rw [JcM e,b];exact d
  ·have a:¬ q.1=k:=fun z=>e (c.trans z);have b:atKey (q::qs) k=atKey qs k:=by simp [atKey,List.find?_cons,a]
   rw [JcL e,b];exact ih
theorem KT.repl {H:Hp} {kvs:List (List Key × V)} {xs:List (List Key × Addr × Value)} (r:KT H kvs xs) (k:List Key) {y:V} {u:Value} (ry:RelV y u) :
  KT H (kvs.map fun kv=>if kv.1=k then (kv.1,y) else kv) (xs.map (putAt k u)):=by
 induction r with
 | nil=>exact .nil
 | @cons p q ps qs h t ih=>
  rw [map_cons,map_cons];refine .cons ?_ ih;obtain ⟨a,b,c⟩:=h;unfold putAt;by_cases e:p.1=k
  ·rw [if_pos e,if_pos (a.symm.trans e)];exact ⟨a,b,ry⟩
  ·rw [if_neg e,if_neg (fun z=>e (a.trans z))];exact ⟨a,b,c⟩
theorem KT.put {H:Hp} {kvs:List (List Key × V)} {xs:List (List Key × Addr × Value)} (r:KT H kvs xs) (k:List Key) {b:Addr} {y:V} {u:Value} (hb:H b=some (.tup (k.map kV))) (ry:RelV y u) :
  KT H (putK kvs k y) (storedH xs k b u):=by
 have e:(kvs.any fun a=>decide (a.1=k))=(atKey xs k).isSome:=by
  rw [Jgm,(r.val k).isSome_eq,Option.isSome_map]
 unfold putK storedH;rw [e];by_cases q:(atKey xs k).isSome=true
 ·rw [if_pos q,if_pos q];exact r.repl k ry
 ·rw [if_neg q,if_neg q];exact Paired.snoc r ⟨rfl,hb,ry⟩
theorem KT.keeps {H H':Hp} {kvs:List (List Key × V)} {xs:List (List Key × Addr × Value)} (r:KT H kvs xs) (ht:∀ b ys,H b=some (.tup ys)->H' b=some (.tup ys)):KT H' kvs xs :=
 Paired.mapP r fun _ _ z=>⟨z.1,ht _ _ z.2.1,z.2.2⟩
section
variable {P:Program} {w:World} {H:Hp} {h:Heap} {a:Addr}
theorem y7dy {u:HO} (ok:HOk P w H h) (e:Rd H a u):ObjOk P w H h a u:=e.ok ok
theorem dk_rd {kvs:List (Key × V)} (ok:HOk P w H h) (e:Rd H a (.dK kvs)):kvs.length<=sizeLine/\(a == sysModules)=false/\∃ vs,KV kvs vs/\h.DictOf (JaU P w) a vs :=
 show ObjOk P w H h a (.dK kvs) from y7dy ok e
theorem dk_of {kvs:List (Key × V)} (ok:HOk P w H h) (e:H a=some (.dK kvs)):kvs.length<=sizeLine/\(a == sysModules)=false/\∃ vs,KV kvs vs/\h.DictOf (JaU P w) a vs:=dk_rd ok (.inl e)
theorem JeJ {ks:List Key} (ok:HOk P w H h) (e:H a=some (.tup (ks.map kV))):(tupleKind (JaU P w)).is h ks a:=by
 obtain ⟨_,b,r,o,f,d,n,c⟩:=(show ObjOk P w H h a (.tup (ks.map kV)) from ok a _ e);exact ⟨o,b.toArray,n,f,d,c,by simpa using JeI r⟩
theorem dt_rd {kvs:List (List Key × V)} (ok:HOk P w H h) (e:Rd H a (.dT kvs)):kvs.length<=sizeLine/\(a == sysModules)=false /\
  ∃ xs,KT H kvs xs/\h.DictOfH (tupleKind (JaU P w)) a xs:=by
 obtain ⟨z,y,xs,r,o,d,j,k,f,c,g,i⟩:=(show ObjOk P w H h a (.dT kvs) from y7dy ok e);refine ⟨z,y,xs,r,o,d,j,k,f,c,g,fun x b=>?_,i⟩;have all:∀ {l:List (List Key × V)} {m:List (List Key × Addr × Value)},KT H l m->∀ x∈m,(tupleKind (JaU P w)).is h x.1 x.2.1:=by
  intro l m q;induction q with
  | nil=>intro x b;exact nomatch b
  | @cons p q ps qs hq t ih=>
   intro x b;rcases mem_cons.mp b with e | b
   ·subst e;exact JeJ ok (by rw [<- hq.1];exact hq.2.1)
   ·exact ih x b
 exact all r x b
theorem dt_of {kvs:List (List Key × V)} (ok:HOk P w H h) (e:H a=some (.dT kvs)):kvs.length<=sizeLine/\(a == sysModules)=false /\
  ∃ xs,KT H kvs xs/\h.DictOfH (tupleKind (JaU P w)) a xs:=dt_rd ok (.inl e)
end
def DGet (H:Hp) (a:Addr) (y:V) (r:Option V):Prop :=
 (∃ kvs k,Rd H a (.dK kvs)/\y=kV k/\r=valV kvs k)\/∃ kvs k b,Rd H a (.dT kvs)/\y=.ref b/\H b=some (.tup (k.map kV))/\r=valV kvs k
def DPut (H:Hp) (a:Addr) (y v:V) (H':Hp):Prop :=
 (∃ kvs k,H a=some (.dK kvs)/\y=kV k/\kvs.length<sizeLine/\H'=upd H a (.dK (putK kvs k v))) \/
 ∃ kvs k b,H a=some (.dT kvs)/\y=.ref b/\H b=some (.tup (k.map kV))/\kvs.length<sizeLine/\H'=upd H a (.dT (putK kvs k v))
theorem DGet.k {H:Hp} {a:Addr} {kvs:List (Key × V)} {k:Key} (e:H a=some (.dK kvs)):DGet H a (kV k) (valV kvs k):=.inl ⟨kvs,k, .inl e,rfl,rfl⟩
theorem DPut.k {H:Hp} {a:Addr} {kvs:List (Key × V)} {k:Key} {v:V} (e:H a=some (.dK kvs)) (hl:kvs.length<sizeLine):DPut H a (kV k) v (upd H a (.dK (putK kvs k v))):=.inl ⟨kvs,k,e,rfl,hl,rfl⟩
section
variable {X:Cx} {pins:List (Addr × Obj)} {σ : St} {H:Hp} {s:Shared} {a:Addr} {y v:V} {u r:Value} {o:Option V} {A:Around} {E:Value->Shared->Prop}
theorem Inv.big (I:Inv X pins σ H s):sysModules<s.heap.objs.size:=by
 have h:mainGlobals<s.heap.objs.size:=(I.mod.glob.keeps I.bk).lt;exact Nat.lt_trans ⋯ h
theorem Jg0 {Q:Value->Shared->Prop} (hu:A.units+1<cLine) (I:Inv X pins σ H s) (g:DGet H a y (some v)) (ry:RelV y u) (h:∀ w' s',Inv X pins σ H s'->RelV v w'->Q w' s') :
  wpAny (model X.prog X.w) A (getItem (.ref a) u) Q E s:=by
 rcases g with ⟨kvs,k,e,ey,l⟩ | ⟨kvs,k,b,e,ey,eb,l⟩
 ·subst ey;obtain ⟨z,q,r,c,j⟩:=dk_rd I.hok e;obtain ⟨w',f,d⟩:=RelO.some_of (v:=v) (o:=valueAt r k) (by rw [l];exact c.val k);exact wpAny_getItem_of (kV_is ry) j.mapOf f (h w' _ (I.tok _) d)
 ·subst ey;cases (show u=Value.ref b from ry);obtain ⟨z,q,m,c,j⟩:=dt_rd I.hok e;obtain ⟨w',f,d⟩:=RelO.some_of (v:=v) (o:=(atKey m k).map (·.2)) (by rw [l];exact c.val k);obtain ⟨p,n,i⟩:=Option.map_eq_some_iff.mp f;refine wpAny_getItem_heap (tupleKind_room_in1 hu) (JeJ I.hok eb) j n ?_;rw [i];exact h w' _ (I.tok _) d
theorem d_in {Q:Value->Shared->Prop} (hu:A.units+1<cLine) (I:Inv X pins σ H s) (g:DGet H a y o) (ry:RelV y u) (h:∀ s',Inv X pins σ H s'->Q (.bool o.isSome) s') :
  wpAny (model X.prog X.w) A (compareOp .In u (.ref a)) Q E s:=by
 rcases g with ⟨kvs,k,e,ey,l⟩ | ⟨kvs,k,b,e,ey,eb,l⟩
 ·subst ey;obtain ⟨z,d,j,c,f⟩:=dk_rd I.hok e;refine wpAny_in_of (kV_is ry) d f.mapOf ?_;rw [<- (c.val k).isSome_eq, <- l];exact h _ (I.tok _)
 ·subst ey;cases (show u=Value.ref b from ry);obtain ⟨z,d,i,c,f⟩:=dt_rd I.hok e;refine wpAny_in_heap (tupleKind_room_in1 hu) (JeJ I.hok eb) d f ?_;have q:=(c.val k).isSome_eq;rw [Option.isSome_map] at q;rw [<- q, <- l];exact h _ (I.tok _)
theorem Jjo {Q:Value->Shared->Prop} (hu:A.units+1<cLine) (I:Inv X pins σ H s) (g:DGet H a y o) (ry:RelV y u) (h:∀ s',Inv X pins σ H s'->Q (.bool (!o.isSome)) s') :
  wpAny (model X.prog X.w) A (compareOp .NotIn u (.ref a)) Q E s:=by
 rcases g with ⟨kvs,k,e,ey,l⟩ | ⟨kvs,k,b,e,ey,eb,l⟩
 ·subst ey;obtain ⟨z,d,j,c,f⟩:=dk_rd I.hok e;refine wpAny_notIn_of (kV_is ry) d f.mapOf ?_;rw [<- (c.val k).isSome_eq, <- l];exact h _ (I.tok _)
 ·subst ey;cases (show u=Value.ref b from ry);obtain ⟨z,d,i,c,f⟩:=dt_rd I.hok e;refine wpAny_notIn_heap (tupleKind_room_in1 hu) (JeJ I.hok eb) d f ?_;have q:=(c.val k).isSome_eq;rw [Option.isSome_map] at q;rw [<- q, <- l];exact h _ (I.tok _)
theorem Jg2 {h':Heap} {t':Nat} {ob:HO} (I:Inv X pins σ H s) (mu:Mut (H a)) (hs:Heap.SameBut a s.heap h') (he:∃ q,h'.get? a=some q) (new:ObjOk X.prog X.w (upd H a ob) h' a ob) :
  Inv X pins σ (upd H a ob) { s with heap:=h',toks:=t' } :=
 I.write (x:=a) (e:=a) mu (.inl rfl) (fun b q c z=>(hs.2 b c).trans z) he new
theorem Jki {P:Program} {w:World} {H':Hp} {h':Heap} {kvs:List (Key × V)} {vs:List (Key × Value)} (z:kvs.length<=sizeLine) (hd:(a == sysModules)=false) (rel:KV kvs vs) (dd:h'.DictOf (JaU P w) a vs) :
  ObjOk P w H' h' a (.dK kvs):=⟨z,hd,vs,rel,dd⟩
theorem Jg1 {H':Hp} {Q:Unit->Shared->Prop} (hu:A.units+1<cLine) (I:Inv X pins σ H s) (g:DPut H a y v H') (ry:RelV y u) (rv:RelV v r) (h:∀ s',Inv X pins σ H' s'->Q () s') :
  wpAny (model X.prog X.w) A (setItem (.ref a) u r) Q E s:=by
 rcases g with ⟨kvs,k,e,ey,l,eH⟩ | ⟨kvs,k,b,e,ey,eb,l,eH⟩
 ·subst ey eH;obtain ⟨z,j,M,d,n⟩:=dk_of I.hok e;have m:M.length<=sizeLine:=by rw [<- d.length];exact z
  have p:(putK kvs k v).length<=sizeLine:=by have:=Jdi kvs k v;ac_nf
  refine wpAny_setItem_pairs (hsz:=m) (kV_is ry) n fun t f o=>h _ ?_;have D:∃ q,t.get? a=some q:=let ⟨q,_,_,i,_⟩:=f;⟨q,i⟩;exact Jg2 I (by rw [e];exact True.intro) o D (Jki p j (d.put k rv) f)
 ·subst ey eH;cases (show u=Value.ref b from ry);obtain ⟨z,j,C,d,n⟩:=dt_of I.hok e;have m:C.length<=sizeLine:=by rw [<- Paired.length d];exact z
  have p:(putK kvs k v).length<=sizeLine:=by have:=Jdi kvs k v;ac_nf
  refine wpAny_setItem_heap (hsz:=m) (tupleKind_room_in1 hu) (JeJ I.hok eb) n fun t f o=>h _ ?_;obtain ⟨q,F,G,i,B,K,J,_,L⟩:=f;refine Jg2 I (by rw [e];exact True.intro) o ⟨q,i⟩ ⟨p,j,_,(d.put k eb rv).keeps fun c N x=>?_,q,F,G,i,B,K,J,L⟩;rw [Jaf (ne_of x e (fun z=>nomatch z))];exact x
end
section
variable {X:Cx} {pins:List (Addr × Obj)} {σ : St} {H:Hp} {s:Shared} {a:Addr} {kvs:List (Key × V)} {k:Key} {u:Value} {A:Around} {E:Value->Shared->Prop}
end
def NoSl (i:Expr):Prop:=∀ ov iv,subscripted i false ov iv=operate [ov,iv] (getItem ov iv)
theorem Jj3 {prog:Program} {w:World} {A:Around} {E:Value->Shared->Prop} {s:Shared} {env:Env} {value slice:Expr} {pos:Pos} {T id:String} {Q:Value->Shared->Prop}
  (hl:typeLookup (.type T) "__getitem__"=pure (some (.builtin id))) (hs:NoSl slice)
  (h:wpAny (model prog w) A (eval value env) (fun o s₁=>wpAny (model prog w) A (eval slice env) (fun i s₂=>s₂.TypeIs o T/\wpAny (model prog w) A (getItem o i) Q E s₂) E s₁) E s) :
  wpAny (model prog w) A (eval (.Subscript value slice pos) env) Q E s:=by
 refine Subscript_ (wpAny_mono h (fun o s₁ h₁=>wpAny_mono h₁ (fun i s₂ h₂=>?_) fun _ _ x=>x) fun _ _ x=>x);obtain ⟨b,h₂⟩:=h₂;unfold subscriptTail;refine wpAny_bind ?_;rw [getitemInPython_of_ne b.not_modules];refine wpAny_bind (wpAny_specialOf b hl ?_);have a:wpAny (model prog w) A (subscripted slice false o i) (fun r s₃=>wpAny (model prog w) A (letTemporaryGo value o r >>= fun _=>pure r) Q E s₃) E s₂:=by
  rw [hs o i];exact wpAny_operating (wpAny_mono h₂ (fun r s₃ h₃=>wpAny_bind (wpAny_letTemporaryGo (wpAny_pure h₃))) fun _ _ x=>x)
 first
  | exact wpAny_pure (wpAny_bind a)
  | exact wpAny_bind (wpAny_pure (wpAny_bind a))
  | exact wpAny_bind a
theorem Jfj {X:Cx} {pins:List (Addr × Obj)} {σ : St} {H:Hp} {s:Shared} {a:Addr} {y:V} {o:Option V} (I:Inv X pins σ H s) (g:DGet H a y o):s.TypeIs (.ref a) "dict":=by
 rcases g with ⟨kvs,k,e,_,_⟩ | ⟨kvs,k,b,e,_,_,_⟩
 ·obtain ⟨_,_,d,_,c⟩:=dk_rd I.hok e;exact c.typeIs
 ·obtain ⟨_,_,f,_,c⟩:=dt_rd I.hok e;exact c.typeIs
def tDGet (td ty:TE):TE:=fun σ H Q=>td σ H fun x H1=>ty σ H1 fun y H2=>∃ a v,x=.ref a/\DGet H2 a y (some v)/\Q v H2
def tDIn (ty td:TE):TE:=fun σ H Q=>ty σ H fun y H1=>td σ H1 fun x H2=>∃ a o,x=.ref a/\DGet H2 a y o/\Q (.bl o.isSome) H2
def JhZ (ty td:TE):TE:=fun σ H Q=>ty σ H fun y H1=>td σ H1 fun x H2=>∃ a o,x=.ref a/\DGet H2 a y o/\Q (.bl (!o.isSome)) H2
def sDPut (td ty tv:TE):TS:=fun D σ H=>tv σ H fun v H1=>td σ H1 fun x H2=>ty σ H2 fun y H3=>∃ a H4,x=.ref a/\DPut H3 a y v H4/\D.nx σ H4
section
variable {X:Cx} {o i e value:Expr} {pos pos' tpos:Pos} {td ty tv:TE}
theorem Jbd (hu:X.A.units+1<cLine) (ho:PE X o td) (hi:PE X i ty) (hs:NoSl i):PE X (.Subscript o i pos) (tDGet td ty):=by
 intro b s σ H Q I h;refine Jj3 PySem.F.slot_dict_getitem.lookup hs (thn (ho b s σ H _ I h) fun u m ⟨x,l,I1,d,e⟩=>thn (hi b m σ l _ I1 e) fun p q ζ=>?_);obtain ⟨y,n,I2,f,a,v,k,g,j⟩:=ζ;subst k;obtain rfl:u=Value.ref a:=d;exact ⟨Jfj I2 g,Jg0 hu I2 g f fun t r I3 c=>⟨v,n,I3,c,j⟩⟩
theorem Ji7 (hu:X.A.units+1<cLine) (hi:PE X i ty) (ho:PE X o td):PC X .In i o (tDIn ty td):=by
 intro b s σ H Q I h;refine thn (hi b s σ H _ I h) fun p m ⟨y,k,I1,d,e⟩=>thn (ho b m σ k _ I1 e) fun u q ζ=>?_;obtain ⟨x,n,I2,c,a,l,j,g,f⟩:=ζ;subst j;obtain rfl:u=Value.ref a:=c;exact d_in hu I2 g d fun r I3=>⟨.bl l.isSome,n,I3,rfl,f⟩
theorem JcF (hu:X.A.units+1<cLine) (hi:PE X i ty) (ho:PE X o td):PC X .NotIn i o (JhZ ty td):=by
 intro b s σ H Q I h;refine thn (hi b s σ H _ I h) fun p m ⟨y,k,I1,d,e⟩=>thn (ho b m σ k _ I1 e) fun u q ζ=>?_;obtain ⟨x,n,I2,c,a,l,j,g,f⟩:=ζ;subst j;obtain rfl:u=Value.ref a:=c;exact Jjo hu I2 g d fun r I3=>⟨.bl (!l.isSome),n,I3,rfl,f⟩
theorem Jbt (hu:X.A.units+1<cLine) (ho:PE X o td) (hi:PE X i ty) (hv:PE X value tv) (hs:swapsWith value (some (.Subscript o i pos')) pos.line X.env=pure false) :
  PS X (.Assign [.Subscript o i pos'] value pos) (sDPut td ty tv):=by
 intro b s σ H D I h;refine wpAny_Assign_Subscript (thn (hv b s σ H _ I h) fun r p ⟨v,n,I1,k,e⟩=>thn (ho b p σ n _ I1 e) fun u m ⟨x,t,I2,d,j⟩=>thn (hi b m σ t _ I2 j) fun w z ζ=>?_) hs;obtain ⟨y,B,I3,f,a,c,l,g,q⟩:=ζ;subst l;obtain rfl:u=Value.ref a:=d;exact Jg1 hu I3 g f k fun C I4=>⟨σ,c,I4,q⟩
end
theorem Jib {P:Program} {w:World} {H:Hp} (h:Heap) (hb:sysModules<h.objs.size):ObjOk P w H (h.push { cls:=.type "dict",data:=.dict #[] }) h.objs.size (.dK []) :=
 ⟨Nat.zero_le _,beq_eq_false_iff_ne.mpr (Ne.symm (Nat.ne_of_lt hb)),[], .nil,Heap.DictOf.new h⟩
def Jja:TE:=fun _ H Q=>∀ p,H p=none->Q (.ref p) (upd H p (.dK []))
section
variable {X:Cx} {pos:Pos}
theorem Jbx:PE X (.Dict [] [] pos) Jja:=fun b s σ H Q I h=>
 wpAny_Dict_empty ⟨.ref s.heap.objs.size,_,I.laid (a:=s.heap.objs.size) (o:=.dK []) (t':=s.toks) (fun _ _ q=>Heap.get?_push_of_some _ q) (Nat.le_refl _) (Jib s.heap I.big),rfl,h _ (I.hok.fresh (Nat.le_refl _))⟩
end
def Jgk:List (TE × TE)->St->Hp->(List (V × V)->Hp->Prop)->Prop
 | [],_,H,Q=>Q [] H
 | (tk,tv)::r,σ,H,Q=>tk σ H fun x H1=>tv σ H1 fun y H2=>Jgk r σ H2 fun ps H3=>Q ((x,y)::ps) H3
def Ji5 (kvs more:List (Key × V)):List (Key × V):=more.foldl (fun acc kv=>putK acc kv.1 kv.2) kvs
def tDisp (trs:List (TE × TE)):TE:=fun σ H Q=>∀ p,H p=none->Jgk trs σ (upd H p (.dK [])) fun ps H2=>H2 p=some (.dK [])/\∃ kvs:List (Key × V),ps=kvs.map (fun kv=>(kV kv.1,kv.2))/\kvs.length<=15/\Q (.ref p) (upd H2 p (.dK (Ji5 [] kvs)))
def IsD (H:Hp) (a:Addr):Prop:=(∃ kvs,Rd H a (.dK kvs))\/∃ kvs,Rd H a (.dT kvs)
theorem Jkl {X:Cx} {pins:List (Addr × Obj)} {σ : St} {H:Hp} {s:Shared} {a:Addr} (I:Inv X pins σ H s) (d:IsD H a) :
  s.TypeIs (.ref a) "dict"/\(∀ b,Value.ref a=.ref b->∃ ob,s.heap.get? b=some ob/\ob.dict=none)/\(a == sysModules)=false:=by
 rcases d with ⟨kvs,e⟩ | ⟨kvs,e⟩
 ·obtain ⟨_,f,j,_,c⟩:=dk_rd I.hok e;refine ⟨c.typeIs,fun b q=>?_,f⟩;cases q;obtain ⟨ob,_,_,h,g,_⟩:=c;exact ⟨ob,h,g.2.1⟩
 ·obtain ⟨_,f,i,_,c⟩:=dt_rd I.hok e;refine ⟨c.typeIs,fun b q=>?_,f⟩;cases q;obtain ⟨ob,_,_,h,g,_⟩:=c;exact ⟨ob,h,g.2.1⟩
section
variable {X:Cx} {pins:List (Addr × Obj)} {σ : St} {H:Hp} {s:Shared} {a:Addr} {y d:V} {u r:Value} {o:Option V} {A:Around} {E:Value->Shared->Prop}
end
section
variable {X:Cx} {o e f:Expr} {apos cpos:Pos} {td ty tx:TE}
end
section
variable {X:Cx} {pins:List (Addr × Obj)} {σ : St} {H:Hp} {s:Shared} {a:Addr} {kvs:List (Key × V)} {A:Around} {E:Value->Shared->Prop}
end
section
variable {X:Cx} {pins:List (Addr × Obj)} {σ : St} {H:Hp} {s:Shared} {a:Addr} {y:V} {u:Value} {A:Around} {E:Value->Shared->Prop}
end
section
variable {κ : Type} [DecidableEq κ]
end
def DictAt (h:Heap) (e:Addr) (od:Option Addr):Prop:=∃ o,h.get? e=some o/\o.dict=od
theorem Jg7 (o:Obj) (f):(o.mapFields f).dict=o.dict:=by
 obtain ⟨c,d,a,b⟩:=o;cases a <;> rfl
section
variable {M:Model} {A:Around} {E:Value->Shared->Prop} {s:Shared} {base:Heap} {env:Env} {outer l:List Env} {L e:Addr} {oe:Obj} {vs:Array Value} {head a0 cls fl:Value} {od:Option Addr} {Q:Unit->Shared->Prop}
theorem JiX {hadNext:Bool} (hfr:A.frames=some (env::outer)) (hl:s.heap.FunFrames base (env::outer)) (hf:env.frame=some L)
  (he:s.heap.get? e=some oe) (hkb:base.StaysIn s.heap) (hen:base.get? e=none) (hd:oe.data=.fields vs) (hsz:1<vs.size) (h0:vs[0]?=some a0)
  (h:∀ h',Heap.NotedW base (env::outer) e oe.cls a0 (rawInt L) s.heap h'->DictAt h' e oe.dict->Q () { s with heap:=h' }) :
  wpAny M A (do let a <- frameOf env;let pl <- entryPlaceOf L hadNext;let b <- EntryCells.newEntry head a .none (rawInt L) .none pl;setField (.ref e) 1 b) Q E s:=by
 have C:e∉(env::outer).filterMap (·.frame):=fun t=>by
  obtain ⟨_,o,B,f⟩:=hl.mem t;rw [he] at B;cases B;exact f vs hd
 refine wpAny_bind (wpAny_frameOf_fun hfr hl hf fun h₁ r=>wpAny_bind (wpAny_entryPlaceOf fun pl k=>?_));unfold EntryCells.newEntry newFields;refine wpAny_bind (wpAny_newObj_type ?_ (k.sizeOk5 _ _ _ _ _));have i:h₁.get? e=some oe:=(r.2.1 e C).trans he;have g:base.StaysIn h₁:=fun b o c=>(r.2.1 b fun t=>by rw [(hl.mem t).1] at c;cases c).trans (hkb b o c);generalize w:({ cls:=.type "traceback",dict:=none,data:=.fields ([head, .ref L, .none,rawInt L, .none]++(if pl.isEmpty then List.replicate 6 Value.none else pl)).toArray }:Obj)=p;have j:=Heap.get?_push_of_some (h:=h₁) p i;refine wpAny_setField j hd hsz ?_;have x:h₁.objs.size≠e:=Nat.ne_of_gt (Heap.lt_size i);have m:=Obj.data_mapFields hd (·.setIfInBounds 1 (Value.ref h₁.objs.size));have l:=Heap.get?_update_self (Obj.mapFields (·.setIfInBounds 1 (Value.ref h₁.objs.size))) j (Obj.isFreed_of_fields m);have u:=(Heap.get?_update_other (h₁.push p) (Obj.mapFields (·.setIfInBounds 1 (Value.ref h₁.objs.size))) (Ne.symm x)).trans (Heap.get?_push_size h₁ (by rw [<- w];rfl));have d:∀ b o,b≠e->h₁.get? b=some o->((h₁.push p).update e (Obj.mapFields (·.setIfInBounds 1 (Value.ref h₁.objs.size)))).get? b=some o:=fun b o n c=>by
  rw [Heap.get?_update_other _ _ (Ne.symm n)];exact Heap.get?_push_of_some _ c
 have y:∀ b o,s.heap.get? b=some o->(∀ vs,o.data≠.fields vs)->b≠e:=fun b o c f q=>by
  rw [q,he] at c;cases c;exact f vs hd
 refine h _ ⟨fun b o c=>d b o (fun q=>by rw [q,hen] at c;cases c) (g b o c),hl.of_keeps fun b o c f=>?_,?_,fun b o c f=>?_⟩ ⟨_,l,Jg7 _ _⟩
 ·obtain ⟨v,z⟩:=r.2.2 b o c;exact ⟨_,d b _ (y b o c f) z,rfl⟩
 ·refine ⟨_,_,h₁.objs.size,p,_,l,⟨Obj.cls_mapFields _ _,by rw [Array.getElem?_setIfInBounds_ne ⋯];exact h0⟩,m,by simp [hsz],g.fresh,x,u,by rw [<- w],?_⟩;first | (simp;done) | (rcases k with rfl | ⟨_,_,_,_,_,_,_,rfl⟩ <;> simp)
 ·obtain ⟨v,z⟩:=r.2.2 b o c;exact ⟨v,d b _ (y b o c f) z⟩
theorem noteD (hfr:A.frames=some (env::outer)) (hf:env.frame=some L) (hfl:Heap.FlyingW base (env::outer) e cls a0 s.heap) (hdc:DictAt s.heap e od)
  (h:∀ h',Heap.HeldW base (env::outer) e cls a0 L h'->s.heap.UpToSlots h'->DictAt h' e od->Q () { s with heap:=h' }):wpAny M A (noteFrame (.ref e) env) Q E s:=by
 obtain ⟨l,j,y,K,w,T,J,z,n,⟨i,G⟩,t,x,m,r,p,d,v⟩:=hfl;subst i;obtain ⟨B,g,k⟩:=hdc;rw [n] at g;cases g;unfold noteFrame;simp only [hf];refine wpAny_bind (wpAny_field n t x ?_);rw [if_pos (show (Value.ref T != Value.none)=true from by simp)];refine wpAny_bind (wpAny_field p d v ?_);rw [if_neg (show ¬ ((Value.none == rawInt L)=true) from by simp [rawInt])];refine wpAny_bind (wpAny_setField p d (Array.getElem?_eq_some_iff.mp v).1 ?_);have a:∀ b,b≠T->(s.heap.update T (Obj.mapFields (·.setIfInBounds 3 Value.none))).get? b=s.heap.get? b:=fun b c=>Heap.get?_update_other _ _ (Ne.symm c);have u:∀ b o,s.heap.get? b=some o->(∀ w,o.data≠.fields w)->b≠T:=fun b o c f q=>by
  rw [q,p] at c;cases c;exact f z d
 refine JiX hfr (y.of_keeps fun b o c f=>⟨o,(a b (u b o c f)).trans c,rfl⟩) hf ((a e (Ne.symm r)).trans n)
  (fun b o c=>(a b fun q=>by rw [q,m] at c;cases c).trans (l b o c)) j t (Array.getElem?_eq_some_iff.mp x).1 G fun h' ⟨D,I,C,H⟩ F=>?_
 exact h h' ⟨D,j,I,C⟩ (fun b o c f=>H b o ((a b (u b o c f)).trans c) f) (k ▸ F)
theorem Jd2 (hkb:base.StaysIn s.heap) (hl:s.heap.FunFrames base l) (ht:s.heap.TracedAtW base e cls a0 fl) (hdc:DictAt s.heap e od)
  (h:∀ h',base.StaysIn h'->h'.FunFrames base l->h'.TracedW base e cls a0->s.heap.UpToSlots h'->DictAt h' e od->Q () { s with heap:=h' }):wpAny M A (setFlight (.ref e) none) Q E s:=by
 obtain ⟨w,r,T,B,x,u,j,t,n,k,g,p,d,z⟩:=ht;have i:=(Array.getElem?_eq_some_iff.mp z).1;have a:∀ b,b≠T->(s.heap.update T (Obj.mapFields (·.setIfInBounds 3 ((none:Option Addr).elim Value.none fun f=>rawInt f)))).get? b=s.heap.get? b:=fun b c=>Heap.get?_update_other _ _ (Ne.symm c);have v:∀ b o,s.heap.get? b=some o->(∀ r,o.data≠.fields r)->b≠T:=fun b o c m q=>by
  rw [q,p] at c;cases c;exact m x d
 unfold setFlight;refine wpAny_bind (wpAny_field u t n ?_);rw [if_pos (show (Value.ref T != Value.none)=true from by simp)];refine wpAny_setField p d i (h _ (fun b o c=>(a b fun q=>by rw [q,k] at c;cases c).trans (hkb b o c)) (hl.of_keeps fun b o c m=>⟨o,(a b (v b o c m)).trans c,rfl⟩) ?_ (fun b o c m=>⟨o.slots,(a b (v b o c m)).trans c⟩) ?_)
 ·exact ⟨w,r,T,_,_,(a e (Ne.symm g)).trans u,j,t,n,k,g,Heap.get?_update_self _ p (Obj.isFreed_of_fields (Obj.data_mapFields d _)),Obj.data_mapFields d _,by simp [i]⟩
 ·obtain ⟨o,n,y⟩:=hdc;exact ⟨o,(a e (Ne.symm g)).trans n,y⟩
theorem Jjz (hfr:A.frames=some (env::outer)) (hf:env.frame=some L) (hfl:Heap.FlyingW base (env::outer) e cls a0 s.heap) (hdc:DictAt s.heap e od)
  (hQ:∀ h',Heap.FlyingW base outer e cls a0 h'->s.heap.UpToSlots h'->DictAt h' e od->Q () { s with heap:=h' }):wpAny M A (leaving env (.ref e)) Q E s:=by
 unfold leaving;refine wpAny_bind (noteD hfr hf hfl hdc fun n d m a=>?_);obtain ⟨f,g,j,i⟩:=d;refine Jd2 (s:={ s with heap:=n }) f j i a fun k o ⟨_,_,h⟩ b c l=>hQ k ⟨o,g,h,b⟩ (m.trans c) l
theorem Jkt (hh:Heap.HeldW base l e cls a0 L s.heap) (hdc:DictAt s.heap e od) (hQ:∀ h',Heap.FlyingW base l e cls a0 h'->s.heap.UpToSlots h'->DictAt h' e od->Q () { s with heap:=h' }):wpAny M A (setFlight (.ref e) none) Q E s:=by
 obtain ⟨c,d,h,g⟩:=hh;exact Jd2 c h g hdc fun i k f a b j=>hQ i ⟨k,d,f,a⟩ b j
theorem Jkb (hh:Heap.FlyingW base l e cls a0 s.heap) (hdc:DictAt s.heap e od) (hQ:∀ h',Heap.FlyingW base l e cls a0 h'->s.heap.UpToSlots h'->DictAt h' e od->Q () { s with heap:=h' }):wpAny M A (setFlight (.ref e) none) Q E s:=by
 obtain ⟨c,d,h,g⟩:=hh;exact Jd2 c h g.at hdc fun i k f a b j=>hQ i ⟨k,d,f,a⟩ b j
theorem Ji0 (hfr:A.frames=some (env::outer)) (hl:s.heap.FunFrames base (env::outer)) (hf:env.frame=some L) (he:s.heap.get? e=some oe) (hkb:base.StaysIn s.heap) (hen:base.get? e=none) (hd:oe.data=.fields vs) (h1:vs[1]?=some .none) (h0:vs[0]?=some a0)
  (hQ:∀ h',Heap.FlyingW base outer e oe.cls a0 h'->s.heap.UpToSlots h'->DictAt h' e oe.dict->Q () { s with heap:=h' }):wpAny M A (leaving env (.ref e)) Q E s:=by
 unfold leaving noteFrame;simp only [hf];refine wpAny_bind (wpAny_bind (wpAny_field he hd h1 ?_));rw [if_neg ⋯];refine JiX hfr hl hf he hkb hen hd (Array.getElem?_eq_some_iff.mp h1).1 h0 fun g ⟨l,k,c,h⟩ j=>?_;refine Jd2 (s:={ s with heap:=g }) l k c j fun d m ⟨_,_,f⟩ a b i=>hQ d ⟨m,hen,f,a⟩ (Heap.UpToSlots.trans h b) i
end
theorem ObjOk.is_there {P:Program} {w:World} {H:Hp} {h:Heap} {a:Addr} {o:HO} (x:ObjOk P w H h a o):∃ ob,h.get? a=some ob:=by
 cases o with
 | lst xs=>obtain ⟨_,_,_,_,e⟩:=x;exact ⟨_,e⟩
 | tup xs=>obtain ⟨_,_,_,p⟩:=x;obtain ⟨o,e,_⟩:=p;exact ⟨_,e⟩
 | dK kvs=>obtain ⟨_,_,_,_,o,_,_,e,_⟩:=x;exact ⟨_,e⟩
 | dT kvs=>obtain ⟨_,_,_,_,o,_,_,e,_⟩:=x;exact ⟨_,e⟩
 | set S n=>
  obtain ⟨o,_,_,_,e,_⟩:=x;exact ⟨_,e⟩
 | ins C dx fs=>obtain ⟨_,_,_,e,_⟩:=x;exact ⟨_,e⟩
 | own y=>exact x
 | xd fs=>obtain ⟨c,n,_⟩:=x;obtain ⟨b,e,_⟩:=Jdj n;exact ⟨_,e⟩
 | rng lo hi=>obtain ⟨_,_,_,e⟩:=x;exact ⟨_,e⟩
 | frz ob u=>exact ⟨_,x.1⟩
 | tbl ps=>exact ⟨_,x⟩
 | met f y=>exact ⟨_,x⟩
 | ext φ=>exact x.2.1
theorem HOk.isnone {P:Program} {w:World} {H:Hp} {h:Heap} {a:Addr} (x:HOk P w H h) (e:h.get? a=none):H a=none:=by
 cases q:H a with
 | none=>rfl
 | some u=>
  obtain ⟨b,z⟩:=(x a u q).is_there;rw [e] at z;cases z
structure Fly (l:List Env) (H':Hp) (h0:Heap) (ea:Addr) (od:Option Addr) (cls a0:Value) (B h:Heap):Prop where
 fly:Heap.FlyingW B l ea cls a0 h
 free:H' ea=none
 new:h0.get? ea=none
 dct:DictAt h ea od
 kept:∀ b o,h.get? b=some o->((∃ o',h0.get? b=some o')\/∃ u,H' b=some u)->b∉frs l->B.get? b=some o
def CX1 (P:Program) (w:World):CXT:=fun outer H s E e s'=>
 ∃ (ea:Addr) (od:Option Addr) (cls a0:Value) (B:Heap) (H':Hp),e=.ref ea/\s'.os=s.os/\AllBare s'.gens/\Un (frs outer) [] H H' s.heap s'.heap/\HOk P w H' s'.heap /\
  Fly outer H' s.heap ea od cls a0 B s'.heap/\E cls od H'
section
variable {P:Program} {w:World} {l l':List Env} {H H':Hp} {h0 h h' B:Heap} {ea:Addr} {od:Option Addr} {cls a0:Value}
theorem Fly.next (u:Un (frs l) [] H H' h0 h) (hok:HOk P w H' h) (F:Fly l H' h0 ea od cls a0 B h) (fr:∀ b∈frs l,H' b=none) (k:B.StaysIn h') (sl:h.UpToSlots h') :
  HOk P w H' h'/\Un (frs l) [] H H' h0 h'/\∀ b o,h.get? b=some o->((∃ o',h0.get? b=some o')\/∃ u,H' b=some u)->b∉frs l->h'.get? b=some o:=by
 have c:∀ b o,h.get? b=some o->((∃ o',h0.get? b=some o')\/∃ u,H' b=some u)->b∉frs l->h'.get? b=some o:=fun b o q r n=>k b o (F.kept b o q r n);have d:∀ b o,b∈frs l->h.get? b=some o->∃ f,h'.get? b=some { o with slots:=f }:=fun b o m q=>by
  obtain ⟨_,o',p,x⟩:=F.fly.2.2.1.mem m;rw [q] at p;cases p;exact sl b o q x
 refine ⟨fun a o e=>?_,⟨fun b o q n t _=>?_,fun b o q n m _=>?_,u.free,fun b o q y=>?_,u.tups,u.frzs,u.tbls⟩,c⟩
 ·have s:∀ b u,H' b=some u->b∉frs l:=fun b u q m=>by
   rw [fr b m] at q;cases q
  refine (hok a o e).stay (fun b v i q=>?_) (fun _ r=>r) (fun _ _ r=>r);rcases i with rfl | i
  ·exact c _ _ q (.inr ⟨_,e⟩) (s _ _ e)
  ·exact c _ _ q (.inr ⟨_,i⟩) (s _ _ i)
 ·exact c b o (u.keep b o q n t (by simp)) (.inl ⟨o,q⟩) t
 ·obtain ⟨z,g⟩:=u.slot b o q n m (by simp);obtain ⟨f,j⟩:=d b _ m g;exact ⟨f,j⟩
 ·obtain ⟨o',g⟩:=u.there b o q (by simp);by_cases m:b∈frs l
  ·obtain ⟨f,j⟩:=d b _ m g;exact ⟨_,j⟩
  ·exact ⟨o',c b o' g (.inl ⟨o,q⟩) m⟩
end
section
variable {X:Cx} {pins:List (Addr × Obj)} {σ : St} {H H':Hp} {s:Shared} {h h' B:Heap} {ea:Addr} {od:Option Addr} {cls a0:Value}
theorem Inv.out (I:Inv X pins σ H s) (hex:X.ex=[]) (u:Un (frs X.stack) [] H H' s.heap h'):Un X.fs [] X.H₀ H' X.s₀.heap h':=by
 have J:=I.base;rw [hex] at J;have i:∀ b o,X.s₀.heap.get? b=some o->b≠X.env.locals:=fun b o q z=>by
  have g:=Heap.lt_size q;have h:=I.ok.above;rw [z] at g;exact absurd (Nat.lt_of_lt_of_le g h) (Nat.lt_irrefl _)
 have j:∀ b o,X.s₀.heap.get? b=some o->b∉X.fs->b∉frs X.stack:=fun b o q c m=>by
  rcases mem_cons.mp (I.stkSub b m) with z | z
  ·exact i b o q z
  ·exact c z
 refine ⟨fun b o q n c _=>?_,fun b o q n m _=>?_,fun b o q n _=>?_,fun b o q _=>?_,fun b f q=>u.tups b f (J.tups b f q),fun b o v q=>u.frzs b o v (J.frzs b o v q),fun b r q=>?_⟩
 ·exact u.keep b o (J.keep b o q n c (by simp)) (J.free b o q n (by simp)) (j b o q c) (by simp)
 ·obtain ⟨t,a⟩:=J.slot b o q n m (by simp);obtain ⟨l,d⟩:=u.any a (J.free b o q n (by simp)) (by simp);exact ⟨l,d⟩
 ·obtain ⟨e,a⟩:=J.there b o q (by simp);exact u.free b e a (J.free b o q n (by simp)) (by simp)
 ·obtain ⟨e,a⟩:=J.there b o q (by simp);exact u.there b e a (by simp)
 ·obtain ⟨p,a⟩:=J.tbls b r q;obtain ⟨k,d⟩:=u.tbls b _ a;exact ⟨p++k,by rw [d,Array.append_assoc]⟩
theorem Inv.stkFree' (I:Inv X pins σ H s) (u:Un (frs X.stack) [] H H' s.heap h):∀ b∈frs X.stack,H' b=none:=fun b m=>by
 obtain ⟨_,o,q,_⟩:=I.stack.mem m;exact u.free b o q (I.stkFree b m) (by simp)
end
section
variable {P:Program} {w:World} {K:W.Frag} {mg:Str->Option Value} {base:Heap} {N:List Str} {qual:Str} {scope:Scope} {f:Addr} {cdv:Value} {A:Around} {outer:List Env} {s0:Shared} {H0:Hp} {E:XK}
theorem pass1:JbI (CX1 P w) (cxOf (CX1 P w) P w K mg base N qual scope f cdv A outer s0 H0 E) E:=by
 intro x σ H s e D I T;obtain ⟨i,Y,cls,a0,B,y,rfl,n,X,u,l,F,R⟩:=T;have J:=I.stkFree' u;show wpAny (model P w) (A.deeper (envOfC qual scope s0.heap.objs.size f cdv)) (leaving (envOfC qual scope s0.heap.objs.size f cdv) (.ref i)) (fun _ h=>CX1 P w outer H0 s0 E (.ref i) h) (fun L h=>CX1 P w outer H0 s0 E L h) D;refine Jjz (base:=B) (cls:=cls) (a0:=a0) I.ok.frames rfl F.fly F.dct fun M g p t=>?_;obtain ⟨k,O,Z⟩:=F.next u l J g.1 p;have j:s0.heap.get? i=none:=by
  cases q:s0.heap.get? i with
  | none=>rfl
  | some o=>
   obtain ⟨a,V⟩:=I.base.there i o q (by intro z;cases z);have:=F.new;rw [V] at this;cases this
 refine ⟨i,Y,cls,a0,B,y,rfl,n.trans I.os,X,I.out rfl O,k,⟨g,F.free,j,t,fun b o q r W=>?_⟩,R⟩;have Q:b≠s0.heap.objs.size:=fun z=>by
  rcases r with ⟨a,c⟩ | ⟨v,c⟩
  ·have:=Heap.lt_size c;rw [z] at this;exact absurd this (Nat.lt_irrefl _)
  ·have U:=J s0.heap.objs.size (by
    show s0.heap.objs.size∈frs (envOfC qual scope s0.heap.objs.size f cdv::outer);exact List.mem_filterMap.mpr ⟨_,mem_cons_self ..,rfl⟩)
   rw [z,U] at c;cases c
 have S:b∉frs (envOfC qual scope s0.heap.objs.size f cdv::outer):=fun m=>by
  rcases mem_cons.mp (I.stkSub b m) with z | z
  ·exact Q z
  ·exact W z
 have G:(∃ a,s.heap.get? b=some a)\/∃ v,y b=some v:=by
  rcases r with ⟨a,c⟩ | r
  ·exact .inl (I.base.there b a c (by intro z;cases z))
  ·exact .inr r
 have d:∃ a,D.heap.get? b=some a:=by
  rcases G with ⟨a,c⟩ | ⟨v,c⟩
  ·exact u.there b a c (by simp)
  ·exact (l b v c).is_there
 obtain ⟨a,c⟩:=d;have z:=F.kept b a c G S;have C:=g.1 b a z;rw [show M.get? b=some o from q] at C;cases C;exact z
end
theorem passF {P:Program} {w:World} {X:Cx}:JbI (CX1 P w) X E0:=fun _ _ _ _ _ _ _ h=>by
 obtain ⟨_,_,_,_,_,_,_,_,_,_,_,_,z⟩:=h;exact False.elim z
def unt (H:Hp) (a:Addr):Hp:=fun b=>if b=a then none else H b
theorem Jgl {H:Hp} {a:Addr}:unt H a a=none:=if_pos rfl
theorem Jcp {H:Hp} {a b:Addr} (h:b≠a):unt H a b=H b:=if_neg h
theorem Jhc {K:W.Frag} {h:Heap} {C:Addr} {bmB:List Value} {newId:String} (X:K.In h) (q:W.excIn K C bmB newId=true) :
  ∃ (bm:List Value) (N:Addr) (nm qn:Str) (bs:List Value) (hdct:Bool) (sn:List Str) (sub:List Value) (ab:Bool) (col:Option Bool) (dd:Option Addr) (k0 k1 k2 k3 k5:Option Value) (mN:Str->Option Value),
   h.get? C=some (excClassObj nm qn C N bs bm hdct sn sub ab col dd k0 k1 k2 k3 k5 newId)/\h.Ns N mN/\mN "__init__"=none/\OwnTail h bmB bm:=by
 unfold W.excIn at q;split at q
 next dd cd sl ho=>
  split at q
  next C' bm k0 k1 k2 k3 n k5 hm hs=>
   have k:((((C'=C/\n=newId)/\cd.hasDel=false)/\W.tailIn K bmB bm=true)/\W.nsOkIn K cd.ns=true)/\W.nsIn K cd.ns "__init__"=some none:=by simpa using q
   obtain ⟨⟨⟨⟨⟨m,f⟩,i⟩,j⟩,e⟩,o⟩:=k;obtain ⟨nm,bs,d,l,qn,g,sn,sub,ab,col,a⟩:=cd;have p:sl=#[k0,k1,k2,k3,some (.builtin n),k5]:=by
    cases sl;exact congrArg Array.mk hs
   subst m;subst f;subst p;have b:d=.ref C'::bm:=hm;subst b;have c:a=false:=i;subst c;exact ⟨bm,l,nm,qn,bs,g,sn,sub,ab,col,dd,k0,k1,k2,k3,k5,_,X _ _ ho, .of_isNs (W.isNs_of_in X e),W.nsMap_none_of_in X e o,W.tail_of_in X j⟩
  next=>cases q
 next=>cases q
section
variable {P:Program} {w:World} {K:W.Frag} {mg:Str->Option Value} {base:Heap} {N:List Str} {qual:Str} {scope:Scope} {f:Addr} {cdv:Value} {A:Around} {outer:List Env} {s0:Shared} {H0:Hp} {E:XK}
theorem Jku {pins:List (Addr × Obj)} {σ : St} {H:Hp} {s:Shared} {h':Heap} {e:Addr} {cls:Value} {us:List Value}
  (I:Inv (cxOf (CX1 P w) P w K mg base N qual scope f cdv A outer s0 H0 E) pins σ H s) (hm:Heap.MadeExcOf s.heap h' e cls us) (q:E cls none H) :
  (cxOf (CX1 P w) P w K mg base N qual scope f cdv A outer s0 H0 E).xe (.ref e) { s with heap:=h' }:=by
 show wpAny (model P w) (A.deeper (envOfC qual scope s0.heap.objs.size f cdv)) (leaving (envOfC qual scope s0.heap.objs.size f cdv) (.ref e)) (fun _ h=>CX1 P w outer H0 s0 E (.ref e) h) (fun S h=>CX1 P w outer H0 s0 E S h) { s with heap:=h' };have Y:=I.stkFree;have G:∀ k∈(envOfC qual scope s0.heap.objs.size f cdv::outer), ∀ b,k.frame=some b->b∈frs (envOfC qual scope s0.heap.objs.size f cdv::outer):=fun k F b j=>List.mem_filterMap.mpr ⟨k,F,j⟩;obtain ⟨t,F,_,_⟩:=hm.there;refine Ji0 (s:={ s with heap:=h' }) (base:=W.hideAll s.heap (frs (envOfC qual scope s0.heap.objs.size f cdv::outer))) I.ok.frames ((W.funFrames_hide I.stack G).of_keeps fun b o j hn=>⟨o,hm.keeps b o j,rfl⟩) rfl F (fun b o z=>hm.keeps b o (W.of_hideAll _ z)) ?_ rfl rfl rfl fun C p B L=>?_
 ·cases z:(W.hideAll s.heap (frs (envOfC qual scope s0.heap.objs.size f cdv::outer))).get? e with
  | none=>rfl
  | some o=>
   have O:=W.of_hideAll _ z;rw [hm.new] at O;cases O
 have i:H e=none:=I.hok.isnone hm.new;have c:∀ b o,s.heap.get? b=some o->b∉frs (envOfC qual scope s0.heap.objs.size f cdv::outer)->C.get? b=some o:=fun b o z n=>p.1 b o (W.hideAll_get _ z n);have u:Un (frs (envOfC qual scope s0.heap.objs.size f cdv::outer)) [] H H s.heap C:=by
  refine ⟨fun b o z _ n _=>c b o z n,fun b o z _ m _=>?_,fun _ _ _ n _=>n,fun b o z _=>?_,fun _ _ z=>z,fun _ _ _ z=>z,fun _ ps z=>⟨#[],by rw [z];simp⟩⟩
  ·obtain ⟨_,g,d,D⟩:=I.stack.mem m;rw [z] at d;cases d;exact B b o (hm.keeps b o z) D
  ·by_cases m:b∈frs (envOfC qual scope s0.heap.objs.size f cdv::outer)
   ·obtain ⟨_,g,d,D⟩:=I.stack.mem m;rw [z] at d;cases d;obtain ⟨Z,T⟩:=B b o (hm.keeps b o z) D;exact ⟨_,T⟩
   ·exact ⟨o,c b o z m⟩
 have J:∀ b v,H b=some v->b∉frs (envOfC qual scope s0.heap.objs.size f cdv::outer):=fun b v z m=>by
  rw [Y b m] at z;cases z
 have M:HOk P w H C:=fun a o z=>by
  refine (I.hok a o z).stay (fun b v j x=>?_) (fun _ r=>r) (fun _ _ r=>r);rcases j with rfl | j
  ·exact c _ _ x (J _ _ z)
  ·exact c _ _ x (J _ _ j)
 have l:s0.heap.get? e=none:=by
  cases z:s0.heap.get? e with
  | none=>rfl
  | some o=>
   obtain ⟨g,U⟩:=I.base.there e o z (by intro z;cases z);have:=hm.new;rw [U] at this;cases this
 refine ⟨e,none,cls, .ref t,_,H,rfl,I.os,I.bare,I.out rfl u,M,⟨p,i,l,L,fun b o z r V=>?_⟩,q⟩;have X:∃ g,s.heap.get? b=some g:=by
  rcases r with ⟨g,d⟩ | ⟨v,d⟩
  ·exact I.base.there b g d (by intro z;cases z)
  ·exact (I.hok b v d).is_there
 have Q:b∉frs (envOfC qual scope s0.heap.objs.size f cdv::outer):=fun m=>by
  rcases mem_cons.mp (I.stkSub b m) with y | y
  ·rcases r with ⟨g,d⟩ | ⟨v,d⟩
   ·have R:=Heap.lt_size d;rw [y] at R;exact absurd R (Nat.lt_irrefl _)
   ·exact J b v d m
  ·exact V y
 obtain ⟨g,d⟩:=X;have x:=c b g d Q;rw [show C.get? b=some o from z] at x;cases x;exact W.hideAll_get _ d Q
theorem Jkv {pins:List (Addr × Obj)} {σ : St} {H:Hp} {s:Shared} {e:Addr} {oe:Obj} {vs:Array Value} {a0:Value} {φ : Heap->Prop}
  (I:Inv (cxOf (CX1 P w) P w K mg base N qual scope f cdv A outer s0 H0 E) pins σ H s) (ht:H e=some (.ext φ)) (he:s.heap.get? e=some oe) (hd:oe.data=.fields vs) (h1:vs[1]?=some .none) (h0:vs[0]?=some a0) (new0:s0.heap.get? e=none) (q:E oe.cls oe.dict (unt H e)) :
  (cxOf (CX1 P w) P w K mg base N qual scope f cdv A outer s0 H0 E).xe (.ref e) s:=by
 show wpAny (model P w) (A.deeper (envOfC qual scope s0.heap.objs.size f cdv)) (leaving (envOfC qual scope s0.heap.objs.size f cdv) (.ref e)) (fun _ i=>CX1 P w outer H0 s0 E (.ref e) i) (fun O i=>CX1 P w outer H0 s0 E O i) s;have V:=I.stkFree;have F:∀ l∈(envOfC qual scope s0.heap.objs.size f cdv::outer), ∀ b,l.frame=some b->b∈e::frs (envOfC qual scope s0.heap.objs.size f cdv::outer):=fun l he b k=>.tail _ (List.mem_filterMap.mpr ⟨l,he,k⟩);refine Ji0 (base:=W.hideAll s.heap (e::frs (envOfC qual scope s0.heap.objs.size f cdv::outer))) I.ok.frames (W.funFrames_hide I.stack F) rfl he (fun b o z=>W.of_hideAll _ z) (W.hideAll_none _ (.head _)) hd h1 h0 fun x B J C=>?_;have c:∀ b o,s.heap.get? b=some o->b≠e->b∉frs (envOfC qual scope s0.heap.objs.size f cdv::outer)->x.get? b=some o:=fun b o z p n=>B.1 b o (W.hideAll_get _ z fun m=>(mem_cons.mp m).elim p n);have t:∀ b,H b=none->b≠e:=fun b z y=>by rw [y,ht] at z;cases z
 have g:∀ b o,s.heap.get? b=some o->b∈frs (envOfC qual scope s0.heap.objs.size f cdv::outer)->∃ sl,x.get? b=some { o with slots:=sl }:=fun b o z m=>by
  obtain ⟨_,h,d,S⟩:=I.stack.mem m;rw [z] at d;cases d;exact J b o z S
 have u:Un (frs (envOfC qual scope s0.heap.objs.size f cdv::outer)) [] H (unt H e) s.heap x:=by
  refine ⟨fun b o z n m _=>c b o z (t b n) m,fun b o z _ m _=>g b o z m,fun b _ _ n _=>by rw [Jcp (t b n)];exact n,fun b o z _=>?_,fun b X z=>?_,fun b o v z=>?_,fun b Z z=>⟨#[],?_⟩⟩
  ·by_cases y:b=e
   ·obtain ⟨Q,j,_⟩:=C;exact ⟨Q,y ▸ j⟩
   ·by_cases m:b∈frs (envOfC qual scope s0.heap.objs.size f cdv::outer)
    ·obtain ⟨Y,R⟩:=g b o z m;exact ⟨_,R⟩
    ·exact ⟨o,c b o z y m⟩
  ·rw [Jcp (fun y=>by rw [y,ht] at z;cases z)];exact z
  ·rw [Jcp (fun y=>by rw [y,ht] at z;cases z)];exact z
  ·rw [Jcp (fun y=>by rw [y,ht] at z;cases z),z];simp
 have G:∀ b v,H b=some v->b∉frs (envOfC qual scope s0.heap.objs.size f cdv::outer):=fun b v z m=>by
  rw [V b m] at z;cases z
 have D:∀ b v,unt H e b=some v->b≠e/\H b=some v:=fun b v z=>by
  by_cases y:b=e
  ·rw [y,Jgl] at z;cases z
  ·exact ⟨y,(Jcp y).symm.trans z⟩
 have L:HOk P w (unt H e) x:=fun a o z=>by
  obtain ⟨p,z⟩:=D a o z;refine (I.hok a o z).stay (fun b v k j=>?_) (fun b r=>by rw [Jcp (fun y=>by rw [y,ht] at r;cases r)];exact r) (fun b _ r=>by rw [Jcp (fun y=>by rw [y,ht] at r;cases r)];exact r);rcases k with rfl | k
  ·exact c _ _ j p (G _ _ z)
  ·exact c _ _ j (fun y=>by rw [y,ht] at k;cases k) (G _ _ k)
 refine ⟨e,oe.dict,oe.cls,a0,_,unt H e,rfl,I.os,I.bare,I.out rfl u,L,⟨B,Jgl,new0,C,fun b o z r T=>?_⟩,q⟩;have p:b≠e:=fun y=>by
  rcases r with ⟨h,d⟩ | ⟨v,d⟩
  ·rw [y,new0] at d;cases d
  ·exact (D _ _ d).1 y
 have U:∃ h,s.heap.get? b=some h:=by
  rcases r with ⟨h,d⟩ | ⟨v,d⟩
  ·exact I.base.there b h d (by intro z;cases z)
  ·exact (I.hok b v (D _ _ d).2).is_there
 have M:b∉frs (envOfC qual scope s0.heap.objs.size f cdv::outer):=fun m=>by
  rcases mem_cons.mp (I.stkSub b m) with y | y
  ·rcases r with ⟨h,d⟩ | ⟨v,d⟩
   ·have h1:=Heap.lt_size d;rw [y] at h1;exact absurd h1 (Nat.lt_irrefl _)
   ·exact G b v (D _ _ d).2 m
  ·exact T y
 obtain ⟨h,d⟩:=U;have j:=c b h d p M;rw [show x.get? b=some o from z] at j;cases j;exact W.hideAll_get _ d fun m=>(mem_cons.mp m).elim p M
def Jjb (E:XK) (C:Addr) (ta:TA):TS:=fun _ σ H=>ta σ H fun vs H1=>vs.length<=sizeLine/\E (.ref C) none H1
theorem JiC {x:Str} {np cpos pos:Pos} {e:Expr} {es:List Expr} {C:Addr} {B newId initId:String} {bmB:List Value} {ta:TA} (FB:ExcBaseFacts B newId initId bmB) (hx:W.excIn K C bmB newId=true)
  (hg:Gl (cxOf (CX1 P w) P w K mg base N qual scope f cdv A outer s0 H0 E) x) (hm:mg x=some (.ref C)) (ha:PA (cxOf (CX1 P w) P w K mg base N qual scope f cdv A outer s0 H0 E) (e::es) ta)
  (he:starEach (e::es) (envOfC qual scope s0.heap.objs.size f cdv)=(false,eval e (envOfC qual scope s0.heap.objs.size f cdv))::starEach es (envOfC qual scope s0.heap.objs.size f cdv):=by rfl)
  (hpl:(backTo cpos (starEach es (envOfC qual scope s0.heap.objs.size f cdv))).any (·.1)=false:=by rfl) (hdb:(x == ("__debug__" : Str))=false:=by decide) :
  PS (cxOf (CX1 P w) P w K mg base N qual scope f cdv A outer s0 H0 E) (.Raise (some (.Call (.Name x np) (e::es) [] cpos)) none pos) (Jjb E C ta):=by
 intro a s σ H D I h;obtain ⟨bm,l,nm,j,bs,hdct,sn,sub,ab,col,dd,k0,k1,k2,k3,k5,mN,k,i,b,T⟩:=Jhc I.mod.kin hx;have d:(A.deeper (envOfC qual scope s0.heap.objs.size f cdv)).handled=none:=I.ok.hd rfl;refine wpAny_Raise_call_subT (C:=C) (nm:=nm) (q:=j) (N:=l) (bs:=bs) (bm:=bm) (hdct:=hdct) (sn:=sn) (sub:=sub) (ab:=ab) (col:=col) (dd:=dd) (k0:=k0) (k1:=k1) (k2:=k2) (k3:=k3) (k5:=k5)
  FB (mN:=mN) (T.hasType FB.hasBase) d ?_ b (Jcr I hg hm ⟨rfl,?_⟩ hdb)
 ·show (backTo cpos (starEach (e::es) (envOfC qual scope s0.heap.objs.size f cdv))).any (·.1)=false;rw [he];show (false||(backTo cpos (starEach es (envOfC qual scope s0.heap.objs.size f cdv))).any (·.1))=false;rw [hpl];rfl
 ·have z:=ha cpos a s σ H _ I h;show wpAny _ _ (evalArgs (.ref C) true (backTo cpos (starEach (e::es) (envOfC qual scope s0.heap.objs.size f cdv))) []) _ _ _;have g:=he;rw [he];refine Calls.evalArgs_plain ?_;have c:wpAny (model P w) (A.deeper (envOfC qual scope s0.heap.objs.size f cdv)) (spliced (backTo cpos (starEach (e::es) (envOfC qual scope s0.heap.objs.size f cdv)))) _ _ s:=z;rw [he] at c;refine thn c fun o p ζ=>?_;obtain ⟨u,t,I1,r,m,q⟩:=ζ;exact ⟨rfl,by rw [<- r.length];exact m,I1.bk _ _ k,i.keeps I1.bk,T.keeps I1.bk,fun n e hm=>Jku I1 hm q⟩
end
def PEx (X:Cx) (e:Expr) (t:St->Hp->VK->XK->Prop):Prop :=
 ∀ (pins:List (Addr × Obj)) (s:Shared) (σ : St) (H:Hp) (Q:VK) (E:XK),Inv X pins σ H s->t σ H Q E ->
  wpAny (model X.prog X.w) X.A (eval e X.env) (EP X pins σ Q) (fun ev s'=>∃ H1 s1,Inv X pins σ H1 s1/\CX1 X.prog X.w X.stack H1 s1 E ev s') s
def xCall (sp:Sp) (dvs:List V) (t:TA):St->Hp->VK->XK->Prop:=fun σ H Q E=>t σ H fun vs H1=>sp (vs++dvs) H1 Q E
section
variable {X:Cx} {k:Nat} {f C:Addr} {fd:FuncData} {ps:List Str} {sp:Sp} {dvs:List V} {ds:List Value} {E:XK} {x m:Str} {p pos apos:Pos} {e o:Expr} {es:List Expr} {ta:TE} {t:TA}
theorem JjY {pins:List (Addr × Obj)} {σ : St} {H:Hp} {s:Shared} {Q:VK} {us:List Value} {vs:List V} (F:FnOk X.prog X.w X.K X.mg X.base (CX1 X.prog X.w) k f fd ps sp) (hr:Room k X.A) (hb:Binds X.K fd ps ds) (hd:Vals dvs ds)
  (I:Inv X pins σ H s) (r:Vals vs us) (h:sp (vs++dvs) H Q E):wpAny (model X.prog X.w) X.A (call (.ref f) us) (EP X pins σ Q) (fun ev s'=>∃ H1 s1,Inv X pins σ H1 s1/\CX1 X.prog X.w X.stack H1 s1 E ev s') s:=by
 have c:Vals (vs++dvs) (us++ds):=r.append hd;have d:(us++ds).length=ps.length:=(c.length.symm).trans (F.len _ _ _ _ h);have g:=F.run X.A X.stack s H ⟨us,[]⟩ (us++ds) (vs++dvs) Q E hr I.env0 (hb s us I.kIn d) c h;refine wpAny_call (codeAny_mono g fun b s' a=>?_);match b,a with
 | .error e,a=>exact ⟨H,s,I,a⟩
 | .ok (.ret u),a=>exact I.after a
 | .ok .next,a=>exact a.elim
 | .ok .brk,a=>exact a.elim
 | .ok .cont,a=>exact a.elim
end
section
variable {X:Cx} {pins:List (Addr × Obj)} {σ : St} {H H':Hp} {s s':Shared} {h' B:Heap} {ea:Addr} {od:Option Addr} {cls a0:Value}
theorem Inv.track {a:Addr} {o:HO} (I:Inv X pins σ H s) (hn:H a=none) (h1:X.s₀.heap.get? a=none) (h2:a≠X.env.locals) (h3:∀ x c,X.env.cells.lookup x=some c->c≠a) (h4:∀ p∈X.pn++pins,p.1≠a)
  (ok:ObjOk X.prog X.w (upd H a o) s.heap a o):Inv X pins σ (upd H a o) s:=by
 have d:∀ b u,H b=some u->b≠a:=fun b u q=>Jac q hn;refine ⟨I.ok,I.os,I.bare,⟨I.base.keep,I.base.slot,fun b f q n j=>?_,I.base.there,fun b g q=>?_,fun b f u q=>?_,fun b k q=>?_⟩,I.loc,I.cell,?_,fun x c e=>?_,fun p h=>?_,fun b u q=>?_,I.len⟩
 ·have : b≠a:=fun z=>by rw [z,h1] at q;cases q
  rw [Jaf this];exact I.base.free b f q n j
 ·have z:=I.base.tups b g q;rw [Jaf (d _ _ z)];exact z
 ·have z:=I.base.frzs b f u q;rw [Jaf (d _ _ z)];exact z
 ·obtain ⟨l,z⟩:=I.base.tbls b k q;exact ⟨l,by rw [Jaf (d _ _ z)];exact z⟩
 ·rw [Jaf (Ne.symm h2)];exact I.free
 ·rw [Jaf (h3 x c e)];exact I.freeC x c e
 ·obtain ⟨e,n,r⟩:=I.pin p h;exact ⟨e,by rw [Jaf (h4 p h)];exact n,r⟩
 ·by_cases i:b=a
  ·subst i;rw [Jam] at q;cases q;exact ok
  ·rw [Jaf i] at q;exact (I.hok b u q).stay (fun _ _ _ z=>z) (fun c z=>by rw [Jaf (d _ _ z)];exact z) (fun c g z=>by rw [Jaf (d _ _ z)];exact z)
def ExcO (e C:Addr) (od:Option Addr:=none):HO:=.ext fun h=>∃ ox vs,h.get? e=some ox/\ox.cls=.ref C/\ox.data=.fields vs/\ox.dict=od
theorem Inv.landed {C:Addr} {sF:Shared} (I:Inv X pins σ H s) (hex:X.ex=[]) (u:Un (frs X.stack) [] H H' s.heap s'.heap) (hok:HOk X.prog X.w H' s'.heap) (F:Fly X.stack H' s.heap ea od (.ref C) a0 B s'.heap) (hos:s'.os=s.os) (hg:AllBare s'.gens)
  (hfl:Heap.FlyingW B X.stack ea (.ref C) a0 h') (hup:s'.heap.UpToSlots h') (hdc:DictAt h' ea od) (hs:sF={ s' with heap:=h' }):Inv X pins σ (upd H' ea (ExcO ea C od)) sF:=by
 subst hs;obtain ⟨f,A,_⟩:=F.next u hok (I.stkFree' u) hfl.1 hup;have I2:Inv X pins σ H' { s' with heap:=h' }:=I.call' (s':={ s' with heap:=h' }) hos A f hg (fun b z=>absurd z (by simp));have a:∀ b o,s.heap.get? b=some o->b≠ea:=fun b o q z=>by
  have:=F.new;rw [<- z,q] at this;cases this
 obtain ⟨m,M,_⟩:=I.loc;obtain ⟨P,_,_,n,_⟩:=M;refine I2.track F.free ?_ (Ne.symm (a _ _ n)) (fun x c e z=>?_) (fun p J z=>?_) ?_
 ·cases q:X.s₀.heap.get? ea with
  | none=>rfl
  | some o=>
   obtain ⟨O,l⟩:=I.base.there ea o q (by rw [hex];simp);exact absurd rfl (a _ _ l)
 ·obtain ⟨v,h⟩:=I.cell x c e;obtain ⟨Q,i,_⟩:=h;exact a _ _ i z
 ·obtain ⟨e,_⟩:=I.pin p J;exact a _ _ e z
 ·obtain ⟨r,L,j,h,D,_⟩:=hfl.first;obtain ⟨G,d,g⟩:=hdc;rw [show h'.get? ea=some r from j] at d;cases d;exact ⟨⟨r,L,j,h,D,g⟩,⟨_,j⟩,fun R N ⟨K,t,l,y,E⟩ k=>⟨K,t,k _ l,y,E⟩⟩
abbrev Cx.inx (X:Cx) (e:Addr):Cx:={ X with A:=X.A.mark (some (.ref e)),calm:=false,xe:=fun _ _=>False }
theorem Cx.Ok.inx {X:Cx} (ok:X.Ok) (e:Addr):(X.inx e).Ok :=
 ⟨ok.mod,ok.kind,ok.glob,ok.blt,ok.above,ok.inj,ok.has,ok.cab,fun z=>(by cases z),ok.frames,ok.stk,ok.exf,ok.bs,ok.bsz,ok.noex,ok.exfs,ok.funs,ok.frf⟩
theorem Inv.inx (I:Inv X pins σ H s) (e:Addr):Inv (X.inx e) pins σ H s :=
 ⟨I.ok.inx e,I.os,I.bare,I.base,I.loc,I.cell,I.free,I.freeC,I.pin,I.hok,I.len⟩
theorem Inv.outx {e:Addr} (I:Inv (X.inx e) pins σ H s) (ok:X.Ok):Inv X pins σ H s :=
 ⟨ok,I.os,I.bare,I.base,I.loc,I.cell,I.free,I.freeC,I.pin,I.hok,I.len⟩
theorem Inv.goes {i:Nat} {x:Str} {t':Nat} {m m':Str->Option Value} (I:Inv X pins σ H s) (hN:X.N.Nodup) (hi:X.N[i]?=some x) (hs:Heap.SameBut X.env.locals s.heap h')
  (hn:s.heap.Ns X.env.locals m) (hn':h'.Ns X.env.locals m') (hm:∀ y,y≠x->m' y=m y):Inv X pins (σ.set i none) H { s with heap:=h',toks:=t' }:=by
 obtain ⟨E,w,B⟩:=I.loc;have O:E=m:=(Heap.Ns.eq_nsMap w).trans (Heap.Ns.eq_nsMap hn).symm;subst O;have t:∀ b o,X.s₀.heap.get? b=some o->b≠X.env.locals:=fun b o e=>Nat.ne_of_lt (Nat.lt_of_lt_of_le (Heap.lt_size e) I.ok.above);refine ⟨I.ok,I.os,I.bare,⟨fun b o e n A h=>?_,fun b o e n A h=>?_,I.base.free,fun b o e h=>?_,I.base.tups,I.base.frzs,I.base.tbls⟩,⟨m',hn',fun j y v g f G=>?_⟩,fun y c e=>?_,I.free,I.freeC,fun p M=>?_,fun a o e=>?_,by rw [List.length_set];exact I.len⟩
 ·exact (hs.2 b (t b o e)).trans (I.base.keep b o e n A h)
 ·obtain ⟨L,g⟩:=I.base.slot b o e n A h;exact ⟨L,(hs.2 b (t b o e)).trans g⟩
 ·obtain ⟨J,g⟩:=I.base.there b o e h;exact ⟨J,(hs.2 b (t b o e)).trans g⟩
 ·have D:j≠i:=fun z=>by
   subst z;by_cases B:j<σ.length
   ·rw [List.getElem?_set_self B] at f;cases f
   ·rw [List.getElem?_eq_none (by rw [List.length_set];ac_nf)] at f;cases f
  rw [List.getElem?_set_ne (Ne.symm D)] at f;obtain ⟨u,r,q⟩:=B j y v g f G;have K:y≠x:=fun z=>D (Jd9 hN g (z ▸ hi));refine ⟨u,r,?_⟩;rcases q with ⟨k,e⟩ | ⟨k,c,e,z⟩
  ·exact .inl ⟨k,(hm y K).trans e⟩
  ·exact .inr ⟨k,c,e,z.sameBut hs (I.cne y c e)⟩
 ·obtain ⟨v,z⟩:=I.cell y c e;exact ⟨v,z.sameBut hs (I.cne y c e)⟩
 ·obtain ⟨e,n,C,F,d⟩:=I.pin p M;exact ⟨(hs.2 p.1 C).trans e,n,C,F,d⟩
 ·refine (I.hok a o e).stay (fun c v l q=>(hs.2 c ?_).trans q) (fun _ q=>q) fun _ _ q=>q;rintro rfl;rcases l with z | l
  ·rw [<- z] at e;rw [I.free] at e;cases e
  ·rw [I.free] at l;cases l
end
structure JdT (K:W.Frag) (C D:Addr):Prop where
 cl:W.hasDictIn K D=true
 ty:W.typeIn K (.ref D)=some (.type "type")
 ex:W.mroIn K D (.type "BaseException")=some true
 ab:W.mroIn K C (.ref D)=some true
theorem Jhi {K:W.Frag} {M:Model} {h:Heap} {D:Addr} (X:K.In h) (c:W.hasDictIn K D=true):W.Looks M h (isType (.ref D)) true:=by
 obtain ⟨d,a,_⟩:=W.any_some c;unfold W.clsIn at a;split at a
 next c' d' cd' sl' ho=>
  intro A' Q' E' b k q;unfold isType loadHead;exact wpAny_bind (wpAny_loadPart (k _ _ (X _ _ ho)) (wpAny_pure q))
 next=>cases a
theorem JeG {K:W.Frag} {M:Model} {A:Around} {E:Value->Shared->Prop} {s:Shared} {e C D:Addr} {oe:Obj} {Q:Bool->Shared->Prop} (X:K.In s.heap) (he:s.heap.get? e=some oe) (hc:oe.cls=.ref C) (c:JdT K C D) (h:Q true s) :
  wpAny M A (excMatches (.ref e) (.ref D)) Q E s:=by
 obtain ⟨a,g,d,t,b⟩:=s;have L0:W.Looks M a (typeOf (.ref e)) (.ref C):=hc ▸ (W.Looks.ld he).andThen .now;have L1:=W.looks_typeIn (M:=M) X c.ty;have L2:=W.looks_mroIn (M:=M) X c.ex;have L3:=W.looks_mroIn (M:=M) X c.ab;have L4:=Jhi (M:=M) X c.cl;have f:=tc_notTuple;unfold excMatches isInstance isExcClass;repeat (first | lk | wp_step)
 exact h
section
variable {X:Cx} {ce:Expr} {epos pos hpos np:Pos} {x n:Str} {b0:Stmt} {suite:List Stmt} {D:Addr} {t:St->Hp->VK->XK->Prop} {ts:TS}
def Jjc (K:W.Frag) (D:Addr) (i:Nat) (t:St->Hp->VK->XK->Prop) (ts:TS):TS:=fun Dn σ H=>t σ H (fun _ H1=>Dn.nx σ H1) fun cls od H1=>∃ C,cls=.ref C/\JdT K C D /\
 ∀ ea,H1 ea=none->ts { nx:=fun σ' H'=>Dn.nx (σ'.set i none) H',rt:=Dn.rt,bk:=fun σ' H'=>Dn.bk (σ'.set i none) H',ct:=fun σ' H'=>Dn.ct (σ'.set i none) H' } (σ.set i (some (.ref ea))) (upd H1 ea (ExcO ea C od))
theorem Jgh {i:Nat} (hN:X.N.Nodup) (hi:X.N[i]?=some n) (hl:X.env.scope.names.lookup n=some .local) (hcall:PEx X ce t) (hg:Gl X x) (hm:X.mg x=some (.ref D)) (hsu:∀ e,PSs (X.inx e) (b0::suite) ts)
  (hex:X.ex=[]:=by rfl) (hst:X.stack=X.env::X.outer:=by rfl) (hfl:X.env.frame=some X.env.locals:=by rfl)
  (hs:swapsWith ce none epos.line X.env=pure false:=by rfl) (hdb:(x == ("__debug__" : Str))=false:=by decide) :
  PS X (.Try [.Expr ce epos] [.ExceptHandler (some (.Name x np)) (some n) (b0::suite) hpos] [] [] pos) (Jjc X.K D i t ts):=by
 intro b s σ H Dn I h;refine wpAny_Try_except (wpAny_execs_cons (wpAny_Expr_any (wpAny_mono (hcall b s σ H _ _ I h) (fun v s1 ⟨y,H1,I1,r1,q1⟩=>?_) (fun ev s1 hx=>?_)) I.quiet hs))
 ·exact wpAny_execs_nil (wpAny_execs_nil ⟨σ,H1,I1,q1⟩)
 ·obtain ⟨H1,s0,I1,l,od,a1,a0,B,H',rfl,M,hb,u,T,F,C,rfl,S,hq⟩:=hx;have W:X.A.frames=some (X.env::X.outer):=by rw [<- hst];exact I.ok.frames
  have F':=F.fly;rw [hst] at F';refine noteD W hfl F' F.dct fun h4 o Q U=>?_;refine Jkt o U fun h5 d G E=>?_;have P:=Q.trans G;have g:=d;rw [<- hst] at g;have I5:=I1.landed hex u T F M hb g P E rfl;obtain ⟨oe,vs,he,hc,_,_⟩:=d.first;refine wpAny_handleBy_cons (codeAny_handlers_test (Jcr (X:=X.inx l) (I5.inx l) hg hm ?_ hdb)) (by intro z;cases z);refine JeG I5.kIn he hc S (codeAny_handlers_suite_as ?_);refine Jkb d E fun h6 L O V=>?_;have c:=L;rw [<- hst] at c;have I6:=I1.landed hex u T F M hb c (P.trans O) V rfl;refine JcK (X:=X) (v:=.ref l) I6 hN hi (.inl hl) rfl (fun s7 I7=>?_) (.inr hl);refine wpAny_mono (hsu l b s7 _ _ _ (I7.inx l) (hq l F.free)) (fun f s2 z=>?_) (fun _ _ z=>z.elim);have a:∀ {σ':St} {p:Hp} {R:Flow->Shared->Prop} {E2:Value->Shared->Prop},Inv (X.inx l) b σ' p s2->(∀ j,Inv X b (σ'.set i none) p j->R f j) ->
    wpAny (model X.prog X.w) X.A (do bindName X.env n .none;unbindBehindTheSuite X.env n hpos) (fun _ j=>R f j) E2 s2:=fun {σ' p R E2} J k=>by
   have J':=J.outx I.ok;obtain ⟨m,hn,_⟩:=J'.loc;refine wpAny_nameGoes_keeps hl hn (by rw [I.ok.kind];rfl) fun h' v Y Z=>k _ (J'.goes hN hi Z hn Y fun y hy=>if_neg hy)
  cases f with
  | next=>obtain ⟨σ',p,J,q⟩:=z;exact a J fun j J3=>⟨_,_,J3,q⟩
  | brk=>obtain ⟨σ',p,J,q⟩:=z;exact a J fun j J3=>⟨_,_,J3,q⟩
  | cont=>obtain ⟨σ',p,J,q⟩:=z;exact a J fun j J3=>⟨_,_,J3,q⟩
  | ret v=>obtain ⟨y,σ',p,J,r,q⟩:=z;exact a J fun j J3=>⟨y,_,_,J3,r,q⟩
end
inductive D where
 | non | bl (b:Bool) | int (i:Int) | str (x:Str) | tup (xs:List D) | lst (xs:List D)
mutual
def Rep (K:W.Frag) (H:Hp):D->V->Prop
 | .non,v=>v=.non
 | .bl b,v=>v=.bl b
 | .int i,v=>v=.int i
 | .str x,v=>v=.str x
 | .tup ds,v=>∃ a xs,v=.ref a/\SqT K H a xs/\RepL K H ds xs
 | .lst ds,v=>∃ a xs,v=.ref a/\SqL K H a xs/\RepL K H ds xs
def RepL (K:W.Frag) (H:Hp):List D->List V->Prop
 | [],vs=>vs=[]
 | d::ds,vs=>∃ v r,vs=v::r/\Rep K H d v/\RepL K H ds r
end
mutual
def eqD:D->D->Bool
 | .non, .non=>true
 | .bl a, .bl b=>a == b
 | .int a, .int b=>a == b
 | .bl a, .int b=>(if a then 1 else 0) == b
 | .int a, .bl b=>a == (if b then 1 else 0)
 | .str a, .str b=>a == b
 | .tup xs, .tup ys=>eqL xs ys
 | .lst xs, .lst ys=>eqL xs ys
 | _,_=>false
def eqL:List D->List D->Bool
 | [],[]=>true
 | x::xs,y::ys=>eqD x y&&eqL xs ys
 | _,_=>false
end
mutual
def depD:D->Nat
 | .tup xs=>depL xs+1
 | .lst xs=>depL xs+1
 | _=>0
def depL:List D->Nat
 | []=>0
 | x::xs=>max (depD x) (depL xs)
end
theorem JdL:∀ {xs ys:List D},eqL xs ys=true->xs.length=ys.length
 | [],[],_=>rfl
 | [],_::_,h=>by simp [eqL] at h
 | _::_,[],h=>by simp [eqL] at h
 | x::xs,y::ys,h=>by
  simp only [eqL,Bool.and_eq_true] at h;simp only [length_cons,JdL h.2]
mutual
theorem JbS:∀ d:D,eqD d d=true
 | .non=>by simp [eqD]
 | .bl b=>by simp [eqD]
 | .int i=>by simp [eqD]
 | .str x=>by simp [eqD]
 | .tup xs=>by simp only [eqD];exact Jd1 xs
 | .lst xs=>by simp only [eqD];exact Jd1 xs
theorem Jd1:∀ d:List D,eqL d d=true
 | []=>by simp [eqL]
 | x::xs=>by simp only [eqL,Bool.and_eq_true];exact ⟨JbS x,Jd1 xs⟩
end
theorem RepL.length {K:W.Frag} {H:Hp}:∀ {ds:List D} {vs:List V},RepL K H ds vs->ds.length=vs.length
 | [],vs,h=>by
  simp only [RepL] at h;rw [h];rfl
 | d::ds,vs,h=>by
  simp only [RepL] at h;obtain ⟨v,r,rfl,_,h2⟩:=h;simp only [length_cons,RepL.length h2]
theorem RepL.get {K:W.Frag} {H:Hp}:∀ {ds:List D} {vs:List V} {i:Nat} {d:D},RepL K H ds vs->ds[i]?=some d->∃ v,vs[i]?=some v/\Rep K H d v
 | [],_,_,_,_,e=>by simp at e
 | d::ds,vs,i,d',h,e=>by
  simp only [RepL] at h;obtain ⟨v,r,rfl,h1,h2⟩:=h;cases i with
  | zero=>simp at e;subst e;exact ⟨v,rfl,h1⟩
  | succ i=>
   obtain ⟨v',e',h'⟩:=RepL.get h2 (by simpa using e);exact ⟨v',by simpa using e',h'⟩
theorem SqL.same {K:W.Frag} {H H':Hp} {a:Addr} {xs:List V} (e:Same H H') (h:SqL K H a xs):SqL K H' a xs:=e.seq h
theorem SqT.same {K:W.Frag} {H H':Hp} {a:Addr} {xs:List V} (e:Same H H') (h:SqT K H a xs):SqT K H' a xs:=by
 rcases h with (h | ⟨o,h⟩) | h
 ·exact .inl (.inl (e _ _ h))
 ·exact .inl (.inr ⟨o,e _ _ h⟩)
 ·exact .inr h
mutual
theorem Rep.same {K:W.Frag} {H H':Hp} (e:Same H H'):∀ {d:D} {v:V},Rep K H d v->Rep K H' d v
 | .non,_,h=>by simpa only [Rep] using h
 | .bl _,_,h=>by simpa only [Rep] using h
 | .int _,_,h=>by simpa only [Rep] using h
 | .str _,_,h=>by simpa only [Rep] using h
 | .tup ds,_,h=>by
  simp only [Rep] at h ⊢;obtain ⟨a,xs,h1,h2,h3⟩:=h;exact ⟨a,xs,h1,h2.same e,RepL.same e h3⟩
 | .lst ds,_,h=>by
  simp only [Rep] at h ⊢;obtain ⟨a,xs,h1,h2,h3⟩:=h;exact ⟨a,xs,h1,h2.same e,RepL.same e h3⟩
theorem RepL.same {K:W.Frag} {H H':Hp} (e:Same H H'):∀ {d:List D} {v:List V},RepL K H d v->RepL K H' d v
 | [],_,h=>by simpa only [RepL] using h
 | x::xs,_,h=>by
  simp only [RepL] at h ⊢;obtain ⟨v,r,h1,h2,h3⟩:=h;exact ⟨v,r,h1,Rep.same e h2,RepL.same e h3⟩
end
section
variable {X:Cx} {pins:List (Addr × Obj)} {σ : St} {H:Hp} {s:Shared}
theorem Inv.list_tuple (I:Inv X pins σ H s) {a:Addr} {xs ys:List V} (h:SqL X.K H a xs) (h':SqT X.K H a ys):False:=by
 obtain ⟨_,_,p,_⟩:=I.list h;obtain ⟨_,_,q,_⟩:=I.tuple h';obtain ⟨o,_,e,d,_⟩:=p;obtain ⟨f,c,b,_⟩:=q;rw [e] at c;cases c;rw [d] at b;exact absurd b ⋯
mutual
theorem Inv.rep_inj (I:Inv X pins σ H s):∀ {d e:D} {v:V},Rep X.K H d v->Rep X.K H e v->d=e
 | .non,e,v,h,h'=>by
  simp only [Rep] at h;subst h;cases e <;> simp [Rep] at h' ⊢
 | .bl _,e,v,h,h'=>by
  simp only [Rep] at h;subst h;cases e <;> simp [Rep] at h' ⊢
  exact h'
 | .int _,e,v,h,h'=>by
  simp only [Rep] at h;subst h;cases e <;> simp [Rep] at h' ⊢
  exact h'
 | .str _,e,v,h,h'=>by
  simp only [Rep] at h;subst h;cases e <;> simp [Rep] at h' ⊢
  exact h'
 | .tup ds,e,v,h,h'=>by
  simp only [Rep] at h;obtain ⟨a,xs,rfl,h2,h3⟩:=h;cases e with
  | tup es=>
   simp only [Rep] at h';obtain ⟨a',ys,q,g2,g3⟩:=h';cases q;have:=I.tuple_inj h2 g2;subst this;rw [Inv.repL_inj I h3 g3]
  | lst es=>
   simp only [Rep] at h';obtain ⟨a',ys,q,g2,g3⟩:=h';cases q;exact (I.list_tuple g2 h2).elim
  | _=>simp [Rep] at h'
 | .lst ds,e,v,h,h'=>by
  simp only [Rep] at h;obtain ⟨a,xs,rfl,h2,h3⟩:=h;cases e with
  | lst es=>
   simp only [Rep] at h';obtain ⟨a',ys,q,g2,g3⟩:=h';cases q;have:=I.list_inj h2 g2;subst this;rw [Inv.repL_inj I h3 g3]
  | tup es=>
   simp only [Rep] at h';obtain ⟨a',ys,q,g2,g3⟩:=h';cases q;exact (I.list_tuple h2 g2).elim
  | _=>simp [Rep] at h'
theorem Inv.repL_inj (I:Inv X pins σ H s):∀ {d e:List D} {v:List V},RepL X.K H d v->RepL X.K H e v->d=e
 | [],e,v,h,h'=>by
  simp only [RepL] at h;subst h;cases e <;> simp [RepL] at h' ⊢
 | x::xs,e,v,h,h'=>by
  simp only [RepL] at h;obtain ⟨u,r,rfl,h1,h2⟩:=h;cases e with
  | nil=>simp [RepL] at h'
  | cons y ys=>
   simp only [RepL] at h';obtain ⟨u',r',q,g1,g2⟩:=h';cases q;rw [Inv.rep_inj I h1 g1,Inv.repL_inj I h2 g2]
end
end
def Jce {α β : Type} (f : α->β->Bool):List α->List β->Bool
 | [],[]=>true
 | x::xs,y::ys=>f x y&&Jce f xs ys
 | _,_=>false
def atB {α β : Type} (f : α->β->Bool) (xs:List α) (ys:List β) (j:Nat):Bool:=match xs[j]?,ys[j]? with
 | some x,some y=>f x y
 | _,_=>true
theorem Jcf {α β : Type} (f : α->β->Bool):∀ (xs:List α) (ys:List β),
  ((List.range (min xs.length ys.length)).all (atB f xs ys)&&(xs.length == ys.length))=Jce f xs ys
 | [],[]=>by simp [Jce]
 | [],_::_=>by simp [Jce]
 | _::_,[]=>by simp [Jce]
 | x::xs,y::ys=>by
  have ih:=Jcf f xs ys;simp only [Jce,length_cons];rw [<- ih,Nat.succ_min_succ,List.range_succ_eq_map,List.all_cons,List.all_map];have e:((List.range (min xs.length ys.length)).all (atB f (x::xs) (y::ys) ∘ Nat.succ))=(List.range (min xs.length ys.length)).all (atB f xs ys):=by
   congr 1
  rw [e];have e0:atB f (x::xs) (y::ys) 0=f x y:=by unfold atB;simp
  rw [e0,Bool.and_assoc]
  congr 2
  simp
theorem Jfk:∀ xs ys:List D,eqL xs ys=Jce eqD xs ys
 | [],[]=>by simp [eqL,Jce]
 | [],_::_=>by simp [eqL,Jce]
 | _::_,[]=>by simp [eqL,Jce]
 | x::xs,y::ys=>by simp only [eqL,Jce,Jfk xs ys]
theorem JfW:∀ {ds:List D} {d:D},d∈ds->depD d<=depL ds
 | [],_,h=>by simp at h
 | x::xs,d,h=>by
  simp only [depL];rcases mem_cons.mp h with rfl | h
  ·exact Nat.le_max_left ..
  ·exact Nat.le_trans (JfW h) (Nat.le_max_right ..)
def flatD:D->Bool
 | .tup _=>false
 | .lst _=>false
 | _=>true
def valD:D->V
 | .bl b=>.bl b
 | .int i=>.int i
 | .str x=>.str x
 | _=>.non
theorem Jek {K:W.Frag} {H:Hp} {d:D} {v:V} (f:flatD d=true) (h:Rep K H d v):v=valD d:=by
 cases d <;> simp_all [flatD,Rep,valD]
theorem Jf0 {d:D} (f:flatD d=true):flatV (valD d)=true:=by
 cases d <;> simp_all [flatD,valD,flatV]
theorem Jjq {d e:D} (f:flatD d=true) (g:flatD e=true):eqV (valD d) (valD e)=eqD d e:=by
 cases d <;> cases e <;> simp_all [flatD,valD,eqV,eqD]
section
variable {X:Cx} {pins:List (Addr × Obj)} {σ : St} {H:Hp} {s:Shared}
theorem in1_units (A:Around):A.in1.units=A.units+1:=rfl
def EqP (X:Cx) (H:Hp) (s:Shared) (n:Nat):Prop:=∀ (d e:D) (A:Around) (x y:V) (u v:Value),depD d<=n->Rep X.K H d x->Rep X.K H e y->RelV x u->RelV y v->A.units+n<cLine->SeqAt.EqAt A s u v (eqD d e)
theorem Jf6 {n:Nat} (ih:EqP X H s n) {ds es:List D} {xs ys:List V} {its jts:List Value} (h3:RepL X.K H ds xs) (g3:RepL X.K H es ys) (vi:Vals xs its) (vj:Vals ys jts) (hds:depL ds<=n) {A:Around} (hA:A.units+n<cLine) :
  ∀ j (p1:j<its.toArray.size) (p2:j<jts.toArray.size),SeqAt.EqAt A s its.toArray[j] jts.toArray[j] (atB eqD ds es j):=by
 intro j p1 p2;have f:its.length=ds.length:=by rw [h3.length,vi.length]
 have i:jts.length=es.length:=by rw [g3.length,vj.length]
 have a:j<ds.length:=by rw [<- f];simpa using p1
 have b:j<es.length:=by rw [<- i];simpa using p2
 obtain ⟨v,q,o⟩:=h3.get (List.getElem?_eq_getElem a);obtain ⟨u,c,h⟩:=g3.get (List.getElem?_eq_getElem b);obtain ⟨k,l,r⟩:=vi.get q;obtain ⟨t,e,m⟩:=vj.get c;have d:its.toArray[j]=k:=by
  have:=l;rw [List.getElem?_eq_getElem (by simpa using p1)] at this;simpa using this
 have p:jts.toArray[j]=t:=by
  have:=e;rw [List.getElem?_eq_getElem (by simpa using p2)] at this;simpa using this
 rw [d,p];have g:atB eqD ds es j=eqD ds[j] es[j]:=by
  unfold atB;rw [List.getElem?_eq_getElem a,List.getElem?_eq_getElem b]
 rw [g];exact ih _ _ _ _ _ _ _ (Nat.le_trans (JfW (List.getElem_mem a)) hds) o h r m hA
theorem JkY (I:Inv X pins σ H s) {n:Nat} (ih:EqP X H s n) {ds es:List D} {a b:Addr} {xs ys:List V} (h2:SqT X.K H a xs) (h3:RepL X.K H ds xs) (g2:SqT X.K H b ys) (g3:RepL X.K H es ys) (hds:depL ds<=n) {A:Around} (hA:A.units+(n+1)<cLine) :
  SeqAt.RcAt A s (.ref a) (.ref b) (eqD (.tup ds) (.tup es))/\SeqAt.RcNeAt A s (.ref a) (.ref b) (!eqD (.tup ds) (.tup es)):=by
 obtain ⟨d,g,e,_⟩:=I.tuple h2;obtain ⟨c,i,h,_⟩:=I.tuple g2;have k:d.length=ds.length:=by rw [h3.length,g.length]
 have j:c.length=es.length:=by rw [g3.length,i.length]
 have f:=Jf6 ih h3 g3 g i hds (A:=A.in1) (by rw [in1_units];ac_nf);have l:eqD (.tup ds) (.tup es)=((List.range (min d.toArray.size c.toArray.size)).all (atB eqD ds es)&&d.toArray.size == c.toArray.size):=by
  simp only [eqD,Jfk];rw [<- Jcf];simp only [size_toArray,k,j]
 rw [l];exact ⟨SeqAt.RcAt.tuples e h ∅ f,SeqAt.RcNeAt.tuples e h ∅ f⟩
theorem Jkw (I:Inv X pins σ H s) {n:Nat} (ih:EqP X H s n) {ds es:List D} {a b:Addr} {xs ys:List V} (h2:SqL X.K H a xs) (h3:RepL X.K H ds xs) (g2:SqL X.K H b ys) (g3:RepL X.K H es ys) (hds:depL ds<=n) {A:Around} (hA:A.units+(n+1)<cLine) :
  SeqAt.RcAt A s (.ref a) (.ref b) (eqD (.lst ds) (.lst es))/\SeqAt.RcNeAt A s (.ref a) (.ref b) (!eqD (.lst ds) (.lst es)):=by
 obtain ⟨d,l,f,_⟩:=I.list h2;obtain ⟨i,m,h,_⟩:=I.list g2;have e:d.length=ds.length:=by rw [h3.length,l.length]
 have g:i.length=es.length:=by rw [g3.length,m.length]
 have k:=Jf6 ih h3 g3 l m hds (A:=A.in1) (by rw [in1_units];ac_nf);by_cases c:ds.length=es.length
 ·have j:eqD (.lst ds) (.lst es)=(List.range d.toArray.size).all (atB eqD ds es):=by
   simp only [eqD,Jfk];rw [<- Jcf];simp [e,c]
  rw [j];exact ⟨SeqAt.RcAt.lists f.isList h.isList (by simp [e,g,c]) ∅ k,SeqAt.RcNeAt.lists f.isList h.isList (by simp [e,g,c]) ∅ k⟩
 ·have j:eqD (.lst ds) (.lst es)=false:=by
   cases q:eqD (.lst ds) (.lst es) with
   | false=>rfl
   | true=>simp only [eqD] at q;exact absurd (JdL q) c
  rw [j];exact ⟨SeqAt.RcAt.lists_lengths f.isList h.isList (by simp [e,g,c]) ∅,SeqAt.RcNeAt.lists_lengths f.isList h.isList (by simp [e,g,c]) ∅⟩
theorem Jct {K:W.Frag} {d:D} {x:V} (h:Rep K H d x):(flatD d=true/\x=valD d)\/(∃ ds a xs,d=.tup ds/\x=.ref a/\SqT K H a xs/\RepL K H ds xs)\/∃ ds a xs,d=.lst ds/\x=.ref a/\SqL K H a xs/\RepL K H ds xs:=by
 cases d with
 | tup ds=>simp only [Rep] at h;obtain ⟨a,xs,e,c,b⟩:=h;exact .inr (.inl ⟨ds,a,xs,rfl,e,c,b⟩)
 | lst ds=>simp only [Rep] at h;obtain ⟨a,xs,e,c,b⟩:=h;exact .inr (.inr ⟨ds,a,xs,rfl,e,c,b⟩)
 | _=>exact .inl ⟨rfl,Jek rfl h⟩
theorem Jcj (I:Inv X pins σ H s) {d e:D} {x y:V} {u v:Value} (hd:Rep X.K H d x) (he:Rep X.K H e y) (ru:RelV x u) (rv:RelV y v) (m:flatD d=!flatD e) {A:Around} (hA:A.units<cLine) :
  eqD d e=false/\SeqAt.EqAt A s u v false/\SeqAt.RcAt A s u v false/\SeqAt.RcNeAt A s u v true:=by
 rcases Jct hd with ⟨fd,rfl⟩ | ⟨ds,a,xs,rfl,rfl,h2,h3⟩ | ⟨ds,a,xs,rfl,rfl,h2,h3⟩
 ·rcases Jct he with ⟨fe,rfl⟩ | ⟨es,b,ys,rfl,rfl,g2,g3⟩ | ⟨es,b,ys,rfl,rfl,g2,g3⟩
  ·rw [fd,fe] at m;cases m
  ·obtain rfl:v=Value.ref b:=rv;obtain ⟨f,g,c,_⟩:=I.tuple g2;refine ⟨by cases d <;> simp [eqD,flatD] at fd ⊢,?_⟩;cases d <;> simp only [valD,RelV] at ru <;> first | (simp [flatD] at fd;done) | skip
   ·subst ru;exact ⟨SeqAt.EqAt.none_tuple c hA,SeqAt.RcAt.none_tuple c hA,SeqAt.RcNeAt.none_tuple c hA⟩
   ·subst ru;exact ⟨SeqAt.EqAt.bool_tuple _ c hA,SeqAt.RcAt.bool_tuple _ c hA,SeqAt.RcNeAt.bool_tuple _ c hA⟩
   ·obtain ⟨t,rfl⟩:=ru;exact ⟨SeqAt.EqAt.int_tuple _ _ c hA,SeqAt.RcAt.int_tuple _ _ c hA,SeqAt.RcNeAt.int_tuple _ _ c hA⟩
   ·obtain ⟨t,rfl⟩:=ru;exact ⟨SeqAt.EqAt.str_tuple _ _ c hA,SeqAt.RcAt.str_tuple _ _ c hA,SeqAt.RcNeAt.str_tuple _ _ c hA⟩
  ·obtain rfl:v=Value.ref b:=rv;obtain ⟨f,g,c,_⟩:=I.list g2;have c:=c.isList;refine ⟨by cases d <;> simp [eqD,flatD] at fd ⊢,?_⟩;cases d <;> simp only [valD,RelV] at ru <;> first | (simp [flatD] at fd;done) | skip
   ·subst ru;exact ⟨SeqAt.EqAt.none_list c hA,SeqAt.RcAt.none_list c hA,SeqAt.RcNeAt.none_list c hA⟩
   ·subst ru;exact ⟨SeqAt.EqAt.bool_list _ c hA,SeqAt.RcAt.bool_list _ c hA,SeqAt.RcNeAt.bool_list _ c hA⟩
   ·obtain ⟨t,rfl⟩:=ru;exact ⟨SeqAt.EqAt.int_list _ _ c hA,SeqAt.RcAt.int_list _ _ c hA,SeqAt.RcNeAt.int_list _ _ c hA⟩
   ·obtain ⟨t,rfl⟩:=ru;exact ⟨SeqAt.EqAt.str_list _ _ c hA,SeqAt.RcAt.str_list _ _ c hA,SeqAt.RcNeAt.str_list _ _ c hA⟩
 ·rcases Jct he with ⟨fe,rfl⟩ | ⟨es,b,ys,rfl,rfl,g2,g3⟩ | ⟨es,b,ys,rfl,rfl,g2,g3⟩
  ·obtain rfl:u=Value.ref a:=ru;obtain ⟨f,g,c,_⟩:=I.tuple h2;refine ⟨by cases e <;> simp [eqD,flatD] at fe ⊢,?_⟩;cases e <;> simp only [valD,RelV] at rv <;> first | (simp [flatD] at fe;done) | skip
   ·subst rv;exact ⟨SeqAt.EqAt.tuple_none c hA,SeqAt.RcAt.tuple_none c hA,SeqAt.RcNeAt.tuple_none c hA⟩
   ·subst rv;exact ⟨SeqAt.EqAt.tuple_bool _ c hA,SeqAt.RcAt.tuple_bool _ c hA,SeqAt.RcNeAt.tuple_bool _ c hA⟩
   ·obtain ⟨t,rfl⟩:=rv;exact ⟨SeqAt.EqAt.tuple_int _ _ c hA,SeqAt.RcAt.tuple_int _ _ c hA,SeqAt.RcNeAt.tuple_int _ _ c hA⟩
   ·obtain ⟨t,rfl⟩:=rv;exact ⟨SeqAt.EqAt.tuple_str _ _ c hA,SeqAt.RcAt.tuple_str _ _ c hA,SeqAt.RcNeAt.tuple_str _ _ c hA⟩
  ·simp [flatD] at m
  ·simp [flatD] at m
 ·rcases Jct he with ⟨fe,rfl⟩ | ⟨es,b,ys,rfl,rfl,g2,g3⟩ | ⟨es,b,ys,rfl,rfl,g2,g3⟩
  ·obtain rfl:u=Value.ref a:=ru;obtain ⟨f,g,c,_⟩:=I.list h2;have c:=c.isList;refine ⟨by cases e <;> simp [eqD,flatD] at fe ⊢,?_⟩;cases e <;> simp only [valD,RelV] at rv <;> first | (simp [flatD] at fe;done) | skip
   ·subst rv;exact ⟨SeqAt.EqAt.list_none c hA,SeqAt.RcAt.list_none c hA,SeqAt.RcNeAt.list_none c hA⟩
   ·subst rv;exact ⟨SeqAt.EqAt.list_bool _ c hA,SeqAt.RcAt.list_bool _ c hA,SeqAt.RcNeAt.list_bool _ c hA⟩
   ·obtain ⟨t,rfl⟩:=rv;exact ⟨SeqAt.EqAt.list_int _ _ c hA,SeqAt.RcAt.list_int _ _ c hA,SeqAt.RcNeAt.list_int _ _ c hA⟩
   ·obtain ⟨t,rfl⟩:=rv;exact ⟨SeqAt.EqAt.list_str _ _ c hA,SeqAt.RcAt.list_str _ _ c hA,SeqAt.RcNeAt.list_str _ _ c hA⟩
  ·simp [flatD] at m
  ·simp [flatD] at m
theorem seq_eq (I:Inv X pins σ H s) {n:Nat} (ih:EqP X H s n) {d e:D} {x y:V} {u v:Value} (hn:depD d<=n+1) (hd:Rep X.K H d x) (he:Rep X.K H e y) (ru:RelV x u) (rv:RelV y v) (fd:flatD d=false) (fe:flatD e=false) {A:Around} (hA:A.units+(n+1)<cLine) :
  SeqAt.EqAt A s u v (eqD d e)/\SeqAt.RcAt A s u v (eqD d e)/\SeqAt.RcNeAt A s u v (!eqD d e):=by
 have k:=hd;have j:=he;rcases Jct hd with ⟨f,_⟩ | ⟨ds,a,xs,rfl,rfl,h2,h3⟩ | ⟨ds,a,xs,rfl,rfl,h2,h3⟩
 ·rw [f] at fd;cases fd
 ·obtain rfl:u=Value.ref a:=ru;have h:depL ds<=n:=by simp only [depD] at hn;ac_nf
  rcases Jct he with ⟨f,_⟩ | ⟨es,b,ys,rfl,rfl,g2,g3⟩ | ⟨es,b,ys,rfl,rfl,g2,g3⟩
  ·rw [f] at fe;cases fe
  ·obtain rfl:v=Value.ref b:=rv;have R:=JkY I ih h2 h3 g2 g3 h hA;refine ⟨?_,R.1,R.2⟩;by_cases c:a=b
   ·subst c;rw [I.rep_inj k j,JbS];exact SeqAt.EqAt.same _
   ·exact SeqAt.EqAt.of_refs c R.1
  ·obtain rfl:v=Value.ref b:=rv;obtain ⟨m,_,g,_⟩:=I.tuple h2;obtain ⟨l,_,i,_⟩:=I.list g2;exact ⟨SeqAt.EqAt.tuple_list g i.isList ∅,SeqAt.RcAt.tuple_list g i.isList ∅,SeqAt.RcNeAt.tuple_list g i.isList ∅⟩
 ·obtain rfl:u=Value.ref a:=ru;have h:depL ds<=n:=by simp only [depD] at hn;ac_nf
  rcases Jct he with ⟨f,_⟩ | ⟨es,b,ys,rfl,rfl,g2,g3⟩ | ⟨es,b,ys,rfl,rfl,g2,g3⟩
  ·rw [f] at fe;cases fe
  ·obtain rfl:v=Value.ref b:=rv;obtain ⟨m,_,g,_⟩:=I.list h2;obtain ⟨l,_,i,_⟩:=I.tuple g2;exact ⟨SeqAt.EqAt.list_tuple g.isList i ∅,SeqAt.RcAt.list_tuple g.isList i ∅,SeqAt.RcNeAt.list_tuple g.isList i ∅⟩
  ·obtain rfl:v=Value.ref b:=rv;have R:=Jkw I ih h2 h3 g2 g3 h hA;refine ⟨?_,R.1,R.2⟩;by_cases c:a=b
   ·subst c;rw [I.rep_inj k j,JbS];exact SeqAt.EqAt.same _
   ·exact SeqAt.EqAt.of_refs c R.1
theorem Inv.eqP (I:Inv X pins σ H s):∀ n,EqP X H s n
 | 0=>fun d e A x y u v hn hd he ru rv hA=>by
  have fd:flatD d=true:=by
   cases d <;> simp [depD,flatD] at hn ⊢
  cases fe:flatD e with
  | true=>
   have ex:=Jek fd hd;have ey:=Jek fe he;subst ex ey;rw [<- Jjq fd fe];exact JiY ru rv (Jf0 fd) (Jf0 fe)
  | false=>
   obtain ⟨e1,e2,_⟩:=Jcj I hd he ru rv (by rw [fd,fe];rfl) (A:=A) ∅;rw [e1];exact e2
 | n+1=>fun d e A x y u v hn hd he ru rv hA=>by
  cases fd:flatD d with
  | true=>
   have h0:depD d<=n:=by cases d <;> simp [depD,flatD] at fd ⊢
   exact Inv.eqP I n d e A x y u v h0 hd he ru rv ∅
  | false=>
   cases fe:flatD e with
   | true=>
    obtain ⟨e1,e2,_⟩:=Jcj I hd he ru rv (by rw [fd,fe];rfl) (A:=A) ∅;rw [e1];exact e2
   | false=>exact (seq_eq I (Inv.eqP I n) hn hd he ru rv fd fe hA).1
def rEqU (K:W.Frag):R2:=fun x y H Q=>match x,y with
 | .int i, .int j=>Q (.bl (decide (i=j))) H
 | .str i, .str j=>Q (.bl (decide (i=j))) H
 | .bl i, .bl j=>Q (.bl (decide (i=j))) H
 | .non, .non=>Q (.bl true) H
 | x,y=>∃ d e,Rep K H d x/\Rep K H e y/\depD d<=50/\(flatD d&&flatD e)=false/\Q (.bl (eqD d e)) H
def rNeU (K:W.Frag):R2:=fun x y H Q=>match x,y with
 | .int i, .int j=>Q (.bl (!decide (i=j))) H
 | .str i, .str j=>Q (.bl (!decide (i=j))) H
 | .bl i, .bl j=>Q (.bl (!decide (i=j))) H
 | .non, .non=>Q (.bl false) H
 | x,y=>∃ d e,Rep K H d x/\Rep K H e y/\depD d<=50/\(flatD d&&flatD e)=false/\Q (.bl (!eqD d e)) H
theorem Jbj (hu:X.A.units+64<cLine):OpR X (compareOp .Eq) (rEqU X.K):=fun a s σ H x y v u Q I b c q=>by
 unfold rEqU at q;split at q
 ·rename_i i j;exact op_eq a s σ H _ _ v u Q I b c ⟨rfl,by rw [show decide (V.int i=V.int j)=decide (i=j) from by simp];exact q⟩
 ·rename_i i j;exact op_eq a s σ H _ _ v u Q I b c ⟨rfl,by rw [show decide (V.str i=V.str j)=decide (i=j) from by simp];exact q⟩
 ·rename_i i j;exact op_eq a s σ H _ _ v u Q I b c ⟨rfl,by rw [show decide (V.bl i=V.bl j)=decide (i=j) from by simp];exact q⟩
 ·exact op_eq a s σ H _ _ v u Q I b c ⟨rfl,by simpa using q⟩
 ·obtain ⟨d,e,f,h,m,l,q⟩:=q;show wpAny (model X.prog X.w) X.A (richCompare .Eq v u) (EP X a σ Q) X.xe s;cases fd:flatD d with
  | true=>
   cases fe:flatD e with
   | true=>rw [fd,fe] at l;cases l
   | false=>
    obtain ⟨k,_,g,_⟩:=Jcj I f h b c (by rw [fd,fe];rfl) (A:=X.A) ∅;rw [k] at q;exact g _ _ _ _ ⟨V.bl _,H,I,rfl,q⟩
  | false=>
   cases fe:flatD e with
   | true=>
    obtain ⟨k,_,g,_⟩:=Jcj I f h b c (by rw [fd,fe];rfl) (A:=X.A) ∅;rw [k] at q;exact g _ _ _ _ ⟨V.bl _,H,I,rfl,q⟩
   | false=>exact (seq_eq I (I.eqP 49) m f h b c fd fe ∅).2.1 _ _ _ _ ⟨V.bl _,H,I,rfl,q⟩
theorem JcE (hu:X.A.units+64<cLine):OpR X (compareOp .NotEq) (rNeU X.K):=fun a s σ H x y v u Q I b c q=>by
 unfold rNeU at q;split at q
 ·rename_i i j;exact op_ne a s σ H _ _ v u Q I b c ⟨rfl,by rw [show decide (V.int i=V.int j)=decide (i=j) from by simp];exact q⟩
 ·rename_i i j;exact op_ne a s σ H _ _ v u Q I b c ⟨rfl,by rw [show decide (V.str i=V.str j)=decide (i=j) from by simp];exact q⟩
 ·rename_i i j;exact op_ne a s σ H _ _ v u Q I b c ⟨rfl,by rw [show decide (V.bl i=V.bl j)=decide (i=j) from by simp];exact q⟩
 ·exact op_ne a s σ H _ _ v u Q I b c ⟨rfl,by simpa using q⟩
 ·obtain ⟨d,e,f,h,m,l,q⟩:=q;show wpAny (model X.prog X.w) X.A (richCompare .NotEq v u) (EP X a σ Q) X.xe s;cases fd:flatD d with
  | true=>
   cases fe:flatD e with
   | true=>rw [fd,fe] at l;cases l
   | false=>
    obtain ⟨k,_,_,g⟩:=Jcj I f h b c (by rw [fd,fe];rfl) (A:=X.A) ∅;rw [k] at q;exact g _ _ _ _ ⟨V.bl _,H,I,rfl,q⟩
  | false=>
   cases fe:flatD e with
   | true=>
    obtain ⟨k,_,_,g⟩:=Jcj I f h b c (by rw [fd,fe];rfl) (A:=X.A) ∅;rw [k] at q;exact g _ _ _ _ ⟨V.bl _,H,I,rfl,q⟩
   | false=>exact (seq_eq I (I.eqP 49) m f h b c fd fe ∅).2.2 _ _ _ _ ⟨V.bl _,H,I,rfl,q⟩
end
def DivOk (j:Int):Prop:=j≠0/\j.natAbs.log2<9000
section
variable {X:Cx}
def rAddU (K:W.Frag):R2:=fun x y H Q=>match x,y with
 | .int i, .int j=>Q (.int (i+j)) H
 | .str i, .str j=>i.length+j.length<=sizeLine/\Q (.str (i++j)) H
 | .ref a, .ref b=>rCat (.ref a) (.ref b) H Q\/rCatT K (.ref a) (.ref b) H Q
 | _,_=>False
theorem Ja1:OpR X (binaryOp .Add) (rAddU X.K):=fun a s σ H x y v u Q I b c q=>by
 unfold rAddU at q;split at q
 ·exact JkB a s σ H _ _ v u Q I b c ⟨_,_,rfl,rfl,q⟩
 ·exact JgE a s σ H _ _ v u Q I b c ⟨_,_,rfl,rfl,q.1,q.2⟩
 ·rcases q with q | q
  ·exact JkC a s σ H _ _ v u Q I b c q
  ·exact JjE a s σ H _ _ v u Q I b c q
 ·exact q.elim
def rMulU:R2:=fun x y H Q=>match x,y with
 | .int i, .int j=>IntMulOk i j/\Q (.int (i*j)) H
 | _,_=>False
theorem JjG:OpR X (binaryOp .Mult) (rI IntMulOk fun i j=>.int (i*j)):=opI fun _ _ _ _ _ _ _ a q=>mul_int q a
theorem JjH:OpR X (binaryOp .Mult) rMulU:=fun a s σ H x y v u Q I b c q=>by
 unfold rMulU at q;split at q
 ·exact JjG a s σ H _ _ v u Q I b c ⟨_,_,rfl,rfl,q.1,q.2⟩
 ·exact q.elim
def JhP:R2:=fun x y H Q=>match x,y with
 | .int i, .int j=>DivOk j/\Q (.int (i.fdiv j)) H
 | _,_=>False
theorem Jiu:OpR X (binaryOp .FloorDiv) (rI (fun _ j=>DivOk j) fun i j=>.int (i.fdiv j)):=opI fun _ _ _ _ _ _ _ a q=>floordiv_int a.1 q (.inl (PyProof.noPylong_of_log2 a.2))
theorem Jau:OpR X (binaryOp .FloorDiv) JhP:=fun a s σ H x y v u Q I b c q=>by
 unfold JhP at q;split at q
 ·exact Jiu a s σ H _ _ v u Q I b c ⟨_,_,rfl,rfl,q.1,q.2⟩
 ·exact q.elim
def rModU:R2:=fun x y H Q=>match x,y with
 | .int i, .int j=>j≠0/\Q (.int (i.fmod j)) H
 | _,_=>False
theorem JaA:OpR X (binaryOp .Mod) rModU:=fun a s σ H x y v u Q I b c q=>by
 unfold rModU at q;split at q
 ·exact JjF a s σ H _ _ v u Q I b c ⟨_,_,rfl,rfl,q.1,q.2⟩
 ·exact q.elim
def rPowU:R2:=fun x y H Q=>match x,y with
 | .int i, .int j=>CPow i j/\Q (.int (i ^ j.toNat)) H
 | _,_=>False
theorem JhD:OpR X (binaryOp .Pow) rPowU:=fun a s σ H x y v u Q I b c q=>by
 unfold rPowU at q;split at q
 ·exact JkH a s σ H _ _ v u Q I b c ⟨_,_,rfl,rfl,q.1,q.2⟩
 ·exact q.elim
def rCmpU (p:Int->Int->Bool):R2:=fun x y H Q=>match x,y with
 | .int i, .int j=>Q (.bl (p i j)) H
 | _,_=>False
theorem JfA {op:CmpOp} {p:Int->Int->Bool} (h:OpR X (compareOp op) (rI0 fun i j=>.bl (p i j))):OpR X (compareOp op) (rCmpU p):=fun a s σ H x y v u Q I b c q=>by
 unfold rCmpU at q;split at q
 ·exact h a s σ H _ _ v u Q I b c ⟨_,_,rfl,rfl,q⟩
 ·exact q.elim
theorem Jdo:OpR X (compareOp .Lt) (rCmpU fun i j=>decide (i<j)):=JfA op_lt
theorem JeX:OpR X (compareOp .Gt) (rCmpU fun i j=>decide (j<i)):=JfA op_gt
theorem JkE:OpR X (compareOp .GtE) (rCmpU fun i j=>decide (j<=i)):=JfA op_ge
def SqA (K:W.Frag) (H:Hp) (a:Addr) (xs:List V):Prop:=SqL K H a xs\/SqT K H a xs
def rIxU (K:W.Frag):R2:=fun x y H Q=>match x,y with
 | .ref p, .int i=>∃ xs v,SqA K H p xs/\atI xs i=some v/\Q v H
 | .str z, .int i=>∃ c,z.length<=sizeLine/\atI z.cps.toList i=some c/\Q (.str ⟨#[c]⟩) H
 | _,_=>False
theorem ix_U:IxR X (rIxU X.K):=fun b a d s σ H x y v u Q I f g q i=>by
 unfold rIxU at q;split at q
 ·obtain ⟨l,w,h | h,e,q⟩:=q
  ·exact Jjv b a d s σ H _ _ v u Q I f g ⟨_,_,_,_,rfl,rfl,h,e,q⟩ i
  ·exact Jko b a d s σ H _ _ v u Q I f g ⟨_,_,_,_,rfl,rfl,h,e,q⟩ i
 ·obtain ⟨c,k,j,q⟩:=q;exact Jkn b a d s σ H _ _ v u Q I f g ⟨_,_,_,rfl,rfl,k,j,q⟩ i
 ·exact q.elim
def rLen (K:W.Frag):List V->Hp->VK->Prop:=fun xs H Q=>match xs with
 | [.ref p]=>∃ ys,SqA K H p ys/\Q (.int ys.length) H
 | [.str z]=>z.length<=sizeLine/\Q (.int z.length) H
 | _=>False
theorem JaM:CallR X (.builtin "len") (rLen X.K):=fun a s σ H c b Q I r q=>by
 unfold rLen at q;split at q
 ·obtain ⟨d,h,q⟩:=q;exact JeD a s σ H _ b Q I r ⟨_,_,rfl,h,q⟩
 ·exact JeE a s σ H _ b Q I r ⟨_,rfl,q.1,q.2⟩
 ·exact q.elim
def rAbs:List V->Hp->VK->Prop:=fun xs H Q=>match xs with
 | [.int i]=>Q (.int (if i<0 then -i else i)) H
 | _=>False
theorem JcC:CallR X (.builtin "abs") rAbs:=fun a s σ H c b Q I r q=>by
 unfold rAbs at q;split at q
 ·exact Jia a s σ H _ b Q I r ⟨_,rfl,q⟩
 ·exact q.elim
def rMin:List V->Hp->VK->Prop:=fun xs H Q=>match xs with
 | [.int i, .int j]=>Q (.int (if j<i then j else i)) H
 | _=>False
def rSlU (K:W.Frag):V->Option Int->Option Int->Hp->VK->Prop:=fun x lo hi H Q=>rSlL K x lo hi H Q\/rSlT K x lo hi H Q
theorem sl_U:SlR X (rSlU X.K):=SlR.or Jj1 JkR
def isiB (t T:String):Bool:=t == T||(t == "bool"&&T == "int")
def tyN (K:W.Frag) (H:Hp) (x:V) (t:String):Prop:=match x with
 | .int _=>t="int"
 | .str _=>t="str"
 | .bl _=>t="bool"
 | .non=>t="NoneType"
 | .ref a=>(t="list"/\∃ xs,SqL K H a xs)\/(t="tuple"/\∃ xs,SqT K H a xs)
 | _=>False
theorem kit_b (K:W.Frag) {t T:String} (ht:t∈["int","str","bool","NoneType","list","tuple"]) (hT:T∈["int","str","bool","list","tuple"]):W.kitOne K (.type t) (.type T)=some (isiB t T):=by
 simp only [mem_cons,List.not_mem_nil,or_false] at ht hT;rcases ht with rfl | rfl | rfl | rfl | rfl | rfl <;> rcases hT with rfl | rfl | rfl | rfl | rfl <;> with_unfolding_all rfl
def rIsi (K:W.Frag):List V->Hp->VK->Prop:=fun xs H Q=>match xs with
 | [x, .ty T]=>T∈["int","str","bool","list","tuple"]/\∃ t,tyN K H x t/\Q (.bl (isiB t T)) H
 | _=>False
theorem Jaz:CallR X (.builtin "isinstance") (rIsi X.K):=fun f s σ H n v Q I r q=>by
 unfold rIsi at q;split at q
 ·rename_i x T;obtain ⟨e,t,d,q⟩:=q;obtain ⟨u,c,rfl,g,m⟩:=vals2 r;obtain rfl:c=Value.type T:=m;have b:∀ j,EP X f σ Q (.bool (isiB t T)) { s with toks:=j }:=fun j=>⟨V.bl _,H,I.tok j,rfl,q⟩;unfold tyN at d;split at d
  ·subst d;obtain ⟨_,rfl⟩:=g;exact W.kia_one W.kitx_int I.kIn True.intro (kit_b _ ⋯ e) (fun z=>nomatch z) b
  ·subst d;obtain ⟨_,rfl⟩:=g;exact W.kia_one W.kitx_str I.kIn True.intro (kit_b _ ⋯ e) (fun z=>nomatch z) b
  ·subst d;cases (show u=Value.bool _ from g);exact W.kia_one W.kitx_bool I.kIn True.intro (kit_b _ ⋯ e) (fun z=>nomatch z) b
  ·subst d;cases (show u=Value.none from g);exact W.kia_one W.kitx_none I.kIn True.intro (kit_b _ ⋯ e) (fun z=>nomatch z) b
  ·rename_i a;cases (show u=Value.ref a from g);rcases d with ⟨rfl,ys,h⟩ | ⟨rfl,ys,h⟩
   ·obtain ⟨k,_,p,_⟩:=I.list h;obtain ⟨o,_,l,i,_⟩:=p;exact W.kia_one W.kitx_list I.kIn ⟨o,l,i⟩ (kit_b _ ⋯ e) (fun z=>nomatch z) b
   ·obtain ⟨k,_,p,_⟩:=I.tuple h;obtain ⟨o,l,i,_⟩:=p;exact W.kia_one W.kitx_tuple I.kIn ⟨o,l,i⟩ (kit_b _ ⋯ e) (fun z=>nomatch z) b
  ·exact d.elim
 ·exact q.elim
end
section
variable {X:Cx} {tg:Expr}
def iAny (K:W.Frag) (tl:TE):TI:=fun σ H R=>tl σ H fun x H1=>∃ a,x=.ref a/\(((∃ xs,SqL K H1 a xs)/\R (Itl K a) H1)\/((∃ xs,SqT K H1 a xs)/\R (Itt K a) H1))
theorem pi_U {l:Expr} {tl:TE} (hl:PE X l tl):PI X tg l (iAny X.K tl):=fun d s σ H R I h=>by
 refine thn (hl d s σ H _ I h) fun v c ζ=>?_;obtain ⟨x,i,I1,n,a,k,q⟩:=ζ;subst k;cases n;rcases q with ⟨⟨xs,hq⟩,q⟩ | ⟨⟨xs,hq⟩,q⟩
 ·obtain ⟨f,j,p,m⟩:=I1.list hq;refine wpAny_pyIter_list p.isList ?_;refine ⟨c.heap.objs.size,[c.heap.objs.size],_,_,i,rfl,I1.kept (t':=c.toks) fun b o e=>Heap.get?_push_of_some _ e,Jh4 a _,⟨_,Heap.get?_push_size _ rfl,rfl,rfl⟩,fun b g=>?_,q⟩;have e:b=c.heap.objs.size:=by simpa using g
  subst e;exact I1.fpOk (Nat.le_refl _) (I1.hok.fresh (Nat.le_refl _))
 ·obtain ⟨f,j,p,m⟩:=I1.tuple hq;refine wpAny_pyIter_tuple (show c.heap.IsTuple a f.toArray from p) ?_;refine ⟨c.heap.objs.size,[c.heap.objs.size],_,_,i,rfl,I1.kept (t':=c.toks) fun b o e=>Heap.get?_push_of_some _ e,JgN a _,⟨_,Heap.get?_push_size _ rfl,rfl,rfl⟩,fun b g=>?_,q⟩;have e:b=c.heap.objs.size:=by simpa using g
  subst e;exact I1.fpOk (Nat.le_refl _) (I1.hok.fresh (Nat.le_refl _))
end
structure FunD (K:W.Frag) (x qual:Str) (st:Stmt) (dV:Value) (f:Addr) (fd:FuncData):Prop where
 ex:∃ (oc:Value) (od:Option Addr) (kV doc pm:Value) (an:Option Addr) (cdv ct:Value) (osl:Array (Option Value)),
  fd=W.fnOf x qual (Jal st) (Jak st) (Jae st) dV kV doc pm an cdv ct/\K.lookup f=some ⟨oc,od, .func fd,osl⟩/\W.codeIn K cdv qual=true
 kp:W.keepIn K (.ref f)=true
section
variable {P:Program} {w:World} {K:W.Frag} {mg:Str->Option Value} {base:Heap}
theorem FunD.okn {x qual:Str} {st:Stmt} {dV:Value} {f:Addr} {fd:FuncData} {N ps:List Str} {k:Nat} {sp:Sp} (F:FunD K x qual st dV f fd) (S:Jan N ps (Jae st)) (len:∀ vs H Q E,sp vs H Q E->vs.length=ps.length)
  (hbody:∀ (cdv:Value) (A:Around) (outer:List Env) (s:Shared) (H:Hp) (vs:List V) (Q:VK) (E:XK),Room k (A.deeper (envOfC qual (Jae st) s.heap.objs.size f cdv))->sp vs H Q E ->
   ∃ t,PSs (cxOf (CX1 P w) P w K mg base N qual (Jae st) f cdv A outer s H E).nox (Jak st) t/\t { nx:=fun _ H'=>Q .non H',rt:=Q } (start N vs) H):FnOk P w K mg base (CX1 P w) (k+1) f fd ps sp:=by
 obtain ⟨l,m,kV,c,j,i,cdv,g,d,rfl,lk,a⟩:=F.ex;refine fn_of lk a S len fun A outer s H vs Q E e b=>?_;obtain ⟨t,h,q⟩:=hbody cdv A outer s H vs Q E e b;exact ⟨t,h.nox,q⟩
theorem FunD.okx {x qual:Str} {st:Stmt} {dV:Value} {f:Addr} {fd:FuncData} {N ps:List Str} {k:Nat} {sp:Sp} (F:FunD K x qual st dV f fd) (S:Jan N ps (Jae st)) (len:∀ vs H Q E,sp vs H Q E->vs.length=ps.length)
  (hbody:∀ (cdv:Value) (A:Around) (outer:List Env) (s:Shared) (H:Hp) (vs:List V) (Q:VK) (E:XK),Room k (A.deeper (envOfC qual (Jae st) s.heap.objs.size f cdv))->sp vs H Q E ->
   ∃ t,PSs (cxOf (CX1 P w) P w K mg base N qual (Jae st) f cdv A outer s H E) (Jak st) t/\t { nx:=fun _ H'=>Q .non H',rt:=Q } (start N vs) H):FnOk P w K mg base (CX1 P w) (k+1) f fd ps sp:=by
 obtain ⟨h,j,kV,c,l,g,cdv,i,e,rfl,lk,a⟩:=F.ex;exact fn_of lk a S len fun A outer s H vs Q E d b=>hbody cdv A outer s H vs Q E d b
theorem FunD.binds {x qual:Str} {st:Stmt} {dV:Value} {f:Addr} {fd:FuncData} {ps:List Str} (F:FunD K x qual st dV f fd)
  (h:∀ (kV doc pm:Value) (an:Option Addr) (cdv ct:Value) (us:List Value),us.length=ps.length->bindArgs (W.fnOf x qual (Jal st) (Jak st) (Jae st) dV kV doc pm an cdv ct) ⟨us,[]⟩=pure (ps.zip us)):Binds K fd ps []:=by
 obtain ⟨c,d,kV,doc,pm,an,cdv,ct,b,rfl,lk,a⟩:=F.ex;exact .all (h kV doc pm an cdv ct)
theorem FunD.bindsD {x qual:Str} {st:Stmt} {T:Addr} {f:Addr} {fd:FuncData} {ps:List Str} {o:Obj} {items:Array Value} {n:Nat} (F:FunD K x qual st (.ref T) f fd) (hT:K.lookup T=some o) (hs:o.data=.seq items n) (ds:List Value)
  (h:∀ (kV doc pm:Value) (an:Option Addr) (cdv ct:Value) (us:List Value),(us++ds).length=ps.length->∃ k,bindArgs (W.fnOf x qual (Jal st) (Jak st) (Jae st) (.ref T) kV doc pm an cdv ct) ⟨us,[]⟩=seqItems? (.ref T) >>= k/\k (some items)=pure (ps.zip (us++ds))):Binds K fd ps ds:=by
 obtain ⟨g,i,kV,doc,pm,an,cdv,ct,c,rfl,lk,b⟩:=F.ex;intro s us X a;obtain ⟨k,e,d⟩:=h kV doc pm an cdv ct us a;exact BindsTo.of_defaults (T:=T) rfl (X _ _ hT) hs e d
theorem Jap {x qual:Str} {st:Stmt} {dV:Value} {f:Addr} {oc:Value} {od an:Option Addr} {osl:Array (Option Value)} {kV doc pm cdv ct:Value} (l:K.lookup f=some ⟨oc,od, .func (W.fnOf x qual (Jal st) (Jak st) (Jae st) dV kV doc pm an cdv ct),osl⟩)
  (c:W.codeIn K cdv qual=true) (k:W.keepIn K (.ref f)=true):FunD K x qual st dV f (W.fnOf x qual (Jal st) (Jak st) (Jae st) dV kV doc pm an cdv ct):=⟨⟨oc,od,kV,doc,pm,an,cdv,ct,osl,rfl,l,c⟩,k⟩
end
structure Cal (P:Program) (w:World) (K:W.Frag) (mg:Str->Option Value) (base:Heap) (k:Nat) (x:Str) (ps:List Str) (dvs:List V) (sp:Sp):Prop where
 ex:∃ (f:Addr) (fd:FuncData) (ds:List Value),FnOk P w K mg base (CX1 P w) k f fd ps sp/\mg x=some (.ref f)/\W.keepIn K (.ref f)=true/\Binds K fd ps ds/\Vals dvs ds
section
variable {X:Cx} {k k':Nat} {x:Str} {ps:List Str} {dvs:List V} {sp:Sp} {E:XK} {p pos:Pos} {e:Expr} {es:List Expr} {t:TA}
theorem Cal.ev (G:Cal X.prog X.w X.K X.mg X.base k x ps dvs sp) (hr:Room k' X.A) (hk:k<=k') (hg:Gl X x) (hx:JbI (CX1 X.prog X.w) X E) (ha:PA X (e::es) t)
  (hdb:(x == ("__debug__" : Str))=false:=by decide) (he:starEach (e::es) X.env=(false,eval e X.env)::starEach es X.env:=by rfl) (hpl:(backTo pos (starEach es X.env)).any (·.1)=false:=by rfl) :
  PE X (.Call (.Name x p) (e::es) [] pos) (tCall sp dvs E t):=by
 obtain ⟨f,h,g,F,a,d,b,c⟩:=G.ex;exact JjK F (hr.mono hk) hg a d b c hx ha hdb he hpl
end
end L2
namespace Mth
def g (a b:Int):Int:=(Int.gcd a b:Nat)
theorem Ji1 (a:Int):g a 0=(a.natAbs:Int):=by unfold g;rw [Int.gcd_zero_right]
theorem g_pos {a b:Int} (h:b≠0):0<g a b:=by
 unfold g;exact Int.natCast_pos.mpr (Int.gcd_pos_of_ne_zero_right a h)
theorem Jde (a b:Int):g a b∣a:=Int.gcd_dvd_left ..
theorem JcD (a b:Int):g a b∣b:=Int.gcd_dvd_right ..
theorem Jkk (a b:Int):g b (a % b)=g a b:=by
 unfold g;rw [Int.gcd_comm b (a % b)];first
  | rw [Int.gcd_emod_left]
  | (rw [Int.emod_def];simp [Int.gcd_comm])
theorem Bb5 (a b:Int):g (if a<0 then -a else a) (if b<0 then -b else b)=g a b:=by
 unfold g;split <;> split <;> simp [Int.neg_gcd,Int.gcd_neg]
theorem JfQ (a:Int):0<=(if a<0 then -a else a):=by split <;> ac_nf
theorem g_le {a b:Int} (h:b≠0):g a b<=(b.natAbs:Int):=by
 unfold g;exact Int.ofNat_le.mpr (Nat.le_of_dvd ∅ (Int.natAbs_dvd_natAbs.mpr (by simpa using Int.gcd_dvd_right (a:=a) (b:=b)) |> fun z=>by simpa using z))
theorem fm {x y:Int} (h:0<y):0<=x.fmod y/\x.fmod y<y:=by
 rw [Int.fmod_eq_emod_of_nonneg _ ∅];exact ⟨Int.emod_nonneg _ ∅,Int.emod_lt_of_pos _ h⟩
theorem Jhf {x y:Int} (h:0<y):g y (x.fmod y)=g x y:=by
 rw [Int.fmod_eq_emod_of_nonneg _ ∅];exact Jkk x y
def by_ (t b:Int):Int:=if b<0 then -(g t b) else g t b
def top (t b:Int):Int:=t.fdiv (by_ t b)
def bot (t b:Int):Int:=b.fdiv (by_ t b)
theorem by_ne {t b:Int} (h:b≠0):by_ t b≠0:=by
 have:=g_pos (a:=t) h;unfold by_;split <;> ac_nf
theorem Jjl (t b:Int):by_ t b∣t:=by
 unfold by_;split
 ·exact Int.neg_dvd.mpr (Jde t b)
 ·exact Jde t b
theorem Jjm (t b:Int):by_ t b∣b:=by
 unfold by_;split
 ·exact Int.neg_dvd.mpr (JcD t b)
 ·exact JcD t b
theorem Ja4 {a d:Int} (h:d∣a) (hd:d≠0):a.fdiv d*d=a:=by
 obtain ⟨k,rfl⟩:=h;rw [Int.mul_comm d k,Int.mul_fdiv_cancel _ hd]
theorem JfP {t b:Int} (h:b≠0):top t b*by_ t b=t:=Ja4 (Jjl t b) (by_ne h)
theorem JdV {t b:Int} (h:b≠0):bot t b*by_ t b=b:=Ja4 (Jjm t b) (by_ne h)
theorem JbO {t b:Int} (h:b≠0):1<=bot t b:=by
 have c:=JdV (t:=t) h;have f:=g_pos (a:=t) h;by_cases d:b<0
 ·have e:by_ t b = -(g t b):=by unfold by_;rw [if_pos d]
  rw [e] at c;have i:bot t b*g t b = -b:=by rw [Int.mul_neg] at c;ac_nf
  rcases Int.lt_trichotomy (bot t b) 0 with z | z | z
  ·have:=Int.mul_neg_of_neg_of_pos z f;ac_nf
  ·rw [z] at i;ac_nf
  ·ac_nf
 ·have e:by_ t b=g t b:=by unfold by_;rw [if_neg d]
  rw [e] at c;rcases Int.lt_trichotomy (bot t b) 0 with z | z | z
  ·have:=Int.mul_neg_of_neg_of_pos z f;ac_nf
  ·rw [z] at c;ac_nf
  ·ac_nf
theorem cross {t b:Int} (h:b≠0):top t b*b=t*bot t b:=by
 have c:=JfP (t:=t) h;have a:=JdV (t:=t) h
 calc top t b*b=top t b*(bot t b*by_ t b):=by rw [a]
  _=(top t b*by_ t b)*bot t b:=by rw [Int.mul_comm (bot t b),Int.mul_assoc]
  _=t*bot t b:=by rw [c]
theorem Jhu (t b:Int):(by_ t b).natAbs=Int.gcd t b:=by
 unfold by_ g;split <;> simp
theorem g_low {t b:Int} (h:b≠0):g (top t b) (bot t b)=1:=by
 have a:0<Int.gcd t b:=Int.gcd_pos_of_ne_zero_right t h;have e:Int.gcd (top t b*by_ t b) (bot t b*by_ t b)=Int.gcd (top t b) (bot t b)*(by_ t b).natAbs:=Int.gcd_mul_right ..;rw [JfP h,JdV h,Jhu] at e;have : Int.gcd (top t b) (bot t b)=1:=by
  rcases Nat.lt_trichotomy (Int.gcd (top t b) (bot t b)) 1 with z | z | z
  ·have : Int.gcd (top t b) (bot t b)=0:=by ac_nf
   rw [this] at e;ac_nf
  ·exact z
  ·have:=Nat.mul_le_mul_right (Int.gcd t b) z;ac_nf
 unfold g;rw [this];rfl
theorem JdJ {a b d:Int} (g1:Int.gcd a b=1) (h:b∣a*d):b∣d:=by
 have e:b.natAbs∣a.natAbs*d.natAbs:=by rw [<- Int.natAbs_mul];exact Int.natAbs_dvd_natAbs.mpr h
 have c:Nat.Coprime b.natAbs a.natAbs:=by
  unfold Nat.Coprime;rw [Nat.gcd_comm];exact g1
 exact Int.natAbs_dvd_natAbs.mp (c.dvd_of_dvd_mul_left e)
theorem JdO {a b c d:Int} (hb:1<=b) (hd:1<=d) (h1:g a b=1) (h2:g c d=1) (e:a*d=c*b):a=c/\b=d:=by
 have j:Int.gcd a b=1:=by unfold g at h1;ac_nf
 have h:Int.gcd c d=1:=by unfold g at h2;ac_nf
 have f:b∣d:=by
  have : b∣a*d:=⟨c,by rw [e,Int.mul_comm]⟩;exact JdJ j this
 have i:d∣b:=by
  have : d∣c*b:=⟨a,by rw [<- e,Int.mul_comm]⟩;exact JdJ h this
 have k:b=d:=Int.dvd_antisymm ∅ ∅ f i;subst k;refine ⟨?_,rfl⟩;exact Int.eq_of_mul_eq_mul_right ∅ e
theorem JkX {t b:Int} (h:b≠0):(top t b).natAbs<=t.natAbs:=by
 have c:=JfP (t:=t) h;have d:(by_ t b).natAbs≠0:=by have:=by_ne (t:=t) h;ac_nf
 have a:=congrArg Int.natAbs c;rw [Int.natAbs_mul] at a;rw [<- a];exact Nat.le_mul_of_pos_right _ ∅
theorem bot_le {t b:Int} (h:b≠0):(bot t b).natAbs<=b.natAbs:=by
 have c:=JdV (t:=t) h;have d:(by_ t b).natAbs≠0:=by have:=by_ne (t:=t) h;ac_nf
 have a:=congrArg Int.natAbs c;rw [Int.natAbs_mul] at a
 calc (bot t b).natAbs<=(bot t b).natAbs*(by_ t b).natAbs:=Nat.le_mul_of_pos_right _ ∅
  _=b.natAbs:=a
theorem JjA {n k:Nat} (h:n<2 ^ k) (hk:k<9000):n.log2<9000:=by
 by_cases z:n=0
 ·rw [z];decide
 ·exact Nat.lt_trans ((Nat.log2_lt z).mpr h) hk
def Sz (n:Nat) (i:Int):Prop:=i.natAbs<2 ^ n
theorem Sz.mono {m n:Nat} {i:Int} (h:Sz m i) (k:m<=n):Sz n i:=Nat.lt_of_lt_of_le h (Nat.pow_le_pow_right ⋯ k)
theorem Sz.mul {m n:Nat} {i j:Int} (h:Sz m i) (k:Sz n j):Sz (m+n) (i*j):=by
 unfold Sz at *;rw [Int.natAbs_mul,Nat.pow_add];exact Nat.mul_lt_mul'' h k
theorem Sz.add {n:Nat} {i j:Int} (h:Sz n i) (k:Sz n j):Sz (n+1) (i+j):=by
 unfold Sz at *;have:=Int.natAbs_add_le i j;rw [Nat.pow_succ];ac_nf
theorem Sz.neg {n:Nat} {i:Int} (h:Sz n i):Sz n (-i):=by
 unfold Sz at *;rw [Int.natAbs_neg];exact h
theorem Sz.top {n:Nat} {t b:Int} (hb:b≠0) (h:Sz n t):Sz n (Mth.top t b):=Nat.lt_of_le_of_lt (JkX hb) h
theorem Sz.bot {n:Nat} {t b:Int} (hb:b≠0) (h:Sz n b):Sz n (Mth.bot t b):=Nat.lt_of_le_of_lt (bot_le hb) h
theorem Sz.lit {n:Nat} {i:Int} (h1 : -(2 ^ n)<i) (h2:i<2 ^ n):Sz n i:=by
 unfold Sz;have e:((2 ^ n:Nat):Int)=2 ^ n:=by simp
 ac_nf
end Mth
namespace Mth
theorem Jf3 {a b:Int} (h:g a b=1):Int.gcd a b=1:=by unfold g at h;ac_nf
theorem Jig {a b:Int} (h:Int.gcd a b=1):g a b=1:=by unfold g;rw [h];rfl
theorem JdY {t x y:Int} (h1:Int.gcd t x=1) (h2:Int.gcd t y=1):Int.gcd t (x*y)=1:=by
 unfold Int.gcd at *;rw [Int.natAbs_mul];exact Nat.Coprime.mul_right h1 h2
theorem JdH {x y:Int} (h:∀ k:Int,k∣x->k∣y->k∣1):Int.gcd x y=1:=by
 have:=h (Int.gcd x y:Nat) (Int.gcd_dvd_left ..) (Int.gcd_dvd_right ..);have z:=Int.natAbs_dvd_natAbs.mpr this;simp at z;exact z
theorem JdK {k x y:Int} (h:Int.gcd x y=1) (h1:k∣x) (h2:k∣y):k∣1:=by
 have z:=Int.dvd_coe_gcd h1 h2;rw [h] at z;exact z
theorem JdZ {t u x:Int} (h:Int.gcd t x=1) (d:u∣t):Int.gcd u x=1:=JdH fun k a b=>JdK h (Int.dvd_trans a d) b
theorem JbQ {x y:Int} (h:Int.gcd x y=1):Int.gcd y x=1:=by rw [Int.gcd_comm];exact h
theorem JgW {a b c d:Int} (h1:Int.gcd a b=1) (h2:Int.gcd d b=1):Int.gcd (a*d+c*b) b=1:=by
 have : Int.gcd b (a*d)=1:=JdY (JbQ h1) (JbQ h2);refine JdH fun k g f=>JdK this f ?_;have : k∣(a*d+c*b)-c*b:=Int.dvd_sub g (Int.dvd_mul_of_dvd_right f);have e:(a*d+c*b)-c*b=a*d:=by ac_nf
 rwa [e] at this
theorem Jc4 {a d:Int} (h:d∣a) (hd:1<=d) (ha:1<=a):1<=a.fdiv d:=by
 have e:=Ja4 h ∅;rcases Int.lt_trichotomy (a.fdiv d) 0 with z | z | z
 ·have:=Int.mul_neg_of_neg_of_pos z (show 0<d by ac_nf);ac_nf
 ·rw [z] at e;ac_nf
 ·ac_nf
theorem JfV {b d s:Int} (hs:s=g b d) (p:1<=s):Int.gcd (b.fdiv s) (d.fdiv s)=1:=by
 have c:b.fdiv s*s=b:=Ja4 (by rw [hs];exact Jde ..) ∅;have a:d.fdiv s*s=d:=Ja4 (by rw [hs];exact JcD ..) ∅;have e:Int.gcd (b.fdiv s*s) (d.fdiv s*s)=Int.gcd (b.fdiv s) (d.fdiv s)*s.natAbs:=Int.gcd_mul_right ..;rw [c,a] at e;have f:Int.gcd b d=s.natAbs:=by rw [hs];unfold g;simp
 rw [f] at e;rcases Nat.lt_trichotomy (Int.gcd (b.fdiv s) (d.fdiv s)) 1 with z | z | z
 ·have : Int.gcd (b.fdiv s) (d.fdiv s)=0:=by ac_nf
  rw [this] at e;ac_nf
 ·exact z
 ·have:=Nat.mul_le_mul_right s.natAbs z;ac_nf
theorem JjR {a b c d:Int} (hb:1<=b) (hd:1<=d) (h1:g a b=1) (h2:g c d=1) {s t r:Int} (hs:s=g b d) (ht:t=a*d.fdiv s+c*b.fdiv s) (hr:r=g t s) :
  t.fdiv r=top (a*d+c*b) (b*d)/\b.fdiv s*d.fdiv r=bot (a*d+c*b) (b*d):=by
 have n:1<=s:=by rw [hs];have:=g_pos (a:=b) (b:=d) ∅;ac_nf
 have A:1<=r:=by rw [hr];have:=g_pos (a:=t) (b:=s) ∅;ac_nf
 have z:s∣b:=by rw [hs];exact Jde ..
 have p:s∣d:=by rw [hs];exact JcD ..
 have G:r∣t:=by rw [hr];exact Jde ..
 have w:r∣s:=by rw [hr];exact JcD ..
 have y:r∣d:=Int.dvd_trans w p;have m:=Ja4 z ∅;have u:=Ja4 p ∅;have x:=Ja4 G ∅;have B:=Ja4 y ∅;have E:=Ja4 w ∅;have M:=Jc4 z n hb;have N:=Jc4 p n hd;have I:=Jc4 y A hd;have f:=JfV hs n;have o:Int.gcd (t.fdiv r) (s.fdiv r)=1:=JfV hr A;have l:d.fdiv r=d.fdiv s*s.fdiv r:=by
  refine Int.eq_of_mul_eq_mul_right (a:=r) ∅ ?_;rw [B,Int.mul_assoc,E,u]
 have H:Int.gcd a (b.fdiv s)=1:=JbQ (JdZ (JbQ (Jf3 h1)) ⟨s,m.symm⟩);have L:Int.gcd c (d.fdiv s)=1:=JbQ (JdZ (JbQ (Jf3 h2)) ⟨s,u.symm⟩);have J:Int.gcd t (b.fdiv s)=1:=by rw [ht];exact JgW H (JbQ f)
 have C:Int.gcd t (d.fdiv s)=1:=by rw [ht,Int.add_comm];exact JgW L f
 have j:g (t.fdiv r) (b.fdiv s*d.fdiv r)=1:=Jig (by
  rw [l];have k:t.fdiv r∣t:=⟨r,x.symm⟩;exact JdY (JdZ J k) (JdY (JdZ C k) o))
 have e:b*d≠0:=Int.mul_ne_zero ∅ ∅;have i:=g_low (t:=a*d+c*b) e;have h:=JbO (t:=a*d+c*b) e;have q:=cross (t:=a*d+c*b) e;have v:1<=b.fdiv s*d.fdiv r:=by
  have:=Int.mul_pos (show 0<b.fdiv s by ac_nf) (show 0<d.fdiv r by ac_nf);ac_nf
 have D:t*s=a*d+c*b:=by
  rw [ht,Int.add_mul,Int.mul_assoc,Int.mul_assoc,u,m]
 have F:t.fdiv r*(b*d)=(a*d+c*b)*(b.fdiv s*d.fdiv r):=by
  have K:(t.fdiv r*(b*d))*r=((a*d+c*b)*(b.fdiv s*d.fdiv r))*r:=by
   calc (t.fdiv r*(b*d))*r=(t.fdiv r*r)*(b*d):=by ac_rfl
    _=t*((b.fdiv s*s)*d):=by rw [x,m]
    _=(t*s)*(b.fdiv s*d):=by ac_rfl
    _=(a*d+c*b)*(b.fdiv s*(d.fdiv r*r)):=by rw [D,B]
    _=((a*d+c*b)*(b.fdiv s*d.fdiv r))*r:=by ac_rfl
  exact Int.eq_of_mul_eq_mul_right ∅ K
 refine JdO v h j i ?_;refine Int.eq_of_mul_eq_mul_right (a:=b*d) e ?_
 calc (t.fdiv r*bot (a*d+c*b) (b*d))*(b*d)=(t.fdiv r*(b*d))*bot (a*d+c*b) (b*d):=by ac_rfl
  _=((a*d+c*b)*bot (a*d+c*b) (b*d))*(b.fdiv s*d.fdiv r):=by rw [F];ac_rfl
  _=(top (a*d+c*b) (b*d)*(b*d))*(b.fdiv s*d.fdiv r):=by rw [q]
  _=(top (a*d+c*b) (b*d)*(b.fdiv s*d.fdiv r))*(b*d):=by ac_rfl
theorem Jjs {a d:Int} (h:d∣a) (hd:1<=d):(a.fdiv d).natAbs<=a.natAbs:=by
 have e:=congrArg Int.natAbs (Ja4 h (show d≠0 by ac_nf));rw [Int.natAbs_mul] at e
 calc (a.fdiv d).natAbs<=(a.fdiv d).natAbs*d.natAbs:=Nat.le_mul_of_pos_right _ ∅
  _=a.natAbs:=e
theorem Sz.fdiv {n:Nat} {a d:Int} (h:Sz n a) (k:d∣a) (hd:1<=d):Sz n (a.fdiv d):=Nat.lt_of_le_of_lt (Jjs k hd) h
theorem g_neg {a b:Int}:g (-a) b=g a b:=by unfold g;simp [Int.neg_gcd]
end Mth
namespace Mth
end Mth
namespace L2
open PySem PySem.Spec PyProof.Rows
section
variable {D:Ends} {σ : St} {H:Hp} {Q:VK} {t u:TS} {ta tb te:TE} {g:TG} {tA:TA} {r:R2} {E:XK} {sp:Sp} {K:W.Frag}
theorem y8ay:tSeq t u D σ H=t { D with nx:=u D } σ H:=rfl
theorem y77y:tNext D σ H=D.nx σ H:=rfl
theorem y2by:tAsg te g D σ H=te σ H fun x H1=>g x σ H1 D.nx:=rfl
theorem y72y {i:Nat} {v:V} {R:St->Hp->Prop}:gName i v σ H R=R (σ.set i (some v)) H:=rfl
theorem y86y:tRet te D σ H=te σ H D.rt:=rfl
theorem y87y:tRetN D σ H=D.rt .non H:=rfl
theorem y48y:tDrop te D σ H=te σ H fun _ H1=>D.nx σ H1:=rfl
theorem y2fy {v:V}:tC v σ H Q=Q v H:=rfl
theorem y7ey:tOp r ta tb σ H Q=ta σ H fun x H1=>tb σ H1 fun y H2=>r x y H2 Q:=rfl
theorem y9by {f:V->Hp->VK->Prop}:tUn f ta σ H Q=ta σ H fun x H1=>f x H1 Q:=rfl
theorem y31y {f:List V->Hp->VK->Prop}:tCB f tA σ H Q=tA σ H fun vs H1=>f vs H1 Q:=rfl
theorem y3dy {R:List V->Hp->Prop}:tCons ta tA σ H R=ta σ H fun x H1=>tA σ H1 fun xs H2=>R (x::xs) H2:=rfl
theorem y78y {R:List V->Hp->Prop}:tNil σ H R=R [] H:=rfl
theorem y30y {dvs:List V}:tCall sp dvs E tA σ H Q=tA σ H fun vs H1=>sp (vs++dvs) H1 Q E:=rfl
theorem y91y {R:Bool->Hp->Prop}:tTest te σ H R=te σ H fun x H'=>∃ k,x=.bl k/\R k H':=rfl
theorem y23y {R:Bool->Hp->Prop}:tB te σ H R=te σ H fun x H'=>∃ k,x=.bl k/\R k H':=rfl
theorem y29y {a b:TT} {R:Bool->Hp->Prop}:tAnd a b σ H R=a σ H fun c H1=>if c=true then b σ H1 R else R false H1:=rfl
theorem y7fy {a b:TT} {R:Bool->Hp->Prop}:tOr a b σ H R=a σ H fun c H1=>if c=true then R true H1 else b σ H1 R:=rfl
theorem y7ay {a:TT} {R:Bool->Hp->Prop}:tNot a σ H R=a σ H fun c H1=>R (!c) H1:=rfl
theorem y2ay:tAndV ta tb σ H Q=ta σ H fun x H1=>∃ c,x=.bl c/\if c=true then tb σ H1 Q else Q (.bl false) H1:=rfl
theorem y80y:tOrV ta tb σ H Q=ta σ H fun x H1=>∃ c,x=.bl c/\if c=true then Q (.bl true) H1 else tb σ H1 Q:=rfl
theorem y7cy:tNotV ta σ H Q=ta σ H fun x H1=>∃ c,x=.bl c/\Q (.bl (!c)) H1:=rfl
theorem y5fy {c:TT}:tIfS c t u D σ H=c σ H fun b H1=>if b=true then t D σ H1 else u D σ H1:=rfl
theorem y9dy {i:Nat}:tVar i σ H Q=∃ v,σ[i]?=some (some v)/\Q v H:=rfl
theorem y26y {i j:Int}:rAddU K (.int i) (.int j) H Q=Q (.int (i+j)) H:=rfl
theorem y27y {i j:Str}:rAddU K (.str i) (.str j) H Q=(i.length+j.length<=sizeLine/\Q (.str (i++j)) H):=rfl
theorem y8fy {f:Int->Int->V} {i j:Int}:rI0 f (.int i) (.int j) H Q=Q (f i j) H:=by
 unfold rI0;simp
theorem y76y {f:Int->V} {i:Int}:rU f (.int i) H Q=Q (f i) H:=by
 unfold rU;simp
theorem y6fy {i j:Int}:rMulU (.int i) (.int j) H Q=(IntMulOk i j/\Q (.int (i*j)) H):=rfl
theorem y4dy {i j:Int}:JhP (.int i) (.int j) H Q=(DivOk j/\Q (.int (i.fdiv j)) H):=rfl
theorem y6ey {i j:Int}:rModU (.int i) (.int j) H Q=(j≠0/\Q (.int (i.fmod j)) H):=rfl
theorem y83y {i j:Int}:rPowU (.int i) (.int j) H Q=(CPow i j/\Q (.int (i ^ j.toNat)) H):=rfl
theorem y34y {p:Int->Int->Bool} {i j:Int}:rCmpU p (.int i) (.int j) H Q=Q (.bl (p i j)) H:=rfl
theorem y4by {i j:Int}:rEqU K (.int i) (.int j) H Q=Q (.bl (decide (i=j))) H:=rfl
theorem y74y {i j:Int}:rNeU K (.int i) (.int j) H Q=Q (.bl (!decide (i=j))) H:=rfl
theorem y4cy {i j:Str}:rEqU K (.str i) (.str j) H Q=Q (.bl (decide (i=j))) H:=rfl
theorem y75y {i j:Str}:rNeU K (.str i) (.str j) H Q=Q (.bl (!decide (i=j))) H:=rfl
theorem y4ay {i j:Bool}:rEqU K (.bl i) (.bl j) H Q=Q (.bl (decide (i=j))) H:=rfl
theorem y73y {i j:Bool}:rNeU K (.bl i) (.bl j) H Q=Q (.bl (!decide (i=j))) H:=rfl
theorem y96y:tTup tA σ H Q=tA σ H fun xs H1=>xs.length<=sizeLine/\∀ p,H1 p=none->Q (.ref p) (upd H1 p (.tup xs)):=rfl
theorem y69y:tLst tA σ H Q=tA σ H fun xs H1=>xs.length<=sizeLine/\∀ p,H1 p=none->Q (.ref p) (upd H1 p (.lst xs)):=rfl
theorem y65y {x:V} {T:String}:rIsi K [x, .ty T] H Q=(T∈["int","str","bool","list","tuple"]/\∃ t,tyN K H x t/\Q (.bl (isiB t T)) H):=rfl
theorem y25y {i:Int}:rAbs [.int i] H Q=Q (.int (if i<0 then -i else i)) H:=rfl
theorem y6dy {i j:Int}:rMin [.int i, .int j] H Q=Q (.int (if j<i then j else i)) H:=rfl
theorem y98y {i:Int} {s:String}:tyN K H (.int i) s=(s="int"):=rfl
theorem y9ay {i:Str} {s:String}:tyN K H (.str i) s=(s="str"):=rfl
theorem y97y {i:Bool} {s:String}:tyN K H (.bl i) s=(s="bool"):=rfl
theorem y99y {s:String}:tyN K H .non s=(s="NoneType"):=rfl
end
theorem JfT:bootBuiltins "abs"=some (.builtin "abs"):=by decide +kernel
theorem JbJ:bootBuiltins "len"=some (.builtin "len"):=by decide +kernel
theorem Jdb:bootBuiltins "sorted"=some (.builtin "sorted"):=by decide +kernel
theorem JaK:bootBuiltins "isinstance"=some (.builtin "isinstance"):=by decide +kernel
theorem Jkd:bootBuiltins "all"=some (.builtin "all"):=by decide +kernel
theorem Jke:bootBuiltins "int"=some (.type "int"):=by decide +kernel
theorem Jkg:bootBuiltins "str"=some (.type "str"):=by decide +kernel
theorem Jjk:bootBuiltins "bool"=some (.type "bool"):=by decide +kernel
theorem Jb3:bootBuiltins "list"=some (.type "list"):=by decide +kernel
theorem JdW:bootBuiltins "tuple"=some (.type "tuple"):=by decide +kernel
theorem Jda:bootBuiltins "reversed"=some (.type "reversed"):=by decide +kernel
theorem Jkf:bootBuiltins "set"=some (.type "set"):=by decide +kernel
theorem yby:isiB "int" "int"=true:=by decide
theorem ydy:isiB "int" "str"=false:=by decide
theorem yay:isiB "int" "bool"=false:=by decide
theorem ycy:isiB "int" "list"=false:=by decide
theorem yey:isiB "int" "tuple"=false:=by decide
theorem y15y:isiB "str" "int"=false:=by decide
theorem y17y:isiB "str" "str"=true:=by decide
theorem y14y:isiB "str" "bool"=false:=by decide
theorem y16y:isiB "str" "list"=false:=by decide
theorem y18y:isiB "str" "tuple"=false:=by decide
theorem y6y:isiB "bool" "int"=true:=by decide
theorem y8y:isiB "bool" "str"=false:=by decide
theorem y5y:isiB "bool" "bool"=true:=by decide
theorem y7y:isiB "bool" "list"=false:=by decide
theorem y9y:isiB "bool" "tuple"=false:=by decide
theorem y1y:isiB "NoneType" "int"=false:=by decide
theorem y3y:isiB "NoneType" "str"=false:=by decide
theorem y0y:isiB "NoneType" "bool"=false:=by decide
theorem y2y:isiB "NoneType" "list"=false:=by decide
theorem y4y:isiB "NoneType" "tuple"=false:=by decide
theorem y10y:isiB "list" "int"=false:=by decide
theorem y12y:isiB "list" "str"=false:=by decide
theorem yfy:isiB "list" "bool"=false:=by decide
theorem y11y:isiB "list" "list"=true:=by decide
theorem y13y:isiB "list" "tuple"=false:=by decide
theorem y1ay:isiB "tuple" "int"=false:=by decide
theorem y1cy:isiB "tuple" "str"=false:=by decide
theorem y19y:isiB "tuple" "bool"=false:=by decide
theorem y1by:isiB "tuple" "list"=false:=by decide
theorem y1dy:isiB "tuple" "tuple"=true:=by decide
theorem y1fy:("int"∈["int","str","bool","list","tuple"])=True:=by simp
theorem y21y:("str"∈["int","str","bool","list","tuple"])=True:=by simp
theorem y1ey:("bool"∈["int","str","bool","list","tuple"])=True:=by simp
theorem y20y:("list"∈["int","str","bool","list","tuple"])=True:=by simp
theorem y22y:("tuple"∈["int","str","bool","list","tuple"])=True:=by simp
theorem y24y {CX:CXT} {P:Program} {w:World} {K:W.Frag} {mg:Str->Option Value} {base:Heap} {N:List Str} {qual:Str} {scope:Scope} {f:Addr} {cd:Value} {A:Around} {outer:List Env} {s:Shared} {H:Hp} {E:XK}:(cxOf CX P w K mg base N qual scope f cd A outer s H E).K=K:=rfl
def ForR (lo:Int) (n:Nat) (g:TG) (tb:TS) (D:Ends) (σ : St) (H:Hp):Prop:=∃ W:Nat->Nat->St->Hp->Prop,(∃ m,W 0 m σ H)/\∀ i m σ H,W i m σ H ->
 ((Itr lo n).stop i H/\D.nx σ H)\/((Itr lo n).go i H/\∃ N:St->Hp->Prop,(∀ σ' H',N σ' H'->∃ m',m'<m/\W (i+1) m' σ' H')/\∀ x H',(Itr lo n).yld i H x H'->g x σ H' fun σ2 H2=>tb { D with nx:=N,ct:=N,bk:=D.nx } σ2 H2)
def ForA (K:W.Frag) (a:Addr) (g:TG) (tb:TS) (D:Ends) (σ : St) (H:Hp):Prop :=
 ((∃ xs,SqL K H a xs)/\∃ W:Nat->Nat->St->Hp->Prop,(∃ m,W 0 m σ H)/\∀ i m σ H,W i m σ H ->
  ((Itl K a).stop i H/\D.nx σ H)\/((Itl K a).go i H/\∃ N:St->Hp->Prop,(∀ σ' H',N σ' H'->∃ m',m'<m/\W (i+1) m' σ' H')/\∀ x H',(Itl K a).yld i H x H'->g x σ H' fun σ2 H2=>tb { D with nx:=N,ct:=N,bk:=D.nx } σ2 H2)) \/
 ((∃ xs,SqT K H a xs)/\∃ W:Nat->Nat->St->Hp->Prop,(∃ m,W 0 m σ H)/\∀ i m σ H,W i m σ H ->
  ((Itt K a).stop i H/\D.nx σ H)\/((Itt K a).go i H/\∃ N:St->Hp->Prop,(∀ σ' H',N σ' H'->∃ m',m'<m/\W (i+1) m' σ' H')/\∀ x H',(Itt K a).yld i H x H'->g x σ H' fun σ2 H2=>tb { D with nx:=N,ct:=N,bk:=D.nx } σ2 H2))
theorem y51y {ta:TA} {g:TG} {tb:TS} {D:Ends} {σ : St} {H:Hp}:tFor (iRng1 ta) g tb D σ H=ta σ H fun vs H1=>∃ j:Int,vs=[.int j]/\-(2 ^ 62)<=j/\j<2 ^ 62/\ForR 0 j.toNat g tb D σ H1:=rfl
theorem y52y {ta:TA} {g:TG} {tb:TS} {D:Ends} {σ : St} {H:Hp}:tFor (iRng2 ta) g tb D σ H=ta σ H fun vs H1=>∃ i j:Int,vs=[.int i, .int j]/\(-(2 ^ 62)<=i/\i<2 ^ 62/\-(2 ^ 62)<=j/\j<2 ^ 62)/\ForR i (j-i).toNat g tb D σ H1:=rfl
theorem y53y {K:W.Frag} {tl:TE} {g:TG} {tb:TS} {D:Ends} {σ : St} {H:Hp}:tFor (iAny K tl) g tb D σ H=tl σ H fun x H1=>∃ a,x=.ref a/\ForA K a g tb D σ H1:=rfl
theorem ForR.by {lo:Int} {n:Nat} {g:TG} {tb:TS} {D:Ends} {σ : St} {H:Hp} (Pv:Nat->St->Hp->Prop) (h0:Pv 0 σ H)
  (hs:∀ i σ H,i<n->Pv i σ H->g (.int (lo+i)) σ H fun σ2 H2=>tb { D with nx:=Pv (i+1),ct:=Pv (i+1),bk:=D.nx } σ2 H2) (hd:∀ σ H,Pv n σ H->D.nx σ H):ForR lo n g tb D σ H:=Jhe Pv h0 hs hd
theorem Jfr {H:Hp} {o:HO} {R:V->Hp->Prop} (h:∀ p H1,Same H H1->H1 p=some o->R (.ref p) H1):∀ p,H p=none->R (.ref p) (upd H p o):=fun p a=>
 h p _ (fun b u q=>by rw [Jaf (Jac q a)];exact q) Jam
theorem newS {H H':Hp} {p:Addr} {o:HO} (h:H p=none) (e:upd H p o=H'):Same H H':=fun b u q=>by rw [<- e,Jaf (Jac q h)];exact q
theorem newE {H H':Hp} {p:Addr} {o:HO} (e:upd H p o=H'):H' p=some o:=by rw [<- e,Jam]
theorem JdU {n:Nat} {i:Int} (h:Mth.Sz n i):Builtin.Int.intBits i<=n:=by
 unfold Builtin.Int.intBits;split
 ·exact Nat.zero_le _
 ·rename_i z;have : i.natAbs.log2<n:=(Nat.log2_lt (by simpa using z)).mpr h;ac_nf
theorem mulOk {m n:Nat} {i j:Int} (h:Mth.Sz m i) (k:Mth.Sz n j) (hm:m<=2 ^ 20:=by decide) (hn:n<=2 ^ 20:=by decide):IntMulOk i j:=IntMulOk.of_bits (Nat.le_trans (JdU h) hm) (Nat.le_trans (JdU k) hn)
theorem Jkx {i j:Int} (h:Mth.Sz 64 j):IntMulOk i j:=IntMulOk.of_right (JdU h)
theorem divOk {n:Nat} {j:Int} (h:j≠0) (k:Mth.Sz n j) (hn:n<9000:=by decide):DivOk j:=⟨h,Mth.JjA k hn⟩
theorem len0:([]:List V).length<=sizeLine:=by decide
theorem len2 {a b:V}:[a,b].length<=sizeLine:=by show 2<=sizeLine;decide
theorem len4 {a b c d:V}:[a,b,c,d].length<=sizeLine:=by show 4<=sizeLine;decide
theorem len5 {a b c d e:V}:[a,b,c,d,e].length<=sizeLine:=by show 5<=sizeLine;decide
theorem Ja7 {j:Int} (h:decide (j≠0/\j.natAbs<2 ^ 64)=true):DivOk j:=by
 have z:=of_decide_eq_true h;exact divOk z.1 (n:=64) z.2
theorem Ja9 {i j:Int} (h:decide (j.natAbs<2 ^ 64)=true):IntMulOk i j:=by
 have z:j.natAbs<2 ^ 64:=of_decide_eq_true h;exact Jkx z
theorem JaP {i j:Int} (h:decide (i.natAbs<2 ^ 64)=true):IntMulOk i j:=by
 have z:i.natAbs<2 ^ 64:=of_decide_eq_true h;exact IntMulOk.of_left (JdU (n:=64) z)
theorem Jba {i j:Int} (h:decide (0<=j/\j<=1000000/\i.natAbs<2 ^ 64)=true):CPow i j:=by
 have z:0<=j/\j<=1000000/\i.natAbs<2 ^ 64:=of_decide_eq_true h;exact z
def FrV (K:W.Frag) (H:Hp) (v:V) (a b:Int):Prop:=∃ p,v=.ref p/\SqT K H p [.int a, .int b]
theorem FrV.same {K:W.Frag} {H H':Hp} {v:V} {a b:Int} (S:Same H H') (h:FrV K H v a b):FrV K H' v a b:=by
 obtain ⟨p,e,q⟩:=h;exact ⟨p,e,q.same S⟩
theorem FrV.of {K:W.Frag} {H:Hp} {p:Addr} {a b:Int} (h:H p=some (.tup [.int a, .int b])):FrV K H (.ref p) a b:=⟨p,rfl,SqT.of h⟩
theorem ixT0 {K:W.Frag} {H:Hp} {p:Addr} {x:V} {r:List V} {Q:VK} (h:SqT K H p (x::r)) (q:Q x H):rIxU K (.ref p) (.int 0) H Q:=⟨_,x, .inr h,Jc8 (j:=0) rfl,q⟩
theorem ixT1 {K:W.Frag} {H:Hp} {p:Addr} {x y:V} {r:List V} {Q:VK} (h:SqT K H p (x::y::r)) (q:Q y H):rIxU K (.ref p) (.int 1) H Q:=⟨_,y, .inr h,Jc8 (j:=1) rfl,q⟩
theorem ixF0 {K:W.Frag} {H:Hp} {v:V} {a b:Int} {Q:VK} (h:FrV K H v a b) (q:Q (.int a) H):rIxU K v (.int 0) H Q:=by
 obtain ⟨p,rfl,z⟩:=h;exact ixT0 z q
theorem ixF1 {K:W.Frag} {H:Hp} {v:V} {a b:Int} {Q:VK} (h:FrV K H v a b) (q:Q (.int b) H):rIxU K v (.int 1) H Q:=by
 obtain ⟨p,rfl,z⟩:=h;exact ixT1 z q
theorem FrV.rep {K:W.Frag} {H:Hp} {v:V} {a b:Int} (h:FrV K H v a b):Rep K H (.tup [.int a, .int b]) v:=by
 obtain ⟨p,rfl,z⟩:=h;simp only [Rep,RepL];exact ⟨p,_,rfl,z,_,_,rfl,rfl,_,_,rfl,rfl,rfl⟩
theorem eqF {K:W.Frag} {H:Hp} {x y:V} {a b c d:Int} {Q:VK} (h:FrV K H x a b) (g:FrV K H y c d) (q:Q (.bl (decide (a=c)&&decide (b=d))) H):rEqU K x y H Q:=by
 have e:eqD (.tup [.int a, .int b]) (.tup [.int c, .int d])=(decide (a=c)&&decide (b=d)):=by
  simp only [eqD,eqL,Bool.and_true]
  congr 1 <;> simp [BEq.beq]
 have f:=h.rep;have i:=g.rep;obtain ⟨p,rfl,_⟩:=h;obtain ⟨j,rfl,_⟩:=g;exact ⟨_,_,f,i,by simp [depD,depL],rfl,by rw [e];exact q⟩
theorem neF {K:W.Frag} {H:Hp} {x y:V} {a b c d:Int} {Q:VK} (h:FrV K H x a b) (g:FrV K H y c d) (q:Q (.bl (!(decide (a=c)&&decide (b=d)))) H):rNeU K x y H Q:=by
 have e:eqD (.tup [.int a, .int b]) (.tup [.int c, .int d])=(decide (a=c)&&decide (b=d)):=by
  simp only [eqD,eqL,Bool.and_true]
  congr 1 <;> simp [BEq.beq]
 have f:=h.rep;have i:=g.rep;obtain ⟨p,rfl,_⟩:=h;obtain ⟨j,rfl,_⟩:=g;exact ⟨_,_,f,i,by simp [depD,depL],rfl,by rw [e];exact q⟩
theorem ixT {K:W.Frag} {H:Hp} {p:Addr} {xs:List V} {i:Nat} {v:V} {Q:VK} (h:SqT K H p xs) (e:xs[i]?=some v) (q:Q v H):rIxU K (.ref p) (.int (i:Int)) H Q:=⟨xs,v, .inr h,Jc8 e,q⟩
theorem ixL {K:W.Frag} {H:Hp} {p:Addr} {xs:List V} {i:Nat} {v:V} {Q:VK} (h:SqL K H p xs) (e:xs[i]?=some v) (q:Q v H):rIxU K (.ref p) (.int (i:Int)) H Q:=⟨xs,v, .inl h,Jc8 e,q⟩
section
open PySem.W PySem.Builtin PySem.Builtin.ObjectAttr PySem.Builtin.Getset_descriptor
variable {prog:Program} {w:World} {A:Around} {E:Value->Shared->Prop} {s:Shared} {K:Frag} {x D:Addr} {ox:Obj}
end
section
variable {X:Cx}
def Jj4 (r r' r'':R2) (ta tb tc td:TE):TE:=fun σ H Q=>ta σ H fun x H1=>tb σ H1 fun y H2=>r x y H2 fun z H3=>∃ k,z=.bl k /\
 (if k=true then tc σ H3 fun w' H4=>r' y w' H4 fun z' H5=>∃ k',z'=.bl k'/\(if k'=true then td σ H5 fun u' H6=>r'' w' u' H6 Q else Q (.bl false) H5) else Q (.bl false) H3)
def rFmt:V->Hp->VK->Prop:=fun x H Q=>match x with
 | .int i=>i.natAbs.log2<1920/\Q (.str (toString i)) H
 | _=>False
def TJ:=St->Hp->Str->VK->Prop
def jNil:TJ:=fun _ H acc Q=>acc.length<=sizeLine/\Q (.str acc) H
def jCons (te:TE) (t:TJ):TJ:=fun σ H acc Q=>te σ H fun x H1=>∃ y,x=.str y/\(acc++y).length<=sizeLine/\t σ H1 (acc++y) Q
def tFstr (t:TJ):TE:=fun σ H Q=>t σ H Str.empty Q
def rStrI:List V->Hp->VK->Prop:=fun xs H Q=>match xs with
 | [.int i]=>i.natAbs.log2<1920/\Q (.str (toString i)) H
 | _=>False
end
section
variable {En:Ends} {σ : St} {H:Hp} {Q:VK} {t u:TS} {ta tb te tc td:TE} {g:TG} {gs:TGs} {tA:TA} {E:XK} {sp:Sp} {K:W.Frag}
theorem y8dy {r:V->Option Int->Option Int->Hp->VK->Prop} {tl th:TO}:tSl r te tl th σ H Q=te σ H fun x H1=>tl σ H1 fun l H2=>th σ H2 fun u H3=>r x l u H3 Q:=rfl
theorem y82y {R:Option Int->Hp->Prop}:tPart te σ H R=te σ H fun x H1=>∃ i,x=.int i/\R (some i) H1:=rfl
theorem y79y {R:Option Int->Hp->Prop}:Jj5 σ H R=R none H:=rfl
theorem y5ay {vs:List V} {R:St->Hp->Prop}:gCons g gs vs σ H R=∃ v r,vs=v::r/\g v σ H fun σ' H'=>gs r σ' H' R:=rfl
theorem y5cy {vs:List V} {R:St->Hp->Prop}:gNil vs σ H R=(vs=[]/\R σ H):=rfl
theorem y32y {r r':R2}:JkU r r' ta tb tc σ H Q=ta σ H fun x H1=>tb σ H1 fun y H2=>r x y H2 fun z H3=>∃ k,z=.bl k/\(if k=true then tc σ H3 fun w' H4=>r' y w' H4 Q else Q (.bl false) H3):=rfl
theorem y33y {r r' r'':R2}:Jj4 r r' r'' ta tb tc td σ H Q=ta σ H fun x H1=>tb σ H1 fun y H2=>r x y H2 fun z H3=>∃ k,z=.bl k /\
 (if k=true then tc σ H3 fun w' H4=>r' y w' H4 fun z' H5=>∃ k',z'=.bl k'/\(if k'=true then td σ H5 fun u' H6=>r'' w' u' H6 Q else Q (.bl false) H5) else Q (.bl false) H3):=rfl
theorem y59y {tj:TJ}:tFstr tj σ H Q=tj σ H Str.empty Q:=rfl
theorem y67y {tj:TJ} {acc:Str}:jCons te tj σ H acc Q=te σ H fun x H1=>∃ y,x=.str y/\(acc++y).length<=sizeLine/\tj σ H1 (acc++y) Q:=rfl
theorem y68y {acc:Str}:jNil σ H acc Q=(acc.length<=sizeLine/\Q (.str acc) H):=rfl
theorem y50y {i:Int}:rFmt (.int i) H Q=(i.natAbs.log2<1920/\Q (.str (toString i)) H):=rfl
theorem y8ey {i:Int}:rStrI [.int i] H Q=(i.natAbs.log2<1920/\Q (.str (toString i)) H):=rfl
theorem y94y {D0:Addr} {i:Nat} {tx:St->Hp->VK->XK->Prop} {ts:TS}:Jjc K D0 i tx ts En σ H=tx σ H (fun _ H1=>En.nx σ H1) fun cls od H1=>∃ C,cls=.ref C/\JdT K C D0 /\
 ∀ ea,H1 ea=none->ts { nx:=fun σ' H'=>En.nx (σ'.set i none) H',rt:=En.rt,bk:=fun σ' H'=>En.bk (σ'.set i none) H',ct:=fun σ' H'=>En.ct (σ'.set i none) H' } (σ.set i (some (.ref ea))) (upd H1 ea (ExcO ea C od)):=rfl
theorem y9ey {dvs:List V} {Qx:VK} {Ex:XK}:xCall sp dvs tA σ H Qx Ex=tA σ H fun vs H1=>sp (vs++dvs) H1 Qx Ex:=rfl
theorem y84y {C:Addr}:Jjb E C tA En σ H=tA σ H fun vs H1=>vs.length<=sizeLine/\E (.ref C) none H1:=rfl
end
def Its (x:Str):It:=⟨fun i _=>i<x.cps.size,fun i H v H'=>H'=H/\∃ c,x.cps[i]?=some c/\v=.str ⟨#[c]⟩,fun i _=>i=x.cps.size⟩
theorem Je9 {P:Program} {w:World} {K:W.Frag} {tg:Expr} {it:Addr} {x:Str} {n:String} {St:Nat->Heap->Prop} (hn:["enumerate","zip","dict_itemiterator","dict_reverseitemiterator","odict_iterator","itertools.zip_longest","itertools.pairwise"].contains n=false)
  (hst:∀ i h,St i h->∃ o vs,h.get? it=some o/\o.cls=.type n/\o.data=.fields vs) (mk:∀ A:Around,A.handled=none->Walks P w A it [it] [it] x.cps.size (SignAt x) St)
  (hself:∀ (A:Around) (i:Nat) (s:Shared) (Q:Value->Shared->Prop) (E:Value->Shared->Prop),St i s.heap->Q (.ref it) s->wpAny (model P w) A (pyIter (.ref it)) Q E s):Turn P w K tg (Its x) [it] it St where
 mem:=by simp
 obj:=fun i h g b a=>by
  obtain rfl:b=it:=by simpa using a
  obtain ⟨o,vs,e,_,d⟩:=hst i h g;exact ⟨o,e,fun v z=>by rw [d] at z;cases z⟩
 keep:=fun i h j g k=>(mk {} rfl).frame i h j g fun b a o e=>k b a o e
 item:=by
  intro X C p G y i f s σ H E I m g L;subst C p G;obtain ⟨B,D,R,M,q,r⟩:=m it (by simp);refine (mk X.A (I.ok.hd y)).item i s _ _ L g fun v j t T l F=>?_;obtain ⟨c,u,J,rfl⟩:=T;have I1:Inv X f σ H { s with heap:=j,toks:=t }:=I.turned (fun b o a e=>F b o (by simpa using a) e) B D M q r;obtain ⟨o,vs,U,O,S⟩:=hst _ _ l;exact ⟨_,rfl,go_of (s:={ s with heap:=j,toks:=t }) U O S hn ⟨.str ⟨#[c]⟩,H,I1,⟨u,rfl⟩,⟨rfl,c,J,rfl⟩,l,fun b a=>(m b a).1⟩⟩
 done:=by
  intro X C p G y i f s σ H E I m g L;subst C p G;obtain ⟨B,D,R,M,q,r⟩:=m it (by simp);have N:i=x.cps.size:=L;subst N;exact (mk X.A (I.ok.hd y)).done s _ _ g fun j t F=>⟨rfl,I.turned (fun b o a e=>F b o (by simpa using a) e) B D M q r⟩
 self:=hself
section
variable {X:Cx} {tg:Expr}
def iStr (tl:TE):TI:=fun σ H R=>tl σ H fun x H1=>∃ z,x=.str z/\R (Its z) H1
theorem JkJ {l:Expr} {tl:TE} (hl:PE X l tl):PI X tg l (iStr tl):=fun f s σ H R I h=>by
 refine thn (hl f s σ H _ I h) fun v d ζ=>?_;obtain ⟨x,m,I1,r,z,k,q⟩:=ζ;subst k;obtain ⟨t,rfl⟩:=r;have key:∀ (n:String),(n="str_ascii_iterator"\/n="str_iterator")->PIE X f σ tg R (.ref d.heap.objs.size) { d with heap:=d.heap.push { cls:=.type n,data:=.fields #[.str z t, .int 0 0] } }:=fun n y=>by
  have p:Turn X.prog X.w X.K tg (Its z) [d.heap.objs.size] d.heap.objs.size (fun i h=>h.IsStrIter d.heap.objs.size n z t i):=by
   rcases y with rfl | rfl
   ·exact Je9 (n:="str_ascii_iterator") ⋯ (fun i h g=>let ⟨o,a,b,c⟩:=g;⟨o,_,a,b,c⟩) (fun A j=>Walks.strAscii j _ z t) fun A i s Q E g q=>wpAny_pyIter_striter_ascii g q
   ·exact Je9 (n:="str_iterator") ⋯ (fun i h g=>let ⟨o,a,b,c⟩:=g;⟨o,_,a,b,c⟩) (fun A j=>Walks.strWide j _ z t) fun A i s Q E g q=>wpAny_pyIter_striter_wide g q
  refine ⟨d.heap.objs.size,[d.heap.objs.size],_,_,m,rfl,I1.kept (t':=d.toks) fun b o e=>Heap.get?_push_of_some _ e,p,⟨_,Heap.get?_push_size _ rfl,rfl,rfl⟩,fun b u=>?_,q⟩;obtain rfl:b=d.heap.objs.size:=by simpa using u
  exact I1.fpOk (Nat.le_refl _) (I1.hok.fresh (Nat.le_refl _))
 cases ha:z.cps.all (· < 128)
 ·exact wpAny_pyIter_wide ha (key _ (.inr rfl))
 ·exact wpAny_pyIter_ascii ha (key _ (.inl rfl))
end
abbrev Cx.inc (X:Cx) (N':List Str) (scope:Scope) (cl:List (Str × Addr)) (fp:List Addr) (s2:Shared) (H2:Hp) (C:Addr):Cx :=
 { X with N:=N',s₀:=s2,H₀:=H2,env:=compEnvC scope cl C X.env,outer:=X.stack,ex:=fp,fn:=fun _=>false,pn:=[],xe:=fun _ _=>False }
section
variable {X:Cx} {pins:List (Addr × Obj)} {σ : St} {H2:Hp} {s2:Shared} {N':List Str} {scope:Scope} {cl:List (Str × Addr)} {fp:List Addr} {C:Addr}
theorem Inv.incOk (I:Inv X pins σ H2 s2) (hf:∀ b∈fp,FpOk X pins H2 b) (hfp:∀ b∈fp,b<s2.heap.objs.size) (hk:scope.kind=.function) (hC:s2.heap.objs.size<=C) (hcl:∀ x c,cl.lookup x=some c->X.env.cells.lookup x=some c)
  (hhas:∀ y,((relabel scope X.env).names.lookup y=some .cell\/(relabel scope X.env).names.lookup y=some .free)->∃ c,cl.lookup y=some c):(X.inc N' scope cl fp s2 H2 C).Ok where
 mod:=I.ok.mod
 kind:=hk
 glob:=I.ok.glob
 blt:=I.ok.blt
 above:=hC
 inj:=fun x y c i g=>I.ok.inj x y c (hcl x c i) (hcl y c g)
 has:=fun y d=>hhas y d
 cab:=fun x c h=>by cases h
 hd:=I.ok.hd
 frames:=I.ok.frames
 stk:=.inl rfl
 exf:=fun b a=>⟨Nat.ne_of_lt (Nat.lt_of_lt_of_le (hfp b a) hC),fun x c e=>(hf b a).2.2.2.2.1 x c (hcl x c e)⟩
 bs:=I.bs
 bsz:=Nat.le_trans I.ok.bsz I.sz
 noex:=fun b o e a=>by
  rcases (hf b a).2.2.2.1 with z | z
  ·exact I.ok.noex b o e z
  ·exact absurd (Nat.lt_of_lt_of_le (Nat.lt_of_lt_of_le (Heap.lt_size e) I.ok.bsz) z) (Nat.lt_irrefl _)
 exfs:=fun b a f=>by
  rcases mem_cons.mp (I.stkSub b f) with z | z
  ·exact (hf b a).2.1 z
  ·exact (hf b a).2.2.1 z
 funs:=I.stack
 frf:=I.stkFree
def JaB (cs:List (Nat × Str)) (σ : St):St:=cs.map fun p=>(σ[p.1]?).join
theorem Inv.capsLoc {s4:Shared} {m:Str->Option Value} {own:List Str} {cs:List (Nat × Str)} (I:Inv X pins σ H2 s2) (ok:(X.inc (own++cs.map (·.2)) scope cl fp s2 H2 C).Ok) (kept:∀ c v,(∃ x,cl.lookup x=some c)->s2.heap.IsCell c v->s4.heap.IsCell c v)
  (hcl:∀ x c,cl.lookup x=some c->X.env.cells.lookup x=some c) (hcs:∀ p∈cs,X.N[p.1]?=some p.2/\X.env.scope.names.lookup p.2=some .cell/\(relabel scope X.env).names.lookup p.2=some .cell) :
  ∀ (i:Nat) (x:Str) (v:V),(own++cs.map (·.2))[i]?=some x->(List.replicate own.length none++JaB cs σ)[i]?=some (some v)->∃ u,RelV v u/\Look (compEnvC scope cl C X.env) s4.heap m x u:=fun i x v t e=>by
  by_cases h:i<own.length
  ·rw [List.getElem?_append_left (by simpa using h),List.getElem?_replicate,if_pos h] at e;cases e
  ·have b:(JaB cs σ)[i-own.length]?=some (some v):=by rw [List.getElem?_append_right (by simp;ac_nf)] at e;simpa using e
   have a:(cs.map (·.2))[i-own.length]?=some x:=by
    rwa [List.getElem?_append_right ∅] at t
   unfold JaB at b;rw [List.getElem?_map] at a b;cases q:cs[i-own.length]? with
   | none=>rw [q] at a;cases a
   | some p=>
    rw [q] at a b;obtain rfl:p.2=x:=by simpa using a
    have d:(σ[p.1]?).join=some v:=by simpa using b
    have f : σ[p.1]?=some (some v):=by
     cases z : σ[p.1]? with
     | none=>rw [z] at d;cases d
     | some o=>rw [z] at d;exact congrArg some d
    obtain ⟨r,l,j⟩:=hcs p (List.mem_of_getElem? q);obtain ⟨w,_,n⟩:=I.loc;obtain ⟨u,s,lk⟩:=n p.1 p.2 v r f (.inr (.inl l));refine ⟨u,s, .inr ⟨.inl j,?_⟩⟩;obtain ⟨c,g⟩:=ok.has p.2 (.inl j);refine ⟨c,g,?_⟩;rcases lk with ⟨k,_⟩ | ⟨_,c',e',hcell⟩
    ·have k:X.env.scope.names.lookup p.2=some .local:=k;rw [l] at k;cases k
    ·rw [hcl _ _ g] at e';cases e';exact kept _ _ ⟨_,g⟩ hcell
theorem Inv.incStart {s4:Shared} {m:Str->Option Value} {own:List Str} {cs:List (Nat × Str)} (I:Inv X pins σ H2 s2) (ok:(X.inc (own++cs.map (·.2)) scope cl fp s2 H2 C).Ok) (kept:∀ b o,s2.heap.get? b=some o->s4.heap.get? b=some o) (hos:s4.os=s2.os) (hg:s4.gens=s2.gens) (hm:s4.heap.Ns C m)
  (hC:s2.heap.objs.size<=C) (hcl:∀ x c,cl.lookup x=some c->X.env.cells.lookup x=some c)
  (hcs:∀ p∈cs,X.N[p.1]?=some p.2/\X.env.scope.names.lookup p.2=some .cell/\(relabel scope X.env).names.lookup p.2=some .cell) :
  Inv (X.inc (own++cs.map (·.2)) scope cl fp s2 H2 C) [] (List.replicate own.length none++JaB cs σ) H2 s4 where
 ok:=ok
 os:=hos
 bare:=by rw [hg];exact I.bare
 base:=Un.kept kept
 loc:=⟨m,hm,fun i x v h g _=>I.capsLoc (m:=m) ok (fun c v _ ⟨o,d,a⟩=>⟨o,kept _ _ d,a⟩) hcl hcs i x v h g⟩
 cell:=fun x c e=>by
  obtain ⟨v,o,d,a⟩:=I.cell x c (hcl x c e);exact ⟨v,o,kept _ _ d,a⟩
 free:=I.hok.fresh hC
 freeC:=fun x c e=>I.freeC x c (hcl x c e)
 pin:=fun p f=>by simp at f
 hok:=I.hok.kept kept
 len:=by simp [JaB]
theorem Inv.incAgain {s':Shared} {H':Hp} {σ':St} {pl:List (Addr × Obj)} {own:List Str} {cs:List (Nat × Str)} (I:Inv X pins σ H2 s2) (J:Inv (X.inc (own++cs.map (·.2)) scope cl fp s2 H2 C) pl σ' H' s')
  (hf:∀ b∈fp,FpOk X pins H2 b) (hcl:∀ x c,cl.lookup x=some c->X.env.cells.lookup x=some c) (hcs:∀ p∈cs,X.N[p.1]?=some p.2/\X.env.scope.names.lookup p.2=some .cell/\(relabel scope X.env).names.lookup p.2=some .cell) :
  Inv (X.inc (own++cs.map (·.2)) scope cl fp s2 H2 C) [] (List.replicate own.length none++JaB cs σ) H' s' where
 ok:=J.ok
 os:=J.os
 bare:=J.bare
 base:=J.base
 loc:=by
  obtain ⟨m,a,_⟩:=J.loc;refine ⟨m,a,fun i x v k j _=>I.capsLoc (m:=m) J.ok (fun c v ⟨x,d⟩ ⟨o,f,e⟩=>?_) hcl hcs i x v k j⟩;have g:c∉fp:=fun z=>(hf c z).2.2.2.2.1 x c (hcl x c d) rfl;by_cases a:c∈frs X.stack
  ·obtain ⟨l,z⟩:=J.base.slot c o f (I.freeC x c (hcl x c d)) a g;exact ⟨_,z,e⟩
  ·exact ⟨o,J.base.keep c o f (I.freeC x c (hcl x c d)) a g,e⟩
 cell:=J.cell
 free:=J.free
 freeC:=J.freeC
 pin:=fun p h=>by simp at h
 hok:=J.hok
 len:=by simp [JaB]
end
section
variable {prog:Program} {w:World} {A:Around} {E:Value->Shared->Prop} {R:Result->Shared->Prop} {s:Shared}
theorem Jgr {elt target iter:Expr} {scope:Scope} {pos:Pos} {it acc:Value} {env:Env} (J:Nat->Shared->Prop)
  (turn:∀ n s,J n s->wpAny (model prog w) A (pyNext it) (fun r s1=>match r with
   | none=>R (.ok .next) s1
   | some v=>wpAny (model prog w) A (letOwnedTupleGo target it v) (fun _ s2=>wpAny (model prog w) A (assign target env v) (fun _ s3=>wpAny (model prog w) A (eval elt env) (fun x s4=>
     wpAny (model prog w) A (call (.builtin "list.append") [acc,x]) (fun _ s5=>∃ m,m<n/\J m s5) (fun _ _=>False) s4) (fun _ _=>False) s3) (fun _ _=>False) s2) (fun _ _=>False) s1) (fun _ _=>False) s) (n:Nat) (h:J n s) :
  codeAny (model prog w) A (.compLoop (.ListComp elt [⟨target,iter,[],0⟩] scope pos) 0 it acc env) R s:=by
 refine codeAny_loop rfl J (fun n s d=>?_) n h;show wpAny _ A ((compTurn (.ListComp elt [⟨target,iter,[],0⟩] scope pos) 0 it acc env).onRaise (fun y=>do noteFrame y env;theTreesLotGoes y)) _ _ s
 (refine wpAny_noted ?_;rw [compTurn_list])
 refine wpAny_bind (wpAny_standAt (wpAny_bind (wpAny_mono (turn n s d) (fun r s1 a=>?_) fun _ _ z=>z.elim)));cases r with
 | none=>exact wpAny_pure a
 | some v=>
  refine wpAny_bind (wpAny_mono a (fun _ s2 f=>wpAny_bind (wpAny_mono f (fun _ s3 c=>?_) fun _ _ z=>z.elim)) fun _ _ z=>z.elim);refine wpAny_bind (wpAny_tests_nil ?_);exact wpAny_bind (wpAny_bind (wpAny_mono c (fun x s4 b=>(wpAny_bind (wpAny_mono b (fun _ s5 e=>(wpAny_pure (wpAny_pure ⟨rfl,e⟩))) fun _ _ z=>z.elim))) fun _ _ z=>z.elim))
end
def tComp (k:Nat) (cs:List (Nat × Str)) (wi:TI) (g:TG) (te:TE):TE:=fun σ H Q=>wi σ H fun J H1=>∃ W:Nat->Nat->List V->Hp->Prop,(∃ m,W 0 m [] H1)/\∀ i m ys H2,W i m ys H2->ys.length<=sizeLine /\
  ((J.stop i H2/\∀ p,H2 p=none->Q (.ref p) (upd H2 p (.lst ys))) \/
   (J.go i H2/\∀ x H3,J.yld i H2 x H3->g x (List.replicate k none++JaB cs σ) H3 fun σ4 H4=>te σ4 H4 fun y H5=>∃ m',m'<m/\W (i+1) m' (ys++[y]) H5))
theorem lstP {us:List Value} {v:Value}:(us.toArray.push v)=(us++[v]).toArray:=by simp
section
variable {X:Cx} {tg:Expr}
theorem Jcs {iter elt:Expr} {scope:Scope} {pos:Pos} {own:List Str} {cl:List (Str × Addr)} {cs:List (Nat × Str)} {wi:TI} {g:TG} {te:TE} (hc:X.calm=true) (hi:PI X tg iter wi)
  (hg:∀ fp s2 H2 C,PG (X.inc (own++cs.map (·.2)) scope cl fp s2 H2 C) tg g) (he:∀ fp s2 H2 C,PE (X.inc (own++cs.map (·.2)) scope cl fp s2 H2 C) elt te)
  (hclos:closureFor scope X.env=pure cl) (hcell:∀ y∈scope.names,y.2≠.cell) (hkind:scope.kind=.function) (hnames:∀ y∈scope.names,y.2=.local->scope.names.lookup y.1=some .local)
  (hcl:∀ x c,cl.lookup x=some c->X.env.cells.lookup x=some c) (hhas:∀ y,((relabel scope X.env).names.lookup y=some .cell\/(relabel scope X.env).names.lookup y=some .free)->∃ c,cl.lookup y=some c)
  (hcs:∀ p∈cs,X.N[p.1]?=some p.2/\X.env.scope.names.lookup p.2=some .cell/\(relabel scope X.env).names.lookup p.2=some .cell)
  (hs:∀ x,foldedSetIterable iter X.env x=pure x:=by intro _;rfl):PE X (.ListComp elt [⟨tg,iter,[],0⟩] scope pos) (tComp own.length cs wi g te):=by
 intro E s σ H Q I h;rw [eval_ListComp];refine wpAny_comprehension_free (use:=none) rfl hs hclos hkind hnames (thn (hi E s σ H _ I h) fun v s1 h1=>thn h1 fun b7 s2 h2=>?_);obtain ⟨it,fp,tn,J,H2,rfl,I2,T,V,f2,W,⟨m0,w0⟩,a6⟩:=h2;have F:∀ b∈fp,b<s2.heap.objs.size:=fun b d=>by
  obtain ⟨o,e,_⟩:=T.obj _ _ V b d;exact Heap.lt_size e
 refine wpAny_newObj_type (wpAny_newFunctionEnv hcell (by intro y hy;simp at hy) (fun h4 m k=>?_) hkind);dsimp only at m k ⊢;generalize hH3:s2.heap.push { cls:=.type "list",dict:=none,data:=.seq ([]:List Value).toArray }=H3 at m k ⊢;have a3:H3.objs.size=s2.heap.objs.size+1:=by rw [<- hH3,Heap.size_push]
 have hC:s2.heap.objs.size<=H3.objs.size:=by ac_nf
 have t:s2.heap.objs.size≠H3.objs.size:=by ac_nf
 have a0:∀ b o,s2.heap.get? b=some o->h4.get? b=some o:=fun b o e=>k.extBut b o (by have:=Heap.lt_size e;exact Nat.ne_of_lt (Nat.lt_of_lt_of_le this hC)) (Heap.get?_push_of_some _ (hH3 ▸ Heap.get?_push_of_some _ e));have a5:h4.get? s2.heap.objs.size=some { cls:=.type "list",data:=.seq ([]:List Value).toArray }:=k.extBut _ _ t (Heap.get?_push_of_some _ (hH3 ▸ Heap.get?_push_size _ rfl));obtain ⟨D,f⟩:∃ D,D=s2.heap.objs.size:=⟨_,rfl⟩;obtain ⟨C,b0⟩:∃ C,C=H3.objs.size:=⟨_,rfl⟩;rw [<- b0] at a3 m k hC t ⊢;rw [<- f] at F a3 hC t a5 ⊢;have G:=I2.incOk (N':=own++cs.map (·.2)) (C:=C) f2 (fun b d=>by rw [<- f];exact F b d) hkind (by rw [<- f];exact hC) hcl hhas;have I4:Inv (X.inc (own++cs.map (·.2)) scope cl fp s2 H2 C) [] (List.replicate own.length none++JaB cs σ) H2 { s2 with heap:=h4,toks:=s2.toks+([]:List (Str × Value)).length } :=
  I2.incStart (s4:={ s2 with heap:=h4,toks:=s2.toks+([]:List (Str × Value)).length }) G a0 rfl rfl m (by rw [<- f];exact hC) hcl hcs
 have Dfree:H2 D=none:=I2.hok.fresh (Nat.le_of_eq f.symm);have K:∀ b o,s2.heap.get? b=some o->b≠D:=fun b o e=>by
  rw [f];exact Nat.ne_of_lt (Heap.lt_size e)
 have b5:∀ b o,s2.heap.get? b=some o->b≠C:=fun b o e=>Nat.ne_of_lt (Nat.lt_of_lt_of_le (by rw [f];exact Heap.lt_size e) hC);have Dfs:D∉frs X.stack:=fun hm=>by
  obtain ⟨_,o,e,_⟩:=I2.stack.mem hm;exact K _ _ e rfl
 have M:∀ {σ':St} {H':Hp} {s':Shared} {us:List Value} {n:Nat} {pl:List (Addr × Obj)},Inv (X.inc (own++cs.map (·.2)) scope cl fp s2 H2 C) pl σ' H' s'->s'.heap.get? D=some { cls:=.type "list",data:=.seq us.toArray n }->H' D=none ->
   Inv (X.inc (own++cs.map (·.2)) scope cl fp s2 H2 C) [(D,{ cls:=.type "list",data:=.seq us.toArray n })] σ' H' s':=fun {σ' H' s' us n pl} J' e n'=>J'.pins_of fun p U=>by
  rcases mem_singleton.mp U with rfl
  exact ⟨e,n',t,Dfs,fun v z=>by cases z⟩
 have B:∀ {H':Hp} {o:Obj},(∀ b∈fp,H' b=none)->∀ b∈fp,FpOk (X.inc (own++cs.map (·.2)) scope cl fp s2 H2 C) [(D,o)] H' b:=fun {H' o} hn b d=>by
  refine ⟨hn b d,(G.exf b d).1,G.exfs b d, .inl d,(G.exf b d).2,fun p U=>?_⟩;rcases mem_singleton.mp U with rfl
  exact Nat.ne_of_gt (F b d)
 have O:∀ s3:Shared,s3={ s2 with heap:=h4,toks:=s2.toks+([]:List (Str × Value)).length } ->
   codeAny (model X.prog X.w) X.A (.compLoop (.ListComp elt [⟨tg,iter,[],0⟩] scope pos) 0 (.ref it) (.ref D) (compEnvC scope cl C X.env)) (compPost (model X.prog X.w) X.A X.xe none (EP X E σ Q) (.ref D) C) s3:=by
  rintro s3 rfl;refine Jgr (fun n s'=>∃ i ys us S H',Inv (X.inc (own++cs.map (·.2)) scope cl fp s2 H2 C) [(D,{ cls:=.type "list",data:=.seq us.toArray S })] (List.replicate own.length none++JaB cs σ) H' s'/\tn i s'.heap/\(∀ b∈fp,H' b=none)/\Vals ys us/\W i n ys H') ?_ m0
   ⟨0,[],[],0,H2,M (us:=[]) (n:=0) I4 a5 Dfree,T.keep _ _ _ V fun b d o e=>a0 b o e,fun b d=>(f2 b d).1, .nil,w0⟩
  rintro n s5 ⟨i,ys,us,S,R,I5,a2,a1,vy,w5⟩;obtain ⟨hz,⟨a8,qn⟩ | ⟨go,a7⟩⟩:=a6 i n ys R w5
  ·refine wpAny_mono (T.done (X.inc (own++cs.map (·.2)) scope cl fp s2 H2 C) rfl rfl rfl hc i _ s5 _ R (fun _ _=>False) I5 (B a1) a2 a8) (fun r s6 z=>?_) fun _ _ z=>z;obtain ⟨rfl,I6⟩:=z;obtain ⟨m6,b2,_⟩:=id I6.loc;refine ⟨m6,b2,fun h7 a9=>?_⟩;obtain ⟨pD,pN,_,_,_⟩:=I6.pin (D,{ cls:=.type "list",data:=.seq us.toArray S }) (by simp);have j:∀ b,b≠C->h7.get? b=s6.heap.get? b:=fun b d=>a9.2 b d;have Z:=b5;have u7:Un (frs X.stack) fp H2 R s2.heap h7:=⟨fun b o e n1 n2 n3=>(j b (Z b o e)).trans (I6.base.keep b o e n1 n2 n3),fun b o e n1 n2 n3=>by
     obtain ⟨sl,z⟩:=I6.base.slot b o e n1 n2 n3;exact ⟨sl,(j b (Z b o e)).trans z⟩,I6.base.free,fun b o e n1=>by
     obtain ⟨o',z⟩:=I6.base.there b o e n1;exact ⟨o',(j b (Z b o e)).trans z⟩,I6.base.tups,I6.base.frzs,I6.base.tbls⟩
   have Cfree:R C=none:=I6.free;have a4:HOk X.prog X.w R h7:=fun a o e=>by
    refine (I6.hok a o e).stay (fun c v b6 q=>(j c ?_).trans q) (fun _ q=>q) fun _ _ q=>q;rintro rfl;rcases b6 with z | z
    ·rw [<- z] at e;rw [Cfree] at e;cases e
    ·rw [Cfree] at z;cases z
   have I7:Inv X E σ R { s6 with heap:=h7 }:=I2.call' (s':={ s6 with heap:=h7 }) I6.os u7 a4 I6.bare fun b d=>⟨(f2 b d).2.2.2.1,(f2 b d).2.1,(f2 b d).2.2.2.2.1,(f2 b d).2.2.2.2.2⟩;have I8:=I7.track (a:=D) (o:=.lst ys) pN (Heap.get?_none_of_le (by rw [f];exact I2.sz)) (by rw [f];exact Nat.ne_of_gt I2.lt) (fun x c e z=>by
     obtain ⟨v,o,ho,_⟩:=I2.cell x c e;exact K _ _ ho z) (fun p U z=>K _ _ (I2.pin p U).1 z) ⟨hz,us,S,vy,(j D t).trans pD⟩
   exact ⟨.ref D,_,I8,rfl,qn D pN⟩
  ·refine wpAny_mono (T.item (X.inc (own++cs.map (·.2)) scope cl fp s2 H2 C) rfl rfl rfl hc i _ s5 _ R (fun _ _=>False) I5 (B a1) a2 go) (fun r s6 z=>?_) fun _ _ z=>z;obtain ⟨u,rfl,z⟩:=z;refine wpAny_mono z (fun _ s7 ζ=>?_) fun _ _ z=>z;obtain ⟨x,H7,I7,r7,y7,Y,b4⟩:=ζ;have I7':=I7.pinned (B b4) (T.obj _ _ Y);refine wpAny_mono (hg fp s2 H2 C _ s7 _ H7 x u _ I7' r7 (a7 x H7 y7)) (fun _ s8 ⟨σ8,H8,I8,q8⟩=>?_) fun _ _ z=>z;refine wpAny_mono (he fp s2 H2 C _ s8 σ8 H8 _ I8 q8) (fun uy s9 ζ=>?_) fun _ _ z=>z;obtain ⟨y,H9,I9,r9,m',b1,w9⟩:=ζ;obtain ⟨pD,pN,_,_,_⟩:=I9.pin (D,{ cls:=.type "list",data:=.seq us.toArray S }) (by simp);refine append_at (its:=us.toArray) (n:=S) pD (fun b3 P L=>?_) (by rw [size_toArray, <- vy.length];exact hz);have l:∀ b∈fp, ∀ o,s7.heap.get? b=some o->s9.heap.get? b=some o/\H9 b=none:=fun b d o e=>by
    have z:=I9.pin (b,o) (mem_append_right _ (mem_append_right _ (JbM d e)));exact ⟨z.1,z.2.1⟩
   have I9':Inv (X.inc (own++cs.map (·.2)) scope cl fp s2 H2 C) [] (List.replicate own.length none++JaB cs σ) H9 s9:=I2.incAgain I9 f2 hcl hcs;have I10:Inv (X.inc (own++cs.map (·.2)) scope cl fp s2 H2 C) [] (List.replicate own.length none++JaB cs σ) H9 { s9 with heap:=b3 }:=I9'.turned (it:=D) (t':=s9.toks) (fun b o d e=>(P.2 b d).trans e) pN t (.inr (Nat.le_of_eq f.symm)) (fun x c e z=>by
     obtain ⟨v,o,ho,_⟩:=I2.cell x c (hcl x c e);exact K _ _ ho z) fun p U=>by simp at U
   rw [lstP] at L;refine ⟨m',b1,i+1,ys++[y],us++[uy],S+1,H9,M I10 L pN,T.keep _ _ _ Y fun b d o e=>?_,fun b d=>?_,vy.append (.cons r9 .nil),w9⟩
   ·exact (P.2 b (Nat.ne_of_lt (F b d))).trans (l b d o e).1
   ·obtain ⟨o,e,_⟩:=T.obj _ _ Y b d;exact (l b d o e).2
 exact codeAny_compStart_list (O _ rfl) (T.self _ 0 _ _ _ (T.keep _ _ _ V fun b d o e=>a0 b o e) (O _ rfl))
end
section
variable {X:Cx}
def rInU (K:W.Frag):R2:=fun x y H Q=>match x,y with
 | .str i, .str j=>Q (.bl (!(Builtin.Str.occurrences j i 0 j.length 1).isEmpty)) H
 | x,y=>rIn K false x y H Q
theorem Ji6:OpR X (compareOp .In) (rInU X.K):=fun a s σ H x y v u Q I b c q=>by
 unfold rInU at q;split at q
 ·exact JhB a s σ H _ _ v u Q I b c ⟨_,_,rfl,rfl,q⟩
 ·exact JhA a s σ H _ _ v u Q I b c q
theorem JkF {K:W.Frag} (hK:X.K=K):OpR X (compareOp .In) (rInU K):=hK ▸ Ji6
theorem ix_UK {K:W.Frag} (hK:X.K=K):IxR X (rIxU K):=hK ▸ ix_U
theorem JkD {K:W.Frag} (hK:X.K=K) (hu:X.A.units+64<cLine):OpR X (compareOp .Eq) (rEqU K):=hK ▸ Jbj hu
theorem y61y {K:W.Frag} {i j:Str} {H:Hp} {Q:VK}:rInU K (.str i) (.str j) H Q=Q (.bl (!(Builtin.Str.occurrences j i 0 j.length 1).isEmpty)) H:=rfl
theorem all_range:∀ bs:List Bool,(List.range bs.length).all (fun i=>bs.getD i false)=bs.all id:=fun bs=>by
 rw [Bool.eq_iff_iff];simp only [List.all_eq_true,List.mem_range,id];constructor
 ·intro h x b;obtain ⟨i,a,rfl⟩:=List.mem_iff_getElem.mp b;have:=h i a;simpa [List.getD_eq_getElem?_getD,a] using this
 ·intro h i a;have:=h bs[i] (List.getElem_mem a);simpa [List.getD_eq_getElem?_getD,a] using this
def rAll (K:W.Frag):List V->Hp->VK->Prop:=fun xs H Q=>∃ (p:Addr) (bs:List Bool),xs=[.ref p]/\SqL K H p (bs.map V.bl)/\Q (.bl (bs.all id)) H
theorem JgS (hc:X.calm=true):CallR X (.builtin "all") (rAll X.K):=fun m s σ H G J Q I r q=>by
 obtain ⟨p,c,rfl,w,q⟩:=q;obtain ⟨a,h,f,F⟩:=I.list w;obtain ⟨u,rfl,z⟩:=vals1 r;cases (show u=Value.ref p from z);refine call_all_walk (wpAny_pyIter_list f.isList ?_);have g:p<s.heap.objs.size:=by
  obtain ⟨_,e,_⟩:=f.isList;exact Heap.lt_size e
 refine ⟨s.heap.objs.size,_,_,a.toArray.size,_,_,fun i=>c.getD i false,rfl,Walks.list (by show X.A.handled=none;exact I.ok.hd hc) s.heap.objs.size p (Nat.ne_of_lt g) a.toArray,⟨⟨_,Heap.get?_push_size _ rfl,rfl,rfl⟩,f.isList.push _⟩,?_,?_⟩
 ·intro i v M Q' E' C B;have d:a[i]?=some v:=by simpa using C
  have j:i<c.length:=by
   obtain ⟨N,_⟩:=List.getElem?_eq_some_iff.mp d;have l:=h.length;rw [length_map] at l;ac_nf
  obtain ⟨L,n,t⟩:=h.get (i:=i) (x:=.bl c[i]) (by simp [j]);rw [d] at n;cases n;cases (show v=Value.bool c[i] from t);refine wpAny_truthy_bool ?_;simpa [List.getD_eq_getElem?_getD,j] using B
 ·intro E y k;have l:=h.length;rw [length_map] at l;have o:(List.range a.toArray.size).all (fun i=>c.getD i false)=c.all id:=by rw [size_toArray, <- l];exact all_range c
  rw [o];exact ⟨.bl _,H,I.kept (t':=y) fun b D e=>k b D (by have:=Heap.lt_size e;simp;exact Nat.ne_of_lt this) (Heap.get?_push_of_some _ e),rfl,q⟩
def rSlS:V->Option Int->Option Int->Hp->VK->Prop:=fun x lo hi H Q=>∃ z,x=.str z/\z.length<=sizeLine/\Q (.str (Txt.slice z lo hi)) H
theorem JkQ:SlR X rSlS:=fun b s σ H x v vl n j i m Q I g d f pu h=>by
 obtain ⟨z,rfl,c,q⟩:=h;obtain ⟨t,rfl⟩:=g;refine ⟨"str",_,F.slot_str_getitem.lookup,typeIs_str _ _ _,?_⟩;have a:∀ (e:Tok) (k:Nat),EP X b σ Q (.str (Txt.slice z j i) e) { s with toks:=k }:=fun e k=>⟨.str _,H,I.tok k,⟨_,rfl⟩,q⟩;cases f <;> cases pu
 ·exact wpAny_getItem_str_slice (l:=none) (u:=none) (st:=none) d rfl (post_val_or_str ⟨Nat.le_trans (Txt.slice_le z _ _) c,a⟩)
 ·exact wpAny_getItem_str_slice (l:=none) (u:=some (_,_)) (st:=none) d rfl (post_val_or_str ⟨Nat.le_trans (Txt.slice_le z _ _) c,a⟩)
 ·exact wpAny_getItem_str_slice (l:=some (_,_)) (u:=none) (st:=none) d rfl (post_val_or_str ⟨Nat.le_trans (Txt.slice_le z _ _) c,a⟩)
 ·exact wpAny_getItem_str_slice (l:=some (_,_)) (u:=some (_,_)) (st:=none) d rfl (post_val_or_str ⟨Nat.le_trans (Txt.slice_le z _ _) c,a⟩)
def rSlV (K:W.Frag):V->Option Int->Option Int->Hp->VK->Prop:=fun x lo hi H Q=>rSlU K x lo hi H Q\/rSlS x lo hi H Q
theorem sl_V:SlR X (rSlV X.K):=SlR.or sl_U JkQ
end
theorem hcl0 {X:Cx}:∀ (x:Str) (c:Addr),([]:List (Str × Addr)).lookup x=some c->X.env.cells.lookup x=some c:=fun _ _ h=>by simp at h
theorem hcs0 {X:Cx} {scope:Scope}:∀ p∈([]:List (Nat × Str)),X.N[p.1]?=some p.2/\X.env.scope.names.lookup p.2=some .cell/\(relabel scope X.env).names.lookup p.2=some .cell:=fun _ h=>by simp at h
theorem hhas0 {X:Cx} {scope:Scope} (h:scope.names.all (fun p=>p.2 != .free&&p.2 != .cell)=true):∀ y,((relabel scope X.env).names.lookup y=some .cell\/(relabel scope X.env).names.lookup y=some .free)->∃ c,([]:List (Str × Addr)).lookup y=some c:=fun y a=>by
 exfalso;have i:=List.all_eq_true.mp h;have f:∀ k,(relabel scope X.env).names.lookup y=some k->k≠.cell/\k≠.free:=fun k e=>by
  have m:=PySem.mem_of_lookup e;obtain ⟨⟨n,d⟩,j,g⟩:=mem_map.mp (show (y,k)∈scope.names.map _ from m);have z:=i _ j;simp only [bne_iff_ne,ne_eq,Bool.and_eq_true] at z;have b:(if (d == NameKind.free&&X.env.scope.kind == .function&&X.env.kindOf n == some .cell)=true then (n,NameKind.cell) else (n,d))=(y,k):=g;split at b
  ·rename_i c;rw [Bool.and_eq_true,Bool.and_eq_true] at c;exact absurd (beq_iff_eq.mp c.1.1) z.1
  ·cases b;exact ⟨z.2,z.1⟩
 rcases a with a | a
 ·exact (f _ a).1 rfl
 ·exact (f _ a).2 rfl
def tyD:D->String
 | .non=>"NoneType"
 | .bl _=>"bool"
 | .int _=>"int"
 | .str _=>"str"
 | .tup _=>"tuple"
 | .lst _=>"list"
theorem Rep.tyN {K:W.Frag} {H:Hp} {d:D} {x:V} (h:Rep K H d x):L2.tyN K H x (tyD d):=by
 cases d <;> simp only [Rep] at h
 ·subst h;rfl
 ·subst h;rfl
 ·subst h;rfl
 ·subst h;rfl
 ·obtain ⟨a,b,rfl,q,_⟩:=h;exact .inr ⟨rfl,b,q⟩
 ·obtain ⟨a,b,rfl,q,_⟩:=h;exact .inl ⟨rfl,b,q⟩
mutual
def szD:D->Prop
 | .int i=>Mth.Sz 4000 i
 | .str s=>s.length<=1000
 | .tup xs=>szL xs
 | .lst xs=>szL xs
 | _=>True
def szL:List D->Prop
 | []=>True
 | x::xs=>szD x/\szL xs
end
def lowB (c:Nat):Bool:=decide (97<=c/\c<=122)
def nameS (s:Str):Bool:=(decide (1<=s.length)&&decide (s.length<=8))&&s.cps.toList.all lowB
def nameB:D->Bool
 | .str s=>nameS s
 | _=>false
def JcZ:D->Bool
 | .int _=>true
 | _=>false
def fracB:D->Bool
 | .tup [.int a, .int b]=>decide (1<=b)&&decide (Mth.g a b=1)
 | _=>false
def Jb2:D->Bool
 | .non=>true
 | d=>fracB d
def JdM (d e:D):Bool:=nameB d&&nameB e&&!eqD d e
def lessD:D->D->Bool
 | .tup [.int a, .int b], .tup [.int c, .int d]=>decide (a*d<c*b)
 | _,_=>false
def Jc9 (l g:D):Bool:=Jb2 l&&Jb2 g&&!lessD g l
def tieB:D->Bool
 | .tup [n,s,e,l,g]=>nameB n&&JdM s e&&Jc9 l g
 | _=>false
theorem Jgx:(Str.ofString "abcdefghijklmnopqrstuvwxyz").cps.toList=List.range' 97 26:=by decide
theorem Jgt (c:Nat):(!(Builtin.Str.occurrences (Str.ofString "abcdefghijklmnopqrstuvwxyz") ⟨#[c]⟩ 0 (Str.ofString "abcdefghijklmnopqrstuvwxyz").length 1).isEmpty)=lowB c:=by
 rw [StrLaws.found_one,Jgx];unfold lowB
 congr 1
 rw [List.mem_range'];refine propext ⟨fun ⟨i,a,e⟩=>by ac_nf,fun h=>⟨c-97,by ac_nf,by ac_nf⟩⟩
structure KCal (P:Program) (w:World) (K:W.Frag) (mg:Str->Option Value) (base:Heap) (k:Nat) (x:Str) (C:Addr) (ps:List Str) (sp:Sp):Prop where
 ex:∃ (f:Addr) (fd:FuncData),FnOk P w K mg base (CX1 P w) k f fd ps sp/\mg x=some (.ref C)/\Mk K C f/\Binds K fd ps []
structure MCal (P:Program) (w:World) (K:W.Frag) (mg:Str->Option Value) (base:Heap) (k:Nat) (m:Str) (Cs:Addr->Prop) (ps:List Str) (sp:Sp):Prop where
 ex:∃ (f:Addr) (fd:FuncData),FnOk P w K mg base (CX1 P w) k f fd ps sp/\(∀ C,Cs C->Cls K C/\Meth K C m f)/\W.keepIn K (.ref f)=true/\Binds K fd ps []
def Jh1 (Cs:Addr->Prop) (m:Str) (sp:Sp) (E:XK) (ta:TE) (t:TA):TE:=fun σ H Q=>ta σ H fun x H1=>∃ a C dx fs,x=.ref a/\H1 a=some (.ins C dx fs)/\Cs C/\fs.lookup m=none/\t σ H1 fun vs H2=>sp (x::vs) H2 Q E
section
variable {X:Cx} {k k':Nat} {x mn:Str} {C:Addr} {Cs:Addr->Prop} {ps:List Str} {sp:Sp} {E:XK} {p pos apos:Pos} {e o:Expr} {es:List Expr} {t:TA} {ta:TE}
theorem KCal.ev (G:KCal X.prog X.w X.K X.mg X.base k x C ps sp) (hr:Room k' X.A) (hk:k+1<=k') (hg:Gl X x) (hx:JbI (CX1 X.prog X.w) X E) (ha:PA X (e::es) t)
  (hdb:(x == ("__debug__" : Str))=false:=by decide) (he:starEach (e::es) X.env=(false,eval e X.env)::starEach es X.env:=by rfl) (hpl:(backTo pos (starEach es X.env)).any (·.1)=false:=by rfl) :
  PE X (.Call (.Name x p) (e::es) [] pos) (tMake C sp [] E t):=by
 obtain ⟨f,c,F,a,M,b⟩:=G.ex;exact JjN M F (hr.mono hk) hg a b .nil hx ha hdb he hpl
theorem MCal.m {pl:Sem Bool} (G:MCal X.prog X.w X.K X.mg X.base k mn Cs ps sp) (hr:Room k' X.A) (hk:k<=k') (hx:JbI (CX1 X.prog X.w) X E) (ho:PE X o ta) (ha:PA X (e::es) t)
  (hst:starEach (e::es) X.env=(false,eval e X.env)::starEach es X.env:=by rfl) (hpl:(backTo pos (starEach es X.env)).any (·.1)=false:=by rfl)
  (ht:eval (.Call (.Attribute o mn apos) (e::es) [] pos) X.env=(do
   let ov <- eval o X.env
   standAt apos.atName
   let (f,first) <- holding [ov] (getMethod ov mn pl)
   callWith pos f first (backTo pos (starEach (e::es) X.env)) (backToKw pos (keywordEach [] X.env))):=by rfl) :
  PE X (.Call (.Attribute o mn apos) (e::es) [] pos) (Jh1 Cs mn sp E ta t):=by
 obtain ⟨f,B,F,c,z,y⟩:=G.ex;intro b s σ H Q I h;refine W.methodCall_KW (pl:=pl) (thn (ho b s σ H _ I h) fun u v ζ=>?_) ht;obtain ⟨x,p,I1,i,a,C,L,J,n,g,d,l,q⟩:=ζ;subst n;obtain rfl:u=Value.ref a:=i;refine JcQ I1 g (c C d).1 (c C d).2 l ?_;refine W.callWith_K (first:=[.ref a]) (h₀:=X.base) I.ok.mod.kin z (thn (ha pos b v σ p _ I1 q) fun us D ⟨vs,M,I2,r,j⟩=>⟨I2.kIn,?_⟩) hst hpl;exact JhS (us:=.ref a::us) (vs:=.ref a::vs) F (hr.mono hk) y .nil hx I2 (.cons rfl r) (by simpa using j)
theorem MCal.m0 {pl:Sem Bool} (G:MCal X.prog X.w X.K X.mg X.base k mn Cs ps sp) (hr:Room k' X.A) (hk:k<=k') (hx:JbI (CX1 X.prog X.w) X E) (ho:PE X o ta)
  (ht:eval (.Call (.Attribute o mn apos) [] [] pos) X.env=(do
   let ov <- eval o X.env
   standAt apos.atName
   let (f,first) <- holding [ov] (getMethod ov mn pl)
   callWith pos f first (backTo pos (starEach [] X.env)) (backToKw pos (keywordEach [] X.env))):=by rfl) :
  PE X (.Call (.Attribute o mn apos) [] [] pos) (Jh1 Cs mn sp E ta tNil):=by
 obtain ⟨f,p,F,c,n,m⟩:=G.ex;intro b s σ H Q I h;refine W.methodCall_KW (pl:=pl) (thn (ho b s σ H _ I h) fun u r ζ=>?_) ht;obtain ⟨x,j,I1,g,a,C,v,t,i,e,d,l,q⟩:=ζ;subst i;obtain rfl:u=Value.ref a:=g;refine JcQ I1 e (c C d).1 (c C d).2 l ?_;exact W.callWith_K0 (first:=[.ref a]) I1.kIn n (JhS (us:=[.ref a]) (vs:=[.ref a]) F (hr.mono hk) m .nil hx I1 (.cons rfl .nil) (show sp ([.ref a]++[]) j Q E from q))
def rMulS:R2:=fun x y H Q=>match x,y with
 | .str z, .int n=>0<n/\n<1000/\z.length<=1000/\∀ z':Str,z'.cps.toList=(List.replicate n.toNat z.cps.toList).flatten->Q (.str z') H
 | x,y=>rMulU x y H Q
theorem JdX:∀ (l:List (Array Nat)) (acc:Array Nat),(l.foldl (· ++ ·) acc).toList=acc.toList++(l.map (·.toList)).flatten
 | [],acc=>by simp
 | x::l,acc=>by
  rw [foldl_cons,JdX l];simp
theorem JhC:OpR X (binaryOp .Mult) rMulS:=fun a s σ H x y v u Q I b d q=>by
 unfold rMulS at q;split at q
 ·rename_i z n;obtain ⟨i,k,f,q⟩:=q;obtain ⟨t,rfl⟩:=b;obtain ⟨j,rfl⟩:=d;have g:z.cps.size=z.length:=rfl;have h:z.length*n.toNat<=1000*1000:=Nat.mul_le_mul f ∅;refine PySem.P.mul_str (by simp;ac_nf) (fun _ _=>?_) (fun _ _=>?_) ?_
  ·have : (1000:Int)<=(2 ^ 63-1)/n:=by
    rw [Int.le_ediv_iff_mul_le i];ac_nf
   ac_nf
  ·unfold Builtin.Str.tooLong;simp;have : (1000*1000:Nat)<=sizeLine:=by decide
   ac_nf
  ·rw [if_neg ∅];split
   ·rename_i c;refine ⟨.str z,H,I,⟨_,rfl⟩,q z ?_⟩;rcases Bool.or_eq_true _ _ |>.mp c with c | c
    ·obtain rfl:n=1:=by simpa using c
     simp
    ·have e:z.cps.toList=[]:=by
      have : z.length=0:=by simpa using c
      exact eq_nil_of_length_eq_zero (by rw [Array.length_toList];exact this)
     rw [e];simp
   ·refine ⟨?_, .str _,H,I.tok _,⟨_,rfl⟩,q _ ?_⟩
    ·show (Array.size _)<=sizeLine;rw [<- Array.length_toList,JdX];simp;have : (1000*1000:Nat)<=sizeLine:=by decide
     rw [Nat.mul_comm,g];ac_nf
    ·rw [JdX];simp
 ·exact JjH a s σ H _ _ v u Q I b d q
def rIsN:R2:=fun x y H Q=>y=.non/\Q (.bl (decide (x=.non))) H
def rNotN:R2:=fun x y H Q=>y=.non/\Q (.bl (!decide (x=.non))) H
theorem Jbm:OpR X (compareOp .Is) rIsN:=JkG
theorem JbT:OpR X (compareOp .IsNot) rNotN:=JjI
def JkM (K:W.Frag):List V->Hp->VK->Prop:=fun xs H Q=>∃ p ys,xs=[.ref p]/\(SqL K H p ys\/SqT K H p ys)/\∀ l,H l=none->Q (.ref l) (upd H l (.lst ys))
theorem Jcg:CallR X (.type "list") (JkM X.K):=JeF
end
section
variable {K:W.Frag} {H:Hp} {Q:VK}
theorem y64y {x:V}:rIsN x .non H Q=Q (.bl (decide (x=.non))) H:=by simp [rIsN]
theorem y7by {x:V}:rNotN x .non H Q=Q (.bl (!decide (x=.non))) H:=by simp [rNotN]
theorem y6ay {C:Addr} {sp:Sp} {dvs:List V} {E:XK} {t:TA} {σ : St}:tMake C sp dvs E t σ H Q=t σ H fun vs H1=>∀ x dx,H1 x=none->H1 dx=none->dx≠x->sp (.ref x::(vs++dvs)) (upd (upd H1 dx (.own x)) x (.ins C dx [])) (fun v H2=>v=.non/\Q (.ref x) H2) E:=rfl
theorem y6cy {Cs:Addr->Prop} {mn:Str} {sp:Sp} {E:XK} {ta:TE} {t:TA} {σ : St}:Jh1 Cs mn sp E ta t σ H Q=ta σ H fun x H1=>∃ a C dx fs,x=.ref a/\H1 a=some (.ins C dx fs)/\Cs C/\fs.lookup mn=none/\t σ H1 fun vs H2=>sp (x::vs) H2 Q E:=rfl
theorem y4ey {ta:TE} {f:Str} {σ : St}:tFld K ta f σ H Q=ta σ H fun x H1=>∃ a C dx fs v,x=.ref a/\H1 a=some (.ins C dx fs)/\Cls K C/\Ja2 K C f/\fs.lookup f=some v/\Q v H1:=rfl
theorem y8by {ta tv:TE} {f:Str} {σ : St} {En:Ends}:sFld K ta tv f En σ H=tv σ H fun y H1=>ta σ H1 fun x H2=>∃ a C dx fs,x=.ref a/\H2 a=some (.ins C dx fs)/\Cls K C/\Ja2 K C f/\fs.length<1000/\En.nx σ (upd H2 a (.ins C dx (putF f y fs))):=rfl
theorem y2dy {T:String} {r:V->List V->Hp->VK->Prop} {to:TE} {t:TA} {σ : St}:tBM K T r to t σ H Q=to σ H fun x H1=>tyV K T x H1/\t σ H1 fun vs H2=>r x vs H2 Q:=rfl
theorem y5by {g:TG} {gs:TGs} {v:V} {r:List V} {σ : St} {R:St->Hp->Prop}:gCons g gs (v::r) σ H R=g v σ H fun σ' H'=>gs r σ' H' R:=by
 unfold gCons;refine propext ⟨fun ⟨b,a,e,h⟩=>?_,fun h=>⟨v,r,rfl,h⟩⟩;cases e;exact h
theorem y5dy {σ : St} {R:St->Hp->Prop}:gNil [] σ H R=R σ H:=by unfold gNil;simp
theorem FrV.of_rep {x:V} {a b:Int} (h:Rep K H (.tup [.int a, .int b]) x):FrV K H x a b:=by
 simp only [Rep,RepL] at h;obtain ⟨p,d,rfl,q,v,r,rfl,rfl,c,e,rfl,rfl,rfl⟩:=h;exact ⟨p,rfl,q⟩
theorem JbK {d:D} (h:fracB d=true):∃ a b,d=.tup [.int a, .int b]/\1<=b/\Mth.g a b=1:=by
 unfold fracB at h;split at h
 ·rw [Bool.and_eq_true] at h;exact ⟨_,_,rfl,by simpa using h.1,by simpa using h.2⟩
 ·cases h
theorem JdP {d:D} (h:nameB d=true):∃ z,d=.str z/\nameS z=true:=by
 cases d <;> first | exact ⟨_,rfl,h⟩ | (simp [nameB] at h)
theorem Rep.str {d:Str} {x:V} (h:Rep K H (.str d) x):x=.str d:=by simpa only [Rep] using h
def nonD:D->Bool
 | .non=>true
 | _=>false
theorem Jhw {d:D} (h:d≠.non):nonD d=false:=by cases d <;> first | rfl | exact absurd rfl h
theorem Rep.nonV {d:D} {x:V} (hx:Rep K H d x):decide (x=.non)=nonD d:=by
 cases d <;> simp only [Rep] at hx
 ·subst hx;rfl
 ·subst hx;rfl
 ·subst hx;rfl
 ·subst hx;rfl
 ·obtain ⟨a,b,rfl,_⟩:=hx;rfl
 ·obtain ⟨a,b,rfl,_⟩:=hx;rfl
theorem putE {H':Hp} {l:Addr} {o:HO} (e:upd H l o=H'):H' l=some o:=by rw [<- e,Jam]
theorem putN {H':Hp} {l b:Addr} {o o' u:HO} (e:upd H l o=H') (hl:H l=some o') (hb:H b=some u) (ne:u≠o'):H' b=some u:=by
 rw [<- e,Jaf (ne_of hb hl ne)];exact hb
end
def tieF (n s e l g:V):List (Str × V):=[("name",n),("start",s),("end",e),("least",l),("greatest",g)]
section
variable {En:Ends} {σ : St} {H:Hp} {Q:VK} {ta tb te tc td:TE} {K:W.Frag}
end
def Jbr (cells:List (Str × Addr)):List (Str × NameKind)->List (Str × Addr)->List (Str × Addr)
 | [],acc=>acc
 | (n,k)::r,acc=>Jbr cells r (if k == .free then (n,(cells.lookup n).getD 0)::acc else acc)
theorem Jfg {env:Env}:∀ (names:List (Str × NameKind)) (acc:List (Str × Addr)),(∀ p∈names,p.2=.free->∃ c,env.cells.lookup p.1=some c) ->
  (forIn names acc fun (p:Str × NameKind) cs=>(if p.2 == .free then do let c <- cellOf env p.1;pure (ForInStep.yield ((p.1,c)::cs)) else pure (ForInStep.yield cs):Sem (ForInStep (List (Str × Addr)))))=(pure (Jbr env.cells names acc):Sem (List (Str × Addr)))
 | [],acc,_=>by simp [Jbr]
 | (n,k)::r,acc,h=>by
  rw [List.forIn_cons];by_cases c:(k == .free)=true
  ·obtain ⟨a,ha⟩:=h (n,k) mem_cons_self (beq_iff_eq.mp c);have e:cellOf env n=pure a:=by unfold cellOf;rw [ha]
   simp only [c,if_true,e,pure_bind];have:=Jfg (env:=env) r ((n,a)::acc) fun p hp=>h p (mem_cons_of_mem _ hp);simp only [Jbr,c,if_true,ha,Option.getD_some];exact this
  ·have c':(k == .free)=false:=by simpa using c
   simp only [c',Bool.false_eq_true,if_false,pure_bind];have:=Jfg (env:=env) r acc fun p hp=>h p (mem_cons_of_mem _ hp);simp only [Jbr,c',Bool.false_eq_true,if_false];exact this
theorem JgV {scope:Scope} {env:Env} (h:∀ p∈scope.names,p.2=.free->∃ c,env.cells.lookup p.1=some c):closureFor scope env=pure (Jbr env.cells scope.names []):=by
 have:=Jfg (env:=env) scope.names [] h;unfold closureFor;simp only [pure_bind];refine Eq.trans ?_ (congrArg (fun m:Sem (List (Str × Addr))=>m >>= pure) this |>.trans (by simp));first | rfl | (congr 1)
theorem JcO {cells:List (Str × Addr)}:∀ (names:List (Str × NameKind)) (acc:List (Str × Addr)),(∀ x c,acc.lookup x=some c->cells.lookup x=some c)->(∀ p∈names,p.2=.free->∃ c,cells.lookup p.1=some c) ->
  ∀ x c,(Jbr cells names acc).lookup x=some c->cells.lookup x=some c
 | [],acc,ha,_,x,c,h=>ha x c h
 | (n,k)::r,acc,ha,hf,x,c,h=>by
  simp only [Jbr] at h;refine JcO r _ ?_ (fun p hp=>hf p (mem_cons_of_mem _ hp)) x c h;intro y d hy;by_cases f:(k == .free)=true
  ·rw [if_pos f] at hy;obtain ⟨a,e⟩:=hf (n,k) mem_cons_self (beq_iff_eq.mp f);rw [List.lookup_cons] at hy;by_cases q:(y == n)=true
   ·rw [q] at hy;have q':y=n:=beq_iff_eq.mp q;subst q';have e':cells.lookup y=some a:=e;rw [e'] at hy ⊢;simpa using hy
   ·have q':(y == n)=false:=by simpa using q
    rw [q'] at hy;exact ha y d hy
  ·rw [if_neg f] at hy;exact ha y d hy
theorem JcN {cells:List (Str × Addr)}:∀ (names:List (Str × NameKind)) (acc:List (Str × Addr)) (y:Str),((∃ c,acc.lookup y=some c)\/(y,NameKind.free)∈names)->∃ c,(Jbr cells names acc).lookup y=some c
 | [],acc,y,h=>by
  rcases h with h | h
  ·exact h
  ·simp at h
 | (n,k)::r,acc,y,h=>by
  simp only [Jbr];refine JcN r _ y ?_;rcases h with ⟨c,h⟩ | h
  ·refine .inl ?_;split
   ·rw [List.lookup_cons];cases (y == n)
    ·exact ⟨c,h⟩
    ·exact ⟨_,rfl⟩
   ·exact ⟨c,h⟩
  ·rcases mem_cons.mp h with e | h
   ·cases e;refine .inl ?_;rw [if_pos ⋯,List.lookup_cons];simp
   ·exact .inr h
section
variable {X:Cx} {tg:Expr}
theorem Jeg {iter elt:Expr} {scope:Scope} {pos:Pos} {own:List Str} {cs:List (Nat × Str)} {wi:TI} {g:TG} {te:TE} (hc:X.calm=true) (hi:PI X tg iter wi)
  (hg:∀ fp s2 H2 C,PG (X.inc (own++cs.map (·.2)) scope (Jbr X.env.cells scope.names []) fp s2 H2 C) tg g) (he:∀ fp s2 H2 C,PE (X.inc (own++cs.map (·.2)) scope (Jbr X.env.cells scope.names []) fp s2 H2 C) elt te)
  (hfree:∀ p∈scope.names,p.2=.free->X.env.scope.names.lookup p.1=some .cell) (hcell:∀ y∈scope.names,y.2≠.cell) (hkind:scope.kind=.function) (hnames:∀ y∈scope.names,y.2=.local->scope.names.lookup y.1=some .local)
  (hcs:∀ p∈cs,X.N[p.1]?=some p.2/\X.env.scope.names.lookup p.2=some .cell/\(relabel scope X.env).names.lookup p.2=some .cell)
  (hs:∀ x,foldedSetIterable iter X.env x=pure x:=by intro _;rfl):PE X (.ListComp elt [⟨tg,iter,[],0⟩] scope pos) (tComp own.length cs wi g te):=by
 intro a s σ H Q I h;have l:∀ p∈scope.names,p.2=.free->∃ c,X.env.cells.lookup p.1=some c:=fun p r i=>I.ok.has p.1 (.inl (hfree p r i));refine Jcs hc hi hg he (JgV l) hcell hkind hnames (JcO scope.names [] (fun _ _ z=>by simp at z) l) (fun y b=>JcN scope.names [] y (.inr ?_)) hcs hs a s σ H Q I h;have o:∀ k,(k=.cell\/k=.free)->(relabel scope X.env).names.lookup y=some k->(y,NameKind.free)∈scope.names:=fun k i e=>by
  have m:=PySem.mem_of_lookup e;obtain ⟨⟨n,j⟩,f,q⟩:=mem_map.mp (show (y,k)∈scope.names.map _ from m);have d:(if (j == NameKind.free&&X.env.scope.kind == .function&&X.env.kindOf n == some .cell)=true then (n,NameKind.cell) else (n,j))=(y,k):=q;split at d
  ·rename_i c;rw [Bool.and_eq_true,Bool.and_eq_true] at c;have:=beq_iff_eq.mp c.1.1;subst this;cases d;exact f
  ·cases d;rcases i with rfl | rfl
   ·exact absurd rfl (hcell _ f)
   ·exact f
 rcases b with b | b
 ·exact o _ (.inl rfl) b
 ·exact o _ (.inr rfl) b
theorem Jf4 {scope sc:Scope} (h:scope.names.all (fun p=>p.2 != .free||(sc.names.lookup p.1 == some .cell))=true):∀ p∈scope.names,p.2=.free->sc.names.lookup p.1=some .cell:=fun p b a=>by
 have z:=List.all_eq_true.mp h p b;rw [a] at z;simpa using z
end
theorem hcs1 {X:Cx} {scope:Scope} {i:Nat} {x:Str} (a:X.N[i]?=some x) (b:X.env.scope.names.lookup x=some .cell) (c:(relabel scope X.env).names.lookup x=some .cell) :
  ∀ p∈[(i,x)],X.N[p.1]?=some p.2/\X.env.scope.names.lookup p.2=some .cell/\(relabel scope X.env).names.lookup p.2=some .cell:=fun p d=>by
 rcases mem_singleton.mp d with rfl
 exact ⟨a,b,c⟩
theorem Jd7 {a b:Int} (hb:1<=b) (h:Mth.g a b=1):Mth.top (0*b-a*1) (1*b) = -a/\Mth.bot (0*b-a*1) (1*b)=b:=by
 have e:(0*b-a*1:Int) = -a:=by simp
 have d:(1*b:Int)=b:=by simp
 rw [e,d];have c:b≠0:=by ac_nf
 have u:=Mth.JdO (Mth.JbO (t:=-a) c) hb (Mth.g_low (t:=-a) c) (by rw [Mth.g_neg];exact h) (Mth.cross (t:=-a) c);exact u
section
variable {X:Cx} {tg:Expr}
theorem Jjt {X:Cx} {scope:Scope} (hcell:∀ y∈scope.names,y.2≠.cell) {y:Str} (hy:(relabel scope X.env).names.lookup y=some .cell\/(relabel scope X.env).names.lookup y=some .free):(y,NameKind.free)∈scope.names:=by
 have f:∀ k,(k=.cell\/k=.free)->(relabel scope X.env).names.lookup y=some k->(y,NameKind.free)∈scope.names:=fun k h e=>by
  have m:=PySem.mem_of_lookup e;obtain ⟨⟨n,d⟩,b,g⟩:=mem_map.mp (show (y,k)∈scope.names.map _ from m);have a:(if (d == NameKind.free&&X.env.scope.kind == .function&&X.env.kindOf n == some .cell)=true then (n,NameKind.cell) else (n,d))=(y,k):=g;split at a
  ·rename_i c;rw [Bool.and_eq_true,Bool.and_eq_true] at c;have:=beq_iff_eq.mp c.1.1;subst this;cases a;exact b
  ·cases a;rcases h with rfl | rfl
   ·exact absurd rfl (hcell _ b)
   ·exact b
 rcases hy with hy | hy
 ·exact f _ (.inl rfl) hy
 ·exact f _ (.inr rfl) hy
end
section
variable {prog:Program} {w:World} {A:Around} {E:Value->Shared->Prop} {R:Result->Shared->Prop} {s:Shared}
theorem Jfi {elt target iter tst:Expr} {scope:Scope} {pos:Pos} {it acc:Value} {env:Env} (J:Nat->Shared->Prop)
  (turn:∀ n s,J n s->wpAny (model prog w) A (pyNext it) (fun r s1=>match r with
   | none=>R (.ok .next) s1
   | some v=>wpAny (model prog w) A (letOwnedTupleGo target it v) (fun _ s2=>wpAny (model prog w) A (assign target env v) (fun _ s3=>wpAny (model prog w) A (isTrue tst env (eval tst env)) (fun b s3'=>if b=true then wpAny (model prog w) A (eval elt env) (fun x s4=>
     wpAny (model prog w) A (call (.builtin "list.append") [acc,x]) (fun _ s5=>∃ m,m<n/\J m s5) (fun _ _=>False) s4) (fun _ _=>False) s3' else ∃ m,m<n/\J m s3') (fun _ _=>False) s3) (fun _ _=>False) s2) (fun _ _=>False) s1) (fun _ _=>False) s) (n:Nat) (h:J n s) :
  codeAny (model prog w) A (.compLoop (.ListComp elt [⟨target,iter,[tst],0⟩] scope pos) 0 it acc env) R s:=by
 refine codeAny_loop rfl J (fun n s e=>?_) n h;show wpAny _ A ((compTurn (.ListComp elt [⟨target,iter,[tst],0⟩] scope pos) 0 it acc env).onRaise (fun y=>do noteFrame y env;theTreesLotGoes y)) _ _ s
 (refine wpAny_noted ?_;rw [compTurn_list])
 refine wpAny_bind (wpAny_standAt (wpAny_bind (wpAny_mono (turn n s e) (fun r s1 c=>?_) fun _ _ z=>z.elim)));cases r with
 | none=>exact wpAny_pure c
 | some v=>
  refine wpAny_bind (wpAny_mono c (fun _ s2 d=>wpAny_bind (wpAny_mono d (fun _ s3 i=>?_) fun _ _ z=>z.elim)) fun _ _ z=>z.elim);refine wpAny_bind (wpAny_tests_one (wpAny_mono i (fun b s3' a=>?_) fun _ _ z=>z.elim));cases b with
  | true=>exact wpAny_bind (wpAny_bind (wpAny_mono a (fun x s4 g=>(wpAny_bind (wpAny_mono g (fun _ s5 f=>(wpAny_pure (wpAny_pure ⟨rfl,f⟩))) fun _ _ z=>z.elim))) fun _ _ z=>z.elim))
  | false=>exact wpAny_bind (wpAny_pure (wpAny_pure ⟨rfl,a⟩))
end
def Jgj (k:Nat) (cs:List (Nat × Str)) (wi:TI) (g:TG) (tt:TT) (te:TE):TE:=fun σ H Q=>wi σ H fun J H1=>∃ W:Nat->Nat->List V->Hp->Prop,(∃ m,W 0 m [] H1)/\∀ i m ys H2,W i m ys H2->ys.length<=sizeLine /\
  ((J.stop i H2/\∀ p,H2 p=none->Q (.ref p) (upd H2 p (.lst ys))) \/
   (J.go i H2/\∀ x H3,J.yld i H2 x H3->g x (List.replicate k none++JaB cs σ) H3 fun σ4 H4=>tt σ4 H4 fun b H5=>if b=true then te σ4 H5 fun y H6=>∃ m',m'<m/\W (i+1) m' (ys++[y]) H6 else ∃ m',m'<m/\W (i+1) m' ys H5))
section
variable {X:Cx} {tg:Expr}
theorem Jfh {iter elt tst:Expr} {scope:Scope} {pos:Pos} {own:List Str} {cl:List (Str × Addr)} {cs:List (Nat × Str)} {g:TG} {te:TE} {tt:TT} {pins:List (Addr × Obj)} {s2:Shared} {σ : St} {H2:Hp} {it:Addr} {fp:List Addr} {tn:Nat->Heap->Prop} {J:It}
  {W:Nat->Nat->List V->Hp->Prop} {m0:Nat} {QN:List V->Hp->Prop} {RR:Value->Addr->Result->Shared->Prop} {E:Value->Shared->Prop} (hc:X.calm=true)
  (hg:∀ fp s2 H2 C,PG (X.inc (own++cs.map (·.2)) scope cl fp s2 H2 C) tg g) (ht:∀ fp s2 H2 C,PT (X.inc (own++cs.map (·.2)) scope cl fp s2 H2 C) tst tt) (he:∀ fp s2 H2 C,PE (X.inc (own++cs.map (·.2)) scope cl fp s2 H2 C) elt te)
  (hcell:∀ y∈scope.names,y.2≠.cell) (hkind:scope.kind=.function)
  (hcl:∀ x c,cl.lookup x=some c->X.env.cells.lookup x=some c) (hhas:∀ y,((relabel scope X.env).names.lookup y=some .cell\/(relabel scope X.env).names.lookup y=some .free)->∃ c,cl.lookup y=some c)
  (hcs:∀ p∈cs,X.N[p.1]?=some p.2/\X.env.scope.names.lookup p.2=some .cell/\(relabel scope X.env).names.lookup p.2=some .cell)
  (I2:Inv X pins σ H2 s2) (T:Turn X.prog X.w X.K tg J fp it tn) (st2:tn 0 s2.heap) (f2:∀ b∈fp,FpOk X pins H2 b) (w0:W 0 m0 [] H2)
  (turn:∀ i m ys H2,W i m ys H2->ys.length<=sizeLine/\((J.stop i H2/\QN ys H2)\/(J.go i H2/\∀ x H3,J.yld i H2 x H3->g x (List.replicate own.length none++JaB cs σ) H3 fun σ4 H4=>tt σ4 H4 fun b H5=>if b=true then te σ4 H5 fun y H6=>∃ m',m'<m/\W (i+1) m' (ys++[y]) H6 else ∃ m',m'<m/\W (i+1) m' ys H5)))
  (hRR:∀ (D C:Addr) (s6:Shared) (H5:Hp) (ys:List V),(∀ h7,Heap.SameBut C s6.heap h7->Inv X pins σ (upd H5 D (.lst ys)) { s6 with heap:=h7 })->H5 D=none->H5 C=none->D≠C->(∃ m,s6.heap.Ns C m)->s2.heap.objs.size<=C->QN ys H5->RR (.ref D) C (.ok .next) s6) :
  wpAny (model X.prog X.w) X.A (newList []) (fun acc s₃=>wpAny (model X.prog X.w) X.A (newFunctionEnv scope X.env.globals cl [] X.env.qual none .none (some X.env)) (fun cenv s₄=>
   codeAny (model X.prog X.w) X.A (.compStart (.ListComp elt [⟨tg,iter,[tst],0⟩] scope pos) 0 (.ref it) acc { cenv with scope:=relabel scope X.env }) (RR acc cenv.locals) s₄) E s₃) E s2:=by
 have L:∀ b∈fp,b<s2.heap.objs.size:=fun b d=>by
  obtain ⟨o,e,_⟩:=T.obj _ _ st2 b d;exact Heap.lt_size e
 refine wpAny_newObj_type (wpAny_newFunctionEnv hcell (by intro y hy;simp at hy) (fun h4 t k=>?_) hkind);dsimp only at t k ⊢;generalize hH3:s2.heap.push { cls:=.type "list",dict:=none,data:=.seq ([]:List Value).toArray }=H3 at t k ⊢;have a5:H3.objs.size=s2.heap.objs.size+1:=by rw [<- hH3,Heap.size_push]
 have Y:s2.heap.objs.size<=H3.objs.size:=by ac_nf
 have l:s2.heap.objs.size≠H3.objs.size:=by ac_nf
 have a0:∀ b o,s2.heap.get? b=some o->h4.get? b=some o:=fun b o e=>k.extBut b o (by have:=Heap.lt_size e;exact Nat.ne_of_lt (Nat.lt_of_lt_of_le this Y)) (Heap.get?_push_of_some _ (hH3 ▸ Heap.get?_push_of_some _ e));have a7:h4.get? s2.heap.objs.size=some { cls:=.type "list",data:=.seq ([]:List Value).toArray }:=k.extBut _ _ l (Heap.get?_push_of_some _ (hH3 ▸ Heap.get?_push_size _ rfl));obtain ⟨D,h⟩:∃ D,D=s2.heap.objs.size:=⟨_,rfl⟩;obtain ⟨C,b0⟩:∃ C,C=H3.objs.size:=⟨_,rfl⟩;rw [<- b0] at a5 t k Y l ⊢;rw [<- h] at L a5 Y l a7 ⊢;have M:=I2.incOk (N':=own++cs.map (·.2)) (C:=C) f2 (fun b d=>by rw [<- h];exact L b d) hkind (by rw [<- h];exact Y) hcl hhas;have I4:Inv (X.inc (own++cs.map (·.2)) scope cl fp s2 H2 C) [] (List.replicate own.length none++JaB cs σ) H2 { s2 with heap:=h4,toks:=s2.toks+([]:List (Str × Value)).length } :=
  I2.incStart (s4:={ s2 with heap:=h4,toks:=s2.toks+([]:List (Str × Value)).length }) M a0 rfl rfl t (by rw [<- h];exact Y) hcl hcs
 have Dfree:H2 D=none:=I2.hok.fresh (Nat.le_of_eq h.symm);have O:∀ b o,s2.heap.get? b=some o->b≠D:=fun b o e=>by
  rw [h];exact Nat.ne_of_lt (Heap.lt_size e)
 have b4:∀ b o,s2.heap.get? b=some o->b≠C:=fun b o e=>Nat.ne_of_lt (Nat.lt_of_lt_of_le (by rw [h];exact Heap.lt_size e) Y);have Dfs:D∉frs X.stack:=fun hm=>by
  obtain ⟨_,o,e,_⟩:=I2.stack.mem hm;exact O _ _ e rfl
 have B:∀ {σ':St} {H':Hp} {s':Shared} {us:List Value} {n:Nat} {pl:List (Addr × Obj)},Inv (X.inc (own++cs.map (·.2)) scope cl fp s2 H2 C) pl σ' H' s'->s'.heap.get? D=some { cls:=.type "list",data:=.seq us.toArray n }->H' D=none ->
   Inv (X.inc (own++cs.map (·.2)) scope cl fp s2 H2 C) [(D,{ cls:=.type "list",data:=.seq us.toArray n })] σ' H' s':=fun {σ' H' s' us n pl} J' e n'=>J'.pins_of fun p U=>by
  rcases mem_singleton.mp U with rfl
  exact ⟨e,n',l,Dfs,fun v z=>by cases z⟩
 have G:∀ {H':Hp} {o:Obj},(∀ b∈fp,H' b=none)->∀ b∈fp,FpOk (X.inc (own++cs.map (·.2)) scope cl fp s2 H2 C) [(D,o)] H' b:=fun {H' o} hn b d=>by
  refine ⟨hn b d,(M.exf b d).1,M.exfs b d, .inl d,(M.exf b d).2,fun p U=>?_⟩;rcases mem_singleton.mp U with rfl
  exact Nat.ne_of_gt (L b d)
 have Q:∀ s3:Shared,s3={ s2 with heap:=h4,toks:=s2.toks+([]:List (Str × Value)).length } ->
   codeAny (model X.prog X.w) X.A (.compLoop (.ListComp elt [⟨tg,iter,[tst],0⟩] scope pos) 0 (.ref it) (.ref D) (compEnvC scope cl C X.env)) (RR (.ref D) C) s3:=by
  rintro s3 rfl;refine Jfi (fun n s'=>∃ i ys us H H',Inv (X.inc (own++cs.map (·.2)) scope cl fp s2 H2 C) [(D,{ cls:=.type "list",data:=.seq us.toArray H })] (List.replicate own.length none++JaB cs σ) H' s'/\tn i s'.heap/\(∀ b∈fp,H' b=none)/\Vals ys us/\W i n ys H') ?_ m0
   ⟨0,[],[],0,H2,B (us:=[]) (n:=0) I4 a7 Dfree,T.keep _ _ _ st2 fun b d o e=>a0 b o e,fun b d=>(f2 b d).1, .nil,w0⟩
  rintro n s5 ⟨i,ys,us,H,H5,I5,a4,a3,vy,w5⟩;obtain ⟨hz,⟨stop,qn⟩ | ⟨go,a8⟩⟩:=turn i n ys H5 w5
  ·refine wpAny_mono (T.done (X.inc (own++cs.map (·.2)) scope cl fp s2 H2 C) rfl rfl rfl hc i _ s5 _ H5 (fun _ _=>False) I5 (G a3) a4 stop) (fun r s6 z=>?_) fun _ _ z=>z;obtain ⟨rfl,I6⟩:=z;obtain ⟨m6,b1,_⟩:=id I6.loc;obtain ⟨pD,pN,_,_,_⟩:=I6.pin (D,{ cls:=.type "list",data:=.seq us.toArray H }) (by simp);have Cfree:H5 C=none:=I6.free;refine hRR D C s6 H5 ys (fun h7 a9=>?_) pN Cfree l ⟨m6,b1⟩ (by rw [<- h];exact Y) qn;have j:∀ b,b≠C->h7.get? b=s6.heap.get? b:=fun b d=>a9.2 b d;have Z:=b4;have u7:Un (frs X.stack) fp H2 H5 s2.heap h7:=⟨fun b o e n1 n2 n3=>(j b (Z b o e)).trans (I6.base.keep b o e n1 n2 n3),fun b o e n1 n2 n3=>by
     obtain ⟨sl,z⟩:=I6.base.slot b o e n1 n2 n3;exact ⟨sl,(j b (Z b o e)).trans z⟩,I6.base.free,fun b o e n1=>by
     obtain ⟨o',z⟩:=I6.base.there b o e n1;exact ⟨o',(j b (Z b o e)).trans z⟩,I6.base.tups,I6.base.frzs,I6.base.tbls⟩
   have a6:HOk X.prog X.w H5 h7:=fun a o e=>by
    refine (I6.hok a o e).stay (fun c v b5 q=>(j c ?_).trans q) (fun _ q=>q) fun _ _ q=>q;rintro rfl;rcases b5 with z | z
    ·rw [<- z] at e;rw [Cfree] at e;cases e
    ·rw [Cfree] at z;cases z
   have I7:Inv X pins σ H5 { s6 with heap:=h7 }:=I2.call' (s':={ s6 with heap:=h7 }) I6.os u7 a6 I6.bare fun b d=>⟨(f2 b d).2.2.2.1,(f2 b d).2.1,(f2 b d).2.2.2.2.1,(f2 b d).2.2.2.2.2⟩;exact I7.track (a:=D) (o:=.lst ys) pN (Heap.get?_none_of_le (by rw [h];exact I2.sz)) (by rw [h];exact Nat.ne_of_gt I2.lt) (fun x c e z=>by
     obtain ⟨v,o,ho,_⟩:=I2.cell x c e;exact O _ _ ho z) (fun p U z=>O _ _ (I2.pin p U).1 z) ⟨hz,us,H,vy,(j D l).trans pD⟩
  ·refine wpAny_mono (T.item (X.inc (own++cs.map (·.2)) scope cl fp s2 H2 C) rfl rfl rfl hc i _ s5 _ H5 (fun _ _=>False) I5 (G a3) a4 go) (fun r s6 z=>?_) fun _ _ z=>z;obtain ⟨u,rfl,z⟩:=z;refine wpAny_mono z (fun _ s7 ζ=>?_) fun _ _ z=>z;obtain ⟨x,H7,I7,r7,y7,F,b3⟩:=ζ;have I7':=I7.pinned (G b3) (T.obj _ _ F);refine wpAny_mono (hg fp s2 H2 C _ s7 _ H7 x u _ I7' r7 (a8 x H7 y7)) (fun _ s8 ⟨σ8,H8,I8,q8⟩=>?_) fun _ _ z=>z;refine wpAny_mono (ht fp s2 H2 C _ s8 σ8 H8 _ I8 q8) (fun bb a1 ⟨I,I8',a2⟩=>?_) fun _ _ z=>z;cases bb with
   | true=>
    refine wpAny_mono (he fp s2 H2 C _ a1 σ8 I _ I8' a2) (fun uy s9 ζ=>?_) fun _ _ z=>z;obtain ⟨y,H9,I9,r9,m',S,w9⟩:=ζ;obtain ⟨pD,pN,_,_,_⟩:=I9.pin (D,{ cls:=.type "list",data:=.seq us.toArray H }) (by simp);refine append_at (its:=us.toArray) (n:=H) pD (fun b2 R P=>?_) (by rw [size_toArray, <- vy.length];exact hz);have f:∀ b∈fp, ∀ o,s7.heap.get? b=some o->s9.heap.get? b=some o/\H9 b=none:=fun b d o e=>by
     have z:=I9.pin (b,o) (mem_append_right _ (mem_append_right _ (JbM d e)));exact ⟨z.1,z.2.1⟩
    have I9':Inv (X.inc (own++cs.map (·.2)) scope cl fp s2 H2 C) [] (List.replicate own.length none++JaB cs σ) H9 s9:=I2.incAgain I9 f2 hcl hcs;have I10:Inv (X.inc (own++cs.map (·.2)) scope cl fp s2 H2 C) [] (List.replicate own.length none++JaB cs σ) H9 { s9 with heap:=b2 }:=I9'.turned (it:=D) (t':=s9.toks) (fun b o d e=>(R.2 b d).trans e) pN l (.inr (Nat.le_of_eq h.symm)) (fun x c e z=>by
      obtain ⟨v,o,ho,_⟩:=I2.cell x c (hcl x c e);exact O _ _ ho z) fun p U=>by simp at U
    rw [lstP] at P;refine ⟨m',S,i+1,ys++[y],us++[uy],H+1,H9,B I10 P pN,T.keep _ _ _ F fun b d o e=>?_,fun b d=>?_,vy.append (.cons r9 .nil),w9⟩
    ·exact (R.2 b (Nat.ne_of_lt (L b d))).trans (f b d o e).1
    ·obtain ⟨o,e,_⟩:=T.obj _ _ F b d;exact (f b d o e).2
   | false=>
    obtain ⟨m',S,w9⟩:=a2;obtain ⟨pD,pN,_,_,_⟩:=I8'.pin (D,{ cls:=.type "list",data:=.seq us.toArray H }) (by simp);have f:∀ b∈fp, ∀ o,s7.heap.get? b=some o->a1.heap.get? b=some o/\I b=none:=fun b d o e=>by
     have z:=I8'.pin (b,o) (mem_append_right _ (mem_append_right _ (JbM d e)));exact ⟨z.1,z.2.1⟩
    have I9':Inv (X.inc (own++cs.map (·.2)) scope cl fp s2 H2 C) [] (List.replicate own.length none++JaB cs σ) I a1:=I2.incAgain I8' f2 hcl hcs;refine ⟨m',S,i+1,ys,us,H,I,B I9' pD pN,T.keep _ _ _ F fun b d o e=>(f b d o e).1,fun b d=>?_,vy,w9⟩;obtain ⟨o,e,_⟩:=T.obj _ _ F b d;exact (f b d o e).2
 exact codeAny_compStart_list (Q _ rfl) (T.self _ 0 _ _ _ (T.keep _ _ _ st2 fun b d o e=>a0 b o e) (Q _ rfl))
theorem JfC {iter elt tst:Expr} {scope:Scope} {pos spos py:Pos} {y:Str} {j:Nat} {own:List Str} {cs:List (Nat × Str)} {wi:TI} {g:TG} {te:TE} {tt:TT} (hN:X.N.Nodup) (hj:X.N[j]?=some y) (hy:Loc X.env.scope y) (hc:X.calm=true) (hi:PI X tg iter wi)
  (hg:∀ fp s2 H2 C,PG (X.inc (own++cs.map (·.2)) scope (Jbr X.env.cells scope.names []) fp s2 H2 C) tg g) (ht:∀ fp s2 H2 C,PT (X.inc (own++cs.map (·.2)) scope (Jbr X.env.cells scope.names []) fp s2 H2 C) tst tt) (he:∀ fp s2 H2 C,PE (X.inc (own++cs.map (·.2)) scope (Jbr X.env.cells scope.names []) fp s2 H2 C) elt te)
  (hfree:∀ p∈scope.names,p.2=.free->X.env.scope.names.lookup p.1=some .cell) (hcell:∀ y∈scope.names,y.2≠.cell) (hkind:scope.kind=.function) (hnames:∀ y∈scope.names,y.2=.local->scope.names.lookup y.1=some .local)
  (hcs:∀ p∈cs,X.N[p.1]?=some p.2/\X.env.scope.names.lookup p.2=some .cell/\(relabel scope X.env).names.lookup p.2=some .cell)
  (hsw:swapsWith (.ListComp elt [⟨tg,iter,[tst],0⟩] scope pos) (some (.Name y py)) spos.line X.env=pure true:=by rfl)
  (hs:∀ x,foldedSetIterable iter X.env x=pure x:=by intro _;rfl) (hf:X.fn y=true\/X.env.scope.names.lookup y=some .local:=by first | exact .inl rfl | exact .inr rfl) :
  PS X (.Assign [.Name y py] (.ListComp elt [⟨tg,iter,[tst],0⟩] scope pos) spos) (tAsg (Jgj own.length cs wi g tt te) (gName j)):=by
 intro d s σ H D I h;have i:∀ p∈scope.names,p.2=.free->∃ c,X.env.cells.lookup p.1=some c:=fun p n hk=>I.ok.has p.1 (.inl (hfree p n hk));have r:=JcO (cells:=X.env.cells) scope.names [] (fun _ _ z=>by simp at z) i;rw [exec_Assign_Name_used _ _ _ _ hsw];refine wpAny_bind (wpAny_standAt (wpAny_bind ?_));show wpAny _ X.A (do let _ <- comprehension (.ListComp elt [⟨tg,iter,[tst],0⟩] scope pos) scope X.env _ (newList []) false (eval iter X.env) (some (assign (.Name y py) X.env))) _ _ s;refine wpAny_bind (wpAny_mono (wpAny_comprehension_free (use:=some (assign (.Name y py) X.env)) (Q:=fun _ L=>SP X d D .next L) rfl hs (JgV i) hkind hnames
  (thn (hi d s σ H _ I h) fun v s1 h1=>thn h1 fun U s2 R=>?_)) (fun _ L Y=>wpAny_pure (wpAny_pure Y)) fun _ _ e=>e)
 obtain ⟨it,fp,tn,J,H2,rfl,I2,T,E,P,W,⟨m0,w0⟩,k⟩:=R;refine Jfh (QN:=fun u l=>∀ p,l p=none->D.nx (σ.set j (some (.ref p))) (upd l p (.lst u))) hc hg ht he hcell hkind r (fun z S=>JcN scope.names [] z (.inr (Jjt hcell S))) hcs I2 T E P w0 k ?_;intro D' C w l u t M V dc O f q;obtain ⟨Z,B⟩:=O;have I8:Inv X d σ (upd l D' (.lst u)) w:=t w.heap (Heap.SameBut.refl _ _);show wpAny _ X.A (assign (.Name y py) X.env (.ref D')) _ _ w;refine wpAny_assign_Name (Je6 (v:=.ref D') I8 hN hj hy rfl (fun s7 I7 G=>?_) hf);obtain ⟨a,sb,m⟩:=G;have nC:C≠a:=by
  rcases m with rfl | m
  ·exact Nat.ne_of_gt (Nat.lt_of_lt_of_le I2.lt f)
  ·obtain ⟨v,o,K,_⟩:=I2.cell y a m;exact Nat.ne_of_gt (Nat.lt_of_lt_of_le (Heap.lt_size K) f)
 refine ⟨Z,B.sameBut sb nC,fun h8 F=>⟨_,_,?_,q D' M⟩⟩;exact I7.turned (it:=C) (t':=s7.toks) (fun b o hb e=>(F.2 b hb).trans e) (by rw [Jaf (Ne.symm dc)];exact V) (Nat.ne_of_gt (Nat.lt_of_lt_of_le I2.lt f)) (.inr (Nat.le_trans I2.sz f)) (fun x c e z=>by
  obtain ⟨v,o,K,_⟩:=I2.cell x c e;exact absurd (Nat.lt_of_lt_of_le (Heap.lt_size K) f) (by rw [z];exact Nat.lt_irrefl _)) (fun p n z=>absurd (Nat.lt_of_lt_of_le (Heap.lt_size (I2.pin p n).1) f) (by rw [z];exact Nat.lt_irrefl _))
end
section
variable {X:Cx} {pins:List (Addr × Obj)} {σ : St} {H:Hp} {s:Shared} {h':Heap}
end
def Itz (K:W.Frag) (a b:Addr):It :=
  ⟨fun i H=>∃ xs ys x y,SqL K H a xs/\SqL K H b ys/\xs[i]?=some x/\ys[i]?=some y,
   fun i H v H'=>∃ p x y,(∀ xs,SqL K H a xs->xs[i]?=some x)/\(∀ ys,SqL K H b ys->ys[i]?=some y)/\H p=none/\v=.ref p/\H'=upd H p (.tup [x,y]),
   fun i H=>∃ xs ys,SqL K H a xs/\SqL K H b ys/\(xs.length<=i\/ys.length<=i)⟩
section
variable {X:Cx} {elts:List Expr} {x1:Nat} {tp:Pos}
def iZip (K:W.Frag) (ta:TA):TI:=fun σ H R=>ta σ H fun vs H1=>∃ a b,vs=[.ref a, .ref b]/\(∃ xs,SqL K H1 a xs)/\(∃ ys,SqL K H1 b ys)/\R (Itz K a b) H1
end
section
variable {σ : St} {H:Hp} {Q:VK} {td ty tv tx:TE} {K:W.Frag} {En:Ends}
theorem y3ey:tDGet td ty σ H Q=td σ H fun x H1=>ty σ H1 fun y H2=>∃ a v,x=.ref a/\DGet H2 a y (some v)/\Q v H2:=rfl
theorem y47y:sDPut td ty tv En σ H=tv σ H fun v H1=>td σ H1 fun x H2=>ty σ H2 fun y H3=>∃ a H4,x=.ref a/\DPut H3 a y v H4/\En.nx σ H4:=rfl
theorem y43y:Jja σ H Q=∀ p,H p=none->Q (.ref p) (upd H p (.dK [])):=rfl
end
theorem hu1 {a b:Nat} (h:a+64<b):a+1<b:=by ac_nf
section
variable {X:Cx}
def rMul0:R2:=fun x y H Q=>match x,y with
 | .str z, .int n=>0<=n/\n<1000/\z.length<=1000/\∀ z':Str,z'.cps.toList=(List.replicate n.toNat z.cps.toList).flatten->Q (.str z') H
 | x,y=>rMulS x y H Q
theorem JaX:OpR X (binaryOp .Mult) rMul0:=fun a s σ H x y v u Q I b c q=>by
 unfold rMul0 at q;split at q
 ·rename_i z n;obtain ⟨h,e,d,q⟩:=q;by_cases f:n=0
  ·subst f;obtain ⟨t,rfl⟩:=b;obtain ⟨g,rfl⟩:=c;exact PySem.P.mul_str_none ⋯ ⋯ ⟨.str _,H,I.tok _,⟨_,rfl⟩,q Str.empty rfl⟩
  ·exact JhC a s σ H _ _ v u Q I b c ⟨by ac_nf,e,d,q⟩
 ·exact JhC a s σ H _ _ v u Q I b c q
end
section
variable {K:W.Frag} {H:Hp} {Q:VK} {σ : St} {td ty:TE}
theorem y70y {i j:Int}:rMul0 (.int i) (.int j) H Q=(IntMulOk i j/\Q (.int (i*j)) H):=rfl
end
theorem ForA.byL {K:W.Frag} {a:Addr} {xs:List V} {g:TG} {tb:TS} {D:Ends} {σ : St} {H:Hp} (hA:SqL K H a xs) (Pv:Nat->St->Hp->Prop) (h0:Pv 0 σ H) (hl:∀ i σ H',Pv i σ H'->SqL K H' a xs)
  (hs:∀ i x σ H,xs[i]?=some x->Pv i σ H->g x σ H fun σ2 H2=>tb { D with nx:=Pv (i+1),ct:=Pv (i+1),bk:=D.nx } σ2 H2) (hd:∀ σ H,Pv xs.length σ H->D.nx σ H):ForA K a g tb D σ H:=by
 refine .inl ⟨⟨xs,hA⟩,fun i m σ H=>Pv i σ H/\i<=xs.length/\m=xs.length-i,⟨_,h0,Nat.zero_le _,rfl⟩,?_⟩;rintro i m σ H ⟨c,h,rfl⟩;have b:=hl i σ H c;by_cases d:i<xs.length
 ·refine .inr ⟨⟨xs,xs[i],b,List.getElem?_eq_getElem d⟩,Pv (i+1),fun σ' H' p=>⟨_,Nat.sub_lt_sub_left d (Nat.lt_succ_self i),p,d,rfl⟩,?_⟩;rintro x H' ⟨rfl,f⟩;exact hs i x σ _ (f xs b) c
 ·have e:i=xs.length:=by ac_nf
  subst e;exact .inl ⟨⟨xs,b,Nat.le_refl _⟩,hd σ H c⟩
def ForJ (J:It) (g:TG) (tb:TS) (D:Ends) (σ : St) (H:Hp):Prop:=∃ W:Nat->Nat->St->Hp->Prop,(∃ m,W 0 m σ H)/\∀ i m σ H,W i m σ H ->
 (J.stop i H/\D.nx σ H)\/(J.go i H/\∃ N:St->Hp->Prop,(∀ σ' H',N σ' H'->∃ m',m'<m/\W (i+1) m' σ' H')/\∀ x H',J.yld i H x H'->g x σ H' fun σ2 H2=>tb { D with nx:=N,ct:=N,bk:=D.nx } σ2 H2)
theorem y58y {K:W.Frag} {ta:TA} {g:TG} {tb:TS} {D:Ends} {σ : St} {H:Hp}:tFor (iZip K ta) g tb D σ H=ta σ H fun vs H1=>∃ a b,vs=[.ref a, .ref b]/\(∃ xs,SqL K H1 a xs)/\(∃ ys,SqL K H1 b ys)/\ForJ (Itz K a b) g tb D σ H1:=rfl
theorem compL {K:W.Frag} {cs:List (Nat × Str)} {k:Nat} {g:TG} {te:TE} {σ : St} {a:Addr} {xs:List V} {H1:Hp} {Q:VK} (Pv:Nat->List V->Hp->Prop) (h0:Pv 0 [] H1) (hl:∀ i ys H',i<=xs.length->Pv i ys H'->SqL K H' a xs/\ys.length<=sizeLine)
  (hs:∀ i x ys H2,xs[i]?=some x->Pv i ys H2->g x (List.replicate k none++JaB cs σ) H2 fun σ4 H4=>te σ4 H4 fun y H5=>Pv (i+1) (ys++[y]) H5) (hd:∀ ys H2,Pv xs.length ys H2->∀ p,H2 p=none->Q (.ref p) (upd H2 p (.lst ys))) :
  ∃ W:Nat->Nat->List V->Hp->Prop,(∃ m,W 0 m [] H1)/\∀ i m ys H2,W i m ys H2->ys.length<=sizeLine/\(((Itl K a).stop i H2/\∀ p,H2 p=none->Q (.ref p) (upd H2 p (.lst ys))) \/
   ((Itl K a).go i H2/\∀ x H3,(Itl K a).yld i H2 x H3->g x (List.replicate k none++JaB cs σ) H3 fun σ4 H4=>te σ4 H4 fun y H5=>∃ m',m'<m/\W (i+1) m' (ys++[y]) H5)):=by
 refine ⟨fun i m ys H2=>Pv i ys H2/\i<=xs.length/\m=xs.length-i,⟨_,h0,Nat.zero_le _,rfl⟩,?_⟩;rintro i m ys H2 ⟨b,j,rfl⟩;obtain ⟨d,h⟩:=hl i ys H2 j b;refine ⟨h,?_⟩;by_cases c:i<xs.length
 ·refine .inr ⟨⟨xs,xs[i],d,List.getElem?_eq_getElem c⟩,?_⟩;rintro x H3 ⟨rfl,f⟩;have e:(fun (σ4:St) (H4:Hp)=>te σ4 H4 fun y H5=>Pv (i+1) (ys++[y]) H5)=fun σ4 H4=>te σ4 H4 fun y H5=>∃ m',m'<xs.length-i/\Pv (i+1) (ys++[y]) H5/\i+1<=xs.length/\m'=xs.length-(i+1):=by
   funext σ4 H4
   congr 1
   funext y H5
   exact propext ⟨fun q=>⟨_,Nat.sub_lt_sub_left c (Nat.lt_succ_self i),q,c,rfl⟩,fun ⟨_,_,q,_⟩=>q⟩
  rw [<- e];exact hs i x ys _ (f xs d) b
 ·have e:i=xs.length:=by ac_nf
  subst e;exact .inl ⟨⟨xs,d,Nat.le_refl _⟩,hd ys H2 b⟩
theorem Jkh {K:W.Frag} {cs:List (Nat × Str)} {k:Nat} {g:TG} {tt:TT} {te:TE} {σ : St} {a:Addr} {xs:List V} {H1:Hp} {Q:VK} (Pv:Nat->List V->Hp->Prop) (h0:Pv 0 [] H1) (hl:∀ i ys H',i<=xs.length->Pv i ys H'->SqL K H' a xs/\ys.length<=sizeLine)
  (hs:∀ i x ys H2,xs[i]?=some x->Pv i ys H2->g x (List.replicate k none++JaB cs σ) H2 fun σ4 H4=>tt σ4 H4 fun b H5=>if b=true then te σ4 H5 fun y H6=>Pv (i+1) (ys++[y]) H6 else Pv (i+1) ys H5) (hd:∀ ys H2,Pv xs.length ys H2->∀ p,H2 p=none->Q (.ref p) (upd H2 p (.lst ys))) :
  ∃ W:Nat->Nat->List V->Hp->Prop,(∃ m,W 0 m [] H1)/\∀ i m ys H2,W i m ys H2->ys.length<=sizeLine/\(((Itl K a).stop i H2/\∀ p,H2 p=none->Q (.ref p) (upd H2 p (.lst ys))) \/
   ((Itl K a).go i H2/\∀ x H3,(Itl K a).yld i H2 x H3->g x (List.replicate k none++JaB cs σ) H3 fun σ4 H4=>tt σ4 H4 fun b H5=>if b=true then te σ4 H5 fun y H6=>∃ m',m'<m/\W (i+1) m' (ys++[y]) H6 else ∃ m',m'<m/\W (i+1) m' ys H5)):=by
 refine ⟨fun i m ys H2=>Pv i ys H2/\i<=xs.length/\m=xs.length-i,⟨_,h0,Nat.zero_le _,rfl⟩,?_⟩;rintro i m ys H2 ⟨d,l,rfl⟩;obtain ⟨h,n⟩:=hl i ys H2 l d;refine ⟨n,?_⟩;by_cases f:i<xs.length
 ·refine .inr ⟨⟨xs,xs[i],h,List.getElem?_eq_getElem f⟩,?_⟩;rintro x H3 ⟨rfl,o⟩;have w:∀ (j:List V) (H5:Hp),Pv (i+1) j H5=∃ m',m'<xs.length-i/\Pv (i+1) j H5/\i+1<=xs.length/\m'=xs.length-(i+1):=fun j H5=>
   propext ⟨fun q=>⟨_,Nat.sub_lt_sub_left f (Nat.lt_succ_self i),q,f,rfl⟩,fun ⟨_,_,q,_⟩=>q⟩
  have r:(fun (y:V) (H6:Hp)=>Pv (i+1) (ys++[y]) H6)=fun y H6=>∃ m',m'<xs.length-i/\Pv (i+1) (ys++[y]) H6/\i+1<=xs.length/\m'=xs.length-(i+1):=by
   funext y H6
   exact w _ _
  have e:(fun (σ4:St) (H4:Hp)=>tt σ4 H4 fun b H5=>if b=true then te σ4 H5 fun y H6=>Pv (i+1) (ys++[y]) H6 else Pv (i+1) ys H5)=fun σ4 H4=>tt σ4 H4 fun b H5=>if b=true then te σ4 H5 fun y H6=>∃ m',m'<xs.length-i/\Pv (i+1) (ys++[y]) H6/\i+1<=xs.length/\m'=xs.length-(i+1) else ∃ m',m'<xs.length-i/\Pv (i+1) ys H5/\i+1<=xs.length/\m'=xs.length-(i+1):=by
   funext σ4 H4
   congr 1
   funext b H5
   by_cases c:b=true
   ·rw [if_pos c,if_pos c, <- r]
   ·rw [if_neg c,if_neg c];exact w ys H5
  have:=hs i x ys _ (o xs h) d;rw [e] at this;exact this
 ·have e:i=xs.length:=by ac_nf
  subst e;exact .inl ⟨⟨xs,h,Nat.le_refl _⟩,hd ys H2 d⟩
end L2
namespace Ch
open PySem
structure TD where
 nm:Str
 st:Str
 en:Str
 lo:Option (Int × Int)
 hi:Option (Int × Int)
structure SD where
 src:Str
 dst:Str
 c:Int × Int
 nm:Str
 fw:Bool
def fwd (t:TD):List SD:=match t.hi with
 | some h=>[⟨t.st,t.en,h,t.nm,true⟩]
 | none=>[]
def bwd (t:TD):List SD:=match t.lo with
 | some l=>[⟨t.en,t.st,(-l.1,l.2),t.nm,false⟩]
 | none=>[]
def steps (t:TD):List SD:=fwd t++bwd t
def all (ts:List TD):List SD:=ts.flatMap steps
abbrev Pr:=Str × Bool
def key (s:SD):Pr:=(s.nm,s.fw)
def lastA (acc:Option SD) (ss:List SD) (k:Pr):Option SD:=ss.foldl (fun a s=>if key s=k then some s else a) acc
def last (ss:List SD) (k:Pr):Option SD:=lastA none ss k
theorem Jd8 {t:TD} {s:SD} (h:s∈steps t):s.nm=t.nm:=by
 unfold steps fwd bwd at h;rcases mem_append.mp h with h | h
 ·split at h
  ·simp at h;rw [h]
  ·simp at h
 ·split at h
  ·simp at h;rw [h]
  ·simp at h
def addF (a c:Int × Int):Int × Int:=(Mth.top (a.1*c.2+c.1*a.2) (a.2*c.2),Mth.bot (a.1*c.2+c.1*a.2) (a.2*c.2))
structure FOk (n:Nat) (a:Int × Int):Prop where
 s1:Mth.Sz n a.1
 s2:Mth.Sz n a.2
 b1:1<=a.2
 g1:Mth.g a.1 a.2=1
theorem FOk.mono {m n:Nat} {a:Int × Int} (h:FOk m a) (k:m<=n):FOk n a:=⟨h.s1.mono k,h.s2.mono k,h.b1,h.g1⟩
end Ch
namespace L2
open PySem PySem.Spec PyProof.Rows Ch
def isTF:HO->Bool
 | .tup _=>true
 | .frz _ _=>true
 | _=>false
def SameT (H H':Hp):Prop:=∀ b u,isTF u=true->H b=some u->H' b=some u
theorem SameT.refl (H:Hp):SameT H H:=fun _ _ _ h=>h
theorem SameT.trans {H H1 H2:Hp} (a:SameT H H1) (b:SameT H1 H2):SameT H H2:=fun c o t h=>b c o t (a c o t h)
theorem Same.t {H H':Hp} (a:Same H H'):SameT H H':=fun b u _ h=>a b u h
theorem SameT.put {H H':Hp} {l:Addr} {o o':HO} (e:upd H l o=H') (hl:H l=some o') (ht:isTF o'=false):SameT H H':=fun b u t h=>by
 rw [<- e,Jaf (ne_of h hl fun q=>by rw [q,ht] at t;cases t)];exact h
theorem SqT.sameT {K:W.Frag} {H H':Hp} {a:Addr} {xs:List V} (e:SameT H H') (h:SqT K H a xs):SqT K H' a xs:=by
 rcases h with (h | ⟨o,h⟩) | h
 ·exact .inl (.inl (e _ _ rfl h))
 ·exact .inl (.inr ⟨o,e _ _ rfl h⟩)
 ·exact .inr h
theorem FrV.sameT {K:W.Frag} {H H':Hp} {v:V} {a b:Int} (S:SameT H H') (h:FrV K H v a b):FrV K H' v a b:=by
 obtain ⟨p,e,q⟩:=h;exact ⟨p,e,q.sameT S⟩
def frD (a:Int × Int):D:=.tup [.int a.1, .int a.2]
def bD:Option (Int × Int)->D
 | none=>.non
 | some a=>frD a
def tdD (t:TD):D:=.tup [.str t.nm, .str t.st, .str t.en,bD t.lo,bD t.hi]
def pD (s:SD):D:=.tup [.str s.src, .str s.dst,frD s.c, .bl s.fw]
def prD (c:Pr):D:=.tup [.str c.1, .bl c.2]
def BV (K:W.Frag) (H:Hp):Option (Int × Int)->V->Prop
 | none,v=>v=.non
 | some a,v=>FrV K H v a.1 a.2
theorem BV.rep {K:W.Frag} {H:Hp} {o:Option (Int × Int)} {v:V} (h:BV K H o v):Rep K H (bD o) v:=by
 cases o with
 | none=>simp only [bD,Rep];exact h
 | some a=>exact FrV.rep h
theorem BV.sameT {K:W.Frag} {H H':Hp} {o:Option (Int × Int)} {v:V} (S:SameT H H') (h:BV K H o v):BV K H' o v:=by
 cases o with
 | none=>exact h
 | some a=>exact FrV.sameT S h
def TV (K:W.Frag) (H:Hp) (t:TD) (x:V):Prop:=∃ b vl vg,x=.ref b/\SqT K H b [.str t.nm, .str t.st, .str t.en,vl,vg]/\BV K H t.lo vl/\BV K H t.hi vg
def PV (K:W.Frag) (H:Hp) (s:SD) (x:V):Prop:=∃ b v,x=.ref b/\SqT K H b [.str s.src, .str s.dst,v, .bl s.fw]/\FrV K H v s.c.1 s.c.2
def CV (H:Hp) (c:Pr) (x:V):Prop:=∃ b,x=.ref b/\H b=some (.tup [.str c.1, .bl c.2])
def LV (K:W.Frag) (H:Hp) (s:SD) (x:V):Prop:=∃ b v w,x=.ref b/\SqT K H b [.str s.src, .str s.dst,v,w]/\FrV K H v s.c.1 s.c.2/\CV H (key s) w
section
variable {K:W.Frag} {H H':Hp}
theorem TV.sameT {t:TD} {x:V} (S:SameT H H'):TV K H t x->TV K H' t x:=by rintro ⟨b,vl,d,e,q,c,a⟩;exact ⟨b,vl,d,e,q.sameT S,c.sameT S,a.sameT S⟩
theorem PV.sameT {s:SD} {x:V} (S:SameT H H'):PV K H s x->PV K H' s x:=by rintro ⟨b,v,e,q,h⟩;exact ⟨b,v,e,q.sameT S,h.sameT S⟩
theorem CV.sameT {c:Pr} {x:V} (S:SameT H H'):CV H c x->CV H' c x:=fun ⟨b,e,q⟩=>⟨b,e,S _ _ rfl q⟩
theorem LV.sameT {s:SD} {x:V} (S:SameT H H'):LV K H s x->LV K H' s x:=by rintro ⟨b,v,w,e,q,c,a⟩;exact ⟨b,v,w,e,q.sameT S,c.sameT S,a.sameT S⟩
theorem TV.rep {t:TD} {x:V}:TV K H t x->Rep K H (tdD t) x:=fun ⟨b,vl,d,e,q,c,a⟩=>by
 simp only [tdD,Rep,RepL];exact ⟨b,_,e,q,_,_,rfl,rfl,_,_,rfl,rfl,_,_,rfl,rfl,_,_,rfl,c.rep,_,_,rfl,a.rep,rfl⟩
theorem PV.of {s:SD} {x:V} (h:Rep K H (pD s) x):PV K H s x:=by
 simp only [pD,frD,Rep,RepL] at h;obtain ⟨b,g,rfl,q,j,o,rfl,rfl,f,c,rfl,rfl,m,e,rfl,⟨p,l,rfl,a,t,k,rfl,rfl,i,n,rfl,rfl,rfl⟩,d,r,rfl,rfl,rfl⟩:=h;exact ⟨b, .ref p,rfl,q,p,rfl,a⟩
theorem CV.rep {c:Pr} {x:V}:CV H c x->Rep K H (prD c) x:=fun ⟨b,e,q⟩=>by
 simp only [prD,Rep,RepL];exact ⟨b,_,e,SqT.of q,_,_,rfl,rfl,_,_,rfl,rfl,rfl⟩
end
def All2 {α : Type} (P : α->V->Prop):List α->List V->Prop
 | [],xs=>xs=[]
 | a::as,xs=>∃ x r,xs=x::r/\P a x/\All2 P as r
section
variable {α : Type} {P P' : α->V->Prop}
theorem All2.mono:∀ {as:List α} {xs:List V},(∀ a x,P a x->P' a x)->All2 P as xs->All2 P' as xs
 | [],_,_,h=>h
 | a::as,xs,f,h=>by
  obtain ⟨x,r,e,h1,h2⟩:=h;exact ⟨x,r,e,f _ _ h1,All2.mono f h2⟩
theorem All2.length:∀ {as:List α} {xs:List V},All2 P as xs->xs.length=as.length
 | [],_,h=>by rw [show _=_ from h];rfl
 | a::as,xs,h=>by
  obtain ⟨x,r,e,h1,h2⟩:=h;rw [e,length_cons,length_cons,h2.length]
theorem All2.at_:∀ {as:List α} {xs:List V} {i:Nat} {x:V},All2 P as xs->xs[i]?=some x->∃ a,as[i]?=some a/\P a x
 | [],_,_,_,h,hx=>by rw [show _=_ from h] at hx;simp at hx
 | a::as,xs,i,y,h,hx=>by
  obtain ⟨x,r,e,h1,h2⟩:=h;subst e;cases i with
  | zero=>simp at hx;subst hx;exact ⟨a,rfl,h1⟩
  | succ i=>simpa using All2.at_ h2 (by simpa using hx)
theorem All2.append:∀ {as bs:List α} {xs ys:List V},All2 P as xs->All2 P bs ys->All2 P (as++bs) (xs++ys)
 | [],bs,xs,ys,h,g=>by rw [show xs=[] from h];exact g
 | a::as,bs,xs,ys,h,g=>by
  obtain ⟨x,r,e,h1,h2⟩:=h;subst e;exact ⟨x,r++ys,rfl,h1,All2.append h2 g⟩
theorem All2.one {a : α} {x:V} (h:P a x):All2 P [a] [x]:=⟨x,[],rfl,h,rfl⟩
theorem All2.repL {K:W.Frag} {H:Hp} {f : α->D} (g:∀ a x,P a x->Rep K H (f a) x):∀ {as:List α} {xs:List V},All2 P as xs->RepL K H (as.map f) xs
 | [],xs,h=>by simp only [map_nil,RepL];exact h
 | a::as,xs,h=>by
  obtain ⟨x,r,e,h1,h2⟩:=h;simp only [map_cons,RepL];exact ⟨x,r,e,g _ _ h1,All2.repL g h2⟩
theorem All2.ofRepL {K:W.Frag} {H:Hp} {f : α->D} (g:∀ a x,Rep K H (f a) x->P a x):∀ {as:List α} {xs:List V},RepL K H (as.map f) xs->All2 P as xs
 | [],xs,h=>by simp only [map_nil,RepL] at h;exact h
 | a::as,xs,h=>by
  simp only [map_cons,RepL] at h;obtain ⟨x,r,e,h1,h2⟩:=h;exact ⟨x,r,e,g _ _ h1,All2.ofRepL g h2⟩
end
structure TOk (t:TD):Prop where
 n1:nameS t.nm=true
 n2:nameS t.st=true
 n3:nameS t.en=true
 ne:t.st≠t.en
 lo:∀ a,t.lo=some a->FOk 600 a
 hi:∀ a,t.hi=some a->FOk 600 a
 le:lessD (bD t.hi) (bD t.lo)=false
theorem len8 {z:Str} (h:nameS z=true):z.length<=8:=by
 unfold nameS at h;simp only [Bool.and_eq_true,decide_eq_true_eq] at h;exact h.1.2
theorem bD_ok {o:Option (Int × Int)} (h:∀ a,o=some a->FOk 600 a):Jb2 (bD o)=true/\szD (bD o):=by
 cases o with
 | none=>exact ⟨rfl,by simp only [bD,szD]⟩
 | some a=>
  have k:=h a rfl;refine ⟨by simp [bD,frD,Jb2,fracB,k.b1,k.g1],?_⟩;simp only [bD,frD,szD,szL];exact ⟨k.s1.mono ⋯,k.s2.mono ⋯,trivial⟩
theorem TOk.tie {t:TD} (h:TOk t):tieB (tdD t)=true:=by
 have e:eqD (.str t.st) (.str t.en)=false:=by simp only [eqD,beq_eq_false_iff_ne];exact h.ne
 simp [tdD,tieB,nameB,JdM,h.n1,h.n2,h.n3,e,Jc9,(bD_ok h.lo).1,(bD_ok h.hi).1,h.le]
theorem TOk.sz {t:TD} (h:TOk t):szD (tdD t):=by
 simp only [tdD,szD,szL];have:=len8 h.n1;have:=len8 h.n2;have:=len8 h.n3;exact ⟨by ac_nf,by ac_nf,by ac_nf,(bD_ok h.lo).2,(bD_ok h.hi).2,trivial⟩
section
variable {K:W.Frag} {H:Hp} {kvs:List (List Key × V)} {ss:List SD}
end
def CompJ (J:It) (k:Nat) (cs:List (Nat × Str)) (g:TG) (te:TE) (σ : St) (Q:VK) (H1:Hp):Prop:=∃ W:Nat->Nat->List V->Hp->Prop,(∃ m,W 0 m [] H1)/\∀ i m ys H2,W i m ys H2->ys.length<=sizeLine /\
  ((J.stop i H2/\∀ p,H2 p=none->Q (.ref p) (upd H2 p (.lst ys))) \/
   (J.go i H2/\∀ x H3,J.yld i H2 x H3->g x (List.replicate k none++JaB cs σ) H3 fun σ4 H4=>te σ4 H4 fun y H5=>∃ m',m'<m/\W (i+1) m' (ys++[y]) H5))
def Jc7 (J:It) (k:Nat) (cs:List (Nat × Str)) (g:TG) (tt:TT) (te:TE) (σ : St) (Q:VK) (H1:Hp):Prop:=∃ W:Nat->Nat->List V->Hp->Prop,(∃ m,W 0 m [] H1)/\∀ i m ys H2,W i m ys H2->ys.length<=sizeLine /\
  ((J.stop i H2/\∀ p,H2 p=none->Q (.ref p) (upd H2 p (.lst ys))) \/
   (J.go i H2/\∀ x H3,J.yld i H2 x H3->g x (List.replicate k none++JaB cs σ) H3 fun σ4 H4=>tt σ4 H4 fun b H5=>if b=true then te σ4 H5 fun y H6=>∃ m',m'<m/\W (i+1) m' (ys++[y]) H6 else ∃ m',m'<m/\W (i+1) m' ys H5))
section
variable {K:W.Frag} {k:Nat} {cs:List (Nat × Str)} {g:TG} {tt:TT} {te tl:TE} {σ : St} {H H1:Hp} {Q:VK} {a:Addr} {xs:List V}
theorem y35y:tComp k cs (iAny K tl) g te σ H Q=tl σ H fun x H1=>∃ a,x=.ref a/\(((∃ xs,SqL K H1 a xs)/\CompJ (Itl K a) k cs g te σ Q H1)\/((∃ xs,SqT K H1 a xs)/\CompJ (Itt K a) k cs g te σ Q H1)):=rfl
theorem y37y:Jgj k cs (iAny K tl) g tt te σ H Q=tl σ H fun x H1=>∃ a,x=.ref a/\(((∃ xs,SqL K H1 a xs)/\Jc7 (Itl K a) k cs g tt te σ Q H1)\/((∃ xs,SqT K H1 a xs)/\Jc7 (Itt K a) k cs g tt te σ Q H1)):=rfl
theorem CompJ.list (Pv:Nat->List V->Hp->Prop) (h0:Pv 0 [] H1) (hl:∀ i ys H',i<=xs.length->Pv i ys H'->SqL K H' a xs/\ys.length<=sizeLine)
  (hs:∀ i x ys H2,xs[i]?=some x->Pv i ys H2->g x (List.replicate k none++JaB cs σ) H2 fun σ4 H4=>te σ4 H4 fun y H5=>Pv (i+1) (ys++[y]) H5) (hd:∀ ys H2,Pv xs.length ys H2->∀ p,H2 p=none->Q (.ref p) (upd H2 p (.lst ys))) :
  CompJ (Itl K a) k cs g te σ Q H1:=compL Pv h0 hl hs hd
theorem Jc7.list (Pv:Nat->List V->Hp->Prop) (h0:Pv 0 [] H1) (hl:∀ i ys H',i<=xs.length->Pv i ys H'->SqL K H' a xs/\ys.length<=sizeLine)
  (hs:∀ i x ys H2,xs[i]?=some x->Pv i ys H2->g x (List.replicate k none++JaB cs σ) H2 fun σ4 H4=>tt σ4 H4 fun b H5=>if b=true then te σ4 H5 fun y H6=>Pv (i+1) (ys++[y]) H6 else Pv (i+1) ys H5) (hd:∀ ys H2,Pv xs.length ys H2->∀ p,H2 p=none->Q (.ref p) (upd H2 p (.lst ys))) :
  Jc7 (Itl K a) k cs g tt te σ Q H1:=Jkh Pv h0 hl hs hd
end
def faceL:List Str:=[Str.ofString "p",Str.ofString "pa",Str.ofString "pab",Str.ofString "qab",Str.ofString "qa",Str.ofString "apab"]
theorem JfY:∀ z∈faceL,nameS z=true:=by decide
theorem Jie:∀ j,j<6->∀ k,k<6->faceL[j]?=faceL[k]?->j=k:=by decide
theorem Jid {j k:Nat} {z:Str} (h:faceL[j]?=some z) (g:faceL[k]?=some z):j=k :=
 Jie j (List.getElem?_eq_some_iff.mp h).1 k (List.getElem?_eq_some_iff.mp g).1 (h.trans g.symm)
theorem Jif {x f:Int} (h0:0<=x) (h1:x<2*f):x.fmod f=x\/x.fmod f=x-f:=by
 rw [Int.fmod_eq_emod_of_nonneg _ ∅];by_cases c:x<f
 ·exact .inl (Int.emod_eq_of_lt h0 c)
 ·refine .inr ?_;have e:(x-f+f) % f=(x-f) % f:=by simp
  rw [Int.sub_add_cancel] at e;rw [e,Int.emod_eq_of_lt ∅ ∅]
theorem Jho (t:TD):(Ch.steps t).length<=2:=by unfold Ch.steps fwd bwd;cases t.hi <;> cases t.lo <;> simp
theorem Jhn (t:TD):(fwd t).length<=1:=by unfold fwd;cases t.hi <;> simp
theorem Jfo (ts:List TD) (i:Nat):(Ch.all (ts.take i)).length<=2*i:=by
 induction i with
 | zero=>simp [Ch.all]
 | succ i ih=>
  rw [take_succ];cases ts[i]? with
  | none=>simp;ac_nf
  | some t=>
   have:=Jho t;simp only [Ch.all,List.flatMap_append,Option.toList_some,List.flatMap_cons,List.flatMap_nil,append_nil,length_append] at ih ⊢;ac_nf
theorem Jkj (a b:Pr):eqD (prD a) (prD b)=decide (a=b):=by
 simp only [prD,eqD,eqL,Bool.and_true];rw [Bool.eq_iff_iff];simp [Prod.ext_iff]
section
variable {ss:List SD} {c:Pr} {cs:List Pr} {s:SD} {tot:Int × Int} {f l:Str}
end
theorem JfX {α : Type} {f : α->D} {n:Nat} (h:∀ a,depD (f a)<=n):∀ as:List α,depL (as.map f)<=n
 | []=>by simp [depL]
 | a::as=>by
  rw [map_cons,depL];exact Nat.max_le.mpr ⟨h a,JfX h as⟩
section
variable {K:W.Frag} {H:Hp} {Q:VK}
end
theorem JfE (t:SetTable) (es:Array (Int × Value)) (n:Nat) (hp:t.plain=false):(relayAll t es n).2.1.plain=false:=by
 unfold relayAll;split
 ·rename_i c a e;have b:c.plain=false:=by
   unfold SetTable.relaid at e;unfold SetTable.laid at e;cases hl:SetTable.layClean (SetTable.sizeAbove n-1) (es.map (·.1)) with
   | none=>rw [hl] at e;cases e
   | some ow=>
    rw [hl] at e;simp only [Option.bind_eq_bind,Option.bind_some,Option.pure_def,Option.some.injEq,Prod.mk.injEq] at e;rw [<- e.1];exact hp
  dsimp only;split
  ·exact b
  ·rfl
 ·rfl
theorem JfN (t:SetTable) (n:Nat):(t.orStandIn n).led=t.led:=by
 unfold SetTable.orStandIn;split <;> rfl
theorem Jgv (t:SetTable) (es:Array (Int × Value)) (h:Int) (x:Value):(layNew t es h x).2.1.led=t.led:=by
 unfold layNew;split
 ·exact JfN _ _
 ·rfl
theorem JhQ (t:SetTable) (es:Array (Int × Value)) (n:Nat):(relayAll t es n).2.1.led=t.led:=by
 unfold relayAll;split
 ·rename_i c a e;have b:c.led=t.led:=by
   unfold SetTable.relaid at e;unfold SetTable.laid at e;cases hl:SetTable.layClean (SetTable.sizeAbove n-1) (es.map (·.1)) with
   | none=>rw [hl] at e;cases e
   | some ow=>
    rw [hl] at e;simp only [Option.bind_eq_bind,Option.bind_some,Option.pure_def,Option.some.injEq,Prod.mk.injEq] at e;rw [<- e.1]
  dsimp only;split
  ·exact b
  ·rfl
 ·rfl
section
variable {prog:Program} {w:World} {A:Around} {E:Value->Shared->Prop} {s:Shared}
def SetS (prog:Program) (w:World) (h:Heap) (a:Addr) (ks:List Str):Prop :=
 ∃ es ep t,h.get? a=some { cls:=.type "set",dict:=none,data:=.set es ep t,slots:=#[] }/\ElemsOf (strKind prog w) es.toList /\
  (es.toList.map fun e=>strOf e.2).Perm ks/\ks.length<scanBound/\t.fits es.size=true/\(ks≠[]->t.plain=false)/\(w.params.followText "set-order"=false->t.led=true)
theorem Je7 {k:Str} {v:Value} (h:(strKind prog w).is k v=true):strOf v=k:=by
 obtain ⟨t,rfl⟩:=Value.isStrOf_shape h;rfl
theorem stored {h:Heap} {a:Addr} {es es':Array (Int × Value)} {ep:Nat} {t t':SetTable} (ho:h.get? a=some { cls:=.type "set",dict:=none,data:=.set es ep t,slots:=#[] }) :
  (h.update a (Obj.putSet es' t')).get? a=some { cls:=.type "set",dict:=none,data:=.set es' (ep+1) t',slots:=#[] }:=by
 have e:=Heap.get?_update_self (Obj.putSet es' t') ho (by rw [putSet_of es' t' rfl];rfl);rw [e,putSet_of es' t' rfl]
theorem JjZ {a:Addr} {ks:List Str} {z:Str} {tk:Tok} {Q:Bool->Shared->Prop} (hS:SetS prog w s.heap a ks) (hr:ks.length+1<scanBound)
  (q:∀ h' b,Heap.SameBut a s.heap h'->SetS prog w h' a (if z∈ks then ks else ks++[z])->Q b { s with heap:=h' }) :
  wpAny (model prog w) A (setAddHashed a (.str z tk) ((strKind prog w).hash z)) Q E s:=by
 obtain ⟨l,ep,t,J,g,F,hb,S,T,m⟩:=hS;have hk:(strKind prog w).is z (.str z tk)=true:=by show Value.isStrOf z (.str z tk)=true;simp [Value.isStrOf]
 have sz:l.size=ks.length:=by rw [<- F.length_eq,length_map,Array.length_toList]
 unfold setAddHashed;unfold setAddHashedIn;refine wpAny_holding (wpAny_bind (wpAny_setState_of J rfl S ?_));dsimp only;rw [byScan_of (knd:=strKind prog w) (x:=.str z tk) rfl ∅ g];rw [if_pos rfl];unfold setAddByScan;refine wpAny_bind (wpAny_bind (wpAny_rule (wpAny_bind (wpAny_setScan_of (knd:=strKind prog w) hk J rfl S g ?_))));have v:∀ e∈l.toList,((strKind prog w).is z e.2=true↔strOf e.2=z):=fun e M=>by
  obtain ⟨⟨k,G,_⟩,_⟩:=g e M;constructor
  ·exact Je7
  ·intro Y;rw [Je7 G] at Y;rw [<- Y];exact G
 cases fi:l.toList.findIdx? (fun e=>(strKind prog w).is z e.2) with
 | some j=>
  dsimp only;obtain ⟨hj,pj,_⟩:=List.findIdx?_eq_some_iff_getElem.mp fi;have C:z∈ks:=F.mem_iff.mp (mem_map.mpr ⟨_,List.getElem_mem hj,(v _ (List.getElem_mem hj)).mp pj⟩);refine wpAny_pure (wpAny_pure ?_);have:=q s.heap false (Heap.SameBut.refl a s.heap) (by rw [if_pos C];exact ⟨l,ep,t,J,g,F,hb,S,T,m⟩);cases s;exact this
 | none=>
  dsimp only;have C:¬ z∈ks:=fun C=>by
   obtain ⟨e,M,ez⟩:=mem_map.mp (F.mem_iff.mpr C);have G:=List.findIdx?_eq_none_iff.mp fi e M;rw [(v e M).mpr ez] at G;cases G
  have D:=layNew_perm t l ((strKind prog w).hash z) (.str z tk);have L:=Jgv t l ((strKind prog w).hash z) (.str z tk);have N:=layNew_fits t l ((strKind prog w).hash z) (.str z tk);generalize layNew t l ((strKind prog w).hash z) (.str z tk)=LL at D N L ⊢;obtain ⟨c,X,wd,gv⟩:=LL;dsimp only at D N L ⊢;rw [Array.toList_push] at D;have i:ElemsOf (strKind prog w) c.toList:=(g.push hk rfl).perm D;have o:(c.toList.map fun e=>strOf e.2).Perm (ks++[z]):=by
   refine (D.map _).trans ?_;rw [map_append];exact F.append (.refl _)
  have a0:c.size=ks.length+1:=by
   rw [<- Array.length_toList, <- length_map (f:=fun e:Int × Value=>strOf e.2),o.length_eq];simp
  have I:∀ (d:SetTable),d.plain=false->d.led=t.led->d.fits c.size=true->wpAny (model prog w) A (do
    storeSet a c d
    if (!wd&&d.tooFull)=true then do
      (match (relayAll d c (SetTable.grown c.size)).2.2 with | true=>rule "set.scan.the-table-gave-way" | false=>pure ())
      storeSet a (relayAll d c (SetTable.grown c.size)).1 (relayAll d c (SetTable.grown c.size)).2.1
      pure (some true)
     else pure (some true)) (fun r u=>∃ h',Heap.SameBut a s.heap h'/\SetS prog w h' a (ks++[z])/\r=some true/\u={ s with heap:=h' }) E s:=fun d p2 Z f2=>by
   refine wpAny_bind (wpAny_storeSet_of J rfl ?_ (fits_of_scanBound ∅));have n:=stored (es':=c) (t':=d) J;have y:=Heap.SameBut.update s.heap a (Obj.putSet c d);split
   ·have K:=relayAll_perm d c (SetTable.grown c.size);have O:=relayAll_fits d c (SetTable.grown c.size);have R:=JfE d c (SetTable.grown c.size) p2;have P:=JhQ d c (SetTable.grown c.size);generalize relayAll d c (SetTable.grown c.size)=RR at K O R P ⊢;obtain ⟨p,W,U⟩:=RR;dsimp only at K O R P ⊢;have a1:p.size=c.size:=by rw [<- Array.length_toList,K.length_eq,Array.length_toList]
    refine wpAny_bind ?_;have B:wpAny (model prog w) A (do storeSet a p W;pure (some true)) (fun r u=>∃ h',Heap.SameBut a s.heap h'/\SetS prog w h' a (ks++[z])/\r=some true/\u={ s with heap:=h' }) E { s with heap:=s.heap.update a (Obj.putSet c d) }:=by
     refine wpAny_bind (wpAny_storeSet_of n rfl (wpAny_pure ⟨_,y.trans (Heap.SameBut.update _ a _),⟨p,_,W,stored n,i.perm K,(K.map _).trans o,by simpa using hr,O,fun _=>R,fun z=>(P.trans Z).trans (m z)⟩,rfl,rfl⟩) (fits_of_scanBound ∅))
    cases U
    ·exact wpAny_pure B
    ·exact wpAny_rule B
   ·exact wpAny_pure ⟨_,y,⟨c,_,d,n,i,o,by simpa using hr,f2,fun _=>p2,fun z=>Z.trans (m z)⟩,rfl,rfl⟩
  have H:∀ r u,(∃ h',Heap.SameBut a s.heap h'/\SetS prog w h' a (ks++[z])/\r=some true/\u={ s with heap:=h' })->wpAny (model prog w) A (match r with | some b=>pure b | none=>setAddHashedIn a (.str z tk) ((strKind prog w).hash z) 99999) Q E u:=by
   rintro r u ⟨h',sb,V,rfl,rfl⟩;exact wpAny_pure (q h' true sb (by rw [if_neg C];exact V))
  refine wpAny_bind ?_;have gw:∀ (b:Bool) {Q':Unit->Shared->Prop},Q' () s->wpAny (model prog w) A (match b with | true=>rule "set.scan.the-table-gave-way" | false=>pure ()) Q' E s:=fun b Q' h=>by
   cases b
   ·exact wpAny_pure h
   ·exact wpAny_rule h
  refine gw gv ?_;split
  ·refine wpAny_bind ?_;rw [hashByValue_scannable 8 (x:=.str z tk) rfl];refine wpAny_pure ?_;exact wpAny_mono (I { X with plain:=false } rfl L (SetTable.fits_plain_off N)) H fun _ _ e=>e
  ·rename_i np;refine wpAny_bind (wpAny_pure ?_);exact wpAny_mono (I X (by simpa using np) L N) H fun _ _ e=>e
end
def addS (l:List Str) (z:Str):List Str:=if z∈l then l else l++[z]
def met (val:Nat->Str) (i:Nat):List Str:=((List.range i).map val).foldl addS []
theorem Jc6 (val:Nat->Str) (i:Nat):met val (i+1)=addS (met val i) (val i):=by
 unfold met;rw [List.range_succ,map_append,foldl_append];rfl
theorem Jfp (val:Nat->Str):∀ i,(met val i).length<=i
 | 0=>Nat.le_refl _
 | i+1=>by
  have:=Jfp val i;rw [Jc6];unfold addS;split <;> simp <;> ac_nf
theorem Jga (val:Nat->Str):∀ i,(met val i).Nodup
 | 0=>List.nodup_nil
 | i+1=>by
  have:=Jga val i;rw [Jc6];unfold addS;split
  ·exact this
  ·rename_i h;rw [nodup_append];refine ⟨this,by simp,fun a ha b hb=>?_⟩;rw [mem_singleton.mp hb];exact fun e=>h (e ▸ ha)
theorem Jhs (val:Nat->Str) (z:Str):∀ i,z∈met val i↔∃ j,j<i/\val j=z
 | 0=>by simp [met]
 | i+1=>by
  have ih:=Jhs val z i;rw [Jc6];have e:z∈addS (met val i) (val i)↔z∈met val i\/z=val i:=by
   unfold addS;split
   ·rename_i h;constructor
    ·exact .inl
    ·rintro (h' | rfl)
     ·exact h'
     ·exact h
   ·simp
  rw [e,ih];constructor
  ·rintro (⟨j,hj,h⟩ | rfl)
   ·exact ⟨j,by ac_nf,h⟩
   ·exact ⟨i,by ac_nf,rfl⟩
  ·rintro ⟨j,hj,rfl⟩;by_cases c:j<i
   ·exact .inl ⟨j,c,rfl⟩
   ·have : j=i:=by ac_nf
    subst this;exact .inr rfl
section
variable {prog:Program} {w:World} {A:Around} {E:Value->Shared->Prop} {s:Shared}
theorem Jkm {z:Str} {t:Tok}:(PySem.strKind prog w).is z (.str z t)=true:=by
 show Value.isStrOf z (.str z t)=true;simp [Value.isStrOf]
theorem SetS.at_ {h h':Heap} {a:Addr} {ks:List Str} (x:SetS prog w h a ks) (k:∀ o,h.get? a=some o->h'.get? a=some o):SetS prog w h' a ks:=by
 obtain ⟨b,d,t,c,r⟩:=x;exact ⟨b,d,t,k _ c,r⟩
theorem JiI {R:Result->Shared->Prop} {I:Addr} {fp wr:List Addr} {G:Array GenState->Array GenState->Prop} {n:Nat} {P:Nat->Value->Prop} {St:Nat->Shared->Prop}
  (W:WalksS prog w A.in1 I fp wr G n P St) (S:Addr) (hSf:S∉fp) (val:Nat->Str) (hval:∀ i v,P i v->∃ t,v=.str (val i) t) (hb:n+1<scanBound) :
  ∀ (k i:Nat) (s:Shared),n-i=k->i<=n->St i s->SetS prog w s.heap S (met val i)->(∀ s',Moved (S::wr) G s s'->SetS prog w s'.heap S (met val n)->R (.ok (.ret .none)) s') ->
   codeAny (model prog w) A (.builtin "set.update.loop" ⟨[.ref S, .ref I],[]⟩) R s:=by
 have u:S∉wr:=fun h=>hSf (W.sub _ h);have x:∀ b∈wr,b∈S::wr:=fun b h=>mem_cons_of_mem _ h;intro k;induction k with
 | zero=>
  intro i s H B r l q;have : i=n:=by ac_nf
  subst this;refine codeAny_builtin (PyProof.Rows.F.entry_set_update_loop) ?_;rw [Around.under_plainId (PyProof.Rows.F.plain_set_update_loop) _];refine wpAny_bind (m:=pyNext (.ref I)) (W.done s _ _ r fun s' a=>?_);exact wpAny_pure (q s' (a.mono x) (l.at_ fun o e=>a.heap S o u e))
 | succ k ih=>
  intro i s H B r l q;have c:i<n:=by ac_nf
  refine codeAny_builtin (PyProof.Rows.F.entry_set_update_loop) ?_;rw [Around.under_plainId (PyProof.Rows.F.plain_set_update_loop) _];refine wpAny_bind (m:=pyNext (.ref I)) (W.item i s _ _ c r fun v s' C f a=>?_);obtain ⟨t,rfl⟩:=hval i v C;have p:SetS prog w s'.heap S (met val i):=l.at_ fun o e=>a.heap S o u e;have J:=Jfp val i;refine wpAny_bind (m:=holding [Value.str (val i) t] (setAdd S (.str (val i) t))) (wpAny_holding ?_);unfold setAdd;refine wpAny_holding (wpAny_bind ((strKind prog w).pyHash (k:=val i) Jkm ?_));refine JjZ (s:={ s' with toks:=s'.toks+1 }) p ∅ fun z b y g=>?_;have j:SetS prog w z S (met val (i+1)):=by
   rw [Jc6];exact g
  refine wpAny_pure ⟨plainId_quiet (PyProof.Rows.F.plain_set_update_loop) _,ih (i+1) _ ∅ c (W.frame _ s' _ _ f (Nat.le_succ _) fun b hb o e=>?_) j fun E D d=>?_⟩
  ·rw [y.2 b (fun h:b=S=>hSf (h ▸ hb))];exact e
  ·refine q E (Moved.trans W.gtrans ((a.mono x).then_heap (Nat.le_succ _) fun b o hb e=>?_) D) d;rw [y.2 b (fun h:b=S=>hb (by rw [h];exact mem_cons_self))];exact e
end
section
variable {prog:Program} {w:World} {A:Around} {E:Value->Shared->Prop} {s:Shared}
theorem JhY:∀ {vs:List Value} {ss:List Str},StrsAre vs ss->∀ (i:Nat) (v:Value),vs[i]?=some v->∃ t,v=.str (ss.getD i ⟨#[]⟩) t
 | _,_, .nil,i,v,h=>by simp at h
 | _,_, .cons n t r,0,v,h=>by
  simp at h;exact ⟨t,by rw [<- h];rfl⟩
 | _,_, .cons n t r,i+1,v,h=>by
  rw [List.getElem?_cons_succ] at h;obtain ⟨t',e⟩:=JhY r i v h;exact ⟨t',by rw [e];rfl⟩
theorem JfK (a:Value) {Q₁ : Value->Shared->Prop}
  (h:∀ led:Bool,(w.params.followText "set-order"=false->led=true)->Q₁ (.ref s.heap.objs.size) { s with heap:=s.heap.push { cls:=.type "set",dict:=none,data:=.set #[] 0 (.fresh 0 0 led) } }) :
  codeAny (model prog w) A (.call (.builtin "set.__new__") ⟨[.type "set",a],[]⟩) (wants Q₁ E) s:=by
 refine codeAny_of_tree ?_;show wpAny _ A.in1 (do checkBuiltinCall "set.__new__" ⟨[.type "set",a],[]⟩;again (.builtin "set.__new__" ⟨[.type "set",a],[]⟩)) _ _ s;refine wpAny_bind (wpAny_of_eq (F.newCall_set_1 a) (wpAny_pure ⟨plainId_quiet F.plain_set_new _,codeAny_builtin F.entry_set_new ?_⟩));rw [Around.under_plainId F.plain_set_new _];unfold Builtin.«set.__new__» Builtin.Frozenset.newClass;have b:=sub_set_self;obtain ⟨e,g,d,f,c⟩:=s;dsimp only
 wp_walk
 refine wpAny_askSetting (wpAny_pure ?_);dsimp only;simp only [newObj];refine wpAny_bind (wpAny_alloc (wpAny_pure ?_));exact wpAny_pure (h _ (fun z=>by simp;exact z))
abbrev set0 (led:Bool):Obj:={ cls:=.type "set",dict:=none,data:=.set #[] 0 (.fresh 0 0 led) }
theorem JiH {l:Addr} {items:Array Value} {ss:List Str} {led:Bool} {R:Result->Shared->Prop} (hld:w.params.followText "set-order"=false->led=true) (hh:A.handled=none) (hl:s.heap.IsList l items) (hi:StrsAre items.toList ss) (hb:items.size+1<scanBound)
  (q:∀ h' tk,SetS prog w h' s.heap.objs.size (met (fun i=>ss.getD i ⟨#[]⟩) items.size)->(∀ b o,s.heap.get? b=some o->h'.get? b=some o)->s.toks<=tk->R (.ok (.ret .none)) { s with heap:=h',toks:=tk }) :
  wpAny (model prog w) A.in1.in1 (Builtin.«set.__init__» ⟨[.ref s.heap.objs.size, .ref l],[]⟩) (fun fin s'=>match fin with | .done f=>R (.ok f) s' | .again c'=>c'.quiet=true/\codeAny (model prog w) A.in1 c' R s') (fun e s'=>R (.error e) s') { s with heap:=s.heap.push (set0 led) }:=by
 have K:(s.heap.push (set0 led)).get? s.heap.objs.size=some (set0 led):=Heap.get?_push_size _ rfl;have x:l<s.heap.objs.size:=by obtain ⟨o,S,_⟩:=hl;exact Heap.lt_size S
 have a:(s.heap.push (set0 led)).IsList l items:=hl.push _;have V:=F.sub_list_set;have U:=F.sub_list_frozenset;obtain ⟨I,P,d,T,h⟩:=id a;obtain ⟨B,n,p,j⟩:=I;simp only at d h;subst d;subst h;have D:(Value.type "list" == Value.type "dict")=false:=by decide
 unfold Builtin.«set.__init__»;unfold noKeywords;unfold Builtin.Frozenset.updateFrom;generalize t:pyIter=PI
 wp_walk
 subst t;refine wpAny_pyIter_list a ?_;refine wpAny_bind (wpAny_runValue ?_);have Q:A.in1.in1.in1.handled=none:=by simp [hh]
 have k:(s.heap.push (set0 led)).objs.size=s.heap.objs.size+1:=Heap.size_push ..;have M:l≠(s.heap.push (set0 led)).objs.size:=by
  rw [k];exact Nat.ne_of_lt (Nat.lt_succ_of_lt x)
 have C:s.heap.objs.size∉[(s.heap.push (set0 led)).objs.size,l]:=by
  rw [k];simp only [mem_cons,List.not_mem_nil,or_false,not_or];exact ⟨Nat.ne_of_lt (Nat.lt_succ_self _),Nat.ne_of_gt x⟩
 refine JiI ((Walks.list Q _ l M items).toS) s.heap.objs.size C (fun i=>ss.getD i ⟨#[]⟩) (fun i v L=>JhY hi i v (by rw [Array.getElem?_toList];exact L)) hb (items.size-0) 0 _ ∅ (Nat.zero_le _) ⟨⟨_,Heap.get?_push_size _ rfl,rfl,rfl⟩,a.push _⟩ ?_ ?_
 ·have g:((s.heap.push (set0 led)).push { cls:=.type "list_iterator",data:=.fields #[.ref l, .int 0 0] }).get? s.heap.objs.size=some (set0 led):=Heap.get?_push_of_some _ K;exact ⟨#[],0,_,g,fun e G=>by simp at G,by show List.Perm [] _;exact .refl _,(show (0:Nat)<scanBound by decide),by rfl,fun z=>absurd rfl z,hld⟩
 ·intro s' c u;obtain ⟨h',N,J,m,r⟩:=s';have H:N=s.gens:=c.gens;have O:J=s.drawn:=c.drawn;have E:r=s.os:=c.os;subst H;subst O;subst E;refine wpAny_pure ?_;refine wpAny_pure ?_;refine q h' m u (fun b o e=>?_) c.toks;have y:=Heap.lt_size e;exact c.heap b o (by rw [k];simp only [mem_cons,List.not_mem_nil,or_false,not_or];exact ⟨Nat.ne_of_lt y,Nat.ne_of_lt (Nat.lt_succ_of_lt y)⟩) (Heap.get?_push_of_some _ (Heap.get?_push_of_some _ e))
theorem Jdw {l:Addr} {items:Array Value} {ss:List Str} {Q:Value->Shared->Prop} (hh:A.handled=none) (hl:s.heap.IsList l items) (hi:StrsAre items.toList ss) (hb:items.size+1<scanBound)
  (q:∀ h' tk,SetS prog w h' s.heap.objs.size (met (fun i=>ss.getD i ⟨#[]⟩) items.size)->(∀ b o,s.heap.get? b=some o->h'.get? b=some o)->s.toks<=tk->Q (.ref s.heap.objs.size) { s with heap:=h',toks:=tk }) :
  wpAny (model prog w) A (call (.type "set") [.ref l]) Q E s:=by
 obtain ⟨B,u,y⟩:=F.called_set.mro;have H:=F.called_set.made;have z:=F.called_set.sub;have D:=F.called_set.notType;have v:=F.called_set.canCreate;have I:=F.typeCall_set_1 (.ref l);refine (wpAny_call (codeAny_of_tree ?_));show wpAny (model prog w) _ (callAny (.type "set") _) _ _ _;refine wpAny_pure ⟨Code.quiet_builtin _ (by decide +kernel),codeAny_builtin (F.entry_type_call) ?_⟩;rw [Around.under_plain (weight_type_call_type "set" ([.ref l]) []) rfl];repeat (any_goals (first | assumption | wp_step))
 refine codeAny_mono (JfK (.ref l) (E:=E) (Q₁:=fun h m=>∃ d:Bool,(w.params.followText "set-order"=false->d=true)/\h=.ref s.heap.objs.size/\m={ s with heap:=s.heap.push (set0 d) }) fun d f=>⟨d,f,rfl,rfl⟩) fun r m j=>?_;cases r with
 | error e=>exact j
 | ok fl=>
  cases fl with
  | ret h=>
   obtain ⟨d,f,rfl,rfl⟩:=j;have t:(s.heap.push (set0 d)).get? s.heap.objs.size=some (set0 d):=Heap.get?_push_size _ rfl;have p:Shared.TypeIs { s with heap:=s.heap.push (set0 d) } (.ref s.heap.objs.size) "set":=⟨_,t,rfl⟩;have G:=F.called_set.init.lookup;have x:=F.called_set.init.bind (.ref s.heap.objs.size);repeat (any_goals (first | assumption | wp_step))
   refine codeAny_mono (codeAny_call_builtin (R:=wants (fun r k=>r=.none/\Q (.ref s.heap.objs.size) k) E) F.called_set.init.plain F.entry_set_init (check_set_init_1 p ?_)) fun n k g=>?_
   ·exact JiH f hh hl hi hb fun h' tk a b c=>⟨rfl,q h' tk a b c⟩
   ·cases n with
    | error e=>exact g
    | ok f2=>
     cases f2 with
     | ret r=>
      obtain ⟨rfl,C⟩:=g;repeat (any_goals (first | assumption | wp_step))
     | _=>exact g.elim
  | _=>exact j.elim
end
theorem JaT:Slot "set_iterator" "__next__" "set_iterator.__next__":=.of (owner:="set_iterator") (n:="__next__") (by rw [typeLookup_type,builtinLookup_eq_fast];kernel_rfl) (by decide +kernel) (by decide +kernel) (by decide +kernel) (by first | exact .inl (by decide +kernel) | exact .inr (by decide +kernel)) (by rw [isSubtype_type];kernel_rfl)
theorem JbR:entryFor table "set_iterator.__next__"=some Builtin.«set_iterator.__next__»:=entryFor_of_tree (by kernel_rfl)
theorem Jcq (a:Value):argsOk "set_iterator.__next__" ⟨[a],[]⟩:=by unfold argsOk;kernel_rfl
theorem JhW:Slot "set_iterator" "__iter__" "set_iterator.__iter__":=.of (owner:="set_iterator") (n:="__iter__") (by rw [typeLookup_type,builtinLookup_eq_fast];kernel_rfl) (by decide +kernel) (by decide +kernel) (by decide +kernel) (by first | exact .inl (by decide +kernel) | exact .inr (by decide +kernel)) (by rw [isSubtype_type];kernel_rfl)
theorem Jjj (a:Value):argsOk "set_iterator.__iter__" ⟨[a],[]⟩:=by unfold argsOk;kernel_rfl
theorem Jdd:entryFor table "set.__iter__"=some Builtin.«frozenset.__iter__»:=entryFor_alias (id':="frozenset.__iter__") (by kernel_rfl) rfl (by decide +kernel) (by kernel_rfl)
theorem JcP {α : Type}:∀ {l:List α} {i:Nat} (h:i<l.length),(l[i]::l.eraseIdx i).Perm l
 | x::l,0,h=>.refl _
 | x::l,i+1,h=>(List.Perm.swap _ _ _).trans ((JcP (l:=l) (i:=i) (by simpa using h)).cons x)
section
variable {M:Model} {A:Around} {E:Value->Shared->Prop} {s:Shared}
theorem Jh9 {src:Source} {n:Nat} {Q:Nat->Shared->Prop} (hn:n≠0) (h:∀ i,i<n->Q i { s with drawn:=s.drawn.bump src }):wpAny M A (choose src n) Q E s :=
 fun Γ p _=>⟨hn,h _ (Nat.mod_lt _ (Nat.pos_of_ne_zero hn))⟩
theorem JdI {α : Type}:∀ (n:Nat) (xs:List α) (s:Shared) (Q:List α->Shared->Prop),xs.length=n->(∀ ys d,ys.Perm xs->Q ys { s with drawn:=d })->wpAny M A (drawOrder n xs) Q E s
 | 0,xs,s,Q,hl,q=>by
  have : xs=[]:=eq_nil_of_length_eq_zero hl;subst this;exact wpAny_pure (q [] s.drawn (.refl _))
 | n+1,[],s,Q,hl,q=>by simp at hl
 | n+1,x::xs,s,Q,hl,q=>by
  unfold drawOrder;refine wpAny_bind (Jh9 (by simp) fun i hi=>?_);rw [List.getElem?_eq_getElem hi];refine wpAny_bind (JdI n _ _ _ (by rw [List.length_eraseIdx_of_lt hi];ac_nf) fun ys d hp=>?_);exact wpAny_pure (q _ d ((hp.cons _).trans (JcP hi)))
end
theorem JhI {α : Type} (next:Nat->Nat):∀ (n k:Nat) (l:List α) (out:Array α),l.length=n->(pickOrder.go next n k l out).toList.Perm (out.toList++l)
 | 0,k,l,out,hl=>by
  have : l=[]:=eq_nil_of_length_eq_zero hl;subst this;unfold pickOrder.go;simp
 | n+1,k,l,out,hl=>by
  unfold pickOrder.go;have hi:next k % l.length<l.length:=Nat.mod_lt _ ∅;rw [List.getElem?_eq_getElem hi];dsimp only;refine (JhI next n (k+1) _ _ (by rw [List.length_eraseIdx_of_lt hi];ac_nf)).trans ?_;rw [Array.toList_push,List.append_assoc];exact (List.Perm.refl _).append (JcP hi)
theorem Jb5 {α : Type} (next:Nat->Nat) (xs:Array α):(pickOrder next xs).toList.Perm xs.toList:=by
 have:=JhI next xs.size 0 xs.toList #[] (by simp);simpa [pickOrder] using this
section
variable {prog:Program} {w:World} {A:Around} {E:Value->Shared->Prop} {s:Shared}
def setO (es:Array (Int × Value)) (ep:Nat) (t:SetTable):Obj:={ cls:=.type "set",dict:=none,data:=.set es ep t,slots:=#[] }
def itO (f:Value) (i:Nat) (a:Addr) (n ep:Nat):Obj:={ cls:=.type "set_iterator",data:=.fields #[f, .int i 0, .ref a, .int n 0, .int ep 0] }
theorem JbP {Q:Bool->Shared->Prop} (h:Q (w.params.followText "set-order") s):wpAny (model prog w) A setsByText Q E s:=by
 unfold setsByText;exact wpAny_bind (wpAny_askSetting (wpAny_pure h))
theorem Jfc {a:Addr} {es:Array (Int × Value)} {ep:Nat} {t:SetTable} {Q:Array (Int × Value)->Shared->Prop} (ha:s.heap.get? a=some (setO es ep t)) (hf:t.fits es.size=true) (ht:w.params.followText "set-order"=true)
  (q:Q (pickOrder (w.params.setOrder a ep) es) s):wpAny (model prog w) A (setWalk a) Q E s:=by
 unfold setWalk;refine wpAny_bind (wpAny_setState_of ha rfl hf ?_);dsimp only;refine wpAny_bind (JbP ?_);rw [if_pos ht];exact wpAny_bind (wpAny_askSetting (wpAny_pure q))
theorem JdN {h:Heap} {I a:Addr} {f f':Value} {i j n ep:Nat} {g:Array Value->Array Value} (hI:h.get? I=some (itO f i a n ep)) (hg:g #[f, .int i 0, .ref a, .int n 0, .int ep 0]=#[f', .int j 0, .ref a, .int n 0, .int ep 0]) :
  (h.update I (Obj.mapFields g)).get? I=some (itO f' j a n ep):=by
 have e:=Heap.get?_update_self (Obj.mapFields g) hI (Obj.isFreed_of_fields (Obj.data_mapFields (o:=itO f i a n ep) rfl _));rw [e];unfold itO;simp only [Obj.mapFields,hg]
theorem Jev {P:PySem.Fin->Shared->Prop} {Q:Option Value->Shared->Prop} (hh:A.handled=none) (q:∀ h',(∀ b o,s.heap.get? b=some o->h'.get? b=some o)->Q none { s with heap:=h' }) :
  wpAny (model prog w) A.in1 (do let x <- newExc (.type "StopIteration") [];raiseNew x) P (fun e s'=>wpAny (model prog w) A (do let b <- isInstance e (.type "StopIteration");if b=true then pure none else throw e) Q E s') s:=by
 refine wpAny_bind ?_;simp only [newExc];simp only [newTuple];refine wpAny_bind (wpAny_newObj_type ?_ (by size_fits));refine wpAny_bind (m:=firstArgMember _ _) (wpAny_of_eq (a:=Value.none) (by simp only [firstArgMember];rfl) ?_);refine wpAny_newObj_type ?_ (by size_fits);simp only [raiseNew];refine wpAny_bind (wpAny_handled ?_);rw [show A.in1.handled=none from hh];refine wpAny_bind (wpAny_pure (wpAny_throw ?_));refine wpAny_bind (wpAny_isInstance (T:="StopIteration") (b:=true) ⟨_,Heap.get?_push_size _ rfl,rfl⟩ isSubtype_stop ?_);exact wpAny_pure (q _ fun b o e=>Heap.get?_push_of_some _ (Heap.get?_push_of_some _ e))
section
variable {I a:Addr} {es:Array (Int × Value)} {i ep:Nat} {t:SetTable} {Q:Option Value->Shared->Prop}
theorem JeO {v:Value} (hI:s.heap.get? I=some (itO (.int 0 0) i a es.size ep)) (ha:s.heap.get? a=some (setO es ep t)) (hf:t.fits es.size=true)
  (ht:w.params.followText "set-order"=true) (hv:((pickOrder (w.params.setOrder a ep) es).toList.map (·.2))[i]?=some v)
  (q:∀ h',h'.get? I=some (itO (.int 0 0) (i+1) a es.size ep)->Heap.SameBut I s.heap h'->Q (some v) { s with heap:=h' }):wpAny (model prog w) A (pyNext (.ref I)) Q E s:=by
 have d:s.TypeIs (.ref I) "set_iterator":=⟨_,hI,rfl⟩;unfold pyNext;refine wpAny_bind (wpAny_attempt (wpAny_callSpecial?_slot (name:=Str.ofString "__next__") d JaT (wpAny_call_entry JaT d JbR ?_ (Jcq _))));unfold Builtin.«set_iterator.__next__»;refine wpAny_bind (m:=slotArgs _ _ _) (wpAny_pure ?_);refine wpAny_bind (wpAny_fieldsOf hI rfl ?_);show wpAny _ _ (setEntries a >>= _) _ _ _;refine wpAny_bind (wpAny_setEntries_of ha rfl hf ?_);rw [if_neg (by simp)];dsimp only;unfold setNext;refine wpAny_bind (wpAny_bind (wpAny_setState_of ha rfl hf ?_));dsimp only;refine wpAny_bind (JbP ?_);rw [if_pos ht,if_neg (by simp)];refine wpAny_bind (Jfc ha hf ht (wpAny_pure ?_));rw [List.getElem?_map,Array.getElem?_toList] at hv;obtain ⟨x,e,rfl⟩:=Option.map_eq_some_iff.mp hv;rw [Int.toNat_natCast,e];dsimp only [Option.map];refine wpAny_bind (wpAny_setField hI rfl (by simp) ?_);have c:=JdN (f':=.int 0 0) (j:=i) (g:=fun b=>b.setIfInBounds 0 (rawInt ((Int.toNat 0:Nat):Int))) hI rfl;refine wpAny_bind (wpAny_setField c rfl (by simp) ?_);have f:=JdN (f':=.int 0 0) (j:=i+1) (g:=fun b=>b.setIfInBounds 1 (rawInt ((i:Int)+1))) c rfl;exact wpAny_pure ⟨_,rfl,wpAny_pure (q _ f ((Heap.SameBut.update ..).trans (Heap.SameBut.update ..)))⟩
theorem Jd0 (hh:A.handled=none) (hI:s.heap.get? I=some (itO (.int 0 0) i a es.size ep)) (ha:s.heap.get? a=some (setO es ep t)) (hf:t.fits es.size=true)
  (ht:w.params.followText "set-order"=true) (hv:(pickOrder (w.params.setOrder a ep) es)[i]?=none)
  (q:∀ h',(∀ b o,b≠I->s.heap.get? b=some o->h'.get? b=some o)->Q none { s with heap:=h' }):wpAny (model prog w) A (pyNext (.ref I)) Q E s:=by
 have c:s.TypeIs (.ref I) "set_iterator":=⟨_,hI,rfl⟩;unfold pyNext;refine wpAny_bind (wpAny_attempt (wpAny_callSpecial?_slot (name:=Str.ofString "__next__") c JaT (wpAny_call_entry JaT c JbR ?_ (Jcq _))));unfold Builtin.«set_iterator.__next__»;refine wpAny_bind (m:=slotArgs _ _ _) (wpAny_pure ?_);refine wpAny_bind (wpAny_fieldsOf hI rfl ?_);show wpAny _ _ (setEntries a >>= _) _ _ _;refine wpAny_bind (wpAny_setEntries_of ha rfl hf ?_);rw [if_neg (by simp)];dsimp only;unfold setNext;refine wpAny_bind (wpAny_bind (wpAny_setState_of ha rfl hf ?_));dsimp only;refine wpAny_bind (JbP ?_);rw [if_pos ht,if_neg (by simp)];refine wpAny_bind (Jfc ha hf ht (wpAny_pure ?_));rw [Int.toNat_natCast,hv];dsimp only [Option.map];refine wpAny_bind (wpAny_setField hI rfl (by simp) ?_);refine Jev hh fun h' k=>q h' fun b o d e=>k b o ?_;exact ((Heap.SameBut.update ..).extBut b o d e)
theorem JgA {v:Value} {tp:Addr} {ps:List Nat} {j:Nat} {hs:Int} (hI:s.heap.get? I=some (itO (.ref tp) i a es.size ep)) (ha:s.heap.get? a=some (setO es ep t)) (hf:t.fits es.size=true)
  (hp:s.heap.get? tp=some (seqObj "tuple" (ps.map fun (n:Nat)=>rawInt n).toArray 0)) (hj:ps[i]?=some j) (hv:es[j]?=some (hs,v))
  (q:∀ h',h'.get? I=some (itO (.ref tp) (i+1) a es.size ep)->Heap.SameBut I s.heap h'->Q (some v) { s with heap:=h' }):wpAny (model prog w) A (pyNext (.ref I)) Q E s:=by
 have b:s.TypeIs (.ref I) "set_iterator":=⟨_,hI,rfl⟩;unfold pyNext;refine wpAny_bind (wpAny_attempt (wpAny_callSpecial?_slot (name:=Str.ofString "__next__") b JaT (wpAny_call_entry JaT b JbR ?_ (Jcq _))));unfold Builtin.«set_iterator.__next__»;refine wpAny_bind (m:=slotArgs _ _ _) (wpAny_pure ?_);refine wpAny_bind (wpAny_fieldsOf hI rfl ?_);show wpAny _ _ (setEntries a >>= _) _ _ _;refine wpAny_bind (wpAny_setEntries_of ha rfl hf ?_);rw [if_neg (by simp)];dsimp only;unfold seqItems?;refine wpAny_bind (wpAny_bind (wpAny_load hp (wpAny_pure ?_)));dsimp only;have e:((ps.map fun (n:Nat)=>rawInt n).toArray)[((i:Int)).toNat]?=some (rawInt j):=by
  rw [Int.toNat_natCast,List.getElem?_toArray,List.getElem?_map,hj];rfl
 rw [e];show wpAny _ _ (setNextDrawn a _ _ >>= _) _ _ _;unfold setNextDrawn;refine wpAny_bind (wpAny_bind (wpAny_setState_of ha rfl hf ?_));dsimp only;rw [if_neg (by simp),Int.toNat_natCast,hv];refine wpAny_pure ?_;refine wpAny_bind (wpAny_setField hI rfl (by simp) ?_);have c:=JdN (f':=.ref tp) (j:=i+1) (g:=fun d=>d.setIfInBounds 1 (rawInt ((i:Int)+1))) hI rfl;exact wpAny_pure ⟨_,rfl,wpAny_pure (q _ c (Heap.SameBut.update ..))⟩
theorem Jg9 {tp:Addr} {ps:List Nat} (hh:A.handled=none) (hI:s.heap.get? I=some (itO (.ref tp) i a es.size ep)) (ha:s.heap.get? a=some (setO es ep t)) (hf:t.fits es.size=true)
  (hp:s.heap.get? tp=some (seqObj "tuple" (ps.map fun (n:Nat)=>rawInt n).toArray 0)) (hj:ps[i]?=none)
  (q:∀ h',(∀ b o,b≠I->s.heap.get? b=some o->h'.get? b=some o)->Q none { s with heap:=h' }):wpAny (model prog w) A (pyNext (.ref I)) Q E s:=by
 have d:s.TypeIs (.ref I) "set_iterator":=⟨_,hI,rfl⟩;unfold pyNext;refine wpAny_bind (wpAny_attempt (wpAny_callSpecial?_slot (name:=Str.ofString "__next__") d JaT (wpAny_call_entry JaT d JbR ?_ (Jcq _))));unfold Builtin.«set_iterator.__next__»;refine wpAny_bind (m:=slotArgs _ _ _) (wpAny_pure ?_);refine wpAny_bind (wpAny_fieldsOf hI rfl ?_);show wpAny _ _ (setEntries a >>= _) _ _ _;refine wpAny_bind (wpAny_setEntries_of ha rfl hf ?_);rw [if_neg (by simp)];dsimp only;unfold seqItems?;refine wpAny_bind (wpAny_bind (wpAny_load hp (wpAny_pure ?_)));dsimp only;have e:((ps.map fun (n:Nat)=>rawInt n).toArray)[((i:Int)).toNat]?=none:=by
  rw [Int.toNat_natCast,List.getElem?_toArray,List.getElem?_map,hj];rfl
 rw [e];dsimp only;refine wpAny_bind (wpAny_setField hI rfl (by simp) ?_);have h:=JdN (f':=rawInt 0) (j:=i) (g:=fun f=>f.setIfInBounds 0 (rawInt 0)) hI rfl;refine wpAny_bind (wpAny_setField h rfl (by simp) ?_);refine Jev hh fun h' k=>q h' fun b o c e=>k b o ?_;exact ((Heap.SameBut.update ..).extBut b o c ((Heap.SameBut.update ..).extBut b o c e))
end
end
theorem Jha:entryFor table "set_iterator.__iter__"=some Builtin.«dict_keyiterator.__iter__»:=entryFor_alias (id':="dict_keyiterator.__iter__") (by kernel_rfl) rfl (by decide +kernel) (by kernel_rfl)
section
variable {prog:Program} {w:World} {A:Around} {E:Value->Shared->Prop} {s:Shared}
theorem Jd4 {I a:Addr} {f:Value} {i n ep:Nat} {Q:Value->Shared->Prop} (hI:s.heap.get? I=some (itO f i a n ep)) (q:Q (.ref I) s):wpAny (model prog w) A (pyIter (.ref I)) Q E s:=by
 have b:s.TypeIs (.ref I) "set_iterator":=⟨_,hI,rfl⟩;refine wpAny_pyIter_slot b JhW (wpAny_call_entry JhW b Jha ?_ (Jjj _));exact wpAny_pure ⟨_,rfl,"set_iterator",_,b,JaT.lookup,q⟩
theorem Jh8 (hh:A.handled=none) (I a:Addr) (hne:a≠I) {es:Array (Int × Value)} {ep:Nat} {t:SetTable} (hf:t.fits es.size=true) (ht:w.params.followText "set-order"=true) :
  Walks prog w A I [I,a] [I] es.size (fun i v=>((pickOrder (w.params.setOrder a ep) es).toList.map (·.2))[i]?=some v) (fun i h=>h.get? I=some (itO (.int 0 0) i a es.size ep)/\h.get? a=some (setO es ep t)) where
 sub:=fun b d=>by simp at d;simp [d]
 frame:=fun _ _ _ c k=>⟨k I (by simp) _ c.1,k a (by simp) _ c.2⟩
 item:=fun i s Q E m c q=>by
  have n:((pickOrder (w.params.setOrder a ep) es).toList.map (·.2)).length=es.size:=by rw [length_map,(Jb5 _ es).length_eq,Array.length_toList]
  have j:=List.getElem?_eq_getElem (l:=(pickOrder (w.params.setOrder a ep) es).toList.map (·.2)) (by rw [n];exact m);exact JeO c.1 c.2 hf ht j fun f e g=>q _ f s.toks j ⟨e,g.extBut a _ hne c.2⟩ fun b o d z=>g.extBut b o (fun h=>d (by simp [h])) z
 done:=fun s Q E c q=>Jd0 hh c.1 c.2 hf ht (by
  rw [<- Array.getElem?_toList];exact List.getElem?_eq_none (by rw [(Jb5 _ es).length_eq,Array.length_toList];exact Nat.le_refl _)) fun f k=>q f s.toks fun b o d z=>k b o (fun h=>d (by simp [h])) z
 self:=fun _ _ _ _ c q=>Jd4 c.1 q
theorem Jh7 (hh:A.handled=none) (I a tp:Addr) (hne:a≠I) (hnt:tp≠I) {es:Array (Int × Value)} {ep:Nat} {t:SetTable} {ps:List Nat} (hf:t.fits es.size=true) (hp:ps.Perm (List.range es.size)) :
  Walks prog w A I [I,a,tp] [I] es.size (fun i v=>(ps.map fun j=>(es.getD j (0, .none)).2)[i]?=some v) (fun i h=>h.get? I=some (itO (.ref tp) i a es.size ep)/\h.get? a=some (setO es ep t)/\h.get? tp=some (seqObj "tuple" (ps.map fun (n:Nat)=>rawInt n).toArray 0)) where
 sub:=fun b d=>by simp at d;simp [d]
 frame:=fun _ _ _ c k=>⟨k I (by simp) _ c.1,k a (by simp) _ c.2.1,k tp (by simp) _ c.2.2⟩
 item:=fun i s Q E r c q=>by
  have y:ps.length=es.size:=by rw [hp.length_eq,List.length_range]
  have p:i<ps.length:=by rw [y];exact r
  have m:=List.getElem?_eq_getElem p;have l:ps[i]<es.size:=List.mem_range.mp (hp.mem_iff.mp (List.getElem_mem p));have x:es[ps[i]]?=some (es[ps[i]].1,es[ps[i]].2):=Array.getElem?_eq_getElem l;have u:(ps.map fun j=>(es.getD j (0, .none)).2)[i]?=some es[ps[i]].2:=by
   rw [List.getElem?_map,m,Option.map_some,Array.getD_eq_getD_getElem?,Array.getElem?_eq_getElem l];rfl
  exact JgA c.1 c.2.1 hf c.2.2 m x fun f e g=>q _ f s.toks u ⟨e,g.extBut a _ hne c.2.1,g.extBut tp _ hnt c.2.2⟩ fun b o d z=>g.extBut b o (fun h=>d (by simp [h])) z
 done:=fun s Q E c q=>Jg9 hh c.1 c.2.1 hf c.2.2 (List.getElem?_eq_none (by rw [hp.length_eq,List.length_range];exact Nat.le_refl _)) fun f k=>q f s.toks fun b o d z=>k b o (fun h=>d (by simp [h])) z
 self:=fun _ _ _ _ c q=>Jd4 c.1 q
theorem Jc5 {r:Addr} {Q:Bool->Shared->Prop} (ty:s.TypeIs (.ref r) "set") (h:Q false s):wpAny (model prog w) A (Builtin.List.listLengthHint (.ref r)) Q E s:=by
 unfold Builtin.List.listLengthHint;refine wpAny_bind (wpAny_specialOf ty PySem.F.slot_set_len.lookup ?_);generalize a:("set.__len__" : String)=c
 wp_delta
 rw [show splitId c=some ("set","__len__") from by subst a;decide +kernel];subst a;refine wpAny_bind (wpAny_isInstance (T:="set") (b:=true) ty (by rw [isSubtype_type];kernel_rfl) ?_);refine wpAny_ite_split (fun z=>absurd z ⋯) (fun _=>?_);refine wpAny_ite_split (fun _=>?_) (fun z=>absurd (by decide +kernel) z);exact wpAny_bind (wpAny_typeOf ty (wpAny_pure h))
theorem Jik {a:Addr} {es:Array (Int × Value)} {ep:Nat} {t:SetTable} {Q:Value->Shared->Prop} (ha:s.heap.get? a=some (setO es ep t)) (hf:t.fits es.size=true) (hp:t.plain=false) (h2:2<=es.size) (hz:es.size<=sizeLine)
  (q1:w.params.followText "set-order"=true->Q (.ref s.heap.objs.size) { s with heap:=s.heap.push (itO (.int 0 0) 0 a es.size ep) })
  (q2:∀ (ps:List Nat) d,ps.Perm (List.range es.size)->Q (.ref (s.heap.objs.size+1)) { s with heap:=(s.heap.push (seqObj "tuple" (ps.map fun (n:Nat)=>rawInt n).toArray 0)).push (itO (.ref s.heap.objs.size) 0 a es.size ep),drawn:=d }) :
  wpAny (model prog w) A (pyIter (.ref a)) Q E s:=by
 have b:s.TypeIs (.ref a) "set":=⟨_,ha,rfl⟩;refine wpAny_pyIter_slot b PySem.F.slot_set_iter (wpAny_call_entry PySem.F.slot_set_iter b Jdd ?_ (PySem.F.args_set_iter_1 _));unfold Builtin.«frozenset.__iter__»;refine wpAny_bind (m:=Builtin.Frozenset.slot0 _ _) (wpAny_pure ?_);unfold Builtin.Frozenset.sizeOf;refine wpAny_bind (wpAny_bind (wpAny_setEntries_of ha rfl hf (wpAny_pure ?_)));unfold setDrawn;refine wpAny_bind (wpAny_bind (wpAny_setState_of ha rfl hf ?_));dsimp only;refine wpAny_bind (JbP ?_);refine wpAny_pure ?_;cases ht:w.params.followText "set-order" with
 | true=>
  rw [if_neg (by simp)];refine wpAny_bind (wpAny_pure (wpAny_bind (wpAny_setEpoch_of ha rfl hf ?_)));unfold newFields;refine wpAny_bind (wpAny_newObj_type (wpAny_pure ⟨_,rfl,"set_iterator",_,⟨_,Heap.get?_push_size _ rfl,rfl⟩,JaT.lookup,?_⟩));exact q1 ht
 | false=>
  have e:decide (es.size > 1)=true:=decide_eq_true (show 1<es.size from h2);show wpAny _ _ (if (!false&&(!t.plain&&decide (es.size > 1)))=true then _ else _) _ _ _;rw [if_pos (by rw [hp,e];rfl)];refine wpAny_bind (JdI _ _ _ _ (by simp) fun ps d c=>?_);refine wpAny_bind (wpAny_newTuple ?_ (by rw [length_map,c.length_eq,List.length_range];exact hz));have f:(s.heap.push (seqObj "tuple" (ps.map fun (n:Nat)=>rawInt n).toArray 0)).objs.size=s.heap.objs.size+1:=Heap.size_push ..;refine wpAny_bind (wpAny_setEpoch_of (Heap.get?_push_of_some _ ha) rfl hf ?_);unfold newFields;refine wpAny_bind (wpAny_newObj_type (wpAny_pure ⟨_,rfl,"set_iterator",_,⟨_,Heap.get?_push_size _ rfl,rfl⟩,JaT.lookup,?_⟩));have:=q2 ps d c;rw [<- f] at this;exact this
theorem Jjr {a S:Addr} {es:Array (Int × Value)} {ep c0:Nat} {t:SetTable} {res:Value} {R:Result->Shared->Prop} (hh:A.handled=none) (ha:s.heap.get? a=some (setO es ep t)) (hf:t.fits es.size=true) (hp:t.plain=false) (h2:2<=es.size) (hz:es.size<=sizeLine)
  (hSa:S≠a) (hS:s.heap.get? S=some { cls:=.type "list",data:=.seq #[] c0 })
  (q:∀ s' acc c',(∀ b o,b≠S->s.heap.get? b=some o->s'.heap.get? b=some o)->s'.gens=s.gens->s'.os=s.os->s.toks<=s'.toks->s'.heap.get? S=some { cls:=.type "list",dict:=none,data:=.seq acc c',slots:=#[] }->acc.toList.Perm (es.toList.map (·.2))->R (.ok (.ret res)) s') :
  wpAny (model prog w) A.in1 (Builtin.List.listExtendWith (.ref S) (.ref a) res) (fun fin s'=>match fin with | .done f=>R (.ok f) s' | .again c'=>c'.quiet=true/\codeAny (model prog w) A c' R s') (fun e s'=>R (.error e) s') s:=by
 have key:∀ (I:Addr) (p:List Addr) (l:List Value) (St:Nat->Heap->Prop) (g:Shared),Walks prog w A.in1 I p [I] es.size (fun i v=>l[i]?=some v) St->l.Perm (es.toList.map (·.2))->S∉p->s.heap.get? I=none->St 0 g.heap ->
   (∀ b o,s.heap.get? b=some o->g.heap.get? b=some o)->g.gens=s.gens->g.os=s.os->s.toks<=g.toks->∀ U, ∀ h,(∀ b o,b≠S->g.heap.get? b=some o->h.get? b=some o)->h.get? S=some { cls:=.type "list",data:=.seq #[] U } ->
   codeAny (model prog w) A (.builtin "list.extend.loop" ⟨[.ref S, .ref I,res],[]⟩) R { g with heap:=h }:=by
  intro I p l St g W E D M N G K J L U h Z V;have Q:=W.frame 0 g.heap h N fun b r o e=>Z b o (fun z=>D (z ▸ r)) e;refine codeAny_extend_loopS W.toS hz S D res es.size 0 _ #[] U rfl (Nat.zero_le _) Q V (ItemsOf.nil _) fun s' k c' H X u=>?_;have g1:s'.gens=g.gens:=H.gens;have al:k.toList=l:=by
   have l1:l.length=es.size:=by rw [E.length_eq,length_map,Array.length_toList]
   have l2:k.size=es.size:=u.1;refine List.ext_getElem? fun j=>?_;by_cases c:j<es.size
   ·have e1:k[j]?=some k[j]:=Array.getElem?_eq_getElem (by rw [l2];exact c);rw [Array.getElem?_toList,e1,u.2 j _ e1]
   ·rw [List.getElem?_eq_none (by rw [Array.length_toList];ac_nf),List.getElem?_eq_none ∅]
  refine q s' k c' (fun b o r e=>?_) (g1.trans K) (H.os.trans J) (Nat.le_trans L H.toks) X (by rw [al];exact E);refine H.heap b o (fun C=>?_) (Z b o r (G b o e));rcases mem_cons.mp C with z | z
  ·exact r z
  ·rw [mem_singleton.mp z,M] at e;cases e
 have go:∀ (I:Addr) (p:List Addr) (l:List Value) (St:Nat->Heap->Prop) (g:Shared),Walks prog w A.in1 I p [I] es.size (fun i v=>l[i]?=some v) St->l.Perm (es.toList.map (·.2))->S∉p->s.heap.get? I=none->St 0 g.heap ->
   (∀ b o,s.heap.get? b=some o->g.heap.get? b=some o)->g.gens=s.gens->g.os=s.os->s.toks<=g.toks->∀ (b:Bool),wpAny (model prog w) A.in1 (if b=true then (do rule "list.extend.makes-room";Builtin.List.listTouch (.ref S);again (.builtin "list.extend.loop" ⟨[.ref S, .ref I,res],[]⟩)) else again (.builtin "list.extend.loop" ⟨[.ref S, .ref I,res],[]⟩)) (fun fin s'=>match fin with | .done f=>R (.ok f) s' | .again c'=>c'.quiet=true/\codeAny (model prog w) A c' R s') (fun e s'=>R (.error e) s') g:=by
  intro I p l St g W E D M N G K J L b;have O:=G _ _ hS;cases b
  ·exact wpAny_pure ⟨plainId_quiet PySem.F.plain_extend_loop _,key I p l St g W E D M N G K J L c0 g.heap (fun _ _ _ e=>e) O⟩
  ·rw [if_pos rfl];refine wpAny_bind (wpAny_rule ?_);refine wpAny_bind ?_;show wpAny _ _ (updateSeq S (·.push .none) >>= fun _=>updateSeq S (fun x=>x.pop)) _ _ _;refine wpAny_bind (wpAny_updateSeq O rfl ?_);have S2:=Heap.get?_update_self (Obj.mapSeq (·.push Value.none)) O rfl;refine wpAny_updateSeq (hz:=by seq_fits) S2 rfl ?_;have S3:=Heap.get?_update_self (Obj.mapSeq (fun x=>x.pop)) S2 rfl;refine wpAny_pure ⟨plainId_quiet PySem.F.plain_extend_loop _,key I p l St g W E D M N G K J L _ _ (fun b o r e=>?_) S3⟩;exact (Heap.get?_update_other _ _ (Ne.symm r)).trans ((Heap.get?_update_other _ _ (Ne.symm r)).trans e)
 have h1:A.in1.handled=none:=by simp [hh]
 have Y:=Heap.lt_size ha;have P:=Heap.lt_size hS;unfold Builtin.List.listExtendWith;refine wpAny_bind (wpAny_typeOf (T:="set") ⟨_,ha,rfl⟩ ?_);have n1:Builtin.List.listSameRef (.ref S) (.ref a)=false:=by simp [Builtin.List.listSameRef,hSa]
 rw [if_neg (by rw [n1];decide)];have m:∀ b,s.heap.objs.size<=b->s.heap.get? b=none:=fun b r=>by
  cases e:s.heap.get? b with
  | none=>rfl
  | some o=>exact absurd (Heap.lt_size e) (Nat.not_lt.mpr r)
 refine wpAny_bind (Jik ha hf hp h2 hz (fun ht=>?_) fun ps d pp=>?_)
 ·have y:∀ b o,s.heap.get? b=some o->(s.heap.push (itO (.int 0 0) 0 a es.size ep)).get? b=some o:=fun b o e=>Heap.get?_push_of_some _ e;refine wpAny_bind (wpAny_holding (Jc5 ⟨_,y _ _ ha,rfl⟩ ?_));exact go s.heap.objs.size _ _ _ { s with heap:=s.heap.push (itO (.int 0 0) 0 a es.size ep) } (Jh8 h1 _ a (Nat.ne_of_lt Y) hf ht) ((Jb5 _ es).map _) (by simp only [mem_cons,List.not_mem_nil,or_false,not_or];exact ⟨Nat.ne_of_lt P,hSa⟩) (m _ (Nat.le_refl _)) ⟨Heap.get?_push_size _ rfl,y _ _ ha⟩ y rfl rfl (Nat.le_refl _) _
 ·generalize hO:seqObj "tuple" (ps.map fun (n:Nat)=>rawInt n).toArray 0=B;have y:∀ b o,s.heap.get? b=some o->((s.heap.push B).push (itO (.ref s.heap.objs.size) 0 a es.size ep)).get? b=some o:=fun b o e=>Heap.get?_push_of_some _ (Heap.get?_push_of_some _ e);have z1:(s.heap.push B).objs.size=s.heap.objs.size+1:=Heap.size_push ..;have tI:((s.heap.push B).push (itO (.ref s.heap.objs.size) 0 a es.size ep)).get? (s.heap.objs.size+1)=some (itO (.ref s.heap.objs.size) 0 a es.size ep):=by
   rw [<- z1];exact Heap.get?_push_size _ rfl
  have tT:((s.heap.push B).push (itO (.ref s.heap.objs.size) 0 a es.size ep)).get? s.heap.objs.size=some B:=Heap.get?_push_of_some _ (Heap.get?_push_size _ (by rw [<- hO];rfl));refine wpAny_bind (wpAny_holding (Jc5 ⟨_,y _ _ ha,rfl⟩ ?_));have vp:(ps.map fun j=>(es.getD j (0, .none)).2).Perm (es.toList.map (·.2)):=by
   have e:es.toList.map (·.2)=(List.range es.size).map fun j=>(es.getD j (0,Value.none)).2:=by
    refine List.ext_getElem? fun j=>?_;rw [List.getElem?_map,List.getElem?_map,Array.getElem?_toList];by_cases c:j<es.size
    ·rw [Array.getElem?_eq_getElem c,List.getElem?_range c];simp [Array.getD_eq_getD_getElem?,Array.getElem?_eq_getElem c]
    ·rw [Array.getElem?_eq_none ∅,List.getElem?_eq_none (by rw [List.length_range];ac_nf)];rfl
   rw [e];exact pp.map _
  exact go (s.heap.objs.size+1) _ _ _ { s with heap:=(s.heap.push B).push (itO (.ref s.heap.objs.size) 0 a es.size ep),drawn:=d } (Jh7 (tp:=s.heap.objs.size) h1 _ a (Nat.ne_of_lt (Nat.lt_succ_of_lt Y)) (Nat.ne_of_lt (Nat.lt_succ_self _)) hf pp) vp (by simp only [mem_cons,List.not_mem_nil,or_false,not_or];exact ⟨Nat.ne_of_lt (Nat.lt_succ_of_lt P),hSa,Nat.ne_of_lt P⟩) (m _ (Nat.le_succ _)) ⟨tI,y _ _ ha,by rw [hO];exact tT⟩ y rfl rfl (Nat.le_refl _) _
end
section
variable {prog:Program} {w:World} {A:Around} {E:Value->Shared->Prop} {s:Shared}
theorem Jd3 {S r:Addr} {R:Result->Shared->Prop} (h:wpAny (model prog w) A.in1 (Builtin.List.listExtendWith (.ref S) (.ref r) (.ref S)) (fun fin s'=>match fin with | .done f=>R (.ok f) s' | .again c'=>c'.quiet=true/\codeAny (model prog w) A c' R s') (fun e s'=>R (.error e) s') s) :
  codeAny (model prog w) A (.builtin "list.__iadd__" ⟨[.ref S, .ref r],[]⟩) R s:=by
 refine codeAny_builtin (PySem.F.entry_list_iadd) ?_;rw [Around.under_plainId (PySem.F.plain_list_iadd) _];exact h
theorem Jck {r:Addr} {ss:List Str} {Q:Value->Shared->Prop} (h64:ss.length<64)
  (hx:∀ (R:Result->Shared->Prop),(∀ s' (vs:List Value) c' ss',(∀ b o,s.heap.get? b=some o->s'.heap.get? b=some o)->s'.gens=s.gens->s'.os=s.os->s.toks<=s'.toks ->
    s'.heap.get? s.heap.objs.size=some { cls:=.type "list",dict:=none,data:=.seq vs.toArray c',slots:=#[] }->StrsAre vs ss'->ss'.Perm ss->R (.ok (.ret (.ref s.heap.objs.size))) s') ->
   codeAny (model prog w) A.in1 (.builtin "list.__iadd__" ⟨[.ref s.heap.objs.size, .ref r],[]⟩) R { s with heap:=s.heap.push { cls:=.type "list",data:=.seq ([]:List Value).toArray } })
  (q:∀ s' l (out:Array Value) ss' e,(∀ b o,s.heap.get? b=some o->s'.heap.get? b=some o)->s'.gens=s.gens->s'.os=s.os->s.toks<=s'.toks->s.heap.objs.size<=l->s'.heap.get? l=some (seqObj "list" out e)->StrsAre out.toList ss'->ss'.Perm ss->sortedS ss'=true->Q (.ref l) s') :
  wpAny (model prog w) A (call (.builtin "sorted") [.ref r]) Q E s:=by
 refine Calls.call_function_entry kind_sorted plain_sorted entry_sorted (args_sorted1 _) ?_;unfold Builtin.«sorted»;refine wpAny_bind (m:=checkCount "sorted" 1 1 _) (wpAny_pure ?_);refine wpAny_bind ?_;unfold collect;refine wpAny_bind (wpAny_runValue (codeAny_builtin (PySem.F.entry_proto_collect) ?_));rw [Around.under_plainId (PySem.F.plain_proto_collect) _];show wpAny _ A.in1.in1 (newList [] >>= fun l=>again (.builtin "list.__iadd__" ⟨[l, .ref r],[]⟩)) _ _ s;refine wpAny_bind (wpAny_newObj_type ?_);refine wpAny_pure ⟨plainId_quiet (PySem.F.plain_list_iadd) _,hx _ fun s' vs c' x k u p z j a h=>?_⟩;refine wpAny_bind (m:=load s.heap.objs.size) (wpAny_load j (wpAny_pure ?_));have vl:vs.length<64:=by rw [a.length,h.length_eq];exact h64
 have C:(64:Nat)<=sizeLine:=by decide
 dsimp only;refine wpAny_bind (wpAny_newList ?_ (by show vs.length<=sizeLine;ac_nf));have d:(s'.heap.push (seqObj "list" vs.toArray 0)).get? s'.heap.objs.size=some (seqObj "list" vs.toArray 0):=Heap.get?_push_size _ rfl;refine wpAny_bind (wpAny_holding (wpAny_call_entry slot_list_sort ⟨_,d,rfl⟩ entry_list_sort (list_sort_treeK strKind_oneLt d a.keysOf (fun H G rest e=>keyKind_strs (by rw [<- e];exact a)) vl fun D g c=>⟨_,rfl,?_⟩) (args_list_sort _)));obtain ⟨f,y,t,v⟩:=sorted_out_str a g c;obtain ⟨B,n⟩:=sortedHeap_at (out:=(arrOf D).map (·.2)) d;refine wpAny_pure ⟨_,rfl,q _ s'.heap.objs.size _ f B (fun b o e=>?_) u p z ?_ n y (t.trans h) v⟩
 ·have i:=Heap.lt_size (k b o e);rw [sortedHeap_old (Nat.ne_of_lt i) (by rw [size_push'];exact Nat.lt_succ_of_lt i)];exact Heap.get?_push_of_some _ (k b o e)
 ·exact Nat.le_of_lt (Heap.lt_size j)
theorem JfO:∀ (vs:List Value),(∀ v∈vs, ∃ x t,v=.str x t)->StrsAre vs (vs.map strOf)
 | [],_=>.nil
 | v::vs,h=>by
  obtain ⟨x,t,rfl⟩:=h v (by simp);exact .cons x t (JfO vs fun u hu=>h u (by simp [hu]))
theorem JgK {a:Addr} {ks:List Str} {Q:Value->Shared->Prop} (hh:A.handled=none) (hS:SetS prog w s.heap a ks) (h2:2<=ks.length) (h64:ks.length<64)
  (q:∀ s' l (out:Array Value) ss' e,(∀ b o,s.heap.get? b=some o->s'.heap.get? b=some o)->s'.gens=s.gens->s'.os=s.os->s.toks<=s'.toks->s.heap.objs.size<=l->s'.heap.get? l=some (seqObj "list" out e)->StrsAre out.toList ss'->ss'.Perm ks->sortedS ss'=true->Q (.ref l) s') :
  wpAny (model prog w) A (call (.builtin "sorted") [.ref a]) Q E s:=by
 obtain ⟨C,O,t,j,g,i,P,I,h,_⟩:=hS;have N:C.size=ks.length:=by rw [<- i.length_eq,length_map,Array.length_toList]
 have L:(64:Nat)<=sizeLine:=by decide
 have m:=Heap.lt_size j;have M:A.in1.handled=none:=by simp [hh]
 refine Jck (ss:=ks) h64 (fun R k=>Jd3 (Jjr M (Heap.get?_push_of_some _ j) I (h (fun z=>by rw [z] at h2;simp at h2)) ∅ ∅ (Nat.ne_of_gt m) (Heap.get?_push_size _ rfl) fun s' d G F D y K p c=>?_)) q;have f:∀ v∈d.toList, ∃ x t,v=.str x t:=fun v J=>by
  obtain ⟨e,B,rfl⟩:=mem_map.mp (c.mem_iff.mp J);obtain ⟨⟨H,n,_⟩,_⟩:=g e B;obtain ⟨u,r⟩:=Value.isStrOf_shape n;exact ⟨H,u,r⟩
 refine k s' d.toList G (d.toList.map strOf) (fun b o e=>F b o (Nat.ne_of_lt (Heap.lt_size e)) (Heap.get?_push_of_some _ e)) D y K (by rw [Array.toArray_toList];exact p) (JfO _ f) ?_;refine (c.map strOf).trans ?_;rw [List.map_map];exact i
theorem JfL {K:Type} [DecidableEq K] {knd:PySem.KeyKind prog w K} {d:Addr} {kvs:List (K × Value)} {ep:Nat} {ss:List Str} {Q:Value->Shared->Prop} (hh:A.handled=none) (lo:(d == sysModules)=false) (hd:s.heap.DictAt knd d kvs ep) (h64:kvs.length<64)
  (hl:ss.length=kvs.length) (hk:∀ i k x v,kvs[i]?=some (k,x)->knd.is k v=true->∃ t,v=.str (ss.getD i ⟨#[]⟩) t)
  (q:∀ s' l (out:Array Value) ss' e,(∀ b o,s.heap.get? b=some o->s'.heap.get? b=some o)->s'.gens=s.gens->s'.os=s.os->s.toks<=s'.toks->s.heap.objs.size<=l->s'.heap.get? l=some (seqObj "list" out e)->StrsAre out.toList ss'->ss'.Perm ss->sortedS ss'=true->Q (.ref l) s') :
  wpAny (model prog w) A (call (.builtin "sorted") [.ref d]) Q E s:=by
 have P:(64:Nat)<=sizeLine:=by decide
 have G:=hd.lt_size;have N:A.in1.handled=none:=by simp [hh]
 refine Jck (ss:=ss) ∅ (fun R k=>?_) q;obtain ⟨z,u⟩:∃ z:Result->Shared->Prop, ∀ r s',z r s'↔∃ g y a p,r=.ok (.ret (.ref s.heap.objs.size))/\s'={ s with heap:=g,toks:=y }/\(∀ b o,b≠s.heap.objs.size->(s.heap.push { cls:=.type "list",data:=.seq ([]:List Value).toArray }).get? b=some o->g.get? b=some o)/\g.get? s.heap.objs.size=some { cls:=.type "list",dict:=none,data:=.seq a p,slots:=#[] }/\ItemsOf (fun i v=>∃ k x,kvs[i]?=some (k,x)/\knd.is k v=true) a kvs.length:=⟨_,fun _ _=>Iff.rfl⟩;have j:=codeAny_toks_of (n:=s.toks) (s:={ s with heap:=s.heap.push { cls:=.type "list",data:=.seq ([]:List Value).toArray } }) (Nat.le_refl _) (Jd3 (A:=A.in1) (R:=z)
  (W.kdl_extend (R:=z) (s:={ s with heap:=s.heap.push { cls:=.type "list",data:=.seq ([]:List Value).toArray } }) (W.kdl_dict (knd:=knd) (kvs:=kvs) (ep:=ep) lo) N (hd.push _) s.heap.objs.size (Nat.ne_of_gt G) (Nat.ne_of_gt G) (.ref s.heap.objs.size) 0 (Heap.get?_push_size _ rfl) (fun g y a p D hl f=>(u _ _).mpr ⟨g,y,a,p,rfl,rfl,D,hl,f⟩) ∅))
 refine codeAny_mono j ?_;rintro r s' ⟨L,S⟩;obtain ⟨g,y,a,p,rfl,rfl,D,m,f⟩:=(u _ _).mp S;have I:StrsAre a.toList ss:=by
  have h:∀ v∈a.toList, ∃ x t,v=.str x t:=fun v O=>by
   obtain ⟨i,H⟩:=List.getElem?_of_mem O;rw [Array.getElem?_toList] at H;obtain ⟨F,x,B,C⟩:=f.2 i v H;obtain ⟨t,e⟩:=hk i F x v B C;exact ⟨_,t,e⟩
  have:=JfO _ h;have e:a.toList.map strOf=ss:=by
   refine List.ext_getElem? fun i=>?_;rw [List.getElem?_map,Array.getElem?_toList];have T:a.size=kvs.length:=f.1;by_cases c:i<kvs.length
   ·have B:a[i]?=some a[i]:=Array.getElem?_eq_getElem ∅;obtain ⟨F,x,C,J⟩:=f.2 i _ B;obtain ⟨t,M⟩:=hk i F x _ C J;rw [B,Option.map_some,M,List.getElem?_eq_getElem ∅];simp [strOf,List.getD_eq_getElem?_getD,List.getElem?_eq_getElem (show i<ss.length by ac_nf)]
   ·rw [Array.getElem?_eq_none ∅,List.getElem?_eq_none ∅];rfl
  rw [e] at this;exact this
 exact k _ a.toList p ss (fun b o e=>D b o (Nat.ne_of_lt (Heap.lt_size e)) (Heap.get?_push_of_some _ e)) rfl rfl L (by rw [Array.toArray_toList];exact m) I (.refl _)
end
section
variable {prog:Program} {w:World} {A:Around} {E:Value->Shared->Prop} {s:Shared} {a:Addr} {its:Array Value} {n:Nat}
end
section
variable {prog:Program} {w:World} {A:Around} {E:Value->Shared->Prop} {s:Shared}
end
section
variable {X:Cx} {pins:List (Addr × Obj)} {σ : List (Option V)} {H:Hp} {s s':Shared}
theorem Inv.like (I:Inv X pins σ H { s with heap:=s'.heap,toks:=s'.toks }) (eg:s'.gens=s.gens) (eo:s'.os=s.os):Inv X pins σ H s' :=
 ⟨I.ok,by rw [eo];exact I.os,by rw [eg];exact I.bare,I.base,I.loc,I.cell,I.free,I.freeC,I.pin,I.hok,I.len⟩
theorem Jdv:∀ {vs:List Value} {ss:List Str},StrsAre vs ss->Vals (ss.map V.str) vs
 | _,_, .nil=>.nil
 | _,_, .cons z t r=>.cons ⟨t,rfl⟩ (Jdv r)
theorem Je8:∀ {vs:List Value} {ss:List Str},Vals (ss.map V.str) vs->StrsAre vs ss
 | [],[],_=>.nil
 | [],_::_,h=>by cases h
 | _::_,[],h=>by cases h
 | v::vs,z::ss,h=>by
  cases h with
  | cons h1 h2=>
   obtain ⟨t,rfl⟩:=h1;exact .cons z t (Je8 h2)
def Jjf (out ss:List Str):Prop:=out.Perm ss/\sortedS out=true
def JkO (xs:List V) (H:Hp) (Q:VK):Prop:=∃ d kvs ss,xs=[.ref d]/\H d=some (.dK kvs)/\kvs.map (·.1)=ss.map Sum.inr/\ss.length<64/\∀ l out,H l=none->Jjf out ss->Q (.ref l) (upd H l (.lst (out.map V.str)))
theorem JdG (hc:X.calm=true):CallR X (.builtin "sorted") JkO:=by
 intro C s σ H xs us Q I r h;obtain ⟨d,a,ss,rfl,e,A,U,q⟩:=h;obtain ⟨u,rfl,M⟩:=vals1 r;cases M;obtain ⟨R,T,B,g,D⟩:=dk_of I.hok e;obtain ⟨ep,F⟩:=D.dictAt;have Z:(64:Nat)<=sizeLine:=by decide
 have lk:ss.length=a.length:=by simpa using (congrArg List.length A).symm
 have L:B.length=a.length:=g.length.symm;have f:B.map (·.1)=a.map (·.1):=by
  clear D F A lk L R q e;induction g with
  | nil=>rfl
  | cons h1 _ ih=>
   rw [map_cons,map_cons,ih,h1.1]
 refine JfL (ss:=ss) (I.ok.hd hc) T F ∅ ∅ (fun i k x v N W=>?_) fun G l j c O k S P et K Y J m p=>?_
 ·have E:(B.map (·.1))[i]?=some k:=by rw [List.getElem?_map,N];rfl
  rw [f,A,List.getElem?_map] at E;obtain ⟨z,n,rfl⟩:=Option.map_eq_some_iff.mp E;rcases JaH (show keyIs (Sum.inr z) v=true from W) with ⟨b,hb,_⟩ | ⟨y,t,hy,rfl⟩
  ·cases hb
  ·cases hy;exact ⟨t,by rw [List.getD_eq_getElem?_getD,n];rfl⟩
 ·have lo:j.toList.length<=sizeLine:=by
   rw [J.length,m.length_eq];ac_nf
  refine ⟨.ref l,_,Inv.like (s:=s) (I.laid (t':=G.toks) (o:=.lst (c.map V.str)) k K (show ObjOk X.prog X.w _ G.heap l (.lst (c.map V.str)) from ⟨by rw [length_map,m.length_eq];ac_nf,j.toList,O,Jdv J,by rw [Array.toArray_toList];exact Y⟩)) S P,rfl,q l c (I.hok.fresh K) ⟨m,p⟩⟩
end
theorem Jji {kvs:List (Key × V)} {ss:List Str} (h:kvs.map (·.1)=ss.map Sum.inr) (z:Str):(kvs.any fun kv=>decide (kv.1=Sum.inr z))=decide (z∈ss):=by
 have e:(kvs.any fun kv=>decide (kv.1=Sum.inr z))=(kvs.map (·.1)).any fun k=>decide (k=Sum.inr z):=by rw [List.any_map];rfl
 rw [e,h,List.any_map,Bool.eq_iff_iff];simp
theorem Jf7 {kvs:List (Key × V)} {ss:List Str} (h:kvs.map (·.1)=ss.map Sum.inr) (z:Str) (v:V):(putK kvs (Sum.inr z) v).map (·.1)=(addS ss z).map Sum.inr:=by
 unfold putK addS;rw [Jji h];by_cases c:z∈ss
 ·rw [if_pos (by simpa using c),if_pos c, <- h,List.map_map];refine List.map_congr_left fun a _=>?_;simp only [Function.comp];split
  ·rfl
  ·rfl
 ·rw [if_neg (by simpa using c),if_neg c,map_append,map_append,h];rfl
theorem JgO {ss:List Str} (z:Str) (h:ss.Nodup):(addS ss z).Nodup:=by
 unfold addS;split
 ·exact h
 ·rename_i c;rw [nodup_append];refine ⟨h,by simp,fun a d b f=>?_⟩;rw [mem_singleton.mp f];exact fun e=>c (e ▸ d)
theorem JfS {ss:List Str} (z x:Str):x∈addS ss z↔x∈ss\/x=z:=by
 unfold addS;split
 ·rename_i c;constructor
  ·exact .inl
  ·rintro (h | rfl)
   ·exact h
   ·exact c
 ·simp
theorem JfR (ss:List Str) (z:Str):(addS ss z).length<=ss.length+1:=by
 unfold addS;split <;> simp
def JbN (ts:List TD) (out:List Str):Prop:=out.Nodup/\sortedS out=true/\∀ z,z∈out↔∃ t∈ts,z=t.st\/z=t.en
def leS (a b:Str):Prop:=a.cps.toList<=b.cps.toList
theorem JeZ:∀ (p:Str) (l:List Str),risingS p l=true->(p::l).Pairwise leS
 | p,[],_=>by simp
 | p,x::r,h=>by
  have h':(!ltCps x.cps.toList p.cps.toList&&risingS x r)=true:=h;rw [Bool.and_eq_true] at h';have ih:=JeZ x r h'.2;have h1:leS p x:=by
   have:=h'.1;rw [ltCps_eq] at this;exact List.not_lt.mp (by simpa using this)
  refine List.pairwise_cons.mpr ⟨fun b hb=>?_,ih⟩;rcases mem_cons.mp hb with rfl | hb
  ·exact h1
  ·exact List.le_trans h1 ((List.pairwise_cons.mp ih).1 b hb)
theorem Je5 (l:List Str) (h:sortedS l=true):l.Pairwise leS:=by
 cases l with
 | nil=>simp
 | cons p l=>exact JeZ p l h
theorem Jio {a b:Str} (h:leS a b) (g:leS b a):a=b:=by
 have e:=List.le_antisymm h g;cases a;cases b;simp only [Str.mk.injEq];exact Array.toList_inj.mp e
theorem JcJ {l l':List Str} (h:sortedS l=true) (h':sortedS l'=true) (hn:l.Nodup) (hn':l'.Nodup) (hm:∀ z,z∈l↔z∈l'):l=l' :=
 List.Perm.eq_of_pairwise (le:=leS) (fun _ _ _ _=>Jio) (Je5 l h) (Je5 l' h') ((List.perm_ext_iff_of_nodup hn hn').mpr hm)
def negF (a:Int × Int):Int × Int:=(-a.1,a.2)
def lessF (a c:Int × Int):Bool:=decide (a.1*c.2<c.1*a.2)
def okB (lo hi:Option (Int × Int)) (a:Int × Int):Bool :=
 (match lo with | none=>true | some l=>!lessF a l)&&(match hi with | none=>true | some h=>!lessF h a)
structure FB (A B:Nat) (a:Int × Int):Prop where
 s1:Mth.Sz A a.1
 s2:Mth.Sz B a.2
 b1:1<=a.2
 g1:Mth.g a.1 a.2=1
theorem FB.ok {A B n:Nat} {a:Int × Int} (h:FB A B a) (h1:A<=n) (h2:B<=n):FOk n a:=⟨h.s1.mono h1,h.s2.mono h2,h.b1,h.g1⟩
theorem FB.neg {A B:Nat} {a:Int × Int} (h:FB A B a):FB A B (negF a):=⟨by
 have:=h.s1;unfold Mth.Sz at this ⊢;unfold negF;rw [Int.natAbs_neg];exact this,h.s2,h.b1,by
 have:=h.g1;unfold Mth.g negF at *;simpa using this⟩
theorem FB.add {A B C D n m:Nat} {a c:Int × Int} (h:FB A B a) (k:FB C D c) (h1:A+D<=n) (h2:C+B<=n) (h3:B+D<=m):FB (n+1) m (addF a c):=by
 have b:a.2*c.2≠0:=Int.mul_ne_zero (by have:=h.b1;ac_nf) (by have:=k.b1;ac_nf);have d:=(h.s1.mul k.s2).mono h1;have e:=(k.s1.mul h.s2).mono h2;exact ⟨Mth.Sz.top b (d.add e),(Mth.Sz.bot b (h.s2.mul k.s2)).mono h3,Mth.JbO b,Mth.g_low b⟩
theorem FB.low {A B:Nat} {t b:Int} (hb:1<=b) (h1:Mth.Sz A t) (h2:Mth.Sz B b):FB A B (Mth.top t b,Mth.bot t b):=by
 have a:b≠0:=by ac_nf
 exact ⟨Mth.Sz.top a h1,Mth.Sz.bot a h2,Mth.JbO a,Mth.g_low a⟩
theorem JiP {x y:Int × Int} (hx:1<=x.2) (hy:1<=y.2):(y.1<=0->lessF x (addF x y)=false)/\(0<=y.1->lessF (addF x y) x=false):=by
 have e:x.2*y.2≠0:=Int.mul_ne_zero ∅ ∅;have a:=Mth.cross (t:=x.1*y.2+y.1*x.2) e;have f:=Mth.JbO (t:=x.1*y.2+y.1*x.2) e;unfold lessF addF;dsimp only;generalize Mth.bot (x.1*y.2+y.1*x.2) (x.2*y.2)=B at a f ⊢;generalize Mth.top (x.1*y.2+y.1*x.2) (x.2*y.2)=T' at a ⊢;have d:T'*x.2*y.2=x.1*B*y.2+y.1*x.2*B:=by
  have : T'*x.2*y.2=T'*(x.2*y.2):=by rw [Int.mul_assoc]
  rw [this,a,Int.add_mul];rw [Int.mul_right_comm x.1 y.2 B]
 constructor
 ·intro h;rw [decide_eq_false_iff_not];intro c;have b:=Int.mul_lt_mul_of_pos_right c (show 0<y.2 by ac_nf);rw [d] at b;have g:y.1*x.2*B<=0:=Int.mul_nonpos_of_nonpos_of_nonneg (Int.mul_nonpos_of_nonpos_of_nonneg h ∅) ∅;ac_nf
 ·intro h;rw [decide_eq_false_iff_not];intro c;have b:=Int.mul_lt_mul_of_pos_right c (show 0<y.2 by ac_nf);rw [d] at b;have g:0<=y.1*x.2*B:=Int.mul_nonneg (Int.mul_nonneg h ∅) ∅;ac_nf
def QV (K:W.Frag) (H:Hp) (p:Str × (Int × Int)) (x:V):Prop:=∃ b v,x=.ref b/\H b=some (.tup [.str p.1,v])/\FrV K H v p.2.1 p.2.2
theorem QV.sameT {K:W.Frag} {H H':Hp} {p:Str × (Int × Int)} {x:V} (S:SameT H H'):QV K H p x->QV K H' p x:=by rintro ⟨b,v,e,h,f⟩;exact ⟨b,v,e,S _ _ rfl h,f.sameT S⟩
theorem JjL {X:Cx} {K:W.Frag} {e:Expr} {ta:TE} {f:Str} {pos:Pos} (hK:X.K=K) (he:PE X e ta) (hb:attributeBase e f X.env (eval e X.env)=eval e X.env):PE X (.Attribute e f pos) (tFld K ta f):=by
 subst hK;exact Jax he hb
theorem Jhb:∀ (ls rs:List Str),eqL (ls.map D.str) (rs.map D.str)=decide (ls=rs)
 | [],[]=>rfl
 | [],_::_=>by simp [eqL]
 | _::_,[]=>by simp [eqL]
 | a::ls,b::rs=>by
  rw [map_cons,map_cons,eqL,Jhb ls rs];simp only [eqD,List.cons.injEq];by_cases c:a=b
  ·subst c;simp
  ·simp [c]
theorem Jel {K:W.Frag} {H:Hp}:∀ (ls:List Str),RepL K H (ls.map D.str) (ls.map V.str)
 | []=>by simp [RepL]
 | a::ls=>by
  simp only [map_cons,RepL,Rep];exact ⟨_,_,rfl,rfl,Jel ls⟩
theorem Jky {K:W.Frag} {H:Hp} {Q:VK} {p q:Addr} {ls rs:List Str} (hp:SqL K H p (ls.map V.str)) (hq:SqL K H q (rs.map V.str)) (k:Q (.bl (!decide (ls=rs))) H):rNeU K (.ref p) (.ref q) H Q:=by
 refine ⟨.lst (ls.map D.str), .lst (rs.map D.str),by simp only [Rep];exact ⟨p,_,rfl,hp,Jel ls⟩,by simp only [Rep];exact ⟨q,_,rfl,hq,Jel rs⟩,?_,rfl,?_⟩
 ·have : ∀ l:List Str,depL (l.map D.str)<=10:=JfX (n:=10) fun a=>by simp [depD]
  rw [depD];have:=this ls;ac_nf
 ·rw [eqD,Jhb];exact k
structure FW (A B:Nat) (a:Int × Int):Prop where
 s1:Mth.Sz A a.1
 s2:Mth.Sz B a.2
 b1:1<=a.2
theorem FB.w {A B:Nat} {a:Int × Int} (h:FB A B a):FW A B a:=⟨h.s1,h.s2,h.b1⟩
theorem FW.mono {A B C D:Nat} {a:Int × Int} (h:FW A B a) (h1:A<=C) (h2:B<=D):FW C D a:=⟨h.s1.mono h1,h.s2.mono h2,h.b1⟩
theorem FW.add {A B C D n m:Nat} {a c:Int × Int} (h:FW A B a) (k:FW C D c) (h1:A+D<=n) (h2:C+B<=n) (h3:B+D<=m):FB (n+1) m (addF a c):=by
 have b:a.2*c.2≠0:=Int.mul_ne_zero (by have:=h.b1;ac_nf) (by have:=k.b1;ac_nf);have d:=(h.s1.mul k.s2).mono h1;have e:=(k.s1.mul h.s2).mono h2;exact ⟨Mth.Sz.top b (d.add e),(Mth.Sz.bot b (h.s2.mul k.s2)).mono h3,Mth.JbO b,Mth.g_low b⟩
theorem Jgw {a b c:Int × Int} (ha:1<=a.2) (hb:1<=b.2) (hc:1<=c.2) (h1:lessF b a=false) (h2:lessF c b=false):lessF c a=false:=by
 unfold lessF at *;rw [decide_eq_false_iff_not,Int.not_lt] at *;have d:=Int.mul_le_mul_of_nonneg_right h1 (show 0<=c.2 by ac_nf);have e:=Int.mul_le_mul_of_nonneg_right h2 (show 0<=a.2 by ac_nf);have h:a.1*b.2*c.2=(a.1*c.2)*b.2:=by rw [Int.mul_right_comm]
 have f:c.1*b.2*a.2=(c.1*a.2)*b.2:=by rw [Int.mul_right_comm]
 have g:b.1*a.2*c.2=b.1*c.2*a.2:=by rw [Int.mul_right_comm]
 rw [h,g] at d;rw [f] at e;exact Int.le_of_mul_le_mul_right (Int.le_trans d e) (show 0<b.2 by ac_nf)
section
variable {X:Cx} {K:W.Frag} {o e:Expr} {es:List Expr} {to:TE} {t:TA} {name:Str} {apos cpos:Pos} {T id:String} {r:V->List V->Hp->VK->Prop}
end
section
variable {X:Cx}
def Jjd (td:TE):TE:=fun σ H Q=>td σ H fun x H1=>∃ d kvs,x=.ref d/\H1 d=some (.dK kvs)/\∀ l,H1 l=none->Q (.ref l) (upd H1 l (.lst (kvs.map (·.2))))
theorem Jj6 {kvs:List (Key × V)} {vs:List (Key × Value)} (r:KV kvs vs):Vals (kvs.map (·.2)) (vs.map (·.2)):=by
 unfold KV at r;induction r with
 | nil=>exact .nil
 | cons h _ ih=>exact .cons h.2 ih
theorem JjP {o:Expr} {td:TE} {p1 apos cpos pos:Pos} {x:Str} (hc:X.calm=true) (hx:x="list") (hg:Gl X x) (hm:X.mg x=none) (hv:bootBuiltins x=some (.type "list")) (ho:PE X o td)
  (hb:attributeBase o "values" X.env (eval o X.env)=eval o X.env:=by rfl) (hn:(apos.endLine == cpos.line)=true:=by rfl) :
  PE X (.Call (.Name x p1) [.Call (.Attribute o "values" apos) [] [] cpos] [] pos) (Jjd td):=by
 intro g s σ H Q I h;have G:x≠"__name__":=by rw [hx];decide
 have O:(x == ("__debug__" : Str))=false:=by rw [hx];decide
 refine wpAny_Call_Name_kw (Jcm I hg hm hv ?_ G O);refine PyProof.Rows.callWith_type1 ?_ rfl rfl;show wpAny _ _ (spliced ((false,eval (.Call (.Attribute o "values" apos) [] [] cpos) X.env)::backTo pos (starEach [] X.env))) _ _ s;refine Calls.spliced_cons ?_;refine wpAny_Call_method0_late hb hn (thn (ho g s σ H _ I h) fun v i ζ=>?_);obtain ⟨y,R,I1,N,d,kvs,B,e,t⟩:=ζ;subst B;obtain rfl:v=Value.ref d:=N;obtain ⟨n,A,K⟩:=Jkl I1 (.inl ⟨kvs, .inl e⟩);obtain ⟨D,_,l,f,q⟩:=dk_of I1.hok e;refine ⟨"dict","dict.values",PySem.F.plainAttrs_dict,PySem.F.slot_dict_values,PySem.F.type_dict_values,n,A,Calls.callWith_builtin rfl (PySem.evalArgs_none ?_)⟩;refine call_meetsIn PySem.F.slot_dict_values n PySem.F.entry_dict_values (PySem.F.args_dict_values_1 _) (meets_dict_values (JaU X.prog X.w) d K) ⟨⟨l,q⟩,?_⟩;refine Calls.spliced_nil ?_;obtain ⟨ep,P⟩:=q.dictAt;refine W.kdl_call (W.kdl_values (knd:=JaU X.prog X.w) (r:=i.heap.objs.size) (d:=d) (kvs:=l) (ep:=ep)) (I.ok.hd hc) ⟨⟨_,Heap.get?_push_size _ rfl,rfl,rfl⟩,P.push _⟩ (by have:=f.length;ac_nf) fun m C c L k u a=>?_;have E:c.toList=l.map (·.2):=W.kdl_vals_eq _ (by rw [Array.length_toList];exact a.1) fun j v M=>a.2 j v (by rw [<- Array.getElem?_toList];exact M);have J:∀ b o,i.heap.get? b=some o->m.get? b=some o:=fun b o z=>k b o (Heap.get?_push_of_some _ z);have p:i.heap.objs.size<=(i.heap.push { cls:=.type "dict_values",data:=.fields #[.ref d] }).objs.size:=by
  rw [Heap.size_push];exact Nat.le_succ _
 exact ⟨.ref _,_,I1.laid (t':=C) (o:=.lst (kvs.map (·.2))) J p (show ObjOk X.prog X.w _ m _ (.lst (kvs.map (·.2))) from ⟨by rw [length_map];exact D,l.map (·.2),L,Jj6 f,by rw [<- E,Array.toArray_toList];exact u⟩),rfl,t _ (I1.hok.fresh p)⟩
end
section
variable {prog:Program} {w:World} {A:Around} {E:Value->Shared->Prop} {s:Shared}
theorem Jic {I a:Addr} {ep:Nat} {t:SetTable} {Q:Option Value->Shared->Prop} (hh:A.handled=none) (hI:s.heap.get? I=some (itO (.int 0 0) 0 a 0 ep)) (ha:s.heap.get? a=some (setO #[] ep t)) (hf:t.fits 0=true)
  (q:∀ h',(∀ b o,b≠I->s.heap.get? b=some o->h'.get? b=some o)->Q none { s with heap:=h' }):wpAny (model prog w) A (pyNext (.ref I)) Q E s:=by
 have c:s.TypeIs (.ref I) "set_iterator":=⟨_,hI,rfl⟩;cases ht:w.params.followText "set-order" with
 | true=>exact Jd0 (es:=#[]) (i:=0) hh hI ha hf ht (by rw [<- Array.getElem?_toList];exact List.getElem?_eq_none (by rw [(Jb5 _ _).length_eq];simp)) q
 | false=>
  unfold pyNext;refine wpAny_bind (wpAny_attempt (wpAny_callSpecial?_slot (name:=Str.ofString "__next__") c JaT (wpAny_call_entry JaT c JbR ?_ (Jcq _))));unfold Builtin.«set_iterator.__next__»;refine wpAny_bind (m:=slotArgs _ _ _) (wpAny_pure ?_);refine wpAny_bind (wpAny_fieldsOf hI rfl ?_);show wpAny _ _ (setEntries a >>= _) _ _ _;refine wpAny_bind (wpAny_setEntries_of ha rfl hf ?_);rw [if_neg (by simp)];dsimp only;unfold setNext;refine wpAny_bind (wpAny_bind (wpAny_setState_of ha rfl hf ?_));dsimp only;refine wpAny_bind (JbP ?_);rw [if_neg (by rw [ht];decide)];refine wpAny_ite_split (fun z=>absurd (show (!t.plain&&decide ((#[]:Array (Int × Value)).size > 1))=true from z) (by simp)) (fun _=>?_);refine wpAny_bind ?_;show wpAny _ _ (if (!t.led&&!(#[]:Array (Int × Value)).isEmpty)=true then unsupported _ else pure ()) _ _ _;rw [if_neg (by simp)];refine wpAny_pure (wpAny_pure ?_);have f:∀ i:Nat,(#[]:Array (Int × Value))[i]?=none:=fun i=>by simp
  rw [f];dsimp only;refine wpAny_bind (wpAny_setField hI rfl (by simp) ?_);refine Jev hh fun h' k=>q h' fun b o d e=>k b o ?_;exact ((Heap.SameBut.update ..).extBut b o d e)
theorem Jhj {a:Addr} {ep:Nat} {t:SetTable} {Q:Value->Shared->Prop} (ha:s.heap.get? a=some (setO #[] ep t)) (hf:t.fits 0=true)
  (q1:Q (.ref s.heap.objs.size) { s with heap:=s.heap.push (itO (.int 0 0) 0 a 0 ep) }):wpAny (model prog w) A (pyIter (.ref a)) Q E s:=by
 have b:s.TypeIs (.ref a) "set":=⟨_,ha,rfl⟩;refine wpAny_pyIter_slot b PySem.F.slot_set_iter (wpAny_call_entry PySem.F.slot_set_iter b Jdd ?_ (PySem.F.args_set_iter_1 _));unfold Builtin.«frozenset.__iter__»;refine wpAny_bind (m:=Builtin.Frozenset.slot0 _ _) (wpAny_pure ?_);unfold Builtin.Frozenset.sizeOf;refine wpAny_bind (wpAny_bind (wpAny_setEntries_of ha rfl hf (wpAny_pure ?_)));unfold setDrawn;refine wpAny_bind (wpAny_bind (wpAny_setState_of ha rfl hf ?_));dsimp only;refine wpAny_bind (JbP ?_);refine wpAny_pure ?_;refine wpAny_ite_split (fun z=>absurd (show (!w.params.followText "set-order"&&(!t.plain&&decide ((#[]:Array (Int × Value)).size > 1)))=true from z) (by simp)) (fun _=>?_);refine wpAny_bind (wpAny_pure (wpAny_bind (wpAny_setEpoch_of ha rfl hf ?_)));unfold newFields;refine wpAny_bind (wpAny_newObj_type (wpAny_pure ⟨_,rfl,"set_iterator",_,⟨_,Heap.get?_push_size _ rfl,rfl⟩,JaT.lookup,?_⟩));exact q1
theorem Jim {a:Addr} {ep:Nat} {t:SetTable} (hf:t.fits 0=true):W.KdlSrc prog w "set" a a 0 (fun _ _=>False) (fun h=>h.get? a=some (setO #[] ep t)) where
 type:=fun _ c=>⟨_,c,rfl⟩
 there:=fun _ c=>⟨Heap.lt_size c,Heap.lt_size c⟩
 keep:=fun _ _ c k=>k a (.inl rfl) _ c
 notList:=by decide
 notTuple:=by decide
 hint:=fun _ _ _ _ c q=>Jc5 ⟨_,c,rfl⟩ q
 iter:=fun A s g c=>⟨itO (.int 0 0) 0 a 0 ep,fun _ h=>h.get? s.heap.objs.size=some (itO (.int 0 0) 0 a 0 ep)/\h.get? a=some (setO #[] ep t),fun _ _ q=>Jhj c hf q,
  {
   sub:=fun b e=>by simp at e;simp [e]
   frame:=fun _ _ _ d k=>⟨k _ (by simp) _ d.1,k _ (by simp) _ d.2⟩
   item:=fun i _ _ _ j _ _=>absurd j (Nat.not_lt_zero _)
   done:=fun l Q E d q=>Jic g d.1 d.2 hf fun f k=>q f l.toks fun b o e z=>k b o (fun h=>e (by simp [h])) z
   self:=fun _ _ _ _ d q=>Jd4 d.1 q },⟨Heap.get?_push_size _ rfl,Heap.get?_push_of_some _ c⟩⟩
theorem JfM {a:Addr} {ep:Nat} {t:SetTable} {Q:Value->Shared->Prop} (hh:A.handled=none) (ha:s.heap.get? a=some (setO #[] ep t)) (hf:t.fits 0=true)
  (q:∀ s' l (out:Array Value) ss' e,(∀ b o,s.heap.get? b=some o->s'.heap.get? b=some o)->s'.gens=s.gens->s'.os=s.os->s.toks<=s'.toks->s.heap.objs.size<=l->s'.heap.get? l=some (seqObj "list" out e)->StrsAre out.toList ss'->ss'.Perm []->sortedS ss'=true->Q (.ref l) s') :
  wpAny (model prog w) A (call (.builtin "sorted") [.ref a]) Q E s:=by
 have v:=Heap.lt_size ha;have D:A.in1.handled=none:=by simp [hh]
 refine Jck (ss:=[]) ⋯ (fun R k=>?_) q;obtain ⟨u,m⟩:∃ u:Result->Shared->Prop, ∀ r s',u r s'↔∃ f p d j,r=.ok (.ret (.ref s.heap.objs.size))/\s'={ s with heap:=f,toks:=p }/\(∀ b o,b≠s.heap.objs.size->(s.heap.push { cls:=.type "list",data:=.seq ([]:List Value).toArray }).get? b=some o->f.get? b=some o)/\f.get? s.heap.objs.size=some { cls:=.type "list",dict:=none,data:=.seq d j,slots:=#[] }/\ItemsOf (fun _ _=>False) d 0:=⟨_,fun _ _=>Iff.rfl⟩;have h:=codeAny_toks_of (n:=s.toks) (s:={ s with heap:=s.heap.push { cls:=.type "list",data:=.seq ([]:List Value).toArray } }) (Nat.le_refl _) (Jd3 (A:=A.in1) (R:=u)
  (W.kdl_extend (R:=u) (s:={ s with heap:=s.heap.push { cls:=.type "list",data:=.seq ([]:List Value).toArray } }) (Jim (prog:=prog) (w:=w) (a:=a) (ep:=ep) hf) D (Heap.get?_push_of_some _ ha) s.heap.objs.size (Nat.ne_of_gt v) (Nat.ne_of_gt v) (.ref s.heap.objs.size) 0 (Heap.get?_push_size _ rfl) (fun f p g j B z c=>(m _ _).mpr ⟨f,p,g,j,rfl,rfl,B,z,c⟩) (Nat.zero_le _)))
 refine codeAny_mono h ?_;rintro r s' ⟨x,C⟩;obtain ⟨f,p,d,j,rfl,rfl,y,i,c⟩:=(m _ _).mp C;have e:d.toList=[]:=eq_nil_of_length_eq_zero (by rw [Array.length_toList];exact c.1);exact k _ d.toList j [] (fun b o e=>y b o (Nat.ne_of_lt (Heap.lt_size e)) (Heap.get?_push_of_some _ e)) rfl rfl x (by rw [Array.toArray_toList];exact i) (by rw [e];exact .nil) (.refl _)
end
section
variable {X:Cx}
end
section
variable {X:Cx} {k k':Nat} {x mn:Str} {C:Addr} {Cs:Addr->Prop} {ps:List Str} {sp:Sp} {p pos apos:Pos} {e o:Expr} {es:List Expr} {t:TA} {ta:TE}
abbrev TX:=St->Hp->VK->XK->Prop
def xMeth (Cs:Addr->Prop) (m:Str) (sp:Sp) (ta:TE) (t:TA):TX:=fun σ H Q E=>ta σ H fun x H1=>∃ a C dx fs,x=.ref a/\H1 a=some (.ins C dx fs)/\Cs C/\fs.lookup m=none/\t σ H1 fun vs H2=>sp (x::vs) H2 Q E
end
section
variable {X:Cx}
end
section
variable {σ : St} {H:Hp} {Q:VK} {E:XK} {ta td ty:TE} {ts:TA} {tc:TT} {t u:TX} {C:Addr} {sp:Sp} {Cs:Addr->Prop} {m:Str}
theorem ya1y:xMeth Cs m sp ta ts σ H Q E=ta σ H fun x H1=>∃ a C dx fs,x=.ref a/\H1 a=some (.ins C dx fs)/\Cs C/\fs.lookup m=none/\ts σ H1 fun vs H2=>sp (x::vs) H2 Q E:=rfl
theorem y9cy:Jjd td σ H Q=td σ H fun x H1=>∃ d kvs,x=.ref d/\H1 d=some (.dK kvs)/\∀ l,H1 l=none->Q (.ref l) (upd H1 l (.lst (kvs.map (·.2)))):=rfl
theorem y41y:tDIn ty td σ H Q=ty σ H fun y H1=>td σ H1 fun x H2=>∃ a o,x=.ref a/\DGet H2 a y o/\Q (.bl o.isSome) H2:=rfl
theorem y45y:JhZ ty td σ H Q=ty σ H fun y H1=>td σ H1 fun x H2=>∃ a o,x=.ref a/\DGet H2 a y o/\Q (.bl (!o.isSome)) H2:=rfl
end
section
variable {α κ : Type} [DecidableEq κ] {f : α->κ} {k : κ} {u y : α}
end
section
variable {α : Type} {P : α->V->Prop}
end
abbrev nms (ts:List TD):List Str:=ts.map (·.nm)
def putT (ts:List TD) (t:TD):List TD:=if t.nm∈nms ts then ts.map (fun u=>if u.nm=t.nm then t else u) else ts++[t]
def BD (P:TD->V->Prop) (ts:List TD) (kvs:List (Key × V)):Prop:=kvs.map (·.1)=ts.map (fun t=>Sum.inr t.nm)/\All2 P ts (kvs.map (·.2))
section
variable {P P':TD->V->Prop} {ts:List TD} {kvs:List (Key × V)} {t:TD} {v:V}
theorem BD.mono (h:BD P ts kvs) (m:∀ a x,P a x->P' a x):BD P' ts kvs:=⟨h.1,h.2.mono m⟩
theorem BD.length (h:BD P ts kvs):kvs.length=ts.length:=by simpa using congrArg List.length h.1
theorem BD.cons:BD P (t::ts) kvs↔∃ w r,kvs=(Sum.inr t.nm,w)::r/\P t w/\BD P ts r:=by
 constructor
 ·rintro ⟨a,b⟩;match kvs,a,b with
  | (k,w)::r,a,b=>
   rw [map_cons,map_cons,List.cons.injEq] at a;obtain ⟨y,d,e,p,b⟩:=b;rw [map_cons,List.cons.injEq] at e;obtain ⟨rfl,rfl⟩:=e;obtain ⟨c,a⟩:=a;have c:k=Sum.inr t.nm:=c;subst c;exact ⟨_,r,rfl,p,a,b⟩
 ·rintro ⟨w,r,rfl,p,h⟩;exact ⟨by rw [map_cons,map_cons,h.1],w,r.map (·.2),rfl,p,h.2⟩
theorem BD.nil:BD P [] kvs↔kvs=[]:=by
 constructor
 ·rintro ⟨h,_⟩;simpa using h
 ·rintro rfl;exact ⟨rfl,rfl⟩
theorem BD.any:∀ {ts:List TD} {kvs:List (Key × V)} {z:Str},BD P ts kvs->(kvs.any fun kv=>decide (kv.1=Sum.inr z))=decide (z∈nms ts)
 | [],kvs,z,h=>by rw [BD.nil.mp h];simp
 | t::ts,kvs,z,h=>by
  obtain ⟨w,r,rfl,_,h⟩:=BD.cons.mp h;rw [any_cons,BD.any h];by_cases c:t.nm=z
  ·subst c;simp
  ·have c1:(Sum.inr t.nm:Key)≠Sum.inr z:=fun e=>c (by injection e);have c2:z≠t.nm:=fun e=>c e.symm;simp [c1,c2]
theorem BD.val:∀ {ts:List TD} {kvs:List (Key × V)} {z:Str},BD P ts kvs->(valV kvs (Sum.inr z)).isSome=decide (z∈nms ts)
 | [],kvs,z,h=>by rw [BD.nil.mp h];rfl
 | t::ts,kvs,z,h=>by
  obtain ⟨w,r,rfl,_,h⟩:=BD.cons.mp h;by_cases c:t.nm=z
  ·subst c;rw [JcM rfl];simp
  ·have c1:(Sum.inr t.nm:Key)≠Sum.inr z:=fun e=>c (by injection e);have c2:z≠t.nm:=fun e=>c e.symm;have e:valV ((Sum.inr t.nm,w)::r) (Sum.inr z)=valV r (Sum.inr z):=by simp [valV,List.find?_cons,c1]
   rw [e,BD.val h];simp [c2]
theorem BD.rep:∀ {ts:List TD} {kvs:List (Key × V)},BD P ts kvs->P t v->BD P (ts.map fun u=>if u.nm=t.nm then t else u) (kvs.map fun kv=>if kv.1=Sum.inr t.nm then (kv.1,v) else kv)
 | [],kvs,h,_=>by rw [BD.nil.mp h];exact ⟨rfl,rfl⟩
 | s::ts,kvs,h,p=>by
  obtain ⟨w,r,rfl,q,h⟩:=BD.cons.mp h;by_cases c:s.nm=t.nm
  ·rw [map_cons,map_cons,if_pos c,if_pos (by rw [c]),c];exact BD.cons.mpr ⟨v,_,rfl,p,BD.rep h p⟩
  ·have c1:(Sum.inr s.nm:Key)≠Sum.inr t.nm:=fun e=>c (by injection e);rw [map_cons,map_cons,if_neg c,if_neg c1];exact BD.cons.mpr ⟨w,_,rfl,q,BD.rep h p⟩
theorem BD.app (h:BD P ts kvs) (p:P t v):BD P (ts++[t]) (kvs++[(Sum.inr t.nm,v)]):=⟨by rw [map_append,map_append,h.1];rfl,by rw [map_append];exact h.2.append (.one p)⟩
theorem BD.put (h:BD P ts kvs) (p:P t v):BD P (putT ts t) (putK kvs (Sum.inr t.nm) v):=by
 unfold putT putK;rw [h.any];by_cases c:t.nm∈nms ts
 ·rw [if_pos c,if_pos (by simpa using c)];exact h.rep p
 ·rw [if_neg c,if_neg (by simpa using c)];exact h.app p
end
theorem sub_len {α : Type} [DecidableEq α]:∀ (l m:List α),l.Nodup->l ⊆ m->l.length<=m.length
 | [],m,_,_=>by simp
 | a::l,m,hn,hs=>by
  rw [nodup_cons] at hn;have ha:a∈m:=hs (by simp);have:=sub_len l (m.erase a) hn.2 fun x hx=>(List.mem_erase_of_ne (show x≠a from fun e=>hn.1 (e ▸ hx))).mpr (hs (by simp [hx]));rw [List.length_erase_of_mem ha] at this;have:=List.length_pos_of_mem ha;rw [length_cons];ac_nf
abbrev BMV:List Value:=[.type "ValueError", .type "Exception", .type "BaseException", .type "object"]
structure ExcI (K:W.Frag) (C S f:Addr):Prop where
 up:W.excIn K S BMV "ValueError.__new__"=true
 at_:∃ nm q N bs sn sub ab col dd k0 k1 k2 k3 k5,K.lookup C=some (excClassObj nm q C N bs (.ref S::BMV) true sn sub ab col dd k0 k1 k2 k3 k5 "ValueError.__new__")
 init:W.findIn K (.ref C) "__init__"=some (some (.ref f))
 fn:W.isFn K (.ref f)=true
 kp:W.keepIn K (.ref C)=true
def ExcN (e C:Addr) (od:Option Addr):HO:=.ext fun h=>∃ t:Addr,h.get? e=some { cls:=.ref C,dict:=od,data:=.fields #[.ref t, .none, .none, .none, .bool false, .none] }
section
variable {prog:Program} {w:World} {A:Around} {E:Value->Shared->Prop} {h:Heap} {g:Array GenState} {d:Drawn} {t:Nat} {os:OsState}
variable {nm q:Str} {C N:Addr} {bs bm bmB:List Value} {hdct:Bool} {sn:List Str} {sub:List Value} {ab:Bool} {col:Option Bool} {dd:Option Addr} {k0 k1 k2 k3 k5:Option Value} {B newId initId:String} {K:W.Frag}
theorem JgL (F:ExcBaseFacts B newId initId bmB) (T:OwnTail h bmB bm) {rest:List Value} {fI:Addr} {Q:Fin->Shared->Prop} (X:K.In h)
  (hC:h.get? C=some (excClassObj nm q C N bs bm hdct sn sub ab col dd k0 k1 k2 k3 k5 newId)) (hi:W.findIn K (.ref C) "__init__"=some (some (.ref fI)))
  (hfI:W.isFn K (.ref fI)=true)
  (hq:∀ h' e,Heap.MadeExcOf h h' e (.ref C) rest->h.objs.size<=e ->
   wpAny (model prog w) A (call (.ref fI) (.ref e::rest)) (fun r s'=>r=.none/\Q (.done (.ret (.ref e))) s') E ⟨h',g,d,t,os⟩) (hrest:rest.length<=sizeLine:=by size_fits) :
  wpAny (model prog w) A (Builtin.«type.__call__» ⟨.ref C::rest,[]⟩) Q E ⟨h,g,d,t,os⟩:=by
 repeat (first | with_reducible refine wpAny_loadPart_at hC ?_ | with_reducible refine wpAny_madeBy_exc hC ?_ | wp_step)
 refine codeAny_call_builtin_code (Code.quiet_builtin _ F.quiet) (wpAny_check_new_subT F T hC ?_);refine codeAny_exc_new_subT F T hC ?_ hrest;show wpAny _ _ _ _ _ _;have f:∀ b o,h.get? b=some o->((h.push { cls:=.type "tuple",data:=.seq rest.toArray }).push { cls:=.ref C,data:=.fields #[.ref h.objs.size, .none, .none, .none, .bool false, .none] }).get? b=some o:=fun b o e=>Heap.get?_push_of_some _ (Heap.get?_push_of_some _ e);have hC₁:=f _ _ hC;have X₁:=X.keeps f;have a:((h.push { cls:=.type "tuple",data:=.seq rest.toArray }).push
   { cls:=.ref C,data:=.fields #[.ref h.objs.size, .none, .none, .none, .bool false, .none] }).get? (h.objs.size+1)=some
   { cls:=.ref C,data:=.fields #[.ref h.objs.size, .none, .none, .none, .bool false, .none] }:=by heap_get
 have c:(Value.ref C::bm).contains (.ref C)=true:=by simp
 unfold isInstance;repeat (first | with_reducible refine wpAny_loadPart_at a ?_ | (with_reducible refine wpAny_isSubtype_exc hC₁ ?_;rw [c]) | wp_step)
 show wpAny _ _ (typeLookup (.ref C) _) _ _ _;refine (W.looks_findIn X₁ hi).at ?_;refine wpAny_holding (wpAny_bind ((W.bind_fn X₁ _ (beq_iff_eq.mp hfI)).at ?_));refine wpAny_bind (wpAny_mono (hq _ (h.objs.size+1) ⟨f,Heap.get?_none_of_le (Nat.le_succ _),h.objs.size,a,Heap.get?_none_of_le (Nat.le_refl _),?_⟩ (Nat.le_succ _)) (fun r s' j=>?_) fun _ _ x=>x)
 ·exact Heap.get?_push_of_some _ (Heap.get?_push_at rfl rfl)
 ·obtain ⟨rfl,i⟩:=j
  wp_walk
  exact i
theorem JgT (F:ExcBaseFacts B newId initId bmB) (T:OwnTail h bmB bm) {rest:List Value} {fI:Addr} {Q:Value->Shared->Prop} (X:K.In h)
  (hC:h.get? C=some (excClassObj nm q C N bs bm hdct sn sub ab col dd k0 k1 k2 k3 k5 newId)) (hi:W.findIn K (.ref C) "__init__"=some (some (.ref fI)))
  (hfI:W.isFn K (.ref fI)=true)
  (hq:∀ h' e,Heap.MadeExcOf h h' e (.ref C) rest->h.objs.size<=e ->
   wpAny (model prog w) (A.under (.builtin "type.__call__" ⟨.ref C::rest,[]⟩)) (call (.ref fI) (.ref e::rest)) (fun r s'=>r=.none/\Q (.ref e) s') E ⟨h',g,d,t,os⟩) (hrest:rest.length<=sizeLine:=by size_fits) :
  wpAny (model prog w) A (call (.ref C) rest) Q E ⟨h,g,d,t,os⟩:=by
 have i:=tc_lookup;have f:=tc_bind (.ref C);have c:(⟨h,g,d,t,os⟩:Shared).TypeIs (.ref C) "type":=⟨_,hC,rfl⟩;refine wpAny_call (codeAny_of_tree ?_);show wpAny _ _ (callAny (.ref C) _) _ _ _;repeat (any_goals (first | assumption | with_reducible refine wpAny_loadPart_at hC ?_ | wp_step))
 refine ⟨rfl,?_⟩;refine codeAny_call_builtin_at (Code.quiet_builtin _ (by decide +kernel)) entry_typeCall (wpAny_check_type_call_sub hC (JgL (hrest:=hrest) F T X hC hi hfI fun h' e a b=>?_));exact hq h' e a b
end
section
variable {X:Cx} {k:Nat} {f C S:Addr} {fd:FuncData} {ps:List Str} {sp:Sp} {E:XK} {x m:Str} {p pos apos:Pos} {e o:Expr} {es:List Expr} {ta:TE} {t:TA}
theorem Jfl {P:Program} {w:World} {H:Hp} {h:Heap} {e C:Addr} {od:Option Addr} (z:∃ t:Addr,h.get? e=some { cls:=.ref C,dict:=od,data:=.fields #[.ref t, .none, .none, .none, .bool false, .none] }):ObjOk P w H h e (ExcN e C od) :=
 ⟨z,let ⟨_,e⟩:=z;⟨_,e⟩,fun _ _ ⟨t,e⟩ k=>⟨t,k _ e⟩⟩
theorem ExcI.cls {K:W.Frag} {h:Heap} (M:ExcI K C S f) (Xi:K.In h):∃ nm q N bs sn sub ab col dd k0 k1 k2 k3 k5,h.get? C=some (excClassObj nm q C N bs (.ref S::BMV) true sn sub ab col dd k0 k1 k2 k3 k5 "ValueError.__new__")/\OwnTail h BMV (.ref S::BMV):=by
 obtain ⟨nm,q,N,bs,sn,sub,ab,col,dd,k0,k1,k2,k3,k5,z⟩:=M.at_;obtain ⟨_,_,_,_,_,_,_,_,_,_,_,_,_,_,_,_,_,b,c,a,_⟩:=Jhc Xi M.up;exact ⟨nm,q,N,bs,sn,sub,ab,col,dd,k0,k1,k2,k3,k5,Xi _ _ z, .own b c a .base⟩
theorem JhT {pins:List (Addr × Obj)} {σ : St} {H:Hp} {s:Shared} {Q:VK} {us:List Value} {vs:List V} (M:ExcI X.K C S f) (F:FnOk X.prog X.w X.K X.mg X.base (CX1 X.prog X.w) k f fd ps sp) (hr:Room (k+1) X.A) (hb:Binds X.K fd ps [])
  (hx:JbI (CX1 X.prog X.w) X E) (I:Inv X pins σ H s) (r:Vals vs us) (hz:vs.length<=sizeLine)
  (h:∀ x,H x=none->sp (.ref x::vs) (upd H x (ExcN x C none)) (fun v H2=>v=.non/\Q (.ref x) H2) E) :
  wpAny (model X.prog X.w) X.A (call (.ref C) us) (EP X pins σ Q) X.xe s:=by
 obtain ⟨nm,q,N,bs,sn,G,ab,J,Z,k0,k1,W,Y,k5,D,T⟩:=M.cls I.kIn;obtain ⟨U,g,d,j,n⟩:=s;refine JgT PySem.F.excBase_ValueError T I.kIn D M.init M.fn (fun l b i P=>?_) (by rw [<- r.length];exact hz);have o:=h b (I.hok.isnone i.new);obtain ⟨t,y,_,_⟩:=i.there;have I2:Inv X pins σ (upd H b (ExcN b C none)) ⟨l,g,d,j,n⟩:=I.laid (t':=j) i.keeps P (Jfl ⟨t,y⟩);have m:Vals (V.ref b::vs) (Value.ref b::us):=.cons rfl r;have R:(Value.ref b::us++[]).length=ps.length:=by
  have e:=m.length;rw [F.len _ _ _ _ o] at e;simpa using e.symm
 have c:=hb ⟨l,g,d,j,n⟩ (Value.ref b::us) I2.kIn R;rw [append_nil] at c;refine wpAny_call (codeAny_mono (F.run _ X.stack _ _ ⟨Value.ref b::us,[]⟩ (Value.ref b::us) _ _ E (hr.make C us []) (I2.env0.make C us []) c m o) fun r O a=>?_);cases r with
 | error e=>exact hx pins σ _ _ e O I2 a
 | ok fl=>
  cases fl with
  | ret u=>
   obtain ⟨v,B,I3,p,z,L⟩:=I2.after a;subst z;exact ⟨p,⟨V.ref b,B,I3,rfl,L⟩⟩
  | next=>exact False.elim a
  | brk=>exact False.elim a
  | cont=>exact False.elim a
def Jh0 (C:Addr) (sp:Sp) (E:XK) (t:TA):TE:=fun σ H Q=>t σ H fun vs H1=>vs.length<=sizeLine/\∀ x,H1 x=none->sp (.ref x::vs) (upd H1 x (ExcN x C none)) (fun v H2=>v=.non/\Q (.ref x) H2) E
theorem Jix (M:ExcI X.K C S f) (F:FnOk X.prog X.w X.K X.mg X.base (CX1 X.prog X.w) k f fd ps sp) (hr:Room (k+1) X.A) (hg:Gl X x) (hm:X.mg x=some (.ref C)) (hb:Binds X.K fd ps []) (hx:JbI (CX1 X.prog X.w) X E)
  (ha:PA X (e::es) t) (hdb:(x == ("__debug__" : Str))=false:=by decide) (he:starEach (e::es) X.env=(false,eval e X.env)::starEach es X.env:=by rfl) (hpl:(backTo pos (starEach es X.env)).any (·.1)=false:=by rfl) :
  PE X (.Call (.Name x p) (e::es) [] pos) (Jh0 C sp E t):=by
 intro a s σ H Q I h;refine wpAny_Call_Name_kw (Jcr I hg hm ?_ hdb);refine W.callWith_K (h₀:=X.base) I.ok.mod.kin M.kp (thn (ha pos a s σ H _ I h) fun g b ⟨d,c,I1,r,q⟩=>⟨I1.kIn,?_⟩) he hpl;exact JhT M F hr hb hx I1 r q.1 q.2
end
section
variable {P:Program} {w:World} {K:W.Frag} {mg:Str->Option Value} {base:Heap} {N:List Str} {qual:Str} {scope:Scope} {f:Addr} {cdv:Value} {A:Around} {outer:List Env} {s0:Shared} {H0:Hp} {E:XK}
def Jh2 (K:W.Frag) (H0:Hp) (E:XK) (te:TE):TS:=fun _ σ H=>te σ H fun v H1=>∃ e C S f od,v=.ref e/\H1 e=some (ExcN e C od)/\ExcI K C S f/\H0 e=none/\E (.ref C) od (unt H1 e)
theorem JhO {x:Expr} {pos:Pos} {te:TE} (hx:PE (cxOf (CX1 P w) P w K mg base N qual scope f cdv A outer s0 H0 E) x te) :
  PS (cxOf (CX1 P w) P w K mg base N qual scope f cdv A outer s0 H0 E) (.Raise (some x) none pos) (Jh2 K H0 E te):=by
 intro a s σ H D I h;have m:(A.deeper (envOfC qual scope s0.heap.objs.size f cdv)).handled=none:=I.ok.hd rfl;rw [arm_exec_Raise];refine wpAny_bind (wpAny_standAt ?_);show wpAny _ _ (raiseStmt _ (some (do let v <- eval x _;standAt pos;pure v)) none) _ _ _;unfold raiseStmt;refine wpAny_bind (wpAny_bind (thn (hx a s σ H _ I h) fun u F ⟨v,Y,I1,n,e,C,S,U,od,p,c,M,y,q⟩=>wpAny_bind (wpAny_standAt (wpAny_pure ?_))));subst p;obtain rfl:u=Value.ref e:=n;obtain ⟨J,O,N',bs,sn,r,Z,B,W,k0,k1,G,L,k5,k,T⟩:=M.cls I1.kIn;obtain ⟨t,l⟩:=(I1.hok e _ c).1;obtain ⟨V,g,d,Q,R⟩:=F;have i:(Value.ref C::(.ref S::BMV)).contains (.type "BaseException")=true:=by rw [List.contains_cons,T.hasType (X:="BaseException") (b:=true) ⋯,Bool.or_true]
 repeat (first | with_reducible refine wpAny_loadPart_at l ?_ | with_reducible refine wpAny_loadPart_at k ?_ | (with_reducible refine wpAny_isSubtype_exc k ?_;rw [i]) | wp_step)
 refine wpAny_raiseNew_none m ?_;refine Jkv I1 c l rfl rfl rfl ?_ q;cases z:s0.heap.get? e with
 | none=>rfl
 | some o=>
  have j:=I1.base.free e o z y (by intro z;cases z);rw [c] at j;cases j
end
structure SlkI (K:W.Frag) (S:Addr):Prop where
 ga:W.specialIn K (.ref S) "__getattribute__"=some (some (.builtin "type.__getattribute__"))
 rd:W.readsIn K S (.type "type")=true
 fi:W.findCls K (.ref S) (.type "type") "__init__"=some (.val (.builtin "ValueError.__init__"))
section
variable {X:Cx} {f C S:Addr} {x:Str} {p pos apos:Pos} {e:Expr} {es:List Expr} {t:TA}
theorem Jj7 {prog:Program} {w:World} {A:Around} {E:Value->Shared->Prop} {K:W.Frag} {h:Heap} {g:Array GenState} {d:Drawn} {t:Nat} {os:OsState} {Q:Value->Shared->Prop} {ex a0:Addr} {od:Option Addr} {rest:List Value}
  (M:ExcI K C S f) (Xi:K.In h) (he:h.get? ex=some { cls:=.ref C,dict:=od,data:=.fields #[.ref a0, .none, .none, .none, .bool false, .none] }) (hr:rest.length<=sizeLine)
  (hq:∀ h' t',(∃ a1:Addr,h'.get? ex=some { cls:=.ref C,dict:=od,data:=.fields #[.ref a1, .none, .none, .none, .bool false, .none] })->(∀ b u,b≠ex->h.get? b=some u->h'.get? b=some u)->Q .none ⟨h',g,d,t',os⟩) :
  wpAny (model prog w) A (call (.builtin "ValueError.__init__") (.ref ex::rest)) Q E ⟨h,g,d,t,os⟩:=by
 have F:=PySem.F.excBase_ValueError;obtain ⟨y,q,N,v,p,e,o,j,n,s,r,l,m,x,c,T⟩:=M.cls Xi;refine wpAny_call (codeAny_call_builtin F.init.plain F.initEntry (wpAny_check_init_subT F T c he rfl ?_));have a:=Heap.get?_push_of_some (h:=h) { cls:=.type "tuple",data:=.seq rest.toArray } he
 wp_walk
 refine hq _ _ ⟨h.objs.size,?_⟩ fun b u i k=>?_
 ·rw [Heap.get?_update_self _ a rfl];rfl
 ·rw [Heap.get?_update_other _ _ (Ne.symm i)];exact Heap.get?_push_of_some _ k
def Ji9 (K:W.Frag) (t:TA):TE:=fun σ H Q=>t σ H fun vs H2=>∃ e rest C S f od,vs=.ref e::rest/\rest.length<=sizeLine/\H2 e=some (ExcN e C od)/\ExcI K C S f/\Q .non (upd H2 e (ExcN e C od))
theorem Jiv {pl:Sem Bool} (G:SlkI X.K S) (hg:Gl X x) (hm:X.mg x=some (.ref S)) (ha:PA X (e::es) t) (hdb:(x == ("__debug__" : Str))=false:=by decide)
  (hst:starEach (e::es) X.env=(false,eval e X.env)::starEach es X.env:=by rfl) (hpl:(backTo pos (starEach es X.env)).any (·.1)=false:=by rfl)
  (ht:eval (.Call (.Attribute (.Name x p) "__init__" apos) (e::es) [] pos) X.env=(do
   let ov <- eval (.Name x p) X.env
   standAt apos.atName
   let (f,first) <- holding [ov] (getMethod ov "__init__" pl)
   callWith pos f first (backTo pos (starEach (e::es) X.env)) (backToKw pos (keywordEach [] X.env))):=by rfl) :
  PE X (.Call (.Attribute (.Name x p) "__init__" apos) (e::es) [] pos) (Ji9 X.K t):=by
 intro a s σ H Q I h;refine W.methodCall_KW (pl:=pl) (Jcr I hg hm ?_ hdb) ht;refine W.method_cls I.kIn G.ga (W.cls_value I.kIn G.rd G.fi (by decide +kernel) ?_);refine PyProof.Rows.callWith_builtin1 (thn (ha pos a _ σ H _ (I.tok _) h) fun w m ζ=>?_) hst hpl;obtain ⟨B,E,I2,r,b,rest,C,y,f,D,l,j,c,M,i⟩:=ζ;subst l;cases r with
 | @cons _ u _ us' ru rr=>
 obtain rfl:u=Value.ref b:=ru;obtain ⟨A,hg⟩:=(I2.hok b _ c).1;obtain ⟨v,g,d,o,q⟩:=m;refine Jj7 M I2.kIn hg (by rw [<- rr.length];exact j) fun n t' z k=>?_;exact ⟨V.non,_,I2.write (t':=t') (e:=b) (by rw [c];exact trivial) (.inl rfl) k (let ⟨_,z⟩:=z;⟨_,z⟩) (Jfl z),rfl,i⟩
end
section
open PySem.W PySem.Builtin PySem.Builtin.ObjectAttr
variable {prog:Program} {w:World} {A:Around} {E:Value->Shared->Prop} {K:W.Frag} {h:Heap} {g:Array GenState} {d:Drawn} {t:Nat} {os:OsState} {x C S f a0:Addr} {name:Str} {v:Value}
theorem JiN {M:Model} {nameV:Value} {ox:Obj} {Q:Unit->Shared->Prop} (Mx:ExcI K C S f) (X:K.In h) (hx:h.get? x=some ox) (hc:ox.cls=.ref C) (hq:Q () ⟨h,g,d,t,os⟩) :
  wpAny M A (checkBuiltinCall "object.__setattr__" ⟨[.ref x,nameV,v],[]⟩) Q E ⟨h,g,d,t,os⟩:=by
 have c:=PySem.F.store_ValueError;obtain ⟨y,q,N,u,p,i,o,j,n,s,r,l,m,w,e,T⟩:=Mx.cls X;have a:(Value.ref C::.ref S::BMV).contains (.type "object")=true:=by rw [List.contains_cons,T.hasType (X:="object") (b:=true) ⋯,Bool.or_true]
 have k:=c.args (.ref x) nameV v;simp only [checkBuiltinCall,c.kind,c.split];refine wpAny_bind ?_
 ·unfold isInstance;repeat (first | (with_reducible refine wpAny_loadPart_at hx ?_;rw [hc]) | (with_reducible refine wpAny_isSubtype_exc e ?_;rw [a]) | wp_step)
  exact hq
theorem JiO {Q:Unit->Shared->Prop} (M:ExcI K C S f) (X:K.In h) (sa:findIn K (.ref C) "__setattr__"=some (some (.builtin "object.__setattr__"))) (na:findIn K (.ref C) name=some none)
  (hx:h.get? x=some { cls:=.ref C,dict:=none,data:=.fields #[.ref a0, .none, .none, .none, .bool false, .none] })
  (hq:∀ h' t' dx,h.objs.size<=dx->h'.get? x=some { cls:=.ref C,dict:=some dx,data:=.fields #[.ref a0, .none, .none, .none, .bool false, .none] }->h'.Ns1 dx (fun y=>if y=name then some v else none) ->
   (∀ b u,b≠x->h.get? b=some u->h'.get? b=some u)->Q () ⟨h',g,d,t',os⟩):wpAny (model prog w) A (setAttr (.ref x) name v) Q E ⟨h,g,d,t,os⟩:=by
 have m:=PySem.F.store_ValueError;obtain ⟨nm,q,N,bs,sn,W,ab,Y,dd,k0,k1,Z,k3,k5,J,T⟩:=M.cls X;have f3:=m.slot.bind (.ref x);have L1:=looks_findIn (M:=model prog w) X sa;have L2:=looks_findIn (M:=model prog w) X na;unfold setAttr callSpecial? specialOf;repeat (any_goals (first | assumption | (with_reducible refine wpAny_loadPart_at hx ?_) | lk | wp_step))
 refine wpAny_run (codeAny_call_builtin m.slot.plain m.entry (JiN M X hx rfl ?_));have I:Looks (model prog w) h (typeOf (.ref x)) (.ref C):=(Looks.ld hx).andThen .now;show wpAny _ _ (Builtin.«object.__setattr__» ⟨[.ref x, .str name t,v],[]⟩) _ _ _;rw [osa_eq,refuse_eq];refine wpAny_bind (wpAny_bind (I.at (wpAny_bind (wpAny_mroOf_exc J ?_))));rw [refuseLoop_ref,refuseLoop_ref,m.passes];refine wpAny_pure (wpAny_bind (I.at (wpAny_bind (L2.at (wpAny_bind (wpAny_pure (a:=none) ?_))))));show wpAny _ _ (storeInOwnDict (.ref x) (.ref C) (.str name t) name v false) _ _ _;obtain ⟨o,j⟩:∃ o:Obj,o={ cls:=.ref C,dict:=none,data:=.fields #[.ref a0, .none, .none, .none, .bool false, .none] }:=⟨_,rfl⟩;have U:o.cls=.ref C:=by rw [j]
 have s:o.dict=none:=by rw [j]
 have H:∀ c,o.data≠.cls c:=fun c=>by rw [j];intro z;cases z
 rw [<- j] at hx;repeat (first | (with_reducible refine wpAny_loadPart_at hx ?_;rw [U]) | with_reducible refine wpAny_loadPart_at J ?_ | wp_step)
 rw [s,if_neg (by simp [typeHasDict])];split
 ·rename_i i;cases i
 split
 ·rename_i c i;exact absurd i (H c)
 ·have hx₁ : (h.push { cls:=.type "dict",data:=.dict #[] }).get? x=some o:=Heap.get?_push_of_some _ hx;have k:x≠h.objs.size:=Nat.ne_of_lt (Heap.lt_size hx);refine wpAny_bind (wpAny_alloc' ?_);refine wpAny_bind (wpAny_update' hx₁ ?_);refine wpAny_pure ?_;have r:((h.push { cls:=.type "dict",data:=.dict #[] }).update x fun o=>{ cls:=o.cls,dict:=some h.objs.size,data:=o.data,slots:=o.slots }).get? h.objs.size
    = some { cls:=.type "dict",data:=.dict #[] } :=
   (Heap.get?_update_ne _ _ _ _ k.symm).trans (Heap.get?_push_at rfl rfl)
  have D:((h.push { cls:=.type "dict",data:=.dict #[] }).update x fun o=>{ cls:=o.cls,dict:=some h.objs.size,data:=o.data,slots:=o.slots }).Ns h.objs.size (fun _=>none) :=
   ⟨_, #[],_,r,rfl,fun e V=>absurd V (by simp),fun _=>rfl⟩
  show wpAny _ _ (storeInDict h.objs.size (.str name t) name v) _ _ _;unfold storeInDict newKeyGuard;refine wpAny_bind (wpAny_pure (wpAny_bind (wpAny_nsSet1 (Heap.Ns1.of_empty D) fun h' l O=>?_)));obtain ⟨oD,P,R,B,G,n⟩:=l.count (Within.cons name v Within.nil);refine wpAny_bind (wpAny_lookBehind B (by rw [G];exact pastItsLine_dict (Nat.le_trans n (by rw [length_cons,length_nil,sizeLine_eq];ac_nf))) ?_)
  wp_walk
  refine hq h' _ h.objs.size (Nat.le_refl _) ?_ l fun b ob p L=>?_
  ·refine (O.2 x k).trans ((Heap.get?_update_self _ hx₁ ?_).trans (by rw [j]));rw [j];rfl
  ·exact (O.2 b (Nat.ne_of_lt (Heap.lt_size L))).trans ((Heap.get?_update_ne _ _ _ _ p).trans (Heap.get?_push_of_some _ L))
structure ExcL (K:W.Frag) (D:Addr) (name:Str):Prop where
 hd:W.hasDictIn K D=true
 ga:W.findIn K (.ref D) "__getattribute__"=some (some (.builtin "BaseException.__getattribute__"))
 gh:W.findIn K (.ref D) "__getattr__"=some none
 na:W.findIn K (.ref D) name=some none
 mb:W.mroIn K D (.type "BaseException")=some true
theorem Jj8 {s:Shared} {expr:Bool} {ox od:Obj} {Q:Value->Shared->Prop} (X:K.In s.heap) (c:ExcL K C name) (J:W.InstAt s.heap x ox C (some od)) (hl:lookIn name od=some (some v)) (hv:handedIn v=true) (q:Q v { s with toks:=s.toks+1 }) :
  wpAny (model prog w) A (getAttr (.ref x) name expr) Q E s:=by
 obtain ⟨m,n,r,i,o⟩:=s;have h:=J.type (M:=model prog w);have b:=looks_findIn (M:=model prog w) X c.ga;have e:=looks_findIn (M:=model prog w) X c.gh;have k:=looks_find (M:=model prog w) X J (findObj_own c.hd c.na rfl hl);have p:=looks_mroIn (M:=model prog w) X c.mb;have j:bindSpecial (.builtin "BaseException.__getattribute__") (.ref x)=pure (.builtin "BaseException.__getattribute__",[.ref x]):=by kernel_rfl
 have a:(expr&&onTheHeap (Value.builtin "BaseException.__getattribute__"))=false:=by cases expr <;> rfl
 unfold getAttr getAttrBy;refine wpAny_bind (wpAny_mkText (wpAny_holding (wpAny_bind (h.at (wpAny_bind (b.at ?_))))));have f:(onTheHeap (Value.ref C)&&Value.builtin "BaseException.__getattribute__" == Value.builtin "object.__getattribute__")=false:=Bool.and_eq_false_iff.mpr (.inr (by decide +kernel));show wpAny _ _ (if (onTheHeap (Value.ref C)&&Value.builtin "BaseException.__getattribute__" == Value.builtin "object.__getattribute__")=true then _ else getAttrByItsOwn _ _ _ _ _ _) _ _ _;rw [if_neg (by rw [f];decide)];unfold getAttrByItsOwn hookBefore;refine wpAny_bind ?_;rw [if_pos (show onTheHeap (Value.ref C)=true from rfl)];refine e.at ?_;refine wpAny_bind (wpAny_attempt (wpAny_holding ?_));unfold callGetattribute boundAndCalled;rw [a,if_neg ⋯,j];refine wpAny_bind (wpAny_pure ?_);refine wpAny_call (codeAny_call_builtin (by decide +kernel) PySem.F.entry_bexc_ga ?_);have d:builtinKind "BaseException.__getattribute__"=some .slot:=by decide +kernel
 have g:splitId "BaseException.__getattribute__"=some ("BaseException","__getattribute__"):=by decide +kernel
 have l:=PySem.F.args_bexc_ga (.ref x) (.str name i)
 (simp only [checkBuiltinCall,d,g];refine wpAny_bind ?_)
 unfold isInstance;repeat (first | lk | wp_step)
 show wpAny _ _ (handedOut v) _ _ _;exact W.handed_on hv q
end
section
variable {X:Cx} {o e value:Expr} {f:Str} {pos pos':Pos} {ta tv:TE}
structure ExcA (K:W.Frag) (C:Addr) (f:Str):Prop where
 sa:W.findIn K (.ref C) "__setattr__"=some (some (.builtin "object.__setattr__"))
 na:W.findIn K (.ref C) f=some none
def sFldX (K:W.Frag) (ta tv:TE) (f:Str):TS:=fun D σ H=>tv σ H fun y H1=>ta σ H1 fun x H2=>∃ e C S g,x=.ref e/\H2 e=some (ExcN e C none)/\ExcI K C S g/\ExcA K C f /\
 ∀ dx,H2 dx=none->dx≠e->D.nx σ (upd (upd H2 e (ExcN e C (some dx))) dx (.xd [(f,y)]))
theorem JjS (ha:PE X o ta) (hv:PE X value tv) (hs:swapsWith value (some (.Attribute o f pos')) pos.line X.env=pure false):PS X (.Assign [.Attribute o f pos'] value pos) (sFldX X.K ta tv f):=by
 intro m s σ H D I h;refine plainObj_wpAny_Assign_Attribute (thn (hv m s σ H _ I h) fun u s1 ⟨y,V,I1,L,q⟩=>thn (ha m s1 σ V _ I1 q) fun Y T ζ=>?_) hs;obtain ⟨x,H2,I2,J,e,C,S,g,O,i,M,c,N⟩:=ζ;subst O;obtain rfl:Y=Value.ref e:=J;obtain ⟨a0,hg⟩:=(I2.hok e _ i).1;obtain ⟨R,gg,d,tk,os⟩:=T;refine JiO M I2.kIn c.sa c.na hg fun h' t' A w z W k=>?_;have l:H2 A=none:=I2.hok.fresh w;have U:A≠e:=fun q=>by rw [q,i] at l;cases l
 have Q:R.get? A=none:=Heap.get?_none_of_le w;refine ⟨σ,_,I2.un (t':=t') ⟨fun b j z n nb _=>?_,fun b j z n nb _=>?_,fun b j z n _=>?_,fun b j z _=>?_,fun b P z=>?_,fun b j v z=>?_,fun b p z=>⟨#[],?_⟩⟩ fun a j t=>?_,N A l U⟩
 ·exact k b j (fun y=>by rw [y,i] at n;cases n) z
 ·exact ⟨_,k b j (fun y=>by rw [y,i] at n;cases n) z⟩
 ·rw [Jaf (fun y=>by rw [y,Q] at z;cases z),Jaf (fun y=>by rw [y,i] at n;cases n)];exact n
 ·by_cases y:b=e
  ·exact ⟨_,by rw [y];assumption⟩
  ·exact ⟨j,k b j y z⟩
 ·rw [Jaf (Jac z l),Jaf (fun y=>by rw [y,i] at z;cases z)];exact z
 ·rw [Jaf (Jac z l),Jaf (fun y=>by rw [y,i] at z;cases z)];exact z
 ·rw [Jaf (Jac z l),Jaf (fun y=>by rw [y,i] at z;cases z),z];simp
 ·by_cases G:a=A
  ·subst G;rw [Jam] at t;cases t;refine ⟨_,W,fun B=>?_⟩;show RelO (List.lookup B [(f,y)]) (if B=f then some u else none);by_cases q:B=f
   ·subst q;simp [List.lookup,RelO];exact L
   ·have : (B == f)=false:=by simpa using q
    simp [List.lookup,this,q,RelO]
  ·rw [Jaf G] at t;by_cases F:a=e
   ·subst F;rw [Jam] at t;cases t;exact Jfl ⟨a0,z⟩
   ·rw [Jaf F] at t;refine (I2.hok a j t).stay (fun b v E Z=>k b v ?_ Z) (fun b r=>?_) (fun b P r=>?_)
    ·rcases E with rfl | E
     ·exact F
     ·exact fun y=>by rw [y,i] at E;cases E
    ·rw [Jaf (Jac r l),Jaf (fun y=>by rw [y,i] at r;cases r)];exact r
    ·rw [Jaf (Jac r l),Jaf (fun y=>by rw [y,i] at r;cases r)];exact r
def tFldX (K:W.Frag) (ta:TE) (f:Str):TE:=fun σ H Q=>ta σ H fun x H1=>∃ e C dx fs v,x=.ref e/\H1 e=some (ExcO e C (some dx))/\ExcL K C f/\H1 dx=some (.xd fs)/\fs.lookup f=some v/\Q v H1
theorem JjM (he:PE X e ta) (hb:attributeBase e f X.env (eval e X.env)=eval e X.env):PE X (.Attribute e f pos) (tFldX X.K ta f):=by
 intro a s σ H Q I h;refine JgQ hb (thn (he a s σ H _ I h) fun u F ζ=>?_);obtain ⟨x,y,I1,j,d,C,B,J,v,t,i,c,z,l,q⟩:=ζ;subst t;obtain rfl:u=Value.ref d:=j;obtain ⟨G,L,w,p,k,A⟩:=(I1.hok d _ i).1;obtain ⟨D,n,r⟩:=I1.hok B _ z;obtain ⟨M,b,E⟩:=Jdj n;obtain ⟨u,m,g⟩:=RelO.some_of (v:=v) (o:=D f) (by rw [<- l];exact r f);refine Jj8 I1.kIn c ⟨w,p,by unfold W.notCls;rw [k],by rw [A];exact b⟩ (by rw [E,m]) (JeH g) ?_;exact ⟨v,y,I1.tok _,g,q⟩
end
structure XCal (P:Program) (w:World) (K:W.Frag) (mg:Str->Option Value) (base:Heap) (k:Nat) (x:Str) (C S:Addr) (ps:List Str) (sp:Sp):Prop where
 ex:∃ (f:Addr) (fd:FuncData),FnOk P w K mg base (CX1 P w) k f fd ps sp/\mg x=some (.ref C)/\ExcI K C S f/\Binds K fd ps []
section
variable {X:Cx} {k k':Nat} {x mn f:Str} {C S:Addr} {Cs:Addr->Prop} {ps:List Str} {sp:Sp} {E:XK} {p pos apos:Pos} {e o:Expr} {es:List Expr} {t:TA} {ta:TE} {K:W.Frag}
theorem XCal.ev (G:XCal X.prog X.w X.K X.mg X.base k x C S ps sp) (hr:Room k' X.A) (hk:k+1<=k') (hg:Gl X x) (hx:JbI (CX1 X.prog X.w) X E) (ha:PA X (e::es) t)
  (hdb:(x == ("__debug__" : Str))=false:=by decide) (he:starEach (e::es) X.env=(false,eval e X.env)::starEach es X.env:=by rfl) (hpl:(backTo pos (starEach es X.env)).any (·.1)=false:=by rfl) :
  PE X (.Call (.Name x p) (e::es) [] pos) (Jh0 C sp E t):=by
 obtain ⟨f,c,F,a,M,b⟩:=G.ex;exact Jix M F (hr.mono hk) hg a b hx ha hdb he hpl
theorem MCal.tr0 {pl:Sem Bool} (G:MCal X.prog X.w X.K X.mg X.base k mn Cs ps sp) (hr:Room k' X.A) (hk:k<=k') (ho:PE X.nox o ta)
  (ht:eval (.Call (.Attribute o mn apos) [] [] pos) X.env=(do
   let ov <- eval o X.env
   standAt apos.atName
   let (f,first) <- holding [ov] (getMethod ov mn pl)
   callWith pos f first (backTo pos (starEach [] X.env)) (backToKw pos (keywordEach [] X.env))):=by rfl) :
  PEx X (.Call (.Attribute o mn apos) [] [] pos) (xMeth Cs mn sp ta tNil):=by
 obtain ⟨f,p,F,c,n,m⟩:=G.ex;intro b s σ H Q E I h;have z:=ho b s σ H _ (I.wish _) h;refine W.methodCall_KW (pl:=pl) (wpAny_mono z (fun u r ζ=>?_) fun _ _ y=>y.elim) ht;obtain ⟨x,j,I1,g,a,C,v,t,i,e,d,l,q⟩:=ζ;subst i;obtain rfl:u=Value.ref a:=g;refine JcQ I1.unwish e (c C d).1 (c C d).2 l ?_;exact W.callWith_K0 (first:=[.ref a]) I1.unwish.kIn n (JjY (us:=[.ref a]) (vs:=[.ref a]) (ds:=[]) (dvs:=[]) F (hr.mono hk) m .nil I1.unwish (.cons rfl .nil) (show sp ([.ref a]++[]) j Q E from q))
theorem Jgc (hK:X.K=K) (he:PE X e ta) (hb:attributeBase e f X.env (eval e X.env)=eval e X.env):PE X (.Attribute e f pos) (tFldX K ta f):=by
 subst hK;exact JjM he hb
end
section
variable {K:W.Frag} {H H0:Hp} {Q:VK} {E:XK} {σ : St} {En:Ends} {C:Addr} {sp:Sp} {t:TA} {ta tv te:TE} {f mn:Str} {Cs:Addr->Prop}
theorem y85y:Jh2 K H0 E te En σ H=te σ H fun v H1=>∃ e C S f od,v=.ref e/\H1 e=some (ExcN e C od)/\ExcI K C S f/\H0 e=none/\E (.ref C) od (unt H1 e):=rfl
theorem y6by:Jh0 C sp E t σ H Q=t σ H fun vs H1=>vs.length<=sizeLine/\∀ x,H1 x=none->sp (.ref x::vs) (upd H1 x (ExcN x C none)) (fun v H2=>v=.non/\Q (.ref x) H2) E:=rfl
theorem y2cy:Ji9 K t σ H Q=t σ H fun vs H2=>∃ e rest C S f od,vs=.ref e::rest/\rest.length<=sizeLine/\H2 e=some (ExcN e C od)/\ExcI K C S f/\Q .non (upd H2 e (ExcN e C od)):=rfl
theorem y8cy:sFldX K ta tv f En σ H=tv σ H fun y H1=>ta σ H1 fun x H2=>∃ e C S g,x=.ref e/\H2 e=some (ExcN e C none)/\ExcI K C S g/\ExcA K C f/\∀ dx,H2 dx=none->dx≠e->En.nx σ (upd (upd H2 e (ExcN e C (some dx))) dx (.xd [(f,y)])):=rfl
theorem y4fy:tFldX K ta f σ H Q=ta σ H fun x H1=>∃ e C dx fs v,x=.ref e/\H1 e=some (ExcO e C (some dx))/\ExcL K C f/\H1 dx=some (.xd fs)/\fs.lookup f=some v/\Q v H1:=rfl
end
section
variable {X:Cx} {pins:List (Addr × Obj)} {σ : St} {H:Hp} {s:Shared} {a:Addr} {kvs:List (Key × V)} {k:Key} {u r:Value} {y:V} {A:Around} {E:Value->Shared->Prop}
end
section
variable {X:Cx} {o e f:Expr} {apos cpos:Pos} {td ty tx:TE}
end
section
variable {X:Cx}
end
section
variable {σ : St} {H:Hp} {Q:VK} {td ty tx:TE}
theorem y42y {trs:List (TE × TE)}:tDisp trs σ H Q=∀ p,H p=none->Jgk trs σ (upd H p (.dK [])) fun ps H2=>H2 p=some (.dK [])/\∃ kvs:List (Key × V),ps=kvs.map (fun kv=>(kV kv.1,kv.2))/\kvs.length<=15/\Q (.ref p) (upd H2 p (.dK (Ji5 [] kvs))):=rfl
theorem y81y {tk tv:TE} {R:List (V × V)->Hp->Prop}:Jgk [(tk,tv)] σ H R=tk σ H fun x H1=>tv σ H1 fun y H2=>R [(x,y)] H2:=rfl
theorem y2ey {K:W.Frag} {T:String} {r:V->List V->Hp->VK->Prop} {to:TE}:tBM0 K T r to σ H Q=to σ H fun x H1=>tyV K T x H1/\r x [] H1 Q:=rfl
end
section
variable {α : Type} {f : α->Str} {P P' : α->V->Prop} {as:List α} {kvs:List (Key × V)} {a : α} {v:V}
end
structure PD where
 nm:Str
 st:Str
 en:Str
 sz:Int × Int
 mo:Int × Int
 wt:Int
section
variable {X:Cx} {pins:List (Addr × Obj)} {σ : List (Option V)} {H H':Hp} {s s':Shared} {d:Addr} {kvs kvs':List (Key × V)} {od:Obj}
theorem Inv.freeze (I:Inv X pins σ H s) (e:H d=some (.dK kvs)) (ho:s.heap.get? d=some od):Inv X pins σ (upd H d (.frz od (.dK kvs))) s:=by
 refine I.un (h':=s.heap) (t':=s.toks) ⟨fun b o q _ _ _=>q,fun b o q _ _ _=>⟨o.slots,q⟩,fun b o q n _=>?_,fun b o q _=>⟨o,q⟩,fun b h q=>?_,fun b o u q=>?_,fun b j q=>⟨#[],?_⟩⟩ fun a o q=>?_
 ·rw [Jaf (fun z=>by rw [z,e] at n;cases n)];exact n
 ·rw [Jaf (fun z=>by rw [z,e] at q;cases q)];exact q
 ·rw [Jaf (fun z=>by rw [z,e] at q;cases q)];exact q
 ·rw [Jaf (fun z=>by rw [z,e] at q;cases q),Array.append_empty];exact q
 ·have g:∀ i b,H b=some (.own i)->upd H d (.frz od (.dK kvs)) b=some (.own i):=fun i b q=>by
   rw [Jaf (fun z=>by rw [z,e] at q;cases q)];exact q
  have f:∀ b h,H b=some (.tup h)->upd H d (.frz od (.dK kvs)) b=some (.tup h):=fun b h q=>by
   rw [Jaf (fun z=>by rw [z,e] at q;cases q)];exact q
  by_cases c:a=d
  ·subst c;rw [Jam] at q;cases q;exact ⟨ho,(I.hok a _ e).stay (fun _ _ _ z=>z) (g a) f⟩
  ·rw [Jaf c] at q;exact (I.hok a o q).stay (fun _ _ _ z=>z) (g a) f
end
def Itv (d:Addr) (od:Obj) (kvs:List (Key × V)):It :=
 ⟨fun i H=>H d=some (.frz od (.dK kvs))/\i<kvs.length,fun i H x H'=>H'=H/\(kvs.map (·.2))[i]?=some x,fun i H=>H d=some (.frz od (.dK kvs))/\kvs.length<=i⟩
section
variable {X:Cx} {tg:Expr}
def iVals (td:TE):TI:=fun σ H R=>td σ H fun x H1=>∃ d kvs,x=.ref d/\H1 d=some (.dK kvs)/\∀ od,R (Itv d od kvs) (upd H1 d (.frz od (.dK kvs)))
def tThaw (t:TE):TE:=fun σ H Q=>∃ d kvs,H d=some (.dK kvs)/\t σ H fun v H'=>∃ od kvs',H' d=some (.frz od (.dK kvs'))/\Q v (upd H' d (.dK kvs'))
end
section
variable {k:Nat} {cs:List (Nat × Str)} {g:TG} {te tl td:TE} {σ : St} {H H1:Hp} {Q:VK} {d:Addr} {od:Obj} {kvs:List (Key × V)}
theorem y3by:tThaw (tComp k cs (iVals td) g te) σ H Q=∃ d kvs,H d=some (.dK kvs)/\td σ H fun x H1=>∃ d1 kvs1,x=.ref d1/\H1 d1=some (.dK kvs1)/\∀ od,CompJ (Itv d1 od kvs1) k cs g te σ (fun v H'=>∃ od kvs',H' d=some (.frz od (.dK kvs'))/\Q v (upd H' d (.dK kvs'))) (upd H1 d1 (.frz od (.dK kvs1))):=rfl
end
section
variable {X:Cx} {k k':Nat} {x:Str} {C:Addr} {ps:List Str} {sp:Sp} {E:XK} {p pos:Pos}
end
structure GD where
 nm:Str
 st:Str
 en:Str
 lo:Int × Int
 hi:Int × Int
section
variable {K:W.Frag} {H H':Hp}
end
section
variable {H H' H'':Hp} {ls:List PD} {one:Str} {fd wl:Addr} {ws:List (Str × List Pr)} {wt:List Str}
end
theorem JhG {X:Cx} {K:W.Frag} {pos:Pos} {es:List Expr} {k:Nat} {t:TGs} {n:Nat} (hK:X.K=K) (hc:X.calm=true) (h:PGs X es t) (hn:(assignEach es X.env).length=n:=by rfl) (hst:(assignEach es X.env).findIdx? (·.1)=none:=by rfl):PG X (.Tuple es k pos) (gTup K n t):=by
 subst hK;exact JhF hc h hn hst
abbrev Fr2:=Int × Int
section
variable {K:W.Frag} {k:Nat} {cs:List (Nat × Str)} {g:TG} {te:TE} {ta:TA} {σ : St} {H H1:Hp} {Q:VK} {a b:Addr} {xs zs:List V}
end
section
variable {X:Cx}
end
section
variable {K:W.Frag} {H:Hp} {Q:VK}
end
section
variable {prog:Program} {w:World} {A:Around} {E:Value->Shared->Prop} {s:Shared}
end
section
variable {prog:Program} {w:World} {A:Around} {E:Value->Shared->Prop} {s:Shared}
end
section
variable {X:Cx}
end
section
variable {X:Cx} {elts:List Expr} {x1:Nat} {tp:Pos}
end
section
variable {K:W.Frag} {k:Nat} {cs:List (Nat × Str)} {g:TG} {te:TE} {ta:TA} {σ : St} {H H1:Hp} {Q:VK} {a:Addr} {xs:List V}
end
def Itq (lo c:Int) (n:Nat):It:=⟨fun i _=>i<n,fun i H x H'=>H'=H/\x=.int (lo+i*c),fun i _=>n<=i⟩
def rsz (lo hi c:Int):Nat:=(if lo<hi then (hi-lo-1)/c+1 else 0).toNat
section
variable {X:Cx} {tg:Expr}
def iRng3 (ta:TA):TI:=fun σ H R=>ta σ H fun vs H1=>∃ i j c:Int,vs=[.int i, .int j, .int c]/\(0<=i/\i<2 ^ 40/\0<=j/\j<2 ^ 40/\1<=c/\c<2 ^ 30)/\R (Itq i c (rsz i j c)) H1
end
section
variable {ta:TA} {g:TG} {tb:TS} {D:Ends} {σ : St} {H:Hp}
def ForQ (lo c:Int) (n:Nat) (g:TG) (tb:TS) (D:Ends) (σ : St) (H:Hp):Prop:=∃ W:Nat->Nat->St->Hp->Prop,(∃ m,W 0 m σ H)/\∀ i m σ H,W i m σ H ->
 ((Itq lo c n).stop i H/\D.nx σ H)\/((Itq lo c n).go i H/\∃ N:St->Hp->Prop,(∀ σ' H',N σ' H'->∃ m',m'<m/\W (i+1) m' σ' H')/\∀ x H',(Itq lo c n).yld i H x H'->g x σ H' fun σ2 H2=>tb { D with nx:=N,ct:=N,bk:=D.nx } σ2 H2)
theorem y56y:tFor (iRng3 ta) g tb D σ H=ta σ H fun vs H1=>∃ i j c:Int,vs=[.int i, .int j, .int c]/\(0<=i/\i<2 ^ 40/\0<=j/\j<2 ^ 40/\1<=c/\c<2 ^ 30)/\ForQ i c (rsz i j c) g tb D σ H1:=rfl
end
theorem y60y {c:TT} {ta tb:TE} {σ : St} {H:Hp} {Q:VK}:tIf c ta tb σ H Q=c σ H fun b H1=>if b=true then ta σ H1 Q else tb σ H1 Q:=rfl
def vl (a:Int × Int):Rat:=(a.1:Rat)/(a.2:Rat)
theorem JeY {a:Int} (h:1<=a):(a:Rat)≠0:=fun z=>by
 have : a=0:=by exact_mod_cast z
 ac_nf
theorem Jgn {a c:Int × Int} (ha:1<=a.2) (hc:1<=c.2):vl (addF a c)=vl a+vl c:=by
 have d:a.2*c.2≠0:=Int.mul_ne_zero ∅ ∅;have g:=Mth.cross (t:=a.1*c.2+c.1*a.2) d;have f:=Mth.JbO (t:=a.1*c.2+c.1*a.2) d;unfold vl addF;dsimp only;generalize Mth.top (a.1*c.2+c.1*a.2) (a.2*c.2)=t at *;generalize Mth.bot (a.1*c.2+c.1*a.2) (a.2*c.2)=b at *;have j:=JeY ha;have i:=JeY hc;have h:=JeY f;have e:(t:Rat)*((a.2:Rat)*(c.2:Rat))=((a.1:Rat)*(c.2:Rat)+(c.1:Rat)*(a.2:Rat))*(b:Rat):=by exact_mod_cast g
 generalize (a.1:Rat)=x at *;generalize (a.2:Rat)=y at *;generalize (c.1:Rat)=z at *;generalize (c.2:Rat)=u at *;generalize (t:Rat)=t at *;generalize (b:Rat)=b at *;grind
theorem Jgo (a:Int × Int):vl (negF a) = - vl a:=by
 unfold vl negF;rw [Rat.intCast_neg];grind
theorem Jew {a c:Int × Int} (ha:1<=a.2) (hc:1<=c.2):lessF a c=true↔vl a<vl c:=by
 unfold lessF vl;rw [decide_eq_true_iff];have f:(0:Rat)<(a.2:Rat):=by exact_mod_cast (show 0<a.2 by ac_nf)
 have d:(0:Rat)<(c.2:Rat):=by exact_mod_cast (show 0<c.2 by ac_nf)
 have e:((a.1*c.2<c.1*a.2)↔((a.1:Rat)*(c.2:Rat)<(c.1:Rat)*(a.2:Rat))):=by
  constructor
  ·intro h;exact_mod_cast h
  ·intro h;exact_mod_cast h
 rw [e];rw [Rat.div_lt_iff f];generalize (a.1:Rat)=x at *;generalize (a.2:Rat)=y at *;generalize (c.1:Rat)=z at *;generalize (c.2:Rat)=u at *;have b:z/u*y=z*y/u:=by grind
 rw [b,Rat.lt_div_iff d]
theorem FB.mono {A B C D:Nat} {a:Int × Int} (h:FB A B a) (h1:A<=C) (h2:B<=D):FB C D a:=⟨h.s1.mono h1,h.s2.mono h2,h.b1,h.g1⟩
section
variable {A B A' B' C D C' D':Nat} {x y z w m a b:Int × Int}
end
section
variable {α : Type} {f : α->Str} {l:List α} {s st:Nat}
end
section
variable {K:W.Frag} {H H':Hp} {x:V}
end
theorem JaN {H0 H:Hp} {b:Addr} (S:Same H0 H) (h:H b=none):H0 b=none:=by
 cases e:H0 b with
 | none=>rfl
 | some o=>rw [S _ _ e] at h;cases h
open PySem.Spec PyProof.Rows
theorem Jf5 (z:Str):∀ ss:List Str,inV (.str z) (ss.map V.str)=decide (z∈ss)
 | []=>by simp [inV]
 | s::ss=>by
  have h:=Jf5 z ss;unfold inV at h ⊢;rw [map_cons,any_cons,h];have e:eqV (.str s) (.str z)=decide (s=z):=by first | rfl | simp [eqV]
  rw [e];by_cases c:s=z
  ·subst c;simp
  ·have c':¬ z=s:=fun q=>c q.symm;simp [c,c']
theorem ForR.byN {lo:Int} {n:Nat} {g:TG} {tb:TS} {D:Ends} {σ : St} {H:Hp} (Pv:Nat->St->Hp->Prop) (h0:Pv 0 σ H)
  (hs:∀ i σ H,i<n->Pv i σ H->∀ N:St->Hp->Prop,(∀ σ' H',Pv (i+1) σ' H'->N σ' H')->g (.int (lo+i)) σ H fun σ2 H2=>tb { D with nx:=N,ct:=N,bk:=D.nx } σ2 H2) (hd:∀ σ H,Pv n σ H->D.nx σ H):ForR lo n g tb D σ H :=
 ForR.by Pv h0 (fun i σ H a b=>hs i σ H a b _ fun _ _ h=>h) hd
theorem ForA.byLN {K:W.Frag} {a:Addr} {xs:List V} {g:TG} {tb:TS} {D:Ends} {σ : St} {H:Hp} (hA:SqL K H a xs) (Pv:Nat->St->Hp->Prop) (h0:Pv 0 σ H) (hl:∀ i σ H',Pv i σ H'->SqL K H' a xs)
  (hs:∀ i x σ H,xs[i]?=some x->Pv i σ H->∀ N:St->Hp->Prop,(∀ σ' H',Pv (i+1) σ' H'->N σ' H')->g x σ H fun σ2 H2=>tb { D with nx:=N,ct:=N,bk:=D.nx } σ2 H2) (hd:∀ σ H,Pv xs.length σ H->D.nx σ H):ForA K a g tb D σ H :=
 ForA.byL hA Pv h0 hl (fun i x σ H b c=>hs i x σ H b c _ fun _ _ h=>h) hd
def prodI:List Int->Int
 | []=>1
 | f::r=>f*prodI r
theorem JdQ (f:Int):∀ fs:List Int,prodI (fs++[f])=prodI fs*f
 | []=>by simp [prodI]
 | g::fs=>by rw [cons_append];simp only [prodI,JdQ f fs];rw [Int.mul_assoc]
structure Scl (b:Int) (fs:List Int):Prop where
 b1:1<=b
 f1:∀ f∈fs,1<=f
 pr:prodI fs=b
theorem Scl.nil:Scl 1 []:=⟨by decide,by simp,rfl⟩
theorem Scl.snoc {b f:Int} {fs:List Int} (h:Scl b fs) (hf:1<=f):Scl (b*f) (fs++[f]):=⟨by
 have:=Int.mul_pos (show 0<b by have:=h.b1;ac_nf) (show 0<f by ac_nf);ac_nf,fun g a=>by
 rcases mem_append.mp a with a | a
 ·exact h.f1 g a
 ·rw [mem_singleton.mp a];exact hf,by rw [JdQ,h.pr]⟩
theorem scaled {x y q:Rat} (h:0<q):x*q<=y*q↔x<=y:=by
 constructor
 ·intro a;refine Rat.not_lt.mp fun z=>?_;have:=Rat.mul_lt_mul_of_pos_right z h;exact Rat.not_lt.mpr a this
 ·intro a;exact Rat.mul_le_mul_of_nonneg_right a (Rat.le_of_lt h)
section
variable {X:Cx} {tg:Expr}
end
def notStar:Expr->Bool
 | .Starred _ _=>false
 | _=>true
theorem Jai {e:Expr} {es:List Expr} {env:Env} (h:notStar e=true):starEach (e::es) env=(false,eval e env)::starEach es env:=by
 cases e <;> first | rfl | (simp [notStar] at h)
theorem Jaa {X:Cx} {e:Expr} {es:List Expr} {te:TE} {t:TA} (ha:PE X e te) (hr:PA X es t) (hs:notStar e=true:=by rfl):PA X (e::es) (tCons te t):=JjJ ha hr (Jai hs)
section
variable {K:W.Frag} {H H':Hp} {x:V} {a c:Addr}
def FLV (K:W.Frag) (H:Hp) (s:Int × Int) (x:V):Prop:=FrV K H x s.1 s.2
theorem FLV.sameT {s:Int × Int} (T:SameT H H') (h:FLV K H s x):FLV K H' s x:=FrV.sameT T h
end
section
variable {X:Cx}
end
section
variable {prog:Program} {w:World} {A:Around} {E:Value->Shared->Prop} {s:Shared}
end
section
variable {X:Cx}
end
section
variable {ls:List PD} {M:Str->Option Str} {a b f g:Str} {p:PD}
end
section
variable {K:W.Frag} {H H':Hp}
end
section
variable {a b:Str->Rat}
end
structure Gp where
 R:Rat
 way:List Str
section
variable {N:List Str} {w M:Str->Rat} {gs:List Gp} {f f':Str->Rat}
end
def left (lvs:List (Str × (Int × Int))) (w:Str->Rat) (n:Str):Rat:=if n∈lvs.map (·.1) then 0 else w n
section
variable {lvs:List (Str × (Int × Int))} {n m:Str} {L:Int × Int} {ns:List Str} {w:Str->Rat}
end
section
variable {N:List Str} {w M:Str->Rat} {gs:List Gp} {lvs:List (Str × (Int × Int))} {c:Rat} {L:Int × Int} {ns:List Str}
end
section
variable {D E:Int} {r s:Rat}
end
theorem Jjy {kvs:List (Key × V)} {vs:List (Key × Value)} (rel:KV kvs vs):vs.map (·.1)=kvs.map (·.1):=by
 unfold KV at rel;induction rel with
 | nil=>rfl
 | cons h1 _ ih=>rw [map_cons,map_cons,ih,h1.1]
theorem Jjx {P:Program} {w:World} {z:Str} {v:Value} (h:(JaU P w).is (Sum.inr z) v=true):∃ t,v=.str z t:=by
 rcases JaH (show keyIs (Sum.inr z) v=true from h) with ⟨b,hb,_⟩ | ⟨y,t,hy,rfl⟩
 ·cases hb
 ·cases hy;exact ⟨t,rfl⟩
def Itk (d:Addr) (od:Obj) (kvs:List (Key × V)) (ss:List Str):It :=
 ⟨fun i H=>H d=some (.frz od (.dK kvs))/\i<ss.length,fun i H x H'=>H'=H/\(ss.map V.str)[i]?=some x,fun i H=>H d=some (.frz od (.dK kvs))/\ss.length<=i⟩
theorem Jh3 {P:Program} {w:World} {K:W.Frag} {tg:Expr} {d it:Addr} {od:Obj} {kvs:List (Key × V)} {ss:List Str} {vs:List (Key × Value)} {ep:Nat} (rel:KV kvs vs) (hk:kvs.map (·.1)=ss.map Sum.inr) (hd:∀ h:Heap,h.get? d=some od->h.DictAt (JaU P w) d vs ep) :
  Turn P w K tg (Itk d od kvs ss) [it] it (fun i h=>h.IsKeyIter it d i vs.length ep) where
 mem:=by simp
 obj:=fun i h a b l=>by
  obtain rfl:b=it:=by simpa using l
  obtain ⟨o,e,c,z⟩:=a;exact ⟨o,e,fun v q=>by rw [z] at q;cases q⟩
 keep:=fun i h u a k=>a.at fun o e=>k it (by simp) o e
 item:=by
  intro X G B L O i f s σ H E I y a M;subst G B L;obtain ⟨j,A⟩:=M;obtain ⟨F,J,R,N,C,D⟩:=y it (by simp);have g:=(I.hok d _ j).1;have Q:=rel.length;have lk:kvs.length=ss.length:=by simpa using congrArg List.length hk
  obtain ⟨⟨k,U⟩,r⟩:∃ p,vs[i]?=some p:=⟨_,List.getElem?_eq_getElem (show i<vs.length by ac_nf)⟩;have x:(vs.map (·.1))[i]?=some k:=by rw [List.getElem?_map,r];rfl
  rw [Jjy rel,hk,List.getElem?_map,List.getElem?_eq_getElem A] at x;have x:Sum.inr ss[i]=k:=Option.some.inj x;subst x;refine wpAny_pyNext_dict_item a (hd _ g) r fun key u n m T=>?_;obtain ⟨t,rfl⟩:=Jjx n;have I1:Inv X f σ H { s with heap:=u }:=I.turned (t':=s.toks) (fun b o l e=>(T.2 b l).trans e) F J N C D;obtain ⟨o,e,c,z⟩:=id m;exact ⟨_,rfl,go_of (s:={ s with heap:=u }) e c z ⋯ ⟨.str ss[i],H,I1,⟨t,rfl⟩,⟨rfl,by rw [List.getElem?_map,List.getElem?_eq_getElem A];rfl⟩,m,fun b l=>(y b l).1⟩⟩
 done:=by
  intro X G B L O i f s σ H E I y a M;subst G B L;obtain ⟨j,A⟩:=M;obtain ⟨F,J,R,N,C,D⟩:=y it (by simp);have g:=(I.hok d _ j).1;have Q:=rel.length;have lk:kvs.length=ss.length:=by simpa using congrArg List.length hk
  exact wpAny_pyNext_dict_end (I.ok.hd O) a (hd _ g) (List.getElem?_eq_none ∅) fun u S=>⟨rfl,I.turned (t':=s.toks) (fun b o l e=>S b o l e) F J N C D⟩
 self:=fun _ _ _ _ _ a h=>wpAny_pyIter_keyiter a h
section
variable {X:Cx} {tg:Expr}
def iKeys (td:TE):TI:=fun σ H R=>td σ H fun x H1=>∃ (d:Addr) (kvs:List (Key × V)) (ss:List Str),x=.ref d/\H1 d=some (.dK kvs)/\kvs.map (·.1)=ss.map Sum.inr/\∀ od,R (Itk d od kvs ss) (upd H1 d (.frz od (.dK kvs)))
theorem JhH {o:Expr} {td:TE} (ho:PE X o td):PI X tg o (iKeys td):=by
 intro a s σ H R I h;refine thn (ho a s σ H _ I h) fun v i ζ=>?_;obtain ⟨y,B,I1,u,d,kvs,C,m,e,x,l⟩:=ζ;subst m;obtain rfl:v=Value.ref d:=u;obtain ⟨A,t,vs,f,p⟩:=dk_of I1.hok e;obtain ⟨ep,j⟩:=p.dictAt;obtain ⟨k,n,c,rest⟩:=id j;refine wpAny_pyIter_dict (knd:=JaU X.prog X.w) (d:=d) (kvs:=vs) (ep:=ep) t j ?_;have r:∀ b o,i.heap.get? b=some o->(i.heap.push { cls:=.type "dict_keyiterator",data:=.fields #[.ref d, .int 0 0, .int vs.length 0, .int ep 0] }).get? b=some o:=fun b o z=>Heap.get?_push_of_some _ z;have I2:=(I1.freeze e c).kept (t':=i.toks) r;refine ⟨_,[_],_,_,_,rfl,I2,Jh3 (vs:=vs) (ep:=ep) f x (fun h q=>⟨k,n,q,rest⟩),⟨_,Heap.get?_push_size _ rfl,rfl,rfl⟩,fun b g=>?_,l k⟩;obtain rfl:=mem_singleton.mp g;exact I1.fpOk (Nat.le_refl _) ((I1.freeze e c).hok.fresh (Nat.le_refl _))
def JkV (ts:TS):TS:=fun D σ H=>∃ d kvs,H d=some (.dK kvs)/\ts { nx:=fun σ' H'=>∃ od kvs',H' d=some (.frz od (.dK kvs'))/\D.nx σ' (upd H' d (.dK kvs')),rt:=fun _ _=>False } σ H
theorem ps_no {st:Stmt}:PS X st (fun _ _ _=>False):=fun _ _ _ _ _ _ h=>h.elim
end
section
variable {k:Nat} {cs:List (Nat × Str)} {g:TG} {te tl td:TE} {tt:TT} {σ : St} {H H1:Hp} {Q:VK} {d:Addr} {od:Obj} {kvs:List (Key × V)} {ss:List Str}
theorem y38y:Jgj k cs (iKeys td) g tt te σ H Q=td σ H fun x H1=>∃ (d1:Addr) (kvs1:List (Key × V)) (ss:List Str),x=.ref d1/\H1 d1=some (.dK kvs1)/\kvs1.map (·.1)=ss.map Sum.inr/\∀ od,Jc7 (Itk d1 od kvs1 ss) k cs g tt te σ Q (upd H1 d1 (.frz od (.dK kvs1))):=rfl
theorem y39y:tThaw (Jgj k cs (iKeys td) g tt te) σ H Q=∃ d kvs,H d=some (.dK kvs)/\td σ H fun x H1=>∃ (d1:Addr) (kvs1:List (Key × V)) (ss:List Str),x=.ref d1/\H1 d1=some (.dK kvs1)/\kvs1.map (·.1)=ss.map Sum.inr/\∀ od,Jc7 (Itk d1 od kvs1 ss) k cs g tt te σ (fun v H'=>∃ od kvs',H' d=some (.frz od (.dK kvs'))/\Q v (upd H' d (.dK kvs'))) (upd H1 d1 (.frz od (.dK kvs1))):=rfl
theorem y93y {ts:TS} {En:Ends}:JkV ts En σ H=∃ d kvs,H d=some (.dK kvs)/\ts { nx:=fun σ' H'=>∃ od kvs',H' d=some (.frz od (.dK kvs'))/\En.nx σ' (upd H' d (.dK kvs')),rt:=fun _ _=>False } σ H:=rfl
theorem DGet.f {H:Hp} {a:Addr} {kvs:List (Key × V)} {k:Key} {od:Obj} (e:H a=some (.frz od (.dK kvs))):DGet H a (kV k) (valV kvs k):=.inl ⟨kvs,k, .inr ⟨od,e⟩,rfl,rfl⟩
end
section
variable {a c:Int × Int}
theorem JkZ (k:Int):vl (k,1)=(k:Rat):=by
 unfold vl;have : ((1:Int):Rat)=1:=rfl;grind
theorem Jh5:vl (0,1)=0:=JkZ 0
end
structure LidD where
 nm:Str
 rest:Int × Int
 ws:List (Str × Int)
 load:Int
 last:Int × Int
section
variable {w:Str->Rat} {g:Gp} {lvs:List (Str × (Int × Int))} {e:LidD} {m:Str} {L:Int × Int}
end
section
variable {N:List Str} {w:Str->Rat} {gs:List Gp} {lvs:List (Str × (Int × Int))} {L:Int × Int} {m:Str}
end
section
variable {H H':Hp} {d a:Addr} {od:Obj} {kv kw:List (Key × V)} {k:Key}
end
section
variable {b Q:Int} {N:List Str} {w M:Str->Rat} {gs:List Gp} {ms lvs:List (Str × (Int × Int))} {lds:List LidD} {L:Int × Int} {ns:List Str} {D:Int} {k:Nat}
end
structure ShD where
 nm:Str
 sl:Int × Int
 sp:Option Str
section
variable {ls:List PD} {es:List (GD × List Str)} {pl:Str->Int × Int} {p:PD} {f f':Str->Rat} {rs rs':List ShD}
end
theorem vl_nn {a:Int × Int} (h:1<=a.2):0<=vl a↔0<=a.1:=by
 unfold vl;have p:(0:Rat)<(a.2:Rat):=by exact_mod_cast (show 0<a.2 by ac_nf)
 have e:(a.1:Rat)/(a.2:Rat)*(a.2:Rat)=(a.1:Rat):=Rat.div_mul_cancel (JeY h);rw [<- scaled p,e,Rat.zero_mul];exact_mod_cast Iff.rfl
section
variable {ls:List PD} {es:List (GD × List Str)} {pl:Str->Int × Int} {lds:List LidD} {ms lvs:List (Str × (Int × Int))} {b q0:Int}
end
section
variable {ls:List PD} {es:List (GD × List Str)} {pl:Str->Int × Int} {lds:List LidD} {ms lvs:List (Str × (Int × Int))} {b q0:Int}
end
section
variable {a b c d B:TS} {D:Ends} {σ : St} {H:Hp}
end
structure Nxt (R:St->Hp->Prop) (b:TS) (D:Ends):Prop where
 go:∀ {σ : St} {H:Hp},b D σ H->R σ H
theorem Jep {a b:TS} {D:Ends} {σ : St} {H:Hp} (h:∀ R,Nxt R b D->a { D with nx:=R } σ H):tSeq a b D σ H:=h _ ⟨fun z=>z⟩
structure SpS where
 src:Str
 tgt:Str
 cost:Int × Int
 wh:Int
 nm:Str
 fw:Bool
abbrev SumD:=List (Str × Int)
abbrev LasD:=List (Str × SpS)
section
variable {α : Type}
def lk:List (Str × α)->Str->Option α
 | [],_=>none
 | p::r,f=>if p.1=f then some p.2 else lk r f
def pu (l:List (Str × α)) (f:Str) (a : α):List (Str × α):=if (l.any fun p=>decide (p.1=f))=true then l.map (fun p=>if p.1=f then (p.1,a) else p) else l++[(f,a)]
theorem Jhp {f g:Str} {a : α} (h:f≠g):∀ l:List (Str × α),lk (l.map fun p=>if p.1=f then (p.1,a) else p) g=lk l g
 | []=>rfl
 | p::r=>by
  rw [map_cons];unfold lk;by_cases c:p.1=f
  ·rw [if_pos c];have : ¬ p.1=g:=fun e=>h (c.symm.trans e);rw [if_neg this,if_neg this];exact Jhp h r
  ·rw [if_neg c];by_cases d:p.1=g
   ·rw [if_pos d,if_pos d]
   ·rw [if_neg d,if_neg d];exact Jhp h r
theorem Jhq {f:Str} {a : α}:∀ l:List (Str × α),(l.any fun p=>decide (p.1=f))=true->lk (l.map fun p=>if p.1=f then (p.1,a) else p) f=some a
 | [],h=>by simp at h
 | p::r,h=>by
  rw [map_cons];unfold lk;by_cases c:p.1=f
  ·rw [if_pos c,if_pos c]
  ·rw [if_neg c,if_neg c];exact Jhq r (by simpa [c] using h)
theorem Ji3 {g:Str} {a : α} {f:Str}:∀ l:List (Str × α),lk (l++[(f,a)]) g=match lk l g with | some b=>some b | none=>if f=g then some a else none
 | []=>rfl
 | p::r=>by
  rw [cons_append];unfold lk;by_cases c:p.1=g
  ·rw [if_pos c,if_pos c]
  ·rw [if_neg c,if_neg c];exact Ji3 r
theorem Jhr {f:Str}:∀ l:List (Str × α), ¬ (l.any fun p=>decide (p.1=f))=true->lk l f=none
 | [],_=>rfl
 | p::r,h=>by
  unfold lk;by_cases c:p.1=f
  ·exact absurd (by simp [c]) h
  ·rw [if_neg c];exact Jhr r fun z=>h (by rw [any_cons,z,Bool.or_true])
theorem lk_pu {l:List (Str × α)} {f g:Str} {a : α}:lk (pu l f a) g=if f=g then some a else lk l g:=by
 unfold pu;by_cases c:(l.any fun p=>decide (p.1=f))=true
 ·rw [if_pos c];by_cases d:f=g
  ·subst d;rw [if_pos rfl];exact Jhq l c
  ·rw [if_neg d];exact Jhp d l
 ·rw [if_neg c,Ji3];by_cases d:f=g
  ·subst d;rw [Jhr l c,if_pos rfl]
  ·rw [if_neg d];cases lk l g <;> simp [d]
theorem JaO {l:List (Str × α)} {f:Str} {a : α}:lk (pu l f a) f=some a:=by rw [lk_pu,if_pos rfl]
theorem lk_ne {l:List (Str × α)} {f g:Str} {a : α} (h:f≠g):lk (pu l f a) g=lk l g:=by rw [lk_pu,if_neg h]
end
structure BF where
 S:SumD
 P:LasD
 ch:Option Str
def gains (S:SumD) (s:SpS):Option Int :=
 match lk S s.src with
 | none=>none
 | some a=>match lk S s.tgt with
  | none=>some (a+s.wh)
  | some b=>if a+s.wh<b then some (a+s.wh) else none
def rlx (t:BF) (s:SpS):BF :=
 match gains t.S s with
 | none=>t
 | some a=>⟨pu t.S s.tgt a,pu t.P s.tgt s,some s.tgt⟩
def trn (ss:List SpS) (t:BF):BF:=ss.foldl rlx { t with ch:=none }
inductive Wk (ss:List SpS) (f0:Str):List SpS->Str->Prop
 | nil:Wk ss f0 [] f0
 | snoc {l:List SpS} {s:SpS}:Wk ss f0 l s.src->s∈ss->Wk ss f0 (l++[s]) s.tgt
def wgt (l:List SpS):Int:=(l.map (·.wh)).sum
theorem JbC {l:List SpS} {s:SpS}:wgt (l++[s])=wgt l+s.wh:=by simp [wgt]
section
variable {ss:List SpS} {f0:Str} {fs:List Str} {π : Str->Int} {t:BF} {s:SpS}
def Pot (π : Str->Int) (ss:List SpS):Prop:=∀ s∈ss,π s.tgt<=π s.src+s.wh
structure BI (ss:List SpS) (fs:List Str) (π : Str->Int) (S:SumD) (P:LasD):Prop where
 z:∀ f∈fs, ∃ b,lk S f=some b/\b<=0
 p0:∀ v b,lk S v=some b->lk P v=none->v∈fs/\b=0
 st:∀ v s,lk P v=some s->s∈ss/\s.tgt=v/\∃ a b,lk S s.src=some a/\lk S v=some b/\a+s.wh<=b
 wk:∀ v b,lk S v=some b->∃ f∈fs, ∃ l,Wk ss f l v/\wgt l=b
 rk:∃ r:Str->Nat, ∀ v s,lk P v=some s->r s.src<r v
inductive Dsc (P:LasD) (v:Str):Str->Prop
 | refl:Dsc P v v
 | step {x:Str} {s:SpS}:lk P x=some s->Dsc P v s.src->Dsc P v x
theorem Dsc.mono {S:SumD} {P:LasD} (hp:Pot π ss) (h:BI ss fs π S P) {v x:Str} (d:Dsc P v x):∀ a b,lk S v=some a->lk S x=some b->a-π v<=b-π x:=by
 induction d with
 | refl=>intro a b g f;rw [g] at f;cases f;ac_nf
 | step g _ ih=>
  intro a b j i;obtain ⟨m,e,c,d,f,k,l⟩:=h.st _ _ g;rw [k] at i;cases i;have:=ih a c j f;have:=hp _ m;rw [e] at this;ac_nf
theorem Ja8 {S:SumD} {c:Int} (h:gains S s=some c):∃ a,lk S s.src=some a/\c=a+s.wh/\∀ b,lk S s.tgt=some b->c<b:=by
 unfold gains at h;cases e:lk S s.src with
 | none=>rw [e] at h;cases h
 | some a=>
  rw [e] at h;refine ⟨a,rfl,?_⟩;cases e2:lk S s.tgt with
  | none=>rw [e2] at h;cases h;exact ⟨rfl,fun b d=>by cases d⟩
  | some b=>
   rw [e2] at h;dsimp only at h;split at h
   ·cases h;rename_i c;exact ⟨rfl,fun f d=>by cases d;exact c⟩
   ·cases h
theorem JbL {S:SumD} (h:gains S s=none):∀ a,lk S s.src=some a->∃ b,lk S s.tgt=some b/\b<=a+s.wh:=by
 intro a d;unfold gains at h;rw [d] at h;cases e2:lk S s.tgt with
 | none=>rw [e2] at h;cases h
 | some b=>
  rw [e2] at h;dsimp only at h;split at h
  ·cases h
  ·rename_i c;exact ⟨b,rfl,by ac_nf⟩
theorem BI.put {S:SumD} {P:LasD} (hp:Pot π ss) (h:BI ss fs π S P) (hs:s∈ss) {c:Int} (hg:gains S s=some c):BI ss fs π (pu S s.tgt c) (pu P s.tgt s):=by
 obtain ⟨a,n,G,p⟩:=Ja8 hg;have H:=hp s hs;have C:¬ Dsc P s.tgt s.src:=fun d=>by
  cases e:lk S s.tgt with
  | none=>
   have : ∀ x,Dsc P s.tgt x->lk S x=none:=fun x K=>by
    induction K with
    | refl=>exact e
    | step k _ ih=>
     obtain ⟨_,_,c,d,i,_⟩:=h.st _ _ k;rw [ih] at i;cases i
   rw [this _ d] at n;cases n
  | some b=>
   have k:=d.mono hp h b a e n;have i:=p b e;ac_nf
 have I:s.src≠s.tgt:=fun e=>C (by rw [e];exact .refl);have o:∀ v b,lk S v=some b->∃ j,lk (pu S s.tgt c) v=some j/\j<=b:=fun v b B=>by
  by_cases e:s.tgt=v
  ·subst e;exact ⟨c,JaO,Int.le_of_lt (p b B)⟩
  ·exact ⟨b,by rw [lk_ne e];exact B,Int.le_refl _⟩
 refine ⟨fun f w=>?_,fun v b g t=>?_,fun v q g=>?_,fun v b g=>?_,?_⟩
 ·obtain ⟨b,k,i⟩:=h.z f w;obtain ⟨j,A,y⟩:=o f b k;exact ⟨j,A,by ac_nf⟩
 ·by_cases e:s.tgt=v
  ·subst e;rw [JaO] at t;cases t
  ·rw [lk_ne e] at g t;exact h.p0 v b g t
 ·by_cases e:s.tgt=v
  ·subst e;rw [JaO] at g;cases g;exact ⟨hs,rfl,a,c,by rw [lk_ne (Ne.symm I)];exact n,JaO,by ac_nf⟩
  ·rw [lk_ne e] at g;obtain ⟨m,D,L,j,k,i,A⟩:=h.st v q g;obtain ⟨u,y,M⟩:=o _ _ k;exact ⟨m,D,u,j,y,by rw [lk_ne e];exact i,by ac_nf⟩
 ·by_cases e:s.tgt=v
  ·subst e;rw [JaO] at g;cases g;obtain ⟨f,w,l,E,F⟩:=h.wk _ _ n;exact ⟨f,w,l++[s], .snoc E hs,by rw [JbC,F,G]⟩
  ·rw [lk_ne e] at g;exact h.wk v b g
 ·obtain ⟨r,J⟩:=h.rk;refine ⟨fun x=>open Classical in if Dsc P s.tgt x then r x+r s.src+1 else r x,fun v q g=>?_⟩;dsimp only;by_cases e:s.tgt=v
  ·subst e;rw [JaO] at g;cases g;rw [if_neg C,if_pos .refl];ac_nf
  ·rw [lk_ne e] at g;have:=J v q g;by_cases d:Dsc P s.tgt q.src
   ·rw [if_pos d,if_pos (.step g d)];ac_nf
   ·rw [if_neg d];split
    ·ac_nf
    ·exact this
end
section
variable {ss:List SpS} {f0:Str} {fs:List Str} {π : Str->Int} {t:BF} {s:SpS}
theorem BI.rlx (hp:Pot π ss) (h:BI ss fs π t.S t.P) (hs:s∈ss):BI ss fs π (L2.rlx t s).S (L2.rlx t s).P:=by
 unfold L2.rlx;cases e:gains t.S s with
 | none=>exact h
 | some c=>exact h.put hp hs e
theorem BI.fold (hp:Pot π ss):∀ (l:List SpS) (t:BF),BI ss fs π t.S t.P->(∀ s∈l,s∈ss)->BI ss fs π (l.foldl L2.rlx t).S (l.foldl L2.rlx t).P
 | [],_,h,_=>h
 | s::l,t,h,hs=>by
  rw [foldl_cons];exact BI.fold hp l _ (h.rlx hp (hs s (by simp))) fun x hx=>hs x (by simp [hx])
def LeS (S S':SumD):Prop:=∀ v b,lk S v=some b->∃ b',lk S' v=some b'/\b'<=b
theorem LeS.refl {S:SumD}:LeS S S:=fun v b h=>⟨b,h,Int.le_refl _⟩
theorem LeS.trans {S S' S'':SumD} (h:LeS S S') (k:LeS S' S''):LeS S S'':=fun v b e=>by
 obtain ⟨c,f,g⟩:=h v b e;obtain ⟨d,a,i⟩:=k v c f;exact ⟨d,a,by ac_nf⟩
theorem LeS.rlx:LeS t.S (L2.rlx t s).S:=by
 unfold L2.rlx;cases e:gains t.S s with
 | none=>exact LeS.refl
 | some c=>
  obtain ⟨a,_,_,d⟩:=Ja8 e;intro v b f;by_cases q:s.tgt=v
  ·subst q;exact ⟨c,JaO,Int.le_of_lt (d b f)⟩
  ·exact ⟨b,by show lk (pu t.S s.tgt c) v=_;rw [lk_ne q];exact f,Int.le_refl _⟩
theorem LeS.fold:∀ (l:List SpS) (t:BF),LeS t.S (l.foldl L2.rlx t).S
 | [],_=>LeS.refl
 | s::l,t=>by
  rw [foldl_cons];exact LeS.rlx.trans (LeS.fold l _)
theorem JjW {a:Int} (h:lk t.S s.src=some a):∃ b,lk (rlx t s).S s.tgt=some b/\b<=a+s.wh:=by
 unfold rlx;cases e:gains t.S s with
 | none=>exact JbL e a h
 | some c=>
  obtain ⟨g,d,f,_⟩:=Ja8 e;rw [h] at d;cases d;exact ⟨c,JaO,by ac_nf⟩
theorem Jf1:∀ (l:List SpS) (t:BF) (s:SpS) (a:Int),s∈l->lk t.S s.src=some a->∃ b,lk (l.foldl rlx t).S s.tgt=some b/\b<=a+s.wh
 | [],_,_,_,h,_=>by cases h
 | x::l,t,s,a,h,ha=>by
  rw [foldl_cons];rcases mem_cons.mp h with e | h
  ·subst e;obtain ⟨b,h1,h2⟩:=JjW ha;obtain ⟨c,h3,h4⟩:=LeS.fold l _ _ _ h1;exact ⟨c,h3,by ac_nf⟩
  ·obtain ⟨a',h1,h2⟩:=LeS.rlx (s:=x) _ _ ha;obtain ⟨b,h3,h4⟩:=Jf1 l _ s a' h h1;exact ⟨b,h3,by ac_nf⟩
def itr (ss:List SpS):Nat->BF->BF
 | 0,t=>t
 | n+1,t=>trn ss (itr ss n t)
def bf0 (fs:List Str):BF:=⟨fs.foldl (fun S f=>pu S f 0) [],[],none⟩
theorem JiR:∀ (fs:List Str) (S:SumD) (v:Str) (b:Int),lk (fs.foldl (fun S f=>pu S f 0) S) v=some b↔(v∈fs/\b=0)\/(v∉fs/\lk S v=some b)
 | [],S,v,b=>by simp
 | f::fs,S,v,b=>by
  rw [foldl_cons,JiR fs (pu S f 0) v b,lk_pu];by_cases c:v∈fs
  ·simp [c]
  ·by_cases d:f=v
   ·subst d;simp [c];exact eq_comm
   ·have d':v≠f:=fun e=>d e.symm;simp [c,d,d']
theorem Jey {fs:List Str} {v:Str} {b:Int}:lk (bf0 fs).S v=some b↔v∈fs/\b=0:=by
 unfold bf0;rw [JiR fs [] v b];simp [lk]
theorem BI.start:BI ss fs π (bf0 fs).S (bf0 fs).P where
 z:=fun f c=>⟨0,Jey.mpr ⟨c,rfl⟩,Int.le_refl _⟩
 p0:=fun v b h _=>Jey.mp h
 st:=fun v s h=>by cases h
 wk:=fun v b h=>by
  obtain ⟨d,a⟩:=Jey.mp h;exact ⟨v,d,[], .nil,a.symm⟩
 rk:=⟨fun _=>0,fun v s h=>by cases h⟩
theorem BI.itr (hp:Pot π ss):∀ n,BI ss fs π (L2.itr ss n (bf0 fs)).S (L2.itr ss n (bf0 fs)).P
 | 0=>BI.start
 | n+1=>BI.fold hp ss _ (BI.itr hp n) fun _ h=>h
theorem Ji2 (hf:f0∈fs):∀ (i:Nat) (l:List SpS) (v:Str),Wk ss f0 l v->l.length<=i->∃ b,lk (itr ss i (bf0 fs)).S v=some b/\b<=wgt l:=by
 intro i;induction i with
 | zero=>
  intro l v h a;cases h with
  | nil=>exact ⟨0,Jey.mpr ⟨hf,rfl⟩,Int.le_refl _⟩
  | snoc _ _=>simp at a
 | succ i ih=>
  intro l v h a;cases h with
  | nil=>
   obtain ⟨b,e,f⟩:=ih [] f0 .nil (by simp);obtain ⟨c,d,g⟩:=LeS.fold ss { itr ss i (bf0 fs) with ch:=none } _ _ e;exact ⟨c,d,by ac_nf⟩
  | @snoc l s h hs=>
   obtain ⟨b,e,f⟩:=ih l _ h (by simpa using a);obtain ⟨c,d,g⟩:=Jf1 ss { itr ss i (bf0 fs) with ch:=none } s b hs e;exact ⟨c,d,by rw [JbC];ac_nf⟩
theorem Wk.cut (hp:Pot π ss) {l:List SpS} {u:Str} (h:Wk ss f0 l u):∀ x,x∈f0::l.map (·.tgt)->(f0::l.map (·.tgt)).Nodup->∃ p,Wk ss f0 p x/\wgt p+(π u-π x)<=wgt l/\(f0::p.map (·.tgt)).Nodup:=by
 induction h with
 | nil=>
  intro x a b;have : x=f0:=by simpa using a
  subst this;exact ⟨[], .nil,by ac_nf,b⟩
 | @snoc l s h hs ih=>
  intro x a b;by_cases e:x=s.tgt
  ·subst e;exact ⟨l++[s], .snoc h hs,by ac_nf,b⟩
  ·have c:x∈f0::l.map (·.tgt):=by
    rw [map_append, <- cons_append] at a;rcases mem_append.mp a with a | a
    ·exact a
    ·exact absurd (by simpa using a) e
   have d:(f0::l.map (·.tgt)).Nodup:=by
    rw [map_append, <- cons_append] at b;exact (nodup_append.mp b).1
   obtain ⟨p,g,i,f⟩:=ih x c d;have:=hp s hs;exact ⟨p,g,by rw [JbC];ac_nf,f⟩
theorem Wk.simple (hp:Pot π ss) {l:List SpS} {v:Str} (h:Wk ss f0 l v):∃ p,Wk ss f0 p v/\wgt p<=wgt l/\(f0::p.map (·.tgt)).Nodup:=by
 induction h with
 | nil=>exact ⟨[], .nil,Int.le_refl _,by simp⟩
 | @snoc l s h hs ih=>
  obtain ⟨p,f,n,d⟩:=ih;have:=hp s hs;by_cases c:s.tgt∈f0::p.map (·.tgt)
  ·obtain ⟨q,g,m,j⟩:=f.cut hp _ c d;exact ⟨q,g,by rw [JbC];ac_nf,j⟩
  ·refine ⟨p++[s], .snoc f hs,by rw [JbC,JbC];ac_nf,?_⟩;rw [map_append, <- cons_append];exact nodup_append.mpr ⟨d,by simp,fun a i b k e=>c (by
    have q:b=s.tgt:=by simpa using k
    rw [<- q, <- e];exact i)⟩
theorem Wk.mem {l:List SpS} {v:Str} (h:Wk ss f0 l v):∀ s∈l,s∈ss:=by
 induction h with
 | nil=>intro s h;cases h
 | snoc _ hs ih=>
  intro x a;rcases mem_append.mp a with a | a
  ·exact ih x a
  ·rw [mem_singleton.mp a];exact hs
theorem Wk.len {l:List SpS} {v:Str} (h:Wk ss f0 l v) (hn:(f0::l.map (·.tgt)).Nodup):l.length<=ss.length:=by
 have:=sub_len (l.map (·.tgt)) (ss.map (·.tgt)) (nodup_cons.mp hn).2 fun x b=>by
  obtain ⟨s,a,rfl⟩:=mem_map.mp b;exact mem_map.mpr ⟨s,h.mem s a,rfl⟩
 simpa using this
theorem Jil (hp:Pot π ss):∀ s∈ss,gains (itr ss ss.length (bf0 fs)).S s=none:=fun s o=>by
 cases e:gains (itr ss ss.length (bf0 fs)).S s with
 | none=>rfl
 | some c=>
  obtain ⟨a,i,t,d⟩:=Ja8 e;obtain ⟨f,m,l,h,q⟩:=(BI.itr hp ss.length (fs:=fs)).wk _ _ i;obtain ⟨p,g,k,j⟩:=(Wk.snoc h o).simple hp;obtain ⟨b,n,r⟩:=Ji2 m _ p _ g (g.len j);have:=d b n;rw [JbC] at k;ac_nf
theorem Jfm:∀ (l:List SpS) (t:BF),(l.foldl rlx t).ch=none->l.foldl rlx t=t/\∀ s∈l,gains t.S s=none
 | [],t,_=>⟨rfl,fun s h=>by cases h⟩
 | x::l,t,h=>by
  rw [foldl_cons] at h ⊢;obtain ⟨h1,h2⟩:=Jfm l _ h;rw [h1] at h;cases e:gains t.S x with
  | none=>
   have ex:rlx t x=t:=by unfold rlx;rw [e]
   rw [ex] at h1 h2 ⊢;refine ⟨h1,fun s hs=>?_⟩;rcases mem_cons.mp hs with q | hs
   ·subst q;exact e
   ·exact h2 s hs
  | some c=>
   unfold rlx at h;rw [e] at h;cases h
theorem Jhd:∀ (l:List SpS) (t:BF),(∀ s∈l,gains t.S s=none)->l.foldl rlx t=t
 | [],_,_=>rfl
 | x::l,t,h=>by
  have ex:rlx t x=t:=by unfold rlx;rw [h x (by simp)]
  rw [foldl_cons,ex];exact Jhd l t fun s hs=>h s (by simp [hs])
def bfR (ss:List SpS):Nat->BF->BF
 | 0,t=>t
 | n+1,t=>if (trn ss t).ch=none then trn ss t else bfR ss n (trn ss t)
structure BE (ss:List SpS) (fs:List Str) (P:LasD):Prop where
 ex:∃ S:SumD, ∃ r:Str->Nat,(∀ f∈fs, ∃ b,lk S f=some b)/\(∀ v b,lk S v=some b->lk P v=none->v∈fs/\b=0)/\(∀ v s,lk P v=some s->s∈ss/\s.tgt=v/\r s.src<r v/\∃ a,lk S s.src=some a/\lk S v=some (a+s.wh))/\∀ s∈ss, ∀ a,lk S s.src=some a->∃ b,lk S s.tgt=some b/\b<=a+s.wh
theorem BE.of {n:Nat} (hp:Pot π ss) (h:(itr ss (n+1) (bf0 fs)).ch=none):BE ss fs (itr ss (n+1) (bf0 fs)).P:=by
 have b:=BI.itr hp n (fs:=fs);obtain ⟨x,i⟩:=Jfm ss { itr ss n (bf0 fs) with ch:=none } h;have e:itr ss (n+1) (bf0 fs)={ itr ss n (bf0 fs) with ch:=none }:=x;rw [e];generalize itr ss n (bf0 fs)=t at *;obtain ⟨r,u⟩:=b.rk;refine ⟨t.S,r,fun f p=>⟨_,(b.z f p).choose_spec.1⟩,b.p0,fun v s k=>?_,fun s w a o=>JbL (i s w) a o⟩;obtain ⟨m,q,a,c,l,g,y⟩:=b.st v s k;obtain ⟨d,j,A⟩:=JbL (i s m) a l;rw [q,g] at j;cases j;exact ⟨m,q,u v s k,a,l,by rw [g];congr 1;ac_nf⟩
end
theorem Jg8 {b n:Int} (h:1<=n):n∣b*n.fdiv (Mth.g b n):=by
 have i:=Mth.g_pos (a:=b) (b:=n) ∅;obtain ⟨c,d⟩:=Mth.Jde b n;have e:=Mth.Ja4 (Mth.JcD b n) (by ac_nf:Mth.g b n≠0);refine ⟨c,?_⟩;generalize hg:Mth.g b n=g at *;generalize n.fdiv g=f at *;rw [d, <- e];rw [Int.mul_right_comm,Int.mul_comm g f]
theorem JgP {ts:List TD}:∀ i,(Ch.all (ts.take i)).length<=2*i:=fun i=>by
 induction i with
 | zero=>simp [Ch.all]
 | succ i ih=>
  rw [take_succ];cases ts[i]? with
  | none=>simp;ac_nf
  | some t=>
   have : (Ch.steps t).length<=2:=by unfold Ch.steps fwd bwd;cases t.hi <;> cases t.lo <;> simp
   simp only [Ch.all,List.flatMap_append,Option.toList_some,List.flatMap_cons,List.flatMap_nil,append_nil,length_append] at ih ⊢;ac_nf
section
variable {α : Type} {R R' : α->V->Prop}
def DV (R : α->V->Prop):List (Str × α)->List (Key × V)->Prop
 | [],kv=>kv=[]
 | p::P,kv=>∃ v r,kv=(Sum.inr p.1,v)::r/\R p.2 v/\DV R P r
theorem DV.len:∀ {P:List (Str × α)} {kv:List (Key × V)},DV R P kv->kv.length=P.length
 | [],_,h=>by rw [h];rfl
 | p::P,_,⟨v,r,e,_,h⟩=>by rw [e,length_cons,length_cons,h.len]
theorem DV.keys:∀ {P:List (Str × α)} {kv:List (Key × V)},DV R P kv->kv.map (·.1)=(P.map (·.1)).map Sum.inr
 | [],_,h=>by rw [h];rfl
 | p::P,_,⟨v,r,e,_,h⟩=>by rw [e,map_cons,map_cons,map_cons,h.keys]
theorem DV.mono (m:∀ a v,R a v->R' a v):∀ {P:List (Str × α)} {kv:List (Key × V)},DV R P kv->DV R' P kv
 | [],_,h=>h
 | p::P,_,⟨v,r,e,h1,h⟩=>⟨v,r,e,m _ _ h1,h.mono m⟩
theorem DV.no {z:Str}:∀ {P:List (Str × α)} {kv:List (Key × V)},DV R P kv->lk P z=none->valV kv (Sum.inr z)=none
 | [],_,h,_=>by rw [h];rfl
 | p::P,_,⟨v,r,e,_,h⟩,n=>by
  unfold lk at n;by_cases c:p.1=z
  ·rw [if_pos c] at n;cases n
  ·rw [if_neg c] at n;rw [e,JcL (by simpa using c)];exact h.no n
theorem DV.at {z:Str} {a : α}:∀ {P:List (Str × α)} {kv:List (Key × V)},DV R P kv->lk P z=some a->∃ v,valV kv (Sum.inr z)=some v/\R a v
 | [],_,_,n=>by cases n
 | p::P,_,⟨v,r,e,h1,h⟩,n=>by
  unfold lk at n;by_cases c:p.1=z
  ·rw [if_pos c] at n;cases n;exact ⟨v,by rw [e];exact JcM (by simpa using c),h1⟩
  ·rw [if_neg c] at n;rw [e,JcL (by simpa using c)];exact h.at n
theorem DV.any {f:Str}:∀ {P:List (Str × α)} {kv:List (Key × V)},DV R P kv->(kv.any fun q=>decide (q.1=Sum.inr f))=(P.any fun p=>decide (p.1=f))
 | [],_,h=>by rw [h];rfl
 | p::P,_,⟨v,r,e,_,h⟩=>by
  rw [e,any_cons,any_cons,h.any]
  congr 1
  simp
theorem DV.map {f:Str} {a : α} {v:V} (ra:R a v):∀ {P:List (Str × α)} {kv:List (Key × V)},DV R P kv->DV R (P.map fun p=>if p.1=f then (p.1,a) else p) (kv.map fun q=>if q.1=Sum.inr f then (q.1,v) else q)
 | [],_,h=>by rw [h];exact rfl
 | p::P,_,⟨w,r,e,h1,h⟩=>by
  rw [e,map_cons,map_cons];by_cases c:p.1=f
  ·rw [if_pos c,if_pos (by simpa using c)];exact ⟨v,_,rfl,ra,h.map ra⟩
  ·rw [if_neg c,if_neg (by simpa using c)];exact ⟨w,_,rfl,h1,h.map ra⟩
theorem DV.app {f:Str} {a : α} {v:V} (ra:R a v):∀ {P:List (Str × α)} {kv:List (Key × V)},DV R P kv->DV R (P++[(f,a)]) (kv++[(Sum.inr f,v)])
 | [],_,h=>by rw [h];exact ⟨v,[],rfl,ra,rfl⟩
 | p::P,_,⟨w,r,e,h1,h⟩=>by
  rw [e];exact ⟨w,_,rfl,h1,h.app ra⟩
theorem DV.put {f:Str} {a : α} {v:V} {P:List (Str × α)} {kv:List (Key × V)} (h:DV R P kv) (ra:R a v):DV R (pu P f a) (putK kv (Sum.inr f) v):=by
 unfold pu putK;rw [h.any];split
 ·exact h.map ra
 ·exact h.app ra
end
theorem JeL {α : Type} {z:Str}:∀ {P:List (Str × α)},z∈P.map (·.1)->∃ a,lk P z=some a
 | [],h=>by cases h
 | p::P,h=>by
  unfold lk;by_cases c:p.1=z
  ·exact ⟨_,if_pos c⟩
  ·rw [if_neg c];refine JeL ?_;rcases mem_cons.mp h with e | h
   ·exact absurd e.symm c
   ·exact h
theorem JcW {α : Type} {l:List (Str × α)} {f:Str} {a : α}:(pu l f a).length<=l.length+1:=by
 unfold pu;split <;> simp
inductive Chn (P:LasD):Str->List SpS->Prop
 | nil {v:Str}:lk P v=none->Chn P v []
 | snoc {v:Str} {s:SpS} {l:List SpS}:lk P v=some s->Chn P s.src l->Chn P v (l++[s])
section
variable {ss:List SpS} {fs:List Str} {P:LasD}
theorem Chn.uniq {v:Str} {l:List SpS} (h:Chn P v l):∀ {k:List SpS},Chn P v k->l=k:=by
 induction h with
 | nil h0=>
  intro k a;cases a with
  | nil _=>rfl
  | snoc h _=>rw [h0] at h;cases h
 | snoc h _ ih=>
  intro k a;cases a with
  | nil h0=>rw [h] at h0;cases h0
  | snoc h' hk'=>
   rw [h] at h';cases h';rw [ih hk']
theorem BE.chain (h:BE ss fs P):∃ S:SumD,(∀ v,(∃ b,lk S v=some b)↔(v∈fs\/∃ s,lk P v=some s))/\(∀ v b,lk S v=some b->∃ l,Chn P v l/\wgt l=b/\∃ f∈fs,lk P f=none/\Wk ss f l v/\(f::l.map (·.tgt)).Nodup)/\∀ s∈ss, ∀ a,lk S s.src=some a->∃ b,lk S s.tgt=some b/\b<=a+s.wh:=by
 obtain ⟨S,r,I,j,A,H⟩:=h.ex;have key:∀ n v b,r v<=n->lk S v=some b->∃ l,Chn P v l/\wgt l=b/\∃ f∈fs,lk P f=none/\Wk ss f l v/\(f::l.map (·.tgt)).Nodup/\∀ x∈f::l.map (·.tgt),x=v\/r x<r v:=by
  intro n;induction n with
  | zero=>
   intro v b G g;cases e:lk P v with
   | none=>
    obtain ⟨i,d⟩:=j v b g e;exact ⟨[], .nil e,d.symm,v,i,e, .nil,by simp,fun x c=>.inl (by simpa using c)⟩
   | some s=>
    have:=(A v s e).2.2.1;ac_nf
  | succ n ih=>
   intro v b G g;cases e:lk P v with
   | none=>
    obtain ⟨i,d⟩:=j v b g e;exact ⟨[], .nil e,d.symm,v,i,e, .nil,by simp,fun x c=>.inl (by simpa using c)⟩
   | some s=>
    obtain ⟨m,q,D,a,i,d⟩:=A v s e;rw [g] at d;cases d;obtain ⟨l,o,t,f,u,k,w,p,E⟩:=ih s.src a ∅ i;subst q;have B:∀ x∈f::l.map (·.tgt),r x<r s.tgt:=fun x c=>by
     rcases E x c with z | z
     ·rw [z];exact D
     ·ac_nf
    refine ⟨l++[s], .snoc e o,by rw [JbC,t],f,u,k, .snoc w m,?_,fun x c=>?_⟩
    ·rw [map_append, <- cons_append];refine nodup_append.mpr ⟨p,by simp,fun x c y C z=>?_⟩;have q:y=s.tgt:=by simpa using C
     have:=B x c;rw [z,q] at this;ac_nf
    ·rw [map_append, <- cons_append] at c;rcases mem_append.mp c with c | c
     ·exact .inr (B x c)
     ·exact .inl (by simpa using c)
 refine ⟨S,fun v=>⟨fun ⟨b,g⟩=>?_,fun F=>?_⟩,fun v b g=>?_,H⟩
 ·cases e:lk P v with
  | none=>exact .inl (j v b g e).1
  | some s=>exact .inr ⟨s,rfl⟩
 ·rcases F with e | ⟨s,e⟩
  ·exact I v e
  ·obtain ⟨_,_,_,a,_,d⟩:=A v s e;exact ⟨_,d⟩
 ·obtain ⟨l,o,t,f,u,k,w,p,_⟩:=key (r v) v b (Nat.le_refl _) g;exact ⟨l,o,t,f,u,k,w,p⟩
end
theorem JhN {ss:List SpS} {x:Str->Rat} (h:∀ s∈ss,x s.tgt<=x s.src+(s.wh:Rat)):Pot (fun f=>(x f).floor) ss:=fun s b=>by
 have a:=Rat.floor_monotone (h s b);rw [Rat.floor_add_intCast] at a;exact a
def Lnk (P:LasD):Str->List SpS->Prop
 | _,[]=>True
 | z,s::r=>s.src=z/\lk P s.tgt=some s/\Lnk P s.tgt r
def lnkE:Str->List SpS->Str
 | z,[]=>z
 | _,s::r=>lnkE s.tgt r
theorem Lnk.add {P:LasD} {z:Str} {l:List SpS} {s:SpS} (h:Lnk P z l) (hs:lk P z=some s) (ht:s.tgt=z):Lnk P s.src (s::l):=⟨rfl,by rw [ht];exact hs,by rw [ht];exact h⟩
theorem Jf9 {z:Str} {l:List SpS} {s:SpS} (ht:s.tgt=z):lnkE s.src (s::l)=lnkE z l:=by
 show lnkE s.tgt l=_;rw [ht]
def Itb (K:W.Frag) (a:Addr) (n:Nat):It :=
 ⟨fun i H=>i<n/\∃ xs x,SqL K H a xs/\xs[n-1-i]?=some x,fun i H x H'=>H'=H/\∀ xs,SqL K H a xs->xs[n-1-i]?=some x,fun i _=>i=n⟩
theorem JiL {P:Program} {w:World} {K:W.Frag} {tg:Expr} (a it:Addr) (n:Nat):Turn P w K tg (Itb K a n) [it] it (fun i h=>h.IsRevIter it a ((n:Int)-1-(i:Int))) where
 mem:=by simp
 obj:=fun i h f b l=>by
  have e:b=it:=by simpa using l
  subst e;obtain ⟨o,e,c,d⟩:=f;exact ⟨o,e,fun v z=>by rw [d] at z;cases z⟩
 keep:=fun i h q f k=>f.at fun o e=>k it (by simp) o e
 item:=by
  intro X C t F J i g s σ H E I r f m;subst C t F;obtain ⟨li,xs,x,L,M⟩:=m;obtain ⟨Y,Q,p,hz⟩:=I.list L;obtain ⟨u,R,U⟩:=Q.get M;obtain ⟨B,D,O,G,y,A⟩:=r it (by simp);have N:(n:Int)-1-(i:Int)=((n-1-i:Nat):Int):=by ac_nf
  rw [N] at f;refine wpAny_pyNext_rev_item f p.isList (x:=u) (by simpa using R) fun q j Z=>?_;have I1:Inv X g σ H { s with heap:=q }:=I.turned (t':=s.toks) (fun b o l e=>(Z.2 b l).trans e) B D G y A;have V:((n-1-i:Nat):Int)-1=(n:Int)-1-((i+1:Nat):Int):=by ac_nf
  rw [V] at j;obtain ⟨o,e,c,d⟩:=id j;exact ⟨u,rfl,go_of (s:={ s with heap:=q }) e c d ⋯ ⟨x,H,I1,U,⟨rfl,fun ys S=>by rw [I.list_inj S L];exact M⟩,j,fun b l=>(r b l).1⟩⟩
 done:=by
  intro X C t F J i g s σ H E I r f m;subst C t F;have m:i=n:=m;subst m;obtain ⟨B,D,O,G,y,A⟩:=r it (by simp);have e:(i:Int)-1-(i:Int) = -1:=by ac_nf
  rw [e] at f;exact wpAny_pyNext_rev_end (I.ok.hd J) f fun q T=>⟨rfl,I.turned (t':=s.toks) (fun b o l e=>T b o l e) B D G y A⟩
 self:=fun _ _ _ _ _ f h=>wpAny_pyIter_revIter f h
def iRevL (K:W.Frag) (tl:TE):TI:=fun σ H R=>tl σ H fun x H1=>∃ a xs,x=.ref a/\SqL K H1 a xs/\R (Itb K a xs.length) H1
section
variable {X:Cx} {tg:Expr}
theorem JjQ {e:Expr} {t:TE} {p2 pos2:Pos} {y:Str} (hy:y="reversed") (hg2:Gl X y) (hm2:X.mg y=none) (hv2:bootBuiltins y=some (.type "reversed")) (ha:PE X e t) (he:starEach [e] X.env=(false,eval e X.env)::starEach [] X.env:=by rfl) :
  PI X tg (.Call (.Name y p2) [e] [] pos2) (iRevL X.K t):=by
 intro c s σ H R I h;have r:y≠"__name__":=by rw [hy];decide
 have l:(y == ("__debug__" : Str))=false:=by rw [hy];decide
 refine wpAny_Call_Name_kw (Jcm I hg2 hm2 hv2 ?_ r l);refine PyProof.Rows.callWith_type1 ?_ he rfl;rw [he];show wpAny _ _ (spliced ((false,eval e X.env)::backTo pos2 (starEach [] X.env))) _ _ s;refine Calls.spliced_cons (thn (ha c s σ H _ I h) fun u d ⟨x,n,I1,i,q⟩=>Calls.spliced_nil ?_);obtain ⟨a,g,rfl,m,q⟩:=q;obtain rfl:u=Value.ref a:=i;obtain ⟨f,k,p,w⟩:=I1.list m;refine call_reversed_list p.isList ?_;refine wpAny_pyIter_revIter ⟨_,Heap.get?_push_size _ rfl,rfl,rfl⟩ ?_;have z:=k.length;refine ⟨d.heap.objs.size,[d.heap.objs.size],_,_,n,rfl,I1.kept (t':=d.toks) fun b o e=>Heap.get?_push_of_some _ e,JiL a _ g.length,?_,fun b v=>?_,q⟩
 ·refine ⟨_,Heap.get?_push_size _ rfl,rfl,?_⟩;unfold revObj;have j:((f.toArray.size:Nat):Int)-1=(g.length:Int)-1-((0:Nat):Int):=by
   rw [size_toArray];ac_nf
  rw [j]
 ·have e:b=d.heap.objs.size:=by simpa using v
  subst e;exact I1.fpOk (Nat.le_refl _) (I1.hok.fresh (Nat.le_refl _))
end
theorem Jiz {X:Cx} {K:W.Frag} {tg:Expr} (hK:X.K=K) {e:Expr} {t:TE} {p2 pos2:Pos} {y:Str} (hy:y="reversed") (hg2:Gl X y) (hm2:X.mg y=none) (hv2:bootBuiltins y=some (.type "reversed")) (ha:PE X e t) (he:starEach [e] X.env=(false,eval e X.env)::starEach [] X.env:=by rfl) :
  PI X tg (.Call (.Name y p2) [e] [] pos2) (iRevL K t):=hK ▸ JjQ hy hg2 hm2 hv2 ha he
section
variable {K:W.Frag} {tl td:TE} {g:TG} {tb:TS} {D:Ends} {σ : St} {H:Hp}
theorem y54y:tFor (iRevL K tl) g tb D σ H=tl σ H fun x H1=>∃ a xs,x=.ref a/\SqL K H1 a xs/\ForJ (Itb K a xs.length) g tb D σ H1:=rfl
theorem y55y:tFor (iKeys td) g tb D σ H=td σ H fun x H1=>∃ (d:Addr) (kvs:List (Key × V)) (ss:List Str),x=.ref d/\H1 d=some (.dK kvs)/\kvs.map (·.1)=ss.map Sum.inr/\∀ od,ForJ (Itk d od kvs ss) g tb D σ (upd H1 d (.frz od (.dK kvs))):=rfl
theorem ForJ.rev {a:Addr} {xs:List V} (Pv:Nat->St->Hp->Prop) (h0:Pv 0 σ H) (hl:∀ i σ H',Pv i σ H'->SqL K H' a xs)
  (hs:∀ i x σ H,i<xs.length->xs[xs.length-1-i]?=some x->Pv i σ H->∀ N:St->Hp->Prop,(∀ σ' H',Pv (i+1) σ' H'->N σ' H')->g x σ H fun σ2 H2=>tb { D with nx:=N,ct:=N,bk:=D.nx } σ2 H2) (hd:∀ σ H,Pv xs.length σ H->D.nx σ H):ForJ (Itb K a xs.length) g tb D σ H:=by
 refine ⟨fun i m σ H=>m=xs.length-i/\i<=xs.length/\Pv i σ H,⟨xs.length,by simp,Nat.zero_le _,h0⟩,?_⟩;rintro i m σ H ⟨rfl,f,p⟩;by_cases b:i<xs.length
 ·have c:=List.getElem?_eq_getElem (by ac_nf:xs.length-1-i<xs.length);refine .inr ⟨⟨b,xs,_,hl i σ H p,c⟩,Pv (i+1),fun σ' H' d=>⟨xs.length-(i+1),by ac_nf,rfl,b,d⟩,fun x H' y=>?_⟩;obtain ⟨e,y⟩:=y;subst e;exact hs i x σ _ b (y xs (hl i σ _ p)) p _ fun _ _ h=>h
 ·have e:i=xs.length:=by ac_nf
  subst e;exact .inl ⟨rfl,hd σ H p⟩
theorem ForJ.keys {d:Addr} {od:Obj} {kvs:List (Key × V)} {ss:List Str} (Pv:Nat->St->Hp->Prop) (h0:Pv 0 σ H) (hl:∀ i σ H',Pv i σ H'->H' d=some (.frz od (.dK kvs)))
  (hs:∀ i z σ H,ss[i]?=some z->Pv i σ H->∀ N:St->Hp->Prop,(∀ σ' H',Pv (i+1) σ' H'->N σ' H')->g (.str z) σ H fun σ2 H2=>tb { D with nx:=N,ct:=N,bk:=D.nx } σ2 H2) (hd:∀ σ H,Pv ss.length σ H->D.nx σ H):ForJ (Itk d od kvs ss) g tb D σ H:=by
 refine ⟨fun i m σ H=>m=ss.length-i/\i<=ss.length/\Pv i σ H,⟨ss.length,by simp,Nat.zero_le _,h0⟩,?_⟩;rintro i m σ H ⟨rfl,c,p⟩;by_cases a:i<ss.length
 ·refine .inr ⟨⟨hl i σ H p,a⟩,Pv (i+1),fun σ' H' b=>⟨ss.length-(i+1),by ac_nf,rfl,a,b⟩,fun x H' y=>?_⟩;obtain ⟨e,y⟩:=y;subst e;rw [List.getElem?_map,List.getElem?_eq_getElem a] at y;cases y;exact hs i ss[i] σ _ (List.getElem?_eq_getElem a) p _ fun _ _ h=>h
 ·have e:i=ss.length:=by ac_nf
  subst e;exact .inl ⟨⟨hl _ σ H p,Nat.le_refl _⟩,hd σ H p⟩
end
def bF (ns:List (Int × Int)):Int:=ns.foldl (fun b n=>b*n.2.fdiv (Mth.g b n.2)) 1
theorem JgR {l:List (Int × Int)} {n:Int × Int}:bF (l++[n])=bF l*n.2.fdiv (Mth.g (bF l) n.2):=by
 unfold bF;rw [foldl_append];rfl
section
variable {α : Type}
theorem Jf8 {z:Str} {a : α}:∀ {P:List (Str × α)},lk P z=some a->z∈P.map (·.1)
 | [],h=>by cases h
 | p::P,h=>by
  unfold lk at h;by_cases c:p.1=z
  ·rw [map_cons,c];exact mem_cons_self
  ·rw [if_neg c] at h;rw [map_cons];exact mem_cons_of_mem _ (Jf8 h)
theorem pu_nd {l:List (Str × α)} {f:Str} {a : α} (h:(l.map (·.1)).Nodup):((pu l f a).map (·.1)).Nodup:=by
 unfold pu;split
 ·have e:∀ l:List (Str × α),(l.map fun p=>if p.1=f then (p.1,a) else p).map (·.1)=l.map (·.1):=fun l=>by
   rw [List.map_map];refine List.map_congr_left fun p _=>?_;show (if p.1=f then (p.1,a) else p).1=p.1;split <;> rfl
  rw [e];exact h
 ·rename_i c;rw [map_append];refine nodup_append.mpr ⟨h,by simp,fun x d y b e=>?_⟩;have b:y=f:=by simpa using b
  obtain ⟨p,g,rfl⟩:=mem_map.mp d;exact c (List.any_eq_true.mpr ⟨p,g,by simp [e,b]⟩)
end
section
variable {ss:List SpS} {fs:List Str} {P:LasD}
theorem BE.chn (h:BE ss fs P) {v:Str} {l:List SpS} (hv:v∈fs\/∃ s,lk P v=some s) (c:Chn P v l):(∀ s∈l,s∈ss)/\l.length<=ss.length/\∃ f∈fs,lk P f=none/\Wk ss f l v/\(f::l.map (·.tgt)).Nodup:=by
 obtain ⟨S,g,i,_⟩:=h.chain;obtain ⟨b,j⟩:=(g v).mpr hv;obtain ⟨k,n,p,f,o,m,a,d⟩:=i v b j;have e:=Chn.uniq c n;subst e;exact ⟨a.mem,a.len d,f,o,m,a,d⟩
def cs (l:List SpS):Int × Int:=l.foldl (fun a s=>addF a s.cost) (0,1)
theorem JgX {l:List SpS} {s:SpS}:cs (l++[s])=addF (cs l) s.cost:=by
 unfold cs;rw [foldl_append];rfl
theorem JiT:∀ (l:List SpS) (a:Int × Int) (n:Nat),FB (201+12*n) (11*n+1) a->(∀ s∈l,FB 200 11 s.cost)->FB (201+12*(n+l.length)) (11*(n+l.length)+1) (l.foldl (fun a s=>addF a s.cost) a)
 | [],_,_,h,_=>h
 | s::l,a,n,h,k=>by
  rw [foldl_cons];have h1:FB (201+12*(n+1)) (11*(n+1)+1) (addF a s.cost):=(FB.add (n:=212+12*n) (m:=11*n+1+11) h (k s mem_cons_self) ∅ ∅ ∅).mono ∅ ∅;have:=JiT l _ (n+1) h1 fun s hs=>k s (mem_cons_of_mem _ hs);rw [length_cons,show n+(l.length+1)=n+1+l.length by ac_nf];exact this
theorem fb01:FB 201 1 (0,1):=⟨by unfold Mth.Sz;exact Nat.two_pow_pos _,by unfold Mth.Sz;decide,by decide,by decide⟩
theorem cs_fb {l:List SpS} (h:∀ s∈l,FB 200 11 s.cost):FB (201+12*l.length) (11*l.length+1) (cs l):=by
 have:=JiT l (0,1) 0 fb01 h
 rwa [Nat.zero_add] at this
structure TBk (P:LasD) (fs:List Str) (tb:List (Str × ((Int × Int) × List SpS))):Prop where
 nd:(tb.map (·.1)).Nodup
 en:∀ v e,lk tb v=some e->(v∈fs\/∃ s,lk P v=some s)/\Chn P v e.2/\e.1=cs e.2
theorem TBk.nil:TBk P fs []:=⟨by simp,fun v e h=>by cases h⟩
theorem TBk.one {tb:List (Str × ((Int × Int) × List SpS))} {f:Str} (h:TBk P fs tb) (hf:f∈fs) (hn:lk P f=none):TBk P fs (pu tb f ((0,1),[])) where
 nd:=pu_nd h.nd
 en:=fun v e a=>by
  rw [lk_pu] at a;by_cases c:f=v
  ·rw [if_pos c] at a;cases a;subst c;exact ⟨.inl hf, .nil hn,rfl⟩
  ·rw [if_neg c] at a;exact h.en v e a
theorem TBk.put {tb:List (Str × ((Int × Int) × List SpS))} {s:SpS} {e:(Int × Int) × List SpS} (h:TBk P fs tb) (he:lk tb s.src=some e) (hs:lk P s.tgt=some s):TBk P fs (pu tb s.tgt (addF e.1 s.cost,e.2++[s])) where
 nd:=pu_nd h.nd
 en:=fun v x a=>by
  rw [lk_pu] at a;by_cases c:s.tgt=v
  ·rw [if_pos c] at a;cases a;obtain ⟨_,b,d⟩:=h.en _ _ he;subst c;exact ⟨.inr ⟨s,hs⟩, .snoc hs b,by rw [JgX,d]⟩
  ·rw [if_neg c] at a;exact h.en v x a
theorem TBk.keep {tb:List (Str × ((Int × Int) × List SpS))} {f:Str} {a:(Int × Int) × List SpS} {z:Str} (h:∃ e,lk tb z=some e):∃ e,lk (pu tb f a) z=some e:=by
 obtain ⟨e,b⟩:=h;rw [lk_pu];by_cases c:f=z
 ·exact ⟨_,if_pos c⟩
 ·exact ⟨e,(if_neg c).trans b⟩
theorem BE.tb_len (h:BE ss fs P) {tb:List (Str × ((Int × Int) × List SpS))} (k:TBk P fs tb):tb.length<=fs.length+ss.length:=by
 have:=sub_len (tb.map (·.1)) (fs++ss.map (·.tgt)) k.nd fun x a=>by
  obtain ⟨e,b⟩:=JeL a;obtain ⟨_,_,_,_,f,_⟩:=h.ex;rcases (k.en x e b).1 with e | ⟨s,hs⟩
  ·exact mem_append_left _ e
  ·obtain ⟨c,d,_⟩:=f x s hs;exact mem_append_right _ (mem_map.mpr ⟨s,c,d⟩)
 rwa [length_map,length_append,length_map] at this
end
theorem Jex {xs:Array Nat} {j:Nat} (h1:xs.size=1) (hx:xs[0]?=some j) (k:Nat):SetTable.below xs k=if j<k then 1 else 0:=by
 have a:xs.getD 0 k=j:=by rw [Array.getD_eq_getD_getElem?,hx];rfl
 unfold SetTable.below;rw [h1];simp only [SetTable.below.go];rw [if_pos ⋯];show (if xs.getD 0 k<k then _ else _)=_;rw [a]
section
variable {prog:Program} {w:World} {A:Around} {E:Value->Shared->Prop} {s:Shared}
theorem Jij {a:Addr} {es:Array (Int × Value)} {ep:Nat} {t:SetTable} {Q:Value->Shared->Prop} (ha:s.heap.get? a=some (setO es ep t)) (hf:t.fits es.size=true) (hz:es.size<=1)
  (q1:Q (.ref s.heap.objs.size) { s with heap:=s.heap.push (itO (.int 0 0) 0 a es.size ep) }):wpAny (model prog w) A (pyIter (.ref a)) Q E s:=by
 have b:s.TypeIs (.ref a) "set":=⟨_,ha,rfl⟩;have c:¬ es.size > 1:=by ac_nf
 refine wpAny_pyIter_slot b PySem.F.slot_set_iter (wpAny_call_entry PySem.F.slot_set_iter b Jdd ?_ (PySem.F.args_set_iter_1 _));unfold Builtin.«frozenset.__iter__»;refine wpAny_bind (m:=Builtin.Frozenset.slot0 _ _) (wpAny_pure ?_);unfold Builtin.Frozenset.sizeOf;refine wpAny_bind (wpAny_bind (wpAny_setEntries_of ha rfl hf (wpAny_pure ?_)));unfold setDrawn;refine wpAny_bind (wpAny_bind (wpAny_setState_of ha rfl hf ?_));dsimp only;refine wpAny_bind (JbP ?_);refine wpAny_pure ?_;refine wpAny_ite_split (fun z=>absurd (show (!w.params.followText "set-order"&&(!t.plain&&decide (es.size > 1)))=true from z) (by simp [c])) (fun _=>?_);refine wpAny_bind (wpAny_pure (wpAny_bind (wpAny_setEpoch_of ha rfl hf ?_)));unfold newFields;refine wpAny_bind (wpAny_newObj_type (wpAny_pure ⟨_,rfl,"set_iterator",_,⟨_,Heap.get?_push_size _ rfl,rfl⟩,JaT.lookup,?_⟩));exact q1
theorem Jiq {I a:Addr} {e:Int × Value} {ep j:Nat} {t:SetTable} {Q:Option Value->Shared->Prop} (hI:s.heap.get? I=some (itO (.int 0 0) 0 a 1 ep)) (ha:s.heap.get? a=some (setO #[e] ep t)) (hf:t.fits 1=true) (ht:w.params.followText "set-order"=false) (hl:t.led=true) (hp:t.place.size=1) (hj:t.place[0]?=some j)
  (q:∀ h',h'.get? I=some (itO (.int ((j+1:Nat):Int) 0) 1 a 1 ep)->Heap.SameBut I s.heap h'->Q (some e.2) { s with heap:=h' }):wpAny (model prog w) A (pyNext (.ref I)) Q E s:=by
 have d:s.TypeIs (.ref I) "set_iterator":=⟨_,hI,rfl⟩;unfold pyNext;refine wpAny_bind (wpAny_attempt (wpAny_callSpecial?_slot (name:=Str.ofString "__next__") d JaT (wpAny_call_entry JaT d JbR ?_ (Jcq _))));unfold Builtin.«set_iterator.__next__»;refine wpAny_bind (m:=slotArgs _ _ _) (wpAny_pure ?_);refine wpAny_bind (wpAny_fieldsOf hI rfl ?_);show wpAny _ _ (setEntries a >>= _) _ _ _;refine wpAny_bind (wpAny_setEntries_of ha rfl hf ?_);rw [if_neg (by simp)];dsimp only;unfold setNext;refine wpAny_bind (wpAny_bind (wpAny_setState_of ha rfl hf ?_));dsimp only;refine wpAny_bind (JbP ?_);rw [if_neg (by rw [ht];decide)];refine wpAny_ite_split (fun z=>absurd (show (!t.plain&&decide ((#[e]:Array (Int × Value)).size > 1))=true from z) (by simp)) (fun _=>?_);refine wpAny_bind ?_;show wpAny _ _ (if (!t.led&&!(#[e]:Array (Int × Value)).isEmpty)=true then unsupported _ else pure ()) _ _ _;rw [if_neg (by simp [hl])];refine wpAny_pure (wpAny_pure ?_);have h:SetTable.below t.place (Int.toNat 0)=0:=by rw [Jex hp hj,if_neg (by simp)]
 rw [h,hj];refine wpAny_bind (wpAny_setField hI rfl (by simp) ?_);have c:=JdN (f':=.int ((j+1:Nat):Int) 0) (j:=0) (g:=fun b=>b.setIfInBounds 0 (rawInt ((j+1:Nat):Int))) hI rfl;refine wpAny_bind (wpAny_setField c rfl (by simp) ?_);have f:=JdN (f':=.int ((j+1:Nat):Int) 0) (j:=1) (g:=fun b=>b.setIfInBounds 1 (rawInt (((0:Nat):Int)+1))) c rfl;exact wpAny_pure ⟨_,rfl,wpAny_pure (q _ f ((Heap.SameBut.update ..).trans (Heap.SameBut.update ..)))⟩
theorem Jjp {I a:Addr} {e:Int × Value} {ep j:Nat} {t:SetTable} {Q:Option Value->Shared->Prop} (hh:A.handled=none) (hI:s.heap.get? I=some (itO (.int ((j+1:Nat):Int) 0) 1 a 1 ep)) (ha:s.heap.get? a=some (setO #[e] ep t)) (hf:t.fits 1=true) (ht:w.params.followText "set-order"=false) (hl:t.led=true) (hp:t.place.size=1) (hj:t.place[0]?=some j)
  (q:∀ h',(∀ b o,b≠I->s.heap.get? b=some o->h'.get? b=some o)->Q none { s with heap:=h' }):wpAny (model prog w) A (pyNext (.ref I)) Q E s:=by
 have c:s.TypeIs (.ref I) "set_iterator":=⟨_,hI,rfl⟩;unfold pyNext;refine wpAny_bind (wpAny_attempt (wpAny_callSpecial?_slot (name:=Str.ofString "__next__") c JaT (wpAny_call_entry JaT c JbR ?_ (Jcq _))));unfold Builtin.«set_iterator.__next__»;refine wpAny_bind (m:=slotArgs _ _ _) (wpAny_pure ?_);refine wpAny_bind (wpAny_fieldsOf hI rfl ?_);show wpAny _ _ (setEntries a >>= _) _ _ _;refine wpAny_bind (wpAny_setEntries_of ha rfl hf ?_);rw [if_neg (by simp)];dsimp only;unfold setNext;refine wpAny_bind (wpAny_bind (wpAny_setState_of ha rfl hf ?_));dsimp only;refine wpAny_bind (JbP ?_);rw [if_neg (by rw [ht];decide)];refine wpAny_ite_split (fun z=>absurd (show (!t.plain&&decide ((#[e]:Array (Int × Value)).size > 1))=true from z) (by simp)) (fun _=>?_);refine wpAny_bind ?_;show wpAny _ _ (if (!t.led&&!(#[e]:Array (Int × Value)).isEmpty)=true then unsupported _ else pure ()) _ _ _;rw [if_neg (by simp [hl])];refine wpAny_pure (wpAny_pure ?_);have d:SetTable.below t.place (Int.toNat ((j+1:Nat):Int))=1:=by rw [Jex hp hj,Int.toNat_natCast,if_pos ∅]
 have g:(#[e]:Array (Int × Value))[1]?=none:=by simp
 rw [d,g];dsimp only;refine wpAny_bind (wpAny_setField hI rfl (by simp) ?_);refine Jev hh fun h' k=>q h' fun b o f e=>k b o ?_;exact ((Heap.SameBut.update ..).extBut b o f e)
theorem Jgd {f:Nat->Nat} {e:Int × Value}:(pickOrder f #[e]).toList=[e]:=List.perm_singleton.mp (Jb5 f #[e])
theorem Jjw {a:Addr} {e:Int × Value} {ep:Nat} {t:SetTable} (hf:t.fits 1=true) (hl:w.params.followText "set-order"=false->t.led=true):W.KdlSrc prog w "set" a a 1 (fun _ v=>v=e.2) (fun h=>h.get? a=some (setO #[e] ep t)) where
 type:=fun _ c=>⟨_,c,rfl⟩
 there:=fun _ c=>⟨Heap.lt_size c,Heap.lt_size c⟩
 keep:=fun _ _ c k=>k a (.inl rfl) _ c
 notList:=by decide
 notTuple:=by decide
 hint:=fun _ _ _ _ c q=>Jc5 ⟨_,c,rfl⟩ q
 iter:=fun A s C c=>by
  have D:t.place.size=1:=by
   unfold SetTable.fits at hf;simp at hf;exact hf.1
  obtain ⟨j,F⟩:∃ j,t.place[0]?=some j:=⟨_,Array.getElem?_eq_getElem ∅⟩;refine ⟨itO (.int 0 0) 0 a 1 ep,fun i h=>(∃ k:Nat,h.get? s.heap.objs.size=some (itO (.int (k:Int) 0) i a 1 ep)/\(w.params.followText "set-order"=true->k=0)/\(w.params.followText "set-order"=false->(i=0/\k=0)\/(i=1/\k=j+1)))/\h.get? a=some (setO #[e] ep t),fun _ _ q=>Jij c hf (by simp) q,
  {
   sub:=fun b d=>by simp at d;simp [d]
   frame:=fun _ _ _ g k=>⟨by obtain ⟨⟨m,f,r⟩,_⟩:=g;exact ⟨m,k _ (by simp) _ f,r⟩,k _ (by simp) _ g.2⟩
   item:=fun i x Q E H g q=>by
    obtain ⟨⟨m,f,r,B⟩,p⟩:=g;have G:i=0:=by ac_nf
    subst G;cases ht:w.params.followText "set-order" with
    | true=>
     have n:=r ht;subst n;exact JeO f p hf ht (v:=e.2) (by rw [Jgd];rfl) fun l y u=>q _ l x.toks rfl ⟨⟨0,y,fun _=>rfl,(fun z=>by rw [ht] at z;cases z)⟩,u.extBut a _ (Nat.ne_of_lt (Heap.lt_size c)) p⟩ fun b o d z=>u.extBut b o (fun h=>d (by simp [h])) z
    | false=>
     have n:m=0:=by rcases B ht with z | z <;> ac_nf
     subst n;exact Jiq f p hf ht (hl ht) D F fun l y u=>q _ l x.toks rfl ⟨⟨j+1,y,(fun z=>by rw [ht] at z;cases z),fun _=>.inr ⟨rfl,rfl⟩⟩,u.extBut a _ (Nat.ne_of_lt (Heap.lt_size c)) p⟩ fun b o d z=>u.extBut b o (fun h=>d (by simp [h])) z
   done:=fun x Q E g q=>by
    obtain ⟨⟨m,f,r,B⟩,p⟩:=g;cases ht:w.params.followText "set-order" with
    | true=>
     have n:=r ht;subst n;exact Jd0 C f p hf ht (by rw [<- Array.getElem?_toList,Jgd];rfl) fun l k=>q l x.toks fun b o d z=>k b o (fun h=>d (by simp [h])) z
    | false=>
     have n:m=j+1:=by rcases B ht with z | z <;> ac_nf
     subst n;exact Jjp C f p hf ht (hl ht) D F fun l k=>q l x.toks fun b o d z=>k b o (fun h=>d (by simp [h])) z
   self:=fun _ _ _ _ g q=>by obtain ⟨⟨m,f,_⟩,_⟩:=g;exact Jd4 f q },⟨0,Heap.get?_push_size _ rfl,fun _=>rfl,fun _=>.inl ⟨rfl,rfl⟩⟩,Heap.get?_push_of_some _ c⟩
theorem JgJ {a:Addr} {x:Str} {Q:Value->Shared->Prop} (hh:A.handled=none) (hS:SetS prog w s.heap a [x])
  (q:∀ s' l (out:Array Value) ss' e,(∀ b o,s.heap.get? b=some o->s'.heap.get? b=some o)->s'.gens=s.gens->s'.os=s.os->s.toks<=s'.toks->s.heap.objs.size<=l->s'.heap.get? l=some (seqObj "list" out e)->StrsAre out.toList ss'->ss'.Perm [x]->sortedS ss'=true->Q (.ref l) s') :
  wpAny (model prog w) A (call (.builtin "sorted") [.ref a]) Q E s:=by
 obtain ⟨G,ep,t,X,H,M,Z,T,U,D⟩:=hS;obtain ⟨v,I⟩:∃ v,G=#[v]:=by
  have F:G.toList.length=1:=by rw [<- length_map (f:=fun e:Int × Value=>strOf e.2),M.length_eq];rfl
  obtain ⟨v,I⟩:=List.length_eq_one_iff.mp F;exact ⟨v,by rw [<- Array.toArray_toList (xs:=G),I]⟩
 subst I;have K:s.heap.get? a=some (setO #[v] ep t):=X;obtain ⟨B,S⟩:∃ h,v.2=.str x h:=by
  obtain ⟨⟨N,g,_⟩,_⟩:=H v (by simp);obtain ⟨u,j⟩:=Value.isStrOf_shape g;have L:strOf v.2=x:=by simpa using List.perm_singleton.mp M
  rw [j] at L;exact ⟨u,by rw [j, <- L];rfl⟩
 have J:=Heap.lt_size K;have Y:A.in1.handled=none:=by simp [hh]
 refine Jck (ss:=[x]) (by show 1<64;decide) (fun R k=>?_) q;obtain ⟨C,z⟩:∃ C:Result->Shared->Prop, ∀ r s',C r s'↔∃ g h d y,r=.ok (.ret (.ref s.heap.objs.size))/\s'={ s with heap:=g,toks:=h }/\(∀ b o,b≠s.heap.objs.size->(s.heap.push { cls:=.type "list",data:=.seq ([]:List Value).toArray }).get? b=some o->g.get? b=some o)/\g.get? s.heap.objs.size=some { cls:=.type "list",dict:=none,data:=.seq d y,slots:=#[] }/\ItemsOf (fun _ u=>u=v.2) d 1:=⟨_,fun _ _=>Iff.rfl⟩;have m:=codeAny_toks_of (n:=s.toks) (s:={ s with heap:=s.heap.push { cls:=.type "list",data:=.seq ([]:List Value).toArray } }) (Nat.le_refl _) (Jd3 (A:=A.in1) (R:=C)
  (W.kdl_extend (R:=C) (s:={ s with heap:=s.heap.push { cls:=.type "list",data:=.seq ([]:List Value).toArray } }) (Jjw (prog:=prog) (w:=w) (a:=a) (e:=v) (ep:=ep) T D) Y (Heap.get?_push_of_some _ K) s.heap.objs.size (Nat.ne_of_gt J) (Nat.ne_of_gt J) (.ref s.heap.objs.size) 0 (Heap.get?_push_size _ rfl) (fun g h i y N hS c=>(z _ _).mpr ⟨g,h,i,y,rfl,rfl,N,hS,c⟩) ⋯))
 refine codeAny_mono m ?_;rintro r s' ⟨O,V⟩;obtain ⟨g,h,d,y,rfl,rfl,P,p,c⟩:=(z _ _).mp V;have e:d.toList=[.str x B]:=by
  have F:d.toList.length=1:=by rw [Array.length_toList];exact c.1
  obtain ⟨u,j⟩:=List.length_eq_one_iff.mp F;have:=c.2 0 u (by rw [<- Array.getElem?_toList,j];rfl);rw [j,this,S]
 exact k _ d.toList y [x] (fun b o e=>P b o (Nat.ne_of_lt (Heap.lt_size e)) (Heap.get?_push_of_some _ e)) rfl rfl O (by rw [Array.toArray_toList];exact p) (by rw [e];exact .cons x B .nil) (.refl _)
end
section
variable {X:Cx}
def JkN (K:W.Frag) (xs:List V) (H:Hp) (Q:VK):Prop:=∃ (l:Addr) (ss:List Str),xs=[.ref l]/\SqL K H l (ss.map V.str)/\ss.length<=1000/\(∃ F:List Str,F.length<64/\∀ z∈ss,z∈F)/\∀ p out,H p=none->out.Nodup->(∀ z,z∈out↔z∈ss)->sortedS out=true->Q (.ref p) (upd H p (.lst (out.map V.str)))
theorem JfB {e:Expr} {t:TA} {p1 p2 pos pos2:Pos} {x y:Str} (hc:X.calm=true) (hx:x="sorted") (hy:y="set") (hg:Gl X x) (hm:X.mg x=none) (hv:bootBuiltins x=some (.builtin "sorted")) (hg2:Gl X y) (hm2:X.mg y=none) (hv2:bootBuiltins y=some (.type "set")) (ha:PA X [e] t)
  (he:starEach [e] X.env=(false,eval e X.env)::starEach [] X.env:=by rfl) :
  PE X (.Call (.Name x p1) [.Call (.Name y p2) [e] [] pos2] [] pos) (tCB (JkN X.K) t):=by
 intro C s σ H Q I h;have nx:x≠"__name__":=by rw [hx];decide
 have ny:y≠"__name__":=by rw [hy];decide
 have dx:(x == ("__debug__" : Str))=false:=by rw [hx];decide
 have dy:(y == ("__debug__" : Str))=false:=by rw [hy];decide
 refine wpAny_Call_Name_kw (Jcm I hg hm hv ?_ nx dx);refine PyProof.Rows.callWith_builtin1 ?_ rfl rfl;show wpAny _ _ (spliced ((false,eval (.Call (.Name y p2) [e] [] pos2) X.env)::backTo pos (starEach [] X.env))) _ _ s;refine Calls.spliced_cons ?_;refine wpAny_Call_Name_kw (Jcm I hg2 hm2 hv2 ?_ ny dy);refine PyProof.Rows.callWith_type1 (thn (ha pos2 C s σ H _ I h) fun us A ζ=>?_) he rfl;obtain ⟨vs,H1,I1,r1,q1⟩:=ζ;obtain ⟨l,ss,rfl,hl,a0,⟨F,hF,W⟩,q⟩:=q1;obtain ⟨u,rfl,rx⟩:=vals1 r1;cases rx;obtain ⟨U,ri,pl,S⟩:=I1.list hl;have hs:=Je8 ri;have ls:=hs.length;have T:=I1.ok.hd hc;have sb:(1002:Nat)<scanBound:=by decide
 refine Jdw T pl.isList (ss:=ss) (by simpa using hs) (by rw [size_toArray];ac_nf) fun L Y N k et=>Calls.spliced_nil ?_;have sz:U.toArray.size=ss.length:=by rw [size_toArray];exact ls
 rw [sz] at N;have M:∀ z,z∈met (fun i=>ss.getD i ⟨#[]⟩) ss.length↔z∈ss:=fun z=>by
  rw [Jhs];constructor
  ·rintro ⟨j,O,rfl⟩;rw [List.getD_eq_getElem?_getD,List.getElem?_eq_getElem O];exact List.getElem_mem O
  ·intro S;obtain ⟨j,O⟩:=List.getElem?_of_mem S;exact ⟨j,(List.getElem?_eq_some_iff.mp O).1,by rw [List.getD_eq_getElem?_getD,O];rfl⟩
 have ml:=Jfp (fun i=>ss.getD i ⟨#[]⟩) ss.length;have a4:=sub_len (met (fun i=>ss.getD i ⟨#[]⟩) ss.length) F (Jga _ _) fun z S=>W z ((M z).mp S);have E:∀ f n (c:Array Value) a B,(∀ b o,L.get? b=some o->f.heap.get? b=some o)->f.gens=A.gens->f.os=A.os->L.objs.size<=n->f.heap.get? n=some (seqObj "list" c B)->StrsAre c.toList a->a.Perm (met (fun i=>ss.getD i ⟨#[]⟩) ss.length)->sortedS a=true->EP X C σ Q (.ref n) f:=fun f n c a B J D G m v d p g=>by
  have kk:∀ b o,A.heap.get? b=some o->f.heap.get? b=some o:=fun b o e=>J b o (k b o e);have R:A.heap.objs.size<=n:=by
   have : A.heap.objs.size<L.objs.size:=by
    obtain ⟨es,ep,tt,v,_⟩:=N;exact Heap.lt_size v
   exact Nat.le_of_lt (Nat.lt_of_lt_of_le this m)
  have nd:a.Nodup:=p.nodup_iff.mpr (Jga _ _);have lo:a.length<=sizeLine:=by
   have : (1000:Nat)<=sizeLine:=by decide
   rw [p.length_eq];ac_nf
  exact ⟨.ref n,_,Inv.like (s:=A) (I1.laid (t':=f.toks) (o:=.lst (a.map V.str)) kk R (show ObjOk X.prog X.w _ f.heap n (.lst (a.map V.str)) from ⟨by rw [length_map];exact lo,c.toList,B,Jdv d,by rw [Array.toArray_toList];exact v⟩)) D G,rfl,q n a (I1.hok.fresh R) nd (fun z=>(p.mem_iff).trans (M z)) g⟩
 have a3:=Jga (fun i=>ss.getD i ⟨#[]⟩) ss.length;generalize met (fun i=>ss.getD i ⟨#[]⟩) ss.length=ms at *;match hm:ms with
 | []=>
  obtain ⟨es,ep,tt,v,a2,a1,_,hf,_⟩:=N;have e0:es=#[]:=by
   have:=a1.length_eq;rw [length_map,Array.length_toList] at this;exact Array.eq_empty_of_size_eq_zero (by rw [this];rfl)
  subst e0;exact JfM (s:={ A with heap:=L,toks:=Y }) T v hf fun f n c a B J D G P m Z d p g=>E f n c a B J D G m Z d p g
 | [x]=>exact JgJ (s:={ A with heap:=L,toks:=Y }) T N fun f n c a B J D G P m v d p g=>E f n c a B J D G m v d p g
 | x::y::r=>exact JgK (s:={ A with heap:=L,toks:=Y }) T N (by simp) ∅ fun f n c a B J D G P m v d p g=>E f n c a B J D G m v d p g
end
section
variable {X:Cx}
end
def toS (b:Int) (s:SD):SpS:=⟨s.src,s.dst,s.c,s.c.1*b.fdiv s.c.2,s.nm,s.fw⟩
def bD_ (ts:List TD):Int:=bF ((Ch.all ts).map (·.c))
def ssD (ts:List TD):List SpS:=(Ch.all ts).map (toS (bD_ ts))
def lsD (ts:List TD) (fs:List Str):LasD:=(bfR (ssD ts) ((ssD ts).length+1) (bf0 fs)).P
abbrev Tab:=List (Str × ((Int × Int) × List SpS))
theorem wh_vl {c:Int × Int} {b:Int} (h2:1<=c.2) (hd:c.2∣b):((c.1*b.fdiv c.2:Int):Rat)=vl c*(b:Rat):=by
 obtain ⟨k,rfl⟩:=hd;rw [Int.mul_fdiv_cancel_left _ ∅];have a:=JeY h2;unfold vl;push_cast;generalize (c.1:Rat)=x at *;generalize (c.2:Rat)=y at *;generalize (k:Rat)=z at *;grind
theorem JgZ {b:Int}:∀ (l:List SpS) (a:Int × Int),1<=a.2->(∀ s∈l,(s.wh:Rat)=vl s.cost*(b:Rat)/\1<=s.cost.2)->vl (l.foldl (fun a s=>addF a s.cost) a)*(b:Rat)=vl a*(b:Rat)+(wgt l:Rat)/\1<=(l.foldl (fun a s=>addF a s.cost) a).2
 | [],a,ha,_=>by
  refine ⟨?_,ha⟩;show vl a*(b:Rat)=vl a*(b:Rat)+((0:Int):Rat);rw [Rat.intCast_zero,Rat.add_zero]
 | s::l,a,ha,h=>by
  rw [foldl_cons];obtain ⟨h1,h2⟩:=h s mem_cons_self;have hb:1<=(addF a s.cost).2:=Mth.JbO (Int.mul_ne_zero ∅ ∅);obtain ⟨i1,i2⟩:=JgZ l (addF a s.cost) hb fun s hs=>h s (mem_cons_of_mem _ hs);refine ⟨?_,i2⟩;rw [i1,Jgn ha h2];have e:(wgt (s::l):Rat)=(s.wh:Rat)+(wgt l:Rat):=by
   show ((s.wh+wgt l:Int):Rat)=_;push_cast;rfl
  rw [e,h1,Rat.add_mul,Rat.add_assoc]
theorem JgY {b:Int} {l:List SpS} (h:∀ s∈l,(s.wh:Rat)=vl s.cost*(b:Rat)/\1<=s.cost.2):vl (cs l)*(b:Rat)=(wgt l:Rat)/\1<=(cs l).2:=by
 obtain ⟨c,a⟩:=JgZ (b:=b) l (0,1) ⋯ h;refine ⟨?_,a⟩;unfold cs;rw [c,Jh5];grind
section
variable {ts:List TD}
theorem ss_wh (hb:∀ s∈Ch.all ts,1<=s.c.2/\s.c.2∣bD_ ts):∀ s∈ssD ts,(s.wh:Rat)=vl s.cost*(bD_ ts:Rat)/\1<=s.cost.2:=fun s b=>by
 obtain ⟨x,a,rfl⟩:=mem_map.mp b;exact ⟨wh_vl (hb x a).1 (hb x a).2,(hb x a).1⟩
theorem JkT {x:Str->Rat} (h1:1<=bD_ ts) (hb:∀ s∈Ch.all ts,1<=s.c.2/\s.c.2∣bD_ ts) (hx:∀ s∈Ch.all ts,x s.dst<=x s.src+vl s.c):Pot (fun f=>(x f*(bD_ ts:Rat)).floor) (ssD ts) :=
 JhN (x:=fun f=>x f*(bD_ ts:Rat)) fun s a=>by
  have d:=(ss_wh hb s a).1;obtain ⟨y,b,rfl⟩:=mem_map.mp a;have:=hx y b;rw [d];show x y.dst*_<=x y.src*_+vl y.c*_;rw [<- Rat.add_mul];refine Rat.mul_le_mul_of_nonneg_right this ?_;have : (0:Int)<=bD_ ts:=by ac_nf
  exact_mod_cast this
end
theorem JeM {ts:List TD} {F:List Str} (h:∀ t∈ts,t.st∈F/\t.en∈F):∀ s∈Ch.all ts,s.src∈F/\s.dst∈F:=fun s a=>by
 obtain ⟨t,d,a⟩:=List.mem_flatMap.mp (show s∈ts.flatMap Ch.steps from a);obtain ⟨c,b⟩:=h t d;unfold Ch.steps fwd bwd at a;rcases mem_append.mp a with a | a
 ·cases e:t.hi with
  | none=>rw [e] at a;cases a
  | some u=>rw [e] at a;rw [mem_singleton.mp a];exact ⟨c,b⟩
 ·cases e:t.lo with
  | none=>rw [e] at a;cases a
  | some u=>rw [e] at a;rw [mem_singleton.mp a];exact ⟨b,c⟩
structure TTd (ts:List TD) (fs:List Str) (tb:Tab):Prop where
 b1:1<=bD_ ts
 bb:∀ s∈Ch.all ts,1<=s.c.2/\s.c.2∣bD_ ts
 tk:TBk (lsD ts fs) fs tb
 ks:∀ v,(∃ e,lk tb v=some e)↔(v∈fs\/∃ s,lk (lsD ts fs) v=some s)
 be:BE (ssD ts) fs (lsD ts fs)
section
variable {ts:List TD} {fs:List Str} {tb tb':Tab} {v:Str} {e:(Int × Int) × List SpS}
theorem TTd.uniq (h:TTd ts fs tb) (k:TTd ts fs tb'):lk tb v=lk tb' v:=by
 cases e1:lk tb v with
 | none=>
  cases e2:lk tb' v with
  | none=>rfl
  | some e=>
   obtain ⟨b,a⟩:=(h.ks v).mpr ((k.ks v).mp ⟨e,e2⟩);rw [e1] at a;cases a
 | some e=>
  obtain ⟨b,a⟩:=(k.ks v).mpr ((h.ks v).mp ⟨e,e1⟩);obtain ⟨_,g,d⟩:=h.tk.en v e e1;obtain ⟨_,c,f⟩:=k.tk.en v b a;rw [a];have:=g.uniq c
  congr 1
  exact Prod.ext (by rw [d,f,this]) this
theorem TTd.ent (h:TTd ts fs tb) (he:lk tb v=some e):e.1=cs e.2/\(∀ s∈e.2,s∈ssD ts)/\e.2.length<=(ssD ts).length/\∃ f∈fs,lk (lsD ts fs) f=none/\Wk (ssD ts) f e.2 v/\(f::e.2.map (·.tgt)).Nodup:=by
 obtain ⟨i,g,c⟩:=h.tk.en v e he;obtain ⟨a,b,d⟩:=h.be.chn i g;exact ⟨c,a,b,d⟩
theorem TTd.fb (h:TTd ts fs tb) (hfb:∀ s∈Ch.all ts,FB 200 11 s.c) (hl:(Ch.all ts).length<=112) (he:lk tb v=some e):FB 1600 1240 e.1:=by
 obtain ⟨g,d,i,_⟩:=h.ent he;have b:(ssD ts).length<=112:=by unfold ssD;rw [length_map];ac_nf
 rw [g];refine (cs_fb fun s f=>?_).mono ∅ ∅;obtain ⟨y,a,rfl⟩:=mem_map.mp (d s f);exact hfb y a
theorem TTd.b2 (h:TTd ts fs tb) (he:lk tb v=some e):1<=e.1.2:=by
 obtain ⟨d,a,_⟩:=h.ent he;rw [d];exact (JgY (b:=bD_ ts) fun s c=>ss_wh h.bb s (a s c)).2
theorem TTd.step (h:TTd ts fs tb) {s:SD} (hs:s∈Ch.all ts) (he:lk tb s.src=some e):∃ e',lk tb s.dst=some e'/\vl e'.1<=vl e.1+vl s.c:=by
 obtain ⟨S,o,p,r⟩:=h.be.chain;have k:toS (bD_ ts) s∈ssD ts:=mem_map.mpr ⟨s,hs,rfl⟩;have g:∀ v e,lk tb v=some e->∀ a,lk S v=some a->vl e.1*(bD_ ts:Rat)=(a:Rat):=fun v e he a m=>by
  obtain ⟨_,t,B⟩:=h.tk.en v e he;obtain ⟨l,C,w,f,_,_,y,_⟩:=p _ a m;have:=t.uniq C;subst this;rw [B, <- w];exact (JgY fun s hs=>ss_wh h.bb s (y.mem s hs)).1
 obtain ⟨a,m⟩:=(o _).mpr ((h.ks _).mp ⟨e,he⟩);obtain ⟨b,i,n⟩:=r _ k a m;obtain ⟨e',d⟩:=(h.ks s.dst).mpr ((o _).mp ⟨b,i⟩);refine ⟨e',d,?_⟩;have A:=g _ _ he a m;have x:=g _ _ d b i;have q:=(ss_wh h.bb _ k).1;have u:=h.b1;have D:(0:Rat)<(bD_ ts:Rat):=by
  have : (0:Int)<bD_ ts:=by ac_nf
  exact_mod_cast this
 have j:(b:Rat)<=(a:Rat)+((toS (bD_ ts) s).wh:Rat):=by exact_mod_cast n
 rw [q, <- A, <- x] at j;have j:vl e'.1*(bD_ ts:Rat)<=vl e.1*(bD_ ts:Rat)+vl s.c*(bD_ ts:Rat):=j;rw [<- Rat.add_mul] at j;exact Rat.not_lt.mp fun z=>absurd j (Rat.not_le.mpr (Rat.mul_lt_mul_of_pos_right z D))
end
theorem JfZ:∀ {l:List SD} {s:SD},(l.map key).Nodup->s∈l->(l.filter fun x=>decide (key x=key s))=[s]
 | a::l,s,nd,h=>by
  rw [map_cons,nodup_cons] at nd;rcases mem_cons.mp h with rfl | h
  ·rw [List.filter_cons_of_pos (by simp)]
   congr 1
   refine List.filter_eq_nil_iff.mpr fun x hx=>?_;simp only [decide_eq_true_eq];exact fun e=>nd.1 (e ▸ mem_map.mpr ⟨x,hx,rfl⟩)
  ·have ne:key a≠key s:=fun e=>nd.1 (e ▸ mem_map.mpr ⟨s,h,rfl⟩);rw [List.filter_cons_of_neg (by simpa using ne)];exact JfZ nd.2 h
section
variable {ss:List SpS} {fs:List Str} {t:BF} {s:SpS} {S:SumD} {P:LasD}
def Clo (P:LasD) (z:Str) (l:List SpS):Prop:=l≠[]/\Lnk P z l/\lnkE z l=z
structure BX (ss:List SpS) (fs:List Str) (S:SumD) (P:LasD):Prop where
 p0:∀ v b,lk S v=some b->lk P v=none->v∈fs
 st:∀ v s,lk P v=some s->s∈ss/\s.tgt=v/\∃ a b,lk S s.src=some a/\lk S v=some b/\a+s.wh<=b
 rg:∀ z l,Clo P z l->wgt l<0
theorem Jgp {l:List SpS}:wgt (s::l)=s.wh+wgt l:=by simp [wgt]
theorem Lnk.sum {g:Str->Int} (h:∀ v s,lk P v=some s->g s.src+s.wh<=g v):∀ {l:List SpS} {z:Str},Lnk P z l->g z+wgt l<=g (lnkE z l)
 | [],z,_=>by simp [wgt,lnkE]
 | s::r,z,⟨h1,h2,h3⟩=>by
  have:=Lnk.sum h h3;have:=h _ _ h2;rw [h1] at this;rw [Jgp];show _<=g (lnkE s.tgt r);ac_nf
theorem Lnk.sumS {g:Str->Int} {f:Str} (h:∀ v s,lk P v=some s->g s.src+s.wh<=g v) (hf:∀ s,lk P f=some s->g s.src+s.wh<g f):∀ {l:List SpS} {z:Str},Lnk P z l->(∃ s∈l,s.tgt=f)->g z+wgt l<g (lnkE z l)
 | [],z,_,⟨_,h,_⟩=>by cases h
 | s::r,z,⟨h1,h2,h3⟩,⟨s',hs,ht⟩=>by
  have a:=Lnk.sum h h3;rw [Jgp];show _<g (lnkE s.tgt r);by_cases c:s.tgt=f
  ·have:=hf s (by rw [<- c];exact h2);rw [h1, <- c] at this;ac_nf
  ·have hr:∃ x∈r,x.tgt=f:=by
    rcases mem_cons.mp hs with e | e
    ·exact absurd (by rw [<- e];exact ht) c
    ·exact ⟨s',e,ht⟩
   have:=Lnk.sumS h hf h3 hr;have:=h _ _ h2;rw [h1] at this;ac_nf
theorem Lnk.other {P':LasD} {f:Str} (h:∀ v,v≠f->lk P' v=lk P v):∀ {l:List SpS} {z:Str},Lnk P' z l->(∀ s∈l,s.tgt≠f)->Lnk P z l
 | [],_,_,_=>trivial
 | s::r,z,⟨h1,h2,h3⟩,k=>⟨h1,by rw [<- h _ (k s mem_cons_self)];exact h2,Lnk.other h h3 fun x hx=>k x (mem_cons_of_mem _ hx)⟩
theorem BX.put (h:BX ss fs S P) (hs:s∈ss) {c:Int} (hg:gains S s=some c):BX ss fs (pu S s.tgt c) (pu P s.tgt s):=by
 obtain ⟨a,t,G,k⟩:=Ja8 hg;have j:∀ v b,lk S v=some b->∃ n,lk (pu S s.tgt c) v=some n/\n<=b:=fun v b p=>by
  by_cases e:s.tgt=v
  ·subst e;exact ⟨c,JaO,Int.le_of_lt (k b p)⟩
  ·exact ⟨b,by rw [lk_ne e];exact p,Int.le_refl _⟩
 refine ⟨fun v b d r=>?_,fun v i d=>?_,fun z l L=>?_⟩
 ·by_cases e:s.tgt=v
  ·subst e;rw [JaO] at r;cases r
  ·rw [lk_ne e] at d r;exact h.p0 v b d r
 ·by_cases e:s.tgt=v
  ·subst e;rw [JaO] at d;cases d;obtain ⟨A,B,K⟩:=j _ _ t;exact ⟨hs,rfl,A,c,B,JaO,by ac_nf⟩
  ·rw [lk_ne e] at d;obtain ⟨m,F,A,n,y,u,E⟩:=h.st v i d;obtain ⟨w,B,K⟩:=j _ _ y;exact ⟨m,F,w,n,B,by rw [lk_ne e];exact u,by ac_nf⟩
 ·obtain ⟨I,C,D⟩:=L;by_cases q:∃ x∈l,x.tgt=s.tgt
  ·let g:Str->Int:=fun v=>match lk S v with | some b=>b | none=>if v=s.tgt then a+s.wh+1 else 0
   have o:∀ v b,lk S v=some b->g v=b:=fun v b p=>by show (match lk S v with | some b=>b | none=>_)=b;rw [p]
   have J:a+s.wh<g s.tgt:=by
    cases e:lk S s.tgt with
    | none=>show _<(match lk S s.tgt with | some b=>b | none=>if s.tgt=s.tgt then a+s.wh+1 else 0);rw [e,if_pos rfl];show a+s.wh<a+s.wh+1;ac_nf
    | some b=>rw [o _ _ e, <- G];exact k b e
   have key:∀ v i,lk (pu P s.tgt s) v=some i->g i.src+i.wh<=g v:=fun v i d=>by
    by_cases e:s.tgt=v
    ·subst e;rw [JaO] at d;cases d;rw [o _ _ t];ac_nf
    ·rw [lk_ne e] at d;obtain ⟨_,_,A,n,y,u,E⟩:=h.st v i d;rw [o _ _ y,o _ _ u];exact E
   have:=Lnk.sumS (g:=g) (f:=s.tgt) key (fun i d=>by
    rw [JaO] at d;cases d;rw [o _ _ t];exact J) C q
   rw [D] at this;ac_nf
  ·exact h.rg z l ⟨I,Lnk.other (f:=s.tgt) (fun v d=>lk_ne (Ne.symm d)) C fun x H e=>q ⟨x,H,e⟩,D⟩
theorem BX.fold:∀ (l:List SpS) (t:BF),BX ss fs t.S t.P->(∀ s∈l,s∈ss)->BX ss fs (l.foldl rlx t).S (l.foldl rlx t).P
 | [],_,h,_=>h
 | s::l,t,h,hs=>by
  rw [foldl_cons];refine BX.fold l _ ?_ fun x hx=>hs x (by simp [hx]);unfold rlx;cases e:gains t.S s with
  | none=>exact h
  | some c=>exact h.put (hs s (by simp)) e
theorem BX.itr:∀ n,BX ss fs (L2.itr ss n (bf0 fs)).S (L2.itr ss n (bf0 fs)).P
 | 0=>⟨fun v b h _=>(Jey.mp h).1,(fun v s h=>by cases h),fun z l h=>by
   obtain ⟨h0,h1,_⟩:=h;cases l with
   | nil=>exact absurd rfl h0
   | cons s r=>cases h1.2.1⟩
 | n+1=>BX.fold ss _ (BX.itr n) fun _ h=>h
structure Cg (ss:List SpS) (i:Nat) (t:BF) (c:Str->Nat):Prop where
 le:∀ v,c v<=i
 has:∀ v,1<=c v->∃ s,lk t.P v=some s
 bk:∀ v s,lk t.P v=some s->c v<=c s.src+1
 ch:∀ f,t.ch=some f->c f=i
 ga:∀ s∈ss,gains t.S s=none\/i<=c s.src+1
theorem Jf2 {S:SumD} {s':SpS} {f:Str} {c:Int} (hlt:∀ b,lk S f=some b->c<b) (hg:gains S s'=none) (hn:s'.src≠f):gains (pu S f c) s'=none:=by
 cases e:gains (pu S f c) s' with
 | none=>rfl
 | some d=>
  obtain ⟨a,i,k,g⟩:=Ja8 e;rw [lk_ne (Ne.symm hn)] at i;obtain ⟨b,h,j⟩:=JbL hg a i;by_cases q:f=s'.tgt
  ·subst q;have l:=g c JaO;have m:=hlt b h;ac_nf
  ·have:=g b (by rw [lk_ne q];exact h);ac_nf
theorem Cg.turn:∀ (l:List SpS) (t:BF) (c:Str->Nat) {i:Nat} (d:List SpS),Cg ss i t c->(∀ s∈l,s∈ss)->(∀ s∈d,gains t.S s=none\/i<=c s.src)->∃ c',Cg ss i (l.foldl rlx t) c'/\∀ s∈d++l,gains (l.foldl rlx t).S s=none\/i<=c' s.src
 | [],t,c,i,d,h,_,hd=>⟨c,h,by simpa using hd⟩
 | s::l,t,c,i,d,h,hs,hd=>by
  rw [foldl_cons];have hm:=hs s (by simp);have step:∃ c',Cg ss i (rlx t s) c'/\∀ x∈d++[s],gains (rlx t s).S x=none\/i<=c' x.src:=by
   unfold rlx;cases e:gains t.S s with
   | none=>
    refine ⟨c,h,fun x hx=>?_⟩;rcases mem_append.mp hx with hx | hx
    ·exact hd x hx
    ·rw [mem_singleton.mp hx];exact .inl e
   | some a=>
    obtain ⟨a0,ha,hc,hlt⟩:=Ja8 e;have hi:i<=c s.src+1:=(h.ga s hm).resolve_left (by rw [e];simp);refine ⟨fun v=>if v=s.tgt then i else c v,⟨fun v=>?_,fun v hv=>?_,fun v s' hv=>?_,fun f hf=>?_,fun x hx=>?_⟩,fun x hx=>?_⟩
    ·try dsimp only
     split
     ·exact Nat.le_refl _
     ·exact h.le v
    ·by_cases q:s.tgt=v
     ·subst q;exact ⟨s,JaO⟩
     ·try dsimp only at hv
      rw [if_neg (Ne.symm q)] at hv;obtain ⟨s',z⟩:=h.has v hv;exact ⟨s',by show lk (pu t.P s.tgt s) v=_;rw [lk_ne q];exact z⟩
    ·have up:∀ v,c v<=(if v=s.tgt then i else c v):=fun v=>by split;exact h.le v;exact Nat.le_refl _
     by_cases q:s.tgt=v
     ·subst q;have hv:lk (pu t.P s.tgt s) s.tgt=some s':=hv;rw [JaO] at hv;cases hv;try dsimp only
      rw [if_pos rfl];have:=up s.src;ac_nf
     ·have hv:lk (pu t.P s.tgt s) v=some s':=hv;rw [lk_ne q] at hv;try dsimp only
      rw [if_neg (Ne.symm q)];have:=h.bk v s' hv;have:=up s'.src;ac_nf
    ·cases hf;exact if_pos rfl
    ·by_cases q:x.src=s.tgt
     ·right
      try dsimp only
      rw [if_pos q];ac_nf
     ·try dsimp only
      rw [if_neg q];exact (h.ga x hx).imp (fun z=>Jf2 hlt z q) id
    ·by_cases q:x.src=s.tgt
     ·right
      try dsimp only
      rw [if_pos q];exact Nat.le_refl _
     ·try dsimp only
      rw [if_neg q];rcases mem_append.mp hx with hx | hx
      ·exact (hd x hx).imp (fun z=>Jf2 hlt z q) id
      ·rw [mem_singleton.mp hx] at q ⊢;left
       cases e':gains (pu t.S s.tgt a) s with
       | none=>rfl
       | some d'=>
        obtain ⟨a',h1,h2,h3⟩:=Ja8 e';rw [lk_ne (Ne.symm q),ha] at h1;cases h1;have:=h3 a JaO;ac_nf
  obtain ⟨c1,h1,h2⟩:=step;obtain ⟨c2,h3,h4⟩:=Cg.turn l (rlx t s) c1 (d++[s]) h1 (fun x hx=>hs x (by simp [hx])) h2;exact ⟨c2,h3,by simpa using h4⟩
theorem Cg.itr:∀ n, ∃ c,Cg ss n (L2.itr ss n (bf0 fs)) c/\∀ s∈ss,gains (L2.itr ss n (bf0 fs)).S s=none\/n<=c s.src
 | 0=>⟨fun _=>0,⟨fun _=>Nat.le_refl _,fun _ h=>absurd h ⋯,fun v s h=>(by cases h),fun f h=>(by cases h),fun s _=>.inr (Nat.zero_le _)⟩,fun s _=>.inr (Nat.zero_le _)⟩
 | n+1=>by
  obtain ⟨c,h,h2⟩:=Cg.itr n;have h':Cg ss (n+1) { L2.itr ss n (bf0 fs) with ch:=none } c:=⟨fun v=>Nat.le_succ_of_le (h.le v),h.has,h.bk,(fun f hf=>by cases hf),fun s hs=>(h2 s hs).imp id fun z=>Nat.succ_le_succ z⟩;obtain ⟨c',h3,h4⟩:=Cg.turn ss _ c [] h' (fun _ z=>z) (fun s hs=>by cases hs);exact ⟨c',h3,fun s hs=>h4 s (by simpa using hs)⟩
theorem itr_z {n:Nat} {f:Str} (hf:f∈fs):∃ b,lk (L2.itr ss n (bf0 fs)).S f=some b:=by
 obtain ⟨b,h,_⟩:=Ji2 (ss:=ss) hf n [] f .nil (Nat.zero_le _);exact ⟨b,h⟩
theorem JiB {n:Nat} (hsrc:∀ s∈ss,s.src∈fs) (h:(L2.itr ss (n+1) (bf0 fs)).ch=none):∃ π,Pot π ss:=by
 obtain ⟨i,f⟩:=Jfm ss { L2.itr ss n (bf0 fs) with ch:=none } h;refine ⟨fun v=>(lk (L2.itr ss n (bf0 fs)).S v).getD 0,fun s e=>?_⟩;obtain ⟨a,d⟩:=itr_z (ss:=ss) (n:=n) (hsrc s e);obtain ⟨b,g,c⟩:=JbL (f s e) a d;show (lk _ s.tgt).getD 0<=(lk _ s.src).getD 0+s.wh;rw [d,g];exact c
theorem Lnk.app:∀ {a b:List SpS} {z:Str},Lnk P z (a++b)↔Lnk P z a/\Lnk P (lnkE z a) b
 | [],b,z=>by simp [Lnk,lnkE]
 | s::r,b,z=>by
  show (s.src=z/\lk P s.tgt=some s/\Lnk P s.tgt (r++b))↔(s.src=z/\lk P s.tgt=some s/\Lnk P s.tgt r)/\Lnk P (lnkE s.tgt r) b;rw [Lnk.app];constructor
  ·exact fun ⟨h1,h2,h3,h4⟩=>⟨⟨h1,h2,h3⟩,h4⟩
  ·exact fun ⟨⟨h1,h2,h3⟩,h4⟩=>⟨h1,h2,h3,h4⟩
theorem Jch:∀ {a b:List SpS} {z:Str},lnkE z (a++b)=lnkE (lnkE z a) b
 | [],_,_=>rfl
 | s::r,b,z=>Jch (a:=r) (z:=s.tgt)
theorem Jci:∀ {l:List SpS} {z:Str},l≠[]->lnkE z l∈l.map (·.tgt)
 | [],_,h=>absurd rfl h
 | [s],z,_=>by simp [lnkE]
 | s::x::r,z,_=>by
  have:=Jci (l:=x::r) (z:=s.tgt) (by simp);exact mem_cons_of_mem _ this
theorem Lnk.lk_of:∀ {l:List SpS} {z:Str},Lnk P z l->∀ s∈l,lk P s.tgt=some s
 | [],_,_,_,h=>by cases h
 | x::r,z,⟨_,h2,h3⟩,s,h=>by
  rcases mem_cons.mp h with e | e
  ·rw [e];exact h2
  ·exact Lnk.lk_of h3 s e
theorem Lnk.srcs:∀ {l:List SpS} {z:Str},Lnk P z l->l.map (·.src)++[lnkE z l]=z::l.map (·.tgt)
 | [],_,_=>rfl
 | x::r,z,⟨h1,_,h3⟩=>by
  have:=Lnk.srcs h3;show x.src::(r.map (·.src)++[lnkE x.tgt r])=_;rw [this,h1];rfl
def RG (P:LasD) (f:Str) (R:List SpS):Prop:=∃ z l2,Clo P z R/\Lnk P z (R++l2)/\lnkE z (R++l2)=f/\((R++l2).map (·.tgt)).Nodup
theorem RG.of {q f:Str} {M:List SpS} (h:Lnk P q M) (he:lnkE q M=f) (hn:(M.map (·.tgt)).Nodup) (hq:q∈M.map (·.tgt)):∃ R l2,M=R++l2/\Clo P q R/\RG P f R:=by
 obtain ⟨s,b,rfl⟩:=mem_map.mp hq;obtain ⟨a,l2,rfl⟩:=List.append_of_mem b;have e:a++s::l2=(a++[s])++l2:=by simp
 rw [e] at h he hn ⊢;have c:Clo P s.tgt (a++[s]):=⟨by simp,(Lnk.app.mp h).1,by rw [Jch];rfl⟩;exact ⟨_,l2,rfl,c,s.tgt,l2,c,h,he,hn⟩
theorem Lnk.tails:∀ (n:Nat) {M M':List SpS} {z z' f:Str},M.length<=n->Lnk P z M->lnkE z M=f->Lnk P z' M'->lnkE z' M'=f->(∃ X,M'=X++M)\/∃ X,M=X++M'
 | 0,M,M',z,z',f,hl,_,_,_,_=>.inl ⟨M',by rw [eq_nil_of_length_eq_zero (Nat.le_zero.mp hl)];simp⟩
 | n+1,M,M',z,z',f,hl,h1,h2,h3,h4=>by
  rcases List.eq_nil_or_concat M with e | ⟨A,s,e⟩
  ·exact .inl ⟨M',by rw [e];simp⟩
  ·rcases List.eq_nil_or_concat M' with e' | ⟨A',s',e'⟩
   ·exact .inr ⟨M,by rw [e'];simp⟩
   ·rw [List.concat_eq_append] at e e';subst e;subst e';obtain ⟨a1,a2,a3,_⟩:=Lnk.app.mp h1;obtain ⟨b1,b2,b3,_⟩:=Lnk.app.mp h3;rw [Jch] at h2 h4;have h2:s.tgt=f:=h2;have h4:s'.tgt=f:=h4;rw [h2] at a3;rw [h4,a3] at b3;cases b3;rcases Lnk.tails n (by simpa using hl) a1 a2.symm b1 b2.symm with ⟨X,e⟩ | ⟨X,e⟩
    ·exact .inl ⟨X,by rw [e,List.append_assoc]⟩
    ·exact .inr ⟨X,by rw [e,List.append_assoc]⟩
theorem Jgg {A B A' B':List SpS} {z z' q:Str} (e:A++B=A'++B') (hn:((A++B).map (·.tgt)).Nodup) (hA:A≠[]) (hA':A'≠[]) (h:lnkE z A=q) (h':lnkE z' A'=q) (hl:A.length<=A'.length):A=A':=by
 obtain ⟨C,rfl⟩:∃ C,A'=A++C:=by
  rcases List.append_eq_append_iff.mp e with ⟨C,h1,h2⟩ | ⟨C,h1,h2⟩
  ·exact ⟨C,h1⟩
  ·have : C=[]:=eq_nil_of_length_eq_zero (by have:=congrArg List.length h1;rw [length_append] at this;ac_nf);exact ⟨[],by rw [h1,this];simp⟩
 by_cases c:C=[]
 ·rw [c,append_nil]
 ·exfalso;have b:=Jci (z:=z) hA;rw [h] at b;rw [Jch] at h';have a:=Jci (z:=lnkE z' A) c;rw [h'] at a;rw [e,List.append_assoc,map_append] at hn;exact (nodup_append.mp hn).2.2 _ b _ (by rw [map_append];exact mem_append_left _ a) rfl
theorem RG.uniq {f:Str} {R R':List SpS} (h:RG P f R) (h':RG P f R'):R=R':=by
 obtain ⟨z,j,⟨m,G,p⟩,n,A,w⟩:=h;obtain ⟨i,a,⟨c,y,g⟩,b,q,l⟩:=h';have key:∀ {z i:Str} {R R' j a X:List SpS},R≠[]->lnkE z R=z->Lnk P z (R++j)->Lnk P i (R'++a)->((R'++a).map (·.tgt)).Nodup->R'++a=X++(R++j)->X=[]:=by
  intro z i R R' j a X t D F k o e;by_cases x:X=[]
  ·exact x
  ·exfalso;rw [e] at k o;obtain ⟨_,C⟩:=Lnk.app.mp k;have E:lnkE i X=z:=by
    cases R with
    | nil=>exact absurd rfl t
    | cons s r=>exact C.1.symm.trans F.1
   have v:=Jci (z:=i) x;rw [E] at v;have u:=Jci (z:=z) t;rw [D] at u;rw [map_append] at o;exact (nodup_append.mp o).2.2 _ v _ (by rw [map_append];exact mem_append_left _ u) rfl
 have d:R++j=R'++a:=by
  rcases Lnk.tails _ (Nat.le_refl _) n A b q with ⟨X,e⟩ | ⟨X,e⟩
  ·rw [key m p n b l e] at e;simpa using e.symm
  ·rw [key c g b n w e] at e;simpa using e
 have B:z=i:=by
  cases R with
  | nil=>exact absurd rfl m
  | cons s r=>
   cases R' with
   | nil=>exact absurd rfl c
   | cons s' r'=>
    have : s=s':=(List.cons.inj d).1;rw [<- n.1, <- b.1,this]
 subst B;rcases Nat.le_total R.length R'.length with hl | hl
 ·exact Jgg d w m c p g hl
 ·exact (Jgg d.symm l c m g p hl).symm
theorem Cg.next {c:Str->Nat} {q:Str} {ms:List SpS} (h:Cg ss (ss.length+1) t c) (hn:(ms.map (·.tgt)).Nodup) (hs:∀ x∈ms,x∈ss) (hN:ss.length+1<=c q+ms.length):∃ s,lk t.P q=some s/\ss.length+1<=c s.src+(ms++[s]).length:=by
 have:=sub_len (ms.map (·.tgt)) (ss.map (·.tgt)) hn fun x b=>by
  obtain ⟨y,a,rfl⟩:=mem_map.mp b;exact mem_map.mpr ⟨y,hs y a,rfl⟩
 rw [length_map,length_map] at this;obtain ⟨s,e⟩:=h.has q ∅;have:=h.bk q s e;exact ⟨s,e,by rw [length_append];simp;ac_nf⟩
structure Rng (ss R:List SpS):Prop where
 ne:R≠[]
 mem:∀ s∈R,s∈ss
 neg:wgt R<0
 nd:(R.map (·.src)).Nodup
 adj:∃ z,R.map (·.src)++[z]=z::R.map (·.tgt)
theorem RG.rng {f:Str} {R:List SpS} (b:BX ss fs S P) (h:RG P f R):Rng ss R:=by
 obtain ⟨z,g,c,j,i,a⟩:=h;have e:=c.2.1.srcs;rw [c.2.2] at e;refine ⟨c.1,fun s d=>(b.st _ _ (c.2.1.lk_of s d)).1,b.rg z R c,?_,z,e⟩;have p:(z::R.map (·.src)).Perm (z::R.map (·.tgt)):=by
  rw [<- e];exact (List.perm_append_singleton z _).symm
 refine (p.cons_inv).nodup_iff.mpr ?_;rw [map_append] at a;exact (nodup_append.mp a).1
end
theorem iteOr {c1 c2:Prop} [Decidable c1] [Decidable c2] {X Y:Prop} (h:c1\/c2) (x:X):if c1 then X else if c2 then X else Y:=by
 by_cases a:c1
 ·rw [if_pos a];exact x
 ·rw [if_neg a,if_pos (h.resolve_left a)];exact x
theorem All2.rev {α : Type} {P : α->V->Prop}:∀ {xs:List α} {ys:List V},All2 P xs ys->All2 P xs.reverse ys.reverse
 | [],ys,h=>by
  have h:ys=[]:=h;rw [h];exact rfl
 | x::xs,ys,h=>by
  obtain ⟨y,r,rfl,h1,h2⟩:=h;rw [List.reverse_cons,List.reverse_cons];exact (All2.rev h2).append (.one h1)
def RgD (ss:List SpS) (fs:List Str) (R:List SpS):Prop:=∃ f,(itr ss (ss.length+1) (bf0 fs)).ch=some f/\RG (itr ss (ss.length+1) (bf0 fs)).P f R
theorem RgD.uniq {ss:List SpS} {fs:List Str} {R R':List SpS} (h:RgD ss fs R) (h':RgD ss fs R'):R=R':=by
 obtain ⟨f,d,c⟩:=h;obtain ⟨e,a,b⟩:=h';rw [d] at a;cases a;exact c.uniq b
theorem RgD.rng {ss:List SpS} {fs:List Str} {R:List SpS} (h:RgD ss fs R):Rng ss R:=by
 obtain ⟨f,_,a⟩:=h;exact a.rng (BX.itr (ss.length+1))
structure BkH (ts:List TD) (F:List Str):Prop where
 l56:ts.length<=56
 ok:∀ t∈ts,TOk t
 fb:∀ s∈Ch.all ts,FB 200 11 s.c
 f8:F.length<=8
 fm:∀ t∈ts,t.st∈F/\t.en∈F
theorem BkH.l112 {ts:List TD} {F:List Str} (h:BkH ts F):(Ch.all ts).length<=112:=by
 have:=JgP (ts:=ts) ts.length;rw [take_of_length_le (Nat.le_refl _)] at this;have:=h.l56;ac_nf
theorem Jj2 {ts:List TD} {fs:List Str} (h:∀ s∈Ch.all ts,s.src∈fs):∀ s∈ssD ts,s.src∈fs:=fun s b=>by
 obtain ⟨y,a,rfl⟩:=mem_map.mp b;exact h y a
def plD (tb:Tab) (v:Str):Int × Int:=((lk tb v).getD ((0,1),[])).1
theorem Jgf {tb:Tab} {v:Str} {e:(Int × Int) × List SpS} (h:lk tb v=some e):plD tb v=e.1:=by
 unfold plD;rw [h];rfl
theorem Jer:Slot "list_reverseiterator" "__length_hint__" "list_reverseiterator.__length_hint__" :=
 .of (owner:="list_reverseiterator") (n:="__length_hint__") (by rw [typeLookup_type,builtinLookup_eq_fast];kernel_rfl) (by decide +kernel) (by decide +kernel) (by decide +kernel)
  (by first | exact .inl (by decide +kernel) | exact .inr (by decide +kernel)) (by rw [isSubtype_type];kernel_rfl)
theorem Jhv:typeLookup (.type "list_reverseiterator") "__len__"=pure none:=by rw [typeLookup_type,builtinLookup_eq_fast];kernel_rfl
section
variable {prog:Program} {w:World} {A:Around} {E:Value->Shared->Prop} {s:Shared}
theorem JhR {I l:Addr} {its:Array Value} {R:Result->Shared->Prop} (hh:A.handled=none) (hit:s.heap.IsRevIter I l ((its.size:Int)-1)) (hl:s.heap.IsList l its) (hlI:l≠I) (hn:its.size<=sizeLine) (S:Addr) (hSI:S≠I) (hSl:S≠l) (res:Value) (c₀ : Nat) (hS:s.heap.get? S=some { cls:=.type "list",data:=.seq #[] c₀ })
  (hR:∀ h' tk acc' c',(∀ b o,b≠S->b≠I->s.heap.get? b=some o->h'.get? b=some o)->h'.get? S=some { cls:=.type "list",dict:=none,data:=.seq acc' c',slots:=#[] }->ItemsOf (fun i v=>its[its.size-1-i]?=some v) acc' its.size->R (.ok (.ret res)) { s with heap:=h',toks:=tk }) :
  wpAny (model prog w) A.in1 (Builtin.List.listExtendWith (.ref S) (.ref I) res)
   (fun fin s'=>match fin with | .done f=>R (.ok f) s' | .again c'=>c'.quiet=true/\codeAny (model prog w) A c' R s') (fun e s'=>R (.error e) s') s:=by
 have j:s.TypeIs (.ref I) "list_reverseiterator":=hit.typeIs;have t:Builtin.List.listSameRef (.ref S) (.ref I)=false:=by simp [Builtin.List.listSameRef,hSI]
 have W:=(Walks.listRev (prog:=prog) (w:=w) (A:=A.in1) hh I l hlI its);have k:S∉[I,l]:=by simp [hSI,hSl]
 unfold Builtin.List.listExtendWith;refine wpAny_bind (wpAny_typeOf j ?_);rw [if_neg (by rw [t];decide)];have q:0<=its.size/\s.heap.IsRevIter I l ((its.size:Int)-1-((0:Nat):Int))/\s.heap.IsList l its:=⟨Nat.zero_le _,by simpa using hit,hl⟩;refine wpAny_bind (W.self 0 _ _ _ q ?_);refine wpAny_bind (wpAny_holding ?_);unfold Builtin.List.listLengthHint;refine wpAny_bind (wpAny_specialOf j Jhv ?_);show wpAny _ A.in1 (specialOf (Value.ref I) (Str.ofString "__length_hint__") >>= _) _ _ _;refine wpAny_bind (wpAny_specialOf j Jer.lookup ?_)
 (generalize d:("list_reverseiterator.__length_hint__" : String)=h;(fail_if_success (clear d h));wp_delta;rw [show splitId h=some ("list_reverseiterator","__length_hint__") from by subst d;decide +kernel];subst d)
 refine wpAny_bind (wpAny_isInstance (b:=true) j (by rw [isSubtype_type];kernel_rfl) ?_);show wpAny _ A.in1 (pure false) _ _ _;refine wpAny_pure ?_;rw [if_neg ⋯];refine wpAny_pure ⟨plainId_quiet PySem.F.plain_extend_loop _,codeAny_extend_loopS W.toS hn _ k _ its.size 0 _ _ _ rfl (Nat.zero_le _) q hS (ItemsOf.nil _) fun s' acc' c' p m g=>?_⟩;rw [Moved.eq_with p];refine hR s'.heap s'.toks acc' c' (fun b o r n e=>p.heap b o (fun a=>?_) e) m g;rcases mem_cons.mp a with e' | a
 ·exact r e'
 ·exact n (mem_singleton.mp a)
theorem JjV {I l:Addr} {its:Array Value} {Q:Value->Shared->Prop} (hh:A.handled=none) (hit:s.heap.IsRevIter I l ((its.size:Int)-1)) (hl:s.heap.IsList l its) (hlI:l≠I) (hn:its.size<=sizeLine)
  (hQ:∀ h' tk acc' c',(∀ b o,b≠I->s.heap.get? b=some o->h'.get? b=some o)->h'.get? s.heap.objs.size=some { cls:=.type "list",dict:=none,data:=.seq acc' c',slots:=#[] }->ItemsOf (fun i v=>its[its.size-1-i]?=some v) acc' its.size->Q (.ref s.heap.objs.size) { s with heap:=h',toks:=tk }) :
  wpAny (model prog w) A (call (.type "list") [.ref I]) Q E s:=by
 refine callType_codes (Q₁:=fun f s₁=>f=.ref s.heap.objs.size/\s₁={ s with heap:=s.heap.push { cls:=.type "list",data:=.seq #[] } }) PySem.F.called_list (PySem.F.typeCall_list_1 _) PySem.F.entry_list_init
  (code_list_new _ ⟨rfl,rfl⟩) fun f s₁ h₁=>?_
 obtain ⟨rfl,rfl⟩:=h₁;have a:(s.heap.push { cls:=.type "list",data:=.seq #[] }).get? s.heap.objs.size=some { cls:=.type "list",data:=.seq #[] }:=Heap.get?_push_size _ rfl;obtain ⟨t,m,_⟩:=id hit;obtain ⟨u,p,_⟩:=id hl;have d:s.heap.objs.size≠I:=Nat.ne_of_gt (Heap.lt_size m);have g:s.heap.objs.size≠l:=Nat.ne_of_gt (Heap.lt_size p);refine ⟨⟨_,a,rfl⟩,PySem.F.args_list_init_2 _ _,?_⟩;show wpAny _ _ (do let k <- Builtin.List.listItems (.ref s.heap.objs.size);Builtin.List.listUpdate (.ref s.heap.objs.size) (fun _=>#[]);letGo k.toList.reverse;Builtin.List.listExtendWith (.ref s.heap.objs.size) (.ref I) .none) _ _ _;refine wpAny_bind ?_;unfold Builtin.List.listItems;refine wpAny_bind (wpAny_seqItems a rfl (wpAny_pure ?_));show wpAny _ _ (updateSeq s.heap.objs.size (fun _=>#[]) >>= fun _=>letGo (#[]:Array Value).toList.reverse >>= fun _=>Builtin.List.listExtendWith (.ref s.heap.objs.size) (.ref I) .none) _ _ _;refine wpAny_bind (wpAny_updateSeq a rfl ?_);have a₂:=Heap.get?_update_self (Obj.mapSeq (fun _=>(#[]:Array Value))) a rfl;refine wpAny_bind (wpAny_letGo ?_);refine JhR (A:=A.in1) hh (hit.at fun o e=>(Heap.get?_update_other _ _ d).trans (Heap.get?_push_of_some _ e)) (hl.at fun o e=>(Heap.get?_update_other _ _ g).trans (Heap.get?_push_of_some _ e)) hlI hn s.heap.objs.size d g .none _ a₂ fun h' tk acc' c' q n c=>?_;refine ⟨rfl,hQ h' tk acc' c' (fun b o r e=>?_) n c⟩;have j:b≠s.heap.objs.size:=Nat.ne_of_lt (Heap.lt_size e);exact q b o j r ((Heap.get?_update_other _ _ (Ne.symm j)).trans (Heap.get?_push_of_some _ e))
end
section
variable {X:Cx}
def tRevL (K:W.Frag) (te:TE):TE:=fun σ H Q=>te σ H fun v H1=>∃ a xs,v=.ref a/\SqL K H1 a xs/\∀ l,H1 l=none->Q (.ref l) (upd H1 l (.lst xs.reverse))
theorem JiM {xs:List V} {us:List Value} {acc:Array Value} (r:Vals xs us) (h:ItemsOf (fun i v=>us.toArray[us.toArray.size-1-i]?=some v) acc us.toArray.size):Vals xs.reverse acc.toList:=by
 have e:acc.toList=us.reverse:=by
  refine List.ext_getElem? fun i=>?_;have a:acc.toList.length=us.length:=by rw [Array.length_toList,h.1];simp
  by_cases c:i<us.length
  ·have:=h.2 i (acc.toList[i]'∅) (by rw [<- Array.getElem?_toList];exact List.getElem?_eq_getElem ∅);rw [List.getElem?_eq_getElem ∅, <- this,List.getElem?_reverse c];simp
  ·rw [List.getElem?_eq_none ∅,List.getElem?_eq_none (by rw [List.length_reverse];ac_nf)]
 rw [e];have key:∀ (xs:List V) (us:List Value),Vals xs us->Vals xs.reverse us.reverse:=by
  intro xs us h;induction h with
  | nil=>exact .nil
  | cons h _ ih=>
   rw [List.reverse_cons,List.reverse_cons];exact ih.append (.cons h .nil)
 exact key _ _ r
theorem JjO {e:Expr} {t:TE} {p1 p2 pos pos2:Pos} {x y:Str} (hc:X.calm=true) (hx:x="list") (hy:y="reversed")
  (hg:Gl X x) (hm:X.mg x=none) (hv:bootBuiltins x=some (.type "list")) (hg2:Gl X y) (hm2:X.mg y=none) (hv2:bootBuiltins y=some (.type "reversed")) (ha:PE X e t)
  (he:starEach [e] X.env=(false,eval e X.env)::starEach [] X.env:=by rfl) :
  PE X (.Call (.Name x p1) [.Call (.Name y p2) [e] [] pos2] [] pos) (tRevL X.K t):=by
 intro i s σ H Q I h;have O:x≠"__name__":=by rw [hx];decide
 have T:y≠"__name__":=by rw [hy];decide
 have U:(x == ("__debug__" : Str))=false:=by rw [hx];decide
 have G:(y == ("__debug__" : Str))=false:=by rw [hy];decide
 refine wpAny_Call_Name_kw (Jcm I hg hm hv ?_ O U);refine PyProof.Rows.callWith_type1 ?_ rfl rfl;show wpAny _ _ (spliced ((false,eval (.Call (.Name y p2) [e] [] pos2) X.env)::backTo pos (starEach [] X.env))) _ _ s;refine Calls.spliced_cons ?_;refine wpAny_Call_Name_kw (Jcm I hg2 hm2 hv2 ?_ T G);refine PyProof.Rows.callWith_type1 ?_ he rfl;rw [he];show wpAny _ _ (spliced ((false,eval e X.env)::backTo pos2 (starEach [] X.env))) _ _ s;refine Calls.spliced_cons (thn (ha i s σ H _ I h) fun u c ⟨v,Z,I1,F,a,C,N,P,q⟩=>Calls.spliced_nil ?_);subst N;obtain rfl:u=Value.ref a:=F;obtain ⟨n,B,p,M⟩:=I1.list P;have f:=p.isList;refine call_reversed_list f (Calls.spliced_nil ?_);generalize d:c.heap.push _=l;have W:l.objs.size=c.heap.objs.size+1:=by rw [<- d];exact Heap.size_push ..
 have E:∀ b o,c.heap.get? b=some o->l.get? b=some o:=fun b o z=>by rw [<- d];exact Heap.get?_push_of_some _ z
 have m:l.IsRevIter c.heap.objs.size a ((n.toArray.size:Int)-1):=⟨_,by rw [<- d];exact Heap.get?_push_size _ rfl,rfl,rfl⟩;obtain ⟨Y,r,_⟩:=id f;have V:=B.length;refine JjV (s:={ c with heap:=l }) (I.ok.hd hc) m (f.at fun o e=>E _ _ e) (Nat.ne_of_lt (Heap.lt_size r)) (by simp;ac_nf) fun A L g S k J j=>?_;have R:∀ b o,c.heap.get? b=some o->A.get? b=some o:=fun b o z=>k b o (Nat.ne_of_lt (Heap.lt_size z)) (E b o z);have D:c.heap.objs.size<=l.objs.size:=by ac_nf
 exact ⟨.ref _,_,I1.laid (t':=L) (o:=.lst C.reverse) R D (show ObjOk X.prog X.w _ A _ (.lst C.reverse) from ⟨by rw [List.length_reverse];exact M,g.toList,S,JiM B j,by rw [Array.toArray_toList];exact J⟩),rfl,q _ (I1.hok.fresh D)⟩
end
theorem y88y {K:W.Frag} {te:TE} {σ : St} {H:Hp} {Q:VK}:tRevL K te σ H Q=te σ H fun v H1=>∃ a xs,v=.ref a/\SqL K H1 a xs/\∀ l,H1 l=none->Q (.ref l) (upd H1 l (.lst xs.reverse)):=rfl
theorem Ji4 {α : Type}:∀ (fs:List Str) (ls:List α) (i:Nat) (f:Str) (a : α),fs.Nodup->fs[i]?=some f->ls[i]?=some a->lk (fs.zip ls) f=some a
 | [],_,i,f,a,_,h,_=>by simp at h
 | _::_,[],i,f,a,_,_,h=>by simp at h
 | f0::fs,l0::ls,0,f,a,_,h,k=>by
  cases h;cases k;rw [List.zip_cons_cons];exact if_pos rfl
 | f0::fs,l0::ls,i+1,f,a,nd,h,k=>by
  rw [List.getElem?_cons_succ] at h k;rw [nodup_cons] at nd;rw [List.zip_cons_cons];unfold lk;rw [if_neg (fun (e:f0=f)=>nd.1 (e ▸ List.mem_of_getElem? h))];exact Ji4 fs ls i f a nd.2 h k
def plcL (ls:List (Int × Int)) (f:Str):Rat:=((lk (faceL.zip ls) f).map vl).getD 0
theorem JhK {ls:List (Int × Int)} {i:Nat} {f:Str} {a:Int × Int} (h:faceL[i]?=some f) (k:ls[i]?=some a):plcL ls f=vl a:=by
 unfold plcL;rw [Ji4 faceL ls i f a ⋯ h k];rfl
structure TG4 (z:Bool) (ls:List (Int × Int)) (t:TD):Prop where
 ok:TOk t
 ex:∃ (i j:Nat) (li lj A:Int × Int),faceL[i]?=some t.st/\faceL[j]?=some t.en/\ls[i]?=some li/\ls[j]?=some lj/\1<=A.2/\(z=true->vl A=vl lj-vl li)/\okB t.lo t.hi A=true
 lo:∀ u,t.lo=some u->FB 160 11 u
 hi:∀ u,t.hi=some u->FB 160 11 u
theorem TG4.fb {z:Bool} {ls:List (Int × Int)} {t:TD} (h:TG4 z ls t):∀ s∈Ch.steps t,FB 200 11 s.c:=fun s a=>by
 unfold Ch.steps fwd bwd at a;rcases mem_append.mp a with a | a
 ·cases e:t.hi with
  | none=>rw [e] at a;cases a
  | some u=>
   rw [e] at a;rw [mem_singleton.mp a];exact (h.hi u e).mono ⋯ ⋯
 ·cases e:t.lo with
  | none=>rw [e] at a;cases a
  | some u=>
   rw [e] at a;rw [mem_singleton.mp a];exact ((h.lo u e).neg).mono ⋯ ⋯
theorem TG4.pot {ls:List (Int × Int)} {t:TD} (h:TG4 true ls t):∀ s∈Ch.steps t,plcL ls s.dst<=plcL ls s.src+vl s.c:=fun s a=>by
 obtain ⟨i,j,w,v,A,r,m,q,p,f,o,b⟩:=h.ex;have g:=o rfl;have k:=JhK r q;have l:=JhK m p;unfold okB at b;rw [Bool.and_eq_true] at b;unfold Ch.steps fwd bwd at a;rcases mem_append.mp a with a | a
 ·cases e:t.hi with
  | none=>rw [e] at a;cases a
  | some u=>
   rw [e] at a b;rw [mem_singleton.mp a];show plcL ls t.en<=plcL ls t.st+vl u;rw [k,l];have n:¬ vl u<vl A:=fun z=>by
    have:=(Jew (h.hi u e).b1 f).mpr z;have d:(!lessF u A)=true:=b.2;rw [this] at d;cases d
   rw [g] at n;have n:=Rat.not_lt.mp n;grind
 ·cases e:t.lo with
  | none=>rw [e] at a;cases a
  | some u=>
   rw [e] at a b;rw [mem_singleton.mp a];show plcL ls t.st<=plcL ls t.en+vl (negF u);rw [k,l,Jgo];have n:¬ vl A<vl u:=fun z=>by
    have:=(Jew f (h.lo u e).b1).mpr z;have d:(!lessF A u)=true:=b.1;rw [this] at d;cases d
   rw [g] at n;have n:=Rat.not_lt.mp n;grind
theorem Jhl:∀ {ts:List TD},(ts.map (·.nm)).Nodup->((Ch.all ts).map key).Nodup
 | [],_=>by simp [Ch.all]
 | t::ts,h=>by
  rw [map_cons,nodup_cons] at h;have e:Ch.all (t::ts)=Ch.steps t++Ch.all ts:=by simp [Ch.all]
  rw [e,map_append];refine nodup_append.mpr ⟨?_,Jhl h.2,fun a ha b hb z=>?_⟩
  ·unfold Ch.steps fwd bwd;cases t.hi <;> cases t.lo <;> simp [key]
  ·obtain ⟨s,hs,rfl⟩:=mem_map.mp ha;obtain ⟨s',hs',rfl⟩:=mem_map.mp hb;obtain ⟨t',ht',hs''⟩:=List.mem_flatMap.mp (show s'∈ts.flatMap Ch.steps from hs');have e1:=Jd8 hs;have e2:=Jd8 hs'';have e3:s.nm=s'.nm:=congrArg (·.1) z;exact h.1 (mem_map.mpr ⟨t',ht',by rw [<- e2, <- e3,e1]⟩)
theorem JjB {ts:List TD} (h:∀ (j:Nat) (t:TD),ts[j]?=some t->t.nm=⟨#[97+j/8,97+j % 8]⟩):(nms ts).Nodup:=by
 refine List.pairwise_iff_getElem.mpr fun i j a b c e=>?_;unfold nms at a b e;rw [length_map] at a b;rw [List.getElem_map,List.getElem_map,h i _ (List.getElem?_eq_getElem a),h j _ (List.getElem?_eq_getElem b)] at e;simp at e;ac_nf
theorem JiQ {P:SD->Prop} {ts:List TD} (h:∀ t∈ts, ∀ s∈Ch.steps t,P s):∀ s∈Ch.all ts,P s:=fun s a=>by
 obtain ⟨t,b,a⟩:=List.mem_flatMap.mp (show s∈ts.flatMap Ch.steps from a);exact h t b s a
theorem Jkc {z:Bool} {ls:List (Int × Int)} {ts:List TD} (h:∀ t∈ts,TG4 z ls t) (hl:ts.length<=56):BkH ts faceL where
 l56:=hl
 ok:=fun t a=>(h t a).ok
 fb:=JiQ fun t a=>(h t a).fb
 f8:=by decide
 fm:=fun t a=>by
  obtain ⟨i,j,_,_,_,c,b,_⟩:=(h t a).ex;exact ⟨List.mem_of_getElem? c,List.mem_of_getElem? b⟩
def qD (p:Str × (Int × Int)):D:=.tup [.str p.1,frD p.2]
theorem JiV:∀ l:List (Str × (Int × Int)),depL (l.map qD)<=2
 | []=>by simp [depL]
 | s::l=>by
  have:=JiV l;rw [map_cons,depL];have e:depD (qD s)=2:=by simp [qD,depD,depL,frD]
  ac_nf
theorem Jg6:∀ l:List SpS,depL (l.map fun s=>prD (s.nm,s.fw))<=1
 | []=>by simp [depL]
 | s::l=>by
  have:=Jg6 l;rw [map_cons,depL];have e:depD (prD (s.nm,s.fw))=1:=by simp [prD,depD,depL]
  ac_nf
theorem JiW:∀ l:List TD,depL (l.map tdD)<=3
 | []=>by simp [depL]
 | t::l=>by
  have:=JiW l;rw [map_cons,depL];have e:depD (tdD t)<=3:=by
   have hb:∀ o:Option (Int × Int),depD (bD o)<=1:=fun o=>by cases o <;> simp [bD,depD,frD,depL]
   have h1:=hb t.lo;have h2:=hb t.hi;simp only [tdD,depD,depL];ac_nf
  ac_nf
theorem QV.rep {K:W.Frag} {H:Hp} {p:Str × (Int × Int)} {x:V} (h:QV K H p x):Rep K H (qD p) x:=by
 obtain ⟨b,v,rfl,d,c⟩:=h;have a:=c.rep;simp only [qD,Rep,RepL,frD] at a ⊢;exact ⟨_,_,rfl,SqT.of d,_,_,rfl,rfl,_,_,rfl,a,rfl⟩
theorem Jjn {xs:List V}:(cutV xs (some 8) (some 64)).length<=56:=by
 unfold cutV;rw [show (some (8:Int))=some ((8:Nat):Int) from rfl,show (some (64:Int))=some ((64:Nat):Int) from rfl,HT.sIx_nat,HT.sIx_nat,length_take];ac_nf
theorem pot4 {ls:List (Int × Int)} {ts:List TD} (h:∀ t∈ts,TG4 true ls t) (h1:1<=bD_ ts) (hb:∀ s∈Ch.all ts,1<=s.c.2/\s.c.2∣bD_ ts):∃ π,Pot π (ssD ts):=⟨_,JkT h1 hb (JiQ fun t a=>(h t a).pot)⟩
theorem JjX {ts:List TD} {R:List SpS} (h:Rng (ssD ts) R) (h1:1<=bD_ ts) (hb:∀ s∈Ch.all ts,1<=s.c.2/\s.c.2∣bD_ ts):(cs R).1<0:=by
 obtain ⟨e,d⟩:=JgY (b:=bD_ ts) fun s g=>ss_wh hb s (h.mem s g);refine Int.not_le.mp fun z=>?_;have a:=(vl_nn d).mpr z;have f:(0:Rat)<=(bD_ ts:Rat):=by
  have : (0:Int)<=bD_ ts:=by ac_nf
  exact_mod_cast this
 have:=Rat.mul_nonneg a f;rw [e] at this;have i:(0:Int)<=wgt R:=by exact_mod_cast this
 have:=h.neg;ac_nf
theorem Rng.len {ts:List TD} {R:List SpS} (h:Rng (ssD ts) R):R.length<=(Ch.all ts).length:=by
 have:=sub_len (R.map (·.src)) ((ssD ts).map (·.src)) h.nd fun x b=>by
  obtain ⟨y,a,rfl⟩:=mem_map.mp b;exact mem_map.mpr ⟨y,h.mem y a,rfl⟩
 rw [length_map,length_map] at this;unfold ssD at this;rw [length_map] at this;exact this
theorem JhJ {ts:List TD} {F fs:List Str} {tb:Tab} {v:Str} (hg:BkH ts F) (h:TTd ts fs tb) (hv:v∈fs):FB 1600 1240 (plD tb v):=by
 obtain ⟨e,a⟩:=(h.ks v).mpr (.inl hv);rw [Jgf a];exact h.fb hg.fb hg.l112 a
theorem Jkz {ts:List TD} {F out:List Str} {tb:Tab} {t:TD} (hg:BkH ts F) (h:TTd ts out tb) (hF:JbN ts out) (ht:t∈ts):okB t.lo t.hi (addF (plD tb t.en) (negF (plD tb t.st)))=true:=by
 have p:t.st∈out:=(hF.2.2 _).mpr ⟨t,ht, .inl rfl⟩;have r:t.en∈out:=(hF.2.2 _).mpr ⟨t,ht, .inr rfl⟩;obtain ⟨a,f⟩:=(h.ks t.st).mpr (.inl p);obtain ⟨b,i⟩:=(h.ks t.en).mpr (.inl r);rw [Jgf f,Jgf i];have q:=h.b2 f;have o:=h.b2 i;have l:1<=(addF b.1 (negF a.1)).2:=Mth.JbO (Int.mul_ne_zero ∅ (by show a.1.2≠0;ac_nf));have m:vl (addF b.1 (negF a.1))=vl b.1-vl a.1:=by
  rw [Jgn o (show 1<=(negF a.1).2 from q),Jgo,Rat.sub_eq_add_neg]
 have n:=hg.ok t ht;have g:∀ s∈Ch.steps t,s∈Ch.all ts:=fun s f=>List.mem_flatMap.mpr ⟨t,ht,f⟩;unfold okB;rw [Bool.and_eq_true];constructor
 ·cases e:t.lo with
  | none=>rfl
  | some u=>
   have k:(⟨t.en,t.st,negF u,t.nm,false⟩:SD)∈Ch.steps t:=by unfold Ch.steps fwd bwd;rw [e];exact mem_append_right _ (mem_singleton.mpr rfl)
   obtain ⟨j,c,d⟩:=h.step (g _ k) i;have c:lk tb t.st=some j:=c;rw [f] at c;cases c;have d:vl a.1<=vl b.1+vl (negF u):=d;rw [Jgo] at d;show (!lessF (addF b.1 (negF a.1)) u)=true;cases z:lessF (addF b.1 (negF a.1)) u with
   | false=>rfl
   | true=>
    have:=(Jew l (n.lo u e).b1).mp z;rw [m] at this;refine absurd this (Rat.not_lt.mpr ?_);grind
 ·cases e:t.hi with
  | none=>rfl
  | some u=>
   have k:(⟨t.st,t.en,u,t.nm,true⟩:SD)∈Ch.steps t:=by unfold Ch.steps fwd bwd;rw [e];exact mem_append_left _ (by simp)
   obtain ⟨j,c,d⟩:=h.step (g _ k) f;have c:lk tb t.en=some j:=c;rw [i] at c;cases c;have d:vl b.1<=vl a.1+vl u:=d;show (!lessF u (addF b.1 (negF a.1)))=true;cases z:lessF u (addF b.1 (negF a.1)) with
   | false=>rfl
   | true=>
    have:=(Jew (n.hi u e).b1 l).mp z;rw [m] at this;refine absurd this (Rat.not_lt.mpr ?_);grind
theorem JiK {t b:Int} (hb:1<=b) (hg:Mth.g t b=1):Mth.top t b=t/\Mth.bot t b=b:=by
 have e:Mth.by_ t b=1:=by
  unfold Mth.by_;rw [hg];split <;> first | rfl | ac_nf
 unfold Mth.top Mth.bot;rw [e,Int.fdiv_one,Int.fdiv_one];exact ⟨rfl,rfl⟩
theorem bF_ok:∀ (m:Nat) (ns:List (Int × Int)),ns.length=m->(∀ n∈ns,1<=n.2)->1<=bF ns/\∀ n∈ns,n.2∣bF ns
 | 0,ns,hl,_=>by
  rw [eq_nil_of_length_eq_zero hl];exact ⟨by decide,fun n hn=>by cases hn⟩
 | m+1,ns,hl,h=>by
  rcases List.eq_nil_or_concat ns with e | ⟨r,n,e⟩
  ·rw [e] at hl;cases hl
  ·rw [List.concat_eq_append] at e;subst e;obtain ⟨h1,h2⟩:=bF_ok m r (by simpa using hl) fun x hx=>h x (mem_append_left _ hx);have hn:=h n (by simp);have gp:0<Mth.g (bF r) n.2:=Mth.g_pos ∅;have gd:=Jg8 (b:=bF r) hn;rw [JgR];have hq:1<=n.2.fdiv (Mth.g (bF r) n.2):=by
    rw [Int.fdiv_eq_ediv_of_nonneg _ ∅];have:=Mth.g_le (a:=bF r) (b:=n.2) ∅;exact (Int.le_ediv_iff_mul_le gp).mpr ∅
   refine ⟨Int.le_trans h1 (by
    have:=Int.mul_le_mul_of_nonneg_left hq (show 0<=bF r by ac_nf);rw [Int.mul_one] at this;exact this),fun x hx=>?_⟩
   rcases mem_append.mp hx with hx | hx
   ·exact Int.dvd_trans (h2 x hx) (Int.dvd_mul_right ..)
   ·rw [mem_singleton.mp hx];exact gd
theorem bDok {ts:List TD} {F:List Str} (hg:BkH ts F):1<=bD_ ts/\∀ s∈Ch.all ts,1<=s.c.2/\s.c.2∣bD_ ts:=by
 obtain ⟨d,b⟩:=bF_ok _ ((Ch.all ts).map (·.c)) rfl fun n e=>by
  obtain ⟨s,a,rfl⟩:=mem_map.mp e;exact (hg.fb s a).b1
 exact ⟨d,fun s a=>⟨(hg.fb s a).b1,b _ (mem_map.mpr ⟨s,a,rfl⟩)⟩⟩
end L2
open PySem L2
local macro_rules|`(tactic|rename_i $p:ident $h:ident $q:ident $H:ident $G:ident $S:ident $e:ident)=>`(tactic|(intro $p:ident $h:ident;generalize $q:ident:upd $H $p _=$G;have $S:ident:=newS $h $q;have $e:ident:=newE $q))
local macro_rules|`(tactic|bv_decide)=>`(tactic|exact ⟨rfl,rfl,rfl,by decide +kernel,rfl,by decide +kernel,by decide +kernel⟩)
local macro_rules|`(tactic|simpa! only [$xs,*])=>`(tactic|simp only [y51y,y52y,y53y,y77y,y2by,y72y,y86y,y87y,y48y,y2fy,y7ey,y9by,y31y,y3dy,y78y,y30y,y91y,y23y,y29y,y7fy,y7ay,y2ay,y80y,y7cy,y5fy,y9dy,y26y,y8fy,y76y,y6fy,y4dy,y6ey,y83y,y34y,y4by,y74y,y4cy,y75y,y4ay,y73y,y96y,y69y,y65y,y98y,y9ay,y97y,y99y,y25y,y6dy,y24y,true_and,if_true,if_false,Bool.not_true,Bool.not_false,Bool.false_eq_true,yby,ydy,yay,ycy,yey,y15y,y17y,y14y,y16y,y18y,y6y,y8y,y5y,y7y,y9y,y1y,y3y,y0y,y2y,y4y,y10y,y12y,yfy,y11y,y13y,y1ay,y1cy,y19y,y1by,y1dy,y1fy,y21y,y1ey,y20y,y22y,y8dy,y82y,y79y,y94y,y84y,y27y,V.int.injEq,V.str.injEq,List.set_cons_zero,List.set_cons_succ,List.getElem?_cons_zero,List.getElem?_cons_succ,Option.some.injEq,exists_eq_left,exists_eq_left',V.bl.injEq,Int.reduceToNat,Int.reducePow,append_nil,nil_append,cons_append,y5by,y5dy,y2dy,y2ey,y70y,y64y,y7by,y6ay,y6cy,y3ey,y47y,y42y,y81y,y43y,y35y,y37y,y3by,y41y,y45y,y56y,y58y,y60y,y39y,y93y,y38y,y54y,y55y,y9cy,y85y,y6by,y2cy,y8cy,y4fy,ya1y,y88y,reduceCtorEq,decide_false,decide_true,$xs,*])
local macro_rules|`(tactic|infer_instance)=>`(tactic|simpa! only [y8ay])
local macro_rules|`(tactic|contradiction)=>`(tactic|simpa! only [y8ay,y4ey])
local macro_rules|`(tactic|ac_rfl)=>`(tactic|simpa! only [y8ay,y8by])
local macro_rules|`(tactic|symm_saturate)=>`(tactic|((try simpa! only [y4ey,y8by]);repeat ((first | (with_reducible refine Jep fun _ _=>?_) | (with_reducible refine Nxt.go (by assumption) ?_));(try simpa! only [y4ey,y8by]))))
local macro_rules|`(tactic|exfalso)=>`(tactic|((try simpa! only [y8by]);repeat ((first | (with_reducible refine Jep fun _ _=>?_) | (with_reducible refine Nxt.go (by assumption) ?_));(try simpa! only [y8by]))))
local macro_rules|`(tactic|and_intros)=>`(tactic|((try simpa! only [y4ey]);repeat ((first | (with_reducible refine Jep fun _ _=>?_) | (with_reducible refine Nxt.go (by assumption) ?_));(try simpa! only [y4ey]))))
local macro_rules|`(tactic|nofun)=>`(tactic|((try simpa! only [true_and]);repeat ((first | (with_reducible refine Jep fun _ _=>?_) | (with_reducible refine Nxt.go (by assumption) ?_));(try simpa! only [true_and]))))
local macro_rules|`(tactic|simpa only [$xs,*])=>`(tactic|simpa! only [y8ay, $xs,*])
namespace Prg
open PySem L2 Ch
variable {f:Addr} {fd:FuncData} {dV:Value}
def top (i:Nat):Stmt:=PySem.Challenge.pw_slackchain_k32_whole_a_ring_or_a_placing.main.body.getD i (.Pass ⟨0,0,0,0⟩)
structure Adr where
 SlackError:Addr
 NoTie:Addr
 Impossible:Addr
 Tie:Addr
 Free:Addr
 AtLeast:Addr
 AtMost:Addr
 Just:Addr
 Between:Addr
 Scale:Addr
 Step:Addr
 Book:Addr
 SMALL_LETTERS:Value
 LONGEST_NAME:Value
 ZERO:Addr
structure TieC (K:W.Frag) (C:Addr):Prop where
 cls:Cls K C
 n1:Ja2 K C "name"
 n2:Ja2 K C "start"
 n3:Ja2 K C "end"
 n4:Ja2 K C "least"
 n5:Ja2 K C "greatest"
def IsTie (Ad:Adr) (C:Addr):Prop:=C=Ad.Free\/C=Ad.AtLeast\/C=Ad.AtMost\/C=Ad.Just\/C=Ad.Between
def TieV (H:Hp) (v:V) (C:Addr) (n s e l g:V):Prop:=∃ p dx,v=.ref p/\H p=some (.ins C dx (tieF n s e l g))
def kindC (Ad:Adr) (l g:D):Addr:=if nonD l then (if nonD g then Ad.Free else Ad.AtMost) else if nonD g then Ad.AtLeast else if eqD l g then Ad.Just else Ad.Between
theorem Jhm (Ad:Adr) (l g:D):IsTie Ad (kindC Ad l g):=by
 unfold kindC IsTie;split
 ·split
  ·exact .inl rfl
  ·exact .inr (.inr (.inl rfl))
 ·split
  ·exact .inr (.inl rfl)
  ·split
   ·exact .inr (.inr (.inr (.inl rfl)))
   ·exact .inr (.inr (.inr (.inr rfl)))
structure Jka (K:W.Frag) (C:Addr):Prop where
 cls:Cls K C
 n1:Ja2 K C "bottom"
 n2:Ja2 K C "factors"
def Jfd (Ad:Adr) (C:Addr):Prop:=C=Ad.Scale
structure StepC (K:W.Frag) (C:Addr):Prop where
 cls:Cls K C
 n1:Ja2 K C "source"
 n2:Ja2 K C "target"
 n3:Ja2 K C "cost"
 n4:Ja2 K C "whole"
 n5:Ja2 K C "pair"
def Jj9 (Ad:Adr) (C:Addr):Prop:=C=Ad.Step
theorem SqT.put {K:W.Frag} {H:Hp} {x a C dx:Addr} {fs fs':List (Str × V)} {xs:List V} (hx:H x=some (.ins C dx fs)) (h:SqT K H a xs):SqT K (upd H x (.ins C dx fs')) a xs:=by
 rcases h with (h | ⟨o,h⟩) | h
 ·exact .inl (.inl (by rw [Jaf (ne_of h hx (by intro z;cases z))];exact h))
 ·exact .inl (.inr ⟨o,by rw [Jaf (ne_of h hx (by intro z;cases z))];exact h⟩)
 ·exact .inr h
def partF (n s e z m w:V):List (Str × V):=[("name",n),("start",s),("end",e),("size",z),("most",m),("weight",w)]
def gapF (n s e l g:V):List (Str × V):=[("name",n),("one",s),("other",e),("low",l),("high",g)]
theorem TieV.same {H H':Hp} {v:V} {C:Addr} {n s e l g:V} (S:Same H H') (h:TieV H v C n s e l g):TieV H' v C n s e l g:=by
 obtain ⟨p,c,a,b⟩:=h;exact ⟨p,c,a,S _ _ b⟩
structure BookC (K:W.Frag) (C:Addr):Prop where
 cls:Cls K C
 n1:Ja2 K C "by_name"
def Jbq (Ad:Adr) (C:Addr):Prop:=C=Ad.Book
structure Txt (K:W.Frag) (mg:Str->Option Value) (Ad:Adr):Prop where
 BbX:mg "abs"=none
 Bal:mg "isinstance"=none
 Bbp:mg "len"=none
 Bb7:mg "all"=none
 Bb8:mg "int"=none
 Bb6:mg "bool"=none
 BbP:mg "tuple"=none
 Bb9:mg "str"=none
 BbQ:mg "range"=none
 Bbu:mg "list"=none
 n_reversed:mg "reversed"=none
 BbD:mg "sorted"=none
 n_set:mg "set"=none
 n_dict:mg "dict"=none
 m_SlackError:mg "SlackError"=some (.ref Ad.SlackError)
 m_NoTie:mg "NoTie"=some (.ref Ad.NoTie)
 m_Impossible:mg "Impossible"=some (.ref Ad.Impossible)
 m_Tie:mg "Tie"=some (.ref Ad.Tie)
 m_Free:mg "Free"=some (.ref Ad.Free)
 m_AtLeast:mg "AtLeast"=some (.ref Ad.AtLeast)
 m_AtMost:mg "AtMost"=some (.ref Ad.AtMost)
 m_Just:mg "Just"=some (.ref Ad.Just)
 m_Between:mg "Between"=some (.ref Ad.Between)
 Bca:mg "Scale"=some (.ref Ad.Scale)
 m_Step:mg "Step"=some (.ref Ad.Step)
 m_Book:mg "Book"=some (.ref Ad.Book)
 Bbv:mg "SMALL_LETTERS"=some Ad.SMALL_LETTERS
 Bbw:RelV (.str "abcdefghijklmnopqrstuvwxyz") Ad.SMALL_LETTERS
 Bbz:mg "LONGEST_NAME"=some Ad.LONGEST_NAME
 BbA:RelV (.int 8) Ad.LONGEST_NAME
 Bb0:mg "ZERO"=some (.ref Ad.ZERO)
 Bb1:RelV (.ref Ad.ZERO) (.ref Ad.ZERO)
 BbV:∀ H:Hp,SqT K H Ad.ZERO [.int 0, .int 1]
 x_SlackError:W.excIn K Ad.SlackError [.type "ValueError", .type "Exception", .type "BaseException", .type "object"] "ValueError.__new__"=true
 x_NoTie:W.excIn K Ad.NoTie [.type "ValueError", .type "Exception", .type "BaseException", .type "object"] "ValueError.__new__"=true
 cl1_Free:W.plainGet K Ad.Free Str.empty=true
 cl2_Free:W.hasDictIn K Ad.Free=true
 cl3_Free:W.plainOver K Ad.Free=true
 cl4_Free:W.findIn K (.ref Ad.Free) "__setattr__"=some (some (.builtin "object.__setattr__"))
 na1_Free:W.findIn K (.ref Ad.Free) "name"=some none
 na2_Free:W.findIn K (.ref Ad.Free) "start"=some none
 na3_Free:W.findIn K (.ref Ad.Free) "end"=some none
 na4_Free:W.findIn K (.ref Ad.Free) "least"=some none
 na5_Free:W.findIn K (.ref Ad.Free) "greatest"=some none
 cl1_AtLeast:W.plainGet K Ad.AtLeast Str.empty=true
 cl2_AtLeast:W.hasDictIn K Ad.AtLeast=true
 cl3_AtLeast:W.plainOver K Ad.AtLeast=true
 cl4_AtLeast:W.findIn K (.ref Ad.AtLeast) "__setattr__"=some (some (.builtin "object.__setattr__"))
 na1_AtLeast:W.findIn K (.ref Ad.AtLeast) "name"=some none
 na2_AtLeast:W.findIn K (.ref Ad.AtLeast) "start"=some none
 na3_AtLeast:W.findIn K (.ref Ad.AtLeast) "end"=some none
 na4_AtLeast:W.findIn K (.ref Ad.AtLeast) "least"=some none
 na5_AtLeast:W.findIn K (.ref Ad.AtLeast) "greatest"=some none
 cl1_AtMost:W.plainGet K Ad.AtMost Str.empty=true
 cl2_AtMost:W.hasDictIn K Ad.AtMost=true
 cl3_AtMost:W.plainOver K Ad.AtMost=true
 cl4_AtMost:W.findIn K (.ref Ad.AtMost) "__setattr__"=some (some (.builtin "object.__setattr__"))
 na1_AtMost:W.findIn K (.ref Ad.AtMost) "name"=some none
 na2_AtMost:W.findIn K (.ref Ad.AtMost) "start"=some none
 na3_AtMost:W.findIn K (.ref Ad.AtMost) "end"=some none
 na4_AtMost:W.findIn K (.ref Ad.AtMost) "least"=some none
 na5_AtMost:W.findIn K (.ref Ad.AtMost) "greatest"=some none
 cl1_Just:W.plainGet K Ad.Just Str.empty=true
 cl2_Just:W.hasDictIn K Ad.Just=true
 cl3_Just:W.plainOver K Ad.Just=true
 cl4_Just:W.findIn K (.ref Ad.Just) "__setattr__"=some (some (.builtin "object.__setattr__"))
 na1_Just:W.findIn K (.ref Ad.Just) "name"=some none
 na2_Just:W.findIn K (.ref Ad.Just) "start"=some none
 na3_Just:W.findIn K (.ref Ad.Just) "end"=some none
 na4_Just:W.findIn K (.ref Ad.Just) "least"=some none
 na5_Just:W.findIn K (.ref Ad.Just) "greatest"=some none
 cl1_Between:W.plainGet K Ad.Between Str.empty=true
 cl2_Between:W.hasDictIn K Ad.Between=true
 cl3_Between:W.plainOver K Ad.Between=true
 cl4_Between:W.findIn K (.ref Ad.Between) "__setattr__"=some (some (.builtin "object.__setattr__"))
 na1_Between:W.findIn K (.ref Ad.Between) "name"=some none
 na2_Between:W.findIn K (.ref Ad.Between) "start"=some none
 na3_Between:W.findIn K (.ref Ad.Between) "end"=some none
 na4_Between:W.findIn K (.ref Ad.Between) "least"=some none
 na5_Between:W.findIn K (.ref Ad.Between) "greatest"=some none
 Ba5:W.plainGet K Ad.Scale Str.empty=true
 Ba6:W.hasDictIn K Ad.Scale=true
 Ba7:W.plainOver K Ad.Scale=true
 Ba8:W.findIn K (.ref Ad.Scale) "__setattr__"=some (some (.builtin "object.__setattr__"))
 Ba9:W.findIn K (.ref Ad.Scale) "bottom"=some none
 Bba:W.findIn K (.ref Ad.Scale) "factors"=some none
 cl1_Step:W.plainGet K Ad.Step Str.empty=true
 cl2_Step:W.hasDictIn K Ad.Step=true
 cl3_Step:W.plainOver K Ad.Step=true
 cl4_Step:W.findIn K (.ref Ad.Step) "__setattr__"=some (some (.builtin "object.__setattr__"))
 na1_Step:W.findIn K (.ref Ad.Step) "source"=some none
 na2_Step:W.findIn K (.ref Ad.Step) "target"=some none
 na3_Step:W.findIn K (.ref Ad.Step) "cost"=some none
 na4_Step:W.findIn K (.ref Ad.Step) "whole"=some none
 na5_Step:W.findIn K (.ref Ad.Step) "pair"=some none
 bk1:W.plainGet K Ad.Book Str.empty=true
 bk2:W.hasDictIn K Ad.Book=true
 bk3:W.plainOver K Ad.Book=true
 bk4:W.findIn K (.ref Ad.Book) "__setattr__"=some (some (.builtin "object.__setattr__"))
 bkn:W.findIn K (.ref Ad.Book) "by_name"=some none
 xi1:W.findIn K (.ref Ad.Impossible) "__setattr__"=some (some (.builtin "object.__setattr__"))
 xi2:W.findIn K (.ref Ad.Impossible) "around"=some none
 xi3:W.hasDictIn K Ad.Impossible=true
 xi4:W.findIn K (.ref Ad.Impossible) "__getattribute__"=some (some (.builtin "BaseException.__getattribute__"))
 xi5:W.findIn K (.ref Ad.Impossible) "__getattr__"=some none
 xi6:W.mroIn K Ad.Impossible (.type "BaseException")=some true
 xi7:W.specialIn K (.ref Ad.SlackError) "__getattribute__"=some (some (.builtin "type.__getattribute__"))
 xi8:W.readsIn K Ad.SlackError (.type "type")=true
 xi9:W.findCls K (.ref Ad.SlackError) (.type "type") "__init__"=some (.val (.builtin "ValueError.__init__"))
 xi11:W.typeIn K (.ref Ad.Impossible)=some (.type "type")
 xi12:W.mroIn K Ad.Impossible (.ref Ad.Impossible)=some true
 tie:∀ C,IsTie Ad C->TieC K C
 BbE:∀ C,Jfd Ad C->Jka K C
 c_Step:∀ C,Jj9 Ad C->StepC K C
 book:∀ C,Jbq Ad C->BookC K C
 xa:ExcA K Ad.Impossible "around"
 xl:ExcL K Ad.Impossible "around"
 slk:SlkI K Ad.SlackError
 xc:JdT K Ad.Impossible Ad.Impossible
def Jk0 (dl dg:D) (a b:Int):Bool:=!lessD (.tup [.int a, .int b]) dl&&!lessD dg (.tup [.int a, .int b])
def negD:D->D
 | .tup [.int a, .int b]=>.tup [.int (-a), .int b]
 | d=>d
def Jdu (ds de dl dg:D):List D:=(if nonD dg then [] else [.tup [ds,de,dg, .bl true]])++(if nonD dl then [] else [.tup [de,ds,negD dl, .bl false]])
structure Bnd (K:W.Frag) (H:Hp) (d:D) (v:V):Prop where
 rep:Rep K H d v
 ok:Jb2 d=true
 sz:szD d
theorem Bnd.same {K:W.Frag} {H H':Hp} {d:D} {v:V} (S:Same H H') (b:Bnd K H d v):Bnd K H' d v:=⟨b.rep.same S,b.ok,b.sz⟩
theorem Bnd.frac {K:W.Frag} {H:Hp} {d:D} {v:V} (b:Bnd K H d v) (h:nonD d=false):∃ x y,d=.tup [.int x, .int y]/\1<=y/\Mth.g x y=1/\FrV K H v x y/\Mth.Sz 4000 x/\Mth.Sz 4000 y:=by
 have f:fracB d=true:=by have:=b.ok;cases d <;> first | exact this | (simp [nonD] at h)
 obtain ⟨x,y,rfl,e,c⟩:=JbK f;have a:=b.sz;simp only [szD,szL] at a;exact ⟨x,y,rfl,e,c,FrV.of_rep b.rep,a.1,a.2.1⟩
section
variable {K:W.Frag} {H:Hp}
theorem repS {z:Str}:Rep K H (.str z) (.str z):=by simp only [Rep]
end
theorem JiJ (t:TD):Jdu (.str t.st) (.str t.en) (bD t.lo) (bD t.hi)=(Ch.steps t).map pD:=by
 unfold Jdu Ch.steps fwd bwd;cases t.lo <;> cases t.hi <;> simp [bD,frD,nonD,negD,pD]
theorem JiS {K:W.Frag} {H:Hp} {o:Option (Int × Int)} {v:V} (h:BV K H o v) (k:∀ a,o=some a->FOk 600 a):Bnd K H (bD o) v:=⟨h.rep,(bD_ok k).1,(bD_ok k).2⟩
def OV (K:W.Frag) (Ad:Adr) (H:Hp) (t:TD) (v:V):Prop:=∃ C vl vg,TieV H v C (.str t.nm) (.str t.st) (.str t.en) vl vg/\IsTie Ad C/\BV K H t.lo vl/\BV K H t.hi vg
theorem OV.same {K:W.Frag} {Ad:Adr} {H H':Hp} {t:TD} {v:V} (S:Same H H'):OV K Ad H t v->OV K Ad H' t v:=by rintro ⟨C,vl,e,d,c,a,b⟩;exact ⟨C,vl,e,d.same S,c,a.sameT S.t,b.sameT S.t⟩
section
variable {K:W.Frag} {Ad:Adr} {H H':Hp} {p d:Addr} {kvs:List (Key × V)} {ts:List TD}
def Sx (d:Addr) (H H':Hp):Prop:=∀ b u,b≠d->H b=some u->H' b=some u
theorem Same.sx (S:Same H H'):Sx d H H':=fun b u _ h=>S b u h
theorem Sx.t (S:Sx d H H') (hd:H d=some (.dK kvs)):SameT H H':=fun b u t h=>S b u (fun z=>by rw [z,hd] at h;cases h;simp [isTF] at t) h
theorem OV.sx {t:TD} {v:V} (S:Sx d H H') (hd:H d=some (.dK kvs)):OV K Ad H t v->OV K Ad H' t v:=fun ⟨C,vl,h,⟨q,c,e,a⟩,f,b,g⟩=>
 ⟨C,vl,h,⟨q,c,e,S _ _ (fun z=>by rw [z,hd] at a;cases a) a⟩,f,b.sameT (S.t hd),g.sameT (S.t hd)⟩
def BK (K:W.Frag) (Ad:Adr) (H:Hp) (p d:Addr) (ts:List TD):Prop:=(∃ dx,H p=some (.ins Ad.Book dx [("by_name", .ref d)]))/\∃ kvs,H d=some (.dK kvs)/\BD (OV K Ad H) ts kvs
theorem BK.same (S:Same H H') (h:BK K Ad H p d ts):BK K Ad H' p d ts:=by
 obtain ⟨⟨b,e⟩,a,f,c⟩:=h;exact ⟨⟨b,S _ _ e⟩,a,S _ _ f,c.mono fun _ _ z=>z.same S⟩
theorem BK.sl {l:Addr} {zs:List V} (h:BK K Ad H p d ts) (hl:H l=some (.lst zs)) (S:Sx l H H'):BK K Ad H' p d ts:=by
 obtain ⟨⟨g,i⟩,a,c,r⟩:=h;have j:SameT H H':=fun b u t h=>S b u (fun z=>by rw [z,hl] at h;cases h;simp [isTF] at t) h;refine ⟨⟨g,S _ _ (fun z=>by rw [z,hl] at i;cases i) i⟩,a,S _ _ (fun z=>by rw [z,hl] at c;cases c) c,r.mono ?_⟩;rintro t v ⟨C,vl,o,⟨q,g,e,f⟩,n,k,m⟩;exact ⟨C,vl,o,⟨q,g,e,S _ _ (fun z=>by rw [z,hl] at f;cases f) f⟩,n,k.sameT j,m.sameT j⟩
end
def SCK (Ad:Adr) (H:Hp) (x:Addr) (b:Int) (fs:List Int):Prop:=∃ dx fl,H x=some (.ins Ad.Scale dx [("bottom", .int b),("factors", .ref fl)])/\H fl=some (.lst (fs.map V.int))/\Scl b fs/\Mth.Sz 2500 b/\fs.length<=112
theorem SCK.same {Ad:Adr} {H H':Hp} {x:Addr} {b:Int} {fs:List Int} (S:Same H H'):SCK Ad H x b fs->SCK Ad H' x b fs:=by rintro ⟨e,c,f,d,a⟩;exact ⟨e,c,S _ _ f,S _ _ d,a⟩
def TOb (K:W.Frag) (Ad:Adr) (H:Hp) (t:TD) (v:V):Prop:=∃ vl vg,TieV H v (kindC Ad (bD t.lo) (bD t.hi)) (.str t.nm) (.str t.st) (.str t.en) vl vg/\BV K H t.lo vl/\BV K H t.hi vg
theorem TOb.same {K:W.Frag} {Ad:Adr} {H H':Hp} {t:TD} {v:V} (S:Same H H'):TOb K Ad H t v->TOb K Ad H' t v:=by
 rintro ⟨vl,d,c,a,b⟩;exact ⟨vl,d,c.same S,a.sameT S.t,b.sameT S.t⟩
def SRV (K:W.Frag) (H:Hp) (s:SD) (x:V):Prop:=∃ b v,x=.ref b/\SqT K H b [.str s.nm,v]/\PV K H s v
theorem SRV.sameT {K:W.Frag} {H H':Hp} {s:SD} {x:V} (S:SameT H H'):SRV K H s x->SRV K H' s x:=by
 rintro ⟨b,v,d,c,a⟩;exact ⟨b,v,d,c.sameT S,a.sameT S⟩
def SOV (K:W.Frag) (Ad:Adr) (b:Int) (H:Hp) (s:SD) (x:V):Prop:=∃ p dx vc pr,x=.ref p/\H p=some (.ins Ad.Step dx [("source", .str s.src),("target", .str s.dst),("cost",vc),("whole", .int (s.c.1*b.fdiv s.c.2)),("pair", .ref pr)])/\FrV K H vc s.c.1 s.c.2/\H pr=some (.tup [.str s.nm, .bl s.fw])
theorem SOV.same {K:W.Frag} {Ad:Adr} {b:Int} {H H':Hp} {s:SD} {x:V} (S:Same H H'):SOV K Ad b H s x->SOV K Ad b H' s x:=by
 rintro ⟨p,f,g,a,h,e,c,d⟩;exact ⟨p,f,g,a,h,S _ _ e,c.same S,S _ _ d⟩
def SOS (K:W.Frag) (Ad:Adr) (H:Hp) (s:SpS) (x:V):Prop:=∃ p dx vc pr,x=.ref p/\H p=some (.ins Ad.Step dx [("source", .str s.src),("target", .str s.tgt),("cost",vc),("whole", .int s.wh),("pair", .ref pr)])/\FrV K H vc s.cost.1 s.cost.2/\H pr=some (.tup [.str s.nm, .bl s.fw])
theorem SOS.same {K:W.Frag} {Ad:Adr} {H H':Hp} {s:SpS} {x:V} (S:Same H H'):SOS K Ad H s x->SOS K Ad H' s x:=by
 rintro ⟨p,e,f,a,g,d,b,c⟩;exact ⟨p,e,f,a,g,S _ _ d,b.same S,S _ _ c⟩
def RI (a:Int) (v:V):Prop:=v=.int a
def chV:Option Str->V
 | none=>.non
 | some f=>.str f
def RT (K:W.Frag) (H0 H:Hp) (e:(Int × Int) × List SpS) (v:V):Prop:=∃ p qv l xs,v=.ref p/\SqT K H p [qv, .ref l]/\FrV K H qv e.1.1 e.1.2/\H l=some (.lst xs)/\All2 (CV H) (e.2.map fun s=>(s.nm,s.fw)) xs/\H0 l=none
theorem RT.same {K:W.Frag} {H0 H H':Hp} {e:(Int × Int) × List SpS} {v:V} (S:Same H H'):RT K H0 H e v->RT K H0 H' e v:=by
 rintro ⟨p,c,l,a,i,f,b,g,d,h⟩;exact ⟨p,c,l,a,i,f.same S,b.same S,S _ _ g,(d.mono fun _ _ z=>z.sameT S.t),h⟩
theorem RT.putL {K:W.Frag} {H0 H H':Hp} {e:(Int × Int) × List SpS} {v:V} {a:Addr} {o:HO} {kv:List (Key × V)} (u:upd H a o=H') (h:H a=some (.dK kv)):RT K H0 H e v->RT K H0 H' e v:=by
 rintro ⟨p,f,l,c,k,i,d,b,g,j⟩;have T:SameT H H':=SameT.put u h rfl;have n:l≠a:=fun z=>by rw [z,h] at b;cases b
 exact ⟨p,f,l,c,k,i.sameT T,d.sameT T,by rw [<- u,Jaf n];exact b,(g.mono fun _ _ z=>z.sameT T),j⟩
def RF (K:W.Frag) (H:Hp) (e:Int × Int) (v:V):Prop:=FrV K H v e.1 e.2
def TDk (K:W.Frag) (H0 H:Hp) (tb:Tab) (td:Addr):Prop:=∃ kt,H td=some (.dK kt)/\DV (RT K H0 H) tb kt/\H0 td=none
theorem TDk.same {K:W.Frag} {H0 H H':Hp} {tb:Tab} {td:Addr} (S:Same H H'):TDk K H0 H tb td->TDk K H0 H' tb td:=by rintro ⟨c,d,b,a⟩;exact ⟨c,S _ _ d,b.mono fun _ _ z=>z.same S,a⟩
theorem RT.base {K:W.Frag} {H0 H1 H:Hp} {e:(Int × Int) × List SpS} {v:V} (S:Same H1 H0):RT K H0 H e v->RT K H1 H e v:=by rintro ⟨p,c,l,a,i,f,b,g,d,h⟩;exact ⟨p,c,l,a,i,f,b,g,d,JaN S h⟩
theorem TDk.base {K:W.Frag} {H0 H1 H:Hp} {tb:Tab} {td:Addr} (S:Same H1 H0):TDk K H0 H tb td->TDk K H1 H tb td:=by rintro ⟨c,d,b,a⟩;exact ⟨c,d,b.mono fun _ _ z=>z.base S,JaN S a⟩
theorem JkS {K:W.Frag} {Ad:Adr} {H:Hp} {b:Int} {s:SD} {x:V} (h:SOV K Ad b H s x):SOS K Ad H (toS b s) x:=h
theorem JhX {K:W.Frag} {Ad:Adr} {H:Hp} {b:Int}:∀ {ss:List SD} {xs:List V},All2 (SOV K Ad b H) ss xs->All2 (SOS K Ad H) (ss.map (toS b)) xs
 | [],_,h=>h
 | s::ss,_,⟨x,r,e,h1,h2⟩=>⟨x,r,e,JkS h1,JhX h2⟩
structure STp (K:W.Frag) (Ad:Adr) (H:Hp) (ts:List TD) (sL:Addr):Prop where
 ex:∃ sx,SqL K H sL sx/\All2 (SOS K Ad H) (ssD ts) sx
 b1:1<=bD_ ts
 bb:∀ s∈Ch.all ts,1<=s.c.2/\s.c.2∣bD_ ts
theorem STp.same {K:W.Frag} {Ad:Adr} {H H':Hp} {ts:List TD} {sL:Addr} (S:Same H H') (h:STp K Ad H ts sL):STp K Ad H' ts sL:=by
 obtain ⟨⟨a,e,c⟩,b,d⟩:=h;exact ⟨⟨a,e.same S,c.mono fun _ _ z=>z.same S⟩,b,d⟩
section
variable {P:Program} {w:World} {K:W.Frag} {mg:Str->Option Value} {base:Heap} {Ad:Adr}
seal PE PA PS PSs PT PW PG PGs PI PO
abbrev Baf:Stmt:=top 7
theorem JaF:Jan ["one","other","greater","lesser","rest"] ["one","other"] (Jae Baf):=by bv_decide
def JaG  : Sp:=fun vs H Q E=>∃ (a b:Int),vs=[.int a, .int b]/\Q (.int (Mth.g a b)) H
theorem JcS (F:FunD K "common_divisor" "common_divisor" Baf dV f fd) (T:Txt K mg Ad)  : FnOk P w K mg base (CX1 P w) 1 f fd ["one","other"] (JaG):=by
 refine F.okn JaF (by subst_eqs) (fun o A d s H r Q E p h=>?_)
 obtain ⟨a,b,rfl,h⟩:=h;have j:=p.units;refine ⟨_,(Jab (Jaj (i:=2) JaF.nd rfl (Or.inl rfl) (Jav JcC rfl T.BbX JfT (Jaa (pv 0) Jag)))
   (Jab (Jaj (i:=3) JaF.nd rfl (Or.inl rfl) (Jav JcC rfl T.BbX JfT (Jaa (pv 1) Jag)))
   (Jab (JcH PassesOwn.never (Jaq (JcE j) (pv 3) Jad (Jar _))
   (Jab (Jaj (i:=4) JaF.nd rfl (Or.inl rfl) (pe_op JaA (pv 2) (pv 3)))
   (Jab (Jaj (i:=2) JaF.nd rfl (Or.inl rfl) (pv 3))
   (Jah (Jaj (i:=3) JaF.nd rfl (Or.inl rfl) (pv 4))))))
   (Jah (Jao (pv 2)))))),?_⟩
 clear j;show tSeq _ _ _ [some (.int a),some (.int b),none,none,none] H;try infer_instance
 refine ⟨fun m σ k=>∃ (x y:Int) (z:Option V),σ=[some (.int a),some (.int b),some (.int x),some (.int y),z]/\k=H/\0<=x/\0<=y/\Mth.g x y=Mth.g a b/\y.toNat=m,⟨_,_,_,none,rfl,rfl,Mth.JfQ a,Mth.JfQ b,Mth.Bb5 a b,rfl⟩,?_⟩;rintro m σ k ⟨x,y,z,rfl,rfl,t,n,l,rfl⟩;try infer_instance
 by_cases c:y=0
 ·subst c;rw [if_neg (by simp)];have e:Mth.g a b=x:=by rw [<- l,Mth.Ji1];ac_nf
  rw [e] at h;exact h
 ·rw [if_pos (by simp [c])];have f:=Mth.fm (x:=x) (y:=y) ∅;exact ⟨_,fun _ _ q=>q,c,(x.fmod y).toNat,by ac_nf,y,x.fmod y,_,rfl,rfl,n,f.1,by rw [Mth.Jhf ∅];exact l,rfl⟩
abbrev BbB:Stmt:=top 8
theorem Jeo:Jan ["one","other","shared","top","rest"] ["one","other"] (Jae BbB):=by bv_decide
def Jet (K:W.Frag):Sp:=fun vs H Q E=>∃ (x y:V) (a b c d:Int),vs=[x,y]/\FrV K H x a b/\FrV K H y c d/\Mth.Sz 4000 a/\Mth.Sz 4000 b/\Mth.Sz 4000 c/\Mth.Sz 4000 d/\1<=b/\1<=d/\Mth.g a b=1/\Mth.g c d=1/\∀ p H',Same H H'->H' p=some (.tup [.int (Mth.top (a*d+c*b) (b*d)), .int (Mth.bot (a*d+c*b) (b*d))])->Q (.ref p) H'
theorem JjD (F:FunD K "plus" "plus" BbB dV f fd) (T:Txt K mg Ad) (Bac:Cal P w K mg base 1 "common_divisor" ["one","other"] [] (JaG)):FnOk P w K mg base (CX1 P w) 2 f fd ["one","other"] (Jet K):=by
 refine F.okn Jeo (by subst_eqs) (fun M A o s H X Q E v h=>?_)
 obtain ⟨x,y,a,b,c,d,rfl,h⟩:=h;refine ⟨_,(Jab (Jaj (i:=2) Jeo.nd rfl (Or.inl rfl) (Bac.ev v ⋯ rfl passF (Jaa (pe_ix ix_U (pv 0) Jad (fun _ _=>rfl)) (Jaa (pe_ix ix_U (pv 1) Jad (fun _ _=>rfl)) Jag)) (he:=by exact Jai rfl)))
   (Jab (Jaj (i:=3) Jeo.nd rfl (Or.inl rfl) (pe_op Ja1 (pe_op JaX (pe_ix ix_U (pv 0) Jad (fun _ _=>rfl)) (pe_op Jau (pe_ix ix_U (pv 1) Jad (fun _ _=>rfl)) (pv 2))) (pe_op JaX (pe_ix ix_U (pv 1) Jad (fun _ _=>rfl)) (pe_op Jau (pe_ix ix_U (pv 0) Jad (fun _ _=>rfl)) (pv 2)))))
   (Jab (Jaj (i:=4) Jeo.nd rfl (Or.inl rfl) (Bac.ev v ⋯ rfl passF (Jaa (pv 3) (Jaa (pv 2) Jag)) (he:=by exact Jai rfl)))
   (Jah (Jao (JaR (Jaa (pe_op Jau (pv 3) (pv 4)) (Jaa (pe_op JaX (pe_op Jau (pe_ix ix_U (pv 0) Jad (fun _ _=>rfl)) (pv 2)) (pe_op Jau (pe_ix ix_U (pv 1) Jad (fun _ _=>rfl)) (pv 4))) Jag)))))))),?_⟩
 obtain ⟨j,e,R,V,C,m,W,D,B,O,k⟩:=h;show tSeq _ _ _ [some x,some y,none,none,none] H;try infer_instance
 refine ixF1 j (ixF1 e ?_);try infer_instance
 refine ⟨_,_,rfl,?_⟩;try infer_instance
 have Y:=Mth.g_pos (a:=b) (b:=d) ∅;have U:=Mth.Jde b d;have u:=Mth.JcD b d;have q:Mth.Sz 4000 (Mth.g b d):=Nat.lt_of_le_of_lt (by have:=Mth.g_le (a:=b) (b:=d) ∅;ac_nf:(Mth.g b d).natAbs<=d.natAbs) m;have n:DivOk (Mth.g b d):=divOk ∅ q;have r:=V.fdiv U ∅;have J:=m.fdiv u ∅;refine ixF0 j (ixF1 e ?_);try infer_instance
 refine ⟨n,mulOk R J,ixF0 e (ixF1 j ?_)⟩;try infer_instance
 refine ⟨n,mulOk C r,?_⟩;refine ⟨_,_,rfl,?_⟩;have l:=Mth.JjR W D B O (s:=Mth.g b d) rfl rfl rfl;generalize ht:a*d.fdiv (Mth.g b d)+c*b.fdiv (Mth.g b d)=t at l ⊢;have Z:=Mth.g_pos (a:=t) (b:=Mth.g b d) ∅;have G:=Mth.JcD t (Mth.g b d);have N:Mth.Sz 4000 (Mth.g t (Mth.g b d)):=Nat.lt_of_le_of_lt (by have:=Mth.g_le (a:=t) (b:=Mth.g b d) ∅;ac_nf:(Mth.g t (Mth.g b d)).natAbs<=(Mth.g b d).natAbs) q;have z:DivOk (Mth.g t (Mth.g b d)):=divOk ∅ N;try infer_instance
 refine ⟨z,ixF1 j ?_⟩;try infer_instance
 refine ⟨n,ixF1 e ?_⟩;try infer_instance
 refine ⟨z,mulOk r (m.fdiv (Int.dvd_trans G u) ∅),len2,?_⟩;refine Jfr fun p L S I=>k p L S ?_;rw [I,l.1,l.2]
abbrev Bbq:Stmt:=top 9
theorem JiF:Jan ["one","other"] ["one","other"] (Jae Bbq):=by bv_decide
def Jes (K:W.Frag):Sp:=fun vs H Q E=>∃ (x y:V) (a b c d:Int),vs=[x,y]/\FrV K H x a b/\FrV K H y c d/\Mth.Sz 4000 a/\Mth.Sz 4000 b/\Mth.Sz 4000 c/\Mth.Sz 4000 d/\1<=b/\1<=d/\Mth.g a b=1/\Mth.g c d=1/\∀ p H',Same H H'->H' p=some (.tup [.int (Mth.top (a*d-c*b) (b*d)), .int (Mth.bot (a*d-c*b) (b*d))])->Q (.ref p) H'
theorem Jis (F:FunD K "minus" "minus" Bbq dV f fd) (T:Txt K mg Ad) (BbC:Cal P w K mg base 2 "plus" ["one","other"] [] (Jet K)):FnOk P w K mg base (CX1 P w) 3 f fd ["one","other"] (Jes K):=by
 refine F.okn JiF (by subst_eqs) (fun v A e s H J Q E G h=>?_)
 obtain ⟨x,y,a,b,c,d,rfl,h⟩:=h;refine ⟨_,(Jah (Jao (BbC.ev G ⋯ rfl passF (Jaa (pv 0) (Jaa (JaR (Jaa (pe_un Jfa (pe_ix ix_U (pv 1) Jad (fun _ _=>rfl))) (Jaa (pe_ix ix_U (pv 1) Jad (fun _ _=>rfl)) Jag))) Jag)) (he:=by exact Jai rfl)))),?_⟩;obtain ⟨r,g,B,C,j,o,I,m,i,z,k⟩:=h;show tRet _ _ [some x,some y] H;try infer_instance
 refine ixF0 g ?_;try infer_instance
 refine ixF1 g ?_;try infer_instance
 refine ⟨len2,?_⟩;rename_i p t n H M S q;refine ⟨_,_,a,b, -c,d,rfl,r.same S,FrV.of q,B,C,j.neg,o,I,m,i,by rw [Mth.g_neg];exact z,fun u L D l=>k u L (S.trans D) ?_⟩;rw [l,Int.neg_mul, <- Int.sub_eq_add_neg]
abbrev Bbr:Stmt:=top 10
theorem JiG:Jan ["one","other"] ["one","other"] (Jae Bbr):=by bv_decide
def Jeu (K:W.Frag):Sp:=fun vs H Q E=>∃ (x y:V) (a b c d:Int),vs=[x,y]/\FrV K H x a b/\FrV K H y c d/\Mth.Sz 4000 a/\Mth.Sz 4000 b/\Mth.Sz 4000 c/\Mth.Sz 4000 d/\Q (.bl (decide (a*d<c*b))) H
theorem Jit (F:FunD K "under" "under" Bbr dV f fd) (T:Txt K mg Ad)  : FnOk P w K mg base (CX1 P w) 1 f fd ["one","other"] (Jeu K):=by
 refine F.okn JiG (by subst_eqs) (fun m A e s H p Q E q h=>?_)
 obtain ⟨x,y,a,b,c,d,rfl,h⟩:=h;refine ⟨_,(Jah (Jao (Ja5 Jdo (pe_op JaX (pe_ix ix_U (pv 0) Jad (fun _ _=>rfl)) (pe_ix ix_U (pv 1) Jad (fun _ _=>rfl))) (pe_op JaX (pe_ix ix_U (pv 1) Jad (fun _ _=>rfl)) (pe_ix ix_U (pv 0) Jad (fun _ _=>rfl))) (Jar _)))),?_⟩;obtain ⟨i,g,n,o,j,l,k⟩:=h;show tRet _ _ [some x,some y] H;try infer_instance
 refine ixF0 i (ixF1 g ?_);try infer_instance
 refine ⟨mulOk n l,ixF0 g (ixF1 i ?_)⟩;try infer_instance
 exact ⟨mulOk j o,k⟩
abbrev BaX:Stmt:=top 16
theorem JgG:Jan ["thing"] ["thing"] (Jae BaX):=by bv_decide
def Jcl (K:W.Frag):Sp:=fun vs H Q E=>∃ (x:V) (d:D),vs=[x]/\Rep K H d x/\szD d/\∀ H',Same H H'->Q (.bl (nameB d)) H'
theorem JgB (F:FunD K "is_name" "is_name" BaX dV f fd) (T:Txt K mg Ad)  : FnOk P w K mg base (CX1 P w) 1 f fd ["thing"] (Jcl K):=by
 refine F.okn JgG (by subst_eqs) (fun C A g s H G Q E R h=>?_)
 obtain ⟨x,d,rfl,h⟩:=h;refine ⟨_,(Jab (ps_if (Jbz (Jbk (Jav Jaz rfl T.Bal JaK (Jaa (pv 0) (Jaa (Jb4 (v:=.ty "str") rfl T.Bb9 Jkg rfl) Jag)))))
   (Jah (Jao pe_bl))
   Jas)
   (Jab (ps_if (PW.pt (pw_or (Jaq Jdo (Jav JaM rfl T.Bbp JbJ (Jaa (pv 0) Jag)) Jad (Jar _)) (JbA (Jaq JeX (Jav JaM rfl T.Bbp JbJ (Jaa (pv 0) Jag)) (Jeh (v:=.int 8) rfl T.Bbz T.BbA) (Jar _)))))
   (Jah (Jao pe_bl))
   Jas)
   (Jah (Jao (Jav (JgS rfl) rfl T.Bb7 Jkd (Jaa (Jcs (own:=["sign"]) (cs:=[]) (cl:=[]) rfl (JkJ (pv 0)) (fun _ _ _ _=>(Jat (i:=0) (show [("sign" : Str)].Nodup by decide) rfl (Or.inl rfl))) (fun _ _ _ _=>(Ja5 (JkF (K:=K) rfl) (pv 0) (Jeh (v:=.str "abcdefghijklmnopqrstuvwxyz") rfl T.Bbv T.Bbw) (by with_unfolding_all rfl))) rfl ⋯ rfl ⋯ hcl0 (hhas0 ⋯) hcs0) Jag)))))),?_⟩
 obtain ⟨b,r,k⟩:=h;show tSeq _ _ _ [some x] H;try infer_instance
 refine ⟨_,b.tyN,?_⟩;by_cases n:∃ z,d=.str z
 ·obtain ⟨z,rfl⟩:=n;simp only [Rep] at b;subst b;simp only [szD] at r;simpa only [tyD];have q:z.length<=sizeLine:=Nat.le_trans r ⋯;simp only [nameB,nameS] at k;refine ⟨q,?_⟩;try infer_instance
  by_cases M:z.length<1
  ·rw [if_pos (by simp;ac_nf)];have e:decide (1<=z.length)=false:=by simp;ac_nf
   rw [e] at k;exact k H (.refl H)
  ·rw [if_neg (by simp;ac_nf)];have e:decide (1<=z.length)=true:=by simp;ac_nf
   rw [e] at k;refine ⟨q,?_⟩;try infer_instance
   by_cases O:8<z.length
   ·rw [if_pos (by simp;ac_nf)];have e:decide (z.length<=8)=false:=by simp;ac_nf
    rw [e] at k;exact k H (.refl H)
   ·rw [if_neg (by simp;ac_nf)];have e:decide (z.length<=8)=true:=by simp;ac_nf
    rw [e] at k;try infer_instance
    simpa only [tComp,iStr];refine ⟨fun i m t l=>l=H/\i<=z.cps.size/\m=z.cps.size-i/\t=(z.cps.toList.take i).map fun c=>V.bl (lowB c),⟨_,rfl,Nat.zero_le _,rfl,by simp⟩,?_⟩;rintro i m t l ⟨rfl,J,rfl,rfl⟩;have U:z.cps.size=z.length:=rfl;refine ⟨by simp;ac_nf,?_⟩;by_cases a:i<z.cps.size
    ·refine .inr ⟨a,?_⟩;rintro x u ⟨rfl,c,y,rfl⟩;simpa only [length_singleton,List.replicate,JaB,map_nil,y61y,Jgt];refine ⟨_,Nat.sub_lt_sub_left a (Nat.lt_succ_self i),a,rfl,?_⟩;have j:z.cps.toList[i]?=some c:=by simpa using y
     rw [take_succ,j];simp
    ·have o:i=z.cps.size:=by ac_nf
     refine .inl ⟨o,?_⟩;subst o;rw [take_of_length_le (by simp)];rename_i p N L l u S B;refine ⟨p,z.cps.toList.map lowB,rfl,SqL.of (by rw [B,List.map_map];rfl),?_⟩;have:=k u S;simpa [List.all_map] using this
 ·have I:nameB d=false:=by cases d <;> first | rfl | exact absurd ⟨_,rfl⟩ n
  rw [I] at k;have D:isiB (tyD d) "str"=false:=by cases d <;> first | rfl | exact absurd ⟨_,rfl⟩ n
  simpa only [D];exact k H (.refl H)
abbrev BaK:Stmt:=top 17
theorem JfG:Jan ["thing"] ["thing"] (Jae BaK):=by bv_decide
def Jcx (K:W.Frag):Sp:=fun vs H Q E=>∃ (x:V) (d:D),vs=[x]/\Rep K H d x/\Q (.bl (JcZ d)) H
theorem Jfu (F:FunD K "is_whole" "is_whole" BaK dV f fd) (T:Txt K mg Ad)  : FnOk P w K mg base (CX1 P w) 1 f fd ["thing"] (Jcx K):=by
 refine F.okn JfG (by subst_eqs) (fun e A b s H g Q E i h=>?_)
 obtain ⟨x,d,rfl,h⟩:=h;refine ⟨_,(Jah (Jao (Jcn (Jav Jaz rfl T.Bal JaK (Jaa (pv 0) (Jaa (Jb4 (v:=.ty "int") rfl T.Bb8 Jke rfl) Jag))) (JcV (Ji8 (Jav Jaz rfl T.Bal JaK (Jaa (pv 0) (Jaa (Jb4 (v:=.ty "bool") rfl T.Bb6 Jjk rfl) Jag)))))))),?_⟩;obtain ⟨c,k⟩:=h;show tRet _ _ [some x] H;try infer_instance
 refine ⟨_,c.tyN,?_⟩;have a:=c.tyN;cases d <;> simp only [tyD,JcZ,y8ay,y51y,y52y,y53y,y77y,y2by,y72y,y86y,y87y,y48y,y2fy,y7ey,y9by,y31y,y3dy,y78y,y30y,y91y,y23y,y29y,y7fy,y7ay,y2ay,y80y,y7cy,y5fy,y9dy,y26y,y8fy,y76y,y6fy,y4dy,y6ey,y83y,y34y,y4by,y74y,y4cy,y75y,y4ay,y73y,y96y,y69y,y65y,y98y,y9ay,y97y,y99y,y25y,y6dy,y24y,true_and,if_true,if_false,Bool.not_true,Bool.not_false,Bool.false_eq_true,yby,ydy,yay,ycy,yey,y15y,y17y,y14y,y16y,y18y,y6y,y8y,y5y,y7y,y9y,y1y,y3y,y0y,y2y,y4y,y10y,y12y,yfy,y11y,y13y,y1ay,y1cy,y19y,y1by,y1dy,y1fy,y21y,y1ey,y20y,y22y,y8dy,y82y,y79y,y94y,y84y,y27y,V.int.injEq,V.str.injEq,List.set_cons_zero,List.set_cons_succ,List.getElem?_cons_zero,List.getElem?_cons_succ,Option.some.injEq,exists_eq_left,exists_eq_left',V.bl.injEq,Int.reduceToNat,Int.reducePow,append_nil,nil_append,cons_append,y5by,y5dy,y2dy,y2ey,y70y,y64y,y7by,y6ay,y6cy,y3ey,y47y,y42y,y81y,y43y,y35y,y37y,y3by,y41y,y45y,y56y,y58y,y60y,y39y,y93y,y38y,y54y,y55y,y9cy,y85y,y6by,y2cy,y8cy,y4fy,ya1y,y88y,reduceCtorEq,decide_false,decide_true] at k a ⊢ <;> first | exact k | exact ⟨_,a,by simpa only [y8ay,y51y,y52y,y53y,y77y,y2by,y72y,y86y,y87y,y48y,y2fy,y7ey,y9by,y31y,y3dy,y78y,y30y,y91y,y23y,y29y,y7fy,y7ay,y2ay,y80y,y7cy,y5fy,y9dy,y26y,y8fy,y76y,y6fy,y4dy,y6ey,y83y,y34y,y4by,y74y,y4cy,y75y,y4ay,y73y,y96y,y69y,y65y,y98y,y9ay,y97y,y99y,y25y,y6dy,y24y,true_and,if_true,if_false,Bool.not_true,Bool.not_false,Bool.false_eq_true,yby,ydy,yay,ycy,yey,y15y,y17y,y14y,y16y,y18y,y6y,y8y,y5y,y7y,y9y,y1y,y3y,y0y,y2y,y4y,y10y,y12y,yfy,y11y,y13y,y1ay,y1cy,y19y,y1by,y1dy,y1fy,y21y,y1ey,y20y,y22y,y8dy,y82y,y79y,y94y,y84y,y27y,V.int.injEq,V.str.injEq,List.set_cons_zero,List.set_cons_succ,List.getElem?_cons_zero,List.getElem?_cons_succ,Option.some.injEq,exists_eq_left,exists_eq_left',V.bl.injEq,Int.reduceToNat,Int.reducePow,append_nil,nil_append,cons_append,y5by,y5dy,y2dy,y2ey,y70y,y64y,y7by,y6ay,y6cy,y3ey,y47y,y42y,y81y,y43y,y35y,y37y,y3by,y41y,y45y,y56y,y58y,y60y,y39y,y93y,y38y,y54y,y55y,y9cy,y85y,y6by,y2cy,y8cy,y4fy,ya1y,y88y,reduceCtorEq,decide_false,decide_true] using k⟩
abbrev Bap:Stmt:=top 18
theorem JdE:Jan ["thing"] ["thing"] (Jae Bap):=by bv_decide
def JbE (K:W.Frag):Sp:=fun vs H Q E=>∃ (x:V) (d:D),vs=[x]/\Rep K H d x/\Q (.bl (fracB d)) H
theorem Jdz (F:FunD K "is_fraction" "is_fraction" Bap dV f fd) (T:Txt K mg Ad) (Bbf:Cal P w K mg base 1 "is_whole" ["thing"] [] (Jcx K)) (Bac:Cal P w K mg base 1 "common_divisor" ["one","other"] [] (JaG)):FnOk P w K mg base (CX1 P w) 2 f fd ["thing"] (JbE K):=by
 refine F.okn JdE (by subst_eqs) (fun G A t s H J Q E b h=>?_)
 obtain ⟨x,d,rfl,h⟩:=h;have n:=b.units;refine ⟨_,(Jab (ps_if (PW.pt (pw_or (Jbz (Jbk (Jav Jaz rfl T.Bal JaK (Jaa (pv 0) (Jaa (Jb4 (v:=.ty "tuple") rfl T.BbP JdW rfl) Jag))))) (JbA (Jaq (JcE n) (Jav JaM rfl T.Bbp JbJ (Jaa (pv 0) Jag)) Jad (Jar _)))))
   (Jah (Jao pe_bl))
   Jas)
   (Jab (ps_if (PW.pt (pw_or (Jbz (Jbk (Bbf.ev b ⋯ rfl passF (Jaa (pe_ix ix_U (pv 0) Jad (fun _ _=>rfl)) Jag) (he:=by exact Jai rfl)))) (JbA (Jbz (Jbk (Bbf.ev b ⋯ rfl passF (Jaa (pe_ix ix_U (pv 0) Jad (fun _ _=>rfl)) Jag) (he:=by exact Jai rfl)))))))
   (Jah (Jao pe_bl))
   Jas)
   (Jah (Jao (Jcn (Ja5 JkE (pe_ix ix_U (pv 0) Jad (fun _ _=>rfl)) Jad (Jar _)) (JcV (Ja5 (Jbj n) (Bac.ev b ⋯ rfl passF (Jaa (pe_ix ix_U (pv 0) Jad (fun _ _=>rfl)) (Jaa (pe_ix ix_U (pv 0) Jad (fun _ _=>rfl)) Jag)) (he:=by exact Jai rfl)) Jad (Jar _)))))))),?_⟩
 clear n;obtain ⟨q,k⟩:=h;show tSeq _ _ _ [some x] H;try infer_instance
 refine ⟨_,q.tyN,?_⟩;by_cases o:∃ m,d=.tup m
 ·obtain ⟨m,rfl⟩:=o;simpa only [tyD];simp only [Rep] at q;obtain ⟨a,B,rfl,l,b⟩:=q;have N:=b.length;refine ⟨B, .inr l,?_⟩;try infer_instance
  by_cases z:m.length=2
  ·match m,z with
   | [d0,d1],_=>
    simp only [RepL] at b;obtain ⟨C,L,rfl,r,D,M,rfl,p,rfl⟩:=b;simpa only [length_cons,length_nil];rw [if_neg (by simp)];try infer_instance
    refine ixT0 l ?_;refine ⟨C,d0,rfl,r,?_⟩;try infer_instance
    by_cases u:JcZ d0=true
    ·rw [if_neg (by simp [u])];refine ixT1 l ?_;refine ⟨D,d1,rfl,p,?_⟩;try infer_instance
     by_cases y:JcZ d1=true
     ·rw [if_neg (by simp [y])];obtain ⟨i,rfl⟩:∃ i,d0=.int i:=by cases d0 <;> simp [JcZ] at u;exact ⟨_,rfl⟩
      obtain ⟨j,rfl⟩:∃ j,d1=.int j:=by cases d1 <;> simp [JcZ] at y;exact ⟨_,rfl⟩
      simp only [Rep] at r p;subst r p;simp only [fracB] at k;try infer_instance
      refine ixT1 l ?_;try infer_instance
      by_cases c:1<=j
      ·rw [if_pos (by simpa using c)];refine ixT0 l (ixT1 l ?_);refine ⟨_,_,rfl,?_⟩;try infer_instance
       simpa [c] using k
      ·rw [if_neg (by simpa using c)];simpa [c] using k
     ·rw [if_pos (by simp [y])];try infer_instance
      have g:fracB (.tup [d0,d1])=false:=by cases d0 <;> cases d1 <;> simp_all [fracB,JcZ]
      rw [g] at k;exact k
    ·rw [if_pos (by simp [u])];try infer_instance
     have g:fracB (.tup [d0,d1])=false:=by cases d0 <;> cases d1 <;> simp_all [fracB,JcZ]
     rw [g] at k;exact k
  ·rw [if_pos (by simp;ac_nf)];have g:fracB (.tup m)=false:=by
    unfold fracB;split
    ·rename_i e;cases e;simp at z
    ·rfl
   rw [g] at k;exact k
 ·have g:fracB d=false:=by cases d <;> first | rfl | exact absurd ⟨_,rfl⟩ o
  rw [g] at k;have I:isiB (tyD d) "tuple"=false:=by cases d <;> first | rfl | exact absurd ⟨_,rfl⟩ o
  simpa only [I];exact k
abbrev BaL:Stmt:=top 19
theorem JfF:Jan ["thing"] ["thing"] (Jae BaL):=by bv_decide
def Jcw (K:W.Frag):Sp:=fun vs H Q E=>∃ (x:V) (d:D),vs=[x]/\Rep K H d x/\Q (.bl (Jb2 d)) H
theorem Jft (F:FunD K "is_bound" "is_bound" BaL dV f fd) (T:Txt K mg Ad) (Ba0:Cal P w K mg base 2 "is_fraction" ["thing"] [] (JbE K)):FnOk P w K mg base (CX1 P w) 3 f fd ["thing"] (Jcw K):=by
 refine F.okn JfF (by subst_eqs) (fun e A b s H j Q E g h=>?_)
 obtain ⟨x,d,rfl,h⟩:=h;refine ⟨_,(Jah (Jao (pe_or (Ja5 Jbm (pv 0) JaQ (Jar _)) (JcV (Ba0.ev g ⋯ rfl passF (Jaa (pv 0) Jag) (he:=by exact Jai rfl)))))),?_⟩;obtain ⟨a,k⟩:=h;show tRet _ _ [some x] H;try infer_instance
 by_cases c:d=.non
 ·subst c;simp only [Rep] at a;subst a;simpa only [decide_true];exact k
 ·have i:x≠.non:=by
   rintro rfl;cases d <;> simp [Rep] at a
   exact c rfl
  rw [if_neg (by simpa using i)];have l:Jb2 d=fracB d:=by cases d <;> first | rfl | exact absurd rfl c
  rw [l] at k;exact ⟨x,d,rfl,a,k⟩
abbrev BaB:Stmt:=top 20
theorem Je3:Jan ["one","other"] ["one","other"] (Jae BaB):=by bv_decide
def Jcb (K:W.Frag):Sp:=fun vs H Q E=>∃ (x y:V) (d e:D),vs=[x,y]/\Rep K H d x/\Rep K H e y/\szD d/\szD e/\∀ H',Same H H'->Q (.bl (JdM d e)) H'
theorem JeU (F:FunD K "are_faces" "are_faces" BaB dV f fd) (T:Txt K mg Ad) (BaS:Cal P w K mg base 1 "is_name" ["thing"] [] (Jcl K)):FnOk P w K mg base (CX1 P w) 2 f fd ["one","other"] (Jcb K):=by
 refine F.okn Je3 (by subst_eqs) (fun v A i s H B Q E l h=>?_)
 obtain ⟨x,y,d,e,rfl,h⟩:=h;have m:=l.units;refine ⟨_,(Jah (Jao (Jcn (BaS.ev l ⋯ rfl passF (Jaa (pv 0) Jag) (he:=by exact Jai rfl)) (Jcn (BaS.ev l ⋯ rfl passF (Jaa (pv 1) Jag) (he:=by exact Jai rfl)) (JcV (Ja5 (JcE m) (pv 0) (pv 1) (Jar _))))))),?_⟩;clear m;obtain ⟨o,n,t,r,k⟩:=h;show tRet _ _ [some x,some y] H;try infer_instance
 refine ⟨x,d,rfl,o,t,fun u c=>?_⟩;try infer_instance
 unfold JdM at k;by_cases a:nameB d=true
 ·rw [if_pos a];refine ⟨y,e,rfl,n.same c,r,fun q p=>?_⟩;try infer_instance
  by_cases b:nameB e=true
  ·rw [if_pos b];obtain ⟨z,rfl,_⟩:=JdP a;obtain ⟨C,rfl,_⟩:=JdP b;have j:=o.str;have g:=n.str;subst j g;try infer_instance
   have:=k q (c.trans p);rw [a,b] at this;simpa [eqD,BEq.beq] using this
  ·rw [if_neg b];have:=k q (c.trans p);have g:nameB e=false:=by simpa using b
   rw [a,g] at this;exact this
 ·rw [if_neg a];have:=k u c;have j:nameB d=false:=by simpa using a
  rw [j] at this;exact this
abbrev Bav:Stmt:=top 21
theorem Jen:Jan ["least","greatest"] ["least","greatest"] (Jae Bav):=by bv_decide
def JbW (K:W.Frag):Sp:=fun vs H Q E=>∃ (x y:V) (d e:D),vs=[x,y]/\Rep K H d x/\Rep K H e y/\szD d/\szD e/\Q (.bl (Jc9 d e)) H
theorem Jeb (F:FunD K "are_bounds" "are_bounds" Bav dV f fd) (T:Txt K mg Ad) (Bbg:Cal P w K mg base 3 "is_bound" ["thing"] [] (Jcw K)) (BbR:Cal P w K mg base 1 "under" ["one","other"] [] (Jeu K)):FnOk P w K mg base (CX1 P w) 4 f fd ["least","greatest"] (JbW K):=by
 refine F.okn Jen (by subst_eqs) (fun B A p s H D Q E q h=>?_)
 obtain ⟨x,y,d,e,rfl,h⟩:=h;refine ⟨_,(Jab (ps_if (PW.pt (pw_or (Jbz (Jbk (Bbg.ev q ⋯ rfl passF (Jaa (pv 0) Jag) (he:=by exact Jai rfl)))) (JbA (Jbz (Jbk (Bbg.ev q ⋯ rfl passF (Jaa (pv 1) Jag) (he:=by exact Jai rfl)))))))
   (Jah (Jao pe_bl))
   Jas)
   (Jab (ps_if (PW.pt (pw_or (Jaq Jbm (pv 0) JaQ (Jar _)) (JbA (Jaq Jbm (pv 1) JaQ (Jar _)))))
   (Jah (Jao pe_bl))
   Jas)
   (Jah (Jao (Ji8 (BbR.ev q ⋯ rfl passF (Jaa (pv 1) (Jaa (pv 0) Jag)) (he:=by exact Jai rfl))))))),?_⟩
 obtain ⟨o,n,l,m,k⟩:=h;show tSeq _ _ _ [some x,some y] H;try infer_instance
 unfold Jc9 at k;refine ⟨x,d,rfl,o,?_⟩;try infer_instance
 by_cases c:Jb2 d=true
 ·rw [if_neg (by simp [c])];refine ⟨y,e,rfl,n,?_⟩;try infer_instance
  by_cases g:Jb2 e=true
  ·rw [if_neg (by simp [g])];simpa only [o.nonV,n.nonV];rw [c,g] at k;by_cases i:d=.non
   ·rw [if_pos (by simp [i,nonD])];try infer_instance
    have : lessD e d=false:=by subst i;unfold lessD;split <;> first | rfl | simp_all
    rw [this] at k;exact k
   ·rw [if_neg (by simp [Jhw i])];by_cases j:e=.non
    ·rw [if_pos (by simp [j,nonD])];try infer_instance
     have : lessD e d=false:=by subst j;rfl
     rw [this] at k;exact k
    ·rw [if_neg (by simp [Jhw j])];try infer_instance
     have v:fracB d=true:=by cases d <;> first | exact c | exact absurd rfl i
     have t:fracB e=true:=by cases e <;> first | exact g | exact absurd rfl j
     obtain ⟨a,b,rfl,_,_⟩:=JbK v;obtain ⟨z,u,rfl,_,_⟩:=JbK t;simp only [szD,szL] at l m;refine ⟨y,x,z,u,a,b,rfl,FrV.of_rep n,FrV.of_rep o,m.1,m.2.1,l.1,l.2.1,?_⟩;try infer_instance
     simpa [lessD] using k
  ·rw [if_pos (by simp [g])];try infer_instance
   have r:Jb2 e=false:=by simpa using g
   rw [c,r] at k;exact k
 ·rw [if_pos (by simp [c])];try infer_instance
  have C:Jb2 d=false:=by simpa using c
  rw [C] at k;exact k
abbrev Bbh:Stmt:=top 22
theorem JhU:Jan ["thing"] ["thing"] (Jae Bbh):=by bv_decide
def Jds (K:W.Frag):Sp:=fun vs H Q E=>∃ (x:V) (d:D),vs=[x]/\Rep K H d x/\szD d/\∀ H',Same H H'->Q (.bl (tieB d)) H'
theorem Jhy (F:FunD K "is_tie" "is_tie" Bbh dV f fd) (T:Txt K mg Ad) (BaS:Cal P w K mg base 1 "is_name" ["thing"] [] (Jcl K)) (Bbm:Cal P w K mg base 2 "are_faces" ["one","other"] [] (Jcb K)) (Bbb:Cal P w K mg base 4 "are_bounds" ["least","greatest"] [] (JbW K)):FnOk P w K mg base (CX1 P w) 5 f fd ["thing"] (Jds K):=by
 refine F.okn JhU (by subst_eqs) (fun R A q s H vs Q E c h=>?_)
 obtain ⟨x,d,rfl,h⟩:=h;have t:=c.units;refine ⟨_,(Jab (ps_if (PW.pt (pw_or (Jbz (Jbk (Jav Jaz rfl T.Bal JaK (Jaa (pv 0) (Jaa (Jb4 (v:=.ty "tuple") rfl T.BbP JdW rfl) Jag))))) (JbA (Jaq (JcE t) (Jav JaM rfl T.Bbp JbJ (Jaa (pv 0) Jag)) Jad (Jar _)))))
   (Jah (Jao pe_bl))
   Jas)
   (Jah (Jao (Jcn (BaS.ev c ⋯ rfl passF (Jaa (pe_ix ix_U (pv 0) Jad (fun _ _=>rfl)) Jag) (he:=by exact Jai rfl)) (Jcn (Bbm.ev c ⋯ rfl passF (Jaa (pe_ix ix_U (pv 0) Jad (fun _ _=>rfl)) (Jaa (pe_ix ix_U (pv 0) Jad (fun _ _=>rfl)) Jag)) (he:=by exact Jai rfl)) (JcV (Bbb.ev c ⋯ rfl passF (Jaa (pe_ix ix_U (pv 0) Jad (fun _ _=>rfl)) (Jaa (pe_ix ix_U (pv 0) Jad (fun _ _=>rfl)) Jag)) (he:=by exact Jai rfl)))))))),?_⟩
 clear t;obtain ⟨p,u,k⟩:=h;show tSeq _ _ _ [some x] H;try infer_instance
 refine ⟨_,p.tyN,?_⟩;by_cases o:∃ l,d=.tup l
 ·obtain ⟨l,rfl⟩:=o;simpa only [tyD];simp only [Rep] at p;obtain ⟨a,D,rfl,j,c⟩:=p;have hl:=c.length;refine ⟨D, .inr j,?_⟩;try infer_instance
  by_cases y:l.length=5
  ·match l,y with
   | [d0,d1,d2,d3,d4],_=>
    simp only [RepL] at c;obtain ⟨I,r0,rfl,M,O,r1,rfl,h1,G,r2,rfl,B,C,r3,rfl,h3,X,r4,rfl,S,rfl⟩:=c;simp only [szD,szL] at u;obtain ⟨s0,Y,J,L,s4,_⟩:=u;simp only [tieB] at k;simpa only [length_cons,length_nil];rw [if_neg (by simp)];try infer_instance
    refine ixT (i:=0) j rfl ?_;refine ⟨I,d0,rfl,M,s0,fun N g=>?_⟩;try infer_instance
    by_cases n:nameB d0=true
    ·rw [if_pos n];rw [n] at k;refine ixT (i:=1) (j.same g) rfl ?_;refine ixT (i:=2) (j.same g) rfl ?_;refine ⟨O,G,d1,d2,rfl,h1.same g,B.same g,Y,J,fun z Z=>?_⟩;try infer_instance
     have b:=g.trans Z;by_cases m:JdM d1 d2=true
     ·rw [if_pos m];rw [m] at k;refine ixT (i:=3) (j.same b) rfl ?_;refine ixT (i:=4) (j.same b) rfl ?_;exact ⟨C,X,d3,d4,rfl,h3.same b,S.same b,L,s4,k z b⟩
     ·rw [if_neg m];have W:JdM d1 d2=false:=by simpa using m
      rw [W] at k;exact k z b
    ·rw [if_neg n];have U:nameB d0=false:=by simpa using n
     rw [U] at k;exact k N g
  ·rw [if_pos (by simp;ac_nf)];have r:tieB (.tup l)=false:=by
    unfold tieB;split
    ·rename_i e;cases e;simp at y
    ·rfl
   rw [r] at k;try infer_instance
   exact k H (.refl H)
 ·have r:tieB d=false:=by cases d <;> first | rfl | exact absurd ⟨_,rfl⟩ o
  rw [r] at k;have V:isiB (tyD d) "tuple"=false:=by cases d <;> first | rfl | exact absurd ⟨_,rfl⟩ o
  simpa only [V];exact k H (.refl H)
abbrev Bam:Stmt:=inClass (top 23) 0
theorem Jdq:Jan ["self","row"] ["self","row"] (Jae Bam):=by bv_decide
def Jaw (K:W.Frag):Sp:=fun vs H Q E=>∃ (x C dx a:Addr) (n st en l g:V),vs=[.ref x, .ref a]/\H x=some (.ins C dx [])/\TieC K C/\SqT K H a [n,st,en,l,g]/\∀ H',H' x=some (.ins C dx (tieF n st en l g))->(∀ b,b≠x->H' b=H b)->Q .non H'
theorem Jdn (F:FunD K "__init__" "Tie.__init__" Bam dV f fd) (T:Txt K mg Ad)  : FnOk P w K mg base (CX1 P w) 1 f fd ["self","row"] (Jaw K):=by
 refine F.okn Jdq (by subst_eqs) (fun R A v s H S Q E U h=>?_)
 obtain ⟨x,C,d,a,n,j,q,l,g,rfl,h⟩:=h;refine ⟨_,(Jab (Jby (pv 0) (pe_ix ix_U (pv 1) Jad (fun _ _=>rfl)) rfl)
   (Jab (Jby (pv 0) (pe_ix ix_U (pv 1) Jad (fun _ _=>rfl)) rfl)
   (Jab (Jby (pv 0) (pe_ix ix_U (pv 1) Jad (fun _ _=>rfl)) rfl)
   (Jab (Jby (pv 0) (pe_ix ix_U (pv 1) Jad (fun _ _=>rfl)) rfl)
   (Jah (Jby (pv 0) (pe_ix ix_U (pv 1) Jad (fun _ _=>rfl)) rfl)))))),?_⟩
 obtain ⟨D,e,t,k⟩:=h;show tSeq _ _ _ [some (.ref x),some (.ref a)] H;try ac_rfl
 refine ixT (i:=0) t rfl ?_;try ac_rfl
 refine ⟨x,C,d,_,rfl,D,e.cls,e.n1,by simp,?_⟩;have o:=SqT.put (fs':=putF "name" n []) D t;generalize u1:upd H x _=H1 at o ⊢;have G:H1 x=some (.ins C d [("name",n)]):=by rw [<- u1];exact Jam.trans rfl
 have N:∀ b,b≠x->H1 b=H b:=fun b c=>by rw [<- u1,Jaf c]
 try ac_rfl
 refine ixT (i:=1) o rfl ?_;try ac_rfl
 refine ⟨x,C,d,_,rfl,G,e.cls,e.n2,by simp,?_⟩;have p:=SqT.put (fs':=putF "start" j [("name",n)]) G o;generalize u2:upd H1 x _=H2 at p ⊢;have y:H2 x=some (.ins C d [("name",n),("start",j)]):=by rw [<- u2];exact Jam.trans rfl
 have I:∀ b,b≠x->H2 b=H1 b:=fun b c=>by rw [<- u2,Jaf c]
 try ac_rfl
 refine ixT (i:=2) p rfl ?_;try ac_rfl
 refine ⟨x,C,d,_,rfl,y,e.cls,e.n3,by simp,?_⟩;have m:=SqT.put (fs':=putF "end" q [("name",n),("start",j)]) y p;generalize u3:upd H2 x _=H3 at m ⊢;have z:H3 x=some (.ins C d [("name",n),("start",j),("end",q)]):=by rw [<- u3];exact Jam.trans rfl
 have J:∀ b,b≠x->H3 b=H2 b:=fun b c=>by rw [<- u3,Jaf c]
 try ac_rfl
 refine ixT (i:=3) m rfl ?_;try ac_rfl
 refine ⟨x,C,d,_,rfl,z,e.cls,e.n4,by simp,?_⟩;have r:=SqT.put (fs':=putF "least" l [("name",n),("start",j),("end",q)]) z m;generalize u4:upd H3 x _=H4 at r ⊢;have B:H4 x=some (.ins C d [("name",n),("start",j),("end",q),("least",l)]):=by rw [<- u4];exact Jam.trans rfl
 have M:∀ b,b≠x->H4 b=H3 b:=fun b c=>by rw [<- u4,Jaf c]
 try ac_rfl
 refine ixT (i:=4) r rfl ?_;try ac_rfl
 refine ⟨x,C,d,_,rfl,B,e.cls,e.n5,by simp,?_⟩;have u:=SqT.put (fs':=putF "greatest" g [("name",n),("start",j),("end",q),("least",l)]) B r;generalize u5:upd H4 x _=H5 at u ⊢;have L:H5 x=some (.ins C d [("name",n),("start",j),("end",q),("least",l),("greatest",g)]):=by rw [<- u5];exact Jam.trans rfl
 have O:∀ b,b≠x->H5 b=H4 b:=fun b c=>by rw [<- u5,Jaf c]
 try ac_rfl
 exact k H5 L fun b c=>by rw [O b c,M b c,J b c,I b c,N b c]
abbrev BaC:Stmt:=inClass (top 23) 1
theorem Je2:Jan ["self"] ["self"] (Jae BaC):=by bv_decide
def Jb9 (K:W.Frag) (Ad:Adr):Sp:=fun vs H Q E=>∃ (v:V) (C:Addr) (n st en l g:V),vs=[v]/\TieV H v C n st en l g/\IsTie Ad C/\∀ p H',Same H H'->H' p=some (.tup [n,st,en,l,g])->Q (.ref p) H'
theorem JeS (F:FunD K "plain" "Tie.plain" BaC dV f fd) (T:Txt K mg Ad)  : FnOk P w K mg base (CX1 P w) 1 f fd ["self"] (Jb9 K Ad):=by
 refine F.okn Je2 (by subst_eqs) (fun r A d s H u Q E x h=>?_)
 obtain ⟨v,C,n,j,i,l,g,rfl,h⟩:=h;refine ⟨_,(Jah (Jao (JaR (Jaa (Jax (pv 0) rfl) (Jaa (Jax (pv 0) rfl) (Jaa (Jax (pv 0) rfl) (Jaa (Jax (pv 0) rfl) (Jaa (Jax (pv 0) rfl) Jag)))))))),?_⟩;obtain ⟨t,m,k⟩:=h;obtain ⟨p,c,rfl,b⟩:=t;have a:=T.tie C m;show tRet _ _ [some (.ref p)] H;contradiction;refine ⟨p,C,c,_,n,rfl,b,a.cls,a.n1,rfl,?_⟩;refine ⟨p,C,c,_,j,rfl,b,a.cls,a.n2,rfl,?_⟩;refine ⟨p,C,c,_,i,rfl,b,a.cls,a.n3,rfl,?_⟩;refine ⟨p,C,c,_,l,rfl,b,a.cls,a.n4,rfl,?_⟩;refine ⟨p,C,c,_,g,rfl,b,a.cls,a.n5,rfl,?_⟩;try infer_instance
 refine ⟨len5,?_⟩;exact Jfr fun q o S e=>k q o S e
abbrev Bbi:Stmt:=top 29
theorem Jdr:Jan ["thing","least","greatest"] ["thing"] (Jae Bbi):=by bv_decide
def Jdt (K:W.Frag) (Ad:Adr):Sp:=fun vs H Q E=>∃ (x:V) (d:D),vs=[x]/\Rep K H d x/\szD d/\(tieB d=false->∀ H',Same H H'->E (.ref Ad.NoTie) none H')/\(tieB d=true->∃ (a:Addr) (n s e l g:D) (vn vs ve vl vg:V),x=.ref a/\SqT K H a [vn,vs,ve,vl,vg]/\d=.tup [n,s,e,l,g]/\Rep K H l vl/\Rep K H g vg/\∀ v H',Same H H'->TieV H' v (kindC Ad l g) vn vs ve vl vg->Q v H')
theorem Jhz (F:FunD K "tie_of" "tie_of" Bbi dV f fd) (T:Txt K mg Ad) (BbF:Cal P w K mg base 5 "is_tie" ["thing"] [] (Jds K)) (k_Free:KCal P w K mg base 1 "Free" Ad.Free ["self","row"] (Jaw K)) (k_AtLeast:KCal P w K mg base 1 "AtLeast" Ad.AtLeast ["self","row"] (Jaw K)) (k_AtMost:KCal P w K mg base 1 "AtMost" Ad.AtMost ["self","row"] (Jaw K)) (k_Just:KCal P w K mg base 1 "Just" Ad.Just ["self","row"] (Jaw K)) (k_Between:KCal P w K mg base 1 "Between" Ad.Between ["self","row"] (Jaw K)):FnOk P w K mg base (CX1 P w) 6 f fd ["thing"] (Jdt K Ad):=by
 refine F.okx Jdr (fun D H Q E h=>?_) (fun a0 A W s H D Q E C h=>?_)
 ·obtain ⟨x,d,rfl,_⟩:=h;rfl
 obtain ⟨x,d,rfl,h⟩:=h;have X:=C.units;refine ⟨_,(Jab (ps_if (Jbz (Jbk (BbF.ev C ⋯ rfl pass1 (Jaa (pv 0) Jag) (he:=by exact Jai rfl))))
   (Jah (JiC PySem.F.excBase_ValueError T.x_NoTie rfl T.m_NoTie (Jaa Jco Jag)))
   Jas)
   (Jab (Jaj (i:=1) Jdr.nd rfl (Or.inl rfl) (pe_ix ix_U (pv 0) Jad (fun _ _=>rfl)))
   (Jab (Jaj (i:=2) Jdr.nd rfl (Or.inl rfl) (pe_ix ix_U (pv 0) Jad (fun _ _=>rfl)))
   (Jab (ps_if (PW.pt (Jgi (Jaq Jbm (pv 1) JaQ (Jar _)) (Jej (Jaq Jbm (pv 2) JaQ (Jar _)))))
   (Jah (Jao (k_Free.ev C ⋯ rfl pass1 (Jaa (pv 0) Jag))))
   Jas)
   (Jab (ps_if (Jaq Jbm (pv 2) JaQ (Jar _))
   (Jah (Jao (k_AtLeast.ev C ⋯ rfl pass1 (Jaa (pv 0) Jag))))
   Jas)
   (Jab (ps_if (Jaq Jbm (pv 1) JaQ (Jar _))
   (Jah (Jao (k_AtMost.ev C ⋯ rfl pass1 (Jaa (pv 0) Jag))))
   Jas)
   (Jab (ps_if (Jaq (Jbj X) (pv 1) (pv 2) (Jar _))
   (Jah (Jao (k_Just.ev C ⋯ rfl pass1 (Jaa (pv 0) Jag))))
   Jas)
   (Jah (Jao (k_Between.ev C ⋯ rfl pass1 (Jaa (pv 0) Jag))))))))))),?_⟩
 clear X;obtain ⟨k,sz,k1,z⟩:=h;show tSeq _ _ _ [some x,none,none] H;try infer_instance
 refine ⟨x,d,rfl,k,sz,fun H1 m=>?_⟩;try infer_instance
 by_cases c:tieB d=true
 ·rw [if_neg (by simp [c])];try infer_instance
  obtain ⟨a,n,s,e,l,g,R,D,U,vl,N,rfl,B,rfl,S,O,z⟩:=z c;refine ixT (i:=3) (B.same m) rfl ?_;try infer_instance
  refine ixT (i:=4) (B.same m) rfl ?_;simpa only [S.nonV,O.nonV];by_cases G:nonD l=true
  ·by_cases y:nonD g=true
   ·simpa only [G,y];try infer_instance
    intro x r k j V;refine ⟨x,_,r,a,R,D,U,vl,N,rfl,Jam,T.tie _ ?_,?_,fun v e o=>⟨rfl,z _ v ?_ ⟨x,r,rfl,?_⟩⟩⟩
    ·exact .inl rfl
    ·exact (B.same m).same fun b u q=>by rw [Jaf (Jac q k),Jaf (Jac q j)];exact q
    ·exact m.trans fun b u q=>by rw [o b (Jac q k),Jaf (Jac q k),Jaf (Jac q j)];exact q
    ·rw [e,show kindC Ad l g=Ad.Free from by simp [kindC,G,y]]
   ·have p:nonD g=false:=by simpa using y
    simpa only [G,p];try simpa only [S.nonV,O.nonV,G,p]
    try infer_instance
    intro x r k j V;refine ⟨x,_,r,a,R,D,U,vl,N,rfl,Jam,T.tie _ ?_,?_,fun v e o=>⟨rfl,z _ v ?_ ⟨x,r,rfl,?_⟩⟩⟩
    ·exact .inr (.inr (.inl rfl))
    ·exact (B.same m).same fun b u q=>by rw [Jaf (Jac q k),Jaf (Jac q j)];exact q
    ·exact m.trans fun b u q=>by rw [o b (Jac q k),Jaf (Jac q k),Jaf (Jac q j)];exact q
    ·rw [e,show kindC Ad l g=Ad.AtMost from by simp [kindC,G,p]]
  ·have t:nonD l=false:=by simpa using G
   by_cases y:nonD g=true
   ·simpa only [t,y];try simpa only [S.nonV,O.nonV,t,y]
    try infer_instance
    intro x r k j V;refine ⟨x,_,r,a,R,D,U,vl,N,rfl,Jam,T.tie _ ?_,?_,fun v e o=>⟨rfl,z _ v ?_ ⟨x,r,rfl,?_⟩⟩⟩
    ·exact .inr (.inl rfl)
    ·exact (B.same m).same fun b u q=>by rw [Jaf (Jac q k),Jaf (Jac q j)];exact q
    ·exact m.trans fun b u q=>by rw [o b (Jac q k),Jaf (Jac q k),Jaf (Jac q j)];exact q
    ·rw [e,show kindC Ad l g=Ad.AtLeast from by simp [kindC,t,y]]
   ·have p:nonD g=false:=by simpa using y
    simpa only [t,p];try simpa only [S.nonV,O.nonV,t,p]
    simp only [tieB,Jc9,Bool.and_eq_true] at c;have f1:fracB l=true:=by have:=c.2.1.1;cases l <;> first | exact this | (simp [nonD] at t)
    have f2:fracB g=true:=by have:=c.2.1.2;cases g <;> first | exact this | (simp [nonD] at p)
    obtain ⟨I,J,rfl,_,_⟩:=JbK f1;obtain ⟨L,M,rfl,_,_⟩:=JbK f2;have Y:=(FrV.of_rep S).same m;have Z:=(FrV.of_rep O).same m;refine eqF Y Z ?_;have ee:eqD (.tup [.int I, .int J]) (.tup [.int L, .int M])=(decide (I=L)&&decide (J=M)):=by
     simp only [eqD,eqL,Bool.and_true]
     congr 1 <;> simp [BEq.beq]
    try infer_instance
    rw [<- ee];by_cases q:eqD (.tup [.int I, .int J]) (.tup [.int L, .int M])=true
    ·rw [if_pos q];try infer_instance
     intro x r k j V;refine ⟨x,_,r,a,R,D,U,vl,N,rfl,Jam,T.tie _ ?_,?_,fun v e o=>⟨rfl,z _ v ?_ ⟨x,r,rfl,?_⟩⟩⟩
     ·exact .inr (.inr (.inr (.inl rfl)))
     ·exact (B.same m).same fun b u q=>by rw [Jaf (Jac q k),Jaf (Jac q j)];exact q
     ·exact m.trans fun b u q=>by rw [o b (Jac q k),Jaf (Jac q k),Jaf (Jac q j)];exact q
     ·rw [e,show kindC Ad (.tup [.int I, .int J]) (.tup [.int L, .int M])=Ad.Just from by simp [kindC,nonD,q]]
    ·rw [if_neg q];have q':eqD (.tup [.int I, .int J]) (.tup [.int L, .int M])=false:=by simpa using q
     try infer_instance
     intro x r k j V;refine ⟨x,_,r,a,R,D,U,vl,N,rfl,Jam,T.tie _ ?_,?_,fun v e o=>⟨rfl,z _ v ?_ ⟨x,r,rfl,?_⟩⟩⟩
     ·exact .inr (.inr (.inr (.inr rfl)))
     ·exact (B.same m).same fun b u q=>by rw [Jaf (Jac q k),Jaf (Jac q j)];exact q
     ·exact m.trans fun b u q=>by rw [o b (Jac q k),Jaf (Jac q k),Jaf (Jac q j)];exact q
     ·rw [e,show kindC Ad (.tup [.int I, .int J]) (.tup [.int L, .int M])=Ad.Between from by simp [kindC,nonD,q']]
 ·rw [if_pos (by simp [c])];try infer_instance
  exact ⟨by show 1<=sizeLine;decide,k1 (by simpa using c) H1 m⟩
abbrev BaD:Stmt:=inClass (top 23) 3
theorem JcY:Jan ["self","told"] ["self"] (Jae BaD):=by bv_decide
def Jca (K:W.Frag) (Ad:Adr):Sp:=fun vs H Q E=>∃ (v:V) (C:Addr) (n st en l g:V) (ds de dl dg:D),vs=[v]/\TieV H v C n st en l g/\IsTie Ad C/\Rep K H ds st/\Rep K H de en/\Bnd K H dl l/\Bnd K H dg g/\∀ p xs H',H p=none->Same H H'->H' p=some (.lst xs)->RepL K H' (Jdu ds de dl dg) xs->Q (.ref p) H'
theorem JeT (F:FunD K "steps" "Tie.steps" BaD dV f fd) (T:Txt K mg Ad) (BbS:Cal P w K mg base 3 "minus" ["one","other"] [] (Jes K)):FnOk P w K mg base (CX1 P w) 4 f fd ["self"] (Jca K Ad):=by
 refine F.okn JcY (by subst_eqs) (fun a4 A a2 s H vs Q E hr h=>?_)
 obtain ⟨v,C,n,W,V,l,g,ds,de,R,dg,rfl,h⟩:=h;refine ⟨_,(Jab (Jaj (i:=1) JcY.nd rfl (Or.inl rfl) (Jbs Jag))
   (Jab (ps_if (Jaq JbT (Jax (pv 0) rfl) JaQ (Jar _))
   (Jah (Ja6 (pe_bm PySem.F.plainAttrs_list PySem.F.slot_list_append PySem.F.type_list_append Ja3 (pv 1) (Jaa (JaR (Jaa (Jax (pv 0) rfl) (Jaa (Jax (pv 0) rfl) (Jaa (Jax (pv 0) rfl) (Jaa pe_bl Jag))))) Jag) (hs:=by exact Jai rfl))))
   Jas)
   (Jab (ps_if (Jaq JbT (Jax (pv 0) rfl) JaQ (Jar _))
   (Jah (Ja6 (pe_bm PySem.F.plainAttrs_list PySem.F.slot_list_append PySem.F.type_list_append Ja3 (pv 1) (Jaa (JaR (Jaa (Jax (pv 0) rfl) (Jaa (Jax (pv 0) rfl) (Jaa (BbS.ev hr ⋯ rfl passF (Jaa (Jeh (v:=.ref _) rfl T.Bb0 T.Bb1) (Jaa (Jax (pv 0) rfl) Jag)) (he:=by exact Jai rfl)) (Jaa pe_bl Jag))))) Jag) (hs:=by exact Jai rfl))))
   Jas)
   (Jah (Jao (pv 1)))))),?_⟩
 obtain ⟨hv,hC,hs,he,O,hg,k⟩:=h;obtain ⟨p,o,rfl,r⟩:=hv;have a:=T.tie C hC;show tSeq _ _ _ [some (.ref p),none] H;try contradiction
 refine ⟨len0,?_⟩;rename_i t e a5 H H1 d I;refine ⟨p,C,o,_,g,rfl,d _ _ r,a.cls,a.n5,rfl,?_⟩;try simpa only [y4ey,(hg.same d).rep.nonV]
 by_cases X:nonD dg=true
 ·rw [X];try contradiction
  by_cases M:nonD R=true
  ·refine ⟨p,C,o,_,l,rfl,d _ _ r,a.cls,a.n4,rfl,?_⟩;try simpa only [y4ey,(O.same d).rep.nonV,M]
   refine k t _ H1 e d I ?_;simp only [Jdu,X,M,if_true,append_nil,RepL]
  ·have j:nonD R=false:=by simpa using M
   refine ⟨p,C,o,_,l,rfl,d _ _ r,a.cls,a.n4,rfl,?_⟩;try simpa only [y4ey,(O.same d).rep.nonV,j]
   refine ⟨.inl ⟨rfl,_,SqL.of I⟩,?_⟩;refine ⟨p,C,o,_,V,rfl,d _ _ r,a.cls,a.n3,rfl,?_⟩;refine ⟨p,C,o,_,W,rfl,d _ _ r,a.cls,a.n2,rfl,?_⟩;try contradiction
   refine ⟨p,C,o,_,l,rfl,d _ _ r,a.cls,a.n4,rfl,?_⟩;try contradiction
   obtain ⟨Y,lb,rfl,J,c,fl,s1,s2⟩:=(O.same d).frac j;refine ⟨.ref Ad.ZERO,l,0,1,Y,lb,rfl,⟨_,rfl,T.BbV _⟩,fl, .lit ⋯ ⋯, .lit ⋯ ⋯,s1,s2,by decide,J,by decide,c,fun m H4 B S=>?_⟩;rw [(Jd7 J c).1,(Jd7 J c).2] at S;try contradiction
   refine ⟨len4,?_⟩;rename_i w a0 a1 H4 Z y e5;refine ⟨t,_,_,rfl,rfl,y _ _ (B _ _ I),by first | (show 0<sizeLine;decide) | (show 1<sizeLine;decide),?_⟩;generalize G:upd Z t _=U;have e6:=putE G;have m6:=putN G (y _ _ (B _ _ I)) (y _ _ S) (by intro z;cases z);have w6:=putN G (y _ _ (B _ _ I)) e5 (by intro z;cases z);have D:Same H U:=fun b u q=>by rw [<- G,Jaf (Jac q e)];exact y _ _ (B _ _ (d _ _ q))
   refine k t _ U e D e6 ?_;simp only [Jdu,X,j,if_true,Bool.false_eq_true,if_false,nil_append,RepL,Rep,negD];exact ⟨_,_,rfl,⟨w,_,rfl,SqT.of w6,_,_,rfl,he.same D,_,_,rfl,hs.same D,_,_,rfl,⟨m,_,rfl,SqT.of m6,_,_,rfl,rfl,_,_,rfl,rfl,rfl⟩,_,_,rfl,rfl,rfl⟩,rfl⟩
 ·have L:nonD dg=false:=by simpa using X
  rw [L];try contradiction
  refine ⟨.inl ⟨rfl,_,SqL.of I⟩,?_⟩;refine ⟨p,C,o,_,W,rfl,d _ _ r,a.cls,a.n2,rfl,?_⟩;refine ⟨p,C,o,_,V,rfl,d _ _ r,a.cls,a.n3,rfl,?_⟩;refine ⟨p,C,o,_,g,rfl,d _ _ r,a.cls,a.n5,rfl,?_⟩;try contradiction
  refine ⟨len4,?_⟩;rename_i f a3 a6 H1 H2 S2 e2;refine ⟨t,_,_,rfl,rfl,S2 _ _ I,by show 0<sizeLine;decide,?_⟩;generalize u3:upd H2 t _=H3;have N:=putE u3;have f3:=putN u3 (S2 _ _ I) e2 (by intro z;cases z);have x:Same H H3:=fun b u q=>by rw [<- u3,Jaf (Jac q e)];exact S2 _ _ (d _ _ q)
  try contradiction
  by_cases M:nonD R=true
  ·refine ⟨p,C,o,_,l,rfl,x _ _ r,a.cls,a.n4,rfl,?_⟩;try simpa only [y4ey,(O.same x).rep.nonV,M]
   refine k t _ H3 e x N ?_;simp only [Jdu,L,M,if_true,Bool.false_eq_true,if_false,append_nil,nil_append,RepL,Rep];exact ⟨_,_,rfl,⟨f,_,rfl,SqT.of f3,_,_,rfl,hs.same x,_,_,rfl,he.same x,_,_,rfl,(hg.same x).rep,_,_,rfl,rfl,rfl⟩,rfl⟩
  ·have j:nonD R=false:=by simpa using M
   refine ⟨p,C,o,_,l,rfl,x _ _ r,a.cls,a.n4,rfl,?_⟩;try simpa only [y4ey,(O.same x).rep.nonV,j]
   refine ⟨.inl ⟨rfl,_,SqL.of N⟩,?_⟩;refine ⟨p,C,o,_,V,rfl,x _ _ r,a.cls,a.n3,rfl,?_⟩;refine ⟨p,C,o,_,W,rfl,x _ _ r,a.cls,a.n2,rfl,?_⟩;try contradiction
   refine ⟨p,C,o,_,l,rfl,x _ _ r,a.cls,a.n4,rfl,?_⟩;try contradiction
   obtain ⟨Y,lb,rfl,J,c,fl,s1,s2⟩:=(O.same x).frac j;refine ⟨.ref Ad.ZERO,l,0,1,Y,lb,rfl,⟨_,rfl,T.BbV _⟩,fl, .lit ⋯ ⋯, .lit ⋯ ⋯,s1,s2,by decide,J,by decide,c,fun m H4 B S=>?_⟩;rw [(Jd7 J c).1,(Jd7 J c).2] at S;try contradiction
   refine ⟨len4,?_⟩;rename_i w a0 a1 H4 Z y e5;refine ⟨t,_,_,rfl,rfl,y _ _ (B _ _ N),by first | (show 0<sizeLine;decide) | (show 1<sizeLine;decide),?_⟩;generalize G:upd Z t _=U;have e6:=putE G;have m6:=putN G (y _ _ (B _ _ N)) (y _ _ S) (by intro z;cases z);have w6:=putN G (y _ _ (B _ _ N)) e5 (by intro z;cases z);have D:Same H U:=fun b u q=>by rw [<- G,Jaf (Jac q e)];exact y _ _ (B _ _ (x _ _ q))
   have f6:=putN G (y _ _ (B _ _ N)) (y _ _ (B _ _ f3)) (by intro z;cases z);refine k t _ U e D e6 ?_;simp only [Jdu,L,j,Bool.false_eq_true,if_false,nil_append,cons_append,RepL,Rep,negD];exact ⟨_,_,rfl,⟨f,_,rfl,SqT.of f6,_,_,rfl,hs.same D,_,_,rfl,he.same D,_,_,rfl,(hg.same D).rep,_,_,rfl,rfl,rfl⟩,_,_,rfl,⟨w,_,rfl,SqT.of w6,_,_,rfl,he.same D,_,_,rfl,hs.same D,_,_,rfl,⟨m,_,rfl,SqT.of m6,_,_,rfl,rfl,_,_,rfl,rfl,rfl⟩,_,_,rfl,rfl,rfl⟩,rfl⟩
abbrev Bag:Stmt:=inClass (top 11) 0
theorem Jbe:Jan ["self","numbers","number","factor"] ["self","numbers"] (Jae Bag):=by bv_decide
def Jbf (K:W.Frag) (Ad:Adr):Sp:=fun vs H Q E=>∃ (x dx a:Addr) (xs:List V) (ns:List Fr2),vs=[.ref x, .ref a]/\H x=some (.ins Ad.Scale dx [])/\H a=some (.lst xs)/\All2 (FLV K H) ns xs/\ns.length<=112/\(∀ n∈ns,1<=n.2/\Mth.Sz 20 n.2)/\∀ b fs fl H',H' x=some (.ins Ad.Scale dx [("bottom", .int b),("factors", .ref fl)])->H fl=none->H' fl=some (.lst (fs.map V.int))->(∀ c u,c≠x->H c=some u->H' c=some u)->b=bF ns->(∀ n∈ns,n.2∣b)->Scl b fs->Mth.Sz 2500 b->fs.length<=112->Q .non H'
theorem JcR (F:FunD K "__init__" "Scale.__init__" Bag dV f fd) (T:Txt K mg Ad) (Bac:Cal P w K mg base 1 "common_divisor" ["one","other"] [] (JaG)):FnOk P w K mg base (CX1 P w) 2 f fd ["self","numbers"] (Jbf K Ad):=by
 refine F.okn Jbe (by subst_eqs) (fun a5 A a3 s H vs Q E hr h=>?_)
 obtain ⟨x,o,a,xs,D,rfl,h⟩:=h;refine ⟨_,(Jab (Jby (pv 0) Jad rfl)
   (Jab (Jby (pv 0) (Jbs Jag) rfl)
   (Jah (Jbc PassesOwn.never rfl (pi_U (pv 1)) (Jat (i:=2) Jbe.nd rfl (Or.inl rfl))
   (Jab (Jaj (i:=3) Jbe.nd rfl (Or.inl rfl) (pe_op Jau (pe_ix ix_U (pv 2) Jad (fun _ _=>rfl)) (Bac.ev hr ⋯ rfl passF (Jaa (Jax (pv 0) rfl) (Jaa (pe_ix ix_U (pv 2) Jad (fun _ _=>rfl)) Jag)) (he:=by exact Jai rfl))))
   (Jah (ps_if (Jaq JeX (pv 3) Jad (Jar _))
   (Jab (Jby (pv 0) (pe_op JaX (Jax (pv 0) rfl) (pv 3)) rfl)
   (Jah (Ja6 (pe_bm PySem.F.plainAttrs_list PySem.F.slot_list_append PySem.F.type_list_append Ja3 (Jax (pv 0) rfl) (Jaa (pv 3) Jag) (hs:=by exact Jai rfl)))))
   Jas))))))),?_⟩
 obtain ⟨e0,hA,hN,hl,a2,k⟩:=h;have e:=T.BbE Ad.Scale rfl;have sl:(1000:Nat)<=sizeLine:=by decide
 have lx:=hN.length;show tSeq _ _ _ [some (.ref x),some (.ref a),none,none] H;symm_saturate;refine ⟨x,_,o,_,rfl,e0,e.cls,e.n1,by simp,?_⟩;generalize u1:upd H x _=H1;symm_saturate;have e1:H1 x=some (.ins Ad.Scale o [("bottom", .int 1)]):=by rw [<- u1];exact Jam.trans rfl
 have o1:∀ b,b≠x->H1 b=H b:=fun b hb=>by rw [<- u1,Jaf hb]
 symm_saturate;refine ⟨len0,?_⟩;rename_i d j a4 H1 H2 S2 e2;symm_saturate;symm_saturate;refine ⟨x,_,o,_,rfl,S2 _ _ e1,e.cls,e.n2,by simp,?_⟩;generalize u3:upd H2 x _=X;symm_saturate;have e3:X x=some (.ins Ad.Scale o [("bottom", .int 1),("factors", .ref d)]):=by rw [<- u3];exact Jam.trans rfl
 have nx:d≠x:=fun z=>by rw [z,e1] at j;cases j
 have f3:X d=some (.lst []):=by rw [<- u3,Jaf nx];exact e2
 have o3:∀ c u,c≠x->H c=some u->X c=some u:=fun c u O h=>by rw [<- u3,Jaf O];exact S2 _ _ (by rw [o1 c O];exact h)
 have v:H d=none:=by rw [<- o1 d nx];exact j
 have S:a≠x:=fun z=>by rw [z,e0] at hA;cases hA
 have a0:SameT H X:=(SameT.put u1 e0 rfl).trans (S2.t.trans (SameT.put u3 (S2 _ _ e1) rfl));symm_saturate;refine ⟨a,rfl,ForA.byL (xs:=xs) (SqL.of (o3 _ _ S hA)) (fun i σ M=>i<=xs.length/\∃ (v2 v3:Option V) (b:Int) (r:List Int),σ=[some (.ref x),some (.ref a),v2,v3]/\M x=some (.ins Ad.Scale o [("bottom", .int b),("factors", .ref d)])/\M d=some (.lst (r.map V.int))/\(∀ c u,c≠x->H c=some u->M c=some u)/\SameT H M/\b=bF (D.take i)/\(∀ m∈D.take i,m.2∣b)/\Scl b r/\Mth.Sz (1+20*i) b/\r.length<=i) ⟨Nat.zero_le _,none,none,1,[],rfl,e3,f3,o3,a0,rfl,(fun m B=>by simp at B),Scl.nil, .lit ⋯ ⋯,Nat.le_refl _⟩ (fun i σ M q=>by obtain ⟨_,_,_,_,_,_,_,_,q,_⟩:=q;exact SqL.of (q _ _ S hA)) ?_ ?_⟩
 ·rintro i y σ R hy ⟨hi,v2,v3,b,r,rfl,C,hf,ho,W,p,l,hs,U,lf⟩;have li:=(List.getElem?_eq_some_iff.mp hy).1;obtain ⟨n,hn,Z⟩:=hN.at_ hy;have Z:FrV K R y n.1 n.2:=FrV.sameT W Z;have J:=a2 n (List.mem_of_getElem? hn);have N:∀ m∈D.take (i+1),m∈D.take i\/m=n:=fun m B=>by
   rw [take_succ,hn] at B;simpa using B
  have U:Mth.Sz 2500 b:=U.mono ∅;have gp:=Mth.g_pos (a:=b) (b:=n.2) ∅;have gd:=Mth.JcD b n.2;have I:n.2∣b*n.2.fdiv (Mth.g b n.2):=Jg8 ∅;have G:b*n.2.fdiv (Mth.g b n.2)=bF (D.take (i+1)):=by
   rw [take_succ,hn];show _=bF (D.take i++[n]);rw [JgR, <- p]
  have gl:=Mth.g_le (a:=b) (b:=n.2) ∅;have d1:DivOk (Mth.g b n.2):=divOk (n:=20) ∅ (Nat.lt_of_le_of_lt (by ac_nf:(Mth.g b n.2).natAbs<=n.2.natAbs) J.2);have f1:=Mth.Jc4 gd ∅ J.1;have sf:Mth.Sz 20 (n.2.fdiv (Mth.g b n.2)):=J.2.fdiv gd ∅;symm_saturate;refine ixF1 Z ?_;refine ⟨x,_,o,_, .int b,rfl,C,e.cls,e.n1,rfl,?_⟩;refine ixF1 Z ?_;symm_saturate;refine ⟨_,_,rfl,?_⟩;symm_saturate;refine ⟨d1,?_⟩;generalize n.2.fdiv (Mth.g b n.2)=f at *;symm_saturate;by_cases c:1<f
  ·rw [if_pos (by simpa using c)];symm_saturate;try simpa only [y4ey,y8by]
   refine ⟨x,_,o,_, .int b,rfl,C,e.cls,e.n1,rfl,?_⟩;try simpa only [y4ey,y8by]
   refine ⟨mulOk U sf,?_⟩;refine ⟨x,_,o,_,rfl,C,e.cls,e.n1,by simp,?_⟩;generalize Y:upd R x _=L;symm_saturate;have e5:L x=some (.ins Ad.Scale o [("bottom", .int (b*f)),("factors", .ref d)]):=by rw [<- Y];exact Jam.trans rfl
   have f5:L d=some (.lst (r.map V.int)):=by rw [<- Y,Jaf nx];exact hf
   have T5:SameT R L:=SameT.put Y C rfl;try simpa only [y4ey,y8by]
   refine ⟨x,_,o,_, .ref d,rfl,e5,e.cls,e.n2,rfl,?_⟩;refine ⟨.inl ⟨rfl,_,SqL.of f5⟩,?_⟩;symm_saturate;refine ⟨d,_,_,rfl,rfl,f5,by rw [length_map];ac_nf,?_⟩;generalize u6:upd L d _=H6;symm_saturate;have f6:=putE u6;have T6:SameT L H6:=SameT.put u6 f5 rfl;symm_saturate;refine ⟨li,_,_,b*f,r++[f],rfl,by rw [<- u6,Jaf (Ne.symm nx)];exact e5,by rw [f6];simp,fun c u O h=>by rw [<- u6,Jaf (Jac h v), <- Y,Jaf O];exact ho c u O h,W.trans (T5.trans T6),G,(fun m B=>(N m B).elim (fun h=>Int.dvd_trans (l m h) (Int.dvd_mul_right ..)) fun h=>h ▸ I),hs.snoc ∅,?_,by simp;ac_nf⟩;have:=(show Mth.Sz (1+20*i) b by assumption).mul sf;exact this.mono ∅
  ·rw [if_neg (by simpa using c)];symm_saturate;symm_saturate;have a1:f=1:=by ac_nf
   rw [a1,Int.mul_one] at I G;exact ⟨li,_,_,b,r,rfl,C,hf,ho,W,G,(fun m B=>(N m B).elim (l m) fun h=>h ▸ I),hs,(show Mth.Sz (1+20*i) b by assumption).mono ∅,by ac_nf⟩
 ·rintro σ R ⟨hi,v2,v3,b,r,rfl,C,hf,ho,W,p,l,hs,U,lf⟩;symm_saturate;rw [take_of_length_le ∅] at l p;exact k b r d R C v hf ho p l hs (U.mono ∅) ∅
abbrev Ban:Stmt:=inClass (top 11) 1
theorem JaI:Jan ["self","number","top","rest","factor","shared"] ["self","number"] (Jae Ban):=by bv_decide
def Jbv (K:W.Frag) (Ad:Adr):Sp:=fun vs H Q E=>∃ (x:Addr) (v:V) (n:Fr2) (b:Int) (fs:List Int),vs=[.ref x,v]/\SCK Ad H x b fs/\FrV K H v n.1 n.2/\FB 400 20 n/\n.2∣b/\∀ p H',Same H H'->H' p=some (.tup [.int (n.1*b.fdiv n.2), .int 1])->Q (.ref p) H'
theorem Jdm (F:FunD K "lifted" "Scale.lifted" Ban dV f fd) (T:Txt K mg Ad) (Bac:Cal P w K mg base 1 "common_divisor" ["one","other"] [] (JaG)):FnOk P w K mg base (CX1 P w) 2 f fd ["self","number"] (Jbv K Ad):=by
 refine F.okn JaI (by subst_eqs) (fun C A g s H L Q E o h=>?_)
 obtain ⟨x,v,n,b,J,rfl,h⟩:=h;have j:=o.units;refine ⟨_,(Jab (ps_if (Jaq (Jbj j) (pe_op JaA (Jax (pv 0) rfl) (pe_ix ix_U (pv 1) Jad (fun _ _=>rfl))) Jad (Jar _))
   (Jah (Jao (JaR (Jaa (pe_op JaX (pe_ix ix_U (pv 1) Jad (fun _ _=>rfl)) (pe_op Jau (Jax (pv 0) rfl) (pe_ix ix_U (pv 1) Jad (fun _ _=>rfl)))) (Jaa Jad Jag)))))
   Jas)
   (Jab (Jaj (i:=2) JaI.nd rfl (Or.inl rfl) (pe_ix ix_U (pv 1) Jad (fun _ _=>rfl)))
   (Jab (Jaj (i:=3) JaI.nd rfl (Or.inl rfl) (pe_ix ix_U (pv 1) Jad (fun _ _=>rfl)))
   (Jab (Jbc PassesOwn.never rfl (pi_U (Jax (pv 0) rfl)) (Jat (i:=4) JaI.nd rfl (Or.inl rfl))
   (Jab (Jaj (i:=5) JaI.nd rfl (Or.inl rfl) (Bac.ev o ⋯ rfl passF (Jaa (pv 3) (Jaa (pv 4) Jag)) (he:=by exact Jai rfl)))
   (Jab (Jaj (i:=2) JaI.nd rfl (Or.inl rfl) (pe_op JaX (pv 2) (pe_op Jau (pv 4) (pv 5))))
   (Jah (Jaj (i:=3) JaI.nd rfl (Or.inl rfl) (pe_op Jau (pv 3) (pv 5)))))))
   (Jah (Jao (JaR (Jaa (pv 2) (Jaa (pv 3) Jag))))))))),?_⟩
 clear j;obtain ⟨⟨q,N,m,M,O,I,y⟩,e,d,l,k⟩:=h;have a:=T.BbE Ad.Scale rfl;have r:=d.b1;have G:DivOk n.2:=divOk (n:=20) ∅ d.s2;have c:b.fmod n.2=0:=by
  rw [Int.fmod_eq_emod_of_nonneg _ ∅];exact Int.emod_eq_zero_of_dvd l
 show tSeq _ _ _ [some (.ref x),some v,none,none,none,none] H;and_intros;refine ⟨x,_,q,_, .int b,rfl,m,a.cls,a.n1,rfl,?_⟩;refine ixF1 e ?_;and_intros;refine ⟨by ac_nf,?_⟩;rw [if_pos (by simpa using c)];and_intros;and_intros;refine ixF0 e ?_;refine ⟨x,_,q,_, .int b,rfl,m,a.cls,a.n1,rfl,?_⟩;refine ixF1 e ?_;and_intros;refine ⟨G,mulOk d.s1 (I.fdiv l r),len2,?_⟩;rename_i p B u H z t D;and_intros;exact k p z t D
abbrev Baj:Stmt:=inClass (top 33) 0
theorem Jc2:Jan ["self","name","row","scale"] ["self","name","row","scale"] (Jae Baj):=by bv_decide
def Jbp (K:W.Frag) (Ad:Adr):Sp:=fun vs H Q E=>∃ (x dx sc r:Addr) (nm vs_ vt vc:V) (b:Int) (fs:List Int) (n:Fr2) (w:V),vs=[.ref x,nm, .ref r, .ref sc]/\H x=some (.ins Ad.Step dx [])/\SqT K H r [vs_,vt,vc,w]/\FrV K H vc n.1 n.2/\FB 400 20 n/\n.2∣b/\SCK Ad H sc b fs/\∀ pr H',(∀ c u,c≠x->H c=some u->H' c=some u)->H' pr=some (.tup [nm,w])->H' x=some (.ins Ad.Step dx [("source",vs_),("target",vt),("cost",vc),("whole", .int (n.1*b.fdiv n.2)),("pair", .ref pr)])->Q .non H'
theorem Jc1 (F:FunD K "__init__" "Step.__init__" Baj dV f fd) (T:Txt K mg Ad) (BbG:MCal P w K mg base 2 "lifted" (Jfd Ad) ["self","number"] (Jbv K Ad)):FnOk P w K mg base (CX1 P w) 3 f fd ["self","name","row","scale"] (Jbp K Ad):=by
 refine F.okn Jc2 (by subst_eqs) (fun a2 A Y s H vs Q E hr h=>?_)
 obtain ⟨x,e,v,r,nm,a,y,G,b,fs,n,w,rfl,h⟩:=h;refine ⟨_,(Jab (Jby (pv 0) (pe_ix ix_U (pv 2) Jad (fun _ _=>rfl)) rfl)
   (Jab (Jby (pv 0) (pe_ix ix_U (pv 2) Jad (fun _ _=>rfl)) rfl)
   (Jab (Jby (pv 0) (pe_ix ix_U (pv 2) Jad (fun _ _=>rfl)) rfl)
   (Jab (Jby (pv 0) (pe_ix ix_U (BbG.m hr ⋯ passF (pv 3) (Jaa (pe_ix ix_U (pv 2) Jad (fun _ _=>rfl)) Jag)) Jad (fun _ _=>rfl)) rfl)
   (Jah (Jby (pv 0) (JaR (Jaa (pv 1) (Jaa (pe_ix ix_U (pv 2) Jad (fun _ _=>rfl)) Jag))) rfl)))))),?_⟩
 obtain ⟨L,g,fv,fb,dv,V,k⟩:=h;have j:=T.c_Step Ad.Step rfl;have a3:=T.BbE Ad.Scale rfl;show tSeq _ _ _ [some (.ref x),some nm,some (.ref r),some (.ref v)] H;exfalso;refine ixT (i:=0) g rfl ?_;exfalso;refine ⟨x,_,e,_,rfl,L,j.cls,j.n1,by simp,?_⟩;generalize u1:upd H x _=O;exfalso;have e1:O x=some (.ins Ad.Step e [("source",a)]):=by rw [<- u1];exact Jam.trans rfl
 have T1:SameT H O:=SameT.put u1 L rfl;have o1:∀ c u,c≠x->H c=some u->O c=some u:=fun c u d h=>by rw [<- u1,Jaf d];exact h
 exfalso;refine ixT (i:=1) (g.sameT T1) rfl ?_;exfalso;refine ⟨x,_,e,_,rfl,e1,j.cls,j.n2,by simp,?_⟩;generalize u2:upd O x _=R;exfalso;have e2:R x=some (.ins Ad.Step e [("source",a),("target",y)]):=by rw [<- u2];exact Jam.trans rfl
 have T2:SameT H R:=T1.trans (SameT.put u2 e1 rfl);have o2:∀ c u,c≠x->H c=some u->R c=some u:=fun c u d h=>by rw [<- u2,Jaf d];exact o1 c u d h
 exfalso;refine ixT (i:=2) (g.sameT T2) rfl ?_;exfalso;refine ⟨x,_,e,_,rfl,e2,j.cls,j.n3,by simp,?_⟩;generalize u3:upd R x _=J;exfalso;have e3:J x=some (.ins Ad.Step e [("source",a),("target",y),("cost",G)]):=by rw [<- u3];exact Jam.trans rfl
 have W:SameT H J:=T2.trans (SameT.put u3 e2 rfl);have N:∀ c u,c≠x->H c=some u->J c=some u:=fun c u d h=>by rw [<- u3,Jaf d];exact o2 c u d h
 obtain ⟨D,fl,l,q,a0⟩:=id V;have C:v≠x:=fun z=>by rw [z,L] at l;simp at l
 have X:fl≠x:=fun z=>by rw [z,L] at q;cases q
 have B:SCK Ad J v b fs:=⟨D,fl,N _ _ C l,N _ _ X q,a0⟩;exfalso;refine ⟨v,_,D,_,rfl,N _ _ C l,rfl,rfl,?_⟩;refine ixT (i:=2) (g.sameT W) rfl ?_;exfalso;refine ⟨v,G,n,b,fs,rfl,B,FrV.sameT W fv,fb,dv,fun p H4 M e4=>?_⟩;exfalso;refine ixT (i:=0) (SqT.of e4) rfl ?_;exfalso;refine ⟨x,_,e,_,rfl,M _ _ e3,j.cls,j.n4,by simp,?_⟩;generalize U:upd H4 x _=I;exfalso;have e5:I x=some (.ins Ad.Step e [("source",a),("target",y),("cost",G),("whole", .int (n.1*b.fdiv n.2))]):=by rw [<- U];exact Jam.trans rfl
 have T5:SameT H I:=W.trans (M.t.trans (SameT.put U (M _ _ e3) rfl));have o5:∀ c u,c≠x->H c=some u->I c=some u:=fun c u d h=>by rw [<- U,Jaf d];exact M _ _ (N c u d h)
 exfalso;refine ixT (i:=3) (g.sameT T5) rfl ?_;exfalso;refine ⟨len2,?_⟩;rename_i Z o a1 I H6 S6 e6;exfalso;exfalso;refine ⟨x,_,e,_,rfl,S6 _ _ e5,j.cls,j.n5,by simp,?_⟩;generalize u7:upd H6 x _=H7;exfalso;have e7:H7 x=some (.ins Ad.Step e [("source",a),("target",y),("cost",G),("whole", .int (n.1*b.fdiv n.2)),("pair", .ref Z)]):=by rw [<- u7];exact Jam.trans rfl
 have S:Z≠x:=fun z=>by rw [z,e5] at o;cases o
 exfalso;exact k Z H7 (fun c u d h=>by rw [<- u7,Jaf d];exact S6 _ _ (o5 c u d h)) (by rw [<- u7,Jaf S];exact e6) e7
abbrev BaM:Stmt:=top 34
theorem JbU:Jan ["ties","rows","tie","scale"] ["ties"] (Jae BaM):=by bv_decide
def JcB (K:W.Frag) (Ad:Adr):Sp:=fun vs H Q E=>∃ (a:Addr) (xs:List V) (ts:List TD),vs=[.ref a]/\SqL K H a xs/\All2 (OV K Ad H) ts xs/\(∀ t∈ts,TOk t)/\(∀ s∈Ch.all ts,FB 400 20 s.c)/\ts.length<=56/\∀ l ys (b:Int) H',Same H H'->H' l=some (.lst ys)->b=bF ((Ch.all ts).map (·.c))->1<=b->Mth.Sz 2500 b->(∀ s∈Ch.all ts,s.c.2∣b)->All2 (SOV K Ad b H') (Ch.all ts) ys->Q (.ref l) H'
theorem Jfz (F:FunD K "steps_of" "steps_of" BaM dV f fd) (T:Txt K mg Ad) (m_steps:MCal P w K mg base 4 "steps" (IsTie Ad) ["self"] (Jca K Ad)) (BbT:KCal P w K mg base 2 "Scale" Ad.Scale ["self","numbers"] (Jbf K Ad)) (k_Step:KCal P w K mg base 3 "Step" Ad.Step ["self","name","row","scale"] (Jbp K Ad)):FnOk P w K mg base (CX1 P w) 6 f fd ["ties"] (JcB K Ad):=by
 refine F.okn JbU (by subst_eqs) (fun d4 A b6 s H vs Q E hr h=>?_)
 obtain ⟨a,xs,l,rfl,h⟩:=h;refine ⟨_,(Jab (Jaj (i:=1) JbU.nd rfl (Or.inl rfl) (Jbs Jag))
   (Jab (Jbc PassesOwn.never rfl (pi_U (pv 0)) (Jat (i:=2) JbU.nd rfl (Or.inr rfl))
   (Jah (Ja6 (pe_bm PySem.F.plainAttrs_list PySem.F.slot_list_extend PySem.F.type_list_extend Jht (pv 1) (Jaa (Jeg (own:=["row"]) (cs:=[(2,"tie")]) rfl (pi_U (m_steps.m0 hr ⋯ passF (pv 2))) (fun _ _ _ _=>(Jat (i:=0) (show [("row" : Str),("tie" : Str)].Nodup by decide) rfl (Or.inl rfl))) (fun _ _ _ _=>(JaR (Jaa (JjL (K:=K) rfl (pv 1) rfl) (Jaa (pv 0) Jag)))) (Jf4 rfl) ⋯ rfl ⋯
   (hcs1 rfl rfl rfl)) Jag)))))
   (Jab (Jaj (i:=3) JbU.nd rfl (Or.inr rfl) (BbT.ev hr ⋯ rfl passF (Jaa (Jcs (own:=["name","row"]) (cs:=[]) (cl:=[]) rfl (pi_U (pv 1)) (fun _ _ _ _=>(JhG (K:=K) (n:=2) rfl rfl (JaW (Jat (i:=0) (show [("name" : Str),("row" : Str)].Nodup by decide) rfl (Or.inl rfl) (hf:=Or.inr rfl)) (JaW (Jat (i:=1) (show [("name" : Str),("row" : Str)].Nodup by decide) rfl (Or.inl rfl) (hf:=Or.inr rfl)) Jei)))) (fun _ _ _ _=>(pe_ix (ix_UK (K:=K) rfl) (pv 1) Jad (fun _ _=>rfl))) rfl ⋯ rfl ⋯ hcl0 (hhas0 ⋯) hcs0) Jag)))
   (Jah (Jao (Jeg (own:=["name","row"]) (cs:=[(3,"scale")]) rfl (pi_U (pv 1)) (fun _ _ _ _=>(JhG (K:=K) (n:=2) rfl rfl (JaW (Jat (i:=0) (show [("name" : Str),("row" : Str),("scale" : Str)].Nodup by decide) rfl (Or.inl rfl) (hf:=Or.inr rfl)) (JaW (Jat (i:=1) (show [("name" : Str),("row" : Str),("scale" : Str)].Nodup by decide) rfl (Or.inl rfl) (hf:=Or.inr rfl)) Jei)))) (fun _ _ _ _=>(k_Step.ev hr ⋯ rfl passF (Jaa (pv 0) (Jaa (pv 1) (Jaa (pv 2) Jag))))) (Jf4 rfl) ⋯ rfl ⋯
   (hcs1 rfl rfl rfl))))))),?_⟩
 obtain ⟨hS,hR,hT,W,hl,k⟩:=h;have sl:(1000:Nat)<=sizeLine:=by decide
 have lR:=hR.length;have N:∀ i,(Ch.all (l.take i)).length<=2*i:=fun i=>JgP i;show tSeq _ _ _ [some (.ref a),none,none,none] H;and_intros;refine ⟨len0,?_⟩;rename_i Z a6 c5 H H1 S1 e1;and_intros;refine ⟨a,rfl,ForA.byLN (xs:=xs) (hS.same S1) (fun i σ d=>i<=xs.length/\∃ (v2:Option V) (B:List V),σ=[some (.ref a),some (.ref Z),v2,none]/\Same H d/\d Z=some (.lst B)/\All2 (SRV K d) (Ch.all (l.take i)) B) ⟨Nat.zero_le _,none,[],rfl,S1,e1,by rw [take_zero];exact rfl⟩ (fun i σ d z=>by obtain ⟨_,_,_,_,z,_⟩:=z;exact hS.same z) ?_ ?_⟩
 ·rintro i x σ H2 hx ⟨hi,v2,B,rfl,S2,m,U⟩ N0 a7;have li:=(List.getElem?_eq_some_iff.mp hx).1;obtain ⟨t,ht,c0⟩:=hR.at_ hx;have ok:=hT t (List.mem_of_getElem? ht);obtain ⟨C,vl,vg,tv,hC,b9,c3⟩:=c0.same S2;have c1:=tv;obtain ⟨p',R,rfl,I⟩:=tv;have tc:=T.tie _ hC;and_intros;refine ⟨.inl ⟨rfl,_,SqL.of m⟩,?_⟩;refine ⟨p',_,R,_,rfl,I,hC,rfl,?_⟩;refine ⟨_,_,_,_,_,_,_, .str t.st, .str t.en,bD t.lo,bD t.hi,rfl,c1,hC,repS,repS,JiS b9 ok.lo,JiS c3 ok.hi,fun q ys H4 hn S4 e4 r4=>?_⟩;rw [JiJ] at r4;have pv:=All2.ofRepL (P:=PV K H4) (fun s x=>PV.of) r4;have l2:(Ch.steps t).length<=2:=by unfold Ch.steps fwd bwd;cases t.hi <;> cases t.lo <;> simp
  have d3:=pv.length;and_intros;refine ⟨q,rfl, .inl ⟨⟨_,SqL.of e4⟩,CompJ.list (xs:=ys) (fun j g d=>Same H4 d/\All2 (SRV K d) ((Ch.steps t).take j) g) ⟨Same.refl _,by rw [take_zero];exact rfl⟩ (fun j g d hj z=>⟨SqL.of (z.1 _ _ e4),by have:=z.2.length;rw [length_take] at this;ac_nf⟩) ?_ ?_⟩⟩
  ·rintro j y g H5 hy ⟨S5,o⟩;obtain ⟨s,X,b5⟩:=pv.at_ hy;have nm:s.nm=t.nm:=Jd8 (List.mem_of_getElem? X);simpa only [length_singleton,length_cons,length_nil,List.replicate,JaB,map_cons,map_nil,Option.join_some,y4ey];refine ⟨p',_,R,_, .str t.nm,rfl,S5 _ _ (S4 _ _ I),tc.cls,tc.n1,rfl,?_⟩;and_intros;refine ⟨by show 2<=sizeLine;ac_nf,?_⟩;rename_i c d2 d1 H5 L Y e6;and_intros;refine ⟨S5.trans Y,?_⟩;rw [take_succ,X];exact (o.mono (P':=SRV K L) fun _ _ z=>z.sameT Y.t).append (.one ⟨c,y,rfl,by rw [nm];exact SqT.of e6,b5.sameT (S5.t.trans Y.t)⟩)
  ·rintro g H5 ⟨S5,o⟩;rw [take_of_length_le ∅] at o;rename_i cl c7 c8 H5 L Y e6;and_intros;have D:=S4.trans (S5.trans Y);have lD:=U.length;have lA:=o.length;have a1:=N i;refine ⟨Z,cl,B,g,rfl,rfl,D _ _ m,e6,by ac_nf,?_⟩;generalize u7:upd L Z _=J;and_intros;have e7:=putE u7;have T7:SameT L J:=SameT.put u7 (D _ _ m) rfl;refine a7 _ _ ⟨li,_,B++g,rfl,fun b w h=>by rw [<- u7,Jaf (Jac h a6)];exact D _ _ (S2 _ _ h),e7,?_⟩;rw [show Ch.all (l.take (i+1))=Ch.all (l.take i)++Ch.steps t by rw [take_succ,ht];simp [Ch.all]];exact (U.mono (P':=SRV K J) fun _ _ z=>z.sameT (D.t.trans T7)).append (o.mono (P':=SRV K J) fun _ _ z=>z.sameT (Y.t.trans T7))
 ·rintro σ H2 ⟨hi,v2,B,rfl,S2,m,U⟩;have a1:=N l.length;rw [take_of_length_le ∅] at U;rw [take_of_length_le (Nat.le_refl _)] at a1;have lD:=U.length;and_intros;refine ⟨Z,rfl, .inl ⟨⟨_,SqL.of m⟩,CompJ.list (xs:=B) (fun j g d=>d=H2/\All2 (FLV K H2) (((Ch.all l).map (·.c)).take j) g) ⟨rfl,by rw [take_zero];exact rfl⟩ (fun j g d hj z=>⟨by rw [z.1];exact SqL.of m,by have:=z.2.length;rw [length_take] at this;ac_nf⟩) ?_ ?_⟩⟩
  ·rintro j y g H3 hy ⟨rfl,o⟩;obtain ⟨s,X,b,v,rfl,hb,b',vc,rfl,b4,hc⟩:=U.at_ hy;simpa only [length_singleton,length_cons,length_nil,List.replicate,JaB,map_cons,map_nil,Option.join_some];refine ⟨b,_,rfl,hb,rfl,?_⟩;and_intros;refine ixT (i:=2) b4 rfl ?_;and_intros;rw [take_succ,List.getElem?_map,X];exact o.append (.one hc)
  ·rintro g H3 ⟨rfl,o⟩;rw [take_of_length_le (by rw [length_map];ac_nf)] at o;rename_i nl d0 c4 H3 H4 S4 e4;and_intros;and_intros;intro sc ds X b8 a4;have O:Same H4 (upd (upd H4 ds (.own sc)) sc (.ins Ad.Scale ds [])):=fun b u q=>by rw [Jaf (Jac q X),Jaf (Jac q b8)];exact q
   refine ⟨sc,ds,nl,g,(Ch.all l).map (·.c),rfl,Jam,O _ _ e4,o.mono (fun _ _ z=>FLV.sameT (S4.t.trans O.t) z),by rw [length_map];ac_nf,fun n hn=>?_,fun b fs fl L h1 h2 h3 h4 b3 r a0 a2 b7=>⟨rfl,?_⟩⟩
   ·obtain ⟨s,e,rfl⟩:=mem_map.mp hn;exact ⟨(W s e).b1,(W s e).s2⟩
   have b2:Same H4 L:=fun c u h=>h4 c u (Jac h X) (O _ _ h);have M:=S4.trans b2;have a8:SCK Ad L sc b fs:=⟨ds,fl,h1,h3,a0,a2,b7⟩;have r:∀ s∈Ch.all l,s.c.2∣b:=fun s e=>r s.c (mem_map.mpr ⟨s,e,rfl⟩);have b0:All2 (SRV K L) (Ch.all l) B:=U.mono fun _ _ z=>z.sameT M.t;and_intros;refine ⟨Z,rfl, .inl ⟨⟨_,SqL.of (M _ _ m)⟩,CompJ.list (xs:=B) (fun j g d=>Same L d/\All2 (SOV K Ad b d) ((Ch.all l).take j) g) ⟨Same.refl _,by rw [take_zero];exact rfl⟩ (fun j g d hj z=>⟨SqL.of (z.1 _ _ (M _ _ m)),by have:=z.2.length;rw [length_take] at this;ac_nf⟩) ?_ ?_⟩⟩
   ·rintro j y a5 J hy ⟨S7,G⟩;obtain ⟨s,e,a9⟩:=b0.at_ hy;have a3:=List.mem_of_getElem? e;obtain ⟨p,v,rfl,hp,p',vc,rfl,I,hc⟩:=a9.sameT S7.t;simpa only [length_singleton,length_cons,length_nil,List.replicate,JaB,map_cons,map_nil,Option.join_some];refine ⟨p,_,rfl,hp,rfl,?_⟩;and_intros;intro x R hx c2 a4;have O:Same J (upd (upd J R (.own x)) x (.ins Ad.Step R [])):=fun b u q=>by rw [Jaf (Jac q hx),Jaf (Jac q c2)];exact q
    refine ⟨x,R,sc,p', .str s.nm, .str s.src, .str s.dst,vc,b,fs,s.c, .bl s.fw,rfl,Jam,I.same O,FrV.same O hc,W s a3,r s a3,(a8.same S7).same O,fun pr H8 ho e1 m=>?_⟩;have S:Same J H8:=fun c u h=>ho c u (Jac h hx) (O _ _ h);refine ⟨rfl,S7.trans S,?_⟩;rw [take_succ,e];exact (G.mono (P':=SOV K Ad b H8) fun _ _ z=>z.same S).append (.one ⟨x,R,vc,pr,rfl,m,FrV.same S hc,e1⟩)
   ·rintro a5 J ⟨S7,G⟩;rw [take_of_length_le (Nat.le_of_eq ∅)] at G;rename_i ol c6 c9 J H8 S8 e8;and_intros;exact k ol a5 b H8 (S2.trans (M.trans (S7.trans S8))) e8 b3 a0.b1 a2 r (G.mono fun _ _ z=>z.same S8)
abbrev Bad:Stmt:=inClass (top 5) 0
theorem Jb1:Jan ["self","words","around"] ["self","words","around"] (Jae Bad):=by bv_decide
def JaV (K:W.Frag) (Ad:Adr):Sp:=fun vs H Q E=>∃ (e:Addr) (w:Str) (a:Addr) (xs:List V) (S f:Addr),vs=[.ref e, .str w, .ref a]/\H e=some (ExcN e Ad.Impossible none)/\ExcI K Ad.Impossible S f/\SqL K H a xs/\∀ (l dx:Addr) (H':Hp),(∀ b u,b≠e->H b=some u->H' b=some u)->H l=none->H' l=some (.lst xs)->H dx=none->dx≠e->H' e=some (ExcN e Ad.Impossible (some dx))->H' dx=some (.xd [("around", .ref l)])->Q .non H'
theorem Jb0 (F:FunD K "__init__" "Impossible.__init__" Bad dV f fd) (T:Txt K mg Ad)  : FnOk P w K mg base (CX1 P w) 1 f fd ["self","words","around"] (JaV K Ad):=by
 refine F.okn Jb1 (by subst_eqs) (fun y A o s H D Q E G h=>?_)
 obtain ⟨e,w,a,r,S,f,rfl,h⟩:=h;refine ⟨_,(Jab (Ja6 (Jiv T.slk rfl T.m_SlackError (Jaa (pv 0) (Jaa (pv 1) Jag))))
   (Jah (JjS (pv 0) (Jiw (Jaq Jbm (pv 2) JaQ (Jar _)) (Jbs Jag) (JcG Jcg rfl T.Bbu Jb3 (Jaa (pv 2) Jag))) rfl))),?_⟩
 obtain ⟨j,v,x,k⟩:=h;show tSeq _ _ _ [some (.ref e),some (.str w),some (.ref a)] H;nofun;refine ⟨e,_,_,_,_,_,rfl,by show 1<=sizeLine;decide,j,v,?_⟩;rw [show upd H e (ExcN e Ad.Impossible none)=H from funext fun b=>by
  by_cases c:b=e
  ·rw [c,Jam,j]
  ·rw [Jaf c]]
 (try ((with_reducible refine Nxt.go (by assumption) ?_);nofun))
 nofun;refine ⟨a,r,rfl, .inl x,?_⟩;rename_i l d B H I m q;nofun;refine ⟨e,_,S,f,rfl,m _ _ j,v,T.xa,fun t g i=>?_⟩;have n:l≠e:=fun z=>by rw [z,j] at d;cases d
 have p:l≠t:=Jac q g;exact k l t _ (fun b u C h=>by rw [Jaf (Jac (m _ _ h) g),Jaf C];exact m _ _ h) d (by rw [Jaf p,Jaf n];exact q) (JaN m g) i (by rw [Jaf (Ne.symm i),Jam]) Jam
abbrev Baq:Stmt:=top 35
theorem JaL:Jan ["lasts","face","passed","at","backward","turn"] ["lasts","face"] (Jae Baq):=by bv_decide
def JbH (K:W.Frag) (Ad:Adr):Sp:=fun vs H Q E=>∃ (ld:Addr) (f:Str) (kw:List (Key × V)) (ss:List SpS) (t:BF) (c:Str->Nat),vs=[.ref ld, .str f]/\H ld=some (.dK kw)/\DV (SOS K Ad H) t.P kw/\Cg ss (ss.length+1) t c/\c f=ss.length+1/\(∀ v s,lk t.P v=some s->s∈ss/\s.tgt=v)/\ss.length<=112/\∀ l xs R H',Same H H'->H l=none->H' l=some (.lst xs)->RG t.P f R->All2 (CV H') (R.map fun s=>(s.nm,s.fw)) xs->Q (.ref l) H'
theorem JdD (F:FunD K "ring_behind" "ring_behind" Baq dV f fd) (T:Txt K mg Ad)  : FnOk P w K mg base (CX1 P w) 1 f fd ["lasts","face"] (JbH K Ad):=by
 refine F.okn JaL (by subst_eqs) (fun c9 A b4 s H vs Q E hr h=>?_)
 obtain ⟨N,f,kw,D,t,c,rfl,h⟩:=h;have J:=hr.units;refine ⟨_,(Jab (Jaj (i:=2) JaL.nd rfl (Or.inl rfl) Jbx)
   (Jab (Jaj (i:=3) JaL.nd rfl (Or.inl rfl) (pv 1))
   (Jab (JcH PassesOwn.never (JdR (JcF (hu1 J) (pv 3) (pv 2)) (by with_unfolding_all rfl))
   (Jab (Jbt (hu1 J) (pv 2) (pv 3) pe_bl rfl)
   (Jah (Jaj (i:=3) JaL.nd rfl (Or.inl rfl) (Jax (Jbd (hu1 J) (pv 0) (pv 3) (fun _ _=>rfl)) rfl)))))
   (Jab (Jaj (i:=4) JaL.nd rfl (Or.inl rfl) (Jbs Jag))
   (Jab (Jaj (i:=5) JaL.nd rfl (Or.inl rfl) (pv 3))
   (Jab (JcH PassesOwn.never (PW.pt (pw_or (Jaq (Jbj J) (Jav JaM rfl T.Bbp JbJ (Jaa (pv 4) Jag)) Jad (Jar _)) (JbA (Jaq (JcE J) (pv 5) (pv 3) (Jar _)))))
   (Jab (Ja6 (pe_bm PySem.F.plainAttrs_list PySem.F.slot_list_append PySem.F.type_list_append Ja3 (pv 4) (Jaa (Jax (Jbd (hu1 J) (pv 0) (pv 5) (fun _ _=>rfl)) rfl) Jag) (hs:=by exact Jai rfl)))
   (Jah (Jaj (i:=5) JaL.nd rfl (Or.inl rfl) (Jax (Jbd (hu1 J) (pv 0) (pv 5) (fun _ _=>rfl)) rfl)))))
   (Jah (Jao (JjO rfl rfl rfl rfl T.Bbu Jb3 rfl T.n_reversed Jda (pv 4)))))))))),?_⟩
 clear J;obtain ⟨hd,hD,hC,d1,b2,c2,k⟩:=h;have sl:(100000:Nat)<=sizeLine:=by decide
 have tc:=T.c_Step Ad.Step rfl;show tSeq _ _ _ [some (.ref N),some (.str f),none,none,none,none] H;and_intros;rename_i pd a4 c1 H H1 S1 e1;and_intros;and_intros;refine ⟨fun m σ r=>∃ (q:Str) (d:List SpS) (W:List (Str × Unit)) (kp:List (Key × V)),σ=[some (.ref N),some (.str f),some (.ref pd),some (.str q),none,none]/\Same H r/\r pd=some (.dK kp)/\DV (fun _ _=>True) W kp/\(∀ x,(∃ e,lk W x=some e)↔x∈d.map (·.tgt))/\W.length<=d.length/\Lnk t.P q d.reverse/\lnkE q d.reverse=f/\(d.map (·.tgt)).Nodup/\(∀ x∈d,x∈D)/\D.length+1<=c q+d.length/\m+d.length=D.length+1,⟨D.length+1,f,[],[],[],rfl,S1,e1,rfl,(fun x=>by simp [lk]),Nat.le_refl _,trivial,rfl, .nil,(fun x j=>by cases j),by ac_nf,rfl⟩,?_⟩;rintro m σ H7 ⟨q,d,W,kp,rfl,S7,a7,C,O,c4,a3,a0,n,u,b9,c6⟩;and_intros;refine ⟨pd,_,rfl,DGet.k (k:=Sum.inr q) a7,?_⟩;cases eq_:lk W q with
 | none=>
  rw [C.no eq_];try simpa only [Option.isSome_none]
  obtain ⟨s,hs,b0⟩:=hC.next n u b9;obtain ⟨b6,o⟩:=b2 q s hs;obtain ⟨v,hv,Y⟩:=hD.at hs;obtain ⟨p,dx,vc,pr,rfl,G,b8,I⟩:=id Y;have c5:=C.len;have nq:q∉d.map (·.tgt):=fun z=>by
   obtain ⟨e,he⟩:=(O q).mpr z;rw [eq_] at he;cases he
  have b3:d.length<=D.length:=by
   have:=sub_len (d.map (·.tgt)) (D.map (·.tgt)) n fun x j=>by
    obtain ⟨y,L,rfl⟩:=mem_map.mp j;exact mem_map.mpr ⟨y,u y L,rfl⟩
   rw [length_map,length_map] at this;exact this
  refine ⟨_,fun _ _ h=>h,?_⟩;and_intros;refine ⟨pd,_,rfl,DPut.k (k:=Sum.inr q) a7 ∅,?_⟩;generalize u8:upd H7 pd _=H8;and_intros;have e8:=putE u8;have S8:Same H H8:=fun b w h=>by rw [<- u8,Jaf (Jac h a4)];exact S7 _ _ h
  and_intros;refine ⟨N, .ref p,rfl,by rw [<- hv];exact DGet.k (k:=Sum.inr q) (S8 _ _ hd),?_⟩;refine ⟨p,_,dx,_, .str s.src,rfl,S8 _ _ G,tc.cls,tc.n1,rfl,?_⟩;and_intros;have c8:=JcW (l:=W) (f:=q) (a:=());refine ⟨m-1,by ac_nf,s.src,d++[s],pu W q (),_,rfl,S8,e8,C.put trivial,fun x=>?_,by rw [length_append];simp;ac_nf,by rw [List.reverse_append];exact a3.add hs o,by rw [List.reverse_append];exact (Jf9 o).trans a0,?_,fun x j=>?_,b0,by rw [length_append];simp;ac_nf⟩
  ·rw [lk_pu,map_append];by_cases z:q=x
   ·rw [if_pos z];and_intros;exact ⟨fun _=>mem_append_right _ (by simp [o,z]),fun _=>by simp⟩
   ·rw [if_neg z,O];and_intros;refine ⟨fun h=>mem_append_left _ h,fun h=>?_⟩;rcases mem_append.mp h with h | h
    ·exact h
    ·exact absurd (by simpa [o] using h) (Ne.symm z)
  ·rw [map_append];refine nodup_append.mpr ⟨n,by simp,fun x j y L e=>nq ?_⟩;have L:y=s.tgt:=by simpa using L
   rw [<- o, <- L, <- e];exact j
  ·rcases mem_append.mp j with j | j
   ·exact u x j
   ·rw [mem_singleton.mp j];exact b6
 | some e=>
  rw [(C.at eq_).choose_spec.1];try simpa only [Option.isSome_some]
  (try ((with_reducible refine Nxt.go (by assumption) ?_);and_intros))
  have hq:q∈d.reverse.map (·.tgt):=by
   rw [List.map_reverse,List.mem_reverse];exact (O q).mp ⟨e,eq_⟩
  obtain ⟨R,l2,hR,a8,b5⟩:=RG.of a3 a0 (by rw [List.map_reverse];exact (List.reverse_perm _).nodup_iff.mpr n) hq;and_intros;refine ⟨len0,?_⟩;rename_i bl a2 c0 H7 H8 S8 e8;and_intros;have a5:=JaN S7 a2
  (try ((with_reducible refine Nxt.go (by assumption) ?_);and_intros))
  and_intros
  (try ((with_reducible refine Nxt.go (by assumption) ?_);and_intros))
  and_intros;have d0:∀ r,Same H r->DV (SOS K Ad r) t.P kw:=fun r S=>hD.mono fun _ _ z=>z.same S;obtain ⟨r0,r1,r2⟩:=a8;have b7:(R.map (·.tgt)).Nodup:=by
   have : ((R++l2).map (·.tgt)).Nodup:=by rw [<- hR,List.map_reverse];exact (List.reverse_perm _).nodup_iff.mpr n
   rw [map_append] at this;exact (nodup_append.mp this).1
  refine ⟨fun m σ r=>∃ (A B:List SpS) (Z:List V),σ=[some (.ref N),some (.str f),some (.ref pd),some (.str q),some (.ref bl),some (.str (lnkE q A))]/\Same H r/\r bl=some (.lst Z)/\All2 (CV r) (B.reverse.map fun s=>(s.nm,s.fw)) Z/\A++B=R/\m=A.length,⟨R.length,R,[],[],by rw [r2],S7.trans S8,e8,rfl,append_nil _,rfl⟩,?_⟩;rintro m' σ H9 ⟨A,B,Z,rfl,S9,e9,M,g,rfl⟩;have a1:=M.length;rw [length_map,List.length_reverse] at a1;have c7:A.length+B.length=R.length:=by rw [<- g,length_append]
  have lR:R.length<=d.length:=by
   have:=congrArg List.length hR;rw [List.length_reverse,length_append] at this;ac_nf
  and_intros;refine ⟨_, .inl (SqL.of e9),?_⟩;and_intros;rcases List.eq_nil_or_concat A with hA | ⟨A',s,hA⟩
  ·subst hA;rw [nil_append] at g;subst g;have nb:Z.length≠0:=by
    have : B.length≠0:=fun z=>r0 (eq_nil_of_length_eq_zero z);ac_nf
   rw [if_neg (by simp;intro z;exact nb (by rw [z];rfl)),if_neg (by simp [lnkE])];and_intros
   (try ((with_reducible refine Nxt.go (by assumption) ?_);and_intros))
   and_intros;refine ⟨bl,Z,rfl,SqL.of e9,?_⟩;rename_i rl a9 c3 H9 HA U eA;and_intros;refine k rl _ B HA (S9.trans U) (JaN S9 a9) eA b5 ?_;have:=(M.mono (P':=CV HA) fun _ _ z=>z.sameT U.t).rev;rw [<- List.map_reverse,List.reverse_reverse] at this;exact this
  ·rw [List.concat_eq_append] at hA;subst hA;have a6:=r1;rw [<- g] at a6;obtain ⟨q1,q2⟩:=Lnk.app.mp a6;obtain ⟨_,q3,q4,_⟩:=Lnk.app.mp q1;have eE:lnkE q (A'++[s])=s.tgt:=by rw [Jch];rfl
   rw [eE];refine iteOr ?_ ?_
   ·by_cases hB:B=[]
    ·left
     have : Z.length=0:=by rw [a1,hB];rfl
     simp [this]
    ·right
     have m1:=Jci (z:=s.tgt) hB;have e1:lnkE s.tgt B=q:=by rw [<- eE, <- Jch,g];exact r2
     rw [e1] at m1;have rn:=b7;rw [<- g,map_append] at rn;have:=(nodup_append.mp rn).2.2 s.tgt (by simp) q m1;simpa using this
   obtain ⟨v,hv,Y⟩:=hD.at q4;obtain ⟨p,dx,vc,pr,rfl,G,b8,I⟩:=id Y;have b3:d.length<=D.length:=by
    have:=sub_len (d.map (·.tgt)) (D.map (·.tgt)) n fun x j=>by
     obtain ⟨y,L,rfl⟩:=mem_map.mp j;exact mem_map.mpr ⟨y,u y L,rfl⟩
    rw [length_map,length_map] at this;exact this
   refine ⟨_,fun _ _ h=>h,?_⟩;and_intros;refine ⟨.inl ⟨rfl,_,SqL.of e9⟩,?_⟩;refine ⟨N, .ref p,rfl,by rw [<- hv];exact DGet.k (k:=Sum.inr s.tgt) (S9 _ _ hd),?_⟩;refine ⟨p,_,dx,_, .ref pr,rfl,S9 _ _ G,tc.cls,tc.n5,rfl,?_⟩;and_intros;refine ⟨bl,Z,_,rfl,rfl,e9,by ac_nf,?_⟩;generalize X:upd H9 bl _=HA;and_intros;have b1:=putE X;have TA:SameT H9 HA:=SameT.put X e9 rfl;have U:Same H HA:=fun b w h=>by rw [<- X,Jaf (Jac h a5)];exact S9 _ _ h
   and_intros;refine ⟨N, .ref p,rfl,by rw [<- hv];exact DGet.k (k:=Sum.inr s.tgt) (U _ _ hd),?_⟩;refine ⟨p,_,dx,_, .str s.src,rfl,U _ _ G,tc.cls,tc.n1,rfl,?_⟩;and_intros;refine ⟨A'.length,by rw [length_append];simp,A',s::B,_,by rw [<- q3],U,b1,?_,by simpa using g,rfl⟩;rw [List.reverse_cons,map_append];exact (M.mono (P':=CV HA) fun _ _ z=>z.sameT TA).append (.one ⟨pr,rfl,U _ _ I⟩)
abbrev Baw:Stmt:=top 36
theorem JaC:Jan ["steps","starts","sums","face","lasts","changed","turn","step","total"] ["steps","starts"] (Jae Baw):=by bv_decide
def JbX (K:W.Frag) (Ad:Adr):Sp:=fun vs H Q E=>∃ (sL fL:Addr) (sx:List V) (ss:List SpS) (fs:List Str),vs=[.ref sL, .ref fL]/\SqL K H sL sx/\All2 (SOS K Ad H) ss sx/\SqL K H fL (fs.map V.str)/\fs.length<=8/\ss.length<=112/\(∀ s∈ss,s.src∈fs)/\(∀ ld kv P H',Same H H'->H ld=none->H' ld=some (.dK kv)->DV (SOS K Ad H) P kv->P=(bfR ss (ss.length+1) (bf0 fs)).P->BE ss fs P->(∃ π,Pot π ss)->Q (.ref ld) H')/\∀ (l dx:Addr) (xs:List V) (R:List SpS) (H':Hp),Same H H'->H l=none->H' l=some (.lst xs)->H dx=none->H' dx=some (.xd [("around", .ref l)])->(¬ ∃ π,Pot π ss)->RgD ss fs R->All2 (CV H') (R.map fun s=>(s.nm,s.fw)) xs->E (.ref Ad.Impossible) (some dx) H'
theorem Jec (F:FunD K "last_steps" "last_steps" Baw dV f fd) (T:Txt K mg Ad) (Ba1:Cal P w K mg base 1 "ring_behind" ["lasts","face"] [] (JbH K Ad)) (k_Impossible:XCal P w K mg base 1 "Impossible" Ad.Impossible Ad.SlackError ["self","words","around"] (JaV K Ad)):FnOk P w K mg base (CX1 P w) 3 f fd ["steps","starts"] (JbX K Ad):=by
 refine F.okx JaC (fun vs H Q E h=>?_) (fun d6 A c8 s H vs Q E hr h=>?_)
 ·obtain ⟨sL,fL,sx,ss,fs,rfl,_⟩:=h;rfl
 obtain ⟨sL,fL,sx,ss,fs,rfl,h⟩:=h;have C:=hr.units;refine ⟨_,(Jab (Jaj (i:=2) JaC.nd rfl (Or.inl rfl) Jbx)
   (Jab (Jbc PassesOwn.leaving rfl (pi_U (pv 1)) (Jat (i:=3) JaC.nd rfl (Or.inl rfl))
   (Jah (Jbt (hu1 C) (pv 2) (pv 3) Jad rfl)))
   (Jab (Jaj (i:=4) JaC.nd rfl (Or.inl rfl) Jbx)
   (Jab (Jaj (i:=5) JaC.nd rfl (Or.inl rfl) JaQ)
   (Jab (Jbc PassesOwn.leaving rfl (Jdp rfl T.BbQ (Jaa (pe_op Ja1 (Jav JaM rfl T.Bbp JbJ (Jaa (pv 0) Jag)) Jad) Jag)) (Jat (i:=6) JaC.nd rfl (Or.inl rfl))
   (Jab (Jaj (i:=5) JaC.nd rfl (Or.inl rfl) JaQ)
   (Jab (Jbc PassesOwn.leaving rfl (pi_U (pv 0)) (Jat (i:=7) JaC.nd rfl (Or.inl rfl))
   (Jah (ps_if (JdR (Ji7 (hu1 C) (Jax (pv 7) rfl) (pv 2)) (by with_unfolding_all rfl))
   (Jab (Jaj (i:=8) JaC.nd rfl (Or.inl rfl) (pe_op Ja1 (Jbd (hu1 C) (pv 2) (Jax (pv 7) rfl) (fun _ _=>rfl)) (Jax (pv 7) rfl)))
   (Jah (ps_if (PW.pt (pw_or (JdR (JcF (hu1 C) (Jax (pv 7) rfl) (pv 2)) (by with_unfolding_all rfl)) (JbA (Jaq Jdo (pv 8) (Jbd (hu1 C) (pv 2) (Jax (pv 7) rfl) (fun _ _=>rfl)) (Jar _)))))
   (Jab (Jbt (hu1 C) (pv 2) (Jax (pv 7) rfl) (pv 8) rfl)
   (Jab (Jbt (hu1 C) (pv 4) (Jax (pv 7) rfl) (pv 7) rfl)
   (Jah (Jaj (i:=5) JaC.nd rfl (Or.inl rfl) (Jax (pv 7) rfl)))))
   Jas)))
   Jas)))
   (Jah (ps_if (Jaq Jbm (pv 5) JaQ (Jar _))
   (Jah (Jao (pv 4)))
   Jas)))))
   (Jah (JhO (k_Impossible.ev hr ⋯ rfl pass1 (Jaa Jco (Jaa (Ba1.ev hr ⋯ rfl pass1 (Jaa (pv 4) (Jaa (pv 5) Jag)) (he:=by exact Jai rfl)) Jag)))))))))),?_⟩
 clear C;obtain ⟨hS,hX,hF,l8,c7,b9,k,kE⟩:=h;have sl:(100000:Nat)<=sizeLine:=by decide
 have lX:=hX.length;have q:=T.c_Step Ad.Step rfl;show tSeq _ _ _ [some (.ref sL),some (.ref fL),none,none,none,none,none,none,none] H;and_intros;rename_i B Y d2 H H1 S1 e1;and_intros;refine ⟨fL,rfl,ForA.byLN (xs:=fs.map V.str) (hF.same S1) (fun i σ L=>i<=fs.length/\∃ (v3:Option V) (r:List (Key × V)),σ=[some (.ref sL),some (.ref fL),some (.ref B),v3,none,none,none,none,none]/\Same H L/\L B=some (.dK r)/\DV RI ((fs.take i).foldl (fun S f=>pu S f 0) []) r/\r.length<=i) ⟨Nat.zero_le _,none,[],rfl,S1,e1,rfl,Nat.le_refl _⟩ (fun i σ L z=>by obtain ⟨_,_,_,_,z,_⟩:=z;exact hF.same z) ?_ ?_⟩
 ·rintro i y σ H2 hy ⟨hi,v3,r,rfl,S2,d,hD,e2⟩ N0 a6;rw [List.getElem?_map] at hy;obtain ⟨f,hf,rfl⟩:=Option.map_eq_some_iff.mp hy;have li:=(List.getElem?_eq_some_iff.mp hf).1;and_intros;refine ⟨B,_,rfl,DPut.k (k:=Sum.inr f) d ∅,?_⟩;generalize u3:upd H2 B _=H3;and_intros;have e3:=putE u3;have c1:DV RI ((fs.take (i+1)).foldl (fun S f=>pu S f 0) []) (putK r (Sum.inr f) (.int 0)):=by
   rw [take_succ,hf,foldl_append];exact DV.put hD rfl
  refine a6 _ _ ⟨li,_,_,rfl,fun c w h=>by rw [<- u3,Jaf (Jac h Y)];exact S2 _ _ h,e3,c1,?_⟩;have l1:=c1.len;have l2:=hD.len;have l3:=JcW (l:=(fs.take i).foldl (fun S f=>pu S f 0) []) (f:=f) (a:=(0:Int));rw [take_succ,hf,foldl_append] at l1;have l4:(putK r (Sum.inr f) (.int 0)).length=(pu ((fs.take i).foldl (fun S f=>pu S f 0) []) f (0:Int)).length:=l1;ac_nf
 ·rintro σ H2 ⟨_,v3,c2,rfl,S2,a5,M,b3⟩;rw [length_map] at b3;rw [take_of_length_le (by rw [length_map];exact Nat.le_refl _)] at M;have M:DV RI (bf0 fs).S c2:=M;have d8:=M.len;and_intros;rename_i J W d1 H2 H3 S3 e3;and_intros;have U:=JaN S2 W;have a1:J≠B:=fun z=>by rw [z,a5] at W;cases W
  and_intros;refine ⟨_, .inl ((hS.same S2).same S3),?_⟩;and_intros;refine ⟨_,rfl,by ac_nf,by ac_nf,?_⟩;refine ForR.byN (fun i σ L=>∃ (v5 v6 v7 v8:Option V) (t:BF) (r x:List (Key × V)),σ=[some (.ref sL),some (.ref fL),some (.ref B),v3,some (.ref J),v5,v6,v7,v8]/\Same H L/\L B=some (.dK r)/\DV RI t.S r/\L J=some (.dK x)/\DV (SOS K Ad H) t.P x/\t=itr ss i (bf0 fs)/\bfR ss (ss.length+1) (bf0 fs)=bfR ss (ss.length+1-i) t/\t.S.length<=8+112*i/\t.P.length<=112*i/\(i≠0->t.ch≠none/\v5=some (chV t.ch))) ⟨_,none,none,none,bf0 fs,c2,[],rfl,S2.trans S3,S3 _ _ a5,M,e3,rfl,rfl,rfl,by ac_nf,by simp [bf0],fun z=>absurd rfl z⟩ ?_ ?_
  ·rintro i σ H4 hi ⟨v5,v6,v7,v8,t,r,x,rfl,S4,d,g,o,m,ht,b2,lS,lP,a9⟩ N0 a6;have e0:i<=ss.length:=by ac_nf
   rw [Int.zero_add];and_intros;refine ⟨sL,rfl,ForA.byLN (xs:=sx) (hS.same S4) (fun j σ L=>j<=sx.length/\∃ (u:BF) (v7 v8:Option V) (r x:List (Key × V)),σ=[some (.ref sL),some (.ref fL),some (.ref B),v3,some (.ref J),some (chV u.ch),some (.int (i:Int)),v7,v8]/\Same H L/\L B=some (.dK r)/\DV RI u.S r/\L J=some (.dK x)/\DV (SOS K Ad H) u.P x/\u=(ss.take j).foldl rlx { t with ch:=none }/\u.S.length<=8+112*i+j/\u.P.length<=112*i+j) ⟨Nat.zero_le _,{ t with ch:=none },v7,v8,r,x,rfl,S4,d,g,o,m,rfl,lS,lP⟩ (fun j σ L z=>by obtain ⟨_,_,_,_,_,_,_,z,_⟩:=z;exact hS.same z) ?_ ?_⟩
   ·clear d g o m lS lP;rintro j y σ H5 a2 ⟨hj,u,v7,v8,r,x,rfl,I,d,g,o,m,C,lS,lP⟩ N1 a0;have lj:=(List.getElem?_eq_some_iff.mp a2).1;obtain ⟨s,b0,p,G,vc,pr,rfl,X,d7,d0⟩:=hX.at_ a2;have D:=I _ _ X;have a4:(ss.take (j+1)).foldl rlx { t with ch:=none }=rlx ((ss.take j).foldl rlx { t with ch:=none }) s:=by rw [take_succ,b0,foldl_append];rfl
    have d9:=g.len;have d5:=m.len;and_intros;refine ⟨p,_,G,_, .str s.src,rfl,D,q.cls,q.n1,rfl,?_⟩;refine ⟨B,_,rfl,DGet.k (k:=Sum.inr s.src) d,?_⟩;cases ea:lk u.S s.src with
    | none=>
     have gn:gains u.S s=none:=by unfold gains;rw [ea]
     rw [g.no ea];try simpa only [Option.isSome_none]
     exact a0 _ _ ⟨lj,u,_,_,r,x,rfl,I,d,g,o,m,by rw [a4, <- C];unfold rlx;rw [gn],by ac_nf,by ac_nf⟩
    | some a=>
     obtain ⟨v,hv,rv⟩:=g.at ea;have rv:v=.int a:=rv;subst rv;rw [hv];try simpa only [y4ey,Option.isSome_some]
     refine ⟨p,_,G,_, .str s.src,rfl,D,q.cls,q.n1,rfl,?_⟩;refine ⟨B, .int a,rfl,by rw [<- hv];exact DGet.k (k:=Sum.inr s.src) d,?_⟩;refine ⟨p,_,G,_, .int s.wh,rfl,D,q.cls,q.n4,rfl,?_⟩;and_intros;refine ⟨p,_,G,_, .str s.tgt,rfl,D,q.cls,q.n2,rfl,?_⟩;refine ⟨B,_,rfl,DGet.k (k:=Sum.inr s.tgt) d,?_⟩;cases eb:lk u.S s.tgt with
     | none=>
      have gn:gains u.S s=some (a+s.wh):=by unfold gains;rw [ea];dsimp only;rw [eb]
      rw [g.no eb];try simpa only [y4ey,Option.isSome_none]
      and_intros;refine ⟨p,_,G,_, .str s.tgt,rfl,D,q.cls,q.n2,rfl,?_⟩;refine ⟨B,_,rfl,DPut.k (k:=Sum.inr s.tgt) d ∅,?_⟩;generalize u7:upd H5 B _=H7;and_intros;have e7:=putE u7;have N:Same H H7:=fun c w h=>by rw [<- u7,Jaf (Jac h Y)];exact I _ _ h
      have p7:H7 p=_:=N _ _ X;have a7:H7 J=some (.dK x):=by rw [<- u7,Jaf a1];exact o
      and_intros;refine ⟨p,_,G,_, .str s.tgt,rfl,p7,q.cls,q.n2,rfl,?_⟩;refine ⟨J,_,rfl,DPut.k (k:=Sum.inr s.tgt) a7 ∅,?_⟩;generalize u8:upd H7 J _=H8;and_intros;have e8:=putE u8;have O:Same H H8:=fun c w h=>by rw [<- u8,Jaf (Jac h U)];exact N _ _ h
      have p8:H8 p=_:=O _ _ X;and_intros;refine ⟨p,_,G,_, .str s.tgt,rfl,p8,q.cls,q.n2,rfl,?_⟩;and_intros;refine a0 _ _ ⟨lj,⟨pu u.S s.tgt (a+s.wh),pu u.P s.tgt s,some s.tgt⟩,_,_,_,_,rfl,O,by rw [<- u8,Jaf (Ne.symm a1)];exact e7,DV.put g rfl,e8,DV.put m (hX.at_ a2 |> fun ⟨s',h1,h2⟩=>by rw [b0] at h1;cases h1;exact h2),?_,by have:=JcW (l:=u.S) (f:=s.tgt) (a:=a+s.wh);show (pu u.S s.tgt (a+s.wh)).length<=_;ac_nf,by have:=JcW (l:=u.P) (f:=s.tgt) (a:=s);show (pu u.P s.tgt s).length<=_;ac_nf⟩;rw [a4, <- C];unfold rlx;rw [gn]
     | some b=>
      obtain ⟨w,hw,b1⟩:=g.at eb;have b1:w=.int b:=b1;subst b1;rw [hw];try simpa only [y4ey,Option.isSome_some]
      refine ⟨p,_,G,_, .str s.tgt,rfl,D,q.cls,q.n2,rfl,?_⟩;refine ⟨B, .int b,rfl,by rw [<- hw];exact DGet.k (k:=Sum.inr s.tgt) d,?_⟩;and_intros;by_cases c:a+s.wh<b
      ·rw [if_pos (by simpa using c)];and_intros;have gn:gains u.S s=some (a+s.wh):=by unfold gains;rw [ea];dsimp only;rw [eb];exact if_pos c
       and_intros;refine ⟨p,_,G,_, .str s.tgt,rfl,D,q.cls,q.n2,rfl,?_⟩;refine ⟨B,_,rfl,DPut.k (k:=Sum.inr s.tgt) d ∅,?_⟩;generalize u7:upd H5 B _=H7;and_intros;have e7:=putE u7;have N:Same H H7:=fun c w h=>by rw [<- u7,Jaf (Jac h Y)];exact I _ _ h
       have p7:H7 p=_:=N _ _ X;have a7:H7 J=some (.dK x):=by rw [<- u7,Jaf a1];exact o
       and_intros;refine ⟨p,_,G,_, .str s.tgt,rfl,p7,q.cls,q.n2,rfl,?_⟩;refine ⟨J,_,rfl,DPut.k (k:=Sum.inr s.tgt) a7 ∅,?_⟩;generalize u8:upd H7 J _=H8;and_intros;have e8:=putE u8;have O:Same H H8:=fun c w h=>by rw [<- u8,Jaf (Jac h U)];exact N _ _ h
       have p8:H8 p=_:=O _ _ X;and_intros;refine ⟨p,_,G,_, .str s.tgt,rfl,p8,q.cls,q.n2,rfl,?_⟩;and_intros;refine a0 _ _ ⟨lj,⟨pu u.S s.tgt (a+s.wh),pu u.P s.tgt s,some s.tgt⟩,_,_,_,_,rfl,O,by rw [<- u8,Jaf (Ne.symm a1)];exact e7,DV.put g rfl,e8,DV.put m (hX.at_ a2 |> fun ⟨s',h1,h2⟩=>by rw [b0] at h1;cases h1;exact h2),?_,by have:=JcW (l:=u.S) (f:=s.tgt) (a:=a+s.wh);show (pu u.S s.tgt (a+s.wh)).length<=_;ac_nf,by have:=JcW (l:=u.P) (f:=s.tgt) (a:=s);show (pu u.P s.tgt s).length<=_;ac_nf⟩;rw [a4, <- C];unfold rlx;rw [gn]
      ·rw [if_neg (by simpa using c)];and_intros;have gn:gains u.S s=none:=by unfold gains;rw [ea];dsimp only;rw [eb];exact if_neg c
       and_intros;exact a0 _ _ ⟨lj,u,_,_,r,x,rfl,I,d,g,o,m,by rw [a4, <- C];unfold rlx;rw [gn],by ac_nf,by ac_nf⟩
   ·clear d g o m lS lP;rintro σ H5 ⟨hj,u,v7,v8,r,x,rfl,I,d,g,o,m,C,lS,lP⟩;rw [take_of_length_le ∅] at C;have b8:trn ss t=u:=C.symm;have Z:u=itr ss (i+1) (bf0 fs):=by rw [<- b8,ht];rfl
    have b4:bfR ss (ss.length+1-i) t=if u.ch=none then u else bfR ss (ss.length-i) u:=by
     rw [show ss.length+1-i=(ss.length-i)+1 by ac_nf,bfR,b8]
    and_intros;cases ec:u.ch with
    | none=>
     try simpa only [chV]
     obtain ⟨π,hp⟩:=JiB (n:=i) b9 (by rw [<- Z];exact ec);refine k J x u.P H5 I U o m (by rw [b2,b4,if_pos ec]) ?_ ⟨π,hp⟩;rw [Z];exact BE.of hp (by rw [<- Z];exact ec)
    | some f=>
     try simpa only [chV]
     exact a6 _ _ ⟨_,_,_,_,u,r,x,rfl,I,d,g,o,m,Z,by rw [b2,b4,if_neg (by rw [ec];simp)];congr 1;ac_nf,by ac_nf,by ac_nf,fun _=>⟨by rw [ec];simp,by rw [ec];rfl⟩⟩
  ·rintro σ H4 ⟨v5,v6,v7,v8,t,r,x,rfl,S4,d,g,o,m,ht,b2,lS,lP,a9⟩;rw [show ((sx.length:Int)+1).toNat=ss.length+1 by ac_nf] at ht a9;obtain ⟨h1,rfl⟩:=a9 ∅;obtain ⟨f,hf⟩:∃ f,t.ch=some f:=by
    cases e:t.ch with
    | none=>exact absurd e h1
    | some f=>exact ⟨f,rfl⟩
   have np:¬ ∃ π,Pot π ss:=fun ⟨π,hp⟩=>h1 (by
    rw [ht];show (ss.foldl rlx { itr ss ss.length (bf0 fs) with ch:=none }).ch=none;rw [Jhd ss { itr ss ss.length (bf0 fs) with ch:=none } (Jil hp)])
   obtain ⟨c,hC,_⟩:=Cg.itr (ss:=ss) (fs:=fs) (ss.length+1);rw [<- ht] at hC;have hB:=BX.itr (ss:=ss) (fs:=fs) (ss.length+1);rw [<- ht] at hB;rw [hf];simp only [chV]
   (try ((with_reducible refine Nxt.go (by assumption) ?_);and_intros))
   and_intros;refine ⟨J,f,x,ss,t,c,rfl,o,m.mono fun _ _ z=>z.same S4,hC,hC.ch f hf,fun v s h=>⟨(hB.st v s h).1,(hB.st v s h).2.1⟩,c7,fun l xs R H5 I d3 e5 c9 c5=>?_⟩;refine ⟨by show 2<=sizeLine;ac_nf,fun ex a8=>?_⟩;obtain ⟨fI,d4,_,_,hI,_⟩:=k_Impossible.ex;have b7:=JaN I a8;have c0:=JaN S4 b7;refine ⟨ex,_,l,xs,_,fI,rfl,Jam,hI,SqL.of (by rw [Jaf (Jac e5 a8)];exact e5),fun l2 G H6 ho a3 e6 c3 b6 c4 c6=>⟨rfl,ex,_,_,fI,some G,rfl,c4,hI,c0,?_⟩⟩;have b5:l2≠ex:=fun z=>by rw [z,Jam] at a3;cases a3
   rw [Jaf b5] at a3;rw [Jaf b6] at c3;have S6:∀ b u,H5 b=some u->unt H6 ex b=some u:=fun b u h=>by
    have hb:=Jac h a8;rw [Jcp hb];exact ho b u hb (by rw [Jaf hb];exact h)
   refine kE l2 G xs R (unt H6 ex) (fun b u h=>S6 _ _ (I _ _ (S4 _ _ h))) (JaN S4 (JaN I a3)) (by rw [Jcp b5];exact e6) (JaN S4 (JaN I c3)) (by rw [Jcp b6];exact c6) np ⟨f,by rw [<- ht];exact hf,by rw [<- ht];exact c9⟩ (c5.mono ?_);rintro a v ⟨b,rfl,h⟩;exact ⟨b,rfl,S6 _ _ h⟩
abbrev Bar:Stmt:=top 37
theorem Jay:Jan ["steps","starts","lasts","told","face","missing","at","step","ahead"] ["steps","starts"] (Jae Bar):=by bv_decide
def JbD (K:W.Frag) (Ad:Adr):Sp:=fun vs H Q E=>∃ (sL fL:Addr) (sx:List V) (ss:List SpS) (fs:List Str),vs=[.ref sL, .ref fL]/\SqL K H sL sx/\All2 (SOS K Ad H) ss sx/\SqL K H fL (fs.map V.str)/\fs.length<=8/\ss.length<=112/\(∀ s∈ss,s.src∈fs)/\(∀ s∈ss,FB 200 11 s.cost)/\(∀ (td:Addr) (kt:List (Key × V)) (tb:List (Str × ((Int × Int) × List SpS))) (P:LasD) (H':Hp),Same H H'->H td=none->H' td=some (.dK kt)->DV (RT K H H') tb kt->P=(bfR ss (ss.length+1) (bf0 fs)).P->BE ss fs P->(∀ v,(∃ e,lk tb v=some e)↔(v∈fs\/∃ s,lk P v=some s))->TBk P fs tb->(∃ π,Pot π ss)->Q (.ref td) H')/\∀ (l dx:Addr) (xs:List V) (R:List SpS) (H':Hp),Same H H'->H l=none->H' l=some (.lst xs)->H dx=none->H' dx=some (.xd [("around", .ref l)])->(¬ ∃ π,Pot π ss)->RgD ss fs R->All2 (CV H') (R.map fun s=>(s.nm,s.fw)) xs->E (.ref Ad.Impossible) (some dx) H'
theorem Jdy (F:FunD K "chains_from" "chains_from" Bar dV f fd) (T:Txt K mg Ad) (Bbc:Cal P w K mg base 3 "last_steps" ["steps","starts"] [] (JbX K Ad)) (BbC:Cal P w K mg base 2 "plus" ["one","other"] [] (Jet K)):FnOk P w K mg base (CX1 P w) 4 f fd ["steps","starts"] (JbD K Ad):=by
 refine F.okx Jay (fun vs H Q E h=>?_) (fun l5 A i0 s H vs Q E hr h=>?_)
 ·obtain ⟨sL,fL,sx,ss,fs,rfl,_⟩:=h;rfl
 obtain ⟨sL,fL,sx,ss,fs,rfl,h⟩:=h;have hu:=hr.units;refine ⟨_,(Jab (Jaj (i:=2) Jay.nd rfl (Or.inl rfl) (Bbc.ev hr ⋯ rfl pass1 (Jaa (pv 0) (Jaa (pv 1) Jag)) (he:=by exact Jai rfl)))
   (Jab (Jaj (i:=3) Jay.nd rfl (Or.inl rfl) Jbx)
   (Jab (Jbc PassesOwn.leaving rfl (pi_U (pv 1)) (Jat (i:=4) Jay.nd rfl (Or.inl rfl))
   (Jah (ps_if (JdR (JcF (hu1 hu) (pv 4) (pv 2)) (by with_unfolding_all rfl))
   (Jah (Jbt (hu1 hu) (pv 3) (pv 4) (JaR (Jaa (Jeh (v:=.ref _) rfl T.Bb0 T.Bb1) (Jaa (Jbs Jag) Jag))) rfl))
   Jas)))
   (Jab (Jbc PassesOwn.leaving rfl (JhH (pv 2)) (Jat (i:=4) Jay.nd rfl (Or.inl rfl))
   (Jab (Jaj (i:=5) Jay.nd rfl (Or.inl rfl) (Jbs Jag))
   (Jab (Jaj (i:=6) Jay.nd rfl (Or.inl rfl) (pv 4))
   (Jab (JcH PassesOwn.leaving (JdR (JcF (hu1 hu) (pv 6) (pv 3)) (by with_unfolding_all rfl))
   (Jab (Ja6 (pe_bm PySem.F.plainAttrs_list PySem.F.slot_list_append PySem.F.type_list_append Ja3 (pv 5) (Jaa (Jbd (hu1 hu) (pv 2) (pv 6) (fun _ _=>rfl)) Jag) (hs:=by exact Jai rfl)))
   (Jah (Jaj (i:=6) Jay.nd rfl (Or.inl rfl) (Jax (Jbd (hu1 hu) (pv 2) (pv 6) (fun _ _=>rfl)) rfl)))))
   (Jah (Jbc PassesOwn.leaving rfl (Jiz (K:=K) rfl rfl rfl T.n_reversed Jda (pv 5)) (Jat (i:=7) Jay.nd rfl (Or.inl rfl))
   (Jab (Jaj (i:=8) Jay.nd rfl (Or.inl rfl) (Jbd (hu1 hu) (pv 3) (Jax (pv 7) rfl) (fun _ _=>rfl)))
   (Jah (Jbt (hu1 hu) (pv 3) (Jax (pv 7) rfl) (JaR (Jaa (BbC.ev hr ⋯ rfl pass1 (Jaa (pe_ix ix_U (pv 8) Jad (fun _ _=>rfl)) (Jaa (Jax (pv 7) rfl) Jag)) (he:=by exact Jai rfl)) (Jaa (pe_op Ja1 (pe_ix ix_U (pv 8) Jad (fun _ _=>rfl)) (Jbs (Jaa (Jax (pv 7) rfl) Jag))) Jag))) rfl)))))))))
   (Jah (Jao (pv 3))))))),?_⟩
 clear hu;obtain ⟨hS,hX,hF,l8,h7,f1,f6,k,kE⟩:=h;have sl:(100000:Nat)<=sizeLine:=by decide
 have tc:=T.c_Step Ad.Step rfl;show tSeq _ _ _ [some (.ref sL),some (.ref fL),none,none,none,none,none,none,none] H;and_intros;refine ⟨sL,fL,sx,ss,fs,rfl,hS,hX,hF,l8,h7,f1,fun O kv P H1 S1 h0 e1 hD hP hB hp=>?_,kE⟩;have c2:=hB;obtain ⟨S,r,b1,b2,b3,b5⟩:=hB.ex;and_intros;rename_i C W k6 H1 H2 S2 e2;and_intros;have d5:C≠O:=fun z=>by rw [z,e1] at W;cases W
 and_intros;have c5:=JaN S1 W;refine ⟨fL,rfl,ForA.byLN (xs:=fs.map V.str) ((hF.same S1).same S2) (fun i σ G=>i<=fs.length/\∃ (v4:Option V) (I:List (Key × V)) (n:List (Str × ((Int × Int) × List SpS))),σ=[some (.ref sL),some (.ref fL),some (.ref O),some (.ref C),v4,none,none,none,none]/\Same H1 G/\G C=some (.dK I)/\DV (RT K H G) n I/\TBk P fs n/\∀ f∈fs.take i,lk P f=none->∃ e,lk n f=some e) ⟨Nat.zero_le _,none,[],[],rfl,S2,e2,rfl,TBk.nil,fun f hf=>by simp at hf⟩ (fun i σ G z=>by obtain ⟨_,_,_,_,_,z,_⟩:=z;exact (hF.same S1).same z) ?_ ?_⟩
 ·rintro i y σ H3 hy ⟨hi,v4,I,n,rfl,S3,a2,hT,a7,a6⟩ N0 b8;rw [List.getElem?_map] at hy;obtain ⟨f,hf,rfl⟩:=Option.map_eq_some_iff.mp hy;have li:=(List.getElem?_eq_some_iff.mp hf).1;have g0:fs.take (i+1)=fs.take i++[f]:=by rw [take_succ,hf];rfl
  have j2:=c2.tb_len a7;have h5:=hT.len;and_intros;refine ⟨O,_,rfl,DGet.k (k:=Sum.inr f) (S3 _ _ e1),?_⟩;cases ef:lk P f with
  | some s=>
   rw [(hD.at ef).choose_spec.1];try simpa only [Option.isSome_some]
   refine b8 _ _ ⟨li,_,I,n,rfl,S3,a2,hT,a7,fun g hg hn=>?_⟩;rw [g0] at hg;rcases mem_append.mp hg with hg | hg
   ·exact a6 g hg hn
   ·rw [mem_singleton.mp hg,ef] at hn;cases hn
  | none=>
   rw [hD.no ef];try simpa only [Option.isSome_none]
   refine ⟨len0,?_⟩;rename_i el a3 k4 H3 H4 S4 e4;and_intros;refine ⟨len2,?_⟩;rename_i tp c7 l0 H4 H5 S5 e5;and_intros;and_intros;have d:=S5 _ _ (S4 _ _ a2);refine ⟨C,_,rfl,DPut.k (k:=Sum.inr f) d ∅,?_⟩;generalize u6:upd H5 C _=H6;and_intros;have e6:=putE u6;have j1:el≠C:=fun z=>by rw [z,a2] at a3;cases a3
   have d0:tp≠C:=fun z=>by rw [z,S4 _ _ a2] at c7;cases c7
   have i4:RT K H H6 (((0:Int),(1:Int)),([]:List SpS)) (.ref tp):=⟨tp, .ref Ad.ZERO,el,[],rfl,SqT.of (by rw [<- u6,Jaf d0];exact e5),⟨Ad.ZERO,rfl,T.BbV _⟩,by rw [<- u6,Jaf j1];exact S5 _ _ e4,rfl,JaN S1 (JaN S3 a3)⟩;refine b8 _ _ ⟨li,_,_,pu n f ((0,1),[]),rfl,fun c w h=>by rw [<- u6,Jaf (Jac h W)];exact S5 _ _ (S4 _ _ (S3 _ _ h)),e6,(hT.mono fun _ _ z=>(z.same (S4.trans S5)).putL u6 d).put i4,a7.one (List.mem_of_getElem? hf) ef,fun g hg hn=>?_⟩;rw [g0] at hg;rcases mem_append.mp hg with hg | hg
   ·exact TBk.keep (a6 g hg hn)
   ·rw [mem_singleton.mp hg];exact ⟨_,JaO⟩
 ·rintro σ H3 ⟨_,v4,I,n,rfl,S3,a2,hT,a7,a6⟩;rw [take_of_length_le (by rw [length_map];exact Nat.le_refl _)] at a6;have ht:C≠O:=d5;and_intros;refine ⟨O,kv,P.map (·.1),rfl,S3 _ _ e1,hD.keys,fun od=>?_⟩;generalize uf:upd H3 O _=H4;and_intros;have ef:H4 O=some (.frz od (.dK kv)):=by rw [<- uf];exact Jam
  have h6:Same H H4:=fun c w h=>by rw [<- uf,Jaf (Jac h h0)];exact S3 _ _ (S1 _ _ h)
  have f3:H4 C=some (.dK I):=by rw [<- uf,Jaf d5];exact a2
  refine ForJ.keys (fun i σ G=>∃ (v4 v5 v6 v7 v8:Option V) (I:List (Key × V)) (n:List (Str × ((Int × Int) × List SpS))),σ=[some (.ref sL),some (.ref fL),some (.ref O),some (.ref C),v4,v5,v6,v7,v8]/\Same H G/\G O=some (.frz od (.dK kv))/\G C=some (.dK I)/\DV (RT K H G) n I/\TBk P fs n/\(∀ f∈fs,lk P f=none->∃ e,lk n f=some e)/\(∀ j z,j<i->(P.map (·.1))[j]?=some z->∃ e,lk n z=some e)) ⟨v4,none,none,none,none,I,_,rfl,h6,ef,f3,hT.mono fun _ _ z=>z.putL uf (S3 _ _ e1),a7,a6,fun j z hj=>absurd hj (Nat.not_lt_zero _)⟩ (fun i σ G z=>by obtain ⟨_,_,_,_,_,_,_,_,_,z,_⟩:=z;exact z) ?_ ?_
  ·rintro i z σ H5 hz ⟨v4,v5,v6,v7,v8,I,n,rfl,S5,c3,d,M,Z,Y,a5⟩ N0 b8;and_intros;refine ⟨len0,?_⟩;rename_i ml D k3 H5 H6 S6 e6;and_intros;have l4:ml≠O:=fun q=>by rw [q,c3] at D;cases D
   have g7:ml≠C:=fun q=>by rw [q,d] at D;cases D
   have k7:=JaN S5 D;have i9:∃ s,lk P z=some s:=JeL (List.mem_of_getElem? hz);have g6:∃ b,lk S z=some b:=by
    obtain ⟨s,hs⟩:=i9;obtain ⟨_,_,_,a,_,k2⟩:=b3 z s hs;exact ⟨_,k2⟩
   and_intros;refine ⟨fun m σ G=>∃ (q:Str) (L:List SpS) (mx:List V),σ=[some (.ref sL),some (.ref fL),some (.ref O),some (.ref C),some (.str z),some (.ref ml),some (.str q),v7,v8]/\Same H5 G/\G ml=some (.lst mx)/\All2 (SOS K Ad H) L mx/\Lnk P q L.reverse/\lnkE q L.reverse=z/\(∃ b,lk S q=some b)/\r q=m/\(L.map (·.tgt)).Nodup/\(∀ x∈L.map (·.tgt),r q<r x)/\(∀ x∈L,x∈ss),⟨_,z,[],[],rfl,S6,e6,rfl,trivial,rfl,g6,rfl, .nil,(fun x u=>by cases u),fun x u=>by cases u⟩,?_⟩;rintro m σ H7 ⟨q,L,mx,rfl,S7,R,c4,f4,e3,j5,rfl,d9,f0,c8⟩;have c1:=S7 _ _ c3;have X:=S7 _ _ d;and_intros;refine ⟨C,_,rfl,DGet.k (k:=Sum.inr q) X,?_⟩;cases eq_:lk n q with
   | none=>
    rw [M.no eq_];try simpa only [Option.isSome_none]
    obtain ⟨bq,j3⟩:=j5;obtain ⟨s,hs⟩:∃ s,lk P q=some s:=by
     cases e:lk P q with
     | some s=>exact ⟨s,rfl⟩
     | none=>
      obtain ⟨e',f2⟩:=Y q (b2 q bq j3 e).1 e;rw [eq_] at f2;cases f2
    obtain ⟨i8,c0,f9,sa,i6,l3⟩:=b3 q s hs;obtain ⟨v,hv,f8⟩:=hD.at hs;obtain ⟨p,dx,vc,pr,rfl,a1,f5,a4⟩:=id f8;have l2:L.length<=112:=by
     have:=sub_len (L.map (·.tgt)) (ss.map (·.tgt)) d9 fun x u=>by
      obtain ⟨y,hy,rfl⟩:=mem_map.mp u;exact mem_map.mpr ⟨y,c8 y hy,rfl⟩
     rw [length_map,length_map] at this;ac_nf
    have g5:=c4.length;refine ⟨_,fun _ _ h=>h,?_⟩;and_intros;refine ⟨.inl ⟨rfl,_,SqL.of R⟩,?_⟩;refine ⟨O, .ref p,rfl,by rw [<- hv];exact DGet.f (k:=Sum.inr q) c1,?_⟩;refine ⟨ml,mx,_,rfl,rfl,R,by ac_nf,?_⟩;generalize u8:upd H7 ml _=H8;and_intros;have e8:=putE u8;have T8:SameT H7 H8:=SameT.put u8 R rfl;have S8:Same H5 H8:=fun c w h=>by rw [<- u8,Jaf (Jac h D)];exact S7 _ _ h
    have b4:=S8 _ _ c3;and_intros;refine ⟨O, .ref p,rfl,by rw [<- hv];exact DGet.f (k:=Sum.inr q) b4,?_⟩;refine ⟨p,_,dx,_, .str s.src,rfl,S8 _ _ (S5 _ _ a1),tc.cls,tc.n1,rfl,?_⟩;and_intros;refine ⟨r s.src,f9,s.src,L++[s],mx++[.ref p],rfl,S8,e8,c4.append (.one f8),by rw [List.reverse_append];exact f4.add hs c0,by rw [List.reverse_append];exact (Jf9 c0).trans e3,⟨sa,i6⟩,rfl,?_,fun x u=>?_,fun x u=>?_⟩
    ·rw [map_append];refine nodup_append.mpr ⟨d9,by simp,fun x u y hy e=>?_⟩;have hy:y=s.tgt:=by simpa using hy
     have:=f0 x u;rw [e,hy,c0] at this;ac_nf
    ·rw [map_append] at u;rcases mem_append.mp u with u | u
     ·have:=f0 x u;ac_nf
     ·have u:x=s.tgt:=by simpa using u
      rw [u,c0];exact f9
    ·rcases mem_append.mp u with u | u
     ·exact c8 x u
     ·rw [mem_singleton.mp u];exact i8
   | some e=>
    rw [(M.at eq_).choose_spec.1];try simpa only [Option.isSome_some]
    (try ((with_reducible refine Nxt.go (by assumption) ?_);and_intros))
    have g5:=c4.length;refine ⟨ml,mx,rfl,SqL.of R,ForJ.rev (fun j σ G=>∃ (v7 v8:Option V) (I:List (Key × V)) (n:List (Str × ((Int × Int) × List SpS))) (y:Str),σ=[some (.ref sL),some (.ref fL),some (.ref O),some (.ref C),some (.str z),some (.ref ml),some (.str q),v7,v8]/\Same H G/\G O=some (.frz od (.dK kv))/\G ml=some (.lst mx)/\G C=some (.dK I)/\DV (RT K H G) n I/\TBk P fs n/\(∀ f∈fs,lk P f=none->∃ e,lk n f=some e)/\(∀ j z,j<i->(P.map (·.1))[j]?=some z->∃ e,lk n z=some e)/\(∃ e,lk n y=some e)/\Lnk P y (L.reverse.drop j)/\lnkE y (L.reverse.drop j)=z) ⟨v7,v8,I,n,q,rfl,S5.trans S7,c1,R,X,M.mono fun _ _ z=>z.same S7,Z,Y,a5,⟨e,eq_⟩,f4,e3⟩ (fun j σ G z=>by obtain ⟨_,_,_,_,_,_,_,_,z,_⟩:=z;exact SqL.of z) ?_ ?_⟩
    ·clear X d M Z Y a5 eq_ c1 R;rintro j x σ H8 hj u ⟨v7,v8,I,n,y,rfl,S8,b4,f7,B,a8,b0,d1,d4,⟨e,b6⟩,d7,N⟩ N1 i5;obtain ⟨s,hs,sv⟩:=c4.at_ u;have j4:L.reverse[j]?=some s:=by rw [List.getElem?_reverse ∅,show L.length=mx.length by ac_nf];exact hs
     have i3:L.reverse.drop j=s::L.reverse.drop (j+1):=by
      obtain ⟨h1,h2⟩:=List.getElem?_eq_some_iff.mp j4;rw [<- h2];exact List.drop_eq_getElem_cons h1
     rw [i3] at d7 N;obtain ⟨rfl,g9,j8⟩:=d7;have i2:=c8 s (List.mem_of_getElem? hs);obtain ⟨p,dx,vc,pr,rfl,a1,f5,a4⟩:=sv.same S8;obtain ⟨v,hv,g3⟩:=a8.at b6;obtain ⟨w,qv,l,xs,rfl,hw,j9,hl,e7,_⟩:=id g3;obtain ⟨h3,i1,h9⟩:=b0.en _ _ b6;obtain ⟨j0,k9,_⟩:=c2.chn h3 i1;have a9:=cs_fb fun s hs=>f6 s (j0 s hs);rw [<- h9] at a9;have b9:=f6 s i2;have j2:=c2.tb_len b0;have h5:=a8.len;have h8:=e7.length;rw [length_map] at h8;and_intros;refine ⟨p,_,dx,_, .str s.src,rfl,a1,tc.cls,tc.n1,rfl,?_⟩;refine ⟨C, .ref w,rfl,by rw [<- hv];exact DGet.k (k:=Sum.inr s.src) B,?_⟩;and_intros;refine ixT (i:=0) hw rfl ?_;refine ⟨p,_,dx,_,vc,rfl,a1,tc.cls,tc.n3,rfl,?_⟩;and_intros;refine ⟨qv,vc,e.1.1,e.1.2,s.cost.1,s.cost.2,rfl,j9,f5,a9.s1.mono ∅,a9.s2.mono ∅,b9.s1.mono ∅,b9.s2.mono ∅,a9.b1,b9.b1,a9.g1,b9.g1,fun ap H9 S9 e9=>?_⟩;and_intros;refine ixT (i:=1) (hw.same S9) rfl ?_;refine ⟨p,_,dx,_, .ref pr,rfl,S9 _ _ a1,tc.cls,tc.n5,rfl,?_⟩;refine ⟨by show 1<=sizeLine;ac_nf,?_⟩;rename_i ol k8 l1 H9 i7 a0 g8;and_intros;refine .inl ⟨l,ol,xs,[.ref pr],rfl,rfl,a0 _ _ (S9 _ _ hl),g8,by simp;ac_nf,?_⟩;rename_i nl b7 k5 i7 k0 d2 j7;and_intros;refine ⟨len2,?_⟩;rename_i np c6 k1 k0 e0 d3 g4;and_intros;have o:=S9.trans (a0.trans (d2.trans d3));and_intros;refine ⟨p,_,dx,_, .str s.tgt,rfl,o _ _ a1,tc.cls,tc.n2,rfl,?_⟩;have U:=o _ _ B;refine ⟨C,_,rfl,DPut.k (k:=Sum.inr s.tgt) U ∅,?_⟩;generalize J:upd e0 C _=c9;and_intros;have j6:=putE J;have g2:SameT e0 c9:=SameT.put J U rfl;have h4:nl≠C:=fun z=>by rw [z,a0 _ _ (S9 _ _ B)] at b7;cases b7
     have d0:np≠C:=fun z=>by rw [z,d2 _ _ (a0 _ _ (S9 _ _ B))] at c6;cases c6
     have d8:RT K H c9 (addF e.1 s.cost,e.2++[s]) (.ref np):=by
      refine ⟨np, .ref ap,nl,xs++[.ref pr],rfl,SqT.of (by rw [<- J,Jaf d0];exact g4),⟨ap,rfl,SqT.sameT g2 (SqT.of (d3 _ _ (d2 _ _ (a0 _ _ e9))))⟩,by rw [<- J,Jaf h4];exact d3 _ _ j7,?_,JaN S8 (JaN S9 (JaN a0 b7))⟩;rw [map_append];exact (e7.mono (P':=CV c9) fun _ _ z=>z.sameT (o.t.trans g2)).append (.one ⟨pr,rfl,by rw [<- J,Jaf (ne_of a4 B (by intro z;cases z))];exact o _ _ a4⟩)
     exact i5 _ _ ⟨_,_,_,pu n s.tgt (addF e.1 s.cost,e.2++[s]),s.tgt,rfl,fun c w h=>by rw [<- J,Jaf (Jac h c5)];exact o _ _ (S8 _ _ h),by rw [<- J,Jaf (Ne.symm d5)];exact o _ _ b4,by rw [<- J,Jaf g7];exact o _ _ f7,j6,(a8.mono fun _ _ z=>(z.same o).putL J U).put d8,b0.put b6 g9,fun f hf hn=>TBk.keep (d1 f hf hn),fun j z hj hz=>TBk.keep (d4 j z hj hz),⟨_,JaO⟩,j8,N⟩
    ·clear X d M Z Y a5 eq_ c1 R;rintro σ H8 ⟨v7,v8,I,n,y,rfl,S8,b4,f7,B,a8,b0,d1,d4,b6,d7,N⟩;rw [List.drop_of_length_le (by rw [List.length_reverse];ac_nf)] at N;have N:y=z:=N;subst N;refine b8 _ _ ⟨_,_,_,_,_,I,n,rfl,S8,b4,B,a8,b0,d1,fun j z hj d6=>?_⟩;by_cases c:j<i
     ·exact d4 j z c d6
     ·have : j=i:=by ac_nf
      subst this;rw [hz] at d6;cases d6;exact b6
  ·rintro σ H5 ⟨v4,v5,v6,v7,v8,I,n,rfl,S5,c3,d,M,Z,Y,a5⟩;and_intros;refine k C I n P H5 S5 c5 d M hP c2 (fun v=>⟨fun ⟨e,he⟩=>(Z.en v e he).1,fun hv=>?_⟩) Z hp;cases hn:lk P v with
   | none=>exact Y v (hv.resolve_right fun ⟨s,hs⟩=>by rw [hn] at hs;cases hs) hn
   | some s=>
    have hs:=hn;obtain ⟨j,hj⟩:=List.getElem?_of_mem (Jf8 hs);exact a5 j v (List.getElem?_eq_some_iff.mp hj).1 hj
abbrev BaN:Stmt:=top 31
theorem Jcu:Jan ["ties","found","tie"] ["ties"] (Jae BaN):=by bv_decide
def Jcv (K:W.Frag) (Ad:Adr):Sp:=fun vs H Q E=>∃ (a:Addr) (xs:List V) (ts:List TD) (F:List Str),vs=[.ref a]/\SqL K H a xs/\All2 (OV K Ad H) ts xs/\ts.length<=56/\F.length<=8/\(∀ t∈ts,t.st∈F/\t.en∈F)/\∀ p out H',Same H H'->H p=none->H' p=some (.lst (out.map V.str))->JbN ts out->Q (.ref p) H'
theorem Jfs (F:FunD K "faces_of" "faces_of" BaN dV f fd) (T:Txt K mg Ad)  : FnOk P w K mg base (CX1 P w) 1 f fd ["ties"] (Jcv K Ad):=by
 refine F.okn Jcu (by subst_eqs) (fun a4 A N s H vs Q E hr h=>?_)
 obtain ⟨a,xs,ts,F,rfl,h⟩:=h;have Z:=hr.units;refine ⟨_,(Jab (Jaj (i:=1) Jcu.nd rfl (Or.inl rfl) Jbx)
   (Jab (Jbc PassesOwn.never rfl (pi_U (pv 0)) (Jat (i:=2) Jcu.nd rfl (Or.inl rfl))
   (Jab (Jbt (hu1 Z) (pv 1) (Jax (pv 2) rfl) pe_bl rfl)
   (Jah (Jbt (hu1 Z) (pv 1) (Jax (pv 2) rfl) pe_bl rfl))))
   (Jah (Jao (Jav (JdG rfl) rfl T.BbD Jdb (Jaa (pv 1) Jag)))))),?_⟩
 clear Z;obtain ⟨hS,hR,hl,a5,m,k⟩:=h;show tSeq _ _ _ [some (.ref a),none,none] H;try infer_instance
 rename_i d r a3 H H1 S1 e1;have sl:(1000:Nat)<=sizeLine:=by decide
 have lx:=hR.length;refine ⟨a,rfl,ForA.byL (xs:=xs) (hS.same S1) (fun i σ J=>i<=xs.length/\∃ (U:Option V) (b:List (Key × V)) (c:List Str),σ=[some (.ref a),some (.ref d),U]/\Same H J/\J d=some (.dK b)/\b.map (·.1)=c.map Sum.inr/\c.Nodup/\c.length<=2*i/\∀ z,z∈c↔∃ t∈ts.take i,z=t.st\/z=t.en) ⟨Nat.zero_le _,none,[],[],rfl,S1,e1,rfl,by simp,by simp,by simp⟩ (fun i σ J z=>by obtain ⟨_,_,_,_,_,z,_⟩:=z;exact hS.same z) ?_ ?_⟩
 ·rintro i x σ H2 hx ⟨hi,U,b,c,rfl,v,B,D,I,M,n⟩;have li:i<xs.length:=(List.getElem?_eq_some_iff.mp hx).1;obtain ⟨t,y,ov⟩:=hR.at_ hx;obtain ⟨C,vl,vg,⟨p,dx,rfl,hp⟩,hC,a2,a6⟩:=ov.same v;have G:=T.tie C hC;contradiction;refine ⟨p,C,dx,_, .str t.st,rfl,hp,G.cls,G.n2,rfl,?_⟩;try contradiction
  have lk:b.length=c.length:=by simpa using congrArg List.length D
  refine ⟨d,_,rfl,DPut.k (k:=Sum.inr t.st) B ∅,?_⟩;generalize W:upd H2 d _=H3;have e3:=putE W;have L:=putN W B hp (by intro z;cases z);try contradiction
  refine ⟨p,C,dx,_, .str t.en,rfl,L,G.cls,G.n3,rfl,?_⟩;try contradiction
  have q:=Jf7 D t.st (.bl true);have a1:(putK b (Sum.inr t.st) (V.bl true)).length=(addS c t.st).length:=by simpa using congrArg List.length q
  have la:=JfR c t.st;have lb:=JfR (addS c t.st) t.en;refine ⟨d,_,rfl,DPut.k (k:=Sum.inr t.en) e3 ∅,?_⟩;generalize u4:upd H3 d _=H4;have e4:=putE u4;have S:=Jf7 q t.en (.bl true);refine ⟨li,_,_,addS (addS c t.st) t.en,rfl,fun bb u O=>?_,e4,S,JgO _ (JgO _ I),by ac_nf,fun z=>?_⟩
  ·rw [<- u4,Jaf (Jac O r), <- W,Jaf (Jac O r)];exact v _ _ O
  ·rw [JfS,JfS,n,take_succ,y];simp only [mem_append,Option.toList_some,mem_singleton];constructor
   ·rintro ((⟨Y,X,g⟩ | h) | h)
    ·exact ⟨Y, .inl X,g⟩
    ·exact ⟨t, .inr rfl, .inl h⟩
    ·exact ⟨t, .inr rfl, .inr h⟩
   ·rintro ⟨Y,X | rfl,g⟩
    ·exact .inl (.inl ⟨Y,X,g⟩)
    ·rcases g with g | g
     ·exact .inl (.inr g)
     ·exact .inr g
 ·rintro σ H2 ⟨hi,U,b,c,rfl,v,B,D,I,M,n⟩;try infer_instance
  rw [take_of_length_le ∅] at n;have l8:=sub_len c F I fun z hz=>by
   obtain ⟨t,y,h | h⟩:=(n z).mp hz
   ·rw [h];exact (m t y).1
   ·rw [h];exact (m t y).2
  refine ⟨d,b,c,rfl,B,D,by ac_nf,fun l a0 j R=>?_⟩;have hH:H l=none:=by
   cases e:H l with
   | none=>rfl
   | some o=>rw [v _ _ e] at j;cases j
  refine k l a0 _ (v.trans (newS j rfl)) hH (newE rfl) ⟨R.1.nodup_iff.mpr I,R.2,fun z=>?_⟩;rw [R.1.mem_iff,n]
abbrev BaE:Stmt:=inClass (top 40) 1
theorem Je0:Jan ["self"] ["self"] (Jae BaE):=by bv_decide
def Jbl (K:W.Frag) (Ad:Adr):Sp:=fun vs H Q E=>∃ (p d:Addr) (ts:List TD),vs=[.ref p]/\BK K Ad H p d ts/\∀ l ys H',Same H H'->H l=none->H' l=some (.lst ys)->All2 (OV K Ad H') ts ys->Q (.ref l) H'
theorem JeP (F:FunD K "kept" "Book.kept" BaE dV f fd) (T:Txt K mg Ad)  : FnOk P w K mg base (CX1 P w) 1 f fd ["self"] (Jbl K Ad):=by
 refine F.okn Je0 (by subst_eqs) (fun o A c s H v Q E x h=>?_)
 obtain ⟨p,d,i,rfl,h⟩:=h;refine ⟨_,(Jah (Jao (JjP rfl rfl rfl T.Bbu Jb3 (Jax (pv 0) rfl)))),?_⟩;obtain ⟨⟨⟨u,m⟩,a,j,t⟩,k⟩:=h;have g:=T.book Ad.Book rfl;show tRet _ _ [some (.ref p)] H;try contradiction
 refine ⟨p,_,u,_, .ref d,rfl,m,g.cls,g.n1,rfl,?_⟩;try contradiction
 refine ⟨d,a,rfl,j,?_⟩;rename_i l b q H n e r;exact k l _ n e b r (t.2.mono fun _ _ z=>z.same e)
abbrev BaF:Stmt:=inClass (top 40) 2
theorem Je1:Jan ["self"] ["self"] (Jae BaF):=by bv_decide
def Jb8 (K:W.Frag) (Ad:Adr):Sp:=fun vs H Q E=>∃ (p d:Addr) (ts:List TD),vs=[.ref p]/\BK K Ad H p d ts/\ts.length<=56/\∀ l ys H',Same H H'->H l=none->H' l=some (.lst ys)->All2 (TV K H') ts ys->Q (.ref l) H'
theorem JeR (F:FunD K "ties" "Book.ties" BaF dV f fd) (T:Txt K mg Ad) (m_kept:MCal P w K mg base 1 "kept" (Jbq Ad) ["self"] (Jbl K Ad)) (BbU:MCal P w K mg base 1 "plain" (IsTie Ad) ["self"] (Jb9 K Ad)):FnOk P w K mg base (CX1 P w) 2 f fd ["self"] (Jb8 K Ad):=by
 refine F.okn Je1 (by subst_eqs) (fun a0 A v s H vs Q E N h=>?_)
 obtain ⟨p,d,n,rfl,h⟩:=h;refine ⟨_,(Jah (Jao (Jcs (own:=["tie"]) (cs:=[]) (cl:=[]) rfl (pi_U (m_kept.m0 N ⋯ passF (pv 0))) (fun _ _ _ _=>(Jat (i:=0) (show [("tie" : Str)].Nodup by decide) rfl (Or.inl rfl))) (fun _ _ _ _=>(BbU.m0 N ⋯ passF (pv 0))) rfl ⋯ rfl ⋯ hcl0 (hhas0 ⋯) hcs0))),?_⟩;obtain ⟨O,hl,k⟩:=h;obtain ⟨⟨dx,W⟩,_⟩:=id O;have sl:(1000:Nat)<=sizeLine:=by decide
 show tRet _ _ [some (.ref p)] H;try infer_instance
 refine ⟨p,_,dx,_,rfl,W,rfl,rfl,?_⟩;try try infer_instance
 refine ⟨p,d,n,rfl,O,fun l J H1 B V L D=>?_⟩;try try infer_instance
 have ly:=D.length;refine ⟨l,rfl, .inl ⟨⟨J,SqL.of L⟩,CompJ.list (xs:=J) (fun i c m=>Same H1 m/\All2 (TV K m) (n.take i) c) ⟨.refl _,rfl⟩ (fun i c H' hi z=>⟨SqL.of (z.1 _ _ L),by have:=z.2.length;rw [length_take] at this;ac_nf⟩) ?_ ?_⟩⟩
 ·rintro i y c m S ⟨j,a⟩;simpa only [length_singleton,List.replicate,JaB,map_cons,map_nil,Option.join_some];obtain ⟨t,U,ov⟩:=D.at_ S;obtain ⟨C,vl,I,M,G,Y,R⟩:=ov.same j;obtain ⟨q,dq,rfl,X⟩:=id M;refine ⟨q,C,dq,_,rfl,X,G,rfl,?_⟩;refine ⟨_,C,_,_,_,vl,I,rfl,M,G,fun r x b u=>?_⟩;refine ⟨j.trans b,?_⟩;rw [take_succ,U];exact (a.mono (P':=TV K x) fun _ _ z=>z.sameT b.t).append (.one ⟨r,vl,I,rfl,SqT.of u,Y.sameT b.t,R.sameT b.t⟩)
 ·rintro c m ⟨j,a⟩;rw [take_of_length_le ∅] at a;rename_i r g a1 m x b u;have Z:H r=none:=by
   cases e:H r with
   | none=>rfl
   | some o=>rw [j _ _ (B _ _ e)] at g;cases g
  exact k r c x (B.trans (j.trans b)) Z u (a.mono fun _ _ z=>z.sameT b.t)
abbrev Bax:Stmt:=inClass (top 40) 3
theorem Jem:Jan ["self"] ["self"] (Jae Bax):=by bv_decide
def JbV (K:W.Frag) (Ad:Adr):Sp:=fun vs H Q E=>∃ (p d:Addr) (ts:List TD) (F:List Str),vs=[.ref p]/\BK K Ad H p d ts/\ts.length<=56/\F.length<=8/\(∀ t∈ts,t.st∈F/\t.en∈F)/\∀ l out H',Same H H'->H l=none->H' l=some (.lst (out.map V.str))->JbN ts out->Q (.ref l) H'
theorem Jea (F:FunD K "faces" "Book.faces" Bax dV f fd) (T:Txt K mg Ad) (m_kept:MCal P w K mg base 1 "kept" (Jbq Ad) ["self"] (Jbl K Ad)) (Bbs:Cal P w K mg base 1 "faces_of" ["ties"] [] (Jcv K Ad)):FnOk P w K mg base (CX1 P w) 2 f fd ["self"] (JbV K Ad):=by
 refine F.okn Jem (by subst_eqs) (fun B A g s H I Q E n h=>?_)
 obtain ⟨p,d,b,F,rfl,h⟩:=h;refine ⟨_,(Jah (Jao (Bbs.ev n ⋯ rfl passF (Jaa (m_kept.m0 n ⋯ passF (pv 0)) Jag) (he:=by exact Jai rfl)))),?_⟩;obtain ⟨r,L,i,a,k⟩:=h;obtain ⟨⟨G,x⟩,_⟩:=id r;show tRet _ _ [some (.ref p)] H;try infer_instance
 refine ⟨p,_,G,_,rfl,x,rfl,rfl,?_⟩;try try infer_instance
 refine ⟨p,d,b,rfl,r,fun l z N j v C u=>?_⟩;try try infer_instance
 refine ⟨l,z,b,F,rfl,SqL.of C,u,L,i,a,fun q c J D m t y=>?_⟩;have M:H q=none:=by
  cases e:H q with
  | none=>rfl
  | some o=>rw [j _ _ e] at m;cases m
 exact k q c J (j.trans D) M t y
abbrev Bak:Stmt:=inClass (top 40) 0
theorem Jbn:Jan ["self","ties","row","tie"] ["self","ties"] (Jae Bak):=by bv_decide
def Jbo (K:W.Frag) (Ad:Adr):Sp:=fun vs H Q E=>∃ (x dx a:Addr) (xs:List V) (ts:List TD) (H0:Hp),vs=[.ref x, .ref a]/\H x=some (.ins Ad.Book dx [])/\H0 x=none/\Same H0 H/\SqL K H0 a xs/\All2 (TV K H0) ts xs/\(∀ t∈ts,TOk t)/\(nms ts).Nodup/\ts.length<=56/\∀ d H',Same H0 H'->H0 d=none->BK K Ad H' x d ts->Q .non H'
theorem Jc0 (F:FunD K "__init__" "Book.__init__" Bak dV f fd) (T:Txt K mg Ad) (BbH:Cal P w K mg base 6 "tie_of" ["thing"] [] (Jdt K Ad)):FnOk P w K mg base (CX1 P w) 7 f fd ["self","ties"] (Jbo K Ad):=by
 refine F.okn Jbn (by subst_eqs) (fun a9 A a3 s H vs Q E hr h=>?_)
 obtain ⟨x,l,a,xs,g,S,rfl,h⟩:=h;have hu:=hr.units;refine ⟨_,(Jab (Jby (pv 0) Jbx rfl)
   (Jah (Jbc PassesOwn.never rfl (pi_U (pv 1)) (Jat (i:=2) Jbn.nd rfl (Or.inl rfl))
   (Jab (Jaj (i:=3) Jbn.nd rfl (Or.inl rfl) (BbH.ev hr ⋯ rfl passF (Jaa (pv 2) Jag) (he:=by exact Jai rfl)))
   (Jab (ps_if (JdR (Ji7 (hu1 hu) (Jax (pv 3) rfl) (Jax (pv 0) rfl)) (by with_unfolding_all rfl))
   (Jah ps_no)
   Jas)
   (Jah (Jbt (hu1 hu) (Jax (pv 0) rfl) (Jax (pv 3) rfl) (pv 3) rfl))))))),?_⟩
 clear hu;obtain ⟨hx,Y,S0,hS,hE,hT,a1,hl,k⟩:=h;have p:=T.book Ad.Book rfl;have sl:(1000:Nat)<=sizeLine:=by decide
 have le:=hE.length;show tSeq _ _ _ [some (.ref x),some (.ref a),none,none] H;symm_saturate;rename_i d M a8 H H1 S1 e1;symm_saturate;refine ⟨x,_,l,_,rfl,S1 _ _ hx,p.cls,p.n1,by simp,?_⟩;generalize u2:upd H1 x _=H2;symm_saturate;have e2:H2 x=some (.ins Ad.Book l [("by_name", .ref d)]):=by rw [<- u2];exact Jam.trans rfl
 have D:x≠d:=fun z=>by rw [z,M] at hx;cases hx
 have a2:H2 d=some (.dK []):=by rw [<- u2,Jaf (Ne.symm D)];exact e1
 have C:S d=none:=JaN S0 M;have L:Same S H2:=fun b u h=>by rw [<- u2,Jaf (Jac h Y)];exact S1 _ _ (S0 _ _ h)
 symm_saturate;refine ⟨a,rfl,ForA.byLN (xs:=xs) (hS.same L) (fun i σ B=>i<=xs.length/\∃ (v2 v3:Option V) (e:List (Key × V)),σ=[some (.ref x),some (.ref a),v2,v3]/\Same S B/\B x=some (.ins Ad.Book l [("by_name", .ref d)])/\B d=some (.dK e)/\BD (OV K Ad B) (g.take i) e) ⟨Nat.zero_le _,none,none,[],rfl,L,e2,a2,by rw [take_zero];exact ⟨rfl,rfl⟩⟩ (fun i σ B z=>by obtain ⟨_,_,_,_,_,z,_⟩:=z;exact hS.same z) ?_ ?_⟩
 ·rintro i y σ H3 hy ⟨hi,v2,v3,e,rfl,R,e3,n,I⟩ N0 a0;have li:i<xs.length:=(List.getElem?_eq_some_iff.mp hy).1;obtain ⟨t,Z,a5⟩:=hE.at_ hy;have ok:=hT t (List.mem_of_getElem? Z);have v:=a5.sameT R.t;have a6:=I.length;rw [length_take] at a6;try simpa only [y4ey,y8by]
  refine ⟨y,tdD t,rfl,v.rep,ok.sz,fun z=>absurd z (by rw [ok.tie];simp),fun _=>?_⟩;obtain ⟨b,vl,vg,rfl,hq,J,O⟩:=v;refine ⟨b,_,_,_,_,_,_,_,_,_,_,rfl,hq,rfl,J.rep,O.rep,fun w U o tv=>?_⟩;have ov:OV K Ad U t w:=⟨_,vl,vg,tv,Jhm Ad _ _,J.sameT o.t,O.sameT o.t⟩;obtain ⟨q,dq,rfl,r⟩:=id tv;have W:=T.tie _ (Jhm Ad (bD t.lo) (bD t.hi));have j:=o _ _ e3;have m:=o _ _ n;have N:=I.mono (P':=OV K Ad U) fun _ _ z=>z.same o
  (try ((with_reducible refine Nxt.go (by assumption) ?_);symm_saturate))
  try simpa only [y4ey,y8by]
  refine ⟨q,_,dq,_, .str t.nm,rfl,r,W.cls,W.n1,rfl,?_⟩;refine ⟨x,_,l,_, .ref d,rfl,j,p.cls,p.n1,rfl,?_⟩;refine ⟨d,_,rfl,DGet.k (k:=Sum.inr t.nm) m,?_⟩;rw [N.val];have a7:g.take (i+1)=g.take i++[t]:=by rw [take_succ,Z];rfl
  have c:t.nm∉nms (g.take i):=fun z=>by
   have e0:g=g.take i++t::g.drop (i+1):=by
    obtain ⟨h1,h2⟩:=List.getElem?_eq_some_iff.mp Z;rw [<- h2, <- List.drop_eq_getElem_cons h1,List.take_append_drop]
   have nd:=a1;unfold nms at nd z;rw [e0,map_append,map_cons] at nd;exact (nodup_append.mp nd).2.2 _ z _ mem_cons_self rfl
  rw [decide_eq_false c];try simpa only [y4ey,y8by]
  (try ((with_reducible refine Nxt.go (by assumption) ?_);symm_saturate))
  try simpa only [y4ey,y8by]
  refine ⟨x,_,l,_, .ref d,rfl,j,p.cls,p.n1,rfl,?_⟩;refine ⟨q,_,dq,_, .str t.nm,rfl,r,W.cls,W.n1,rfl,?_⟩;refine ⟨d,_,rfl,DPut.k (k:=Sum.inr t.nm) m ∅,?_⟩;generalize u5:upd U d _=H5;symm_saturate;have e5:=putE u5;have X:Sx d U H5:=fun b u hb h=>by rw [<- u5,Jaf hb];exact h
  have a4:putT (g.take i) t=g.take i++[t]:=by unfold putT;rw [if_neg c]
  have G:=(N.put ov).mono (P':=OV K Ad H5) fun _ _ z=>z.sx X m;rw [a4, <- a7] at G;exact a0 _ _ ⟨li,_,_,_,rfl,fun b u h=>X b u (Jac h C) (o _ _ (R _ _ h)),X _ _ D j,e5,G⟩
 ·rintro σ H3 ⟨hi,v2,v3,e,rfl,R,e3,n,I⟩;rw [take_of_length_le ∅] at I;try simpa only [y4ey,y8by]
  exact k d H3 R C ⟨⟨l,e3⟩,e,n,I⟩
abbrev BaG:Stmt:=top 39
theorem JbB:Jan ["steps","faces","told","places","face"] ["steps","faces"] (Jae BaG):=by bv_decide
def Jcd (K:W.Frag) (Ad:Adr):Sp:=fun vs H Q E=>∃ (sL fL:Addr) (ts:List TD) (F:List Str) (fs:List Str),vs=[.ref sL, .ref fL]/\STp K Ad H ts sL/\BkH ts F/\SqL K H fL (fs.map V.str)/\fs.length<=8/\(∀ s∈Ch.all ts,s.src∈fs)/\(∀ (pd:Addr) (kp:List (Key × V)) (tb:Tab) (pb:List (Str × (Int × Int))) (H':Hp),Same H H'->H pd=none->H' pd=some (.dK kp)->DV (RF K H') pb kp->(pb.map (·.1)).Nodup->TTd ts fs tb->(∀ v,lk pb v=(lk tb v).map (·.1))->(∃ π,Pot π (ssD ts))->Q (.ref pd) H')/\∀ (l dx:Addr) (xs:List V) (R:List SpS) (H':Hp),Same H H'->H l=none->H' l=some (.lst xs)->H dx=none->H' dx=some (.xd [("around", .ref l)])->(¬ ∃ π,Pot π (ssD ts))->RgD (ssD ts) fs R->All2 (CV H') (R.map fun s=>(s.nm,s.fw)) xs->E (.ref Ad.Impossible) (some dx) H'
theorem JeW (F:FunD K "places_of" "places_of" BaG dV f fd) (T:Txt K mg Ad) (Ba2:Cal P w K mg base 4 "chains_from" ["steps","starts"] [] (JbD K Ad)):FnOk P w K mg base (CX1 P w) 5 f fd ["steps","faces"] (Jcd K Ad):=by
 refine F.okx JbB (fun vs H Q E h=>?_) (fun b6 A a5 s H vs Q E hr h=>?_)
 ·obtain ⟨sL,fL,U,F,fs,rfl,_⟩:=h;rfl
 obtain ⟨sL,fL,U,F,fs,rfl,h⟩:=h;have hu:=hr.units;refine ⟨_,(Jab (Jaj (i:=2) JbB.nd rfl (Or.inl rfl) (Ba2.ev hr ⋯ rfl pass1 (Jaa (pv 0) (Jaa (pv 1) Jag)) (he:=by exact Jai rfl)))
   (Jab (Jaj (i:=3) JbB.nd rfl (Or.inl rfl) Jbx)
   (Jab (Jbc PassesOwn.leaving rfl (JhH (pv 2)) (Jat (i:=4) JbB.nd rfl (Or.inl rfl))
   (Jah (Jbt (hu1 hu) (pv 3) (pv 4) (pe_ix ix_U (Jbd (hu1 hu) (pv 2) (pv 4) (fun _ _=>rfl)) Jad (fun _ _=>rfl)) rfl)))
   (Jah (Jao (pv 3)))))),?_⟩
 clear hu;obtain ⟨a2,hg,hF,l8,S,k,kE⟩:=h;obtain ⟨⟨sx,hS,hX⟩,a3,a4⟩:=a2;have sl:(1000:Nat)<=sizeLine:=by decide
 have b0:(ssD U).length<=112:=by unfold ssD;rw [length_map];exact hg.l112
 show tSeq _ _ _ [some (.ref sL),some (.ref fL),none,none,none] H;nofun;refine ⟨sL,fL,sx,ssD U,fs,rfl,hS,hX,hF,l8,b0,Jj2 S,fun s hs=>?_,fun D O o P H1 S1 h0 G hT hP hB hi hk N=>?_,kE⟩
 ·obtain ⟨s',a7,rfl⟩:=mem_map.mp hs;exact hg.fb s' a7
 have hP:P=lsD U fs:=hP;subst hP;have a1:TTd U fs o:=⟨a3,a4,hk,hi,hB⟩;have b7:=hB.tb_len hk
 (try ((with_reducible refine Nxt.go (by assumption) ?_);nofun))
 nofun;rename_i x g b3 H1 H2 S2 M;nofun;have R:x≠D:=fun z=>by rw [z,G] at g;cases g
 (try ((with_reducible refine Nxt.go (by assumption) ?_);nofun))
 nofun;refine ⟨D,O,o.map (·.1),rfl,S2 _ _ G,hT.keys,fun od=>?_⟩;generalize uf:upd H2 D _=Z;nofun;have ef:Z D=some (.frz od (.dK O)):=by rw [<- uf];exact Jam
 have a6:Same H Z:=fun c w h=>by rw [<- uf,Jaf (Jac h h0)];exact S2 _ _ (S1 _ _ h)
 have b1:Z x=some (.dK []):=by rw [<- uf,Jaf R];exact M
 have b2:DV (RT K H Z) o O:=(hT.mono fun _ _ z=>z.same S2).mono fun _ _ z=>z.putL uf (S2 _ _ G);have r:=JaN S1 g;refine ForJ.keys (fun i σ J=>i<=o.length/\∃ (v4:Option V) (Y:List (Key × V)) (d:List (Str × (Int × Int))),σ=[some (.ref sL),some (.ref fL),some (.ref D),some (.ref x),v4]/\Same H J/\J D=some (.frz od (.dK O))/\DV (RT K H J) o O/\J x=some (.dK Y)/\DV (RF K J) d Y/\(d.map (·.1)).Nodup/\d.length<=i/\(∀ v e,lk d v=some e->∃ I,lk o v=some I/\I.1=e)/\∀ j z,j<i->(o.map (·.1))[j]?=some z->∃ e,lk d z=some e) ⟨Nat.zero_le _,none,[],[],rfl,a6,ef,b2,b1,rfl,by simp,Nat.le_refl _,(fun v e h=>by cases h),fun j z X=>absurd X (Nat.not_lt_zero _)⟩ (fun i σ J z=>by obtain ⟨_,_,_,_,_,_,z,_⟩:=z;exact z) ?_ ?_
 ·rintro i z σ H4 hz ⟨a9,v4,Y,d,rfl,S4,t,C,b,m,B,a8,n,u⟩ N0 a0;have li:=(List.getElem?_eq_some_iff.mp hz).1;rw [length_map] at li;obtain ⟨e,he⟩:=JeL (List.mem_of_getElem? hz);obtain ⟨v,hv,p,qv,l,xs,rfl,hp,hq,hl,b5,hf⟩:=C.at he;have b4:=m.len;nofun;refine ⟨D, .ref p,rfl,by rw [<- hv];exact DGet.f (k:=Sum.inr z) t,?_⟩;nofun;refine ixT (i:=0) hp rfl ?_;nofun;refine ⟨x,_,rfl,DPut.k (k:=Sum.inr z) b ∅,?_⟩;generalize L:upd H4 x _=H5;nofun;have e5:=putE L;have T5:SameT H4 H5:=SameT.put L b rfl;refine a0 _ _ ⟨li,_,_,pu d z e.1,rfl,fun c w h=>by rw [<- L,Jaf (Jac h r)];exact S4 _ _ h,by rw [<- L,Jaf (Ne.symm R)];exact t,C.mono (fun _ _ z=>z.putL L b),e5,(m.mono (R':=RF K H5) fun _ _ z=>FrV.sameT T5 z).put (FrV.sameT T5 hq),pu_nd B,by have:=JcW (l:=d) (f:=z) (a:=e.1);ac_nf,fun v I h=>?_,fun j y X hy=>?_⟩
  ·rw [lk_pu] at h;by_cases c:z=v
   ·rw [if_pos c] at h;cases h;exact ⟨e,by rw [<- c];exact he,rfl⟩
   ·rw [if_neg c] at h;exact n v I h
  ·rw [lk_pu];by_cases c:z=y
   ·exact ⟨_,if_pos c⟩
   ·rw [if_neg c];nofun;refine u j y ?_ hy;have : j≠i:=fun q=>by
     rw [q,hz] at hy;cases hy;exact c rfl
    ac_nf
 ·rintro σ H4 ⟨a9,v4,Y,d,rfl,S4,t,C,b,m,B,a8,n,u⟩;nofun;refine k x Y o d H4 S4 r b m B a1 (fun v=>?_) N;cases G:lk o v with
  | none=>
   cases M:lk d v with
   | none=>rfl
   | some e=>
    obtain ⟨I,h,_⟩:=n v e M;rw [G] at h;cases h
  | some e=>
   obtain ⟨j,X⟩:=List.getElem?_of_mem (Jf8 G);obtain ⟨M,W⟩:=u j v (List.getElem?_eq_some_iff.mp X).1 X;obtain ⟨I,h,q⟩:=n v M W;rw [G] at h;cases h;rw [W, <- q];rfl
abbrev Bao:Stmt:=inClass (top 40) 7
theorem Jb6:Jan ["self","places"] ["self"] (Jae Bao):=by bv_decide
def Ja0 (K:W.Frag) (Ad:Adr):Sp:=fun vs H Q E=>∃ (p d:Addr) (ts:List TD) (F:List Str),vs=[.ref p]/\BK K Ad H p d ts/\BkH ts F/\(∀ (l:Addr) (ys:List V) (out:List Str) (tb:Tab) (H':Hp),Same H H'->H l=none->H' l=some (.lst ys)->JbN ts out->TTd ts out tb->All2 (QV K H') (out.map fun v=>(v,plD tb v)) ys->(∃ π,Pot π (ssD ts))->Q (.ref l) H')/\∀ (l dx:Addr) (xs:List V) (R:List SpS) (H':Hp),Same H H'->H l=none->H' l=some (.lst xs)->H dx=none->H' dx=some (.xd [("around", .ref l)])->(¬ ∃ π,Pot π (ssD ts))->(∃ out,JbN ts out/\RgD (ssD ts) out R)->All2 (CV H') (R.map fun s=>(s.nm,s.fw)) xs->E (.ref Ad.Impossible) (some dx) H'
theorem Jdl (F:FunD K "placing" "Book.placing" Bao dV f fd) (T:Txt K mg Ad) (m_kept:MCal P w K mg base 1 "kept" (Jbq Ad) ["self"] (Jbl K Ad)) (m_faces:MCal P w K mg base 2 "faces" (Jbq Ad) ["self"] (JbV K Ad)) (Bbt:Cal P w K mg base 6 "steps_of" ["ties"] [] (JcB K Ad)) (Bbn:Cal P w K mg base 5 "places_of" ["steps","faces"] [] (Jcd K Ad)):FnOk P w K mg base (CX1 P w) 8 f fd ["self"] (Ja0 K Ad):=by
 refine F.okx Jb6 (fun vs H Q E h=>?_) (fun b8 A a6 s H vs Q E W h=>?_)
 ·obtain ⟨p,d,r,F,rfl,_⟩:=h;rfl
 obtain ⟨p,d,r,F,rfl,h⟩:=h;have hu:=W.units;refine ⟨_,(Jab (Jaj (i:=1) Jb6.nd rfl (Or.inr rfl) (Bbn.ev W ⋯ rfl pass1 (Jaa (Bbt.ev W ⋯ rfl pass1 (Jaa (m_kept.m0 W ⋯ pass1 (pv 0)) Jag) (he:=by exact Jai rfl)) (Jaa (m_faces.m0 W ⋯ pass1 (pv 0)) Jag)) (he:=by exact Jai rfl)))
   (Jah (Jao (Jeg (own:=["face"]) (cs:=[(1,"places")]) rfl (pi_U (Jav (JdG rfl) rfl T.BbD Jdb (Jaa (pv 1) Jag))) (fun _ _ _ _=>(Jat (i:=0) (show [("face" : Str),("places" : Str)].Nodup by decide) rfl (Or.inl rfl))) (fun _ _ _ _=>(JaR (Jaa (pv 0) (Jaa (Jbd (hu1 hu) (pv 1) (pv 0) (fun _ _=>rfl)) Jag)))) (Jf4 rfl) ⋯ rfl ⋯
   (hcs1 rfl rfl rfl))))),?_⟩
 clear hu;obtain ⟨hb,g,k,kE⟩:=h;obtain ⟨⟨dx,hp⟩,_⟩:=id hb;have sl:(1000:Nat)<=sizeLine:=by decide
 have c0:(ssD r).length<=112:=by unfold ssD;rw [length_map];exact g.l112
 show tSeq _ _ _ [some (.ref p),none] H;nofun;refine ⟨p,_,dx,_,rfl,hp,rfl,rfl,?_⟩;nofun;refine ⟨p,d,r,rfl,hb,fun l ys H1 S1 b6 e1 hA=>?_⟩;nofun;refine ⟨l,ys,r,rfl,SqL.of e1,hA,g.ok,fun s C=>(g.fb s C).mono ⋯ ⋯,g.l56,fun sL sx b H2 S2 e2 G a5 b7 a2 a8=>?_⟩;have G:b=bD_ r:=G;subst G;have a4:STp K Ad H2 r sL:=⟨⟨sx,SqL.of e2,JhX a8⟩,a5,fun s C=>⟨(g.fb s C).b1,a2 s C⟩⟩;have J:=S1.trans S2;nofun;refine ⟨p,_,dx,_,rfl,J _ _ hp,rfl,rfl,?_⟩;nofun;refine ⟨p,d,r,F,rfl,hb.same J,g.l56,g.f8,g.fm,fun fl c H3 S3 a9 e3 a=>?_⟩;have O:c.length<=8:=by
  have:=sub_len c F a.1 fun z o=>by
   obtain ⟨t,x,h | h⟩:=(a.2.2 z).mp o
   ·rw [h];exact (g.fm t x).1
   ·rw [h];exact (g.fm t x).2
  have:=g.f8;ac_nf
 have n:=J.trans S3;have X:∀ s∈Ch.all r,s.src∈c:=fun s C=>(JeM (F:=c) (fun t x=>⟨(a.2.2 _).mpr ⟨t,x, .inl rfl⟩,(a.2.2 _).mpr ⟨t,x, .inr rfl⟩⟩) s C).1;nofun;refine ⟨sL,fl,r,F,c,rfl,a4.same S3,g,SqL.of e3,O,X,fun pd kp tb M H4 S4 b2 e4 S a1 m I U=>?_,fun l2 a3 xs R H4 S4 h1 h2 h3 h4 h5 h6 h7=>kE l2 a3 xs R H4 (n.trans S4) (JaN n h1) h2 (JaN n h3) h4 h5 ⟨c,a,h6⟩ h7⟩
 (try ((with_reducible refine Nxt.go (by assumption) ?_);nofun))
 nofun;have a0:∀ z,z∈M.map (·.1)↔z∈c:=fun z=>by
  constructor
  ·intro o;obtain ⟨e,he⟩:=JeL o;rw [I z] at he;obtain ⟨e',a7,_⟩:=Option.map_eq_some_iff.mp he;rcases (m.ks z).mp ⟨e',a7⟩ with q | ⟨s,C⟩
   ·exact q
   ·obtain ⟨_,_,_,_,b3,_⟩:=m.be.ex;obtain ⟨m1,m2,_⟩:=b3 z s C;obtain ⟨y,hy,rfl⟩:=mem_map.mp m1;rw [<- m2];exact (JeM (F:=c) (fun t x=>⟨(a.2.2 _).mpr ⟨t,x, .inl rfl⟩,(a.2.2 _).mpr ⟨t,x, .inr rfl⟩⟩) y hy).2
  ·intro o;obtain ⟨e,he⟩:=(m.ks z).mpr (.inl o);have : lk M z=some e.1:=by rw [I z,he];rfl
   exact Jf8 this
 have b9:M.length<=8:=by
  have:=sub_len (M.map (·.1)) c a1 fun z o=>(a0 z).mp o;rw [length_map] at this;ac_nf
 refine ⟨pd,kp,M.map (·.1),rfl,e4,S.keys,by rw [length_map];ac_nf,?_⟩;intro so o2 Y D;generalize B:upd H4 so _=H5;have S5:=newS Y B;have e5:=newE B;have eo:o2=c:=JcJ D.2 a.2.1 (D.1.nodup_iff.mpr a1) a.1 fun z=>by rw [D.1.mem_iff,a0]
 subst eo;refine ⟨so,rfl, .inl ⟨⟨_,SqL.of e5⟩,CompJ.list (xs:=o2.map V.str) (fun j zs H'=>Same H5 H'/\All2 (QV K H') ((o2.take j).map fun v=>(v,plD tb v)) zs) ⟨Same.refl _,by rw [take_zero];exact rfl⟩ (fun j zs H' hj z=>⟨SqL.of (z.1 _ _ e5),by have:=z.2.length;rw [length_map,length_take] at this;ac_nf⟩) ?_ ?_⟩⟩
 ·rintro j y ws H7 hy ⟨L,u⟩;rw [List.getElem?_map] at hy;obtain ⟨z,o,rfl⟩:=Option.map_eq_some_iff.mp hy;obtain ⟨e,he⟩:=(m.ks z).mpr (.inl (List.mem_of_getElem? o));obtain ⟨v,hv,fv⟩:=S.at (show lk M z=some e.1 by rw [I z,he];rfl);simpa only [length_singleton,length_cons,length_nil,List.replicate,JaB,map_cons,map_nil,Option.join_some];refine ⟨pd,v,rfl,by rw [<- hv];exact DGet.k (k:=Sum.inr z) (L _ _ (S5 _ _ e4)),?_⟩;nofun;refine ⟨by show 2<=sizeLine;ac_nf,?_⟩;rename_i np b4 b0 H7 H8 N e8;nofun;refine ⟨L.trans N,?_⟩;rw [take_succ,o,map_append];exact (u.mono (P':=QV K H8) fun _ _ z=>z.sameT N.t).append (.one ⟨np,v,rfl,e8,by
   show FrV K H8 v (plD tb z).1 (plD tb z).2;rw [Jgf he];exact FrV.same (S5.trans (L.trans N)) fv⟩)
 ·rintro zs H7 ⟨L,u⟩;rw [take_of_length_le (by rw [length_map];exact Nat.le_refl _)] at u;rename_i ol Z b5 H7 H8 N e8;nofun;exact k ol zs o2 tb H8 (n.trans (S4.trans (S5.trans (L.trans N)))) (JaN n (JaN S4 (JaN S5 (JaN L Z)))) e8 a m (u.mono fun _ _ z=>z.sameT N.t) U
abbrev BaH:Stmt:=inClass (top 40) 6
theorem JcX:Jan ["self","e"] ["self"] (Jae BaH):=by bv_decide
def Jb7 (K:W.Frag) (Ad:Adr):Sp:=fun vs H Q E=>∃ (p d:Addr) (ts:List TD) (F:List Str),vs=[.ref p]/\BK K Ad H p d ts/\BkH ts F/\(∀ H',Same H H'->(∃ π,Pot π (ssD ts))->Q .non H')/\∀ (l:Addr) (xs:List V) (R:List SpS) (H':Hp),Same H H'->H l=none->H' l=some (.lst xs)->(¬ ∃ π,Pot π (ssD ts))->(∃ out,JbN ts out/\RgD (ssD ts) out R)->All2 (CV H') (R.map fun s=>(s.nm,s.fw)) xs->Q (.ref l) H'
theorem JeQ (F:FunD K "ring" "Book.ring" BaH dV f fd) (T:Txt K mg Ad) (m_placing:MCal P w K mg base 8 "placing" (Jbq Ad) ["self"] (Ja0 K Ad)):FnOk P w K mg base (CX1 P w) 9 f fd ["self"] (Jb7 K Ad):=by
 refine F.okn JcX (by subst_eqs) (fun L A n s H U Q E N h=>?_)
 obtain ⟨p,d,q,F,rfl,h⟩:=h;refine ⟨_,(Jab (Jgh (i:=1) JcX.nd rfl rfl (m_placing.tr0 N ⋯ (pv 0)) rfl T.m_Impossible (fun _=>
   (Jah (Jao (Jgc (K:=K) rfl (pv 1) rfl)))))
   (Jah (Jao JaQ))),?_⟩
 obtain ⟨x,O,k,M⟩:=h;obtain ⟨⟨S,D⟩,_⟩:=id x;show tSeq _ _ _ [some (.ref p),none] H;nofun;refine ⟨p,_,S,_,rfl,D,rfl,rfl,?_⟩;nofun;refine ⟨p,d,q,F,rfl,x,O,fun l ys G Z g m y v Y X W a=>?_,fun l c C R g m y v V r B I J=>?_⟩
 ·nofun;exact k g m a
 ·refine ⟨_,rfl,T.xc,fun j e=>⟨j,_,c,_, .ref l,rfl,Jam,T.xl,by rw [Jaf (Jac r e)];exact r,rfl,?_⟩⟩;have o:Same g (upd g j (ExcO j Ad.Impossible (some c))):=fun b u h=>by rw [Jaf (Jac h e)];exact h
  exact M l C R _ (m.trans o) y (o _ _ v) B I (J.mono fun _ _ z=>z.sameT o.t)
abbrev Bas:Stmt:=top 43
theorem Jbg:Jan ["_law_one","_law_other"] ["_law_one","_law_other"] (Jae Bas):=by bv_decide
def JbF  : Sp:=fun vs H Q E=>∃ (a b:Int),vs=[.int a, .int b]/\Q (.int (Mth.g a b)) H
theorem JdB (F:FunD K "_law_divisor" "_law_divisor" Bas dV f fd) (T:Txt K mg Ad)  : FnOk P w K mg base (CX1 P w) 1 f fd ["_law_one","_law_other"] (JbF):=by
 refine F.okn Jbg (by subst_eqs) (fun o A d s H p Q E t h=>?_)
 obtain ⟨a,b,rfl,h⟩:=h;refine ⟨_,(Jab (Jaj (i:=0) Jbg.nd rfl (Or.inl rfl) (Jav JcC rfl T.BbX JfT (Jaa (pv 0) Jag)))
   (Jab (Jaj (i:=1) Jbg.nd rfl (Or.inl rfl) (Jav JcC rfl T.BbX JfT (Jaa (pv 1) Jag)))
   (Jab (JcH PassesOwn.never (Jaq JeX (pv 1) Jad (Jar _))
   (Jah (JkK (i:=0) (j:=1) rfl Jbg.nd rfl rfl ⋯ rfl rfl (Jaa (pv 1) (Jaa (pe_op JaA (pv 0) (pv 1)) Jag)) rfl)))
   (Jah (Jao (pv 0)))))),?_⟩
 show tSeq _ _ _ [some (.int a),some (.int b)] H;try infer_instance
 refine ⟨fun m σ k=>∃ (x y:Int),σ=[some (.int x),some (.int y)]/\k=H/\0<=x/\0<=y/\Mth.g x y=Mth.g a b/\y.toNat=m,⟨_,_,_,rfl,rfl,Mth.JfQ a,Mth.JfQ b,Mth.Bb5 a b,rfl⟩,?_⟩;rintro m σ k ⟨x,y,rfl,rfl,r,n,l,rfl⟩;try infer_instance
 by_cases c:y=0
 ·subst c;rw [if_neg (by simp)];have e:Mth.g a b=x:=by rw [<- l,Mth.Ji1];ac_nf
  rw [e] at h;exact h
 ·rw [if_pos (by simp;ac_nf)];have f:=Mth.fm (x:=x) (y:=y) ∅;refine ⟨_,fun _ _ q=>q,?_⟩;simp only [tPar,y8ay,y51y,y52y,y53y,y77y,y2by,y72y,y86y,y87y,y48y,y2fy,y7ey,y9by,y31y,y3dy,y78y,y30y,y91y,y23y,y29y,y7fy,y7ay,y2ay,y80y,y7cy,y5fy,y9dy,y26y,y8fy,y76y,y6fy,y4dy,y6ey,y83y,y34y,y4by,y74y,y4cy,y75y,y4ay,y73y,y96y,y69y,y65y,y98y,y9ay,y97y,y99y,y25y,y6dy,y24y,true_and,if_true,if_false,Bool.not_true,Bool.not_false,Bool.false_eq_true,yby,ydy,yay,ycy,yey,y15y,y17y,y14y,y16y,y18y,y6y,y8y,y5y,y7y,y9y,y1y,y3y,y0y,y2y,y4y,y10y,y12y,yfy,y11y,y13y,y1ay,y1cy,y19y,y1by,y1dy,y1fy,y21y,y1ey,y20y,y22y,y8dy,y82y,y79y,y5ay,y5cy,y32y,y33y,y59y,y67y,y68y,y50y,y8ey,y94y,y9ey,y84y,y27y,V.int.injEq,V.str.injEq,List.set_cons_zero,List.set_cons_succ,List.getElem?_cons_zero,List.getElem?_cons_succ,Option.some.injEq,exists_eq_left,exists_eq_left',V.bl.injEq,Int.reduceToNat,Int.reducePow,append_nil,nil_append,cons_append];exact ⟨c,_,_,rfl,(x.fmod y).toNat,by ac_nf,y,x.fmod y,rfl,n,f.1,by rw [Mth.Jhf ∅];exact l,rfl⟩
abbrev Bat:Stmt:=top 42
theorem JdF:Jan ["_law_script","_law_k"] ["_law_script","_law_k"] (Jae Bat):=by bv_decide
def Jbi (K:W.Frag):Sp:=fun vs H Q E=>∃ (a:Addr) (ns:List Int) (k:Int),vs=[.ref a, .int k]/\SqL K H a (ns.map V.int)/\ns.length<=63/\0<=k/\∀ v:Int,Q (.int v) H
theorem JdA (F:FunD K "_law_cell_at" "_law_cell_at" Bat dV f fd) (T:Txt K mg Ad)  : FnOk P w K mg base (CX1 P w) 1 f fd ["_law_script","_law_k"] (Jbi K):=by
 refine F.okn JdF (by subst_eqs) (fun i A b s H j Q E l h=>?_)
 obtain ⟨a,e,k,rfl,h⟩:=h;refine ⟨_,(Jab (ps_if (Jaq Jdo (pv 1) (Jav JaM rfl T.Bbp JbJ (Jaa (pv 0) Jag)) (Jar _))
   (Jah (Jao (pe_ix ix_U (pv 0) (pv 1) (fun _ _=>rfl))))
   Jas)
   (Jah (Jao Jad))),?_⟩
 obtain ⟨d,m,g,q⟩:=h;show tSeq _ _ _ [some (.ref a),some (.int k)] H;try infer_instance
 refine ⟨_, .inl d,?_⟩;simpa only [length_map];obtain ⟨n,rfl⟩:=Int.eq_ofNat_of_zero_le g;by_cases c:n<e.length
 ·rw [if_pos (by simp;ac_nf)];try infer_instance
  exact ixL d (by rw [List.getElem?_map,List.getElem?_eq_getElem c];rfl) (q _)
 ·rw [if_neg (by simp;ac_nf)];try infer_instance
  exact q 0
abbrev Bay:Stmt:=top 44
theorem JcI:Jan ["_law_top","_law_bottom","_law_by"] ["_law_top","_law_bottom"] (Jae Bay):=by bv_decide
def Jbb  : Sp:=fun vs H Q E=>∃ (t b:Int),vs=[.int t, .int b]/\1<=b/\Mth.Sz 8000 b/\∀ p H',Same H H'->H' p=some (.tup [.int (Mth.top t b), .int (Mth.bot t b)])->Q (.ref p) H'
theorem Jed (F:FunD K "_law_lowest" "_law_lowest" Bay dV f fd) (T:Txt K mg Ad) (Ba3:Cal P w K mg base 1 "_law_divisor" ["_law_one","_law_other"] [] (JbF)):FnOk P w K mg base (CX1 P w) 2 f fd ["_law_top","_law_bottom"] (Jbb):=by
 refine F.okn JcI (by subst_eqs) (fun l A c s H o Q E m h=>?_)
 obtain ⟨t,b,rfl,h⟩:=h;refine ⟨_,(Jab (Jaj (i:=2) JcI.nd rfl (Or.inl rfl) (Ba3.ev m ⋯ rfl passF (Jaa (pv 0) (Jaa (pv 1) Jag)) (he:=by exact Jai rfl)))
   (Jah (Jao (JaR (Jaa (pe_op Jau (pv 0) (pv 2)) (Jaa (pe_op Jau (pv 1) (pv 2)) Jag)))))),?_⟩
 obtain ⟨u,q,k⟩:=h;show tSeq _ _ _ [some (.int t),some (.int b),none] H;try infer_instance
 refine ⟨_,_,rfl,?_⟩;try infer_instance
 have r:=Mth.g_pos (a:=t) (b:=b) ∅;have v:=Mth.g_le (a:=t) (b:=b) ∅;have d:DivOk (Mth.g t b):=divOk (n:=8000) ∅ (Nat.lt_of_le_of_lt (by ac_nf:(Mth.g t b).natAbs<=b.natAbs) q);refine ⟨d,d,len2,?_⟩;refine Jfr fun p j S e=>k p j S ?_;rw [e];unfold Mth.top Mth.bot Mth.by_;rw [if_neg ∅]
abbrev BaO:Stmt:=top 45
theorem JfJ:Jan ["_law_one","_law_other"] ["_law_one","_law_other"] (Jae BaO):=by bv_decide
def Jbw (K:W.Frag):Sp:=fun vs H Q E=>∃ (x y:V) (a c:Int × Int),vs=[x,y]/\FrV K H x a.1 a.2/\FrV K H y c.1 c.2/\FW 3000 3000 a/\FW 3000 3000 c/\∀ p H',Same H H'->H' p=some (.tup [.int (addF a c).1, .int (addF a c).2])->Q (.ref p) H'
theorem Jfx (F:FunD K "_law_plus" "_law_plus" BaO dV f fd) (T:Txt K mg Ad) (Bai:Cal P w K mg base 2 "_law_lowest" ["_law_top","_law_bottom"] [] (Jbb)):FnOk P w K mg base (CX1 P w) 3 f fd ["_law_one","_law_other"] (Jbw K):=by
 refine F.okn JfJ (by subst_eqs) (fun m A j s H o Q E n h=>?_)
 obtain ⟨x,y,a,c,rfl,h⟩:=h;refine ⟨_,(Jah (Jao (Bai.ev n ⋯ rfl passF (Jaa (pe_op Ja1 (pe_op JaX (pe_ix ix_U (pv 0) Jad (fun _ _=>rfl)) (pe_ix ix_U (pv 1) Jad (fun _ _=>rfl))) (pe_op JaX (pe_ix ix_U (pv 1) Jad (fun _ _=>rfl)) (pe_ix ix_U (pv 0) Jad (fun _ _=>rfl)))) (Jaa (pe_op JaX (pe_ix ix_U (pv 0) Jad (fun _ _=>rfl)) (pe_ix ix_U (pv 1) Jad (fun _ _=>rfl))) Jag)) (he:=by exact Jai rfl)))),?_⟩;obtain ⟨i,g,b,d,k⟩:=h;show tRet _ _ [some x,some y] H;try infer_instance
 refine ixF0 i (ixF1 g ?_);try infer_instance
 refine ⟨mulOk b.s1 d.s2,ixF0 g (ixF1 i ?_)⟩;try infer_instance
 refine ⟨mulOk d.s1 b.s2,ixF1 i (ixF1 g ?_)⟩;try infer_instance
 refine ⟨mulOk b.s2 d.s2,_,_,rfl,?_,(b.s2.mul d.s2).mono ⋯,fun p l S e=>k p l S e⟩;have:=Int.mul_pos (show 0<a.2 by have:=b.b1;ac_nf) (show 0<c.2 by have:=d.b1;ac_nf);ac_nf
abbrev BaP:Stmt:=top 46
theorem JfI:Jan ["_law_one","_law_other"] ["_law_one","_law_other"] (Jae BaP):=by bv_decide
def Jcz (K:W.Frag):Sp:=fun vs H Q E=>∃ (x y:V) (a c:Int × Int),vs=[x,y]/\FrV K H x a.1 a.2/\FrV K H y c.1 c.2/\FOk 3000 a/\FOk 3000 c/\Q (.bl (lessF a c)) H
theorem Jfw (F:FunD K "_law_less" "_law_less" BaP dV f fd) (T:Txt K mg Ad)  : FnOk P w K mg base (CX1 P w) 1 f fd ["_law_one","_law_other"] (Jcz K):=by
 refine F.okn JfI (by subst_eqs) (fun j A b s H l Q E m h=>?_)
 obtain ⟨x,y,a,c,rfl,h⟩:=h;refine ⟨_,(Jah (Jao (Ja5 Jdo (pe_op JaX (pe_ix ix_U (pv 0) Jad (fun _ _=>rfl)) (pe_ix ix_U (pv 1) Jad (fun _ _=>rfl))) (pe_op JaX (pe_ix ix_U (pv 1) Jad (fun _ _=>rfl)) (pe_ix ix_U (pv 0) Jad (fun _ _=>rfl))) (Jar _)))),?_⟩;obtain ⟨i,g,d,e,k⟩:=h;show tRet _ _ [some x,some y] H;try infer_instance
 refine ixF0 i (ixF1 g ?_);try infer_instance
 refine ⟨mulOk d.s1 e.s2,ixF0 g (ixF1 i ?_)⟩;try infer_instance
 refine ⟨mulOk e.s1 d.s2,?_⟩;exact k
abbrev Baz:Stmt:=top 47
theorem JaS:Jan ["_law_script","_law_faces","_law_places_here","_law_k","_law_cell","_law_mixed","_law_top"] ["_law_script","_law_faces"] (Jae Baz):=by bv_decide
def JbZ (K:W.Frag):Sp:=fun vs H Q E=>∃ (a:Addr) (ns:List Int) (f:Nat),vs=[.ref a, .int (f:Int)]/\SqL K H a (ns.map V.int)/\ns.length<=63/\f<=6/\∀ p ys ls H',H p=none->Same H H'->H' p=some (.lst ys)->All2 (fun (l:Int × Int) x=>FrV K H' x l.1 l.2) ls ys->ls.length=f->(∀ l∈ls,FB 140 3 l)->Q (.ref p) H'
theorem Jef (F:FunD K "_law_places" "_law_places" Baz dV f fd) (T:Txt K mg Ad) (Bae:Cal P w K mg base 1 "_law_cell_at" ["_law_script","_law_k"] [] (Jbi K)) (Bai:Cal P w K mg base 2 "_law_lowest" ["_law_top","_law_bottom"] [] (Jbb)):FnOk P w K mg base (CX1 P w) 3 f fd ["_law_script","_law_faces"] (JbZ K):=by
 refine F.okn JaS (by subst_eqs) (fun a2 A S s H vs Q E W h=>?_)
 obtain ⟨a,ns,f,rfl,h⟩:=h;have Y:=W.units;refine ⟨_,(Jab (Jaj (i:=2) JaS.nd rfl (Or.inl rfl) (Jbs Jag))
   (Jab (Jbc PassesOwn.never rfl (Jdp rfl T.BbQ (Jaa (pv 1) Jag)) (Jat (i:=3) JaS.nd rfl (Or.inl rfl))
   (Jab (Jaj (i:=4) JaS.nd rfl (Or.inl rfl) (Bae.ev W ⋯ rfl passF (Jaa (pv 0) (Jaa (pe_op Ja1 Jad (pv 3)) Jag)) (he:=by exact Jai rfl)))
   (Jab (Jaj (i:=5) JaS.nd rfl (Or.inl rfl) (pe_op Jau (pe_op JaA (pe_op JaX (pv 4) Jad) Jad) Jad))
   (Jab (Jaj (i:=6) JaS.nd rfl (Or.inl rfl) (pe_op Jgb (pe_op JaA (pv 5) Jad) Jad))
   (Jab (ps_if (Jaq (Jbj Y) (pe_op JaA (pe_op Jau (pv 5) Jad) Jad) Jad (Jar _))
   (Jah (Jaj (i:=6) JaS.nd rfl (Or.inl rfl) (pe_op Jgb (pe_op JaA (pv 4) (pe_op JhD Jad Jad)) (pe_op JaX Jad (pe_op JhD Jad Jad)))))
   Jas)
   (Jah (Ja6 (pe_bm PySem.F.plainAttrs_list PySem.F.slot_list_append PySem.F.type_list_append Ja3 (pv 2) (Jaa (Bai.ev W ⋯ rfl passF (Jaa (pv 6) (Jaa (pe_op Ja1 Jad (pe_op JaA (pe_op Jau (pv 5) Jad) Jad)) Jag)) (he:=by exact Jai rfl)) Jag) (hs:=by exact Jai rfl)))))))))
   (Jah (Jao (pv 2))))),?_⟩
 clear Y;obtain ⟨hS,hl,hf,k⟩:=h;show tSeq _ _ _ [some (.ref a),some (.int (f:Int)),none,none,none,none,none] H;try infer_instance
 refine ⟨len0,?_⟩;rename_i o e a0 H H1 S1 e1;have sl:(1000:Nat)<=sizeLine:=by decide
 refine ⟨_,rfl,by ac_nf,by ac_nf,?_⟩;refine ForR.by (fun i σ O=>∃ (L U N J:Option V) (p:List V) (n:List (Int × Int)),σ=[some (.ref a),some (.int (f:Int)),some (.ref o),L,U,N,J]/\Same H O/\O o=some (.lst p)/\All2 (fun (l:Int × Int) x=>FrV K O x l.1 l.2) n p/\n.length=i/\∀ l∈n,FB 140 3 l) ⟨none,none,none,none,[],[],rfl,S1,e1,rfl,rfl,by simp⟩ ?_ ?_
 ·rintro i σ H2 hi ⟨L,U,N,J,p,n,rfl,D,m,v,g,I⟩;have ly:=v.length;try infer_instance
  refine ⟨a,ns,_,rfl,hS.same D,hl,by ac_nf,fun c=>?_⟩;try infer_instance
  repeat (refine And.intro (by first | exact Ja7 ⋯ | exact Jba ⋯ | exact Ja9 ⋯ | exact JaP ⋯ | exact Int.one_ne_zero | decide) ?_)
  generalize a1:((c*69621).fmod 2147483629).fdiv 37=b;have q1:=Mth.fm (x:=b) (y:=61) ⋯;have q2:=Mth.fm (x:=b.fdiv 244) (y:=6) ⋯;have q5:=Mth.fm (x:=c) (y:=10000000000000000000000000000000000000000) ⋯;by_cases Z:(b.fdiv 61).fmod 4=1
  ·rw [if_pos (by simpa using Z)];try infer_instance
   repeat (refine And.intro (by first | exact Ja7 ⋯ | exact Jba ⋯ | exact Ja9 ⋯ | exact JaP ⋯ | exact Int.one_ne_zero | decide) ?_)
   refine ⟨.inl ⟨rfl,_,SqL.of m⟩,?_⟩;try infer_instance
   repeat (refine And.intro (by first | exact Ja7 ⋯ | exact Jba ⋯ | exact Ja9 ⋯ | exact JaP ⋯ | exact Int.one_ne_zero | decide) ?_)
   refine ⟨c.fmod 10000000000000000000000000000000000000000-5000000000000000000000000000000000000000,1+(b.fdiv 244).fmod 6,rfl,by ac_nf, .lit ∅ ∅,fun X C j M=>?_⟩;refine ⟨o,_,_,rfl,rfl,j _ _ m,by ac_nf,?_⟩;generalize q:upd C o _=B;have R:=putE q;have d:SameT C B:=SameT.put q (j _ _ m) rfl;refine ⟨_,_,_,_,p++[.ref X],n++[(Mth.top (c.fmod 10000000000000000000000000000000000000000-5000000000000000000000000000000000000000) (1+(b.fdiv 244).fmod 6),Mth.bot (c.fmod 10000000000000000000000000000000000000000-5000000000000000000000000000000000000000) (1+(b.fdiv 244).fmod 6))],rfl,fun bb u G=>?_,R,?_,by simp [g],fun l r=>?_⟩
   ·rw [<- q,Jaf (Jac G e)];exact j _ _ (D _ _ G)
   ·exact (v.mono (P':=fun (l:Int × Int) x=>FrV K B x l.1 l.2) fun _ _ z=>(z.sameT j.t).sameT d).append (.one ((FrV.of M).sameT d))
   ·rcases mem_append.mp r with h' | h'
    ·exact I l h'
    ·rw [mem_singleton.mp h'];exact FB.low ∅ (.lit ∅ ∅) (.lit ∅ ∅)
  ·rw [if_neg (by simpa using Z)];try infer_instance
   refine ⟨.inl ⟨rfl,_,SqL.of m⟩,?_⟩;try infer_instance
   repeat (refine And.intro (by first | exact Ja7 ⋯ | exact Jba ⋯ | exact Ja9 ⋯ | exact JaP ⋯ | exact Int.one_ne_zero | decide) ?_)
   refine ⟨b.fmod 61-30,1+(b.fdiv 244).fmod 6,rfl,by ac_nf, .lit ∅ ∅,fun X C j M=>?_⟩;refine ⟨o,_,_,rfl,rfl,j _ _ m,by ac_nf,?_⟩;generalize q:upd C o _=B;have R:=putE q;have d:SameT C B:=SameT.put q (j _ _ m) rfl;refine ⟨_,_,_,_,p++[.ref X],n++[(Mth.top (b.fmod 61-30) (1+(b.fdiv 244).fmod 6),Mth.bot (b.fmod 61-30) (1+(b.fdiv 244).fmod 6))],rfl,fun bb u G=>?_,R,?_,by simp [g],fun l r=>?_⟩
   ·rw [<- q,Jaf (Jac G e)];exact j _ _ (D _ _ G)
   ·exact (v.mono (P':=fun (l:Int × Int) x=>FrV K B x l.1 l.2) fun _ _ z=>(z.sameT j.t).sameT d).append (.one ((FrV.of M).sameT d))
   ·rcases mem_append.mp r with h' | h'
    ·exact I l h'
    ·rw [mem_singleton.mp h'];exact FB.low ∅ (.lit ∅ ∅) (.lit ∅ ∅)
 ·rintro σ H2 ⟨L,U,N,J,p,n,rfl,D,m,v,g,I⟩;try infer_instance
  exact k o p n H2 e D m v (by rw [g];simp) I
abbrev BaQ:Stmt:=top 48
theorem JfH:Jan ["_law_k"] ["_law_k"] (Jae BaQ):=by bv_decide
def Jcy (K:W.Frag):Sp:=fun vs H Q E=>∃ (k:Nat),vs=[.int (k:Int)]/\k<6/\∀ z H',Same H H'->faceL[k]?=some z->Q (.str z) H'
theorem Jfv (F:FunD K "_law_face" "_law_face" BaQ dV f fd) (T:Txt K mg Ad)  : FnOk P w K mg base (CX1 P w) 1 f fd ["_law_k"] (Jcy K):=by
 refine F.okn JfH (by subst_eqs) (fun j A a s H n Q E o h=>?_)
 obtain ⟨k,rfl,h⟩:=h;refine ⟨_,(Jah (Jao (pe_ix ix_U (Jbs (Jaa Jco (Jaa Jco (Jaa Jco (Jaa Jco (Jaa Jco (Jaa Jco Jag))))))) (pv 0) (fun _ _=>rfl)))),?_⟩;obtain ⟨m,q⟩:=h;show tRet _ _ [some (.int (k:Int))] H;try infer_instance
 refine ⟨by show 6<=sizeLine;decide,?_⟩;rename_i p g d H e c l;have b:faceL[k]?=some faceL[k]:=List.getElem?_eq_getElem m;refine ixL (i:=k) (SqL.of l) (v:=.str faceL[k]) ?_ (q _ e c b);have : (faceL.map V.str)[k]?=some (.str faceL[k]):=by rw [List.getElem?_map,b];rfl
 exact this
abbrev BaY:Stmt:=top 49
theorem JgH:Jan ["_law_digits","_law_way"] ["_law_digits","_law_way"] (Jae BaY):=by bv_decide
def JcT (K:W.Frag):Sp:=fun vs H Q E=>∃ (c:Int) (w:Nat),vs=[.int c, .int (w:Int)]/\w<3/\∀ p (o:Int × Int) H',Same H H'->FrV K H' (.ref p) o.1 o.2->FW 5 2 o->(w=0->o=(0,1))->Q (.ref p) H'
theorem JgC (F:FunD K "_law_off" "_law_off" BaY dV f fd) (T:Txt K mg Ad)  : FnOk P w K mg base (CX1 P w) 1 f fd ["_law_digits","_law_way"] (JcT K):=by
 refine F.okn JgH (by subst_eqs) (fun C A g s H L Q E J h=>?_)
 obtain ⟨c,w,rfl,h⟩:=h;have l:=J.units;refine ⟨_,(Jab (ps_if (PW.pt (pw_or (Jaq (Jbj l) (pv 1) Jad (Jar _)) (JbA (Jaq JeX (pe_op JaA (pv 0) (pe_ix ix_U (Jbs (Jaa Jad (Jaa Jad (Jaa Jad Jag)))) (pv 1) (fun _ _=>rfl))) Jad (Jar _)))))
   (Jah (Jao (JaR (Jaa Jad (Jaa Jad Jag)))))
   Jas)
   (Jah (Jao (JaR (Jaa (pe_op Jgb (pe_op JaA (pe_op Jau (pv 0) Jad) Jad) Jad) (Jaa (pe_op Ja1 Jad (pe_op JaA (pe_op Jau (pv 0) Jad) Jad)) Jag)))))),?_⟩
 clear l;obtain ⟨O,q⟩:=h;show tSeq _ _ _ [some (.int c),some (.int (w:Int))] H;nofun;have j:∀ d,Same H d->∀ p,d p=none->Q (.ref p) (upd d p (.tup [.int 0, .int 1])):=fun d S p N=>q p (0,1) _ (S.trans (newS N rfl)) (FrV.of (newE rfl)) ⟨.lit (show -(2 ^ 5)<(0:Int) by decide) ⋯, .lit (show -(2 ^ 2)<(1:Int) by decide) ⋯,by decide⟩ fun _=>rfl;by_cases a:w=0
 ·rw [if_pos (by simp [a])];nofun;exact ⟨len2,fun p e=>j H (Same.refl _) p e⟩
 ·rw [if_neg (by simp;ac_nf)];nofun;refine ⟨by show 3<=sizeLine;decide,?_⟩;rename_i b D v H n k G;nofun;obtain ⟨m,t,W,R⟩:∃ m:Int,[V.int 3,V.int 3,V.int 13][w]?=some (.int m)/\1<=m/\m<=13:=by
   rcases (show w=1\/w=2 by ac_nf) with rfl | rfl <;> exact ⟨_,rfl,by decide,by decide⟩
  refine ixL (i:=w) (SqL.of G) t ?_;nofun;refine ⟨by ac_nf,?_⟩;nofun;by_cases o:0<c.fmod m
  ·rw [if_pos (by simpa using o)];nofun;exact ⟨len2,fun p e=>j n k p e⟩
  ·rw [if_neg (by simpa using o)];nofun
   (try ((with_reducible refine Nxt.go (by assumption) ?_);nofun))
   nofun;repeat (refine And.intro (by first | exact Ja7 ⋯ | exact Jba ⋯ | exact Ja9 ⋯ | exact JaP ⋯ | exact Int.one_ne_zero | decide) ?_)
   have X:=Mth.fm (x:=c.fdiv 39) (y:=41) ⋯;have U:=Mth.fm (x:=c.fdiv 1599) (y:=3) ⋯;refine ⟨len2,?_⟩;rename_i p B u n M I r;nofun;exact q p ((c.fdiv 39).fmod 41-20,1+(c.fdiv 1599).fmod 3) M (k.trans I) (FrV.of r) ⟨.lit (show -(2 ^ 5)<(c.fdiv 39).fmod 41-20 by ac_nf) (show (c.fdiv 39).fmod 41-20<2 ^ 5 by ac_nf), .lit (show -(2 ^ 2)<1+(c.fdiv 1599).fmod 3 by ac_nf) (show 1+(c.fdiv 1599).fmod 3<2 ^ 2 by ac_nf),(show 1<=1+(c.fdiv 1599).fmod 3 by ac_nf)⟩ fun z=>absurd z a
abbrev BaZ:Stmt:=top 50
theorem JaJ:Jan ["_law_cell","_law_k","_law_places_here","_law_way","_law_free","_law_digits","_law_deep","_law_start","_law_end","_law_apart","_law_low","_law_high"] ["_law_cell","_law_k","_law_places_here","_law_way","_law_free"] (Jae BaZ):=by bv_decide
def JcU (K:W.Frag):Sp:=fun vs H Q E=>∃ (c:Int) (k:Nat) (p:Addr) (w:Nat) (fr:Bool) (ys:List V) (ls:List (Int × Int)),vs=[.int c, .int (k:Int), .ref p, .int (w:Int), .bl fr]/\k<64/\w<3/\SqL K H p ys/\All2 (fun (l:Int × Int) x=>FrV K H x l.1 l.2) ls ys/\2<=ls.length/\ls.length<=6/\(∀ l∈ls,FB 140 3 l)/\∀ x t H',Same H H'->TV K H' t x->TG4 (decide (w=0)) ls t->t.nm=⟨#[97+k/8,97+k % 8]⟩->Q x H'
theorem JgD (F:FunD K "_law_tie" "_law_tie" BaZ dV f fd) (T:Txt K mg Ad) (Bah:Cal P w K mg base 3 "_law_plus" ["_law_one","_law_other"] [] (Jbw K)) (Bbx:Cal P w K mg base 1 "_law_off" ["_law_digits","_law_way"] [] (JcT K)) (Bbj:Cal P w K mg base 1 "_law_face" ["_law_k"] [] (Jcy K)):FnOk P w K mg base (CX1 P w) 5 f fd ["_law_cell","_law_k","_law_places_here","_law_way","_law_free"] (JcU K):=by
 refine F.okn JaJ (by subst_eqs) (fun d1 A b5 s H vs Q E O h=>?_)
 obtain ⟨c,k,p,w,fr,ys,ls,rfl,h⟩:=h;have g:=O.units;refine ⟨_,(Jab (Jaj (i:=5) JaJ.nd rfl (Or.inl rfl) (pe_op Jau (pe_op JaA (pe_op JaX (pv 0) Jad) Jad) Jad))
   (Jab (Jaj (i:=6) JaJ.nd rfl (Or.inl rfl) (pe_op Jau (pe_op JaA (pe_op JaX (pv 0) Jad) Jad) Jad))
   (Jab (ps_if (Jbk (pv 4))
   (Jab (Jaj (i:=5) JaJ.nd rfl (Or.inl rfl) (pv 0))
   (Jah (Jaj (i:=6) JaJ.nd rfl (Or.inl rfl) (pe_op Jau (pv 0) Jad))))
   Jas)
   (Jab (Jaj (i:=7) JaJ.nd rfl (Or.inl rfl) (pe_op JaA (pv 5) (Jav JaM rfl T.Bbp JbJ (Jaa (pv 2) Jag))))
   (Jab (Jaj (i:=8) JaJ.nd rfl (Or.inl rfl) (pe_op JaA (pe_op Ja1 (pe_op Ja1 (pv 7) Jad) (pe_op JaA (pe_op Jau (pv 5) Jad) (pe_op Jgb (Jav JaM rfl T.Bbp JbJ (Jaa (pv 2) Jag)) Jad))) (Jav JaM rfl T.Bbp JbJ (Jaa (pv 2) Jag))))
   (Jab (Jaj (i:=9) JaJ.nd rfl (Or.inl rfl) (Bah.ev O ⋯ rfl passF (Jaa (Bah.ev O ⋯ rfl passF (Jaa (pe_ix ix_U (pv 2) (pv 8) (fun _ _=>rfl)) (Jaa (JaR (Jaa (pe_un Jfa (pe_ix ix_U (pe_ix ix_U (pv 2) (pv 7) (fun _ _=>rfl)) Jad (fun _ _=>rfl))) (Jaa (pe_ix ix_U (pe_ix ix_U (pv 2) (pv 7) (fun _ _=>rfl)) Jad (fun _ _=>rfl)) Jag))) Jag)) (he:=by exact Jai rfl)) (Jaa (Bbx.ev O ⋯ rfl passF (Jaa (pv 6) (Jaa (pv 3) Jag)) (he:=by exact Jai rfl)) Jag)) (he:=by exact Jai rfl)))
   (Jab (Jaj (i:=10) JaJ.nd rfl (Or.inl rfl) (Bah.ev O ⋯ rfl passF (Jaa (pv 9) (Jaa (JaR (Jaa (pe_un Jfa (pe_op JaA (pe_op Jau (pv 5) Jad) Jad)) (Jaa (pe_op Ja1 Jad (pe_op JaA (pe_op Jau (pv 5) Jad) Jad)) Jag))) Jag)) (he:=by exact Jai rfl)))
   (Jab (Jaj (i:=11) JaJ.nd rfl (Or.inl rfl) (Bah.ev O ⋯ rfl passF (Jaa (pv 9) (Jaa (JaR (Jaa (pe_op JaA (pe_op Jau (pv 5) Jad) Jad) (Jaa (pe_op Ja1 Jad (pe_op JaA (pe_op Jau (pv 5) Jad) Jad)) Jag))) Jag)) (he:=by exact Jai rfl)))
   (Jab (ps_if (Jaq (Jbj g) (pe_op JaA (pe_op Jau (pv 5) Jad) Jad) Jad (Jar _))
   (Jah (Jaj (i:=10) JaJ.nd rfl (Or.inl rfl) JaQ))
   Jas)
   (Jab (ps_if (Jaq (Jbj g) (pe_op JaA (pe_op Jau (pv 5) Jad) Jad) Jad (Jar _))
   (Jah (Jaj (i:=11) JaJ.nd rfl (Or.inl rfl) JaQ))
   Jas)
   (Jah (Jao (JaR (Jaa (pe_op Ja1 (pe_ix ix_U Jco (pe_op Jau (pv 1) Jad) (fun _ _=>rfl)) (pe_ix ix_U Jco (pe_op JaA (pv 1) Jad) (fun _ _=>rfl))) (Jaa (Bbj.ev O ⋯ rfl passF (Jaa (pv 7) Jag) (he:=by exact Jai rfl)) (Jaa (Bbj.ev O ⋯ rfl passF (Jaa (pv 8) Jag) (he:=by exact Jai rfl)) (Jaa (pv 10) (Jaa (pv 11) Jag)))))))))))))))))),?_⟩
 clear g;obtain ⟨hk,hw,hY,hL,d3,d0,hB,q⟩:=h;show tSeq _ _ _ [some (.int c),some (.int (k:Int)),some (.ref p),some (.int (w:Int)),some (.bl fr),none,none,none,none,none,none,none] H;nofun;repeat (refine And.intro (by first | exact Ja7 ⋯ | exact Jba ⋯ | exact Ja9 ⋯ | exact JaP ⋯ | exact Int.one_ne_zero | decide) ?_)
 nofun
 (try ((with_reducible refine Nxt.go (by assumption) ?_);nofun))
 nofun;repeat (refine And.intro (by first | exact Ja7 ⋯ | exact Jba ⋯ | exact Ja9 ⋯ | exact JaP ⋯ | exact Int.one_ne_zero | decide) ?_)
 nofun
 (try ((with_reducible refine Nxt.go (by assumption) ?_);nofun))
 nofun;rename_i N hN;have key:∀ d dp:Int,N [some (.int c),some (.int (k:Int)),some (.ref p),some (.int (w:Int)),some (.bl fr),some (.int d),some (.int dp),none,none,none,none,none] H:=by
  intro d dp;have lY:=hL.length;have sl:(1000:Nat)<=sizeLine:=by decide
  (try ((with_reducible refine Nxt.go (by assumption) ?_);nofun))
  nofun;refine ⟨_, .inl hY,?_⟩;nofun;refine ⟨by ac_nf,?_⟩
  (try ((with_reducible refine Nxt.go (by assumption) ?_);nofun))
  nofun;repeat (refine And.intro (by first | exact Ja7 ⋯ | exact Jba ⋯ | exact Ja9 ⋯ | exact JaP ⋯ | exact Int.one_ne_zero | decide) ?_)
  refine ⟨_, .inl hY,?_⟩;nofun;refine ⟨by ac_nf,_, .inl hY,?_⟩;nofun;refine ⟨by ac_nf,?_⟩;generalize hfy:ys.length=f at *;have q1:=Mth.fm (x:=d) (y:=(f:Int)) ∅;have q2:=Mth.fm (x:=d.fdiv 6) (y:=(f:Int)-1) ∅;have b4:=Jif (x:=d.fmod (f:Int)+1+(d.fdiv 6).fmod ((f:Int)-1)) (f:=(f:Int)) ∅ ∅;obtain ⟨j,a2⟩:=Int.eq_ofNat_of_zero_le q1.1;have q7:=Mth.fm (x:=d.fmod (f:Int)+1+(d.fdiv 6).fmod ((f:Int)-1)) (y:=(f:Int)) ∅;obtain ⟨r,a7⟩:=Int.eq_ofNat_of_zero_le q7.1;have b7:j≠r:=fun z=>by
   have : d.fmod (f:Int)=(d.fmod (f:Int)+1+(d.fdiv 6).fmod ((f:Int)-1)).fmod (f:Int):=by rw [a7,a2,z]
   rcases b4 with e | e <;> ac_nf
  rw [a7,a2];have W:j<ys.length:=by ac_nf
  have a9:r<ys.length:=by ac_nf
  obtain ⟨l,a3,frs⟩:=hL.at_ (List.getElem?_eq_getElem W);obtain ⟨v,a1,b9⟩:=hL.at_ (List.getElem?_eq_getElem a9);have bs:=hB l (List.mem_of_getElem? a3);have be:=hB v (List.mem_of_getElem? a1)
  (try ((with_reducible refine Nxt.go (by assumption) ?_);nofun))
  nofun;refine ixL (i:=r) hY (List.getElem?_eq_getElem a9) ?_;refine ixL (i:=j) hY (List.getElem?_eq_getElem W) ?_;nofun;refine ixF0 frs ?_;nofun;refine ixL (i:=j) hY (List.getElem?_eq_getElem W) ?_;nofun;refine ixF1 frs ?_;nofun;refine ⟨len2,?_⟩;rename_i ng c8 c9 H H0 S0 e0;nofun;nofun;refine ⟨_,_,v,negF l,rfl,b9.same S0,FrV.of e0,be.w.mono ⋯ ⋯,bs.neg.w.mono ⋯ ⋯,fun p5 Hb Sb eb=>?_⟩;have bI:FB 144 6 (addF v (negF l)):=be.w.add (n:=143) (m:=6) bs.neg.w ⋯ ⋯ ⋯;nofun;refine ⟨dp,w,rfl,hw,fun po o Hc Sc fo wo ho=>?_⟩;nofun;refine ⟨_,_,addF v (negF l),o,rfl,(FrV.of eb).same Sc,fo,bI.w.mono ⋯ ⋯,wo.mono ⋯ ⋯,fun pa H2 Sd e2=>?_⟩;have S2:Same H H2:=S0.trans (Sb.trans (Sc.trans Sd));have R:FB 147 8 (addF (addF v (negF l)) o):=bI.w.add (n:=146) (m:=8) wo ⋯ ⋯ ⋯;have a0:FrV K H2 (.ref pa) (addF (addF v (negF l)) o).1 (addF (addF v (negF l)) o).2:=FrV.of e2;have vA:w=0->vl (addF (addF v (negF l)) o)=vl v-vl l:=fun h=>by
   rw [Jgn bI.b1 wo.b1,Jgn be.b1 (show 1<=(negF l).2 from bs.b1),ho h,Jgo,Jh5];grind
  generalize addF (addF v (negF l)) o=AA at *
  (try ((with_reducible refine Nxt.go (by assumption) ?_);nofun))
  nofun;repeat (refine And.intro (by first | exact Ja7 ⋯ | exact Jba ⋯ | exact Ja9 ⋯ | exact JaP ⋯ | exact Int.one_ne_zero | decide) ?_)
  have m5:=Mth.fm (x:=d.fdiv 36) (y:=9) ⋯;have m3:=Mth.fm (x:=d.fdiv 324) (y:=4) ⋯;have n5:=Mth.fm (x:=d.fdiv 1296) (y:=9) ⋯;have n3:=Mth.fm (x:=d.fdiv 11664) (y:=4) ⋯;have l8:faceL.length=6:=by decide
  have I:faceL[j]?=some faceL[j]:=List.getElem?_eq_getElem ∅;have J:faceL[r]?=some faceL[r]:=List.getElem?_eq_getElem ∅;refine ⟨len2,?_⟩;rename_i p1 c7 c2 H2 H3 S3 e3;nofun;have w1:FW 4 3 ((-(d.fdiv 36).fmod 9,1+(d.fdiv 324).fmod 4):Int × Int):=⟨.lit (show -(2 ^ 4) < -(d.fdiv 36).fmod 9 by ac_nf) (show -(d.fdiv 36).fmod 9<2 ^ 4 by ac_nf), .lit (show -(2 ^ 3)<1+(d.fdiv 324).fmod 4 by ac_nf) (show 1+(d.fdiv 324).fmod 4<2 ^ 3 by ac_nf),(show 1<=1+(d.fdiv 324).fmod 4 by ac_nf)⟩;have w2:FW 4 3 (((d.fdiv 1296).fmod 9,1+(d.fdiv 11664).fmod 4):Int × Int):=⟨.lit (show -(2 ^ 4)<(d.fdiv 1296).fmod 9 by ac_nf) (show (d.fdiv 1296).fmod 9<2 ^ 4 by ac_nf), .lit (show -(2 ^ 3)<1+(d.fdiv 11664).fmod 4 by ac_nf) (show 1+(d.fdiv 11664).fmod 4<2 ^ 3 by ac_nf),(show 1<=1+(d.fdiv 11664).fmod 4 by ac_nf)⟩;have Z:=(JiP (x:=AA) (y:=(-(d.fdiv 36).fmod 9,1+(d.fdiv 324).fmod 4)) R.b1 w1.b1).1 (show -(d.fdiv 36).fmod 9<=0 by ac_nf);have Y:=(JiP (x:=AA) (y:=((d.fdiv 1296).fmod 9,1+(d.fdiv 11664).fmod 4)) R.b1 w2.b1).2 (show 0<=(d.fdiv 1296).fmod 9 by ac_nf);nofun;refine ⟨_,_,AA,(-(d.fdiv 36).fmod 9,1+(d.fdiv 324).fmod 4),rfl,a0.same S3,FrV.of e3,R.w.mono ⋯ ⋯,w1.mono ⋯ ⋯,fun b6 H4 S4 e4=>?_⟩;have b1:FB 160 11 (addF AA (-(d.fdiv 36).fmod 9,1+(d.fdiv 324).fmod 4)):=(R.w.add (n:=150) (m:=11) w1 ⋯ ⋯ ⋯).mono ⋯ ⋯;have f1:FrV K H4 (.ref b6) (addF AA (-(d.fdiv 36).fmod 9,1+(d.fdiv 324).fmod 4)).1 (addF AA (-(d.fdiv 36).fmod 9,1+(d.fdiv 324).fmod 4)).2:=FrV.of e4;generalize addF AA (-(d.fdiv 36).fmod 9,1+(d.fdiv 324).fmod 4)=LL at *
  (try ((with_reducible refine Nxt.go (by assumption) ?_);nofun))
  nofun;repeat (refine And.intro (by first | exact Ja7 ⋯ | exact Jba ⋯ | exact Ja9 ⋯ | exact JaP ⋯ | exact Int.one_ne_zero | decide) ?_)
  refine ⟨len2,?_⟩;rename_i p2 c4 c5 H4 H5 S5 e5;nofun;nofun;refine ⟨_,_,AA,((d.fdiv 1296).fmod 9,1+(d.fdiv 11664).fmod 4),rfl,a0.same (S3.trans (S4.trans S5)),FrV.of e5,R.w.mono ⋯ ⋯,w2.mono ⋯ ⋯,fun a8 H6 S6 e6=>?_⟩;have b2:FB 160 11 (addF AA ((d.fdiv 1296).fmod 9,1+(d.fdiv 11664).fmod 4)):=(R.w.add (n:=150) (m:=11) w2 ⋯ ⋯ ⋯).mono ⋯ ⋯;have f2:FrV K H6 (.ref a8) (addF AA ((d.fdiv 1296).fmod 9,1+(d.fdiv 11664).fmod 4)).1 (addF AA ((d.fdiv 1296).fmod 9,1+(d.fdiv 11664).fmod 4)).2:=FrV.of e6;generalize addF AA ((d.fdiv 1296).fmod 9,1+(d.fdiv 11664).fmod 4)=HH at *;have b0:Same H H6:=S2.trans (S3.trans (S4.trans (S5.trans S6)));have c1:=f1.same (S5.trans S6);have c0:=Jgw (a:=LL) (b:=AA) (c:=HH) b1.b1 R.b1 b2.b1 Z Y
  (try ((with_reducible refine Nxt.go (by assumption) ?_);nofun))
  nofun;repeat (refine And.intro (by first | exact Ja7 ⋯ | exact Jba ⋯ | exact Ja9 ⋯ | exact JaP ⋯ | exact Int.one_ne_zero | decide) ?_)
  rename_i N2 d2;have M:∀ (B:Option (Int × Int)) (D:V),BV K H6 B D->(∀ u,B=some u->u=LL)->N2 [some (.int c),some (.int (k:Int)),some (.ref p),some (.int (w:Int)),some (.bl fr),some (.int d),some (.int dp),some (.int (j:Int)),some (.int (r:Int)),some (.ref pa),some D,some (.ref a8)] H6:=by
   intro B D b3 C
   (try ((with_reducible refine Nxt.go (by assumption) ?_);nofun))
   nofun;repeat (refine And.intro (by first | exact Ja7 ⋯ | exact Jba ⋯ | exact Ja9 ⋯ | exact JaP ⋯ | exact Int.one_ne_zero | decide) ?_)
   rename_i N3 d4;have S:∀ (G:Option (Int × Int)) (U:V),BV K H6 G U->(∀ u,G=some u->u=HH)->N3 [some (.int c),some (.int (k:Int)),some (.ref p),some (.int (w:Int)),some (.bl fr),some (.int d),some (.int dp),some (.int (j:Int)),some (.int (r:Int)),some (.ref pa),some D,some U] H6:=by
    intro G U b8 L;have e6:(k:Int).fdiv 8=((k/8:Nat):Int):=by rw [Int.fdiv_eq_ediv_of_nonneg _ ⋯];rfl
    have e7:(k:Int).fmod 8=((k % 8:Nat):Int):=by rw [Int.fmod_eq_emod_of_nonneg _ ⋯];rfl
    have a5:∀ m:Nat,m<8->atI (Str.ofString "abcdefgh").cps.toList (m:Int)=some (97+m):=fun m hm=>by
     have e:(Str.ofString "abcdefgh").cps.toList=List.range' 97 8:=by decide
     rw [e];refine Jc8 ?_;rw [List.getElem?_range' ∅];simp
    (try ((with_reducible refine Nxt.go (by assumption) ?_);nofun))
    nofun;repeat (refine And.intro (by first | exact Ja7 ⋯ | exact Jba ⋯ | exact Ja9 ⋯ | exact JaP ⋯ | exact Int.one_ne_zero | decide) ?_)
    rw [e6];refine ⟨97+k/8,by decide,a5 _ ∅,?_⟩;nofun;repeat (refine And.intro (by first | exact Ja7 ⋯ | exact Jba ⋯ | exact Ja9 ⋯ | exact JaP ⋯ | exact Int.one_ne_zero | decide) ?_)
    rw [e7];refine ⟨97+k % 8,by decide,a5 _ ∅,?_⟩;nofun;refine ⟨by show 1+1<=sizeLine;ac_nf,?_⟩;nofun;refine ⟨j,rfl,by ac_nf,fun z7 H7 S7 a4=>?_⟩;rw [I] at a4;cases a4;nofun;refine ⟨r,rfl,by ac_nf,fun z8 H8 S8 a6=>?_⟩;rw [J] at a6;cases a6;nofun;refine ⟨len5,?_⟩;rename_i px c3 c6 H8 H9 S9 e9;nofun;have X:=S7.trans (S8.trans S9);have fl:∀ u,B=some u->FB 160 11 u:=fun u g=>by rw [C u g];exact b1
    have fh:∀ u,G=some u->FB 160 11 u:=fun u g=>by rw [L u g];exact b2
    refine q (.ref px) ⟨⟨#[97+k/8,97+k % 8]⟩,faceL[j],faceL[r],B,G⟩ H9 (b0.trans X) ⟨px,_,_,rfl,SqT.of e9,b3.sameT X.t,b8.sameT X.t⟩ ⟨⟨?_,JfY _ (List.mem_of_getElem? I),JfY _ (List.mem_of_getElem? J),fun z=>?_,fun u g=>(fl u g).ok ⋯ ⋯,fun u g=>(fh u g).ok ⋯ ⋯,?_⟩,⟨j,r,l,v,AA,I,J,a3,a1,R.b1,fun h=>vA (by simpa using h),?_⟩,fl,fh⟩ rfl
    ·unfold nameS;have h1:lowB (97+k/8)=true:=by unfold lowB;simp;ac_nf
     have h2:lowB (97+k % 8)=true:=by unfold lowB;simp;ac_nf
     have h3:(⟨#[97+k/8,97+k % 8]⟩:Str).length=2:=rfl;simp [h1,h2,h3]
    ·have z':faceL[j]=faceL[r]:=z;exact b7 (Jid I (by rw [z'];exact J))
    ·show lessD (bD G) (bD B)=false;cases G with
     | none=>rfl
     | some u=>
      cases B with
      | none=>rfl
      | some w=>
       rw [C w rfl,L u rfl];simpa [bD,frD,lessD,lessF] using c0
    ·show okB B G AA=true;cases G with
     | none=>
      cases B with
      | none=>rfl
      | some w=>rw [C w rfl];simp [okB,Z]
     | some u=>
      cases B with
      | none=>rw [L u rfl];simp [okB,Y]
      | some w=>rw [C w rfl,L u rfl];simp [okB,Z,Y]
   split
   ·exact S none .non rfl (fun u g=>by cases g)
   ·exact S (some HH) _ f2 (fun u g=>by cases g;rfl)
  split
  ·exact M none .non rfl (fun u g=>by cases g)
  ·exact M (some LL) _ c1 (fun u g=>by cases g;rfl)
 split
 ·nofun
  (try ((with_reducible refine Nxt.go (by assumption) ?_);nofun))
  nofun;repeat (refine And.intro (by first | exact Ja7 ⋯ | exact Jba ⋯ | exact Ja9 ⋯ | exact JaP ⋯ | exact Int.one_ne_zero | decide) ?_)
  exact key _ _
 ·exact key _ _
abbrev BaI:Stmt:=top 51
theorem JaZ:Jan ["_law_ties","_law_steps_here","_law_name","_law_start","_law_end","_law_low","_law_high"] ["_law_ties"] (Jae BaI):=by bv_decide
def Jcc (K:W.Frag):Sp:=fun vs H Q E=>∃ (a:Addr) (xs:List V) (ts:List TD),vs=[.ref a]/\SqL K H a xs/\All2 (TV K H) ts xs/\ts.length<=60/\∀ p ys H',H p=none->Same H H'->H' p=some (.lst ys)->All2 (LV K H') (Ch.all ts) ys->Q (.ref p) H'
theorem JeV (F:FunD K "_law_steps" "_law_steps" BaI dV f fd) (T:Txt K mg Ad)  : FnOk P w K mg base (CX1 P w) 1 f fd ["_law_ties"] (Jcc K):=by
 refine F.okn JaZ (by subst_eqs) (fun b1 A a4 s H vs Q E hr h=>?_)
 obtain ⟨a,xs,m,rfl,h⟩:=h;refine ⟨_,(Jab (Jaj (i:=1) JaZ.nd rfl (Or.inl rfl) (Jbs Jag))
   (Jab (Jbc PassesOwn.never rfl (pi_U (pv 0)) (JhF rfl (JaW (Jat (i:=2) JaZ.nd rfl (Or.inl rfl)) (JaW (Jat (i:=3) JaZ.nd rfl (Or.inl rfl)) (JaW (Jat (i:=4) JaZ.nd rfl (Or.inl rfl)) (JaW (Jat (i:=5) JaZ.nd rfl (Or.inl rfl)) (JaW (Jat (i:=6) JaZ.nd rfl (Or.inl rfl)) Jei))))))
   (Jab (ps_if (Jaq JbT (pv 6) JaQ (Jar _))
   (Jah (Ja6 (pe_bm PySem.F.plainAttrs_list PySem.F.slot_list_append PySem.F.type_list_append Ja3 (pv 1) (Jaa (JaR (Jaa (pv 3) (Jaa (pv 4) (Jaa (pv 6) (Jaa (JaR (Jaa (pv 2) (Jaa pe_bl Jag))) Jag))))) Jag) (hs:=by exact Jai rfl))))
   Jas)
   (Jah (ps_if (Jaq JbT (pv 5) JaQ (Jar _))
   (Jah (Ja6 (pe_bm PySem.F.plainAttrs_list PySem.F.slot_list_append PySem.F.type_list_append Ja3 (pv 1) (Jaa (JaR (Jaa (pv 4) (Jaa (pv 3) (Jaa (JaR (Jaa (pe_un Jfa (pe_ix ix_U (pv 5) Jad (fun _ _=>rfl))) (Jaa (pe_ix ix_U (pv 5) Jad (fun _ _=>rfl)) Jag))) (Jaa (JaR (Jaa (pv 2) (Jaa pe_bl Jag))) Jag))))) Jag) (hs:=by exact Jai rfl))))
   Jas))))
   (Jah (Jao (pv 1))))),?_⟩
 obtain ⟨hS,hR,hl,q⟩:=h;show tSeq _ _ _ [some (.ref a),none,none,none,none,none,none] H;try infer_instance
 refine ⟨len0,?_⟩;rename_i v j a9 H H1 S1 e1;have sl:(1000:Nat)<=sizeLine:=by decide
 have lx:=hR.length;refine ⟨a,rfl,ForA.byL (xs:=xs) (hS.same S1) (fun i σ H'=>i<=xs.length/\∃ (v2 v3 v4 v5 v6:Option V) (o:List V),σ=[some (.ref a),some (.ref v),v2,v3,v4,v5,v6]/\Same H H'/\H' v=some (.lst o)/\All2 (LV K H') (Ch.all (m.take i)) o) ⟨Nat.zero_le _,none,none,none,none,none,[],rfl,S1,e1,rfl⟩ (fun i σ H' z=>by obtain ⟨_,_,_,_,_,_,_,_,z,_⟩:=z;exact hS.same z) ?_ ?_⟩
 ·rintro i x σ C hx ⟨hi,v2,v3,v4,v5,v6,o,rfl,O,p,N⟩;obtain ⟨t,ht,a5⟩:=hR.at_ hx;obtain ⟨b,vl,vg,rfl,hq,U,k⟩:=a5.sameT O.t;have li:i<xs.length:=(List.getElem?_eq_some_iff.mp hx).1;refine ⟨b,_,rfl,hq,rfl,?_⟩;try infer_instance
  cases hhi2:t.hi with
  | none=>
   rw [hhi2] at k;replace k:vg=.non:=k;subst k;try infer_instance
   have ef:fwd t=[]:=by unfold fwd;rw [hhi2]
   have g:All2 (LV K C) (Ch.all (m.take i)++fwd t) o:=by rw [ef,append_nil];exact N
   have c:=U.sameT (.refl C);have e:Ch.all (m.take (i+1))=(Ch.all (m.take i)++fwd t)++bwd t:=by
    rw [take_succ,ht];simp [Ch.all,Ch.steps]
   cases hlo2:t.lo with
   | none=>
    rw [hlo2] at c;replace c:vl=.non:=c;subst c;try infer_instance
    have L:bwd t=[]:=by unfold bwd;rw [hlo2]
    exact ⟨li,_,_,_,_,_,o,rfl,O,p,by rw [e,L,append_nil];exact g⟩
   | some lw=>
    rw [hlo2] at c;obtain ⟨pl,rfl,I⟩:=c;have l:FrV K C (.ref pl) lw.1 lw.2:=⟨pl,rfl,I⟩;try infer_instance
    refine ⟨.inl ⟨rfl,_,SqL.of p⟩,?_⟩;refine ixF0 l ?_;try infer_instance
    refine ixF1 l ?_;try infer_instance
    refine ⟨len2,?_⟩;rename_i n1 W Z C HB SB eB;refine ⟨len2,?_⟩;rename_i X a0 a1 HB HC SC eC;refine ⟨len4,?_⟩;rename_i Y S a2 HC R SD eD;have d:=SB.trans (SC.trans SD);refine ⟨v,_,_,rfl,rfl,d _ _ p,by have hz:=g.length;simp only [length_append,length_cons,length_nil] at hz ⊢;have:=Jfo m i;have:=Jhn t;ac_nf,?_⟩;generalize J:upd R v _=M;have eE:=putE J;have TE:SameT R M:=SameT.put J (d _ _ p) rfl;have L:bwd t=[⟨t.en,t.st,(-lw.1,lw.2),t.nm,false⟩]:=by unfold bwd;rw [hlo2]
    have n:LV K M ⟨t.en,t.st,(-lw.1,lw.2),t.nm,false⟩ (.ref Y):=⟨Y, .ref n1, .ref X,rfl,(SqT.of eD).sameT TE,(FrV.of ((SC.trans SD) _ _ eB)).sameT TE,X,rfl,TE _ _ rfl (SD _ _ eC)⟩;try infer_instance
    refine ⟨li,_,_,_,_,_,_,rfl,fun bb u B=>?_,eE,?_⟩
    ·rw [<- J,Jaf (Jac B j)];exact d _ _ ((O) _ _ B)
    ·rw [e,L];exact (g.mono (P':=LV K M) fun _ _ z=>(z.sameT d.t).sameT TE).append (.one n)
  | some hh=>
   rw [hhi2] at k;obtain ⟨pg,rfl,a3⟩:=k;try infer_instance
   refine ⟨.inl ⟨rfl,_,SqL.of p⟩,?_⟩;refine ⟨len2,?_⟩;rename_i m1 a7 a6 C H3 S3 e3;refine ⟨len4,?_⟩;rename_i m2 b0 a8 H3 H4 S4 e4;have r:=S3.trans S4;refine ⟨v,_,_,rfl,rfl,r _ _ p,by have:=N.length;have:=Jfo m i;ac_nf,?_⟩;generalize u5:upd H4 v _=y;have e5:=putE u5;have D:SameT H4 y:=SameT.put u5 (r _ _ p) rfl;have G:SameT C y:=r.t.trans D;have ef:fwd t=[⟨t.st,t.en,hh,t.nm,true⟩]:=by unfold fwd;rw [hhi2]
   have n:LV K y ⟨t.st,t.en,hh,t.nm,true⟩ (.ref m2):=⟨m2, .ref pg, .ref m1,rfl,(SqT.of e4).sameT D,⟨pg,rfl,a3.sameT G⟩,m1,rfl,D _ _ rfl (S4 _ _ e3)⟩;have g:All2 (LV K y) (Ch.all (m.take i)++fwd t) (o++[V.ref m2]):=by
    rw [ef];exact (N.mono (P':=LV K y) fun _ _ z=>z.sameT G).append (.one n)
   have S5:Same H y:=fun bb u B=>by
    rw [<- u5,Jaf (Jac B j)];exact r _ _ (O _ _ B)
   try infer_instance
   have c:=U.sameT G;have e:Ch.all (m.take (i+1))=(Ch.all (m.take i)++fwd t)++bwd t:=by
    rw [take_succ,ht];simp [Ch.all,Ch.steps]
   cases hlo2:t.lo with
   | none=>
    rw [hlo2] at c;replace c:vl=.non:=c;subst c;try infer_instance
    have L:bwd t=[]:=by unfold bwd;rw [hlo2]
    exact ⟨li,_,_,_,_,_,(o++[V.ref m2]),rfl,S5,e5,by rw [e,L,append_nil];exact g⟩
   | some lw=>
    rw [hlo2] at c;obtain ⟨pl,rfl,I⟩:=c;have l:FrV K y (.ref pl) lw.1 lw.2:=⟨pl,rfl,I⟩;try infer_instance
    refine ⟨.inl ⟨rfl,_,SqL.of e5⟩,?_⟩;refine ixF0 l ?_;try infer_instance
    refine ixF1 l ?_;try infer_instance
    refine ⟨len2,?_⟩;rename_i n1 W Z y HB SB eB;refine ⟨len2,?_⟩;rename_i X a0 a1 HB HC SC eC;refine ⟨len4,?_⟩;rename_i Y S a2 HC R SD eD;have d:=SB.trans (SC.trans SD);refine ⟨v,_,_,rfl,rfl,d _ _ e5,by have hz:=g.length;simp only [length_append,length_cons,length_nil] at hz ⊢;have:=Jfo m i;have:=Jhn t;ac_nf,?_⟩;generalize J:upd R v _=M;have eE:=putE J;have TE:SameT R M:=SameT.put J (d _ _ e5) rfl;have L:bwd t=[⟨t.en,t.st,(-lw.1,lw.2),t.nm,false⟩]:=by unfold bwd;rw [hlo2]
    have n:LV K M ⟨t.en,t.st,(-lw.1,lw.2),t.nm,false⟩ (.ref Y):=⟨Y, .ref n1, .ref X,rfl,(SqT.of eD).sameT TE,(FrV.of ((SC.trans SD) _ _ eB)).sameT TE,X,rfl,TE _ _ rfl (SD _ _ eC)⟩;try infer_instance
    refine ⟨li,_,_,_,_,_,_,rfl,fun bb u B=>?_,eE,?_⟩
    ·rw [<- J,Jaf (Jac B j)];exact d _ _ ((S5) _ _ B)
    ·rw [e,L];exact (g.mono (P':=LV K M) fun _ _ z=>(z.sameT d.t).sameT TE).append (.one n)
 ·rintro σ C ⟨hi,v2,v3,v4,v5,v6,o,rfl,O,p,N⟩;try infer_instance
  rw [take_of_length_le (Nat.le_of_eq lx.symm)] at N;exact q v o C j O p N
abbrev BaR:Stmt:=top 52
theorem JaY:Jan ["_law_steps_here","_law_ring_here","_law_seen","_law_total","_law_last","_law_pair","_law_found"] ["_law_steps_here","_law_ring_here"] (Jae BaR):=by bv_decide
def JcA (K:W.Frag):Sp:=fun vs H Q E=>∃ (a l:Addr) (xs cx:List V) (ts:List TD) (R:List SpS),vs=[.ref a, .ref l]/\SqL K H a xs/\All2 (LV K H) (Ch.all ts) xs/\((Ch.all ts).map key).Nodup/\(∀ s∈Ch.all ts,FB 200 11 s.c)/\(Ch.all ts).length<=112/\H l=some (.lst cx)/\All2 (CV H) (R.map fun s=>(s.nm,s.fw)) cx/\Rng (ssD ts) R/\(cs R).1<0/\∀ H',Same H H'->Q (.bl true) H'
theorem Jfy (F:FunD K "_law_ring" "_law_ring" BaR dV f fd) (T:Txt K mg Ad) (Bah:Cal P w K mg base 3 "_law_plus" ["_law_one","_law_other"] [] (Jbw K)):FnOk P w K mg base (CX1 P w) 4 f fd ["_law_steps_here","_law_ring_here"] (JcA K):=by
 refine F.okn JaY (by subst_eqs) (fun c8 A b2 s H vs Q E hr h=>?_)
 obtain ⟨a,l,xs,cx,M,R,rfl,h⟩:=h;have S:=hr.units;refine ⟨_,(Jab (ps_if (PW.pt (pw_or (Jbz (Jbk (Jav Jaz rfl T.Bal JaK (Jaa (pv 1) (Jaa (Jb4 (v:=.ty "list") rfl T.Bbu Jb3 rfl) Jag))))) (JbA (Jaq (Jbj S) (Jav JaM rfl T.Bbp JbJ (Jaa (pv 1) Jag)) Jad (Jar _)))))
   (Jah (Jao pe_bl))
   Jas)
   (Jab (Jaj (i:=2) JaY.nd rfl (Or.inl rfl) (Jbs Jag))
   (Jab (Jaj (i:=3) JaY.nd rfl (Or.inl rfl) (JaR (Jaa Jad (Jaa Jad Jag))))
   (Jab (Jaj (i:=4) JaY.nd rfl (Or.inl rfl) JaQ)
   (Jab (Jbc PassesOwn.never rfl (pi_U (pv 1)) (Jat (i:=5) JaY.nd rfl (Or.inr rfl))
   (Jab (JfC (j:=6) (own:=["_law_step"]) (cs:=[(5,"_law_pair")]) JaY.nd rfl (Or.inl rfl) rfl (pi_U (pv 0)) (fun _ _ _ _=>(Jat (i:=0) (show [("_law_step" : Str),("_law_pair" : Str)].Nodup by decide) rfl (Or.inl rfl))) (fun _ _ _ _=>(Jaq (JkD (K:=K) rfl S) (pe_ix (ix_UK (K:=K) rfl) (pv 0) Jad (fun _ _=>rfl)) (pv 1) (Jar _))) (fun _ _ _ _=>(pv 0)) (Jf4 rfl) ⋯ rfl ⋯ (hcs1 rfl rfl rfl))
   (Jab (ps_if (PW.pt (pw_or (Jaq (JcE S) (Jav JaM rfl T.Bbp JbJ (Jaa (pv 6) Jag)) Jad (Jar _)) (pw_or (Jaq Ji6 (pe_ix ix_U (pe_ix ix_U (pv 6) Jad (fun _ _=>rfl)) Jad (fun _ _=>rfl)) (pv 2) (by with_unfolding_all rfl)) (JbA (PW.pt (Jgi (Jaq JbT (pv 4) JaQ (Jar _)) (Jej (Jaq (JcE S) (pe_ix ix_U (pe_ix ix_U (pv 6) Jad (fun _ _=>rfl)) Jad (fun _ _=>rfl)) (pv 4) (Jar _)))))))))
   (Jah (Jao pe_bl))
   Jas)
   (Jab (Ja6 (pe_bm PySem.F.plainAttrs_list PySem.F.slot_list_append PySem.F.type_list_append Ja3 (pv 2) (Jaa (pe_ix ix_U (pe_ix ix_U (pv 6) Jad (fun _ _=>rfl)) Jad (fun _ _=>rfl)) Jag) (hs:=by exact Jai rfl)))
   (Jab (Jaj (i:=4) JaY.nd rfl (Or.inl rfl) (pe_ix ix_U (pe_ix ix_U (pv 6) Jad (fun _ _=>rfl)) Jad (fun _ _=>rfl)))
   (Jah (Jaj (i:=3) JaY.nd rfl (Or.inl rfl) (Bah.ev hr ⋯ rfl passF (Jaa (pv 3) (Jaa (pe_ix ix_U (pe_ix ix_U (pv 6) Jad (fun _ _=>rfl)) Jad (fun _ _=>rfl)) Jag)) (he:=by exact Jai rfl)))))))))
   (Jah (Jao (Jcn (Ja5 (Jbj S) (pv 4) (pe_ix ix_U (pv 2) Jad (fun _ _=>rfl)) (Jar _)) (JcV (Ja5 Jdo (pe_ix ix_U (pv 3) Jad (fun _ _=>rfl)) Jad (Jar _))))))))))),?_⟩
 clear S;obtain ⟨hS,hR,a9,a3,c6,hl,hc,N,W,k⟩:=h;have sl:(1000:Nat)<=sizeLine:=by decide
 have lx:=hR.length;have L:=hc.length;rw [length_map] at L;have lR:=N.len;have b3:∀ s∈R,FB 200 11 s.cost:=fun s hs=>by
  obtain ⟨y,hy,rfl⟩:=mem_map.mp (N.mem s hs);exact a3 y hy
 obtain ⟨z,hz⟩:=N.adj;have r0:R.length≠0:=fun q=>N.ne (eq_nil_of_length_eq_zero q);show tSeq _ _ _ [some (.ref a),some (.ref l),none,none,none,none,none] H;nofun;refine ⟨"list", .inl ⟨rfl,_,SqL.of hl⟩,?_⟩;nofun;refine ⟨_, .inl (SqL.of hl),?_⟩;nofun;rw [if_neg (by simp;intro q;rw [q] at L;exact r0 L.symm)];nofun
 (try ((with_reducible refine Nxt.go (by assumption) ?_);nofun))
 nofun;refine ⟨len0,?_⟩;rename_i O U c5 H H1 S1 e1;nofun
 (try ((with_reducible refine Nxt.go (by assumption) ?_);nofun))
 nofun;refine ⟨len2,?_⟩;rename_i tz c3 c2 H1 H2 S2 e2;nofun;have a5:=S1.trans S2
 (try ((with_reducible refine Nxt.go (by assumption) ?_);nofun))
 nofun
 (try ((with_reducible refine Nxt.go (by assumption) ?_);nofun))
 nofun;refine ⟨l,rfl,ForA.byLN (xs:=cx) ((SqL.of hl).same a5) (fun i σ I=>i<=cx.length/\∃ (q:Addr) (J:V) (v5 v6:Option V),σ=[some (.ref a),some (.ref l),some (.ref O),some (.ref q),some J,v5,v6]/\Same H I/\I O=some (.lst (((R.take i).map (·.src)).map V.str))/\SqT K I q [.int (cs (R.take i)).1, .int (cs (R.take i)).2]/\((i=0/\J=.non)\/(i≠0/\∃ y,(z::R.map (·.tgt))[i]?=some y/\J=.str y))) ⟨Nat.zero_le _,tz, .non,none,none,rfl,a5,S2 _ _ e1,SqT.of e2, .inl ⟨rfl,rfl⟩⟩ (fun i σ I z=>by obtain ⟨_,_,_,_,_,_,z,_⟩:=z;exact (SqL.of hl).same z) ?_ ?_⟩
 ·rintro i x σ H3 hx ⟨hi,q,J,v5,v6,rfl,D,C,hq,d⟩ N0 a7;have li:=(List.getElem?_eq_some_iff.mp hx).1;obtain ⟨c0,a2,b7⟩:=hc.at_ hx;rw [List.getElem?_map] at a2;obtain ⟨s,hs,rfl⟩:=Option.map_eq_some_iff.mp a2;obtain ⟨y,hy,rfl⟩:=mem_map.mp (N.mem s (List.mem_of_getElem? hs));have cv:=b7.sameT D.t;obtain ⟨b,rfl,c1⟩:=id cv;have b0:=a3 y hy;have a6:R.take (i+1)=R.take i++[toS (bD_ M) y]:=by rw [take_succ,hs];rfl
  have a1:=cs_fb (l:=R.take i) fun s hs=>b3 s (List.mem_of_mem_take hs);have b8:(R.take i).length=i:=by rw [length_take];ac_nf
  rw [b8] at a1;have ns:y.src∉(R.take i).map (·.src):=fun m=>by
   have nd:=N.nd;have e:R=R.take i++R.drop i:=(List.take_append_drop i R).symm;rw [e,map_append] at nd;refine (nodup_append.mp nd).2.2 _ m y.src ?_ rfl;refine mem_map.mpr ⟨toS (bD_ M) y,?_,rfl⟩;refine List.mem_of_getElem? (i:=0) ?_;rw [List.getElem?_drop,Nat.add_zero];exact hs
  have a0:(z::R.map (·.tgt))[i]?=some y.src:=by
   rw [<- hz,List.getElem?_append_left (by rw [length_map];ac_nf),List.getElem?_map,hs];rfl
  nofun;refine ⟨a,rfl, .inl ⟨⟨xs,hS.same D⟩,Jc7.list (xs:=xs) (fun j ys I=>I=H3/\All2 (LV K H3) (((Ch.all M).take j).filter fun s=>decide (key s=key y)) ys) ⟨rfl,rfl⟩ (fun j ys I hj z'=>⟨by rw [z'.1];exact hS.same D,by have h1:=z'.2.length;have h2:=List.length_filter_le (fun s=>decide (key s=key y)) ((Ch.all M).take j);rw [length_take] at h2;ac_nf⟩) ?_ ?_⟩⟩
  ·rintro j x ys H4 a8 ⟨rfl,n⟩;simpa only [length_singleton,List.replicate,JaB,map_cons,map_nil,Option.join_some];obtain ⟨s',b4,b1⟩:=hR.at_ a8;have lv:=b1.sameT D.t;obtain ⟨c7,v',w',rfl,b5,f',a4⟩:=id lv;refine ixT (i:=3) b5 rfl ?_;nofun;obtain ⟨bw,rfl,c9⟩:=id a4;refine ⟨prD (key s'),prD (key y),a4.rep,CV.rep ⟨b,rfl,c1⟩,by simp [prD,depD,depL],rfl,?_⟩;nofun;rw [Jkj];have et:((Ch.all M).take (j+1)).filter (fun s=>decide (key s=key y))=((Ch.all M).take j).filter (fun s=>decide (key s=key y))++(if key s'=key y then [s'] else []):=by
    rw [take_succ,b4,List.filter_append]
    congr 1
    simp [List.filter_cons]
   by_cases ck:key s'=key y
   ·rw [if_pos (by simpa using ck)];nofun;nofun;rw [et,if_pos ck];exact n.append (.one lv)
   ·rw [if_neg (by simpa using ck)];nofun;nofun;rw [et,if_neg ck,append_nil];exact n
  ·rintro ys H4 ⟨rfl,n⟩;rw [take_of_length_le ∅,JfZ a9 hy] at n;obtain ⟨x0,ry,rfl,lv,G⟩:=n;have G:ry=[]:=G;subst G;obtain ⟨bs,vv,ww,rfl,qs,fs,cw⟩:=lv;rename_i fo B c4 H4 H5 u Y;nofun;have o:=qs.same u;have b6:=fs.same u
   (try ((with_reducible refine Nxt.go (by assumption) ?_);nofun))
   nofun;refine ⟨_, .inl (SqL.of Y),?_⟩;nofun;rw [if_neg (by simp)];nofun;refine ixL (i:=0) (SqL.of Y) rfl ?_;refine ixT (i:=0) o rfl ?_;nofun;have X:(((R.take i).map (·.src)).map V.str).all flatV=true:=List.all_eq_true.mpr (fun v hv=>by obtain ⟨z,_,rfl⟩:=mem_map.mp hv;rfl);refine ⟨O,_,rfl, .inl (SqL.of (u _ _ C)),rfl,X,?_⟩;rw [if_neg ⋯,Jf5,decide_eq_false ns];nofun;nofun;rename_i N2 d0;have p:N2 [some (.ref a),some (.ref l),some (.ref O),some (.ref q),some J,some (.ref b),some (.ref fo)] H5:=by
    (try ((with_reducible refine Nxt.go (by assumption) ?_);nofun))
    nofun;refine ⟨.inl ⟨rfl,_,SqL.of (u _ _ C)⟩,?_⟩;refine ixL (i:=0) (SqL.of Y) rfl ?_;refine ixT (i:=0) o rfl ?_;nofun;refine ⟨O,_,_,rfl,rfl,u _ _ C,by simp only [length_map,length_take];ac_nf,?_⟩;generalize u6:upd H5 O _=H6;nofun;have e6:=putE u6;have T6:SameT H5 H6:=SameT.put u6 (u _ _ C) rfl;have nf:fo≠O:=fun q=>by rw [q,C] at B;cases B
    have Z:H6 fo=some (.lst [.ref bs]):=by rw [<- u6,Jaf nf];exact Y
    (try ((with_reducible refine Nxt.go (by assumption) ?_);nofun))
    nofun;refine ixL (i:=0) (SqL.of Z) rfl ?_;refine ixT (i:=1) (o.sameT T6) rfl ?_;nofun
    (try ((with_reducible refine Nxt.go (by assumption) ?_);nofun))
    nofun;refine ixL (i:=0) (SqL.of Z) rfl ?_;refine ixT (i:=2) (o.sameT T6) rfl ?_;nofun;refine ⟨_,_,_,y.c,rfl,⟨q,rfl,(hq.same u).sameT T6⟩,b6.sameT T6,a1.w.mono ∅ ∅,b0.w.mono ⋯ ⋯,fun ap H7 S7 e7=>?_⟩
    (try ((with_reducible refine Nxt.go (by assumption) ?_);nofun))
    nofun;refine a7 _ _ ⟨li,ap, .str y.dst,_,_,rfl,fun c w h=>?_,?_,?_, .inr ⟨by ac_nf,y.dst,?_,rfl⟩⟩
    ·refine S7 _ _ ?_;rw [<- u6,Jaf (Jac h U)];exact u _ _ (D _ _ h)
    ·rw [a6,map_append,map_append];exact S7 _ _ e6
    ·rw [a6,JgX];exact SqT.of e7
    ·rw [List.getElem?_cons_succ,List.getElem?_map,hs];rfl
   rcases d with ⟨_,rfl⟩ | ⟨_,yy,g,rfl⟩
   ·try simpa only [Option.isSome_none]
    try rw [if_neg (by simp)]
    exact p
   ·rw [a0] at g;cases g;try rw [if_pos (by simp)]
    refine ixL (i:=0) (SqL.of Y) rfl ?_;refine ixT (i:=0) o rfl ?_;simpa only [Option.isSome_none];try rw [if_neg (by simp)]
    exact p
 ·rintro σ H3 ⟨hi,q,J,v5,v6,rfl,D,C,hq,d⟩;rw [take_of_length_le ∅] at C hq;obtain ⟨yy,g,rfl⟩:∃ y,(z::R.map (·.tgt))[cx.length]?=some y/\J=.str y:=by
   rcases d with ⟨h0,_⟩ | ⟨_,h⟩
   ·ac_nf
   ·exact h
  rw [<- hz,List.getElem?_append_right (by rw [length_map];ac_nf),length_map,show cx.length-R.length=0 by ac_nf] at g;have g:z=yy:=by simpa using g
  subst g;obtain ⟨r,R',rfl⟩:∃ r R',R=r::R':=by
   cases R with
   | nil=>exact absurd rfl N.ne
   | cons r R'=>exact ⟨r,R',rfl⟩
  have b9:r.src=z:=by
   rw [map_cons,cons_append] at hz;exact (List.cons.inj hz).1
  nofun;refine ixL (i:=0) (SqL.of C) (v:=.str z) (by rw [<- b9];rfl) ?_;nofun;refine ixT (i:=0) hq rfl ?_;nofun;rw [decide_eq_true W];exact k H3 D
abbrev BaA:Stmt:=top 53
theorem JaD:Jan ["_law_ties","_law_placing","_law_faces","_law_there","_law_pair","_law_name","_law_start","_law_end","_law_low","_law_high","_law_apart"] ["_law_ties","_law_placing"] (Jae BaA):=by bv_decide
def JbY (K:W.Frag):Sp:=fun vs H Q E=>∃ (a c:Addr) (xs zs:List V) (ts:List TD) (F out:List Str) (tb:Tab),vs=[.ref a, .ref c]/\SqL K H a xs/\All2 (TV K H) ts xs/\BkH ts F/\H c=some (.lst zs)/\All2 (QV K H) (out.map fun v=>(v,plD tb v)) zs/\JbN ts out/\TTd ts out tb/\∀ H',Same H H'->Q (.bl true) H'
theorem Jee (F:FunD K "_law_placed" "_law_placed" BaA dV f fd) (T:Txt K mg Ad) (Bah:Cal P w K mg base 3 "_law_plus" ["_law_one","_law_other"] [] (Jbw K)) (Bbk:Cal P w K mg base 1 "_law_less" ["_law_one","_law_other"] [] (Jcz K)) (Bai:Cal P w K mg base 2 "_law_lowest" ["_law_top","_law_bottom"] [] (Jbb)):FnOk P w K mg base (CX1 P w) 5 f fd ["_law_ties","_law_placing"] (JbY K):=by
 refine F.okn JaD (by subst_eqs) (fun e2 A b7 s H vs Q E L h=>?_)
 obtain ⟨a,c,xs,zs,ts,F,Z,d,rfl,h⟩:=h;have hu:=L.units;refine ⟨_,(Jab (Jaj (i:=2) JaD.nd rfl (Or.inl rfl) (JfB rfl rfl rfl rfl T.BbD Jdb rfl T.n_set Jkf (Jaa (pe_op Ja1 (Jcs (own:=["_law_tie_here"]) (cs:=[]) (cl:=[]) rfl (pi_U (pv 0)) (fun _ _ _ _=>(Jat (i:=0) (show [("_law_tie_here" : Str)].Nodup by decide) rfl (Or.inl rfl))) (fun _ _ _ _=>(pe_ix (ix_UK (K:=K) rfl) (pv 0) Jad (fun _ _=>rfl))) rfl ⋯ rfl ⋯ hcl0 (hhas0 ⋯) hcs0) (Jcs (own:=["_law_tie_here"]) (cs:=[]) (cl:=[]) rfl (pi_U (pv 0)) (fun _ _ _ _=>(Jat (i:=0) (show [("_law_tie_here" : Str)].Nodup by decide) rfl (Or.inl rfl))) (fun _ _ _ _=>(pe_ix (ix_UK (K:=K) rfl) (pv 0) Jad (fun _ _=>rfl))) rfl ⋯ rfl ⋯ hcl0 (hhas0 ⋯) hcs0)) Jag)))
   (Jab (ps_if (PW.pt (pw_or (Jbz (Jbk (Jav Jaz rfl T.Bal JaK (Jaa (pv 1) (Jaa (Jb4 (v:=.ty "list") rfl T.Bbu Jb3 rfl) Jag))))) (JbA (Jaq (JcE hu) (Jcs (own:=["_law_pair"]) (cs:=[]) (cl:=[]) rfl (pi_U (pv 1)) (fun _ _ _ _=>(Jat (i:=0) (show [("_law_pair" : Str)].Nodup by decide) rfl (Or.inl rfl))) (fun _ _ _ _=>(pe_ix (ix_UK (K:=K) rfl) (pv 0) Jad (fun _ _=>rfl))) rfl ⋯ rfl ⋯ hcl0 (hhas0 ⋯) hcs0) (pv 2) (Jar _)))))
   (Jah (Jao pe_bl))
   Jas)
   (Jab (Jaj (i:=3) JaD.nd rfl (Or.inl rfl) Jbx)
   (Jab (Jbc PassesOwn.never rfl (pi_U (pv 1)) (Jat (i:=4) JaD.nd rfl (Or.inl rfl))
   (Jab (ps_if (PW.pt (pw_or (Jbz (Jbk (Jav Jaz rfl T.Bal JaK (Jaa (pv 4) (Jaa (Jb4 (v:=.ty "tuple") rfl T.BbP JdW rfl) Jag))))) (pw_or (Jaq (JcE hu) (pe_ix ix_U (pv 4) Jad (fun _ _=>rfl)) (Bai.ev L ⋯ rfl passF (Jaa (pe_ix ix_U (pe_ix ix_U (pv 4) Jad (fun _ _=>rfl)) Jad (fun _ _=>rfl)) (Jaa (pe_ix ix_U (pe_ix ix_U (pv 4) Jad (fun _ _=>rfl)) Jad (fun _ _=>rfl)) Jag)) (he:=by exact Jai rfl)) (Jar _)) (JbA (Jaq Jdo (pe_ix ix_U (pe_ix ix_U (pv 4) Jad (fun _ _=>rfl)) Jad (fun _ _=>rfl)) Jad (Jar _))))))
   (Jah (Jao pe_bl))
   Jas)
   (Jah (Jbt (hu1 hu) (pv 3) (pe_ix ix_U (pv 4) Jad (fun _ _=>rfl)) (pe_ix ix_U (pv 4) Jad (fun _ _=>rfl)) rfl))))
   (Jab (Jbc PassesOwn.never rfl (pi_U (pv 0)) (JhF rfl (JaW (Jat (i:=5) JaD.nd rfl (Or.inl rfl)) (JaW (Jat (i:=6) JaD.nd rfl (Or.inl rfl)) (JaW (Jat (i:=7) JaD.nd rfl (Or.inl rfl)) (JaW (Jat (i:=8) JaD.nd rfl (Or.inl rfl)) (JaW (Jat (i:=9) JaD.nd rfl (Or.inl rfl)) Jei))))))
   (Jab (Jaj (i:=10) JaD.nd rfl (Or.inl rfl) (Bah.ev L ⋯ rfl passF (Jaa (Jbd (hu1 hu) (pv 3) (pv 7) (fun _ _=>rfl)) (Jaa (JaR (Jaa (pe_un Jfa (pe_ix ix_U (Jbd (hu1 hu) (pv 3) (pv 6) (fun _ _=>rfl)) Jad (fun _ _=>rfl))) (Jaa (pe_ix ix_U (Jbd (hu1 hu) (pv 3) (pv 6) (fun _ _=>rfl)) Jad (fun _ _=>rfl)) Jag))) Jag)) (he:=by exact Jai rfl)))
   (Jab (ps_if (PW.pt (Jgi (Jaq JbT (pv 8) JaQ (Jar _)) (Jej (Jbk (Bbk.ev L ⋯ rfl passF (Jaa (pv 10) (Jaa (pv 8) Jag)) (he:=by exact Jai rfl))))))
   (Jah (Jao pe_bl))
   Jas)
   (Jah (ps_if (PW.pt (Jgi (Jaq JbT (pv 9) JaQ (Jar _)) (Jej (Jbk (Bbk.ev L ⋯ rfl passF (Jaa (pv 9) (Jaa (pv 10) Jag)) (he:=by exact Jai rfl))))))
   (Jah (Jao pe_bl))
   Jas)))))
   (Jah (Jao pe_bl))))))),?_⟩
 clear hu;obtain ⟨hS,hR,I,hC,hP,hF,X,k⟩:=h;have sl:(1000:Nat)<=sizeLine:=by decide
 have lx:=hR.length;have lz:=hP.length;rw [length_map] at lz;have e3:=I.l56;have d4:Z.length<=8:=by
  have:=sub_len Z F hF.1 fun z e=>by
   obtain ⟨t,p,h | h⟩:=(hF.2.2 z).mp e
   ·rw [h];exact (I.fm t p).1
   ·rw [h];exact (I.fm t p).2
  have:=I.f8;ac_nf
 show tSeq _ _ _ [some (.ref a),some (.ref c),none,none,none,none,none,none,none,none,none] H;nofun;refine ⟨a,rfl, .inl ⟨⟨xs,hS⟩,CompJ.list (xs:=xs) (fun i D g=>g=H/\D=((ts.take i).map (·.st)).map V.str) ⟨rfl,rfl⟩ (fun i D g hi z=>⟨by rw [z.1];exact hS,by rw [z.2];simp only [length_map,length_take];ac_nf⟩) ?_ ?_⟩⟩
 ·rintro i x D g hx ⟨rfl,rfl⟩;simpa only [length_singleton,length_cons,length_nil,List.replicate,JaB,map_cons,map_nil,Option.join_some];obtain ⟨t,p,b,vl,vg,rfl,hq,_,_⟩:=hR.at_ hx;refine ixT (i:=1) hq rfl ?_;nofun;rw [take_succ,p];simp
 rintro D g ⟨rfl,rfl⟩;rw [take_of_length_le ∅];rename_i c8 b6 d0 g H5 S5 e5;nofun;have b5:=hR.mono (P':=TV K H5) fun _ _ z=>z.sameT S5.t;have b2:=hS.same S5;nofun;refine ⟨a,rfl, .inl ⟨⟨xs,b2⟩,CompJ.list (xs:=xs) (fun i D g=>g=H5/\D=((ts.take i).map (·.en)).map V.str) ⟨rfl,rfl⟩ (fun i D g hi z=>⟨by rw [z.1];exact b2,by rw [z.2];simp only [length_map,length_take];ac_nf⟩) ?_ ?_⟩⟩
 ·rintro i x D g hx ⟨rfl,rfl⟩;simpa only [length_singleton,length_cons,length_nil,List.replicate,JaB,map_cons,map_nil,Option.join_some];obtain ⟨t,p,b,vl,vg,rfl,hq,_,_⟩:=b5.at_ hx;refine ixT (i:=2) hq rfl ?_;nofun;rw [take_succ,p];simp
 rintro D c5 ⟨rfl,rfl⟩;rw [take_of_length_le ∅];intro a9 a4;generalize J:upd c5 a9 _=H6;have S6:=newS a4 J;have e6:=newE J;nofun;refine .inl ⟨c8,a9,_,_,rfl,rfl,S6 _ _ e5,e6,by simp only [length_map];ac_nf,?_⟩;rename_i lc d1 d3 H6 H7 S7 e7;nofun;nofun;refine ⟨lc,ts.map (·.st)++ts.map (·.en),rfl,by rw [map_append];exact SqL.of e7,by simp only [length_append,length_map];ac_nf,⟨F,by have:=I.f8;ac_nf,fun z e=>?_⟩,fun so o2 a8 c2 a7 c6=>?_⟩
 ·rcases mem_append.mp e with e | e
  ·obtain ⟨t,p,rfl⟩:=mem_map.mp e;exact (I.fm t p).1
  ·obtain ⟨t,p,rfl⟩:=mem_map.mp e;exact (I.fm t p).2
 generalize a0:upd H7 so _=H8;have S8:=newS a8 a0;have e8:=newE a0;have a1:=S5.trans (S6.trans (S7.trans S8));have eo:o2=Z:=JcJ c6 hF.2.1 c2 hF.1 fun z=>by
  rw [a7 z,hF.2.2];constructor
  ·intro e;rcases mem_append.mp e with e | e
   ·obtain ⟨t,p,rfl⟩:=mem_map.mp e;exact ⟨t,p, .inl rfl⟩
   ·obtain ⟨t,p,rfl⟩:=mem_map.mp e;exact ⟨t,p, .inr rfl⟩
  ·rintro ⟨t,p,rfl | rfl⟩
   ·exact mem_append_left _ (mem_map.mpr ⟨t,p,rfl⟩)
   ·exact mem_append_right _ (mem_map.mpr ⟨t,p,rfl⟩)
 subst eo;have a2:=a1 _ _ hC;have b4:=hP.mono (P':=QV K H8) fun _ _ z=>z.sameT a1.t
 (try ((with_reducible refine Nxt.go (by assumption) ?_);nofun))
 nofun;refine ⟨"list", .inl ⟨rfl,_,SqL.of a2⟩,?_⟩;nofun;refine ⟨c,rfl, .inl ⟨⟨_,SqL.of a2⟩,CompJ.list (xs:=zs) (fun j D g=>g=H8/\D=(o2.take j).map V.str) ⟨rfl,rfl⟩ (fun j D g hj z=>⟨by rw [z.1];exact SqL.of a2,by rw [z.2];simp only [length_map,length_take];ac_nf⟩) ?_ ?_⟩⟩
 ·rintro j y D H9 hy ⟨rfl,rfl⟩;obtain ⟨r,L,b,v,rfl,M,hf⟩:=b4.at_ hy;rw [List.getElem?_map] at L;obtain ⟨z,e,rfl⟩:=Option.map_eq_some_iff.mp L;simpa only [length_singleton,length_cons,length_nil,List.replicate,JaB,map_cons,map_nil,Option.join_some];refine ixT (i:=0) (SqT.of M) rfl ?_;nofun;rw [take_succ,e];simp
 rintro D H9 ⟨rfl,rfl⟩;rw [take_of_length_le ∅];rename_i nl d9 d5 H9 HA SA eA;nofun;nofun;refine Jky (SqL.of eA) (SqL.of (SA _ _ e8)) ?_;rw [decide_eq_true rfl];nofun
 (try ((with_reducible refine Nxt.go (by assumption) ?_);nofun))
 nofun;have Y:=a1.trans SA;rename_i U a6 d6 HA HB SB eB;nofun;have c1:=Y.trans SB
 (try ((with_reducible refine Nxt.go (by assumption) ?_);nofun))
 nofun;refine ⟨c,rfl,ForA.byLN (xs:=zs) (SqL.of (c1 _ _ hC)) (fun i σ g=>i<=zs.length/\∃ (v4:Option V) (pb:List (Str × (Int × Int))) (kp:List (Key × V)),σ=[some (.ref a),some (.ref c),some (.ref so),some (.ref U),v4,none,none,none,none,none,none]/\Same HA g/\g U=some (.dK kp)/\DV (RF K g) pb kp/\pb.length<=i/\∀ v∈o2.take i,lk pb v=some (plD d v)) ⟨Nat.zero_le _,none,[],[],rfl,SB,eB,rfl,Nat.le_refl _,fun v u=>by simp at u⟩ (fun i σ g z=>by obtain ⟨_,_,_,_,_,z,_⟩:=z;exact SqL.of (z _ _ (Y _ _ hC))) ?_ ?_⟩
 ·rintro i y σ HC hy ⟨hi,v4,pb,kp,rfl,SC,eC,hD,c4,O⟩ N0 S;have li:=(List.getElem?_eq_some_iff.mp hy).1;have G:=Y.trans SC;obtain ⟨r,L,c9⟩:=hP.at_ hy;rw [List.getElem?_map] at L;obtain ⟨z,e,rfl⟩:=Option.map_eq_some_iff.mp L;obtain ⟨b,v,rfl,M,hf⟩:=c9.sameT G.t;have zm:=List.mem_of_getElem? e;have fb:=JhJ I X zm;have hf:FrV K HC v (plD d z).1 (plD d z).2:=hf;have M:HC b=some (.tup [.str z,v]):=M;have e0:=hD.len;have tp:Mth.top (plD d z).1 (plD d z).2=(plD d z).1/\Mth.bot (plD d z).1 (plD d z).2=(plD d z).2:=JiK fb.b1 fb.g1;nofun;refine ⟨"tuple", .inr ⟨rfl,_,SqT.of M⟩,?_⟩;nofun;refine ixT (i:=1) (SqT.of M) rfl ?_;nofun;refine ixT (i:=1) (SqT.of M) rfl ?_;refine ixF0 hf ?_;nofun;refine ixT (i:=1) (SqT.of M) rfl ?_;refine ixF1 hf ?_;nofun;refine ⟨_,_,rfl,fb.b1,fb.s2.mono ⋯,fun pl HD SD eD=>?_⟩;rw [tp.1,tp.2] at eD;nofun;refine neF (hf.same SD) (FrV.of eD) ?_;rw [decide_eq_true rfl,decide_eq_true rfl];simpa only [Bool.and_true,Bool.not_true];refine ixT (i:=1) (SqT.of (SD _ _ M)) rfl ?_;refine ixF1 (hf.same SD) ?_;simpa only [Option.isSome_none];rw [if_neg (by have:=fb.b1;simp;ac_nf)];nofun
  (try ((with_reducible refine Nxt.go (by assumption) ?_);nofun))
  nofun;refine ixT (i:=1) (SqT.of (SD _ _ M)) rfl ?_;refine ixT (i:=0) (SqT.of (SD _ _ M)) rfl ?_;nofun;refine ⟨U,_,rfl,DPut.k (k:=Sum.inr z) (SD _ _ eC) ∅,?_⟩;generalize u9:upd HD U _=HE;nofun;have e9:=putE u9;have T9:SameT HD HE:=SameT.put u9 (SD _ _ eC) rfl;have e1:=JcW (l:=pb) (f:=z) (a:=plD d z);refine S _ _ ⟨li,_,pu pb z (plD d z),_,rfl,fun b w h=>by rw [<- u9,Jaf (Jac h a6)];exact SD _ _ (SC _ _ h),e9,(hD.mono (R':=RF K HE) fun _ _ z=>FrV.sameT (SD.t.trans T9) z).put (FrV.sameT (SD.t.trans T9) hf),by ac_nf,fun v u=>?_⟩;rw [take_succ,e] at u;rw [lk_pu];by_cases q:z=v
  ·rw [if_pos q,q];nofun
  ·rw [if_neg q];nofun;rcases mem_append.mp u with u | u
   ·exact O v u
   ·exact absurd (by simpa using u) (Ne.symm q)
 ·rintro σ HC ⟨hi,v4,pb,kp,rfl,SC,eC,hD,c4,O⟩;rw [take_of_length_le ∅] at O;have G:=Y.trans SC;nofun;refine ⟨a,rfl,ForA.byLN (xs:=xs) (hS.same G) (fun i σ g=>∃ (v5 v6 v7 v8 v9 a3:Option V),σ=[some (.ref a),some (.ref c),some (.ref so),some (.ref U),v4,v5,v6,v7,v8,v9,a3]/\Same HC g) ⟨_,_,_,_,_,_,rfl,Same.refl _⟩ (fun i σ g z=>by obtain ⟨_,_,_,_,_,_,_,z⟩:=z;exact (hS.same G).same z) ?_ ?_⟩
  ·rintro i y σ HD hy ⟨v5,v6,v7,v8,v9,a3,rfl,SD⟩ N0 S;obtain ⟨t,p,c3⟩:=hR.at_ hy;have W:=List.mem_of_getElem? p;have b3:=G.trans SD;obtain ⟨b,vl,vg,rfl,hq,B,C⟩:=c3.sameT b3.t;have ok:=I.ok t W;have ms:t.st∈o2:=(hF.2.2 _).mpr ⟨t,W, .inl rfl⟩;have me:t.en∈o2:=(hF.2.2 _).mpr ⟨t,W, .inr rfl⟩;obtain ⟨ve,c0,b9⟩:=hD.at (O _ me);obtain ⟨vs,a5,b8⟩:=hD.at (O _ ms);have fe:FrV K HD ve (plD d t.en).1 (plD d t.en).2:=FrV.same SD b9;have fs:FrV K HD vs (plD d t.st).1 (plD d t.st).2:=FrV.same SD b8;have oe:=JhJ I X me;have os:=JhJ I X ms;have oa:FB 2841 2480 (addF (plD d t.en) (negF (plD d t.st))):=FB.add (n:=2840) (m:=2480) oe os.neg ⋯ ⋯ ⋯;have o:=Jkz I X hF W;unfold okB at o;rw [Bool.and_eq_true] at o;have d2:=SD _ _ eC;nofun;refine ⟨b,_,rfl,hq,rfl,?_⟩;nofun;refine ⟨U,ve,rfl,by rw [<- c0];exact DGet.k (k:=Sum.inr t.en) d2,?_⟩;refine ⟨U,vs,rfl,by rw [<- a5];exact DGet.k (k:=Sum.inr t.st) d2,?_⟩;nofun;refine ixF0 fs ?_;nofun;refine ⟨U,vs,rfl,by rw [<- a5];exact DGet.k (k:=Sum.inr t.st) d2,?_⟩;nofun;refine ixF1 fs ?_;nofun;refine ⟨len2,?_⟩;rename_i ng d7 d8 HD HE SE eE;nofun;nofun;refine ⟨_,_,plD d t.en,negF (plD d t.st),rfl,fe.same SE,FrV.of eE,oe.w.mono ⋯ ⋯,os.neg.w.mono ⋯ ⋯,fun pa HF SF eF=>?_⟩;have f4:FrV K HF (.ref pa) (addF (plD d t.en) (negF (plD d t.st))).1 (addF (plD d t.en) (negF (plD d t.st))).2:=FrV.of eF;have b0:=oa.ok (n:=3000) ⋯ ⋯;have R:=SE.trans SF;generalize addF (plD d t.en) (negF (plD d t.st))=AA at *
   (try ((with_reducible refine Nxt.go (by assumption) ?_);nofun))
   nofun;rename_i N2 e4;have N:N2 [some (.ref a),some (.ref c),some (.ref so),some (.ref U),v4,some (.str t.nm),some (.str t.st),some (.str t.en),some vl,some vg,some (.ref pa)] HF:=by
    (try ((with_reducible refine Nxt.go (by assumption) ?_);nofun))
    nofun;cases hh:t.hi with
    | none=>
     rw [hh] at C;replace C:vg=.non:=C;subst C;nofun;exact S _ _ ⟨_,_,_,_,_,_,rfl,SD.trans R⟩
    | some u=>
     have oh:FOk 3000 u:=(ok.hi u hh).mono ⋯;rw [hh] at C o;have fh:FrV K HF vg u.1 u.2:=FrV.sameT R.t C;obtain ⟨pg,rfl,_⟩:=id C;nofun;refine ⟨_,_,u,AA,rfl,fh,f4,oh,b0,?_⟩;have e:(!lessF u AA)=true:=o.2;rw [show lessF u AA=false by simpa using e];nofun;exact S _ _ ⟨_,_,_,_,_,_,rfl,SD.trans R⟩
   cases hlw:t.lo with
   | none=>
    rw [hlw] at B;replace B:vl=.non:=B;subst B;try simpa only [Option.isSome_none]
    exact N
   | some lv=>
    have ol:FOk 3000 lv:=(ok.lo lv hlw).mono ⋯;rw [hlw] at B o;have c7:FrV K HF vl lv.1 lv.2:=FrV.sameT R.t B;obtain ⟨pl,rfl,_⟩:=id B;nofun;refine ⟨_,_,AA,lv,rfl,f4,c7,b0,ol,?_⟩;have e:(!lessF AA lv)=true:=o.1;rw [show lessF AA lv=false by simpa using e];try simpa only [Option.isSome_none]
    exact N
  ·rintro σ HD ⟨v5,v6,v7,v8,v9,a3,rfl,SD⟩;nofun;exact k HD (G.trans SD)
abbrev Bau:Stmt:=top 54
theorem Jbh:Jan ["_law_book","_law_ring_here","e"] ["_law_book"] (Jae Bau):=by bv_decide
def JbG (K:W.Frag) (Ad:Adr):Sp:=fun vs H Q E=>∃ (p d:Addr) (ts:List TD) (F:List Str),vs=[.ref p]/\BK K Ad H p d ts/\BkH ts F/\(¬ ∃ π,Pot π (ssD ts))/\∀ (l:Addr) (xs:List V) (R:List SpS) (H':Hp),Same H H'->H l=none->H' l=some (.lst xs)->(∃ out,JbN ts out/\RgD (ssD ts) out R)->All2 (CV H') (R.map fun s=>(s.nm,s.fw)) xs->Q (.ref l) H'
theorem JdC (F:FunD K "_law_refused" "_law_refused" Bau dV f fd) (T:Txt K mg Ad) (m_placing:MCal P w K mg base 8 "placing" (Jbq Ad) ["self"] (Ja0 K Ad)):FnOk P w K mg base (CX1 P w) 9 f fd ["_law_book"] (JbG K Ad):=by
 refine F.okn Jbh (by subst_eqs) (fun J A k s H S Q E M h=>?_)
 obtain ⟨p,d,n,F,rfl,h⟩:=h;refine ⟨_,(Jab (Jaj (i:=1) Jbh.nd rfl (Or.inl rfl) JaQ)
   (Jab (Jgh (i:=2) Jbh.nd rfl rfl (m_placing.tr0 M ⋯ (pv 0)) rfl T.m_Impossible (fun _=>
   (Jah (Jaj (i:=1) Jbh.nd rfl (Or.inl rfl) (Jgc (K:=K) rfl (pv 2) rfl)))))
   (Jah (Jao (pv 1))))),?_⟩
 obtain ⟨v,N,y,L⟩:=h;obtain ⟨⟨O,C⟩,_⟩:=id v;show tSeq _ _ _ [some (.ref p),none,none] H;nofun
 (try ((with_reducible refine Nxt.go (by assumption) ?_);nofun))
 nofun;refine ⟨p,_,O,_,rfl,C,rfl,rfl,?_⟩;nofun;refine ⟨p,d,n,F,rfl,v,N,fun l Z D Y j q x r X W V a=>absurd a y,fun l c B R j q x r U o _ I G=>?_⟩;refine ⟨_,rfl,T.xc,fun g e=>⟨g,_,c,_, .ref l,rfl,Jam,T.xl,by rw [Jaf (Jac o e)];exact o,rfl,?_⟩⟩;have m:Same j (upd j g (ExcO g Ad.Impossible (some c))):=fun b u h=>by rw [Jaf (Jac h e)];exact h
 (try ((with_reducible refine Nxt.go (by assumption) ?_);nofun))
 nofun;exact L l B R _ (q.trans m) x (m _ _ r) I (G.mono fun _ _ z=>z.sameT m.t)
abbrev BbI:Stmt:=top 55
theorem Jbu:Jan ["_law_script","_law_faces","_law_way","_law_places_here","_law_ties","_law_many","_law_k","_law_book","_law_steps_here","_law_ring_here","_law_placing","_law_kept","_law_around"] ["_law_script"] (Jae BbI):=by bv_decide
def BbO (K:W.Frag):Sp:=fun vs H Q E=>∃ (a:Addr) (ns:List Int),vs=[.ref a]/\SqL K H a (ns.map V.int)/\ns.length<=63/\∀ H',Q (.bl true) H'
theorem JkA (F:FunD K "law" "law" BbI dV f fd) (T:Txt K mg Ad) (Bae:Cal P w K mg base 1 "_law_cell_at" ["_law_script","_law_k"] [] (Jbi K)) (Bbd:Cal P w K mg base 3 "_law_places" ["_law_script","_law_faces"] [] (JbZ K)) (Bby:Cal P w K mg base 5 "_law_tie" ["_law_cell","_law_k","_law_places_here","_law_way","_law_free"] [] (JcU K)) (k_Book:KCal P w K mg base 7 "Book" Ad.Book ["self","ties"] (Jbo K Ad)) (Bbo:Cal P w K mg base 1 "_law_steps" ["_law_ties"] [] (Jcc K)) (m_ring:MCal P w K mg base 9 "ring" (Jbq Ad) ["self"] (Jb7 K Ad)) (m_placing:MCal P w K mg base 8 "placing" (Jbq Ad) ["self"] (Ja0 K Ad)) (Bbe:Cal P w K mg base 5 "_law_placed" ["_law_ties","_law_placing"] [] (JbY K)) (BaJ:Cal P w K mg base 9 "_law_refused" ["_law_book"] [] (JbG K Ad)) (Bbl:Cal P w K mg base 4 "_law_ring" ["_law_steps_here","_law_ring_here"] [] (JcA K)) (m_ties:MCal P w K mg base 2 "ties" (Jbq Ad) ["self"] (Jb8 K Ad)):FnOk P w K mg base (CX1 P w) 11 f fd ["_law_script"] (BbO K):=by
 refine F.okn Jbu (by subst_eqs) (fun p4 A l6 s H vs Q E C h=>?_)
 obtain ⟨a,ns,rfl,h⟩:=h;have hu:=C.units;refine ⟨_,(Jab (Jaj (i:=1) Jbu.nd rfl (Or.inl rfl) (pe_op Ja1 Jad (pe_op JaA (Bae.ev C ⋯ rfl passF (Jaa (pv 0) (Jaa Jad Jag)) (he:=by exact Jai rfl)) Jad)))
   (Jab (Jaj (i:=2) Jbu.nd rfl (Or.inl rfl) (pe_op JaA (pe_op Jau (Bae.ev C ⋯ rfl passF (Jaa (pv 0) (Jaa Jad Jag)) (he:=by exact Jai rfl)) Jad) Jad))
   (Jab (Jaj (i:=3) Jbu.nd rfl (Or.inl rfl) (Bbd.ev C ⋯ rfl passF (Jaa (pv 0) (Jaa (pv 1) Jag)) (he:=by exact Jai rfl)))
   (Jab (Jaj (i:=4) Jbu.nd rfl (Or.inl rfl) (Jbs Jag))
   (Jab (Jaj (i:=5) Jbu.nd rfl (Or.inl rfl) (Jav JaM rfl T.Bbp JbJ (Jaa (Jiy sl_V (pv 0) (JhL Jad) (JhL Jad)) Jag)))
   (Jab (ps_if (Jaq JeX (pe_op JaA (Bae.ev C ⋯ rfl passF (Jaa (pv 0) (Jaa Jad Jag)) (he:=by exact Jai rfl)) Jad) Jad (Jar _))
   (Jah (Jaj (i:=5) Jbu.nd rfl (Or.inl rfl) (pe_op JaA (pe_op Jau (Bae.ev C ⋯ rfl passF (Jaa (pv 0) (Jaa Jad Jag)) (he:=by exact Jai rfl)) Jad) Jad)))
   Jas)
   (Jab (Jbc PassesOwn.never rfl (Jdp rfl T.BbQ (Jaa (pv 5) Jag)) (Jat (i:=6) Jbu.nd rfl (Or.inl rfl))
   (Jah (Ja6 (pe_bm PySem.F.plainAttrs_list PySem.F.slot_list_append PySem.F.type_list_append Ja3 (pv 4) (Jaa (Bby.ev C ⋯ rfl passF (Jaa (Bae.ev C ⋯ rfl passF (Jaa (pv 0) (Jaa (pe_op Ja1 Jad (pv 6)) Jag)) (he:=by exact Jai rfl)) (Jaa (pv 6) (Jaa (pv 3) (Jaa (pv 2) (Jaa (Ja5 (Jbj hu) (pe_op JaA (pe_op Jau (Bae.ev C ⋯ rfl passF (Jaa (pv 0) (Jaa Jad Jag)) (he:=by exact Jai rfl)) Jad) Jad) Jad (Jar _)) Jag))))) (he:=by exact Jai rfl)) Jag) (hs:=by exact Jai rfl)))))
   (Jab (Jaj (i:=7) Jbu.nd rfl (Or.inl rfl) (k_Book.ev C ⋯ rfl passF (Jaa (pv 4) Jag)))
   (Jab (Jaj (i:=8) Jbu.nd rfl (Or.inl rfl) (Bbo.ev C ⋯ rfl passF (Jaa (pv 4) Jag) (he:=by exact Jai rfl)))
   (Jab (Jaj (i:=9) Jbu.nd rfl (Or.inl rfl) (m_ring.m0 C ⋯ passF (pv 7)))
   (Jab (ps_if (Jaq Jbm (pv 9) JaQ (Jar _))
   (Jab (Jaj (i:=10) Jbu.nd rfl (Or.inl rfl) (m_placing.m0 C ⋯ passF (pv 7)))
   (Jab (ps_if (Jbz (Jbk (Bbe.ev C ⋯ rfl passF (Jaa (pv 4) (Jaa (pv 10) Jag)) (he:=by exact Jai rfl))))
   (Jah (Jao pe_bl))
   Jas)
   (Jab (Jaj (i:=11) Jbu.nd rfl (Or.inl rfl) (JcG Jcg rfl T.Bbu Jb3 (Jaa (pv 10) Jag)))
   (Jab (Ja6 (JhE PySem.F.plainAttrs_list PySem.F.slot_list_clear PySem.F.type_list_clear Jd6 (pv 10)))
   (Jah (Jao (Jcn (Ja5 (Jbj hu) (m_placing.m0 C ⋯ passF (pv 7)) (pv 11) (Jar _)) (JcV (Ja5 Jbm (m_ring.m0 C ⋯ passF (pv 7)) JaQ (Jar _))))))))))
   Jas)
   (Jab (Jaj (i:=12) Jbu.nd rfl (Or.inl rfl) (BaJ.ev C ⋯ rfl passF (Jaa (pv 7) Jag) (he:=by exact Jai rfl)))
   (Jab (ps_if (PW.pt (pw_or (Jaq (Jbj hu) (pv 2) Jad (Jar _)) (pw_or (Jbz (Jbk (Bbl.ev C ⋯ rfl passF (Jaa (pv 8) (Jaa (pv 9) Jag)) (he:=by exact Jai rfl)))) (pw_or (Jaq Jbm (pv 12) JaQ (Jar _)) (JbA (Jbz (Jbk (Bbl.ev C ⋯ rfl passF (Jaa (pv 8) (Jaa (pv 12) Jag)) (he:=by exact Jai rfl)))))))))
   (Jah (Jao pe_bl))
   Jas)
   (Jab (Jaj (i:=11) Jbu.nd rfl (Or.inl rfl) (Jbs (Jaa (JcG Jcg rfl T.Bbu Jb3 (Jaa (pv 9) Jag)) (Jaa (JcG Jcg rfl T.Bbu Jb3 (Jaa (pv 12) Jag)) Jag))))
   (Jab (Ja6 (JhE PySem.F.plainAttrs_list PySem.F.slot_list_clear PySem.F.type_list_clear Jd6 (pv 9)))
   (Jab (Ja6 (JhE PySem.F.plainAttrs_list PySem.F.slot_list_clear PySem.F.type_list_clear Jd6 (pv 12)))
   (Jah (Jao (Jcn (Ja5 (Jbj hu) (m_ring.m0 C ⋯ passF (pv 7)) (pe_ix ix_U (pv 11) Jad (fun _ _=>rfl)) (Jar _)) (Jcn (Ja5 (Jbj hu) (BaJ.ev C ⋯ rfl passF (Jaa (pv 7) Jag) (he:=by exact Jai rfl)) (pe_ix ix_U (pv 11) Jad (fun _ _=>rfl)) (Jar _)) (JcV (Ja5 (Jbj hu) (m_ties.m0 C ⋯ passF (pv 7)) (pv 4) (Jar _))))))))))))))))))))))),?_⟩
 clear hu;obtain ⟨hS,hl,k⟩:=h;have sl:(1000:Nat)<=sizeLine:=by decide
 show tSeq _ _ _ [some (.ref a),none,none,none,none,none,none,none,none,none,none,none,none] H;nofun;refine ⟨a,ns,0,rfl,hS,hl,by decide,fun c0=>?_⟩;nofun;repeat (refine And.intro (by first | exact Ja7 ⋯ | exact Jba ⋯ | exact Ja9 ⋯ | exact JaP ⋯ | exact Int.one_ne_zero | decide) ?_)
 nofun;have qf:=Mth.fm (x:=c0) (y:=5) ⋯;obtain ⟨f,hf⟩:=Int.eq_ofNat_of_zero_le (show 0<=2+c0.fmod 5 by ac_nf);rw [hf]
 (try ((with_reducible refine Nxt.go (by assumption) ?_);nofun))
 nofun;refine ⟨a,ns,0,rfl,hS,hl,by decide,fun c1=>?_⟩;nofun;repeat (refine And.intro (by first | exact Ja7 ⋯ | exact Jba ⋯ | exact Ja9 ⋯ | exact JaP ⋯ | exact Int.one_ne_zero | decide) ?_)
 nofun;have qw:=Mth.fm (x:=c1.fdiv 5) (y:=3) ⋯;obtain ⟨w,hw⟩:=Int.eq_ofNat_of_zero_le qw.1;rw [hw]
 (try ((with_reducible refine Nxt.go (by assumption) ?_);nofun))
 nofun;refine ⟨a,ns,f,rfl,hS,hl,by ac_nf,fun pl ys ls H1 p1 S1 e1 hL p6 hB=>?_⟩
 (try ((with_reducible refine Nxt.go (by assumption) ?_);nofun))
 nofun;refine ⟨len0,?_⟩;rename_i tl i2 n4 H1 H2 S2 e2;nofun;have i9:=S1.trans S2
 (try ((with_reducible refine Nxt.go (by assumption) ?_);nofun))
 nofun;refine .inl (.inl ⟨a,_,rfl,hS.same i9,?_⟩);rename_i cl o4 o5 H2 H3 S3 e3;nofun;have o8:=Jjn (xs:=ns.map V.int);nofun;refine ⟨_, .inl (SqL.of e3),?_⟩;nofun;have h9:=i9.trans S3
 (try ((with_reducible refine Nxt.go (by assumption) ?_);nofun))
 nofun;refine ⟨a,ns,1,rfl,hS.same h9,hl,by decide,fun c2=>?_⟩;nofun;repeat (refine And.intro (by first | exact Ja7 ⋯ | exact Jba ⋯ | exact Ja9 ⋯ | exact JaP ⋯ | exact Int.one_ne_zero | decide) ?_)
 nofun;rename_i N2 p7;have d2:∀ m:Nat,m<=56->N2 [some (.ref a),some (.int (f:Int)),some (.int (w:Int)),some (.ref pl),some (.ref tl),some (.int (m:Int)),none,none,none,none,none,none,none] H3:=by
  intro m o3
  (try ((with_reducible refine Nxt.go (by assumption) ?_);nofun))
  nofun;refine ⟨_,rfl,by ac_nf,by ac_nf,?_⟩;refine ForR.byN (fun i σ H'=>∃ (v6:Option V) (xs:List V) (ts:List TD),σ=[some (.ref a),some (.int (f:Int)),some (.int (w:Int)),some (.ref pl),some (.ref tl),some (.int (m:Int)),v6,none,none,none,none,none,none]/\Same H1 H'/\H' tl=some (.lst xs)/\All2 (TV K H') ts xs/\ts.length=i/\(∀ t∈ts,TG4 (decide (w=0)) ls t)/\∀ (j:Nat) (t:TD),ts[j]?=some t->t.nm=⟨#[97+j/8,97+j % 8]⟩) ⟨none,[],[],rfl,S2.trans S3,S3 _ _ e2,rfl,rfl,(fun t ht=>by cases ht),(fun j t ht=>by simp at ht)⟩ ?_ ?_
  ·rintro i σ H4 hi ⟨v6,xs,ts,rfl,S4,e4,hA,f0,hG,f4⟩ N0 j9;have la:=hA.length;nofun;refine ⟨.inl ⟨rfl,_,SqL.of e4⟩,?_⟩;nofun;refine ⟨a,ns,_,rfl,(hS.same S1).same S4,hl,by ac_nf,fun c3=>?_⟩;nofun;refine ⟨a,ns,0,rfl,(hS.same S1).same S4,hl,by decide,fun c4=>?_⟩;nofun;repeat (refine And.intro (by first | exact Ja7 ⋯ | exact Jba ⋯ | exact Ja9 ⋯ | exact JaP ⋯ | exact Int.one_ne_zero | decide) ?_)
   nofun;refine ⟨c3,i,pl,w,_,ys,ls,by rw [Int.zero_add],by ac_nf,by ac_nf,SqL.of (S4 _ _ e1),hL.mono (P':=fun (l:Int × Int) x=>FrV K H4 x l.1 l.2) fun _ _ z=>z.sameT S4.t,by ac_nf,by ac_nf,hB,fun x t H5 S5 tv tg g6=>?_⟩;nofun;refine ⟨tl,_,_,rfl,rfl,S5 _ _ e4,by ac_nf,?_⟩;generalize u6:upd H5 tl _=H6;nofun;have e6:=putE u6;have i0:SameT H5 H6:=SameT.put u6 (S5 _ _ e4) rfl;refine j9 _ _ ⟨_,xs++[x],ts++[t],rfl,fun bb u hb=>?_,e6,?_,by simp [f0],fun t' X=>?_,fun j t' X=>?_⟩
   ·rw [<- u6,Jaf (Jac hb i2)];exact S5 _ _ (S4 _ _ hb)
   ·exact (hA.mono (P':=TV K H6) fun _ _ z=>(z.sameT S5.t).sameT i0).append (.one (tv.sameT i0))
   ·rcases mem_append.mp X with h' | h'
    ·exact hG _ h'
    ·rw [mem_singleton.mp h'];exact tg
   ·by_cases c:j<ts.length
    ·rw [List.getElem?_append_left c] at X;exact f4 j t' X
    ·have lj:=(List.getElem?_eq_some_iff.mp X).1;rw [length_append,length_singleton] at lj;have : j=ts.length:=by ac_nf
     subst this;rw [List.getElem?_append_right (Nat.le_refl _),Nat.sub_self] at X;cases X;rw [g6,f0]
  ·rintro σ H4 ⟨v6,xs,ts,rfl,S4,e4,hA,f0,hG,f4⟩;have la:=hA.length;have S:=Jkc hG ∅;have i3:=JjB f4;have g2:=Jhl (ts:=ts) i3;obtain ⟨g9,h8⟩:=bDok S;nofun;intro O f5 h0 m7 o0;have Sm:Same H4 (upd (upd H4 f5 (.own O)) O (.ins Ad.Book f5 [])):=fun b u q=>by rw [Jaf (Jac q h0),Jaf (Jac q m7)];exact q
   refine ⟨O,f5,tl,xs,ts,H4,rfl,Jam,h0,Sm,SqL.of e4,hA,S.ok,i3,S.l56,fun d H9 S9 hd l3=>⟨rfl,?_⟩⟩;have f3:=hA.mono (P':=TV K H9) fun _ _ z=>z.sameT S9.t;have e7:=S9 _ _ e4
   (try ((with_reducible refine Nxt.go (by assumption) ?_);nofun))
   nofun;refine ⟨tl,xs,ts,rfl,SqL.of e7,f3,by ac_nf,fun sp sx p5 n7 d1 g4 j2=>?_⟩;have p:=l3.same d1;obtain ⟨⟨dx,d5⟩,_⟩:=id p
   (try ((with_reducible refine Nxt.go (by assumption) ?_);nofun))
   nofun;refine ⟨O,_,dx,_,rfl,d5,rfl,rfl,?_⟩;nofun;refine ⟨O,d,ts,faceL,rfl,p,S,fun n2 W U=>?_,fun rl rx R n2 W j0 i8 np hR n1=>?_⟩
   ·nofun;refine ⟨O,_,dx,_,rfl,W _ _ d5,rfl,rfl,?_⟩;nofun;refine ⟨O,d,ts,faceL,rfl,p.same W,S,fun pg py b0 tb c8 a9 o7 I hF g5 g0 _=>?_,fun _ _ _ _ _ _ _ _ _ _ np _ _=>absurd U np⟩;have d4:=d1.trans (W.trans a9);have i5:=W.trans a9;have g7:=d4 _ _ e7;have i7:=f3.mono (P':=TV K c8) fun _ _ z=>z.sameT d4.t
    (try ((with_reducible refine Nxt.go (by assumption) ?_);nofun))
    nofun;refine ⟨tl,pg,xs,py,ts,faceL,b0,tb,rfl,SqL.of g7,i7,S,I,g0,hF,g5,fun f7 D=>?_⟩;nofun
    (try ((with_reducible refine Nxt.go (by assumption) ?_);nofun))
    nofun;refine ⟨pg,py,rfl, .inl (SqL.of (D _ _ I)),?_⟩;rename_i kl e5 n5 f7 b7 c9 m4;nofun;have L:=c9 _ _ (D _ _ I);have g:=D.trans c9
    (try ((with_reducible refine Nxt.go (by assumption) ?_);nofun))
    nofun;refine ⟨.inl ⟨rfl,_,SqL.of L⟩,?_⟩;refine ⟨pg,py,rfl,rfl,L,?_⟩;generalize j4:upd b7 pg _=Z;nofun;have d8:Sx pg b7 Z:=fun b u hb h=>by rw [<- j4,Jaf hb];exact h
    have l8:SameT b7 Z:=SameT.put j4 L rfl;have Y:BK K Ad Z O d ts:=((p.same i5).same g).sl L d8;obtain ⟨⟨b3,b4⟩,_⟩:=id Y;have l4:kl≠pg:=fun z=>by rw [z,D _ _ I] at e5;cases e5
    have f6:Z kl=some (.lst py):=d8 _ _ l4 m4;have h6:All2 (QV K Z) (b0.map fun v=>(v,plD tb v)) py:=g0.mono fun _ _ z=>z.sameT (g.t.trans l8)
    (try ((with_reducible refine Nxt.go (by assumption) ?_);nofun))
    nofun;refine ⟨O,_,b3,_,rfl,b4,rfl,rfl,?_⟩;nofun;refine ⟨O,d,ts,faceL,rfl,Y,S,fun n0 p0 G l2 b8 J l5 e9 e8 f9 d7 _=>?_,fun _ _ _ _ _ _ _ _ _ _ np _ _=>absurd U np⟩;have eo:G=b0:=JcJ e8.2.1 hF.2.1 e8.1 hF.1 fun z=>by rw [e8.2.2,hF.2.2]
    subst eo;have j5:(fun v=>(v,plD l2 v))=fun v=>(v,plD tb v):=funext fun v=>by unfold plD;rw [f9.uniq g5]
    rw [j5] at d7;have n6:G.length<=8:=by
     have:=sub_len G faceL hF.1 fun z hz=>by
      obtain ⟨t,ht,h | h⟩:=(hF.2.2 z).mp hz
      ·rw [h];exact (S.fm t ht).1
      ·rw [h];exact (S.fm t ht).2
     have:=S.f8;ac_nf
    have rA:Rep K b8 (.lst ((G.map fun v=>(v,plD tb v)).map qD)) (.ref n0):=by
     simp only [Rep];exact ⟨_,_,rfl,SqL.of e9,d7.repL fun _ _ z=>z.rep⟩
    have rB:Rep K b8 (.lst ((G.map fun v=>(v,plD tb v)).map qD)) (.ref kl):=by
     simp only [Rep];exact ⟨_,_,rfl,SqL.of (J _ _ f6),(h6.mono (P':=QV K b8) fun _ _ z=>z.sameT J.t).repL fun _ _ z=>z.rep⟩
    nofun;refine ⟨_,_,rA,rB,by have:=JiV (G.map fun v=>(v,plD tb v));simp only [depD];ac_nf,rfl,?_⟩;rw [JbS];nofun;refine ⟨O,_,b3,_,rfl,J _ _ b4,rfl,rfl,?_⟩;nofun;refine ⟨O,d,ts,faceL,rfl,Y.same J,S,fun a7 d0 _=>?_,fun _ _ _ _ _ _ _ np _ _=>absurd U np⟩;nofun;exact k a7
   ·nofun;refine ⟨O,d,ts,faceL,rfl,p.same W,S,np,fun al ax R2 c8 a9 b6 I k0 j3=>?_⟩;have uq:∀ R3,(∃ b0,JbN ts b0/\RgD (ssD ts) b0 R3)->R3=R:=fun R3 h3=>by
     obtain ⟨o1,f1,r1⟩:=hR;obtain ⟨o2,f2,r2⟩:=h3;have : o1=o2:=JcJ f1.2.1 f2.2.1 f1.1 f2.1 fun z=>by rw [f1.2.2,f2.2.2]
     subst this;exact r2.uniq r1
    have eR:=uq R2 k0;subst eR;obtain ⟨o1,_,l1⟩:=id hR;have c7:=l1.rng;have i1:=JjX c7 g9 h8;have p3:w≠0:=fun z=>np (pot4 (fun t ht=>by have:=hG t ht;rw [decide_eq_true z] at this;exact this) g9 h8);have lR:=c7.len;have d6:=S.l112;have n:=W.trans a9;have N:=a9 _ _ i8;have d3:=n1.mono (P':=CV c8) fun _ _ z=>z.sameT a9.t
    (try ((with_reducible refine Nxt.go (by assumption) ?_);nofun))
    nofun;rw [if_neg (by simp;ac_nf)];nofun;nofun;refine ⟨sp,rl,sx,rx,ts,R2,rfl,SqL.of (n _ _ g4),j2.mono (fun _ _ z=>z.sameT n.t),g2,S.fb,d6,N,d3,c7,i1,fun f7 D=>?_⟩;nofun;refine ⟨sp,al,sx,ax,ts,R2,rfl,SqL.of (D _ _ (n _ _ g4)),(j2.mono (P':=LV K c8) (fun _ _ z=>z.sameT n.t)).mono (fun _ _ z=>z.sameT D.t),g2,S.fb,d6,D _ _ I,j3.mono (fun _ _ z=>z.sameT D.t),c7,i1,fun b7 c9=>?_⟩;nofun;have g:=D.trans c9
    (try ((with_reducible refine Nxt.go (by assumption) ?_);nofun))
    nofun;refine ⟨rl,rx,rfl, .inl (SqL.of (g _ _ N)),?_⟩;rename_i k1 a3 n9 b7 Z b1 k6;nofun;nofun;refine ⟨al,ax,rfl, .inl (SqL.of (b1 _ _ (g _ _ I))),?_⟩;rename_i k2 a1 n8 Z b8 J e9;nofun;refine ⟨len2,?_⟩;rename_i kk a2 o6 b8 a7 d0 k7;nofun;have r:=g.trans (b1.trans (J.trans d0));have a6:=r _ _ N;have h7:=r _ _ I;refine ⟨.inl ⟨rfl,_,SqL.of a6⟩,?_⟩;refine ⟨rl,rx,rfl,rfl,a6,?_⟩;generalize j1:upd a7 rl _=a8;nofun;have c6:Sx rl a7 a8:=fun b u hb h=>by rw [<- j1,Jaf hb];exact h
    have j7:SameT a7 a8:=SameT.put j1 a6 rfl;have l9:al≠rl:=fun z=>by rw [z,i8] at b6;cases b6
    have a4:a8 al=some (.lst ax):=c6 _ _ l9 h7
    (try ((with_reducible refine Nxt.go (by assumption) ?_);nofun))
    nofun;refine ⟨.inl ⟨rfl,_,SqL.of a4⟩,?_⟩;refine ⟨al,ax,rfl,rfl,a4,?_⟩;generalize g1:upd a8 al _=B;nofun;have d9:Sx al a8 B:=fun b u hb h=>by rw [<- g1,Jaf hb];exact h
    have k5:SameT a8 B:=SameT.put g1 a4 rfl;have M:BK K Ad B O d ts:=(((p.same n).same r).sl a6 c6).sl a4 d9;obtain ⟨⟨b3,b4⟩,_⟩:=id M;have a5:∀ b u,b≠rl->b≠al->a7 b=some u->B b=some u:=fun b u h1 h2 h=>d9 _ _ h2 (c6 _ _ h1 h);have c5:=g _ _ N;have b9:=g _ _ I;have l0:B k1=some (.lst rx):=a5 _ _ (fun z=>by rw [z,c5] at a3;cases a3) (fun z=>by rw [z,b9] at a3;cases a3) (d0 _ _ (J _ _ k6));have j6:B k2=some (.lst ax):=a5 _ _ (fun z=>by rw [z,b1 _ _ c5] at a1;cases a1) (fun z=>by rw [z,b1 _ _ b9] at a1;cases a1) (d0 _ _ e9);have h5:B kk=some (.lst [.ref k1, .ref k2]):=a5 _ _ (fun z=>by rw [z,J _ _ (b1 _ _ c5)] at a2;cases a2) (fun z=>by rw [z,J _ _ (b1 _ _ b9)] at a2;cases a2) k7;have b2:=d1 _ _ e7;have i4:B tl=some (.lst xs):=a5 _ _ (Jac b2 j0) (Jac (W _ _ b2) b6) (r _ _ (n _ _ b2));have a0:=r.t.trans (j7.trans k5);have i6:=d3.mono (P':=CV B) fun _ _ z=>z.sameT a0;have g3:=j3.mono (P':=CV B) fun _ _ z=>z.sameT a0;have g8:=f3.mono (P':=TV K B) fun _ _ z=>z.sameT (d1.t.trans (n.t.trans a0));have rp:∀ {H':Hp} {l:Addr} {xs:List V},H' l=some (.lst xs)->All2 (CV H') (R2.map fun s=>(s.nm,s.fw)) xs->Rep K H' (.lst ((R2.map fun s=>(s.nm,s.fw)).map prD)) (.ref l):=fun e h=>by
     simp only [Rep];exact ⟨_,_,rfl,SqL.of e,h.repL fun _ _ z=>CV.rep z⟩
    have dp:depL ((R2.map fun s=>(s.nm,s.fw)).map prD)<=1:=by
     rw [List.map_map];exact Jg6 R2
    (try ((with_reducible refine Nxt.go (by assumption) ?_);nofun))
    nofun;refine ⟨O,_,b3,_,rfl,b4,rfl,rfl,?_⟩;nofun;refine ⟨O,d,ts,faceL,rfl,M,S,fun _ _ U=>absurd U np,fun r3 x3 R3 o9 b5 h3 m9 _ l7 j8=>?_⟩;have m1:=uq R3 l7;subst m1;nofun;refine ixL (i:=0) (SqL.of (b5 _ _ h5)) rfl ?_;nofun;refine ⟨_,_,rp m9 j8,rp (b5 _ _ l0) (i6.mono fun _ _ z=>z.sameT b5.t),by simp only [depD];ac_nf,rfl,?_⟩;rw [JbS];nofun;refine ⟨O,d,ts,faceL,rfl,M.same b5,S,np,fun r4 x4 R4 p2 m3 h4 k8 m8 m6=>?_⟩;have k9:=uq R4 m8;subst k9;have o:=b5.trans m3;nofun;refine ixL (i:=1) (SqL.of (o _ _ h5)) rfl ?_;nofun;refine ⟨_,_,rp k8 m6,rp (o _ _ j6) (g3.mono fun _ _ z=>z.sameT o.t),by simp only [depD];ac_nf,rfl,?_⟩;rw [JbS];nofun;refine ⟨O,_,b3,_,rfl,o _ _ b4,rfl,rfl,?_⟩;nofun;refine ⟨O,d,ts,rfl,M.same o,S.l56,fun k4 p8 Hz n3 hz ez m2=>?_⟩;have k3:Rep K Hz (.lst (ts.map tdD)) (.ref k4):=by
     simp only [Rep];exact ⟨_,_,rfl,SqL.of ez,m2.repL fun t v z=>z.rep⟩
    have e0:=o.trans n3;have m5:Rep K Hz (.lst (ts.map tdD)) (.ref tl):=by
     simp only [Rep];exact ⟨_,_,rfl,SqL.of (e0 _ _ i4),(g8.mono (P':=TV K Hz) fun _ _ z=>z.sameT e0.t).repL fun t v z=>z.rep⟩
    nofun;refine ⟨_,_,k3,m5,by have:=JiW ts;simp only [depD];ac_nf,rfl,?_⟩;rw [JbS];exact k Hz
 split
 ·refine ⟨a,ns,1,rfl,hS.same h9,hl,by decide,fun c3=>?_⟩;simpa only [Option.isSome_none];repeat (refine And.intro (by first | exact Ja7 ⋯ | exact Jba ⋯ | exact Ja9 ⋯ | exact JaP ⋯ | exact Int.one_ne_zero | decide) ?_)
  have q3:=Mth.fm (x:=c3.fdiv 3) (y:=11) ⋯;obtain ⟨m,hm⟩:=Int.eq_ofNat_of_zero_le q3.1;rw [hm];exact d2 m ∅
 ·exact d2 _ ∅
end
theorem lenE1 {α} {P:List α->Prop} (h:∀ a,P [a]):∀ us:List α,us.length=1->P us|[a],_=>h a
theorem lenE2 {α} {P:List α->Prop} (h:∀ a b,P [a,b]):∀ us:List α,us.length=2->P us|[a,b],_=>h a b
theorem lenE3 {α} {P:List α->Prop} (h:∀ a b c,P [a,b,c]):∀ us:List α,us.length=3->P us|[a,b,c],_=>h a b c
theorem lenE4 {α} {P:List α->Prop} (h:∀ a b c d,P [a,b,c,d]):∀ us:List α,us.length=4->P us|[a,b,c,d],_=>h a b c d
theorem lenE5 {α} {P:List α->Prop} (h:∀ a b c d e,P [a,b,c,d,e]):∀ us:List α,us.length=5->P us|[a,b,c,d,e],_=>h a b c d e
theorem lenE6 {α} {P:List α->Prop} (h:∀ a b c d e f,P [a,b,c,d,e,f]):∀ us:List α,us.length=6->P us|[a,b,c,d,e,f],_=>h a b c d e f
theorem lenE0 {α} {P:List α->Prop} (h:P []):∀ us:List α,us.length=0->P us|[],_=>h
local macro_rules|`(∅)=>`(⟨$(Lean.mkIdent `SlackError),$(Lean.mkIdent `NoTie),$(Lean.mkIdent `Impossible),$(Lean.mkIdent `Tie),$(Lean.mkIdent `Free),$(Lean.mkIdent `AtLeast),$(Lean.mkIdent `AtMost),$(Lean.mkIdent `Just),$(Lean.mkIdent `Between),$(Lean.mkIdent `Scale),$(Lean.mkIdent `Step),$(Lean.mkIdent `Book),(.str "abcdefghijklmnopqrstuvwxyz" $(Lean.mkIdent `Baa)),(.int 8 $(Lean.mkIdent `Bab)),$(Lean.mkIdent `ZERO)⟩)
local macro_rules|`($f:ident∘$n:str)=>`(W.nsIn $(Lean.mkIdent `K) mainGlobals $n=some (some (.ref $f)))|`($i:num∘$n:str∘$t:ident)=>`($i∘$n∘$n∘$t)|`($i:num∘$n:str∘$q:str∘$t:ident)=>do let v:=fun c=>Lean.mkIdent (.mkSimple s!"{c}{i.getNat}");`($(Lean.mkIdent `K).lookup $(v "f")=some ⟨$(v "D"),$(v "A"),.func (W.fnOf $n $q (Jam $t) (Jal $t) (Jae $t) .none $(v "E") $(v "G") $(v "M") $(v "B") $(v "U") $(v "V")),$(v "C")⟩)
local macro_rules|`($c:ident∣$n:str)=>`(W.codeIn $(Lean.mkIdent `K) $c $n=true)
local macro_rules|`(-$f)=>`(W.keepIn $(Lean.mkIdent `K) (.ref $f)=true)
local macro_rules|`($f:ident/$n:str)=>`(W.findIn $(Lean.mkIdent `K) (.ref $f) $n=some none)|`($f:ident/$n:str/$g:ident)=>`(W.findIn $(Lean.mkIdent `K) (.ref $f) $n=some (some (.ref $g)))
local macro_rules|`(tactic|bv_omega)=>`(tactic|first|exact fun _ _ _ _ _ _=>lenE1 fun _=>rfl|exact fun _ _ _ _ _ _=>lenE2 fun _ _=>rfl|exact fun _ _ _ _ _ _=>lenE3 fun _ _ _=>rfl|exact fun _ _ _ _ _ _=>lenE4 fun _ _ _ _=>rfl|exact fun _ _ _ _ _ _=>lenE5 fun _ _ _ _ _=>rfl|exact fun _ _ _ _ _ _=>lenE6 fun _ _ _ _ _ _=>rfl|exact fun _ _ _ _ _ _=>lenE0 rfl)
theorem all_mk {l:W.OpenLaw} {w:World} {K:W.Frag} {h:Heap} {mg:Str->Option Value} {fa:Addr} {SlackError NoTie Impossible Tie Free AtLeast AtMost Just Between Scale Step Book:Addr} (X:K.In h) (G:h.Ns mainGlobals mg) (hfa:mg "law"=some (.ref fa)) {f1 f2 f3 f4 f5 f6 f7 f8 f9 f10 f11 f12 f13 f14 f15 f16 f17 f18 f19 f20 f21 f22 f23 f24 f25 f26 f27 f28 f29 f30 f31 f32 f33 f34 f35 f36 f37 f38 f39 f40 f41 f42 f43 f44 f45:Addr} {A1 B1 A2 B2 A3 B3 A4 B4 A5 B5 A6 B6 A7 B7 A8 B8 A9 B9 A10 B10 A11 B11 A12 B12 A13 B13 A14 B14 A15 B15 A16 B16 A17 B17 A18 B18 A19 B19 A20 B20 A21 B21 A22 B22 A23 B23 A24 B24 A25 B25 A26 B26 A27 B27 A28 B28 A29 B29 A30 B30 A31 B31 A32 B32 A33 B33 A34 B34 A35 B35 A36 B36 A37 B37 A38 B38 A39 B39 A40 B40 A41 B41 A42 B42 A43 B43 A44 B44 A45 B45:Option Addr} {C1 C2 C3 C4 C5 C6 C7 C8 C9 C10 C11 C12 C13 C14 C15 C16 C17 C18 C19 C20 C21 C22 C23 C24 C25 C26 C27 C28 C29 C30 C31 C32 C33 C34 C35 C36 C37 C38 C39 C40 C41 C42 C43 C44 C45:Array (Option Value)} {D1 E1 G1 M1 U1 V1 D2 E2 G2 M2 U2 V2 D3 E3 G3 M3 U3 V3 D4 E4 G4 M4 U4 V4 D5 E5 G5 M5 U5 V5 D6 E6 G6 M6 U6 V6 D7 E7 G7 M7 U7 V7 D8 E8 G8 M8 U8 V8 D9 E9 G9 M9 U9 V9 D10 E10 G10 M10 U10 V10 D11 E11 G11 M11 U11 V11 D12 E12 G12 M12 U12 V12 D13 E13 G13 M13 U13 V13 D14 E14 G14 M14 U14 V14 D15 E15 G15 M15 U15 V15 D16 E16 G16 M16 U16 V16 D17 E17 G17 M17 U17 V17 D18 E18 G18 M18 U18 V18 D19 E19 G19 M19 U19 V19 D20 E20 G20 M20 U20 V20 D21 E21 G21 M21 U21 V21 D22 E22 G22 M22 U22 V22 D23 E23 G23 M23 U23 V23 D24 E24 G24 M24 U24 V24 D25 E25 G25 M25 U25 V25 D26 E26 G26 M26 U26 V26 D27 E27 G27 M27 U27 V27 D28 E28 G28 M28 U28 V28 D29 E29 G29 M29 U29 V29 D30 E30 G30 M30 U30 V30 D31 E31 G31 M31 U31 V31 D32 E32 G32 M32 U32 V32 D33 E33 G33 M33 U33 V33 D34 E34 G34 M34 U34 V34 D35 E35 G35 M35 U35 V35 D36 E36 G36 M36 U36 V36 D37 E37 G37 M37 U37 V37 D38 E38 G38 M38 U38 V38 D39 E39 G39 M39 U39 V39 D40 E40 G40 M40 U40 V40 D41 E41 G41 M41 U41 V41 D42 E42 G42 M42 U42 V42 D43 E43 G43 M43 U43 V43 D44 E44 G44 M44 U44 V44 D45 E45 G45 M45 U45 V45:Value}
  {T20:Addr} {tc20:Value} {td20:Option Addr} {tn20:Nat} {ts20:Array (Option Value)} {tk20a:Tok}
  {Baa:Tok}
  {Bab:Tok}
  {ZERO:Addr} {Bb2:Option Addr} {Bb3:Nat} {Bb4:Array (Option Value)} {BbY BbZ:Tok}
  {xd_Impossible:Option Addr} {xnm_Impossible xq_Impossible:Str} {xN_Impossible:Addr} {xbs_Impossible xsub_Impossible:List Value} {xsn_Impossible:List Str} {xab_Impossible:Bool} {xcol_Impossible:Option Bool} {xk0_Impossible xk1_Impossible xk2_Impossible xk3_Impossible xk5_Impossible:Option Value}
  (g_SlackError:SlackError∘"SlackError")
  (g_NoTie:NoTie∘"NoTie")
  (g_Impossible:Impossible∘"Impossible")
  (g_Tie:Tie∘"Tie")
  (g_Free:Free∘"Free")
  (g_AtLeast:AtLeast∘"AtLeast")
  (g_AtMost:AtMost∘"AtMost")
  (g_Just:Just∘"Just")
  (g_Between:Between∘"Between")
  (BbJ:Scale∘"Scale")
  (g_Step:Step∘"Step")
  (g_Book:Book∘"Book")
  (a1:f1∘"common_divisor") (l1:K.lookup f1=some ⟨D1,A1, .func (W.fnOf "common_divisor" "common_divisor" (Jal Baf) (Jak Baf) (Jae Baf) .none E1 G1 M1 B1 U1 V1),C1⟩) (c1:U1∣"common_divisor") (k1:-f1)
  (a2:f2∘"plus") (l2:K.lookup f2=some ⟨D2,A2, .func (W.fnOf "plus" "plus" (Jal BbB) (Jak BbB) (Jae BbB) .none E2 G2 M2 B2 U2 V2),C2⟩) (c2:U2∣"plus") (k2:-f2)
  (a3:f3∘"minus") (l3:K.lookup f3=some ⟨D3,A3, .func (W.fnOf "minus" "minus" (Jal Bbq) (Jak Bbq) (Jae Bbq) .none E3 G3 M3 B3 U3 V3),C3⟩) (c3:U3∣"minus") (k3:-f3)
  (a4:f4∘"under") (l4:K.lookup f4=some ⟨D4,A4, .func (W.fnOf "under" "under" (Jal Bbr) (Jak Bbr) (Jae Bbr) .none E4 G4 M4 B4 U4 V4),C4⟩) (c4:U4∣"under") (k4:-f4)
  (a5:f5∘"is_name") (l5:K.lookup f5=some ⟨D5,A5, .func (W.fnOf "is_name" "is_name" (Jal BaX) (Jak BaX) (Jae BaX) .none E5 G5 M5 B5 U5 V5),C5⟩) (c5:U5∣"is_name") (k5:-f5)
  (a6:f6∘"is_whole") (l6:K.lookup f6=some ⟨D6,A6, .func (W.fnOf "is_whole" "is_whole" (Jal BaK) (Jak BaK) (Jae BaK) .none E6 G6 M6 B6 U6 V6),C6⟩) (c6:U6∣"is_whole") (k6:-f6)
  (a7:f7∘"is_fraction") (l7:K.lookup f7=some ⟨D7,A7, .func (W.fnOf "is_fraction" "is_fraction" (Jal Bap) (Jak Bap) (Jae Bap) .none E7 G7 M7 B7 U7 V7),C7⟩) (c7:U7∣"is_fraction") (k7:-f7)
  (a8:f8∘"is_bound") (l8:K.lookup f8=some ⟨D8,A8, .func (W.fnOf "is_bound" "is_bound" (Jal BaL) (Jak BaL) (Jae BaL) .none E8 G8 M8 B8 U8 V8),C8⟩) (c8:U8∣"is_bound") (k8:-f8)
  (a9:f9∘"are_faces") (l9:K.lookup f9=some ⟨D9,A9, .func (W.fnOf "are_faces" "are_faces" (Jal BaB) (Jak BaB) (Jae BaB) .none E9 G9 M9 B9 U9 V9),C9⟩) (c9:U9∣"are_faces") (k9:-f9)
  (a10:f10∘"are_bounds") (l10:K.lookup f10=some ⟨D10,A10, .func (W.fnOf "are_bounds" "are_bounds" (Jal Bav) (Jak Bav) (Jae Bav) .none E10 G10 M10 B10 U10 V10),C10⟩) (c10:U10∣"are_bounds") (k10:-f10)
  (a11:f11∘"is_tie") (l11:K.lookup f11=some ⟨D11,A11, .func (W.fnOf "is_tie" "is_tie" (Jal Bbh) (Jak Bbh) (Jae Bbh) .none E11 G11 M11 B11 U11 V11),C11⟩) (c11:U11∣"is_tie") (k11:-f11)
  (a12:Tie/"__init__"/f12) (l12:K.lookup f12=some ⟨D12,A12, .func (W.fnOf "__init__" "Tie.__init__" (Jal Bam) (Jak Bam) (Jae Bam) .none E12 G12 M12 B12 U12 V12),C12⟩) (c12:U12∣"Tie.__init__") (k12:-f12)
  (a13:Tie/"plain"/f13) (l13:K.lookup f13=some ⟨D13,A13, .func (W.fnOf "plain" "Tie.plain" (Jal BaC) (Jak BaC) (Jae BaC) .none E13 G13 M13 B13 U13 V13),C13⟩) (c13:U13∣"Tie.plain") (k13:-f13)
  (a14:f14∘"tie_of") (l14:K.lookup f14=some ⟨D14,A14, .func (W.fnOf "tie_of" "tie_of" (Jal Bbi) (Jak Bbi) (Jae Bbi) .none E14 G14 M14 B14 U14 V14),C14⟩) (c14:U14∣"tie_of") (k14:-f14)
  (a15:Tie/"steps"/f15) (l15:K.lookup f15=some ⟨D15,A15, .func (W.fnOf "steps" "Tie.steps" (Jal BaD) (Jak BaD) (Jae BaD) .none E15 G15 M15 B15 U15 V15),C15⟩) (c15:U15∣"Tie.steps") (k15:-f15)
  (a16:Scale/"__init__"/f16) (l16:K.lookup f16=some ⟨D16,A16, .func (W.fnOf "__init__" "Scale.__init__" (Jal Bag) (Jak Bag) (Jae Bag) .none E16 G16 M16 B16 U16 V16),C16⟩) (c16:U16∣"Scale.__init__") (k16:-f16)
  (a17:Scale/"lifted"/f17) (l17:K.lookup f17=some ⟨D17,A17, .func (W.fnOf "lifted" "Scale.lifted" (Jal Ban) (Jak Ban) (Jae Ban) .none E17 G17 M17 B17 U17 V17),C17⟩) (c17:U17∣"Scale.lifted") (k17:-f17)
  (a18:Step/"__init__"/f18) (l18:K.lookup f18=some ⟨D18,A18, .func (W.fnOf "__init__" "Step.__init__" (Jal Baj) (Jak Baj) (Jae Baj) .none E18 G18 M18 B18 U18 V18),C18⟩) (c18:U18∣"Step.__init__") (k18:-f18)
  (a19:f19∘"steps_of") (l19:K.lookup f19=some ⟨D19,A19, .func (W.fnOf "steps_of" "steps_of" (Jal BaM) (Jak BaM) (Jae BaM) .none E19 G19 M19 B19 U19 V19),C19⟩) (c19:U19∣"steps_of") (k19:-f19)
  (a20:Impossible/"__init__"/f20) (l20:K.lookup f20=some ⟨D20,A20, .func (W.fnOf "__init__" "Impossible.__init__" (Jal Bad) (Jak Bad) (Jae Bad) (.ref T20) E20 G20 M20 B20 U20 V20),C20⟩) (c20:U20∣"Impossible.__init__") (k20:-f20)
  (t20:K.lookup T20=some ⟨tc20,td20, .seq #[.str "" tk20a, .none] tn20,ts20⟩)
  (a21:f21∘"ring_behind") (l21:K.lookup f21=some ⟨D21,A21, .func (W.fnOf "ring_behind" "ring_behind" (Jal Baq) (Jak Baq) (Jae Baq) .none E21 G21 M21 B21 U21 V21),C21⟩) (c21:U21∣"ring_behind") (k21:-f21)
  (a22:f22∘"last_steps") (l22:K.lookup f22=some ⟨D22,A22, .func (W.fnOf "last_steps" "last_steps" (Jal Baw) (Jak Baw) (Jae Baw) .none E22 G22 M22 B22 U22 V22),C22⟩) (c22:U22∣"last_steps") (k22:-f22)
  (a23:f23∘"chains_from") (l23:K.lookup f23=some ⟨D23,A23, .func (W.fnOf "chains_from" "chains_from" (Jal Bar) (Jak Bar) (Jae Bar) .none E23 G23 M23 B23 U23 V23),C23⟩) (c23:U23∣"chains_from") (k23:-f23)
  (a24:f24∘"faces_of") (l24:K.lookup f24=some ⟨D24,A24, .func (W.fnOf "faces_of" "faces_of" (Jal BaN) (Jak BaN) (Jae BaN) .none E24 G24 M24 B24 U24 V24),C24⟩) (c24:U24∣"faces_of") (k24:-f24)
  (a25:Book/"kept"/f25) (l25:K.lookup f25=some ⟨D25,A25, .func (W.fnOf "kept" "Book.kept" (Jal BaE) (Jak BaE) (Jae BaE) .none E25 G25 M25 B25 U25 V25),C25⟩) (c25:U25∣"Book.kept") (k25:-f25)
  (a26:Book/"ties"/f26) (l26:K.lookup f26=some ⟨D26,A26, .func (W.fnOf "ties" "Book.ties" (Jal BaF) (Jak BaF) (Jae BaF) .none E26 G26 M26 B26 U26 V26),C26⟩) (c26:U26∣"Book.ties") (k26:-f26)
  (a27:Book/"faces"/f27) (l27:K.lookup f27=some ⟨D27,A27, .func (W.fnOf "faces" "Book.faces" (Jal Bax) (Jak Bax) (Jae Bax) .none E27 G27 M27 B27 U27 V27),C27⟩) (c27:U27∣"Book.faces") (k27:-f27)
  (a28:Book/"__init__"/f28) (l28:K.lookup f28=some ⟨D28,A28, .func (W.fnOf "__init__" "Book.__init__" (Jal Bak) (Jak Bak) (Jae Bak) .none E28 G28 M28 B28 U28 V28),C28⟩) (c28:U28∣"Book.__init__") (k28:-f28)
  (a29:f29∘"places_of") (l29:K.lookup f29=some ⟨D29,A29, .func (W.fnOf "places_of" "places_of" (Jal BaG) (Jak BaG) (Jae BaG) .none E29 G29 M29 B29 U29 V29),C29⟩) (c29:U29∣"places_of") (k29:-f29)
  (a30:Book/"placing"/f30) (l30:K.lookup f30=some ⟨D30,A30, .func (W.fnOf "placing" "Book.placing" (Jal Bao) (Jak Bao) (Jae Bao) .none E30 G30 M30 B30 U30 V30),C30⟩) (c30:U30∣"Book.placing") (k30:-f30)
  (a31:Book/"ring"/f31) (l31:K.lookup f31=some ⟨D31,A31, .func (W.fnOf "ring" "Book.ring" (Jal BaH) (Jak BaH) (Jae BaH) .none E31 G31 M31 B31 U31 V31),C31⟩) (c31:U31∣"Book.ring") (k31:-f31)
  (a32:f32∘"_law_divisor") (l32:K.lookup f32=some ⟨D32,A32, .func (W.fnOf "_law_divisor" "_law_divisor" (Jal Bas) (Jak Bas) (Jae Bas) .none E32 G32 M32 B32 U32 V32),C32⟩) (c32:U32∣"_law_divisor") (k32:-f32)
  (a33:f33∘"_law_cell_at") (l33:K.lookup f33=some ⟨D33,A33, .func (W.fnOf "_law_cell_at" "_law_cell_at" (Jal Bat) (Jak Bat) (Jae Bat) .none E33 G33 M33 B33 U33 V33),C33⟩) (c33:U33∣"_law_cell_at") (k33:-f33)
  (a34:f34∘"_law_lowest") (l34:K.lookup f34=some ⟨D34,A34, .func (W.fnOf "_law_lowest" "_law_lowest" (Jal Bay) (Jak Bay) (Jae Bay) .none E34 G34 M34 B34 U34 V34),C34⟩) (c34:U34∣"_law_lowest") (k34:-f34)
  (a35:f35∘"_law_plus") (l35:K.lookup f35=some ⟨D35,A35, .func (W.fnOf "_law_plus" "_law_plus" (Jal BaO) (Jak BaO) (Jae BaO) .none E35 G35 M35 B35 U35 V35),C35⟩) (c35:U35∣"_law_plus") (k35:-f35)
  (a36:f36∘"_law_less") (l36:K.lookup f36=some ⟨D36,A36, .func (W.fnOf "_law_less" "_law_less" (Jal BaP) (Jak BaP) (Jae BaP) .none E36 G36 M36 B36 U36 V36),C36⟩) (c36:U36∣"_law_less") (k36:-f36)
  (a37:f37∘"_law_places") (l37:K.lookup f37=some ⟨D37,A37, .func (W.fnOf "_law_places" "_law_places" (Jal Baz) (Jak Baz) (Jae Baz) .none E37 G37 M37 B37 U37 V37),C37⟩) (c37:U37∣"_law_places") (k37:-f37)
  (a38:f38∘"_law_face") (l38:K.lookup f38=some ⟨D38,A38, .func (W.fnOf "_law_face" "_law_face" (Jal BaQ) (Jak BaQ) (Jae BaQ) .none E38 G38 M38 B38 U38 V38),C38⟩) (c38:U38∣"_law_face") (k38:-f38)
  (a39:f39∘"_law_off") (l39:K.lookup f39=some ⟨D39,A39, .func (W.fnOf "_law_off" "_law_off" (Jal BaY) (Jak BaY) (Jae BaY) .none E39 G39 M39 B39 U39 V39),C39⟩) (c39:U39∣"_law_off") (k39:-f39)
  (a40:f40∘"_law_tie") (l40:K.lookup f40=some ⟨D40,A40, .func (W.fnOf "_law_tie" "_law_tie" (Jal BaZ) (Jak BaZ) (Jae BaZ) .none E40 G40 M40 B40 U40 V40),C40⟩) (c40:U40∣"_law_tie") (k40:-f40)
  (a41:f41∘"_law_steps") (l41:K.lookup f41=some ⟨D41,A41, .func (W.fnOf "_law_steps" "_law_steps" (Jal BaI) (Jak BaI) (Jae BaI) .none E41 G41 M41 B41 U41 V41),C41⟩) (c41:U41∣"_law_steps") (k41:-f41)
  (a42:f42∘"_law_ring") (l42:K.lookup f42=some ⟨D42,A42, .func (W.fnOf "_law_ring" "_law_ring" (Jal BaR) (Jak BaR) (Jae BaR) .none E42 G42 M42 B42 U42 V42),C42⟩) (c42:U42∣"_law_ring") (k42:-f42)
  (a43:f43∘"_law_placed") (l43:K.lookup f43=some ⟨D43,A43, .func (W.fnOf "_law_placed" "_law_placed" (Jal BaA) (Jak BaA) (Jae BaA) .none E43 G43 M43 B43 U43 V43),C43⟩) (c43:U43∣"_law_placed") (k43:-f43)
  (a44:f44∘"_law_refused") (l44:K.lookup f44=some ⟨D44,A44, .func (W.fnOf "_law_refused" "_law_refused" (Jal Bau) (Jak Bau) (Jae Bau) .none E44 G44 M44 B44 U44 V44),C44⟩) (c44:U44∣"_law_refused") (k44:-f44)
  (a45:f45∘"law") (l45:K.lookup f45=some ⟨D45,A45, .func (W.fnOf "law" "law" (Jal BbI) (Jak BbI) (Jae BbI) .none E45 G45 M45 B45 U45 V45),C45⟩) (c45:U45∣"law") (k45:-f45)
  (z_abs:W.nsIn K mainGlobals "abs"=some none)
  (z_isinstance:W.nsIn K mainGlobals "isinstance"=some none)
  (z_len:W.nsIn K mainGlobals "len"=some none)
  (z_all:W.nsIn K mainGlobals "all"=some none)
  (z_int:W.nsIn K mainGlobals "int"=some none)
  (z_bool:W.nsIn K mainGlobals "bool"=some none)
  (z_tuple:W.nsIn K mainGlobals "tuple"=some none)
  (z_str:W.nsIn K mainGlobals "str"=some none)
  (z_range:W.nsIn K mainGlobals "range"=some none)
  (z_list:W.nsIn K mainGlobals "list"=some none)
  (z_reversed:W.nsIn K mainGlobals "reversed"=some none)
  (z_sorted:W.nsIn K mainGlobals "sorted"=some none)
  (z_set:W.nsIn K mainGlobals "set"=some none)
  (z_dict:W.nsIn K mainGlobals "dict"=some none)
  (BaT:W.nsIn K mainGlobals "SMALL_LETTERS"=some (some (.str "abcdefghijklmnopqrstuvwxyz" Baa)))
  (BaW:W.nsIn K mainGlobals "LONGEST_NAME"=some (some (.int 8 Bab)))
  (BbW:ZERO∘"ZERO")
  (h_ZERO:K.lookup ZERO=some ⟨.type "tuple",Bb2, .seq #[.int 0 BbY, .int 1 BbZ] Bb3,Bb4⟩)
  (x_SlackError:W.excIn K SlackError [.type "ValueError", .type "Exception", .type "BaseException", .type "object"] "ValueError.__new__"=true)
  (x_NoTie:W.excIn K NoTie [.type "ValueError", .type "Exception", .type "BaseException", .type "object"] "ValueError.__new__"=true)
  (lx_Impossible:K.lookup Impossible=some (excClassObj xnm_Impossible xq_Impossible Impossible xN_Impossible xbs_Impossible (.ref SlackError::BMV) true xsn_Impossible xsub_Impossible xab_Impossible xcol_Impossible xd_Impossible xk0_Impossible xk1_Impossible xk2_Impossible xk3_Impossible xk5_Impossible "ValueError.__new__"))
  (mk_Free:W.makesIn K Free=true)
  (mi_Free:Free/"__init__"/f12)
  (mf_Free:W.isFn K (.ref f12)=true)
  (mp_Free:-Free)
  (me_steps_Free:Free/"steps"/f15)
  (me_plain_Free:Free/"plain"/f13)
  (mk_AtLeast:W.makesIn K AtLeast=true)
  (mi_AtLeast:AtLeast/"__init__"/f12)
  (mf_AtLeast:W.isFn K (.ref f12)=true)
  (mp_AtLeast:-AtLeast)
  (me_steps_AtLeast:AtLeast/"steps"/f15)
  (me_plain_AtLeast:AtLeast/"plain"/f13)
  (mk_AtMost:W.makesIn K AtMost=true)
  (mi_AtMost:AtMost/"__init__"/f12)
  (mf_AtMost:W.isFn K (.ref f12)=true)
  (mp_AtMost:-AtMost)
  (me_steps_AtMost:AtMost/"steps"/f15)
  (me_plain_AtMost:AtMost/"plain"/f13)
  (mk_Just:W.makesIn K Just=true)
  (mi_Just:Just/"__init__"/f12)
  (mf_Just:W.isFn K (.ref f12)=true)
  (mp_Just:-Just)
  (me_steps_Just:Just/"steps"/f15)
  (me_plain_Just:Just/"plain"/f13)
  (mk_Between:W.makesIn K Between=true)
  (mi_Between:Between/"__init__"/f12)
  (mf_Between:W.isFn K (.ref f12)=true)
  (mp_Between:-Between)
  (me_steps_Between:Between/"steps"/f15)
  (me_plain_Between:Between/"plain"/f13)
  (mm_steps:W.isFn K (.ref f15)=true)
  (Ba4:W.isFn K (.ref f13)=true)
  (BbK:W.makesIn K Scale=true)
  (BbL:Scale/"__init__"/f16)
  (BbM:W.isFn K (.ref f16)=true)
  (BbN:-Scale)
  (mk_Step:W.makesIn K Step=true)
  (mi_Step:Step/"__init__"/f18)
  (mf_Step:W.isFn K (.ref f18)=true)
  (mp_Step:-Step)
  (BaU:Scale/"lifted"/f17)
  (BaV:W.isFn K (.ref f17)=true)
  (mk_Book:W.makesIn K Book=true)
  (mi_Book:Book/"__init__"/f28)
  (mf_Book:W.isFn K (.ref f28)=true)
  (mp_Book:-Book)
  (mi_Impossible:Impossible/"__init__"/f20)
  (mf_Impossible:W.isFn K (.ref f20)=true)
  (mp_Impossible:-Impossible)
  (me_kept_Book:Book/"kept"/f25)
  (mm_kept:W.isFn K (.ref f25)=true)
  (me_ties_Book:Book/"ties"/f26)
  (mm_ties:W.isFn K (.ref f26)=true)
  (me_faces_Book:Book/"faces"/f27)
  (mm_faces:W.isFn K (.ref f27)=true)
  (me_ring_Book:Book/"ring"/f31)
  (mm_ring:W.isFn K (.ref f31)=true)
  (me_placing_Book:Book/"placing"/f30)
  (mm_placing:W.isFn K (.ref f30)=true)
  (cl1_Free:W.plainGet K Free Str.empty=true)
  (cl2_Free:W.hasDictIn K Free=true)
  (cl3_Free:W.plainOver K Free=true)
  (cl4_Free:W.findIn K (.ref Free) "__setattr__"=some (some (.builtin "object.__setattr__")))
  (na1_Free:Free/"name")
  (na2_Free:Free/"start")
  (na3_Free:Free/"end")
  (na4_Free:Free/"least")
  (na5_Free:Free/"greatest")
  (cl1_AtLeast:W.plainGet K AtLeast Str.empty=true)
  (cl2_AtLeast:W.hasDictIn K AtLeast=true)
  (cl3_AtLeast:W.plainOver K AtLeast=true)
  (cl4_AtLeast:W.findIn K (.ref AtLeast) "__setattr__"=some (some (.builtin "object.__setattr__")))
  (na1_AtLeast:AtLeast/"name")
  (na2_AtLeast:AtLeast/"start")
  (na3_AtLeast:AtLeast/"end")
  (na4_AtLeast:AtLeast/"least")
  (na5_AtLeast:AtLeast/"greatest")
  (cl1_AtMost:W.plainGet K AtMost Str.empty=true)
  (cl2_AtMost:W.hasDictIn K AtMost=true)
  (cl3_AtMost:W.plainOver K AtMost=true)
  (cl4_AtMost:W.findIn K (.ref AtMost) "__setattr__"=some (some (.builtin "object.__setattr__")))
  (na1_AtMost:AtMost/"name")
  (na2_AtMost:AtMost/"start")
  (na3_AtMost:AtMost/"end")
  (na4_AtMost:AtMost/"least")
  (na5_AtMost:AtMost/"greatest")
  (cl1_Just:W.plainGet K Just Str.empty=true)
  (cl2_Just:W.hasDictIn K Just=true)
  (cl3_Just:W.plainOver K Just=true)
  (cl4_Just:W.findIn K (.ref Just) "__setattr__"=some (some (.builtin "object.__setattr__")))
  (na1_Just:Just/"name")
  (na2_Just:Just/"start")
  (na3_Just:Just/"end")
  (na4_Just:Just/"least")
  (na5_Just:Just/"greatest")
  (cl1_Between:W.plainGet K Between Str.empty=true)
  (cl2_Between:W.hasDictIn K Between=true)
  (cl3_Between:W.plainOver K Between=true)
  (cl4_Between:W.findIn K (.ref Between) "__setattr__"=some (some (.builtin "object.__setattr__")))
  (na1_Between:Between/"name")
  (na2_Between:Between/"start")
  (na3_Between:Between/"end")
  (na4_Between:Between/"least")
  (na5_Between:Between/"greatest")
  (Ba5:W.plainGet K Scale Str.empty=true)
  (Ba6:W.hasDictIn K Scale=true)
  (Ba7:W.plainOver K Scale=true)
  (Ba8:W.findIn K (.ref Scale) "__setattr__"=some (some (.builtin "object.__setattr__")))
  (Ba9:Scale/"bottom")
  (Bba:Scale/"factors")
  (cl1_Step:W.plainGet K Step Str.empty=true)
  (cl2_Step:W.hasDictIn K Step=true)
  (cl3_Step:W.plainOver K Step=true)
  (cl4_Step:W.findIn K (.ref Step) "__setattr__"=some (some (.builtin "object.__setattr__")))
  (na1_Step:Step/"source")
  (na2_Step:Step/"target")
  (na3_Step:Step/"cost")
  (na4_Step:Step/"whole")
  (na5_Step:Step/"pair")
  (bk1:W.plainGet K Book Str.empty=true)
  (bk2:W.hasDictIn K Book=true)
  (bk3:W.plainOver K Book=true)
  (bk4:W.findIn K (.ref Book) "__setattr__"=some (some (.builtin "object.__setattr__")))
  (bkn:Book/"by_name")
  (xi1:W.findIn K (.ref Impossible) "__setattr__"=some (some (.builtin "object.__setattr__")))
  (xi2:Impossible/"around")
  (xi3:W.hasDictIn K Impossible=true)
  (xi4:W.findIn K (.ref Impossible) "__getattribute__"=some (some (.builtin "BaseException.__getattribute__")))
  (xi5:Impossible/"__getattr__")
  (xi6:W.mroIn K Impossible (.type "BaseException")=some true)
  (xi7:W.specialIn K (.ref SlackError) "__getattribute__"=some (some (.builtin "type.__getattribute__")))
  (xi8:W.readsIn K SlackError (.type "type")=true)
  (xi9:W.findCls K (.ref SlackError) (.type "type") "__init__"=some (.val (.builtin "ValueError.__init__")))
  (xi11:W.typeIn K (.ref Impossible)=some (.type "type"))
  (xi12:W.mroIn K Impossible (.ref Impossible)=some true)
  : ∃ fd:FuncData,(∀ (s:Shared) (v:Value),BindsTo s fd ⟨[v],[]⟩ [("_law_script",v)])/\∀ base:Heap,K.In base->base.Ns mainGlobals mg->FnOk l.prog w K mg base (CX1 l.prog w) 11 fa fd ["_law_script"] (BbO K):=by
 have e:=hfa.symm.trans (W.mg_of X G a45);cases e;have T:Txt K mg ∅:=⟨W.mg_none_of X G z_abs,W.mg_none_of X G z_isinstance,W.mg_none_of X G z_len,W.mg_none_of X G z_all,W.mg_none_of X G z_int,W.mg_none_of X G z_bool,W.mg_none_of X G z_tuple,W.mg_none_of X G z_str,W.mg_none_of X G z_range,W.mg_none_of X G z_list,W.mg_none_of X G z_reversed,W.mg_none_of X G z_sorted,W.mg_none_of X G z_set,W.mg_none_of X G z_dict,W.mg_of X G g_SlackError,W.mg_of X G g_NoTie,W.mg_of X G g_Impossible,W.mg_of X G g_Tie,W.mg_of X G g_Free,W.mg_of X G g_AtLeast,W.mg_of X G g_AtMost,W.mg_of X G g_Just,W.mg_of X G g_Between,W.mg_of X G BbJ,W.mg_of X G g_Step,W.mg_of X G g_Book,W.mg_of X G BaT,⟨_,rfl⟩,W.mg_of X G BaW,⟨_,rfl⟩,W.mg_of X G BbW,rfl,fun H=>.inr ⟨_,_,_,h_ZERO,rfl,rfl,by show 2<=sizeLine;decide, .cons ⟨_,rfl⟩ (.cons ⟨_,rfl⟩ (.nil))⟩,x_SlackError,x_NoTie,cl1_Free,cl2_Free,cl3_Free,cl4_Free,na1_Free,na2_Free,na3_Free,na4_Free,na5_Free,cl1_AtLeast,cl2_AtLeast,cl3_AtLeast,cl4_AtLeast,na1_AtLeast,na2_AtLeast,na3_AtLeast,na4_AtLeast,na5_AtLeast,cl1_AtMost,cl2_AtMost,cl3_AtMost,cl4_AtMost,na1_AtMost,na2_AtMost,na3_AtMost,na4_AtMost,na5_AtMost,cl1_Just,cl2_Just,cl3_Just,cl4_Just,na1_Just,na2_Just,na3_Just,na4_Just,na5_Just,cl1_Between,cl2_Between,cl3_Between,cl4_Between,na1_Between,na2_Between,na3_Between,na4_Between,na5_Between,Ba5,Ba6,Ba7,Ba8,Ba9,Bba,cl1_Step,cl2_Step,cl3_Step,cl4_Step,na1_Step,na2_Step,na3_Step,na4_Step,na5_Step,bk1,bk2,bk3,bk4,bkn,xi1,xi2,xi3,xi4,xi5,xi6,xi7,xi8,xi9,xi11,xi12,(fun C hC=>by rcases hC with rfl | rfl | rfl | rfl | rfl <;> first | exact ⟨⟨cl1_Free,cl2_Free,cl3_Free,cl4_Free⟩,na1_Free,na2_Free,na3_Free,na4_Free,na5_Free⟩ | exact ⟨⟨cl1_AtLeast,cl2_AtLeast,cl3_AtLeast,cl4_AtLeast⟩,na1_AtLeast,na2_AtLeast,na3_AtLeast,na4_AtLeast,na5_AtLeast⟩ | exact ⟨⟨cl1_AtMost,cl2_AtMost,cl3_AtMost,cl4_AtMost⟩,na1_AtMost,na2_AtMost,na3_AtMost,na4_AtMost,na5_AtMost⟩ | exact ⟨⟨cl1_Just,cl2_Just,cl3_Just,cl4_Just⟩,na1_Just,na2_Just,na3_Just,na4_Just,na5_Just⟩ | exact ⟨⟨cl1_Between,cl2_Between,cl3_Between,cl4_Between⟩,na1_Between,na2_Between,na3_Between,na4_Between,na5_Between⟩),(fun C hC=>by cases hC;exact ⟨⟨Ba5,Ba6,Ba7,Ba8⟩,Ba9,Bba⟩),(fun C hC=>by cases hC;exact ⟨⟨cl1_Step,cl2_Step,cl3_Step,cl4_Step⟩,na1_Step,na2_Step,na3_Step,na4_Step,na5_Step⟩),(fun C hC=>by cases hC;exact ⟨⟨bk1,bk2,bk3,bk4⟩,bkn⟩),⟨xi1,xi2⟩,⟨xi3,xi4,xi5,xi2,xi6⟩,⟨xi7,xi8,xi9⟩,⟨xi3,xi11,xi6,xi12⟩⟩;have F1:=Jap l1 c1 k1;have F2:=Jap l2 c2 k2;have F3:=Jap l3 c3 k3;have F4:=Jap l4 c4 k4;have F5:=Jap l5 c5 k5;have F6:=Jap l6 c6 k6;have F7:=Jap l7 c7 k7;have F8:=Jap l8 c8 k8;have F9:=Jap l9 c9 k9;have F10:=Jap l10 c10 k10;have F11:=Jap l11 c11 k11;have F12:=Jap l12 c12 k12;have F13:=Jap l13 c13 k13;have F14:=Jap l14 c14 k14;have F15:=Jap l15 c15 k15;have F16:=Jap l16 c16 k16;have F17:=Jap l17 c17 k17;have F18:=Jap l18 c18 k18;have F19:=Jap l19 c19 k19;have F20:=Jap l20 c20 k20;have b20:=F20.bindsD (ps:=["self","words","around"]) t20 rfl [] fun _ _ _ _ _ _ us hl=>match us,hl with | [_,_,_],_=>⟨_,rfl,rfl⟩
 have F21:=Jap l21 c21 k21;have F22:=Jap l22 c22 k22;have F23:=Jap l23 c23 k23;have F24:=Jap l24 c24 k24;have F25:=Jap l25 c25 k25;have F26:=Jap l26 c26 k26;have F27:=Jap l27 c27 k27;have F28:=Jap l28 c28 k28;have F29:=Jap l29 c29 k29;have F30:=Jap l30 c30 k30;have F31:=Jap l31 c31 k31;have F32:=Jap l32 c32 k32;have F33:=Jap l33 c33 k33;have F34:=Jap l34 c34 k34;have F35:=Jap l35 c35 k35;have F36:=Jap l36 c36 k36;have F37:=Jap l37 c37 k37;have F38:=Jap l38 c38 k38;have F39:=Jap l39 c39 k39;have F40:=Jap l40 c40 k40;have F41:=Jap l41 c41 k41;have F42:=Jap l42 c42 k42;have F43:=Jap l43 c43 k43;have F44:=Jap l44 c44 k44;have F45:=Jap l45 c45 k45;refine ⟨W.fnOf "law" "law" (Jal BbI) (Jak BbI) (Jae BbI) .none E45 G45 M45 B45 U45 V45,fun s v=>.of_eq rfl,fun base _ _=>?_⟩;have cC:∀ {k:Nat} {x:Str} {ps:List Str} {sp:Sp} {f:Addr} {fd:FuncData},FnOk l.prog w K mg base (CX1 l.prog w) k f fd ps sp->W.nsIn K mainGlobals x=some (some (.ref f))->W.keepIn K (.ref f)=true->Binds K fd ps []->Cal l.prog w K mg base k x ps [] sp:=fun h a c b=>⟨_,_,[],h,W.mg_of X G a,c,b, .nil⟩;have cK:∀ {k:Nat} {x:Str} {ps:List Str} {sp:Sp} {f C:Addr} {fd:FuncData},FnOk l.prog w K mg base (CX1 l.prog w) k f fd ps sp->W.nsIn K mainGlobals x=some (some (.ref C))->Mk K C f->Binds K fd ps []->KCal l.prog w K mg base k x C ps sp:=fun h a c b=>⟨_,_,h,W.mg_of X G a,c,b⟩;have cM:∀ {k:Nat} {m:Str} {Cs:Addr->Prop} {ps:List Str} {sp:Sp} {f:Addr} {fd:FuncData},FnOk l.prog w K mg base (CX1 l.prog w) k f fd ps sp->(∀ C,Cs C->Cls K C/\Meth K C m f)->W.keepIn K (.ref f)=true->Binds K fd ps []->MCal l.prog w K mg base k m Cs ps sp:=fun h a c b=>⟨_,_,h,a,c,b⟩;have Bac:=cC (JcS F1 T) a1 k1 (F1.binds (by bv_omega));have BbC:=cC (JjD F2 T Bac) a2 k2 (F2.binds (by bv_omega));have BbS:=cC (Jis F3 T BbC) a3 k3 (F3.binds (by bv_omega));have BbR:=cC (Jit F4 T) a4 k4 (F4.binds (by bv_omega));have BaS:=cC (JgB F5 T) a5 k5 (F5.binds (by bv_omega));have Bbf:=cC (Jfu F6 T) a6 k6 (F6.binds (by bv_omega));have Ba0:=cC (Jdz F7 T Bbf Bac) a7 k7 (F7.binds (by bv_omega));have Bbg:=cC (Jft F8 T Ba0) a8 k8 (F8.binds (by bv_omega));have Bbm:=cC (JeU F9 T BaS) a9 k9 (F9.binds (by bv_omega));have Bbb:=cC (Jeb F10 T Bbg BbR) a10 k10 (F10.binds (by bv_omega));have BbF:=cC (Jhy F11 T BaS Bbm Bbb) a11 k11 (F11.binds (by bv_omega));have K12:=Jdn (P:=l.prog) (w:=w) (base:=base) F12 T;have k_Free:=cK (Jdn F12 T) g_Free ⟨mk_Free,mi_Free,mf_Free,mp_Free⟩ (F12.binds (by bv_omega));have k_AtLeast:=cK K12 g_AtLeast ⟨mk_AtLeast,mi_AtLeast,mf_AtLeast,mp_AtLeast⟩ (F12.binds (by bv_omega));have k_AtMost:=cK K12 g_AtMost ⟨mk_AtMost,mi_AtMost,mf_AtMost,mp_AtMost⟩ (F12.binds (by bv_omega));have k_Just:=cK K12 g_Just ⟨mk_Just,mi_Just,mf_Just,mp_Just⟩ (F12.binds (by bv_omega));have k_Between:=cK K12 g_Between ⟨mk_Between,mi_Between,mf_Between,mp_Between⟩ (F12.binds (by bv_omega));have BbU:=cM (m:="plain") (Cs:=IsTie ∅) (JeS F13 T) (fun C hC=>⟨(T.tie C hC).cls,(by rcases hC with rfl | rfl | rfl | rfl | rfl <;> first | exact ⟨me_plain_Free,Ba4,k13⟩ | exact ⟨me_plain_AtLeast,Ba4,k13⟩ | exact ⟨me_plain_AtMost,Ba4,k13⟩ | exact ⟨me_plain_Just,Ba4,k13⟩ | exact ⟨me_plain_Between,Ba4,k13⟩)⟩) k13 (F13.binds (by bv_omega));have BbH:=cC (Jhz F14 T BbF k_Free k_AtLeast k_AtMost k_Just k_Between) a14 k14 (F14.binds (by bv_omega));have m_steps:=cM (m:="steps") (Cs:=IsTie ∅) (JeT F15 T BbS) (fun C hC=>⟨(T.tie C hC).cls,(by rcases hC with rfl | rfl | rfl | rfl | rfl <;> first | exact ⟨me_steps_Free,mm_steps,k15⟩ | exact ⟨me_steps_AtLeast,mm_steps,k15⟩ | exact ⟨me_steps_AtMost,mm_steps,k15⟩ | exact ⟨me_steps_Just,mm_steps,k15⟩ | exact ⟨me_steps_Between,mm_steps,k15⟩)⟩) k15 (F15.binds (by bv_omega));have BbT:=cK (JcR F16 T Bac) BbJ ⟨BbK,BbL,BbM,BbN⟩ (F16.binds (by bv_omega));have BbG:=cM (m:="lifted") (Cs:=Jfd ∅) (Jdm F17 T Bac) (fun C hC=>⟨(T.BbE C hC).cls,(by cases hC;exact ⟨BaU,BaV,k17⟩)⟩) k17 (F17.binds (by bv_omega));have k_Step:=cK (Jc1 F18 T BbG) g_Step ⟨mk_Step,mi_Step,mf_Step,mp_Step⟩ (F18.binds (by bv_omega));have Bbt:=cC (Jfz F19 T m_steps BbT k_Step) a19 k19 (F19.binds (by bv_omega));have K20:=Jb0 (P:=l.prog) (w:=w) (base:=base) F20 T;have k_Impossible:XCal l.prog w K mg base 1 "Impossible" Impossible SlackError ["self","words","around"] (JaV K ∅):=⟨f20,_,K20,W.mg_of X G g_Impossible,⟨x_SlackError,⟨_,_,_,_,_,_,_,_,_,_,_,_,_,_,lx_Impossible⟩,mi_Impossible,mf_Impossible,mp_Impossible⟩,b20⟩;have Ba1:=cC (JdD F21 T) a21 k21 (F21.binds (by bv_omega));have Bbc:=cC (Jec F22 T Ba1 k_Impossible) a22 k22 (F22.binds (by bv_omega));have Ba2:=cC (Jdy F23 T Bbc BbC) a23 k23 (F23.binds (by bv_omega));have Bbs:=cC (Jfs F24 T) a24 k24 (F24.binds (by bv_omega));have m_kept:=cM (m:="kept") (Cs:=Jbq ∅) (JeP F25 T) (fun C hC=>⟨(T.book C hC).cls,(by cases hC;exact ⟨me_kept_Book,mm_kept,k25⟩)⟩) k25 (F25.binds (by bv_omega));have m_ties:=cM (m:="ties") (Cs:=Jbq ∅) (JeR F26 T m_kept BbU) (fun C hC=>⟨(T.book C hC).cls,(by cases hC;exact ⟨me_ties_Book,mm_ties,k26⟩)⟩) k26 (F26.binds (by bv_omega));have m_faces:=cM (m:="faces") (Cs:=Jbq ∅) (Jea F27 T m_kept Bbs) (fun C hC=>⟨(T.book C hC).cls,(by cases hC;exact ⟨me_faces_Book,mm_faces,k27⟩)⟩) k27 (F27.binds (by bv_omega));have k_Book:=cK (Jc0 F28 T BbH) g_Book ⟨mk_Book,mi_Book,mf_Book,mp_Book⟩ (F28.binds (by bv_omega));have Bbn:=cC (JeW F29 T Ba2) a29 k29 (F29.binds (by bv_omega));have m_placing:=cM (m:="placing") (Cs:=Jbq ∅) (Jdl F30 T m_kept m_faces Bbt Bbn) (fun C hC=>⟨(T.book C hC).cls,(by cases hC;exact ⟨me_placing_Book,mm_placing,k30⟩)⟩) k30 (F30.binds (by bv_omega));have m_ring:=cM (m:="ring") (Cs:=Jbq ∅) (JeQ F31 T m_placing) (fun C hC=>⟨(T.book C hC).cls,(by cases hC;exact ⟨me_ring_Book,mm_ring,k31⟩)⟩) k31 (F31.binds (by bv_omega));have Ba3:=cC (JdB F32 T) a32 k32 (F32.binds (by bv_omega));have Bae:=cC (JdA F33 T) a33 k33 (F33.binds (by bv_omega));have Bai:=cC (Jed F34 T Ba3) a34 k34 (F34.binds (by bv_omega));have Bah:=cC (Jfx F35 T Bai) a35 k35 (F35.binds (by bv_omega));have Bbk:=cC (Jfw F36 T) a36 k36 (F36.binds (by bv_omega));have Bbd:=cC (Jef F37 T Bae Bai) a37 k37 (F37.binds (by bv_omega));have Bbj:=cC (Jfv F38 T) a38 k38 (F38.binds (by bv_omega));have Bbx:=cC (JgC F39 T) a39 k39 (F39.binds (by bv_omega));have Bby:=cC (JgD F40 T Bah Bbx Bbj) a40 k40 (F40.binds (by bv_omega));have Bbo:=cC (JeV F41 T) a41 k41 (F41.binds (by bv_omega));have Bbl:=cC (Jfy F42 T Bah) a42 k42 (F42.binds (by bv_omega));have Bbe:=cC (Jee F43 T Bah Bbk Bai) a43 k43 (F43.binds (by bv_omega));have BaJ:=cC (JdC F44 T m_placing) a44 k44 (F44.binds (by bv_omega));exact JkA F45 T Bae Bbd Bby k_Book Bbo m_ring m_placing Bbe BaJ Bbl m_ties
theorem walk {l:PySem.W.OpenLaw} {q:Program} {loose:List Str} {XP:(Str->Option Value)->Heap->Prop} {YP:World->Heap->Prop} {d:DefRec} {K:Params->PySem.W.Frag} (hn:l.most=some 63) (hdf:d.params.defaults=[])
  (hY:∀ (w:World) (h:Heap),YP w h->(K w.params).In h)
  (F:∀ (w:World) (mg:Str->Option Value) (fa:Addr) (h:Heap),(K w.params).In h->h.Ns mainGlobals mg->mg d.name=some (.ref fa) ->
   ∃ fd:FuncData,(∀ (s:Shared) (u:Value),BindsTo s fd ⟨[u],[]⟩ [("_law_script",u)])/\∀ base:Heap,(K w.params).In base->base.Ns mainGlobals mg->FnOk l.prog w (K w.params) mg base (CX1 l.prog w) 11 fa fd ["_law_script"] (BbO (K w.params))) :
  PySem.W.WalkO q loose XP YP l.row.toRowW d [] (fun f vs=>PySem.call f vs) :=
 L2.Jh6 (n:=63) (k:=11) (x:="_law_script") (CX:=fun w=>CX1 l.prog w) (sp:=fun w=>BbO (K w.params)) hn (by decide) hdf ⟨rfl,by decide,by decide⟩ hY F (fun _ _ a ns hl _ hS=>⟨a,ns,rfl,hS,hl,fun _=>rfl⟩) fun _ _ _ _ _ z=>by
  obtain ⟨_,_,_,_,_,_,_,_,_,_,_,_,z⟩:=z;exact z
end Prg
open PySem PySem.W PyProof.Rows
local macro_rules|`(command|universe $xs*)=>do return Lean.mkNullNode (<-xs.mapM fun x=>`(command|def $(Lean.mkIdent (.str `PySem.W.Fast s!"tw{(x.getId.toString.drop 1)}")):ident:Nat:=0))
universe u10077297079501669236 u10082258973417357619 u10088802214888478031 u10166046451552135000 u10223497062269827148 u10226894994089259329 u10264693379723890292 u10276632283998081779 u10329678719258905517 u1033142283498038261 u10347896837347153991 u10370943210938241111 u10397300630752444117 u10411116880479981454 u10507119062798223144 u10510800662037206216 u10525532433724719140 u10584302576310062098 u10604853947605278297 u10607644755589348087 u10648522660104621199 u10670367595369506485 u10706293621760331050 u1072172347461348996 u10741536164800794977 u10751580827685804942 u10759399685384418207 u10767479025948749411 u10799180479716055441 u10808846206648216147 u108108253471048477 u10854448883431378310 u10862568919993915467 u1088298527286763214 u10930454695352753715 u10958504263219292620 u10981141881085323502 u10990506398987161408 u10993657168290185655 u11017905121356808000 u11022376233308534298 u11167251774798558686 u1125121615324565190 u11261535665724548846 u11294694636477802151 u11342110988099018206 u11364059201052998999 u11390343914097301826 u11398799759550263546 u11399525674872088052 u11423371296475879887 u11446254577231297854 u1147560257058448782 u11491664538788799282 u11498761552316831097 u11511539776591319662 u11528211903246329452 u11555646548619478380 u11627797627378682068 u11630106615929769571 u11682703124644783079 u11744835396446814930 u11764632108733139523 u11772209241383081396 u11782433321010479891 u11811370188408327065 u11843101718177245522 u11856876434682795092 u11928209814581589082 u11969336277727868292 u11987683956619154970 u12006067338724108089 u12032216102888694498 u12044429022870167195 u12056085337364790077 u12110171807032469752 u12156491623123194830 u12216604063027503694 u12252587664935325370 u12271636936956746381 u12324668378565661559 u12325088115433748100 u12338503521074419616 u12360769386994220907 u12470455288956178030 u12490732651621188666 u12499968155668628721 u12509668580182957654 u12514299543975706713 u1253900529285917505 u12584442296119563015 u12603012011394327357 u12610694457440301796 u12658880513683704943 u12686612885248331752 u12706876632253182216 u12746505062288386301 u12778638309589254185 u12862931587969596353 u12933620729974380451 u12936396841904170991 u12942367989872660570 u12951905801251163147 u12956294043818354807 u12964314398973651240 u12965666348004226953 u12985807384353147829 u12987127212682425999 u12992703287645850833 u1304412002669912737 u13060980884040460797 u13064253249302043229 u13083353144702226335 u13094569141139636550 u13105983645626511406 u13106035831048076282 u13189830392253869479 u13218923755999588774 u13332143165602043424 u13350789670316175028 u13356592596960510370 u13359954532949257315 u13400824762538370582 u13407112361035804658 u13437715764006981323 u13458001315444694943 u13468832312559341023 u13551096615869037126 u13631509861818214022 u13659877731822117486 u13666573950883576018 u13685023567412174809 u13748945988962214620 u13757500380861774645 u13767979335435754447 u13808988956921640682 u13830950831503544286 u13843791517312214975 u13873623841299909865 u13883997666580048503 u13890272909549692905 u13971063183435747251 u13975165857893744647 u13986773449164189277 u14001105304735226919 u14031351776973679879 u14038598133120480829 u14061003566441703164 u14131001104440152635 u14178486377282848079 u1418011219136031535 u14201286389730636995 u14273261394633492533 u14308170750706403327 u14310278305085385003 u14323738858014542197 u1434654949161981495 u1439176534398582956 u14392812749523596131 u14424641676908819545 u14446406191134406186 u14456088956926070907 u14469661725146486840 u14489404926504938364 u14499556336850879186 u14525494998192702563 u14567861526802769977 u14617848547239080820 u14618981307408493018 u14680459079422512603 u14730397736658198955 u14804480239021340554 u14831084521744748200 u1483637806150460163 u14871584446755225353 u14965690670656977298 u14966460610045898076 u14981239436688642317 u1498678680715816666 u15007782746556570751 u15011151647984526752 u15017278235298365951 u15056143082553895768 u15129031475721895596 u15177887663736900276 u15184250561880115502 u15267908481328123057 u15314952388531879055 u15319780813692914120 u1534891816280595462 u15376685087415345375 u15379847519644125916 u15408392973377861871 u15430960486166616414 u15436387067748551425 u15502952392220543437 u15523041664624872429 u155372581991892963 u15557334041394201661 u15576813478448594906 u15644748911355532530 u15660548643957509826 u15667218772921922150 u15667938657089403348 u15673752539215872043 u15688355468112959130 u15722222595319793787 u1575488694028094865 u15813550147379305227 u15818005704862555060 u15837543219279108689 u15849232628849381690 u15858763847219827737 u15882463619498814473 u15884091523852560307 u15900633822772161756 u15939534189638528866 u15967053163294422662 u16032814332627955526 u1604242250132432377 u16052388319346231204 u1606215881868777762 u1608818274172072971 u16109730117979261400 u16171654664556447791 u16175805209835160314 u16177446703618674007 u16285662724960274560 u16305016450257774886 u16341662909188997641 u16352744544138715249 u16385078065389362978 u16396480749435936073 u16460692160391695831 u16518834900543835200 u16545702538971326352 u16613590774890809014 u16614071702662870358 u16616882729749745796 u16617769828404505005 u166340538141394999 u16646111631711486124 u166889364876881111 u16747240962383057498 u16763207554009610312 u16782743016454132181 u16799081165623682691 u16837432623089064633 u16874824929282460601 u16891183993558859793 u16963600092091515242 u17054488710920385519 u17133500482698007090 u17164597791850257866 u17178777199452591191 u17236867353962963602 u17274585090144688562 u17284840951959852779 u1728679553460573006 u17300644273610888772 u1731078598135143042 u173131809684771818 u17336606971640396628 u17350798936237436270 u17419732226723096965 u17464252218348927078 u17470962236512900148 u17503504944030568918 u17544151728895023748 u17639386043051799814 u17667363308687151782 u17670756006775855103 u17694794147307826605 u17732583807145595985 u17742066480513125201 u17816588360551398093 u17827889281936593409 u17850688093780519183 u17875747119181426570 u17877702453845234753 u17882063775752388186 u17900589572364965662 u17909880514031702729 u17916958077095535985 u17942883956704109685 u17990418068935232419 u18001293962110245682 u18018048794494910472 u18028298807507604808 u18046528727990231900 u18049402214587103805 u18059745041415825167 u18066411219006229368 u18070245339021580002 u18070646678908586484 u18106802362322417064 u18172675995079729787 u18183123376056681287 u18210044095071057369 u18217498781058344695 u18244771883863818958 u18266242156420586637 u18294107673498958373 u18300676960927096772 u18300679337164001539 u18303057080024441525 u18334775998109257204 u18403598831498847131 u1844754713798608460 u1903065665491662366 u191935349672234307 u1934547505094367221 u1949218050667174710 u1967155051192478208 u1994993861232447466 u2017107348034290378 u2068977021114914555 u2090054134200176032 u2091204703450829270 u2092619847738358037 u2176160075615068673 u2190853502504532469 u2193691242165467542 u2288899639041530690 u2306691161304352207 u2312334281621625778 u2377278898861160679 u2379733042513574129 u2437115767108900337 u2446660469492181757 u2451503167754501722 u2456005048594995777 u2476428317482112100 u2486449183165103337 u2496480817830872691 u2541107810069980625 u2558462767044736656 u2589545285380248556 u2590675589390262803 u2644364668543429987 u2686275188705617421 u26878305534354683 u2716791396395874978 u2725258919977098224 u2725573612509503132 u273001719259900583 u2731178886622129403 u2756232085713873618 u2759975091170935701 u2782803971388205196 u2826319265002377568 u2851824646198324406 u2859514169195060056 u286212249956361393 u2863990581634001436 u2933091731666500538 u2964332572254233975 u2983206016794021067 u2985066906920941485 u3010342086022370498 u3052953740990386787 u3115531578235804264 u3134169038449880141 u3136463786685318719 u3162455598017936606 u3183769834254346541 u3213282845808868015 u3235084280362279912 u3267387398086616628 u3269998636023391596 u3310035927825322045 u3330683852408087258 u3350640555049788196 u3376193399009333739 u338206377240014520 u3382388841858192826 u3383398348591331837 u3384637500547518077 u3402028232587818872 u3506394528987726691 u3571164965976011767 u3611060301129741760 u3613532322743780367 u3613674730121056243 u364377445750051391 u369117325438880685 u3691511845033297134 u369571523709727114 u3696127024482562085 u377147371164273692 u3782860893248397382 u3794518781758600333 u3868052087434791882 u3918406399098434672 u392381650829037405 u3998466844977147954 u4003150106619249168 u4076488914929836519 u4102566405293242262 u4121136650848162030 u4208962178779769455 u4215159969831859373 u4242627081719162926 u427126481449698306 u4287095945901674155 u4293434529450619354 u4314003839762468070 u4343808460995760399 u436854214816873442 u4368647016798850942 u4370981462909116878 u4371913731884887100 u4386526336730565224 u4391846267066574955 u4410066780258239952 u4421864540403116612 u4440796363330936699 u444333568119900937 u4455569293774596008 u4519110828241344683 u4546279076905179318 u4575442141323857603 u4607503616929323241 u4610852694486375339 u464754526470848015 u4657508153111014010 u4706716347704130014 u4723733161795697238 u4750228941286102667 u4766839814090998360 u4770013115180770144 u4868309362796555167 u4873336870727359859 u4911119081610805508 u4997636480229491451 u500828087815654271 u5028900258422004743 u5042885414080937716 u507580081332627770 u5105233459875689247 u5125214132056453530 u5133641165477149931 u5172622167372858629 u5193307908005435852 u5242319384267620091 u5250350041900813008 u5256635352777432319 u5280843968231831776 u5326797455075968659 u53295508640563863 u5361355922772150285 u5373608341775663061 u5390290802339790080 u5403254365871229157 u5410199011440269108 u5445663687517352879 u5531839340507478449 u5560446151186279280 u5561230144634938426 u5574531525806622186 u563665942068347944 u5642286391300068529 u5648014474467299227 u5776560950896119557 u5796508347310002154 u5798692575505781078 u5814779446533683919 u5881814091377714829 u5908395779214345029 u5917040367665390549 u5944283641917465917 u5944458061069961986 u5949748438496088324 u5995703037062637534 u608091979353710140 u6083245911379698559 u6102264324319407611 u6154339191658024985 u6158157262836824299 u6187845013436639579 u6224727392489536135 u6251239674004571285 u6303701595492531090 u6309863954271607118 u633856301121849372 u6408676653275391192 u6516213119145557997 u6542105432604917885 u6550955149344887029 u6578596500042857199 u6582691717712971764 u660005631302654298 u6624046265300306707 u6632985680817732123 u6710336954900313308 u6734589038746678461 u6806317825436702419 u6840957814120529856 u6849186652124772581 u6888571351860063899 u6957923643392369999 u6973413380878362326 u6996756520225829707 u702391533761863383 u705438030796595735 u706394987911422559 u7091199403240538874 u7121848368363974084 u719258504679320220 u7222797009489981012 u7239628708619838700 u7245362574716475826 u7284631387601253212 u7288717212208747336 u7306083969051503354 u731079838378929731 u7314144849947230115 u7456323598697551989 u7461583399758204095 u7516014247494183243 u7516894445394048650 u7552729676531083714 u7575593258279206066 u7576120194421823229 u7606828406469875465 u7622015214416951681 u7664621690363670307 u7690093996184506740 u7708945239248711666 u7719026072228278083 u7748783550771305471 u7760972535340310137 u7819092208304648439 u7824290235288148511 u7840055316239977832 u7867010161946913212 u7900286317039819438 u791719287353304633 u7926200512137561835 u7972447343002462169 u7982102891949916334 u8000201425113639244 u8029769624653587656 u8058555188404547269 u8079571535114402961 u8085578863684762150 u809129988432054895 u8114528811638286227 u8118679424690877614 u8163850074225358256 u8185682173598138172 u8212143673649120360 u8275602135137989794 u8397770125100132890 u8409369294687562857 u8449799987372809769 u8463330133343260029 u8468741442536774278 u8498633997522336164 u85161351413113861 u858643773355389324 u8588467266511609067 u8689995338530801624 u8692478919738977968 u8711195731736176115 u8722056393750694519 u8727163900080041449 u8735036678455308652 u877799512971800516 u8816931931218977560 u8819749988595693048 u8836066228544218314 u8879010263405059934 u889815276216677066 u8919560830702130089 u8932798834921219782 u8967202474563692559 u8993408591507864223 u899704529608802073 u9007596189366703373 u9029691012067348889 u9049247362527346267 u9055176166915121233 u907452899465188333 u9088240873590269954 u9092102132282126550 u9120463305271860357 u9128046155688896234 u9156558725044167349 u9167842032358152926 u921995915012513373 u9223817551875282107 u9237706757000769018 u9294563194524454541 u930229315549725968 u9321191563518891233 u9390545552001638655 u939408531199646533 u9441006526797511858 u9466571927643201046 u94685710360079474 u9483294703702201921 u9486753386947855909 u9564433848824447024 u9659992355152451873 u9705784239252939246 u9714091552588772900 u9714829958817004456 u9727123958573422114 u976833371412971725 u9777339053581216399 u9788521516063603093 u980392316580151650 u9840304142615326023 u9855272022678723873 u9867387434640921844 u9899602820588821845 u9968562780091078008
set_option maxRecDepth 100000 in
set_option maxHeartbeats 0 in
theorem PySem.Challenge.cw_slackchain_k32_whole_a_ring_or_a_placing_holds : PySem.Challenge.rw_slackchain_k32_whole_a_ring_or_a_placing.Holds := by
 w_on;o_law;k_head;(case hw=>w_witness2)
 k_fill
 refine Prg.walk (l:=PySem.Challenge.rw_slackchain_k32_whole_a_ring_or_a_placing) rfl rfl (fun w h Y=>PySem.W.kIn_of Y) ?F;case F=>
  intro w mg fa h KX G hmg;refine' Prg.all_mk KX G hmg ?g_SlackError ?g_NoTie ?g_Impossible ?g_Tie ?g_Free ?g_AtLeast ?g_AtMost ?g_Just ?g_Between ?BbJ ?g_Step ?g_Book ?a1 ?l1 ?c1 ?k1 ?a2 ?l2 ?c2 ?k2 ?a3 ?l3 ?c3 ?k3 ?a4 ?l4 ?c4 ?k4 ?a5 ?l5 ?c5 ?k5 ?a6 ?l6 ?c6 ?k6 ?a7 ?l7 ?c7 ?k7 ?a8 ?l8 ?c8 ?k8 ?a9 ?l9 ?c9 ?k9 ?a10 ?l10 ?c10 ?k10 ?a11 ?l11 ?c11 ?k11 ?a12 ?l12 ?c12 ?k12 ?a13 ?l13 ?c13 ?k13 ?a14 ?l14 ?c14 ?k14 ?a15 ?l15 ?c15 ?k15 ?a16 ?l16 ?c16 ?k16 ?a17 ?l17 ?c17 ?k17 ?a18 ?l18 ?c18 ?k18 ?a19 ?l19 ?c19 ?k19 ?a20 ?l20 ?c20 ?k20 ?t20 ?a21 ?l21 ?c21 ?k21 ?a22 ?l22 ?c22 ?k22 ?a23 ?l23 ?c23 ?k23 ?a24 ?l24 ?c24 ?k24 ?a25 ?l25 ?c25 ?k25 ?a26 ?l26 ?c26 ?k26 ?a27 ?l27 ?c27 ?k27 ?a28 ?l28 ?c28 ?k28 ?a29 ?l29 ?c29 ?k29 ?a30 ?l30 ?c30 ?k30 ?a31 ?l31 ?c31 ?k31 ?a32 ?l32 ?c32 ?k32 ?a33 ?l33 ?c33 ?k33 ?a34 ?l34 ?c34 ?k34 ?a35 ?l35 ?c35 ?k35 ?a36 ?l36 ?c36 ?k36 ?a37 ?l37 ?c37 ?k37 ?a38 ?l38 ?c38 ?k38 ?a39 ?l39 ?c39 ?k39 ?a40 ?l40 ?c40 ?k40 ?a41 ?l41 ?c41 ?k41 ?a42 ?l42 ?c42 ?k42 ?a43 ?l43 ?c43 ?k43 ?a44 ?l44 ?c44 ?k44 ?a45 ?l45 ?c45 ?k45 ?z_abs ?z_isinstance ?z_len ?z_all ?z_int ?z_bool ?z_tuple ?z_str ?z_range ?z_list ?z_reversed ?z_sorted ?z_set ?z_dict ?BaT ?BaW ?BbW ?h_ZERO ?x_SlackError ?x_NoTie ?lx_Impossible ?mk_Free ?mi_Free ?mf_Free ?mp_Free ?me_steps_Free ?me_plain_Free ?mk_AtLeast ?mi_AtLeast ?mf_AtLeast ?mp_AtLeast ?me_steps_AtLeast ?me_plain_AtLeast ?mk_AtMost ?mi_AtMost ?mf_AtMost ?mp_AtMost ?me_steps_AtMost ?me_plain_AtMost ?mk_Just ?mi_Just ?mf_Just ?mp_Just ?me_steps_Just ?me_plain_Just ?mk_Between ?mi_Between ?mf_Between ?mp_Between ?me_steps_Between ?me_plain_Between ?mm_steps ?Ba4 ?BbK ?BbL ?BbM ?BbN ?mk_Step ?mi_Step ?mf_Step ?mp_Step ?BaU ?BaV ?mk_Book ?mi_Book ?mf_Book ?mp_Book ?mi_Impossible ?mf_Impossible ?mp_Impossible ?me_kept_Book ?mm_kept ?me_ties_Book ?mm_ties ?me_faces_Book ?mm_faces ?me_ring_Book ?mm_ring ?me_placing_Book ?mm_placing ?cl1_Free ?cl2_Free ?cl3_Free ?cl4_Free ?na1_Free ?na2_Free ?na3_Free ?na4_Free ?na5_Free ?cl1_AtLeast ?cl2_AtLeast ?cl3_AtLeast ?cl4_AtLeast ?na1_AtLeast ?na2_AtLeast ?na3_AtLeast ?na4_AtLeast ?na5_AtLeast ?cl1_AtMost ?cl2_AtMost ?cl3_AtMost ?cl4_AtMost ?na1_AtMost ?na2_AtMost ?na3_AtMost ?na4_AtMost ?na5_AtMost ?cl1_Just ?cl2_Just ?cl3_Just ?cl4_Just ?na1_Just ?na2_Just ?na3_Just ?na4_Just ?na5_Just ?cl1_Between ?cl2_Between ?cl3_Between ?cl4_Between ?na1_Between ?na2_Between ?na3_Between ?na4_Between ?na5_Between ?Ba5 ?Ba6 ?Ba7 ?Ba8 ?Ba9 ?Bba ?cl1_Step ?cl2_Step ?cl3_Step ?cl4_Step ?na1_Step ?na2_Step ?na3_Step ?na4_Step ?na5_Step ?bk1 ?bk2 ?bk3 ?bk4 ?bkn ?xi1 ?xi2 ?xi3 ?xi4 ?xi5 ?xi6 ?xi7 ?xi8 ?xi9 ?xi11 ?xi12;case g_SlackError|g_NoTie|g_Impossible|g_Tie|g_Free|g_AtLeast|g_AtMost|g_Just|g_Between|BbJ|g_Step|g_Book|a1|l1|c1|k1|a2|l2|c2|k2|a3|l3|c3|k3|a4|l4|c4|k4|a5|l5|c5|k5|a6|l6|c6|k6|a7|l7|c7|k7|a8|l8|c8|k8|a9|l9|c9|k9|a10|l10|c10|k10|a11|l11|c11|k11|a12|l12|c12|k12|a13|l13|c13|k13|a14|l14|c14|k14|a15|l15|c15|k15|a16|l16|c16|k16|a17|l17|c17|k17|a18|l18|c18|k18|a19|l19|c19|k19|a20|l20|c20|k20|t20|a21|l21|c21|k21|a22|l22|c22|k22|a23|l23|c23|k23|a24|l24|c24|k24|a25|l25|c25|k25|a26|l26|c26|k26|a27|l27|c27|k27|a28|l28|c28|k28|a29|l29|c29|k29|a30|l30|c30|k30|a31|l31|c31|k31|a32|l32|c32|k32|a33|l33|c33|k33|a34|l34|c34|k34|a35|l35|c35|k35|a36|l36|c36|k36|a37|l37|c37|k37|a38|l38|c38|k38|a39|l39|c39|k39|a40|l40|c40|k40|a41|l41|c41|k41|a42|l42|c42|k42|a43|l43|c43|k43|a44|l44|c44|k44|a45|l45|c45|k45|z_abs|z_isinstance|z_len|z_all|z_int|z_bool|z_tuple|z_str|z_range|z_list|z_reversed|z_sorted|z_set|z_dict|BaT|BaW|BbW|h_ZERO=>k_is
  (case x_SlackError=>k_exc)
  (case x_NoTie=>k_exc)
  case lx_Impossible|mk_Free|mi_Free|mf_Free|mp_Free|me_steps_Free|me_plain_Free|mk_AtLeast|mi_AtLeast|mf_AtLeast|mp_AtLeast|me_steps_AtLeast|me_plain_AtLeast|mk_AtMost|mi_AtMost|mf_AtMost|mp_AtMost|me_steps_AtMost|me_plain_AtMost|mk_Just|mi_Just|mf_Just|mp_Just|me_steps_Just|me_plain_Just|mk_Between|mi_Between|mf_Between|mp_Between|me_steps_Between|me_plain_Between|mm_steps|Ba4|BbK|BbL|BbM|BbN|mk_Step|mi_Step|mf_Step|mp_Step|BaU|BaV|mk_Book|mi_Book|mf_Book|mp_Book|mi_Impossible|mf_Impossible|mp_Impossible|me_kept_Book|mm_kept|me_ties_Book|mm_ties|me_faces_Book|mm_faces|me_ring_Book|mm_ring|me_placing_Book|mm_placing|cl1_Free|cl2_Free|cl3_Free|cl4_Free|na1_Free|na2_Free|na3_Free|na4_Free|na5_Free|cl1_AtLeast|cl2_AtLeast|cl3_AtLeast|cl4_AtLeast|na1_AtLeast|na2_AtLeast|na3_AtLeast|na4_AtLeast|na5_AtLeast|cl1_AtMost|cl2_AtMost|cl3_AtMost|cl4_AtMost|na1_AtMost|na2_AtMost|na3_AtMost|na4_AtMost|na5_AtMost|cl1_Just|cl2_Just|cl3_Just|cl4_Just|na1_Just|na2_Just|na3_Just|na4_Just|na5_Just|cl1_Between|cl2_Between|cl3_Between|cl4_Between|na1_Between|na2_Between|na3_Between|na4_Between|na5_Between|Ba5|Ba6|Ba7|Ba8|Ba9|Bba|cl1_Step|cl2_Step|cl3_Step|cl4_Step|na1_Step|na2_Step|na3_Step|na4_Step|na5_Step|bk1|bk2|bk3|bk4|bkn|xi1|xi2|xi3|xi4|xi5|xi6|xi7|xi8|xi9|xi11|xi12=>k_is
