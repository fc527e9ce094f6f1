import PyProof.Rows.All
import Wide.All
import OpenK.AllK
import Wide.FinOn
import Lean
import PyProof.EqAt
import PyProof.EqKinds
import PyProof.TupleCall
import PyProof.ZipIter
import PyProof.Rows.SetFrom
import PyProof.Rows.SortStr
import KE.KDictList
import PyProof.AttrMissHeap
import KE.KDictOf
import KE.KDictLaws
import KE.KRevIter
import PyProof.CollectIter
import PyProof.FactsAll.range_2
import PyProof.FactsAll.range_iterator_1
import PyProof.WalksEnum
import PyProof.EnumMake
import PyProof.Rows.Range3
import PySem.Challenge.RW_slackchain_k35_books_refuse
set_option Elab.async false
set_option linter.all false
set_option maxRecDepth 100000
open List (mem_range mem_cons_self mem_cons_of_mem mem_cons mem_append mem_append_right length_cons map_cons length_map append_nil nodup_cons length_take length_append size_toArray any_cons reverse_cons length_singleton length_reverse map_nil length_nil foldl_cons mem_singleton mem_map map_map map_append nodup_append cons_append take_succ foldl_append take_of_length_le sum_cons nil_append take_zero)
local macro_rules|`(tactic|ac_nf)=>`(tactic|first|lia|omega)
local macro_rules|`(⋯)=>`(by decide)
local macro_rules|`(∅)=>`(by ac_nf)
local macro_rules|`(tactic|subst_eqs)=>`(tactic|(intro _ _ _ _ h;(repeat obtain ⟨_,h⟩:=h);subst_vars;rfl))
namespace L2
open PySem PySem.Spec PyProof.Rows
abbrev Key:=Sum Bool Str
def isBoolOf:Bool->Value->Bool
 | b, .bool c=>b == c
 | _,_=>false
variable {b:Bool}
theorem JdK {v:Value} (h:isBoolOf b v=true):v=.bool b:=by
 cases v <;> simp_all [isBoolOf]
def keyIs:Key->Value->Bool
 | .inl k,v=>isBoolOf k v
 | .inr x,v=>Value.isStrOf x v
def keyH (w:World):Key->Int
 | .inl k=>hashInt (if k then 1 else 0)
 | .inr x=>hashStr w x
theorem JaK:∀ {k:Key} {v:Value},keyIs k v=true->(∃ i,k=Sum.inl i/\v=Value.bool i)\/(∃ x t,k=Sum.inr x/\v=Value.str x t)
 | .inl i,v,h=>.inl ⟨i,rfl,JdK h⟩
 | .inr x,v,h=>by
  obtain ⟨t,e⟩:=Value.isStrOf_shape (x:=x) (v:=v) h;exact .inr ⟨x,t,rfl,e⟩
theorem Jgw (i:Bool):keyIs (.inl i) (.bool i)=true:=by simp [keyIs,isBoolOf]
theorem Jhb (x:Str) (t:Tok):keyIs (.inr x) (.str x t)=true:=by simp [keyIs,Value.isStrOf]
theorem Jkb (a b:Bool):decide ((Sum.inl a:Key)=Sum.inl b)=(a == b):=by cases a <;> cases b <;> rfl
theorem Jke (a b:Str):decide ((Sum.inr a:Key)=Sum.inr b)=decide (a=b):=by
 by_cases e:a=b
 ·subst e;simp
 ·have h:¬ (Sum.inr a:Key)=Sum.inr b:=fun q=>e (Sum.inr.inj q);rw [decide_eq_false h,decide_eq_false e]
theorem Jkc (a:Bool) (b:Str):decide ((Sum.inl a:Key)=Sum.inr b)=false:=decide_eq_false (fun q=>nomatch q)
theorem Jkd (a:Str) (b:Bool):decide ((Sum.inr a:Key)=Sum.inl b)=false:=decide_eq_false (fun q=>nomatch q)
variable {prog:Program} {w:World} {A:Around} {E:Value->Shared->Prop} {s:Shared}
theorem JfN {Q:Int->Shared->Prop} (h:Q (hashInt (if b then 1 else 0)) { s with toks:=s.toks+1 }) :
  wpAny (model prog w) A (pyHash (.bool b)) Q E s:=by
 have c:=rawHash_range (if b then 1 else 0);have a:s.TypeIs (.bool b) "bool":=rfl;unfold pyHash;have d:[Value.bool b].any Value.onHeap=false:=rfl;refine wpAny_bind ?_;rw [cRoomFor,if_neg (by rw [d];exact Bool.false_ne_true)];refine wpAny_pure ?_;refine wpAny_bind (wpAny_specialOf a F.slot_bool_hash.lookup ?_);show wpAny _ _ (if (some (Value.builtin "int.__hash__") == some Value.none)=true then _ else _) Q E s;rw [if_neg (by rw [beq_builtin_none];exact Bool.false_ne_true)];refine wpAny_bind (wpAny_specialOf a F.slot_bool_hash.lookup ?_);show wpAny _ _ (callSpecialIfBoundUnlessNone? (.bool b) "__hash__" _ >>= _) Q E s;refine wpAny_bind (wpAny_callSpecialIfBoundUnlessNone?_slot a F.slot_bool_hash
  (wpAny_call_entry F.slot_bool_hash a entry_int_hash
   (show wpAny _ _ (do ret (<- mkInt (rawHash (if b then 1 else 0)))) _ _ s from wpAny_ret_mkInt ?_) (args_int_hash _)))
 show wpAny _ _ (if (decide (-(2:Int) ^ 63<=rawHash (if b then 1 else 0))&&decide (rawHash (if b then 1 else 0)<2 ^ 63))=true then _ else _) Q E _;rw [if_pos (by rw [decide_eq_true c.1,decide_eq_true c.2];rfl)];exact wpAny_pure h
def JaT (prog:Program) (w:World):PySem.KeyKind prog w Key where
 is:=keyIs
 hash:=keyH w
 inj:=fun v a b ha hb=>by
  rcases JaK ha with ⟨i,rfl,rfl⟩ | ⟨x,t,rfl,rfl⟩
  ·rcases JaK hb with ⟨j,rfl,e⟩ | ⟨y,u,rfl,e⟩
   ·injection e with e1;rw [e1]
   ·exact nomatch e
  ·rcases JaK hb with ⟨j,rfl,e⟩ | ⟨y,u,rfl,e⟩
   ·exact nomatch e
   ·injection e with e1 _;rw [e1]
 byValue:=fun k v h=>by
  rcases JaK h with ⟨i,rfl,rfl⟩ | ⟨x,t,rfl,rfl⟩ <;> rfl
 pyHash:=fun hv h=>by
  rcases JaK hv with ⟨i,rfl,rfl⟩ | ⟨x,t,rfl,rfl⟩
  ·exact JfN h
  ·exact wpAny_pyHash_str h
 eqBool:=fun hu hv h=>by
  rcases JaK hu with ⟨i,rfl,rfl⟩ | ⟨x,t,rfl,rfl⟩
  ·rcases JaK hv with ⟨j,rfl,rfl⟩ | ⟨y,u,rfl,rfl⟩
   ·rw [Jkb] at h;exact SeqAt.EqAt.bool_bool i j _ _ _ _ h
   ·rw [Jkc] at h;exact SeqAt.EqAt.bool_str i y u _ _ _ _ h
  ·rcases JaK hv with ⟨j,rfl,rfl⟩ | ⟨y,u,rfl,rfl⟩
   ·rw [Jkd] at h;exact SeqAt.EqAt.str_bool x t j _ _ _ _ h
   ·rw [Jke] at h;exact wpAny_eqBool_str h
 «strs»:=fun k x t v h=>by
  rcases JaK h with ⟨i,rfl,e⟩ | ⟨y,u,rfl,e⟩
  ·exact nomatch e
  ·injection e with e1 _
   subst e1;cases v <;> rfl
theorem JeZ (prog:Program) (w:World) (i:Bool):(JaT prog w).is (.inl i) (.bool i)=true:=Jgw i
theorem JfB (prog:Program) (w:World) (x:Str) (t:Tok):(JaT prog w).is (.inr x) (.str x t)=true:=Jhb x t
inductive V where
 | non | bl (b:Bool) | int (i:Int) | str (x:Str) | byt (b:Array UInt8) | flt (b:UInt64) | ref (a:Addr) | ty (n:String)
 deriving DecidableEq
def RelV:V->Value->Prop
 | .non,u=>u=Value.none
 | .bl b,u=>u=Value.bool b
 | .int i,u=>∃ t,u=Value.int i t
 | .str x,u=>∃ t,u=Value.str x t
 | .byt b,u=>∃ t,u=Value.bytes b t
 | .flt b,u=>∃ t,u=Value.float b t
 | .ref a,u=>u=Value.ref a
 | .ty n,u=>u=Value.type n
abbrev Vals:List V->List Value->Prop:=Paired RelV
variable {xs:List V} {us:List Value}
theorem Vals.length (r:Vals xs us):xs.length=us.length:=Paired.length r
theorem Vals.get:∀ {xs:List V} {us:List Value} {i:Nat} {x:V},Vals xs us->xs[i]?=some x->∃ u,us[i]?=some u/\RelV x u
 | _,_,_,_, .nil,e=>by simp at e
 | _,_,0,_, .cons r _,e=>by simp at e;subst e;exact ⟨_,rfl,r⟩
 | _,_,i+1,x, .cons _ t,e=>by
  obtain ⟨u,h1,h2⟩:=Vals.get (i:=i) (x:=x) t (by simpa using e);exact ⟨u,by simpa using h1,h2⟩
theorem Vals.append:∀ {xs ys:List V} {us ws:List Value},Vals xs us->Vals ys ws->Vals (xs++ys) (us++ws)
 | _,_,_,_, .nil,s=>s
 | _,_,_,_, .cons r t,s=>.cons r (Vals.append t s)
theorem Vals.take:∀ {xs:List V} {us:List Value} (n:Nat),Vals xs us->Vals (xs.take n) (us.take n)
 | _,_,0,_=>.nil
 | _,_,_+1, .nil=>.nil
 | _,_,n+1, .cons r t=>.cons r (Vals.take n t)
theorem Vals.drop:∀ {xs:List V} {us:List Value} (n:Nat),Vals xs us->Vals (xs.drop n) (us.drop n)
 | _,_,0,r=>r
 | _,_,_+1, .nil=>.nil
 | _,_,n+1, .cons _ t=>Vals.drop n t
def RelO:Option V->Option Value->Prop
 | some v,some u=>RelV v u
 | none,none=>True
 | _,_=>False
def KV {κ:Type}:List (κ × V)->List (κ × Value)->Prop:=Paired fun (p : κ × V) (q : κ × Value)=>p.1=q.1/\RelV p.2 q.2
def kV:Key->V
 | .inl i=>.bl i
 | .inr x=>.str x
inductive HO where
 | lst (xs:List V)
 | tup (xs:List V)
 | dK (kvs:List (Key × V)) | dT (kvs:List (List Key × V))
 | set (S:Int->Bool) (n:Nat)
 | ins (C dx:Addr) (fs:List (Str × V))
 | own (x:Addr)
 | xd (fs:List (Str × V))
 | met (f x:Addr)
 | rng (lo hi:Int)
 | frz (o:Obj) (u:HO)
 | tbl (ps:Array Value)
 | ext (φ : Heap->Prop)
abbrev Hp:=Addr->Option HO
def upd (H:Hp) (a:Addr) (o:HO):Hp:=fun b=>if b=a then some o else H b
variable {H:Hp} {a:Addr} {o:HO}
theorem Jaq:upd H a o a=some o:=by unfold upd;rw [if_pos rfl]
variable {b:Addr}
theorem Jag (h:b≠a):upd H a o b=H b:=by unfold upd;rw [if_neg h]
variable {u:HO}
theorem ne_of (h:H a=some o) (h':H b=some u) (d:o≠u):a≠b:=by
 intro e;subst e;rw [h] at h';exact d (Option.some.inj h')
theorem Jae (h:H a=some o) (h':H b=none):a≠b:=by
 intro e;subst e;rw [h] at h';cases h'
section
variable (P:Program) (w:World)
def ObjOk (H:Hp) (h:Heap) (a:Addr):HO->Prop
 | .lst xs=>xs.length<=sizeLine/\∃ (its:List Value) (n:Nat),Vals xs its/\h.get? a=some { cls:=.type "list",data:=.seq its.toArray n }
 | .tup xs=>xs.length<=sizeLine/\∃ its:List Value,Vals xs its/\IsTup h a its.toArray
 | .dK kvs=>kvs.length<=sizeLine/\(a == sysModules)=false/\∃ vs,KV kvs vs/\h.DictOf (JaT P w) a vs
 | .dT kvs=>kvs.length<=sizeLine/\(a == sysModules)=false/\∃ xs:List (List Key × Addr × Value),
   Paired (fun (p:List Key × V) (q:List Key × Addr × Value)=>p.1=q.1/\H q.2.1=some (.tup (p.1.map kV))/\RelV p.2 q.2.2) kvs xs /\
   ∃ o es ep,h.get? a=some o/\o.ExactDict/\o.data=.dict es ep/\es.toList=xs.map (entryOfKey (tupleKind (JaT P w)))/\(xs.map (·.1)).Nodup
 | .set S n=>h.SetOf (intKind P w) a S n
 | .ins C dx fs=>H dx=some (.own a)/\fs.length<=1000/\dx≠a/\h.get? a=some (W.instObj C dx) /\
   ∃ mA,h.Ns1 dx mA/\(∀ f,RelO (fs.lookup f) (mA f))/\PySem.Within mA (fs.map (·.1))
 | .own _=>∃ o,h.get? a=some o
 | .xd fs=>∃ mA,h.Ns1 a mA/\∀ f,RelO (fs.lookup f) (mA f)
 | .rng lo hi=>∃ t u v,h.get? a=some { cls:=.type "range",data:=.fields #[.int lo t, .int hi u, .int 1 v] }
 | .frz o u=>h.get? a=some o/\ObjOk H h a u
 | .tbl ps=>h.get? a=some { cls:=.none,data:=.fields ps }
 | .met f x=>h.get? a=some (W.methodObj (.ref f) (.ref x))
 | .ext φ=>φ h/\(∃ o,h.get? a=some o)/\∀ h1 h2:Heap,φ h1->(∀ o,h1.get? a=some o->h2.get? a=some o)->φ h2
def HOk (H:Hp) (h:Heap):Prop:=∀ a o,H a=some o->ObjOk P w H h a o
end
variable {P:Program} {H':Hp} {h h':Heap}
theorem ObjOk.lt (x:ObjOk P w H h a o):a<h.objs.size:=by
 cases o with
 | lst xs=>obtain ⟨_,_,_,_,e⟩:=x;exact Heap.lt_size e
 | tup xs=>obtain ⟨_,_,_,p⟩:=x;exact p.lt
 | dK kvs=>obtain ⟨_,_,_,_,o,_,_,e,_⟩:=x;exact Heap.lt_size e
 | dT kvs=>obtain ⟨_,_,_,_,o,_,_,e,_⟩:=x;exact Heap.lt_size e
 | set S n=>obtain ⟨o,_,_,_,e,_⟩:=x;exact Heap.lt_size e
 | ins C dx fs=>obtain ⟨_,_,_,e,_⟩:=x;exact Heap.lt_size e
 | own y=>obtain ⟨_,e⟩:=x;exact Heap.lt_size e
 | xd fs=>obtain ⟨_,⟨_,_,_,e,_⟩,_⟩:=x;exact Heap.lt_size e
 | rng lo hi=>obtain ⟨_,_,_,e⟩:=x;exact Heap.lt_size e
 | frz ob u=>obtain ⟨e,_⟩:=x;exact Heap.lt_size e
 | tbl ps=>exact Heap.lt_size (show h.get? a=some _ from x)
 | met f y=>exact Heap.lt_size (show h.get? a=some _ from x)
 | ext φ=>obtain ⟨_,⟨_,e⟩,_⟩:=x;exact Heap.lt_size e
variable {α:Type}
theorem Paired.mapP {β:Type} {F G : α->β->Prop}:∀ {l₁ : List α} {l₂ : List β},Paired F l₁ l₂->(∀ a b,F a b->G a b)->Paired G l₁ l₂
 | _,_, .nil,_=>.nil
 | _,_, .cons r t,f=>.cons (f _ _ r) (Paired.mapP t f)
theorem ObjOk.stay (x:ObjOk P w H h a o) (k:∀ b u,(b=a\/H b=some (.own a))->h.get? b=some u->h'.get? b=some u)
  (ho:∀ b,H b=some (.own a)->H' b=some (.own a)) (ht:∀ b xs,H b=some (.tup xs)->H' b=some (.tup xs)):ObjOk P w H' h' a o:=by
 induction o with
 | lst xs=>obtain ⟨z,l,n,r,e⟩:=x;exact ⟨z,l,n,r,k _ _ (.inl rfl) e⟩
 | tup xs=>obtain ⟨z,l,r,g,e,c⟩:=x;exact ⟨z,l,r,g,k _ _ (.inl rfl) e,c⟩
 | dK kvs=>obtain ⟨z,y,D,r,g,j,i,e,c⟩:=x;exact ⟨z,y,D,r,g,j,i,k _ _ (.inl rfl) e,c⟩
 | dT kvs=>
  obtain ⟨z,y,xs,r,g,j,i,e,c⟩:=x;exact ⟨z,y,xs,Paired.mapP r fun p q z=>⟨z.1,ht _ _ z.2.1,z.2.2⟩,g,j,i,k _ _ (.inl rfl) e,c⟩
 | set S n=>obtain ⟨g,j,i,t,e,c⟩:=x;exact ⟨g,j,i,t,k _ _ (.inl rfl) e,c⟩
 | ins C dx fs=>
  obtain ⟨d,z,E,e,m,⟨s,j,i,B,c⟩,r⟩:=x;exact ⟨ho _ d,z,E,k _ _ (.inl rfl) e,m,⟨s,j,i,k _ _ (.inr d) B,c⟩,r⟩
 | own y=>obtain ⟨g,e⟩:=x;exact ⟨g,k _ _ (.inl rfl) e⟩
 | xd fs=>obtain ⟨m,⟨s,j,i,e,c⟩,r⟩:=x;exact ⟨m,⟨s,j,i,k _ _ (.inl rfl) e,c⟩,r⟩
 | rng lo hi=>obtain ⟨t,u,v,e⟩:=x;exact ⟨t,u,v,k _ _ (.inl rfl) e⟩
 | frz g u ih=>obtain ⟨e,q⟩:=x;exact ⟨k _ _ (.inl rfl) e,ih q⟩
 | tbl ps=>
  have e:h.get? a=some { cls:=.none,data:=.fields ps }:=x;show h'.get? a=some { cls:=.none,data:=.fields ps };exact k a _ (.inl rfl) e
 | met f y=>
  have e:h.get? a=some (W.methodObj (.ref f) (.ref y)):=x;show h'.get? a=some (W.methodObj (.ref f) (.ref y));exact k a _ (.inl rfl) e
 | ext φ=>obtain ⟨p,⟨o,e⟩,A⟩:=x;exact ⟨A _ _ p fun o q=>k _ _ (.inl rfl) q,⟨o,k _ _ (.inl rfl) e⟩,A⟩
theorem HOk.lt (x:HOk P w H h) (e:H a=some o):a<h.objs.size:=(x a o e).lt
theorem HOk.fresh (x:HOk P w H h) (e:h.objs.size<=a):H a=none:=by
 cases q:H a with
 | none=>rfl
 | some u=>exact absurd (Nat.lt_of_lt_of_le (x.lt q) e) (Nat.lt_irrefl _)
theorem HOk.kept (x:HOk P w H h) (k:∀ b u,h.get? b=some u->h'.get? b=some u):HOk P w H h':=fun a o e=>
 (x a o e).stay (fun b u _ q=>k b u q) (fun _ q=>q) fun _ _ q=>q
theorem HOk.laid (x:HOk P w H h) (k:∀ b u,h.get? b=some u->h'.get? b=some u) (hp:h.objs.size<=a) (new:ObjOk P w (upd H a o) h' a o):HOk P w (upd H a o) h':=fun b u e=>by
 have f:=x.fresh hp;by_cases d:b=a
 ·subst d;rw [Jaq] at e;cases e;exact new
 ·rw [Jag d] at e;exact (x b u e).stay (fun c v _ q=>k c v q) (fun c q=>by rw [Jag (Jae q f)];exact q) fun c g q=>by rw [Jag (Jae q f)];exact q
def Rd (H:Hp) (a:Addr) (u:HO):Prop:=H a=some u\/∃ o,H a=some (.frz o u)
theorem Rd.ok (r:Rd H a u) (x:HOk P w H h):ObjOk P w H h a u:=by
 rcases r with r | ⟨o,r⟩
 ·exact x a u r
 ·obtain ⟨_,q⟩:=x a _ r;exact q
def Mut:Option HO->Prop
 | some (.lst _)=>True
 | some (.dK _)=>True
 | some (.dT _)=>True
 | some (.set _ _)=>True
 | some (.ins _ _ _)=>True
 | some (.ext _)=>True
 | _=>False
variable {x e:Addr} {o':HO}
theorem HOk.write (ok:HOk P w H h) (mu:Mut (H x)) (he:e=x\/H e=some (.own x)) (k:∀ b u,b≠e->h.get? b=some u->h'.get? b=some u) (heo:∃ u,h'.get? e=some u)
  (new:ObjOk P w (upd H x o') h' x o'):HOk P w (upd H x o') h':=fun b u q=>by
 have d:∀ c y,H c=some (.own y)->c≠x:=fun c y r z=>by subst z;rw [r] at mu;exact mu
 have f:∀ c g,H c=some (.tup g)->c≠x:=fun c g r z=>by subst z;rw [r] at mu;exact mu
 by_cases i:b=x
 ·subst i;rw [Jaq] at q;cases q;exact new
 ·rw [Jag i] at q;by_cases a:b=e
  ·have l:H b=some (.own x):=by
    rcases he with z | z
    ·exact absurd (a.trans z) i
    ·rw [a];exact z
   rw [q] at l;cases l;obtain ⟨v,m⟩:=heo;exact ⟨v,by rw [a];exact m⟩
  ·refine (ok b u q).stay (fun c v j r=>k c v ?_ r) (fun c r=>by rw [Jag (d c b r)];exact r) fun c g r=>by rw [Jag (f c g r)];exact r
   rcases j with rfl | j
   ·exact a
   ·rintro rfl;rcases he with z | z
    ·exact d c b j z
    ·rw [j] at z;cases z;exact i rfl
structure Un (fs ex:List Addr) (H H':Hp) (h h':Heap):Prop where
 keep:∀ b o,h.get? b=some o->H b=none->b∉fs->b∉ex->h'.get? b=some o
 slot:∀ b o,h.get? b=some o->H b=none->b∈fs->b∉ex->∃ sl,h'.get? b=some { o with slots:=sl }
 free:∀ b o,h.get? b=some o->H b=none->b∉ex->H' b=none
 there:∀ b o,h.get? b=some o->b∉ex->∃ o',h'.get? b=some o'
 tups:∀ b xs,H b=some (.tup xs)->H' b=some (.tup xs)
 frzs:∀ b o u,H b=some (.frz o u)->H' b=some (.frz o u)
 tbls:∀ b ps,H b=some (.tbl ps)->∃ more,H' b=some (.tbl (ps++more))
section
variable {fs' ex ex':List Addr} {H1 H2:Hp} {h1 h2:Heap} {fs:List Addr}
theorem Un.any (u:Un fs ex H H1 h h1) {b:Addr} {ob:Obj} (q:h.get? b=some ob) (n:H b=none) (hx:b∉ex):∃ sl,h1.get? b=some { ob with slots:=sl }:=by
 by_cases a:b∈fs
 ·exact u.slot b ob q n a hx
 ·exact ⟨ob.slots,u.keep b ob q n a hx⟩
theorem Un.kept (k:∀ b u,h.get? b=some u->h'.get? b=some u):Un fs ex H H h h' :=
 ⟨fun b a q _ _ _=>k b a q,fun b a q _ _ _=>⟨a.slots,k b a q⟩,fun _ _ _ n _=>n,fun b a q _=>⟨a,k b a q⟩,fun _ _ q=>q,fun _ _ _ q=>q,fun _ c q=>⟨#[],by rw [q];simp⟩⟩
theorem Un.refl:Un fs ex H H h h:=Un.kept fun _ _ q=>q
theorem Un.laid (k:∀ b u,h.get? b=some u->h'.get? b=some u) (hp:h.objs.size<=a) (hn:H a=none):Un fs ex H (upd H a o) h h' where
 keep:=fun b u q _ _ _=>k b u q
 slot:=fun b u q _ _ _=>⟨u.slots,k b u q⟩
 free:=fun b u q n _=>by rw [Jag (Nat.ne_of_lt (Nat.lt_of_lt_of_le (Heap.lt_size q) hp))];exact n
 there:=fun b u q _=>⟨u,k b u q⟩
 tups:=fun b c q=>by rw [Jag (Jae q hn)];exact q
 frzs:=fun b u c q=>by rw [Jag (Jae q hn)];exact q
 tbls:=fun b d q=>⟨#[],by rw [Jag (Jae q hn),q];simp⟩
theorem Un.write (mu:Mut (H x)) (he:e=x\/H e=some (.own x)) (k:∀ b u,b≠e->h.get? b=some u->h'.get? b=some u) (heo:∃ u,h'.get? e=some u):Un fs ex H (upd H x o) h h':=by
 have d:∀ b,H b=none->b≠x:=fun b n z=>by subst z;rw [n] at mu;exact mu
 have f:∀ b,H b=none->b≠e:=fun b n z=>by
  subst z;rcases he with r | r
  ·exact d b n r
  ·rw [n] at r;cases r
 have c:∀ b u,H b=some u->¬ Mut (some u)->b≠x:=fun b u q i z=>by subst z;rw [q] at mu;exact i mu
 refine ⟨fun b u q n _ _=>k b u (f b n) q,fun b u q n _ _=>⟨u.slots,k b u (f b n) q⟩,fun b u q n _=>by rw [Jag (d b n)];exact n,fun b u q _=>?_,
  fun b g q=>by rw [Jag (c b _ q fun z=>z)];exact q,fun b u g q=>by rw [Jag (c b _ q fun z=>z)];exact q,fun b j q=>⟨#[],by rw [Jag (c b _ q fun z=>z),q];simp⟩⟩
 by_cases a:b=e
 ·subst a;exact heo
 ·exact ⟨u,k b u a q⟩
end
def trk (h:Heap) (H:Hp):List Addr:=(List.range h.objs.size).filter fun a=>(H a).isSome
def hidT (h:Heap) (H:Hp):Heap:=W.hideAll h (trk h H)
theorem Jg6 (h:Heap) (H:Hp):(hidT h H).objs.size=h.objs.size:=W.hideAll_size _ _
variable {o:Obj}
theorem JhV (e:h.get? b=some o) (n:H b=none):(hidT h H).get? b=some o :=
 W.hideAll_get _ e fun a=>by
  have q:(H b).isSome=true:=(List.mem_filter.mp a).2;rw [n] at q;simp at q
theorem Jjo (e:(hidT h H).get? b=some o):h.get? b=some o/\H b=none:=by
 have a:h.get? b=some o:=W.of_hideAll (trk h H) e;refine ⟨a,?_⟩;cases q:H b with
 | none=>rfl
 | some x=>
  have c:b∈trk h H:=List.mem_filter.mpr ⟨mem_range.mpr (Heap.lt_size a),by simp [q]⟩;have z:(hidT h H).get? b=none:=W.hideAll_none (trk h H) c;rw [z] at e;cases e
def Ji2 (g h:Heap) (L:Addr):List (Addr × Obj):=(List.range h.objs.size).filterMap fun a=>if a=L\/(g.get? a).isSome=true then none else (h.get? a).map fun o=>(a,o)
def rest (g h:Heap) (L d:Addr):List (Addr × Obj):=(Ji2 g h L).filter fun p=>decide (p.1≠d)
structure Mod (K:W.Frag) (mg:Str->Option Value) (base:Heap):Prop where
 kin:K.In base
 glob:base.Ns mainGlobals mg
 blt:∃ mb,base.Ns builtinsNs mb/\∀ x:Str,x≠"__name__"->mb x=bootBuiltins x
 nolimit:base.NoLimit
structure Cx where
 prog:Program
 w:World
 K:W.Frag
 mg:Str->Option Value
 base:Heap
 A:Around
 N:List Str
 s₀ : Shared
 H₀ : Hp
 env:Env
 outer:List Env
 stack:List Env
 ex:List Addr
 fn:Str->Bool
 calm:Bool
 pn:List (Addr × Obj)
 xe:Value->Shared->Prop
def frs (l:List Env):List Addr:=l.filterMap (·.frame)
abbrev Cx.fs (X:Cx):List Addr:=frs X.outer
def Vis (sc:Scope) (x:Str):Prop:=sc.names.lookup x=some .local\/sc.names.lookup x=some .cell\/sc.names.lookup x=some .free
def Loc (sc:Scope) (x:Str):Prop:=sc.names.lookup x=some .local\/sc.names.lookup x=some .cell
def Look (env:Env) (h:Heap) (m:Str->Option Value) (x:Str) (u:Value):Prop :=
 (env.kindOf x=some .local/\m x=some u)\/((env.kindOf x=some .cell\/env.kindOf x=some .free)/\∃ c,env.cells.lookup x=some c/\h.IsCell c (some u))
structure Cx.Ok (X:Cx):Prop where
 mod:Mod X.K X.mg X.base
 kind:X.env.scope.kind=.function
 glob:X.env.globals=mainGlobals
 blt:X.env.builtins=builtinsNs
 above:X.s₀.heap.objs.size<=X.env.locals
 inj:∀ x y c,X.env.cells.lookup x=some c->X.env.cells.lookup y=some c->x=y
 has:∀ x,(X.env.kindOf x=some .cell\/X.env.kindOf x=some .free)->∃ c,X.env.cells.lookup x=some c
 cab:∀ x c,X.fn x=true->X.env.cells.lookup x=some c->X.s₀.heap.objs.size<=c
 hd:X.calm=true->X.A.handled=none
 frames:X.A.frames=some X.stack
 stk:X.stack=X.outer\/(X.stack=X.env::X.outer/\X.env.frame=some X.env.locals)
 exf:∀ b∈X.ex,b≠X.env.locals/\∀ x c,X.env.cells.lookup x=some c->c≠b
 bs:∀ b o,X.base.get? b=some o->X.s₀.heap.get? b=some o/\X.H₀ b=none
 bsz:X.base.objs.size<=X.s₀.heap.objs.size
 noex:∀ b o,X.base.get? b=some o->b∉X.ex
 exfs:∀ b∈X.ex,b∉X.fs
 funs:X.s₀.heap.FunFrames X.base X.outer
 frf:∀ b∈X.fs,X.H₀ b=none
structure Inv (X:Cx) (pins:List (Addr × Obj)) (σ : List (Option V)) (H:Hp) (s:Shared):Prop where
 ok:X.Ok
 os:s.os=X.s₀.os
 bare:AllBare s.gens
 base:Un X.fs X.ex X.H₀ H X.s₀.heap s.heap
 loc:∃ m,s.heap.Ns X.env.locals m/\∀ (i:Nat) (x:Str) (v:V),X.N[i]?=some x->σ[i]?=some (some v)->Vis X.env.scope x->∃ u,RelV v u/\Look X.env s.heap m x u
 cell:∀ x c,X.env.cells.lookup x=some c->∃ v,s.heap.IsCell c v
 free:H X.env.locals=none
 freeC:∀ x c,X.env.cells.lookup x=some c->H c=none
 pin:∀ p∈X.pn++pins,s.heap.get? p.1=some p.2/\H p.1=none/\p.1≠X.env.locals/\p.1∉X.fs/\∀ v,p.2.data≠.cell v
 hok:HOk X.prog X.w H s.heap
 len : σ.length=X.N.length
variable {X:Cx} {pins:List (Addr × Obj)} {σ:List (Option V)}
theorem Cx.Ok.nofr (ok:X.Ok) {b:Addr} {o:Obj} (e:X.base.get? b=some o):b∉X.fs:=fun a=>by
 have:=(ok.funs.mem a).1;rw [e] at this;cases this
theorem Inv.bs (I:Inv X pins σ H s):∀ b o,X.base.get? b=some o->s.heap.get? b=some o/\H b=none:=fun b o e=>
 ⟨I.base.keep b o (I.ok.bs b o e).1 (I.ok.bs b o e).2 (I.ok.nofr e) (I.ok.noex b o e),I.base.free b o (I.ok.bs b o e).1 (I.ok.bs b o e).2 (I.ok.noex b o e)⟩
theorem Inv.bk (I:Inv X pins σ H s):∀ b o,X.base.get? b=some o->s.heap.get? b=some o:=fun b o e=>(I.bs b o e).1
theorem Inv.mod (I:Inv X pins σ H s):Mod X.K X.mg X.base:=I.ok.mod
theorem Inv.kIn (I:Inv X pins σ H s):X.K.In s.heap:=I.ok.mod.kin.keeps I.bk
theorem Inv.lt (I:Inv X pins σ H s):X.env.locals<s.heap.objs.size:=let ⟨_,hn,_⟩:=I.loc;hn.lt
theorem Inv.sz (I:Inv X pins σ H s):X.s₀.heap.objs.size<=s.heap.objs.size:=Nat.le_trans I.ok.above (Nat.le_of_lt I.lt)
theorem Inv.nofs (I:Inv X pins σ H s) {a:Addr} (h:s.heap.objs.size<=a):a∉X.fs:=fun b=>by
 obtain ⟨_,o,c,_⟩:=I.ok.funs.mem b;exact absurd (Nat.lt_of_lt_of_le (Heap.lt_size c) (Nat.le_trans I.sz h)) (Nat.lt_irrefl _)
theorem Inv.cne (I:Inv X pins σ H s):∀ x c,X.env.cells.lookup x=some c->c≠X.env.locals:=fun x c e z=>by
 obtain ⟨v,o,d,f⟩:=I.cell x c e;obtain ⟨m,⟨g,i,h,a,b,_⟩,_⟩:=I.loc;rw [z,a] at d;cases d;rw [b] at f;cases f
theorem Inv.funs (I:Inv X pins σ H s):s.heap.FunFrames X.base X.outer:=by
 have all:∀ (l:List Env),(∀ b∈frs l,b∈X.fs)->X.s₀.heap.FunFrames X.base l->s.heap.FunFrames X.base l:=by
  intro l;induction l with
  | nil=>intro _ _;trivial
  | cons env r ih=>
   intro f h;obtain ⟨m,⟨L,o,c,k,g,j⟩,i⟩:=h;have d:L∈X.fs:=f L (by unfold frs;rw [List.filterMap_cons,c];exact mem_cons_self);obtain ⟨n,e⟩:=I.base.slot L o g (I.ok.frf L d) d fun z=>I.ok.exfs L z d;exact ⟨m,⟨L,_,c,k,e,j⟩,ih (fun b a=>f b (by unfold frs;rw [List.filterMap_cons,c];exact mem_cons_of_mem _ a)) i⟩
 exact all X.outer (fun _ a=>a) I.ok.funs
theorem Inv.stack (I:Inv X pins σ H s):s.heap.FunFrames X.base X.stack:=by
 rcases I.ok.stk with e | ⟨e,hf⟩
 ·rw [e];exact I.funs
 ·rw [e];obtain ⟨m,a,_⟩:=I.loc;refine .cons (by rw [I.ok.kind];decide) hf a ?_ I.funs;exact Heap.get?_none_of_le (Nat.le_trans I.ok.bsz I.ok.above)
theorem Inv.stkSub (I:Inv X pins σ H s):∀ b∈frs X.stack,b∈X.env.locals::X.fs:=fun b a=>by
 rcases I.ok.stk with e | ⟨e,hf⟩
 ·rw [e] at a;exact mem_cons_of_mem _ a
 ·rw [e] at a;unfold frs at a;rw [List.filterMap_cons,hf] at a;exact a
theorem Inv.stkFree (I:Inv X pins σ H s):∀ b∈frs X.stack,H b=none:=fun b a=>by
 rcases mem_cons.mp (I.stkSub b a) with e | a
 ·rw [e];exact I.free
 ·obtain ⟨_,o,c,_⟩:=I.ok.funs.mem a;exact I.base.free b o c (I.ok.frf b a) fun z=>I.ok.exfs b z a
variable {g':Array GenState} {t':Nat} {d':Drawn} {ch:List Addr}
theorem Inv.step (I:Inv X pins σ H s)
  (hch:∀ b∈ch,(b∈X.ex\/X.s₀.heap.objs.size<=b)/\b≠X.env.locals/\(∀ x c,X.env.cells.lookup x=some c->c≠b)/\∀ p∈X.pn++pins,p.1≠b)
  (keep:∀ b o,b≠X.env.locals->b∉X.fs->b∉ch->s.heap.get? b=some o->H b=none->h'.get? b=some o)
  (slot:∀ b o,b≠X.env.locals->b∈X.fs->b∉ch->s.heap.get? b=some o->H b=none->∃ sl,h'.get? b=some { o with slots:=sl }) (free:∀ b o,b∉ch->s.heap.get? b=some o->H b=none->H' b=none)
  (there:∀ b o,b∉ch->s.heap.get? b=some o->∃ o',h'.get? b=some o')
  (tups:∀ b xs,H b=some (.tup xs)->H' b=some (.tup xs)) (frzs:∀ b o u,H b=some (.frz o u)->H' b=some (.frz o u)) (tbls:∀ b ps,H b=some (.tbl ps)->∃ more,H' b=some (.tbl (ps++more)))
  (ns:∀ m,s.heap.Ns X.env.locals m->h'.Ns X.env.locals m) (hok:HOk X.prog X.w H' h') (hg:AllBare g') :
  Inv X pins σ H' { s with heap:=h',gens:=g',drawn:=d',toks:=t' }:=by
 have B:∀ b o,X.s₀.heap.get? b=some o->b≠X.env.locals:=fun b o e=>Nat.ne_of_lt (Nat.lt_of_lt_of_le (Heap.lt_size e) I.ok.above);have h:∀ b o,X.s₀.heap.get? b=some o->b∉X.ex->b∉ch:=fun b o e a t=>by
  rcases (hch b t).1 with z | z
  ·exact a z
  ·exact absurd (Nat.lt_of_lt_of_le (Heap.lt_size e) z) (Nat.lt_irrefl _)
 have f:∀ x c,X.env.cells.lookup x=some c->∀ v,s.heap.IsCell c v->h'.IsCell c v:=fun x c e v ⟨o,y,D⟩=>by
  have g:c∉ch:=fun z=>(hch c z).2.2.1 x c e rfl;by_cases J:c∈X.fs
  ·obtain ⟨sl,q⟩:=slot c o (I.cne x c e) J g y (I.freeC x c e);exact ⟨_,q,D⟩
  ·exact ⟨o,keep c o (I.cne x c e) J g y (I.freeC x c e),D⟩
 refine ⟨I.ok,I.os,hg,⟨fun b o e n t a=>?_,fun b o e n t a=>?_,fun b o e n a=>?_,fun b o e a=>?_,fun b xs e=>tups b xs (I.base.tups b xs e),fun b o xs e=>frzs b o xs (I.base.frzs b o xs e),fun b ps e=>?_⟩,?_,fun x c e=>?_,?_,fun x c e=>?_,fun p F=>?_,hok,I.len⟩
 ·exact keep b o (B b o e) t (h b o e a) (I.base.keep b o e n t a) (I.base.free b o e n a)
 ·obtain ⟨sl,j⟩:=I.base.slot b o e n t a;obtain ⟨C,A⟩:=slot b _ (B b o e) t (h b o e a) j (I.base.free b o e n a);exact ⟨C,A⟩
 ·obtain ⟨o',j⟩:=I.base.there b o e a;exact free b o' (h b o e a) j (I.base.free b o e n a)
 ·obtain ⟨o',j⟩:=I.base.there b o e a;exact there b o' (h b o e a) j
 ·obtain ⟨L,j⟩:=I.base.tbls b ps e;obtain ⟨K,A⟩:=tbls b _ j;exact ⟨L++K,by rw [A,Array.append_assoc]⟩
 ·obtain ⟨m,O,N⟩:=I.loc;refine ⟨m,ns m O,fun i x v j A M=>?_⟩;obtain ⟨u,r,l⟩:=N i x v j A M;refine ⟨u,r,?_⟩;rcases l with l | ⟨k,c,e,z⟩
  ·exact .inl l
  ·exact .inr ⟨k,c,e,f x c e _ z⟩
 ·obtain ⟨v,z⟩:=I.cell x c e;exact ⟨v,f x c e v z⟩
 ·obtain ⟨m,⟨o,_,_,y,_⟩,_⟩:=I.loc;exact free _ o (fun z=>(hch _ z).2.1 rfl) y I.free
 ·obtain ⟨v,o,y,D⟩:=I.cell x c e;exact free c o (fun z=>(hch c z).2.2.1 x c e rfl) y (I.freeC x c e)
 ·obtain ⟨e,n,E,G,d⟩:=I.pin p F;have g:p.1∉ch:=fun z=>(hch p.1 z).2.2.2 p F rfl;exact ⟨keep p.1 p.2 E G g e n,free p.1 p.2 g e n,E,G,d⟩
theorem Inv.un (I:Inv X pins σ H s) (u:Un X.fs [] H H' s.heap h') (hok:HOk X.prog X.w H' h'):Inv X pins σ H' { s with heap:=h',toks:=t' }:=by
 obtain ⟨m,⟨o,t,q,g,r⟩,_⟩:=id I.loc;obtain ⟨k,i⟩:=u.any g I.free (by simp);exact I.step (g':=s.gens) (d':=s.drawn) (ch:=[]) (fun _ z=>nomatch z) (fun b o _ c _ e n=>u.keep b o e n c (by simp)) (fun b o _ c _ e n=>u.slot b o e n c (by simp)) (fun b o _ e n=>u.free b o e n (by simp)) (fun b o _ e=>u.there b o e (by simp)) u.tups u.frzs u.tbls (fun l h=>by
  obtain ⟨p,f,d,a,j⟩:=h;rw [g] at a;cases a;exact ⟨_,f,d,i,j⟩) hok I.bare
theorem Inv.call (I:Inv X pins σ H s) (u:Un (frs X.stack) ch H H' s.heap h') (hok:HOk X.prog X.w H' h') (hg:AllBare g')
  (hch:∀ b∈ch,(b∈X.ex\/X.s₀.heap.objs.size<=b)/\b≠X.env.locals/\(∀ x c,X.env.cells.lookup x=some c->c≠b)/\∀ p∈X.pn++pins,p.1≠b) :
  Inv X pins σ H' { s with heap:=h',gens:=g',drawn:=d',toks:=t' }:=by
 obtain ⟨m,⟨o,A,y,i,r⟩,_⟩:=id I.loc;obtain ⟨q,f⟩:=u.any i I.free fun z=>(hch _ z).2.1 rfl;exact I.step (ch:=ch) hch (fun b o f j a e n=>u.keep b o e n (fun z=>(mem_cons.mp (I.stkSub b z)).elim f j) a) (fun b o _ _ a e n=>u.any e n a) (fun b o a e n=>u.free b o e n a) (fun b o a e=>u.there b o e a) u.tups u.frzs u.tbls (fun t k=>by
  obtain ⟨v,h,g,d,l⟩:=k;rw [i] at d;cases d;exact ⟨_,h,g,f,l⟩) hok hg
variable {it:Addr}
theorem Inv.turned (I:Inv X pins σ H s) (k:∀ b o,b≠it->s.heap.get? b=some o->h'.get? b=some o) (hn:H it=none) (hL:it≠X.env.locals)
  (h1:it∈X.ex\/X.s₀.heap.objs.size<=it) (h2:∀ x c,X.env.cells.lookup x=some c->c≠it) (h3:∀ p∈X.pn++pins,p.1≠it):Inv X pins σ H { s with heap:=h',toks:=t' }:=by
 have d:∀ b u,H b=some u->b≠it:=fun b u e z=>by rw [z,hn] at e;cases e
 refine I.step (g':=s.gens) (d':=s.drawn) (ch:=[it]) (fun b f=>?_) (fun b o _ _ a e _=>k b o (fun z=>a (by simp [z])) e) (fun b o _ _ a e _=>⟨o.slots,k b o (fun z=>a (by simp [z])) e⟩) (fun _ _ _ _ n=>n)
  (fun b o a e=>⟨o,k b o (fun z=>a (by simp [z])) e⟩) (fun _ _ e=>e) (fun _ _ _ e=>e) (fun b l e=>⟨#[],by rw [e];simp⟩) (fun m i=>?_) (fun b u e=>?_) I.bare
 ·have e:b=it:=by simpa using f
  subst e;exact ⟨h1,hL,h2,h3⟩
 ·obtain ⟨o,j,h,g,r⟩:=i;exact ⟨o,j,h,k _ o (Ne.symm hL) g,r⟩
 ·refine (I.hok b u e).stay (fun c v a q=>k c v ?_ q) (fun _ q=>q) fun _ _ q=>q;rcases a with z | z
  ·rw [z];exact d b u e
  ·exact d c _ z
theorem Inv.tok (I:Inv X pins σ H s) (t:Nat):Inv X pins σ H { s with toks:=t }:=I.un (h':=s.heap) (t':=t) Un.refl I.hok
theorem Inv.kept (I:Inv X pins σ H s) (k:∀ b u,s.heap.get? b=some u->h'.get? b=some u):Inv X pins σ H { s with heap:=h',toks:=t' }:=I.un (Un.kept k) (I.hok.kept k)
variable {o:HO}
theorem Inv.laid (I:Inv X pins σ H s) (k:∀ b u,s.heap.get? b=some u->h'.get? b=some u) (hp:s.heap.objs.size<=a) (new:ObjOk X.prog X.w (upd H a o) h' a o) :
  Inv X pins σ (upd H a o) { s with heap:=h',toks:=t' }:=I.un (Un.laid k hp (I.hok.fresh hp)) (I.hok.laid k hp new)
theorem Inv.write (I:Inv X pins σ H s) (mu:Mut (H x)) (he:e=x\/H e=some (.own x)) (k:∀ b u,b≠e->s.heap.get? b=some u->h'.get? b=some u) (heo:∃ u,h'.get? e=some u)
  (new:ObjOk X.prog X.w (upd H x o) h' x o):Inv X pins σ (upd H x o) { s with heap:=h',toks:=t' }:=I.un (Un.write mu he k heo) (I.hok.write mu he k heo new)
theorem Inv.pins_of {pins':List (Addr × Obj)} (I:Inv X pins σ H s) (h:∀ p∈pins',s.heap.get? p.1=some p.2/\H p.1=none/\p.1≠X.env.locals/\p.1∉X.fs/\∀ v,p.2.data≠.cell v):Inv X pins' σ H s :=
 ⟨I.ok,I.os,I.bare,I.base,I.loc,I.cell,I.free,I.freeC,fun p a=>(mem_append.mp a).elim (fun z=>I.pin p (List.mem_append_left _ z)) (h p),I.hok,I.len⟩
variable {N:List Str}
theorem Jeo (hN:N.Nodup) {i j:Nat} {x:Str} (a:N[i]?=some x) (b:N[j]?=some x):i=j:=by
 obtain ⟨e,c⟩:=List.getElem?_eq_some_iff.mp a;obtain ⟨f,d⟩:=List.getElem?_eq_some_iff.mp b;exact (List.getElem_inj hN).mp (c.trans d.symm)
variable {M:Model} {i:Nat} {x:Str} {v:V} {u:Value} {Q:Unit->Shared->Prop}
theorem JhE (I:Inv X pins σ H s) (hN:X.N.Nodup) (hi:X.N[i]?=some x) (hx:Loc X.env.scope x) (r:RelV v u)
  (h:∀ s',Inv X pins (σ.set i (some v)) H s'->(∃ a,Heap.SameBut a s.heap s'.heap/\(a=X.env.locals\/X.env.cells.lookup x=some a))->Q () s') (hf:X.fn x=true\/X.env.scope.names.lookup x=some .local:=by first | exact .inl rfl | exact .inr rfl | assumption):wpAny M A (storeName X.env x u) Q E s:=by
 obtain ⟨m,hn,hl⟩:=id I.loc;have L:(X.env.scope.kind == .class||(X.env.scope.kind == .module&&X.env.locals != X.env.globals))=false:=by rw [I.ok.kind];rfl
 have hiσ : i<σ.length:=by rw [I.len];exact (List.getElem?_eq_some_iff.mp hi).1
 have J:=I.cne;have l:∀ {a:Addr} {K:Heap},(∃ o,s.heap.get? a=some o/\H a=none)->Heap.SameBut a s.heap K->HOk X.prog X.w H K:=fun {a K} ha f b ob e=>by
  obtain ⟨_,_,B⟩:=ha;refine (I.hok b ob e).stay (fun c U t q=>(f.2 c ?_).trans q) (fun _ q=>q) fun _ _ q=>q;rintro rfl;rcases t with rfl | t
  ·rw [B] at e;cases e
  ·rw [B] at t;cases t
 rcases hx with hk | hk
 ·refine wpAny_storeName_local hk hn (fun K a1 f=>?_) L;obtain ⟨oL,_,_,a0,_⟩:=id hn;refine h _ ⟨I.ok,I.os,I.bare,⟨fun b o e n D hx=>?_,fun b o e n D hx=>?_,I.base.free,fun b o e hx=>?_,I.base.tups,I.base.frzs,I.base.tbls⟩,⟨_,a1,fun j y Z g C e3=>?_⟩,fun y c e=>?_,I.free,I.freeC,fun p hp=>?_,l ⟨oL,a0,I.free⟩ f,by simpa using I.len⟩ ⟨_,f, .inl rfl⟩
  ·exact (f.2 b (Nat.ne_of_lt (Nat.lt_of_lt_of_le (Heap.lt_size e) I.ok.above))).trans (I.base.keep b o e n D hx)
  ·obtain ⟨Y,g⟩:=I.base.slot b o e n D hx;exact ⟨Y,(f.2 b (Nat.ne_of_lt (Nat.lt_of_lt_of_le (Heap.lt_size e) I.ok.above))).trans g⟩
  ·obtain ⟨o',g⟩:=I.base.there b o e hx;exact ⟨o',(f.2 b (Nat.ne_of_lt (Nat.lt_of_lt_of_le (Heap.lt_size e) I.ok.above))).trans g⟩
  ·by_cases F:j=i
   ·subst F;rw [hi] at g;cases g;rw [List.getElem?_set_self hiσ] at C;cases C;exact ⟨u,r, .inl ⟨hk,by simp⟩⟩
   ·rw [List.getElem?_set_ne (Ne.symm F)] at C;obtain ⟨u',r',q⟩:=hl j y Z g C e3;refine ⟨u',r',?_⟩;rcases q with ⟨k,e⟩ | ⟨k,c,e,z⟩
    ·refine .inl ⟨k,?_⟩;have : y≠x:=fun e=>F (Jeo hN g (e ▸ hi));simp [this,e]
    ·exact .inr ⟨k,c,e,z.sameBut f (J y c e)⟩
  ·obtain ⟨U,z⟩:=I.cell y c e;exact ⟨U,z.sameBut f (J y c e)⟩
  ·obtain ⟨e,n,T,nf,d⟩:=I.pin p hp;exact ⟨(f.2 p.1 T).trans e,n,T,nf,d⟩
 ·have G:X.fn x=true:=by
   rcases hf with z | z
   ·exact z
   ·rw [z] at hk;cases hk
  obtain ⟨c,t⟩:=I.ok.has x (.inl hk);obtain ⟨U,z⟩:=I.cell x c t;refine wpAny_storeName_cell I.ok.kind hk t z (fun K S f=>?_);obtain ⟨oc,R,P⟩:=id z;refine h { s with heap:=K } ⟨I.ok,I.os,I.bare,⟨fun b o e n D hx=>?_,fun b o e n D hx=>?_,I.base.free,fun b o e hx=>?_,I.base.tups,I.base.frzs,I.base.tbls⟩,⟨m,hn.sameBut f (Ne.symm (J x c t)),fun j y Z g C e3=>?_⟩,fun y W e=>?_,I.free,I.freeC,fun p hp=>?_,l ⟨oc,R,I.freeC x c t⟩ f,by simpa using I.len⟩ ⟨c,f, .inr t⟩
  ·exact (f.2 b (Nat.ne_of_lt (Nat.lt_of_lt_of_le (Heap.lt_size e) (I.ok.cab x c G t)))).trans (I.base.keep b o e n D hx)
  ·obtain ⟨Y,g⟩:=I.base.slot b o e n D hx;exact ⟨Y,(f.2 b (Nat.ne_of_lt (Nat.lt_of_lt_of_le (Heap.lt_size e) (I.ok.cab x c G t)))).trans g⟩
  ·obtain ⟨o',g⟩:=I.base.there b o e hx;exact ⟨o',(f.2 b (Nat.ne_of_lt (Nat.lt_of_lt_of_le (Heap.lt_size e) (I.ok.cab x c G t)))).trans g⟩
  ·by_cases F:j=i
   ·subst F;rw [hi] at g;cases g;rw [List.getElem?_set_self hiσ] at C;cases C;exact ⟨u,r, .inr ⟨.inl hk,c,t,S⟩⟩
   ·rw [List.getElem?_set_ne (Ne.symm F)] at C;obtain ⟨u',r',q⟩:=hl j y Z g C e3;refine ⟨u',r',?_⟩;rcases q with q | ⟨k,W,e,z'⟩
    ·exact .inl q
    ·refine .inr ⟨k,W,e,z'.sameBut f ?_⟩;rintro rfl;exact F (Jeo hN g (I.ok.inj _ _ _ e t ▸ hi))
  ·by_cases O:W=c
   ·subst O;exact ⟨_,S⟩
   ·obtain ⟨w2,z2⟩:=I.cell y W e;exact ⟨w2,z2.sameBut f O⟩
  ·obtain ⟨e,n,T,nf,d⟩:=I.pin p hp;refine ⟨(f.2 p.1 ?_).trans e,n,T,nf,d⟩;intro q;rw [q,R] at e;have q':oc=p.2:=Option.some.inj e;exact d U (by rw [<- q'];exact P)
theorem Jdh (I:Inv X pins σ H s) (hN:X.N.Nodup) (hi:X.N[i]?=some x) (hx:Loc X.env.scope x) (r:RelV v u)
  (h:∀ s',Inv X pins (σ.set i (some v)) H s'->Q () s') (hf:X.fn x=true\/X.env.scope.names.lookup x=some .local:=by first | exact .inl rfl | exact .inr rfl | assumption):wpAny M A (storeName X.env x u) Q E s :=
 JhE I hN hi hx r (fun s' I' _=>h s' I') hf
variable {s':Shared}
theorem Inv.call' (I:Inv X pins σ H s) (ho:s'.os=s.os) (u:Un (frs X.stack) ch H H' s.heap s'.heap) (hok:HOk X.prog X.w H' s'.heap) (hg:AllBare s'.gens)
  (hch:∀ b∈ch,(b∈X.ex\/X.s₀.heap.objs.size<=b)/\b≠X.env.locals/\(∀ x c,X.env.cells.lookup x=some c->c≠b)/\∀ p∈X.pn++pins,p.1≠b):Inv X pins σ H' s':=by
 obtain ⟨d,g',d',t',a⟩:=s';have e:a=s.os:=ho;subst e;exact I.call (g':=g') (t':=t') (d':=d') u hok hg hch
abbrev XK:=Value->Option Addr->Hp->Prop
abbrev St:=List (Option V)
abbrev VK:=V->Hp->Prop
abbrev TE:=St->Hp->VK->Prop
abbrev TT:=St->Hp->(Bool->Hp->Prop)->Prop
abbrev TA:=St->Hp->(List V->Hp->Prop)->Prop
structure Ends where
 nx:St->Hp->Prop
 rt:VK
 bk:St->Hp->Prop:=fun _ _=>False
 ct:St->Hp->Prop:=fun _ _=>False
abbrev TS:=Ends->St->Hp->Prop
def EP (X:Cx) (pins:List (Addr × Obj)) (σ : St) (Q:VK) (u:Value) (s':Shared):Prop:=∃ v H',Inv X pins σ H' s'/\RelV v u/\Q v H'
def TP (X:Cx) (pins:List (Addr × Obj)) (σ : St) (Q:Bool->Hp->Prop) (b:Bool) (s':Shared):Prop:=∃ H',Inv X pins σ H' s'/\Q b H'
def AP (X:Cx) (pins:List (Addr × Obj)) (σ : St) (Q:List V->Hp->Prop) (us:List Value) (s':Shared):Prop:=∃ vs H',Inv X pins σ H' s'/\Vals vs us/\Q vs H'
def SP (X:Cx) (pins:List (Addr × Obj)) (D:Ends) (f:Flow) (s':Shared):Prop :=
 match f with
 | .next=>∃ σ' H',Inv X pins σ' H' s'/\D.nx σ' H'
 | .brk=>∃ σ' H',Inv X pins σ' H' s'/\D.bk σ' H'
 | .cont=>∃ σ' H',Inv X pins σ' H' s'/\D.ct σ' H'
 | .ret u=>∃ v σ' H',Inv X pins σ' H' s'/\RelV v u/\D.rt v H'
def PE (X:Cx) (e:Expr) (t:TE):Prop :=
 ∀ (pins:List (Addr × Obj)) (s:Shared) (σ : St) (H:Hp) (Q:VK),Inv X pins σ H s->t σ H Q->wpAny (model X.prog X.w) X.A (eval e X.env) (EP X pins σ Q) X.xe s
def PT (X:Cx) (e:Expr) (t:TT):Prop :=
 ∀ (pins:List (Addr × Obj)) (s:Shared) (σ : St) (H:Hp) (Q:Bool->Hp->Prop),Inv X pins σ H s->t σ H Q->wpAny (model X.prog X.w) X.A (isTrue e X.env (eval e X.env)) (TP X pins σ Q) X.xe s
def PW (X:Cx) (e:Expr) (t:TT):Prop :=
 ∀ (whole:Sem Value) (pins:List (Addr × Obj)) (s:Shared) (σ : St) (H:Hp) (Q:Bool->Hp->Prop),Inv X pins σ H s->t σ H Q->wpAny (model X.prog X.w) X.A (isTrue e X.env whole) (TP X pins σ Q) X.xe s
variable {e:Expr}
theorem PW.pt {t:TT} (h:PW X e t):PT X e t:=h _
def PA (X:Cx) (es:List Expr) (t:TA):Prop :=
 ∀ (pos:Pos) (pins:List (Addr × Obj)) (s:Shared) (σ : St) (H:Hp) (Q:List V->Hp->Prop),Inv X pins σ H s->t σ H Q->wpAny (model X.prog X.w) X.A (spliced (backTo pos (starEach es X.env))) (AP X pins σ Q) X.xe s
def PS (X:Cx) (st:Stmt) (t:TS):Prop :=
 ∀ (pins:List (Addr × Obj)) (s:Shared) (σ : St) (H:Hp) (D:Ends),Inv X pins σ H s->t D σ H->wpAny (model X.prog X.w) X.A (exec st X.env) (SP X pins D) X.xe s
def PSs (X:Cx) (st:List Stmt) (t:TS):Prop :=
 ∀ (pins:List (Addr × Obj)) (s:Shared) (σ : St) (H:Hp) (D:Ends),Inv X pins σ H s->t D σ H->wpAny (model X.prog X.w) X.A (execs st X.env) (SP X pins D) X.xe s
theorem thn {t:Sem α} {Q Q' : α->Shared->Prop} (h:wpAny M A t Q E s) (hQ:∀ a s,Q a s->Q' a s):wpAny M A t Q' E s:=wpAny_mono h hQ fun _ _ x=>x
section
def tVar (i:Nat):TE:=fun σ H Q=>∃ v,σ[i]?=some (some v)/\Q v H
def tC (v:V):TE:=fun _ H Q=>Q v H
variable {pos:Pos}
theorem Jkr (hN:X.N[i]?=some x) (hv:Vis X.env.scope x) (hd:(x == ("__debug__" : Str))=false:=by decide) (hcd:(x == ("__classdict__" : Str))=false:=by decide):PE X (.Name x pos) (tVar i):=by
 intro b s σ H Q I h;obtain ⟨v,e,h⟩:=h;obtain ⟨m,f,d⟩:=I.loc;obtain ⟨u,r,l⟩:=d i x v hN e hv;have a:EP X b σ Q u s:=⟨v,H,I,r,h⟩;rcases l with ⟨hk,hm⟩ | ⟨hk,c,hc,hcell⟩
 ·exact wpAny_Name (wpAny_loadName_local I.ok.kind hk f hm a) hd
 ·rcases hk with hk | hk
  ·exact wpAny_Name (wpAny_loadName_cell I.ok.kind hk hc hcell a) hd
  ·exact wpAny_Name (wpAny_loadName_free I.ok.kind hk hc hcell a hcd) hd
theorem Jah {i j pos}:PE X (.Constant (.int i) j pos) (tC (.int i)):=fun _ _ _ H _ I h=>wpAny_Constant_int ⟨.int i,H,I.tok _,⟨_,rfl⟩,h⟩
theorem pe_bl {b j pos}:PE X (.Constant (.bool b) j pos) (tC (.bl b)):=fun _ _ _ H _ I h=>Constant_bool ⟨.bl b,H,I,rfl,h⟩
theorem Ja2 {j pos}:PE X (.Constant .none j pos) (tC .non):=fun _ _ _ H _ I h=>Constant_none ⟨.non,H,I,rfl,h⟩
theorem Jbz {x j pos}:PE X (.Constant (.str x) j pos) (tC (.str x)):=fun _ _ _ H _ I h=>Calls.Constant_str ⟨.str x,H,I.tok _,⟨_,rfl⟩,h⟩
def Gl (X:Cx) (x:Str):Prop:=X.env.kindOf x=some .globalImplicit
variable {σ:St} {Q:Value->Shared->Prop}
theorem JbN (I:Inv X pins σ H s) (hg:Gl X x) (hm:X.mg x=some u) (h:Q u s)
  (hd:(x == ("__debug__" : Str))=false:=by decide):wpAny (model X.prog X.w) X.A (eval (.Name x pos) X.env) Q E s :=
 Calls.Name_function_global I.ok.kind hg (Calls.loadGlobal_global (by rw [I.ok.glob];exact I.mod.glob.keeps I.bk) hm h) hd
theorem Jc1 (I:Inv X pins σ H s) (hg:Gl X x) (hm:X.mg x=none) (hv:bootBuiltins x=some u) (h:Q u s)
  (hn:x≠"__name__":=by decide) (hd:(x == ("__debug__" : Str))=false:=by decide):wpAny (model X.prog X.w) X.A (eval (.Name x pos) X.env) Q E s:=by
 obtain ⟨c,a,b⟩:=I.mod.blt;exact Calls.Name_function_global I.ok.kind hg (Calls.loadGlobal_builtin (by rw [I.ok.glob];exact I.mod.glob.keeps I.bk) hm (by rw [I.ok.blt];exact a.keeps I.bk) ((b x hn).trans hv) h) hd
theorem JaB (hg:Gl X x) (hm:X.mg x=some u) (r:RelV v u) (hd:(x == ("__debug__" : Str))=false:=by decide):PE X (.Name x pos) (tC v) :=
 fun _ _ _ H _ I h=>JbN I hg hm ⟨v,H,I,r,h⟩ hd
theorem Jcd (hg:Gl X x) (hm:X.mg x=none) (hv:bootBuiltins x=some u) (r:RelV v u) (hn:x≠"__name__":=by decide) (hd:(x == ("__debug__" : Str))=false:=by decide):PE X (.Name x pos) (tC v) :=
 fun _ _ _ H _ I h=>Jc1 I hg hm hv ⟨v,H,I,r,h⟩ hn hd
variable {a b:Expr} {ta tb:TE}
def PC (X:Cx) (op:CmpOp) (a b:Expr) (t:TE):Prop :=
 ∀ (pins:List (Addr × Obj)) (s:Shared) (σ : St) (H:Hp) (Q:VK),Inv X pins σ H s->t σ H Q ->
  wpAny (model X.prog X.w) X.A (eval a X.env) (fun v s₁=>wpAny (model X.prog X.w) X.A (eval b X.env) (fun u s₂=>wpAny (model X.prog X.w) X.A (compareOp op v u) (EP X pins σ Q) X.xe s₂) X.xe s₁) X.xe s
def tB (t:TE):TT:=fun σ H Q=>t σ H fun x H1=>∃ c,x=.bl c/\Q c H1
theorem JbX {op:CmpOp} {t:TE} (h:PC X op a b t) (h1:behindInMarks op b=false:=by first | exact nobehind _ ⋯ ⋯ | rfl):PT X (.Compare a [op] [b] pos) (tB t):=by
 intro e s σ H Q I k;refine wpAny_isTrue_Compare1 (thn (h e s σ H _ I k) fun v m h1=>thn h1 fun u n f=>thn f fun c l ζ=>?_) h1;obtain ⟨x,g,I1,i,j⟩:=ζ;obtain ⟨d,rfl,q⟩:=j;cases i;exact wpAny_truthy_bool ⟨g,I1,q⟩
theorem Jcf {t:TE} (h:PE X e t) (he:∀ whole,isTrue e X.env whole=(do let v <- whole;standAt e.pos;holding [v] (truthy v)):=by intro _;rfl):PT X e (tB t):=by
 intro a s σ H Q I c;refine isTrue_plain (thn (h a s σ H _ I c) fun v i ζ=>?_) (he _);obtain ⟨x,f,I1,g,b⟩:=ζ;obtain ⟨d,rfl,q⟩:=b;cases g;exact wpAny_truthy_bool ⟨f,I1,q⟩
variable {tA tB':TT} {rest:List Expr}
def tAnd (t u:TT):TT:=fun σ H Q=>t σ H fun c H1=>if c=true then u σ H1 Q else Q false H1
def tOr (t u:TT):TT:=fun σ H Q=>t σ H fun c H1=>if c=true then Q true H1 else u σ H1 Q
def tNot (t:TT):TT:=fun σ H Q=>t σ H fun c H1=>Q (!c) H1
theorem JfM (ha:PT X a tA):PW X (.BoolOp .And [a] pos) tA:=by
 intro f b s σ H Q I h;refine isTrue_and (thn (ha b s σ H Q I h) fun c d e=>?_);cases c with
 | true=>exact isTrue_and_nil e
 | false=>exact e
theorem JbK (ha:PT X a tA):PW X (.BoolOp .Or [a] pos) tA:=by
 intro f b s σ H Q I h;refine isTrue_or (thn (ha b s σ H Q I h) fun c d e=>?_);cases c with
 | false=>exact isTrue_or_nil e
 | true=>exact e
theorem Jhw (ha:PT X a tA) (hb:PW X (.BoolOp .And (b::rest) pos) tB'):PW X (.BoolOp .And (a::b::rest) pos) (tAnd tA tB'):=by
 intro i d s σ H Q I h;refine isTrue_and (thn (ha d s σ H _ I h) fun c g ⟨f,I1,e⟩=>?_);cases c with
 | true=>exact hb i d g σ f Q I1 e
 | false=>exact ⟨f,I1,e⟩
theorem pw_or (ha:PT X a tA) (hb:PW X (.BoolOp .Or (b::rest) pos) tB'):PW X (.BoolOp .Or (a::b::rest) pos) (tOr tA tB'):=by
 intro i d s σ H Q I h;refine isTrue_or (thn (ha d s σ H _ I h) fun c g ⟨f,I1,e⟩=>?_);cases c with
 | true=>exact ⟨f,I1,e⟩
 | false=>exact hb i d g σ f Q I1 e
theorem Jcx (ha:PT X a tA):PT X (.UnaryOp .Not a pos) (tNot tA):=by
 intro b s σ H Q I h;exact isTrue_not (ha b s σ H (fun c d=>Q (!c) d) I h)
def tAndV (ta tb:TE):TE:=fun σ H Q=>ta σ H fun x H1=>∃ c,x=.bl c/\if c=true then tb σ H1 Q else Q (.bl false) H1
def tOrV (ta tb:TE):TE:=fun σ H Q=>ta σ H fun x H1=>∃ c,x=.bl c/\if c=true then Q (.bl true) H1 else tb σ H1 Q
def tNotV (ta:TE):TE:=fun σ H Q=>ta σ H fun x H1=>∃ c,x=.bl c/\Q (.bl (!c)) H1
theorem Jfc {op} {t:TE} (h:PE X a t):PE X (.BoolOp op [a] pos) t:=fun b s σ H Q I c=>BoolOp_one (h b s σ H Q I c)
theorem Jea (ha:PE X a ta) (hb:PE X (.BoolOp .And (b::rest) pos) tb):PE X (.BoolOp .And (a::b::rest) pos) (tAndV ta tb):=by
 intro d s σ H Q I h;refine BoolOp_and (thn (ha d s σ H _ I h) fun v g ζ=>?_);obtain ⟨x,f,I1,i,e⟩:=ζ;obtain ⟨c,rfl,e⟩:=e;cases i;refine wpAny_truthy_bool ?_;cases c with
 | true=>exact hb d g σ f Q I1 e
 | false=>exact ⟨.bl false,f,I1,rfl,e⟩
theorem pe_or (ha:PE X a ta) (hb:PE X (.BoolOp .Or (b::rest) pos) tb):PE X (.BoolOp .Or (a::b::rest) pos) (tOrV ta tb):=by
 intro d s σ H Q I h;refine BoolOp_or (thn (ha d s σ H _ I h) fun v g ζ=>?_);obtain ⟨x,f,I1,i,e⟩:=ζ;obtain ⟨c,rfl,e⟩:=e;cases i;refine wpAny_truthy_bool ?_;cases c with
 | false=>exact hb d g σ f Q I1 e
 | true=>exact ⟨.bl true,f,I1,rfl,e⟩
theorem JiS (ha:PE X a ta):PE X (.UnaryOp .Not a pos) (tNotV ta):=by
 intro b s σ H Q I h;refine UnaryOp_ (thn (ha b s σ H _ I h) fun v g ζ=>?_);obtain ⟨x,e,I1,f,d⟩:=ζ;obtain ⟨c,rfl,d⟩:=d;cases f;exact not_of (wpAny_truthy_bool ⟨.bl (!c),e,I1,rfl,d⟩)
def tIf (t:TT) (ta tb:TE):TE:=fun σ H Q=>t σ H fun c H1=>if c=true then ta σ H1 Q else tb σ H1 Q
variable {c:Expr}
theorem Jh8 (hc:PT X c tA) (ha:PE X a ta) (hb:PE X b tb):PE X (.IfExp c a b pos) (tIf tA ta tb):=by
 intro e s σ H Q I h;refine wpAny_IfExp (thn (hc e s σ H _ I h) fun d f ⟨i,I1,g⟩=>?_);cases d with
 | true=>exact ha e f σ i Q I1 g
 | false=>exact hb e f σ i Q I1 g
end
def SqL (K:W.Frag) (H:Hp) (a:Addr) (xs:List V):Prop :=
 Rd H a (.lst xs) \/
  ∃ (o:Obj) (its:Array Value) (n:Nat),K.lookup a=some o/\o.cls=.type "list"/\o.dict=none/\o.data=.seq its n/\its.size<=sizeLine/\Vals xs its.toList
def SqT (K:W.Frag) (H:Hp) (a:Addr) (xs:List V):Prop :=
 Rd H a (.tup xs) \/
  ∃ (o:Obj) (its:Array Value) (n:Nat),K.lookup a=some o/\o.cls=.type "tuple"/\o.data=.seq its n/\its.size<=sizeLine/\Vals xs its.toList
def absV:Value->Option V
 | .none=>some .non
 | .bool b=>some (.bl b)
 | .int i _=>some (.int i)
 | .str x _=>some (.str x)
 | .bytes b _=>some (.byt b)
 | .float b _=>some (.flt b)
 | .ref a=>some (.ref a)
 | .type n=>some (.ty n)
 | _=>none
variable {x:V}
theorem RelV.abs (r:RelV x u):absV u=some x:=by
 cases x with
 | non=>cases r;rfl
 | bl _=>cases r;rfl
 | int _=>obtain ⟨t,rfl⟩:=r;rfl
 | str _=>obtain ⟨t,rfl⟩:=r;rfl
 | byt _=>obtain ⟨t,rfl⟩:=r;rfl
 | flt _=>obtain ⟨t,rfl⟩:=r;rfl
 | ref _=>cases r;rfl
 | ty _=>cases r;rfl
variable {y:V}
theorem RelV.inj (r:RelV x u) (q:RelV y u):x=y:=Option.some.inj (r.abs.symm.trans q.abs)
theorem Vals.inj:∀ {xs ys:List V} {us:List Value},Vals xs us->Vals ys us->xs=ys
 | _,_,_, .nil, .nil=>rfl
 | _,_,_, .cons r t, .cons r' t'=>by rw [r.inj r',Vals.inj t t']
variable {σ:St} {ys:List V}
theorem SqL.of {K:W.Frag} (h:H a=some (.lst xs)):SqL K H a xs:=.inl (.inl h)
theorem SqT.of {K:W.Frag} (h:H a=some (.tup xs)):SqT K H a xs:=.inl (.inl h)
theorem Inv.list (I:Inv X pins σ H s) (h:SqL X.K H a xs):∃ its:List Value,Vals xs its/\PlainL s.heap a its.toArray/\xs.length<=sizeLine:=by
 rcases h with h | ⟨o,its,n,hk,hc,hd,hs,hz,r⟩
 ·obtain ⟨z,its,n,r,e⟩:=h.ok I.hok;exact ⟨its,r,⟨_,n,e,rfl,rfl,rfl⟩,z⟩
 ·refine ⟨its.toList,r,⟨o,n,I.kIn a o hk,hc,hd,by simpa using hs⟩,?_⟩;have e:=r.length;simp only [Array.length_toList] at e;ac_nf
theorem Inv.tuple (I:Inv X pins σ H s) (h:SqT X.K H a xs):∃ its:List Value,Vals xs its/\IsTup s.heap a its.toArray/\xs.length<=sizeLine:=by
 rcases h with h | ⟨o,its,n,hk,hc,hs,hz,r⟩
 ·obtain ⟨z,its,r,p⟩:=h.ok I.hok;exact ⟨its,r,p,z⟩
 ·refine ⟨its.toList,r,⟨o,I.kIn a o hk,hc,n,by simpa using hs⟩,?_⟩;have e:=r.length;simp only [Array.length_toList] at e;ac_nf
theorem Inv.list_inj (I:Inv X pins σ H s) (h:SqL X.K H a xs) (h':SqL X.K H a ys):xs=ys:=by
 obtain ⟨c,r,⟨o,n,e,_,_,d⟩,_⟩:=I.list h;obtain ⟨b,i,⟨k,j,f,_,_,g⟩,_⟩:=I.list h';rw [e] at f;cases f;rw [d] at g;injection g with d1 _
 have : c=b:=by simpa using congrArg Array.toList d1
 subst this;exact r.inj i
theorem Inv.tuple_inj (I:Inv X pins σ H s) (h:SqT X.K H a xs) (h':SqT X.K H a ys):xs=ys:=by
 obtain ⟨c,r,⟨o,e,_,n,d⟩,_⟩:=I.tuple h;obtain ⟨b,i,⟨k,f,_,j,g⟩,_⟩:=I.tuple h';rw [e] at f;cases f;rw [d] at g;injection g with d1 _
 have : c=b:=by simpa using congrArg Array.toList d1
 subst this;exact r.inj i
abbrev Cx.wish (X:Cx) (E:Value->Shared->Prop):Cx:={ X with xe:=E }
abbrev Cx.nox (X:Cx):Cx:=X.wish fun _ _=>False
theorem Cx.Ok.wish (ok:X.Ok) (E:Value->Shared->Prop):(X.wish E).Ok :=
 ⟨ok.mod,ok.kind,ok.glob,ok.blt,ok.above,ok.inj,ok.has,ok.cab,ok.hd,ok.frames,ok.stk,ok.exf,ok.bs,ok.bsz,ok.noex,ok.exfs,ok.funs,ok.frf⟩
theorem Cx.Ok.unwish (ok:(X.wish E).Ok):X.Ok :=
 ⟨ok.mod,ok.kind,ok.glob,ok.blt,ok.above,ok.inj,ok.has,ok.cab,ok.hd,ok.frames,ok.stk,ok.exf,ok.bs,ok.bsz,ok.noex,ok.exfs,ok.funs,ok.frf⟩
theorem Inv.wish (I:Inv X pins σ H s) (E:Value->Shared->Prop):Inv (X.wish E) pins σ H s:=⟨I.ok.wish E,I.os,I.bare,I.base,I.loc,I.cell,I.free,I.freeC,I.pin,I.hok,I.len⟩
theorem Inv.unwish (I:Inv (X.wish E) pins σ H s):Inv X pins σ H s:=⟨I.ok.unwish,I.os,I.bare,I.base,I.loc,I.cell,I.free,I.freeC,I.pin,I.hok,I.len⟩
theorem SP.unwish {D:Ends} {f:Flow} (h:SP (X.wish E) pins D f s'):SP X pins D f s':=by
 cases f with
 | next=>obtain ⟨σ',a,I,q⟩:=h;exact ⟨σ',a,I.unwish,q⟩
 | brk=>obtain ⟨σ',a,I,q⟩:=h;exact ⟨σ',a,I.unwish,q⟩
 | cont=>obtain ⟨σ',a,I,q⟩:=h;exact ⟨σ',a,I.unwish,q⟩
 | ret u=>obtain ⟨v,σ',a,I,r,q⟩:=h;exact ⟨v,σ',a,I.unwish,r,q⟩
theorem PSs.nox {st:List Stmt} {t:TS} (h:PSs X.nox st t):PSs X st t:=fun a s σ H D I b=>
 wpAny_mono (h a s σ H D (I.wish _) b) (fun _ _ q=>q.unwish) fun _ _ z=>False.elim z
section
variable {st:Stmt} {u:TS} {te:TE} {pos:Pos} {rest:List Stmt} {t:TS}
def tNext:TS:=fun D σ H=>D.nx σ H
def tSeq (t u:TS):TS:=fun D σ H=>t { D with nx:=u D } σ H
theorem Jau:PSs X [] tNext:=fun _ _ σ H _ I h=>wpAny_execs_nil ⟨σ,H,I,h⟩
theorem Jab (h1:PS X st t) (h2:PSs X rest u):PSs X (st::rest) (tSeq t u):=by
 intro a s σ H D I h;refine wpAny_execs_cons (thn (h1 a s σ H { D with nx:=u D } I h) fun f b q=>?_);cases f with
 | next=>
  obtain ⟨σ',c,I',q⟩:=q;exact h2 a b σ' c D I' q
 | ret v=>exact q
 | brk=>exact q
 | cont=>exact q
theorem Jaf (h1:PS X st t):PSs X [st] t:=by
 intro a s σ H D I h;refine wpAny_execs_cons (thn (h1 a s σ H D I h) fun f b q=>?_);cases f with
 | next=>exact wpAny_execs_nil q
 | ret v=>exact q
 | brk=>exact q
 | cont=>exact q
theorem Inv.quiet (I:Inv X pins σ H s):interactive X.env=false:=by simp [interactive,I.ok.kind]
def tDrop (te:TE):TS:=fun D σ H=>te σ H fun _ H1=>D.nx σ H1
theorem JaU (he:PE X e te) (hs:swapsWith e none pos.line X.env=pure false:=by rfl):PS X (.Expr e pos) (tDrop te):=by
 intro a s σ H D I h;exact wpAny_Expr_any (thn (he a s σ H _ I h) fun v d ζ=>by obtain ⟨x,c,I1,f,b⟩:=ζ;exact ⟨σ,c,I1,b⟩) I.quiet hs
def tRet (te:TE):TS:=fun D σ H=>te σ H D.rt
theorem Jao (he:PE X e te):PS X (.Return (some e) pos) (tRet te):=by
 intro a s σ H D I h;exact wpAny_Return_some (thn (he a s σ H _ I h) fun v f ζ=>by obtain ⟨x,c,I1,d,b⟩:=ζ;exact ⟨x,σ,c,I1,d,b⟩)
def tRetN:TS:=fun D _ H=>D.rt .non H
def tIfS (c:TT) (t u:TS):TS:=fun D σ H=>c σ H fun b H1=>if b=true then t D σ H1 else u D σ H1
variable {c:Expr} {tc:TT}
theorem ps_if {a b:List Stmt} (hc:PT X c tc) (ha:PSs X a t) (hb:PSs X b u):PS X (.If c a b pos) (tIfS tc t u):=by
 intro e s σ H D I h;refine wpAny_If (thn (hc e s σ H _ I h) fun d f ⟨i,I1,g⟩=>?_);cases d with
 | true=>exact ha e f σ i D I1 g
 | false=>exact hb e f σ i D I1 g
end
abbrev TG:=V->St->Hp->(St->Hp->Prop)->Prop
abbrev TGs:=List V->St->Hp->(St->Hp->Prop)->Prop
def PG (X:Cx) (target:Expr) (t:TG):Prop :=
 ∀ (pins:List (Addr × Obj)) (s:Shared) (σ : St) (H:Hp) (v:V) (u:Value) (Q:St->Hp->Prop),Inv X pins σ H s->RelV v u->t v σ H Q ->
  wpAny (model X.prog X.w) X.A (assign target X.env u) (fun _ s'=>∃ σ' H',Inv X pins σ' H' s'/\Q σ' H') X.xe s
def PGs (X:Cx) (ts:List Expr) (t:TGs):Prop :=
 ∀ (pins:List (Addr × Obj)) (s:Shared) (σ : St) (H:Hp) (vs:List V) (us:List Value) (Q:St->Hp->Prop),Inv X pins σ H s->Vals vs us->t vs σ H Q ->
  wpAny (model X.prog X.w) X.A (assignInOrder ((assignEach ts X.env).map (·.2)) us) (fun _ s'=>∃ σ' H',Inv X pins σ' H' s'/\Q σ' H') X.xe s
variable {pos:Pos}
def gName (i:Nat):TG:=fun v σ H Q=>Q (σ.set i (some v)) H
variable {x:Str}
theorem Jav (i:Nat) (hN:X.N.Nodup) (hi:X.N[i]?=some x:=by exact rfl) (hx:Loc X.env.scope x:=by exact Or.inl rfl) (hf:X.fn x=true\/X.env.scope.names.lookup x=some .local:=by first | exact .inl rfl | exact .inr rfl | assumption):PG X (.Name x pos) (gName i):=by
 intro a s σ H v u Q I r h;exact wpAny_assign_Name (Jdh I hN hi hx r (fun b I'=>⟨_,H,I',h⟩) hf)
def gNil:TGs:=fun vs σ H Q=>vs=[]/\Q σ H
def gCons (t:TG) (u:TGs):TGs:=fun vs σ H Q=>∃ v r,vs=v::r/\t v σ H fun σ' H'=>u r σ' H' Q
theorem JdB:PGs X [] gNil:=by
 intro a s σ H b c Q I r h;obtain ⟨e,h⟩:=h;subst e;cases r;exact assignInOrder_nil ⟨σ,H,I,h⟩
variable {es:List Expr}
theorem Ja7 {t:TG} {u:TGs} (h1:PG X e t) (h2:PGs X es u)
  (hs:(assignEach (e::es) X.env).map (·.2)=assign e X.env::(assignEach es X.env).map (·.2):=by rfl):PGs X (e::es) (gCons t u):=by
 intro a s σ H i j Q I r h;obtain ⟨v,g,c,h⟩:=h;subst c;cases r with
 | cons r rr=>
  rw [hs];refine assignInOrder_cons (thn (h1 a s σ H _ _ _ I r h) fun _ b ⟨σ1,f,I1,d⟩=>?_);exact h2 a b σ1 f _ _ Q I1 rr d
def gTup (K:W.Frag) (n:Nat) (t:TGs):TG:=fun v σ H Q=>∃ a xs,v=.ref a/\SqT K H a xs/\xs.length=n/\t xs σ H Q
theorem Jgf {k:Nat} {t:TGs} {n:Nat} (hc:X.calm=true) (h:PGs X es t)
  (hn:(assignEach es X.env).length=n:=by rfl) (hst:(assignEach es X.env).findIdx? (·.1)=none:=by rfl):PG X (.Tuple es k pos) (gTup X.K n t):=by
 intro c s σ H v u Q I r d;obtain ⟨a,g,m,w,p,d⟩:=d;subst m;cases r;obtain ⟨i,f,q,x⟩:=I.tuple w;refine assign_Tuple_tuple (I.ok.hd hc) q (by simp [hn, <- p,f.length]) hst fun j l=>?_;have I1:Inv X c σ H { s with heap:=j }:=I.kept (t':=s.toks) fun b o e=>l b o (Nat.ne_of_lt (Heap.lt_size e)) e;exact h c _ σ H g _ Q I1 (by simpa using f) d
def tAsg (te:TE) (g:TG):TS:=fun D σ H=>te σ H fun x H1=>g x σ H1 D.nx
variable {tg:Expr} {te:TE}
theorem Jku {g:TG} (he:PE X e te) (hg:PG X tg g) (hs:swapsWithSole [tg] e pos.line X.env=pure false:=by rfl) (hw:swappedStores [tg] e X.env=pure none:=by rfl)
  (h1:(assignEach [tg] X.env).map (·.2)=[assign tg X.env]:=by rfl):PS X (.Assign [tg] e pos) (tAsg te g):=by
 intro a s σ H D I h;refine wpAny_Assign_stores (thn (he a s σ H _ I h) fun v b ζ=>?_) hs hw;obtain ⟨x,d,I1,f,c⟩:=ζ;rw [h1];exact thn (hg a b σ d x v _ I1 f c) fun _ i q=>q
variable {pos':Pos}
theorem Jak (i:Nat) (hN:X.N.Nodup) (he:PE X e te) (hi:X.N[i]?=some x:=by exact rfl) (hx:Loc X.env.scope x:=by exact Or.inl rfl) (hs:swapsWith e (some (.Name x pos')) pos.line X.env=pure false:=by rfl) (hf:X.fn x=true\/X.env.scope.names.lookup x=some .local:=by first | exact .inl rfl | exact .inr rfl | assumption) :
  PS X (.Assign [.Name x pos'] e pos) (tAsg te (gName i)):=by
 intro a s σ H D I h;refine wpAny_Assign_Name (thn (he a s σ H _ I h) fun v f ζ=>?_) hs;obtain ⟨y,c,I1,d,b⟩:=ζ;exact Jdh I1 hN hi hx d (fun g I2=>⟨_,c,I2,b⟩) hf
def JkC (c:TT) (tb:TS):TS:=fun D σ H=>∃ W:Nat->St->Hp->Prop,(∃ m,W m σ H)/\∀ m σ H,W m σ H ->
 c σ H fun b H1=>if b=true then ∃ N:St->Hp->Prop,(∀ σ' H',N σ' H'->∃ m',m'<m/\W m' σ' H')/\tb { D with nx:=N,ct:=N,bk:=D.nx } σ H1 else D.nx σ H1
variable {c:Expr} {body:List Stmt} {tb:TS}
theorem Jdg {tc:TT} (hp:PassesOwn (model X.prog X.w) X.A X.env X.xe) (hc:PT X c tc) (hb:PSs X body tb):PS X (.While c body [] pos) (JkC tc tb):=by
 intro a s σ H D I h;obtain ⟨W,⟨r,x⟩,e⟩:=h;refine wpAny_While (codeAny_whileLoop (fun n z=>∃ σ' H',Inv X a σ' H' z/\W n σ' H') ?_ r ⟨σ,H,I,x⟩);rintro n u ⟨σ1,o,I1,t⟩;refine wpAny_passesOwn hp (thn (hc a u σ1 o _ I1 (e n σ1 o t)) fun b y ζ=>?_);obtain ⟨p,I2,g⟩:=ζ;cases b with
 | true=>
  obtain ⟨N,q,g⟩:=g;rw [if_pos rfl];refine wpAny_passesOwn hp (thn (hb a y σ1 p _ I2 g) fun f B i=>?_);cases f with
  | next=>
   obtain ⟨σ3,d,I3,j⟩:=i;obtain ⟨k,m,l⟩:=q σ3 d j;exact ⟨k,m,σ3,d,I3,l⟩
  | cont=>
   obtain ⟨σ3,d,I3,j⟩:=i;obtain ⟨k,m,l⟩:=q σ3 d j;exact ⟨k,m,σ3,d,I3,l⟩
  | brk=>exact i
  | ret v=>exact i
 | false=>
  rw [if_neg Bool.false_ne_true];exact wpAny_execs_nil ⟨σ1,p,I2,g⟩
structure It where
 go:Nat->Hp->Prop
 yld:Nat->Hp->V->Hp->Prop
 stop:Nat->Hp->Prop
def FpOk (X:Cx) (pins:List (Addr × Obj)) (H:Hp) (b:Addr):Prop :=
 H b=none/\b≠X.env.locals/\b∉X.fs/\(b∈X.ex\/X.s₀.heap.objs.size<=b)/\(∀ x c,X.env.cells.lookup x=some c->c≠b)/\∀ p∈X.pn++pins,p.1≠b
theorem Inv.fpOk (I:Inv X pins σ H s) (hb:s.heap.objs.size<=b) (hn:H' b=none):FpOk X pins H' b:=by
 refine ⟨hn,Nat.ne_of_gt (Nat.lt_of_lt_of_le I.lt hb),I.nofs hb, .inr (Nat.le_trans I.sz hb),fun x c e z=>?_,fun p a z=>?_⟩
 ·obtain ⟨v,q⟩:=I.cell x c e;exact absurd (Nat.lt_of_lt_of_le q.lt (by rw [z];exact hb)) (Nat.lt_irrefl _)
 ·exact absurd (Nat.lt_of_lt_of_le (Heap.lt_size (I.pin p a).1) (by rw [z];exact hb)) (Nat.lt_irrefl _)
structure Turn (P:Program) (w:World) (K:W.Frag) (tg:Expr) (J:It) (fp:List Addr) (it:Addr) (tn:Nat->Heap->Prop):Prop where
 mem:it∈fp
 obj:∀ i h,tn i h->∀ b∈fp, ∃ o,h.get? b=some o/\∀ v,o.data≠.cell v
 keep:∀ i h h',tn i h->(∀ b∈fp, ∀ o,h.get? b=some o->h'.get? b=some o)->tn i h'
 item:∀ (X:Cx),X.prog=P->X.w=w->X.K=K->X.calm=true->∀ (i:Nat) (pins:List (Addr × Obj)) (s:Shared) (σ : St) (H:Hp) (E:Value->Shared->Prop),Inv X pins σ H s->(∀ b∈fp,FpOk X pins H b)->tn i s.heap->J.go i H ->
  wpAny (model P w) X.A (pyNext (.ref it)) (fun r s1=>∃ u,r=some u /\
   wpAny (model P w) X.A (letOwnedTupleGo tg (.ref it) u) (fun _ s2=>∃ x H',Inv X pins σ H' s2/\RelV x u/\J.yld i H x H'/\tn (i+1) s2.heap/\∀ b∈fp,H' b=none) E s1) E s
 done:∀ (X:Cx),X.prog=P->X.w=w->X.K=K->X.calm=true->∀ (i:Nat) (pins:List (Addr × Obj)) (s:Shared) (σ : St) (H:Hp) (E:Value->Shared->Prop),Inv X pins σ H s->(∀ b∈fp,FpOk X pins H b)->tn i s.heap->J.stop i H ->
  wpAny (model P w) X.A (pyNext (.ref it)) (fun r s1=>r=none/\Inv X pins σ H s1) E s
 self:∀ (A:Around) (i:Nat) (s:Shared) (Q:Value->Shared->Prop) (E:Value->Shared->Prop),tn i s.heap->Q (.ref it) s->wpAny (model P w) A (pyIter (.ref it)) Q E s
abbrev TI:=St->Hp->(It->Hp->Prop)->Prop
def PIE (X:Cx) (pins:List (Addr × Obj)) (σ : St) (tg:Expr) (R:It->Hp->Prop) (itv:Value) (s2:Shared):Prop :=
 ∃ (it:Addr) (fp:List Addr) (tn:Nat->Heap->Prop) (J:It) (H':Hp),itv=.ref it/\Inv X pins σ H' s2/\Turn X.prog X.w X.K tg J fp it tn/\tn 0 s2.heap/\(∀ b∈fp,FpOk X pins H' b)/\R J H'
def PI (X:Cx) (tg iter:Expr) (wi:TI):Prop :=
 ∀ (pins:List (Addr × Obj)) (s:Shared) (σ : St) (H:Hp) (R:It->Hp->Prop),Inv X pins σ H s->wi σ H R ->
  wpAny (model X.prog X.w) X.A (eval iter X.env) (fun v s1=>wpAny (model X.prog X.w) X.A (pyIter v) (PIE X pins σ tg R) X.xe s1) X.xe s
variable {o:Obj}
theorem go_of {n:String} {vs:Array Value} (ho:s.heap.get? it=some o) (hc:o.cls=.type n) (hd:o.data=.fields vs)
    (hn:["enumerate","zip","dict_itemiterator","dict_reverseitemiterator","odict_iterator","itertools.zip_longest","itertools.pairwise"].contains n=false) (hQ:Q () s):wpAny M A (letOwnedTupleGo tg (.ref it) u) Q E s:=by
  unfold letOwnedTupleGo;cases tg <;> first
    | exact wpAny_pure hQ
    | (cases u <;> first
        | exact wpAny_pure hQ
        | (refine wpAny_bind (wpAny_load ho ?_)
           rw [hc,hd];show wpAny M A (if (["enumerate","zip","dict_itemiterator","dict_reverseitemiterator","odict_iterator","itertools.zip_longest","itertools.pairwise"].contains n&&vs[0]? == some (rawInt _))=true then _ else _) Q E s;rw [if_neg (by intro h;rw [hn,Bool.false_and] at h;cases h)];exact wpAny_pure hQ))
def Itl (K:W.Frag) (a:Addr):It :=
 ⟨fun i H=>∃ xs x,SqL K H a xs/\xs[i]?=some x,fun i H x H'=>H'=H/\∀ xs,SqL K H a xs->xs[i]?=some x,fun i H=>∃ xs,SqL K H a xs/\xs.length<=i⟩
def Itt (K:W.Frag) (a:Addr):It :=
 ⟨fun i H=>∃ xs x,SqT K H a xs/\xs[i]?=some x,fun i H x H'=>H'=H/\∀ xs,SqT K H a xs->xs[i]?=some x,fun i H=>∃ xs,SqT K H a xs/\xs.length<=i⟩
def Itr (lo:Int) (n:Nat):It:=⟨fun i _=>i<n,fun i H x H'=>H'=H/\x=.int (lo+i),fun i _=>n<=i⟩
theorem JhN {K:W.Frag} (a it:Addr):Turn P w K tg (Itl K a) [it] it (fun i h=>h.IsListIter it a i) where
 mem:=by simp
 obj:=fun i h f b j=>by
  have e:b=it:=by simpa using j
  subst e;obtain ⟨o,e,c,d⟩:=f;exact ⟨o,e,fun v z=>by rw [d] at z;cases z⟩
 keep:=fun i h m f k=>f.at fun o e=>k it (by simp) o e
 item:=by
  intro X L J F N i g s σ H E I n f G;subst L J F;obtain ⟨O,x,q,C⟩:=G;obtain ⟨A,r,p,S⟩:=I.list q;obtain ⟨u,V,Q⟩:=r.get C;obtain ⟨D,y,U,t,B,M⟩:=n it (by simp);refine wpAny_pyNext_list_item f p.isList (x:=u) (by simpa using V) fun m l R=>?_;have I1:Inv X g σ H { s with heap:=m }:=I.turned (t':=s.toks) (fun b o j e=>(R.2 b j).trans e) D y t B M;obtain ⟨o,e,c,d⟩:=id l;exact ⟨u,rfl,go_of (s:={ s with heap:=m }) e c d ⋯ ⟨x,H,I1,Q,⟨rfl,fun Z Y=>by rw [I.list_inj Y q];exact C⟩,l,fun b j=>(n b j).1⟩⟩
 done:=by
  intro X L J F N i g s σ H E I n f G;subst L J F;obtain ⟨O,q,C⟩:=G;obtain ⟨A,r,p,S⟩:=I.list q;obtain ⟨D,y,U,t,B,M⟩:=n it (by simp);have hl:=r.length;exact wpAny_pyNext_list_end (I.ok.hd N) f p.isList (by simp;ac_nf) fun m T=>⟨rfl,I.turned (t':=s.toks) (fun b o j e=>T b o j e) D y t B M⟩
 self:=fun _ _ _ _ _ f h=>wpAny_pyIter_listiter f h
theorem JgJ {K:W.Frag} (a it:Addr):Turn P w K tg (Itt K a) [it] it (fun i h=>h.IsTupleIter it a i) where
 mem:=by simp
 obj:=fun i h f b j=>by
  have e:b=it:=by simpa using j
  subst e;obtain ⟨o,e,c,d⟩:=f;exact ⟨o,e,fun v z=>by rw [d] at z;cases z⟩
 keep:=fun i h n f k=>f.at fun o e=>k it (by simp) o e
 item:=by
  intro X L J F N i g s σ H E I q f G;subst L J F;obtain ⟨O,x,r,C⟩:=G;obtain ⟨l,t,p,S⟩:=I.tuple r;obtain ⟨u,V,Q⟩:=t.get C;obtain ⟨D,A,U,y,B,M⟩:=q it (by simp);refine wpAny_pyNext_tuple_item f (show s.heap.IsTuple a l.toArray from p) (x:=u) (by simpa using V) fun n m R=>?_;have I1:Inv X g σ H { s with heap:=n }:=I.turned (t':=s.toks) (fun b o j e=>(R.2 b j).trans e) D A y B M;obtain ⟨o,e,c,d⟩:=id m;exact ⟨u,rfl,go_of (s:={ s with heap:=n }) e c d ⋯ ⟨x,H,I1,Q,⟨rfl,fun Z Y=>by rw [I.tuple_inj Y r];exact C⟩,m,fun b j=>(q b j).1⟩⟩
 done:=by
  intro X L J F N i g s σ H E I q f G;subst L J F;obtain ⟨O,r,C⟩:=G;obtain ⟨l,t,p,S⟩:=I.tuple r;obtain ⟨D,A,U,y,B,M⟩:=q it (by simp);have hl:=t.length;exact wpAny_pyNext_tuple_end (I.ok.hd N) f (show s.heap.IsTuple a l.toArray from p) (by simp;ac_nf) fun n T=>⟨rfl,I.turned (t':=s.toks) (fun b o j e=>T b o j e) D A y B M⟩
 self:=fun _ _ _ _ _ f h=>wpAny_pyIter_tupleiter f h
theorem JgI {K:W.Frag} (it:Addr) (lo:Int) (n:Nat):Turn P w K tg (Itr lo n) [it] it (fun i h=>IsRangeIter h it (lo+(i:Nat)*1) ((n:Int)-(i:Nat)) 1) where
 mem:=by simp
 obj:=fun i h a b d=>by
  have e:b=it:=by simpa using d
  subst e;exact ⟨_,a,fun v z=>by
   have G:Data.fields _=Data.cell v:=z;cases G⟩
 keep:=fun i h g a k=>k it (by simp) _ a
 item:=by
  intro X A y r u i c s σ H E I j a x;subst A y r;obtain ⟨q,m,J,l,p,B⟩:=j it (by simp);have W:=Walks.range (prog:=X.prog) (w:=X.w) (I.ok.hd u) it lo 1 n;refine W.item i s _ _ x a fun v g C L f F=>?_;obtain ⟨t,rfl⟩:=L;have I1:Inv X c σ H { s with heap:=g,toks:=C }:=I.turned (fun b o d e=>F b o (by simpa using d) e) q m l p B;refine ⟨_,rfl,go_of (s:={ s with heap:=g,toks:=C }) (n:="range_iterator") f rfl rfl ⋯ ⟨.int (lo+i),H,I1,⟨t,?_⟩,⟨rfl,rfl⟩,f,fun b d=>(j b d).1⟩⟩;rw [Int.mul_one]
 done:=by
  intro X A y r u i c s σ H E I j a x;subst A y r;obtain ⟨q,m,J,l,p,B⟩:=j it (by simp);exact wpAny_pyNext_range_end (I.ok.hd u) a (by have : n<=i:=x;ac_nf) fun g D=>⟨rfl,I.turned (t':=s.toks) (fun b o d e=>D b o d e) q m l p B⟩
 self:=fun _ _ _ _ _ a h=>wpAny_pyIter_rangeiter a h
theorem Jij {R:It->Hp->Prop} {lo hi:Int} {t u v:Tok} {tk:Nat} (I:Inv X pins σ H s) (h1 : -(2 ^ 62)<=lo) (h2:lo<2 ^ 62) (h3 : -(2 ^ 62)<=hi) (h4:hi<2 ^ 62)
  (q:R (Itr lo (hi-lo).toNat) H):wpAny (model X.prog X.w) X.A (pyIter (.ref s.heap.objs.size)) (PIE X pins σ tg R) E { s with heap:=s.heap.push { cls:=.type "range",data:=.fields #[.int lo t, .int hi u, .int 1 v] },toks:=tk }:=by
 refine wpAny_pyIter_range (IsRange.new ..) (small_one h1 h2 h3 h4) ?_;have I1:Inv X pins σ H { s with heap:=s.heap.push { cls:=.type "range",data:=.fields #[.int lo t, .int hi u, .int 1 v] },toks:=tk }:=I.kept fun b o e=>Heap.get?_push_of_some _ e;refine ⟨(s.heap.push { cls:=.type "range",data:=.fields #[.int lo t, .int hi u, .int 1 v] }).objs.size,[(s.heap.push { cls:=.type "range",data:=.fields #[.int lo t, .int hi u, .int 1 v] }).objs.size],_,_,H,rfl,
  I1.kept (t':=tk) fun b o e=>Heap.get?_push_of_some _ e,JgI _ lo (hi-lo).toNat,?_,fun b d=>?_,q⟩
 ·have a:lo+((0:Nat):Int)*1=lo:=by simp
  have c:(((hi-lo).toNat:Nat):Int)-((0:Nat):Int)=Builtin.Range.rangeSize lo hi 1:=by rw [rangeSize_one];split <;> ac_nf
  show IsRangeIter _ _ (lo+((0:Nat):Int)*1) ((((hi-lo).toNat:Nat):Int)-((0:Nat):Int)) 1;rw [a,c];exact Heap.get?_push_size _ rfl
 ·have e:b=(s.heap.push { cls:=.type "range",data:=.fields #[.int lo t, .int hi u, .int 1 v] }).objs.size:=by simpa using d
  subst e;exact I1.fpOk (Nat.le_refl _) (I1.hok.fresh (Nat.le_refl _))
def iRng1 (ta:TA):TI:=fun σ H R=>ta σ H fun vs H1=>∃ j:Int,vs=[.int j]/\-(2 ^ 62)<=j/\j<2 ^ 62/\R (Itr 0 j.toNat) H1
def iRng2 (ta:TA):TI:=fun σ H R=>ta σ H fun vs H1=>∃ i j:Int,vs=[.int i, .int j]/\(-(2 ^ 62)<=i/\i<2 ^ 62/\-(2 ^ 62)<=j/\j<2 ^ 62)/\R (Itr i (j-i).toNat) H1
variable {a:Expr}
theorem JcM {ta:TA} {p:Pos} (hg:Gl X "range") (hm:X.mg "range"=none) (ha:PA X [a] ta) (hs:starEach [a] X.env=[(false,eval a X.env)]:=by rfl):PI X tg (.Call (.Name "range" p) [a] [] pos) (iRng1 ta):=by
 intro b s σ H R I h;refine Call_ (Jc1 I hg hm boot_range (PyProof.Rows.callWith_type1 (thn (ha pos b s σ H _ I h) fun l g ζ=>?_) hs rfl));obtain ⟨i,k,I1,f,c⟩:=ζ;obtain ⟨j,e,c,d,q⟩:=c;subst e;cases f with
 | cons r rr=>
  cases rr;obtain ⟨t,rfl⟩:=r;exact call_range_1 (Jij I1 ∅ ∅ c d (by simpa using q))
def tFor (wi:TI) (g:TG) (tb:TS):TS:=fun D σ H=>wi σ H fun J H1=>∃ W:Nat->Nat->St->Hp->Prop,(∃ m,W 0 m σ H1)/\∀ i m σ H,W i m σ H ->
 (J.stop i H/\D.nx σ H)\/(J.go i H/\∃ N:St->Hp->Prop,(∀ σ' H',N σ' H'->∃ m',m'<m/\W (i+1) m' σ' H')/\∀ x H',J.yld i H x H'->g x σ H' fun σ2 H2=>tb { D with nx:=N,ct:=N,bk:=D.nx } σ2 H2)
def Jgg (fp:List Addr) (h:Heap):List (Addr × Obj):=fp.filterMap fun b=>(h.get? b).map fun o=>(b,o)
variable {fp:List Addr}
theorem JcW (hb:b∈fp) (e:h.get? b=some o):(b,o)∈Jgg fp h:=List.mem_filterMap.mpr ⟨b,hb,by rw [e];rfl⟩
theorem Jhk {p:Addr × Obj} (hp:p∈Jgg fp h):p.1∈fp/\h.get? p.1=some p.2:=by
 obtain ⟨b,c,e⟩:=List.mem_filterMap.mp hp;cases q:h.get? b with
 | none=>rw [q] at e;cases e
 | some o=>
  rw [q] at e;have a:(b,o)=p:=Option.some.inj e;subst a;exact ⟨c,q⟩
theorem Inv.pinned (I:Inv X pins σ H s) (hf:∀ b∈fp,FpOk X pins H b) (ho:∀ b∈fp, ∃ o,s.heap.get? b=some o/\∀ v,o.data≠.cell v):Inv X (pins++Jgg fp s.heap) σ H s :=
 I.pins_of fun p i=>(mem_append.mp i).elim (fun z=>I.pin p (mem_append_right _ z)) fun z=>by
  obtain ⟨c,e⟩:=Jhk z;obtain ⟨f,g,h,_⟩:=hf p.1 c;obtain ⟨o,a,d⟩:=ho p.1 c;rw [e] at a;cases a;exact ⟨e,f,g,h,d⟩
theorem Inv.unpinned {pl:List (Addr × Obj)} (I:Inv X (pins++pl) σ H s):Inv X pins σ H s:=I.pins_of fun p a=>I.pin p (mem_append_right _ (List.mem_append_left _ a))
theorem Ja4 {iter:Expr} {wi:TI} {g:TG} (hp:PassesOwn (model X.prog X.w) X.A X.env X.xe) (hc:X.calm=true) (hi:PI X tg iter wi) (hg:PG X tg g) (hb:PSs X body tb)
  (hs:∀ x,foldedSetIterable iter X.env x=pure x:=by intro _;rfl):PS X (.For tg iter body [] pos) (tFor wi g tb):=by
 intro a s σ H D I h;refine wpAny_For (thn (hi a s σ H _ I h) fun v s1 Z=>thn Z fun a0 s2 S=>?_) hs;obtain ⟨it,B,O,J,H2,e,I2,T,K,P,W,⟨U,w0⟩,y⟩:=S;subst e;have c:∀ {H':Hp},(∀ b∈B,H' b=none)->∀ b∈B,FpOk X a H' b:=fun hn b hb=>⟨hn b hb,(P b hb).2⟩;refine codeAny_forLoop_any (fun n R=>∃ i σ' H',Inv X a σ' H' R/\O i R.heap/\(∀ b∈B,H' b=none)/\W i n σ' H') ?_ U ⟨0,σ,H2,I2,K,fun b hb=>(P b hb).1,w0⟩;rintro n M ⟨i,σ3,C,I3,q,t,w3⟩;rcases y i n σ3 C w3 with ⟨stop,qn⟩ | ⟨go,N,hN,step⟩
 ·refine wpAny_passesOwn hp (thn (T.done X rfl rfl rfl hc i a M σ3 C X.xe I3 (c t) q stop) fun r s4 ⟨E,I4⟩=>?_);subst E;exact wpAny_execs_nil ⟨σ3,C,I4,qn⟩
 ·refine wpAny_passesOwn hp (thn (T.item X rfl rfl rfl hc i a M σ3 C X.xe I3 (c t) q go) fun r s4 ζ=>?_);obtain ⟨u,E,h4⟩:=ζ;subst E;refine wpAny_passesOwn hp (thn h4 fun _ Q ζ=>?_);obtain ⟨x,L,I5,r5,y5,p,G⟩:=ζ;have I5':=I5.pinned (c G) (T.obj _ _ p);refine wpAny_passesOwn hp (thn (hg _ Q σ3 L x u _ I5' r5 (step x L y5)) fun _ s6 ζ=>?_);obtain ⟨σ6,H6,I6,q6⟩:=ζ;refine wpAny_passesOwn hp (thn (hb _ s6 σ6 H6 _ I6 q6) fun f F l=>?_);have j:∀ {σ7:St} {k:Hp},Inv X (a++Jgg B Q.heap) σ7 k F->N σ7 k->∃ m,m<n/\∃ i σ' H',Inv X a σ' H' F/\O i F.heap/\(∀ b∈B,H' b=none)/\W i m σ' H':=fun {σ7 k} I7 z=>by
   obtain ⟨V,hm,w7⟩:=hN σ7 k z;refine ⟨V,hm,i+1,σ7,k,I7.unpinned,T.keep _ _ _ p fun b hb o e=>(I7.pin (b,o) (mem_append_right _ (mem_append_right _ (JcW hb e)))).1,fun b hb=>?_,w7⟩;obtain ⟨o,e,d⟩:=T.obj _ _ p b hb;exact (I7.pin (b,o) (mem_append_right _ (mem_append_right _ (JcW hb e)))).2.1
  cases f with
  | next=>obtain ⟨σ7,k,I7,z⟩:=l;exact j I7 z
  | cont=>obtain ⟨σ7,k,I7,z⟩:=l;exact j I7 z
  | brk=>obtain ⟨σ7,k,I7,l⟩:=l;exact ⟨σ7,k,I7.unpinned,l⟩
  | ret v=>obtain ⟨Y,σ7,k,I7,r7,l⟩:=l;exact ⟨Y,σ7,k,I7.unpinned,r7,l⟩
variable {n:Nat}
theorem Jg5 {lo:Int} {g:TG} {D:Ends} (Pv:Nat->St->Hp->Prop) (h0:Pv 0 σ H)
  (hs:∀ i σ H,i<n->Pv i σ H->g (.int (lo+i)) σ H fun σ2 H2=>tb { D with nx:=Pv (i+1),ct:=Pv (i+1),bk:=D.nx } σ2 H2) (hd:∀ σ H,Pv n σ H->D.nx σ H) :
  ∃ W:Nat->Nat->St->Hp->Prop,(∃ m,W 0 m σ H)/\∀ i m σ H,W i m σ H ->
   ((Itr lo n).stop i H/\D.nx σ H)\/((Itr lo n).go i H/\∃ N:St->Hp->Prop,(∀ σ' H',N σ' H'->∃ m',m'<m/\W (i+1) m' σ' H')/\∀ x H',(Itr lo n).yld i H x H'->g x σ H' fun σ2 H2=>tb { D with nx:=N,ct:=N,bk:=D.nx } σ2 H2):=by
 refine ⟨fun i m σ H=>m=n-i/\i<=n/\Pv i σ H,⟨n,by simp,Nat.zero_le _,h0⟩,?_⟩;rintro i m σ H ⟨rfl,c,p⟩;by_cases a:i<n
 ·refine .inr ⟨a,Pv (i+1),fun σ' H' b=>⟨n-(i+1),by ac_nf,rfl,a,b⟩,fun x H' y=>?_⟩;obtain ⟨e,y⟩:=y;subst e y;exact hs i σ _ a p
 ·have e:i=n:=by ac_nf
  subst e;exact .inl ⟨Nat.le_refl _,hd σ H p⟩
abbrev R2:=V->V->Hp->VK->Prop
def OpR (X:Cx) (f:Value->Value->Sem Value) (r:R2):Prop :=
 ∀ (pins:List (Addr × Obj)) (s:Shared) (σ : St) (H:Hp) (x y:V) (v u:Value) (Q:VK),Inv X pins σ H s->RelV x v->RelV y u->r x y H Q ->
  wpAny (model X.prog X.w) X.A (f v u) (EP X pins σ Q) X.xe s
def UnR (X:Cx) (f:Value->Sem Value) (r:V->Hp->VK->Prop):Prop :=
 ∀ (pins:List (Addr × Obj)) (s:Shared) (σ : St) (H:Hp) (x:V) (v:Value) (Q:VK),Inv X pins σ H s->RelV x v->r x H Q ->
  wpAny (model X.prog X.w) X.A (f v) (EP X pins σ Q) X.xe s
def CallR (X:Cx) (f:Value) (r:List V->Hp->VK->Prop):Prop :=
 ∀ (pins:List (Addr × Obj)) (s:Shared) (σ : St) (H:Hp) (xs:List V) (us:List Value) (Q:VK),Inv X pins σ H s->Vals xs us->r xs H Q ->
  wpAny (model X.prog X.w) X.A (call f us) (EP X pins σ Q) X.xe s
def tOp (r:R2) (ta tb:TE):TE:=fun σ H Q=>ta σ H fun x H1=>tb σ H1 fun y H2=>r x y H2 Q
def tUn (r:V->Hp->VK->Prop) (ta:TE):TE:=fun σ H Q=>ta σ H fun x H1=>r x H1 Q
def rI (C:Int->Int->Prop) (g:Int->Int->V):R2:=fun x y H Q=>∃ i j,x=.int i/\y=.int j/\C i j/\Q (g i j) H
def rI0 (g:Int->Int->V):R2:=fun x y H Q=>∃ i j,x=.int i/\y=.int j/\Q (g i j) H
def rU (g:Int->V):V->Hp->VK->Prop:=fun x H Q=>∃ i,x=.int i/\Q (g i) H
variable {b:Expr} {ta tb tc:TE}
theorem binT (ha:PE X a ta) (hb:PE X b tb) {pins:List (Addr × Obj)} {s:Shared} {σ : St} {H:Hp} {R:V->V->Hp->Prop} (I:Inv X pins σ H s)
  (h:ta σ H fun x H1=>tb σ H1 fun y H2=>R x y H2) {Q:Value->Shared->Prop} {f:Value->Value->Sem Value}
  (hf:∀ v u s2 x y H2,Inv X pins σ H2 s2->RelV x v->RelV y u->R x y H2->wpAny (model X.prog X.w) X.A (f v u) Q X.xe s2) :
  wpAny (model X.prog X.w) X.A (eval a X.env) (fun v s₁=>wpAny (model X.prog X.w) X.A (eval b X.env) (fun u s₂=>wpAny (model X.prog X.w) X.A (f v u) Q X.xe s₂) X.xe s₁) X.xe s:=by
 refine thn (ha pins s σ H _ I h) fun v d ζ=>?_;obtain ⟨x,H1,I1,i,e⟩:=ζ;refine thn (hb pins d σ H1 _ I1 e) fun u s2 ζ=>?_;obtain ⟨y,H2,I2,g,c⟩:=ζ;exact hf v u s2 x y H2 I2 i g c
theorem pe_op {op:Operator} {r:R2} (ho:OpR X (binaryOp op) r) (ha:PE X a ta) (hb:PE X b tb):PE X (.BinOp a op b pos) (tOp r ta tb):=by
 intro c s σ H Q I h;exact wpAny_BinOp (binT ha hb I h fun v u f x y g I2 e d q=>ho c f σ g x y v u Q I2 e d q)
theorem pe_un {op:UnaryOp} {r:V->Hp->VK->Prop} (ho:UnR X (unaryOp op) r) (ha:PE X a ta):PE X (.UnaryOp op a pos) (tUn r ta):=by
 intro b s σ H Q I h;exact UnaryOp_ (thn (ha b s σ H _ I h) fun v c ζ=>by obtain ⟨x,e,I1,f,d⟩:=ζ;exact ho b c σ e x v Q I1 f d)
theorem opI {f:Value->Value->Sem Value} {C:Int->Int->Prop} {g:Int->Int->Int}
  (rule:∀ (i j:Int) (t u:Tok) (s:Shared) (Q:Value->Shared->Prop) (E:Value->Shared->Prop),C i j->Q (.int (g i j) s.toks) { s with toks:=s.toks+1 }->wpAny (model X.prog X.w) X.A (f (.int i t) (.int j u)) Q E s) :
  OpR X f (rI C fun i j=>.int (g i j)):=by
 intro a s σ H x y v u Q I c b h;obtain ⟨i,j,rfl,rfl,d,q⟩:=h;obtain ⟨t,rfl⟩:=c;obtain ⟨e,rfl⟩:=b;exact rule i j t e s _ _ d ⟨.int (g i j),H,I.tok _,⟨_,rfl⟩,q⟩
theorem opI0 {f:Value->Value->Sem Value} {g:Int->Int->Int}
  (rule:∀ (i j:Int) (t u:Tok) (s:Shared) (Q:Value->Shared->Prop) (E:Value->Shared->Prop),Q (.int (g i j) s.toks) { s with toks:=s.toks+1 }->wpAny (model X.prog X.w) X.A (f (.int i t) (.int j u)) Q E s) :
  OpR X f (rI0 fun i j=>.int (g i j)):=by
 intro a s σ H x y v u Q I c b h;obtain ⟨i,j,rfl,rfl,q⟩:=h;obtain ⟨t,rfl⟩:=c;obtain ⟨d,rfl⟩:=b;exact rule i j t d s _ _ ⟨.int (g i j),H,I.tok _,⟨_,rfl⟩,q⟩
theorem opB0 {f:Value->Value->Sem Value} {g:Int->Int->Bool}
  (rule:∀ (i j:Int) (t u:Tok) (s:Shared) (Q:Value->Shared->Prop) (E:Value->Shared->Prop),Q (.bool (g i j)) s->wpAny (model X.prog X.w) X.A (f (.int i t) (.int j u)) Q E s) :
  OpR X f (rI0 fun i j=>.bl (g i j)):=by
 intro a s σ H x y v u Q I c b h;obtain ⟨i,j,rfl,rfl,q⟩:=h;obtain ⟨t,rfl⟩:=c;obtain ⟨d,rfl⟩:=b;exact rule i j t d s _ _ ⟨.bl (g i j),H,I,rfl,q⟩
def CPow (i j:Int):Prop:=0<=j/\j<=1000000/\i.natAbs<2 ^ 64
theorem Jkj:OpR X (binaryOp .Add) (rI0 fun i j=>.int (i+j)):=opI0 fun _ _ _ _ _ _ _ q=>add_int q
theorem Jd8:OpR X (binaryOp .Sub) (rI0 fun i j=>.int (i-j)):=opI0 fun _ _ _ _ _ _ _ q=>sub_int q
theorem Jjr:OpR X (binaryOp .Mod) (rI (fun _ j=>j≠0) fun i j=>.int (i.fmod j)):=opI fun _ _ _ _ _ _ _ a q=>mod_int' a q
theorem Jkp:OpR X (binaryOp .Pow) (rI CPow fun i j=>.int (i ^ j.toNat)):=opI fun _ _ _ _ _ _ _ a q=>pow_int_small a.1 a.2.1 a.2.2 q
theorem unI {f:Value->Sem Value} {g:Int->Int}
  (rule:∀ (i:Int) (t:Tok) (s:Shared) (Q:Value->Shared->Prop) (E:Value->Shared->Prop),Q (.int (g i) s.toks) { s with toks:=s.toks+1 }->wpAny (model X.prog X.w) X.A (f (.int i t)) Q E s) :
  UnR X f (rU fun i=>.int (g i)):=by
 intro a s σ H x v Q I b h;obtain ⟨i,rfl,q⟩:=h;obtain ⟨t,rfl⟩:=b;exact rule i t s _ _ ⟨.int (g i),H,I.tok _,⟨_,rfl⟩,q⟩
theorem JcQ:UnR X (unaryOp .USub) (rU fun i=>.int (-i)):=unI fun _ _ _ _ _ q=>neg_int q
def scal:V->V->Bool
 | .non, .non=>true | .non, .int _=>true | .int _, .non=>true | .non, .bl _=>true | .bl _, .non=>true | .non, .str _=>true | .str _, .non=>true
 | .int _, .int _=>true | .bl _, .bl _=>true | .str _, .str _=>true | .byt _, .byt _=>true
 | .int _, .str _=>true | .str _, .int _=>true | .bl _, .str _=>true | .str _, .bl _=>true
 | _,_=>false
def rEq:R2:=fun x y H Q=>scal x y=true/\Q (.bl (decide (x=y))) H
def rNe:R2:=fun x y H Q=>scal x y=true/\Q (.bl (!decide (x=y))) H
theorem JgZ {i j:Int}:decide (V.int i=V.int j)=(i == j):=by
 rw [Bool.eq_iff_iff];simp
theorem JiB {i j:Bool}:decide (V.bl i=V.bl j)=(i == j):=by
 rw [Bool.eq_iff_iff];simp
theorem Jg0 {i j:Str}:decide (V.str i=V.str j)=(i == j):=by
 rw [Bool.eq_iff_iff];simp
theorem JgY {i j:Array UInt8}:decide (V.byt i=V.byt j)=(i.toList == j.toList):=by
 rw [Bool.eq_iff_iff];cases i;cases j;simp
theorem JaH {Q:VK} {k k':Bool} (I:Inv X pins σ H s) (q:Q (.bl k) H) (e:k=k'):EP X pins σ Q (.bool k') s:=by
 subst e;exact ⟨.bl k,H,I,rfl,q⟩
theorem op_eq:OpR X (compareOp .Eq) rEq:=by
 intro e s σ H x y v u Q I d a h;obtain ⟨c,q⟩:=h;cases x with
 | non=>
  cases d;cases y with
  | non=>cases a;exact PySem.EqNone.eq_none_none (JaH I q (by simp))
  | bl j=>cases a;exact PySem.EqNone.eq_none_bool (JaH I q (by simp))
  | int j=>obtain ⟨b,rfl⟩:=a;exact PySem.EqNone.eq_none_int (JaH I q (by simp))
  | str j=>obtain ⟨b,rfl⟩:=a;exact PySem.EqNone.eq_none_str (JaH I q (by simp))
  | _=>exact absurd (show false=true from c) Bool.false_ne_true
 | bl i=>
  cases d;cases y with
  | non=>cases a;exact PySem.EqNone.eq_bool_none (JaH I q (by simp))
  | bl j=>cases a;exact eq_bool (JaH I q JiB)
  | str j=>obtain ⟨b,rfl⟩:=a;exact PySem.EqMixed.eq_bool_str (JaH I q (by simp))
  | _=>exact absurd (show false=true from c) Bool.false_ne_true
 | int i=>
  obtain ⟨t,rfl⟩:=d;cases y with
  | non=>cases a;exact PySem.EqNone.eq_int_none (JaH I q (by simp))
  | int j=>obtain ⟨b,rfl⟩:=a;exact eq_int (JaH I q JgZ)
  | str j=>obtain ⟨b,rfl⟩:=a;exact PySem.EqMixed.eq_int_str (JaH I q (by simp))
  | _=>exact absurd (show false=true from c) Bool.false_ne_true
 | str i=>
  obtain ⟨t,rfl⟩:=d;cases y with
  | non=>cases a;exact PySem.EqNone.eq_str_none (JaH I q (by simp))
  | bl j=>cases a;exact PySem.EqMixed.eq_str_bool (JaH I q (by simp))
  | int j=>obtain ⟨b,rfl⟩:=a;exact PySem.EqMixed.eq_str_int (JaH I q (by simp))
  | str j=>obtain ⟨b,rfl⟩:=a;exact eq_str (JaH I q Jg0)
  | _=>exact absurd (show false=true from c) Bool.false_ne_true
 | byt i=>
  obtain ⟨t,rfl⟩:=d;cases y with
  | byt j=>obtain ⟨b,rfl⟩:=a;exact W.eq_bytes (JaH I q JgY)
  | _=>exact absurd (show false=true from c) Bool.false_ne_true
 | _=>cases y <;> exact absurd (show false=true from c) Bool.false_ne_true
theorem op_ne:OpR X (compareOp .NotEq) rNe:=by
 intro e s σ H x y v u Q I d a h;obtain ⟨c,q⟩:=h;cases x with
 | non=>
  cases d;cases y with
  | non=>cases a;exact PySem.EqNone.ne_none_none (JaH I q (by simp))
  | bl j=>cases a;exact PySem.EqNone.ne_none_bool (JaH I q (by simp))
  | int j=>obtain ⟨b,rfl⟩:=a;exact PySem.EqNone.ne_none_int (JaH I q (by simp))
  | str j=>obtain ⟨b,rfl⟩:=a;exact PySem.EqNone.ne_none_str (JaH I q (by simp))
  | _=>exact absurd (show false=true from c) Bool.false_ne_true
 | bl i=>
  cases d;cases y with
  | non=>cases a;exact PySem.EqNone.ne_bool_none (JaH I q (by simp))
  | bl j=>cases a;exact ne_bool (JaH I q (congrArg not JiB))
  | str j=>obtain ⟨b,rfl⟩:=a;exact PySem.EqMixed.ne_bool_str (JaH I q (by simp))
  | _=>exact absurd (show false=true from c) Bool.false_ne_true
 | int i=>
  obtain ⟨t,rfl⟩:=d;cases y with
  | non=>cases a;exact PySem.EqNone.ne_int_none (JaH I q (by simp))
  | int j=>obtain ⟨b,rfl⟩:=a;exact ne_int (JaH I q (congrArg not JgZ))
  | str j=>obtain ⟨b,rfl⟩:=a;exact PySem.EqMixed.ne_int_str (JaH I q (by simp))
  | _=>exact absurd (show false=true from c) Bool.false_ne_true
 | str i=>
  obtain ⟨t,rfl⟩:=d;cases y with
  | non=>cases a;exact PySem.EqNone.ne_str_none (JaH I q (by simp))
  | bl j=>cases a;exact PySem.EqMixed.ne_str_bool (JaH I q (by simp))
  | int j=>obtain ⟨b,rfl⟩:=a;exact PySem.EqMixed.ne_str_int (JaH I q (by simp))
  | str j=>obtain ⟨b,rfl⟩:=a;exact ne_str (JaH I q (congrArg not Jg0))
  | _=>exact absurd (show false=true from c) Bool.false_ne_true
 | byt i=>
  obtain ⟨t,rfl⟩:=d;cases y with
  | byt j=>obtain ⟨b,rfl⟩:=a;exact W.ne_bytes (JaH I q (congrArg not JgY))
  | _=>exact absurd (show false=true from c) Bool.false_ne_true
 | _=>cases y <;> exact absurd (show false=true from c) Bool.false_ne_true
theorem op_lt:OpR X (compareOp .Lt) (rI0 fun i j=>.bl (decide (i<j))):=opB0 fun _ _ _ _ _ _ _ q=>lt_int q
theorem op_gt:OpR X (compareOp .Gt) (rI0 fun i j=>.bl (decide (j<i))):=opB0 fun _ _ _ _ _ _ _ q=>gt_int q
theorem op_ge:OpR X (compareOp .GtE) (rI0 fun i j=>.bl (decide (j<=i))):=opB0 fun _ _ _ _ _ _ _ q=>ge_int q
theorem Jho:OpR X (compareOp .In) (fun x y H Q=>∃ i j,x=.str i/\y=.str j/\Q (.bl (!(Builtin.Str.occurrences j i 0 j.length 1).isEmpty)) H):=by
 intro a s σ H x y v u Q I c b h;obtain ⟨i,j,rfl,rfl,q⟩:=h;obtain ⟨t,rfl⟩:=c;obtain ⟨d,rfl⟩:=b;exact in_str (JaH I q rfl)
theorem Jko:OpR X (compareOp .Is) (fun x y H Q=>y=.non/\Q (.bl (decide (x=.non))) H):=by
 intro b s σ H x y v u Q I a c h;obtain ⟨rfl,q⟩:=h;cases c;refine is_none_gen (JaH I q ?_);cases x <;> first
  | (cases a;rfl)
  | (obtain ⟨t,rfl⟩:=a;rfl)
theorem Jju:OpR X (compareOp .IsNot) (fun x y H Q=>y=.non/\Q (.bl (!decide (x=.non))) H):=by
 intro b s σ H x y v u Q I a c h;obtain ⟨rfl,q⟩:=h;cases c;refine isnot_none_gen (JaH I q ?_);cases x <;> first
  | (cases a;rfl)
  | (obtain ⟨t,rfl⟩:=a;rfl)
theorem Jax (b:Expr) {op:CmpOp} (h:op≠.In:=by decide) (h2:op≠.NotIn:=by decide):behindInMarks op b=false:=by
 have a:(op == CmpOp.In)=false:=by cases op <;> first | rfl | exact absurd rfl h
 have c:(op == CmpOp.NotIn)=false:=by cases op <;> first | rfl | exact absurd rfl h2
 cases b <;> simp [behindInMarks,a,c]
variable {op:CmpOp} {r:R2}
theorem Jce (ho:OpR X (compareOp op) r) (ha:PE X a ta) (hb:PE X b tb) (hm:behindInMarks op b=false):PE X (.Compare a [op] [b] pos) (tOp r ta tb):=by
 intro c s σ H Q I h;exact wpAny_Compare1 (binT ha hb I h fun v u f x y g I2 e d q=>ho c f σ g x y v u Q I2 e d q) hm
def tTest (t:TE):TT:=fun σ H Q=>t σ H fun x H'=>∃ k,x=.bl k/\Q k H'
theorem Jas (ho:OpR X (compareOp op) r) (ha:PE X a ta) (hb:PE X b tb) (hm:behindInMarks op b=false):PT X (.Compare a [op] [b] pos) (tTest (tOp r ta tb)):=by
 intro d s σ H Q I h;refine wpAny_isTrue_Compare1 (thn (ha d s σ H _ I h) fun v l ζ=>?_) hm;obtain ⟨x,i,I1,n,o⟩:=ζ;refine thn (hb d l σ i _ I1 o) fun u t ζ=>?_;obtain ⟨y,j,I2,q,f⟩:=ζ;refine thn (ho d t σ j x y v u _ I2 n q f) fun c w ζ=>?_;obtain ⟨z,g,I3,p,k,e,m⟩:=ζ
 subst e;cases p;exact wpAny_truthy_bool ⟨g,I3,m⟩
theorem JeX:(sizeLine:Nat)<2 ^ 63:=by rw [sizeLine_eq];decide
theorem JgC:OpR X (binaryOp .Add) (fun x y H Q=>∃ i j,x=.str i/\y=.str j/\i.length+j.length<=sizeLine/\Q (.str (i++j)) H):=by
 intro a s σ H x y v u Q I b c h;obtain ⟨i,j,rfl,rfl,d,q⟩:=h;obtain ⟨t,rfl⟩:=b;obtain ⟨e,rfl⟩:=c;exact add_str (fun e f=>⟨.str (i++j),H,I.tok _,⟨_,rfl⟩,q⟩) d
variable {x:V}
theorem vals1 (r:Vals [x] us):∃ u,us=[u]/\RelV x u:=by
 cases r with
 | cons r1 r2=>cases r2;exact ⟨_,rfl,r1⟩
theorem vals2 (r:Vals [x,y] us):∃ u w',us=[u,w']/\RelV x u/\RelV y w':=by
 cases r with
 | cons r1 r2=>
  cases r2 with
  | cons r3 r4=>cases r4;exact ⟨_,_,rfl,r1,r3⟩
theorem JhP:CallR X (.builtin "abs") (fun xs H Q=>∃ i,xs=[.int i]/\Q (.int (if i<0 then -i else i)) H):=by
 intro a s σ H xs c Q I r h;obtain ⟨i,rfl,q⟩:=h;obtain ⟨u,rfl,t,rfl⟩:=vals1 r;exact call_abs_int fun u b=>⟨.int (if i<0 then -i else i),H,I.tok _,⟨_,rfl⟩,q⟩
structure ObjM (h:Heap) (x dx C:Addr) (mA:Str->Option Value):Prop where
 obj:h.get? x=some (W.instObj C dx)
 ns:h.Ns1 dx mA
 ne:dx≠x
variable {dx:Addr} {mA:Str->Option Value}
theorem Jdv (n:h.Ns1 dx mA):∃ od,h.get? dx=some od/\∀ name,W.lookIn name od=some (mA name):=by
 obtain ⟨o,c,l,f,i,k,_,d⟩:=n;refine ⟨o,f,fun name=>?_⟩;have e:=d name;unfold nsFind findBy at e;rw [<- Array.find?_toList] at e;unfold W.lookIn;rw [i];dsimp only;split
 ·rename_i y q;rw [q] at e;exact congrArg some e
 ·rename_i q;rw [q] at e;have a:c.toList.any (·.refKey)=false:=by
   rw [List.any_eq_false];intro y g;obtain ⟨z,t,b⟩:=k y (Array.mem_toList_iff.mp g);simp [DictEntry.refKey,b]
  have j:¬ c.toList.any (·.refKey)=true:=by rw [a];exact Bool.false_ne_true
  rw [if_neg j];exact congrArg some e
variable {x C:Addr}
theorem ObjM.look (I:ObjM h x dx C mA):∃ od,W.InstAt h x (W.instObj C dx) C (some od)/\∀ name,W.lookIn name od=some (mA name) :=
 let ⟨od,ho,hl⟩:=Jdv I.ns
 ⟨od,⟨I.obj,rfl,rfl,ho⟩,hl⟩
section
variable {name:Str} {v:Value} {K:W.Frag} {f:Addr}
theorem get_map {expr:Bool} {Q:Value->Shared->Prop} (X:K.In s.heap) (I:ObjM s.heap x dx C mA) (hg:W.plainGet K C name=true) (hh:W.hasDictIn K C=true)
  (ha:W.findIn K (.ref C) name=some none) (hv:mA name=some v) (hv':W.handedIn v=true) (h:Q v { s with toks:=s.toks+1 }) :
  wpAny (model prog w) A (getAttr (.ref x) name expr) Q E s:=by
 obtain ⟨b,J,a⟩:=I.look;exact W.get_value X J (W.plainGet_of hg).1 (W.findObj_own hh ha rfl (by rw [a,hv])) hv' h
variable {pl:Sem Bool}
theorem JhU {Q:Value × List Value->Shared->Prop} (X:K.In s.heap) (I:ObjM s.heap x dx C mA) (hg:W.plainGet K C name=true)
  (hf:W.findIn K (.ref C) name=some (some (.ref f))) (ht:W.isFn K (.ref f)=true) (hv:mA name=none) (h:Q (.ref f,[.ref x]) s) :
  wpAny (model prog w) A (getMethod (.ref x) name pl) Q E s:=by
 obtain ⟨b,J,a⟩:=I.look;exact W.method_fn X J (W.plainGet_of hg).1 (W.plainGet_of hg).2 hf (beq_iff_eq.mp ht) (by show (W.lookIn name b).map (·.isSome)=some false;rw [a,hv];rfl) h
theorem JjL {ns:List Str} (X:K.In s.heap) (I:ObjM s.heap x dx C mA)
  (hs:W.findIn K (.ref C) "__setattr__"=some (some (.builtin "object.__setattr__"))) (hp:W.plainOver K C=true) (ht:W.takerIn K C name=some none) (hh:W.hasDictIn K C=true)
  (hw:PySem.Within mA ns) (hsz:ns.length<=sizeLine)
  (h:∀ h',ObjM h' x dx C (fun y=>if y=name then some v else mA y)->Heap.SameBut dx s.heap h'->Q () { s with heap:=h',toks:=s.toks+2 }) :
  wpAny (model prog w) A (setAttr (.ref x) name v) Q E s:=by
 obtain ⟨p,J,q⟩:=I.look;refine W.set_plain X J hs (W.osa_open (s:={ s with toks:=s.toks+1 }) (r:=none) X J hp ht fun b=>?_);obtain ⟨o,m,e⟩:=W.any_some hh;have k:s.heap.get? x=some ⟨.ref C,some dx, .plain, #[]⟩:=I.obj;refine wpAny_bind (wpAny_pure (wpAny_bind (wpAny_bind (wpAny_loadPart k (wpAny_bind (W.Looks.here (s:={ s with toks:=s.toks+1 }) (W.looks_clsIn X m) ?_))))));rw [e];refine wpAny_pure (a:=some dx) (wpAny_bind (wpAny_pure (wpAny_bind ?_)));refine wpAny_nsSet1 (s:={ s with toks:=s.toks+1 }) I.ns fun h' c d=>?_;obtain ⟨n,j,l,f,g,i⟩:=c.count (PySem.Within.cons name v hw);refine wpAny_bind (wpAny_lookBehind f (by rw [g];exact pastItsLine_dict (Nat.le_trans i (by rw [length_cons];ac_nf))) ?_);exact wpAny_pure (h _ ⟨(d.2 _ (Ne.symm I.ne)).trans I.obj,c,I.ne⟩ d)
variable {kw:List (Str × Value)}
theorem Jh0 {R:Result->Shared->Prop} {vs:List Value} (X:K.In s.heap) (hm:W.makesIn K C=true)
  (hi:W.findIn K (.ref C) "__init__"=some (some (.ref f))) (hf:W.typeIn K (.ref f)=some (.type "function"))
  (h:codeAny (model prog w) (A.under (.builtin "type.__call__" ⟨.ref C::vs,kw⟩)) (.call (.ref f) ⟨.ref (s.heap.objs.size+1)::vs,kw⟩) (W.InitBack (s.heap.objs.size+1) R)
   { s with heap:=(s.heap.push W.emptyDict).push (W.instObj C s.heap.objs.size) }) :
  codeAny (model prog w) A (.call (.ref C) ⟨vs,kw⟩) R s:=by
 obtain ⟨c,g,d,t,b⟩:=s;exact W.make_core (W.makes_of X hm) (W.looks_findIn X hi) (fun a=>W.bind_fn X a hf) (.inl rfl) h
end
def putF (f:Str) (v:V):List (Str × V)->List (Str × V)
 | []=>[(f,v)]
 | (g,x)::r=>if g=f then (g,v)::r else (g,x)::putF f v r
theorem Jdw (f g:Str) (v:V):∀ fs:List (Str × V),(putF f v fs).lookup g=if g=f then some v else fs.lookup g
 | []=>by
  show List.lookup g [(f,v)]=_;by_cases h:g=f
  ·have hb:(g == f)=true:=beq_iff_eq.mpr h;simp only [List.lookup,hb,if_pos h]
  ·have hb:(g == f)=false:=beq_eq_false_iff_ne.mpr h;simp only [List.lookup,hb,if_neg h]
 | (k,x)::r=>by
  have ih:=Jdw f g v r;rw [show putF f v ((k,x)::r)=(if k=f then (k,v)::r else (k,x)::putF f v r) from rfl];by_cases hk:k=f
  ·rw [if_pos hk];by_cases h:g=k
   ·have hb:(g == k)=true:=beq_iff_eq.mpr h;simp only [List.lookup,hb,if_pos (h.trans hk)]
   ·have hb:(g == k)=false:=beq_eq_false_iff_ne.mpr h;simp only [List.lookup,hb,if_neg (fun e:g=f=>h (e.trans hk.symm))]
  ·rw [if_neg hk];by_cases h:g=k
   ·have hb:(g == k)=true:=beq_iff_eq.mpr h;simp only [List.lookup,hb,if_neg (fun e:g=f=>hk (h.symm.trans e))]
   ·have hb:(g == k)=false:=beq_eq_false_iff_ne.mpr h;simp only [List.lookup,hb];exact ih
theorem Jds (f:Str) (v:V):∀ fs:List (Str × V),f∈(putF f v fs).map (·.1)/\∀ g,g∈fs.map (·.1)->g∈(putF f v fs).map (·.1)
 | []=>⟨by simp [putF],fun g h=>by simp at h⟩
 | (k,x)::r=>by
  obtain ⟨i1,i2⟩:=Jds f v r;rw [show putF f v ((k,x)::r)=(if k=f then (k,v)::r else (k,x)::putF f v r) from rfl];by_cases hk:k=f
  ·rw [if_pos hk];subst hk;exact ⟨by simp,fun g h=>by simpa using h⟩
  ·rw [if_neg hk];refine ⟨?_,fun g h=>?_⟩
   ·rw [map_cons];exact mem_cons_of_mem _ i1
   ·rw [map_cons] at h ⊢;rcases mem_cons.mp h with e | e
    ·exact mem_cons.mpr (.inl e)
    ·exact mem_cons_of_mem _ (i2 g e)
theorem Jdt (f:Str) (v:V):∀ fs:List (Str × V),(putF f v fs).length<=fs.length+1
 | []=>by simp [putF]
 | (k,x)::r=>by
  have ih:=Jdt f v r;rw [show putF f v ((k,x)::r)=(if k=f then (k,v)::r else (k,x)::putF f v r) from rfl];by_cases hk:k=f
  ·rw [if_pos hk,length_cons,length_cons];ac_nf
  ·rw [if_neg hk,length_cons,length_cons];ac_nf
variable {o:Option Value}
theorem RelO.some_of (r:RelO (some v) o):∃ u,o=some u/\RelV v u:=by
 cases o with
 | none=>exact (show False from r).elim
 | some u=>exact ⟨u,rfl,r⟩
theorem RelO.none_of (r:RelO none o):o=none:=by
 cases o with
 | none=>rfl
 | some u=>exact (show False from r).elim
theorem JeU (r:RelV v u):W.handedIn u=true:=by
 cases v with
 | non=>cases (show u=Value.none from r);rfl
 | bl b=>cases (show u=Value.bool b from r);rfl
 | int i=>obtain ⟨t,e⟩:=(show ∃ t,u=Value.int i t from r);cases e;rfl
 | str x=>obtain ⟨t,e⟩:=(show ∃ t,u=Value.str x t from r);cases e;rfl
 | byt b=>obtain ⟨t,e⟩:=(show ∃ t,u=Value.bytes b t from r);cases e;rfl
 | flt b=>obtain ⟨t,e⟩:=(show ∃ t,u=Value.float b t from r);cases e;rfl
 | ref a=>cases (show u=Value.ref a from r);rfl
 | ty n=>cases (show u=Value.type n from r);rfl
section
variable {a:Addr} {fs':List (Str × V)} {fs:List (Str × V)}
theorem Jel (hok:HOk P w H h) (e:H a=some (.ins C dx fs)):∃ mA,ObjM h a dx C mA/\(∀ f,RelO (fs.lookup f) (mA f))/\PySem.Within mA (fs.map (·.1))/\fs.length<=1000/\H dx=some (.own a):=by
 obtain ⟨d,z,c,b,mA,n,r,q⟩:=(show ObjOk P w H h a (.ins C dx fs) from hok a _ e);exact ⟨mA,⟨b,n,c⟩,r,q,z,d⟩
end
structure Cls (K:W.Frag) (C:Addr):Prop where
 pg:W.plainGet K C Str.empty=true
 hd:W.hasDictIn K C=true
 po:W.plainOver K C=true
 sa:W.findIn K (.ref C) "__setattr__"=some (some (.builtin "object.__setattr__"))
theorem Cls.get {K:W.Frag} (c:Cls K C) (f:Str):W.plainGet K C f=true:=c.pg
def Jbb (K:W.Frag) (C:Addr) (f:Str):Prop:=W.findIn K (.ref C) f=some none
theorem Jbb.taker {K:W.Frag} {f:Str} (n:Jbb K C f):W.takerIn K C f=some none:=by
 unfold W.takerIn;rw [show W.findIn K (.ref C) f=some none from n];rfl
structure Meth (K:W.Frag) (C:Addr) (m:Str) (f:Addr):Prop where
 at_:W.findIn K (.ref C) m=some (some (.ref f))
 fn:W.isFn K (.ref f)=true
 kp:W.keepIn K (.ref f)=true
section
variable {a:Addr} {fs:List (Str × V)} {f:Str} {b:Bool}
theorem Jgu {Q:Value->Shared->Prop} (I:Inv X pins σ H s) (e:H a=some (.ins C dx fs)) (c:Cls X.K C) (n:Jbb X.K C f) (l:fs.lookup f=some v)
  (h:∀ u s',Inv X pins σ H s'->RelV v u->Q u s'):wpAny (model X.prog X.w) A (getAttr (.ref a) f b) Q E s:=by
 obtain ⟨i,O,r,_,_,_⟩:=Jel I.hok e;obtain ⟨u,g,d⟩:=RelO.some_of (v:=v) (o:=i f) (by rw [<- l];exact r f);exact get_map I.kIn O (c.get f) c.hd n g (JeU d) (h u _ (I.tok _) d)
theorem Jcs {m:Str} {g:Addr} {pl:Sem Bool} {Q:Value × List Value->Shared->Prop} (I:Inv X pins σ H s) (e:H a=some (.ins C dx fs)) (c:Cls X.K C) (k:Meth X.K C m g) (l:fs.lookup m=none)
  (h:Q (.ref g,[.ref a]) s):wpAny (model X.prog X.w) A (getMethod (.ref a) m pl) Q E s:=by
 obtain ⟨b,O,r,_,_,_⟩:=Jel I.hok e;have d:b m=none:=RelO.none_of (by rw [<- l];exact r m);exact JhU I.kIn O (c.get m) k.at_ k.fn d h
theorem JgF (I:Inv X pins σ H s) (e:H a=some (.ins C dx fs)) (c:Cls X.K C) (n:Jbb X.K C f) (hl:fs.length<1000) (ry:RelV y u)
  (h:∀ s',Inv X pins σ (upd H a (.ins C dx (putF f y fs))) s'->Q () s'):wpAny (model X.prog X.w) A (setAttr (.ref a) f u) Q E s:=by
 obtain ⟨j,O,r,d,_,i⟩:=Jel I.hok e;have k:(fs.map (·.1)).length<=sizeLine:=by rw [length_map,sizeLine_eq];ac_nf
 refine JjL I.kIn O c.sa c.po n.taker c.hd d k fun l O' p=>h _ ?_;have v:∃ o,l.get? dx=some o:=let ⟨o,_,_,e',_⟩:=O'.ns;⟨o,e'⟩;refine I.write (x:=a) (e:=dx) (by rw [e];exact True.intro) (.inr i) (fun b q m z=>(p.2 b m).trans z) v ?_;refine ⟨by rw [Jag O.ne];exact i,?_,O.ne,O'.obj,_,O'.ns,fun g=>?_,fun g t=>?_⟩
 ·have:=Jdt f y fs;ac_nf
 ·show RelO ((putF f y fs).lookup g) (if g=f then some u else j g);rw [Jdw];by_cases q:g=f
  ·rw [if_pos q,if_pos q];exact ry
  ·rw [if_neg q,if_neg q];exact r g
 ·by_cases q:g=f
  ·rw [q];exact (Jds f y fs).1
  ·refine (Jds f y fs).2 g (d g fun z=>t ?_);show (if g=f then some u else j g)=none;rw [if_neg q];exact z
theorem Inv.made (I:Inv X pins σ H s):Inv X pins σ (upd (upd H s.heap.objs.size (.own (s.heap.objs.size+1))) (s.heap.objs.size+1) (.ins C s.heap.objs.size []))
  { s with heap:=(s.heap.push W.emptyDict).push (W.instObj C s.heap.objs.size) }:=by
 have c:(s.heap.push W.emptyDict).get? s.heap.objs.size=some W.emptyDict:=Heap.get?_push_size s.heap rfl;have g:((s.heap.push W.emptyDict).push (W.instObj C s.heap.objs.size)).get? (s.heap.objs.size+1)=some (W.instObj C s.heap.objs.size):=by
  have:=Heap.get?_push_size (s.heap.push W.emptyDict) (o:=W.instObj C s.heap.objs.size) rfl
  rwa [Heap.size_push] at this
 have f:(s.heap.push W.emptyDict).Ns s.heap.objs.size (fun _=>none):=⟨W.emptyDict, #[],_,c,rfl,(fun e i=>absurd i (by simp)),fun _=>rfl⟩;have I1:=I.laid (a:=s.heap.objs.size) (o:=.own (s.heap.objs.size+1)) (h':=s.heap.push W.emptyDict) (t':=s.toks) (fun b u q=>Heap.get?_push_of_some _ q) (Nat.le_refl _) ⟨_,c⟩;refine I1.laid (a:=s.heap.objs.size+1) (o:=.ins C s.heap.objs.size []) (t':=s.toks) (fun b u q=>Heap.get?_push_of_some _ q) (Nat.le_of_eq (Heap.size_push _ _)) ?_;have d:s.heap.objs.size≠s.heap.objs.size+1:=Nat.ne_of_lt (Nat.lt_succ_self _);refine ⟨by rw [Jag d,Jaq],Nat.zero_le _,d,g,fun _=>none,(Heap.Ns1.of_empty f).at fun o q=>Heap.get?_push_of_some _ q,fun _=>True.intro,fun y h=>absurd rfl h⟩
variable {Q:Value->Shared->Prop}
theorem JgN {env:Env} {f:Str} (hb:attributeBase e f env (eval e env)=eval e env)
  (h:wpAny (model prog w) A (eval e env) (fun o s₁=>wpAny (model prog w) A (getAttr o f true) Q E s₁) E s):wpAny (model prog w) A (eval (.Attribute e f pos) env) Q E s :=
 Attribute_any_ h (by rw [arm_eval_Attribute,hb])
end
def tFld (K:W.Frag) (ta:TE) (f:Str):TE:=fun σ H Q=>ta σ H fun x H1=>∃ a C dx fs v,x=.ref a/\H1 a=some (.ins C dx fs)/\Cls K C/\Jbb K C f/\fs.lookup f=some v/\Q v H1
def sFld (K:W.Frag) (ta tv:TE) (f:Str):TS:=fun D σ H=>tv σ H fun y H1=>ta σ H1 fun x H2=>∃ a C dx fs,x=.ref a/\H2 a=some (.ins C dx fs)/\Cls K C/\Jbb K C f/\fs.length<1000 /\
 D.nx σ (upd H2 a (.ins C dx (putF f y fs)))
section
variable {o value:Expr} {tpos:Pos} {tv:TE} {f:Str}
theorem Jat (he:PE X e ta) (hb:attributeBase e f X.env (eval e X.env)=eval e X.env):PE X (.Attribute e f pos) (tFld X.K ta f):=by
 intro b s σ H Q I h;refine JgN hb (thn (he b s σ H _ I h) fun u p ζ=>?_);obtain ⟨x,j,I1,i,a,C,m,r,v,d,k,c,n,l,q⟩:=ζ;subst d;obtain rfl:u=Value.ref a:=i;exact Jgu I1 k c n l fun o t I2 g=>⟨v,j,I2,g,q⟩
theorem JbJ (ha:PE X o ta) (hv:PE X value tv) (hs:swapsWith value (some (.Attribute o f pos')) pos.line X.env=pure false):PS X (.Assign [.Attribute o f pos'] value pos) (sFld X.K ta tv f):=by
 intro b s σ H D I h;refine plainObj_wpAny_Assign_Attribute (thn (hv b s σ H _ I h) fun u p ζ=>?_) hs;obtain ⟨y,k,I1,i,q⟩:=ζ;refine thn (ha b p σ k _ I1 q) fun j z ζ=>?_;obtain ⟨x,t,I2,g,a,C,r,w,e,m,c,n,l,d⟩:=ζ;subst e;obtain rfl:j=Value.ref a:=g;exact JgF I2 m c n l i fun v I3=>⟨σ,_,I3,d⟩
end
variable {Q:Value->Shared->Prop} {c:Value} {b:Bool}
inductive TyOf (K:W.Frag) (H:Hp):V->Value->Prop where
 | non:TyOf K H .non (.type "NoneType")
 | bl (x:Bool):TyOf K H (.bl x) (.type "bool")
 | int (i:Int):TyOf K H (.int i) (.type "int")
 | str (x:Str):TyOf K H (.str x) (.type "str")
 | flt (x:UInt64):TyOf K H (.flt x) (.type "float")
 | lst {a:Addr} {xs:List V} (e:H a=some (.lst xs)):TyOf K H (.ref a) (.type "list")
 | frz {a:Addr} {o:Obj} {xs:List V} (e:H a=some (.frz o (.lst xs))):TyOf K H (.ref a) (.type "list")
 | tup {a:Addr} {xs:List V} (e:H a=some (.tup xs)):TyOf K H (.ref a) (.type "tuple")
 | dK {a:Addr} {kvs:List (Key × V)} (e:H a=some (.dK kvs)):TyOf K H (.ref a) (.type "dict")
 | dT {a:Addr} {kvs:List (List Key × V)} (e:H a=some (.dT kvs)):TyOf K H (.ref a) (.type "dict")
 | ins {a C dx:Addr} {fs:List (Str × V)} (e:H a=some (.ins C dx fs)) (cl:Cls K C) (ha:W.findIn K (.ref C) "__class__"=some (some (.builtin "object.__class__")))
   (hn:W.specialIn K (.builtin "object.__class__") "__get__"=some (some (.builtin "getset_descriptor.__get__"))) (htk:W.takesIn K (.builtin "object.__class__")=some true)
   (hm:W.mroIn K C (.type "object")=some true):TyOf K H (.ref a) (.ref C)
theorem Jha {x:V} {t:Value} (I:Inv X pins σ H s) (rx:RelV x u) (ty:TyOf X.K H x t) (e:W.kitOne X.K t c=some b) (h:∀ tk,Q (.bool b) { s with toks:=tk }) :
  wpAny (model X.prog X.w) A (call (.builtin "isinstance") [u,c]) Q E s:=by
 cases ty with
 | non=>cases (show u=Value.none from rx);exact W.kia_one W.kitx_none I.kIn True.intro e (fun z=>nomatch z) h
 | bl y=>cases (show u=Value.bool y from rx);exact W.kia_one W.kitx_bool I.kIn True.intro e (fun z=>nomatch z) h
 | int i=>obtain ⟨t,q⟩:=(show ∃ t,u=Value.int i t from rx);cases q;exact W.kia_one W.kitx_int I.kIn True.intro e (fun z=>nomatch z) h
 | str y=>obtain ⟨t,q⟩:=(show ∃ t,u=Value.str y t from rx);cases q;exact W.kia_one W.kitx_str I.kIn True.intro e (fun z=>nomatch z) h
 | flt y=>obtain ⟨t,q⟩:=(show ∃ t,u=Value.float y t from rx);cases q;exact W.kia_one W.kitx_float I.kIn True.intro e (fun z=>nomatch z) h
 | @lst a f ea=>
  cases (show u=Value.ref a from rx);obtain ⟨_,_,n,_,d⟩:=(show ObjOk X.prog X.w H s.heap a (.lst f) from I.hok a _ ea);exact W.kia_one W.kitx_list I.kIn ⟨_,d,rfl⟩ e (fun z=>nomatch z) h
 | @frz a ob f ea=>
  cases (show u=Value.ref a from rx);obtain ⟨_,_,_,n,_,d⟩:=(show ObjOk X.prog X.w H s.heap a (.frz ob (.lst f)) from I.hok a _ ea);exact W.kia_one W.kitx_list I.kIn ⟨_,d,rfl⟩ e (fun z=>nomatch z) h
 | @tup a f ea=>
  cases (show u=Value.ref a from rx);obtain ⟨_,_,_,p⟩:=(show ObjOk X.prog X.w H s.heap a (.tup f) from I.hok a _ ea);obtain ⟨o,d,g,_⟩:=p;exact W.kia_one W.kitx_tuple I.kIn ⟨o,d,g⟩ e (fun z=>nomatch z) h
 | @dK a kvs ea=>
  cases (show u=Value.ref a from rx);obtain ⟨_,_,r,_,p⟩:=(show ObjOk X.prog X.w H s.heap a (.dK kvs) from I.hok a _ ea);obtain ⟨o,k,j,d,g,_⟩:=p;exact W.kia_one W.kitx_dict I.kIn ⟨o,d,g.1⟩ e (fun z=>nomatch z) h
 | @dT a kvs ea=>
  cases (show u=Value.ref a from rx);obtain ⟨_,_,f,_,o,k,j,d,g,_⟩:=(show ObjOk X.prog X.w H s.heap a (.dT kvs) from I.hok a _ ea);exact W.kia_one W.kitx_dict I.kIn ⟨o,d,g.1⟩ e (fun z=>nomatch z) h
 | @ins a C dx fs ea cl ha hn htk hm=>
  cases (show u=Value.ref a from rx);obtain ⟨l,O,_⟩:=Jel I.hok ea;obtain ⟨m,J,_⟩:=O.look;exact W.kia_one (W.kitx_own (cl.get _) cl.hd ha hn htk hm) I.kIn J e (fun z=>nomatch z) h
structure Room (k:Nat) (A:Around):Prop where
 hd:A.handled=none
 dp:A.depth+3*k+5<recursionLimit
 un:A.units+16*k+200<cLine
theorem Room.mono {j k:Nat} (r:Room k A) (h:j<=k):Room j A:=⟨r.hd,by have:=r.dp;ac_nf,by have:=r.un;ac_nf⟩
theorem Room.deeper {k:Nat} (r:Room (k+1) A) (env:Env):Room k (A.deeper env) :=
 ⟨r.hd,by have:=r.dp;show A.depth+1+3*k+5<_;ac_nf,by have:=r.un;show A.units+3+16*k+200<_;ac_nf⟩
variable {kw:List (Str × Value)}
theorem Jgy:(A.under (.builtin "type.__call__" ⟨.ref C::us,kw⟩)).depth=A.depth+1:=by
 first | rfl | simp [Around.under,Code.weight,Code.isCreation,Code.isGuard,Code.isCaller,Code.frames,Code.isFrame,guardIds]
theorem Jgz:(A.under (.builtin "type.__call__" ⟨.ref C::us,kw⟩)).units=A.units+1:=by
 first | rfl | simp [Around.under,Code.cUnits,Code.frames,Code.isFrame]
theorem Room.make {k:Nat} (r:Room (k+1) A) (C:Addr) (us:List Value) (kw:List (Str × Value)):Room k (A.under (.builtin "type.__call__" ⟨.ref C::us,kw⟩)) :=
 ⟨r.hd,by have:=r.dp;rw [Jgy];ac_nf,by have:=r.un;rw [Jgz];ac_nf⟩
theorem Room.depth {k:Nat} (r:Room k A):A.depth<recursionLimit:=by have:=r.dp;ac_nf
theorem Room.units {k:Nat} (r:Room k A):A.units+64<cLine:=by have:=r.un;ac_nf
def tNil:TA:=fun _ H Q=>Q [] H
def tCons (ta:TE) (tr:TA):TA:=fun σ H Q=>ta σ H fun x H1=>tr σ H1 fun xs H2=>Q (x::xs) H2
section
variable {t:TA}
theorem Jac:PA X [] tNil:=fun _ _ _ _ H Q I h=>Calls.spliced_nil ⟨[],H,I, .nil,h⟩
theorem Jjv (ha:PE X e te) (hr:PA X es t) (hs:starEach (e::es) X.env=(false,eval e X.env)::starEach es X.env:=by rfl):PA X (e::es) (tCons te t):=by
 intro b a s σ H Q I h;rw [hs];show wpAny _ _ (spliced ((false,eval e X.env)::backTo b (starEach es X.env))) _ _ s;refine Calls.spliced_cons (thn (ha a s σ H _ I h) fun u i ζ=>?_);obtain ⟨x,f,I1,j,k⟩:=ζ;exact thn (hr b a i σ f _ I1 k) fun n m ζ=>by obtain ⟨d,g,I2,l,c⟩:=ζ;exact ⟨x::d,g,I2, .cons j l,c⟩
def tTup (t:TA):TE:=fun σ H Q=>t σ H fun xs H1=>xs.length<=sizeLine/\∀ p,H1 p=none->Q (.ref p) (upd H1 p (.tup xs))
def tLst (t:TA):TE:=fun σ H Q=>t σ H fun xs H1=>xs.length<=sizeLine/\∀ p,H1 p=none->Q (.ref p) (upd H1 p (.lst xs))
theorem JaC {x1} (h:PA X es t):PE X (.Tuple es x1 pos) (tTup t):=by
 intro a s σ H Q I i;refine wpAny_Tuple_spliced (thn (h pos a s σ H _ I i) fun j c ζ=>?_);obtain ⟨f,d,I1,r,z,q⟩:=ζ;refine ⟨by rw [<- r.length];exact z,?_⟩;have g:d c.heap.objs.size=none:=I1.hok.fresh (Nat.le_refl _);refine ⟨.ref c.heap.objs.size,upd d c.heap.objs.size (.tup f),I1.laid (t':=c.toks) (fun b u e=>Heap.get?_push_of_some _ e) (Nat.le_refl _) ?_,rfl,q _ g⟩;exact ⟨z,j,r,⟨_,Heap.get?_push_size _ rfl,rfl,_,rfl⟩⟩
theorem JaE (h:PA X es t):PE X (.List es pos) (tLst t):=by
 intro a s σ H Q I i;refine wpAny_List_spliced (thn (h pos a s σ H _ I i) fun j c ζ=>?_);obtain ⟨f,d,I1,r,z,q⟩:=ζ;refine ⟨by rw [<- r.length];exact z,?_⟩;have g:d c.heap.objs.size=none:=I1.hok.fresh (Nat.le_refl _);refine ⟨.ref c.heap.objs.size,upd d c.heap.objs.size (.lst f),I1.laid (t':=c.toks) (fun b u e=>Heap.get?_push_of_some _ e) (Nat.le_refl _) ?_,rfl,q _ g⟩;exact ⟨z,j,0,r,Heap.get?_push_size _ rfl⟩
end
abbrev Sp:=List V->Hp->VK->XK->Prop
abbrev CXT:=List Env->Hp->Shared->XK->Value->Shared->Prop
structure Env0 (P:Program) (w:World) (K:W.Frag) (mg:Str->Option Value) (base:Heap) (A:Around) (outer:List Env) (s:Shared) (H:Hp):Prop where
 frames:A.frames=some outer
 mod:Mod K mg base
 bs:∀ b o,base.get? b=some o->s.heap.get? b=some o/\H b=none
 bsz:base.objs.size<=s.heap.objs.size
 funs:s.heap.FunFrames base outer
 frf:∀ b∈frs outer,H b=none
 hok:HOk P w H s.heap
 bare:AllBare s.gens
def CE (outer:List Env) (P:Program) (w:World) (H:Hp) (s:Shared) (Q:VK) (u:Value) (s':Shared):Prop :=
 ∃ v H',s'.os=s.os/\AllBare s'.gens/\Un (frs outer) [] H H' s.heap s'.heap/\HOk P w H' s'.heap/\RelV v u/\Q v H'
def CR (CX:CXT) (outer:List Env) (P:Program) (w:World) (H:Hp) (s:Shared) (Q:VK) (E:XK) (r:Result) (s':Shared):Prop :=
 match r with
 | .ok (.ret u)=>CE outer P w H s Q u s'
 | .ok _=>False
 | .error e=>CX outer H s E e s'
structure FnOk (P:Program) (w:World) (K:W.Frag) (mg:Str->Option Value) (base:Heap) (CX:CXT) (k:Nat) (f:Addr) (fd:FuncData) (ps:List Str) (sp:Sp):Prop where
 len:∀ vs H Q E,sp vs H Q E->vs.length=ps.length
 run:∀ (A:Around) (outer:List Env) (s:Shared) (H:Hp) (args:Args) (us:List Value) (vs:List V) (Q:VK) (E:XK),Room k A->Env0 P w K mg base A outer s H->BindsTo s fd args (ps.zip us)->Vals vs us->sp vs H Q E ->
  codeAny (model P w) A (.call (.ref f) args) (CR CX outer P w H s Q E) s
variable {mg:Str->Option Value} {outer:List Env}
theorem Env0.make {K:W.Frag} {base:Heap} (e:Env0 P w K mg base A outer s H) (C:Addr) (us:List Value) (kw:List (Str × Value)) :
  Env0 P w K mg base (A.under (.builtin "type.__call__" ⟨.ref C::us,kw⟩)) outer s H:=⟨by first | exact e.frames | (simpa [Around.under,Code.envs,Code.isFrame,pushEnvs] using e.frames),e.mod,e.bs,e.bsz,e.funs,e.frf,e.hok,e.bare⟩
theorem Inv.env0 (I:Inv X pins σ H s):Env0 X.prog X.w X.K X.mg X.base X.A X.stack s H :=
 ⟨I.ok.frames,I.ok.mod,I.bs,Nat.le_trans I.ok.bsz I.sz,I.stack,I.stkFree,I.hok,I.bare⟩
variable {Q:VK}
theorem Inv.after (I:Inv X pins σ H s) (h:CE X.stack X.prog X.w H s Q u s'):EP X pins σ Q u s':=by
 obtain ⟨v,j,i,a,f,c,r,q⟩:=h;obtain ⟨k,g,d,t,e⟩:=s';obtain rfl:e=s.os:=i;exact ⟨v,j,I.call (h':=k) (g':=g) (d':=d) (t':=t) (ch:=[]) f c a (fun b z=>absurd z (by simp)),r,q⟩
def tCall (sp:Sp) (dvs:List V) (E:XK) (t:TA):TE:=fun σ H Q=>t σ H fun vs H1=>sp (vs++dvs) H1 Q E
def tMake (C:Addr) (sp:Sp) (dvs:List V) (E:XK) (t:TA):TE:=fun σ H Q=>t σ H fun vs H1=>∀ x dx,H1 x=none->H1 dx=none->dx≠x ->
 sp (.ref x::(vs++dvs)) (upd (upd H1 dx (.own x)) x (.ins C dx [])) (fun v H2=>v=.non/\Q (.ref x) H2) E
def Binds (K:W.Frag) (fd:FuncData) (ps:List Str) (ds:List Value):Prop :=
 ∀ (s:Shared) (us:List Value),K.In s.heap->(us++ds).length=ps.length->BindsTo s fd ⟨us,[]⟩ (ps.zip (us++ds))
variable {fd:FuncData} {ps:List Str}
theorem Binds.all {K:W.Frag} (h:∀ us:List Value,us.length=ps.length->bindArgs fd ⟨us,[]⟩=pure (ps.zip us)):Binds K fd ps []:=fun s us _ a=>by
 rw [append_nil] at a ⊢;exact .of_eq (h us a)
def JbG (CX:CXT) (X:Cx) (E:XK):Prop:=∀ (pins:List (Addr × Obj)) (σ : St) (H:Hp) (s:Shared) (e:Value) (s':Shared),Inv X pins σ H s->CX X.stack H s E e s'->X.xe e s'
section
variable {CX:CXT} {sp:Sp} {dvs:List V} {ds:List Value} {E:XK} {x:Str} {p apos:Pos} {o:Expr} {k:Nat} {f:Addr} {m:Str} {t:TA} {vs:List V}
theorem Jgi (F:FnOk X.prog X.w X.K X.mg X.base CX k f fd ps sp) (hr:Room k X.A) (hb:Binds X.K fd ps ds) (hd:Vals dvs ds) (hx:JbG CX X E)
  (I:Inv X pins σ H s) (r:Vals vs us) (h:sp (vs++dvs) H Q E):wpAny (model X.prog X.w) X.A (call (.ref f) us) (EP X pins σ Q) X.xe s:=by
 have b:Vals (vs++dvs) (us++ds):=r.append hd;have c:(us++ds).length=ps.length:=by rw [<- b.length];exact F.len _ _ _ _ h
 refine wpAny_call (codeAny_mono (F.run X.A X.stack s H ⟨us,[]⟩ (us++ds) (vs++dvs) Q E hr I.env0 (hb s us I.kIn c) b h) fun r d a=>?_);cases r with
 | error e=>exact hx pins σ H s e d I a
 | ok fl=>
  cases fl with
  | ret u=>exact I.after a
  | next=>exact False.elim a
  | brk=>exact False.elim a
  | cont=>exact False.elim a
theorem Jjw (F:FnOk X.prog X.w X.K X.mg X.base CX k f fd ps sp) (hr:Room k X.A) (hg:Gl X x) (hm:X.mg x=some (.ref f)) (hk:W.keepIn X.K (.ref f)=true) (hb:Binds X.K fd ps ds) (hd:Vals dvs ds) (hx:JbG CX X E)
  (ha:PA X (e::es) t) (hdb:(x == ("__debug__" : Str))=false:=by decide) (he:starEach (e::es) X.env=(false,eval e X.env)::starEach es X.env:=by rfl) (hpl:(backTo pos (starEach es X.env)).any (·.1)=false:=by rfl) :
  PE X (.Call (.Name x p) (e::es) [] pos) (tCall sp dvs E t):=by
 intro a s σ H Q I h;refine wpAny_Call_Name_kw (JbN I hg hm ?_ hdb);refine W.callWith_K (h₀:=X.base) I.ok.mod.kin hk (thn (ha pos a s σ H _ I h) fun g b ζ=>?_) he hpl;obtain ⟨d,c,I1,r,q⟩:=ζ;refine ⟨I1.kIn,?_⟩;exact Jgi F hr hb hd hx I1 r q
structure Mk (K:W.Frag) (C f:Addr):Prop where
 makes:W.makesIn K C=true
 init:W.findIn K (.ref C) "__init__"=some (some (.ref f))
 fn:W.isFn K (.ref f)=true
 kp:W.keepIn K (.ref C)=true
theorem Jik (M:Mk X.K C f) (F:FnOk X.prog X.w X.K X.mg X.base CX k f fd ps sp) (hr:Room (k+1) X.A) (hb:Binds X.K fd ps ds) (hd:Vals dvs ds)
  (hx:JbG CX X E) (I:Inv X pins σ H s) (r:Vals vs us)
  (h:∀ x dx,H x=none->H dx=none->dx≠x->sp (.ref x::(vs++dvs)) (upd (upd H dx (.own x)) x (.ins C dx [])) (fun v H2=>v=.non/\Q (.ref x) H2) E) :
  wpAny (model X.prog X.w) X.A (call (.ref C) us) (EP X pins σ Q) X.xe s:=by
 have c:=h (s.heap.objs.size+1) s.heap.objs.size (I.hok.fresh (Nat.le_succ _)) (I.hok.fresh (Nat.le_refl _)) (Nat.ne_of_lt (Nat.lt_succ_self _));have I2:=Inv.made (C:=C) I;have b:Vals (V.ref (s.heap.objs.size+1)::(vs++dvs)) (Value.ref (s.heap.objs.size+1)::(us++ds)):=.cons rfl (r.append hd);have d:(Value.ref (s.heap.objs.size+1)::us++ds).length=ps.length:=by
  have e:=b.length;rw [F.len _ _ _ _ c] at e;exact e.symm
 refine wpAny_call (Jh0 (f:=f) I.kIn M.makes M.init (beq_iff_eq.mp M.fn) (codeAny_mono (F.run _ X.stack _ _ ⟨Value.ref (s.heap.objs.size+1)::us,[]⟩ (Value.ref (s.heap.objs.size+1)::(us++ds)) _ _ E (hr.make C us [])
  (I2.env0.make C us []) (hb _ (Value.ref (s.heap.objs.size+1)::us) I2.kIn d) b c) fun r m a=>?_))
 cases r with
 | error e=>exact hx pins σ _ _ e m I2 a
 | ok fl=>
  cases fl with
  | ret u=>
   obtain ⟨v,l,I3,g,j,i⟩:=I2.after a;subst j;exact ⟨g,⟨V.ref (s.heap.objs.size+1),l,I3,rfl,i⟩⟩
  | next=>exact False.elim a
  | brk=>exact False.elim a
  | cont=>exact False.elim a
theorem Jjz (M:Mk X.K C f) (F:FnOk X.prog X.w X.K X.mg X.base CX k f fd ps sp) (hr:Room (k+1) X.A) (hg:Gl X x) (hm:X.mg x=some (.ref C)) (hb:Binds X.K fd ps ds) (hd:Vals dvs ds) (hx:JbG CX X E)
  (ha:PA X (e::es) t) (hdb:(x == ("__debug__" : Str))=false:=by decide) (he:starEach (e::es) X.env=(false,eval e X.env)::starEach es X.env:=by rfl) (hpl:(backTo pos (starEach es X.env)).any (·.1)=false:=by rfl) :
  PE X (.Call (.Name x p) (e::es) [] pos) (tMake C sp dvs E t):=by
 intro a s σ H Q I h;refine wpAny_Call_Name_kw (JbN I hg hm ?_ hdb);refine W.callWith_K (h₀:=X.base) I.ok.mod.kin M.kp (thn (ha pos a s σ H _ I h) fun g b ζ=>?_) he hpl;obtain ⟨d,c,I1,r,q⟩:=ζ;refine ⟨I1.kIn,?_⟩;exact Jik M F hr hb hd hx I1 r q
end
section
variable {CX:CXT} {ks:List Str} {sp:Sp} {E:XK} {x:Str} {p apos kpos:Pos} {o:Expr} {kws:List Keyword} {tk:TA} {nm:Option Str} {k:Nat} {f:Addr} {m:Str} {t:TA} {gV:List V->List V->List V} {g:List Value->List Value->List Value}
end
structure Jan (N P:List Str) (sc:Scope):Prop where
 kind:sc.kind=.function
 co:sc.isCoroutine=false
 gen:sc.isGenerator=false
 nd:N.Nodup
 pre:N.take P.length=P
 par:∀ x∈P,sc.names.lookup x=some .local\/sc.names.lookup x=some .cell
 nofree:∀ y∈sc.names,y.2≠.free
variable {kindOf:Str->Option NameKind} {x:Str}
theorem JeN:∀ {binds:List (Str × Value)} {m:Str->Option Value},(∀ v,(x,v)∉binds)->bindL kindOf binds m x=m x
 | [],_,_=>rfl
 | (n,v)::r,m,h=>by
  unfold bindL;rw [JeN fun w hw=>h w (mem_cons_of_mem _ hw)];split
  ·have : x≠n:=by rintro rfl;exact h v mem_cons_self
   simp [this]
  ·rfl
theorem JeL:∀ {binds:List (Str × Value)} {m:Str->Option Value},(∀ v,(x,v)∉binds)->bindC kindOf binds m x=m x
 | [],_,_=>rfl
 | (n,v)::r,m,h=>by
  unfold bindC;rw [JeL fun w hw=>h w (mem_cons_of_mem _ hw)];split
  ·rfl
  ·have : x≠n:=by rintro rfl;exact h v mem_cons_self
   simp [this]
variable {v:Value}
theorem JeM:∀ {P:List Str} {vs:List Value} {i:Nat} {m:Str->Option Value},P.Nodup->P[i]?=some x->vs[i]?=some v->kindOf x=some .local ->
  bindL kindOf (P.zip vs) m x=some v
 | [],_,_,_,_,h,_,_=>by simp at h
 | _::_,[],_,_,_,_,h,_=>by simp at h
 | p::P,w::vs,0,m,nd,h1,h2,hk=>by
  simp at h1 h2;subst h1;subst h2;show bindL kindOf ((p,w)::P.zip vs) m p=_;unfold bindL;rw [JeN fun v hv=>(nodup_cons.mp nd).1 (List.of_mem_zip hv).1,if_pos hk];simp
 | p::P,w::vs,i+1,m,nd,h1,h2,hk=>by
  show bindL kindOf ((p,w)::P.zip vs) m x=_;unfold bindL;exact JeM (i:=i) (nodup_cons.mp nd).2 (by simpa using h1) (by simpa using h2) hk
theorem JeK:∀ {P:List Str} {vs:List Value} {i:Nat} {m:Str->Option Value},P.Nodup->P[i]?=some x->vs[i]?=some v->kindOf x≠some .local ->
  bindC kindOf (P.zip vs) m x=some v
 | [],_,_,_,_,h,_,_=>by simp at h
 | _::_,[],_,_,_,_,h,_=>by simp at h
 | p::P,w::vs,0,m,nd,h1,h2,hk=>by
  simp at h1 h2;subst h1;subst h2;show bindC kindOf ((p,w)::P.zip vs) m p=_;unfold bindC;rw [JeL fun v hv=>(nodup_cons.mp nd).1 (List.of_mem_zip hv).1,if_neg hk];simp
 | p::P,w::vs,i+1,m,nd,h1,h2,hk=>by
  show bindC kindOf ((p,w)::P.zip vs) m x=_;unfold bindC;exact JeK (i:=i) (nodup_cons.mp nd).2 (by simpa using h1) (by simpa using h2) hk
def start (N:List Str) (vs:List V):St:=vs.map some++List.replicate (N.length-vs.length) none
def cxOf (CX:CXT) (P:Program) (w:World) (K:W.Frag) (mg:Str->Option Value) (base:Heap) (N:List Str) (qual:Str) (scope:Scope) (f:Addr) (cd:Value) (A:Around) (outer:List Env) (s:Shared) (H:Hp) (E:XK):Cx where
 prog:=P
 w:=w
 K:=K
 mg:=mg
 base:=base
 A:=A.deeper (envOfC qual scope s.heap.objs.size f cd)
 N:=N
 s₀:=s
 H₀:=H
 env:=envOfC qual scope s.heap.objs.size f cd
 outer:=outer
 stack:=envOfC qual scope s.heap.objs.size f cd::outer
 ex:=[]
 calm:=true
 fn:=fun _=>true
 pn:=[]
 xe:=fun e s'=>wpAny (model P w) (A.deeper (envOfC qual scope s.heap.objs.size f cd)) (leaving (envOfC qual scope s.heap.objs.size f cd) e) (fun _ s''=>CX outer H s E e s'') (fun e' s''=>CX outer H s E e' s'') s'
theorem JfZ {sc:Scope} (h:sc.names.lookup x=some .cell):∃ c,(cellsFrom n sc.names []).lookup x=some c:=by
 have q:=W.cellsFrom_some sc.names n [] (.inl h);exact Option.isSome_iff_exists.mp q
variable {CX:CXT} {qual:Str} {scope:Scope}
theorem Jg9 {K:W.Frag} {base:Heap} {f:Addr} {cd:Value} {s1:Shared} {E:XK} {vs:List V}
  (S:Jan N ps scope) (hd:A.handled=none) (e0:Env0 P w K mg base A outer s H) (hl:vs.length=ps.length) (r:Vals vs us)
  (x:InCallC s s.heap.objs.size (bindL (envOfC qual scope s.heap.objs.size f cd).kindOf (ps.zip us) fun _=>none) (cellsFrom (s.heap.objs.size+1) scope.names []) (bindC (envOfC qual scope s.heap.objs.size f cd).kindOf (ps.zip us) fun _=>none) s1) :
  Inv (cxOf CX P w K mg base N qual scope f cd A outer s H E) [] (start N vs) H s1:=by
 have F:ps.length<=N.length:=by have:=congrArg List.length S.pre;rw [length_take] at this;ac_nf
 obtain ⟨o,J,rfl,B⟩:=x.done;have g:∀ b:Addr,b∉(cxOf CX P w K mg base N qual scope f cd A outer s H E).ex:=fun b z=>absurd (show b∈([]:List Addr) from z) (by simp);refine ⟨⟨e0.mod,S.kind,rfl,rfl,Nat.le_refl _,fun y z c o d=>?_,fun y j=>?_,fun y c _ h=>?_,fun _=>hd,Around.frames_deeper e0.frames, .inr ⟨rfl,rfl⟩,fun b z=>absurd z (g b),e0.bs,e0.bsz,fun b _ _=>g b,fun b z=>absurd z (g b),e0.funs,e0.frf⟩,
  rfl,e0.bare,Un.kept B,⟨_,x.toInCall.ns,fun i y v o d I=>?_⟩,fun y c h=>⟨_,x.cell y c h⟩,e0.hok.fresh (Nat.le_refl _),fun y c h=>?_,fun p m=>absurd (show p∈([]:List (Addr × Obj)) from m) (by simp),e0.hok.kept B,?_⟩
 ·exact name_of_addr x.apart (PySem.mem_of_lookup o) (PySem.mem_of_lookup d)
 ·have j:scope.names.lookup y=some .cell\/scope.names.lookup y=some .free:=j;rcases j with j | j
  ·exact JfZ j
  ·exact absurd rfl (S.nofree _ (PySem.mem_of_lookup j))
 ·exact Nat.le_of_lt (x.above y c (PySem.mem_of_lookup h))
 ·have t:i<vs.length:=by
   unfold start at d;by_cases t:i<vs.length
   ·exact t
   ·rw [List.getElem?_append_right (by simpa using t)] at d;rw [List.getElem?_replicate] at d;split at d <;> cases d
  have G:vs[i]?=some v:=by
   unfold start at d;rw [List.getElem?_append_left (by simpa using t),List.getElem?_map] at d;cases e:vs[i]? with
   | none=>rw [e] at d;cases d
   | some a=>rw [e] at d;cases d;rfl
  obtain ⟨u,C,D⟩:=r.get G;have m:ps[i]?=some y:=by
   rw [<- S.pre,List.getElem?_take_of_lt ∅];exact o
  have l:ps.Nodup:=by rw [<- S.pre];exact S.nd.sublist (List.take_sublist _ _)
  refine ⟨u,D,?_⟩;rcases S.par y (List.mem_of_getElem? m) with k | k
  ·exact .inl ⟨k,JeM l m C k⟩
  ·obtain ⟨c,e⟩:=JfZ (n:=s.heap.objs.size+1) k;refine .inr ⟨.inl k,c,e,?_⟩;have q:=x.cell y c e;rw [JeK l m C (by show scope.names.lookup y≠_;rw [k];decide)] at q;exact q
 ·exact e0.hok.fresh (Nat.le_of_lt (x.above y c (PySem.mem_of_lookup h)))
 ·unfold start;show _=N.length;rw [length_append,length_map,List.length_replicate];ac_nf
theorem fn_of {K:W.Frag} {base:Heap} {k:Nat} {f:Addr} {name:Str} {params:Arguments} {dV kV doc pm cdv ct oc:Value} {an od:Option Addr}
  {osl:Array (Option Value)} {N ps:List Str} {sp:Sp} (lk:K.lookup f=some ⟨oc,od, .func (W.fnOf name qual params body scope dV kV doc pm an cdv ct),osl⟩) (hcd:W.codeIn K cdv qual=true) (S:Jan N ps scope)
  (len:∀ vs H Q E,sp vs H Q E->vs.length=ps.length)
  (hbody:∀ (A:Around) (outer:List Env) (s:Shared) (H:Hp) (vs:List V) (Q:VK) (E:XK),Room k (A.deeper (envOfC qual scope s.heap.objs.size f cdv))->sp vs H Q E ->
   ∃ t,PSs (cxOf CX P w K mg base N qual scope f cdv A outer s H E) body t/\t { nx:=fun _ H'=>Q .non H',rt:=Q } (start N vs) H) :
  FnOk P w K mg base CX (k+1) f (W.fnOf name qual params body scope dV kV doc pm an cdv ct) ps sp:=by
 refine ⟨len,fun A outer s H z F vs Q E l g B r h=>?_⟩;have O:=len _ _ _ _ h;have KX:K.In s.heap:=g.mod.kin.keeps fun b o e=>(g.bs b o e).1;have i:s.heap.NoLimit:=g.mod.nolimit.keeps fun b o e=>(g.bs b o e).1;have a:∀ y∈ps.zip F,scope.names.lookup y.1=some .local\/(scope.names.lookup y.1=some .cell/\((cellsFrom (s.heap.objs.size+1) scope.names []).lookup y.1).isSome=true):=fun ⟨n,v⟩ L=>by
  rcases S.par n (List.of_mem_zip L).1 with q | q
  ·exact .inl q
  ·exact .inr ⟨q,W.cellsFrom_some _ _ _ (.inl q)⟩
 refine codeAny_call_function l.depth (KX _ _ lk) rfl S.co S.gen rfl (W.codeRec_of KX hcd) (B _ _ _ _ ?_);refine wpAny_newFunctionEnv_cells S.kind a fun G C p x=>?_;subst C;refine ⟨i.keeps x.toInCall.keep,codeAny_func ?_⟩;obtain ⟨t,M,R⟩:=hbody A outer s H vs Q E (l.deeper _) h;have I:Inv (cxOf CX P w K mg base N qual scope f cdv A outer s H E) [] (start N vs) H p:=Jg9 S l.hd g O r x;refine wpAny_mono (M [] p (start N vs) H _ I R) (fun D m c=>?_) fun e m c=>c;have d:∀ {σ':St} {H':Hp} {v:V} {u:Value},Inv (cxOf CX P w K mg base N qual scope f cdv A outer s H E) [] σ' H' m->RelV v u->Q v H'->CE outer P w H s Q u m :=
  fun {σ' H' v u} J j q=>⟨v,H',J.os,J.bare,J.base,J.hok,j,q⟩
 cases D with
 | ret u=>
  obtain ⟨v,σ',H',J,j,q⟩:=c;exact d J j q
 | next=>
  obtain ⟨σ',H',J,q⟩:=c;exact d (v:=V.non) (u:=Value.none) J rfl q
 | brk=>
  obtain ⟨_,_,_,q⟩:=c;exact False.elim q
 | cont=>
  obtain ⟨_,_,_,q⟩:=c;exact False.elim q
section
variable {p:Pos} {id T:String} {r:List V->Hp->VK->Prop} {t:TA}
def tCB (r:List V->Hp->VK->Prop) (t:TA):TE:=fun σ H Q=>t σ H fun vs H1=>r vs H1 Q
theorem Jaz (hc:CallR X (.builtin id) r) (hg:Gl X x) (hm:X.mg x=none) (hv:bootBuiltins x=some (.builtin id)) (ha:PA X (e::es) t) (hn:x≠"__name__":=by decide) (hdb:(x == ("__debug__" : Str))=false:=by decide)
  (he:starEach (e::es) X.env=(false,eval e X.env)::starEach es X.env:=by rfl) (hpl:(backTo pos (starEach es X.env)).any (·.1)=false:=by rfl):PE X (.Call (.Name x p) (e::es) [] pos) (tCB r t):=by
 intro a s σ H Q I h;refine wpAny_Call_Name_kw (Jc1 I hg hm hv ?_ hn hdb);exact PyProof.Rows.callWith_builtin1 (thn (ha pos a s σ H _ I h) fun i b ζ=>by obtain ⟨f,d,I1,g,c⟩:=ζ;exact hc a b σ d f i Q I1 g c) he hpl
theorem Jhq (hc:CallR X (.type T) r) (hg:Gl X x) (hm:X.mg x=none) (hv:bootBuiltins x=some (.type T)) (ha:PA X (e::es) t) (hn:x≠"__name__":=by decide) (hdb:(x == ("__debug__" : Str))=false:=by decide)
  (he:starEach (e::es) X.env=(false,eval e X.env)::starEach es X.env:=by rfl) (hpl:(backTo pos (starEach es X.env)).any (·.1)=false:=by rfl):PE X (.Call (.Name x p) (e::es) [] pos) (tCB r t):=by
 intro a s σ H Q I h;refine wpAny_Call_Name_kw (Jc1 I hg hm hv ?_ hn hdb);exact PyProof.Rows.callWith_type1 (thn (ha pos a s σ H _ I h) fun i b ⟨f,d,I1,g,c⟩=>hc a b σ d f i Q I1 g c) he hpl
end
end L2
namespace HT
open PySem PyProof.Rows
section
open PySem.SeqAt
open PySem.AutoSeq1 (wpAny_loadPart')
open PySem.MeetsSeq PySem.MeetsSeq2 PySem.MeetsSeq3
end
variable {prog:Program} {w:World} {A:Around} {E:Value->Shared->Prop} {s:Shared}
theorem cat_tup {t b:Addr} {vs ws:List Value} {Q:Value->Shared->Prop} (ht:IsTup s.heap t vs.toArray) (hb:IsTup s.heap b ws.toArray) (hv:vs≠[])
  (h1:ws=[]->Q (.ref t) s) (h2:ws≠[]->Q (.ref s.heap.objs.size) { s with heap:=s.heap.push { cls:=.type "tuple",data:=.seq (vs++ws).toArray } })
  (hsz:vs.length+ws.length<=sizeLine):wpAny (model prog w) A (binaryOp .Add (.ref t) (.ref b)) Q E s:=by
 obtain ⟨⟨cls,k,data,o⟩,h,p,n,q⟩:=id ht;obtain ⟨⟨l,f,j,c⟩,a,d,m,g⟩:=id hb;simp only at p q d g;subst p q d g;have e:vs.toArray++ws.toArray=(vs++ws).toArray:=by simp
 by_cases i:ws=[]
 ·exact concat_meets ⟨_,h,rfl⟩ ⟨_,a,rfl⟩ noFill_tuple_add seq_tuple_add PySem.F.slot_tuple_add PySem.F.entry_tuple_add (PySem.F.args_tuple_add_2 _ _)
   (tuple_addW1 t b vs.toArray ws.toArray n m k f o c (by simpa using hv) (by simp [i])) ⟨h,a,h1 i⟩
 ·refine concat_meets ⟨_,h,rfl⟩ ⟨_,a,rfl⟩ noFill_tuple_add seq_tuple_add PySem.F.slot_tuple_add PySem.F.entry_tuple_add (PySem.F.args_tuple_add_2 _ _)
   (tuple_addW2 t b vs.toArray ws.toArray n m k f o c (by simpa using hv) (by simpa using i) (by rw [size_toArray,size_toArray];exact hsz)) ⟨h,a,?_⟩
  rw [e];exact h2 i
def sIx (n d:Nat):Option Int->Nat
 | none=>d
 | some v=>if v<0 then (v+(n:Int)).toNat else min v.toNat n
theorem Jkx (n d:Nat) (hd:d<=n) (o:Option Int):sIx n d o<=n:=by
 cases o with
 | none=>exact hd
 | some v=>
  show (if v<0 then (v+(n:Int)).toNat else min v.toNat n)<=n;by_cases a:v<0
  ·rw [if_pos a];ac_nf
  ·rw [if_neg a];exact Nat.min_le_right _ _
theorem JgT (v:Int) (n d:Nat):(if v<0 then max (v+(n:Int)) 0 else min v (n:Int))=((sIx n d (some v):Nat):Int):=by
 show (if v<0 then max (v+(n:Int)) 0 else min v (n:Int))=(((if v<0 then (v+(n:Int)).toNat else min v.toNat n):Nat):Int);by_cases a:v<0
 ·simp only [if_pos a];ac_nf
 ·simp only [if_neg a];ac_nf
theorem Jgq (lo hi:Option Int) (n:Nat):Builtin.Slice.sliceAdjust lo hi 1 (n:Int)=(((sIx n 0 lo:Nat):Int),((sIx n n hi:Nat):Int)):=by
 have a:¬ ((1:Int)<0):=by ac_nf
 unfold Builtin.Slice.sliceAdjust;simp only [a,if_false];refine Prod.ext ?_ ?_
 ·cases lo with
  | none=>rfl
  | some v=>exact JgT v n 0
 ·cases hi with
  | none=>rfl
  | some v=>exact JgT v n n
theorem JgD (i j:Nat):Builtin.Slice.slicePlaces (i:Int) (j:Int) 1=j-i:=by
 unfold Builtin.Slice.slicePlaces;have a:(1:Int) > 0:=by ac_nf
 simp only [a,if_true,Int.ediv_one];split <;> ac_nf
theorem Jec {v:Value} {o:Option Int} {Q:Option Int->Shared->Prop} (p:IsPart v o) (h:Q o s):wpAny (model prog w) A (Builtin.Slice.slicePartIndex v) Q E s:=by
 cases p with
 | none=>exact slicePart_none h
 | int i t=>exact slicePart_int h
variable {vu:Value} {hi:Option Int}
theorem Jdd {sl:Addr} {vl:Value} {lo:Option Int} {n:Nat} {Q:Int × Int × Nat->Shared->Prop} (hs:s.heap.IsSliceOf sl vl vu .none) (pl:IsPart vl lo) (pu:IsPart vu hi)
  (h:Q (((sIx n 0 lo:Nat):Int),1,sIx n n hi-sIx n 0 lo) s):wpAny (model prog w) A (Builtin.Slice.sliceApplied (.ref sl) (pure (n:Int))) Q E s:=by
 obtain ⟨d,a,c,b⟩:=id hs;unfold Builtin.Slice.sliceApplied Builtin.Slice.sliceFields;refine wpAny_bind (wpAny_bind (wpAny_field a b (x:=vl) rfl (wpAny_bind (wpAny_field a b (x:=vu) rfl (wpAny_bind (wpAny_field a b (x:=.none) rfl (wpAny_pure ?_)))))));refine wpAny_bind (slicePart_none ?_);show wpAny _ _ (if ((1:Int) == 0)=true then _ else _) _ _ s;rw [if_neg ⋯];refine wpAny_bind (Jec pl (wpAny_bind (Jec pu (wpAny_bind (wpAny_pure ?_)))));show wpAny _ _ (match Builtin.Slice.sliceAdjust lo hi 1 (n:Int) with | (lo,hi)=>pure (lo,(1:Int),Builtin.Slice.slicePlaces lo hi 1)) _ _ s;rw [Jgq lo hi n];show wpAny _ _ (pure (((sIx n 0 lo:Nat):Int),(1:Int),Builtin.Slice.slicePlaces ((sIx n 0 lo:Nat):Int) ((sIx n n hi:Nat):Int) 1)) _ _ s;rw [JgD];exact wpAny_pure h
theorem Jie (xs:Array Value) (i k:Nat):((List.range k).filterMap fun (m:Nat)=>xs[((i:Int)+(m:Int)*1).toNat]?).toArray=((xs.toList.drop i).take k).toArray:=by
 have e:(fun (m:Nat)=>xs[((i:Int)+(m:Int)*1).toNat]?)=fun m=>xs[i+m]?:=by
  funext m
  have : ((i:Int)+(m:Int)*1).toNat=i+m:=by ac_nf
  rw [this]
 rw [e];have:=pick_run xs i k;rw [List.filterMap_map] at this;have a:((fun x=>xs[x]?) ∘ fun x=>i+x)=fun m=>xs[i+m]?:=rfl;rw [a] at this;rw [this]
theorem getItem_tuple_cut {t sl:Addr} {items:Array Value} {vl:Value} {lo:Option Int} {Q:Value->Shared->Prop} (ht:IsTup s.heap t items) (hs:s.heap.IsSliceOf sl vl vu .none) (pl:IsPart vl lo) (pu:IsPart vu hi)
  (hw:¬ (sIx items.size 0 lo=0/\sIx items.size items.size hi=items.size))
  (h:Q (.ref s.heap.objs.size) { s with heap:=s.heap.push { cls:=.type "tuple",data:=.seq ((items.toList.drop (sIx items.size 0 lo)).take (sIx items.size items.size hi-sIx items.size 0 lo)).toArray } })
  (hsz:items.size<=sizeLine):wpAny (model prog w) A (getItem (.ref t) (.ref sl)) Q E s:=by
 have a:sizeOk (.seq ((items.toList.drop (sIx items.size 0 lo)).take (sIx items.size items.size hi-sIx items.size 0 lo)).toArray):=by
  show ((items.toList.drop (sIx items.size 0 lo)).take (sIx items.size items.size hi-sIx items.size 0 lo)).toArray.size<=sizeLine;rw [size_toArray,length_take,List.length_drop,Array.length_toList];ac_nf
 have k:sIx items.size items.size hi<=items.size:=Jkx _ _ (Nat.le_refl _) hi;obtain ⟨g,d,c,f⟩:=id hs;have e:s.TypeIs (.ref sl) "slice":=⟨g,d,c⟩;unfold getItem;try with_reducible refine wpAny_holding ?_
 first | refine wpAny_bind (wpAny_pure ?_) | skip
 refine wpAny_bind (wpAny_sequenceKey ht.typeIs ⋯ ?_);refine wpAny_bind (wpAny_callSpecial?_slot (name:=Str.ofString "__getitem__") ht.typeIs PyProof.Rows.slot_tuple_getitem
  (wpAny_call_entry PyProof.Rows.slot_tuple_getitem ht.typeIs entry_tuple_getitem ?_ (args_tuple_getitem _ _)))
 show wpAny _ _ (Builtin.Tuple.tupleItemsOf (.ref t) >>= _) _ _ s;refine wpAny_bind (tupleItemsOf_ ht ?_);refine wpAny_bind (wpAny_typeOf e ?_);rw [if_pos ⋯];refine wpAny_bind (Jdd hs pl pu ?_);have b:¬ ((((sIx items.size 0 lo:Nat):Int) == 0&&(1:Int) == 1&&(sIx items.size items.size hi-sIx items.size 0 lo) == items.size)=true):=by
  intro q;rw [Bool.and_eq_true,Bool.and_eq_true] at q;have j:((sIx items.size 0 lo:Nat):Int)=0:=eq_of_beq q.1.1;have i:sIx items.size items.size hi-sIx items.size 0 lo=items.size:=eq_of_beq q.2;exact hw ⟨by ac_nf,by ac_nf⟩
 show wpAny _ _ (if (((sIx items.size 0 lo:Nat):Int) == 0&&(1:Int) == 1&&(sIx items.size items.size hi-sIx items.size 0 lo) == items.size)=true then _ else _) _ _ s;rw [if_neg b,Jie];first
  | exact wpAny_bind (m:=Builtin.Tuple.tupleExact _) (wpAny_newObj_type (wpAny_pure ⟨_,rfl,wpAny_pure h⟩) a)
  | exact wpAny_bind (m:=Builtin.Tuple.tupleExact _) (wpAny_newObj_type (wpAny_bind (wpAny_pure (wpAny_pure ⟨_,rfl,wpAny_pure h⟩))) a)
  | exact wpAny_bind (wpAny_bind (m:=Builtin.Tuple.tupleExact _) (wpAny_newObj_type (wpAny_pure (wpAny_pure ⟨_,rfl,wpAny_pure h⟩)) a))
  | exact wpAny_bind (wpAny_bind (m:=Builtin.Tuple.tupleExact _) (wpAny_newObj_type (wpAny_pure ⟨_,rfl,wpAny_pure h⟩) a))
end HT
namespace L2
open PySem PySem.Spec PyProof.Rows
abbrev TO:=St->Hp->(Option Int->Hp->Prop)->Prop
def PO (X:Cx) (e:Option Expr) (t:TO):Prop :=
 ∀ (pins:List (Addr × Obj)) (s:Shared) (σ : St) (H:Hp) (Q:Option Int->Hp->Prop),Inv X pins σ H s->t σ H Q ->
  wpAny (model X.prog X.w) X.A (evalPart e X.env) (fun u s'=>∃ o H',Inv X pins σ H' s'/\IsPart u o/\Q o H') X.xe s
def JhJ:TO:=fun _ H Q=>Q none H
def tPart (t:TE):TO:=fun σ H Q=>t σ H fun x H1=>∃ i,x=.int i/\Q (some i) H1
section
variable {X:Cx} {e:Expr} {te:TE} {hi:Option Expr} {tl th:TO} {pos p2:Pos} {lo:Option Expr}
theorem JjE:PO X none JhJ:=by
 intro a s σ H Q I h;rw [evalPart_none];exact wpAny_pure ⟨none,H,I, .none,h⟩
theorem JjF (h:PE X e te):PO X (some e) (tPart te):=by
 intro a s σ H Q I c;rw [evalPart_some];refine thn (h a s σ H _ I c) fun u g ζ=>?_;obtain ⟨x,d,I1,f,b⟩:=ζ;obtain ⟨i,rfl,q⟩:=b;obtain ⟨t,rfl⟩:=f;exact ⟨some i,d,I1, .int i t,q⟩
def SlR (X:Cx) (r:V->Option Int->Option Int->Hp->VK->Prop):Prop :=
 ∀ (pins:List (Addr × Obj)) (s:Shared) (σ : St) (H:Hp) (x:V) (v vl vu:Value) (lo hi:Option Int) (sl:Addr) (Q:VK),Inv X pins σ H s->RelV x v->s.heap.IsSliceOf sl vl vu .none->IsPart vl lo->IsPart vu hi->r x lo hi H Q ->
  ∃ T id,typeLookup (.type T) "__getitem__"=pure (some (.builtin id))/\s.TypeIs v T/\wpAny (model X.prog X.w) X.A (getItem v (.ref sl)) (EP X pins σ Q) X.xe s
variable {r:V->Option Int->Option Int->Hp->VK->Prop}
theorem SlR.or {r':V->Option Int->Option Int->Hp->VK->Prop} (h:SlR X r) (h':SlR X r'):SlR X (fun x lo hi H Q=>r x lo hi H Q\/r' x lo hi H Q):=by
 intro a s σ H x v vl c lo hi d Q I e b f pu q;rcases q with q | q
 ·exact h a s σ H x v vl c lo hi d Q I e b f pu q
 ·exact h' a s σ H x v vl c lo hi d Q I e b f pu q
def tSl (r:V->Option Int->Option Int->Hp->VK->Prop) (te:TE) (tl th:TO):TE:=fun σ H Q=>te σ H fun x H1=>tl σ H1 fun l H2=>th σ H2 fun u H3=>r x l u H3 Q
theorem Jia (hr:SlR X r) (he:PE X e te) (hl:PO X lo tl) (hu:PO X hi th):PE X (.Subscript e (.Slice lo hi none p2) pos) (tSl r te tl th):=by
 intro a s σ H Q I h;refine Subscript_ (thn (he a s σ H _ I h) fun v k ζ=>?_);obtain ⟨x,i,I1,p,t⟩:=ζ;refine wpAny_Slice (thn (hl a k σ i _ I1 t) fun vl B ζ=>?_);obtain ⟨l,j,I2,y,g⟩:=ζ;refine thn (hu a B σ j _ I2 g) fun d c ζ=>?_;obtain ⟨u,f,I3,pu,m⟩:=ζ;rw [evalPart_none];refine wpAny_pure ?_;have I4:Inv X a σ f { c with heap:=c.heap.push { cls:=.type "slice",data:=.fields #[vl,d, .none] } }:=I3.kept (t':=c.toks) fun b C q=>Heap.get?_push_of_some _ q;obtain ⟨T,id,o,z,n⟩:=hr a { c with heap:=c.heap.push { cls:=.type "slice",data:=.fields #[vl,d, .none] } } σ f x v vl d l u c.heap.objs.size Q I4 p (Heap.IsSliceOf.new ..) y pu m;show wpAny (model X.prog X.w) X.A (subscriptTail e (.Slice lo hi none p2) v (.ref c.heap.objs.size)) (EP X a σ Q) X.xe { c with heap:=c.heap.push { cls:=.type "slice",data:=.fields #[vl,d, .none] } };exact tail_any (ops:=[.ref c.heap.objs.size,v]) z o n (by with_unfolding_all rfl)
def cutV (xs:List V) (lo hi:Option Int):List V:=(xs.drop (HT.sIx xs.length 0 lo)).take (HT.sIx xs.length xs.length hi-HT.sIx xs.length 0 lo)
theorem Jdn (xs:List V) (lo hi:Option Int):(cutV xs lo hi).length<=xs.length:=by
 unfold cutV;rw [length_take,List.length_drop];ac_nf
def rSlT (K:W.Frag):V->Option Int->Option Int->Hp->VK->Prop:=fun x lo hi H Q=>∃ a xs,x=.ref a/\SqT K H a xs /\
 ¬ (HT.sIx xs.length 0 lo=0/\HT.sIx xs.length xs.length hi=xs.length)/\∀ p,H p=none->Q (.ref p) (upd H p (.tup (cutV xs lo hi)))
theorem Jkz:SlR X (rSlT X.K):=by
 intro k s σ H x v vl w e g u Q I m l p pu h;obtain ⟨a,d,rfl,n,t,q⟩:=h;cases m;obtain ⟨f,r,j,i⟩:=I.tuple n;have c:f.toArray.size=d.length:=by rw [size_toArray];exact r.length.symm
 refine ⟨"tuple",_,PyProof.Rows.slot_tuple_getitem.lookup,j.typeIs,?_⟩;refine HT.getItem_tuple_cut j l p pu (by rw [c];exact t) ?_ (by rw [c];exact i);rw [c];refine ⟨.ref s.heap.objs.size,_,I.laid (t':=s.toks) (o:=.tup (cutV d e g)) (fun b y q=>Heap.get?_push_of_some _ q) (Nat.le_refl _) ?_,rfl,q _ (I.hok.fresh (Nat.le_refl _))⟩;exact ⟨Nat.le_trans (Jdn d e g) i,_,(r.drop (HT.sIx d.length 0 e)).take (HT.sIx d.length d.length g-HT.sIx d.length 0 e),IsTup.new _ _⟩
def rCatT (K:W.Frag):R2:=fun x y H Q=>∃ a b xs ys,x=.ref a/\y=.ref b/\SqT K H a xs/\SqT K H b ys/\xs≠[]/\xs.length+ys.length<=sizeLine /\
 (ys=[]->Q (.ref a) H)/\(ys≠[]->∀ p,H p=none->Q (.ref p) (upd H p (.tup (xs++ys))))
variable {xs:List V} {us:List Value}
theorem Vals.nil_iff (r:Vals xs us):us=[]↔xs=[]:=by
 cases r with
 | nil=>simp
 | cons _ _=>simp
theorem Jjq:OpR X (binaryOp .Add) (rCatT X.K):=by
 intro g s σ H x y v u Q I m r h;obtain ⟨a,b,j,k,rfl,rfl,A,l,t,e,C,i⟩:=h;cases m;cases r;obtain ⟨p,d,B,_⟩:=I.tuple A;obtain ⟨f,c,n,_⟩:=I.tuple l;refine HT.cat_tup B n (fun z=>t (d.nil_iff.mp z)) (fun z=>⟨.ref a,H,I,rfl,C (c.nil_iff.mp z)⟩) (fun z=>?_) (by rw [<- d.length, <- c.length];exact e);refine ⟨.ref s.heap.objs.size,_,I.laid (t':=s.toks) (o:=.tup (j++k)) (fun b D q=>Heap.get?_push_of_some _ q) (Nat.le_refl _) ?_,rfl,i (fun w=>z (c.nil_iff.mpr w)) _ (I.hok.fresh (Nat.le_refl _))⟩;exact ⟨by rw [length_append];exact e,_,d.append c,IsTup.new _ _⟩
end
def ixN (n:Nat) (i:Int):Option Nat:=if 0<=i then (if i<n then some i.toNat else none) else if -(n:Int)<=i then some (i+n).toNat else none
variable {α:Type}
def atI (xs:List α) (i:Int):Option α:=(ixN xs.length i).bind fun j=>xs[j]?
variable {n j:Nat} {i:Int}
theorem Jji (h:ixN n i=some j):seqIndex? i n=some j/\j<n/\-(n:Int)<=i/\i<n:=by
 unfold ixN at h;by_cases b:0<=i
 ·rw [if_pos b] at h;by_cases a:i<n
  ·rw [if_pos a] at h;have e:i.toNat=j:=Option.some.inj h;exact ⟨by rw [seqIndex_of b a,e],by ac_nf,by ac_nf,a⟩
  ·rw [if_neg a] at h;cases h
 ·rw [if_neg b] at h;by_cases a : -(n:Int)<=i
  ·rw [if_pos a] at h;have e:(i+n).toNat=j:=Option.some.inj h;exact ⟨by rw [seqIndex_neg ∅ a,e],by ac_nf,a,by ac_nf⟩
  ·rw [if_neg a] at h;cases h
theorem Jfr {xs:List α} {v : α} (h:atI xs i=some v):∃ j,seqIndex? i xs.length=some j/\xs[j]?=some v/\j<xs.length/\-(xs.length:Int)<=i/\i<xs.length:=by
 unfold atI at h;cases e:ixN xs.length i with
 | none=>rw [e] at h;cases h
 | some j=>
  rw [e] at h;obtain ⟨b,d,c,a⟩:=Jji e;exact ⟨j,b,h,d,c,a⟩
theorem JcT {xs:List α} {v : α} (h:xs[j]?=some v):atI xs (j:Int)=some v:=by
 have a:j<xs.length:=(List.getElem?_eq_some_iff.mp h).1;have e:ixN xs.length (j:Int)=some j:=by
  unfold ixN;rw [if_pos ∅,if_pos ∅];simp
 unfold atI;rw [e];exact h
def Ji1 (b:Expr):Prop:=∀ o i,subscripted b false o i=operate [o,i] (getItem o i)
def IxR (X:Cx) (r:R2):Prop :=
 ∀ (value slice:Expr) (pins:List (Addr × Obj)) (s:Shared) (σ : St) (H:Hp) (x y:V) (v u:Value) (Q:VK),Inv X pins σ H s->RelV x v->RelV y u->r x y H Q ->
  subscripted slice false v u=operate [v,u] (getItem v u)->wpAny (model X.prog X.w) X.A (subscriptTail value slice v u) (EP X pins σ Q) X.xe s
def MtR (X:Cx) (id:String) (r:V->List V->Hp->VK->Prop):Prop :=
 ∀ (pins:List (Addr × Obj)) (s:Shared) (σ : St) (H:Hp) (x:V) (xs:List V) (v:Value) (us:List Value) (Q:VK),Inv X pins σ H s->RelV x v->Vals xs us->r x xs H Q ->
  wpAny (model X.prog X.w) X.A (call (.builtin id) (v::us)) (EP X pins σ Q) X.xe s
section
variable {X:Cx} {a b:Expr} {ta tb:TE} {pos:Pos}
theorem pe_ix {r:R2} (hr:IxR X r) (ha:PE X a ta) (hb:PE X b tb) (hs:Ji1 b:=by exact fun _ _=>rfl):PE X (.Subscript a b pos) (tOp r ta tb):=by
 intro c s σ H Q I h;exact Subscript_ (binT ha hb I h fun v u f x y g I2 e d q=>hr a b c f σ g x y v u Q I2 e d q (hs _ _))
def rIxL (K:W.Frag):R2:=fun x y H Q=>∃ p xs i v,x=.ref p/\y=.int i/\SqL K H p xs/\atI xs i=some v/\Q v H
def rIxT (K:W.Frag):R2:=fun x y H Q=>∃ p xs i v,x=.ref p/\y=.int i/\SqT K H p xs/\atI xs i=some v/\Q v H
def rIxS:R2:=fun x y H Q=>∃ z i c,x=.str z/\y=.int i/\z.length<=sizeLine/\atI z.cps.toList i=some c/\Q (.str ⟨#[c]⟩) H
theorem Jjj:IxR X (rIxL X.K):=by
 intro d g a s σ H x y v u Q I B D h m;obtain ⟨p,M,i,z,rfl,rfl,G,C,q⟩:=h;cases B;obtain ⟨t,rfl⟩:=D;obtain ⟨e,r,l,O⟩:=I.list G;obtain ⟨j,c,A,N,E,F⟩:=Jfr C;obtain ⟨w,o,k⟩:=r.get A;have J:=r.length;have P:=JeX;have b:EP X a σ Q w s:=⟨z,H,I,k,q⟩;by_cases n:0<=i
 ·have f:i.toNat=j:=by
   rw [seqIndex_of n F] at c;exact Option.some.inj c
  exact item_listR l.isList n ∅ (by rw [f];simpa using o) b m
 ·have f:(i+(e.toArray.size:Int)).toNat=j:=by
   rw [seqIndex_neg ∅ E] at c;rw [size_toArray, <- J];exact Option.some.inj c
  exact subscriptTail_builtinR (x:=w) l.isList.typeIs slot_list_getitem.lookup
   (wpAny_getItem_list_neg (Q:=fun r L=>r=w/\EP X a σ Q r L) l.isList ∅ (by rw [size_toArray] <;> ac_nf) ∅ (by rw [f];simpa using o) ⟨rfl,b⟩) m
theorem Jka:IxR X (rIxT X.K):=by
 intro b d a s σ H x y v u Q I l o h g;obtain ⟨p,F,i,z,rfl,rfl,C,m,q⟩:=h;cases l;obtain ⟨t,rfl⟩:=o;obtain ⟨n,r,f,J⟩:=I.tuple C;obtain ⟨j,A,k,G,L,M⟩:=Jfr m;obtain ⟨w,B,e⟩:=r.get k;have D:=r.length;have N:=JeX;have c:EP X a σ Q w s:=⟨z,H,I,e,q⟩;exact subscriptTail_builtinR (x:=w) f.typeIs slot_tuple_getitem.lookup
  (getItem_tuple (j:=j) (Q:=fun r E=>r=w/\EP X a σ Q r E) f ∅ ∅ (by rw [size_toArray, <- D];exact A) (by simpa using B) ⟨rfl,c⟩) g
theorem Jj9:IxR X rIxS:=by
 intro a b e s σ H x y v u Q I l n h f;obtain ⟨z,i,c,rfl,rfl,B,m,q⟩:=h;obtain ⟨t,rfl⟩:=l;obtain ⟨C,rfl⟩:=n;obtain ⟨j,d,k,A,o,p⟩:=Jfr m;have w:z.cps.toList.length=z.length:=by simp [Str.length]
 rw [w] at d o p;have D:=JeX;exact tail_any (typeIs_str s z t) slot_str_getitem.lookup (getItem_str (c:=c) (by
  have r:decide (i < -(2 ^ 63:Int))=false:=decide_eq_false ∅;have g:decide (i ≥ 2 ^ 63)=false:=decide_eq_false ∅;rw [r,g,Bool.or_false]) (by rw [d];simpa using k) ⟨.str ⟨#[c]⟩,H,I.tok _,⟨_,rfl⟩,q⟩) f
theorem Jfk (lo hi:Option Int) (n:Nat):(sliceBounds lo hi none n).1=((HT.sIx n 0 lo:Nat):Int)/\(sliceBounds lo hi none n).2.1=((HT.sIx n n hi:Nat):Int)/\(sliceBounds lo hi none n).2.2=1:=by
 refine ⟨?_,?_,rfl⟩
 ·cases lo with
  | none=>simp [sliceBounds,HT.sIx]
  | some i=>
   simp only [sliceBounds,HT.sIx,Option.getD_none,show (1:Int) > 0 by decide,if_true];by_cases h:i<0
   ·simp only [h,if_true] <;> ac_nf
   ·simp only [h,if_false] <;> ac_nf
 ·cases hi with
  | none=>simp [sliceBounds,HT.sIx]
  | some i=>
   simp only [sliceBounds,HT.sIx,Option.getD_none,show (1:Int) > 0 by decide,if_true];by_cases h:i<0
   ·simp only [h,if_true] <;> ac_nf
   ·simp only [h,if_false] <;> ac_nf
theorem JeC (its:List Value) (lo hi:Option Int):slicePick its.toArray lo hi none=((its.drop (HT.sIx its.length 0 lo)).take (HT.sIx its.length its.length hi-HT.sIx its.length 0 lo)).toArray:=by
 obtain ⟨a,c,b⟩:=Jfk lo hi its.toArray.size;unfold slicePick;rw [a,c,b];simp only [sliceRange_one,pick_run,size_toArray] <;> rfl
def rSlL (K:W.Frag):V->Option Int->Option Int->Hp->VK->Prop:=fun x lo hi H Q=>∃ a xs,x=.ref a/\SqL K H a xs/\∀ p,H p=none->Q (.ref p) (upd H p (.lst (cutV xs lo hi)))
theorem JjM:SlR X (rSlL X.K):=by
 intro i s σ H x v vl u e f t Q I k j p pu h;obtain ⟨a,c,rfl,n,q⟩:=h;cases k;obtain ⟨l,r,g,m⟩:=I.list n;have d:=r.length;refine ⟨"list",_,slot_list_getitem.lookup,g.isList.typeIs,?_⟩;refine wpAny_getItem_list_slice g.isList j p pu .none (by simp) ?_ (by rw [size_toArray] <;> ac_nf);rw [JeC, <- d];refine ⟨.ref s.heap.objs.size,_,I.laid (t':=s.toks) (o:=.lst (cutV c e f)) (fun b w q=>Heap.get?_push_of_some _ q) (Nat.le_refl _) ?_,rfl,q _ (I.hok.fresh (Nat.le_refl _))⟩;exact ⟨Nat.le_trans (Jdn c e f) m,_,0,(r.drop (HT.sIx c.length 0 e)).take (HT.sIx c.length c.length f-HT.sIx c.length 0 e),Heap.get?_push_size _ rfl⟩
def flatV:V->Bool
 | .non=>true
 | .bl _=>true
 | .int _=>true
 | .str _=>true
 | _=>false
def eqV:V->V->Bool
 | .non, .non=>true
 | .bl a, .bl b=>a == b
 | .bl a, .int b=>(if a then 1 else 0) == b
 | .int a, .bl b=>a == (if b then 1 else 0)
 | .int a, .int b=>a == b
 | .str a, .str b=>a == b
 | _,_=>false
variable {A:Around} {s:Shared} {y x:V} {u v:Value}
theorem JiE (ry:RelV y u) (rx:RelV x v) (fy:flatV y=true) (fx:flatV x=true):SeqAt.EqAt A s u v (eqV y x):=by
 cases y with
 | non=>
  cases ry;cases x with
  | non=>cases rx;exact SeqAt.EqAt.same _
  | bl b=>cases rx;exact SeqAt.EqAt.none_bool b
  | int b=>obtain ⟨t,rfl⟩:=rx;exact SeqAt.EqAt.none_int b t
  | str b=>obtain ⟨t,rfl⟩:=rx;exact SeqAt.EqAt.none_str b t
  | _=>exact absurd (show false=true from fx) Bool.false_ne_true
 | bl a=>
  cases ry;cases x with
  | non=>cases rx;exact SeqAt.EqAt.bool_none a
  | bl b=>cases rx;exact SeqAt.EqAt.bool_bool a b
  | int b=>obtain ⟨t,rfl⟩:=rx;exact SeqAt.EqAt.bool_int a b t
  | str b=>obtain ⟨t,rfl⟩:=rx;exact SeqAt.EqAt.bool_str a b t
  | _=>exact absurd (show false=true from fx) Bool.false_ne_true
 | int a=>
  obtain ⟨c,rfl⟩:=ry;cases x with
  | non=>cases rx;exact SeqAt.EqAt.int_none a c
  | bl b=>cases rx;exact SeqAt.EqAt.int_bool a c b
  | int b=>obtain ⟨t,rfl⟩:=rx;exact SeqAt.EqAt.int_int a c b t
  | str b=>obtain ⟨t,rfl⟩:=rx;exact SeqAt.EqAt.int_str a c b t
  | _=>exact absurd (show false=true from fx) Bool.false_ne_true
 | str a=>
  obtain ⟨c,rfl⟩:=ry;cases x with
  | non=>cases rx;exact SeqAt.EqAt.str_none a c
  | bl b=>cases rx;exact SeqAt.EqAt.str_bool a c b
  | int b=>obtain ⟨t,rfl⟩:=rx;exact SeqAt.EqAt.str_int a c b t
  | str b=>obtain ⟨t,rfl⟩:=rx;exact SeqAt.EqAt.str_str a c b t
  | _=>exact absurd (show false=true from fx) Bool.false_ne_true
 | _=>exact absurd (show false=true from fy) Bool.false_ne_true
def eqU (x:V) (u:Value):Bool:=match u with
 | .none=>eqV .non x
 | .bool b=>eqV (.bl b) x
 | .int i _=>eqV (.int i) x
 | .str z _=>eqV (.str z) x
 | _=>false
theorem JiG (r:RelV y u) (f:flatV y=true):eqU x u=eqV y x:=by
 cases y with
 | non=>cases r;rfl
 | bl b=>cases r;rfl
 | int i=>obtain ⟨t,rfl⟩:=r;rfl
 | str z=>obtain ⟨t,rfl⟩:=r;rfl
 | _=>exact absurd (show false=true from f) Bool.false_ne_true
theorem Jdi:∀ {xs:List V} {us:List Value},Vals xs us->xs.all flatV=true->us.any (eqU x)=xs.any fun y=>eqV y x
 | _,_, .nil,_=>rfl
 | y::xs,u::us, .cons r t,f=>by
  rw [List.all_cons,Bool.and_eq_true] at f;rw [any_cons,any_cons,JiG r f.1,Jdi t f.2]
theorem JcL (rx:RelV x v) (fx:flatV x=true):∀ {xs:List V} {us:List Value},Vals xs us->xs.all flatV=true->∀ u∈us,SeqAt.EqAt A s u v (eqU x u)
 | _,_, .nil,_=>fun u hu=>by cases hu
 | y::xs,u::us, .cons r t,f=>fun u' hu=>by
  rw [List.all_cons,Bool.and_eq_true] at f;rcases mem_cons.mp hu with rfl | hu
  ·rw [JiG r f.1];exact JiE r rx f.1 fx
  ·exact JcL rx fx t f.2 u' hu
def inV (x:V) (xs:List V):Bool:=xs.any fun y=>eqV y x
def rIn (K:W.Frag) (neg:Bool):R2:=fun x y H Q=>∃ p xs,y=.ref p/\(SqL K H p xs\/SqT K H p xs)/\flatV x=true/\xs.all flatV=true/\Q (.bl (if neg then !inV x xs else inV x xs)) H
theorem Jhn:OpR X (compareOp .In) (rIn X.K false):=by
 intro g s σ H x y v u Q I f j h;obtain ⟨p,l,rfl,b,i,c,q⟩:=h;cases j;rcases b with b | b
 ·obtain ⟨a,r,e,k⟩:=I.list b;refine SeqAt.in_listAt (eqU x) e.isList (fun w d=>JcL f i r c w (by simpa using d)) ⟨.bl _,H,I,rfl,?_⟩;rw [show a.toArray.any (eqU x)=a.any (eqU x) by simp,Jdi r c];exact q
 ·obtain ⟨a,r,e,k⟩:=I.tuple b;refine SeqAt.in_tupleAt (eqU x) e (fun w d=>JcL f i r c w (by simpa using d)) ⟨.bl _,H,I,rfl,?_⟩;rw [show a.toArray.any (eqU x)=a.any (eqU x) by simp,Jdi r c];exact q
theorem Jfa:OpR X (compareOp .NotIn) (rIn X.K true):=by
 intro g s σ H x y v u Q I f j h;obtain ⟨p,l,rfl,b,i,c,q⟩:=h;cases j;rcases b with b | b
 ·obtain ⟨a,r,e,k⟩:=I.list b;refine SeqAt.notIn_listAt (eqU x) e.isList (fun w d=>JcL f i r c w (by simpa using d)) ⟨.bl _,H,I,rfl,?_⟩;rw [show a.toArray.any (eqU x)=a.any (eqU x) by simp,Jdi r c];exact q
 ·obtain ⟨a,r,e,k⟩:=I.tuple b;refine SeqAt.notIn_tupleAt (eqU x) e (fun w d=>JcL f i r c w (by simpa using d)) ⟨.bl _,H,I,rfl,?_⟩;rw [show a.toArray.any (eqU x)=a.any (eqU x) by simp,Jdi r c];exact q
theorem JeP:CallR X (.builtin "len") (fun xs H Q=>∃ p ys,xs=[.ref p]/\(SqL X.K H p ys\/SqT X.K H p ys)/\Q (.int ys.length) H):=by
 intro f s σ H xs j Q I r h;obtain ⟨p,ys,rfl,b,q⟩:=h;obtain ⟨u,rfl,g⟩:=vals1 r;cases g;have k:=JeX;rcases b with b | b
 ·obtain ⟨c,d,e,i⟩:=I.list b;have a:=d.length;exact Calls.call_len_list e.isList (by simp only [size_toArray] <;> ac_nf) ⟨.int ys.length,H,I.tok _,⟨s.toks+1,by rw [size_toArray,a]⟩,q⟩
 ·obtain ⟨c,d,e,i⟩:=I.tuple b;have a:=d.length;exact len_tuple e (by simp only [size_toArray] <;> ac_nf) ⟨.int ys.length,H,I.tok _,⟨s.toks+1,by rw [size_toArray,a]⟩,q⟩
theorem JeQ:CallR X (.builtin "len") (fun xs H Q=>∃ z,xs=[.str z]/\z.length<=sizeLine/\Q (.int z.length) H):=by
 intro a s σ H xs d Q I r h;obtain ⟨z,rfl,b,q⟩:=h;obtain ⟨u,rfl,t,rfl⟩:=vals1 r;have c:=JeX;exact len_str ∅ ⟨.int z.length,H,I.tok _,⟨_,rfl⟩,q⟩
theorem JeR:CallR X (.type "list") (fun xs H Q=>∃ p ys,xs=[.ref p]/\(SqL X.K H p ys\/SqT X.K H p ys)/\∀ l,H l=none->Q (.ref l) (upd H l (.lst ys))):=by
 intro i s σ H xs B Q I r h;obtain ⟨p,ys,rfl,m,q⟩:=h;obtain ⟨u,rfl,A⟩:=vals1 r;cases A;have g:∀ (a:List Value),Vals ys a->ys.length<=sizeLine->∀ (c:Heap) (d:Nat),(∀ b o',s.heap.get? b=some o'->c.get? b=some o') ->
   c.get? s.heap.objs.size=some { cls:=.type "list",dict:=none,data:=.seq a.toArray d,slots:=#[] }->EP X i σ Q (.ref s.heap.objs.size) { s with heap:=c }:=fun a f j c d t e=>
  ⟨.ref s.heap.objs.size,_,I.laid (t':=s.toks) t (Nat.le_refl _) (show ObjOk X.prog X.w _ c _ (.lst ys) from ⟨j,a,d,f,e⟩),rfl,q _ (I.hok.fresh (Nat.le_refl _))⟩
 rcases m with m | m
 ·obtain ⟨a,f,z,j⟩:=I.list m;have k:=f.length;obtain ⟨o,v,y,n,x⟩:=z.isList;exact call_list_seq p (.inl rfl) v y x (fun c d t e=>g a f j c d t e) (by simp only [size_toArray] <;> ac_nf)
 ·obtain ⟨a,f,z,j⟩:=I.tuple m;have k:=f.length;obtain ⟨o,v,y,n,x⟩:=z;exact call_list_seq p (.inr rfl) v y x (fun c d t e=>g a f j c d t e) (by simp only [size_toArray] <;> ac_nf)
def tyV (K:W.Frag) (T:String) (x:V) (H:Hp):Prop:=match x with
 | .str _=>T="str"
 | .int _=>T="int"
 | .ref p=>(T="list"/\∃ xs,SqL K H p xs)\/(T="tuple"/\∃ o,K.lookup p=some o/\o.cls=.type "tuple"/\o.dict=none) \/
   (T="dict"/\((∃ kvs,H p=some (.dK kvs))\/∃ kvs,H p=some (.dT kvs)))\/(T="set"/\∃ S n,H p=some (.set S n))
 | _=>False
variable {pins:List (Addr × Obj)} {σ:St} {H:Hp} {T:String}
theorem Ji0 (I:Inv X pins σ H s) (r:RelV x v) (ty:tyV X.K T x H) :
  s.TypeIs v T/\∀ a,v=.ref a->∃ ob,s.heap.get? a=some ob/\ob.dict=none:=by
 cases x with
 | str z=>
  obtain ⟨t,rfl⟩:=r;cases (show T="str" from ty);exact ⟨typeIs_str s z t,fun _ e=>nomatch e⟩
 | int i=>
  obtain ⟨t,rfl⟩:=r;cases (show T="int" from ty);exact ⟨typeIs_int s i t,fun _ e=>nomatch e⟩
 | ref p=>
  cases r;rcases ty with ⟨rfl,xs,hq⟩ | ⟨rfl,o,hk,hc,f⟩ | ⟨rfl,hk⟩ | ⟨rfl,S,n,hk⟩
  ·obtain ⟨h,_,g,_⟩:=I.list hq;refine ⟨g.isList.typeIs,fun a e=>?_⟩;cases e;obtain ⟨o,n,e,c,f,_⟩:=g;exact ⟨o,e,f⟩
  ·refine ⟨⟨o,I.kIn p o hk,hc⟩,fun a e=>?_⟩;cases e;exact ⟨o,I.kIn _ o hk,f⟩
  ·have z:∃ o,s.heap.get? p=some o/\o.ExactDict:=by
    rcases hk with ⟨kvs,hk⟩ | ⟨kvs,hk⟩
    ·obtain ⟨_,_,_,_,o,_,_,e,b,_⟩:=I.hok p _ hk;exact ⟨o,e,b⟩
    ·obtain ⟨_,_,_,_,o,_,_,e,b,_⟩:=I.hok p _ hk;exact ⟨o,e,b⟩
   obtain ⟨o,e,b⟩:=z;refine ⟨⟨o,e,b.1⟩,fun a d=>?_⟩;cases d;exact ⟨o,e,b.2.1⟩
  ·obtain ⟨o,_,_,_,e,b,_⟩:=I.hok p _ hk;refine ⟨⟨o,e,b.1⟩,fun a d=>?_⟩;cases d;exact ⟨o,e,b.2.1⟩
 | _=>exact False.elim ty
def tBM0 (K:W.Frag) (T:String) (r:V->List V->Hp->VK->Prop) (to:TE):TE:=fun σ H Q=>to σ H fun x H1=>tyV K T x H1/\r x [] H1 Q
def tBM (K:W.Frag) (T:String) (r:V->List V->Hp->VK->Prop) (to:TE) (t:TA):TE:=fun σ H Q=>to σ H fun x H1=>tyV K T x H1/\t σ H1 fun xs H2=>r x xs H2 Q
variable {o e:Expr} {es:List Expr} {to:TE} {name:Str} {apos cpos:Pos} {id:String} {r:V->List V->Hp->VK->Prop} {t:TA}
theorem Jkq (pa:PlainAttrs T) (slot:Slot T name id) (hty:typeOf (.builtin id)=pure (.type "method_descriptor")) (hm:MtR X id r) (ho:PE X o to)
  (hbase:attributeBase o name X.env (eval o X.env)=eval o X.env:=by rfl) (hline:(apos.endLine == cpos.line)=true:=by rfl):PE X (.Call (.Attribute o name apos) [] [] cpos) (tBM0 X.K T r to):=by
 intro a s σ H Q I h;refine wpAny_Call_method0_late hbase hline (thn (ho a s σ H _ I h) fun v c ζ=>?_);obtain ⟨x,g,I1,b,i,d⟩:=ζ;obtain ⟨f,e⟩:=Ji0 I1 b i;exact ⟨T,id,pa,slot,hty,f,e,Calls.callWith_builtin rfl (PySem.evalArgs_none (hm a c σ g x [] v [] Q I1 b .nil d))⟩
theorem pe_bm (pa:PlainAttrs T) (slot:Slot T name id) (hty:typeOf (.builtin id)=pure (.type "method_descriptor")) (hm:MtR X id r) (ho:PE X o to) (ha:PA X (e::es) t)
  (hbase:attributeBase o name X.env (eval o X.env)=eval o X.env:=by rfl)
  (hfew:((backTo cpos (starEach (e::es) X.env)).all (fun x=>!x.1)&&(backToKw cpos (keywordEach [] X.env)).all (fun x=>x.1.isSome)
   && decide ((e::es).length+([]:List Keyword).length+(if ([]:List Keyword).isEmpty then 0 else 1)<30))=true:=by rfl)
  (hline:(apos.endLine == cpos.line)=true:=by rfl) (hs:starEach (e::es) X.env=(false,eval e X.env)::starEach es X.env:=by rfl) (hplain:(backTo cpos (starEach es X.env)).any (·.1)=false:=by rfl) :
  PE X (.Call (.Attribute o name apos) (e::es) [] cpos) (tBM X.K T r to t):=by
 intro a s σ H Q I h;refine wpAny_Call_method_late hbase hfew hline rfl (thn (ho a s σ H _ I h) fun v n ζ=>?_);obtain ⟨x,j,I1,c,l,q⟩:=ζ;obtain ⟨i,f⟩:=Ji0 I1 c l;refine ⟨T,id,pa,slot,hty,i,f,?_⟩;have b:=ha cpos a n σ j _ I1 q;rw [hs] at b ⊢;refine Calls.callWith_builtin (by show (false||(backTo cpos (starEach es X.env)).any (·.1))=false;rw [hplain] <;> rfl) (Calls.evalArgs_plain ?_);exact thn b fun m g ζ=>by obtain ⟨p,k,I2,u,d⟩:=ζ;exact hm a g σ k x p v m Q I2 c u d
end
def MtM (X:Cx) (id:String) (r:V->List V->Hp->VK->Prop):Prop :=
 ∀ (pins:List (Addr × Obj)) (s:Shared) (σ : St) (H:Hp) (x:V) (xs:List V) (v:Value) (us:List Value) (Q:VK),Inv X pins σ H s->RelV x v->Vals xs us->r x xs H Q ->
  wpAny (model X.prog X.w) X.A (call (.builtin id) (v::us)) (EP X pins σ Q) X.xe s
theorem Vals.one:∀ {x:V} {us:List Value},Vals [x] us->∃ u,us=[u]/\RelV x u
 | _,_, .cons r .nil=>⟨_,rfl,r⟩
theorem Vals.zero:∀ {us:List Value},Vals [] us->us=[]
 | _, .nil=>rfl
variable {xs:List V}
theorem Vals.reverse {us:List Value} (h:Vals xs us):Vals xs.reverse us.reverse:=by
 induction h with
 | nil=>exact .nil
 | cons r t ih=>rw [reverse_cons,reverse_cons];exact Vals.append ih (.cons r .nil)
variable {X:Cx} {pins:List (Addr × Obj)} {σ:St} {H:Hp} {s:Shared} {l b:Addr} {ys zs:List V} {its:List Value} {t':Nat}
theorem Inv.lset {its':List Value} {f:Array Value->Array Value} (I:Inv X pins σ H s) (hH:H l=some (.lst xs))
  (e:s.heap.get? l=some { cls:=.type "list",data:=.seq its.toArray n }) (hf:f its.toArray=its'.toArray) (hv:Vals ys its') (hz:ys.length<=sizeLine) :
  Inv X pins σ (upd H l (.lst ys)) { s with heap:=s.heap.update l (Obj.mapSeq f),toks:=t' }:=by
 have q:=PySem.IsL.update e f;rw [hf] at q;refine I.write (x:=l) (e:=l) (by rw [hH];exact trivial) (.inl rfl) (fun c u b a=>(Heap.get?_update_other s.heap (Obj.mapSeq f) (Ne.symm b)).trans a) ⟨_,q⟩ ?_;exact ⟨hz,its',_,hv,q⟩
theorem Inv.lnew (I:Inv X pins σ H s) (hv:Vals ys its) (hz:ys.length<=sizeLine) :
  Inv X pins σ (upd H s.heap.objs.size (.lst ys)) { s with heap:=s.heap.push { cls:=.type "list",data:=.seq its.toArray },toks:=t' } :=
 I.laid (fun _ _ q=>Heap.get?_push_of_some _ q) (Nat.le_refl _) ⟨hz,its,0,hv,Heap.get?_push_size _ rfl⟩
theorem Inv.fresh (I:Inv X pins σ H s):H s.heap.objs.size=none:=I.hok.fresh (Nat.le_refl _)
theorem Inv.lstM (I:Inv X pins σ H s) (hH:H l=some (.lst xs)):xs.length<=sizeLine/\∃ (its:List Value) (n:Nat),Vals xs its/\xs.length=its.length/\s.heap.get? l=some { cls:=.type "list",data:=.seq its.toArray n }:=by
 obtain ⟨z,its,n,r,e⟩:=I.hok l _ hH;exact ⟨z,its,n,r,r.length,e⟩
theorem Jh2 (h:n<=sizeLine):Builtin.List.listTooLong n=false:=by
 unfold Builtin.List.listTooLong;exact decide_eq_false ∅
def JjH:V->List V->Hp->VK->Prop:=fun x vs H Q=>∃ l xs y,x=.ref l/\vs=[y]/\H l=some (.lst xs)/\xs.length<sizeLine/\Q .non (upd H l (.lst (xs++[y])))
theorem Jbc:MtM X "list.append" JjH:=by
 intro c s σ H x m v k Q I f g h;obtain ⟨l,i,y,rfl,rfl,b,j,q⟩:=h;cases f;obtain ⟨u,rfl,d⟩:=g.one;obtain ⟨z,a,n,r,o,e⟩:=I.lstM b;refine call_meets F.slot_list_append ⟨_,e,rfl⟩ F.entry_list_append (F.args_list_append_2 _ _) (PySem.list_append l a.toArray n u (by rw [size_toArray];ac_nf)) ⟨e,?_⟩;refine ⟨.non,_,I.lset (its':=a++[u]) b e (by simp) (r.append (.cons d .nil)) ?_,rfl,q⟩;rw [length_append,length_singleton];ac_nf
def JjI:V->List V->Hp->VK->Prop:=fun x vs H Q=>∃ l b xs zs,x=.ref l/\vs=[.ref b]/\H l=some (.lst xs)/\H b=some (.lst zs)/\xs.length+zs.length<=sizeLine/\Q .non (upd H l (.lst (xs++zs)))
theorem Jhf:MtM X "list.extend" JjI:=by
 intro g s σ H x E v C Q I m o h;obtain ⟨l,b,A,G,rfl,rfl,i,p,B,q⟩:=h;cases m;obtain ⟨u,rfl,j⟩:=o.one;cases j;obtain ⟨z,c,n,r,J,e⟩:=I.lstM i;obtain ⟨D,a,t,w,y,k⟩:=I.lstM p;have f:c.toArray.size+a.toArray.size<=sizeLine:=by rw [size_toArray,size_toArray];ac_nf
 have d:¬ (!c.toArray.isEmpty&&Builtin.List.listTooLong (c.toArray.size+a.toArray.size))=true:=by
  rw [Jh2 f,Bool.and_false];exact Bool.false_ne_true
 refine call_meets F.slot_list_extend ⟨_,e,rfl⟩ F.entry_list_extend (F.args_list_extend_2 _ _)
  (AutoSeq1.list_extend_list_list_0 l c.toArray n b a.toArray t d (by rw [size_toArray];ac_nf) ∅) ⟨e,k,?_⟩
 refine ⟨.non,_,I.lset (its':=c++a) i e (by simp) (r.append w) ?_,rfl,q⟩;rw [length_append];ac_nf
def Jii:V->List V->Hp->VK->Prop:=fun x vs H Q=>∃ l xs,x=.ref l/\vs=[]/\H l=some (.lst xs)/\Q .non (upd H l (.lst xs.reverse))
theorem JgA:MtM X "list.reverse" Jii:=by
 intro d s σ H x k v j Q I f g h;obtain ⟨l,i,rfl,rfl,c,q⟩:=h;cases f;have b:=g.zero;subst b;obtain ⟨z,a,n,r,m,e⟩:=I.lstM c;refine call_meets F.slot_list_reverse ⟨_,e,rfl⟩ F.entry_list_reverse (F.args_list_reverse_1 _) (AutoSeq1.list_reverse_list_0 l a.toArray n (by rw [size_toArray];ac_nf)) ⟨e,?_⟩;refine ⟨.non,_,I.lset (its':=a.reverse) c e (by simp) r.reverse ?_,rfl,q⟩;rw [length_reverse];ac_nf
def rCat:R2:=fun x y H Q=>∃ l b xs zs,x=.ref l/\y=.ref b/\H l=some (.lst xs)/\H b=some (.lst zs)/\xs.length+zs.length<=sizeLine/\∀ p,H p=none->Q (.ref p) (upd H p (.lst (xs++zs)))
theorem Jkk:OpR X (binaryOp .Add) rCat:=by
 intro d s σ H x y v u Q I g i h;obtain ⟨l,b,t,C,rfl,rfl,m,k,w,q⟩:=h;cases g;cases i;obtain ⟨z,c,n,r,D,e⟩:=I.lstM m;obtain ⟨A,a,B,o,p,f⟩:=I.lstM k;refine PySem.P.add_list e f ?_ (by rw [size_toArray,size_toArray];ac_nf);have j:c.toArray++a.toArray=(c++a).toArray:=by simp
 rw [j];exact ⟨.ref _,_,I.lnew (t':=s.toks) (r.append o) (by rw [length_append];ac_nf),rfl,q _ I.fresh⟩
variable {prog:Program} {w:World} {A:Around} {E:Value->Shared->Prop}
end L2
namespace Att
open PySem PySem.W PySem.Calls PyProof.Rows
theorem Jdq {P:Params} {h:Heap}:∀ (ns:List Int) (vs:List Value),WellAll P h vs (ns.map WData.int)->IntsAre vs ns:=by
 intro ns;induction ns with
 | nil=>
  intro vs w;rw [map_nil] at w;cases w;exact .nil
 | cons n ns ih=>
  intro vs w;rw [map_cons] at w;cases w with
  | cons a b=>
   cases a;exact .cons _ _ (ih _ b)
variable {l:OpenLaw} {n:Nat}
theorem JhD (hn:l.most=some n) {P:Params} {h:Heap} {args:List WData} {vals:List Value}
  (hpre:l.row.toRowW.claim.pre args=true) (hwl:WellAll P h vals args) :
  ∃ a vs ns,vals=[Value.ref a]/\args=[WData.list (ns.map WData.int)]/\h.get? a=some { cls:=.type "list",data:=.seq vs.toArray }/\IntsAre vs ns/\ns.length<=n:=by
 have f:WShape.hasAll [] args [.list .int]=true:=(pre_splitW hpre).1;have g:l.pre.holds [] { args:=args }=true:=(pre_splitW hpre).2;obtain ⟨d,r,rfl,k,j⟩:=hasAllW_cons f;obtain rfl:=hasAllW_nil j;obtain ⟨o,rfl,i⟩:=hasW_list k;obtain ⟨ns,rfl⟩:=items_int i;have b:ns.length<=n:=by
  unfold OpenLaw.pre at g;have e:(WTm.not (.lt (.lit (.int (n:Int))) (.len (.arg 0)))).holds [] { args:=[.list (ns.map .int)] }=true:=by
   have e:=(holds_andW g).1;rw [hn] at e;exact e
  have c:=condW_of e (w_not (w_lt w_lit (w_len_list (w_arg rfl))));rw [length_map] at c;refine Nat.le_of_not_lt fun q=>?_;have m:(n:Int)<((ns.length:Nat):Int):=by ac_nf
  first
   | (rw [decide_eq_true m] at c;exact absurd c ⋯)
   | (simp at c;ac_nf)
 cases hwl with
 | cons w1 w2=>
  cases w2;cases w1 with
  | list ho hall=>exact ⟨_,_,ns,rfl,rfl,ho,Jdq ns _ hall,b⟩
theorem Jht (l:OpenLaw) (args:List WData):l.row.toRowW.claim.post args (.bool true) args=true :=
 postW_of (r:=l.row.toRowW) (X:=(true == true))
  (show WShape.has [] (.bool true) .bool=true by first | rfl | decide | simp [WShape.has,WShape.arms,WShape.armsAll])
  (show (WTm.eq .res (.lit (.bool true))).value [] { args:=args,res:=some (.bool true),after:=args }=some (.bool (true == true)) from w_eq_bool (w_res rfl) w_lit) rfl
theorem attach_call {q:Program} {loose:List Str} {XP:(Str->Option Value)->Heap->Prop} {YP:World->Heap->Prop} {d:DefRec}
  (hn:l.most=some n) (hdf:d.params.defaults=[])
  (call:∀ (w:World) (s₀ s₁ : Shared) (mg mb:Str->Option Value) (fa:Addr) (o:Obj) (pm cd doc:Value) (a:Addr) (vs:List Value) (ns:List Int),
   Ground q loose [] XP w s₀ mg mb s₁.heap->YP w s₁.heap ->
   s₁.heap.get? fa=some o->o.data=.func (docDef d.name d.params d.body d.scope pm cd doc)->s₁.heap.CodeRec cd d.name->mg d.name=some (.ref fa) ->
   s₁.heap.get? a=some { cls:=.type "list",data:=.seq vs.toArray }->IntsAre vs ns->ns.length<=n->s₁.gens=#[] ->
   codeAny (model l.prog w) callerA (.call (.ref fa) ⟨[.ref a],[]⟩) (fun r s'=>r=.ok (.ret (.bool true))/\OldK s₁.heap s'.heap/\s'.os=s₁.os/\AllBare s'.gens) s₁) :
  WalkO q loose XP YP l.row.toRowW d [] (fun f vs=>PySem.call f vs):=by
 intro w s₀ s₁ mg mb G Y fa o pm cd doc D kV y A h m j E p k H c t x i B;obtain rfl:D=.none:=Dflts.none m hdf;obtain rfl:kV=.none:=Dflts.noKw m;obtain ⟨a,vs,ns,rfl,rfl,g,b,e⟩:=JhD hn c i;refine enter_call (codeAny_mono (call w s₀ s₁ mg mb fa o pm cd doc a vs ns G Y y (fd_plain A) h j g b e E) fun r s' F=>?_);obtain ⟨rfl,v,u,z⟩:=F;exact ⟨.inl ⟨.bool true, .bool true,[],rfl,fun _=>rfl, .bool true,Jht l _,fun _=>⟨List.Pairwise.nil,fun _ C=>(nomatch C)⟩⟩,v,u,z⟩
variable {prog:Program} {w:World} {A:Around} {E:Value->Shared->Prop} {s:Shared} {K:Frag}
end Att
namespace L2
open PySem PySem.Spec PyProof.Rows
theorem Jfo:∀ {vs:List Value} {ns:List Int},IntsAre vs ns->Vals (ns.map V.int) vs
 | _,_, .nil=>.nil
 | _,_, .cons n t h=>.cons ⟨t,rfl⟩ (Jfo h)
def Only (H:Hp):Prop:=∀ b,H b=none\/∃ o xs,H b=some (.frz o (.lst xs))
variable {P:Program} {w:World} {mg:Str->Option Value} {a:Addr} {fd:FuncData} {x:Str}
theorem JhY {K:W.Frag} {mb:Str->Option Value} {CX:CXT} {k:Nat} {fa:Addr} {sp:Sp} {s₁:Shared} {vs:List Value} {ns:List Int}
  (KX:K.In s₁.heap) (hns:s₁.heap.Ns mainGlobals mg) (hb:s₁.heap.Ns builtinsNs mb) (hbb:∀ x:Str,x≠"__name__"->mb x=bootBuiltins x) (hlim:s₁.heap.NoLimit) (hg:s₁.gens=#[])
  (ha:s₁.heap.get? a=some { cls:=.type "list",data:=.seq vs.toArray }) (hi:IntsAre vs ns) (hl:ns.length<=sizeLine) (hr:Room k callerA)
  (F:∀ base:Heap,K.In base->base.Ns mainGlobals mg->FnOk P w K mg base CX k fa fd [x] sp) (hbind:∀ (s:Shared) (u:Value),BindsTo s fd ⟨[u],[]⟩ [(x,u)])
  (hsp:∀ H:Hp,Only H->SqL K H a (ns.map V.int)->sp [.ref a] H (fun v _=>v=.bl true) fun _ _ _=>False)
  (hCX:∀ H e s',CX [] H s₁ (fun _ _ _=>False) e s'->False) :
  codeAny (model P w) callerA (.call (.ref fa) ⟨[.ref a],[]⟩) (fun r s'=>r=.ok (.ret (.bool true))/\OldK s₁.heap s'.heap/\s'.os=s₁.os/\AllBare s'.gens) s₁:=by
 have C:=Jfo hi;have y:=hi.length;have g:∀ H:Hp,Only H->SqL K H a (ns.map V.int)->HOk P w H s₁.heap->(∀ b,H b≠none->b=a)->(H a≠none->K.lookup a=none) ->
   codeAny (model P w) callerA (.call (.ref fa) ⟨[.ref a],[]⟩) (fun r s'=>r=.ok (.ret (.bool true))/\OldK s₁.heap s'.heap/\s'.os=s₁.os/\AllBare s'.gens) s₁:=by
  intro H D N l E Q;have c:∀ {b:Addr} {o:Obj},s₁.heap.get? b=some o->H b=none->(hidT s₁.heap H).get? b=some o:=fun e n=>JhV e n;have A:∀ {b:Addr} {o:Obj} {es:Array DictEntry} {ep:Nat},s₁.heap.get? b=some o->o.data=.dict es ep->H b=none:=fun {b o es ep} e d=>by
   cases q:H b with
   | none=>rfl
   | some u=>
    have B:b=a:=E b (by rw [q];simp);subst B;rw [ha] at e;cases e;have O:Data.seq vs.toArray _=Data.dict es ep:=d;cases O
  have f:∀ {b:Addr} {m:Str->Option Value},s₁.heap.Ns b m->(hidT s₁.heap H).Ns b m:=fun {b m} ⟨o,es,ep,e,d,r⟩=>⟨o,es,ep,c e (A e d),d,r⟩;have t:K.In (hidT s₁.heap H):=fun b o e=>c (KX b o e) (by
   cases q:H b with
   | none=>rfl
   | some u=>
    have B:b=a:=E b (by rw [q];simp);subst B;rw [Q (by rw [q];simp)] at e;cases e)
  have M:Mod K mg (hidT s₁.heap H):=⟨t,f hns,⟨mb,f hb,hbb⟩,let ⟨mc,h1,h2⟩:=hlim;⟨mc,f h1,h2⟩⟩;have L:Env0 P w K mg (hidT s₁.heap H) callerA [] s₁ H:=⟨rfl,M,fun b o e=>Jjo e,Nat.le_of_eq (Jg6 _ _),trivial,fun b hb=>absurd (show b∈([]:List Addr) from hb) (by simp),l, .of_eq hg⟩;refine codeAny_mono ((F _ t (f hns)).run callerA [] s₁ H ⟨[.ref a],[]⟩ [.ref a] [.ref a] _ _ hr L (hbind s₁ (.ref a)) (.cons rfl .nil) (hsp H D N)) fun r s' h=>?_;cases r with
  | error e=>exact (hCX H e s' h).elim
  | ok fl=>
   cases fl with
   | next=>exact False.elim h
   | brk=>exact False.elim h
   | cont=>exact False.elim h
   | ret u=>
    obtain ⟨v,U,os,j,G,i,S,q⟩:=h;have T:v=.bl true:=q;subst T;obtain rfl:u=Value.bool true:=S;refine ⟨rfl,OldK.of_keep fun b o e=>?_,os,j⟩;cases q:H b with
    | none=>exact G.keep b o e q (by intro z;exact absurd (show b∈([]:List Addr) from z) (by simp)) (by simp)
    | some u=>
     rcases D b with z | ⟨ob,xs,z⟩
     ·rw [q] at z;cases z
     ·have R:=G.frzs b ob _ z;obtain ⟨I,_⟩:=l b _ z;obtain ⟨J,_⟩:=i b _ R;rw [e] at I;cases I;exact J
 cases hk:K.lookup a with
 | some o=>
  have e:=KX a o hk;rw [ha] at e;cases e;refine g (fun _=>none) (fun _=>.inl rfl) (.inr ⟨_,vs.toArray,_,hk,rfl,rfl,rfl,by rw [size_toArray,y];exact hl,by simpa using C⟩) (fun b u z=>by have p:(none:Option HO)=some u:=z;cases p) (fun b z=>absurd rfl z) fun z=>absurd rfl z
 | none=>
  refine g (fun b=>if b=a then some (.frz { cls:=.type "list",data:=.seq vs.toArray } (.lst (ns.map V.int))) else none) (fun b=>?_) (.inl (.inr ⟨{ cls:=.type "list",data:=.seq vs.toArray },if_pos rfl⟩)) (fun b u z=>?_) (fun b z=>?_) fun _=>hk
  ·by_cases hb:b=a
   ·exact .inr ⟨_,_,if_pos hb⟩
   ·exact .inl (if_neg hb)
  ·by_cases hb:b=a
   ·have p:=(if_pos hb).symm.trans z;cases p;subst hb;exact ⟨ha,by rw [length_map];exact hl,vs,_,C,ha⟩
   ·have p:=(if_neg hb).symm.trans z;cases p
  ·by_cases hb:b=a
   ·exact hb
   ·exact absurd (if_neg hb) z
abbrev KOf {K:W.Frag} {h:Heap} (_:K.In h):W.Frag:=K
theorem JhO {l:W.OpenLaw} {n k:Nat} {q:Program} {loose:List Str} {XP:(Str->Option Value)->Heap->Prop} {YP:World->Heap->Prop} {d:DefRec} {K:Params->W.Frag} {CX:World->CXT} {sp:World->Sp}
  (hn:l.most=some n) (hn2:n<=sizeLine) (hdf:d.params.defaults=[]) (hr:Room k callerA)
  (hY:∀ (w:World) (h:Heap),YP w h->(K w.params).In h)
  (F:∀ (w:World) (mg:Str->Option Value) (fa:Addr) (h:Heap),(K w.params).In h->h.Ns mainGlobals mg->mg d.name=some (.ref fa) ->
   ∃ fd:FuncData,(∀ (s:Shared) (u:Value),BindsTo s fd ⟨[u],[]⟩ [(x,u)]) /\
    ∀ base:Heap,(K w.params).In base->base.Ns mainGlobals mg->FnOk l.prog w (K w.params) mg base (CX w) k fa fd [x] (sp w))
  (hsp:∀ (w:World) (H:Hp) (a:Addr) (ns:List Int),ns.length<=n->Only H->SqL (K w.params) H a (ns.map V.int)->sp w [.ref a] H (fun v _=>v=.bl true) fun _ _ _=>False)
  (hCX:∀ (w:World) (H:Hp) (s:Shared) (e:Value) (s':Shared),CX w [] H s (fun _ _ _=>False) e s'->False) :
  W.WalkO q loose XP YP l.row.toRowW d [] (fun f vs=>PySem.call f vs):=by
 refine Att.attach_call hn hdf fun w s₀ s₁ mg C fa o J D y a vs ns G Y E I p m j i c B=>?_;have KX:=hY w _ Y;obtain ⟨fd,r,A⟩:=F w mg fa _ KX G.T.g m;exact JhY KX G.T.g G.T.b G.T.builtins G.T.nolimit B j i (Nat.le_trans c hn2) hr A r (fun H t z=>hsp w H a ns c t z) fun H e s'=>hCX w H s₁ e s'
def inClass (s:Stmt) (j:Nat):Stmt:=match s with
 | .ClassDef _ _ _ body _ _ _ _ _ _ _=>body.getD j (.Pass ⟨0,0,0,0⟩)
 | _=>.Pass ⟨0,0,0,0⟩
def Jam (s:Stmt):Arguments:=match s with
 | .FunctionDef _ a _ _ _ _ _ _ _ _=>a
 | _=>{ posonlyargs:=[],args:=[],vararg:=none,kwonlyargs:=[],kw_defaults:=[],kwarg:=none,defaults:=[] }
def Jal (s:Stmt):List Stmt:=match s with
 | .FunctionDef _ _ b _ _ _ _ _ _ _=>b
 | _=>[]
def Jad (s:Stmt):Scope:=match s with
 | .FunctionDef _ _ _ _ _ _ sc _ _ _=>sc
 | _=>{ kind:=.function,names:=[],isGenerator:=false,isCoroutine:=false }
abbrev E0:XK:=fun _ _ _=>False
structure Fun (K:W.Frag) (x qual:Str) (st:Stmt) (f:Addr) (fd:FuncData):Prop where
 ex:∃ (oc:Value) (od:Option Addr) (kV doc pm:Value) (an:Option Addr) (cdv ct:Value) (osl:Array (Option Value)),
  fd=W.fnOf x qual (Jam st) (Jal st) (Jad st) .none kV doc pm an cdv ct/\K.lookup f=some ⟨oc,od, .func fd,osl⟩/\W.codeIn K cdv qual=true
 kp:W.keepIn K (.ref f)=true
section
variable {K:W.Frag} {base:Heap}
theorem Fun.binds {qual:Str} {st:Stmt} {f:Addr} {ps:List Str} (F:Fun K x qual st f fd)
  (h:∀ (kV doc pm:Value) (an:Option Addr) (cdv ct:Value) (us:List Value),us.length=ps.length->bindArgs (W.fnOf x qual (Jam st) (Jal st) (Jad st) .none kV doc pm an cdv ct) ⟨us,[]⟩=pure (ps.zip us)):Binds K fd ps []:=by
 obtain ⟨c,d,kV,doc,pm,an,cdv,ct,b,rfl,lk,a⟩:=F.ex;exact .all (h kV doc pm an cdv ct)
end
variable {X:Cx}
theorem pv (i:Nat) {x:Str} {pos:Pos} (hN:X.N[i]?=some x:=by rfl) (hv:Vis X.env.scope x:=by first | exact Or.inl rfl | exact Or.inr (Or.inl rfl) | exact Or.inr (Or.inr rfl)) (hd:(x == ("__debug__" : Str))=false:=by decide)
  (hcd:(x == ("__classdict__" : Str))=false:=by decide):PE X (.Name x pos) (tVar i):=Jkr hN hv hd hcd
def Same (H H':Hp):Prop:=∀ b o,H b=some o->H' b=some o
theorem Same.refl (H:Hp):Same H H:=fun _ _ h=>h
variable {H:Hp}
theorem Same.trans {H1 H2:Hp} (a:Same H H1) (b:Same H1 H2):Same H H2:=fun c o h=>b c o (a c o h)
theorem Same.seq {K:W.Frag} {H':Hp} {xs:List V} (e:Same H H') (h:SqL K H a xs):SqL K H' a xs:=by
 rcases h with (h | ⟨o,h⟩) | h
 ·exact .inl (.inl (e _ _ h))
 ·exact .inl (.inr ⟨o,e _ _ h⟩)
 ·exact .inr h
end L2
set_option maxHeartbeats 4000000
namespace L2
open PySem PySem.Spec PyProof.Rows
section
variable {κ:Type} [DecidableEq κ]
def valV (kvs:List (κ × V)) (k : κ):Option V:=(kvs.find? fun kv=>decide (kv.1=k)).map (·.2)
def putK (kvs:List (κ × V)) (k : κ) (v:V):List (κ × V) :=
 if (kvs.any fun kv=>decide (kv.1=k))=true then kvs.map (fun kv=>if kv.1=k then (kv.1,v) else kv) else kvs++[(k,v)]
def dropK (kvs:List (κ × V)) (k : κ):List (κ × V):=kvs.filter fun kv=>decide (kv.1≠k)
theorem JcS {p : κ × V} {r:List (κ × V)} {k : κ} (e:p.1=k):valV (p::r) k=some p.2:=by simp [valV,List.find?_cons,e]
theorem JcR {p : κ × V} {r:List (κ × V)} {k : κ} (e:¬ p.1=k):valV (p::r) k=valV r k:=by simp [valV,List.find?_cons,e]
theorem Jgo (k : κ):∀ kvs:List (κ × V),(kvs.any fun kv=>decide (kv.1=k))=(valV kvs k).isSome
 | []=>rfl
 | p::r=>by
  rw [any_cons];by_cases e:p.1=k
  ·simp only [JcS e,decide_eq_true e,Bool.true_or,Option.isSome_some]
  ·rw [JcR e,decide_eq_false e,Bool.false_or];exact Jgo k r
theorem Jdu (kvs:List (κ × V)) (k : κ) (v:V):(putK kvs k v).length<=kvs.length+1:=by
 unfold putK;split
 ·rw [length_map];ac_nf
 ·rw [length_append,length_cons,length_nil];ac_nf
variable {o:Option V}
theorem RelO.isSome_eq {u:Option Value} (r:RelO o u):o.isSome=u.isSome:=by
 cases o with
 | none=>cases u with
  | none=>rfl
  | some _=>exact (show False from r).elim
 | some _=>cases u with
  | none=>exact (show False from r).elim
  | some _=>rfl
theorem KV.val {kvs:List (κ × V)} {vs:List (κ × Value)} (r:KV kvs vs) (k : κ):RelO (valV kvs k) (valueAt vs k):=by
 unfold KV at r;induction r with
 | nil=>exact True.intro
 | @cons p q ps qs h t ih=>
  obtain ⟨c,d⟩:=h;by_cases e:p.1=k
  ·have a:q.1=k:=c.symm.trans e;have b:valueAt (q::qs) k=some q.2:=by simp [valueAt,List.find?_cons,a]
   rw [JcS e,b];exact d
  ·have a:¬ q.1=k:=fun z=>e (c.trans z);have b:valueAt (q::qs) k=valueAt qs k:=by simp [valueAt,List.find?_cons,a]
   rw [JcR e,b];exact ih
theorem KV.any {kvs:List (κ × V)} {vs:List (κ × Value)} (r:KV kvs vs) (k : κ):(kvs.any fun kv=>decide (kv.1=k))=vs.any fun kv=>decide (kv.1=k):=by
 unfold KV at r;induction r with
 | nil=>rfl
 | cons h t ih=>rw [any_cons,any_cons,ih,h.1]
theorem KV.repl {kvs:List (κ × V)} {vs:List (κ × Value)} (r:KV kvs vs) (k : κ) {y:V} {u:Value} (ry:RelV y u) :
  KV (kvs.map fun kv=>if kv.1=k then (kv.1,y) else kv) (vs.map fun kv=>if kv.1=k then (kv.1,u) else kv):=by
 unfold KV at r ⊢;induction r with
 | nil=>exact .nil
 | @cons p q ps qs h t ih=>
  rw [map_cons,map_cons];refine .cons ?_ ih;obtain ⟨a,b⟩:=h;by_cases e:p.1=k
  ·rw [if_pos e,if_pos (a.symm.trans e)];exact ⟨a,ry⟩
  ·rw [if_neg e,if_neg (fun z=>e (a.trans z))];exact ⟨a,b⟩
theorem KV.put {kvs:List (κ × V)} {vs:List (κ × Value)} (r:KV kvs vs) (k : κ) {y:V} {u:Value} (ry:RelV y u):KV (putK kvs k y) (stored vs k u):=by
 unfold putK stored;rw [r.any k];by_cases e:(vs.any fun a=>decide (a.1=k))=true
 ·rw [if_pos e,if_pos e];exact r.repl k ry
 ·rw [if_neg e,if_neg e];exact Paired.snoc r ⟨rfl,ry⟩
theorem KV.drop {kvs:List (κ × V)} {vs:List (κ × Value)} (r:KV kvs vs) (k : κ):KV (dropK kvs k) (without vs k):=by
 unfold KV at r ⊢;unfold dropK without;induction r with
 | nil=>exact .nil
 | @cons p q ps qs h t ih=>
  obtain ⟨c,f⟩:=h;rw [List.filter_cons,List.filter_cons];by_cases e:p.1=k
  ·have a:¬ decide (p.1≠k)=true:=by simp [e]
   have b:¬ decide (q.1≠k)=true:=by simp [c.symm.trans e]
   rw [if_neg a,if_neg b];exact ih
  ·have d:¬ q.1=k:=fun z=>e (c.trans z);have a:decide (p.1≠k)=true:=by simp [e]
   have b:decide (q.1≠k)=true:=by simp [d]
   rw [if_pos a,if_pos b];exact .cons ⟨c,f⟩ ih
theorem KV.length {kvs:List (κ × V)} {vs:List (κ × Value)} (r:KV kvs vs):kvs.length=vs.length:=Paired.length r
theorem JhS (kvs:List (κ × V)) (k : κ):(dropK kvs k).length<=kvs.length:=List.length_filter_le _ _
end
variable {P:Program} {w:World}
theorem kV_is {k:Key} {u:Value} (r:RelV (kV k) u):(JaT P w).is k u=true:=by
 cases k with
 | inl i=>have e:=(show u=Value.bool i from r);subst e;exact JeZ P w i
 | inr x=>obtain ⟨t,e⟩:=(show ∃ t,u=Value.str x t from r);subst e;exact JfB P w x t
theorem JeV:∀ {ks:List Key} {us:List Value},Vals (ks.map kV) us->ItemsAre (JaT P w) ks us
 | [],_,r=>by rw [map_nil] at r;cases r;exact .nil
 | k::ks,_,r=>by
  rw [map_cons] at r;cases r with
  | cons h t=>exact .cons (kV_is h) (JeV t)
abbrev KT (H:Hp):List (List Key × V)->List (List Key × Addr × Value)->Prop:=Paired fun p q=>p.1=q.1/\H q.2.1=some (.tup (p.1.map kV))/\RelV p.2 q.2.2
variable {H:Hp} {kvs:List (List Key × V)} {xs:List (List Key × Addr × Value)}
theorem KT.val (r:KT H kvs xs) (k:List Key):RelO (valV kvs k) ((atKey xs k).map (·.2)):=by
 induction r with
 | nil=>exact True.intro
 | @cons p q ps qs h t ih=>
  obtain ⟨c,_,d⟩:=h;by_cases e:p.1=k
  ·have a:q.1=k:=c.symm.trans e;have b:atKey (q::qs) k=some q.2:=by simp [atKey,List.find?_cons,a]
   rw [JcS e,b];exact d
  ·have a:¬ q.1=k:=fun z=>e (c.trans z);have b:atKey (q::qs) k=atKey qs k:=by simp [atKey,List.find?_cons,a]
   rw [JcR e,b];exact ih
theorem KT.repl (r:KT H kvs xs) (k:List Key) {y:V} {u:Value} (ry:RelV y u) :
  KT H (kvs.map fun kv=>if kv.1=k then (kv.1,y) else kv) (xs.map (putAt k u)):=by
 induction r with
 | nil=>exact .nil
 | @cons p q ps qs h t ih=>
  rw [map_cons,map_cons];refine .cons ?_ ih;obtain ⟨a,b,c⟩:=h;unfold putAt;by_cases e:p.1=k
  ·rw [if_pos e,if_pos (a.symm.trans e)];exact ⟨a,b,ry⟩
  ·rw [if_neg e,if_neg (fun z=>e (a.trans z))];exact ⟨a,b,c⟩
theorem KT.put (r:KT H kvs xs) (k:List Key) {b:Addr} {y:V} {u:Value} (hb:H b=some (.tup (k.map kV))) (ry:RelV y u) :
  KT H (putK kvs k y) (storedH xs k b u):=by
 have e:(kvs.any fun a=>decide (a.1=k))=(atKey xs k).isSome:=by
  rw [Jgo,(r.val k).isSome_eq,Option.isSome_map]
 unfold putK storedH;rw [e];by_cases q:(atKey xs k).isSome=true
 ·rw [if_pos q,if_pos q];exact r.repl k ry
 ·rw [if_neg q,if_neg q];exact Paired.snoc r ⟨rfl,hb,ry⟩
variable {H':Hp}
theorem KT.keeps (r:KT H kvs xs) (ht:∀ b ys,H b=some (.tup ys)->H' b=some (.tup ys)):KT H' kvs xs :=
 Paired.mapP r fun _ _ z=>⟨z.1,ht _ _ z.2.1,z.2.2⟩
variable {h:Heap} {a:Addr}
theorem y7ey {u:HO} (ok:HOk P w H h) (e:Rd H a u):ObjOk P w H h a u:=e.ok ok
variable {kvs:List (Key × V)}
theorem dk_rd (ok:HOk P w H h) (e:Rd H a (.dK kvs)):kvs.length<=sizeLine/\(a == sysModules)=false/\∃ vs,KV kvs vs/\h.DictOf (JaT P w) a vs :=
 show ObjOk P w H h a (.dK kvs) from y7ey ok e
theorem dk_of (ok:HOk P w H h) (e:H a=some (.dK kvs)):kvs.length<=sizeLine/\(a == sysModules)=false/\∃ vs,KV kvs vs/\h.DictOf (JaT P w) a vs:=dk_rd ok (.inl e)
theorem JeW {ks:List Key} (ok:HOk P w H h) (e:H a=some (.tup (ks.map kV))):(tupleKind (JaT P w)).is h ks a:=by
 obtain ⟨_,b,r,o,f,d,n,c⟩:=(show ObjOk P w H h a (.tup (ks.map kV)) from ok a _ e);exact ⟨o,b.toArray,n,f,d,c,by simpa using JeV r⟩
variable {kvs:List (List Key × V)}
theorem dt_rd (ok:HOk P w H h) (e:Rd H a (.dT kvs)):kvs.length<=sizeLine/\(a == sysModules)=false /\
  ∃ xs,KT H kvs xs/\h.DictOfH (tupleKind (JaT P w)) a xs:=by
 obtain ⟨z,y,xs,r,o,k,j,g,f,d,i,c⟩:=(show ObjOk P w H h a (.dT kvs) from y7ey ok e);refine ⟨z,y,xs,r,o,k,j,g,f,d,i,fun x b=>?_,c⟩;have all:∀ {l:List (List Key × V)} {m:List (List Key × Addr × Value)},KT H l m->∀ x∈m,(tupleKind (JaT P w)).is h x.1 x.2.1:=by
  intro l m q;induction q with
  | nil=>intro x b;exact nomatch b
  | @cons p q ps qs hq t ih=>
   intro x b;rcases mem_cons.mp b with e | b
   ·subst e;exact JeW ok (by rw [<- hq.1];exact hq.2.1)
   ·exact ih x b
 exact all r x b
theorem dt_of (ok:HOk P w H h) (e:H a=some (.dT kvs)):kvs.length<=sizeLine/\(a == sysModules)=false /\
  ∃ xs,KT H kvs xs/\h.DictOfH (tupleKind (JaT P w)) a xs:=dt_rd ok (.inl e)
def DGet (H:Hp) (a:Addr) (y:V) (r:Option V):Prop :=
 (∃ kvs k,Rd H a (.dK kvs)/\y=kV k/\r=valV kvs k)\/∃ kvs k b,Rd H a (.dT kvs)/\y=.ref b/\H b=some (.tup (k.map kV))/\r=valV kvs k
def DPut (H:Hp) (a:Addr) (y v:V) (H':Hp):Prop :=
 (∃ kvs k,H a=some (.dK kvs)/\y=kV k/\kvs.length<sizeLine/\H'=upd H a (.dK (putK kvs k v))) \/
 ∃ kvs k b,H a=some (.dT kvs)/\y=.ref b/\H b=some (.tup (k.map kV))/\kvs.length<sizeLine/\H'=upd H a (.dT (putK kvs k v))
variable {kvs:List (Key × V)}
theorem DGet.k {k:Key} (e:H a=some (.dK kvs)):DGet H a (kV k) (valV kvs k):=.inl ⟨kvs,k, .inl e,rfl,rfl⟩
variable {v:V}
theorem DPut.k {k:Key} (e:H a=some (.dK kvs)) (hl:kvs.length<sizeLine):DPut H a (kV k) v (upd H a (.dK (putK kvs k v))):=.inl ⟨kvs,k,e,rfl,hl,rfl⟩
variable {X:Cx} {pins:List (Addr × Obj)} {σ:St} {s:Shared} {y:V} {u r:Value} {o:Option V} {A:Around} {E:Value->Shared->Prop}
theorem Inv.big (I:Inv X pins σ H s):sysModules<s.heap.objs.size:=by
 have h:mainGlobals<s.heap.objs.size:=(I.mod.glob.keeps I.bk).lt;exact Nat.lt_trans ⋯ h
variable {Q:Value->Shared->Prop}
theorem JgW (hu:A.units+1<cLine) (I:Inv X pins σ H s) (g:DGet H a y (some v)) (ry:RelV y u) (h:∀ w' s',Inv X pins σ H s'->RelV v w'->Q w' s') :
  wpAny (model X.prog X.w) A (getItem (.ref a) u) Q E s:=by
 rcases g with ⟨kvs,k,e,ey,l⟩ | ⟨kvs,k,b,e,ey,eb,l⟩
 ·subst ey;obtain ⟨z,q,n,d,f⟩:=dk_rd I.hok e;obtain ⟨w',i,c⟩:=RelO.some_of (v:=v) (o:=valueAt n k) (by rw [l];exact d.val k);exact wpAny_getItem_of (kV_is ry) f.mapOf i (h w' _ (I.tok _) c)
 ·subst ey;cases (show u=Value.ref b from ry);obtain ⟨z,q,m,d,f⟩:=dt_rd I.hok e;obtain ⟨w',i,c⟩:=RelO.some_of (v:=v) (o:=(atKey m k).map (·.2)) (by rw [l];exact d.val k);obtain ⟨p,r,j⟩:=Option.map_eq_some_iff.mp i;refine wpAny_getItem_heap (tupleKind_room_in1 hu) (JeW I.hok eb) f r ?_;rw [j];exact h w' _ (I.tok _) c
theorem d_in (hu:A.units+1<cLine) (I:Inv X pins σ H s) (g:DGet H a y o) (ry:RelV y u) (h:∀ s',Inv X pins σ H s'->Q (.bool o.isSome) s') :
  wpAny (model X.prog X.w) A (compareOp .In u (.ref a)) Q E s:=by
 rcases g with ⟨kvs,k,e,ey,l⟩ | ⟨kvs,k,b,e,ey,eb,l⟩
 ·subst ey;obtain ⟨z,f,j,c,d⟩:=dk_rd I.hok e;refine wpAny_in_of (kV_is ry) f d.mapOf ?_;rw [<- (c.val k).isSome_eq, <- l];exact h _ (I.tok _)
 ·subst ey;cases (show u=Value.ref b from ry);obtain ⟨z,f,i,c,d⟩:=dt_rd I.hok e;refine wpAny_in_heap (tupleKind_room_in1 hu) (JeW I.hok eb) f d ?_;have q:=(c.val k).isSome_eq;rw [Option.isSome_map] at q;rw [<- q, <- l];exact h _ (I.tok _)
theorem Jjc (hu:A.units+1<cLine) (I:Inv X pins σ H s) (g:DGet H a y o) (ry:RelV y u) (h:∀ s',Inv X pins σ H s'->Q (.bool (!o.isSome)) s') :
  wpAny (model X.prog X.w) A (compareOp .NotIn u (.ref a)) Q E s:=by
 rcases g with ⟨kvs,k,e,ey,l⟩ | ⟨kvs,k,b,e,ey,eb,l⟩
 ·subst ey;obtain ⟨z,f,j,c,d⟩:=dk_rd I.hok e;refine wpAny_notIn_of (kV_is ry) f d.mapOf ?_;rw [<- (c.val k).isSome_eq, <- l];exact h _ (I.tok _)
 ·subst ey;cases (show u=Value.ref b from ry);obtain ⟨z,f,i,c,d⟩:=dt_rd I.hok e;refine wpAny_notIn_heap (tupleKind_room_in1 hu) (JeW I.hok eb) f d ?_;have q:=(c.val k).isSome_eq;rw [Option.isSome_map] at q;rw [<- q, <- l];exact h _ (I.tok _)
variable {h':Heap} {t':Nat}
theorem Jfu {ob:HO} (I:Inv X pins σ H s) (mu:Mut (H a)) (hs:Heap.SameBut a s.heap h') (he:∃ q,h'.get? a=some q) (new:ObjOk X.prog X.w (upd H a ob) h' a ob) :
  Inv X pins σ (upd H a ob) { s with heap:=h',toks:=t' } :=
 I.write (x:=a) (e:=a) mu (.inl rfl) (fun b q c z=>(hs.2 b c).trans z) he new
theorem JiC {vs:List (Key × Value)} (z:kvs.length<=sizeLine) (hd:(a == sysModules)=false) (rel:KV kvs vs) (dd:h'.DictOf (JaT P w) a vs) :
  ObjOk P w H' h' a (.dK kvs):=⟨z,hd,vs,rel,dd⟩
theorem JgX {Q:Unit->Shared->Prop} (hu:A.units+1<cLine) (I:Inv X pins σ H s) (g:DPut H a y v H') (ry:RelV y u) (rv:RelV v r) (h:∀ s',Inv X pins σ H' s'->Q () s') :
  wpAny (model X.prog X.w) A (setItem (.ref a) u r) Q E s:=by
 rcases g with ⟨kvs,k,e,ey,l,eH⟩ | ⟨kvs,k,b,e,ey,eb,l,eH⟩
 ·subst ey eH;obtain ⟨z,o,L,d,m⟩:=dk_of I.hok e;have n:L.length<=sizeLine:=by rw [<- d.length];exact z
  have p:(putK kvs k v).length<=sizeLine:=by have:=Jdu kvs k v;ac_nf
  refine wpAny_setItem_pairs (hsz:=n) (kV_is ry) m fun t f j=>h _ ?_;have F:∃ q,t.get? a=some q:=let ⟨q,_,_,i,_⟩:=f;⟨q,i⟩;exact Jfu I (by rw [e];exact True.intro) j F (JiC p o (d.put k rv) f)
 ·subst ey eH;cases (show u=Value.ref b from ry);obtain ⟨z,o,B,d,m⟩:=dt_of I.hok e;have n:B.length<=sizeLine:=by rw [<- Paired.length d];exact z
  have p:(putK kvs k v).length<=sizeLine:=by have:=Jdu kvs k v;ac_nf
  refine wpAny_setItem_heap (hsz:=n) (tupleKind_room_in1 hu) (JeW I.hok eb) m fun t f j=>h _ ?_;obtain ⟨q,M,J,i,D,C,G,_,K⟩:=f;refine Jfu I (by rw [e];exact True.intro) j ⟨q,i⟩ ⟨p,o,_,(d.put k eb rv).keeps fun c N x=>?_,q,M,J,i,D,C,G,K⟩;rw [Jag (ne_of x e (fun z=>nomatch z))];exact x
section
variable {k:Key}
theorem d_pop {more:List Value} (I:Inv X pins σ H s) (e:H a=some (.dK kvs)) (ry:RelV (kV k) u) (l:valV kvs k=some v) (hm:more=[]\/∃ x,more=[x])
  (h:∀ w' s',Inv X pins σ (upd H a (.dK (dropK kvs k))) s'->RelV v w'->Q w' s'):wpAny (model X.prog X.w) A (call (.builtin "dict.pop") (.ref a::u::more)) Q E s:=by
 obtain ⟨z,y,g,b,f⟩:=dk_of I.hok e;obtain ⟨w',p,d⟩:=RelO.some_of (v:=v) (o:=valueAt g k) (by rw [<- l];exact b.val k);have B:(keyPart u).isSome=true:=by
  cases k with
  | inl i=>have q:=(show u=Value.bool i from ry);subst q;cases i <;> rfl
  | inr x=>obtain ⟨t,q⟩:=(show ∃ t,u=Value.str x t from ry);subst q;rfl
 have j:argsOk "dict.pop" ⟨.ref a::u::more,[]⟩:=by
  rcases hm with q | ⟨x,q⟩
  ·subst q;exact PySem.F.args_dict_pop_2 _ _
  ·subst q;exact PySem.F.args_dict_pop_3 _ _ _
 refine call_meetsIn PySem.F.slot_dict_pop f.typeIs PySem.F.entry_dict_pop j (meets_dict_pop_there (JaT X.prog X.w) a (kV_is ry) more hm B)
  ⟨g,w',f,by rw [<- b.length];exact z,p,fun n c m=>h w' _ ?_ d⟩
 have r:∃ q,n.get? a=some q:=let ⟨q,_,_,hq,_⟩:=c;⟨q,hq⟩;exact Jfu I (by rw [e];exact True.intro) m r (JiC (Nat.le_trans (JhS kvs k) z) y (b.drop k) c)
end
def NoSl (i:Expr):Prop:=∀ ov iv,subscripted i false ov iv=operate [ov,iv] (getItem ov iv)
variable {env:Env} {value:Expr} {pos:Pos}
theorem JjO {prog:Program} {slice:Expr} {T id:String}
  (hl:typeLookup (.type T) "__getitem__"=pure (some (.builtin id))) (hs:NoSl slice)
  (h:wpAny (model prog w) A (eval value env) (fun o s₁=>wpAny (model prog w) A (eval slice env) (fun i s₂=>s₂.TypeIs o T/\wpAny (model prog w) A (getItem o i) Q E s₂) E s₁) E s) :
  wpAny (model prog w) A (eval (.Subscript value slice pos) env) Q E s:=by
 refine Subscript_ (wpAny_mono h (fun o s₁ h₁=>wpAny_mono h₁ (fun i s₂ h₂=>?_) fun _ _ x=>x) fun _ _ x=>x);obtain ⟨b,h₂⟩:=h₂;unfold subscriptTail;refine wpAny_bind ?_;rw [getitemInPython_of_ne b.not_modules];refine wpAny_bind (wpAny_specialOf b hl ?_);have a:wpAny (model prog w) A (subscripted slice false o i) (fun r s₃=>wpAny (model prog w) A (letTemporaryGo value o r >>= fun _=>pure r) Q E s₃) E s₂:=by
  rw [hs o i];exact wpAny_operating (wpAny_mono h₂ (fun r s₃ h₃=>wpAny_bind (wpAny_letTemporaryGo (wpAny_pure h₃))) fun _ _ x=>x)
 first
  | exact wpAny_pure (wpAny_bind a)
  | exact wpAny_bind (wpAny_pure (wpAny_bind a))
  | exact wpAny_bind a
theorem Jfw (I:Inv X pins σ H s) (g:DGet H a y o):s.TypeIs (.ref a) "dict":=by
 rcases g with ⟨kvs,k,e,_,_⟩ | ⟨kvs,k,b,e,_,_,_⟩
 ·obtain ⟨_,_,d,_,c⟩:=dk_rd I.hok e;exact c.typeIs
 ·obtain ⟨_,_,f,_,c⟩:=dt_rd I.hok e;exact c.typeIs
def tDGet (td ty:TE):TE:=fun σ H Q=>td σ H fun x H1=>ty σ H1 fun y H2=>∃ a v,x=.ref a/\DGet H2 a y (some v)/\Q v H2
def tDIn (ty td:TE):TE:=fun σ H Q=>ty σ H fun y H1=>td σ H1 fun x H2=>∃ a o,x=.ref a/\DGet H2 a y o/\Q (.bl o.isSome) H2
def JhH (ty td:TE):TE:=fun σ H Q=>ty σ H fun y H1=>td σ H1 fun x H2=>∃ a o,x=.ref a/\DGet H2 a y o/\Q (.bl (!o.isSome)) H2
def sDPut (td ty tv:TE):TS:=fun D σ H=>tv σ H fun v H1=>td σ H1 fun x H2=>ty σ H2 fun y H3=>∃ a H4,x=.ref a/\DPut H3 a y v H4/\D.nx σ H4
variable {o i e:Expr} {pos' tpos:Pos} {td ty tv:TE}
theorem JaM (hu:X.A.units+1<cLine) (ho:PE X o td) (hi:PE X i ty) (hs:NoSl i):PE X (.Subscript o i pos) (tDGet td ty):=by
 intro b s σ H Q I h;refine JjO PySem.F.slot_dict_getitem.lookup hs (thn (ho b s σ H _ I h) fun u m ζ=>?_);obtain ⟨x,k,I1,f,n⟩:=ζ;refine thn (hi b m σ k _ I1 n) fun t r ζ=>?_;obtain ⟨y,l,I2,j,a,v,e,g,d⟩:=ζ;subst e;obtain rfl:u=Value.ref a:=f;exact ⟨Jfw I2 g,JgW hu I2 g j fun p q I3 c=>⟨v,l,I3,c,d⟩⟩
theorem Jd9 (hu:X.A.units+1<cLine) (hi:PE X i ty) (ho:PE X o td):PC X .In i o (tDIn ty td):=by
 intro b s σ H Q I h;refine thn (hi b s σ H _ I h) fun r m ζ=>?_;obtain ⟨y,k,I1,f,n⟩:=ζ;refine thn (ho b m σ k _ I1 n) fun u q ζ=>?_;obtain ⟨x,l,I2,e,a,j,d,g,c⟩:=ζ;subst d;obtain rfl:u=Value.ref a:=e;exact d_in hu I2 g f fun p I3=>⟨.bl j.isSome,l,I3,rfl,c⟩
theorem JbB (hu:X.A.units+1<cLine) (hi:PE X i ty) (ho:PE X o td):PC X .NotIn i o (JhH ty td):=by
 intro b s σ H Q I h;refine thn (hi b s σ H _ I h) fun r m ζ=>?_;obtain ⟨y,k,I1,f,n⟩:=ζ;refine thn (ho b m σ k _ I1 n) fun u q ζ=>?_;obtain ⟨x,l,I2,e,a,j,d,g,c⟩:=ζ;subst d;obtain rfl:u=Value.ref a:=e;exact Jjc hu I2 g f fun p I3=>⟨.bl (!j.isSome),l,I3,rfl,c⟩
theorem Jbu (hu:X.A.units+1<cLine) (ho:PE X o td) (hi:PE X i ty) (hv:PE X value tv) (hs:swapsWith value (some (.Subscript o i pos')) pos.line X.env=pure false) :
  PS X (.Assign [.Subscript o i pos'] value pos) (sDPut td ty tv):=by
 intro b s σ H D I h;refine wpAny_Assign_Subscript (thn (hv b s σ H _ I h) fun r n ζ=>?_) hs;obtain ⟨v,l,I1,e,q⟩:=ζ;refine thn (ho b n σ l _ I1 q) fun u t ζ=>?_;obtain ⟨x,m,I2,f,c⟩:=ζ;refine thn (hi b t σ m _ I2 c) fun C z ζ=>?_;obtain ⟨y,w,I3,k,a,j,d,g,p⟩:=ζ;subst d;obtain rfl:u=Value.ref a:=f;exact JgX hu I3 g k e fun B I4=>⟨σ,j,I4,p⟩
theorem JhR (h:Heap) (hb:sysModules<h.objs.size):ObjOk P w H (h.push { cls:=.type "dict",data:=.dict #[] }) h.objs.size (.dK []) :=
 ⟨Nat.zero_le _,beq_eq_false_iff_ne.mpr (Ne.symm (Nat.ne_of_lt hb)),[], .nil,Heap.DictOf.new h⟩
def JiV:TE:=fun _ H Q=>∀ p,H p=none->Q (.ref p) (upd H p (.dK []))
theorem JbI:PE X (.Dict [] [] pos) JiV:=fun b s σ H Q I h=>
 wpAny_Dict_empty ⟨.ref s.heap.objs.size,_,I.laid (a:=s.heap.objs.size) (o:=.dK []) (t':=s.toks) (fun _ _ q=>Heap.get?_push_of_some _ q) (Nat.le_refl _) (JhR s.heap I.big),rfl,h _ (I.hok.fresh (Nat.le_refl _))⟩
def Jgm:List (TE × TE)->St->Hp->(List (V × V)->Hp->Prop)->Prop
 | [],_,H,Q=>Q [] H
 | (tk,tv)::r,σ,H,Q=>tk σ H fun x H1=>tv σ H1 fun y H2=>Jgm r σ H2 fun ps H3=>Q ((x,y)::ps) H3
def JiN (kvs more:List (Key × V)):List (Key × V):=more.foldl (fun acc kv=>putK acc kv.1 kv.2) kvs
def tDisp (trs:List (TE × TE)):TE:=fun σ H Q=>∀ p,H p=none->Jgm trs σ (upd H p (.dK [])) fun ps H2=>H2 p=some (.dK [])/\∃ kvs:List (Key × V),ps=kvs.map (fun kv=>(kV kv.1,kv.2))/\kvs.length<=15/\Q (.ref p) (upd H2 p (.dK (JiN [] kvs)))
structure M1 (X:Cx) (o:Expr) (m:Str) (apos:Pos) (e:Expr) (cpos:Pos):Prop where
 base:attributeBase o m X.env (eval o X.env)=eval o X.env
 few:((backTo cpos (starEach [e] X.env)).all (fun x=>!x.1)&&(backToKw cpos (keywordEach [] X.env)).all (fun x=>x.1.isSome)
  && decide (([e]:List Expr).length+([]:List Keyword).length+(if ([]:List Keyword).isEmpty then 0 else 1)<30))=true
 line:(apos.endLine == cpos.line)=true
 trees:backTo cpos (starEach [e] X.env)=[(false,eval e X.env)]
def IsD (H:Hp) (a:Addr):Prop:=(∃ kvs,Rd H a (.dK kvs))\/∃ kvs,Rd H a (.dT kvs)
theorem JiJ (I:Inv X pins σ H s) (d:IsD H a) :
  s.TypeIs (.ref a) "dict"/\(∀ b,Value.ref a=.ref b->∃ ob,s.heap.get? b=some ob/\ob.dict=none)/\(a == sysModules)=false:=by
 rcases d with ⟨kvs,e⟩ | ⟨kvs,e⟩
 ·obtain ⟨_,h,j,_,c⟩:=dk_rd I.hok e;refine ⟨c.typeIs,fun b q=>?_,h⟩;cases q;obtain ⟨ob,_,_,g,f,_⟩:=c;exact ⟨ob,g,f.2.1⟩
 ·obtain ⟨_,h,i,_,c⟩:=dt_rd I.hok e;refine ⟨c.typeIs,fun b q=>?_,h⟩;cases q;obtain ⟨ob,_,_,g,f,_⟩:=c;exact ⟨ob,g,f.2.1⟩
variable {d:V} {o:Option V}
def JiW (td ty:TE):TE:=fun σ H Q=>td σ H fun x H1=>∃ a,x=.ref a/\IsD H1 a/\ty σ H1 fun y H2=>∃ kvs k v,H2 a=some (.dK kvs)/\y=kV k/\valV kvs k=some v/\Q v (upd H2 a (.dK (dropK kvs k)))
section
variable {o:Expr} {apos cpos:Pos} {tx:TE} {f:Expr}
theorem Jh7 (ho:PE X o td) (he:PE X e ty) (m:M1 X o "pop" apos e cpos):PE X (.Call (.Attribute o "pop" apos) [e] [] cpos) (JiW td ty):=by
 intro b s σ H Q I h;refine wpAny_Call_method m.base m.few m.line PySem.F.plainAttrs_dict PySem.F.slot_dict_pop PySem.F.type_dict_pop (thn (ho b s σ H _ I h) fun u t ζ=>?_);obtain ⟨x,q,I1,i,a,g,d,w⟩:=ζ;subst g;obtain rfl:u=Value.ref a:=i;obtain ⟨z,p,_⟩:=JiJ I1 d;refine ⟨z,p,?_⟩;rw [m.trees];refine Calls.callWith_builtin rfl (Calls.evalArgs_plain (Calls.spliced_cons (thn (he b t σ q _ I1 w) fun G E ζ=>?_)));obtain ⟨y,C,I2,n,j,k,v,r,A,l,f⟩:=ζ;refine Calls.spliced_nil ?_;subst A;exact d_pop I2 r n l (.inl rfl) fun B D I3 c=>⟨v,_,I3,c,f⟩
end
section
variable {κ:Type} [DecidableEq κ]
end
def DictAt (h:Heap) (e:Addr) (od:Option Addr):Prop:=∃ o,h.get? e=some o/\o.dict=od
theorem Jg1 (o:Obj) (f):(o.mapFields f).dict=o.dict:=by
 obtain ⟨c,d,a,b⟩:=o;cases a <;> rfl
section
variable {M:Model} {outer l:List Env} {L e:Addr} {oe:Obj} {vs:Array Value} {head a0 fl:Value} {od:Option Addr} {Q:Unit->Shared->Prop} {base:Heap} {cls:Value}
theorem JiD {hadNext:Bool} (hfr:A.frames=some (env::outer)) (hl:s.heap.FunFrames base (env::outer)) (hf:env.frame=some L)
  (he:s.heap.get? e=some oe) (hkb:base.StaysIn s.heap) (hen:base.get? e=none) (hd:oe.data=.fields vs) (hsz:1<vs.size) (h0:vs[0]?=some a0)
  (h:∀ h',Heap.NotedW base (env::outer) e oe.cls a0 (rawInt L) s.heap h'->DictAt h' e oe.dict->Q () { s with heap:=h' }) :
  wpAny M A (do let a <- frameOf env;let pl <- entryPlaceOf L hadNext;let b <- EntryCells.newEntry head a .none (rawInt L) .none pl;setField (.ref e) 1 b) Q E s:=by
 have C:e∉(env::outer).filterMap (·.frame):=fun t=>by
  obtain ⟨_,o,w,f⟩:=hl.mem t;rw [he] at w;cases w;exact f vs hd
 refine wpAny_bind (wpAny_frameOf_fun hfr hl hf fun h₁ p=>wpAny_bind (wpAny_entryPlaceOf fun pl j=>?_));unfold EntryCells.newEntry newFields;refine wpAny_bind (wpAny_newObj_type ?_ (j.sizeOk5 _ _ _ _ _));have l:h₁.get? e=some oe:=(p.2.1 e C).trans he;have k:base.StaysIn h₁:=fun b o c=>(p.2.1 b fun t=>by rw [(hl.mem t).1] at c;cases c).trans (hkb b o c);generalize y:({ cls:=.type "traceback",dict:=none,data:=.fields ([head, .ref L, .none,rawInt L, .none]++(if pl.isEmpty then List.replicate 6 Value.none else pl)).toArray }:Obj)=r;have i:=Heap.get?_push_of_some (h:=h₁) r l;refine wpAny_setField i hd hsz ?_;have x:h₁.objs.size≠e:=Nat.ne_of_gt (Heap.lt_size l);have m:=Obj.data_mapFields hd (·.setIfInBounds 1 (Value.ref h₁.objs.size));have g:=Heap.get?_update_self (Obj.mapFields (·.setIfInBounds 1 (Value.ref h₁.objs.size))) i (Obj.isFreed_of_fields m);have u:=(Heap.get?_update_other (h₁.push r) (Obj.mapFields (·.setIfInBounds 1 (Value.ref h₁.objs.size))) (Ne.symm x)).trans (Heap.get?_push_size h₁ (by rw [<- y];rfl));have d:∀ b o,b≠e->h₁.get? b=some o->((h₁.push r).update e (Obj.mapFields (·.setIfInBounds 1 (Value.ref h₁.objs.size)))).get? b=some o:=fun b o n c=>by
  rw [Heap.get?_update_other _ _ (Ne.symm n)];exact Heap.get?_push_of_some _ c
 have B:∀ b o,s.heap.get? b=some o->(∀ vs,o.data≠.fields vs)->b≠e:=fun b o c f q=>by
  rw [q,he] at c;cases c;exact f vs hd
 refine h _ ⟨fun b o c=>d b o (fun q=>by rw [q,hen] at c;cases c) (k b o c),hl.of_keeps fun b o c f=>?_,?_,fun b o c f=>?_⟩ ⟨_,g,Jg1 _ _⟩
 ·obtain ⟨v,z⟩:=p.2.2 b o c;exact ⟨_,d b _ (B b o c f) z,rfl⟩
 ·refine ⟨_,_,h₁.objs.size,r,_,g,⟨Obj.cls_mapFields _ _,by rw [Array.getElem?_setIfInBounds_ne ⋯];exact h0⟩,m,by simp [hsz],k.fresh,x,u,by rw [<- y],?_⟩;first | (simp;done) | (rcases j with rfl | ⟨_,_,_,_,_,_,_,rfl⟩ <;> simp)
 ·obtain ⟨v,z⟩:=p.2.2 b o c;exact ⟨v,d b _ (B b o c f) z⟩
theorem noteD (hfr:A.frames=some (env::outer)) (hf:env.frame=some L) (hfl:Heap.FlyingW base (env::outer) e cls a0 s.heap) (hdc:DictAt s.heap e od)
  (h:∀ h',Heap.HeldW base (env::outer) e cls a0 L h'->s.heap.UpToSlots h'->DictAt h' e od->Q () { s with heap:=h' }):wpAny M A (noteFrame (.ref e) env) Q E s:=by
 obtain ⟨p,i,H,K,w,T,J,D,m,⟨g,F⟩,v,u,k,l,r,d,t⟩:=hfl;subst g;obtain ⟨y,j,n⟩:=hdc;rw [m] at j;cases j;unfold noteFrame;simp only [hf];refine wpAny_bind (wpAny_field m v u ?_);rw [if_pos (show (Value.ref T != Value.none)=true from by simp)];refine wpAny_bind (wpAny_field r d t ?_);rw [if_neg (show ¬ ((Value.none == rawInt L)=true) from by simp [rawInt])];refine wpAny_bind (wpAny_setField r d (Array.getElem?_eq_some_iff.mp t).1 ?_);have a:∀ b,b≠T->(s.heap.update T (Obj.mapFields (·.setIfInBounds 3 Value.none))).get? b=s.heap.get? b:=fun b c=>Heap.get?_update_other _ _ (Ne.symm c);have x:∀ b o,s.heap.get? b=some o->(∀ w,o.data≠.fields w)->b≠T:=fun b o c f q=>by
  rw [q,r] at c;cases c;exact f D d
 refine JiD hfr (H.of_keeps fun b o c f=>⟨o,(a b (x b o c f)).trans c,rfl⟩) hf ((a e (Ne.symm l)).trans m)
  (fun b o c=>(a b fun q=>by rw [q,k] at c;cases c).trans (p b o c)) i v (Array.getElem?_eq_some_iff.mp u).1 F fun h' ⟨C,G,I,B⟩ z=>?_
 exact h h' ⟨C,i,G,I⟩ (fun b o c f=>B b o ((a b (x b o c f)).trans c) f) (n ▸ z)
theorem Jej (hkb:base.StaysIn s.heap) (hl:s.heap.FunFrames base l) (ht:s.heap.TracedAtW base e cls a0 fl) (hdc:DictAt s.heap e od)
  (h:∀ h',base.StaysIn h'->h'.FunFrames base l->h'.TracedW base e cls a0->s.heap.UpToSlots h'->DictAt h' e od->Q () { s with heap:=h' }):wpAny M A (setFlight (.ref e) none) Q E s:=by
 obtain ⟨z,p,T,B,y,t,j,u,n,i,g,r,d,w⟩:=ht;have k:=(Array.getElem?_eq_some_iff.mp w).1;have a:∀ b,b≠T->(s.heap.update T (Obj.mapFields (·.setIfInBounds 3 ((none:Option Addr).elim Value.none fun f=>rawInt f)))).get? b=s.heap.get? b:=fun b c=>Heap.get?_update_other _ _ (Ne.symm c);have v:∀ b o,s.heap.get? b=some o->(∀ p,o.data≠.fields p)->b≠T:=fun b o c m q=>by
  rw [q,r] at c;cases c;exact m y d
 unfold setFlight;refine wpAny_bind (wpAny_field t u n ?_);rw [if_pos (show (Value.ref T != Value.none)=true from by simp)];refine wpAny_setField r d k (h _ (fun b o c=>(a b fun q=>by rw [q,i] at c;cases c).trans (hkb b o c)) (hl.of_keeps fun b o c m=>⟨o,(a b (v b o c m)).trans c,rfl⟩) ?_ (fun b o c m=>⟨o.slots,(a b (v b o c m)).trans c⟩) ?_)
 ·exact ⟨z,p,T,_,_,(a e (Ne.symm g)).trans t,j,u,n,i,g,Heap.get?_update_self _ r (Obj.isFreed_of_fields (Obj.data_mapFields d _)),Obj.data_mapFields d _,by simp [k]⟩
 ·obtain ⟨o,n,x⟩:=hdc;exact ⟨o,(a e (Ne.symm g)).trans n,x⟩
theorem Jjm (hfr:A.frames=some (env::outer)) (hf:env.frame=some L) (hfl:Heap.FlyingW base (env::outer) e cls a0 s.heap) (hdc:DictAt s.heap e od)
  (hQ:∀ h',Heap.FlyingW base outer e cls a0 h'->s.heap.UpToSlots h'->DictAt h' e od->Q () { s with heap:=h' }):wpAny M A (leaving env (.ref e)) Q E s:=by
 unfold leaving;refine wpAny_bind (noteD hfr hf hfl hdc fun j o f d=>?_);obtain ⟨m,i,a,h⟩:=o;refine Jej (s:={ s with heap:=j }) m a h d fun g k ⟨_,_,b⟩ n l c=>hQ g ⟨k,i,b,n⟩ (f.trans l) c
theorem JiL (hh:Heap.HeldW base l e cls a0 L s.heap) (hdc:DictAt s.heap e od) (hQ:∀ h',Heap.FlyingW base l e cls a0 h'->s.heap.UpToSlots h'->DictAt h' e od->Q () { s with heap:=h' }):wpAny M A (setFlight (.ref e) none) Q E s:=by
 obtain ⟨j,g,a,f⟩:=hh;exact Jej j a f hdc fun d h b k i c=>hQ d ⟨h,g,b,k⟩ i c
theorem Jiv (hh:Heap.FlyingW base l e cls a0 s.heap) (hdc:DictAt s.heap e od) (hQ:∀ h',Heap.FlyingW base l e cls a0 h'->s.heap.UpToSlots h'->DictAt h' e od->Q () { s with heap:=h' }):wpAny M A (setFlight (.ref e) none) Q E s:=by
 obtain ⟨j,g,a,f⟩:=hh;exact Jej j a f.at hdc fun d h b k i c=>hQ d ⟨h,g,b,k⟩ i c
theorem JiH (hfr:A.frames=some (env::outer)) (hl:s.heap.FunFrames base (env::outer)) (hf:env.frame=some L) (he:s.heap.get? e=some oe) (hkb:base.StaysIn s.heap) (hen:base.get? e=none) (hd:oe.data=.fields vs) (h1:vs[1]?=some .none) (h0:vs[0]?=some a0)
  (hQ:∀ h',Heap.FlyingW base outer e oe.cls a0 h'->s.heap.UpToSlots h'->DictAt h' e oe.dict->Q () { s with heap:=h' }):wpAny M A (leaving env (.ref e)) Q E s:=by
 unfold leaving noteFrame;simp only [hf];refine wpAny_bind (wpAny_bind (wpAny_field he hd h1 ?_));rw [if_neg ⋯];refine JiD hfr hl hf he hkb hen hd (Array.getElem?_eq_some_iff.mp h1).1 h0 fun g ⟨j,f,m,k⟩ a=>?_;refine Jej (s:={ s with heap:=g }) j f m a fun d h ⟨_,_,b⟩ l i c=>hQ d ⟨h,hen,b,l⟩ (Heap.UpToSlots.trans k i) c
end
theorem ObjOk.is_there {o:HO} (x:ObjOk P w H h a o):∃ ob,h.get? a=some ob:=by
 cases o with
 | lst xs=>obtain ⟨_,_,_,_,e⟩:=x;exact ⟨_,e⟩
 | tup xs=>obtain ⟨_,_,_,p⟩:=x;obtain ⟨o,e,_⟩:=p;exact ⟨_,e⟩
 | dK kvs=>obtain ⟨_,_,_,_,o,_,_,e,_⟩:=x;exact ⟨_,e⟩
 | dT kvs=>obtain ⟨_,_,_,_,o,_,_,e,_⟩:=x;exact ⟨_,e⟩
 | set S n=>
  obtain ⟨o,_,_,_,e,_⟩:=x;exact ⟨_,e⟩
 | ins C dx fs=>obtain ⟨_,_,_,e,_⟩:=x;exact ⟨_,e⟩
 | own y=>exact x
 | xd fs=>obtain ⟨b,n,_⟩:=x;obtain ⟨c,e,_⟩:=Jdv n;exact ⟨_,e⟩
 | rng lo hi=>obtain ⟨_,_,_,e⟩:=x;exact ⟨_,e⟩
 | frz ob u=>exact ⟨_,x.1⟩
 | tbl ps=>exact ⟨_,x⟩
 | met f y=>exact ⟨_,x⟩
 | ext φ=>exact x.2.1
theorem HOk.isnone (x:HOk P w H h) (e:h.get? a=none):H a=none:=by
 cases q:H a with
 | none=>rfl
 | some u=>
  obtain ⟨b,z⟩:=(x a u q).is_there;rw [e] at z;cases z
structure Fly (l:List Env) (H':Hp) (h0:Heap) (ea:Addr) (od:Option Addr) (cls a0:Value) (B h:Heap):Prop where
 fly:Heap.FlyingW B l ea cls a0 h
 free:H' ea=none
 new:h0.get? ea=none
 dct:DictAt h ea od
 kept:∀ b o,h.get? b=some o->((∃ o',h0.get? b=some o')\/∃ u,H' b=some u)->b∉frs l->B.get? b=some o
def CX1 (P:Program) (w:World):CXT:=fun outer H s E e s'=>
 ∃ (ea:Addr) (od:Option Addr) (cls a0:Value) (B:Heap) (H':Hp),e=.ref ea/\s'.os=s.os/\AllBare s'.gens/\Un (frs outer) [] H H' s.heap s'.heap/\HOk P w H' s'.heap /\
  Fly outer H' s.heap ea od cls a0 B s'.heap/\E cls od H'
section
variable {l l':List Env} {h0 B:Heap} {ea:Addr} {od:Option Addr} {a0:Value} {cls:Value}
theorem Fly.next (u:Un (frs l) [] H H' h0 h) (hok:HOk P w H' h) (F:Fly l H' h0 ea od cls a0 B h) (fr:∀ b∈frs l,H' b=none) (k:B.StaysIn h') (sl:h.UpToSlots h') :
  HOk P w H' h'/\Un (frs l) [] H H' h0 h'/\∀ b o,h.get? b=some o->((∃ o',h0.get? b=some o')\/∃ u,H' b=some u)->b∉frs l->h'.get? b=some o:=by
 have c:∀ b o,h.get? b=some o->((∃ o',h0.get? b=some o')\/∃ u,H' b=some u)->b∉frs l->h'.get? b=some o:=fun b o q r n=>k b o (F.kept b o q r n);have d:∀ b o,b∈frs l->h.get? b=some o->∃ i,h'.get? b=some { o with slots:=i }:=fun b o m q=>by
  obtain ⟨_,o',t,x⟩:=F.fly.2.2.1.mem m;rw [q] at t;cases t;exact sl b o q x
 refine ⟨fun a o e=>?_,⟨fun b o q n s _=>?_,fun b o q n m _=>?_,u.free,fun b o q y=>?_,u.tups,u.frzs,u.tbls⟩,c⟩
 ·have p:∀ b u,H' b=some u->b∉frs l:=fun b u q m=>by
   rw [fr b m] at q;cases q
  refine (hok a o e).stay (fun b v f q=>?_) (fun _ r=>r) (fun _ _ r=>r);rcases f with rfl | f
  ·exact c _ _ q (.inr ⟨_,e⟩) (p _ _ e)
  ·exact c _ _ q (.inr ⟨_,f⟩) (p _ _ f)
 ·exact c b o (u.keep b o q n s (by simp)) (.inl ⟨o,q⟩) s
 ·obtain ⟨z,g⟩:=u.slot b o q n m (by simp);obtain ⟨i,j⟩:=d b _ m g;exact ⟨i,j⟩
 ·obtain ⟨o',g⟩:=u.there b o q (by simp);by_cases m:b∈frs l
  ·obtain ⟨i,j⟩:=d b _ m g;exact ⟨_,j⟩
  ·exact ⟨o',c b o' g (.inl ⟨o,q⟩) m⟩
end
section
variable {B:Heap} {ea:Addr} {od:Option Addr} {a0:Value} {cls:Value}
theorem Inv.out (I:Inv X pins σ H s) (hex:X.ex=[]) (u:Un (frs X.stack) [] H H' s.heap h'):Un X.fs [] X.H₀ H' X.s₀.heap h':=by
 have J:=I.base;rw [hex] at J;have k:∀ b o,X.s₀.heap.get? b=some o->b≠X.env.locals:=fun b o q z=>by
  have g:=Heap.lt_size q;have h:=I.ok.above;rw [z] at g;exact absurd (Nat.lt_of_lt_of_le g h) (Nat.lt_irrefl _)
 have p:∀ b o,X.s₀.heap.get? b=some o->b∉X.fs->b∉frs X.stack:=fun b o q c m=>by
  rcases mem_cons.mp (I.stkSub b m) with z | z
  ·exact k b o q z
  ·exact c z
 refine ⟨fun b o q n c _=>?_,fun b o q n m _=>?_,fun b o q n _=>?_,fun b o q _=>?_,fun b f q=>u.tups b f (J.tups b f q),fun b o v q=>u.frzs b o v (J.frzs b o v q),fun b j q=>?_⟩
 ·exact u.keep b o (J.keep b o q n c (by simp)) (J.free b o q n (by simp)) (p b o q c) (by simp)
 ·obtain ⟨t,a⟩:=J.slot b o q n m (by simp);obtain ⟨r,d⟩:=u.any a (J.free b o q n (by simp)) (by simp);exact ⟨r,d⟩
 ·obtain ⟨e,a⟩:=J.there b o q (by simp);exact u.free b e a (J.free b o q n (by simp)) (by simp)
 ·obtain ⟨e,a⟩:=J.there b o q (by simp);exact u.there b e a (by simp)
 ·obtain ⟨l,a⟩:=J.tbls b j q;obtain ⟨i,d⟩:=u.tbls b _ a;exact ⟨l++i,by rw [d,Array.append_assoc]⟩
theorem Inv.stkFree' (I:Inv X pins σ H s) (u:Un (frs X.stack) [] H H' s.heap h):∀ b∈frs X.stack,H' b=none:=fun b m=>by
 obtain ⟨_,o,q,_⟩:=I.stack.mem m;exact u.free b o q (I.stkFree b m) (by simp)
end
section
variable {mg:Str->Option Value} {N:List Str} {qual:Str} {scope:Scope} {cdv:Value} {outer:List Env} {s0:Shared} {H0:Hp} {E:XK} {K:W.Frag} {base:Heap} {f:Addr}
theorem pass1:JbG (CX1 P w) (cxOf (CX1 P w) P w K mg base N qual scope f cdv A outer s0 H0 E) E:=by
 intro G σ H s e J I R;obtain ⟨i,W,cls,a0,B,D,rfl,t,Y,u,k,F,M⟩:=R;have x:=I.stkFree' u;show wpAny (model P w) (A.deeper (envOfC qual scope s0.heap.objs.size f cdv)) (leaving (envOfC qual scope s0.heap.objs.size f cdv) (.ref i)) (fun _ h=>CX1 P w outer H0 s0 E (.ref i) h) (fun T h=>CX1 P w outer H0 s0 E T h) J;refine Jjm (base:=B) (cls:=cls) (a0:=a0) I.ok.frames rfl F.fly F.dct fun Q g n p=>?_;obtain ⟨j,S,Z⟩:=F.next u k x g.1 n;have l:s0.heap.get? i=none:=by
  cases q:s0.heap.get? i with
  | none=>rfl
  | some o=>
   obtain ⟨a,U⟩:=I.base.there i o q (by intro z;cases z);have:=F.new;rw [U] at this;cases this
 refine ⟨i,W,cls,a0,B,D,rfl,t.trans I.os,Y,I.out rfl S,j,⟨g,F.free,l,p,fun b o q r V=>?_⟩,M⟩;have O:b≠s0.heap.objs.size:=fun z=>by
  rcases r with ⟨a,c⟩ | ⟨v,c⟩
  ·have:=Heap.lt_size c;rw [z] at this;exact absurd this (Nat.lt_irrefl _)
  ·have L:=x s0.heap.objs.size (by
    show s0.heap.objs.size∈frs (envOfC qual scope s0.heap.objs.size f cdv::outer);exact List.mem_filterMap.mpr ⟨_,mem_cons_self ..,rfl⟩)
   rw [z,L] at c;cases c
 have X:b∉frs (envOfC qual scope s0.heap.objs.size f cdv::outer):=fun m=>by
  rcases mem_cons.mp (I.stkSub b m) with z | z
  ·exact O z
  ·exact V z
 have C:(∃ a,s.heap.get? b=some a)\/∃ v,D b=some v:=by
  rcases r with ⟨a,c⟩ | r
  ·exact .inl (I.base.there b a c (by intro z;cases z))
  ·exact .inr r
 have d:∃ a,J.heap.get? b=some a:=by
  rcases C with ⟨a,c⟩ | ⟨v,c⟩
  ·exact u.there b a c (by simp)
  ·exact (k b v c).is_there
 obtain ⟨a,c⟩:=d;have z:=F.kept b a c C X;have y:=g.1 b a z;rw [show Q.get? b=some o from q] at y;cases y;exact z
end
theorem passF:JbG (CX1 P w) X E0:=fun _ _ _ _ _ _ _ h=>by
 obtain ⟨_,_,_,_,_,_,_,_,_,_,_,_,z⟩:=h;exact False.elim z
def unt (H:Hp) (a:Addr):Hp:=fun b=>if b=a then none else H b
theorem Jgn:unt H a a=none:=if_pos rfl
theorem Jcy {b:Addr} (h:b≠a):unt H a b=H b:=if_neg h
variable {C:Addr} {bmB:List Value} {newId:String}
theorem Jg3 {K:W.Frag} (X:K.In h) (q:W.excIn K C bmB newId=true) :
  ∃ (bm:List Value) (N:Addr) (nm qn:Str) (bs:List Value) (hdct:Bool) (sn:List Str) (sub:List Value) (ab:Bool) (col:Option Bool) (dd:Option Addr) (k0 k1 k2 k3 k5:Option Value) (mN:Str->Option Value),
   h.get? C=some (excClassObj nm qn C N bs bm hdct sn sub ab col dd k0 k1 k2 k3 k5 newId)/\h.Ns N mN/\mN "__init__"=none/\OwnTail h bmB bm:=by
 unfold W.excIn at q;split at q
 next dd cd sl ho=>
  split at q
  next C' bm k0 k1 k2 k3 n k5 hm hs=>
   have l:((((C'=C/\n=newId)/\cd.hasDel=false)/\W.tailIn K bmB bm=true)/\W.nsOkIn K cd.ns=true)/\W.nsIn K cd.ns "__init__"=some none:=by simpa using q
   obtain ⟨⟨⟨⟨⟨i,f⟩,j⟩,k⟩,e⟩,p⟩:=l;obtain ⟨nm,bs,a,o,qn,g,sn,sub,ab,col,c⟩:=cd;have m:sl=#[k0,k1,k2,k3,some (.builtin n),k5]:=by
    cases sl;exact congrArg Array.mk hs
   subst i;subst f;subst m;have b:a=.ref C'::bm:=hm;subst b;have d:c=false:=j;subst d;exact ⟨bm,o,nm,qn,bs,g,sn,sub,ab,col,dd,k0,k1,k2,k3,k5,_,X _ _ ho, .of_isNs (W.isNs_of_in X e),W.nsMap_none_of_in X e p,W.tail_of_in X k⟩
  next=>cases q
 next=>cases q
section
variable {mg:Str->Option Value} {N:List Str} {qual:Str} {scope:Scope} {cdv:Value} {outer:List Env} {s0:Shared} {H0:Hp} {E:XK} {K:W.Frag} {base:Heap} {f:Addr} {e:Addr} {us:List Value}
theorem Jkf {cls:Value}
  (I:Inv (cxOf (CX1 P w) P w K mg base N qual scope f cdv A outer s0 H0 E) pins σ H s) (hm:Heap.MadeExcOf s.heap h' e cls us) (q:E cls none H) :
  (cxOf (CX1 P w) P w K mg base N qual scope f cdv A outer s0 H0 E).xe (.ref e) { s with heap:=h' }:=by
 show wpAny (model P w) (A.deeper (envOfC qual scope s0.heap.objs.size f cdv)) (leaving (envOfC qual scope s0.heap.objs.size f cdv) (.ref e)) (fun _ j=>CX1 P w outer H0 s0 E (.ref e) j) (fun V j=>CX1 P w outer H0 s0 E V j) { s with heap:=h' };have T:=I.stkFree;have M:∀ k∈(envOfC qual scope s0.heap.objs.size f cdv::outer), ∀ b,k.frame=some b->b∈frs (envOfC qual scope s0.heap.objs.size f cdv::outer):=fun k D b h=>List.mem_filterMap.mpr ⟨k,D,h⟩;obtain ⟨t,D,_,_⟩:=hm.there;refine JiH (s:={ s with heap:=h' }) (base:=W.hideAll s.heap (frs (envOfC qual scope s0.heap.objs.size f cdv::outer))) I.ok.frames ((W.funFrames_hide I.stack M).of_keeps fun b o h hn=>⟨o,hm.keeps b o h,rfl⟩) rfl D (fun b o z=>hm.keeps b o (W.of_hideAll _ z)) ?_ rfl rfl rfl fun C l B L=>?_
 ·cases z:(W.hideAll s.heap (frs (envOfC qual scope s0.heap.objs.size f cdv::outer))).get? e with
  | none=>rfl
  | some o=>
   have Q:=W.of_hideAll _ z;rw [hm.new] at Q;cases Q
 have i:H e=none:=I.hok.isnone hm.new;have c:∀ b o,s.heap.get? b=some o->b∉frs (envOfC qual scope s0.heap.objs.size f cdv::outer)->C.get? b=some o:=fun b o z n=>l.1 b o (W.hideAll_get _ z n);have u:Un (frs (envOfC qual scope s0.heap.objs.size f cdv::outer)) [] H H s.heap C:=by
  refine ⟨fun b o z _ n _=>c b o z n,fun b o z _ m _=>?_,fun _ _ _ n _=>n,fun b o z _=>?_,fun _ _ z=>z,fun _ _ _ z=>z,fun _ Z z=>⟨#[],by rw [z];simp⟩⟩
  ·obtain ⟨_,g,d,G⟩:=I.stack.mem m;rw [z] at d;cases d;exact B b o (hm.keeps b o z) G
  ·by_cases m:b∈frs (envOfC qual scope s0.heap.objs.size f cdv::outer)
   ·obtain ⟨_,g,d,G⟩:=I.stack.mem m;rw [z] at d;cases d;obtain ⟨s2,S⟩:=B b o (hm.keeps b o z) G;exact ⟨_,S⟩
   ·exact ⟨o,c b o z m⟩
 have F:∀ b v,H b=some v->b∉frs (envOfC qual scope s0.heap.objs.size f cdv::outer):=fun b v z m=>by
  rw [T b m] at z;cases z
 have J:HOk P w H C:=fun a o z=>by
  refine (I.hok a o z).stay (fun b v h p=>?_) (fun _ r=>r) (fun _ _ r=>r);rcases h with rfl | h
  ·exact c _ _ p (F _ _ z)
  ·exact c _ _ p (F _ _ h)
 have x:s0.heap.get? e=none:=by
  cases z:s0.heap.get? e with
  | none=>rfl
  | some o=>
   obtain ⟨g,U⟩:=I.base.there e o z (by intro z;cases z);have:=hm.new;rw [U] at this;cases this
 refine ⟨e,none,cls, .ref t,_,H,rfl,I.os,I.bare,I.out rfl u,J,⟨l,i,x,L,fun b o z r X=>?_⟩,q⟩;have Y:∃ g,s.heap.get? b=some g:=by
  rcases r with ⟨g,d⟩ | ⟨v,d⟩
  ·exact I.base.there b g d (by intro z;cases z)
  ·exact (I.hok b v d).is_there
 have R:b∉frs (envOfC qual scope s0.heap.objs.size f cdv::outer):=fun m=>by
  rcases mem_cons.mp (I.stkSub b m) with y | y
  ·rcases r with ⟨g,d⟩ | ⟨v,d⟩
   ·have O:=Heap.lt_size d;rw [y] at O;exact absurd O (Nat.lt_irrefl _)
   ·exact F b v d m
  ·exact X y
 obtain ⟨g,d⟩:=Y;have p:=c b g d R;rw [show C.get? b=some o from z] at p;cases p;exact W.hideAll_get _ d R
variable {oe:Obj} {a0:Value}
theorem Jkg {vs:Array Value} {φ:Heap->Prop}
  (I:Inv (cxOf (CX1 P w) P w K mg base N qual scope f cdv A outer s0 H0 E) pins σ H s) (ht:H e=some (.ext φ)) (he:s.heap.get? e=some oe) (hd:oe.data=.fields vs) (h1:vs[1]?=some .none) (h0:vs[0]?=some a0) (new0:s0.heap.get? e=none) (q:E oe.cls oe.dict (unt H e)) :
  (cxOf (CX1 P w) P w K mg base N qual scope f cdv A outer s0 H0 E).xe (.ref e) s:=by
 show wpAny (model P w) (A.deeper (envOfC qual scope s0.heap.objs.size f cdv)) (leaving (envOfC qual scope s0.heap.objs.size f cdv) (.ref e)) (fun _ k=>CX1 P w outer H0 s0 E (.ref e) k) (fun T k=>CX1 P w outer H0 s0 E T k) s;have Q:=I.stkFree;have L:∀ l∈(envOfC qual scope s0.heap.objs.size f cdv::outer), ∀ b,l.frame=some b->b∈e::frs (envOfC qual scope s0.heap.objs.size f cdv::outer):=fun l he b i=>.tail _ (List.mem_filterMap.mpr ⟨l,he,i⟩);refine JiH (base:=W.hideAll s.heap (e::frs (envOfC qual scope s0.heap.objs.size f cdv::outer))) I.ok.frames (W.funFrames_hide I.stack L) rfl he (fun b o z=>W.of_hideAll _ z) (W.hideAll_none _ (.head _)) hd h1 h0 fun t B J C=>?_;have c:∀ b o,s.heap.get? b=some o->b≠e->b∉frs (envOfC qual scope s0.heap.objs.size f cdv::outer)->t.get? b=some o:=fun b o z p n=>B.1 b o (W.hideAll_get _ z fun m=>(mem_cons.mp m).elim p n);have x:∀ b,H b=none->b≠e:=fun b z y=>by rw [y,ht] at z;cases z
 have g:∀ b o,s.heap.get? b=some o->b∈frs (envOfC qual scope s0.heap.objs.size f cdv::outer)->∃ sl,t.get? b=some { o with slots:=sl }:=fun b o z m=>by
  obtain ⟨_,h,d,S⟩:=I.stack.mem m;rw [z] at d;cases d;exact J b o z S
 have u:Un (frs (envOfC qual scope s0.heap.objs.size f cdv::outer)) [] H (unt H e) s.heap t:=by
  refine ⟨fun b o z n m _=>c b o z (x b n) m,fun b o z _ m _=>g b o z m,fun b _ _ n _=>by rw [Jcy (x b n)];exact n,fun b o z _=>?_,fun b X z=>?_,fun b o v z=>?_,fun b Y z=>⟨#[],?_⟩⟩
  ·by_cases y:b=e
   ·obtain ⟨R,j,_⟩:=C;exact ⟨R,y ▸ j⟩
   ·by_cases m:b∈frs (envOfC qual scope s0.heap.objs.size f cdv::outer)
    ·obtain ⟨Z,O⟩:=g b o z m;exact ⟨_,O⟩
    ·exact ⟨o,c b o z y m⟩
  ·rw [Jcy (fun y=>by rw [y,ht] at z;cases z)];exact z
  ·rw [Jcy (fun y=>by rw [y,ht] at z;cases z)];exact z
  ·rw [Jcy (fun y=>by rw [y,ht] at z;cases z),z];simp
 have F:∀ b v,H b=some v->b∉frs (envOfC qual scope s0.heap.objs.size f cdv::outer):=fun b v z m=>by
  rw [Q b m] at z;cases z
 have D:∀ b v,unt H e b=some v->b≠e/\H b=some v:=fun b v z=>by
  by_cases y:b=e
  ·rw [y,Jgn] at z;cases z
  ·exact ⟨y,(Jcy y).symm.trans z⟩
 have G:HOk P w (unt H e) t:=fun a o z=>by
  obtain ⟨p,z⟩:=D a o z;refine (I.hok a o z).stay (fun b v i j=>?_) (fun b r=>by rw [Jcy (fun y=>by rw [y,ht] at r;cases r)];exact r) (fun b _ r=>by rw [Jcy (fun y=>by rw [y,ht] at r;cases r)];exact r);rcases i with rfl | i
  ·exact c _ _ j p (F _ _ z)
  ·exact c _ _ j (fun y=>by rw [y,ht] at i;cases i) (F _ _ i)
 refine ⟨e,oe.dict,oe.cls,a0,_,unt H e,rfl,I.os,I.bare,I.out rfl u,G,⟨B,Jgn,new0,C,fun b o z r U=>?_⟩,q⟩;have p:b≠e:=fun y=>by
  rcases r with ⟨h,d⟩ | ⟨v,d⟩
  ·rw [y,new0] at d;cases d
  ·exact (D _ _ d).1 y
 have V:∃ h,s.heap.get? b=some h:=by
  rcases r with ⟨h,d⟩ | ⟨v,d⟩
  ·exact I.base.there b h d (by intro z;cases z)
  ·exact (I.hok b v (D _ _ d).2).is_there
 have M:b∉frs (envOfC qual scope s0.heap.objs.size f cdv::outer):=fun m=>by
  rcases mem_cons.mp (I.stkSub b m) with y | y
  ·rcases r with ⟨h,d⟩ | ⟨v,d⟩
   ·have h1:=Heap.lt_size d;rw [y] at h1;exact absurd h1 (Nat.lt_irrefl _)
   ·exact F b v (D _ _ d).2 m
  ·exact U y
 obtain ⟨h,d⟩:=V;have j:=c b h d p M;rw [show t.get? b=some o from z] at j;cases j;exact W.hideAll_get _ d fun m=>(mem_cons.mp m).elim p M
def JiX (E:XK) (C:Addr) (ta:TA):TS:=fun _ σ H=>ta σ H fun vs H1=>vs.length<=sizeLine/\E (.ref C) none H1
variable {x:Str} {np:Pos} {e:Expr} {es:List Expr}
theorem Jev {cpos:Pos} {B initId:String} {ta:TA} (FB:ExcBaseFacts B newId initId bmB) (hx:W.excIn K C bmB newId=true)
  (hg:Gl (cxOf (CX1 P w) P w K mg base N qual scope f cdv A outer s0 H0 E) x) (hm:mg x=some (.ref C)) (ha:PA (cxOf (CX1 P w) P w K mg base N qual scope f cdv A outer s0 H0 E) (e::es) ta)
  (he:starEach (e::es) (envOfC qual scope s0.heap.objs.size f cdv)=(false,eval e (envOfC qual scope s0.heap.objs.size f cdv))::starEach es (envOfC qual scope s0.heap.objs.size f cdv):=by rfl)
  (hpl:(backTo cpos (starEach es (envOfC qual scope s0.heap.objs.size f cdv))).any (·.1)=false:=by rfl) (hdb:(x == ("__debug__" : Str))=false:=by decide) :
  PS (cxOf (CX1 P w) P w K mg base N qual scope f cdv A outer s0 H0 E) (.Raise (some (.Call (.Name x np) (e::es) [] cpos)) none pos) (JiX E C ta):=by
 intro a s σ H D I h;obtain ⟨bm,d,nm,l,bs,hdct,sn,sub,ab,col,dd,k0,k1,k2,k3,k5,mN,k,m,b,T⟩:=Jg3 I.mod.kin hx;have g:(A.deeper (envOfC qual scope s0.heap.objs.size f cdv)).handled=none:=I.ok.hd rfl;refine wpAny_Raise_call_subT (C:=C) (nm:=nm) (q:=l) (N:=d) (bs:=bs) (bm:=bm) (hdct:=hdct) (sn:=sn) (sub:=sub) (ab:=ab) (col:=col) (dd:=dd) (k0:=k0) (k1:=k1) (k2:=k2) (k3:=k3) (k5:=k5)
  FB (mN:=mN) (T.hasType FB.hasBase) g ?_ b (JbN I hg hm ⟨rfl,?_⟩ hdb)
 ·show (backTo cpos (starEach (e::es) (envOfC qual scope s0.heap.objs.size f cdv))).any (·.1)=false;rw [he];show (false||(backTo cpos (starEach es (envOfC qual scope s0.heap.objs.size f cdv))).any (·.1))=false;rw [hpl];rfl
 ·have z:=ha cpos a s σ H _ I h;show wpAny _ _ (evalArgs (.ref C) true (backTo cpos (starEach (e::es) (envOfC qual scope s0.heap.objs.size f cdv))) []) _ _ _;have j:=he;rw [he];refine Calls.evalArgs_plain ?_;have c:wpAny (model P w) (A.deeper (envOfC qual scope s0.heap.objs.size f cdv)) (spliced (backTo cpos (starEach (e::es) (envOfC qual scope s0.heap.objs.size f cdv)))) _ _ s:=z;rw [he] at c;refine thn c fun p u ζ=>?_;obtain ⟨t,o,I1,r,i,q⟩:=ζ;exact ⟨rfl,by rw [<- r.length];exact i,I1.bk _ _ k,m.keeps I1.bk,T.keeps I1.bk,fun n e hm=>Jkf I1 hm q⟩
end
def PEx (X:Cx) (e:Expr) (t:St->Hp->VK->XK->Prop):Prop :=
 ∀ (pins:List (Addr × Obj)) (s:Shared) (σ : St) (H:Hp) (Q:VK) (E:XK),Inv X pins σ H s->t σ H Q E ->
  wpAny (model X.prog X.w) X.A (eval e X.env) (EP X pins σ Q) (fun ev s'=>∃ H1 s1,Inv X pins σ H1 s1/\CX1 X.prog X.w X.stack H1 s1 E ev s') s
def xCall (sp:Sp) (dvs:List V) (t:TA):St->Hp->VK->XK->Prop:=fun σ H Q E=>t σ H fun vs H1=>sp (vs++dvs) H1 Q E
section
variable {fd:FuncData} {ps:List Str} {sp:Sp} {dvs:List V} {ds:List Value} {E:XK} {x:Str} {p apos:Pos} {o:Expr} {es:List Expr} {ta:TE} {k:Nat} {f:Addr} {m:Str} {t:TA}
theorem JhA {Q:VK} {us:List Value} {vs:List V} (F:FnOk X.prog X.w X.K X.mg X.base (CX1 X.prog X.w) k f fd ps sp) (hr:Room k X.A) (hb:Binds X.K fd ps ds) (hd:Vals dvs ds)
  (I:Inv X pins σ H s) (r:Vals vs us) (h:sp (vs++dvs) H Q E):wpAny (model X.prog X.w) X.A (call (.ref f) us) (EP X pins σ Q) (fun ev s'=>∃ H1 s1,Inv X pins σ H1 s1/\CX1 X.prog X.w X.stack H1 s1 E ev s') s:=by
 have c:Vals (vs++dvs) (us++ds):=r.append hd;have g:(us++ds).length=ps.length:=(c.length.symm).trans (F.len _ _ _ _ h);have d:=F.run X.A X.stack s H ⟨us,[]⟩ (us++ds) (vs++dvs) Q E hr I.env0 (hb s us I.kIn g) c h;refine wpAny_call (codeAny_mono d fun b s' a=>?_);match b,a with
 | .error e,a=>exact ⟨H,s,I,a⟩
 | .ok (.ret u),a=>exact I.after a
 | .ok .next,a=>exact a.elim
 | .ok .brk,a=>exact a.elim
 | .ok .cont,a=>exact a.elim
theorem Jic (F:FnOk X.prog X.w X.K X.mg X.base (CX1 X.prog X.w) k f fd ps sp) (hr:Room k X.A) (hg:Gl X x) (hm:X.mg x=some (.ref f)) (hk:W.keepIn X.K (.ref f)=true) (hb:Binds X.K fd ps ds) (hd:Vals dvs ds)
  (ha:PA X.nox (e::es) t) (hdb:(x == ("__debug__" : Str))=false:=by decide) (he:starEach (e::es) X.env=(false,eval e X.env)::starEach es X.env:=by rfl) (hpl:(backTo pos (starEach es X.env)).any (·.1)=false:=by rfl) :
  PEx X (.Call (.Name x p) (e::es) [] pos) (xCall sp dvs t):=by
 intro a s σ H Q E I h;refine wpAny_Call_Name_kw (JbN I hg hm ?_ hdb);have z:=ha pos a s σ H _ (I.wish _) h;refine W.callWith_K (h₀:=X.base) I.ok.mod.kin hk (wpAny_mono z (fun g b ζ=>?_) fun _ _ y=>y.elim) he hpl;obtain ⟨d,c,I1,r,q⟩:=ζ;refine ⟨I1.unwish.kIn,?_⟩;exact JhA F hr hb hd I1.unwish r q
end
section
variable {s':Shared} {B:Heap} {ea:Addr} {od:Option Addr} {a0:Value} {cls:Value}
theorem Inv.track {o:HO} (I:Inv X pins σ H s) (hn:H a=none) (h1:X.s₀.heap.get? a=none) (h2:a≠X.env.locals) (h3:∀ x c,X.env.cells.lookup x=some c->c≠a) (h4:∀ p∈X.pn++pins,p.1≠a)
  (ok:ObjOk X.prog X.w (upd H a o) s.heap a o):Inv X pins σ (upd H a o) s:=by
 have d:∀ b u,H b=some u->b≠a:=fun b u q=>Jae q hn;refine ⟨I.ok,I.os,I.bare,⟨I.base.keep,I.base.slot,fun b f q n j=>?_,I.base.there,fun b g q=>?_,fun b f u q=>?_,fun b k q=>?_⟩,I.loc,I.cell,?_,fun x c e=>?_,fun p i=>?_,fun b u q=>?_,I.len⟩
 ·have : b≠a:=fun z=>by rw [z,h1] at q;cases q
  rw [Jag this];exact I.base.free b f q n j
 ·have z:=I.base.tups b g q;rw [Jag (d _ _ z)];exact z
 ·have z:=I.base.frzs b f u q;rw [Jag (d _ _ z)];exact z
 ·obtain ⟨l,z⟩:=I.base.tbls b k q;exact ⟨l,by rw [Jag (d _ _ z)];exact z⟩
 ·rw [Jag (Ne.symm h2)];exact I.free
 ·rw [Jag (h3 x c e)];exact I.freeC x c e
 ·obtain ⟨e,n,r⟩:=I.pin p i;exact ⟨e,by rw [Jag (h4 p i)];exact n,r⟩
 ·by_cases h:b=a
  ·subst h;rw [Jaq] at q;cases q;exact ok
  ·rw [Jag h] at q;exact (I.hok b u q).stay (fun _ _ _ z=>z) (fun c z=>by rw [Jag (d _ _ z)];exact z) (fun c g z=>by rw [Jag (d _ _ z)];exact z)
def ExcO (e C:Addr) (od:Option Addr:=none):HO:=.ext fun h=>∃ ox vs,h.get? e=some ox/\ox.cls=.ref C/\ox.data=.fields vs/\ox.dict=od
theorem Inv.landed {sF:Shared} (I:Inv X pins σ H s) (hex:X.ex=[]) (u:Un (frs X.stack) [] H H' s.heap s'.heap) (hok:HOk X.prog X.w H' s'.heap) (F:Fly X.stack H' s.heap ea od (.ref C) a0 B s'.heap) (hos:s'.os=s.os) (hg:AllBare s'.gens)
  (hfl:Heap.FlyingW B X.stack ea (.ref C) a0 h') (hup:s'.heap.UpToSlots h') (hdc:DictAt h' ea od) (hs:sF={ s' with heap:=h' }):Inv X pins σ (upd H' ea (ExcO ea C od)) sF:=by
 subst hs;obtain ⟨d,D,_⟩:=F.next u hok (I.stkFree' u) hfl.1 hup;have I2:Inv X pins σ H' { s' with heap:=h' }:=I.call' (s':={ s' with heap:=h' }) hos D d hg (fun b z=>absurd z (by simp));have a:∀ b o,s.heap.get? b=some o->b≠ea:=fun b o q z=>by
  have:=F.new;rw [<- z,q] at this;cases this
 obtain ⟨m,M,_⟩:=I.loc;obtain ⟨O,_,_,h,_⟩:=M;refine I2.track F.free ?_ (Ne.symm (a _ _ h)) (fun x c e z=>?_) (fun p J z=>?_) ?_
 ·cases q:X.s₀.heap.get? ea with
  | none=>rfl
  | some o=>
   obtain ⟨Q,j⟩:=I.base.there ea o q (by rw [hex];simp);exact absurd rfl (a _ _ j)
 ·obtain ⟨v,l⟩:=I.cell x c e;obtain ⟨R,n,_⟩:=l;exact a _ _ n z
 ·obtain ⟨e,_⟩:=I.pin p J;exact a _ _ e z
 ·obtain ⟨r,L,g,l,G,_⟩:=hfl.first;obtain ⟨t,f,i⟩:=hdc;rw [show h'.get? ea=some r from g] at f;cases f;exact ⟨⟨r,L,g,l,G,i⟩,⟨_,g⟩,fun P N ⟨E,A,j,y,K⟩ k=>⟨E,A,k _ j,y,K⟩⟩
abbrev Cx.inx (X:Cx) (e:Addr):Cx:={ X with A:=X.A.mark (some (.ref e)),calm:=false,xe:=fun _ _=>False }
theorem Cx.Ok.inx (ok:X.Ok) (e:Addr):(X.inx e).Ok :=
 ⟨ok.mod,ok.kind,ok.glob,ok.blt,ok.above,ok.inj,ok.has,ok.cab,fun z=>(by cases z),ok.frames,ok.stk,ok.exf,ok.bs,ok.bsz,ok.noex,ok.exfs,ok.funs,ok.frf⟩
theorem Inv.inx (I:Inv X pins σ H s) (e:Addr):Inv (X.inx e) pins σ H s :=
 ⟨I.ok.inx e,I.os,I.bare,I.base,I.loc,I.cell,I.free,I.freeC,I.pin,I.hok,I.len⟩
variable {e:Addr}
theorem Inv.outx (I:Inv (X.inx e) pins σ H s) (ok:X.Ok):Inv X pins σ H s :=
 ⟨ok,I.os,I.bare,I.base,I.loc,I.cell,I.free,I.freeC,I.pin,I.hok,I.len⟩
variable {i:Nat} {x:Str}
theorem Inv.goes {m m':Str->Option Value} (I:Inv X pins σ H s) (hN:X.N.Nodup) (hi:X.N[i]?=some x) (hs:Heap.SameBut X.env.locals s.heap h')
  (hn:s.heap.Ns X.env.locals m) (hn':h'.Ns X.env.locals m') (hm:∀ y,y≠x->m' y=m y):Inv X pins (σ.set i none) H { s with heap:=h',toks:=t' }:=by
 obtain ⟨F,A,B⟩:=I.loc;have M:F=m:=(Heap.Ns.eq_nsMap A).trans (Heap.Ns.eq_nsMap hn).symm;subst M;have w:∀ b o,X.s₀.heap.get? b=some o->b≠X.env.locals:=fun b o e=>Nat.ne_of_lt (Nat.lt_of_lt_of_le (Heap.lt_size e) I.ok.above);refine ⟨I.ok,I.os,I.bare,⟨fun b o e n t h=>?_,fun b o e n t h=>?_,I.base.free,fun b o e h=>?_,I.base.tups,I.base.frzs,I.base.tbls⟩,⟨m',hn',fun j y v g f L=>?_⟩,fun y c e=>?_,I.free,I.freeC,fun p J=>?_,fun a o e=>?_,by rw [List.length_set];exact I.len⟩
 ·exact (hs.2 b (w b o e)).trans (I.base.keep b o e n t h)
 ·obtain ⟨E,g⟩:=I.base.slot b o e n t h;exact ⟨E,(hs.2 b (w b o e)).trans g⟩
 ·obtain ⟨G,g⟩:=I.base.there b o e h;exact ⟨G,(hs.2 b (w b o e)).trans g⟩
 ·have C:j≠i:=fun z=>by
   subst z;by_cases B:j<σ.length
   ·rw [List.getElem?_set_self B] at f;cases f
   ·rw [List.getElem?_eq_none (by rw [List.length_set];ac_nf)] at f;cases f
  rw [List.getElem?_set_ne (Ne.symm C)] at f;obtain ⟨u,r,q⟩:=B j y v g f L;have O:y≠x:=fun z=>C (Jeo hN g (z ▸ hi));refine ⟨u,r,?_⟩;rcases q with ⟨k,e⟩ | ⟨k,c,e,z⟩
  ·exact .inl ⟨k,(hm y O).trans e⟩
  ·exact .inr ⟨k,c,e,z.sameBut hs (I.cne y c e)⟩
 ·obtain ⟨v,z⟩:=I.cell y c e;exact ⟨v,z.sameBut hs (I.cne y c e)⟩
 ·obtain ⟨e,n,D,K,d⟩:=I.pin p J;exact ⟨(hs.2 p.1 D).trans e,n,D,K,d⟩
 ·refine (I.hok a o e).stay (fun c v l q=>(hs.2 c ?_).trans q) (fun _ q=>q) fun _ _ q=>q;rintro rfl;rcases l with z | l
  ·rw [<- z] at e;rw [I.free] at e;cases e
  ·rw [I.free] at l;cases l
end
structure Jbm (K:W.Frag) (C D:Addr):Prop where
 cl:W.hasDictIn K D=true
 ty:W.typeIn K (.ref D)=some (.type "type")
 ex:W.mroIn K D (.type "BaseException")=some true
 ab:W.mroIn K C (.ref D)=some true
variable {M:Model}
theorem Jdr {K:W.Frag} {D:Addr} (X:K.In h) (c:W.hasDictIn K D=true):W.Looks M h (isType (.ref D)) true:=by
 obtain ⟨b,a,_⟩:=W.any_some c;unfold W.clsIn at a;split at a
 next c' d' cd' sl' ho=>
  intro A' Q' E' d k q;unfold isType loadHead;exact wpAny_bind (wpAny_loadPart (k _ _ (X _ _ ho)) (wpAny_pure q))
 next=>cases a
theorem Jcc {K:W.Frag} {e D:Addr} {oe:Obj} {Q:Bool->Shared->Prop} (X:K.In s.heap) (he:s.heap.get? e=some oe) (hc:oe.cls=.ref C) (c:Jbm K C D) (h:Q true s) :
  wpAny M A (excMatches (.ref e) (.ref D)) Q E s:=by
 obtain ⟨a,g,d,t,b⟩:=s;have L0:W.Looks M a (typeOf (.ref e)) (.ref C):=hc ▸ (W.Looks.ld he).andThen .now;have L1:=W.looks_typeIn (M:=M) X c.ty;have L2:=W.looks_mroIn (M:=M) X c.ex;have L3:=W.looks_mroIn (M:=M) X c.ab;have L4:=Jdr (M:=M) X c.cl;have f:=tc_notTuple;unfold excMatches isInstance isExcClass;repeat (first | lk | wp_step)
 exact h
section
variable {ce:Expr} {epos hpos np:Pos} {x n:Str} {b0:Stmt} {suite:List Stmt} {ts:TS} {D:Addr} {t:St->Hp->VK->XK->Prop}
def tTry (K:W.Frag) (D:Addr) (t:St->Hp->VK->XK->Prop) (ts:TS):TS:=fun Dn σ H=>t σ H (fun _ H1=>Dn.nx σ H1) fun cls od H1=>∃ C,cls=.ref C/\Jbm K C D/\∀ ea,H1 ea=none->ts Dn σ (upd H1 ea (ExcO ea C od))
def JiY (K:W.Frag) (D:Addr) (i:Nat) (t:St->Hp->VK->XK->Prop) (ts:TS):TS:=fun Dn σ H=>t σ H (fun _ H1=>Dn.nx σ H1) fun cls od H1=>∃ C,cls=.ref C/\Jbm K C D /\
 ∀ ea,H1 ea=none->ts { nx:=fun σ' H'=>Dn.nx (σ'.set i none) H',rt:=Dn.rt,bk:=fun σ' H'=>Dn.bk (σ'.set i none) H',ct:=fun σ' H'=>Dn.ct (σ'.set i none) H' } (σ.set i (some (.ref ea))) (upd H1 ea (ExcO ea C od))
theorem Jig {i:Nat} (hN:X.N.Nodup) (hi:X.N[i]?=some n) (hl:X.env.scope.names.lookup n=some .local) (hcall:PEx X ce t) (hg:Gl X x) (hm:X.mg x=some (.ref D)) (hsu:∀ e,PSs (X.inx e) (b0::suite) ts)
  (hex:X.ex=[]:=by rfl) (hst:X.stack=X.env::X.outer:=by rfl) (hfl:X.env.frame=some X.env.locals:=by rfl)
  (hs:swapsWith ce none epos.line X.env=pure false:=by rfl) (hdb:(x == ("__debug__" : Str))=false:=by decide) :
  PS X (.Try [.Expr ce epos] [.ExceptHandler (some (.Name x np)) (some n) (b0::suite) hpos] [] [] pos) (JiY X.K D i t ts):=by
 intro a s σ H Dn I h;refine wpAny_Try_except (wpAny_execs_cons (wpAny_Expr_any (wpAny_mono (hcall a s σ H _ _ I h) (fun v s1 ⟨y,H1,I1,r1,q1⟩=>?_) (fun ev s1 hx=>?_)) I.quiet hs))
 ·exact wpAny_execs_nil (wpAny_execs_nil ⟨σ,H1,I1,q1⟩)
 ·obtain ⟨H1,s0,I1,l,od,a1,a0,B,H',rfl,T,hb,u,P,F,C,rfl,G,hq⟩:=hx;have W:X.A.frames=some (X.env::X.outer):=by rw [<- hst];exact I.ok.frames
  have F':=F.fly;rw [hst] at F';refine noteD W hfl F' F.dct fun h4 p L Z=>?_;refine JiL p Z fun h5 g O E=>?_;have Q:=L.trans O;have d:=g;rw [<- hst] at d;have I5:=I1.landed hex u P F T hb d Q E rfl;obtain ⟨oe,vs,he,hc,_,_⟩:=g.first;refine wpAny_handleBy_cons (codeAny_handlers_test (JbN (X:=X.inx l) (I5.inx l) hg hm ?_ hdb)) (by intro z;cases z);refine Jcc I5.kIn he hc G (codeAny_handlers_suite_as ?_);refine Jiv g E fun h6 M S U=>?_;have c:=M;rw [<- hst] at c;have I6:=I1.landed hex u P F T hb c (Q.trans S) U rfl;refine Jdh (X:=X) (v:=.ref l) I6 hN hi (.inl hl) rfl (fun s7 I7=>?_) (.inr hl);refine wpAny_mono (hsu l a s7 _ _ _ (I7.inx l) (hq l F.free)) (fun f s2 z=>?_) (fun _ _ z=>z.elim);have b:∀ {σ':St} {o:Hp} {R:Flow->Shared->Prop} {E2:Value->Shared->Prop},Inv (X.inx l) a σ' o s2->(∀ j,Inv X a (σ'.set i none) o j->R f j) ->
    wpAny (model X.prog X.w) X.A (do bindName X.env n .none;unbindBehindTheSuite X.env n hpos) (fun _ j=>R f j) E2 s2:=fun {σ' o R E2} J k=>by
   have J':=J.outx I.ok;obtain ⟨m,hn,_⟩:=J'.loc;refine wpAny_nameGoes_keeps hl hn (by rw [I.ok.kind];rfl) fun h' v Y V=>k _ (J'.goes hN hi V hn Y fun y hy=>if_neg hy)
  cases f with
  | next=>obtain ⟨σ',o,J,q⟩:=z;exact b J fun j J3=>⟨_,_,J3,q⟩
  | brk=>obtain ⟨σ',o,J,q⟩:=z;exact b J fun j J3=>⟨_,_,J3,q⟩
  | cont=>obtain ⟨σ',o,J,q⟩:=z;exact b J fun j J3=>⟨_,_,J3,q⟩
  | ret v=>obtain ⟨y,σ',o,J,r,q⟩:=z;exact b J fun j J3=>⟨y,_,_,J3,r,q⟩
end
inductive D where
 | non | bl (b:Bool) | int (i:Int) | str (x:Str) | tup (xs:List D) | lst (xs:List D)
mutual
def Rep (K:W.Frag) (H:Hp):D->V->Prop
 | .non,v=>v=.non
 | .bl b,v=>v=.bl b
 | .int i,v=>v=.int i
 | .str x,v=>v=.str x
 | .tup ds,v=>∃ a xs,v=.ref a/\SqT K H a xs/\RepL K H ds xs
 | .lst ds,v=>∃ a xs,v=.ref a/\SqL K H a xs/\RepL K H ds xs
def RepL (K:W.Frag) (H:Hp):List D->List V->Prop
 | [],vs=>vs=[]
 | d::ds,vs=>∃ v r,vs=v::r/\Rep K H d v/\RepL K H ds r
end
mutual
def eqD:D->D->Bool
 | .non, .non=>true
 | .bl a, .bl b=>a == b
 | .int a, .int b=>a == b
 | .bl a, .int b=>(if a then 1 else 0) == b
 | .int a, .bl b=>a == (if b then 1 else 0)
 | .str a, .str b=>a == b
 | .tup xs, .tup ys=>eqL xs ys
 | .lst xs, .lst ys=>eqL xs ys
 | _,_=>false
def eqL:List D->List D->Bool
 | [],[]=>true
 | x::xs,y::ys=>eqD x y&&eqL xs ys
 | _,_=>false
end
mutual
def depD:D->Nat
 | .tup xs=>depL xs+1
 | .lst xs=>depL xs+1
 | _=>0
def depL:List D->Nat
 | []=>0
 | x::xs=>max (depD x) (depL xs)
end
theorem Jd2:∀ {xs ys:List D},eqL xs ys=true->xs.length=ys.length
 | [],[],_=>rfl
 | [],_::_,h=>by simp [eqL] at h
 | _::_,[],h=>by simp [eqL] at h
 | x::xs,y::ys,h=>by
  simp only [eqL,Bool.and_eq_true] at h;simp only [length_cons,Jd2 h.2]
mutual
theorem Jcr:∀ d:D,eqD d d=true
 | .non=>by simp [eqD]
 | .bl b=>by simp [eqD]
 | .int i=>by simp [eqD]
 | .str x=>by simp [eqD]
 | .tup xs=>by simp only [eqD];exact Jei xs
 | .lst xs=>by simp only [eqD];exact Jei xs
theorem Jei:∀ d:List D,eqL d d=true
 | []=>by simp [eqL]
 | x::xs=>by simp only [eqL,Bool.and_eq_true];exact ⟨Jcr x,Jei xs⟩
end
theorem RepL.length {K:W.Frag}:∀ {ds:List D} {vs:List V},RepL K H ds vs->ds.length=vs.length
 | [],vs,h=>by
  simp only [RepL] at h;rw [h];rfl
 | d::ds,vs,h=>by
  simp only [RepL] at h;obtain ⟨v,r,rfl,_,h2⟩:=h;simp only [length_cons,RepL.length h2]
theorem RepL.get {K:W.Frag}:∀ {ds:List D} {vs:List V} {i:Nat} {d:D},RepL K H ds vs->ds[i]?=some d->∃ v,vs[i]?=some v/\Rep K H d v
 | [],_,_,_,_,e=>by simp at e
 | d::ds,vs,i,d',h,e=>by
  simp only [RepL] at h;obtain ⟨v,r,rfl,h1,h2⟩:=h;cases i with
  | zero=>simp at e;subst e;exact ⟨v,rfl,h1⟩
  | succ i=>
   obtain ⟨v',e',h'⟩:=RepL.get h2 (by simpa using e);exact ⟨v',by simpa using e',h'⟩
variable {xs:List V}
theorem SqL.same {K:W.Frag} (e:Same H H') (h:SqL K H a xs):SqL K H' a xs:=e.seq h
theorem SqT.same {K:W.Frag} (e:Same H H') (h:SqT K H a xs):SqT K H' a xs:=by
 rcases h with (h | ⟨o,h⟩) | h
 ·exact .inl (.inl (e _ _ h))
 ·exact .inl (.inr ⟨o,e _ _ h⟩)
 ·exact .inr h
mutual
theorem Rep.same {K:W.Frag} (e:Same H H'):∀ {d:D} {v:V},Rep K H d v->Rep K H' d v
 | .non,_,h=>by simpa only [Rep] using h
 | .bl _,_,h=>by simpa only [Rep] using h
 | .int _,_,h=>by simpa only [Rep] using h
 | .str _,_,h=>by simpa only [Rep] using h
 | .tup ds,_,h=>by
  simp only [Rep] at h ⊢;obtain ⟨a,xs,h1,h2,h3⟩:=h;exact ⟨a,xs,h1,h2.same e,RepL.same e h3⟩
 | .lst ds,_,h=>by
  simp only [Rep] at h ⊢;obtain ⟨a,xs,h1,h2,h3⟩:=h;exact ⟨a,xs,h1,h2.same e,RepL.same e h3⟩
theorem RepL.same {K:W.Frag} (e:Same H H'):∀ {d:List D} {v:List V},RepL K H d v->RepL K H' d v
 | [],_,h=>by simpa only [RepL] using h
 | x::xs,_,h=>by
  simp only [RepL] at h ⊢;obtain ⟨v,r,h1,h2,h3⟩:=h;exact ⟨v,r,h1,Rep.same e h2,RepL.same e h3⟩
end
theorem Inv.list_tuple (I:Inv X pins σ H s) {a:Addr} {xs ys:List V} (h:SqL X.K H a xs) (h':SqT X.K H a ys):False:=by
 obtain ⟨_,_,p,_⟩:=I.list h;obtain ⟨_,_,q,_⟩:=I.tuple h';obtain ⟨o,_,d,e,_⟩:=p;obtain ⟨f,b,c,_⟩:=q;rw [d] at b;cases b;rw [e] at c;exact absurd c ⋯
mutual
theorem Inv.rep_inj (I:Inv X pins σ H s):∀ {d e:D} {v:V},Rep X.K H d v->Rep X.K H e v->d=e
 | .non,e,v,h,h'=>by
  simp only [Rep] at h;subst h;cases e <;> simp [Rep] at h' ⊢
 | .bl _,e,v,h,h'=>by
  simp only [Rep] at h;subst h;cases e <;> simp [Rep] at h' ⊢
  exact h'
 | .int _,e,v,h,h'=>by
  simp only [Rep] at h;subst h;cases e <;> simp [Rep] at h' ⊢
  exact h'
 | .str _,e,v,h,h'=>by
  simp only [Rep] at h;subst h;cases e <;> simp [Rep] at h' ⊢
  exact h'
 | .tup ds,e,v,h,h'=>by
  simp only [Rep] at h;obtain ⟨a,xs,rfl,h2,h3⟩:=h;cases e with
  | tup es=>
   simp only [Rep] at h';obtain ⟨a',ys,q,g2,g3⟩:=h';cases q;have:=I.tuple_inj h2 g2;subst this;rw [Inv.repL_inj I h3 g3]
  | lst es=>
   simp only [Rep] at h';obtain ⟨a',ys,q,g2,g3⟩:=h';cases q;exact (I.list_tuple g2 h2).elim
  | _=>simp [Rep] at h'
 | .lst ds,e,v,h,h'=>by
  simp only [Rep] at h;obtain ⟨a,xs,rfl,h2,h3⟩:=h;cases e with
  | lst es=>
   simp only [Rep] at h';obtain ⟨a',ys,q,g2,g3⟩:=h';cases q;have:=I.list_inj h2 g2;subst this;rw [Inv.repL_inj I h3 g3]
  | tup es=>
   simp only [Rep] at h';obtain ⟨a',ys,q,g2,g3⟩:=h';cases q;exact (I.list_tuple h2 g2).elim
  | _=>simp [Rep] at h'
theorem Inv.repL_inj (I:Inv X pins σ H s):∀ {d e:List D} {v:List V},RepL X.K H d v->RepL X.K H e v->d=e
 | [],e,v,h,h'=>by
  simp only [RepL] at h;subst h;cases e <;> simp [RepL] at h' ⊢
 | x::xs,e,v,h,h'=>by
  simp only [RepL] at h;obtain ⟨u,r,rfl,h1,h2⟩:=h;cases e with
  | nil=>simp [RepL] at h'
  | cons y ys=>
   simp only [RepL] at h';obtain ⟨u',r',q,g1,g2⟩:=h';cases q;rw [Inv.rep_inj I h1 g1,Inv.repL_inj I h2 g2]
end
variable {α β:Type}
def Jcp (f : α->β->Bool):List α->List β->Bool
 | [],[]=>true
 | x::xs,y::ys=>f x y&&Jcp f xs ys
 | _,_=>false
def atB (f : α->β->Bool) (xs:List α) (ys:List β) (j:Nat):Bool:=match xs[j]?,ys[j]? with
 | some x,some y=>f x y
 | _,_=>true
theorem Jcq (f : α->β->Bool):∀ (xs:List α) (ys:List β),
  ((List.range (min xs.length ys.length)).all (atB f xs ys)&&(xs.length == ys.length))=Jcp f xs ys
 | [],[]=>by simp [Jcp]
 | [],_::_=>by simp [Jcp]
 | _::_,[]=>by simp [Jcp]
 | x::xs,y::ys=>by
  have ih:=Jcq f xs ys;simp only [Jcp,length_cons];rw [<- ih,Nat.succ_min_succ,List.range_succ_eq_map,List.all_cons,List.all_map];have e:((List.range (min xs.length ys.length)).all (atB f (x::xs) (y::ys) ∘ Nat.succ))=(List.range (min xs.length ys.length)).all (atB f xs ys):=by
   congr 1
  rw [e];have e0:atB f (x::xs) (y::ys) 0=f x y:=by unfold atB;simp
  rw [e0,Bool.and_assoc]
  congr 2
  simp
theorem Jfy:∀ xs ys:List D,eqL xs ys=Jcp eqD xs ys
 | [],[]=>by simp [eqL,Jcp]
 | [],_::_=>by simp [eqL,Jcp]
 | _::_,[]=>by simp [eqL,Jcp]
 | x::xs,y::ys=>by simp only [eqL,Jcp,Jfy xs ys]
theorem Jf3:∀ {ds:List D} {d:D},d∈ds->depD d<=depL ds
 | [],_,h=>by simp at h
 | x::xs,d,h=>by
  simp only [depL];rcases mem_cons.mp h with rfl | h
  ·exact Nat.le_max_left ..
  ·exact Nat.le_trans (Jf3 h) (Nat.le_max_right ..)
def flatD:D->Bool
 | .tup _=>false
 | .lst _=>false
 | _=>true
def valD:D->V
 | .bl b=>.bl b
 | .int i=>.int i
 | .str x=>.str x
 | _=>.non
variable {d:D}
theorem Jex {K:W.Frag} (f:flatD d=true) (h:Rep K H d v):v=valD d:=by
 cases d <;> simp_all [flatD,Rep,valD]
theorem Jf5 (f:flatD d=true):flatV (valD d)=true:=by
 cases d <;> simp_all [flatD,valD,flatV]
theorem Jjd {e:D} (f:flatD d=true) (g:flatD e=true):eqV (valD d) (valD e)=eqD d e:=by
 cases d <;> cases e <;> simp_all [flatD,valD,eqV,eqD]
theorem in1_units (A:Around):A.in1.units=A.units+1:=rfl
def EqP (X:Cx) (H:Hp) (s:Shared) (n:Nat):Prop:=∀ (d e:D) (A:Around) (x y:V) (u v:Value),depD d<=n->Rep X.K H d x->Rep X.K H e y->RelV x u->RelV y v->A.units+n<cLine->SeqAt.EqAt A s u v (eqD d e)
variable {n:Nat}
theorem Jf9 (ih:EqP X H s n) {ds es:List D} {xs ys:List V} {its jts:List Value} (h3:RepL X.K H ds xs) (g3:RepL X.K H es ys) (vi:Vals xs its) (vj:Vals ys jts) (hds:depL ds<=n) {A:Around} (hA:A.units+n<cLine) :
  ∀ j (p1:j<its.toArray.size) (p2:j<jts.toArray.size),SeqAt.EqAt A s its.toArray[j] jts.toArray[j] (atB eqD ds es j):=by
 intro j p1 p2;have r:its.length=ds.length:=by rw [h3.length,vi.length]
 have k:jts.length=es.length:=by rw [g3.length,vj.length]
 have a:j<ds.length:=by rw [<- r];simpa using p1
 have b:j<es.length:=by rw [<- k];simpa using p2
 obtain ⟨v,h,m⟩:=h3.get (List.getElem?_eq_getElem a);obtain ⟨u,c,q⟩:=g3.get (List.getElem?_eq_getElem b);obtain ⟨e,d,i⟩:=vi.get h;obtain ⟨p,o,t⟩:=vj.get c;have l:its.toArray[j]=e:=by
  have:=d;rw [List.getElem?_eq_getElem (by simpa using p1)] at this;simpa using this
 have g:jts.toArray[j]=p:=by
  have:=o;rw [List.getElem?_eq_getElem (by simpa using p2)] at this;simpa using this
 rw [l,g];have f:atB eqD ds es j=eqD ds[j] es[j]:=by
  unfold atB;rw [List.getElem?_eq_getElem a,List.getElem?_eq_getElem b]
 rw [f];exact ih _ _ _ _ _ _ _ (Nat.le_trans (Jf3 (List.getElem_mem a)) hds) m q i t hA
theorem JkE (I:Inv X pins σ H s) {n:Nat} (ih:EqP X H s n) {ds es:List D} {a b:Addr} {xs ys:List V} (h2:SqT X.K H a xs) (h3:RepL X.K H ds xs) (g2:SqT X.K H b ys) (g3:RepL X.K H es ys) (hds:depL ds<=n) {A:Around} (hA:A.units+(n+1)<cLine) :
  SeqAt.RcAt A s (.ref a) (.ref b) (eqD (.tup ds) (.tup es))/\SeqAt.RcNeAt A s (.ref a) (.ref b) (!eqD (.tup ds) (.tup es)):=by
 obtain ⟨d,i,h,_⟩:=I.tuple h2;obtain ⟨c,f,e,_⟩:=I.tuple g2;have k:d.length=ds.length:=by rw [h3.length,i.length]
 have j:c.length=es.length:=by rw [g3.length,f.length]
 have g:=Jf9 ih h3 g3 i f hds (A:=A.in1) (by rw [in1_units];ac_nf);have l:eqD (.tup ds) (.tup es)=((List.range (min d.toArray.size c.toArray.size)).all (atB eqD ds es)&&d.toArray.size == c.toArray.size):=by
  simp only [eqD,Jfy];rw [<- Jcq];simp only [size_toArray,k,j]
 rw [l];exact ⟨SeqAt.RcAt.tuples h e ∅ g,SeqAt.RcNeAt.tuples h e ∅ g⟩
theorem Jkh (I:Inv X pins σ H s) {n:Nat} (ih:EqP X H s n) {ds es:List D} {a b:Addr} {xs ys:List V} (h2:SqL X.K H a xs) (h3:RepL X.K H ds xs) (g2:SqL X.K H b ys) (g3:RepL X.K H es ys) (hds:depL ds<=n) {A:Around} (hA:A.units+(n+1)<cLine) :
  SeqAt.RcAt A s (.ref a) (.ref b) (eqD (.lst ds) (.lst es))/\SeqAt.RcNeAt A s (.ref a) (.ref b) (!eqD (.lst ds) (.lst es)):=by
 obtain ⟨e,m,h,_⟩:=I.list h2;obtain ⟨i,k,f,_⟩:=I.list g2;have d:e.length=ds.length:=by rw [h3.length,m.length]
 have g:i.length=es.length:=by rw [g3.length,k.length]
 have l:=Jf9 ih h3 g3 m k hds (A:=A.in1) (by rw [in1_units];ac_nf);by_cases c:ds.length=es.length
 ·have j:eqD (.lst ds) (.lst es)=(List.range e.toArray.size).all (atB eqD ds es):=by
   simp only [eqD,Jfy];rw [<- Jcq];simp [d,c]
  rw [j];exact ⟨SeqAt.RcAt.lists h.isList f.isList (by simp [d,g,c]) ∅ l,SeqAt.RcNeAt.lists h.isList f.isList (by simp [d,g,c]) ∅ l⟩
 ·have j:eqD (.lst ds) (.lst es)=false:=by
   cases q:eqD (.lst ds) (.lst es) with
   | false=>rfl
   | true=>simp only [eqD] at q;exact absurd (Jd2 q) c
  rw [j];exact ⟨SeqAt.RcAt.lists_lengths h.isList f.isList (by simp [d,g,c]) ∅,SeqAt.RcNeAt.lists_lengths h.isList f.isList (by simp [d,g,c]) ∅⟩
theorem JcA {K:W.Frag} {x:V} (h:Rep K H d x):(flatD d=true/\x=valD d)\/(∃ ds a xs,d=.tup ds/\x=.ref a/\SqT K H a xs/\RepL K H ds xs)\/∃ ds a xs,d=.lst ds/\x=.ref a/\SqL K H a xs/\RepL K H ds xs:=by
 cases d with
 | tup ds=>simp only [Rep] at h;obtain ⟨a,xs,e,c,b⟩:=h;exact .inr (.inl ⟨ds,a,xs,rfl,e,c,b⟩)
 | lst ds=>simp only [Rep] at h;obtain ⟨a,xs,e,c,b⟩:=h;exact .inr (.inr ⟨ds,a,xs,rfl,e,c,b⟩)
 | _=>exact .inl ⟨rfl,Jex rfl h⟩
theorem Jct (I:Inv X pins σ H s) {d e:D} {x y:V} {u v:Value} (hd:Rep X.K H d x) (he:Rep X.K H e y) (ru:RelV x u) (rv:RelV y v) (m:flatD d=!flatD e) {A:Around} (hA:A.units<cLine) :
  eqD d e=false/\SeqAt.EqAt A s u v false/\SeqAt.RcAt A s u v false/\SeqAt.RcNeAt A s u v true:=by
 rcases JcA hd with ⟨fd,rfl⟩ | ⟨ds,a,xs,rfl,rfl,h2,h3⟩ | ⟨ds,a,xs,rfl,rfl,h2,h3⟩
 ·rcases JcA he with ⟨fe,rfl⟩ | ⟨es,b,ys,rfl,rfl,g2,g3⟩ | ⟨es,b,ys,rfl,rfl,g2,g3⟩
  ·rw [fd,fe] at m;cases m
  ·obtain rfl:v=Value.ref b:=rv;obtain ⟨f,g,c,_⟩:=I.tuple g2;refine ⟨by cases d <;> simp [eqD,flatD] at fd ⊢,?_⟩;cases d <;> simp only [valD,RelV] at ru <;> first | (simp [flatD] at fd;done) | skip
   ·subst ru;exact ⟨SeqAt.EqAt.none_tuple c hA,SeqAt.RcAt.none_tuple c hA,SeqAt.RcNeAt.none_tuple c hA⟩
   ·subst ru;exact ⟨SeqAt.EqAt.bool_tuple _ c hA,SeqAt.RcAt.bool_tuple _ c hA,SeqAt.RcNeAt.bool_tuple _ c hA⟩
   ·obtain ⟨t,rfl⟩:=ru;exact ⟨SeqAt.EqAt.int_tuple _ _ c hA,SeqAt.RcAt.int_tuple _ _ c hA,SeqAt.RcNeAt.int_tuple _ _ c hA⟩
   ·obtain ⟨t,rfl⟩:=ru;exact ⟨SeqAt.EqAt.str_tuple _ _ c hA,SeqAt.RcAt.str_tuple _ _ c hA,SeqAt.RcNeAt.str_tuple _ _ c hA⟩
  ·obtain rfl:v=Value.ref b:=rv;obtain ⟨f,g,c,_⟩:=I.list g2;have c:=c.isList;refine ⟨by cases d <;> simp [eqD,flatD] at fd ⊢,?_⟩;cases d <;> simp only [valD,RelV] at ru <;> first | (simp [flatD] at fd;done) | skip
   ·subst ru;exact ⟨SeqAt.EqAt.none_list c hA,SeqAt.RcAt.none_list c hA,SeqAt.RcNeAt.none_list c hA⟩
   ·subst ru;exact ⟨SeqAt.EqAt.bool_list _ c hA,SeqAt.RcAt.bool_list _ c hA,SeqAt.RcNeAt.bool_list _ c hA⟩
   ·obtain ⟨t,rfl⟩:=ru;exact ⟨SeqAt.EqAt.int_list _ _ c hA,SeqAt.RcAt.int_list _ _ c hA,SeqAt.RcNeAt.int_list _ _ c hA⟩
   ·obtain ⟨t,rfl⟩:=ru;exact ⟨SeqAt.EqAt.str_list _ _ c hA,SeqAt.RcAt.str_list _ _ c hA,SeqAt.RcNeAt.str_list _ _ c hA⟩
 ·rcases JcA he with ⟨fe,rfl⟩ | ⟨es,b,ys,rfl,rfl,g2,g3⟩ | ⟨es,b,ys,rfl,rfl,g2,g3⟩
  ·obtain rfl:u=Value.ref a:=ru;obtain ⟨f,g,c,_⟩:=I.tuple h2;refine ⟨by cases e <;> simp [eqD,flatD] at fe ⊢,?_⟩;cases e <;> simp only [valD,RelV] at rv <;> first | (simp [flatD] at fe;done) | skip
   ·subst rv;exact ⟨SeqAt.EqAt.tuple_none c hA,SeqAt.RcAt.tuple_none c hA,SeqAt.RcNeAt.tuple_none c hA⟩
   ·subst rv;exact ⟨SeqAt.EqAt.tuple_bool _ c hA,SeqAt.RcAt.tuple_bool _ c hA,SeqAt.RcNeAt.tuple_bool _ c hA⟩
   ·obtain ⟨t,rfl⟩:=rv;exact ⟨SeqAt.EqAt.tuple_int _ _ c hA,SeqAt.RcAt.tuple_int _ _ c hA,SeqAt.RcNeAt.tuple_int _ _ c hA⟩
   ·obtain ⟨t,rfl⟩:=rv;exact ⟨SeqAt.EqAt.tuple_str _ _ c hA,SeqAt.RcAt.tuple_str _ _ c hA,SeqAt.RcNeAt.tuple_str _ _ c hA⟩
  ·simp [flatD] at m
  ·simp [flatD] at m
 ·rcases JcA he with ⟨fe,rfl⟩ | ⟨es,b,ys,rfl,rfl,g2,g3⟩ | ⟨es,b,ys,rfl,rfl,g2,g3⟩
  ·obtain rfl:u=Value.ref a:=ru;obtain ⟨f,g,c,_⟩:=I.list h2;have c:=c.isList;refine ⟨by cases e <;> simp [eqD,flatD] at fe ⊢,?_⟩;cases e <;> simp only [valD,RelV] at rv <;> first | (simp [flatD] at fe;done) | skip
   ·subst rv;exact ⟨SeqAt.EqAt.list_none c hA,SeqAt.RcAt.list_none c hA,SeqAt.RcNeAt.list_none c hA⟩
   ·subst rv;exact ⟨SeqAt.EqAt.list_bool _ c hA,SeqAt.RcAt.list_bool _ c hA,SeqAt.RcNeAt.list_bool _ c hA⟩
   ·obtain ⟨t,rfl⟩:=rv;exact ⟨SeqAt.EqAt.list_int _ _ c hA,SeqAt.RcAt.list_int _ _ c hA,SeqAt.RcNeAt.list_int _ _ c hA⟩
   ·obtain ⟨t,rfl⟩:=rv;exact ⟨SeqAt.EqAt.list_str _ _ c hA,SeqAt.RcAt.list_str _ _ c hA,SeqAt.RcNeAt.list_str _ _ c hA⟩
  ·simp [flatD] at m
  ·simp [flatD] at m
theorem seq_eq (I:Inv X pins σ H s) {n:Nat} (ih:EqP X H s n) {d e:D} {x y:V} {u v:Value} (hn:depD d<=n+1) (hd:Rep X.K H d x) (he:Rep X.K H e y) (ru:RelV x u) (rv:RelV y v) (fd:flatD d=false) (fe:flatD e=false) {A:Around} (hA:A.units+(n+1)<cLine) :
  SeqAt.EqAt A s u v (eqD d e)/\SeqAt.RcAt A s u v (eqD d e)/\SeqAt.RcNeAt A s u v (!eqD d e):=by
 have j:=hd;have k:=he;rcases JcA hd with ⟨f,_⟩ | ⟨ds,a,xs,rfl,rfl,h2,h3⟩ | ⟨ds,a,xs,rfl,rfl,h2,h3⟩
 ·rw [f] at fd;cases fd
 ·obtain rfl:u=Value.ref a:=ru;have h:depL ds<=n:=by simp only [depD] at hn;ac_nf
  rcases JcA he with ⟨f,_⟩ | ⟨es,b,ys,rfl,rfl,g2,g3⟩ | ⟨es,b,ys,rfl,rfl,g2,g3⟩
  ·rw [f] at fe;cases fe
  ·obtain rfl:v=Value.ref b:=rv;have R:=JkE I ih h2 h3 g2 g3 h hA;refine ⟨?_,R.1,R.2⟩;by_cases c:a=b
   ·subst c;rw [I.rep_inj j k,Jcr];exact SeqAt.EqAt.same _
   ·exact SeqAt.EqAt.of_refs c R.1
  ·obtain rfl:v=Value.ref b:=rv;obtain ⟨m,_,i,_⟩:=I.tuple h2;obtain ⟨l,_,g,_⟩:=I.list g2;exact ⟨SeqAt.EqAt.tuple_list i g.isList ∅,SeqAt.RcAt.tuple_list i g.isList ∅,SeqAt.RcNeAt.tuple_list i g.isList ∅⟩
 ·obtain rfl:u=Value.ref a:=ru;have h:depL ds<=n:=by simp only [depD] at hn;ac_nf
  rcases JcA he with ⟨f,_⟩ | ⟨es,b,ys,rfl,rfl,g2,g3⟩ | ⟨es,b,ys,rfl,rfl,g2,g3⟩
  ·rw [f] at fe;cases fe
  ·obtain rfl:v=Value.ref b:=rv;obtain ⟨m,_,i,_⟩:=I.list h2;obtain ⟨l,_,g,_⟩:=I.tuple g2;exact ⟨SeqAt.EqAt.list_tuple i.isList g ∅,SeqAt.RcAt.list_tuple i.isList g ∅,SeqAt.RcNeAt.list_tuple i.isList g ∅⟩
  ·obtain rfl:v=Value.ref b:=rv;have R:=Jkh I ih h2 h3 g2 g3 h hA;refine ⟨?_,R.1,R.2⟩;by_cases c:a=b
   ·subst c;rw [I.rep_inj j k,Jcr];exact SeqAt.EqAt.same _
   ·exact SeqAt.EqAt.of_refs c R.1
theorem Inv.eqP (I:Inv X pins σ H s):∀ n,EqP X H s n
 | 0=>fun d e A x y u v hn hd he ru rv hA=>by
  have fd:flatD d=true:=by
   cases d <;> simp [depD,flatD] at hn ⊢
  cases fe:flatD e with
  | true=>
   have ex:=Jex fd hd;have ey:=Jex fe he;subst ex ey;rw [<- Jjd fd fe];exact JiE ru rv (Jf5 fd) (Jf5 fe)
  | false=>
   obtain ⟨e1,e2,_⟩:=Jct I hd he ru rv (by rw [fd,fe];rfl) (A:=A) ∅;rw [e1];exact e2
 | n+1=>fun d e A x y u v hn hd he ru rv hA=>by
  cases fd:flatD d with
  | true=>
   have h0:depD d<=n:=by cases d <;> simp [depD,flatD] at fd ⊢
   exact Inv.eqP I n d e A x y u v h0 hd he ru rv ∅
  | false=>
   cases fe:flatD e with
   | true=>
    obtain ⟨e1,e2,_⟩:=Jct I hd he ru rv (by rw [fd,fe];rfl) (A:=A) ∅;rw [e1];exact e2
   | false=>exact (seq_eq I (Inv.eqP I n) hn hd he ru rv fd fe hA).1
def rEqU (K:W.Frag):R2:=fun x y H Q=>match x,y with
 | .int i, .int j=>Q (.bl (decide (i=j))) H
 | .str i, .str j=>Q (.bl (decide (i=j))) H
 | .bl i, .bl j=>Q (.bl (decide (i=j))) H
 | .non, .non=>Q (.bl true) H
 | x,y=>∃ d e,Rep K H d x/\Rep K H e y/\depD d<=50/\(flatD d&&flatD e)=false/\Q (.bl (eqD d e)) H
def rNeU (K:W.Frag):R2:=fun x y H Q=>match x,y with
 | .int i, .int j=>Q (.bl (!decide (i=j))) H
 | .str i, .str j=>Q (.bl (!decide (i=j))) H
 | .bl i, .bl j=>Q (.bl (!decide (i=j))) H
 | .non, .non=>Q (.bl false) H
 | x,y=>∃ d e,Rep K H d x/\Rep K H e y/\depD d<=50/\(flatD d&&flatD e)=false/\Q (.bl (!eqD d e)) H
theorem Jb7 (hu:X.A.units+64<cLine):OpR X (compareOp .Eq) (rEqU X.K):=fun a s σ H x y v u Q I b c q=>by
 unfold rEqU at q;split at q
 ·rename_i i j;exact op_eq a s σ H _ _ v u Q I b c ⟨rfl,by rw [show decide (V.int i=V.int j)=decide (i=j) from by simp];exact q⟩
 ·rename_i i j;exact op_eq a s σ H _ _ v u Q I b c ⟨rfl,by rw [show decide (V.str i=V.str j)=decide (i=j) from by simp];exact q⟩
 ·rename_i i j;exact op_eq a s σ H _ _ v u Q I b c ⟨rfl,by rw [show decide (V.bl i=V.bl j)=decide (i=j) from by simp];exact q⟩
 ·exact op_eq a s σ H _ _ v u Q I b c ⟨rfl,by simpa using q⟩
 ·obtain ⟨d,e,g,f,m,l,q⟩:=q;show wpAny (model X.prog X.w) X.A (richCompare .Eq v u) (EP X a σ Q) X.xe s;cases fd:flatD d with
  | true=>
   cases fe:flatD e with
   | true=>rw [fd,fe] at l;cases l
   | false=>
    obtain ⟨h,_,k,_⟩:=Jct I g f b c (by rw [fd,fe];rfl) (A:=X.A) ∅;rw [h] at q;exact k _ _ _ _ ⟨V.bl _,H,I,rfl,q⟩
  | false=>
   cases fe:flatD e with
   | true=>
    obtain ⟨h,_,k,_⟩:=Jct I g f b c (by rw [fd,fe];rfl) (A:=X.A) ∅;rw [h] at q;exact k _ _ _ _ ⟨V.bl _,H,I,rfl,q⟩
   | false=>exact (seq_eq I (I.eqP 49) m g f b c fd fe ∅).2.1 _ _ _ _ ⟨V.bl _,H,I,rfl,q⟩
theorem JbH (hu:X.A.units+64<cLine):OpR X (compareOp .NotEq) (rNeU X.K):=fun a s σ H x y v u Q I b c q=>by
 unfold rNeU at q;split at q
 ·rename_i i j;exact op_ne a s σ H _ _ v u Q I b c ⟨rfl,by rw [show decide (V.int i=V.int j)=decide (i=j) from by simp];exact q⟩
 ·rename_i i j;exact op_ne a s σ H _ _ v u Q I b c ⟨rfl,by rw [show decide (V.str i=V.str j)=decide (i=j) from by simp];exact q⟩
 ·rename_i i j;exact op_ne a s σ H _ _ v u Q I b c ⟨rfl,by rw [show decide (V.bl i=V.bl j)=decide (i=j) from by simp];exact q⟩
 ·exact op_ne a s σ H _ _ v u Q I b c ⟨rfl,by simpa using q⟩
 ·obtain ⟨d,e,g,f,m,l,q⟩:=q;show wpAny (model X.prog X.w) X.A (richCompare .NotEq v u) (EP X a σ Q) X.xe s;cases fd:flatD d with
  | true=>
   cases fe:flatD e with
   | true=>rw [fd,fe] at l;cases l
   | false=>
    obtain ⟨h,_,_,k⟩:=Jct I g f b c (by rw [fd,fe];rfl) (A:=X.A) ∅;rw [h] at q;exact k _ _ _ _ ⟨V.bl _,H,I,rfl,q⟩
  | false=>
   cases fe:flatD e with
   | true=>
    obtain ⟨h,_,_,k⟩:=Jct I g f b c (by rw [fd,fe];rfl) (A:=X.A) ∅;rw [h] at q;exact k _ _ _ _ ⟨V.bl _,H,I,rfl,q⟩
   | false=>exact (seq_eq I (I.eqP 49) m g f b c fd fe ∅).2.2 _ _ _ _ ⟨V.bl _,H,I,rfl,q⟩
def DivOk (j:Int):Prop:=j≠0/\j.natAbs.log2<9000
def rAddU (K:W.Frag):R2:=fun x y H Q=>match x,y with
 | .int i, .int j=>Q (.int (i+j)) H
 | .str i, .str j=>i.length+j.length<=sizeLine/\Q (.str (i++j)) H
 | .ref a, .ref b=>rCat (.ref a) (.ref b) H Q\/rCatT K (.ref a) (.ref b) H Q
 | _,_=>False
theorem Ja3:OpR X (binaryOp .Add) (rAddU X.K):=fun a s σ H x y v u Q I c b q=>by
 unfold rAddU at q;split at q
 ·exact Jkj a s σ H _ _ v u Q I c b ⟨_,_,rfl,rfl,q⟩
 ·exact JgC a s σ H _ _ v u Q I c b ⟨_,_,rfl,rfl,q.1,q.2⟩
 ·rcases q with q | q
  ·exact Jkk a s σ H _ _ v u Q I c b q
  ·exact Jjq a s σ H _ _ v u Q I c b q
 ·exact q.elim
def rMulU:R2:=fun x y H Q=>match x,y with
 | .int i, .int j=>IntMulOk i j/\Q (.int (i*j)) H
 | _,_=>False
theorem Jjs:OpR X (binaryOp .Mult) (rI IntMulOk fun i j=>.int (i*j)):=opI fun _ _ _ _ _ _ _ a q=>mul_int q a
theorem Jjt:OpR X (binaryOp .Mult) rMulU:=fun a s σ H x y v u Q I c b q=>by
 unfold rMulU at q;split at q
 ·exact Jjs a s σ H _ _ v u Q I c b ⟨_,_,rfl,rfl,q.1,q.2⟩
 ·exact q.elim
def Jhx:R2:=fun x y H Q=>match x,y with
 | .int i, .int j=>DivOk j/\Q (.int (i.fdiv j)) H
 | _,_=>False
theorem Jh5:OpR X (binaryOp .FloorDiv) (rI (fun _ j=>DivOk j) fun i j=>.int (i.fdiv j)):=opI fun _ _ _ _ _ _ _ a q=>floordiv_int a.1 q (.inl (PyProof.noPylong_of_log2 a.2))
theorem JaO:OpR X (binaryOp .FloorDiv) Jhx:=fun a s σ H x y v u Q I c b q=>by
 unfold Jhx at q;split at q
 ·exact Jh5 a s σ H _ _ v u Q I c b ⟨_,_,rfl,rfl,q.1,q.2⟩
 ·exact q.elim
def rModU:R2:=fun x y H Q=>match x,y with
 | .int i, .int j=>j≠0/\Q (.int (i.fmod j)) H
 | _,_=>False
theorem Jbn:OpR X (binaryOp .Mod) rModU:=fun a s σ H x y v u Q I c b q=>by
 unfold rModU at q;split at q
 ·exact Jjr a s σ H _ _ v u Q I c b ⟨_,_,rfl,rfl,q.1,q.2⟩
 ·exact q.elim
def rPowU:R2:=fun x y H Q=>match x,y with
 | .int i, .int j=>CPow i j/\Q (.int (i ^ j.toNat)) H
 | _,_=>False
theorem Jeu:OpR X (binaryOp .Pow) rPowU:=fun a s σ H x y v u Q I c b q=>by
 unfold rPowU at q;split at q
 ·exact Jkp a s σ H _ _ v u Q I c b ⟨_,_,rfl,rfl,q.1,q.2⟩
 ·exact q.elim
def rCmpU (p:Int->Int->Bool):R2:=fun x y H Q=>match x,y with
 | .int i, .int j=>Q (.bl (p i j)) H
 | _,_=>False
theorem JfL {op:CmpOp} {p:Int->Int->Bool} (h:OpR X (compareOp op) (rI0 fun i j=>.bl (p i j))):OpR X (compareOp op) (rCmpU p):=fun a s σ H x y v u Q I c b q=>by
 unfold rCmpU at q;split at q
 ·exact h a s σ H _ _ v u Q I c b ⟨_,_,rfl,rfl,q⟩
 ·exact q.elim
theorem Jd7:OpR X (compareOp .Lt) (rCmpU fun i j=>decide (i<j)):=JfL op_lt
theorem JiQ:OpR X (compareOp .Gt) (rCmpU fun i j=>decide (j<i)):=JfL op_gt
theorem Jkl:OpR X (compareOp .GtE) (rCmpU fun i j=>decide (j<=i)):=JfL op_ge
def SqA (K:W.Frag) (H:Hp) (a:Addr) (xs:List V):Prop:=SqL K H a xs\/SqT K H a xs
def rIxU (K:W.Frag):R2:=fun x y H Q=>match x,y with
 | .ref p, .int i=>∃ xs v,SqA K H p xs/\atI xs i=some v/\Q v H
 | .str z, .int i=>∃ c,z.length<=sizeLine/\atI z.cps.toList i=some c/\Q (.str ⟨#[c]⟩) H
 | _,_=>False
theorem ix_U:IxR X (rIxU X.K):=fun a b d s σ H x y v u Q I g i q f=>by
 unfold rIxU at q;split at q
 ·obtain ⟨l,w,h | h,e,q⟩:=q
  ·exact Jjj a b d s σ H _ _ v u Q I g i ⟨_,_,_,_,rfl,rfl,h,e,q⟩ f
  ·exact Jka a b d s σ H _ _ v u Q I g i ⟨_,_,_,_,rfl,rfl,h,e,q⟩ f
 ·obtain ⟨c,k,j,q⟩:=q;exact Jj9 a b d s σ H _ _ v u Q I g i ⟨_,_,_,rfl,rfl,k,j,q⟩ f
 ·exact q.elim
def rLen (K:W.Frag):List V->Hp->VK->Prop:=fun xs H Q=>match xs with
 | [.ref p]=>∃ ys,SqA K H p ys/\Q (.int ys.length) H
 | [.str z]=>z.length<=sizeLine/\Q (.int z.length) H
 | _=>False
theorem JaY:CallR X (.builtin "len") (rLen X.K):=fun a s σ H c b Q I r q=>by
 unfold rLen at q;split at q
 ·obtain ⟨d,h,q⟩:=q;exact JeP a s σ H _ b Q I r ⟨_,_,rfl,h,q⟩
 ·exact JeQ a s σ H _ b Q I r ⟨_,rfl,q.1,q.2⟩
 ·exact q.elim
def rAbs:List V->Hp->VK->Prop:=fun xs H Q=>match xs with
 | [.int i]=>Q (.int (if i<0 then -i else i)) H
 | _=>False
theorem JeO:CallR X (.builtin "abs") rAbs:=fun a s σ H c b Q I r q=>by
 unfold rAbs at q;split at q
 ·exact JhP a s σ H _ b Q I r ⟨_,rfl,q⟩
 ·exact q.elim
def rMin:List V->Hp->VK->Prop:=fun xs H Q=>match xs with
 | [.int i, .int j]=>Q (.int (if j<i then j else i)) H
 | _=>False
def rSlU (K:W.Frag):V->Option Int->Option Int->Hp->VK->Prop:=fun x lo hi H Q=>rSlL K x lo hi H Q\/rSlT K x lo hi H Q
theorem sl_U:SlR X (rSlU X.K):=SlR.or JjM Jkz
def isiB (t T:String):Bool:=t == T||(t == "bool"&&T == "int")
def tyN (K:W.Frag) (H:Hp) (x:V) (t:String):Prop:=match x with
 | .int _=>t="int"
 | .str _=>t="str"
 | .bl _=>t="bool"
 | .non=>t="NoneType"
 | .ref a=>(t="list"/\∃ xs,SqL K H a xs)\/(t="tuple"/\∃ xs,SqT K H a xs)
 | _=>False
theorem kit_b (K:W.Frag) {t T:String} (ht:t∈["int","str","bool","NoneType","list","tuple"]) (hT:T∈["int","str","bool","list","tuple"]):W.kitOne K (.type t) (.type T)=some (isiB t T):=by
 simp only [mem_cons,List.not_mem_nil,or_false] at ht hT;rcases ht with rfl | rfl | rfl | rfl | rfl | rfl <;> rcases hT with rfl | rfl | rfl | rfl | rfl <;> with_unfolding_all rfl
def rIsi (K:W.Frag):List V->Hp->VK->Prop:=fun xs H Q=>match xs with
 | [x, .ty T]=>T∈["int","str","bool","list","tuple"]/\∃ t,tyN K H x t/\Q (.bl (isiB t T)) H
 | _=>False
theorem JaN:CallR X (.builtin "isinstance") (rIsi X.K):=fun g s σ H n v Q I r q=>by
 unfold rIsi at q;split at q
 ·rename_i x T;obtain ⟨e,t,d,q⟩:=q;obtain ⟨u,c,rfl,f,m⟩:=vals2 r;obtain rfl:c=Value.type T:=m;have b:∀ l,EP X g σ Q (.bool (isiB t T)) { s with toks:=l }:=fun l=>⟨V.bl _,H,I.tok l,rfl,q⟩;unfold tyN at d;split at d
  ·subst d;obtain ⟨_,rfl⟩:=f;exact W.kia_one W.kitx_int I.kIn True.intro (kit_b _ ⋯ e) (fun z=>nomatch z) b
  ·subst d;obtain ⟨_,rfl⟩:=f;exact W.kia_one W.kitx_str I.kIn True.intro (kit_b _ ⋯ e) (fun z=>nomatch z) b
  ·subst d;cases (show u=Value.bool _ from f);exact W.kia_one W.kitx_bool I.kIn True.intro (kit_b _ ⋯ e) (fun z=>nomatch z) b
  ·subst d;cases (show u=Value.none from f);exact W.kia_one W.kitx_none I.kIn True.intro (kit_b _ ⋯ e) (fun z=>nomatch z) b
  ·rename_i a;cases (show u=Value.ref a from f);rcases d with ⟨rfl,ys,h⟩ | ⟨rfl,ys,h⟩
   ·obtain ⟨j,_,p,_⟩:=I.list h;obtain ⟨o,_,k,i,_⟩:=p;exact W.kia_one W.kitx_list I.kIn ⟨o,k,i⟩ (kit_b _ ⋯ e) (fun z=>nomatch z) b
   ·obtain ⟨j,_,p,_⟩:=I.tuple h;obtain ⟨o,k,i,_⟩:=p;exact W.kia_one W.kitx_tuple I.kIn ⟨o,k,i⟩ (kit_b _ ⋯ e) (fun z=>nomatch z) b
  ·exact d.elim
 ·exact q.elim
variable {tg:Expr}
def iAny (K:W.Frag) (tl:TE):TI:=fun σ H R=>tl σ H fun x H1=>∃ a,x=.ref a/\(((∃ xs,SqL K H1 a xs)/\R (Itl K a) H1)\/((∃ xs,SqT K H1 a xs)/\R (Itt K a) H1))
theorem pi_U {l:Expr} {tl:TE} (hl:PE X l tl):PI X tg l (iAny X.K tl):=fun f s σ H R I h=>by
 refine thn (hl f s σ H _ I h) fun v c ζ=>?_;obtain ⟨x,i,I1,n,a,j,q⟩:=ζ;subst j;cases n;rcases q with ⟨⟨xs,hq⟩,q⟩ | ⟨⟨xs,hq⟩,q⟩
 ·obtain ⟨d,k,p,m⟩:=I1.list hq;refine wpAny_pyIter_list p.isList ?_;refine ⟨c.heap.objs.size,[c.heap.objs.size],_,_,i,rfl,I1.kept (t':=c.toks) fun b o e=>Heap.get?_push_of_some _ e,JhN a _,⟨_,Heap.get?_push_size _ rfl,rfl,rfl⟩,fun b g=>?_,q⟩;have e:b=c.heap.objs.size:=by simpa using g
  subst e;exact I1.fpOk (Nat.le_refl _) (I1.hok.fresh (Nat.le_refl _))
 ·obtain ⟨d,k,p,m⟩:=I1.tuple hq;refine wpAny_pyIter_tuple (show c.heap.IsTuple a d.toArray from p) ?_;refine ⟨c.heap.objs.size,[c.heap.objs.size],_,_,i,rfl,I1.kept (t':=c.toks) fun b o e=>Heap.get?_push_of_some _ e,JgJ a _,⟨_,Heap.get?_push_size _ rfl,rfl,rfl⟩,fun b g=>?_,q⟩;have e:b=c.heap.objs.size:=by simpa using g
  subst e;exact I1.fpOk (Nat.le_refl _) (I1.hok.fresh (Nat.le_refl _))
structure FunD (K:W.Frag) (x qual:Str) (st:Stmt) (dV:Value) (f:Addr) (fd:FuncData):Prop where
 ex:∃ (oc:Value) (od:Option Addr) (kV doc pm:Value) (an:Option Addr) (cdv ct:Value) (osl:Array (Option Value)),
  fd=W.fnOf x qual (Jam st) (Jal st) (Jad st) dV kV doc pm an cdv ct/\K.lookup f=some ⟨oc,od, .func fd,osl⟩/\W.codeIn K cdv qual=true
 kp:W.keepIn K (.ref f)=true
section
variable {mg:Str->Option Value} {K:W.Frag} {base:Heap} {x qual:Str} {st:Stmt} {dV:Value} {fd:FuncData} {N ps:List Str} {sp:Sp}
theorem FunD.okn {f:Addr} {k:Nat} (F:FunD K x qual st dV f fd) (S:Jan N ps (Jad st)) (len:∀ vs H Q E,sp vs H Q E->vs.length=ps.length)
  (hbody:∀ (cdv:Value) (A:Around) (outer:List Env) (s:Shared) (H:Hp) (vs:List V) (Q:VK) (E:XK),Room k (A.deeper (envOfC qual (Jad st) s.heap.objs.size f cdv))->sp vs H Q E ->
   ∃ t,PSs (cxOf (CX1 P w) P w K mg base N qual (Jad st) f cdv A outer s H E).nox (Jal st) t/\t { nx:=fun _ H'=>Q .non H',rt:=Q } (start N vs) H):FnOk P w K mg base (CX1 P w) (k+1) f fd ps sp:=by
 obtain ⟨i,g,kV,c,m,j,cdv,l,e,rfl,lk,a⟩:=F.ex;refine fn_of lk a S len fun A outer s H vs Q E d b=>?_;obtain ⟨t,h,q⟩:=hbody cdv A outer s H vs Q E d b;exact ⟨t,h.nox,q⟩
theorem FunD.okx {f:Addr} {k:Nat} (F:FunD K x qual st dV f fd) (S:Jan N ps (Jad st)) (len:∀ vs H Q E,sp vs H Q E->vs.length=ps.length)
  (hbody:∀ (cdv:Value) (A:Around) (outer:List Env) (s:Shared) (H:Hp) (vs:List V) (Q:VK) (E:XK),Room k (A.deeper (envOfC qual (Jad st) s.heap.objs.size f cdv))->sp vs H Q E ->
   ∃ t,PSs (cxOf (CX1 P w) P w K mg base N qual (Jad st) f cdv A outer s H E) (Jal st) t/\t { nx:=fun _ H'=>Q .non H',rt:=Q } (start N vs) H):FnOk P w K mg base (CX1 P w) (k+1) f fd ps sp:=by
 obtain ⟨g,h,kV,d,l,i,cdv,j,c,rfl,lk,a⟩:=F.ex;exact fn_of lk a S len fun A outer s H vs Q E e b=>hbody cdv A outer s H vs Q E e b
theorem FunD.binds {f:Addr} (F:FunD K x qual st dV f fd)
  (h:∀ (kV doc pm:Value) (an:Option Addr) (cdv ct:Value) (us:List Value),us.length=ps.length->bindArgs (W.fnOf x qual (Jam st) (Jal st) (Jad st) dV kV doc pm an cdv ct) ⟨us,[]⟩=pure (ps.zip us)):Binds K fd ps []:=by
 obtain ⟨c,d,kV,doc,pm,an,cdv,ct,b,rfl,lk,a⟩:=F.ex;exact .all (h kV doc pm an cdv ct)
theorem FunD.bindsD {T:Addr} {f:Addr} {o:Obj} {items:Array Value} (F:FunD K x qual st (.ref T) f fd) (hT:K.lookup T=some o) (hs:o.data=.seq items n) (ds:List Value)
  (h:∀ (kV doc pm:Value) (an:Option Addr) (cdv ct:Value) (us:List Value),(us++ds).length=ps.length->∃ k,bindArgs (W.fnOf x qual (Jam st) (Jal st) (Jad st) (.ref T) kV doc pm an cdv ct) ⟨us,[]⟩=seqItems? (.ref T) >>= k/\k (some items)=pure (ps.zip (us++ds))):Binds K fd ps ds:=by
 obtain ⟨g,i,kV,doc,pm,an,cdv,ct,b,rfl,lk,a⟩:=F.ex;intro s us X e;obtain ⟨k,d,c⟩:=h kV doc pm an cdv ct us e;exact BindsTo.of_defaults (T:=T) rfl (X _ _ hT) hs d c
theorem Jap {f:Addr} {oc:Value} {od an:Option Addr} {osl:Array (Option Value)} {kV doc pm cdv ct:Value} (l:K.lookup f=some ⟨oc,od, .func (W.fnOf x qual (Jam st) (Jal st) (Jad st) dV kV doc pm an cdv ct),osl⟩)
  (c:W.codeIn K cdv qual=true) (k:W.keepIn K (.ref f)=true):FunD K x qual st dV f (W.fnOf x qual (Jam st) (Jal st) (Jad st) dV kV doc pm an cdv ct):=⟨⟨oc,od,kV,doc,pm,an,cdv,ct,osl,rfl,l,c⟩,k⟩
end
structure Cal (P:Program) (w:World) (K:W.Frag) (mg:Str->Option Value) (base:Heap) (k:Nat) (x:Str) (ps:List Str) (dvs:List V) (sp:Sp):Prop where
 ex:∃ (f:Addr) (fd:FuncData) (ds:List Value),FnOk P w K mg base (CX1 P w) k f fd ps sp/\mg x=some (.ref f)/\W.keepIn K (.ref f)=true/\Binds K fd ps ds/\Vals dvs ds
section
variable {k':Nat} {x:Str} {ps:List Str} {dvs:List V} {sp:Sp} {E:XK} {p:Pos} {es:List Expr} {k:Nat} {t:TA}
theorem Cal.ev (G:Cal X.prog X.w X.K X.mg X.base k x ps dvs sp) (hr:Room k' X.A) (hk:k<=k') (hg:Gl X x) (hx:JbG (CX1 X.prog X.w) X E) (ha:PA X (e::es) t)
  (hdb:(x == ("__debug__" : Str))=false:=by decide) (he:starEach (e::es) X.env=(false,eval e X.env)::starEach es X.env:=by first|exact Jai rfl|rfl) (hpl:(backTo pos (starEach es X.env)).any (·.1)=false:=by rfl) :
  PE X (.Call (.Name x p) (e::es) [] pos) (tCall sp dvs E t):=by
 obtain ⟨f,g,h,F,a,d,b,c⟩:=G.ex;exact Jjw F (hr.mono hk) hg a d b c hx ha hdb he hpl
theorem Cal.tr (G:Cal X.prog X.w X.K X.mg X.base k x ps dvs sp) (hr:Room k' X.A) (hk:k<=k') (hg:Gl X x) (ha:PA X.nox (e::es) t)
  (hdb:(x == ("__debug__" : Str))=false:=by decide) (he:starEach (e::es) X.env=(false,eval e X.env)::starEach es X.env:=by rfl) (hpl:(backTo pos (starEach es X.env)).any (·.1)=false:=by rfl) :
  PEx X (.Call (.Name x p) (e::es) [] pos) (xCall sp dvs t):=by
 obtain ⟨f,g,h,F,a,d,b,c⟩:=G.ex;exact Jic F (hr.mono hk) hg a d b c ha hdb he hpl
end
end L2
namespace Mth
def g (a b:Int):Int:=(Int.gcd a b:Nat)
theorem Jj8 (a:Int):g a 0=(a.natAbs:Int):=by unfold g;rw [Int.gcd_zero_right]
theorem g_pos {a b:Int} (h:b≠0):0<g a b:=by
 unfold g;exact Int.natCast_pos.mpr (Int.gcd_pos_of_ne_zero_right a h)
theorem Jdp (a b:Int):g a b∣a:=Int.gcd_dvd_left ..
theorem JcK (a b:Int):g a b∣b:=Int.gcd_dvd_right ..
theorem Jj7 (a b:Int):g b (a % b)=g a b:=by
 unfold g;rw [Int.gcd_comm b (a % b)];first
  | rw [Int.gcd_emod_left]
  | (rw [Int.emod_def];simp [Int.gcd_comm])
theorem Bcn (a b:Int):g (if a<0 then -a else a) (if b<0 then -b else b)=g a b:=by
 unfold g;split <;> split <;> simp [Int.neg_gcd,Int.gcd_neg]
theorem Jiu (a:Int):0<=(if a<0 then -a else a):=by split <;> ac_nf
theorem g_le {a b:Int} (h:b≠0):g a b<=(b.natAbs:Int):=by
 unfold g;exact Int.ofNat_le.mpr (Nat.le_of_dvd ∅ (Int.natAbs_dvd_natAbs.mpr (by simpa using Int.gcd_dvd_right (a:=a) (b:=b)) |> fun z=>by simpa using z))
theorem fm {x y:Int} (h:0<y):0<=x.fmod y/\x.fmod y<y:=by
 rw [Int.fmod_eq_emod_of_nonneg _ ∅];exact ⟨Int.emod_nonneg _ ∅,Int.emod_lt_of_pos _ h⟩
theorem Jjg {x y:Int} (h:0<y):g y (x.fmod y)=g x y:=by
 rw [Int.fmod_eq_emod_of_nonneg _ ∅];exact Jj7 x y
def by_ (t b:Int):Int:=if b<0 then -(g t b) else g t b
def top (t b:Int):Int:=t.fdiv (by_ t b)
def bot (t b:Int):Int:=b.fdiv (by_ t b)
theorem by_ne {t b:Int} (h:b≠0):by_ t b≠0:=by
 have:=g_pos (a:=t) h;unfold by_;split <;> ac_nf
theorem Ji6 (t b:Int):by_ t b∣t:=by
 unfold by_;split
 ·exact Int.neg_dvd.mpr (Jdp t b)
 ·exact Jdp t b
theorem Ji7 (t b:Int):by_ t b∣b:=by
 unfold by_;split
 ·exact Int.neg_dvd.mpr (JcK t b)
 ·exact JcK t b
theorem Jbf {a d:Int} (h:d∣a) (hd:d≠0):a.fdiv d*d=a:=by
 obtain ⟨k,rfl⟩:=h;rw [Int.mul_comm d k,Int.mul_fdiv_cancel _ hd]
theorem JfT {t b:Int} (h:b≠0):top t b*by_ t b=t:=Jbf (Ji6 t b) (by_ne h)
theorem Jed {t b:Int} (h:b≠0):bot t b*by_ t b=b:=Jbf (Ji7 t b) (by_ne h)
theorem Jdj {t b:Int} (h:b≠0):1<=bot t b:=by
 have c:=Jed (t:=t) h;have d:=g_pos (a:=t) h;by_cases f:b<0
 ·have e:by_ t b = -(g t b):=by unfold by_;rw [if_pos f]
  rw [e] at c;have i:bot t b*g t b = -b:=by rw [Int.mul_neg] at c;ac_nf
  rcases Int.lt_trichotomy (bot t b) 0 with z | z | z
  ·have:=Int.mul_neg_of_neg_of_pos z d;ac_nf
  ·rw [z] at i;ac_nf
  ·ac_nf
 ·have e:by_ t b=g t b:=by unfold by_;rw [if_neg f]
  rw [e] at c;rcases Int.lt_trichotomy (bot t b) 0 with z | z | z
  ·have:=Int.mul_neg_of_neg_of_pos z d;ac_nf
  ·rw [z] at c;ac_nf
  ·ac_nf
theorem cross {t b:Int} (h:b≠0):top t b*b=t*bot t b:=by
 have a:=JfT (t:=t) h;have c:=Jed (t:=t) h
 calc top t b*b=top t b*(bot t b*by_ t b):=by rw [c]
  _=(top t b*by_ t b)*bot t b:=by rw [Int.mul_comm (bot t b),Int.mul_assoc]
  _=t*bot t b:=by rw [a]
theorem Jhg (t b:Int):(by_ t b).natAbs=Int.gcd t b:=by
 unfold by_ g;split <;> simp
theorem g_low {t b:Int} (h:b≠0):g (top t b) (bot t b)=1:=by
 have a:0<Int.gcd t b:=Int.gcd_pos_of_ne_zero_right t h;have e:Int.gcd (top t b*by_ t b) (bot t b*by_ t b)=Int.gcd (top t b) (bot t b)*(by_ t b).natAbs:=Int.gcd_mul_right ..;rw [JfT h,Jed h,Jhg] at e;have : Int.gcd (top t b) (bot t b)=1:=by
  rcases Nat.lt_trichotomy (Int.gcd (top t b) (bot t b)) 1 with z | z | z
  ·have : Int.gcd (top t b) (bot t b)=0:=by ac_nf
   rw [this] at e;ac_nf
  ·exact z
  ·have:=Nat.mul_le_mul_right (Int.gcd t b) z;ac_nf
 unfold g;rw [this];rfl
theorem Jd0 {a b d:Int} (g1:Int.gcd a b=1) (h:b∣a*d):b∣d:=by
 have e:b.natAbs∣a.natAbs*d.natAbs:=by rw [<- Int.natAbs_mul];exact Int.natAbs_dvd_natAbs.mpr h
 have c:Nat.Coprime b.natAbs a.natAbs:=by
  unfold Nat.Coprime;rw [Nat.gcd_comm];exact g1
 exact Int.natAbs_dvd_natAbs.mp (c.dvd_of_dvd_mul_left e)
theorem JcV {a b c d:Int} (hb:1<=b) (hd:1<=d) (h1:g a b=1) (h2:g c d=1) (e:a*d=c*b):a=c/\b=d:=by
 have i:Int.gcd a b=1:=by unfold g at h1;ac_nf
 have f:Int.gcd c d=1:=by unfold g at h2;ac_nf
 have k:b∣d:=by
  have : b∣a*d:=⟨c,by rw [e,Int.mul_comm]⟩;exact Jd0 i this
 have h:d∣b:=by
  have : d∣c*b:=⟨a,by rw [<- e,Int.mul_comm]⟩;exact Jd0 f this
 have j:b=d:=Int.dvd_antisymm ∅ ∅ k h;subst j;refine ⟨?_,rfl⟩;exact Int.eq_of_mul_eq_mul_right ∅ e
theorem JkD {t b:Int} (h:b≠0):(top t b).natAbs<=t.natAbs:=by
 have c:=JfT (t:=t) h;have d:(by_ t b).natAbs≠0:=by have:=by_ne (t:=t) h;ac_nf
 have a:=congrArg Int.natAbs c;rw [Int.natAbs_mul] at a;rw [<- a];exact Nat.le_mul_of_pos_right _ ∅
theorem bot_le {t b:Int} (h:b≠0):(bot t b).natAbs<=b.natAbs:=by
 have c:=Jed (t:=t) h;have d:(by_ t b).natAbs≠0:=by have:=by_ne (t:=t) h;ac_nf
 have a:=congrArg Int.natAbs c;rw [Int.natAbs_mul] at a
 calc (bot t b).natAbs<=(bot t b).natAbs*(by_ t b).natAbs:=Nat.le_mul_of_pos_right _ ∅
  _=b.natAbs:=a
theorem Jjn {n k:Nat} (h:n<2 ^ k) (hk:k<9000):n.log2<9000:=by
 by_cases z:n=0
 ·rw [z];decide
 ·exact Nat.lt_trans ((Nat.log2_lt z).mpr h) hk
def Sz (n:Nat) (i:Int):Prop:=i.natAbs<2 ^ n
theorem Sz.mono {m n:Nat} {i:Int} (h:Sz m i) (k:m<=n):Sz n i:=Nat.lt_of_lt_of_le h (Nat.pow_le_pow_right ⋯ k)
theorem Sz.mul {m n:Nat} {i j:Int} (h:Sz m i) (k:Sz n j):Sz (m+n) (i*j):=by
 unfold Sz at *;rw [Int.natAbs_mul,Nat.pow_add];exact Nat.mul_lt_mul'' h k
theorem Sz.add {n:Nat} {i j:Int} (h:Sz n i) (k:Sz n j):Sz (n+1) (i+j):=by
 unfold Sz at *;have:=Int.natAbs_add_le i j;rw [Nat.pow_succ];ac_nf
theorem Sz.neg {n:Nat} {i:Int} (h:Sz n i):Sz n (-i):=by
 unfold Sz at *;rw [Int.natAbs_neg];exact h
theorem Sz.top {n:Nat} {t b:Int} (hb:b≠0) (h:Sz n t):Sz n (Mth.top t b):=Nat.lt_of_le_of_lt (JkD hb) h
theorem Sz.bot {n:Nat} {t b:Int} (hb:b≠0) (h:Sz n b):Sz n (Mth.bot t b):=Nat.lt_of_le_of_lt (bot_le hb) h
theorem Sz.lit {n:Nat} {i:Int} (h1 : -(2 ^ n)<i) (h2:i<2 ^ n):Sz n i:=by
 unfold Sz;have e:((2 ^ n:Nat):Int)=2 ^ n:=by simp
 ac_nf
end Mth
namespace Mth
theorem Jf8 {a b:Int} (h:g a b=1):Int.gcd a b=1:=by unfold g at h;ac_nf
theorem JhT {a b:Int} (h:Int.gcd a b=1):g a b=1:=by unfold g;rw [h];rfl
theorem Jeg {t x y:Int} (h1:Int.gcd t x=1) (h2:Int.gcd t y=1):Int.gcd t (x*y)=1:=by
 unfold Int.gcd at *;rw [Int.natAbs_mul];exact Nat.Coprime.mul_right h1 h2
theorem JdZ {x y:Int} (h:∀ k:Int,k∣x->k∣y->k∣1):Int.gcd x y=1:=by
 have:=h (Int.gcd x y:Nat) (Int.gcd_dvd_left ..) (Int.gcd_dvd_right ..);have z:=Int.natAbs_dvd_natAbs.mpr this;simp at z;exact z
theorem Jd1 {k x y:Int} (h:Int.gcd x y=1) (h1:k∣x) (h2:k∣y):k∣1:=by
 have z:=Int.dvd_coe_gcd h1 h2;rw [h] at z;exact z
theorem Jeh {t u x:Int} (h:Int.gcd t x=1) (d:u∣t):Int.gcd u x=1:=JdZ fun k a b=>Jd1 h (Int.dvd_trans a d) b
theorem JbY {x y:Int} (h:Int.gcd x y=1):Int.gcd y x=1:=by rw [Int.gcd_comm];exact h
theorem JgU {a b c d:Int} (h1:Int.gcd a b=1) (h2:Int.gcd d b=1):Int.gcd (a*d+c*b) b=1:=by
 have : Int.gcd b (a*d)=1:=Jeg (JbY h1) (JbY h2);refine JdZ fun k g f=>Jd1 this f ?_;have : k∣(a*d+c*b)-c*b:=Int.dvd_sub g (Int.dvd_mul_of_dvd_right f);have e:(a*d+c*b)-c*b=a*d:=by ac_nf
 rwa [e] at this
theorem Jde {a d:Int} (h:d∣a) (hd:1<=d) (ha:1<=a):1<=a.fdiv d:=by
 have e:=Jbf h ∅;rcases Int.lt_trichotomy (a.fdiv d) 0 with z | z | z
 ·have:=Int.mul_neg_of_neg_of_pos z (show 0<d by ac_nf);ac_nf
 ·rw [z] at e;ac_nf
 ·ac_nf
theorem Jf0 {b d s:Int} (hs:s=g b d) (p:1<=s):Int.gcd (b.fdiv s) (d.fdiv s)=1:=by
 have a:b.fdiv s*s=b:=Jbf (by rw [hs];exact Jdp ..) ∅;have f:d.fdiv s*s=d:=Jbf (by rw [hs];exact JcK ..) ∅;have e:Int.gcd (b.fdiv s*s) (d.fdiv s*s)=Int.gcd (b.fdiv s) (d.fdiv s)*s.natAbs:=Int.gcd_mul_right ..;rw [a,f] at e;have c:Int.gcd b d=s.natAbs:=by rw [hs];unfold g;simp
 rw [c] at e;rcases Nat.lt_trichotomy (Int.gcd (b.fdiv s) (d.fdiv s)) 1 with z | z | z
 ·have : Int.gcd (b.fdiv s) (d.fdiv s)=0:=by ac_nf
  rw [this] at e;ac_nf
 ·exact z
 ·have:=Nat.mul_le_mul_right s.natAbs z;ac_nf
theorem JjD {a b c d:Int} (hb:1<=b) (hd:1<=d) (h1:g a b=1) (h2:g c d=1) {s t r:Int} (hs:s=g b d) (ht:t=a*d.fdiv s+c*b.fdiv s) (hr:r=g t s) :
  t.fdiv r=top (a*d+c*b) (b*d)/\b.fdiv s*d.fdiv r=bot (a*d+c*b) (b*d):=by
 have q:1<=s:=by rw [hs];have:=g_pos (a:=b) (b:=d) ∅;ac_nf
 have x:1<=r:=by rw [hr];have:=g_pos (a:=t) (b:=s) ∅;ac_nf
 have z:s∣b:=by rw [hs];exact Jdp ..
 have n:s∣d:=by rw [hs];exact JcK ..
 have E:r∣t:=by rw [hr];exact Jdp ..
 have w:r∣s:=by rw [hr];exact JcK ..
 have B:r∣d:=Int.dvd_trans w n;have o:=Jbf z ∅;have j:=Jbf n ∅;have A:=Jbf E ∅;have y:=Jbf B ∅;have L:=Jbf w ∅;have N:=Jde z q hb;have M:=Jde n q hd;have F:=Jde B x hd;have f:=Jf0 hs q;have m:Int.gcd (t.fdiv r) (s.fdiv r)=1:=Jf0 hr x;have p:d.fdiv r=d.fdiv s*s.fdiv r:=by
  refine Int.eq_of_mul_eq_mul_right (a:=r) ∅ ?_;rw [y,Int.mul_assoc,L,j]
 have H:Int.gcd a (b.fdiv s)=1:=JbY (Jeh (JbY (Jf8 h1)) ⟨s,o.symm⟩);have K:Int.gcd c (d.fdiv s)=1:=JbY (Jeh (JbY (Jf8 h2)) ⟨s,j.symm⟩);have C:Int.gcd t (b.fdiv s)=1:=by rw [ht];exact JgU H (JbY f)
 have D:Int.gcd t (d.fdiv s)=1:=by rw [ht,Int.add_comm];exact JgU K f
 have v:g (t.fdiv r) (b.fdiv s*d.fdiv r)=1:=JhT (by
  rw [p];have k:t.fdiv r∣t:=⟨r,A.symm⟩;exact Jeg (Jeh C k) (Jeg (Jeh D k) m))
 have e:b*d≠0:=Int.mul_ne_zero ∅ ∅;have i:=g_low (t:=a*d+c*b) e;have h:=Jdj (t:=a*d+c*b) e;have u:=cross (t:=a*d+c*b) e;have l:1<=b.fdiv s*d.fdiv r:=by
  have:=Int.mul_pos (show 0<b.fdiv s by ac_nf) (show 0<d.fdiv r by ac_nf);ac_nf
 have J:t*s=a*d+c*b:=by
  rw [ht,Int.add_mul,Int.mul_assoc,Int.mul_assoc,j,o]
 have I:t.fdiv r*(b*d)=(a*d+c*b)*(b.fdiv s*d.fdiv r):=by
  have G:(t.fdiv r*(b*d))*r=((a*d+c*b)*(b.fdiv s*d.fdiv r))*r:=by
   calc (t.fdiv r*(b*d))*r=(t.fdiv r*r)*(b*d):=by ac_rfl
    _=t*((b.fdiv s*s)*d):=by rw [A,o]
    _=(t*s)*(b.fdiv s*d):=by ac_rfl
    _=(a*d+c*b)*(b.fdiv s*(d.fdiv r*r)):=by rw [J,y]
    _=((a*d+c*b)*(b.fdiv s*d.fdiv r))*r:=by ac_rfl
  exact Int.eq_of_mul_eq_mul_right ∅ G
 refine JcV l h v i ?_;refine Int.eq_of_mul_eq_mul_right (a:=b*d) e ?_
 calc (t.fdiv r*bot (a*d+c*b) (b*d))*(b*d)=(t.fdiv r*(b*d))*bot (a*d+c*b) (b*d):=by ac_rfl
  _=((a*d+c*b)*bot (a*d+c*b) (b*d))*(b.fdiv s*d.fdiv r):=by rw [I];ac_rfl
  _=(top (a*d+c*b) (b*d)*(b*d))*(b.fdiv s*d.fdiv r):=by rw [u]
  _=(top (a*d+c*b) (b*d)*(b.fdiv s*d.fdiv r))*(b*d):=by ac_rfl
theorem Jje {a d:Int} (h:d∣a) (hd:1<=d):(a.fdiv d).natAbs<=a.natAbs:=by
 have e:=congrArg Int.natAbs (Jbf h (show d≠0 by ac_nf));rw [Int.natAbs_mul] at e
 calc (a.fdiv d).natAbs<=(a.fdiv d).natAbs*d.natAbs:=Nat.le_mul_of_pos_right _ ∅
  _=a.natAbs:=e
theorem Sz.fdiv {n:Nat} {a d:Int} (h:Sz n a) (k:d∣a) (hd:1<=d):Sz n (a.fdiv d):=Nat.lt_of_le_of_lt (Jje k hd) h
theorem g_neg {a b:Int}:g (-a) b=g a b:=by unfold g;simp [Int.neg_gcd]
end Mth
namespace Mth
end Mth
namespace L2
open PySem PySem.Spec PyProof.Rows
section
variable {σ:St} {H:Hp} {Q:VK} {u:TS} {ta tb te:TE} {tA:TA} {r:R2} {E:XK} {sp:Sp} {D:Ends} {t:TS} {g:TG} {K:W.Frag}
theorem y8by:tSeq t u D σ H=t { D with nx:=u D } σ H:=rfl
theorem y78y:tNext D σ H=D.nx σ H:=rfl
theorem y2by:tAsg te g D σ H=te σ H fun x H1=>g x σ H1 D.nx:=rfl
variable {i:Nat} {v:V}
theorem y73y {R:St->Hp->Prop}:gName i v σ H R=R (σ.set i (some v)) H:=rfl
theorem y87y:tRet te D σ H=te σ H D.rt:=rfl
theorem y88y:tRetN D σ H=D.rt .non H:=rfl
theorem y49y:tDrop te D σ H=te σ H fun _ H1=>D.nx σ H1:=rfl
theorem y2fy:tC v σ H Q=Q v H:=rfl
theorem y7fy:tOp r ta tb σ H Q=ta σ H fun x H1=>tb σ H1 fun y H2=>r x y H2 Q:=rfl
theorem y9fy {f:V->Hp->VK->Prop}:tUn f ta σ H Q=ta σ H fun x H1=>f x H1 Q:=rfl
theorem y31y {f:List V->Hp->VK->Prop}:tCB f tA σ H Q=tA σ H fun vs H1=>f vs H1 Q:=rfl
variable {R:List V->Hp->Prop}
theorem y3ey:tCons ta tA σ H R=ta σ H fun x H1=>tA σ H1 fun xs H2=>R (x::xs) H2:=rfl
theorem y79y:tNil σ H R=R [] H:=rfl
variable {dvs:List V}
theorem y30y:tCall sp dvs E tA σ H Q=tA σ H fun vs H1=>sp (vs++dvs) H1 Q E:=rfl
variable {R:Bool->Hp->Prop}
theorem y92y:tTest te σ H R=te σ H fun x H'=>∃ k,x=.bl k/\R k H':=rfl
theorem y23y:tB te σ H R=te σ H fun x H'=>∃ k,x=.bl k/\R k H':=rfl
variable {a b:TT}
theorem y29y:tAnd a b σ H R=a σ H fun c H1=>if c=true then b σ H1 R else R false H1:=rfl
theorem y80y:tOr a b σ H R=a σ H fun c H1=>if c=true then R true H1 else b σ H1 R:=rfl
theorem y7by:tNot a σ H R=a σ H fun c H1=>R (!c) H1:=rfl
theorem y2ay:tAndV ta tb σ H Q=ta σ H fun x H1=>∃ c,x=.bl c/\if c=true then tb σ H1 Q else Q (.bl false) H1:=rfl
theorem y81y:tOrV ta tb σ H Q=ta σ H fun x H1=>∃ c,x=.bl c/\if c=true then Q (.bl true) H1 else tb σ H1 Q:=rfl
theorem y7dy:tNotV ta σ H Q=ta σ H fun x H1=>∃ c,x=.bl c/\Q (.bl (!c)) H1:=rfl
theorem y60y {c:TT}:tIfS c t u D σ H=c σ H fun b H1=>if b=true then t D σ H1 else u D σ H1:=rfl
theorem ya1y:tVar i σ H Q=∃ v,σ[i]?=some (some v)/\Q v H:=rfl
theorem y26y {i j:Int}:rAddU K (.int i) (.int j) H Q=Q (.int (i+j)) H:=rfl
theorem y27y {i j:Str}:rAddU K (.str i) (.str j) H Q=(i.length+j.length<=sizeLine/\Q (.str (i++j)) H):=rfl
variable {i j:Int}
theorem y90y {f:Int->Int->V}:rI0 f (.int i) (.int j) H Q=Q (f i j) H:=by
 unfold rI0;simp
theorem y77y {f:Int->V}:rU f (.int i) H Q=Q (f i) H:=by
 unfold rU;simp
theorem y70y:rMulU (.int i) (.int j) H Q=(IntMulOk i j/\Q (.int (i*j)) H):=rfl
theorem y4ey:Jhx (.int i) (.int j) H Q=(DivOk j/\Q (.int (i.fdiv j)) H):=rfl
theorem y6fy:rModU (.int i) (.int j) H Q=(j≠0/\Q (.int (i.fmod j)) H):=rfl
theorem y84y:rPowU (.int i) (.int j) H Q=(CPow i j/\Q (.int (i ^ j.toNat)) H):=rfl
theorem y34y {p:Int->Int->Bool}:rCmpU p (.int i) (.int j) H Q=Q (.bl (p i j)) H:=rfl
theorem y4cy:rEqU K (.int i) (.int j) H Q=Q (.bl (decide (i=j))) H:=rfl
theorem y75y:rNeU K (.int i) (.int j) H Q=Q (.bl (!decide (i=j))) H:=rfl
variable {i j:Str}
theorem y4dy:rEqU K (.str i) (.str j) H Q=Q (.bl (decide (i=j))) H:=rfl
theorem y76y:rNeU K (.str i) (.str j) H Q=Q (.bl (!decide (i=j))) H:=rfl
variable {i j:Bool}
theorem y4by:rEqU K (.bl i) (.bl j) H Q=Q (.bl (decide (i=j))) H:=rfl
theorem y74y:rNeU K (.bl i) (.bl j) H Q=Q (.bl (!decide (i=j))) H:=rfl
theorem y9ay:tTup tA σ H Q=tA σ H fun xs H1=>xs.length<=sizeLine/\∀ p,H1 p=none->Q (.ref p) (upd H1 p (.tup xs)):=rfl
theorem y6ay:tLst tA σ H Q=tA σ H fun xs H1=>xs.length<=sizeLine/\∀ p,H1 p=none->Q (.ref p) (upd H1 p (.lst xs)):=rfl
variable {x:V} {T:String}
theorem y66y:rIsi K [x, .ty T] H Q=(T∈["int","str","bool","list","tuple"]/\∃ t,tyN K H x t/\Q (.bl (isiB t T)) H):=rfl
variable {i:Int}
theorem y25y:rAbs [.int i] H Q=Q (.int (if i<0 then -i else i)) H:=rfl
variable {j:Int}
theorem y6ey:rMin [.int i, .int j] H Q=Q (.int (if j<i then j else i)) H:=rfl
variable {s:String}
theorem y9cy:tyN K H (.int i) s=(s="int"):=rfl
theorem y9ey {i:Str}:tyN K H (.str i) s=(s="str"):=rfl
theorem y9by {i:Bool}:tyN K H (.bl i) s=(s="bool"):=rfl
theorem y9dy:tyN K H .non s=(s="NoneType"):=rfl
end
theorem Jiy:bootBuiltins "abs"=some (.builtin "abs"):=by decide +kernel
theorem Jb4:bootBuiltins "len"=some (.builtin "len"):=by decide +kernel
theorem JjZ:bootBuiltins "max"=some (.builtin "max"):=by decide +kernel
theorem Jj1:bootBuiltins "sum"=some (.builtin "sum"):=by decide +kernel
theorem Jdm:bootBuiltins "sorted"=some (.builtin "sorted"):=by decide +kernel
theorem Jaj:bootBuiltins "isinstance"=some (.builtin "isinstance"):=by decide +kernel
theorem JjX:bootBuiltins "all"=some (.builtin "all"):=by decide +kernel
theorem JjY:bootBuiltins "int"=some (.type "int"):=by decide +kernel
theorem Jj0:bootBuiltins "str"=some (.type "str"):=by decide +kernel
theorem Ji5:bootBuiltins "bool"=some (.type "bool"):=by decide +kernel
theorem Jee:bootBuiltins "list"=some (.type "list"):=by decide +kernel
theorem JfY:bootBuiltins "tuple"=some (.type "tuple"):=by decide +kernel
theorem Jdl:bootBuiltins "reversed"=some (.type "reversed"):=by decide +kernel
theorem JcJ:bootBuiltins "ValueError"=some (.type "ValueError"):=by decide +kernel
theorem yby:isiB "int" "int"=true:=by decide
theorem ydy:isiB "int" "str"=false:=by decide
theorem yay:isiB "int" "bool"=false:=by decide
theorem ycy:isiB "int" "list"=false:=by decide
theorem yey:isiB "int" "tuple"=false:=by decide
theorem y15y:isiB "str" "int"=false:=by decide
theorem y17y:isiB "str" "str"=true:=by decide
theorem y14y:isiB "str" "bool"=false:=by decide
theorem y16y:isiB "str" "list"=false:=by decide
theorem y18y:isiB "str" "tuple"=false:=by decide
theorem y6y:isiB "bool" "int"=true:=by decide
theorem y8y:isiB "bool" "str"=false:=by decide
theorem y5y:isiB "bool" "bool"=true:=by decide
theorem y7y:isiB "bool" "list"=false:=by decide
theorem y9y:isiB "bool" "tuple"=false:=by decide
theorem y1y:isiB "NoneType" "int"=false:=by decide
theorem y3y:isiB "NoneType" "str"=false:=by decide
theorem y0y:isiB "NoneType" "bool"=false:=by decide
theorem y2y:isiB "NoneType" "list"=false:=by decide
theorem y4y:isiB "NoneType" "tuple"=false:=by decide
theorem y10y:isiB "list" "int"=false:=by decide
theorem y12y:isiB "list" "str"=false:=by decide
theorem yfy:isiB "list" "bool"=false:=by decide
theorem y11y:isiB "list" "list"=true:=by decide
theorem y13y:isiB "list" "tuple"=false:=by decide
theorem y1ay:isiB "tuple" "int"=false:=by decide
theorem y1cy:isiB "tuple" "str"=false:=by decide
theorem y19y:isiB "tuple" "bool"=false:=by decide
theorem y1by:isiB "tuple" "list"=false:=by decide
theorem y1dy:isiB "tuple" "tuple"=true:=by decide
theorem y1fy:("int"∈["int","str","bool","list","tuple"])=True:=by simp
theorem y21y:("str"∈["int","str","bool","list","tuple"])=True:=by simp
theorem y1ey:("bool"∈["int","str","bool","list","tuple"])=True:=by simp
theorem y20y:("list"∈["int","str","bool","list","tuple"])=True:=by simp
theorem y22y:("tuple"∈["int","str","bool","list","tuple"])=True:=by simp
variable {P:Program} {w:World} {scope:Scope} {A:Around} {s:Shared} {H:Hp}
theorem y24y {CX:CXT} {K:W.Frag} {mg:Str->Option Value} {base:Heap} {N:List Str} {qual:Str} {f:Addr} {cd:Value} {outer:List Env} {E:XK}:(cxOf CX P w K mg base N qual scope f cd A outer s H E).K=K:=rfl
def ForR (lo:Int) (n:Nat) (g:TG) (tb:TS) (D:Ends) (σ : St) (H:Hp):Prop:=∃ W:Nat->Nat->St->Hp->Prop,(∃ m,W 0 m σ H)/\∀ i m σ H,W i m σ H ->
 ((Itr lo n).stop i H/\D.nx σ H)\/((Itr lo n).go i H/\∃ N:St->Hp->Prop,(∀ σ' H',N σ' H'->∃ m',m'<m/\W (i+1) m' σ' H')/\∀ x H',(Itr lo n).yld i H x H'->g x σ H' fun σ2 H2=>tb { D with nx:=N,ct:=N,bk:=D.nx } σ2 H2)
def ForA (K:W.Frag) (a:Addr) (g:TG) (tb:TS) (D:Ends) (σ : St) (H:Hp):Prop :=
 ((∃ xs,SqL K H a xs)/\∃ W:Nat->Nat->St->Hp->Prop,(∃ m,W 0 m σ H)/\∀ i m σ H,W i m σ H ->
  ((Itl K a).stop i H/\D.nx σ H)\/((Itl K a).go i H/\∃ N:St->Hp->Prop,(∀ σ' H',N σ' H'->∃ m',m'<m/\W (i+1) m' σ' H')/\∀ x H',(Itl K a).yld i H x H'->g x σ H' fun σ2 H2=>tb { D with nx:=N,ct:=N,bk:=D.nx } σ2 H2)) \/
 ((∃ xs,SqT K H a xs)/\∃ W:Nat->Nat->St->Hp->Prop,(∃ m,W 0 m σ H)/\∀ i m σ H,W i m σ H ->
  ((Itt K a).stop i H/\D.nx σ H)\/((Itt K a).go i H/\∃ N:St->Hp->Prop,(∀ σ' H',N σ' H'->∃ m',m'<m/\W (i+1) m' σ' H')/\∀ x H',(Itt K a).yld i H x H'->g x σ H' fun σ2 H2=>tb { D with nx:=N,ct:=N,bk:=D.nx } σ2 H2))
variable {ta:TA} {tb:TS} {σ:St}
theorem y52y {g:TG} {D:Ends}:tFor (iRng1 ta) g tb D σ H=ta σ H fun vs H1=>∃ j:Int,vs=[.int j]/\-(2 ^ 62)<=j/\j<2 ^ 62/\ForR 0 j.toNat g tb D σ H1:=rfl
theorem y53y {g:TG} {D:Ends}:tFor (iRng2 ta) g tb D σ H=ta σ H fun vs H1=>∃ i j:Int,vs=[.int i, .int j]/\(-(2 ^ 62)<=i/\i<2 ^ 62/\-(2 ^ 62)<=j/\j<2 ^ 62)/\ForR i (j-i).toNat g tb D σ H1:=rfl
theorem y54y {K:W.Frag} {tl:TE} {g:TG} {D:Ends}:tFor (iAny K tl) g tb D σ H=tl σ H fun x H1=>∃ a,x=.ref a/\ForA K a g tb D σ H1:=rfl
variable {n:Nat}
theorem ForR.by {lo:Int} {g:TG} {D:Ends} (Pv:Nat->St->Hp->Prop) (h0:Pv 0 σ H)
  (hs:∀ i σ H,i<n->Pv i σ H->g (.int (lo+i)) σ H fun σ2 H2=>tb { D with nx:=Pv (i+1),ct:=Pv (i+1),bk:=D.nx } σ2 H2) (hd:∀ σ H,Pv n σ H->D.nx σ H):ForR lo n g tb D σ H:=Jg5 Pv h0 hs hd
variable {o:HO}
theorem Jhh {R:V->Hp->Prop} (h:∀ p H1,Same H H1->H1 p=some o->R (.ref p) H1):∀ p,H p=none->R (.ref p) (upd H p o):=fun p a=>
 h p _ (fun b u q=>by rw [Jag (Jae q a)];exact q) Jaq
variable {H':Hp} {p:Addr}
theorem newS (h:H p=none) (e:upd H p o=H'):Same H H':=fun b u q=>by rw [<- e,Jag (Jae q h)];exact q
theorem newE (e:upd H p o=H'):H' p=some o:=by rw [<- e,Jaq]
variable {i:Int}
theorem Jfs (h:Mth.Sz n i):Builtin.Int.intBits i<=n:=by
 unfold Builtin.Int.intBits;split
 ·exact Nat.zero_le _
 ·rename_i z;have : i.natAbs.log2<n:=(Nat.log2_lt (by simpa using z)).mpr h;ac_nf
variable {j:Int}
theorem mulOk {m:Nat} (h:Mth.Sz m i) (k:Mth.Sz n j) (hm:m<=2 ^ 20:=by decide) (hn:n<=2 ^ 20:=by decide):IntMulOk i j:=IntMulOk.of_bits (Nat.le_trans (Jfs h) hm) (Nat.le_trans (Jfs k) hn)
theorem divOk (h:j≠0) (k:Mth.Sz n j) (hn:n<9000:=by decide):DivOk j:=⟨h,Mth.Jjn k hn⟩
theorem len0:([]:List V).length<=sizeLine:=by decide
variable {a b:V}
theorem len2:[a,b].length<=sizeLine:=by show 2<=sizeLine;decide
variable {c d:V}
theorem len4:[a,b,c,d].length<=sizeLine:=by show 4<=sizeLine;decide
theorem len5 {e:V}:[a,b,c,d,e].length<=sizeLine:=by show 5<=sizeLine;decide
theorem Jb6 (h:decide (j≠0/\j.natAbs<2 ^ 64)=true):DivOk j:=by
 have z:=of_decide_eq_true h;exact divOk z.1 (n:=64) z.2
theorem Jbt (h:decide (i.natAbs<2 ^ 64)=true):IntMulOk i j:=by
 have z:i.natAbs<2 ^ 64:=of_decide_eq_true h;exact IntMulOk.of_left (Jfs (n:=64) z)
theorem Jb8 (h:decide (0<=j/\j<=1000000/\i.natAbs<2 ^ 64)=true):CPow i j:=by
 have z:0<=j/\j<=1000000/\i.natAbs<2 ^ 64:=of_decide_eq_true h;exact z
def FrV (K:W.Frag) (H:Hp) (v:V) (a b:Int):Prop:=∃ p,v=.ref p/\SqT K H p [.int a, .int b]
variable {v:V} {a b:Int}
theorem FrV.same {K:W.Frag} (S:Same H H') (h:FrV K H v a b):FrV K H' v a b:=by
 obtain ⟨p,e,q⟩:=h;exact ⟨p,e,q.same S⟩
theorem FrV.of {K:W.Frag} (h:H p=some (.tup [.int a, .int b])):FrV K H (.ref p) a b:=⟨p,rfl,SqT.of h⟩
variable {x:V} {r:List V} {Q:VK}
theorem ixT0 {K:W.Frag} (h:SqT K H p (x::r)) (q:Q x H):rIxU K (.ref p) (.int 0) H Q:=⟨_,x, .inr h,JcT (j:=0) rfl,q⟩
variable {y:V}
theorem ixT1 {K:W.Frag} (h:SqT K H p (x::y::r)) (q:Q y H):rIxU K (.ref p) (.int 1) H Q:=⟨_,y, .inr h,JcT (j:=1) rfl,q⟩
theorem ixF0 {K:W.Frag} (h:FrV K H v a b) (q:Q (.int a) H):rIxU K v (.int 0) H Q:=by
 obtain ⟨p,rfl,z⟩:=h;exact ixT0 z q
theorem ixF1 {K:W.Frag} (h:FrV K H v a b) (q:Q (.int b) H):rIxU K v (.int 1) H Q:=by
 obtain ⟨p,rfl,z⟩:=h;exact ixT1 z q
theorem FrV.rep {K:W.Frag} (h:FrV K H v a b):Rep K H (.tup [.int a, .int b]) v:=by
 obtain ⟨p,rfl,z⟩:=h;simp only [Rep,RepL];exact ⟨p,_,rfl,z,_,_,rfl,rfl,_,_,rfl,rfl,rfl⟩
theorem eqF {K:W.Frag} {c d:Int} (h:FrV K H x a b) (g:FrV K H y c d) (q:Q (.bl (decide (a=c)&&decide (b=d))) H):rEqU K x y H Q:=by
 have e:eqD (.tup [.int a, .int b]) (.tup [.int c, .int d])=(decide (a=c)&&decide (b=d)):=by
  simp only [eqD,eqL,Bool.and_true]
  congr 1 <;> simp [BEq.beq]
 have i:=h.rep;have f:=g.rep;obtain ⟨p,rfl,_⟩:=h;obtain ⟨j,rfl,_⟩:=g;exact ⟨_,_,i,f,by simp [depD,depL],rfl,by rw [e];exact q⟩
variable {xs:List V} {i:Nat}
theorem ixT {K:W.Frag} (h:SqT K H p xs) (e:xs[i]?=some v) (q:Q v H):rIxU K (.ref p) (.int (i:Int)) H Q:=⟨xs,v, .inr h,JcT e,q⟩
theorem ixL {K:W.Frag} (h:SqL K H p xs) (e:xs[i]?=some v) (q:Q v H):rIxU K (.ref p) (.int (i:Int)) H Q:=⟨xs,v, .inl h,JcT e,q⟩
section
open PySem.W PySem.Builtin PySem.Builtin.ObjectAttr PySem.Builtin.Getset_descriptor
variable {prog:Program} {E:Value->Shared->Prop} {K:Frag} {x:Addr} {ox:Obj} {D:Addr} {M:Model} {h:Heap}
theorem JfU (hx:h.get? x=some ox) (hc:ox.cls=.ref D):Looks M h (typeOf (.ref x)) (.ref D):=hc ▸ (Looks.ld hx).andThen .now
structure ExcC (K:W.Frag) (D:Addr):Prop where
 cl:W.hasDictIn K D=true
 ga:W.findIn K (.ref D) "__getattribute__"=some (some (.builtin "BaseException.__getattribute__"))
 gh:W.findIn K (.ref D) "__getattr__"=some none
 ca:W.findIn K (.ref D) "__class__"=some (some (.builtin "object.__class__"))
 cg:W.specialIn K (.builtin "object.__class__") "__get__"=some (some (.builtin "getset_descriptor.__get__"))
 ct:W.takesIn K (.builtin "object.__class__")=some true
 mo:W.mroIn K D (.type "object")=some true
 mb:W.mroIn K D (.type "BaseException")=some true
theorem JjS (X:K.In h) (c:ExcC K D):Looks M h (find (.ref x) (.ref D) "__class__") (.bind (.builtin "getset_descriptor.__get__") (.builtin "object.__class__")):=by
 have L1:=looks_findIn (M:=M) X c.ca;have L2:Looks M h (getOf (some (.builtin "object.__class__"))) (some (.builtin "getset_descriptor.__get__")):=looks_specialIn X c.cg;have L3:=looks_takesIn (M:=M) X c.ct;refine L1.andThen (L2.andThen ((show Looks M h (dataDescriptor? (some (.builtin "object.__class__")) (some (.builtin "getset_descriptor.__get__"))) (some (.builtin "getset_descriptor.__get__", .builtin "object.__class__")) from L3.andThen .now).andThen (Looks.tag .now)))
theorem JkI {tp:Value} {R:Result->Shared->Prop} (X:K.In s.heap) (hx:s.heap.get? x=some ox) (hc:ox.cls=.ref D) (c:ExcC K D) (q:R (.ok (.ret (.ref D))) s) :
  codeAny (model prog w) A (.call (.builtin "getset_descriptor.__get__") ⟨[.builtin "object.__class__", .ref x,tp],[]⟩) R s:=by
 obtain ⟨h,b,d,f,e⟩:=s;have g:=JfU (M:=model prog w) hx hc;have a:=looks_mroIn (M:=model prog w) X c.mo;refine codeAny_call_builtin (KF.slot_gs.plain) (KF.entry_gs) (KF.slot_gs.check _ _ _ _ _ _ _ _ (KF.type_class) (KF.args_gs _ _ _) ?_)
 (unfold Builtin.«getset_descriptor.__get__»;unfold descrGet)
 (rw [dga_obj];refine wpAny_bind (wpAny_pure ?_))
 (unfold descrGetter;unfold descrCheckInstance;unfold descrNameAndClass;unfold isInstance)
 (simp only [KF.owner_class];repeat lk)
 refine And.intro (Code.quiet_builtin _ (by decide +kernel)) (codeAny_builtin (KF.entry_class) ?_)
 (unfold Builtin.«object.__class__»;unfold shownTypeOf;repeat lk)
 exact q
theorem JjR {Q:Option Value->Shared->Prop} (X:K.In s.heap) (hx:s.heap.get? x=some ox) (hc:ox.cls=.ref D) (c:ExcC K D) (q:Q (some (.ref D)) { s with toks:=s.toks+1 }) :
  wpAny (model prog w) A (getAttr? (.ref x) "__class__") Q E s:=by
 obtain ⟨p,j,k,h,m⟩:=s;have e:=JfU (M:=model prog w) hx hc;have a:=looks_findIn (M:=model prog w) X c.ga;have d:=looks_findIn (M:=model prog w) X c.gh;have l:=JjS (M:=model prog w) (x:=x) X c;have n:=looks_mroIn (M:=model prog w) X c.mb;have g:bindSpecial (.builtin "BaseException.__getattribute__") (.ref x)=pure (.builtin "BaseException.__getattribute__",[.ref x]):=by kernel_rfl
 unfold getAttr? getAttrBy? getAttrBy;refine wpAny_bind (wpAny_mkText (wpAny_bind (wpAny_attempt (wpAny_holding (wpAny_bind (e.at (wpAny_bind (a.at ?_))))))));have b:(onTheHeap (Value.ref D)&&Value.builtin "BaseException.__getattribute__" == Value.builtin "object.__getattribute__")=false:=Bool.and_eq_false_iff.mpr (.inr (by decide +kernel));show wpAny _ _ (if (onTheHeap (Value.ref D)&&Value.builtin "BaseException.__getattribute__" == Value.builtin "object.__getattribute__")=true then _ else getAttrByItsOwn _ _ _ _ _ _) _ _ _;rw [if_neg (by rw [b];decide)];unfold getAttrByItsOwn hookBefore;refine wpAny_bind ?_;rw [if_pos (show onTheHeap (Value.ref D)=true from rfl)];refine d.at ?_;refine wpAny_bind (wpAny_attempt (wpAny_holding ?_));unfold callGetattribute boundAndCalled;rw [if_neg ⋯,g];refine wpAny_bind (wpAny_pure ?_);refine wpAny_call (codeAny_call_builtin (by decide +kernel) F.entry_bexc_ga ?_);have i:builtinKind "BaseException.__getattribute__"=some .slot:=by decide +kernel
 have f:splitId "BaseException.__getattribute__"=some ("BaseException","__getattribute__"):=by decide +kernel
 have o:=F.args_bexc_ga (.ref x) (.str "__class__" h)
 (simp only [checkBuiltinCall,i,f];refine wpAny_bind ?_)
 unfold isInstance;repeat (first | lk | wp_step)
 refine wpAny_run (JkI X hx hc c ?_);repeat (first | lk | wp_step)
 exact q
theorem JhX (c:ExcC K D):KitX K (.ref x) (.ref D) (fun h=>∃ ox,h.get? x=some ox/\ox.cls=.ref D) where
 ty:=fun _ _ _ ⟨ox,b,d⟩=>JfU b d
 it:=fun _ _ X _=>Jdr X c.cl
 ne:=fun h f i g n k X e=>by
  refine Bool.eq_false_iff.mpr fun q=>?_;obtain rfl:D=f:=Value.ref.inj (beq_iff_eq.mp q);obtain ⟨j,a,_⟩:=any_some c.cl
  (unfold clsIn at a;split at a)
  next ho=>have z:=X _ _ ho;rw [e] at z;cases z
  next=>cases a
 ca:=fun X ⟨ox,b,d⟩ q=>JjR X b d c q
end
variable {X:Cx}
def clsV:V->Value
 | .ty T=>.type T
 | .ref C=>.ref C
 | _=>.none
inductive TyU (K:W.Frag) (H:Hp):V->Value->Prop where
 | of {x:V} {t:Value} (h:TyOf K H x t):TyU K H x t
 | sql {a:Addr} {xs:List V} (h:SqL K H a xs):TyU K H (.ref a) (.type "list")
 | sqt {a:Addr} {xs:List V} (h:SqT K H a xs):TyU K H (.ref a) (.type "tuple")
 | exc {a C:Addr} {od:Option Addr} (e:H a=some (ExcO a C od)) (c:ExcC K C):TyU K H (.ref a) (.ref C)
def rIsiC (K:W.Frag):List V->Hp->VK->Prop:=fun xs H Q=>∃ x c t b,xs=[x,c]/\((∃ T,c=.ty T)\/∃ C,c=.ref C)/\TyU K H x t/\W.kitOne K t (clsV c)=some b/\Q (.bl b) H
theorem Jc7:CallR X (.builtin "isinstance") (rIsiC X.K):=fun i s σ H m E Q I r q=>by
 obtain ⟨x,c,t,b,rfl,A,y,e,q⟩:=q;obtain ⟨u,D,rfl,j,n⟩:=vals2 r;have w:D=clsV c:=by
  rcases A with ⟨T,rfl⟩ | ⟨C,rfl⟩
  ·exact n
  ·exact n
 subst w;have d:∀ l,EP X i σ Q (.bool b) { s with toks:=l }:=fun l=>⟨V.bl _,H,I.tok l,rfl,q⟩;cases y with
 | of h=>exact Jha I j h e d
 | @sql a m h=>
  cases (show u=Value.ref a from j);obtain ⟨k,_,p,_⟩:=I.list h;obtain ⟨o,_,g,f,_⟩:=p;exact W.kia_one W.kitx_list I.kIn ⟨o,g,f⟩ e (fun z=>nomatch z) d
 | @sqt a m h=>
  cases (show u=Value.ref a from j);obtain ⟨k,_,p,_⟩:=I.tuple h;obtain ⟨o,g,f,_⟩:=p;exact W.kia_one W.kitx_tuple I.kIn ⟨o,g,f⟩ e (fun z=>nomatch z) d
 | @exc a C od ea cc=>
  cases (show u=Value.ref a from j);have v:=I.hok a _ ea;obtain ⟨⟨B,F,g,f,_⟩,_⟩:=v;exact W.kia_one (JhX cc) I.kIn ⟨B,g,f⟩ e (fun z=>nomatch z) d
section
variable {En:Ends} {u:TS} {ta tb te tc td:TE} {gs:TGs} {tA:TA} {E:XK} {sp:Sp} {t:TS} {g:TG} {K:W.Frag}
theorem y8ey {r:V->Option Int->Option Int->Hp->VK->Prop} {tl th:TO}:tSl r te tl th σ H Q=te σ H fun x H1=>tl σ H1 fun l H2=>th σ H2 fun u H3=>r x l u H3 Q:=rfl
variable {R:Option Int->Hp->Prop}
theorem y83y:tPart te σ H R=te σ H fun x H1=>∃ i,x=.int i/\R (some i) H1:=rfl
theorem y7ay:JhJ σ H R=R none H:=rfl
theorem y96y {D0:Addr} {tx:St->Hp->VK->XK->Prop} {ts:TS}:JiY K D0 i tx ts En σ H=tx σ H (fun _ H1=>En.nx σ H1) fun cls od H1=>∃ C,cls=.ref C/\Jbm K C D0 /\
 ∀ ea,H1 ea=none->ts { nx:=fun σ' H'=>En.nx (σ'.set i none) H',rt:=En.rt,bk:=fun σ' H'=>En.bk (σ'.set i none) H',ct:=fun σ' H'=>En.ct (σ'.set i none) H' } (σ.set i (some (.ref ea))) (upd H1 ea (ExcO ea C od)):=rfl
variable {dvs:List V}
theorem ya2y {Qx:VK} {Ex:XK}:xCall sp dvs tA σ H Qx Ex=tA σ H fun vs H1=>sp (vs++dvs) H1 Qx Ex:=rfl
variable {C:Addr}
theorem y85y:JiX E C tA En σ H=tA σ H fun vs H1=>vs.length<=sizeLine/\E (.ref C) none H1:=rfl
variable {a:Addr} {od:Option Addr} {b:Bool}
theorem isiX (e:H a=some (ExcO a C od)) (x:ExcC K C) (hc:(∃ T,c=.ty T)\/∃ C,c=.ref C) (k:W.kitOne K (.ref C) (clsV c)=some b) (q:Q (.bl b) H):rIsiC K [.ref a,c] H Q :=
 ⟨_,_,_,b,rfl,hc, .exc e x,k,q⟩
theorem isiXr {c:Addr} (e:H a=some (ExcO a C od)) (x:ExcC K C) (k:W.kitOne K (.ref C) (.ref c)=some b) (q:Q (.bl b) H):rIsiC K [.ref a, .ref c] H Q:=isiX e x (.inr ⟨_,rfl⟩) k q
variable {T:String}
theorem isiXt (e:H a=some (ExcO a C od)) (x:ExcC K C) (k:W.kitOne K (.ref C) (.type T)=some b) (q:Q (.bl b) H):rIsiC K [.ref a, .ty T] H Q:=isiX e x (.inl ⟨_,rfl⟩) k q
theorem Jew:∀ bs:List Bool,RepL K H (bs.map D.bl) (bs.map V.bl)
 | []=>by simp only [map_nil,RepL]
 | b::bs=>by simp only [map_cons,RepL,Rep];exact ⟨_,_,rfl,rfl,Jew bs⟩
theorem JiF:∀ as bs:List Bool,eqL (as.map D.bl) (bs.map D.bl)=decide (as=bs)
 | [],[]=>by simp [eqL]
 | [],_::_=>by simp [eqL]
 | _::_,[]=>by simp [eqL]
 | a::as,b::bs=>by
  simp only [map_cons,eqL,eqD,JiF as bs,List.cons.injEq];cases a <;> cases b <;> simp
theorem Jfv:∀ bs:List Bool,depL (bs.map D.bl)=0
 | []=>by simp [depL]
 | b::bs=>by simp [depL,depD,Jfv bs]
theorem JaF {K:W.Frag} (hK:X.K=K) {x:Str} {p pos:Pos} {e:Expr} {es:List Expr} {t:TA} (hg:Gl X x) (hm:X.mg x=none) (hv:bootBuiltins x=some (.builtin "isinstance")) (ha:PA X (e::es) t) (hn:x≠"__name__":=by decide)
  (hdb:(x == ("__debug__" : Str))=false:=by decide) (he:starEach (e::es) X.env=(false,eval e X.env)::starEach es X.env:=by rfl) (hpl:(backTo pos (starEach es X.env)).any (·.1)=false:=by rfl) :
  PE X (.Call (.Name x p) (e::es) [] pos) (tCB (rIsiC K) t):=hK ▸ Jaz Jc7 hg hm hv ha hn hdb he hpl
end
def Its (x:Str):It:=⟨fun i _=>i<x.cps.size,fun i H v H'=>H'=H/\∃ c,x.cps[i]?=some c/\v=.str ⟨#[c]⟩,fun i _=>i=x.cps.size⟩
variable {tg:Expr}
theorem Jfn {K:W.Frag} {it:Addr} {x:Str} {n:String} {St:Nat->Heap->Prop} (hn:["enumerate","zip","dict_itemiterator","dict_reverseitemiterator","odict_iterator","itertools.zip_longest","itertools.pairwise"].contains n=false)
  (hst:∀ i h,St i h->∃ o vs,h.get? it=some o/\o.cls=.type n/\o.data=.fields vs) (mk:∀ A:Around,A.handled=none->Walks P w A it [it] [it] x.cps.size (SignAt x) St)
  (hself:∀ (A:Around) (i:Nat) (s:Shared) (Q:Value->Shared->Prop) (E:Value->Shared->Prop),St i s.heap->Q (.ref it) s->wpAny (model P w) A (pyIter (.ref it)) Q E s):Turn P w K tg (Its x) [it] it St where
 mem:=by simp
 obj:=fun i h g b a=>by
  obtain rfl:b=it:=by simpa using a
  obtain ⟨o,vs,e,_,d⟩:=hst i h g;exact ⟨o,e,fun v z=>by rw [d] at z;cases z⟩
 keep:=fun i h j g k=>(mk {} rfl).frame i h j g fun b a o e=>k b a o e
 item:=by
  intro X M L B D i f s σ H E I m g F;subst M L B;obtain ⟨y,r,T,q,t,N⟩:=m it (by simp);refine (mk X.A (I.ok.hd D)).item i s _ _ F g fun v j J U l C=>?_;obtain ⟨c,u,G,rfl⟩:=U;have I1:Inv X f σ H { s with heap:=j,toks:=J }:=I.turned (fun b o a e=>C b o (by simpa using a) e) y r q t N;obtain ⟨o,vs,R,O,S⟩:=hst _ _ l;exact ⟨_,rfl,go_of (s:={ s with heap:=j,toks:=J }) R O S hn ⟨.str ⟨#[c]⟩,H,I1,⟨u,rfl⟩,⟨rfl,c,G,rfl⟩,l,fun b a=>(m b a).1⟩⟩
 done:=by
  intro X M L B D i f s σ H E I m g F;subst M L B;obtain ⟨y,r,T,q,t,N⟩:=m it (by simp);have p:i=x.cps.size:=F;subst p;exact (mk X.A (I.ok.hd D)).done s _ _ g fun j J C=>⟨rfl,I.turned (fun b o a e=>C b o (by simpa using a) e) y r q t N⟩
 self:=hself
def iStr (tl:TE):TI:=fun σ H R=>tl σ H fun x H1=>∃ z,x=.str z/\R (Its z) H1
theorem Jks {l:Expr} {tl:TE} (hl:PE X l tl):PI X tg l (iStr tl):=fun f s σ H R I h=>by
 refine thn (hl f s σ H _ I h) fun v d ζ=>?_;obtain ⟨x,p,I1,u,z,k,q⟩:=ζ;subst k;obtain ⟨t,rfl⟩:=u;have key:∀ (n:String),(n="str_ascii_iterator"\/n="str_iterator")->PIE X f σ tg R (.ref d.heap.objs.size) { d with heap:=d.heap.push { cls:=.type n,data:=.fields #[.str z t, .int 0 0] } }:=fun n y=>by
  have r:Turn X.prog X.w X.K tg (Its z) [d.heap.objs.size] d.heap.objs.size (fun i h=>h.IsStrIter d.heap.objs.size n z t i):=by
   rcases y with rfl | rfl
   ·exact Jfn (n:="str_ascii_iterator") ⋯ (fun i h g=>let ⟨o,a,b,c⟩:=g;⟨o,_,a,b,c⟩) (fun A j=>Walks.strAscii j _ z t) fun A i s Q E g q=>wpAny_pyIter_striter_ascii g q
   ·exact Jfn (n:="str_iterator") ⋯ (fun i h g=>let ⟨o,a,b,c⟩:=g;⟨o,_,a,b,c⟩) (fun A j=>Walks.strWide j _ z t) fun A i s Q E g q=>wpAny_pyIter_striter_wide g q
  refine ⟨d.heap.objs.size,[d.heap.objs.size],_,_,p,rfl,I1.kept (t':=d.toks) fun b o e=>Heap.get?_push_of_some _ e,r,⟨_,Heap.get?_push_size _ rfl,rfl,rfl⟩,fun b m=>?_,q⟩;obtain rfl:b=d.heap.objs.size:=by simpa using m
  exact I1.fpOk (Nat.le_refl _) (I1.hok.fresh (Nat.le_refl _))
 cases ha:z.cps.all (· < 128)
 ·exact wpAny_pyIter_wide ha (key _ (.inr rfl))
 ·exact wpAny_pyIter_ascii ha (key _ (.inl rfl))
abbrev Cx.inc (X:Cx) (N':List Str) (scope:Scope) (cl:List (Str × Addr)) (fp:List Addr) (s2:Shared) (H2:Hp) (C:Addr):Cx :=
 { X with N:=N',s₀:=s2,H₀:=H2,env:=compEnvC scope cl C X.env,outer:=X.stack,ex:=fp,fn:=fun _=>false,pn:=[],xe:=fun _ _=>False }
variable {pins:List (Addr × Obj)} {H2:Hp} {s2:Shared} {N':List Str} {cl:List (Str × Addr)} {fp:List Addr} {C:Addr}
theorem Inv.incOk (I:Inv X pins σ H2 s2) (hf:∀ b∈fp,FpOk X pins H2 b) (hfp:∀ b∈fp,b<s2.heap.objs.size) (hk:scope.kind=.function) (hC:s2.heap.objs.size<=C) (hcl:∀ x c,cl.lookup x=some c->X.env.cells.lookup x=some c)
  (hhas:∀ y,((relabel scope X.env).names.lookup y=some .cell\/(relabel scope X.env).names.lookup y=some .free)->∃ c,cl.lookup y=some c):(X.inc N' scope cl fp s2 H2 C).Ok where
 mod:=I.ok.mod
 kind:=hk
 glob:=I.ok.glob
 blt:=I.ok.blt
 above:=hC
 inj:=fun x y c g f=>I.ok.inj x y c (hcl x c g) (hcl y c f)
 has:=fun y i=>hhas y i
 cab:=fun x c h=>by cases h
 hd:=I.ok.hd
 frames:=I.ok.frames
 stk:=.inl rfl
 exf:=fun b a=>⟨Nat.ne_of_lt (Nat.lt_of_lt_of_le (hfp b a) hC),fun x c e=>(hf b a).2.2.2.2.1 x c (hcl x c e)⟩
 bs:=I.bs
 bsz:=Nat.le_trans I.ok.bsz I.sz
 noex:=fun b o e a=>by
  rcases (hf b a).2.2.2.1 with z | z
  ·exact I.ok.noex b o e z
  ·exact absurd (Nat.lt_of_lt_of_le (Nat.lt_of_lt_of_le (Heap.lt_size e) I.ok.bsz) z) (Nat.lt_irrefl _)
 exfs:=fun b a d=>by
  rcases mem_cons.mp (I.stkSub b d) with z | z
  ·exact (hf b a).2.1 z
  ·exact (hf b a).2.2.1 z
 funs:=I.stack
 frf:=I.stkFree
def JaZ (cs:List (Nat × Str)) (σ : St):St:=cs.map fun p=>(σ[p.1]?).join
variable {s4:Shared} {own:List Str}
theorem Inv.capsLoc {m:Str->Option Value} {cs:List (Nat × Str)} (I:Inv X pins σ H2 s2) (ok:(X.inc (own++cs.map (·.2)) scope cl fp s2 H2 C).Ok) (kept:∀ c v,(∃ x,cl.lookup x=some c)->s2.heap.IsCell c v->s4.heap.IsCell c v)
  (hcl:∀ x c,cl.lookup x=some c->X.env.cells.lookup x=some c) (hcs:∀ p∈cs,X.N[p.1]?=some p.2/\X.env.scope.names.lookup p.2=some .cell/\(relabel scope X.env).names.lookup p.2=some .cell) :
  ∀ (i:Nat) (x:Str) (v:V),(own++cs.map (·.2))[i]?=some x->(List.replicate own.length none++JaZ cs σ)[i]?=some (some v)->∃ u,RelV v u/\Look (compEnvC scope cl C X.env) s4.heap m x u:=fun i x v r d=>by
  by_cases l:i<own.length
  ·rw [List.getElem?_append_left (by simpa using l),List.getElem?_replicate,if_pos l] at d;cases d
  ·have b:(JaZ cs σ)[i-own.length]?=some (some v):=by rw [List.getElem?_append_right (by simp;ac_nf)] at d;simpa using d
   have a:(cs.map (·.2))[i-own.length]?=some x:=by
    rwa [List.getElem?_append_right ∅] at r
   unfold JaZ at b;rw [List.getElem?_map] at a b;cases q:cs[i-own.length]? with
   | none=>rw [q] at a;cases a
   | some p=>
    rw [q] at a b;obtain rfl:p.2=x:=by simpa using a
    have e:(σ[p.1]?).join=some v:=by simpa using b
    have f : σ[p.1]?=some (some v):=by
     cases z : σ[p.1]? with
     | none=>rw [z] at e;cases e
     | some o=>rw [z] at e;exact congrArg some e
    obtain ⟨t,j,h⟩:=hcs p (List.mem_of_getElem? q);obtain ⟨w,_,s⟩:=I.loc;obtain ⟨u,n,lk⟩:=s p.1 p.2 v t f (.inr (.inl j));refine ⟨u,n, .inr ⟨.inl h,?_⟩⟩;obtain ⟨c,g⟩:=ok.has p.2 (.inl h);refine ⟨c,g,?_⟩;rcases lk with ⟨k,_⟩ | ⟨_,c',e',hcell⟩
    ·have k:X.env.scope.names.lookup p.2=some .local:=k;rw [j] at k;cases k
    ·rw [hcl _ _ g] at e';cases e';exact kept _ _ ⟨_,g⟩ hcell
theorem Inv.incStart {m:Str->Option Value} {cs:List (Nat × Str)} (I:Inv X pins σ H2 s2) (ok:(X.inc (own++cs.map (·.2)) scope cl fp s2 H2 C).Ok) (kept:∀ b o,s2.heap.get? b=some o->s4.heap.get? b=some o) (hos:s4.os=s2.os) (hg:s4.gens=s2.gens) (hm:s4.heap.Ns C m)
  (hC:s2.heap.objs.size<=C) (hcl:∀ x c,cl.lookup x=some c->X.env.cells.lookup x=some c)
  (hcs:∀ p∈cs,X.N[p.1]?=some p.2/\X.env.scope.names.lookup p.2=some .cell/\(relabel scope X.env).names.lookup p.2=some .cell) :
  Inv (X.inc (own++cs.map (·.2)) scope cl fp s2 H2 C) [] (List.replicate own.length none++JaZ cs σ) H2 s4 where
 ok:=ok
 os:=hos
 bare:=by rw [hg];exact I.bare
 base:=Un.kept kept
 loc:=⟨m,hm,fun i x v g f _=>I.capsLoc (m:=m) ok (fun c v _ ⟨o,a,d⟩=>⟨o,kept _ _ a,d⟩) hcl hcs i x v g f⟩
 cell:=fun x c e=>by
  obtain ⟨v,o,a,d⟩:=I.cell x c (hcl x c e);exact ⟨v,o,kept _ _ a,d⟩
 free:=I.hok.fresh hC
 freeC:=fun x c e=>I.freeC x c (hcl x c e)
 pin:=fun p h=>by simp at h
 hok:=I.hok.kept kept
 len:=by simp [JaZ]
theorem Inv.incAgain {s':Shared} {σ':St} {pl:List (Addr × Obj)} {cs:List (Nat × Str)} (I:Inv X pins σ H2 s2) (J:Inv (X.inc (own++cs.map (·.2)) scope cl fp s2 H2 C) pl σ' H' s')
  (hf:∀ b∈fp,FpOk X pins H2 b) (hcl:∀ x c,cl.lookup x=some c->X.env.cells.lookup x=some c) (hcs:∀ p∈cs,X.N[p.1]?=some p.2/\X.env.scope.names.lookup p.2=some .cell/\(relabel scope X.env).names.lookup p.2=some .cell) :
  Inv (X.inc (own++cs.map (·.2)) scope cl fp s2 H2 C) [] (List.replicate own.length none++JaZ cs σ) H' s' where
 ok:=J.ok
 os:=J.os
 bare:=J.bare
 base:=J.base
 loc:=by
  obtain ⟨m,a,_⟩:=J.loc;refine ⟨m,a,fun i x v j h _=>I.capsLoc (m:=m) J.ok (fun c v ⟨x,d⟩ ⟨o,f,g⟩=>?_) hcl hcs i x v j h⟩;have e:c∉fp:=fun z=>(hf c z).2.2.2.2.1 x c (hcl x c d) rfl;by_cases a:c∈frs X.stack
  ·obtain ⟨l,z⟩:=J.base.slot c o f (I.freeC x c (hcl x c d)) a e;exact ⟨_,z,g⟩
  ·exact ⟨o,J.base.keep c o f (I.freeC x c (hcl x c d)) a e,g⟩
 cell:=J.cell
 free:=J.free
 freeC:=J.freeC
 pin:=fun p k=>by simp at k
 hok:=J.hok
 len:=by simp [JaZ]
variable {prog:Program} {E:Value->Shared->Prop} {R:Result->Shared->Prop} {elt iter:Expr} {pos:Pos} {env:Env}
theorem Jgt {target:Expr} {it acc:Value} (J:Nat->Shared->Prop)
  (turn:∀ n s,J n s->wpAny (model prog w) A (pyNext it) (fun r s1=>match r with
   | none=>R (.ok .next) s1
   | some v=>wpAny (model prog w) A (letOwnedTupleGo target it v) (fun _ s2=>wpAny (model prog w) A (assign target env v) (fun _ s3=>wpAny (model prog w) A (eval elt env) (fun x s4=>
     wpAny (model prog w) A (call (.builtin "list.append") [acc,x]) (fun _ s5=>∃ m,m<n/\J m s5) (fun _ _=>False) s4) (fun _ _=>False) s3) (fun _ _=>False) s2) (fun _ _=>False) s1) (fun _ _=>False) s) (n:Nat) (h:J n s) :
  codeAny (model prog w) A (.compLoop (.ListComp elt [⟨target,iter,[],0⟩] scope pos) 0 it acc env) R s:=by
 refine codeAny_loop rfl J (fun n s f=>?_) n h;show wpAny _ A ((compTurn (.ListComp elt [⟨target,iter,[],0⟩] scope pos) 0 it acc env).onRaise (fun y=>do noteFrame y env;theTreesLotGoes y)) _ _ s
 (refine wpAny_noted ?_;rw [compTurn_list])
 refine wpAny_bind (wpAny_standAt (wpAny_bind (wpAny_mono (turn n s f) (fun r s1 a=>?_) fun _ _ z=>z.elim)));cases r with
 | none=>exact wpAny_pure a
 | some v=>
  refine wpAny_bind (wpAny_mono a (fun _ s2 b=>wpAny_bind (wpAny_mono b (fun _ s3 e=>?_) fun _ _ z=>z.elim)) fun _ _ z=>z.elim);refine wpAny_bind (wpAny_tests_nil ?_);exact wpAny_bind (wpAny_bind (wpAny_mono e (fun x s4 c=>(wpAny_bind (wpAny_mono c (fun _ s5 d=>(wpAny_pure (wpAny_pure ⟨rfl,d⟩))) fun _ _ z=>z.elim))) fun _ _ z=>z.elim))
def tComp (k:Nat) (cs:List (Nat × Str)) (wi:TI) (g:TG) (te:TE):TE:=fun σ H Q=>wi σ H fun J H1=>∃ W:Nat->Nat->List V->Hp->Prop,(∃ m,W 0 m [] H1)/\∀ i m ys H2,W i m ys H2->ys.length<=sizeLine /\
  ((J.stop i H2/\∀ p,H2 p=none->Q (.ref p) (upd H2 p (.lst ys))) \/
   (J.go i H2/\∀ x H3,J.yld i H2 x H3->g x (List.replicate k none++JaZ cs σ) H3 fun σ4 H4=>te σ4 H4 fun y H5=>∃ m',m'<m/\W (i+1) m' (ys++[y]) H5))
theorem lstP {us:List Value} {v:Value}:(us.toArray.push v)=(us++[v]).toArray:=by simp
def rInU (K:W.Frag):R2:=fun x y H Q=>match x,y with
 | .str i, .str j=>Q (.bl (!(Builtin.Str.occurrences j i 0 j.length 1).isEmpty)) H
 | x,y=>rIn K false x y H Q
theorem Jkn:OpR X (compareOp .In) (rInU X.K):=fun a s σ H x y v u Q I c b q=>by
 unfold rInU at q;split at q
 ·exact Jho a s σ H _ _ v u Q I c b ⟨_,_,rfl,rfl,q⟩
 ·exact Jhn a s σ H _ _ v u Q I c b q
theorem Jkm {K:W.Frag} (hK:X.K=K):OpR X (compareOp .In) (rInU K):=hK ▸ Jkn
theorem ix_UK {K:W.Frag} (hK:X.K=K):IxR X (rIxU K):=hK ▸ ix_U
theorem y62y {K:W.Frag} {i j:Str}:rInU K (.str i) (.str j) H Q=Q (.bl (!(Builtin.Str.occurrences j i 0 j.length 1).isEmpty)) H:=rfl
theorem all_range:∀ bs:List Bool,(List.range bs.length).all (fun i=>bs.getD i false)=bs.all id:=fun bs=>by
 rw [Bool.eq_iff_iff];simp only [List.all_eq_true,mem_range,id];constructor
 ·intro h x b;obtain ⟨i,a,rfl⟩:=List.mem_iff_getElem.mp b;have:=h i a;simpa [List.getD_eq_getElem?_getD,a] using this
 ·intro h i a;have:=h bs[i] (List.getElem_mem a);simpa [List.getD_eq_getElem?_getD,a] using this
def rAll (K:W.Frag):List V->Hp->VK->Prop:=fun xs H Q=>∃ (p:Addr) (bs:List Bool),xs=[.ref p]/\SqL K H p (bs.map V.bl)/\Q (.bl (bs.all id)) H
theorem JgP (hc:X.calm=true):CallR X (.builtin "all") (rAll X.K):=fun n s σ H E L Q I r q=>by
 obtain ⟨p,c,rfl,B,q⟩:=q;obtain ⟨a,f,h,J⟩:=I.list B;obtain ⟨u,rfl,o⟩:=vals1 r;cases (show u=Value.ref p from o);refine call_all_walk (wpAny_pyIter_list h.isList ?_);have g:p<s.heap.objs.size:=by
  obtain ⟨_,e,_⟩:=h.isList;exact Heap.lt_size e
 refine ⟨s.heap.objs.size,_,_,a.toArray.size,_,_,fun i=>c.getD i false,rfl,Walks.list (by show X.A.handled=none;exact I.ok.hd hc) s.heap.objs.size p (Nat.ne_of_lt g) a.toArray,⟨⟨_,Heap.get?_push_size _ rfl,rfl,rfl⟩,h.isList.push _⟩,?_,?_⟩
 ·intro i v N Q' E' D w;have d:a[i]?=some v:=by simpa using D
  have j:i<c.length:=by
   obtain ⟨M,_⟩:=List.getElem?_eq_some_iff.mp d;have l:=f.length;rw [length_map] at l;ac_nf
  obtain ⟨F,m,t⟩:=f.get (i:=i) (x:=.bl c[i]) (by simp [j]);rw [d] at m;cases m;cases (show v=Value.bool c[i] from t);refine wpAny_truthy_bool ?_;simpa [List.getD_eq_getElem?_getD,j] using w
 ·intro G C k;have l:=f.length;rw [length_map] at l;have y:(List.range a.toArray.size).all (fun i=>c.getD i false)=c.all id:=by rw [size_toArray, <- l];exact all_range c
  rw [y];exact ⟨.bl _,H,I.kept (t':=C) fun b z e=>k b z (by have:=Heap.lt_size e;simp;exact Nat.ne_of_lt this) (Heap.get?_push_of_some _ e),rfl,q⟩
def rSlS:V->Option Int->Option Int->Hp->VK->Prop:=fun x lo hi H Q=>∃ z,x=.str z/\z.length<=sizeLine/\Q (.str (Txt.slice z lo hi)) H
theorem Jky:SlR X rSlS:=fun b s σ H x v vl n j g m Q I f c i pu h=>by
 obtain ⟨z,rfl,d,q⟩:=h;obtain ⟨t,rfl⟩:=f;refine ⟨"str",_,F.slot_str_getitem.lookup,typeIs_str _ _ _,?_⟩;have a:∀ (e:Tok) (k:Nat),EP X b σ Q (.str (Txt.slice z j g) e) { s with toks:=k }:=fun e k=>⟨.str _,H,I.tok k,⟨_,rfl⟩,q⟩;cases i <;> cases pu
 ·exact wpAny_getItem_str_slice (l:=none) (u:=none) (st:=none) c rfl (post_val_or_str ⟨Nat.le_trans (Txt.slice_le z _ _) d,a⟩)
 ·exact wpAny_getItem_str_slice (l:=none) (u:=some (_,_)) (st:=none) c rfl (post_val_or_str ⟨Nat.le_trans (Txt.slice_le z _ _) d,a⟩)
 ·exact wpAny_getItem_str_slice (l:=some (_,_)) (u:=none) (st:=none) c rfl (post_val_or_str ⟨Nat.le_trans (Txt.slice_le z _ _) d,a⟩)
 ·exact wpAny_getItem_str_slice (l:=some (_,_)) (u:=some (_,_)) (st:=none) c rfl (post_val_or_str ⟨Nat.le_trans (Txt.slice_le z _ _) d,a⟩)
def rSlV (K:W.Frag):V->Option Int->Option Int->Hp->VK->Prop:=fun x lo hi H Q=>rSlU K x lo hi H Q\/rSlS x lo hi H Q
theorem sl_V:SlR X (rSlV X.K):=SlR.or sl_U Jky
theorem slTo {K:W.Frag} {z:Str} {j:Nat} (hz:z.length<=sizeLine) (hj:j<=z.length) (q:Q (.str ⟨(z.cps.toList.take j).toArray⟩) H):rSlV K (.str z) none (some (j:Int)) H Q:=by
 refine .inr ⟨z,rfl,hz,?_⟩;have a:z.cps.toList.length=z.length:=by simp [Str.length]
 have e:Txt.slice z none (some (j:Int))=⟨(z.cps.toList.take j).toArray⟩:=by
  have:=StrLaws.sliceText_to (x:=z) (j:=j) ⟨Int.natCast_nonneg _,by ac_nf⟩;refine Eq.trans this ?_
  congr 1
 rw [e];exact q
theorem hcs0:∀ p∈([]:List (Nat × Str)),X.N[p.1]?=some p.2/\X.env.scope.names.lookup p.2=some .cell/\(relabel scope X.env).names.lookup p.2=some .cell:=fun _ h=>by simp at h
def tyD:D->String
 | .non=>"NoneType"
 | .bl _=>"bool"
 | .int _=>"int"
 | .str _=>"str"
 | .tup _=>"tuple"
 | .lst _=>"list"
variable {d:D}
theorem Rep.tyN {K:W.Frag} (h:Rep K H d x):L2.tyN K H x (tyD d):=by
 cases d <;> simp only [Rep] at h
 ·subst h;rfl
 ·subst h;rfl
 ·subst h;rfl
 ·subst h;rfl
 ·obtain ⟨a,b,rfl,q,_⟩:=h;exact .inr ⟨rfl,b,q⟩
 ·obtain ⟨a,b,rfl,q,_⟩:=h;exact .inl ⟨rfl,b,q⟩
mutual
def szD:D->Prop
 | .int i=>Mth.Sz 4000 i
 | .str s=>s.length<=1000
 | .tup xs=>szL xs
 | .lst xs=>szL xs
 | _=>True
def szL:List D->Prop
 | []=>True
 | x::xs=>szD x/\szL xs
end
def lowB (c:Nat):Bool:=decide (97<=c/\c<=122)
def nameS (s:Str):Bool:=(decide (1<=s.length)&&decide (s.length<=8))&&s.cps.toList.all lowB
def nameB:D->Bool
 | .str s=>nameS s
 | _=>false
def Jc6:D->Bool
 | .int _=>true
 | _=>false
def fracB:D->Bool
 | .tup [.int a, .int b]=>decide (1<=b)&&decide (Mth.g a b=1)
 | _=>false
def Jcb:D->Bool
 | .non=>true
 | d=>fracB d
def Jd3 (d e:D):Bool:=nameB d&&nameB e&&!eqD d e
def lessD:D->D->Bool
 | .tup [.int a, .int b], .tup [.int c, .int d]=>decide (a*d<c*b)
 | _,_=>false
def Jdk (l g:D):Bool:=Jcb l&&Jcb g&&!lessD g l
def tieB:D->Bool
 | .tup [n,s,e,l,g]=>nameB n&&Jd3 s e&&Jdk l g
 | _=>false
theorem Jgx:(Str.ofString "abcdefghijklmnopqrstuvwxyz").cps.toList=List.range' 97 26:=by decide
theorem Jgv (c:Nat):(!(Builtin.Str.occurrences (Str.ofString "abcdefghijklmnopqrstuvwxyz") ⟨#[c]⟩ 0 (Str.ofString "abcdefghijklmnopqrstuvwxyz").length 1).isEmpty)=lowB c:=by
 rw [StrLaws.found_one,Jgx];unfold lowB
 congr 1
 rw [List.mem_range'];refine propext ⟨fun ⟨i,a,e⟩=>by ac_nf,fun h=>⟨c-97,by ac_nf,by ac_nf⟩⟩
structure KCal (P:Program) (w:World) (K:W.Frag) (mg:Str->Option Value) (base:Heap) (k:Nat) (x:Str) (C:Addr) (ps:List Str) (sp:Sp):Prop where
 ex:∃ (f:Addr) (fd:FuncData),FnOk P w K mg base (CX1 P w) k f fd ps sp/\mg x=some (.ref C)/\Mk K C f/\Binds K fd ps []
structure MCal (P:Program) (w:World) (K:W.Frag) (mg:Str->Option Value) (base:Heap) (k:Nat) (m:Str) (Cs:Addr->Prop) (ps:List Str) (sp:Sp):Prop where
 ex:∃ (f:Addr) (fd:FuncData),FnOk P w K mg base (CX1 P w) k f fd ps sp/\(∀ C,Cs C->Cls K C/\Meth K C m f)/\W.keepIn K (.ref f)=true/\Binds K fd ps []
def Jgl (Cs:Addr->Prop) (m:Str) (sp:Sp) (E:XK) (ta:TE) (t:TA):TE:=fun σ H Q=>ta σ H fun x H1=>∃ a C dx fs,x=.ref a/\H1 a=some (.ins C dx fs)/\Cs C/\fs.lookup m=none/\t σ H1 fun vs H2=>sp (x::vs) H2 Q E
section
variable {k':Nat} {x mn:Str} {Cs:Addr->Prop} {ps:List Str} {sp:Sp} {E:XK} {p apos:Pos} {e o:Expr} {es:List Expr} {ta:TE} {k:Nat} {t:TA}
theorem KCal.ev (G:KCal X.prog X.w X.K X.mg X.base k x C ps sp) (hr:Room k' X.A) (hk:k+1<=k') (hg:Gl X x) (hx:JbG (CX1 X.prog X.w) X E) (ha:PA X (e::es) t)
  (hdb:(x == ("__debug__" : Str))=false:=by decide) (he:starEach (e::es) X.env=(false,eval e X.env)::starEach es X.env:=by rfl) (hpl:(backTo pos (starEach es X.env)).any (·.1)=false:=by rfl) :
  PE X (.Call (.Name x p) (e::es) [] pos) (tMake C sp [] E t):=by
 obtain ⟨f,c,F,a,M,b⟩:=G.ex;exact Jjz M F (hr.mono hk) hg a b .nil hx ha hdb he hpl
variable {pl:Sem Bool}
theorem MCal.m (G:MCal X.prog X.w X.K X.mg X.base k mn Cs ps sp) (hr:Room k' X.A) (hk:k<=k') (hx:JbG (CX1 X.prog X.w) X E) (ho:PE X o ta) (ha:PA X (e::es) t)
  (hst:starEach (e::es) X.env=(false,eval e X.env)::starEach es X.env:=by rfl) (hpl:(backTo pos (starEach es X.env)).any (·.1)=false:=by rfl)
  (ht:eval (.Call (.Attribute o mn apos) (e::es) [] pos) X.env=(do
   let ov <- eval o X.env
   standAt apos.atName
   let (f,first) <- holding [ov] (getMethod ov mn pl)
   callWith pos f first (backTo pos (starEach (e::es) X.env)) (backToKw pos (keywordEach [] X.env))):=by rfl) :
  PE X (.Call (.Attribute o mn apos) (e::es) [] pos) (Jgl Cs mn sp E ta t):=by
 obtain ⟨f,J,F,c,z,j⟩:=G.ex;intro b s σ H Q I h;refine W.methodCall_KW (pl:=pl) (thn (ho b s σ H _ I h) fun u y ζ=>?_) ht;obtain ⟨x,p,I1,n,a,C,B,L,i,v,d,l,q⟩:=ζ;subst i;obtain rfl:u=Value.ref a:=n;refine Jcs I1 v (c C d).1 (c C d).2 l ?_;refine W.callWith_K (first:=[.ref a]) (h₀:=X.base) I.ok.mod.kin z (thn (ha pos b y σ p _ I1 q) fun us M ζ=>?_) hst hpl;obtain ⟨vs,D,I2,r,g⟩:=ζ;refine ⟨I2.kIn,?_⟩;exact Jgi (us:=.ref a::us) (vs:=.ref a::vs) F (hr.mono hk) j .nil hx I2 (.cons rfl r) (by simpa using g)
theorem MCal.m0 (G:MCal X.prog X.w X.K X.mg X.base k mn Cs ps sp) (hr:Room k' X.A) (hk:k<=k') (hx:JbG (CX1 X.prog X.w) X E) (ho:PE X o ta)
  (ht:eval (.Call (.Attribute o mn apos) [] [] pos) X.env=(do
   let ov <- eval o X.env
   standAt apos.atName
   let (f,first) <- holding [ov] (getMethod ov mn pl)
   callWith pos f first (backTo pos (starEach [] X.env)) (backToKw pos (keywordEach [] X.env))):=by rfl) :
  PE X (.Call (.Attribute o mn apos) [] [] pos) (Jgl Cs mn sp E ta tNil):=by
 obtain ⟨f,t,F,c,n,g⟩:=G.ex;intro b s σ H Q I h;refine W.methodCall_KW (pl:=pl) (thn (ho b s σ H _ I h) fun u r ζ=>?_) ht;obtain ⟨x,j,I1,i,a,C,p,v,e,m,d,l,q⟩:=ζ;subst e;obtain rfl:u=Value.ref a:=i;refine Jcs I1 m (c C d).1 (c C d).2 l ?_;exact W.callWith_K0 (first:=[.ref a]) I1.kIn n (Jgi (us:=[.ref a]) (vs:=[.ref a]) F (hr.mono hk) g .nil hx I1 (.cons rfl .nil) (show sp ([.ref a]++[]) j Q E from q))
def rMulS:R2:=fun x y H Q=>match x,y with
 | .str z, .int n=>0<n/\n<1000/\z.length<=1000/\∀ z':Str,z'.cps.toList=(List.replicate n.toNat z.cps.toList).flatten->Q (.str z') H
 | x,y=>rMulU x y H Q
theorem Jef:∀ (l:List (Array Nat)) (acc:Array Nat),(l.foldl (· ++ ·) acc).toList=acc.toList++(l.map (·.toList)).flatten
 | [],acc=>by simp
 | x::l,acc=>by
  rw [foldl_cons,Jef l];simp
theorem Jhp:OpR X (binaryOp .Mult) rMulS:=fun a s σ H x y v u Q I b d q=>by
 unfold rMulS at q;split at q
 ·rename_i z n;obtain ⟨i,j,f,q⟩:=q;obtain ⟨t,rfl⟩:=b;obtain ⟨k,rfl⟩:=d;have h:z.cps.size=z.length:=rfl;have g:z.length*n.toNat<=1000*1000:=Nat.mul_le_mul f ∅;refine PySem.P.mul_str (by simp;ac_nf) (fun _ _=>?_) (fun _ _=>?_) ?_
  ·have : (1000:Int)<=(2 ^ 63-1)/n:=by
    rw [Int.le_ediv_iff_mul_le i];ac_nf
   ac_nf
  ·unfold Builtin.Str.tooLong;simp;have : (1000*1000:Nat)<=sizeLine:=by decide
   ac_nf
  ·rw [if_neg ∅];split
   ·rename_i c;refine ⟨.str z,H,I,⟨_,rfl⟩,q z ?_⟩;rcases Bool.or_eq_true _ _ |>.mp c with c | c
    ·obtain rfl:n=1:=by simpa using c
     simp
    ·have e:z.cps.toList=[]:=by
      have : z.length=0:=by simpa using c
      exact List.eq_nil_of_length_eq_zero (by rw [Array.length_toList];exact this)
     rw [e];simp
   ·refine ⟨?_, .str _,H,I.tok _,⟨_,rfl⟩,q _ ?_⟩
    ·show (Array.size _)<=sizeLine;rw [<- Array.length_toList,Jef];simp;have : (1000*1000:Nat)<=sizeLine:=by decide
     rw [Nat.mul_comm,h];ac_nf
    ·rw [Jef];simp
 ·exact Jjt a s σ H _ _ v u Q I b d q
def rIsN:R2:=fun x y H Q=>y=.non/\Q (.bl (decide (x=.non))) H
def rNotN:R2:=fun x y H Q=>y=.non/\Q (.bl (!decide (x=.non))) H
theorem JbO:OpR X (compareOp .Is) rIsN:=Jko
theorem Jet:OpR X (compareOp .IsNot) rNotN:=Jju
def Jkv (K:W.Frag):List V->Hp->VK->Prop:=fun xs H Q=>∃ p ys,xs=[.ref p]/\(SqL K H p ys\/SqT K H p ys)/\∀ l,H l=none->Q (.ref l) (upd H l (.lst ys))
theorem Jgr:CallR X (.type "list") (Jkv X.K):=JeR
end
section
variable {K:W.Frag}
theorem y65y:rIsN x .non H Q=Q (.bl (decide (x=.non))) H:=by simp [rIsN]
theorem y7cy:rNotN x .non H Q=Q (.bl (!decide (x=.non))) H:=by simp [rNotN]
variable {sp:Sp} {E:XK}
theorem y6by {dvs:List V} {t:TA}:tMake C sp dvs E t σ H Q=t σ H fun vs H1=>∀ x dx,H1 x=none->H1 dx=none->dx≠x->sp (.ref x::(vs++dvs)) (upd (upd H1 dx (.own x)) x (.ins C dx [])) (fun v H2=>v=.non/\Q (.ref x) H2) E:=rfl
variable {ta:TE}
theorem y6dy {Cs:Addr->Prop} {mn:Str} {t:TA}:Jgl Cs mn sp E ta t σ H Q=ta σ H fun x H1=>∃ a C dx fs,x=.ref a/\H1 a=some (.ins C dx fs)/\Cs C/\fs.lookup mn=none/\t σ H1 fun vs H2=>sp (x::vs) H2 Q E:=rfl
theorem y4fy {f:Str}:tFld K ta f σ H Q=ta σ H fun x H1=>∃ a C dx fs v,x=.ref a/\H1 a=some (.ins C dx fs)/\Cls K C/\Jbb K C f/\fs.lookup f=some v/\Q v H1:=rfl
variable {tv:TE} {En:Ends}
theorem y8cy {f:Str}:sFld K ta tv f En σ H=tv σ H fun y H1=>ta σ H1 fun x H2=>∃ a C dx fs,x=.ref a/\H2 a=some (.ins C dx fs)/\Cls K C/\Jbb K C f/\fs.length<1000/\En.nx σ (upd H2 a (.ins C dx (putF f y fs))):=rfl
theorem y2dy {T:String} {r:V->List V->Hp->VK->Prop} {to:TE} {t:TA}:tBM K T r to t σ H Q=to σ H fun x H1=>tyV K T x H1/\t σ H1 fun vs H2=>r x vs H2 Q:=rfl
variable {R:St->Hp->Prop}
theorem y5cy {g:TG} {gs:TGs}:gCons g gs (v::r) σ H R=g v σ H fun σ' H'=>gs r σ' H' R:=by
 unfold gCons;refine propext ⟨fun ⟨a,b,e,h⟩=>?_,fun h=>⟨v,r,rfl,h⟩⟩;cases e;exact h
theorem y5ey:gNil [] σ H R=R σ H:=by unfold gNil;simp
theorem FrV.of_rep (h:Rep K H (.tup [.int a, .int b]) x):FrV K H x a b:=by
 simp only [Rep,RepL] at h;obtain ⟨p,c,rfl,q,v,r,rfl,rfl,e,d,rfl,rfl,rfl⟩:=h;exact ⟨p,rfl,q⟩
theorem JbU (h:fracB d=true):∃ a b,d=.tup [.int a, .int b]/\1<=b/\Mth.g a b=1:=by
 unfold fracB at h;split at h
 ·rw [Bool.and_eq_true] at h;exact ⟨_,_,rfl,by simpa using h.1,by simpa using h.2⟩
 ·cases h
theorem Jd6 (h:nameB d=true):∃ z,d=.str z/\nameS z=true:=by
 cases d <;> first | exact ⟨_,rfl,h⟩ | (simp [nameB] at h)
theorem Rep.str {d:Str} (h:Rep K H (.str d) x):x=.str d:=by simpa only [Rep] using h
def nonD:D->Bool
 | .non=>true
 | _=>false
theorem Jhj (h:d≠.non):nonD d=false:=by cases d <;> first | rfl | exact absurd rfl h
theorem Rep.nonV (hx:Rep K H d x):decide (x=.non)=nonD d:=by
 cases d <;> simp only [Rep] at hx
 ·subst hx;rfl
 ·subst hx;rfl
 ·subst hx;rfl
 ·subst hx;rfl
 ·obtain ⟨a,b,rfl,_⟩:=hx;rfl
 ·obtain ⟨a,b,rfl,_⟩:=hx;rfl
variable {l:Addr}
theorem putE (e:upd H l o=H'):H' l=some o:=by rw [<- e,Jaq]
theorem putN {b:Addr} {o' u:HO} (e:upd H l o=H') (hl:H l=some o') (hb:H b=some u) (ne:u≠o'):H' b=some u:=by
 rw [<- e,Jag (ne_of hb hl ne)];exact hb
end
def tieF (n s e l g:V):List (Str × V):=[("name",n),("start",s),("end",e),("least",l),("greatest",g)]
section
variable {En:Ends} {ta tb te tc td:TE} {K:W.Frag}
end
def Jb5 (cells:List (Str × Addr)):List (Str × NameKind)->List (Str × Addr)->List (Str × Addr)
 | [],acc=>acc
 | (n,k)::r,acc=>Jb5 cells r (if k == .free then (n,(cells.lookup n).getD 0)::acc else acc)
theorem Jft {env:Env}:∀ (names:List (Str × NameKind)) (acc:List (Str × Addr)),(∀ p∈names,p.2=.free->∃ c,env.cells.lookup p.1=some c) ->
  (forIn names acc fun (p:Str × NameKind) cs=>(if p.2 == .free then do let c <- cellOf env p.1;pure (ForInStep.yield ((p.1,c)::cs)) else pure (ForInStep.yield cs):Sem (ForInStep (List (Str × Addr)))))=(pure (Jb5 env.cells names acc):Sem (List (Str × Addr)))
 | [],acc,_=>by simp [Jb5]
 | (n,k)::r,acc,h=>by
  rw [List.forIn_cons];by_cases c:(k == .free)=true
  ·obtain ⟨a,ha⟩:=h (n,k) mem_cons_self (beq_iff_eq.mp c);have e:cellOf env n=pure a:=by unfold cellOf;rw [ha]
   simp only [c,if_true,e,pure_bind];have:=Jft (env:=env) r ((n,a)::acc) fun p hp=>h p (mem_cons_of_mem _ hp);simp only [Jb5,c,if_true,ha,Option.getD_some];exact this
  ·have c':(k == .free)=false:=by simpa using c
   simp only [c',Bool.false_eq_true,if_false,pure_bind];have:=Jft (env:=env) r acc fun p hp=>h p (mem_cons_of_mem _ hp);simp only [Jb5,c',Bool.false_eq_true,if_false];exact this
theorem Ji8 (h:∀ p∈scope.names,p.2=.free->∃ c,env.cells.lookup p.1=some c):closureFor scope env=pure (Jb5 env.cells scope.names []):=by
 have:=Jft (env:=env) scope.names [] h;unfold closureFor;simp only [pure_bind];refine Eq.trans ?_ (congrArg (fun m:Sem (List (Str × Addr))=>m >>= pure) this |>.trans (by simp));first | rfl | (congr 1)
variable {cells:List (Str × Addr)}
theorem JdY:∀ (names:List (Str × NameKind)) (acc:List (Str × Addr)),(∀ x c,acc.lookup x=some c->cells.lookup x=some c)->(∀ p∈names,p.2=.free->∃ c,cells.lookup p.1=some c) ->
  ∀ x c,(Jb5 cells names acc).lookup x=some c->cells.lookup x=some c
 | [],acc,ha,_,x,c,h=>ha x c h
 | (n,k)::r,acc,ha,hf,x,c,h=>by
  simp only [Jb5] at h;refine JdY r _ ?_ (fun p hp=>hf p (mem_cons_of_mem _ hp)) x c h;intro y d hy;by_cases f:(k == .free)=true
  ·rw [if_pos f] at hy;obtain ⟨a,e⟩:=hf (n,k) mem_cons_self (beq_iff_eq.mp f);rw [List.lookup_cons] at hy;by_cases q:(y == n)=true
   ·rw [q] at hy;have q':y=n:=beq_iff_eq.mp q;subst q';have e':cells.lookup y=some a:=e;rw [e'] at hy ⊢;simpa using hy
   ·have q':(y == n)=false:=by simpa using q
    rw [q'] at hy;exact ha y d hy
  ·rw [if_neg f] at hy;exact ha y d hy
theorem JdX:∀ (names:List (Str × NameKind)) (acc:List (Str × Addr)) (y:Str),((∃ c,acc.lookup y=some c)\/(y,NameKind.free)∈names)->∃ c,(Jb5 cells names acc).lookup y=some c
 | [],acc,y,h=>by
  rcases h with h | h
  ·exact h
  ·simp at h
 | (n,k)::r,acc,y,h=>by
  simp only [Jb5];refine JdX r _ y ?_;rcases h with ⟨c,h⟩ | h
  ·refine .inl ?_;split
   ·rw [List.lookup_cons];cases (y == n)
    ·exact ⟨c,h⟩
    ·exact ⟨_,rfl⟩
   ·exact ⟨c,h⟩
  ·rcases mem_cons.mp h with e | h
   ·cases e;refine .inl ?_;rw [if_pos ⋯,List.lookup_cons];simp
   ·exact .inr h
theorem Jd5 {sc:Scope} (h:scope.names.all (fun p=>p.2 != .free||(sc.names.lookup p.1 == some .cell))=true):∀ p∈scope.names,p.2=.free->sc.names.lookup p.1=some .cell:=fun p b a=>by
 have z:=List.all_eq_true.mp h p b;rw [a] at z;simpa using z
theorem hcs1 {x:Str} (a:X.N[i]?=some x) (b:X.env.scope.names.lookup x=some .cell) (c:(relabel scope X.env).names.lookup x=some .cell) :
  ∀ p∈[(i,x)],X.N[p.1]?=some p.2/\X.env.scope.names.lookup p.2=some .cell/\(relabel scope X.env).names.lookup p.2=some .cell:=fun p d=>by
 rcases mem_singleton.mp d with rfl
 exact ⟨a,b,c⟩
theorem Jen (hb:1<=b) (h:Mth.g a b=1):Mth.top (0*b-a*1) (1*b) = -a/\Mth.bot (0*b-a*1) (1*b)=b:=by
 have d:(0*b-a*1:Int) = -a:=by simp
 have e:(1*b:Int)=b:=by simp
 rw [d,e];have c:b≠0:=by ac_nf
 have u:=Mth.JcV (Mth.Jdj (t:=-a) c) hb (Mth.g_low (t:=-a) c) (by rw [Mth.g_neg];exact h) (Mth.cross (t:=-a) c);exact u
variable {te:TE}
theorem Jgs {cs:List (Nat × Str)} {g:TG} {it:Addr} {tn:Nat->Heap->Prop} {J:It}
  {W:Nat->Nat->List V->Hp->Prop} {m0:Nat} {QN:List V->Hp->Prop} {RR:Value->Addr->Result->Shared->Prop} {E:Value->Shared->Prop} (hc:X.calm=true)
  (hg:∀ fp s2 H2 C,PG (X.inc (own++cs.map (·.2)) scope cl fp s2 H2 C) tg g) (he:∀ fp s2 H2 C,PE (X.inc (own++cs.map (·.2)) scope cl fp s2 H2 C) elt te)
  (hcell:∀ y∈scope.names,y.2≠.cell) (hkind:scope.kind=.function)
  (hcl:∀ x c,cl.lookup x=some c->X.env.cells.lookup x=some c) (hhas:∀ y,((relabel scope X.env).names.lookup y=some .cell\/(relabel scope X.env).names.lookup y=some .free)->∃ c,cl.lookup y=some c)
  (hcs:∀ p∈cs,X.N[p.1]?=some p.2/\X.env.scope.names.lookup p.2=some .cell/\(relabel scope X.env).names.lookup p.2=some .cell)
  (I2:Inv X pins σ H2 s2) (T:Turn X.prog X.w X.K tg J fp it tn) (st2:tn 0 s2.heap) (f2:∀ b∈fp,FpOk X pins H2 b) (w0:W 0 m0 [] H2)
  (turn:∀ i m ys H2,W i m ys H2->ys.length<=sizeLine/\((J.stop i H2/\QN ys H2)\/(J.go i H2/\∀ x H3,J.yld i H2 x H3->g x (List.replicate own.length none++JaZ cs σ) H3 fun σ4 H4=>te σ4 H4 fun y H5=>∃ m',m'<m/\W (i+1) m' (ys++[y]) H5)))
  (hRR:∀ (D C:Addr) (s6:Shared) (H5:Hp) (ys:List V),(∀ h7,Heap.SameBut C s6.heap h7->Inv X pins σ (upd H5 D (.lst ys)) { s6 with heap:=h7 })->H5 D=none->H5 C=none->D≠C->(∃ m,s6.heap.Ns C m)->s2.heap.objs.size<=C->QN ys H5->RR (.ref D) C (.ok .next) s6) :
  wpAny (model X.prog X.w) X.A (newList []) (fun acc s₃=>wpAny (model X.prog X.w) X.A (newFunctionEnv scope X.env.globals cl [] X.env.qual none .none (some X.env)) (fun cenv s₄=>
   codeAny (model X.prog X.w) X.A (.compStart (.ListComp elt [⟨tg,iter,[],0⟩] scope pos) 0 (.ref it) acc { cenv with scope:=relabel scope X.env }) (RR acc cenv.locals) s₄) E s₃) E s2:=by
 have H:∀ b∈fp,b<s2.heap.objs.size:=fun b d=>by
  obtain ⟨o,e,_⟩:=T.obj _ _ st2 b d;exact Heap.lt_size e
 refine wpAny_newObj_type (wpAny_newFunctionEnv hcell (by intro y hy;simp at hy) (fun h4 t j=>?_) hkind);dsimp only at t j ⊢;generalize hH3:s2.heap.push { cls:=.type "list",dict:=none,data:=.seq ([]:List Value).toArray }=H3 at t j ⊢;have a4:H3.objs.size=s2.heap.objs.size+1:=by rw [<- hH3,Heap.size_push]
 have U:s2.heap.objs.size<=H3.objs.size:=by ac_nf
 have k:s2.heap.objs.size≠H3.objs.size:=by ac_nf
 have Q:∀ b o,s2.heap.get? b=some o->h4.get? b=some o:=fun b o e=>j.extBut b o (by have:=Heap.lt_size e;exact Nat.ne_of_lt (Nat.lt_of_lt_of_le this U)) (Heap.get?_push_of_some _ (hH3 ▸ Heap.get?_push_of_some _ e));have a3:h4.get? s2.heap.objs.size=some { cls:=.type "list",data:=.seq ([]:List Value).toArray }:=j.extBut _ _ k (Heap.get?_push_of_some _ (hH3 ▸ Heap.get?_push_size _ rfl));obtain ⟨D,f⟩:∃ D,D=s2.heap.objs.size:=⟨_,rfl⟩;obtain ⟨C,a8⟩:∃ C,C=H3.objs.size:=⟨_,rfl⟩;rw [<- a8] at a4 t j U k ⊢;rw [<- f] at H a4 U k a3 ⊢;have G:=I2.incOk (N':=own++cs.map (·.2)) (C:=C) f2 (fun b d=>by rw [<- f];exact H b d) hkind (by rw [<- f];exact U) hcl hhas;have I4:Inv (X.inc (own++cs.map (·.2)) scope cl fp s2 H2 C) [] (List.replicate own.length none++JaZ cs σ) H2 { s2 with heap:=h4,toks:=s2.toks+([]:List (Str × Value)).length } :=
  I2.incStart (s4:={ s2 with heap:=h4,toks:=s2.toks+([]:List (Str × Value)).length }) G Q rfl rfl t (by rw [<- f];exact U) hcl hcs
 have Dfree:H2 D=none:=I2.hok.fresh (Nat.le_of_eq f.symm);have F:∀ b o,s2.heap.get? b=some o->b≠D:=fun b o e=>by
  rw [f];exact Nat.ne_of_lt (Heap.lt_size e)
 have a7:∀ b o,s2.heap.get? b=some o->b≠C:=fun b o e=>Nat.ne_of_lt (Nat.lt_of_lt_of_le (by rw [f];exact Heap.lt_size e) U);have Dfs:D∉frs X.stack:=fun hm=>by
  obtain ⟨_,o,e,_⟩:=I2.stack.mem hm;exact F _ _ e rfl
 have O:∀ {σ':St} {H':Hp} {s':Shared} {us:List Value} {n:Nat} {pl:List (Addr × Obj)},Inv (X.inc (own++cs.map (·.2)) scope cl fp s2 H2 C) pl σ' H' s'->s'.heap.get? D=some { cls:=.type "list",data:=.seq us.toArray n }->H' D=none ->
   Inv (X.inc (own++cs.map (·.2)) scope cl fp s2 H2 C) [(D,{ cls:=.type "list",data:=.seq us.toArray n })] σ' H' s':=fun {σ' H' s' us n pl} J' e n'=>J'.pins_of fun p Y=>by
  rcases mem_singleton.mp Y with rfl
  exact ⟨e,n',k,Dfs,fun v z=>by cases z⟩
 have B:∀ {H':Hp} {o:Obj},(∀ b∈fp,H' b=none)->∀ b∈fp,FpOk (X.inc (own++cs.map (·.2)) scope cl fp s2 H2 C) [(D,o)] H' b:=fun {H' o} hn b d=>by
  refine ⟨hn b d,(G.exf b d).1,G.exfs b d, .inl d,(G.exf b d).2,fun p Y=>?_⟩;rcases mem_singleton.mp Y with rfl
  exact Nat.ne_of_gt (H b d)
 have I:∀ s3:Shared,s3={ s2 with heap:=h4,toks:=s2.toks+([]:List (Str × Value)).length } ->
   codeAny (model X.prog X.w) X.A (.compLoop (.ListComp elt [⟨tg,iter,[],0⟩] scope pos) 0 (.ref it) (.ref D) (compEnvC scope cl C X.env)) (RR (.ref D) C) s3:=by
  rintro s3 rfl;refine Jgt (fun n s'=>∃ i ys us R H',Inv (X.inc (own++cs.map (·.2)) scope cl fp s2 H2 C) [(D,{ cls:=.type "list",data:=.seq us.toArray R })] (List.replicate own.length none++JaZ cs σ) H' s'/\tn i s'.heap/\(∀ b∈fp,H' b=none)/\Vals ys us/\W i n ys H') ?_ m0
   ⟨0,[],[],0,H2,O (us:=[]) (n:=0) I4 a3 Dfree,T.keep _ _ _ st2 fun b d o e=>Q b o e,fun b d=>(f2 b d).1, .nil,w0⟩
  rintro n s5 ⟨i,ys,us,R,H5,I5,a1,Z,vy,w5⟩;obtain ⟨hz,⟨stop,qn⟩ | ⟨go,a2⟩⟩:=turn i n ys H5 w5
  ·refine wpAny_mono (T.done (X.inc (own++cs.map (·.2)) scope cl fp s2 H2 C) rfl rfl rfl hc i _ s5 _ H5 (fun _ _=>False) I5 (B Z) a1 stop) (fun r s6 z=>?_) fun _ _ z=>z;obtain ⟨rfl,I6⟩:=z;obtain ⟨m6,b0,_⟩:=id I6.loc;obtain ⟨pD,pN,_,_,_⟩:=I6.pin (D,{ cls:=.type "list",data:=.seq us.toArray R }) (by simp);have Cfree:H5 C=none:=I6.free;refine hRR D C s6 H5 ys (fun h7 a5=>?_) pN Cfree k ⟨m6,b0⟩ (by rw [<- f];exact U) qn;have h:∀ b,b≠C->h7.get? b=s6.heap.get? b:=fun b d=>a5.2 b d;have S:=a7;have u7:Un (frs X.stack) fp H2 H5 s2.heap h7:=⟨fun b o e n1 n2 n3=>(h b (S b o e)).trans (I6.base.keep b o e n1 n2 n3),fun b o e n1 n2 n3=>by
     obtain ⟨sl,z⟩:=I6.base.slot b o e n1 n2 n3;exact ⟨sl,(h b (S b o e)).trans z⟩,I6.base.free,fun b o e n1=>by
     obtain ⟨o',z⟩:=I6.base.there b o e n1;exact ⟨o',(h b (S b o e)).trans z⟩,I6.base.tups,I6.base.frzs,I6.base.tbls⟩
   have a0:HOk X.prog X.w H5 h7:=fun a o e=>by
    refine (I6.hok a o e).stay (fun c v b1 q=>(h c ?_).trans q) (fun _ q=>q) fun _ _ q=>q;rintro rfl;rcases b1 with z | z
    ·rw [<- z] at e;rw [Cfree] at e;cases e
    ·rw [Cfree] at z;cases z
   have I7:Inv X pins σ H5 { s6 with heap:=h7 }:=I2.call' (s':={ s6 with heap:=h7 }) I6.os u7 a0 I6.bare fun b d=>⟨(f2 b d).2.2.2.1,(f2 b d).2.1,(f2 b d).2.2.2.2.1,(f2 b d).2.2.2.2.2⟩;exact I7.track (a:=D) (o:=.lst ys) pN (Heap.get?_none_of_le (by rw [f];exact I2.sz)) (by rw [f];exact Nat.ne_of_gt I2.lt) (fun x c e z=>by
     obtain ⟨v,o,ho,_⟩:=I2.cell x c e;exact F _ _ ho z) (fun p Y z=>F _ _ (I2.pin p Y).1 z) ⟨hz,us,R,vy,(h D k).trans pD⟩
  ·refine wpAny_mono (T.item (X.inc (own++cs.map (·.2)) scope cl fp s2 H2 C) rfl rfl rfl hc i _ s5 _ H5 (fun _ _=>False) I5 (B Z) a1 go) (fun r s6 z=>?_) fun _ _ z=>z;obtain ⟨u,rfl,z⟩:=z;refine wpAny_mono z (fun _ s7 ζ=>?_) fun _ _ z=>z;obtain ⟨x,H7,I7,r7,y7,P,b2⟩:=ζ;have I7':=I7.pinned (B b2) (T.obj _ _ P);refine wpAny_mono (hg fp s2 H2 C _ s7 _ H7 x u _ I7' r7 (a2 x H7 y7)) (fun _ s8 ⟨σ8,H8,I8,q8⟩=>?_) fun _ _ z=>z;refine wpAny_mono (he fp s2 H2 C _ s8 σ8 H8 _ I8 q8) (fun uy s9 ζ=>?_) fun _ _ z=>z;obtain ⟨y,H9,I9,r9,m',a9,w9⟩:=ζ;obtain ⟨pD,pN,_,_,_⟩:=I9.pin (D,{ cls:=.type "list",data:=.seq us.toArray R }) (by simp);refine append_at (its:=us.toArray) (n:=R) pD (fun a6 L M=>?_) (by rw [size_toArray, <- vy.length];exact hz);have l:∀ b∈fp, ∀ o,s7.heap.get? b=some o->s9.heap.get? b=some o/\H9 b=none:=fun b d o e=>by
    have z:=I9.pin (b,o) (mem_append_right _ (mem_append_right _ (JcW d e)));exact ⟨z.1,z.2.1⟩
   have I9':Inv (X.inc (own++cs.map (·.2)) scope cl fp s2 H2 C) [] (List.replicate own.length none++JaZ cs σ) H9 s9:=I2.incAgain I9 f2 hcl hcs;have I10:Inv (X.inc (own++cs.map (·.2)) scope cl fp s2 H2 C) [] (List.replicate own.length none++JaZ cs σ) H9 { s9 with heap:=a6 }:=I9'.turned (it:=D) (t':=s9.toks) (fun b o d e=>(L.2 b d).trans e) pN k (.inr (Nat.le_of_eq f.symm)) (fun x c e z=>by
     obtain ⟨v,o,ho,_⟩:=I2.cell x c (hcl x c e);exact F _ _ ho z) fun p Y=>by simp at Y
   rw [lstP] at M;refine ⟨m',a9,i+1,ys++[y],us++[uy],R+1,H9,O I10 M pN,T.keep _ _ _ P fun b d o e=>?_,fun b d=>?_,vy.append (.cons r9 .nil),w9⟩
   ·exact (L.2 b (Nat.ne_of_lt (H b d))).trans (l b d o e).1
   ·obtain ⟨o,e,_⟩:=T.obj _ _ P b d;exact (l b d o e).2
 exact codeAny_compStart_list (I _ rfl) (T.self _ 0 _ _ _ (T.keep _ _ _ st2 fun b d o e=>Q b o e) (I _ rfl))
theorem Jjf (hcell:∀ y∈scope.names,y.2≠.cell) {y:Str} (hy:(relabel scope X.env).names.lookup y=some .cell\/(relabel scope X.env).names.lookup y=some .free):(y,NameKind.free)∈scope.names:=by
 have f:∀ k,(k=.cell\/k=.free)->(relabel scope X.env).names.lookup y=some k->(y,NameKind.free)∈scope.names:=fun k h e=>by
  have m:=PySem.mem_of_lookup e;obtain ⟨⟨n,d⟩,a,g⟩:=mem_map.mp (show (y,k)∈scope.names.map _ from m);have b:(if (d == NameKind.free&&X.env.scope.kind == .function&&X.env.kindOf n == some .cell)=true then (n,NameKind.cell) else (n,d))=(y,k):=g;split at b
  ·rename_i c;rw [Bool.and_eq_true,Bool.and_eq_true] at c;have:=beq_iff_eq.mp c.1.1;subst this;cases b;exact a
  ·cases b;rcases h with rfl | rfl
   ·exact absurd rfl (hcell _ a)
   ·exact a
 rcases hy with hy | hy
 ·exact f _ (.inl rfl) hy
 ·exact f _ (.inr rfl) hy
def Jgk (k:Nat) (cs:List (Nat × Str)) (wi:TI) (g:TG) (tt:TT) (te:TE):TE:=fun σ H Q=>wi σ H fun J H1=>∃ W:Nat->Nat->List V->Hp->Prop,(∃ m,W 0 m [] H1)/\∀ i m ys H2,W i m ys H2->ys.length<=sizeLine /\
  ((J.stop i H2/\∀ p,H2 p=none->Q (.ref p) (upd H2 p (.lst ys))) \/
   (J.go i H2/\∀ x H3,J.yld i H2 x H3->g x (List.replicate k none++JaZ cs σ) H3 fun σ4 H4=>tt σ4 H4 fun b H5=>if b=true then te σ4 H5 fun y H6=>∃ m',m'<m/\W (i+1) m' (ys++[y]) H6 else ∃ m',m'<m/\W (i+1) m' ys H5))
variable {h':Heap}
def Itz (K:W.Frag) (a b:Addr):It :=
  ⟨fun i H=>∃ xs ys x y,SqL K H a xs/\SqL K H b ys/\xs[i]?=some x/\ys[i]?=some y,
   fun i H v H'=>∃ p x y,(∀ xs,SqL K H a xs->xs[i]?=some x)/\(∀ ys,SqL K H b ys->ys[i]?=some y)/\H p=none/\v=.ref p/\H'=upd H p (.tup [x,y]),
   fun i H=>∃ xs ys,SqL K H a xs/\SqL K H b ys/\(xs.length<=i\/ys.length<=i)⟩
variable {elts:List Expr} {x1:Nat} {tp:Pos}
def iZip (K:W.Frag) (ta:TA):TI:=fun σ H R=>ta σ H fun vs H1=>∃ a b,vs=[.ref a, .ref b]/\(∃ xs,SqL K H1 a xs)/\(∃ ys,SqL K H1 b ys)/\R (Itz K a b) H1
section
variable {td ty tv tx:TE} {En:Ends} {K:W.Frag}
theorem y3fy:tDGet td ty σ H Q=td σ H fun x H1=>ty σ H1 fun y H2=>∃ a v,x=.ref a/\DGet H2 a y (some v)/\Q v H2:=rfl
theorem y48y:sDPut td ty tv En σ H=tv σ H fun v H1=>td σ H1 fun x H2=>ty σ H2 fun y H3=>∃ a H4,x=.ref a/\DPut H3 a y v H4/\En.nx σ H4:=rfl
theorem y44y:JiV σ H Q=∀ p,H p=none->Q (.ref p) (upd H p (.dK [])):=rfl
end
theorem hu1 {a b:Nat} (h:a+64<b):a+1<b:=by ac_nf
def rMul0:R2:=fun x y H Q=>match x,y with
 | .str z, .int n=>0<=n/\n<1000/\z.length<=1000/\∀ z':Str,z'.cps.toList=(List.replicate n.toNat z.cps.toList).flatten->Q (.str z') H
 | x,y=>rMulS x y H Q
theorem JbZ:OpR X (binaryOp .Mult) rMul0:=fun a s σ H x y v u Q I b c q=>by
 unfold rMul0 at q;split at q
 ·rename_i z n;obtain ⟨g,e,d,q⟩:=q;by_cases f:n=0
  ·subst f;obtain ⟨t,rfl⟩:=b;obtain ⟨h,rfl⟩:=c;exact PySem.P.mul_str_none ⋯ ⋯ ⟨.str _,H,I.tok _,⟨_,rfl⟩,q Str.empty rfl⟩
  ·exact Jhp a s σ H _ _ v u Q I b c ⟨by ac_nf,e,d,q⟩
 ·exact Jhp a s σ H _ _ v u Q I b c q
section
variable {td ty:TE} {K:W.Frag}
theorem y71y {i:Int}:rMul0 (.int i) (.int j) H Q=(IntMulOk i j/\Q (.int (i*j)) H):=rfl
end
variable {a:Addr}
theorem ForA.byL {K:W.Frag} {g:TG} {D:Ends} (hA:SqL K H a xs) (Pv:Nat->St->Hp->Prop) (h0:Pv 0 σ H) (hl:∀ i σ H',Pv i σ H'->SqL K H' a xs)
  (hs:∀ i x σ H,xs[i]?=some x->Pv i σ H->g x σ H fun σ2 H2=>tb { D with nx:=Pv (i+1),ct:=Pv (i+1),bk:=D.nx } σ2 H2) (hd:∀ σ H,Pv xs.length σ H->D.nx σ H):ForA K a g tb D σ H:=by
 refine .inl ⟨⟨xs,hA⟩,fun i m σ H=>Pv i σ H/\i<=xs.length/\m=xs.length-i,⟨_,h0,Nat.zero_le _,rfl⟩,?_⟩;rintro i m σ H ⟨d,h,rfl⟩;have c:=hl i σ H d;by_cases b:i<xs.length
 ·refine .inr ⟨⟨xs,xs[i],c,List.getElem?_eq_getElem b⟩,Pv (i+1),fun σ' H' p=>⟨_,Nat.sub_lt_sub_left b (Nat.lt_succ_self i),p,b,rfl⟩,?_⟩;rintro x H' ⟨rfl,f⟩;exact hs i x σ _ (f xs c) d
 ·have e:i=xs.length:=by ac_nf
  subst e;exact .inl ⟨⟨xs,c,Nat.le_refl _⟩,hd σ H d⟩
def ForJ (J:It) (g:TG) (tb:TS) (D:Ends) (σ : St) (H:Hp):Prop:=∃ W:Nat->Nat->St->Hp->Prop,(∃ m,W 0 m σ H)/\∀ i m σ H,W i m σ H ->
 (J.stop i H/\D.nx σ H)\/(J.go i H/\∃ N:St->Hp->Prop,(∀ σ' H',N σ' H'->∃ m',m'<m/\W (i+1) m' σ' H')/\∀ x H',J.yld i H x H'->g x σ H' fun σ2 H2=>tb { D with nx:=N,ct:=N,bk:=D.nx } σ2 H2)
theorem y59y {K:W.Frag} {g:TG} {D:Ends}:tFor (iZip K ta) g tb D σ H=ta σ H fun vs H1=>∃ a b,vs=[.ref a, .ref b]/\(∃ xs,SqL K H1 a xs)/\(∃ ys,SqL K H1 b ys)/\ForJ (Itz K a b) g tb D σ H1:=rfl
theorem compL {K:W.Frag} {cs:List (Nat × Str)} {k:Nat} {g:TG} {H1:Hp} (Pv:Nat->List V->Hp->Prop) (h0:Pv 0 [] H1) (hl:∀ i ys H',i<=xs.length->Pv i ys H'->SqL K H' a xs/\ys.length<=sizeLine)
  (hs:∀ i x ys H2,xs[i]?=some x->Pv i ys H2->g x (List.replicate k none++JaZ cs σ) H2 fun σ4 H4=>te σ4 H4 fun y H5=>Pv (i+1) (ys++[y]) H5) (hd:∀ ys H2,Pv xs.length ys H2->∀ p,H2 p=none->Q (.ref p) (upd H2 p (.lst ys))) :
  ∃ W:Nat->Nat->List V->Hp->Prop,(∃ m,W 0 m [] H1)/\∀ i m ys H2,W i m ys H2->ys.length<=sizeLine/\(((Itl K a).stop i H2/\∀ p,H2 p=none->Q (.ref p) (upd H2 p (.lst ys))) \/
   ((Itl K a).go i H2/\∀ x H3,(Itl K a).yld i H2 x H3->g x (List.replicate k none++JaZ cs σ) H3 fun σ4 H4=>te σ4 H4 fun y H5=>∃ m',m'<m/\W (i+1) m' (ys++[y]) H5)):=by
 refine ⟨fun i m ys H2=>Pv i ys H2/\i<=xs.length/\m=xs.length-i,⟨_,h0,Nat.zero_le _,rfl⟩,?_⟩;rintro i m ys H2 ⟨d,j,rfl⟩;obtain ⟨c,f⟩:=hl i ys H2 j d;refine ⟨f,?_⟩;by_cases b:i<xs.length
 ·refine .inr ⟨⟨xs,xs[i],c,List.getElem?_eq_getElem b⟩,?_⟩;rintro x H3 ⟨rfl,h⟩;have e:(fun (σ4:St) (H4:Hp)=>te σ4 H4 fun y H5=>Pv (i+1) (ys++[y]) H5)=fun σ4 H4=>te σ4 H4 fun y H5=>∃ m',m'<xs.length-i/\Pv (i+1) (ys++[y]) H5/\i+1<=xs.length/\m'=xs.length-(i+1):=by
   funext σ4 H4
   congr 1
   funext y H5
   exact propext ⟨fun q=>⟨_,Nat.sub_lt_sub_left b (Nat.lt_succ_self i),q,b,rfl⟩,fun ζ=>by obtain ⟨_,_,q,_⟩:=ζ;exact q⟩
  rw [<- e];exact hs i x ys _ (h xs c) d
 ·have e:i=xs.length:=by ac_nf
  subst e;exact .inl ⟨⟨xs,c,Nat.le_refl _⟩,hd ys H2 d⟩
end L2
namespace Ch
open PySem
structure TD where
 nm:Str
 st:Str
 en:Str
 lo:Option (Int × Int)
 hi:Option (Int × Int)
structure SD where
 src:Str
 dst:Str
 c:Int × Int
 nm:Str
 fw:Bool
def fwd (t:TD):List SD:=match t.hi with
 | some h=>[⟨t.st,t.en,h,t.nm,true⟩]
 | none=>[]
def bwd (t:TD):List SD:=match t.lo with
 | some l=>[⟨t.en,t.st,(-l.1,l.2),t.nm,false⟩]
 | none=>[]
def steps (t:TD):List SD:=fwd t++bwd t
def all (ts:List TD):List SD:=ts.flatMap steps
abbrev Pr:=Str × Bool
def key (s:SD):Pr:=(s.nm,s.fw)
def lastA (acc:Option SD) (ss:List SD) (k:Pr):Option SD:=ss.foldl (fun a s=>if key s=k then some s else a) acc
def last (ss:List SD) (k:Pr):Option SD:=lastA none ss k
theorem Jh1 {t:TD} {s:SD} (h:s∈steps t):s.nm=t.nm:=by
 unfold steps fwd bwd at h;rcases mem_append.mp h with h | h
 ·split at h
  ·simp at h;rw [h]
  ·simp at h
 ·split at h
  ·simp at h;rw [h]
  ·simp at h
def addF (a c:Int × Int):Int × Int:=(Mth.top (a.1*c.2+c.1*a.2) (a.2*c.2),Mth.bot (a.1*c.2+c.1*a.2) (a.2*c.2))
structure FOk (n:Nat) (a:Int × Int):Prop where
 s1:Mth.Sz n a.1
 s2:Mth.Sz n a.2
 b1:1<=a.2
 g1:Mth.g a.1 a.2=1
end Ch
namespace L2
open PySem PySem.Spec PyProof.Rows Ch
def isTF:HO->Bool
 | .tup _=>true
 | .frz _ _=>true
 | _=>false
def SameT (H H':Hp):Prop:=∀ b u,isTF u=true->H b=some u->H' b=some u
variable {H H1:Hp}
theorem SameT.trans {H2:Hp} (a:SameT H H1) (b:SameT H1 H2):SameT H H2:=fun c o t h=>b c o t (a c o t h)
variable {H':Hp}
theorem Same.t (a:Same H H'):SameT H H':=fun b u _ h=>a b u h
theorem SameT.put {l:Addr} {o o':HO} (e:upd H l o=H') (hl:H l=some o') (ht:isTF o'=false):SameT H H':=fun b u t h=>by
 rw [<- e,Jag (ne_of h hl fun q=>by rw [q,ht] at t;cases t)];exact h
variable {xs:List V}
theorem SqT.sameT {K:W.Frag} {a:Addr} (e:SameT H H') (h:SqT K H a xs):SqT K H' a xs:=by
 rcases h with (h | ⟨o,h⟩) | h
 ·exact .inl (.inl (e _ _ rfl h))
 ·exact .inl (.inr ⟨o,e _ _ rfl h⟩)
 ·exact .inr h
variable {v:V}
theorem FrV.sameT {K:W.Frag} {a b:Int} (S:SameT H H') (h:FrV K H v a b):FrV K H' v a b:=by
 obtain ⟨p,e,q⟩:=h;exact ⟨p,e,q.sameT S⟩
def frD (a:Int × Int):D:=.tup [.int a.1, .int a.2]
def bD:Option (Int × Int)->D
 | none=>.non
 | some a=>frD a
def tdD (t:TD):D:=.tup [.str t.nm, .str t.st, .str t.en,bD t.lo,bD t.hi]
def pD (s:SD):D:=.tup [.str s.src, .str s.dst,frD s.c, .bl s.fw]
def BV (K:W.Frag) (H:Hp):Option (Int × Int)->V->Prop
 | none,v=>v=.non
 | some a,v=>FrV K H v a.1 a.2
variable {o:Option (Int × Int)}
theorem BV.rep {K:W.Frag} (h:BV K H o v):Rep K H (bD o) v:=by
 cases o with
 | none=>simp only [bD,Rep];exact h
 | some a=>exact FrV.rep h
theorem BV.sameT {K:W.Frag} (S:SameT H H') (h:BV K H o v):BV K H' o v:=by
 cases o with
 | none=>exact h
 | some a=>exact FrV.sameT S h
def TV (K:W.Frag) (H:Hp) (t:TD) (x:V):Prop:=∃ b vl vg,x=.ref b/\SqT K H b [.str t.nm, .str t.st, .str t.en,vl,vg]/\BV K H t.lo vl/\BV K H t.hi vg
def PV (K:W.Frag) (H:Hp) (s:SD) (x:V):Prop:=∃ b v,x=.ref b/\SqT K H b [.str s.src, .str s.dst,v, .bl s.fw]/\FrV K H v s.c.1 s.c.2
def CV (H:Hp) (c:Pr) (x:V):Prop:=∃ b,x=.ref b/\H b=some (.tup [.str c.1, .bl c.2])
section
variable {K:W.Frag} {x:V}
theorem TV.sameT {t:TD} (S:SameT H H'):TV K H t x->TV K H' t x:=by rintro ⟨b,vl,a,e,q,d,c⟩;exact ⟨b,vl,a,e,q.sameT S,d.sameT S,c.sameT S⟩
variable {s:SD}
theorem PV.sameT (S:SameT H H'):PV K H s x->PV K H' s x:=by rintro ⟨b,v,e,q,h⟩;exact ⟨b,v,e,q.sameT S,h.sameT S⟩
variable {c:Pr}
theorem CV.sameT (S:SameT H H'):CV H c x->CV H' c x:=fun ⟨b,e,q⟩=>⟨b,e,S _ _ rfl q⟩
theorem TV.rep {t:TD}:TV K H t x->Rep K H (tdD t) x:=fun ⟨b,vl,d,e,q,c,a⟩=>by
 simp only [tdD,Rep,RepL];exact ⟨b,_,e,q,_,_,rfl,rfl,_,_,rfl,rfl,_,_,rfl,rfl,_,_,rfl,c.rep,_,_,rfl,a.rep,rfl⟩
theorem PV.of (h:Rep K H (pD s) x):PV K H s x:=by
 simp only [pD,frD,Rep,RepL] at h;obtain ⟨b,i,rfl,q,n,t,rfl,rfl,d,g,rfl,rfl,l,c,rfl,⟨p,e,rfl,a,j,k,rfl,rfl,r,f,rfl,rfl,rfl⟩,m,o,rfl,rfl,rfl⟩:=h;exact ⟨b, .ref p,rfl,q,p,rfl,a⟩
end
variable {α:Type}
def All2 (P : α->V->Prop):List α->List V->Prop
 | [],xs=>xs=[]
 | a::as,xs=>∃ x r,xs=x::r/\P a x/\All2 P as r
section
variable {P P' : α->V->Prop}
theorem All2.mono:∀ {as:List α} {xs:List V},(∀ a x,P a x->P' a x)->All2 P as xs->All2 P' as xs
 | [],_,_,h=>h
 | a::as,xs,f,h=>by
  obtain ⟨x,r,e,h1,h2⟩:=h;exact ⟨x,r,e,f _ _ h1,All2.mono f h2⟩
theorem All2.length:∀ {as:List α} {xs:List V},All2 P as xs->xs.length=as.length
 | [],_,h=>by rw [show _=_ from h];rfl
 | a::as,xs,h=>by
  obtain ⟨x,r,e,h1,h2⟩:=h;rw [e,length_cons,length_cons,h2.length]
theorem All2.at_:∀ {as:List α} {xs:List V} {i:Nat} {x:V},All2 P as xs->xs[i]?=some x->∃ a,as[i]?=some a/\P a x
 | [],_,_,_,h,hx=>by rw [show _=_ from h] at hx;simp at hx
 | a::as,xs,i,y,h,hx=>by
  obtain ⟨x,r,e,h1,h2⟩:=h;subst e;cases i with
  | zero=>simp at hx;subst hx;exact ⟨a,rfl,h1⟩
  | succ i=>simpa using All2.at_ h2 (by simpa using hx)
theorem All2.append:∀ {as bs:List α} {xs ys:List V},All2 P as xs->All2 P bs ys->All2 P (as++bs) (xs++ys)
 | [],bs,xs,ys,h,g=>by rw [show xs=[] from h];exact g
 | a::as,bs,xs,ys,h,g=>by
  obtain ⟨x,r,e,h1,h2⟩:=h;subst e;exact ⟨x,r++ys,rfl,h1,All2.append h2 g⟩
variable {x:V}
theorem All2.one {a : α} (h:P a x):All2 P [a] [x]:=⟨x,[],rfl,h,rfl⟩
theorem All2.ofRepL {K:W.Frag} {f : α->D} (g:∀ a x,Rep K H (f a) x->P a x):∀ {as:List α} {xs:List V},RepL K H (as.map f) xs->All2 P as xs
 | [],xs,h=>by simp only [map_nil,RepL] at h;exact h
 | a::as,xs,h=>by
  simp only [map_cons,RepL] at h;obtain ⟨x,r,e,h1,h2⟩:=h;exact ⟨x,r,e,g _ _ h1,All2.ofRepL g h2⟩
end
structure TOk (t:TD):Prop where
 n1:nameS t.nm=true
 n2:nameS t.st=true
 n3:nameS t.en=true
 ne:t.st≠t.en
 lo:∀ a,t.lo=some a->FOk 600 a
 hi:∀ a,t.hi=some a->FOk 600 a
 le:lessD (bD t.hi) (bD t.lo)=false
variable {z:Str}
theorem len8 (h:nameS z=true):z.length<=8:=by
 unfold nameS at h;simp only [Bool.and_eq_true,decide_eq_true_eq] at h;exact h.1.2
theorem bD_ok (h:∀ a,o=some a->FOk 600 a):Jcb (bD o)=true/\szD (bD o):=by
 cases o with
 | none=>exact ⟨rfl,by simp only [bD,szD]⟩
 | some a=>
  have k:=h a rfl;refine ⟨by simp [bD,frD,Jcb,fracB,k.b1,k.g1],?_⟩;simp only [bD,frD,szD,szL];exact ⟨k.s1.mono ⋯,k.s2.mono ⋯,trivial⟩
theorem TOk.tie {t:TD} (h:TOk t):tieB (tdD t)=true:=by
 have e:eqD (.str t.st) (.str t.en)=false:=by simp only [eqD,beq_eq_false_iff_ne];exact h.ne
 simp [tdD,tieB,nameB,Jd3,h.n1,h.n2,h.n3,e,Jdk,(bD_ok h.lo).1,(bD_ok h.hi).1,h.le]
theorem TOk.sz {t:TD} (h:TOk t):szD (tdD t):=by
 simp only [tdD,szD,szL];have:=len8 h.n1;have:=len8 h.n2;have:=len8 h.n3;exact ⟨by ac_nf,by ac_nf,by ac_nf,(bD_ok h.lo).2,(bD_ok h.hi).2,trivial⟩
section
variable {kvs:List (List Key × V)} {ss:List SD} {K:W.Frag}
end
def CompJ (J:It) (k:Nat) (cs:List (Nat × Str)) (g:TG) (te:TE) (σ : St) (Q:VK) (H1:Hp):Prop:=∃ W:Nat->Nat->List V->Hp->Prop,(∃ m,W 0 m [] H1)/\∀ i m ys H2,W i m ys H2->ys.length<=sizeLine /\
  ((J.stop i H2/\∀ p,H2 p=none->Q (.ref p) (upd H2 p (.lst ys))) \/
   (J.go i H2/\∀ x H3,J.yld i H2 x H3->g x (List.replicate k none++JaZ cs σ) H3 fun σ4 H4=>te σ4 H4 fun y H5=>∃ m',m'<m/\W (i+1) m' (ys++[y]) H5))
def JeI (J:It) (k:Nat) (cs:List (Nat × Str)) (g:TG) (tt:TT) (te:TE) (σ : St) (Q:VK) (H1:Hp):Prop:=∃ W:Nat->Nat->List V->Hp->Prop,(∃ m,W 0 m [] H1)/\∀ i m ys H2,W i m ys H2->ys.length<=sizeLine /\
  ((J.stop i H2/\∀ p,H2 p=none->Q (.ref p) (upd H2 p (.lst ys))) \/
   (J.go i H2/\∀ x H3,J.yld i H2 x H3->g x (List.replicate k none++JaZ cs σ) H3 fun σ4 H4=>tt σ4 H4 fun b H5=>if b=true then te σ4 H5 fun y H6=>∃ m',m'<m/\W (i+1) m' (ys++[y]) H6 else ∃ m',m'<m/\W (i+1) m' ys H5))
section
variable {tt:TT} {te tl:TE} {σ:St} {Q:VK} {a:Addr} {K:W.Frag} {k:Nat} {cs:List (Nat × Str)} {g:TG}
theorem y35y:tComp k cs (iAny K tl) g te σ H Q=tl σ H fun x H1=>∃ a,x=.ref a/\(((∃ xs,SqL K H1 a xs)/\CompJ (Itl K a) k cs g te σ Q H1)\/((∃ xs,SqT K H1 a xs)/\CompJ (Itt K a) k cs g te σ Q H1)):=rfl
theorem y37y:Jgk k cs (iAny K tl) g tt te σ H Q=tl σ H fun x H1=>∃ a,x=.ref a/\(((∃ xs,SqL K H1 a xs)/\JeI (Itl K a) k cs g tt te σ Q H1)\/((∃ xs,SqT K H1 a xs)/\JeI (Itt K a) k cs g tt te σ Q H1)):=rfl
theorem CompJ.list (Pv:Nat->List V->Hp->Prop) (h0:Pv 0 [] H1) (hl:∀ i ys H',i<=xs.length->Pv i ys H'->SqL K H' a xs/\ys.length<=sizeLine)
  (hs:∀ i x ys H2,xs[i]?=some x->Pv i ys H2->g x (List.replicate k none++JaZ cs σ) H2 fun σ4 H4=>te σ4 H4 fun y H5=>Pv (i+1) (ys++[y]) H5) (hd:∀ ys H2,Pv xs.length ys H2->∀ p,H2 p=none->Q (.ref p) (upd H2 p (.lst ys))) :
  CompJ (Itl K a) k cs g te σ Q H1:=compL Pv h0 hl hs hd
end
section
variable {ss:List SD} {c:Pr} {s:SD} {tot:Int × Int} {l:Str} {cs:List Pr} {f:Str}
end
section
variable {Q:VK} {K:W.Frag}
end
variable {prog:Program} {w:World} {A:Around} {E:Value->Shared->Prop} {s:Shared}
def addS (l:List Str) (z:Str):List Str:=if z∈l then l else l++[z]
variable {M:Model}
section
variable {I a:Addr} {es:Array (Int × Value)} {i ep:Nat} {Q:Option Value->Shared->Prop} {t:SetTable}
end
variable {S r:Addr}
theorem Jjh {R:Result->Shared->Prop} (h:wpAny (model prog w) A.in1 (Builtin.List.listExtendWith (.ref S) (.ref r) (.ref S)) (fun fin s'=>match fin with | .done f=>R (.ok f) s' | .again c'=>c'.quiet=true/\codeAny (model prog w) A c' R s') (fun e s'=>R (.error e) s') s) :
  codeAny (model prog w) A (.builtin "list.__iadd__" ⟨[.ref S, .ref r],[]⟩) R s:=by
 refine codeAny_builtin (PySem.F.entry_list_iadd) ?_;rw [Around.under_plainId (PySem.F.plain_list_iadd) _];exact h
variable {ss:List Str}
theorem JgG {Q:Value->Shared->Prop} (h64:ss.length<64)
  (hx:∀ (R:Result->Shared->Prop),(∀ s' (vs:List Value) c' ss',(∀ b o,s.heap.get? b=some o->s'.heap.get? b=some o)->s'.gens=s.gens->s'.os=s.os->s.toks<=s'.toks ->
    s'.heap.get? s.heap.objs.size=some { cls:=.type "list",dict:=none,data:=.seq vs.toArray c',slots:=#[] }->StrsAre vs ss'->ss'.Perm ss->R (.ok (.ret (.ref s.heap.objs.size))) s') ->
   codeAny (model prog w) A.in1 (.builtin "list.__iadd__" ⟨[.ref s.heap.objs.size, .ref r],[]⟩) R { s with heap:=s.heap.push { cls:=.type "list",data:=.seq ([]:List Value).toArray } })
  (q:∀ s' l (out:Array Value) ss' e,(∀ b o,s.heap.get? b=some o->s'.heap.get? b=some o)->s'.gens=s.gens->s'.os=s.os->s.toks<=s'.toks->s.heap.objs.size<=l->s'.heap.get? l=some (seqObj "list" out e)->StrsAre out.toList ss'->ss'.Perm ss->sortedS ss'=true->Q (.ref l) s') :
  wpAny (model prog w) A (call (.builtin "sorted") [.ref r]) Q E s:=by
 refine Calls.call_function_entry kind_sorted plain_sorted entry_sorted (args_sorted1 _) ?_;unfold Builtin.«sorted»;refine wpAny_bind (m:=checkCount "sorted" 1 1 _) (wpAny_pure ?_);refine wpAny_bind ?_;unfold collect;refine wpAny_bind (wpAny_runValue (codeAny_builtin (PySem.F.entry_proto_collect) ?_));rw [Around.under_plainId (PySem.F.plain_proto_collect) _];show wpAny _ A.in1.in1 (newList [] >>= fun l=>again (.builtin "list.__iadd__" ⟨[l, .ref r],[]⟩)) _ _ s;refine wpAny_bind (wpAny_newObj_type ?_);refine wpAny_pure ⟨plainId_quiet (PySem.F.plain_list_iadd) _,hx _ fun s' vs c' D k x n C i a j=>?_⟩;refine wpAny_bind (m:=load s.heap.objs.size) (wpAny_load i (wpAny_pure ?_));have vl:vs.length<64:=by rw [a.length,j.length_eq];exact h64
 have v:(64:Nat)<=sizeLine:=by decide
 dsimp only;refine wpAny_bind (wpAny_newList ?_ (by show vs.length<=sizeLine;ac_nf));have d:(s'.heap.push (seqObj "list" vs.toArray 0)).get? s'.heap.objs.size=some (seqObj "list" vs.toArray 0):=Heap.get?_push_size _ rfl;refine wpAny_bind (wpAny_holding (wpAny_call_entry slot_list_sort ⟨_,d,rfl⟩ entry_list_sort (list_sort_treeK strKind_oneLt d a.keysOf (fun H G rest e=>keyKind_strs (by rw [<- e];exact a)) vl fun t g f=>⟨_,rfl,?_⟩) (args_list_sort _)));obtain ⟨c,y,B,z⟩:=sorted_out_str a g f;obtain ⟨u,p⟩:=sortedHeap_at (out:=(arrOf t).map (·.2)) d;refine wpAny_pure ⟨_,rfl,q _ s'.heap.objs.size _ c u (fun b o e=>?_) x n C ?_ p y (B.trans j) z⟩
 ·have h:=Heap.lt_size (k b o e);rw [sortedHeap_old (Nat.ne_of_lt h) (by rw [size_push'];exact Nat.lt_succ_of_lt h)];exact Heap.get?_push_of_some _ (k b o e)
 ·exact Nat.le_of_lt (Heap.lt_size i)
theorem JhF:∀ (vs:List Value),(∀ v∈vs, ∃ x t,v=.str x t)->StrsAre vs (vs.map strOf)
 | [],_=>.nil
 | v::vs,h=>by
  obtain ⟨x,t,rfl⟩:=h v (by simp);exact .cons x t (JhF vs fun u hu=>h u (by simp [hu]))
theorem JfS {K:Type} [DecidableEq K] {knd:PySem.KeyKind prog w K} {d:Addr} {kvs:List (K × Value)} {ep:Nat} {ss:List Str} {Q:Value->Shared->Prop} (hh:A.handled=none) (lo:(d == sysModules)=false) (hd:s.heap.DictAt knd d kvs ep) (h64:kvs.length<64)
  (hl:ss.length=kvs.length) (hk:∀ i k x v,kvs[i]?=some (k,x)->knd.is k v=true->∃ t,v=.str (ss.getD i ⟨#[]⟩) t)
  (q:∀ s' l (out:Array Value) ss' e,(∀ b o,s.heap.get? b=some o->s'.heap.get? b=some o)->s'.gens=s.gens->s'.os=s.os->s.toks<=s'.toks->s.heap.objs.size<=l->s'.heap.get? l=some (seqObj "list" out e)->StrsAre out.toList ss'->ss'.Perm ss->sortedS ss'=true->Q (.ref l) s') :
  wpAny (model prog w) A (call (.builtin "sorted") [.ref d]) Q E s:=by
 have M:(64:Nat)<=sizeLine:=by decide
 have H:=hd.lt_size;have J:A.in1.handled=none:=by simp [hh]
 refine JgG (ss:=ss) ∅ (fun R k=>?_) q;obtain ⟨z,p⟩:∃ z:Result->Shared->Prop, ∀ r s',z r s'↔∃ g B a u,r=.ok (.ret (.ref s.heap.objs.size))/\s'={ s with heap:=g,toks:=B }/\(∀ b o,b≠s.heap.objs.size->(s.heap.push { cls:=.type "list",data:=.seq ([]:List Value).toArray }).get? b=some o->g.get? b=some o)/\g.get? s.heap.objs.size=some { cls:=.type "list",dict:=none,data:=.seq a u,slots:=#[] }/\ItemsOf (fun i v=>∃ k x,kvs[i]?=some (k,x)/\knd.is k v=true) a kvs.length:=⟨_,fun _ _=>Iff.rfl⟩;have m:=codeAny_toks_of (n:=s.toks) (s:={ s with heap:=s.heap.push { cls:=.type "list",data:=.seq ([]:List Value).toArray } }) (Nat.le_refl _) (Jjh (A:=A.in1) (R:=z)
  (W.kdl_extend (R:=z) (s:={ s with heap:=s.heap.push { cls:=.type "list",data:=.seq ([]:List Value).toArray } }) (W.kdl_dict (knd:=knd) (kvs:=kvs) (ep:=ep) lo) J (hd.push _) s.heap.objs.size (Nat.ne_of_gt H) (Nat.ne_of_gt H) (.ref s.heap.objs.size) 0 (Heap.get?_push_size _ rfl) (fun g B a u F hl f=>(p _ _).mpr ⟨g,B,a,u,rfl,rfl,F,hl,f⟩) ∅))
 refine codeAny_mono m ?_;rintro r s' ⟨P,I⟩;obtain ⟨g,B,a,u,rfl,rfl,F,h,f⟩:=(p _ _).mp I;have L:StrsAre a.toList ss:=by
  have j:∀ v∈a.toList, ∃ x t,v=.str x t:=fun v S=>by
   obtain ⟨i,G⟩:=List.getElem?_of_mem S;rw [Array.getElem?_toList] at G;obtain ⟨D,x,y,C⟩:=f.2 i v G;obtain ⟨t,e⟩:=hk i D x v y C;exact ⟨_,t,e⟩
  have:=JhF _ j;have e:a.toList.map strOf=ss:=by
   refine List.ext_getElem? fun i=>?_;rw [List.getElem?_map,Array.getElem?_toList];have T:a.size=kvs.length:=f.1;by_cases c:i<kvs.length
   ·have y:a[i]?=some a[i]:=Array.getElem?_eq_getElem ∅;obtain ⟨D,x,C,N⟩:=f.2 i _ y;obtain ⟨t,O⟩:=hk i D x _ C N;rw [y,Option.map_some,O,List.getElem?_eq_getElem ∅];simp [strOf,List.getD_eq_getElem?_getD,List.getElem?_eq_getElem (show i<ss.length by ac_nf)]
   ·rw [Array.getElem?_eq_none ∅,List.getElem?_eq_none ∅];rfl
  rw [e] at this;exact this
 exact k _ a.toList u ss (fun b o e=>F b o (Nat.ne_of_lt (Heap.lt_size e)) (Heap.get?_push_of_some _ e)) rfl rfl P (by rw [Array.toArray_toList];exact h) L (.refl _)
variable {a:Addr} {its:Array Value} {n:Nat} {X:Cx} {pins:List (Addr × Obj)} {σ:List (Option V)} {s':Shared}
theorem Inv.like (I:Inv X pins σ H { s with heap:=s'.heap,toks:=s'.toks }) (eg:s'.gens=s.gens) (eo:s'.os=s.os):Inv X pins σ H s' :=
 ⟨I.ok,by rw [eo];exact I.os,by rw [eg];exact I.bare,I.base,I.loc,I.cell,I.free,I.freeC,I.pin,I.hok,I.len⟩
theorem Jfp:∀ {vs:List Value} {ss:List Str},StrsAre vs ss->Vals (ss.map V.str) vs
 | _,_, .nil=>.nil
 | _,_, .cons z t r=>.cons ⟨t,rfl⟩ (Jfp r)
def JgK (out ss:List Str):Prop:=out.Perm ss/\sortedS out=true
def Jkw (xs:List V) (H:Hp) (Q:VK):Prop:=∃ d kvs ss,xs=[.ref d]/\H d=some (.dK kvs)/\kvs.map (·.1)=ss.map Sum.inr/\ss.length<64/\∀ l out,H l=none->JgK out ss->Q (.ref l) (upd H l (.lst (out.map V.str)))
theorem JcU (hc:X.calm=true):CallR X (.builtin "sorted") Jkw:=by
 intro J s σ H Z us Q I r h;obtain ⟨d,a,ss,rfl,e,A,N,q⟩:=h;obtain ⟨u,rfl,M⟩:=vals1 r;cases M;obtain ⟨R,S,p,j,D⟩:=dk_of I.hok e;obtain ⟨ep,F⟩:=D.dictAt;have sl:(64:Nat)<=sizeLine:=by decide
 have lk:ss.length=a.length:=by simpa using (congrArg List.length A).symm
 have W:p.length=a.length:=j.length.symm;have f:p.map (·.1)=a.map (·.1):=by
  clear D F A lk W R q e;induction j with
  | nil=>rfl
  | cons h1 _ ih=>
   rw [map_cons,map_cons,ih,h1.1]
 refine JfS (ss:=ss) (I.ok.hd hc) S F ∅ ∅ (fun i k x v T Y=>?_) fun K l g c L k U O et G P C m B=>?_
 ·have E:(p.map (·.1))[i]?=some k:=by rw [List.getElem?_map,T];rfl
  rw [f,A,List.getElem?_map] at E;obtain ⟨z,n,rfl⟩:=Option.map_eq_some_iff.mp E;rcases JaK (show keyIs (Sum.inr z) v=true from Y) with ⟨b,hb,_⟩ | ⟨y,t,hy,rfl⟩
  ·cases hb
  ·cases hy;exact ⟨t,by rw [List.getD_eq_getElem?_getD,n];rfl⟩
 ·have lo:g.toList.length<=sizeLine:=by
   rw [C.length,m.length_eq];ac_nf
  refine ⟨.ref l,_,Inv.like (s:=s) (I.laid (t':=K.toks) (o:=.lst (c.map V.str)) k G (show ObjOk X.prog X.w _ K.heap l (.lst (c.map V.str)) from ⟨by rw [length_map,m.length_eq];ac_nf,g.toList,L,Jfp C,by rw [Array.toArray_toList];exact P⟩)) U O,rfl,q l c (I.hok.fresh G) ⟨m,B⟩⟩
variable {kvs:List (Key × V)}
theorem Ji3 (h:kvs.map (·.1)=ss.map Sum.inr) (z:Str):(kvs.any fun kv=>decide (kv.1=Sum.inr z))=decide (z∈ss):=by
 have e:(kvs.any fun kv=>decide (kv.1=Sum.inr z))=(kvs.map (·.1)).any fun k=>decide (k=Sum.inr z):=by rw [List.any_map];rfl
 rw [e,h,List.any_map,Bool.eq_iff_iff];simp
theorem Jga (h:kvs.map (·.1)=ss.map Sum.inr) (z:Str) (v:V):(putK kvs (Sum.inr z) v).map (·.1)=(addS ss z).map Sum.inr:=by
 unfold putK addS;rw [Ji3 h];by_cases c:z∈ss
 ·rw [if_pos (by simpa using c),if_pos c, <- h,map_map];refine List.map_congr_left fun a _=>?_;simp only [Function.comp];split
  ·rfl
  ·rfl
 ·rw [if_neg (by simpa using c),if_neg c,map_append,map_append,h];rfl
theorem JgL (z:Str) (h:ss.Nodup):(addS ss z).Nodup:=by
 unfold addS;split
 ·exact h
 ·rename_i c;rw [nodup_append];refine ⟨h,by simp,fun a d b f=>?_⟩;rw [mem_singleton.mp f];exact fun e=>c (e ▸ d)
theorem JfX (z x:Str):x∈addS ss z↔x∈ss\/x=z:=by
 unfold addS;split
 ·rename_i c;constructor
  ·exact .inl
  ·rintro (h | rfl)
   ·exact h
   ·exact c
 ·simp
theorem JfW (ss:List Str) (z:Str):(addS ss z).length<=ss.length+1:=by
 unfold addS;split <;> simp
def Jbi (ts:List TD) (out:List Str):Prop:=out.Nodup/\sortedS out=true/\∀ z,z∈out↔∃ t∈ts,z=t.st\/z=t.en
def leS (a b:Str):Prop:=a.cps.toList<=b.cps.toList
theorem Jfd:∀ (p:Str) (l:List Str),risingS p l=true->(p::l).Pairwise leS
 | p,[],_=>by simp
 | p,x::r,h=>by
  have h':(!ltCps x.cps.toList p.cps.toList&&risingS x r)=true:=h;rw [Bool.and_eq_true] at h';have ih:=Jfd x r h'.2;have h1:leS p x:=by
   have:=h'.1;rw [ltCps_eq] at this;exact List.not_lt.mp (by simpa using this)
  refine List.pairwise_cons.mpr ⟨fun b hb=>?_,ih⟩;rcases mem_cons.mp hb with rfl | hb
  ·exact h1
  ·exact List.le_trans h1 ((List.pairwise_cons.mp ih).1 b hb)
theorem Jfm (l:List Str) (h:sortedS l=true):l.Pairwise leS:=by
 cases l with
 | nil=>simp
 | cons p l=>exact Jfd p l h
theorem JhZ {a b:Str} (h:leS a b) (g:leS b a):a=b:=by
 have e:=List.le_antisymm h g;cases a;cases b;simp only [Str.mk.injEq];exact Array.toList_inj.mp e
theorem Jfl {l l':List Str} (h:sortedS l=true) (h':sortedS l'=true) (hn:l.Nodup) (hn':l'.Nodup) (hm:∀ z,z∈l↔z∈l'):l=l' :=
 List.Perm.eq_of_pairwise (le:=leS) (fun _ _ _ _=>JhZ) (Jfm l h) (Jfm l' h') ((List.perm_ext_iff_of_nodup hn hn').mpr hm)
def negF (a:Int × Int):Int × Int:=(-a.1,a.2)
structure FB (A B:Nat) (a:Int × Int):Prop where
 s1:Mth.Sz A a.1
 s2:Mth.Sz B a.2
 b1:1<=a.2
 g1:Mth.g a.1 a.2=1
variable {A B:Nat} {a:Int × Int}
theorem FB.ok (h:FB A B a) (h1:A<=n) (h2:B<=n):FOk n a:=⟨h.s1.mono h1,h.s2.mono h2,h.b1,h.g1⟩
theorem FB.neg (h:FB A B a):FB A B (negF a):=⟨by
 have:=h.s1;unfold Mth.Sz at this ⊢;unfold negF;rw [Int.natAbs_neg];exact this,h.s2,h.b1,by
 have:=h.g1;unfold Mth.g negF at *;simpa using this⟩
theorem FB.add {C D m:Nat} {c:Int × Int} (h:FB A B a) (k:FB C D c) (h1:A+D<=n) (h2:C+B<=n) (h3:B+D<=m):FB (n+1) m (addF a c):=by
 have b:a.2*c.2≠0:=Int.mul_ne_zero (by have:=h.b1;ac_nf) (by have:=k.b1;ac_nf);have e:=(h.s1.mul k.s2).mono h1;have d:=(k.s1.mul h.s2).mono h2;exact ⟨Mth.Sz.top b (e.add d),(Mth.Sz.bot b (h.s2.mul k.s2)).mono h3,Mth.Jdj b,Mth.g_low b⟩
def QV (K:W.Frag) (H:Hp) (p:Str × (Int × Int)) (x:V):Prop:=∃ b v,x=.ref b/\H b=some (.tup [.str p.1,v])/\FrV K H v p.2.1 p.2.2
theorem QV.sameT {K:W.Frag} {p:Str × (Int × Int)} {x:V} (S:SameT H H'):QV K H p x->QV K H' p x:=by rintro ⟨b,v,e,h,f⟩;exact ⟨b,v,e,S _ _ rfl h,f.sameT S⟩
variable {e:Expr} {ta:TE} {pos:Pos}
theorem Jjx {K:W.Frag} {f:Str} (hK:X.K=K) (he:PE X e ta) (hb:attributeBase e f X.env (eval e X.env)=eval e X.env):PE X (.Attribute e f pos) (tFld K ta f):=by
 subst hK;exact Jat he hb
section
variable {o:Expr} {es:List Expr} {to:TE} {name:Str} {apos cpos:Pos} {T id:String} {r:V->List V->Hp->VK->Prop} {K:W.Frag} {t:TA}
end
def JiZ (td:TE):TE:=fun σ H Q=>td σ H fun x H1=>∃ d kvs,x=.ref d/\H1 d=some (.dK kvs)/\∀ l,H1 l=none->Q (.ref l) (upd H1 l (.lst (kvs.map (·.2))))
theorem JjP {vs:List (Key × Value)} (r:KV kvs vs):Vals (kvs.map (·.2)) (vs.map (·.2)):=by
 unfold KV at r;induction r with
 | nil=>exact .nil
 | cons h _ ih=>exact .cons h.2 ih
variable {o:Expr} {td:TE} {p1 apos cpos:Pos} {x:Str}
theorem JjB (hc:X.calm=true) (hx:x="list") (hg:Gl X x) (hm:X.mg x=none) (hv:bootBuiltins x=some (.type "list")) (ho:PE X o td)
  (hb:attributeBase o "values" X.env (eval o X.env)=eval o X.env:=by rfl) (hn:(apos.endLine == cpos.line)=true:=by rfl) :
  PE X (.Call (.Name x p1) [.Call (.Attribute o "values" apos) [] [] cpos] [] pos) (JiZ td):=by
 intro g s σ H Q I h;have u:x≠"__name__":=by rw [hx];decide
 have G:(x == ("__debug__" : Str))=false:=by rw [hx];decide
 refine wpAny_Call_Name_kw (Jc1 I hg hm hv ?_ u G);refine PyProof.Rows.callWith_type1 ?_ rfl rfl;show wpAny _ _ (spliced ((false,eval (.Call (.Attribute o "values" apos) [] [] cpos) X.env)::backTo pos (starEach [] X.env))) _ _ s;refine Calls.spliced_cons ?_;refine wpAny_Call_method0_late hb hn (thn (ho g s σ H _ I h) fun v i ζ=>?_);obtain ⟨y,R,I1,M,d,kvs,t,e,O⟩:=ζ;subst t;obtain rfl:v=Value.ref d:=M;obtain ⟨q,B,E⟩:=JiJ I1 (.inl ⟨kvs, .inl e⟩);obtain ⟨C,_,l,f,m⟩:=dk_of I1.hok e;refine ⟨"dict","dict.values",PySem.F.plainAttrs_dict,PySem.F.slot_dict_values,PySem.F.type_dict_values,q,B,Calls.callWith_builtin rfl (PySem.evalArgs_none ?_)⟩;refine call_meetsIn PySem.F.slot_dict_values q PySem.F.entry_dict_values (PySem.F.args_dict_values_1 _) (meets_dict_values (JaT X.prog X.w) d E) ⟨⟨l,m⟩,?_⟩;refine Calls.spliced_nil ?_;obtain ⟨ep,N⟩:=m.dictAt;refine W.kdl_call (W.kdl_values (knd:=JaT X.prog X.w) (r:=i.heap.objs.size) (d:=d) (kvs:=l) (ep:=ep)) (I.ok.hd hc) ⟨⟨_,Heap.get?_push_size _ rfl,rfl,rfl⟩,N.push _⟩ (by have:=f.length;ac_nf) fun n P c J k L a=>?_;have D:c.toList=l.map (·.2):=W.kdl_vals_eq _ (by rw [Array.length_toList];exact a.1) fun j v A=>a.2 j v (by rw [<- Array.getElem?_toList];exact A);have K:∀ b o,i.heap.get? b=some o->n.get? b=some o:=fun b o z=>k b o (Heap.get?_push_of_some _ z);have p:i.heap.objs.size<=(i.heap.push { cls:=.type "dict_values",data:=.fields #[.ref d] }).objs.size:=by
  rw [Heap.size_push];exact Nat.le_succ _
 exact ⟨.ref _,_,I1.laid (t':=P) (o:=.lst (kvs.map (·.2))) K p (show ObjOk X.prog X.w _ n _ (.lst (kvs.map (·.2))) from ⟨by rw [length_map];exact C,l.map (·.2),J,JjP f,by rw [<- D,Array.toArray_toList];exact L⟩),rfl,O _ (I1.hok.fresh p)⟩
variable {A:Around}
section
variable {k':Nat} {mn:Str} {C:Addr} {Cs:Addr->Prop} {ps:List Str} {sp:Sp} {p:Pos} {es:List Expr} {k:Nat} {t:TA}
abbrev TX:=St->Hp->VK->XK->Prop
def xMeth (Cs:Addr->Prop) (m:Str) (sp:Sp) (ta:TE) (t:TA):TX:=fun σ H Q E=>ta σ H fun x H1=>∃ a C dx fs,x=.ref a/\H1 a=some (.ins C dx fs)/\Cs C/\fs.lookup m=none/\t σ H1 fun vs H2=>sp (x::vs) H2 Q E
end
theorem Jfb:OpR X (compareOp .NotIn) (rIn X.K true):=Jfa
section
variable {σ:St} {Q:VK} {E:XK} {ty:TE} {ts:TA} {tc:TT} {u:TX} {C:Addr} {sp:Sp} {Cs:Addr->Prop} {t:TX} {m:Str}
theorem ya5y:xMeth Cs m sp ta ts σ H Q E=ta σ H fun x H1=>∃ a C dx fs,x=.ref a/\H1 a=some (.ins C dx fs)/\Cs C/\fs.lookup m=none/\ts σ H1 fun vs H2=>sp (x::vs) H2 Q E:=rfl
theorem ya0y:JiZ td σ H Q=td σ H fun x H1=>∃ d kvs,x=.ref d/\H1 d=some (.dK kvs)/\∀ l,H1 l=none->Q (.ref l) (upd H1 l (.lst (kvs.map (·.2)))):=rfl
theorem y42y:tDIn ty td σ H Q=ty σ H fun y H1=>td σ H1 fun x H2=>∃ a o,x=.ref a/\DGet H2 a y o/\Q (.bl o.isSome) H2:=rfl
theorem y46y:JhH ty td σ H Q=ty σ H fun y H1=>td σ H1 fun x H2=>∃ a o,x=.ref a/\DGet H2 a y o/\Q (.bl (!o.isSome)) H2:=rfl
theorem y47y:JiW td ty σ H Q=td σ H fun x H1=>∃ a,x=.ref a/\IsD H1 a/\ty σ H1 fun y H2=>∃ kvs k v,H2 a=some (.dK kvs)/\y=kV k/\valV kvs k=some v/\Q v (upd H2 a (.dK (dropK kvs k))):=rfl
end
section
variable {κ:Type} [DecidableEq κ] {f : α->κ} {k : κ} {u y : α}
theorem Jhy:∀ {l:List α} {i:Nat},(l.map f).Nodup->l[i]?=some u->f u=k->l.map (fun a=>if f a=k then y else a)=l.set i y
 | [],i,_,h,_=>by simp at h
 | a::l,0,hn,h,hk=>by
  simp at h;subst h;rw [map_cons,nodup_cons] at hn;rw [map_cons,if_pos hk,List.set_cons_zero]
  congr 1
  refine (List.map_congr_left fun b hb=>if_neg fun z=>hn.1 ?_).trans (List.map_id _);rw [hk, <- z];exact List.mem_map_of_mem hb
 | a::l,i+1,hn,h,hk=>by
  rw [List.getElem?_cons_succ] at h;rw [map_cons,nodup_cons] at hn;have ne:f a≠k:=fun z=>hn.1 (by rw [z, <- hk];exact List.mem_map_of_mem (List.mem_of_getElem? h));rw [map_cons,if_neg ne,List.set_cons_succ,Jhy hn.2 h hk]
theorem JeT:∀ {l:List α} {i:Nat},(l.map f).Nodup->l[i]?=some u->f u=k->l.filter (fun a=>decide (f a≠k))=l.eraseIdx i
 | [],i,_,h,_=>by simp at h
 | a::l,0,hn,h,hk=>by
  simp at h;subst h;rw [map_cons,nodup_cons] at hn;rw [List.filter_cons_of_neg (by simp [hk]),List.eraseIdx_cons_zero];refine List.filter_eq_self.mpr fun b hb=>decide_eq_true fun z=>hn.1 ?_;rw [hk, <- z];exact List.mem_map_of_mem hb
 | a::l,i+1,hn,h,hk=>by
  rw [List.getElem?_cons_succ] at h;rw [map_cons,nodup_cons] at hn;have ne:f a≠k:=fun z=>hn.1 (by rw [z, <- hk];exact List.mem_map_of_mem (List.mem_of_getElem? h));rw [List.filter_cons_of_pos (by simp [ne]),List.eraseIdx_cons_succ,JeT hn.2 h hk]
end
section
variable {P : α->V->Prop}
end
abbrev nms (ts:List TD):List Str:=ts.map (·.nm)
def putT (ts:List TD) (t:TD):List TD:=if t.nm∈nms ts then ts.map (fun u=>if u.nm=t.nm then t else u) else ts++[t]
def dropT (ts:List TD) (z:Str):List TD:=ts.filter fun u=>decide (u.nm≠z)
def BD (P:TD->V->Prop) (ts:List TD) (kvs:List (Key × V)):Prop:=kvs.map (·.1)=ts.map (fun t=>Sum.inr t.nm)/\All2 P ts (kvs.map (·.2))
section
variable {P P':TD->V->Prop} {ts:List TD} {t:TD}
theorem BD.mono (h:BD P ts kvs) (m:∀ a x,P a x->P' a x):BD P' ts kvs:=⟨h.1,h.2.mono m⟩
theorem BD.length (h:BD P ts kvs):kvs.length=ts.length:=by simpa using congrArg List.length h.1
theorem BD.cons:BD P (t::ts) kvs↔∃ w r,kvs=(Sum.inr t.nm,w)::r/\P t w/\BD P ts r:=by
 constructor
 ·rintro ⟨a,b⟩;match kvs,a,b with
  | (k,w)::r,a,b=>
   rw [map_cons,map_cons,List.cons.injEq] at a;obtain ⟨y,d,e,p,b⟩:=b;rw [map_cons,List.cons.injEq] at e;obtain ⟨rfl,rfl⟩:=e;obtain ⟨c,a⟩:=a;have c:k=Sum.inr t.nm:=c;subst c;exact ⟨_,r,rfl,p,a,b⟩
 ·rintro ⟨w,r,rfl,p,h⟩;exact ⟨by rw [map_cons,map_cons,h.1],w,r.map (·.2),rfl,p,h.2⟩
theorem BD.nil:BD P [] kvs↔kvs=[]:=by
 constructor
 ·rintro ⟨h,_⟩;simpa using h
 ·rintro rfl;exact ⟨rfl,rfl⟩
theorem BD.any:∀ {ts:List TD} {kvs:List (Key × V)} {z:Str},BD P ts kvs->(kvs.any fun kv=>decide (kv.1=Sum.inr z))=decide (z∈nms ts)
 | [],kvs,z,h=>by rw [BD.nil.mp h];simp
 | t::ts,kvs,z,h=>by
  obtain ⟨w,r,rfl,_,h⟩:=BD.cons.mp h;rw [any_cons,BD.any h];by_cases c:t.nm=z
  ·subst c;simp
  ·have c1:(Sum.inr t.nm:Key)≠Sum.inr z:=fun e=>c (by injection e);have c2:z≠t.nm:=fun e=>c e.symm;simp [c1,c2]
theorem BD.val:∀ {ts:List TD} {kvs:List (Key × V)} {z:Str},BD P ts kvs->(valV kvs (Sum.inr z)).isSome=decide (z∈nms ts)
 | [],kvs,z,h=>by rw [BD.nil.mp h];rfl
 | t::ts,kvs,z,h=>by
  obtain ⟨w,r,rfl,_,h⟩:=BD.cons.mp h;by_cases c:t.nm=z
  ·subst c;rw [JcS rfl];simp
  ·have c1:(Sum.inr t.nm:Key)≠Sum.inr z:=fun e=>c (by injection e);have c2:z≠t.nm:=fun e=>c e.symm;have e:valV ((Sum.inr t.nm,w)::r) (Sum.inr z)=valV r (Sum.inr z):=by simp [valV,List.find?_cons,c1]
   rw [e,BD.val h];simp [c2]
theorem BD.rep:∀ {ts:List TD} {kvs:List (Key × V)},BD P ts kvs->P t v->BD P (ts.map fun u=>if u.nm=t.nm then t else u) (kvs.map fun kv=>if kv.1=Sum.inr t.nm then (kv.1,v) else kv)
 | [],kvs,h,_=>by rw [BD.nil.mp h];exact ⟨rfl,rfl⟩
 | s::ts,kvs,h,p=>by
  obtain ⟨w,r,rfl,q,h⟩:=BD.cons.mp h;by_cases c:s.nm=t.nm
  ·rw [map_cons,map_cons,if_pos c,if_pos (by rw [c]),c];exact BD.cons.mpr ⟨v,_,rfl,p,BD.rep h p⟩
  ·have c1:(Sum.inr s.nm:Key)≠Sum.inr t.nm:=fun e=>c (by injection e);rw [map_cons,map_cons,if_neg c,if_neg c1];exact BD.cons.mpr ⟨w,_,rfl,q,BD.rep h p⟩
theorem BD.app (h:BD P ts kvs) (p:P t v):BD P (ts++[t]) (kvs++[(Sum.inr t.nm,v)]):=⟨by rw [map_append,map_append,h.1];rfl,by rw [map_append];exact h.2.append (.one p)⟩
theorem BD.put (h:BD P ts kvs) (p:P t v):BD P (putT ts t) (putK kvs (Sum.inr t.nm) v):=by
 unfold putT putK;rw [h.any];by_cases c:t.nm∈nms ts
 ·rw [if_pos c,if_pos (by simpa using c)];exact h.rep p
 ·rw [if_neg c,if_neg (by simpa using c)];exact h.app p
theorem BD.drop:∀ {ts:List TD} {kvs:List (Key × V)} {z:Str},BD P ts kvs->BD P (dropT ts z) (dropK kvs (Sum.inr z))
 | [],kvs,z,h=>by rw [BD.nil.mp h];exact ⟨rfl,rfl⟩
 | s::ts,kvs,z,h=>by
  obtain ⟨w,r,rfl,q,h⟩:=BD.cons.mp h;unfold dropT dropK;by_cases c:s.nm=z
  ·subst c;rw [List.filter_cons_of_neg (by simp),List.filter_cons_of_neg (by simp)];exact BD.drop h
  ·have c1:(Sum.inr s.nm:Key)≠Sum.inr z:=fun e=>c (by injection e);rw [List.filter_cons_of_pos (by simpa using c),List.filter_cons_of_pos (by simpa using c1)];exact BD.cons.mpr ⟨w,_,rfl,q,BD.drop h⟩
end
theorem sub_len [DecidableEq α]:∀ (l m:List α),l.Nodup->l ⊆ m->l.length<=m.length
 | [],m,_,_=>by simp
 | a::l,m,hn,hs=>by
  rw [nodup_cons] at hn;have ha:a∈m:=hs (by simp);have:=sub_len l (m.erase a) hn.2 fun x hx=>(List.mem_erase_of_ne (show x≠a from fun e=>hn.1 (e ▸ hx))).mpr (hs (by simp [hx]));rw [List.length_erase_of_mem ha] at this;have:=List.length_pos_of_mem ha;rw [length_cons];ac_nf
variable {ts:List TD} {u:TD} {i:Nat}
theorem Jih {t:TD} (hn:(nms ts).Nodup) (hi:ts[i]?=some u) (hk:u.nm=t.nm):putT ts t=ts.set i t:=by
 unfold putT;rw [if_pos (by rw [<- hk];exact List.mem_map_of_mem (f:=(·.nm)) (List.mem_of_getElem? hi))];exact Jhy (f:=fun u:TD=>u.nm) hn hi hk
theorem Jfx (hn:(nms ts).Nodup) (hi:ts[i]?=some u) (hk:u.nm=z):dropT ts z=ts.eraseIdx i:=JeT (f:=fun u:TD=>u.nm) hn hi hk
abbrev BMV:List Value:=[.type "ValueError", .type "Exception", .type "BaseException", .type "object"]
structure ExcI (K:W.Frag) (C S f:Addr):Prop where
 up:W.excIn K S BMV "ValueError.__new__"=true
 at_:∃ nm q N bs sn sub ab col dd k0 k1 k2 k3 k5,K.lookup C=some (excClassObj nm q C N bs (.ref S::BMV) true sn sub ab col dd k0 k1 k2 k3 k5 "ValueError.__new__")
 init:W.findIn K (.ref C) "__init__"=some (some (.ref f))
 fn:W.isFn K (.ref f)=true
 kp:W.keepIn K (.ref C)=true
def ExcN (e C:Addr) (od:Option Addr):HO:=.ext fun h=>∃ t:Addr,h.get? e=some { cls:=.ref C,dict:=od,data:=.fields #[.ref t, .none, .none, .none, .bool false, .none] }
section
variable {h:Heap} {d:Drawn} {os:OsState} {g:Array GenState} {t:Nat} {nm q:Str} {C N:Addr} {bm bmB sub:List Value} {hdct ab:Bool} {sn:List Str} {col:Option Bool} {dd:Option Addr} {k0 k1 k2 k3 k5:Option Value} {B newId initId:String} {bs:List Value} {K:W.Frag}
theorem JgH (F:ExcBaseFacts B newId initId bmB) (T:OwnTail h bmB bm) {rest:List Value} {fI:Addr} {Q:Fin->Shared->Prop} (X:K.In h)
  (hC:h.get? C=some (excClassObj nm q C N bs bm hdct sn sub ab col dd k0 k1 k2 k3 k5 newId)) (hi:W.findIn K (.ref C) "__init__"=some (some (.ref fI)))
  (hfI:W.isFn K (.ref fI)=true)
  (hq:∀ h' e,Heap.MadeExcOf h h' e (.ref C) rest->h.objs.size<=e ->
   wpAny (model prog w) A (call (.ref fI) (.ref e::rest)) (fun r s'=>r=.none/\Q (.done (.ret (.ref e))) s') E ⟨h',g,d,t,os⟩) (hrest:rest.length<=sizeLine:=by size_fits) :
  wpAny (model prog w) A (Builtin.«type.__call__» ⟨.ref C::rest,[]⟩) Q E ⟨h,g,d,t,os⟩:=by
 repeat (first | with_reducible refine wpAny_loadPart_at hC ?_ | with_reducible refine wpAny_madeBy_exc hC ?_ | wp_step)
 refine codeAny_call_builtin_code (Code.quiet_builtin _ F.quiet) (wpAny_check_new_subT F T hC ?_);refine codeAny_exc_new_subT F T hC ?_ hrest;show wpAny _ _ _ _ _ _;have c:∀ b o,h.get? b=some o->((h.push { cls:=.type "tuple",data:=.seq rest.toArray }).push { cls:=.ref C,data:=.fields #[.ref h.objs.size, .none, .none, .none, .bool false, .none] }).get? b=some o:=fun b o e=>Heap.get?_push_of_some _ (Heap.get?_push_of_some _ e);have hC₁:=c _ _ hC;have X₁:=X.keeps c;have a:((h.push { cls:=.type "tuple",data:=.seq rest.toArray }).push
   { cls:=.ref C,data:=.fields #[.ref h.objs.size, .none, .none, .none, .bool false, .none] }).get? (h.objs.size+1)=some
   { cls:=.ref C,data:=.fields #[.ref h.objs.size, .none, .none, .none, .bool false, .none] }:=by heap_get
 have f:(Value.ref C::bm).contains (.ref C)=true:=by simp
 unfold isInstance;repeat (first | with_reducible refine wpAny_loadPart_at a ?_ | (with_reducible refine wpAny_isSubtype_exc hC₁ ?_;rw [f]) | wp_step)
 show wpAny _ _ (typeLookup (.ref C) _) _ _ _;refine (W.looks_findIn X₁ hi).at ?_;refine wpAny_holding (wpAny_bind ((W.bind_fn X₁ _ (beq_iff_eq.mp hfI)).at ?_));refine wpAny_bind (wpAny_mono (hq _ (h.objs.size+1) ⟨c,Heap.get?_none_of_le (Nat.le_succ _),h.objs.size,a,Heap.get?_none_of_le (Nat.le_refl _),?_⟩ (Nat.le_succ _)) (fun r s' i=>?_) fun _ _ x=>x)
 ·exact Heap.get?_push_of_some _ (Heap.get?_push_at rfl rfl)
 ·obtain ⟨rfl,j⟩:=i
  wp_walk
  exact j
theorem JgQ (F:ExcBaseFacts B newId initId bmB) (T:OwnTail h bmB bm) {rest:List Value} {fI:Addr} {Q:Value->Shared->Prop} (X:K.In h)
  (hC:h.get? C=some (excClassObj nm q C N bs bm hdct sn sub ab col dd k0 k1 k2 k3 k5 newId)) (hi:W.findIn K (.ref C) "__init__"=some (some (.ref fI)))
  (hfI:W.isFn K (.ref fI)=true)
  (hq:∀ h' e,Heap.MadeExcOf h h' e (.ref C) rest->h.objs.size<=e ->
   wpAny (model prog w) (A.under (.builtin "type.__call__" ⟨.ref C::rest,[]⟩)) (call (.ref fI) (.ref e::rest)) (fun r s'=>r=.none/\Q (.ref e) s') E ⟨h',g,d,t,os⟩) (hrest:rest.length<=sizeLine:=by size_fits) :
  wpAny (model prog w) A (call (.ref C) rest) Q E ⟨h,g,d,t,os⟩:=by
 have f:=tc_lookup;have i:=tc_bind (.ref C);have c:(⟨h,g,d,t,os⟩:Shared).TypeIs (.ref C) "type":=⟨_,hC,rfl⟩;refine wpAny_call (codeAny_of_tree ?_);show wpAny _ _ (callAny (.ref C) _) _ _ _;repeat (any_goals (first | assumption | with_reducible refine wpAny_loadPart_at hC ?_ | wp_step))
 refine ⟨rfl,?_⟩;refine codeAny_call_builtin_at (Code.quiet_builtin _ (by decide +kernel)) entry_typeCall (wpAny_check_type_call_sub hC (JgH (hrest:=hrest) F T X hC hi hfI fun h' e a b=>?_));exact hq h' e a b
end
section
variable {C:Addr} {fd:FuncData} {ps:List Str} {sp:Sp} {E:XK} {p:Pos} {es:List Expr} {k:Nat} {f:Addr} {m:Str} {t:TA} {P:Program} {h:Heap} {od:Option Addr}
theorem Jfz {e:Addr} (z:∃ t:Addr,h.get? e=some { cls:=.ref C,dict:=od,data:=.fields #[.ref t, .none, .none, .none, .bool false, .none] }):ObjOk P w H h e (ExcN e C od) :=
 ⟨z,let ⟨_,e⟩:=z;⟨_,e⟩,fun _ _ ⟨t,e⟩ k=>⟨t,k _ e⟩⟩
theorem ExcI.cls {K:W.Frag} (M:ExcI K C S f) (Xi:K.In h):∃ nm q N bs sn sub ab col dd k0 k1 k2 k3 k5,h.get? C=some (excClassObj nm q C N bs (.ref S::BMV) true sn sub ab col dd k0 k1 k2 k3 k5 "ValueError.__new__")/\OwnTail h BMV (.ref S::BMV):=by
 obtain ⟨nm,q,N,bs,sn,sub,ab,col,dd,k0,k1,k2,k3,k5,z⟩:=M.at_;obtain ⟨_,_,_,_,_,_,_,_,_,_,_,_,_,_,_,_,_,c,b,a,_⟩:=Jg3 Xi M.up;exact ⟨nm,q,N,bs,sn,sub,ab,col,dd,k0,k1,k2,k3,k5,Xi _ _ z, .own c b a .base⟩
variable {σ:St} {us:List Value}
theorem JhB {Q:VK} {vs:List V} (M:ExcI X.K C S f) (F:FnOk X.prog X.w X.K X.mg X.base (CX1 X.prog X.w) k f fd ps sp) (hr:Room (k+1) X.A) (hb:Binds X.K fd ps [])
  (hx:JbG (CX1 X.prog X.w) X E) (I:Inv X pins σ H s) (r:Vals vs us) (hz:vs.length<=sizeLine)
  (h:∀ x,H x=none->sp (.ref x::vs) (upd H x (ExcN x C none)) (fun v H2=>v=.non/\Q (.ref x) H2) E) :
  wpAny (model X.prog X.w) X.A (call (.ref C) us) (EP X pins σ Q) X.xe s:=by
 obtain ⟨nm,q,N,bs,Y,t,ab,L,dd,W,Z,k2,k3,U,G,T⟩:=M.cls I.kIn;obtain ⟨hh,g,d,j,m⟩:=s;refine JgQ PySem.F.excBase_ValueError T I.kIn G M.init M.fn (fun l b i p=>?_) (by rw [<- r.length];exact hz);have o:=h b (I.hok.isnone i.new);obtain ⟨J,O,_,_⟩:=i.there;have I2:Inv X pins σ (upd H b (ExcN b C none)) ⟨l,g,d,j,m⟩:=I.laid (t':=j) i.keeps p (Jfz ⟨J,O⟩);have n:Vals (V.ref b::vs) (Value.ref b::us):=.cons rfl r;have B:(Value.ref b::us++[]).length=ps.length:=by
  have e:=n.length;rw [F.len _ _ _ _ o] at e;simpa using e.symm
 have c:=hb ⟨l,g,d,j,m⟩ (Value.ref b::us) I2.kIn B;rw [append_nil] at c;refine wpAny_call (codeAny_mono (F.run _ X.stack _ _ ⟨Value.ref b::us,[]⟩ (Value.ref b::us) _ _ E (hr.make C us []) (I2.env0.make C us []) c n o) fun r R a=>?_);cases r with
 | error e=>exact hx pins σ _ _ e R I2 a
 | ok fl=>
  cases fl with
  | ret u=>
   obtain ⟨v,P,I3,y,z,D⟩:=I2.after a;subst z;exact ⟨y,⟨V.ref b,P,I3,rfl,D⟩⟩
  | next=>exact False.elim a
  | brk=>exact False.elim a
  | cont=>exact False.elim a
def JhI (C:Addr) (sp:Sp) (E:XK) (t:TA):TE:=fun σ H Q=>t σ H fun vs H1=>vs.length<=sizeLine/\∀ x,H1 x=none->sp (.ref x::vs) (upd H1 x (ExcN x C none)) (fun v H2=>v=.non/\Q (.ref x) H2) E
theorem Jh9 (M:ExcI X.K C S f) (F:FnOk X.prog X.w X.K X.mg X.base (CX1 X.prog X.w) k f fd ps sp) (hr:Room (k+1) X.A) (hg:Gl X x) (hm:X.mg x=some (.ref C)) (hb:Binds X.K fd ps []) (hx:JbG (CX1 X.prog X.w) X E)
  (ha:PA X (e::es) t) (hdb:(x == ("__debug__" : Str))=false:=by decide) (he:starEach (e::es) X.env=(false,eval e X.env)::starEach es X.env:=by rfl) (hpl:(backTo pos (starEach es X.env)).any (·.1)=false:=by rfl) :
  PE X (.Call (.Name x p) (e::es) [] pos) (JhI C sp E t):=by
 intro a s σ H Q I h;refine wpAny_Call_Name_kw (JbN I hg hm ?_ hdb);refine W.callWith_K (h₀:=X.base) I.ok.mod.kin M.kp (thn (ha pos a s σ H _ I h) fun g b ζ=>?_) he hpl;obtain ⟨d,c,I1,r,q⟩:=ζ;refine ⟨I1.kIn,?_⟩;exact JhB M F hr hb hx I1 r q.1 q.2
end
section
variable {P:Program} {mg:Str->Option Value} {N:List Str} {qual:Str} {scope:Scope} {cdv:Value} {outer:List Env} {s0:Shared} {H0:Hp} {E:XK} {K:W.Frag} {base:Heap} {f:Addr}
def JhK (K:W.Frag) (H0:Hp) (E:XK) (te:TE):TS:=fun _ σ H=>te σ H fun v H1=>∃ e C S f od,v=.ref e/\H1 e=some (ExcN e C od)/\ExcI K C S f/\H0 e=none/\E (.ref C) od (unt H1 e)
variable {te:TE}
theorem Jhu {x:Expr} (hx:PE (cxOf (CX1 P w) P w K mg base N qual scope f cdv A outer s0 H0 E) x te) :
  PS (cxOf (CX1 P w) P w K mg base N qual scope f cdv A outer s0 H0 E) (.Raise (some x) none pos) (JhK K H0 E te):=by
 intro a s σ H D I h;have y:(A.deeper (envOfC qual scope s0.heap.objs.size f cdv)).handled=none:=I.ok.hd rfl;rw [arm_exec_Raise];refine wpAny_bind (wpAny_standAt ?_);show wpAny _ _ (raiseStmt _ (some (do let v <- eval x _;standAt pos;pure v)) none) _ _ _;unfold raiseStmt;refine wpAny_bind (wpAny_bind (thn (hx a s σ H _ I h) fun u B ζ=>?_));obtain ⟨v,Y,I1,n,e,C,S,fI,od,r,c,M,p,q⟩:=ζ;refine wpAny_bind (wpAny_standAt (wpAny_pure ?_));subst r;obtain rfl:u=Value.ref e:=n;obtain ⟨Q,qn,V,bs,L,m,ab,F,R,J,O,U,k3,G,l,T⟩:=M.cls I1.kIn;obtain ⟨t,k⟩:=(I1.hok e _ c).1;obtain ⟨Z,g,d,tk,W⟩:=B;have i:(Value.ref C::(.ref S::BMV)).contains (.type "BaseException")=true:=by rw [List.contains_cons,T.hasType (X:="BaseException") (b:=true) ⋯,Bool.or_true]
 repeat (first | with_reducible refine wpAny_loadPart_at k ?_ | with_reducible refine wpAny_loadPart_at l ?_ | (with_reducible refine wpAny_isSubtype_exc l ?_;rw [i]) | wp_step)
 refine wpAny_raiseNew_none y ?_;refine Jkg I1 c k rfl rfl rfl ?_ q;cases z:s0.heap.get? e with
 | none=>rfl
 | some o=>
  have j:=I1.base.free e o z p (by intro z;cases z);rw [c] at j;cases j
end
structure SlkI (K:W.Frag) (S:Addr):Prop where
 ga:W.specialIn K (.ref S) "__getattribute__"=some (some (.builtin "type.__getattribute__"))
 rd:W.readsIn K S (.type "type")=true
 fi:W.findCls K (.ref S) (.type "type") "__init__"=some (.val (.builtin "ValueError.__init__"))
section
variable {C:Addr} {p:Pos} {es:List Expr} {f:Addr} {t:TA} {h:Heap} {d:Drawn} {os:OsState} {a0:Addr}
theorem JjT {K:W.Frag} {g:Array GenState} {t:Nat} {Q:Value->Shared->Prop} {ex:Addr} {od:Option Addr} {rest:List Value}
  (M:ExcI K C S f) (Xi:K.In h) (he:h.get? ex=some { cls:=.ref C,dict:=od,data:=.fields #[.ref a0, .none, .none, .none, .bool false, .none] }) (hr:rest.length<=sizeLine)
  (hq:∀ h' t',(∃ a1:Addr,h'.get? ex=some { cls:=.ref C,dict:=od,data:=.fields #[.ref a1, .none, .none, .none, .bool false, .none] })->(∀ b u,b≠ex->h.get? b=some u->h'.get? b=some u)->Q .none ⟨h',g,d,t',os⟩) :
  wpAny (model prog w) A (call (.builtin "ValueError.__init__") (.ref ex::rest)) Q E ⟨h,g,d,t,os⟩:=by
 have F:=PySem.F.excBase_ValueError;obtain ⟨p,q,N,y,n,c,x,j,r,m,o,s,v,l,i,T⟩:=M.cls Xi;refine wpAny_call (codeAny_call_builtin F.init.plain F.initEntry (wpAny_check_init_subT F T i he rfl ?_));have a:=Heap.get?_push_of_some (h:=h) { cls:=.type "tuple",data:=.seq rest.toArray } he
 wp_walk
 refine hq _ _ ⟨h.objs.size,?_⟩ fun b u k e=>?_
 ·rw [Heap.get?_update_self _ a rfl];rfl
 ·rw [Heap.get?_update_other _ _ (Ne.symm k)];exact Heap.get?_push_of_some _ e
def JiU (K:W.Frag) (t:TA):TE:=fun σ H Q=>t σ H fun vs H2=>∃ e rest C S f od,vs=.ref e::rest/\rest.length<=sizeLine/\H2 e=some (ExcN e C od)/\ExcI K C S f/\Q .non (upd H2 e (ExcN e C od))
variable {pl:Sem Bool}
theorem Jh6 (G:SlkI X.K S) (hg:Gl X x) (hm:X.mg x=some (.ref S)) (ha:PA X (e::es) t) (hdb:(x == ("__debug__" : Str))=false:=by decide)
  (hst:starEach (e::es) X.env=(false,eval e X.env)::starEach es X.env:=by rfl) (hpl:(backTo pos (starEach es X.env)).any (·.1)=false:=by rfl)
  (ht:eval (.Call (.Attribute (.Name x p) "__init__" apos) (e::es) [] pos) X.env=(do
   let ov <- eval (.Name x p) X.env
   standAt apos.atName
   let (f,first) <- holding [ov] (getMethod ov "__init__" pl)
   callWith pos f first (backTo pos (starEach (e::es) X.env)) (backToKw pos (keywordEach [] X.env))):=by rfl) :
  PE X (.Call (.Attribute (.Name x p) "__init__" apos) (e::es) [] pos) (JiU X.K t):=by
 intro a s σ H Q I h;refine W.methodCall_KW (pl:=pl) (JbN I hg hm ?_ hdb) ht;refine W.method_cls I.kIn G.ga (W.cls_value I.kIn G.rd G.fi (by decide +kernel) ?_);refine PyProof.Rows.callWith_builtin1 (thn (ha pos a _ σ H _ (I.tok _) h) fun y j ζ=>?_) hst hpl;obtain ⟨B,v,I2,r,b,rest,C,n,f,A,m,l,c,M,i⟩:=ζ;subst m;cases r with
 | @cons _ u _ us' ru rr=>
 obtain rfl:u=Value.ref b:=ru;obtain ⟨E,hg⟩:=(I2.hok b _ c).1;obtain ⟨w,g,d,D,q⟩:=j;refine JjT M I2.kIn hg (by rw [<- rr.length];exact l) fun o t' z k=>?_;exact ⟨V.non,_,I2.write (t':=t') (e:=b) (by rw [c];exact trivial) (.inl rfl) k (let ⟨_,z⟩:=z;⟨_,z⟩) (Jfz z),rfl,i⟩
end
section
open PySem.W PySem.Builtin PySem.Builtin.ObjectAttr
variable {h:Heap} {d:Drawn} {os:OsState} {x C a0:Addr} {name:Str} {v:Value} {K:W.Frag} {g:Array GenState} {t:Nat} {f:Addr} {ox:Obj} {Q:Unit->Shared->Prop}
theorem Jis {nameV:Value} (Mx:ExcI K C S f) (X:K.In h) (hx:h.get? x=some ox) (hc:ox.cls=.ref C) (hq:Q () ⟨h,g,d,t,os⟩) :
  wpAny M A (checkBuiltinCall "object.__setattr__" ⟨[.ref x,nameV,v],[]⟩) Q E ⟨h,g,d,t,os⟩:=by
 have c:=PySem.F.store_ValueError;obtain ⟨o,q,N,y,m,e,w,j,p,l,n,r,u,k,i,T⟩:=Mx.cls X;have a:(Value.ref C::.ref S::BMV).contains (.type "object")=true:=by rw [List.contains_cons,T.hasType (X:="object") (b:=true) ⋯,Bool.or_true]
 have s:=c.args (.ref x) nameV v;simp only [checkBuiltinCall,c.kind,c.split];refine wpAny_bind ?_
 ·unfold isInstance;repeat (first | (with_reducible refine wpAny_loadPart_at hx ?_;rw [hc]) | (with_reducible refine wpAny_isSubtype_exc i ?_;rw [a]) | wp_step)
  exact hq
theorem Jit (M:ExcI K C S f) (X:K.In h) (sa:findIn K (.ref C) "__setattr__"=some (some (.builtin "object.__setattr__"))) (na:findIn K (.ref C) name=some none)
  (hx:h.get? x=some { cls:=.ref C,dict:=none,data:=.fields #[.ref a0, .none, .none, .none, .bool false, .none] })
  (hq:∀ h' t' dx,h.objs.size<=dx->h'.get? x=some { cls:=.ref C,dict:=some dx,data:=.fields #[.ref a0, .none, .none, .none, .bool false, .none] }->h'.Ns1 dx (fun y=>if y=name then some v else none) ->
   (∀ b u,b≠x->h.get? b=some u->h'.get? b=some u)->Q () ⟨h',g,d,t',os⟩):wpAny (model prog w) A (setAttr (.ref x) name v) Q E ⟨h,g,d,t,os⟩:=by
 have m:=PySem.F.store_ValueError;obtain ⟨nm,q,N,bs,sn,P,ab,Y,dd,k0,k1,k2,k3,Z,L,T⟩:=M.cls X;have f3:=m.slot.bind (.ref x);have L1:=looks_findIn (M:=model prog w) X sa;have L2:=looks_findIn (M:=model prog w) X na;unfold setAttr callSpecial? specialOf;repeat (any_goals (first | assumption | (with_reducible refine wpAny_loadPart_at hx ?_) | lk | wp_step))
 refine wpAny_run (codeAny_call_builtin m.slot.plain m.entry (Jis M X hx rfl ?_));have O:Looks (model prog w) h (typeOf (.ref x)) (.ref C):=(Looks.ld hx).andThen .now;show wpAny _ _ (Builtin.«object.__setattr__» ⟨[.ref x, .str name t,v],[]⟩) _ _ _;rw [osa_eq,refuse_eq];refine wpAny_bind (wpAny_bind (O.at (wpAny_bind (wpAny_mroOf_exc L ?_))));rw [refuseLoop_ref,refuseLoop_ref,m.passes];refine wpAny_pure (wpAny_bind (O.at (wpAny_bind (L2.at (wpAny_bind (wpAny_pure (a:=none) ?_))))));show wpAny _ _ (storeInOwnDict (.ref x) (.ref C) (.str name t) name v false) _ _ _;obtain ⟨o,j⟩:∃ o:Obj,o={ cls:=.ref C,dict:=none,data:=.fields #[.ref a0, .none, .none, .none, .bool false, .none] }:=⟨_,rfl⟩;have W:o.cls=.ref C:=by rw [j]
 have p:o.dict=none:=by rw [j]
 have H:∀ c,o.data≠.cls c:=fun c=>by rw [j];intro z;cases z
 rw [<- j] at hx;repeat (first | (with_reducible refine wpAny_loadPart_at hx ?_;rw [W]) | with_reducible refine wpAny_loadPart_at L ?_ | wp_step)
 rw [p,if_neg (by simp [typeHasDict])];split
 ·rename_i i;cases i
 split
 ·rename_i c i;exact absurd i (H c)
 ·have hx₁ : (h.push { cls:=.type "dict",data:=.dict #[] }).get? x=some o:=Heap.get?_push_of_some _ hx;have k:x≠h.objs.size:=Nat.ne_of_lt (Heap.lt_size hx);refine wpAny_bind (wpAny_alloc' ?_);refine wpAny_bind (wpAny_update' hx₁ ?_);refine wpAny_pure ?_;have D:((h.push { cls:=.type "dict",data:=.dict #[] }).update x fun o=>{ cls:=o.cls,dict:=some h.objs.size,data:=o.data,slots:=o.slots }).get? h.objs.size
    = some { cls:=.type "dict",data:=.dict #[] } :=
   (Heap.get?_update_ne _ _ _ _ k.symm).trans (Heap.get?_push_at rfl rfl)
  have s:((h.push { cls:=.type "dict",data:=.dict #[] }).update x fun o=>{ cls:=o.cls,dict:=some h.objs.size,data:=o.data,slots:=o.slots }).Ns h.objs.size (fun _=>none) :=
   ⟨_, #[],_,D,rfl,fun e U=>absurd U (by simp),fun _=>rfl⟩
  show wpAny _ _ (storeInDict h.objs.size (.str name t) name v) _ _ _;unfold storeInDict newKeyGuard;refine wpAny_bind (wpAny_pure (wpAny_bind (wpAny_nsSet1 (Heap.Ns1.of_empty s) fun h' l I=>?_)));obtain ⟨oD,R,V,G,n,r⟩:=l.count (Within.cons name v Within.nil);refine wpAny_bind (wpAny_lookBehind G (by rw [n];exact pastItsLine_dict (Nat.le_trans r (by rw [length_cons,length_nil,sizeLine_eq];ac_nf))) ?_)
  wp_walk
  refine hq h' _ h.objs.size (Nat.le_refl _) ?_ l fun b ob B J=>?_
  ·refine (I.2 x k).trans ((Heap.get?_update_self _ hx₁ ?_).trans (by rw [j]));rw [j];rfl
  ·exact (I.2 b (Nat.ne_of_lt (Heap.lt_size J))).trans ((Heap.get?_update_ne _ _ _ _ B).trans (Heap.get?_push_of_some _ J))
structure ExcL (K:W.Frag) (D:Addr) (name:Str):Prop where
 hd:W.hasDictIn K D=true
 ga:W.findIn K (.ref D) "__getattribute__"=some (some (.builtin "BaseException.__getattribute__"))
 gh:W.findIn K (.ref D) "__getattr__"=some none
 na:W.findIn K (.ref D) name=some none
 mb:W.mroIn K D (.type "BaseException")=some true
variable {od:Obj}
theorem JjU {expr:Bool} {Q:Value->Shared->Prop} (X:K.In s.heap) (c:ExcL K C name) (J:W.InstAt s.heap x ox C (some od)) (hl:lookIn name od=some (some v)) (hv:handedIn v=true) (q:Q v { s with toks:=s.toks+1 }) :
  wpAny (model prog w) A (getAttr (.ref x) name expr) Q E s:=by
 obtain ⟨r,k,l,i,n⟩:=s;have g:=J.type (M:=model prog w);have b:=looks_findIn (M:=model prog w) X c.ga;have e:=looks_findIn (M:=model prog w) X c.gh;have m:=looks_find (M:=model prog w) X J (findObj_own c.hd c.na rfl hl);have o:=looks_mroIn (M:=model prog w) X c.mb;have h:bindSpecial (.builtin "BaseException.__getattribute__") (.ref x)=pure (.builtin "BaseException.__getattribute__",[.ref x]):=by kernel_rfl
 have a:(expr&&onTheHeap (Value.builtin "BaseException.__getattribute__"))=false:=by cases expr <;> rfl
 unfold getAttr getAttrBy;refine wpAny_bind (wpAny_mkText (wpAny_holding (wpAny_bind (g.at (wpAny_bind (b.at ?_))))));have d:(onTheHeap (Value.ref C)&&Value.builtin "BaseException.__getattribute__" == Value.builtin "object.__getattribute__")=false:=Bool.and_eq_false_iff.mpr (.inr (by decide +kernel));show wpAny _ _ (if (onTheHeap (Value.ref C)&&Value.builtin "BaseException.__getattribute__" == Value.builtin "object.__getattribute__")=true then _ else getAttrByItsOwn _ _ _ _ _ _) _ _ _;rw [if_neg (by rw [d];decide)];unfold getAttrByItsOwn hookBefore;refine wpAny_bind ?_;rw [if_pos (show onTheHeap (Value.ref C)=true from rfl)];refine e.at ?_;refine wpAny_bind (wpAny_attempt (wpAny_holding ?_));unfold callGetattribute boundAndCalled;rw [a,if_neg ⋯,h];refine wpAny_bind (wpAny_pure ?_);refine wpAny_call (codeAny_call_builtin (by decide +kernel) PySem.F.entry_bexc_ga ?_);have j:builtinKind "BaseException.__getattribute__"=some .slot:=by decide +kernel
 have f:splitId "BaseException.__getattribute__"=some ("BaseException","__getattribute__"):=by decide +kernel
 have p:=PySem.F.args_bexc_ga (.ref x) (.str name i)
 (simp only [checkBuiltinCall,j,f];refine wpAny_bind ?_)
 unfold isInstance;repeat (first | lk | wp_step)
 show wpAny _ _ (handedOut v) _ _ _;exact W.handed_on hv q
end
section
variable {value:Expr} {pos':Pos} {tv:TE} {f:Str}
structure ExcA (K:W.Frag) (C:Addr) (f:Str):Prop where
 sa:W.findIn K (.ref C) "__setattr__"=some (some (.builtin "object.__setattr__"))
 na:W.findIn K (.ref C) f=some none
def sFldX (K:W.Frag) (ta tv:TE) (f:Str):TS:=fun D σ H=>tv σ H fun y H1=>ta σ H1 fun x H2=>∃ e C S g,x=.ref e/\H2 e=some (ExcN e C none)/\ExcI K C S g/\ExcA K C f /\
 ∀ dx,H2 dx=none->dx≠e->D.nx σ (upd (upd H2 e (ExcN e C (some dx))) dx (.xd [(f,y)]))
theorem JjG (ha:PE X o ta) (hv:PE X value tv) (hs:swapsWith value (some (.Attribute o f pos')) pos.line X.env=pure false):PS X (.Assign [.Attribute o f pos'] value pos) (sFldX X.K ta tv f):=by
 intro m s σ H D I h;refine plainObj_wpAny_Assign_Attribute (thn (hv m s σ H _ I h) fun u W ζ=>?_) hs;obtain ⟨y,R,I1,P,q⟩:=ζ;refine thn (ha m W σ R _ I1 q) fun Q s2 ζ=>?_;obtain ⟨x,T,I2,O,e,C,S,g,N,i,M,c,J⟩:=ζ;subst N;obtain rfl:Q=Value.ref e:=O;obtain ⟨a0,Z⟩:=(I2.hok e _ i).1;obtain ⟨U,gg,d,tk,os⟩:=s2;refine Jit M I2.kIn c.sa c.na Z fun h' t' w A z ns k=>?_;have l:T w=none:=I2.hok.fresh A;have ne:w≠e:=fun q=>by rw [q,i] at l;cases l
 have nd:U.get? w=none:=Heap.get?_none_of_le A;refine ⟨σ,_,I2.un (t':=t') ⟨fun b j z n Y _=>?_,fun b j z n Y _=>?_,fun b j z n _=>?_,fun b j z _=>?_,fun b L z=>?_,fun b j v z=>?_,fun b p z=>⟨#[],?_⟩⟩ fun a j t=>?_,J w l ne⟩
 ·exact k b j (fun y=>by rw [y,i] at n;cases n) z
 ·exact ⟨_,k b j (fun y=>by rw [y,i] at n;cases n) z⟩
 ·rw [Jag (fun y=>by rw [y,nd] at z;cases z),Jag (fun y=>by rw [y,i] at n;cases n)];exact n
 ·by_cases y:b=e
  ·exact ⟨_,by rw [y];assumption⟩
  ·exact ⟨j,k b j y z⟩
 ·rw [Jag (Jae z l),Jag (fun y=>by rw [y,i] at z;cases z)];exact z
 ·rw [Jag (Jae z l),Jag (fun y=>by rw [y,i] at z;cases z)];exact z
 ·rw [Jag (Jae z l),Jag (fun y=>by rw [y,i] at z;cases z),z];simp
 ·by_cases G:a=w
  ·subst G;rw [Jaq] at t;cases t;refine ⟨_,ns,fun E=>?_⟩;show RelO (List.lookup E [(f,y)]) (if E=f then some u else none);by_cases q:E=f
   ·subst q;simp [List.lookup,RelO];exact P
   ·have : (E == f)=false:=by simpa using q
    simp [List.lookup,this,q,RelO]
  ·rw [Jag G] at t;by_cases F:a=e
   ·subst F;rw [Jaq] at t;cases t;exact Jfz ⟨a0,z⟩
   ·rw [Jag F] at t;refine (I2.hok a j t).stay (fun b v B V=>k b v ?_ V) (fun b r=>?_) (fun b L r=>?_)
    ·rcases B with rfl | B
     ·exact F
     ·exact fun y=>by rw [y,i] at B;cases B
    ·rw [Jag (Jae r l),Jag (fun y=>by rw [y,i] at r;cases r)];exact r
    ·rw [Jag (Jae r l),Jag (fun y=>by rw [y,i] at r;cases r)];exact r
def tFldX (K:W.Frag) (ta:TE) (f:Str):TE:=fun σ H Q=>ta σ H fun x H1=>∃ e C dx fs v,x=.ref e/\H1 e=some (ExcO e C (some dx))/\ExcL K C f/\H1 dx=some (.xd fs)/\fs.lookup f=some v/\Q v H1
theorem Jjy (he:PE X e ta) (hb:attributeBase e f X.env (eval e X.env)=eval e X.env):PE X (.Attribute e f pos) (tFldX X.K ta f):=by
 intro a s σ H Q I h;refine JgN hb (thn (he a s σ H _ I h) fun u G ζ=>?_);obtain ⟨x,t,I1,j,d,C,w,J,v,y,A,c,i,l,q⟩:=ζ;subst y;obtain rfl:u=Value.ref d:=j;obtain ⟨F,M,p,B,z,k⟩:=(I1.hok d _ A).1;obtain ⟨m,n,r⟩:=I1.hok w _ i;obtain ⟨L,b,E⟩:=Jdv n;obtain ⟨u,D,g⟩:=RelO.some_of (v:=v) (o:=m f) (by rw [<- l];exact r f);refine JjU I1.kIn c ⟨p,B,by unfold W.notCls;rw [z],by rw [k];exact b⟩ (by rw [E,D]) (JeU g) ?_;exact ⟨v,t,I1.tok _,g,q⟩
end
structure XCal (P:Program) (w:World) (K:W.Frag) (mg:Str->Option Value) (base:Heap) (k:Nat) (x:Str) (C S:Addr) (ps:List Str) (sp:Sp):Prop where
 ex:∃ (f:Addr) (fd:FuncData),FnOk P w K mg base (CX1 P w) k f fd ps sp/\mg x=some (.ref C)/\ExcI K C S f/\Binds K fd ps []
section
variable {k':Nat} {mn:Str} {C:Addr} {Cs:Addr->Prop} {ps:List Str} {sp:Sp} {E:XK} {p:Pos} {es:List Expr} {k:Nat} {f:Str} {t:TA} {K:W.Frag}
theorem XCal.ev (G:XCal X.prog X.w X.K X.mg X.base k x C S ps sp) (hr:Room k' X.A) (hk:k+1<=k') (hg:Gl X x) (hx:JbG (CX1 X.prog X.w) X E) (ha:PA X (e::es) t)
  (hdb:(x == ("__debug__" : Str))=false:=by decide) (he:starEach (e::es) X.env=(false,eval e X.env)::starEach es X.env:=by rfl) (hpl:(backTo pos (starEach es X.env)).any (·.1)=false:=by rfl) :
  PE X (.Call (.Name x p) (e::es) [] pos) (JhI C sp E t):=by
 obtain ⟨f,c,F,a,M,b⟩:=G.ex;exact Jh9 M F (hr.mono hk) hg a b hx ha hdb he hpl
theorem MCal.tr0 {pl:Sem Bool} (G:MCal X.prog X.w X.K X.mg X.base k mn Cs ps sp) (hr:Room k' X.A) (hk:k<=k') (ho:PE X.nox o ta)
  (ht:eval (.Call (.Attribute o mn apos) [] [] pos) X.env=(do
   let ov <- eval o X.env
   standAt apos.atName
   let (f,first) <- holding [ov] (getMethod ov mn pl)
   callWith pos f first (backTo pos (starEach [] X.env)) (backToKw pos (keywordEach [] X.env))):=by rfl) :
  PEx X (.Call (.Attribute o mn apos) [] [] pos) (xMeth Cs mn sp ta tNil):=by
 obtain ⟨f,t,F,c,n,g⟩:=G.ex;intro b s σ H Q E I h;have z:=ho b s σ H _ (I.wish _) h;refine W.methodCall_KW (pl:=pl) (wpAny_mono z (fun u r ζ=>?_) fun _ _ y=>y.elim) ht;obtain ⟨x,j,I1,i,a,C,p,v,e,m,d,l,q⟩:=ζ;subst e;obtain rfl:u=Value.ref a:=i;refine Jcs I1.unwish m (c C d).1 (c C d).2 l ?_;exact W.callWith_K0 (first:=[.ref a]) I1.unwish.kIn n (JhA (us:=[.ref a]) (vs:=[.ref a]) (ds:=[]) (dvs:=[]) F (hr.mono hk) g .nil I1.unwish (.cons rfl .nil) (show sp ([.ref a]++[]) j Q E from q))
theorem Jge (hK:X.K=K) (he:PE X e ta) (hb:attributeBase e f X.env (eval e X.env)=eval e X.env):PE X (.Attribute e f pos) (tFldX K ta f):=by
 subst hK;exact Jjy he hb
end
section
variable {H0:Hp} {Q:VK} {E:XK} {σ:St} {En:Ends} {C:Addr} {sp:Sp} {tv te:TE} {mn:Str} {Cs:Addr->Prop} {K:W.Frag} {t:TA} {f:Str}
theorem y86y:JhK K H0 E te En σ H=te σ H fun v H1=>∃ e C S f od,v=.ref e/\H1 e=some (ExcN e C od)/\ExcI K C S f/\H0 e=none/\E (.ref C) od (unt H1 e):=rfl
theorem y6cy:JhI C sp E t σ H Q=t σ H fun vs H1=>vs.length<=sizeLine/\∀ x,H1 x=none->sp (.ref x::vs) (upd H1 x (ExcN x C none)) (fun v H2=>v=.non/\Q (.ref x) H2) E:=rfl
theorem y2cy:JiU K t σ H Q=t σ H fun vs H2=>∃ e rest C S f od,vs=.ref e::rest/\rest.length<=sizeLine/\H2 e=some (ExcN e C od)/\ExcI K C S f/\Q .non (upd H2 e (ExcN e C od)):=rfl
theorem y8dy:sFldX K ta tv f En σ H=tv σ H fun y H1=>ta σ H1 fun x H2=>∃ e C S g,x=.ref e/\H2 e=some (ExcN e C none)/\ExcI K C S g/\ExcA K C f/\∀ dx,H2 dx=none->dx≠e->En.nx σ (upd (upd H2 e (ExcN e C (some dx))) dx (.xd [(f,y)])):=rfl
theorem y50y:tFldX K ta f σ H Q=ta σ H fun x H1=>∃ e C dx fs v,x=.ref e/\H1 e=some (ExcO e C (some dx))/\ExcL K C f/\H1 dx=some (.xd fs)/\fs.lookup f=some v/\Q v H1:=rfl
end
section
variable {σ:St} {a:Addr} {u r:Value} {y:V} {k:Key}
end
section
variable {ty tx:TE} {f:Expr}
end
variable {σ:St} {Q:VK} {ty tx:TE}
theorem y43y {trs:List (TE × TE)}:tDisp trs σ H Q=∀ p,H p=none->Jgm trs σ (upd H p (.dK [])) fun ps H2=>H2 p=some (.dK [])/\∃ kvs:List (Key × V),ps=kvs.map (fun kv=>(kV kv.1,kv.2))/\kvs.length<=15/\Q (.ref p) (upd H2 p (.dK (JiN [] kvs))):=rfl
theorem y82y {tk tv:TE} {R:List (V × V)->Hp->Prop}:Jgm [(tk,tv)] σ H R=tk σ H fun x H1=>tv σ H1 fun y H2=>R [(x,y)] H2:=rfl
theorem y2ey {K:W.Frag} {T:String} {r:V->List V->Hp->VK->Prop} {to:TE}:tBM0 K T r to σ H Q=to σ H fun x H1=>tyV K T x H1/\r x [] H1 Q:=rfl
section
variable {f : α->Str} {P P' : α->V->Prop} {as:List α} {a : α}
end
structure PD where
 nm:Str
 st:Str
 en:Str
 sz:Int × Int
 mo:Int × Int
 wt:Int
variable {σ:List (Option V)} {d:Addr} {kvs':List (Key × V)} {od:Obj}
theorem Inv.freeze (I:Inv X pins σ H s) (e:H d=some (.dK kvs)) (ho:s.heap.get? d=some od):Inv X pins σ (upd H d (.frz od (.dK kvs))) s:=by
 refine I.un (h':=s.heap) (t':=s.toks) ⟨fun b o q _ _ _=>q,fun b o q _ _ _=>⟨o.slots,q⟩,fun b o q n _=>?_,fun b o q _=>⟨o,q⟩,fun b h q=>?_,fun b o u q=>?_,fun b j q=>⟨#[],?_⟩⟩ fun a o q=>?_
 ·rw [Jag (fun z=>by rw [z,e] at n;cases n)];exact n
 ·rw [Jag (fun z=>by rw [z,e] at q;cases q)];exact q
 ·rw [Jag (fun z=>by rw [z,e] at q;cases q)];exact q
 ·rw [Jag (fun z=>by rw [z,e] at q;cases q),Array.append_empty];exact q
 ·have f:∀ i b,H b=some (.own i)->upd H d (.frz od (.dK kvs)) b=some (.own i):=fun i b q=>by
   rw [Jag (fun z=>by rw [z,e] at q;cases q)];exact q
  have g:∀ b h,H b=some (.tup h)->upd H d (.frz od (.dK kvs)) b=some (.tup h):=fun b h q=>by
   rw [Jag (fun z=>by rw [z,e] at q;cases q)];exact q
  by_cases c:a=d
  ·subst c;rw [Jaq] at q;cases q;exact ⟨ho,(I.hok a _ e).stay (fun _ _ _ z=>z) (f a) g⟩
  ·rw [Jag c] at q;exact (I.hok a o q).stay (fun _ _ _ z=>z) (f a) g
def Itv (d:Addr) (od:Obj) (kvs:List (Key × V)):It :=
 ⟨fun i H=>H d=some (.frz od (.dK kvs))/\i<kvs.length,fun i H x H'=>H'=H/\(kvs.map (·.2))[i]?=some x,fun i H=>H d=some (.frz od (.dK kvs))/\kvs.length<=i⟩
variable {tg:Expr}
def iVals (td:TE):TI:=fun σ H R=>td σ H fun x H1=>∃ d kvs,x=.ref d/\H1 d=some (.dK kvs)/\∀ od,R (Itv d od kvs) (upd H1 d (.frz od (.dK kvs)))
def tThaw (t:TE):TE:=fun σ H Q=>∃ d kvs,H d=some (.dK kvs)/\t σ H fun v H'=>∃ od kvs',H' d=some (.frz od (.dK kvs'))/\Q v (upd H' d (.dK kvs'))
section
variable {te tl:TE} {σ:St} {k:Nat} {cs:List (Nat × Str)} {g:TG}
theorem y3cy:tThaw (tComp k cs (iVals td) g te) σ H Q=∃ d kvs,H d=some (.dK kvs)/\td σ H fun x H1=>∃ d1 kvs1,x=.ref d1/\H1 d1=some (.dK kvs1)/\∀ od,CompJ (Itv d1 od kvs1) k cs g te σ (fun v H'=>∃ od kvs',H' d=some (.frz od (.dK kvs'))/\Q v (upd H' d (.dK kvs'))) (upd H1 d1 (.frz od (.dK kvs1))):=rfl
end
section
variable {k':Nat} {C:Addr} {ps:List Str} {sp:Sp} {E:XK} {p:Pos} {k:Nat}
end
structure GD where
 nm:Str
 st:Str
 en:Str
 lo:Int × Int
 hi:Int × Int
section
variable {K:W.Frag}
end
section
variable {H'':Hp} {ls:List PD} {fd wl:Addr} {ws:List (Str × List Pr)} {wt:List Str} {one:Str}
end
variable {es:List Expr}
theorem Jhr {K:W.Frag} {k:Nat} {t:TGs} (hK:X.K=K) (hc:X.calm=true) (h:PGs X es t) (hn:(assignEach es X.env).length=n:=by rfl) (hst:(assignEach es X.env).findIdx? (·.1)=none:=by rfl):PG X (.Tuple es k pos) (gTup K n t):=by
 subst hK;exact Jgf hc h hn hst
abbrev Fr2:=Int × Int
section
variable {te:TE} {ta:TA} {σ:St} {a b:Addr} {zs:List V} {K:W.Frag} {k:Nat} {cs:List (Nat × Str)} {g:TG}
end
section
variable {K:W.Frag}
end
variable {elts:List Expr} {x1:Nat} {tp:Pos}
section
variable {te:TE} {ta:TA} {σ:St} {a:Addr} {K:W.Frag} {k:Nat} {cs:List (Nat × Str)} {g:TG}
end
def Itq (lo c:Int) (n:Nat):It:=⟨fun i _=>i<n,fun i H x H'=>H'=H/\x=.int (lo+i*c),fun i _=>n<=i⟩
def rsz (lo hi c:Int):Nat:=(if lo<hi then (hi-lo-1)/c+1 else 0).toNat
def iRng3 (ta:TA):TI:=fun σ H R=>ta σ H fun vs H1=>∃ i j c:Int,vs=[.int i, .int j, .int c]/\(0<=i/\i<2 ^ 40/\0<=j/\j<2 ^ 40/\1<=c/\c<2 ^ 30)/\R (Itq i c (rsz i j c)) H1
section
variable {ta:TA} {tb:TS} {σ:St} {g:TG} {D:Ends}
def ForQ (lo c:Int) (n:Nat) (g:TG) (tb:TS) (D:Ends) (σ : St) (H:Hp):Prop:=∃ W:Nat->Nat->St->Hp->Prop,(∃ m,W 0 m σ H)/\∀ i m σ H,W i m σ H ->
 ((Itq lo c n).stop i H/\D.nx σ H)\/((Itq lo c n).go i H/\∃ N:St->Hp->Prop,(∀ σ' H',N σ' H'->∃ m',m'<m/\W (i+1) m' σ' H')/\∀ x H',(Itq lo c n).yld i H x H'->g x σ H' fun σ2 H2=>tb { D with nx:=N,ct:=N,bk:=D.nx } σ2 H2)
theorem y57y:tFor (iRng3 ta) g tb D σ H=ta σ H fun vs H1=>∃ i j c:Int,vs=[.int i, .int j, .int c]/\(0<=i/\i<2 ^ 40/\0<=j/\j<2 ^ 40/\1<=c/\c<2 ^ 30)/\ForQ i c (rsz i j c) g tb D σ H1:=rfl
end
variable {σ:St}
theorem y61y {c:TT} {tb:TE}:tIf c ta tb σ H Q=c σ H fun b H1=>if b=true then ta σ H1 Q else tb σ H1 Q:=rfl
def vl (a:Int × Int):Rat:=(a.1:Rat)/(a.2:Rat)
theorem JdC {a:Int} (h:1<=a):(a:Rat)≠0:=fun z=>by
 have : a=0:=by exact_mod_cast z
 ac_nf
variable {c:Int × Int}
theorem vl_eq (ha:1<=a.2) (hc:1<=c.2):vl a=vl c↔a.1*c.2=c.1*a.2:=by
 unfold vl;have b:=JdC ha;have d:=JdC hc;have e:((a.1*c.2=c.1*a.2)↔((a.1:Rat)*(c.2:Rat)=(c.1:Rat)*(a.2:Rat))):=by
  constructor
  ·intro h;exact_mod_cast h
  ·intro h;exact_mod_cast h
 rw [e];generalize (a.1:Rat)=x at *;generalize (a.2:Rat)=y at *;generalize (c.1:Rat)=z at *;generalize (c.2:Rat)=u at *;constructor
 ·intro h;grind
 ·intro h;grind
theorem JkG (ha:1<=a.2) (hc:1<=c.2) (h1:Mth.g a.1 a.2=1) (h2:Mth.g c.1 c.2=1) (h:vl a=vl c):a=c:=by
 have:=Mth.JcV ha hc h1 h2 ((vl_eq ha hc).mp h);exact Prod.ext this.1 this.2
theorem JkF (ha:1<=a.2) (hc:1<=c.2):vl (addF a c)=vl a+vl c:=by
 have d:a.2*c.2≠0:=Int.mul_ne_zero ∅ ∅;have g:=Mth.cross (t:=a.1*c.2+c.1*a.2) d;have f:=Mth.Jdj (t:=a.1*c.2+c.1*a.2) d;unfold vl addF;dsimp only;generalize Mth.top (a.1*c.2+c.1*a.2) (a.2*c.2)=t at *;generalize Mth.bot (a.1*c.2+c.1*a.2) (a.2*c.2)=b at *;have j:=JdC ha;have i:=JdC hc;have h:=JdC f;have e:(t:Rat)*((a.2:Rat)*(c.2:Rat))=((a.1:Rat)*(c.2:Rat)+(c.1:Rat)*(a.2:Rat))*(b:Rat):=by exact_mod_cast g
 generalize (a.1:Rat)=x at *;generalize (a.2:Rat)=y at *;generalize (c.1:Rat)=z at *;generalize (c.2:Rat)=u at *;generalize (t:Rat)=t at *;generalize (b:Rat)=b at *;grind
variable {A C:Nat}
theorem FB.mono {D:Nat} (h:FB A B a) (h1:A<=C) (h2:B<=D):FB C D a:=⟨h.s1.mono h1,h.s2.mono h2,h.b1,h.g1⟩
section
variable {A' B' C' D':Nat} {x y z w b:Int × Int} {D:Nat} {m:Int × Int}
end
section
variable {s st:Nat} {f : α->Str} {l:List α}
end
section
variable {x:V} {K:W.Frag}
end
theorem Jaw {H0:Hp} {b:Addr} (S:Same H0 H) (h:H b=none):H0 b=none:=by
 cases e:H0 b with
 | none=>rfl
 | some o=>rw [S _ _ e] at h;cases h
open PySem.Spec PyProof.Rows
theorem Jek (z:Str):∀ ss:List Str,inV (.str z) (ss.map V.str)=decide (z∈ss)
 | []=>by simp [inV]
 | s::ss=>by
  have h:=Jek z ss;unfold inV at h ⊢;rw [map_cons,any_cons,h];have e:eqV (.str s) (.str z)=decide (s=z):=by first | rfl | simp [eqV]
  rw [e];by_cases c:s=z
  ·subst c;simp
  ·have c':¬ z=s:=fun q=>c q.symm;simp [c,c']
variable {tb:TS}
theorem ForR.byN {lo:Int} {g:TG} {D:Ends} (Pv:Nat->St->Hp->Prop) (h0:Pv 0 σ H)
  (hs:∀ i σ H,i<n->Pv i σ H->∀ N:St->Hp->Prop,(∀ σ' H',Pv (i+1) σ' H'->N σ' H')->g (.int (lo+i)) σ H fun σ2 H2=>tb { D with nx:=N,ct:=N,bk:=D.nx } σ2 H2) (hd:∀ σ H,Pv n σ H->D.nx σ H):ForR lo n g tb D σ H :=
 ForR.by Pv h0 (fun i σ H a b=>hs i σ H a b _ fun _ _ h=>h) hd
variable {a:Addr}
theorem ForA.byLN {K:W.Frag} {g:TG} {D:Ends} (hA:SqL K H a xs) (Pv:Nat->St->Hp->Prop) (h0:Pv 0 σ H) (hl:∀ i σ H',Pv i σ H'->SqL K H' a xs)
  (hs:∀ i x σ H,xs[i]?=some x->Pv i σ H->∀ N:St->Hp->Prop,(∀ σ' H',Pv (i+1) σ' H'->N σ' H')->g x σ H fun σ2 H2=>tb { D with nx:=N,ct:=N,bk:=D.nx } σ2 H2) (hd:∀ σ H,Pv xs.length σ H->D.nx σ H):ForA K a g tb D σ H :=
 ForA.byL hA Pv h0 hl (fun i x σ H b c=>hs i x σ H b c _ fun _ _ h=>h) hd
def prodI:List Int->Int
 | []=>1
 | f::r=>f*prodI r
theorem Jeb (f:Int):∀ fs:List Int,prodI (fs++[f])=prodI fs*f
 | []=>by simp [prodI]
 | g::fs=>by rw [cons_append];simp only [prodI,Jeb f fs];rw [Int.mul_assoc]
structure Scl (b:Int) (fs:List Int):Prop where
 b1:1<=b
 f1:∀ f∈fs,1<=f
 pr:prodI fs=b
theorem Scl.nil:Scl 1 []:=⟨by decide,by simp,rfl⟩
theorem Scl.snoc {b f:Int} {fs:List Int} (h:Scl b fs) (hf:1<=f):Scl (b*f) (fs++[f]):=⟨by
 have:=Int.mul_pos (show 0<b by have:=h.b1;ac_nf) (show 0<f by ac_nf);ac_nf,fun g a=>by
 rcases mem_append.mp a with a | a
 ·exact h.f1 g a
 ·rw [mem_singleton.mp a];exact hf,by rw [Jeb,h.pr]⟩
def notStar:Expr->Bool
 | .Starred _ _=>false
 | _=>true
theorem Jai {env:Env} (h:notStar e=true):starEach (e::es) env=(false,eval e env)::starEach es env:=by
 cases e <;> first | rfl | (simp [notStar] at h)
variable {te:TE}
theorem Jaa {t:TA} (ha:PE X e te) (hr:PA X es t) (hs:notStar e=true:=by rfl):PA X (e::es) (tCons te t):=Jjv ha hr (Jai hs)
section
variable {x:V} {c:Addr} {K:W.Frag}
def FLV (K:W.Frag) (H:Hp) (s:Int × Int) (x:V):Prop:=FrV K H x s.1 s.2
theorem FLV.sameT {s:Int × Int} (T:SameT H H') (h:FLV K H s x):FLV K H' s x:=FrV.sameT T h
end
variable {A:Around}
section
variable {ls:List PD} {M:Str->Option Str} {a b:Str} {p:PD} {f g:Str}
end
section
variable {K:W.Frag}
end
variable {a b:Str->Rat}
structure Gp where
 R:Rat
 way:List Str
section
variable {N:List Str} {w M f':Str->Rat} {gs:List Gp} {f:Str->Rat}
end
def left (lvs:List (Str × (Int × Int))) (w:Str->Rat) (n:Str):Rat:=if n∈lvs.map (·.1) then 0 else w n
section
variable {lvs:List (Str × (Int × Int))} {n:Str} {L:Int × Int} {ns:List Str} {w:Str->Rat} {m:Str}
end
variable {N ns:List Str} {w M:Str->Rat} {gs:List Gp} {lvs:List (Str × (Int × Int))} {c:Rat} {L:Int × Int}
section
variable {E:Int} {r s:Rat} {D:Int}
end
variable {vs:List (Key × Value)}
theorem Jjl (rel:KV kvs vs):vs.map (·.1)=kvs.map (·.1):=by
 unfold KV at rel;induction rel with
 | nil=>rfl
 | cons h1 _ ih=>rw [map_cons,map_cons,ih,h1.1]
variable {P:Program} {w:World}
theorem Jjk {v:Value} (h:(JaT P w).is (Sum.inr z) v=true):∃ t,v=.str z t:=by
 rcases JaK (show keyIs (Sum.inr z) v=true from h) with ⟨b,hb,_⟩ | ⟨y,t,hy,rfl⟩
 ·cases hb
 ·cases hy;exact ⟨t,rfl⟩
def Itk (d:Addr) (od:Obj) (kvs:List (Key × V)) (ss:List Str):It :=
 ⟨fun i H=>H d=some (.frz od (.dK kvs))/\i<ss.length,fun i H x H'=>H'=H/\(ss.map V.str)[i]?=some x,fun i H=>H d=some (.frz od (.dK kvs))/\ss.length<=i⟩
theorem JhM {K:W.Frag} {it:Addr} {ep:Nat} (rel:KV kvs vs) (hk:kvs.map (·.1)=ss.map Sum.inr) (hd:∀ h:Heap,h.get? d=some od->h.DictAt (JaT P w) d vs ep) :
  Turn P w K tg (Itk d od kvs ss) [it] it (fun i h=>h.IsKeyIter it d i vs.length ep) where
 mem:=by simp
 obj:=fun i h a b j=>by
  obtain rfl:b=it:=by simpa using j
  obtain ⟨o,e,c,z⟩:=a;exact ⟨o,e,fun v q=>by rw [z] at q;cases q⟩
 keep:=fun i h u a k=>a.at fun o e=>k it (by simp) o e
 item:=by
  intro X M L F O i f s σ H E I y a J;subst M L F;obtain ⟨l,G⟩:=J;obtain ⟨D,B,S,A,C,N⟩:=y it (by simp);have g:=(I.hok d _ l).1;have T:=rel.length;have lk:kvs.length=ss.length:=by simpa using congrArg List.length hk
  obtain ⟨⟨k,U⟩,n⟩:∃ p,vs[i]?=some p:=⟨_,List.getElem?_eq_getElem (show i<vs.length by ac_nf)⟩;have x:(vs.map (·.1))[i]?=some k:=by rw [List.getElem?_map,n];rfl
  rw [Jjl rel,hk,List.getElem?_map,List.getElem?_eq_getElem G] at x;have x:Sum.inr ss[i]=k:=Option.some.inj x;subst x;refine wpAny_pyNext_dict_item a (hd _ g) n fun key u m r Q=>?_;obtain ⟨t,rfl⟩:=Jjk m;have I1:Inv X f σ H { s with heap:=u }:=I.turned (t':=s.toks) (fun b o j e=>(Q.2 b j).trans e) D B A C N;obtain ⟨o,e,c,z⟩:=id r;exact ⟨_,rfl,go_of (s:={ s with heap:=u }) e c z ⋯ ⟨.str ss[i],H,I1,⟨t,rfl⟩,⟨rfl,by rw [List.getElem?_map,List.getElem?_eq_getElem G];rfl⟩,r,fun b j=>(y b j).1⟩⟩
 done:=by
  intro X M L F O i f s σ H E I y a J;subst M L F;obtain ⟨l,G⟩:=J;obtain ⟨D,B,S,A,C,N⟩:=y it (by simp);have g:=(I.hok d _ l).1;have T:=rel.length;have lk:kvs.length=ss.length:=by simpa using congrArg List.length hk
  exact wpAny_pyNext_dict_end (I.ok.hd O) a (hd _ g) (List.getElem?_eq_none ∅) fun u R=>⟨rfl,I.turned (t':=s.toks) (fun b o j e=>R b o j e) D B A C N⟩
 self:=fun _ _ _ _ _ a h=>wpAny_pyIter_keyiter a h
def iKeys (td:TE):TI:=fun σ H R=>td σ H fun x H1=>∃ (d:Addr) (kvs:List (Key × V)) (ss:List Str),x=.ref d/\H1 d=some (.dK kvs)/\kvs.map (·.1)=ss.map Sum.inr/\∀ od,R (Itk d od kvs ss) (upd H1 d (.frz od (.dK kvs)))
theorem Jhs (ho:PE X o td):PI X tg o (iKeys td):=by
 intro c s σ H R I h;refine thn (ho c s σ H _ I h) fun v f ζ=>?_;obtain ⟨y,B,I1,r,d,kvs,C,l,e,t,u⟩:=ζ;subst l;obtain rfl:v=Value.ref d:=r;obtain ⟨A,n,vs,i,m⟩:=dk_of I1.hok e;obtain ⟨ep,k⟩:=m.dictAt;obtain ⟨j,x,a,rest⟩:=id k;refine wpAny_pyIter_dict (knd:=JaT X.prog X.w) (d:=d) (kvs:=vs) (ep:=ep) n k ?_;have p:∀ b o,f.heap.get? b=some o->(f.heap.push { cls:=.type "dict_keyiterator",data:=.fields #[.ref d, .int 0 0, .int vs.length 0, .int ep 0] }).get? b=some o:=fun b o z=>Heap.get?_push_of_some _ z;have I2:=(I1.freeze e a).kept (t':=f.toks) p;refine ⟨_,[_],_,_,_,rfl,I2,JhM (vs:=vs) (ep:=ep) i t (fun h q=>⟨j,x,q,rest⟩),⟨_,Heap.get?_push_size _ rfl,rfl,rfl⟩,fun b g=>?_,u j⟩;obtain rfl:=mem_singleton.mp g;exact I1.fpOk (Nat.le_refl _) ((I1.freeze e a).hok.fresh (Nat.le_refl _))
def JkB (ts:TS):TS:=fun D σ H=>∃ d kvs,H d=some (.dK kvs)/\ts { nx:=fun σ' H'=>∃ od kvs',H' d=some (.frz od (.dK kvs'))/\D.nx σ' (upd H' d (.dK kvs')),rt:=fun _ _=>False } σ H
theorem ps_no {st:Stmt}:PS X st (fun _ _ _=>False):=fun _ _ _ _ _ _ h=>h.elim
section
variable {tl:TE} {tt:TT} {k:Nat} {cs:List (Nat × Str)} {g:TG}
theorem y38y:Jgk k cs (iKeys td) g tt te σ H Q=td σ H fun x H1=>∃ (d1:Addr) (kvs1:List (Key × V)) (ss:List Str),x=.ref d1/\H1 d1=some (.dK kvs1)/\kvs1.map (·.1)=ss.map Sum.inr/\∀ od,JeI (Itk d1 od kvs1 ss) k cs g tt te σ Q (upd H1 d1 (.frz od (.dK kvs1))):=rfl
theorem y3ay:tThaw (Jgk k cs (iKeys td) g tt te) σ H Q=∃ d kvs,H d=some (.dK kvs)/\td σ H fun x H1=>∃ (d1:Addr) (kvs1:List (Key × V)) (ss:List Str),x=.ref d1/\H1 d1=some (.dK kvs1)/\kvs1.map (·.1)=ss.map Sum.inr/\∀ od,JeI (Itk d1 od kvs1 ss) k cs g tt te σ (fun v H'=>∃ od kvs',H' d=some (.frz od (.dK kvs'))/\Q v (upd H' d (.dK kvs'))) (upd H1 d1 (.frz od (.dK kvs1))):=rfl
variable {En:Ends}
theorem y94y {ts:TS}:JkB ts En σ H=∃ d kvs,H d=some (.dK kvs)/\ts { nx:=fun σ' H'=>∃ od kvs',H' d=some (.frz od (.dK kvs'))/\En.nx σ' (upd H' d (.dK kvs')),rt:=fun _ _=>False } σ H:=rfl
theorem DGet.f {a:Addr} {k:Key} (e:H a=some (.frz od (.dK kvs))):DGet H a (kV k) (valV kvs k):=.inl ⟨kvs,k, .inr ⟨od,e⟩,rfl,rfl⟩
end
def subF (a c:Int × Int):Int × Int:=(Mth.top (a.1*c.2-c.1*a.2) (a.2*c.2),Mth.bot (a.1*c.2-c.1*a.2) (a.2*c.2))
structure Lo (a:Int × Int):Prop where
 b1:1<=a.2
 g1:Mth.g a.1 a.2=1
variable {a:Int × Int}
theorem FB.lo {A:Nat} (h:FB A B a):Lo a:=⟨h.b1,h.g1⟩
variable {c:Int × Int}
theorem Lo.inj (h:Lo a) (k:Lo c) (e:vl a=vl c):a=c:=JkG h.b1 k.b1 h.g1 k.g1 e
theorem JkH (k:Int):vl (k,1)=(k:Rat):=by
 unfold vl;have : ((1:Int):Rat)=1:=rfl;grind
theorem JjQ:vl (0,1)=0:=JkH 0
structure LidD where
 nm:Str
 rest:Int × Int
 ws:List (Str × Int)
 load:Int
 last:Int × Int
section
variable {w:Str->Rat} {e:LidD} {g:Gp} {m:Str}
end
section
variable {w:Str->Rat} {m:Str}
end
section
variable {a:Addr} {kv kw:List (Key × V)} {k:Key}
end
section
variable {b Q:Int} {w:Str->Rat} {ms:List (Str × (Int × Int))} {lds:List LidD} {D:Int} {k:Nat}
end
structure ShD where
 nm:Str
 sl:Int × Int
 sp:Option Str
section
variable {ls:List PD} {es:List (GD × List Str)} {pl:Str->Int × Int} {p:PD} {f':Str->Rat} {rs rs':List ShD} {f:Str->Rat}
end
variable {ls:List PD} {es:List (GD × List Str)} {pl:Str->Int × Int} {lds:List LidD} {ms:List (Str × (Int × Int))} {b q0:Int}
section
variable {a b c d B:TS} {D:Ends}
end
structure Nxt (R:St->Hp->Prop) (b:TS) (D:Ends):Prop where
 go:∀ {σ : St} {H:Hp},b D σ H->R σ H
theorem JeB {a b:TS} {D:Ends} (h:∀ R,Nxt R b D->a { D with nx:=R } σ H):tSeq a b D σ H:=h _ ⟨fun z=>z⟩
structure SpS where
 src:Str
 tgt:Str
 cost:Int × Int
 wh:Int
 nm:Str
 fw:Bool
abbrev SumD:=List (Str × Int)
abbrev LasD:=List (Str × SpS)
def lk:List (Str × α)->Str->Option α
 | [],_=>none
 | p::r,f=>if p.1=f then some p.2 else lk r f
def pu (l:List (Str × α)) (f:Str) (a : α):List (Str × α):=if (l.any fun p=>decide (p.1=f))=true then l.map (fun p=>if p.1=f then (p.1,a) else p) else l++[(f,a)]
theorem Jhc {f g:Str} {a : α} (h:f≠g):∀ l:List (Str × α),lk (l.map fun p=>if p.1=f then (p.1,a) else p) g=lk l g
 | []=>rfl
 | p::r=>by
  rw [map_cons];unfold lk;by_cases c:p.1=f
  ·rw [if_pos c];have : ¬ p.1=g:=fun e=>h (c.symm.trans e);rw [if_neg this,if_neg this];exact Jhc h r
  ·rw [if_neg c];by_cases d:p.1=g
   ·rw [if_pos d,if_pos d]
   ·rw [if_neg d,if_neg d];exact Jhc h r
theorem Jhd {f:Str} {a : α}:∀ l:List (Str × α),(l.any fun p=>decide (p.1=f))=true->lk (l.map fun p=>if p.1=f then (p.1,a) else p) f=some a
 | [],h=>by simp at h
 | p::r,h=>by
  rw [map_cons];unfold lk;by_cases c:p.1=f
  ·rw [if_pos c,if_pos c]
  ·rw [if_neg c,if_neg c];exact Jhd r (by simpa [c] using h)
theorem JiM {g:Str} {a : α} {f:Str}:∀ l:List (Str × α),lk (l++[(f,a)]) g=match lk l g with | some b=>some b | none=>if f=g then some a else none
 | []=>rfl
 | p::r=>by
  rw [cons_append];unfold lk;by_cases c:p.1=g
  ·rw [if_pos c,if_pos c]
  ·rw [if_neg c,if_neg c];exact JiM r
theorem Jhe {f:Str}:∀ l:List (Str × α), ¬ (l.any fun p=>decide (p.1=f))=true->lk l f=none
 | [],_=>rfl
 | p::r,h=>by
  unfold lk;by_cases c:p.1=f
  ·exact absurd (by simp [c]) h
  ·rw [if_neg c];exact Jhe r fun z=>h (by rw [any_cons,z,Bool.or_true])
theorem lk_pu {l:List (Str × α)} {f g:Str} {a : α}:lk (pu l f a) g=if f=g then some a else lk l g:=by
 unfold pu;by_cases c:(l.any fun p=>decide (p.1=f))=true
 ·rw [if_pos c];by_cases d:f=g
  ·subst d;rw [if_pos rfl];exact Jhd l c
  ·rw [if_neg d];exact Jhc d l
 ·rw [if_neg c,JiM];by_cases d:f=g
  ·subst d;rw [Jhe l c,if_pos rfl]
  ·rw [if_neg d];cases lk l g <;> simp [d]
theorem JaR {l:List (Str × α)} {f:Str} {a : α}:lk (pu l f a) f=some a:=by rw [lk_pu,if_pos rfl]
theorem lk_ne {l:List (Str × α)} {f g:Str} {a : α} (h:f≠g):lk (pu l f a) g=lk l g:=by rw [lk_pu,if_neg h]
structure BF where
 S:SumD
 P:LasD
 ch:Option Str
def gains (S:SumD) (s:SpS):Option Int :=
 match lk S s.src with
 | none=>none
 | some a=>match lk S s.tgt with
  | none=>some (a+s.wh)
  | some b=>if a+s.wh<b then some (a+s.wh) else none
def rlx (t:BF) (s:SpS):BF :=
 match gains t.S s with
 | none=>t
 | some a=>⟨pu t.S s.tgt a,pu t.P s.tgt s,some s.tgt⟩
def trn (ss:List SpS) (t:BF):BF:=ss.foldl rlx { t with ch:=none }
inductive Wk (ss:List SpS) (f0:Str):List SpS->Str->Prop
 | nil:Wk ss f0 [] f0
 | snoc {l:List SpS} {s:SpS}:Wk ss f0 l s.src->s∈ss->Wk ss f0 (l++[s]) s.tgt
def wgt (l:List SpS):Int:=(l.map (·.wh)).sum
variable {l:List SpS} {s:SpS}
theorem JbA:wgt (l++[s])=wgt l+s.wh:=by simp [wgt]
section
variable {ss:List SpS} {f0:Str} {π:Str->Int} {fs:List Str} {t:BF}
def Pot (π : Str->Int) (ss:List SpS):Prop:=∀ s∈ss,π s.tgt<=π s.src+s.wh
structure BI (ss:List SpS) (fs:List Str) (π : Str->Int) (S:SumD) (P:LasD):Prop where
 z:∀ f∈fs, ∃ b,lk S f=some b/\b<=0
 p0:∀ v b,lk S v=some b->lk P v=none->v∈fs/\b=0
 st:∀ v s,lk P v=some s->s∈ss/\s.tgt=v/\∃ a b,lk S s.src=some a/\lk S v=some b/\a+s.wh<=b
 wk:∀ v b,lk S v=some b->∃ f∈fs, ∃ l,Wk ss f l v/\wgt l=b
 rk:∃ r:Str->Nat, ∀ v s,lk P v=some s->r s.src<r v
inductive Dsc (P:LasD) (v:Str):Str->Prop
 | refl:Dsc P v v
 | step {x:Str} {s:SpS}:lk P x=some s->Dsc P v s.src->Dsc P v x
variable {S:SumD} {P:LasD}
theorem Dsc.mono (hp:Pot π ss) (h:BI ss fs π S P) {v x:Str} (d:Dsc P v x):∀ a b,lk S v=some a->lk S x=some b->a-π v<=b-π x:=by
 induction d with
 | refl=>intro a b g f;rw [g] at f;cases f;ac_nf
 | step g _ ih=>
  intro a b k i;obtain ⟨m,e,c,d,f,j,l⟩:=h.st _ _ g;rw [j] at i;cases i;have:=ih a c k f;have:=hp _ m;rw [e] at this;ac_nf
theorem Jbj {c:Int} (h:gains S s=some c):∃ a,lk S s.src=some a/\c=a+s.wh/\∀ b,lk S s.tgt=some b->c<b:=by
 unfold gains at h;cases e:lk S s.src with
 | none=>rw [e] at h;cases h
 | some a=>
  rw [e] at h;refine ⟨a,rfl,?_⟩;cases e2:lk S s.tgt with
  | none=>rw [e2] at h;cases h;exact ⟨rfl,fun b d=>by cases d⟩
  | some b=>
   rw [e2] at h;dsimp only at h;split at h
   ·cases h;rename_i c;exact ⟨rfl,fun f d=>by cases d;exact c⟩
   ·cases h
theorem JbV (h:gains S s=none):∀ a,lk S s.src=some a->∃ b,lk S s.tgt=some b/\b<=a+s.wh:=by
 intro a d;unfold gains at h;rw [d] at h;cases e2:lk S s.tgt with
 | none=>rw [e2] at h;cases h
 | some b=>
  rw [e2] at h;dsimp only at h;split at h
  ·cases h
  ·rename_i c;exact ⟨b,rfl,by ac_nf⟩
theorem BI.put (hp:Pot π ss) (h:BI ss fs π S P) (hs:s∈ss) {c:Int} (hg:gains S s=some c):BI ss fs π (pu S s.tgt c) (pu P s.tgt s):=by
 obtain ⟨a,o,H,n⟩:=Jbj hg;have D:=hp s hs;have C:¬ Dsc P s.tgt s.src:=fun d=>by
  cases e:lk S s.tgt with
  | none=>
   have : ∀ x,Dsc P s.tgt x->lk S x=none:=fun x F=>by
    induction F with
    | refl=>exact e
    | step k _ ih=>
     obtain ⟨_,_,c,d,i,_⟩:=h.st _ _ k;rw [ih] at i;cases i
   rw [this _ d] at o;cases o
  | some b=>
   have k:=d.mono hp h b a e o;have i:=n b e;ac_nf
 have K:s.src≠s.tgt:=fun e=>C (by rw [e];exact .refl);have p:∀ v b,lk S v=some b->∃ j,lk (pu S s.tgt c) v=some j/\j<=b:=fun v b A=>by
  by_cases e:s.tgt=v
  ·subst e;exact ⟨c,JaR,Int.le_of_lt (n b A)⟩
  ·exact ⟨b,by rw [lk_ne e];exact A,Int.le_refl _⟩
 refine ⟨fun f w=>?_,fun v b g t=>?_,fun v q g=>?_,fun v b g=>?_,?_⟩
 ·obtain ⟨b,k,i⟩:=h.z f w;obtain ⟨j,y,B⟩:=p f b k;exact ⟨j,y,by ac_nf⟩
 ·by_cases e:s.tgt=v
  ·subst e;rw [JaR] at t;cases t
  ·rw [lk_ne e] at g t;exact h.p0 v b g t
 ·by_cases e:s.tgt=v
  ·subst e;rw [JaR] at g;cases g;exact ⟨hs,rfl,a,c,by rw [lk_ne (Ne.symm K)];exact o,JaR,by ac_nf⟩
  ·rw [lk_ne e] at g;obtain ⟨m,G,M,j,k,i,y⟩:=h.st v q g;obtain ⟨u,B,L⟩:=p _ _ k;exact ⟨m,G,u,j,B,by rw [lk_ne e];exact i,by ac_nf⟩
 ·by_cases e:s.tgt=v
  ·subst e;rw [JaR] at g;cases g;obtain ⟨f,w,l,J,I⟩:=h.wk _ _ o;exact ⟨f,w,l++[s], .snoc J hs,by rw [JbA,I,H]⟩
  ·rw [lk_ne e] at g;exact h.wk v b g
 ·obtain ⟨r,E⟩:=h.rk;refine ⟨fun x=>open Classical in if Dsc P s.tgt x then r x+r s.src+1 else r x,fun v q g=>?_⟩;dsimp only;by_cases e:s.tgt=v
  ·subst e;rw [JaR] at g;cases g;rw [if_neg C,if_pos .refl];ac_nf
  ·rw [lk_ne e] at g;have:=E v q g;by_cases d:Dsc P s.tgt q.src
   ·rw [if_pos d,if_pos (.step g d)];ac_nf
   ·rw [if_neg d];split
    ·ac_nf
    ·exact this
end
section
variable {ss:List SpS} {f0:Str} {π:Str->Int} {fs:List Str} {t:BF}
theorem BI.rlx (hp:Pot π ss) (h:BI ss fs π t.S t.P) (hs:s∈ss):BI ss fs π (L2.rlx t s).S (L2.rlx t s).P:=by
 unfold L2.rlx;cases e:gains t.S s with
 | none=>exact h
 | some c=>exact h.put hp hs e
theorem BI.fold (hp:Pot π ss):∀ (l:List SpS) (t:BF),BI ss fs π t.S t.P->(∀ s∈l,s∈ss)->BI ss fs π (l.foldl L2.rlx t).S (l.foldl L2.rlx t).P
 | [],_,h,_=>h
 | s::l,t,h,hs=>by
  rw [foldl_cons];exact BI.fold hp l _ (h.rlx hp (hs s (by simp))) fun x hx=>hs x (by simp [hx])
def LeS (S S':SumD):Prop:=∀ v b,lk S v=some b->∃ b',lk S' v=some b'/\b'<=b
variable {S:SumD}
theorem LeS.refl:LeS S S:=fun v b h=>⟨b,h,Int.le_refl _⟩
theorem LeS.trans {S' S'':SumD} (h:LeS S S') (k:LeS S' S''):LeS S S'':=fun v b f=>by
 obtain ⟨c,e,g⟩:=h v b f;obtain ⟨d,a,i⟩:=k v c e;exact ⟨d,a,by ac_nf⟩
theorem LeS.rlx:LeS t.S (L2.rlx t s).S:=by
 unfold L2.rlx;cases e:gains t.S s with
 | none=>exact LeS.refl
 | some c=>
  obtain ⟨a,_,_,d⟩:=Jbj e;intro v b f;by_cases q:s.tgt=v
  ·subst q;exact ⟨c,JaR,Int.le_of_lt (d b f)⟩
  ·exact ⟨b,by show lk (pu t.S s.tgt c) v=_;rw [lk_ne q];exact f,Int.le_refl _⟩
theorem LeS.fold:∀ (l:List SpS) (t:BF),LeS t.S (l.foldl L2.rlx t).S
 | [],_=>LeS.refl
 | s::l,t=>by
  rw [foldl_cons];exact LeS.rlx.trans (LeS.fold l _)
theorem JjK {a:Int} (h:lk t.S s.src=some a):∃ b,lk (rlx t s).S s.tgt=some b/\b<=a+s.wh:=by
 unfold rlx;cases e:gains t.S s with
 | none=>exact JbV e a h
 | some c=>
  obtain ⟨g,d,f,_⟩:=Jbj e;rw [h] at d;cases d;exact ⟨c,JaR,by ac_nf⟩
theorem Jf6:∀ (l:List SpS) (t:BF) (s:SpS) (a:Int),s∈l->lk t.S s.src=some a->∃ b,lk (l.foldl rlx t).S s.tgt=some b/\b<=a+s.wh
 | [],_,_,_,h,_=>by cases h
 | x::l,t,s,a,h,ha=>by
  rw [foldl_cons];rcases mem_cons.mp h with e | h
  ·subst e;obtain ⟨b,h1,h2⟩:=JjK ha;obtain ⟨c,h3,h4⟩:=LeS.fold l _ _ _ h1;exact ⟨c,h3,by ac_nf⟩
  ·obtain ⟨a',h1,h2⟩:=LeS.rlx (s:=x) _ _ ha;obtain ⟨b,h3,h4⟩:=Jf6 l _ s a' h h1;exact ⟨b,h3,by ac_nf⟩
def itr (ss:List SpS):Nat->BF->BF
 | 0,t=>t
 | n+1,t=>trn ss (itr ss n t)
def bf0 (fs:List Str):BF:=⟨fs.foldl (fun S f=>pu S f 0) [],[],none⟩
theorem Jiw:∀ (fs:List Str) (S:SumD) (v:Str) (b:Int),lk (fs.foldl (fun S f=>pu S f 0) S) v=some b↔(v∈fs/\b=0)\/(v∉fs/\lk S v=some b)
 | [],S,v,b=>by simp
 | f::fs,S,v,b=>by
  rw [foldl_cons,Jiw fs (pu S f 0) v b,lk_pu];by_cases c:v∈fs
  ·simp [c]
  ·by_cases d:f=v
   ·subst d;simp [c];exact eq_comm
   ·have d':v≠f:=fun e=>d e.symm;simp [c,d,d']
variable {v:Str}
theorem JeJ {fs:List Str}:lk (bf0 fs).S v=some b↔v∈fs/\b=0:=by
 unfold bf0;rw [Jiw fs [] v b];simp [lk]
theorem BI.start:BI ss fs π (bf0 fs).S (bf0 fs).P where
 z:=fun f d=>⟨0,JeJ.mpr ⟨d,rfl⟩,Int.le_refl _⟩
 p0:=fun v b h _=>JeJ.mp h
 st:=fun v s h=>by cases h
 wk:=fun v b h=>by
  obtain ⟨c,a⟩:=JeJ.mp h;exact ⟨v,c,[], .nil,a.symm⟩
 rk:=⟨fun _=>0,fun v s h=>by cases h⟩
theorem BI.itr (hp:Pot π ss):∀ n,BI ss fs π (L2.itr ss n (bf0 fs)).S (L2.itr ss n (bf0 fs)).P
 | 0=>BI.start
 | n+1=>BI.fold hp ss _ (BI.itr hp n) fun _ h=>h
theorem JiK (hf:f0∈fs):∀ (i:Nat) (l:List SpS) (v:Str),Wk ss f0 l v->l.length<=i->∃ b,lk (itr ss i (bf0 fs)).S v=some b/\b<=wgt l:=by
 intro i;induction i with
 | zero=>
  intro l v h e;cases h with
  | nil=>exact ⟨0,JeJ.mpr ⟨hf,rfl⟩,Int.le_refl _⟩
  | snoc _ _=>simp at e
 | succ i ih=>
  intro l v h e;cases h with
  | nil=>
   obtain ⟨b,d,f⟩:=ih [] f0 .nil (by simp);obtain ⟨c,a,g⟩:=LeS.fold ss { itr ss i (bf0 fs) with ch:=none } _ _ d;exact ⟨c,a,by ac_nf⟩
  | @snoc l s h hs=>
   obtain ⟨b,d,f⟩:=ih l _ h (by simpa using e);obtain ⟨c,a,g⟩:=Jf6 ss { itr ss i (bf0 fs) with ch:=none } s b hs d;exact ⟨c,a,by rw [JbA];ac_nf⟩
theorem Wk.cut (hp:Pot π ss) {l:List SpS} {u:Str} (h:Wk ss f0 l u):∀ x,x∈f0::l.map (·.tgt)->(f0::l.map (·.tgt)).Nodup->∃ p,Wk ss f0 p x/\wgt p+(π u-π x)<=wgt l/\(f0::p.map (·.tgt)).Nodup:=by
 induction h with
 | nil=>
  intro x a b;have : x=f0:=by simpa using a
  subst this;exact ⟨[], .nil,by ac_nf,b⟩
 | @snoc l s h hs ih=>
  intro x a b;by_cases e:x=s.tgt
  ·subst e;exact ⟨l++[s], .snoc h hs,by ac_nf,b⟩
  ·have c:x∈f0::l.map (·.tgt):=by
    rw [map_append, <- cons_append] at a;rcases mem_append.mp a with a | a
    ·exact a
    ·exact absurd (by simpa using a) e
   have d:(f0::l.map (·.tgt)).Nodup:=by
    rw [map_append, <- cons_append] at b;exact (nodup_append.mp b).1
   obtain ⟨p,g,i,f⟩:=ih x c d;have:=hp s hs;exact ⟨p,g,by rw [JbA];ac_nf,f⟩
theorem Wk.simple (hp:Pot π ss) {l:List SpS} {v:Str} (h:Wk ss f0 l v):∃ p,Wk ss f0 p v/\wgt p<=wgt l/\(f0::p.map (·.tgt)).Nodup:=by
 induction h with
 | nil=>exact ⟨[], .nil,Int.le_refl _,by simp⟩
 | @snoc l s h hs ih=>
  obtain ⟨p,f,m,d⟩:=ih;have:=hp s hs;by_cases c:s.tgt∈f0::p.map (·.tgt)
  ·obtain ⟨q,k,n,g⟩:=f.cut hp _ c d;exact ⟨q,k,by rw [JbA];ac_nf,g⟩
  ·refine ⟨p++[s], .snoc f hs,by rw [JbA,JbA];ac_nf,?_⟩;rw [map_append, <- cons_append];exact nodup_append.mpr ⟨d,by simp,fun a i b j e=>c (by
    have q:b=s.tgt:=by simpa using j
    rw [<- q, <- e];exact i)⟩
theorem Wk.mem (h:Wk ss f0 l v):∀ s∈l,s∈ss:=by
 induction h with
 | nil=>intro s h;cases h
 | snoc _ hs ih=>
  intro x a;rcases mem_append.mp a with a | a
  ·exact ih x a
  ·rw [mem_singleton.mp a];exact hs
theorem Wk.len (h:Wk ss f0 l v) (hn:(f0::l.map (·.tgt)).Nodup):l.length<=ss.length:=by
 have:=sub_len (l.map (·.tgt)) (ss.map (·.tgt)) (nodup_cons.mp hn).2 fun x a=>by
  obtain ⟨s,b,rfl⟩:=mem_map.mp a;exact mem_map.mpr ⟨s,h.mem s b,rfl⟩
 simpa using this
theorem JhW (hp:Pot π ss):∀ s∈ss,gains (itr ss ss.length (bf0 fs)).S s=none:=fun s k=>by
 cases e:gains (itr ss ss.length (bf0 fs)).S s with
 | none=>rfl
 | some c=>
  obtain ⟨a,i,t,d⟩:=Jbj e;obtain ⟨f,m,l,o,r⟩:=(BI.itr hp ss.length (fs:=fs)).wk _ _ i;obtain ⟨p,g,j,h⟩:=(Wk.snoc o k).simple hp;obtain ⟨b,n,q⟩:=JiK m _ p _ g (g.len h);have:=d b n;rw [JbA] at j;ac_nf
theorem JfA:∀ (l:List SpS) (t:BF),(l.foldl rlx t).ch=none->l.foldl rlx t=t/\∀ s∈l,gains t.S s=none
 | [],t,_=>⟨rfl,fun s h=>by cases h⟩
 | x::l,t,h=>by
  rw [foldl_cons] at h ⊢;obtain ⟨h1,h2⟩:=JfA l _ h;rw [h1] at h;cases e:gains t.S x with
  | none=>
   have ex:rlx t x=t:=by unfold rlx;rw [e]
   rw [ex] at h1 h2 ⊢;refine ⟨h1,fun s hs=>?_⟩;rcases mem_cons.mp hs with q | hs
   ·subst q;exact e
   ·exact h2 s hs
  | some c=>
   unfold rlx at h;rw [e] at h;cases h
theorem Jg4:∀ (l:List SpS) (t:BF),(∀ s∈l,gains t.S s=none)->l.foldl rlx t=t
 | [],_,_=>rfl
 | x::l,t,h=>by
  have ex:rlx t x=t:=by unfold rlx;rw [h x (by simp)]
  rw [foldl_cons,ex];exact Jg4 l t fun s hs=>h s (by simp [hs])
def bfR (ss:List SpS):Nat->BF->BF
 | 0,t=>t
 | n+1,t=>if (trn ss t).ch=none then trn ss t else bfR ss n (trn ss t)
structure BE (ss:List SpS) (fs:List Str) (P:LasD):Prop where
 ex:∃ S:SumD, ∃ r:Str->Nat,(∀ f∈fs, ∃ b,lk S f=some b)/\(∀ v b,lk S v=some b->lk P v=none->v∈fs/\b=0)/\(∀ v s,lk P v=some s->s∈ss/\s.tgt=v/\r s.src<r v/\∃ a,lk S s.src=some a/\lk S v=some (a+s.wh))/\∀ s∈ss, ∀ a,lk S s.src=some a->∃ b,lk S s.tgt=some b/\b<=a+s.wh
theorem BE.of (hp:Pot π ss) (h:(itr ss (n+1) (bf0 fs)).ch=none):BE ss fs (itr ss (n+1) (bf0 fs)).P:=by
 have b:=BI.itr hp n (fs:=fs);obtain ⟨u,g⟩:=JfA ss { itr ss n (bf0 fs) with ch:=none } h;have e:itr ss (n+1) (bf0 fs)={ itr ss n (bf0 fs) with ch:=none }:=u;rw [e];generalize itr ss n (bf0 fs)=t at *;obtain ⟨r,p⟩:=b.rk;refine ⟨t.S,r,fun f x=>⟨_,(b.z f x).choose_spec.1⟩,b.p0,fun v s l=>?_,fun s o a w=>JbV (g s o) a w⟩;obtain ⟨m,q,a,c,i,j,A⟩:=b.st v s l;obtain ⟨d,k,y⟩:=JbV (g s m) a i;rw [q,j] at k;cases k;exact ⟨m,q,p v s l,a,i,by rw [j];congr 1;ac_nf⟩
end
theorem Jg2 {n:Int} (h:1<=n):n∣b*n.fdiv (Mth.g b n):=by
 have i:=Mth.g_pos (a:=b) (b:=n) ∅;obtain ⟨c,d⟩:=Mth.Jdp b n;have e:=Mth.Jbf (Mth.JcK b n) (by ac_nf:Mth.g b n≠0);refine ⟨c,?_⟩;generalize hg:Mth.g b n=g at *;generalize n.fdiv g=f at *;rw [d, <- e];rw [Int.mul_right_comm,Int.mul_comm g f]
theorem JgM:∀ i,(Ch.all (ts.take i)).length<=2*i:=fun i=>by
 induction i with
 | zero=>simp [Ch.all]
 | succ i ih=>
  rw [take_succ];cases ts[i]? with
  | none=>simp;ac_nf
  | some t=>
   have : (Ch.steps t).length<=2:=by unfold Ch.steps fwd bwd;cases t.hi <;> cases t.lo <;> simp
   simp only [Ch.all,List.flatMap_append,Option.toList_some,List.flatMap_cons,List.flatMap_nil,append_nil,length_append] at ih ⊢;ac_nf
section
variable {R R' : α->V->Prop}
def DV (R : α->V->Prop):List (Str × α)->List (Key × V)->Prop
 | [],kv=>kv=[]
 | p::P,kv=>∃ v r,kv=(Sum.inr p.1,v)::r/\R p.2 v/\DV R P r
theorem DV.len:∀ {P:List (Str × α)} {kv:List (Key × V)},DV R P kv->kv.length=P.length
 | [],_,h=>by rw [h];rfl
 | p::P,_,⟨v,r,e,_,h⟩=>by rw [e,length_cons,length_cons,h.len]
theorem DV.keys:∀ {P:List (Str × α)} {kv:List (Key × V)},DV R P kv->kv.map (·.1)=(P.map (·.1)).map Sum.inr
 | [],_,h=>by rw [h];rfl
 | p::P,_,⟨v,r,e,_,h⟩=>by rw [e,map_cons,map_cons,map_cons,h.keys]
theorem DV.mono (m:∀ a v,R a v->R' a v):∀ {P:List (Str × α)} {kv:List (Key × V)},DV R P kv->DV R' P kv
 | [],_,h=>h
 | p::P,_,⟨v,r,e,h1,h⟩=>⟨v,r,e,m _ _ h1,h.mono m⟩
theorem DV.no:∀ {P:List (Str × α)} {kv:List (Key × V)},DV R P kv->lk P z=none->valV kv (Sum.inr z)=none
 | [],_,h,_=>by rw [h];rfl
 | p::P,_,⟨v,r,e,_,h⟩,n=>by
  unfold lk at n;by_cases c:p.1=z
  ·rw [if_pos c] at n;cases n
  ·rw [if_neg c] at n;rw [e,JcR (by simpa using c)];exact h.no n
theorem DV.at {a : α}:∀ {P:List (Str × α)} {kv:List (Key × V)},DV R P kv->lk P z=some a->∃ v,valV kv (Sum.inr z)=some v/\R a v
 | [],_,_,n=>by cases n
 | p::P,_,⟨v,r,e,h1,h⟩,n=>by
  unfold lk at n;by_cases c:p.1=z
  ·rw [if_pos c] at n;cases n;exact ⟨v,by rw [e];exact JcS (by simpa using c),h1⟩
  ·rw [if_neg c] at n;rw [e,JcR (by simpa using c)];exact h.at n
theorem DV.any {f:Str}:∀ {P:List (Str × α)} {kv:List (Key × V)},DV R P kv->(kv.any fun q=>decide (q.1=Sum.inr f))=(P.any fun p=>decide (p.1=f))
 | [],_,h=>by rw [h];rfl
 | p::P,_,⟨v,r,e,_,h⟩=>by
  rw [e,any_cons,any_cons,h.any]
  congr 1
  simp
theorem DV.map {f:Str} {a : α} (ra:R a v):∀ {P:List (Str × α)} {kv:List (Key × V)},DV R P kv->DV R (P.map fun p=>if p.1=f then (p.1,a) else p) (kv.map fun q=>if q.1=Sum.inr f then (q.1,v) else q)
 | [],_,h=>by rw [h];exact rfl
 | p::P,_,⟨w,r,e,h1,h⟩=>by
  rw [e,map_cons,map_cons];by_cases c:p.1=f
  ·rw [if_pos c,if_pos (by simpa using c)];exact ⟨v,_,rfl,ra,h.map ra⟩
  ·rw [if_neg c,if_neg (by simpa using c)];exact ⟨w,_,rfl,h1,h.map ra⟩
theorem DV.app {f:Str} {a : α} (ra:R a v):∀ {P:List (Str × α)} {kv:List (Key × V)},DV R P kv->DV R (P++[(f,a)]) (kv++[(Sum.inr f,v)])
 | [],_,h=>by rw [h];exact ⟨v,[],rfl,ra,rfl⟩
 | p::P,_,⟨w,r,e,h1,h⟩=>by
  rw [e];exact ⟨w,_,rfl,h1,h.app ra⟩
theorem DV.put {f:Str} {a : α} {P:List (Str × α)} {kv:List (Key × V)} (h:DV R P kv) (ra:R a v):DV R (pu P f a) (putK kv (Sum.inr f) v):=by
 unfold pu putK;rw [h.any];split
 ·exact h.map ra
 ·exact h.app ra
end
theorem Jc2:∀ {P:List (Str × α)},z∈P.map (·.1)->∃ a,lk P z=some a
 | [],h=>by cases h
 | p::P,h=>by
  unfold lk;by_cases c:p.1=z
  ·exact ⟨_,if_pos c⟩
  ·rw [if_neg c];refine Jc2 ?_;rcases mem_cons.mp h with e | h
   ·exact absurd e.symm c
   ·exact h
theorem Jc3 {l:List (Str × α)} {f:Str} {a : α}:(pu l f a).length<=l.length+1:=by
 unfold pu;split <;> simp
inductive Chn (P:LasD):Str->List SpS->Prop
 | nil {v:Str}:lk P v=none->Chn P v []
 | snoc {v:Str} {s:SpS} {l:List SpS}:lk P v=some s->Chn P s.src l->Chn P v (l++[s])
section
variable {ss:List SpS} {P:LasD} {fs:List Str} {v:Str}
theorem Chn.uniq (h:Chn P v l):∀ {k:List SpS},Chn P v k->l=k:=by
 induction h with
 | nil h0=>
  intro k a;cases a with
  | nil _=>rfl
  | snoc h _=>rw [h0] at h;cases h
 | snoc h _ ih=>
  intro k a;cases a with
  | nil h0=>rw [h] at h0;cases h0
  | snoc h' hk'=>
   rw [h] at h';cases h';rw [ih hk']
theorem BE.chain (h:BE ss fs P):∃ S:SumD,(∀ v,(∃ b,lk S v=some b)↔(v∈fs\/∃ s,lk P v=some s))/\(∀ v b,lk S v=some b->∃ l,Chn P v l/\wgt l=b/\∃ f∈fs,lk P f=none/\Wk ss f l v/\(f::l.map (·.tgt)).Nodup)/\∀ s∈ss, ∀ a,lk S s.src=some a->∃ b,lk S s.tgt=some b/\b<=a+s.wh:=by
 obtain ⟨S,r,E,o,k,G⟩:=h.ex;have key:∀ n v b,r v<=n->lk S v=some b->∃ l,Chn P v l/\wgt l=b/\∃ f∈fs,lk P f=none/\Wk ss f l v/\(f::l.map (·.tgt)).Nodup/\∀ x∈f::l.map (·.tgt),x=v\/r x<r v:=by
  intro n;induction n with
  | zero=>
   intro v b C d;cases e:lk P v with
   | none=>
    obtain ⟨i,g⟩:=o v b d e;exact ⟨[], .nil e,g.symm,v,i,e, .nil,by simp,fun x c=>.inl (by simpa using c)⟩
   | some s=>
    have:=(k v s e).2.2.1;ac_nf
  | succ n ih=>
   intro v b C d;cases e:lk P v with
   | none=>
    obtain ⟨i,g⟩:=o v b d e;exact ⟨[], .nil e,g.symm,v,i,e, .nil,by simp,fun x c=>.inl (by simpa using c)⟩
   | some s=>
    obtain ⟨m,q,D,a,i,g⟩:=k v s e;rw [d] at g;cases g;obtain ⟨l,A,p,f,t,w,u,j,F⟩:=ih s.src a ∅ i;subst q;have B:∀ x∈f::l.map (·.tgt),r x<r s.tgt:=fun x c=>by
     rcases F x c with z | z
     ·rw [z];exact D
     ·ac_nf
    refine ⟨l++[s], .snoc e A,by rw [JbA,p],f,t,w, .snoc u m,?_,fun x c=>?_⟩
    ·rw [map_append, <- cons_append];refine nodup_append.mpr ⟨j,by simp,fun x c y H z=>?_⟩;have q:y=s.tgt:=by simpa using H
     have:=B x c;rw [z,q] at this;ac_nf
    ·rw [map_append, <- cons_append] at c;rcases mem_append.mp c with c | c
     ·exact .inr (B x c)
     ·exact .inl (by simpa using c)
 refine ⟨S,fun v=>⟨fun ⟨b,d⟩=>?_,fun I=>?_⟩,fun v b d=>?_,G⟩
 ·cases e:lk P v with
  | none=>exact .inl (o v b d e).1
  | some s=>exact .inr ⟨s,rfl⟩
 ·rcases I with e | ⟨s,e⟩
  ·exact E v e
  ·obtain ⟨_,_,_,a,_,g⟩:=k v s e;exact ⟨_,g⟩
 ·obtain ⟨l,A,p,f,t,w,u,j,_⟩:=key (r v) v b (Nat.le_refl _) d;exact ⟨l,A,p,f,t,w,u,j⟩
end
def Lnk (P:LasD):Str->List SpS->Prop
 | _,[]=>True
 | z,s::r=>s.src=z/\lk P s.tgt=some s/\Lnk P s.tgt r
def lnkE:Str->List SpS->Str
 | z,[]=>z
 | _,s::r=>lnkE s.tgt r
theorem Lnk.add {P:LasD} (h:Lnk P z l) (hs:lk P z=some s) (ht:s.tgt=z):Lnk P s.src (s::l):=⟨rfl,by rw [ht];exact hs,by rw [ht];exact h⟩
theorem Jgb (ht:s.tgt=z):lnkE s.src (s::l)=lnkE z l:=by
 show lnkE s.tgt l=_;rw [ht]
def Itb (K:W.Frag) (a:Addr) (n:Nat):It :=
 ⟨fun i H=>i<n/\∃ xs x,SqL K H a xs/\xs[n-1-i]?=some x,fun i H x H'=>H'=H/\∀ xs,SqL K H a xs->xs[n-1-i]?=some x,fun i _=>i=n⟩
theorem Jiq {K:W.Frag} (a it:Addr) (n:Nat):Turn P w K tg (Itb K a n) [it] it (fun i h=>h.IsRevIter it a ((n:Int)-1-(i:Int))) where
 mem:=by simp
 obj:=fun i h f b j=>by
  have e:b=it:=by simpa using j
  subst e;obtain ⟨o,e,c,d⟩:=f;exact ⟨o,e,fun v z=>by rw [d] at z;cases z⟩
 keep:=fun i h q f k=>f.at fun o e=>k it (by simp) o e
 item:=by
  intro X F D C L i g s σ H E I r f m;subst F D C;obtain ⟨li,xs,x,M,J⟩:=m;obtain ⟨R,O,p,hz⟩:=I.list M;obtain ⟨u,V,N⟩:=O.get J;obtain ⟨B,y,U,t,A,G⟩:=r it (by simp);have Z:(n:Int)-1-(i:Int)=((n-1-i:Nat):Int):=by ac_nf
  rw [Z] at f;refine wpAny_pyNext_rev_item f p.isList (x:=u) (by simpa using V) fun q l Q=>?_;have I1:Inv X g σ H { s with heap:=q }:=I.turned (t':=s.toks) (fun b o j e=>(Q.2 b j).trans e) B y t A G;have T:((n-1-i:Nat):Int)-1=(n:Int)-1-((i+1:Nat):Int):=by ac_nf
  rw [T] at l;obtain ⟨o,e,c,d⟩:=id l;exact ⟨u,rfl,go_of (s:={ s with heap:=q }) e c d ⋯ ⟨x,H,I1,N,⟨rfl,fun ys Y=>by rw [I.list_inj Y M];exact J⟩,l,fun b j=>(r b j).1⟩⟩
 done:=by
  intro X F D C L i g s σ H E I r f m;subst F D C;have m:i=n:=m;subst m;obtain ⟨B,y,U,t,A,G⟩:=r it (by simp);have e:(i:Int)-1-(i:Int) = -1:=by ac_nf
  rw [e] at f;exact wpAny_pyNext_rev_end (I.ok.hd L) f fun q S=>⟨rfl,I.turned (t':=s.toks) (fun b o j e=>S b o j e) B y t A G⟩
 self:=fun _ _ _ _ _ f h=>wpAny_pyIter_revIter f h
def iRevL (K:W.Frag) (tl:TE):TI:=fun σ H R=>tl σ H fun x H1=>∃ a xs,x=.ref a/\SqL K H1 a xs/\R (Itb K a xs.length) H1
variable {p2 pos2:Pos} {y:Str}
theorem JjC {t:TE} (hy:y="reversed") (hg2:Gl X y) (hm2:X.mg y=none) (hv2:bootBuiltins y=some (.type "reversed")) (ha:PE X e t) (he:starEach [e] X.env=(false,eval e X.env)::starEach [] X.env:=by rfl) :
  PI X tg (.Call (.Name y p2) [e] [] pos2) (iRevL X.K t):=by
 intro c s σ H R I h;have r:y≠"__name__":=by rw [hy];decide
 have j:(y == ("__debug__" : Str))=false:=by rw [hy];decide
 refine wpAny_Call_Name_kw (Jc1 I hg2 hm2 hv2 ?_ r j);refine PyProof.Rows.callWith_type1 ?_ he rfl;rw [he];show wpAny _ _ (spliced ((false,eval e X.env)::backTo pos2 (starEach [] X.env))) _ _ s;refine Calls.spliced_cons (thn (ha c s σ H _ I h) fun u d ζ=>?_);obtain ⟨x,n,I1,l,q⟩:=ζ;refine Calls.spliced_nil ?_;obtain ⟨a,g,rfl,v,q⟩:=q;obtain rfl:u=Value.ref a:=l;obtain ⟨f,k,p,w⟩:=I1.list v;refine call_reversed_list p.isList ?_;refine wpAny_pyIter_revIter ⟨_,Heap.get?_push_size _ rfl,rfl,rfl⟩ ?_;have z:=k.length;refine ⟨d.heap.objs.size,[d.heap.objs.size],_,_,n,rfl,I1.kept (t':=d.toks) fun b o e=>Heap.get?_push_of_some _ e,Jiq a _ g.length,?_,fun b m=>?_,q⟩
 ·refine ⟨_,Heap.get?_push_size _ rfl,rfl,?_⟩;unfold revObj;have i:((f.toArray.size:Nat):Int)-1=(g.length:Int)-1-((0:Nat):Int):=by
   rw [size_toArray];ac_nf
  rw [i]
 ·have e:b=d.heap.objs.size:=by simpa using m
  subst e;exact I1.fpOk (Nat.le_refl _) (I1.hok.fresh (Nat.le_refl _))
theorem Jid {K:W.Frag} (hK:X.K=K) {e:Expr} {t:TE} {p2 pos2:Pos} {y:Str} (hy:y="reversed") (hg2:Gl X y) (hm2:X.mg y=none) (hv2:bootBuiltins y=some (.type "reversed")) (ha:PE X e t) (he:starEach [e] X.env=(false,eval e X.env)::starEach [] X.env:=by rfl) :
  PI X tg (.Call (.Name y p2) [e] [] pos2) (iRevL K t):=hK ▸ JjC hy hg2 hm2 hv2 ha he
section
variable {tl:TE} {K:W.Frag} {g:TG} {D:Ends}
theorem y55y:tFor (iRevL K tl) g tb D σ H=tl σ H fun x H1=>∃ a xs,x=.ref a/\SqL K H1 a xs/\ForJ (Itb K a xs.length) g tb D σ H1:=rfl
theorem y56y:tFor (iKeys td) g tb D σ H=td σ H fun x H1=>∃ (d:Addr) (kvs:List (Key × V)) (ss:List Str),x=.ref d/\H1 d=some (.dK kvs)/\kvs.map (·.1)=ss.map Sum.inr/\∀ od,ForJ (Itk d od kvs ss) g tb D σ (upd H1 d (.frz od (.dK kvs))):=rfl
theorem ForJ.rev {a:Addr} (Pv:Nat->St->Hp->Prop) (h0:Pv 0 σ H) (hl:∀ i σ H',Pv i σ H'->SqL K H' a xs)
  (hs:∀ i x σ H,i<xs.length->xs[xs.length-1-i]?=some x->Pv i σ H->∀ N:St->Hp->Prop,(∀ σ' H',Pv (i+1) σ' H'->N σ' H')->g x σ H fun σ2 H2=>tb { D with nx:=N,ct:=N,bk:=D.nx } σ2 H2) (hd:∀ σ H,Pv xs.length σ H->D.nx σ H):ForJ (Itb K a xs.length) g tb D σ H:=by
 refine ⟨fun i m σ H=>m=xs.length-i/\i<=xs.length/\Pv i σ H,⟨xs.length,by simp,Nat.zero_le _,h0⟩,?_⟩;rintro i m σ H ⟨rfl,f,p⟩;by_cases b:i<xs.length
 ·have d:=List.getElem?_eq_getElem (by ac_nf:xs.length-1-i<xs.length);refine .inr ⟨⟨b,xs,_,hl i σ H p,d⟩,Pv (i+1),fun σ' H' c=>⟨xs.length-(i+1),by ac_nf,rfl,b,c⟩,fun x H' y=>?_⟩;obtain ⟨e,y⟩:=y;subst e;exact hs i x σ _ b (y xs (hl i σ _ p)) p _ fun _ _ h=>h
 ·have e:i=xs.length:=by ac_nf
  subst e;exact .inl ⟨rfl,hd σ H p⟩
theorem ForJ.keys (Pv:Nat->St->Hp->Prop) (h0:Pv 0 σ H) (hl:∀ i σ H',Pv i σ H'->H' d=some (.frz od (.dK kvs)))
  (hs:∀ i z σ H,ss[i]?=some z->Pv i σ H->∀ N:St->Hp->Prop,(∀ σ' H',Pv (i+1) σ' H'->N σ' H')->g (.str z) σ H fun σ2 H2=>tb { D with nx:=N,ct:=N,bk:=D.nx } σ2 H2) (hd:∀ σ H,Pv ss.length σ H->D.nx σ H):ForJ (Itk d od kvs ss) g tb D σ H:=by
 refine ⟨fun i m σ H=>m=ss.length-i/\i<=ss.length/\Pv i σ H,⟨ss.length,by simp,Nat.zero_le _,h0⟩,?_⟩;rintro i m σ H ⟨rfl,c,p⟩;by_cases a:i<ss.length
 ·refine .inr ⟨⟨hl i σ H p,a⟩,Pv (i+1),fun σ' H' b=>⟨ss.length-(i+1),by ac_nf,rfl,a,b⟩,fun x H' y=>?_⟩;obtain ⟨e,y⟩:=y;subst e;rw [List.getElem?_map,List.getElem?_eq_getElem a] at y;cases y;exact hs i ss[i] σ _ (List.getElem?_eq_getElem a) p _ fun _ _ h=>h
 ·have e:i=ss.length:=by ac_nf
  subst e;exact .inl ⟨⟨hl _ σ H p,Nat.le_refl _⟩,hd σ H p⟩
end
def bF (ns:List (Int × Int)):Int:=ns.foldl (fun b n=>b*n.2.fdiv (Mth.g b n.2)) 1
theorem JgO {l:List (Int × Int)} {n:Int × Int}:bF (l++[n])=bF l*n.2.fdiv (Mth.g (bF l) n.2):=by
 unfold bF;rw [foldl_append];rfl
theorem JeY {a : α}:∀ {P:List (Str × α)},lk P z=some a->z∈P.map (·.1)
 | [],h=>by cases h
 | p::P,h=>by
  unfold lk at h;by_cases c:p.1=z
  ·rw [map_cons,c];exact mem_cons_self
  ·rw [if_neg c] at h;rw [map_cons];exact mem_cons_of_mem _ (JeY h)
theorem pu_nd {l:List (Str × α)} {f:Str} {a : α} (h:(l.map (·.1)).Nodup):((pu l f a).map (·.1)).Nodup:=by
 unfold pu;split
 ·have e:∀ l:List (Str × α),(l.map fun p=>if p.1=f then (p.1,a) else p).map (·.1)=l.map (·.1):=fun l=>by
   rw [map_map];refine List.map_congr_left fun p _=>?_;show (if p.1=f then (p.1,a) else p).1=p.1;split <;> rfl
  rw [e];exact h
 ·rename_i c;rw [map_append];refine nodup_append.mpr ⟨h,by simp,fun x d y b e=>?_⟩;have b:y=f:=by simpa using b
  obtain ⟨p,g,rfl⟩:=mem_map.mp d;exact c (List.any_eq_true.mpr ⟨p,g,by simp [e,b]⟩)
section
variable {ss:List SpS} {P:LasD} {fs:List Str}
theorem BE.chn (h:BE ss fs P) {v:Str} {l:List SpS} (hv:v∈fs\/∃ s,lk P v=some s) (c:Chn P v l):(∀ s∈l,s∈ss)/\l.length<=ss.length/\∃ f∈fs,lk P f=none/\Wk ss f l v/\(f::l.map (·.tgt)).Nodup:=by
 obtain ⟨S,j,g,_⟩:=h.chain;obtain ⟨b,i⟩:=(j v).mpr hv;obtain ⟨k,o,p,f,m,n,a,d⟩:=g v b i;have e:=Chn.uniq c o;subst e;exact ⟨a.mem,a.len d,f,m,n,a,d⟩
def cs (l:List SpS):Int × Int:=l.foldl (fun a s=>addF a s.cost) (0,1)
theorem Ji9:cs (l++[s])=addF (cs l) s.cost:=by
 unfold cs;rw [foldl_append];rfl
theorem Jiz:∀ (l:List SpS) (a:Int × Int) (n:Nat),FB (201+10*n) (9*n+1) a->(∀ s∈l,FB 200 9 s.cost)->FB (201+10*(n+l.length)) (9*(n+l.length)+1) (l.foldl (fun a s=>addF a s.cost) a)
 | [],_,_,h,_=>h
 | s::l,a,n,h,k=>by
  rw [foldl_cons];have h1:FB (201+10*(n+1)) (9*(n+1)+1) (addF a s.cost):=(FB.add (n:=210+10*n) (m:=9*n+1+9) h (k s mem_cons_self) ∅ ∅ ∅).mono ∅ ∅;have:=Jiz l _ (n+1) h1 fun s hs=>k s (mem_cons_of_mem _ hs);rw [length_cons,show n+(l.length+1)=n+1+l.length by ac_nf];exact this
theorem fb01:FB 201 1 (0,1):=⟨by unfold Mth.Sz;exact Nat.two_pow_pos _,by unfold Mth.Sz;decide,by decide,by decide⟩
theorem cs_fb (h:∀ s∈l,FB 200 9 s.cost):FB (201+10*l.length) (9*l.length+1) (cs l):=by
 have:=Jiz l (0,1) 0 fb01 h
 rwa [Nat.zero_add] at this
structure TBk (P:LasD) (fs:List Str) (tb:List (Str × ((Int × Int) × List SpS))):Prop where
 nd:(tb.map (·.1)).Nodup
 en:∀ v e,lk tb v=some e->(v∈fs\/∃ s,lk P v=some s)/\Chn P v e.2/\e.1=cs e.2
theorem TBk.nil:TBk P fs []:=⟨by simp,fun v e h=>by cases h⟩
variable {tb:List (Str × ((Int × Int) × List SpS))}
theorem TBk.one {f:Str} (h:TBk P fs tb) (hf:f∈fs) (hn:lk P f=none):TBk P fs (pu tb f ((0,1),[])) where
 nd:=pu_nd h.nd
 en:=fun v e a=>by
  rw [lk_pu] at a;by_cases c:f=v
  ·rw [if_pos c] at a;cases a;subst c;exact ⟨.inl hf, .nil hn,rfl⟩
  ·rw [if_neg c] at a;exact h.en v e a
variable {e:(Int × Int) × List SpS}
theorem TBk.put (h:TBk P fs tb) (he:lk tb s.src=some e) (hs:lk P s.tgt=some s):TBk P fs (pu tb s.tgt (addF e.1 s.cost,e.2++[s])) where
 nd:=pu_nd h.nd
 en:=fun v x a=>by
  rw [lk_pu] at a;by_cases c:s.tgt=v
  ·rw [if_pos c] at a;cases a;obtain ⟨_,d,b⟩:=h.en _ _ he;subst c;exact ⟨.inr ⟨s,hs⟩, .snoc hs d,by rw [Ji9,b]⟩
  ·rw [if_neg c] at a;exact h.en v x a
theorem TBk.keep {f:Str} {a:(Int × Int) × List SpS} (h:∃ e,lk tb z=some e):∃ e,lk (pu tb f a) z=some e:=by
 obtain ⟨e,b⟩:=h;rw [lk_pu];by_cases c:f=z
 ·exact ⟨_,if_pos c⟩
 ·exact ⟨e,(if_neg c).trans b⟩
theorem BE.tb_len (h:BE ss fs P) {tb:List (Str × ((Int × Int) × List SpS))} (k:TBk P fs tb):tb.length<=fs.length+ss.length:=by
 have:=sub_len (tb.map (·.1)) (fs++ss.map (·.tgt)) k.nd fun x c=>by
  obtain ⟨e,f⟩:=Jc2 c;obtain ⟨_,_,_,_,a,_⟩:=h.ex;rcases (k.en x e f).1 with e | ⟨s,hs⟩
  ·exact List.mem_append_left _ e
  ·obtain ⟨d,b,_⟩:=a x s hs;exact mem_append_right _ (mem_map.mpr ⟨s,d,b⟩)
 rwa [length_map,length_append,length_map] at this
end
variable {s:Shared}
open Classical in
noncomputable def eqIn (ds:List D) (us:List Value) (d:D) (w:Value):Bool:=decide (∃ p∈ds.zip us,p.2=w/\eqD p.1 d=true)
theorem Jg8 {K:W.Frag} (I:Inv X pins σ H s) (hK:X.K=K) {A:Around} (hA:A.units+60<cLine) {d0:D} {x:V} {v:Value} (h0:Rep K H d0 x) (r0:RelV x v) (hd0:depD d0<=40):∀ {ds:List D} {xs:List V} {us:List Value},RepL K H ds xs->Vals xs us->(∀ d∈ds,depD d<=40) ->
  (∀ p∈ds.zip us,SeqAt.EqAt A s p.2 v (eqD p.1 d0))/\(∀ u∈us, ∃ d,(d,u)∈ds.zip us)/\∀ d∈ds, ∃ u,(d,u)∈ds.zip us
 | [],xs,us,h,r,_=>by
  simp only [RepL] at h;subst h;cases r;exact ⟨(fun p hp=>by cases hp),(fun u hu=>by cases hu),(fun u hu=>by cases hu)⟩
 | d::ds,xs,us,h,r,hd=>by
  simp only [RepL] at h;obtain ⟨w,vs,rfl,h1,ht⟩:=h;cases r with
  | @cons _ u0 _ us0 r1 r2=>
   obtain ⟨i1,i2,i3⟩:=Jg8 I hK hA h0 r0 hd0 ht r2 fun d' h'=>hd d' (mem_cons_of_mem _ h');refine ⟨fun p hp=>?_,fun u hu=>?_,fun c hc=>?_⟩
   ·rcases mem_cons.mp hp with rfl | hp
    ·exact I.eqP 40 d d0 A w x u0 v (hd d (by simp)) (hK ▸ h1) (hK ▸ h0) r1 r0 ∅
    ·exact i1 p hp
   ·rcases mem_cons.mp hu with rfl | hu
    ·exact ⟨d,mem_cons_self⟩
    ·obtain ⟨c,hc⟩:=i2 u hu;exact ⟨c,mem_cons_of_mem _ hc⟩
   ·rcases mem_cons.mp hc with rfl | hc
    ·exact ⟨u0,mem_cons_self⟩
    ·obtain ⟨u,hu⟩:=i3 c hc;exact ⟨u,mem_cons_of_mem _ hu⟩
def toS (b:Int) (s:SD):SpS:=⟨s.src,s.dst,s.c,s.c.1*b.fdiv s.c.2,s.nm,s.fw⟩
def bD_ (ts:List TD):Int:=bF ((Ch.all ts).map (·.c))
def ssD (ts:List TD):List SpS:=(Ch.all ts).map (toS (bD_ ts))
def lsD (ts:List TD) (fs:List Str):LasD:=(bfR (ssD ts) ((ssD ts).length+1) (bf0 fs)).P
abbrev Tab:=List (Str × ((Int × Int) × List SpS))
theorem wh_vl (h2:1<=c.2) (hd:c.2∣b):((c.1*b.fdiv c.2:Int):Rat)=vl c*(b:Rat):=by
 obtain ⟨k,rfl⟩:=hd;rw [Int.mul_fdiv_cancel_left _ ∅];have a:=JdC h2;unfold vl;push_cast;generalize (c.1:Rat)=x at *;generalize (c.2:Rat)=y at *;generalize (k:Rat)=z at *;grind
theorem JgV:∀ (l:List SpS) (a:Int × Int),1<=a.2->(∀ s∈l,(s.wh:Rat)=vl s.cost*(b:Rat)/\1<=s.cost.2)->vl (l.foldl (fun a s=>addF a s.cost) a)*(b:Rat)=vl a*(b:Rat)+(wgt l:Rat)/\1<=(l.foldl (fun a s=>addF a s.cost) a).2
 | [],a,ha,_=>by
  refine ⟨?_,ha⟩;show vl a*(b:Rat)=vl a*(b:Rat)+((0:Int):Rat);rw [Rat.intCast_zero,Rat.add_zero]
 | s::l,a,ha,h=>by
  rw [foldl_cons];obtain ⟨h1,h2⟩:=h s mem_cons_self;have hb:1<=(addF a s.cost).2:=Mth.Jdj (Int.mul_ne_zero ∅ ∅);obtain ⟨i1,i2⟩:=JgV l (addF a s.cost) hb fun s hs=>h s (mem_cons_of_mem _ hs);refine ⟨?_,i2⟩;rw [i1,JkF ha h2];have e:(wgt (s::l):Rat)=(s.wh:Rat)+(wgt l:Rat):=by
   show ((s.wh+wgt l:Int):Rat)=_;push_cast;rfl
  rw [e,h1,Rat.add_mul,Rat.add_assoc]
theorem JiA (h:∀ s∈l,(s.wh:Rat)=vl s.cost*(b:Rat)/\1<=s.cost.2):vl (cs l)*(b:Rat)=(wgt l:Rat)/\1<=(cs l).2:=by
 obtain ⟨a,c⟩:=JgV (b:=b) l (0,1) ⋯ h;refine ⟨?_,c⟩;unfold cs;rw [a,JjQ];grind
theorem ss_wh (hb:∀ s∈Ch.all ts,1<=s.c.2/\s.c.2∣bD_ ts):∀ s∈ssD ts,(s.wh:Rat)=vl s.cost*(bD_ ts:Rat)/\1<=s.cost.2:=fun s b=>by
 obtain ⟨x,a,rfl⟩:=mem_map.mp b;exact ⟨wh_vl (hb x a).1 (hb x a).2,(hb x a).1⟩
variable {F:List Str}
theorem JbW (h:∀ t∈ts,t.st∈F/\t.en∈F):∀ s∈Ch.all ts,s.src∈F/\s.dst∈F:=fun s a=>by
 obtain ⟨t,d,a⟩:=List.mem_flatMap.mp (show s∈ts.flatMap Ch.steps from a);obtain ⟨c,b⟩:=h t d;unfold Ch.steps fwd bwd at a;rcases mem_append.mp a with a | a
 ·cases e:t.hi with
  | none=>rw [e] at a;cases a
  | some u=>rw [e] at a;rw [mem_singleton.mp a];exact ⟨c,b⟩
 ·cases e:t.lo with
  | none=>rw [e] at a;cases a
  | some u=>rw [e] at a;rw [mem_singleton.mp a];exact ⟨b,c⟩
structure TTd (ts:List TD) (fs:List Str) (tb:Tab):Prop where
 b1:1<=bD_ ts
 bb:∀ s∈Ch.all ts,1<=s.c.2/\s.c.2∣bD_ ts
 tk:TBk (lsD ts fs) fs tb
 ks:∀ v,(∃ e,lk tb v=some e)↔(v∈fs\/∃ s,lk (lsD ts fs) v=some s)
 be:BE (ssD ts) fs (lsD ts fs)
section
variable {tb tb':Tab} {v:Str} {e:(Int × Int) × List SpS} {fs:List Str}
theorem TTd.uniq (h:TTd ts fs tb) (k:TTd ts fs tb'):lk tb v=lk tb' v:=by
 cases e1:lk tb v with
 | none=>
  cases e2:lk tb' v with
  | none=>rfl
  | some e=>
   obtain ⟨b,a⟩:=(h.ks v).mpr ((k.ks v).mp ⟨e,e2⟩);rw [e1] at a;cases a
 | some e=>
  obtain ⟨b,a⟩:=(k.ks v).mpr ((h.ks v).mp ⟨e,e1⟩);obtain ⟨_,g,d⟩:=h.tk.en v e e1;obtain ⟨_,f,c⟩:=k.tk.en v b a;rw [a];have:=g.uniq f
  congr 1
  exact Prod.ext (by rw [d,c,this]) this
theorem TTd.ent (h:TTd ts fs tb) (he:lk tb v=some e):e.1=cs e.2/\(∀ s∈e.2,s∈ssD ts)/\e.2.length<=(ssD ts).length/\∃ f∈fs,lk (lsD ts fs) f=none/\Wk (ssD ts) f e.2 v/\(f::e.2.map (·.tgt)).Nodup:=by
 obtain ⟨g,c,b⟩:=h.tk.en v e he;obtain ⟨i,d,a⟩:=h.be.chn g c;exact ⟨b,i,d,a⟩
theorem TTd.fb (h:TTd ts fs tb) (hfb:∀ s∈Ch.all ts,FB 200 9 s.c) (hl:(Ch.all ts).length<=70) (he:lk tb v=some e):FB 1000 700 e.1:=by
 obtain ⟨f,d,i,_⟩:=h.ent he;have b:(ssD ts).length<=70:=by unfold ssD;rw [length_map];ac_nf
 rw [f];refine (cs_fb fun s a=>?_).mono ∅ ∅;obtain ⟨y,g,rfl⟩:=mem_map.mp (d s a);exact hfb y g
theorem TTd.step (h:TTd ts fs tb) {s:SD} (hs:s∈Ch.all ts) (he:lk tb s.src=some e):∃ e',lk tb s.dst=some e'/\vl e'.1<=vl e.1+vl s.c:=by
 obtain ⟨S,o,p,x⟩:=h.be.chain;have i:toS (bD_ ts) s∈ssD ts:=mem_map.mpr ⟨s,hs,rfl⟩;have g:∀ v e,lk tb v=some e->∀ a,lk S v=some a->vl e.1*(bD_ ts:Rat)=(a:Rat):=fun v e he a m=>by
  obtain ⟨_,D,u⟩:=h.tk.en v e he;obtain ⟨l,w,t,f,_,_,A,_⟩:=p _ a m;have:=D.uniq w;subst this;rw [u, <- t];exact (JiA fun s hs=>ss_wh h.bb s (A.mem s hs)).1
 obtain ⟨a,m⟩:=(o _).mpr ((h.ks _).mp ⟨e,he⟩);obtain ⟨b,j,n⟩:=x _ i a m;obtain ⟨e',k⟩:=(h.ks s.dst).mpr ((o _).mp ⟨b,j⟩);refine ⟨e',k,?_⟩;have r:=g _ _ he a m;have q:=g _ _ k b j;have C:=(ss_wh h.bb _ i).1;have B:=h.b1;have y:(0:Rat)<(bD_ ts:Rat):=by
  have : (0:Int)<bD_ ts:=by ac_nf
  exact_mod_cast this
 have d:(b:Rat)<=(a:Rat)+((toS (bD_ ts) s).wh:Rat):=by exact_mod_cast n
 rw [C, <- r, <- q] at d;have d:vl e'.1*(bD_ ts:Rat)<=vl e.1*(bD_ ts:Rat)+vl s.c*(bD_ ts:Rat):=d;rw [<- Rat.add_mul] at d;exact Rat.not_lt.mp fun z=>absurd d (Rat.not_le.mpr (Rat.mul_lt_mul_of_pos_right z y))
theorem TTd.self {f:Str} (h:TTd ts [f] tb):lk tb f=some ((0,1),[]):=by
 obtain ⟨e,a⟩:=(h.ks f).mpr (.inl (by simp));obtain ⟨_,c,q⟩:=h.tk.en f e a;obtain ⟨_,_,_,g,d,b,_⟩:=h.ent a;rw [mem_singleton.mp d] at b;have:=c.uniq (.nil b);rw [a]
 congr 1
 exact Prod.ext (by rw [q,this];rfl) this
theorem TTd.root {f:Str} (h:TTd ts [f] tb) (he:lk tb v=some e):Wk (ssD ts) f e.2 v:=by
 obtain ⟨_,_,_,g,a,_,w,_⟩:=h.ent he;rw [mem_singleton.mp a] at w;exact w
end
def Jc0 (a:Int × Int):Int:=a.1.fdiv a.2
def ceilF (a:Int × Int):Int:=-((-a.1).fdiv a.2)
theorem Jdo (h:1<=a.2):(Jc0 a).natAbs<=a.1.natAbs:=by
 unfold Jc0;have e:=Int.fmod_add_mul_fdiv a.1 a.2;have m:=Mth.fm (x:=a.1) (y:=a.2) ∅;generalize a.1.fdiv a.2=q at *;generalize a.1.fmod a.2=r at *;have b:q*a.2=a.1-r:=by rw [Int.mul_comm];ac_nf
 by_cases c:0<=q
 ·have : q*1<=q*a.2:=Int.mul_le_mul_of_nonneg_left h c;ac_nf
 ·have f:(q+1)*a.2<=(q+1)*1:=by
   have:=Int.mul_le_mul_of_nonneg_left h (show 0 <= -(q+1) by ac_nf);rw [Int.neg_mul,Int.neg_mul] at this;ac_nf
  have d:(q+1)*a.2=a.1-r+a.2:=by rw [Int.add_mul,Int.one_mul,b]
  ac_nf
theorem JhQ (h:1<=a.2):(ceilF a).natAbs<=a.1.natAbs:=by
 have:=Jdo (a:=(-a.1,a.2)) h;unfold Jc0 at this;unfold ceilF;rw [Int.natAbs_neg];simpa using this
def enS (f g:Str->Option (Int × Int)) (m:Int) (s:SpS):Int:=match f s.tgt,f s.src,g s.src with
 | some a,none,some p=>max m (ceilF a-Jc0 p-Jc0 s.cost)
 | _,_,_=>m
variable {s:SpS}
theorem Jj4 {f g:Str->Option (Int × Int)} {m:Int} (h:f s.tgt=none):enS f g m s=m:=by unfold enS;rw [h]
theorem Jj5 {f g:Str->Option (Int × Int)} {m:Int} {b:Int × Int} (h:f s.src=some b):enS f g m s=m:=by
 unfold enS;rw [h];split <;> first | rfl | (rename_i q _;cases q) | skip
theorem enS_y {f g:Str->Option (Int × Int)} {m:Int} {p:Int × Int} (h1:f s.tgt=some a) (h2:f s.src=none) (h3:g s.src=some p):enS f g m s=max m (ceilF a-Jc0 p-Jc0 s.cost):=by unfold enS;rw [h1,h2,h3]
def enD (ss:List SpS) (f g:Str->Option (Int × Int)):Int:=ss.foldl (enS f g) 0
theorem Jj3 {f g:Str->Option (Int × Int)} {m:Int}:m<=enS f g m s:=by
 unfold enS;split <;> ac_nf
def rMax:List V->Hp->VK->Prop:=fun xs H Q=>∃ i j,xs=[.int i, .int j]/\Q (.int (max i j)) H
theorem JgR (hc:X.calm=true):CallR X (.builtin "max") rMax:=by
 intro b s σ H c f Q I r h;obtain ⟨i,j,rfl,q⟩:=h;obtain ⟨u,e,rfl,⟨t,rfl⟩,⟨l,rfl⟩⟩:=vals2 r;refine max_two_ints (I.ok.hd hc) fun d g k=>⟨_,H,I.kept k,?_,q⟩;by_cases a:j > i
 ·rw [if_pos a,Int.max_eq_right ∅];exact ⟨_,rfl⟩
 ·rw [if_neg a,Int.max_eq_left ∅];exact ⟨_,rfl⟩
theorem en_lt {f g:Str->Option (Int × Int)} (hf:∀ v e,f v=some e->FB 1000 700 e) (hg:∀ v e,g v=some e->FB 1000 700 e):∀ (ss:List SpS) (m:Int),(∀ s∈ss,FB 1000 700 s.cost)->0<=m->m<2 ^ 1010->0<=ss.foldl (enS f g) m/\ss.foldl (enS f g) m<2 ^ 1010
 | [],m,_,h0,h1=>⟨h0,h1⟩
 | s::ss,m,hc,h0,h1=>by
  rw [foldl_cons];refine en_lt hf hg ss _ (fun s hs=>hc s (mem_cons_of_mem _ hs)) (Int.le_trans h0 Jj3) ?_;unfold enS;split
  ·rename_i a p e1 e2 e3;have q1:=hf _ _ e1;have q2:=hg _ _ e3;have q3:=hc s mem_cons_self;have r1:=Nat.lt_of_le_of_lt (JhQ q1.b1) q1.s1;have r2:=Nat.lt_of_le_of_lt (Jdo q2.b1) q2.s1;have r3:=Nat.lt_of_le_of_lt (Jdo q3.b1) q3.s1;have hB:(3*2 ^ 1000:Nat)<2 ^ 1010:=Nat.lt_of_lt_of_le (m:=4*2 ^ 1000) (Nat.mul_lt_mul_of_pos_right ⋯ (Nat.two_pow_pos _)) (by rw [show (4:Nat)=2 ^ 2 from rfl, <- Nat.pow_add];exact Nat.pow_le_pow_right ⋯ ⋯);have hC:((2 ^ 1010:Nat):Int)=(2:Int) ^ 1010:=by norm_cast
   rw [<- hC] at h1 ⊢;clear hC;generalize (2 ^ 1000:Nat)=B at *;generalize (2 ^ 1010:Nat)=C at *;ac_nf
  ·exact h1
def stD (ts:List TD) (f g:Str->Option (Int × Int)) (out:List Str):List (Str × (Int × Int)):=out.map fun v=>(v,match f v with
 | some e=>e
 | none=>addF ((g v).getD (0,1)) (enD (ssD ts) f g,1))
variable {v:Str}
theorem Jio {f g:Str->Option (Int × Int)} {e:Int × Int} (h:f v=some e):stD ts f g [v]=[(v,e)]:=by
 unfold stD;rw [map_cons,h];rfl
theorem Jin {f g:Str->Option (Int × Int)} {q:Int × Int} (h:f v=none) (k:g v=some q):stD ts f g [v]=[(v,addF q (enD (ssD ts) f g,1))]:=by
 unfold stD;rw [map_cons,h,k];rfl
structure MCalD (P:Program) (w:World) (K:W.Frag) (mg:Str->Option Value) (base:Heap) (k:Nat) (m:Str) (Cs:Addr->Prop) (ps:List Str) (dvs:List V) (sp:Sp):Prop where
 ex:∃ (f:Addr) (fd:FuncData) (ds:List Value),FnOk P w K mg base (CX1 P w) k f fd ps sp/\(∀ C,Cs C->Cls K C/\Meth K C m f)/\W.keepIn K (.ref f)=true/\Binds K fd ps ds/\Vals dvs ds
section
variable {k':Nat} {mn:Str} {C:Addr} {Cs:Addr->Prop} {ps:List Str} {sp:Sp} {E:XK} {p:Pos} {es:List Expr} {dvs:List V} {k:Nat} {t:TA}
theorem MCalD.m {pl:Sem Bool} (G:MCalD X.prog X.w X.K X.mg X.base k mn Cs ps dvs sp) (hr:Room k' X.A) (hk:k<=k') (hx:JbG (CX1 X.prog X.w) X E) (ho:PE X o ta) (ha:PA X (e::es) t)
  (hst:starEach (e::es) X.env=(false,eval e X.env)::starEach es X.env:=by rfl) (hpl:(backTo pos (starEach es X.env)).any (·.1)=false:=by rfl)
  (ht:eval (.Call (.Attribute o mn apos) (e::es) [] pos) X.env=(do
   let ov <- eval o X.env
   standAt apos.atName
   let (f,first) <- holding [ov] (getMethod ov mn pl)
   callWith pos f first (backTo pos (starEach (e::es) X.env)) (backToKw pos (keywordEach [] X.env))):=by rfl) :
  PE X (.Call (.Attribute o mn apos) (e::es) [] pos) (Jgl Cs mn (fun vs=>sp (vs++dvs)) E ta t):=by
 obtain ⟨f,M,L,F,c,B,j,v⟩:=G.ex;intro b s σ H Q I h;refine W.methodCall_KW (pl:=pl) (thn (ho b s σ H _ I h) fun u z ζ=>?_) ht;obtain ⟨x,p,I1,n,a,C,D,N,i,y,d,l,q⟩:=ζ;subst i;obtain rfl:u=Value.ref a:=n;refine Jcs I1 y (c C d).1 (c C d).2 l ?_;refine W.callWith_K (first:=[.ref a]) (h₀:=X.base) I.ok.mod.kin B (thn (ha pos b z σ p _ I1 q) fun us O ζ=>?_) hst hpl;obtain ⟨vs,J,I2,r,g⟩:=ζ;refine ⟨I2.kIn,?_⟩;exact Jgi (us:=.ref a::us) (vs:=.ref a::vs) F (hr.mono hk) j v hx I2 (.cons rfl r) (by simpa using g)
end
section
variable {x:Str->Rat} {tb tb0:Tab} {one:Str} {out:List Str} {e:(Int × Int) × List SpS}
theorem TTd.lo {fs:List Str} (h:TTd ts fs tb) (hfb:∀ s∈Ch.all ts,FB 200 9 s.c) (hl:(Ch.all ts).length<=70) (he:lk tb v=some e):Lo e.1:=(h.fb hfb hl he).lo
end
section
variable {ss:List SpS} {S:SumD} {P:LasD} {fs:List Str} {t:BF}
def Clo (P:LasD) (z:Str) (l:List SpS):Prop:=l≠[]/\Lnk P z l/\lnkE z l=z
structure BX (ss:List SpS) (fs:List Str) (S:SumD) (P:LasD):Prop where
 p0:∀ v b,lk S v=some b->lk P v=none->v∈fs
 st:∀ v s,lk P v=some s->s∈ss/\s.tgt=v/\∃ a b,lk S s.src=some a/\lk S v=some b/\a+s.wh<=b
 rg:∀ z l,Clo P z l->wgt l<0
theorem Jgp:wgt (s::l)=s.wh+wgt l:=by simp [wgt]
theorem Lnk.sum {g:Str->Int} (h:∀ v s,lk P v=some s->g s.src+s.wh<=g v):∀ {l:List SpS} {z:Str},Lnk P z l->g z+wgt l<=g (lnkE z l)
 | [],z,_=>by simp [wgt,lnkE]
 | s::r,z,⟨h1,h2,h3⟩=>by
  have:=Lnk.sum h h3;have:=h _ _ h2;rw [h1] at this;rw [Jgp];show _<=g (lnkE s.tgt r);ac_nf
theorem Lnk.sumS {g:Str->Int} {f:Str} (h:∀ v s,lk P v=some s->g s.src+s.wh<=g v) (hf:∀ s,lk P f=some s->g s.src+s.wh<g f):∀ {l:List SpS} {z:Str},Lnk P z l->(∃ s∈l,s.tgt=f)->g z+wgt l<g (lnkE z l)
 | [],z,_,⟨_,h,_⟩=>by cases h
 | s::r,z,⟨h1,h2,h3⟩,⟨s',hs,ht⟩=>by
  have a:=Lnk.sum h h3;rw [Jgp];show _<g (lnkE s.tgt r);by_cases c:s.tgt=f
  ·have:=hf s (by rw [<- c];exact h2);rw [h1, <- c] at this;ac_nf
  ·have hr:∃ x∈r,x.tgt=f:=by
    rcases mem_cons.mp hs with e | e
    ·exact absurd (by rw [<- e];exact ht) c
    ·exact ⟨s',e,ht⟩
   have:=Lnk.sumS h hf h3 hr;have:=h _ _ h2;rw [h1] at this;ac_nf
theorem Lnk.other {P':LasD} {f:Str} (h:∀ v,v≠f->lk P' v=lk P v):∀ {l:List SpS} {z:Str},Lnk P' z l->(∀ s∈l,s.tgt≠f)->Lnk P z l
 | [],_,_,_=>trivial
 | s::r,z,⟨h1,h2,h3⟩,k=>⟨h1,by rw [<- h _ (k s mem_cons_self)];exact h2,Lnk.other h h3 fun x hx=>k x (mem_cons_of_mem _ hx)⟩
theorem BX.put (h:BX ss fs S P) (hs:s∈ss) {c:Int} (hg:gains S s=some c):BX ss fs (pu S s.tgt c) (pu P s.tgt s):=by
 obtain ⟨a,y,K,k⟩:=Jbj hg;have n:∀ v b,lk S v=some b->∃ j,lk (pu S s.tgt c) v=some j/\j<=b:=fun v b p=>by
  by_cases e:s.tgt=v
  ·subst e;exact ⟨c,JaR,Int.le_of_lt (k b p)⟩
  ·exact ⟨b,by rw [lk_ne e];exact p,Int.le_refl _⟩
 refine ⟨fun v b d r=>?_,fun v i d=>?_,fun z l L=>?_⟩
 ·by_cases e:s.tgt=v
  ·subst e;rw [JaR] at r;cases r
  ·rw [lk_ne e] at d r;exact h.p0 v b d r
 ·by_cases e:s.tgt=v
  ·subst e;rw [JaR] at d;cases d;obtain ⟨B,w,I⟩:=n _ _ y;exact ⟨hs,rfl,B,c,w,JaR,by ac_nf⟩
  ·rw [lk_ne e] at d;obtain ⟨m,H,B,j,u,t,C⟩:=h.st v i d;obtain ⟨A,w,I⟩:=n _ _ u;exact ⟨m,H,A,j,w,by rw [lk_ne e];exact t,by ac_nf⟩
 ·obtain ⟨J,E,D⟩:=L;by_cases q:∃ x∈l,x.tgt=s.tgt
  ·let g:Str->Int:=fun v=>match lk S v with | some b=>b | none=>if v=s.tgt then a+s.wh+1 else 0
   have o:∀ v b,lk S v=some b->g v=b:=fun v b p=>by show (match lk S v with | some b=>b | none=>_)=b;rw [p]
   have F:a+s.wh<g s.tgt:=by
    cases e:lk S s.tgt with
    | none=>show _<(match lk S s.tgt with | some b=>b | none=>if s.tgt=s.tgt then a+s.wh+1 else 0);rw [e,if_pos rfl];show a+s.wh<a+s.wh+1;ac_nf
    | some b=>rw [o _ _ e, <- K];exact k b e
   have key:∀ v i,lk (pu P s.tgt s) v=some i->g i.src+i.wh<=g v:=fun v i d=>by
    by_cases e:s.tgt=v
    ·subst e;rw [JaR] at d;cases d;rw [o _ _ y];ac_nf
    ·rw [lk_ne e] at d;obtain ⟨_,_,B,j,u,t,C⟩:=h.st v i d;rw [o _ _ u,o _ _ t];exact C
   have:=Lnk.sumS (g:=g) (f:=s.tgt) key (fun i d=>by
    rw [JaR] at d;cases d;rw [o _ _ y];exact F) E q
   rw [D] at this;ac_nf
  ·exact h.rg z l ⟨J,Lnk.other (f:=s.tgt) (fun v d=>lk_ne (Ne.symm d)) E fun x G e=>q ⟨x,G,e⟩,D⟩
theorem BX.fold:∀ (l:List SpS) (t:BF),BX ss fs t.S t.P->(∀ s∈l,s∈ss)->BX ss fs (l.foldl rlx t).S (l.foldl rlx t).P
 | [],_,h,_=>h
 | s::l,t,h,hs=>by
  rw [foldl_cons];refine BX.fold l _ ?_ fun x hx=>hs x (by simp [hx]);unfold rlx;cases e:gains t.S s with
  | none=>exact h
  | some c=>exact h.put (hs s (by simp)) e
theorem BX.itr:∀ n,BX ss fs (L2.itr ss n (bf0 fs)).S (L2.itr ss n (bf0 fs)).P
 | 0=>⟨fun v b h _=>(JeJ.mp h).1,(fun v s h=>by cases h),fun z l h=>by
   obtain ⟨h0,h1,_⟩:=h;cases l with
   | nil=>exact absurd rfl h0
   | cons s r=>cases h1.2.1⟩
 | n+1=>BX.fold ss _ (BX.itr n) fun _ h=>h
structure Cg (ss:List SpS) (i:Nat) (t:BF) (c:Str->Nat):Prop where
 le:∀ v,c v<=i
 has:∀ v,1<=c v->∃ s,lk t.P v=some s
 bk:∀ v s,lk t.P v=some s->c v<=c s.src+1
 ch:∀ f,t.ch=some f->c f=i
 ga:∀ s∈ss,gains t.S s=none\/i<=c s.src+1
theorem Jf7 {s':SpS} {f:Str} {c:Int} (hlt:∀ b,lk S f=some b->c<b) (hg:gains S s'=none) (hn:s'.src≠f):gains (pu S f c) s'=none:=by
 cases e:gains (pu S f c) s' with
 | none=>rfl
 | some d=>
  obtain ⟨a,h,m,g⟩:=Jbj e;rw [lk_ne (Ne.symm hn)] at h;obtain ⟨b,i,j⟩:=JbV hg a h;by_cases q:f=s'.tgt
  ·subst q;have k:=g c JaR;have l:=hlt b i;ac_nf
  ·have:=g b (by rw [lk_ne q];exact i);ac_nf
theorem Cg.turn:∀ (l:List SpS) (t:BF) (c:Str->Nat) {i:Nat} (d:List SpS),Cg ss i t c->(∀ s∈l,s∈ss)->(∀ s∈d,gains t.S s=none\/i<=c s.src)->∃ c',Cg ss i (l.foldl rlx t) c'/\∀ s∈d++l,gains (l.foldl rlx t).S s=none\/i<=c' s.src
 | [],t,c,i,d,h,_,hd=>⟨c,h,by simpa using hd⟩
 | s::l,t,c,i,d,h,hs,hd=>by
  rw [foldl_cons];have hm:=hs s (by simp);have step:∃ c',Cg ss i (rlx t s) c'/\∀ x∈d++[s],gains (rlx t s).S x=none\/i<=c' x.src:=by
   unfold rlx;cases e:gains t.S s with
   | none=>
    refine ⟨c,h,fun x hx=>?_⟩;rcases mem_append.mp hx with hx | hx
    ·exact hd x hx
    ·rw [mem_singleton.mp hx];exact .inl e
   | some a=>
    obtain ⟨a0,ha,hc,hlt⟩:=Jbj e;have hi:i<=c s.src+1:=(h.ga s hm).resolve_left (by rw [e];simp);refine ⟨fun v=>if v=s.tgt then i else c v,⟨fun v=>?_,fun v hv=>?_,fun v s' hv=>?_,fun f hf=>?_,fun x hx=>?_⟩,fun x hx=>?_⟩
    ·try dsimp only
     split
     ·exact Nat.le_refl _
     ·exact h.le v
    ·by_cases q:s.tgt=v
     ·subst q;exact ⟨s,JaR⟩
     ·try dsimp only at hv
      rw [if_neg (Ne.symm q)] at hv;obtain ⟨s',z⟩:=h.has v hv;exact ⟨s',by show lk (pu t.P s.tgt s) v=_;rw [lk_ne q];exact z⟩
    ·have up:∀ v,c v<=(if v=s.tgt then i else c v):=fun v=>by split;exact h.le v;exact Nat.le_refl _
     by_cases q:s.tgt=v
     ·subst q;have hv:lk (pu t.P s.tgt s) s.tgt=some s':=hv;rw [JaR] at hv;cases hv;try dsimp only
      rw [if_pos rfl];have:=up s.src;ac_nf
     ·have hv:lk (pu t.P s.tgt s) v=some s':=hv;rw [lk_ne q] at hv;try dsimp only
      rw [if_neg (Ne.symm q)];have:=h.bk v s' hv;have:=up s'.src;ac_nf
    ·cases hf;exact if_pos rfl
    ·by_cases q:x.src=s.tgt
     ·right
      try dsimp only
      rw [if_pos q];ac_nf
     ·try dsimp only
      rw [if_neg q];exact (h.ga x hx).imp (fun z=>Jf7 hlt z q) id
    ·by_cases q:x.src=s.tgt
     ·right
      try dsimp only
      rw [if_pos q];exact Nat.le_refl _
     ·try dsimp only
      rw [if_neg q];rcases mem_append.mp hx with hx | hx
      ·exact (hd x hx).imp (fun z=>Jf7 hlt z q) id
      ·rw [mem_singleton.mp hx] at q ⊢;left
       cases e':gains (pu t.S s.tgt a) s with
       | none=>rfl
       | some d'=>
        obtain ⟨a',h1,h2,h3⟩:=Jbj e';rw [lk_ne (Ne.symm q),ha] at h1;cases h1;have:=h3 a JaR;ac_nf
  obtain ⟨c1,h1,h2⟩:=step;obtain ⟨c2,h3,h4⟩:=Cg.turn l (rlx t s) c1 (d++[s]) h1 (fun x hx=>hs x (by simp [hx])) h2;exact ⟨c2,h3,by simpa using h4⟩
theorem Cg.itr:∀ n, ∃ c,Cg ss n (L2.itr ss n (bf0 fs)) c/\∀ s∈ss,gains (L2.itr ss n (bf0 fs)).S s=none\/n<=c s.src
 | 0=>⟨fun _=>0,⟨fun _=>Nat.le_refl _,fun _ h=>absurd h ⋯,fun v s h=>(by cases h),fun f h=>(by cases h),fun s _=>.inr (Nat.zero_le _)⟩,fun s _=>.inr (Nat.zero_le _)⟩
 | n+1=>by
  obtain ⟨c,h,h2⟩:=Cg.itr n;have h':Cg ss (n+1) { L2.itr ss n (bf0 fs) with ch:=none } c:=⟨fun v=>Nat.le_succ_of_le (h.le v),h.has,h.bk,(fun f hf=>by cases hf),fun s hs=>(h2 s hs).imp id fun z=>Nat.succ_le_succ z⟩;obtain ⟨c',h3,h4⟩:=Cg.turn ss _ c [] h' (fun _ z=>z) (fun s hs=>by cases hs);exact ⟨c',h3,fun s hs=>h4 s (by simpa using hs)⟩
theorem itr_z {f:Str} (hf:f∈fs):∃ b,lk (L2.itr ss n (bf0 fs)).S f=some b:=by
 obtain ⟨b,h,_⟩:=JiK (ss:=ss) hf n [] f .nil (Nat.zero_le _);exact ⟨b,h⟩
theorem Jif (hsrc:∀ s∈ss,s.src∈fs) (h:(L2.itr ss (n+1) (bf0 fs)).ch=none):∃ π,Pot π ss:=by
 obtain ⟨i,f⟩:=JfA ss { L2.itr ss n (bf0 fs) with ch:=none } h;refine ⟨fun v=>(lk (L2.itr ss n (bf0 fs)).S v).getD 0,fun s d=>?_⟩;obtain ⟨a,e⟩:=itr_z (ss:=ss) (n:=n) (hsrc s d);obtain ⟨b,g,c⟩:=JbV (f s d) a e;show (lk _ s.tgt).getD 0<=(lk _ s.src).getD 0+s.wh;rw [e,g];exact c
theorem Lnk.app:∀ {a b:List SpS} {z:Str},Lnk P z (a++b)↔Lnk P z a/\Lnk P (lnkE z a) b
 | [],b,z=>by simp [Lnk,lnkE]
 | s::r,b,z=>by
  show (s.src=z/\lk P s.tgt=some s/\Lnk P s.tgt (r++b))↔(s.src=z/\lk P s.tgt=some s/\Lnk P s.tgt r)/\Lnk P (lnkE s.tgt r) b;rw [Lnk.app];constructor
  ·exact fun ⟨h1,h2,h3,h4⟩=>⟨⟨h1,h2,h3⟩,h4⟩
  ·exact fun ⟨⟨h1,h2,h3⟩,h4⟩=>⟨h1,h2,h3,h4⟩
theorem Jdf:∀ {a b:List SpS} {z:Str},lnkE z (a++b)=lnkE (lnkE z a) b
 | [],_,_=>rfl
 | s::r,b,z=>Jdf (a:=r) (z:=s.tgt)
theorem Jgc:∀ {l:List SpS} {z:Str},l≠[]->lnkE z l∈l.map (·.tgt)
 | [],_,h=>absurd rfl h
 | [s],z,_=>by simp [lnkE]
 | s::x::r,z,_=>by
  have:=Jgc (l:=x::r) (z:=s.tgt) (by simp);exact mem_cons_of_mem _ this
theorem Lnk.lk_of:∀ {l:List SpS} {z:Str},Lnk P z l->∀ s∈l,lk P s.tgt=some s
 | [],_,_,_,h=>by cases h
 | x::r,z,⟨_,h2,h3⟩,s,h=>by
  rcases mem_cons.mp h with e | e
  ·rw [e];exact h2
  ·exact Lnk.lk_of h3 s e
theorem Lnk.srcs:∀ {l:List SpS} {z:Str},Lnk P z l->l.map (·.src)++[lnkE z l]=z::l.map (·.tgt)
 | [],_,_=>rfl
 | x::r,z,⟨h1,_,h3⟩=>by
  have:=Lnk.srcs h3;show x.src::(r.map (·.src)++[lnkE x.tgt r])=_;rw [this,h1];rfl
def RG (P:LasD) (f:Str) (R:List SpS):Prop:=∃ z l2,Clo P z R/\Lnk P z (R++l2)/\lnkE z (R++l2)=f/\((R++l2).map (·.tgt)).Nodup
variable {q:Str}
theorem RG.of {f:Str} {M:List SpS} (h:Lnk P q M) (he:lnkE q M=f) (hn:(M.map (·.tgt)).Nodup) (hq:q∈M.map (·.tgt)):∃ R l2,M=R++l2/\Clo P q R/\RG P f R:=by
 obtain ⟨s,b,rfl⟩:=mem_map.mp hq;obtain ⟨a,l2,rfl⟩:=List.append_of_mem b;have e:a++s::l2=(a++[s])++l2:=by simp
 rw [e] at h he hn ⊢;have c:Clo P s.tgt (a++[s]):=⟨by simp,(Lnk.app.mp h).1,by rw [Jdf];rfl⟩;exact ⟨_,l2,rfl,c,s.tgt,l2,c,h,he,hn⟩
theorem Cg.next {c:Str->Nat} {ms:List SpS} (h:Cg ss (ss.length+1) t c) (hn:(ms.map (·.tgt)).Nodup) (hs:∀ x∈ms,x∈ss) (hN:ss.length+1<=c q+ms.length):∃ s,lk t.P q=some s/\ss.length+1<=c s.src+(ms++[s]).length:=by
 have:=sub_len (ms.map (·.tgt)) (ss.map (·.tgt)) hn fun x a=>by
  obtain ⟨y,b,rfl⟩:=mem_map.mp a;exact mem_map.mpr ⟨y,hs y b,rfl⟩
 rw [length_map,length_map] at this;obtain ⟨s,e⟩:=h.has q ∅;have:=h.bk q s e;exact ⟨s,e,by rw [length_append];simp;ac_nf⟩
structure Rng (ss R:List SpS):Prop where
 ne:R≠[]
 mem:∀ s∈R,s∈ss
 neg:wgt R<0
 nd:(R.map (·.src)).Nodup
 adj:∃ z,R.map (·.src)++[z]=z::R.map (·.tgt)
variable {R:List SpS}
theorem RG.rng {f:Str} (b:BX ss fs S P) (h:RG P f R):Rng ss R:=by
 obtain ⟨z,j,c,i,g,a⟩:=h;have e:=c.2.1.srcs;rw [c.2.2] at e;refine ⟨c.1,fun s d=>(b.st _ _ (c.2.1.lk_of s d)).1,b.rg z R c,?_,z,e⟩;have p:(z::R.map (·.src)).Perm (z::R.map (·.tgt)):=by
  rw [<- e];exact (List.perm_append_singleton z _).symm
 refine (p.cons_inv).nodup_iff.mpr ?_;rw [map_append] at a;exact (nodup_append.mp a).1
end
theorem iteOr {c1 c2:Prop} [Decidable c1] [Decidable c2] {X Y:Prop} (h:c1\/c2) (x:X):if c1 then X else if c2 then X else Y:=by
 by_cases a:c1
 ·rw [if_pos a];exact x
 ·rw [if_neg a,if_pos (h.resolve_left a)];exact x
theorem All2.rev {P : α->V->Prop}:∀ {xs:List α} {ys:List V},All2 P xs ys->All2 P xs.reverse ys.reverse
 | [],ys,h=>by
  have h:ys=[]:=h;rw [h];exact rfl
 | x::xs,ys,h=>by
  obtain ⟨y,r,rfl,h1,h2⟩:=h;rw [reverse_cons,reverse_cons];exact (All2.rev h2).append (.one h1)
def RgD (ss:List SpS) (fs:List Str) (R:List SpS):Prop:=∃ f,(itr ss (ss.length+1) (bf0 fs)).ch=some f/\RG (itr ss (ss.length+1) (bf0 fs)).P f R
theorem RgD.rng {ss:List SpS} {fs:List Str} {R:List SpS} (h:RgD ss fs R):Rng ss R:=by
 obtain ⟨f,_,a⟩:=h;exact a.rng (BX.itr (ss.length+1))
structure BkH (ts:List TD) (F:List Str):Prop where
 l35:ts.length<=35
 ok:∀ t∈ts,TOk t
 fb:∀ s∈Ch.all ts,FB 200 9 s.c
 f8:F.length<=14
 fm:∀ t∈ts,t.st∈F/\t.en∈F
theorem BkH.l70 (h:BkH ts F):(Ch.all ts).length<=70:=by
 have:=JgM (ts:=ts) ts.length;rw [take_of_length_le (Nat.le_refl _)] at this;have:=h.l35;ac_nf
theorem JjN {fs:List Str} (h:∀ s∈Ch.all ts,s.src∈fs):∀ s∈ssD ts,s.src∈fs:=fun s b=>by
 obtain ⟨y,a,rfl⟩:=mem_map.mp b;exact h y a
def plD (tb:Tab) (v:Str):Int × Int:=((lk tb v).getD ((0,1),[])).1
variable {tb:Tab}
theorem Jkt {e:(Int × Int) × List SpS} (h:lk tb v=some e):plD tb v=e.1:=by
 unfold plD;rw [h];rfl
theorem JeD:Slot "list_reverseiterator" "__length_hint__" "list_reverseiterator.__length_hint__" :=
 .of (owner:="list_reverseiterator") (n:="__length_hint__") (by rw [typeLookup_type,builtinLookup_eq_fast];kernel_rfl) (by decide +kernel) (by decide +kernel) (by decide +kernel)
  (by first | exact .inl (by decide +kernel) | exact .inr (by decide +kernel)) (by rw [isSubtype_type];kernel_rfl)
theorem Jhi:typeLookup (.type "list_reverseiterator") "__len__"=pure none:=by rw [typeLookup_type,builtinLookup_eq_fast];kernel_rfl
variable {s:Shared} {I l:Addr}
theorem Jhz {R:Result->Shared->Prop} (hh:A.handled=none) (hit:s.heap.IsRevIter I l ((its.size:Int)-1)) (hl:s.heap.IsList l its) (hlI:l≠I) (hn:its.size<=sizeLine) (S:Addr) (hSI:S≠I) (hSl:S≠l) (res:Value) (c₀ : Nat) (hS:s.heap.get? S=some { cls:=.type "list",data:=.seq #[] c₀ })
  (hR:∀ h' tk acc' c',(∀ b o,b≠S->b≠I->s.heap.get? b=some o->h'.get? b=some o)->h'.get? S=some { cls:=.type "list",dict:=none,data:=.seq acc' c',slots:=#[] }->ItemsOf (fun i v=>its[its.size-1-i]?=some v) acc' its.size->R (.ok (.ret res)) { s with heap:=h',toks:=tk }) :
  wpAny (model prog w) A.in1 (Builtin.List.listExtendWith (.ref S) (.ref I) res)
   (fun fin s'=>match fin with | .done f=>R (.ok f) s' | .again c'=>c'.quiet=true/\codeAny (model prog w) A c' R s') (fun e s'=>R (.error e) s') s:=by
 have j:s.TypeIs (.ref I) "list_reverseiterator":=hit.typeIs;have t:Builtin.List.listSameRef (.ref S) (.ref I)=false:=by simp [Builtin.List.listSameRef,hSI]
 have W:=(Walks.listRev (prog:=prog) (w:=w) (A:=A.in1) hh I l hlI its);have n:S∉[I,l]:=by simp [hSI,hSl]
 unfold Builtin.List.listExtendWith;refine wpAny_bind (wpAny_typeOf j ?_);rw [if_neg (by rw [t];decide)];have p:0<=its.size/\s.heap.IsRevIter I l ((its.size:Int)-1-((0:Nat):Int))/\s.heap.IsList l its:=⟨Nat.zero_le _,by simpa using hit,hl⟩;refine wpAny_bind (W.self 0 _ _ _ p ?_);refine wpAny_bind (wpAny_holding ?_);unfold Builtin.List.listLengthHint;refine wpAny_bind (wpAny_specialOf j Jhi ?_);show wpAny _ A.in1 (specialOf (Value.ref I) (Str.ofString "__length_hint__") >>= _) _ _ _;refine wpAny_bind (wpAny_specialOf j JeD.lookup ?_)
 (generalize d:("list_reverseiterator.__length_hint__" : String)=g;(fail_if_success (clear d g));wp_delta;rw [show splitId g=some ("list_reverseiterator","__length_hint__") from by subst d;decide +kernel];subst d)
 refine wpAny_bind (wpAny_isInstance (b:=true) j (by rw [isSubtype_type];kernel_rfl) ?_);show wpAny _ A.in1 (pure false) _ _ _;refine wpAny_pure ?_;rw [if_neg ⋯];refine wpAny_pure ⟨plainId_quiet PySem.F.plain_extend_loop _,codeAny_extend_loopS W.toS hn _ n _ its.size 0 _ _ _ rfl (Nat.zero_le _) p hS (ItemsOf.nil _) fun s' acc' c' q m h=>?_⟩;rw [Moved.eq_with q];refine hR s'.heap s'.toks acc' c' (fun b o r k e=>q.heap b o (fun a=>?_) e) m h;rcases mem_cons.mp a with e' | a
 ·exact r e'
 ·exact k (mem_singleton.mp a)
theorem JjJ {Q:Value->Shared->Prop} (hh:A.handled=none) (hit:s.heap.IsRevIter I l ((its.size:Int)-1)) (hl:s.heap.IsList l its) (hlI:l≠I) (hn:its.size<=sizeLine)
  (hQ:∀ h' tk acc' c',(∀ b o,b≠I->s.heap.get? b=some o->h'.get? b=some o)->h'.get? s.heap.objs.size=some { cls:=.type "list",dict:=none,data:=.seq acc' c',slots:=#[] }->ItemsOf (fun i v=>its[its.size-1-i]?=some v) acc' its.size->Q (.ref s.heap.objs.size) { s with heap:=h',toks:=tk }) :
  wpAny (model prog w) A (call (.type "list") [.ref I]) Q E s:=by
 refine callType_codes (Q₁:=fun g s₁=>g=.ref s.heap.objs.size/\s₁={ s with heap:=s.heap.push { cls:=.type "list",data:=.seq #[] } }) PySem.F.called_list (PySem.F.typeCall_list_1 _) PySem.F.entry_list_init
  (code_list_new _ ⟨rfl,rfl⟩) fun g s₁ h₁=>?_
 obtain ⟨rfl,rfl⟩:=h₁;have a:(s.heap.push { cls:=.type "list",data:=.seq #[] }).get? s.heap.objs.size=some { cls:=.type "list",data:=.seq #[] }:=Heap.get?_push_size _ rfl;obtain ⟨u,n,_⟩:=id hit;obtain ⟨t,p,_⟩:=id hl;have d:s.heap.objs.size≠I:=Nat.ne_of_gt (Heap.lt_size n);have c:s.heap.objs.size≠l:=Nat.ne_of_gt (Heap.lt_size p);refine ⟨⟨_,a,rfl⟩,PySem.F.args_list_init_2 _ _,?_⟩;show wpAny _ _ (do let k <- Builtin.List.listItems (.ref s.heap.objs.size);Builtin.List.listUpdate (.ref s.heap.objs.size) (fun _=>#[]);letGo k.toList.reverse;Builtin.List.listExtendWith (.ref s.heap.objs.size) (.ref I) .none) _ _ _;refine wpAny_bind ?_;unfold Builtin.List.listItems;refine wpAny_bind (wpAny_seqItems a rfl (wpAny_pure ?_));show wpAny _ _ (updateSeq s.heap.objs.size (fun _=>#[]) >>= fun _=>letGo (#[]:Array Value).toList.reverse >>= fun _=>Builtin.List.listExtendWith (.ref s.heap.objs.size) (.ref I) .none) _ _ _;refine wpAny_bind (wpAny_updateSeq a rfl ?_);have a₂:=Heap.get?_update_self (Obj.mapSeq (fun _=>(#[]:Array Value))) a rfl;refine wpAny_bind (wpAny_letGo ?_);refine Jhz (A:=A.in1) hh (hit.at fun o e=>(Heap.get?_update_other _ _ d).trans (Heap.get?_push_of_some _ e)) (hl.at fun o e=>(Heap.get?_update_other _ _ c).trans (Heap.get?_push_of_some _ e)) hlI hn s.heap.objs.size d c .none _ a₂ fun h' tk acc' c' r m j=>?_;refine ⟨rfl,hQ h' tk acc' c' (fun b o q e=>?_) m j⟩;have f:b≠s.heap.objs.size:=Nat.ne_of_lt (Heap.lt_size e);exact r b o f q ((Heap.get?_update_other _ _ (Ne.symm f)).trans (Heap.get?_push_of_some _ e))
def tRevL (K:W.Frag) (te:TE):TE:=fun σ H Q=>te σ H fun v H1=>∃ a xs,v=.ref a/\SqL K H1 a xs/\∀ l,H1 l=none->Q (.ref l) (upd H1 l (.lst xs.reverse))
theorem Jir {us:List Value} {acc:Array Value} (r:Vals xs us) (h:ItemsOf (fun i v=>us.toArray[us.toArray.size-1-i]?=some v) acc us.toArray.size):Vals xs.reverse acc.toList:=by
 have e:acc.toList=us.reverse:=by
  refine List.ext_getElem? fun i=>?_;have a:acc.toList.length=us.length:=by rw [Array.length_toList,h.1];simp
  by_cases c:i<us.length
  ·have:=h.2 i (acc.toList[i]'∅) (by rw [<- Array.getElem?_toList];exact List.getElem?_eq_getElem ∅);rw [List.getElem?_eq_getElem ∅, <- this,List.getElem?_reverse c];simp
  ·rw [List.getElem?_eq_none ∅,List.getElem?_eq_none (by rw [length_reverse];ac_nf)]
 rw [e];have key:∀ (xs:List V) (us:List Value),Vals xs us->Vals xs.reverse us.reverse:=by
  intro xs us h;induction h with
  | nil=>exact .nil
  | cons h _ ih=>
   rw [reverse_cons,reverse_cons];exact ih.append (.cons h .nil)
 exact key _ _ r
theorem JjA {t:TE} (hc:X.calm=true) (hx:x="list") (hy:y="reversed")
  (hg:Gl X x) (hm:X.mg x=none) (hv:bootBuiltins x=some (.type "list")) (hg2:Gl X y) (hm2:X.mg y=none) (hv2:bootBuiltins y=some (.type "reversed")) (ha:PE X e t)
  (he:starEach [e] X.env=(false,eval e X.env)::starEach [] X.env:=by rfl) :
  PE X (.Call (.Name x p1) [.Call (.Name y p2) [e] [] pos2] [] pos) (tRevL X.K t):=by
 intro l s σ H Q I h;have F:x≠"__name__":=by rw [hx];decide
 have S:y≠"__name__":=by rw [hy];decide
 have N:(x == ("__debug__" : Str))=false:=by rw [hx];decide
 have G:(y == ("__debug__" : Str))=false:=by rw [hy];decide
 refine wpAny_Call_Name_kw (Jc1 I hg hm hv ?_ F N);refine PyProof.Rows.callWith_type1 ?_ rfl rfl;show wpAny _ _ (spliced ((false,eval (.Call (.Name y p2) [e] [] pos2) X.env)::backTo pos (starEach [] X.env))) _ _ s;refine Calls.spliced_cons ?_;refine wpAny_Call_Name_kw (Jc1 I hg2 hm2 hv2 ?_ S G);refine PyProof.Rows.callWith_type1 ?_ he rfl;rw [he];show wpAny _ _ (spliced ((false,eval e X.env)::backTo pos2 (starEach [] X.env))) _ _ s;refine Calls.spliced_cons (thn (ha l s σ H _ I h) fun u d ζ=>?_);obtain ⟨v,W,I1,J,a,A,M,U,q⟩:=ζ;refine Calls.spliced_nil ?_;subst M;obtain rfl:u=Value.ref a:=J;obtain ⟨m,B,p,L⟩:=I1.list U;have c:=p.isList;refine call_reversed_list c (Calls.spliced_nil ?_);generalize f:d.heap.push _=g;have Y:g.objs.size=d.heap.objs.size+1:=by rw [<- f];exact Heap.size_push ..
 have C:∀ b o,d.heap.get? b=some o->g.get? b=some o:=fun b o z=>by rw [<- f];exact Heap.get?_push_of_some _ z
 have n:g.IsRevIter d.heap.objs.size a ((m.toArray.size:Int)-1):=⟨_,by rw [<- f];exact Heap.get?_push_size _ rfl,rfl,rfl⟩;obtain ⟨V,r,_⟩:=id c;have Z:=B.length;refine JjJ (s:={ d with heap:=g }) (I.ok.hd hc) n (c.at fun o e=>C _ _ e) (Nat.ne_of_lt (Heap.lt_size r)) (by simp;ac_nf) fun D T i O k R j=>?_;have P:∀ b o,d.heap.get? b=some o->D.get? b=some o:=fun b o z=>k b o (Nat.ne_of_lt (Heap.lt_size z)) (C b o z);have E:d.heap.objs.size<=g.objs.size:=by ac_nf
 exact ⟨.ref _,_,I1.laid (t':=T) (o:=.lst A.reverse) P E (show ObjOk X.prog X.w _ D _ (.lst A.reverse) from ⟨by rw [length_reverse];exact L,i.toList,O,Jir B j,by rw [Array.toArray_toList];exact R⟩),rfl,q _ (I1.hok.fresh E)⟩
theorem y89y {K:W.Frag}:tRevL K te σ H Q=te σ H fun v H1=>∃ a xs,v=.ref a/\SqL K H1 a xs/\∀ l,H1 l=none->Q (.ref l) (upd H1 l (.lst xs.reverse)):=rfl
noncomputable def dD (ts:List TD) (f v:Str):Option (Int × Int):=open Classical in if h:∃ tb e,TTd ts [f] tb/\lk tb v=some e then some h.choose_spec.choose.1 else none
theorem dD_eq {f:Str} (h:TTd ts [f] tb):dD ts f v=(lk tb v).map (·.1):=by
 unfold dD;split
 ·rename_i c;obtain ⟨a,b⟩:=c.choose_spec.choose_spec;have e:=h.uniq (v:=v) a;rw [b] at e;rw [e];rfl
 ·rename_i c;cases e:lk tb v with
  | none=>rfl
  | some q=>exact absurd ⟨tb,q,h,e⟩ c
noncomputable def nwT (ts:List TD) (t:TD):TD:=⟨t.nm,t.st,t.en,(dD ts t.en t.st).map (subF (0,1)),dD ts t.st t.en⟩
noncomputable def nwD (ts:List TD):List TD:=ts.map (nwT ts)
def tTryS (K:W.Frag) (D:Addr) (k:Nat) (t:TX) (ts:TS):TS:=fun Dn σ H=>t σ H (fun v H1=>Dn.nx (σ.set k (some v)) H1) fun cls od H1=>∃ C,cls=.ref C/\Jbm K C D/\∀ ea,H1 ea=none->ts Dn σ (upd H1 ea (ExcO ea C od))
variable {ts:TS} {En:Ends}
theorem y95y {K:W.Frag} {D:Addr} {t:St->Hp->VK->XK->Prop}:tTry K D t ts En σ H=t σ H (fun _ H1=>En.nx σ H1) fun cls od H1=>∃ C,cls=.ref C/\Jbm K C D/\∀ ea,H1 ea=none->ts En σ (upd H1 ea (ExcO ea C od)):=rfl
theorem y99y {K:W.Frag} {D:Addr} {k:Nat} {t:TX}:tTryS K D k t ts En σ H=t σ H (fun v H1=>En.nx (σ.set k (some v)) H1) fun cls od H1=>∃ C,cls=.ref C/\Jbm K C D/\∀ ea,H1 ea=none->ts En σ (upd H1 ea (ExcO ea C od)):=rfl
variable {ts:List TD}
theorem Jgj {y:SD} (h:y∈Ch.all ts):∃ (j:Nat) (t:TD),ts[j]?=some t/\y.nm=t.nm/\((y.fw=true/\t.hi=some y.c/\y.src=t.st/\y.dst=t.en)\/(y.fw=false/\∃ l,t.lo=some l/\y.c=negF l/\y.src=t.en/\y.dst=t.st)):=by
 obtain ⟨t,b,a⟩:=List.mem_flatMap.mp (show y∈ts.flatMap Ch.steps from h);obtain ⟨j,d⟩:=List.getElem?_of_mem b;refine ⟨j,t,d,?_⟩;unfold Ch.steps fwd bwd at a;rcases mem_append.mp a with a | a
 ·cases e:t.hi with
  | none=>rw [e] at a;cases a
  | some u=>rw [e] at a;rw [mem_singleton.mp a];exact ⟨rfl, .inl ⟨rfl,rfl,rfl,rfl⟩⟩
 ·cases e:t.lo with
  | none=>rw [e] at a;cases a
  | some u=>rw [e] at a;rw [mem_singleton.mp a];exact ⟨rfl, .inr ⟨rfl,u,rfl,rfl,rfl,rfl⟩⟩
theorem bF_ok:∀ (m:Nat) (ns:List (Int × Int)),ns.length=m->(∀ n∈ns,1<=n.2)->1<=bF ns/\∀ n∈ns,n.2∣bF ns
 | 0,ns,hl,_=>by
  rw [List.eq_nil_of_length_eq_zero hl];exact ⟨by decide,fun n hn=>by cases hn⟩
 | m+1,ns,hl,h=>by
  rcases List.eq_nil_or_concat ns with e | ⟨r,n,e⟩
  ·rw [e] at hl;cases hl
  ·rw [List.concat_eq_append] at e;subst e;obtain ⟨h1,h2⟩:=bF_ok m r (by simpa using hl) fun x hx=>h x (List.mem_append_left _ hx);have hn:=h n (by simp);have gp:0<Mth.g (bF r) n.2:=Mth.g_pos ∅;have gd:=Jg2 (b:=bF r) hn;rw [JgO];have hq:1<=n.2.fdiv (Mth.g (bF r) n.2):=by
    rw [Int.fdiv_eq_ediv_of_nonneg _ ∅];have:=Mth.g_le (a:=bF r) (b:=n.2) ∅;exact (Int.le_ediv_iff_mul_le gp).mpr ∅
   refine ⟨Int.le_trans h1 (by
    have:=Int.mul_le_mul_of_nonneg_left hq (show 0<=bF r by ac_nf);rw [Int.mul_one] at this;exact this),fun x hx=>?_⟩
   rcases mem_append.mp hx with hx | hx
   ·exact Int.dvd_trans (h2 x hx) (Int.dvd_mul_right ..)
   ·rw [mem_singleton.mp hx];exact gd
theorem bDok (hg:BkH ts F):1<=bD_ ts/\∀ s∈Ch.all ts,1<=s.c.2/\s.c.2∣bD_ ts:=by
 obtain ⟨d,b⟩:=bF_ok _ ((Ch.all ts).map (·.c)) rfl fun n e=>by
  obtain ⟨s,a,rfl⟩:=mem_map.mp e;exact (hg.fb s a).b1
 exact ⟨d,fun s a=>⟨(hg.fb s a).b1,b _ (mem_map.mpr ⟨s,a,rfl⟩)⟩⟩
section
variable {tt:TT} {ta:TA} {k:Nat} {cs:List (Nat × Str)} {g:TG}
theorem y39y:Jgk k cs (iRng1 ta) g tt te σ H Q=ta σ H fun vs H1=>∃ j:Int,vs=[.int j]/\-(2 ^ 62)<=j/\j<2 ^ 62/\JeI (Itr 0 j.toNat) k cs g tt te σ Q H1:=rfl
end
theorem Jcu {iter elt:Expr} {scope:Scope} {own:List Str} {cs:List (Nat × Str)} {wi:TI} {g:TG} (hc:X.calm=true) (hi:PI X tg iter wi)
  (hg:∀ fp s2 H2 C,PG (X.inc (own++cs.map (·.2)) scope (Jb5 X.env.cells scope.names []) fp s2 H2 C) tg g) (he:∀ fp s2 H2 C,PE (X.inc (own++cs.map (·.2)) scope (Jb5 X.env.cells scope.names []) fp s2 H2 C) elt te)
  (hfree:∀ p∈scope.names,p.2=.free->X.env.scope.names.lookup p.1=some .cell) (hcell:∀ y∈scope.names,y.2≠.cell) (hkind:scope.kind=.function) (hnames:∀ y∈scope.names,y.2=.local->scope.names.lookup y.1=some .local)
  (hcs:∀ p∈cs,X.N[p.1]?=some p.2/\X.env.scope.names.lookup p.2=some .cell/\(relabel scope X.env).names.lookup p.2=some .cell)
  (hs:∀ x,foldedSetIterable iter X.env x=pure x:=by intro _;rfl):PE X (.ListComp elt [⟨tg,iter,[],0⟩] scope pos) (tComp own.length cs wi g te):=by
 intro a s σ H Q I h;have d:∀ p∈scope.names,p.2=.free->∃ c,X.env.cells.lookup p.1=some c:=fun p B L=>I.ok.has p.1 (.inl (hfree p B L));have k:=JdY (cells:=X.env.cells) scope.names [] (fun _ _ z=>by simp at z) d;rw [eval_ListComp];refine wpAny_comprehension_free (use:=none) rfl hs (Ji8 d) hkind hnames (thn (hi a s σ H _ I h) fun v U t=>thn t fun M s2 r=>?_);obtain ⟨P,fp,V,J,H2,rfl,I2,T,l,K,W,⟨R,G⟩,b⟩:=r;refine Jgs (QN:=fun n f=>∀ p,f p=none->Q (.ref p) (upd f p (.lst n))) (RR:=fun j C=>compPost (model X.prog X.w) X.A X.xe none (EP X a σ Q) j C) hc hg he hcell hkind k (fun z u=>JdX scope.names [] z (.inr (Jjf hcell u))) hcs I2 T l K G b ?_;intro D' C Z f n m o O S E Y q;obtain ⟨D,e⟩:=E;exact ⟨D,e,fun F i=>⟨.ref D',_,m F i,rfl,q D' o⟩⟩
def nxI (n k:Nat):Nat:=if k=n then 0 else k+1
def srI (n:Nat) (q:Nat × Bool):Nat:=if q.2=true then q.1 else nxI n q.1
def tgI (n:Nat) (q:Nat × Bool):Nat:=if q.2=true then nxI n q.1 else q.1
def sgI (q:Nat × Bool):Int:=if q.2=true then 1 else -1
def hasI (k:Nat) (b:Bool) (q:Nat × Bool):Int:=if q=(k,b) then 1 else 0
variable {L:List (Nat × Bool)} {z:Nat}
theorem JhG (h:L.map (srI n)++[z]=z::L.map (tgI n)) (g:Nat->Int):(L.map fun q=>g (srI n q)).sum=(L.map fun q=>g (tgI n q)).sum:=by
 have:=congrArg (fun l=>(l.map g).sum) h;simp only [map_append,List.sum_append,map_cons,sum_cons,map_map,map_nil,List.sum_nil] at this;have a:(g ∘ srI n)=fun q=>g (srI n q):=rfl;have b:(g ∘ tgI n)=fun q=>g (tgI n q):=rfl;rw [a,b] at this;ac_nf
theorem JcI (k:Nat) (b:Bool):∀ L:List (Nat × Bool),L.Nodup->(L.map (hasI k b)).sum=if (k,b)∈L then 1 else 0
 | [],_=>by simp
 | q::L,h=>by
  obtain ⟨h1,h2⟩:=nodup_cons.mp h;rw [map_cons,sum_cons,JcI k b L h2];unfold hasI;by_cases e:q=(k,b)
  ·subst e;rw [if_pos rfl,if_neg h1,if_pos mem_cons_self];rfl
  ·rw [if_neg e];by_cases m:(k,b)∈L
   ·rw [if_pos m,if_pos (mem_cons_of_mem _ m)];rfl
   ·rw [if_neg m,if_neg fun z=>(mem_cons.mp z).elim (fun w=>e w.symm) m];rfl
theorem Jja {k:Nat} (hk:k<n) {q:Nat × Bool} (hq:q.1<=n):(if srI n q<=k then (1:Int) else 0)=(if tgI n q<=k then (1:Int) else 0)+hasI k true q-hasI k false q-hasI n true q+hasI n false q:=by
 obtain ⟨i,b⟩:=q;unfold srI tgI hasI nxI;simp only at hq ⊢;cases b <;> simp only [Prod.mk.injEq,Bool.false_eq_true,if_false,if_true,and_true,and_false,reduceCtorEq] <;> (repeat' split) <;> ac_nf
theorem JeH (f g : α->Int):∀ L:List α,(L.map fun q=>f q+g q).sum=(L.map f).sum+(L.map g).sum
 | []=>rfl
 | q::L=>by simp only [map_cons,sum_cons,JeH f g L];ac_nf
theorem JdJ (f g : α->Int):∀ L:List α,(L.map fun q=>f q-g q).sum=(L.map f).sum-(L.map g).sum
 | []=>rfl
 | q::L=>by simp only [map_cons,sum_cons,JdJ f g L];ac_nf
theorem JeG {f g : α->Int}:∀ {L:List α},(∀ q∈L,f q=g q)->(L.map f).sum=(L.map g).sum
 | [],_=>rfl
 | q::L,h=>by rw [map_cons,map_cons,sum_cons,sum_cons,h q mem_cons_self,JeG fun x hx=>h x (mem_cons_of_mem _ hx)]
theorem JiO {β:Type} {f : α->β} {L:List α} (h:(L.map f).Nodup):L.Nodup:=by
 unfold List.Nodup at h;rw [List.pairwise_map] at h;exact h.imp fun z e=>z (by rw [e])
theorem Jjb {k:Nat} (hL:∀ q∈L,q.1<=n) (h:L.map (srI n)++[z]=z::L.map (tgI n)) (hk:k<n):(L.map (hasI k true)).sum-(L.map (hasI k false)).sum=(L.map (hasI n true)).sum-(L.map (hasI n false)).sum:=by
 have e:=JhG h fun j=>if j<=k then (1:Int) else 0
 have a:(L.map fun q=>if srI n q<=k then (1:Int) else 0).sum=(L.map fun q=>(if tgI n q<=k then (1:Int) else 0)+hasI k true q-hasI k false q-hasI n true q+hasI n false q).sum:=JeG fun q b=>Jja hk (hL q b);rw [a,JeH,JdJ,JdJ,JeH] at e;ac_nf
theorem JfC (o:Int) (k:Nat) (b:Bool):∀ L:List (Nat × Bool),(L.map fun q=>o*hasI k b q).sum=o*(L.map (hasI k b)).sum
 | []=>by simp
 | q::L=>by simp only [map_cons,sum_cons,JfC o k b L,Int.mul_add]
variable {P:Nat->Int} {o:Int}
theorem Jj2 {w:Nat × Bool->Int} (hb:1<=b) (hL:∀ q∈L,q.1<=n) (hnd:(L.map (srI n)).Nodup) (h:L.map (srI n)++[z]=z::L.map (tgI n))
  (hw:∀ q∈L,w q=b*(P (tgI n q)-P (srI n q))+(b*o)*hasI n true q-(b*o)*hasI n false q) (hneg:(L.map w).sum<0) :
  L.length=n+1/\((o<0/\∀ k,k<=n->(k,true)∈L)\/(0<o/\∀ k,k<=n->(k,false)∈L/\(k,true)∉L)):=by
 have l:L.Nodup:=JiO hnd;have G:=JhG h fun j=>b*P j;have F:(L.map w).sum=(b*o)*((L.map (hasI n true)).sum-(L.map (hasI n false)).sum):=by
  rw [JeG (g:=fun q=>b*P (tgI n q)-b*P (srI n q)+(b*o)*hasI n true q-(b*o)*hasI n false q) fun q u=>by rw [hw q u,Int.mul_sub],JdJ,JeH,JdJ,JfC,JfC,Int.mul_sub];ac_nf
 rw [F,JcI _ _ _ l,JcI _ _ _ l] at hneg;have d:∀ k,k<=n->(if (k,true)∈L then (1:Int) else 0)-(if (k,false)∈L then 1 else 0)=(if (n,true)∈L then 1 else 0)-(if (n,false)∈L then 1 else 0):=fun k f=>by
  by_cases c:k=n
  ·rw [c]
  ·have:=Jjb hL h (k:=k) ∅;rw [JcI _ _ _ l,JcI _ _ _ l,JcI _ _ _ l,JcI _ _ _ l] at this;exact this
 have s:∀ q∈L,srI n q<=n:=fun q u=>by
  have:=hL q u;unfold srI nxI;split
  ·exact this
  ·split <;> ac_nf
 have D:L.length<=n+1:=by
  have i:=sub_len _ (List.range (n+1)) hnd fun j y=>by
   obtain ⟨q,u,rfl⟩:=mem_map.mp y;exact mem_range.mpr (Nat.lt_succ_of_le (s q u))
  simpa using i
 have E:∀ x,(∀ k,k<=n->(k,x)∈L)->n+1<=L.length:=fun x B=>by
  have C:((List.range (n+1)).map fun k=>(k,x)).Nodup:=by
   refine List.Pairwise.map _ ?_ (List.nodup_range (n:=n+1));intro a c A e;exact A (Prod.mk.inj e).1
  have i:=sub_len _ L C fun j y=>by
   obtain ⟨k,f,rfl⟩:=mem_map.mp y;exact B k (by have:=mem_range.mp f;ac_nf)
  simpa using i
 by_cases v:(n,true)∈L
 ·by_cases r:(n,false)∈L
  ·rw [if_pos v,if_pos r,Int.sub_self,Int.mul_zero] at hneg;ac_nf
  ·rw [if_pos v,if_neg r] at hneg d;have a:∀ k,k<=n->(k,true)∈L:=fun k f=>by
    have:=d k f;by_cases m:(k,true)∈L
    ·exact m
    ·rw [if_neg m] at this;split at this <;> ac_nf
   refine ⟨Nat.le_antisymm D (E true a), .inl ⟨?_,a⟩⟩;have hneg:b*o*(1-0)<0:=hneg;rw [Int.sub_zero,Int.mul_one] at hneg;by_cases p:0<=o
   ·have:=Int.mul_nonneg (show 0<=b by ac_nf) p;ac_nf
   ·ac_nf
 ·by_cases r:(n,false)∈L
  ·rw [if_neg v,if_pos r] at hneg d;have a:∀ k,k<=n->(k,false)∈L/\(k,true)∉L:=fun k f=>by
    have:=d k f;by_cases m:(k,false)∈L
    ·refine ⟨m,fun t=>?_⟩;rw [if_pos m,if_pos t] at this;ac_nf
    ·rw [if_neg m] at this;split at this <;> ac_nf
   refine ⟨Nat.le_antisymm D (E false fun k f=>(a k f).1), .inr ⟨?_,a⟩⟩;have hneg:b*o*(0-1)<0:=hneg;by_cases p:o<=0
   ·have:=Int.mul_nonpos_of_nonneg_of_nonpos (show 0<=b by ac_nf) p;ac_nf
   ·ac_nf
  ·rw [if_neg v,if_neg r,Int.sub_self,Int.mul_zero] at hneg;ac_nf
structure JfV (K:W.Frag) (C D:Addr):Prop where
 cl:W.hasDictIn K D=true
 ty:W.typeIn K (.ref D)=some (.type "type")
 ex:W.mroIn K D (.type "BaseException")=some true
 ab:W.mroIn K C (.ref D)=some false
theorem JeS {K:W.Frag} {M:Model} {e C D:Addr} {oe:Obj} {Q:Bool->Shared->Prop} (X:K.In s.heap) (he:s.heap.get? e=some oe) (hc:oe.cls=.ref C) (c:JfV K C D) (h:Q false s) :
  wpAny M A (excMatches (.ref e) (.ref D)) Q E s:=by
 obtain ⟨a,g,d,t,b⟩:=s;have L0:W.Looks M a (typeOf (.ref e)) (.ref C):=hc ▸ (W.Looks.ld he).andThen .now;have L1:=W.looks_typeIn (M:=M) X c.ty;have L2:=W.looks_mroIn (M:=M) X c.ex;have L3:=W.looks_mroIn (M:=M) X c.ab;have L4:=Jdr (M:=M) X c.cl;have f:=tc_notTuple;unfold excMatches isInstance isExcClass;repeat (first | lk | wp_step)
 exact h
section
variable {ce:Expr} {epos hpos hpos2 np np2:Pos} {x2 n:Str} {b0 c0:Stmt} {suite suite2:List Stmt} {D2:Addr} {ts ts2:TS} {D:Addr} {t:TX}
def JhL (K:W.Frag) (D D2:Addr) (i:Nat) (t:TX) (ts ts2:TS):TS:=fun Dn σ H=>t σ H (fun _ H1=>Dn.nx σ H1) fun cls od H1=>∃ C,cls=.ref C /\
  ((Jbm K C D/\∀ ea,H1 ea=none->ts { nx:=fun σ' H'=>Dn.nx (σ'.set i none) H',rt:=Dn.rt,bk:=fun σ' H'=>Dn.bk (σ'.set i none) H',ct:=fun σ' H'=>Dn.ct (σ'.set i none) H' } (σ.set i (some (.ref ea))) (upd H1 ea (ExcO ea C od))) \/
   (JfV K C D/\Jbm K C D2/\∀ ea,H1 ea=none->ts2 { nx:=fun σ' H'=>Dn.nx (σ'.set i none) H',rt:=Dn.rt,bk:=fun σ' H'=>Dn.bk (σ'.set i none) H',ct:=fun σ' H'=>Dn.ct (σ'.set i none) H' } (σ.set i (some (.ref ea))) (upd H1 ea (ExcO ea C od))))
theorem Jhv (hN:X.N.Nodup) (hi:X.N[i]?=some n) (hl:X.env.scope.names.lookup n=some .local) (hcall:PEx X ce t) (hg:Gl X x) (hm:X.mg x=some (.ref D)) (hg2:Gl X x2) (hm2:X.mg x2=some (.ref D2)) (hsu:∀ e,PSs (X.inx e) (b0::suite) ts) (hsu2:∀ e,PSs (X.inx e) (c0::suite2) ts2)
  (hex:X.ex=[]:=by rfl) (hst:X.stack=X.env::X.outer:=by rfl) (hfl:X.env.frame=some X.env.locals:=by rfl)
  (hs:swapsWith ce none epos.line X.env=pure false:=by rfl) (hdb:(x == ("__debug__" : Str))=false:=by decide) (hdb2:(x2 == ("__debug__" : Str))=false:=by decide) :
  PS X (.Try [.Expr ce epos] [.ExceptHandler (some (.Name x np)) (some n) (b0::suite) hpos, .ExceptHandler (some (.Name x2 np2)) (some n) (c0::suite2) hpos2] [] [] pos) (JhL X.K D D2 i t ts ts2):=by
 intro b s σ H Dn I h;refine wpAny_Try_except (wpAny_execs_cons (wpAny_Expr_any (wpAny_mono (hcall b s σ H _ _ I h) (fun v s1 ⟨y,H1,I1,r1,q1⟩=>?_) (fun ev s1 hx=>?_)) I.quiet hs))
 ·exact wpAny_execs_nil (wpAny_execs_nil ⟨σ,H1,I1,q1⟩)
 ·obtain ⟨H1,s0,I1,c,od,a5,a0,B,G,rfl,U,hb,u,Q,F,C,rfl,a⟩:=hx;have a2:X.A.frames=some (X.env::X.outer):=by rw [<- hst];exact I.ok.frames
  have F':=F.fly;rw [hst] at F';refine noteD a2 hfl F' F.dct fun h4 E M a4=>?_;refine JiL E a4 fun h5 l P L=>?_;have S:=M.trans P;have j:=l;rw [<- hst] at j;have I5:=I1.landed hex u Q F U hb j S L rfl;obtain ⟨oe,vs,Y,hc,_,_⟩:=l.first;have key:∀ {b1:Stmt} {su:List Stmt} {tz:TS} {W:Pos},(∀ e,PSs (X.inx e) (b1::su) tz)->tz { nx:=fun σ' G=>Dn.nx (σ'.set i none) G,rt:=Dn.rt,bk:=fun σ' G=>Dn.bk (σ'.set i none) G,ct:=fun σ' G=>Dn.ct (σ'.set i none) G } (σ.set i (some (.ref c))) (upd G c (ExcO c C od)) ->
    codeAny (model X.prog X.w) (X.A.mark (some (.ref c))) (.handlers (.ref c) [.ExceptHandler none (some n) (b1::su) W] X.env) (fun r s₂=>match r with
     | .ok f=>wpAny (model X.prog X.w) X.A (do bindName X.env n .none;unbindBehindTheSuite X.env n W) (fun _ s₃=>SP X b Dn f s₃) X.xe s₂
     | .error x=>cameBackBy (model X.prog X.w) X.A X.env X.xe x s₂) { s1 with heap:=h5 }:=by
   intro b1 su tz W hsu V;refine codeAny_handlers_suite_as ?_;refine Jiv l L fun h6 O T Z=>?_;have g:=O;rw [<- hst] at g;have I6:=I1.landed hex u Q F U hb g (S.trans T) Z rfl;refine Jdh (X:=X) (v:=.ref c) I6 hN hi (.inl hl) rfl (fun s7 I7=>?_) (.inr hl);refine wpAny_mono (hsu c b s7 _ _ _ (I7.inx c) V) (fun f s2 z=>?_) (fun _ _ z=>z.elim);have d:∀ {σ':St} {p:Hp} {R:Flow->Shared->Prop} {E2:Value->Shared->Prop},Inv (X.inx c) b σ' p s2->(∀ o,Inv X b (σ'.set i none) p o->R f o) ->
     wpAny (model X.prog X.w) X.A (do bindName X.env n .none;unbindBehindTheSuite X.env n W) (fun _ o=>R f o) E2 s2:=fun {σ' p R E2} J k=>by
    have J':=J.outx I.ok;obtain ⟨m,hn,_⟩:=J'.loc;refine wpAny_nameGoes_keeps hl hn (by rw [I.ok.kind];rfl) fun h' v a3 a1=>k _ (J'.goes hN hi a1 hn a3 fun y hy=>if_neg hy)
   cases f with
   | next=>obtain ⟨σ',p,J,q⟩:=z;exact d J fun o J3=>⟨_,_,J3,q⟩
   | brk=>obtain ⟨σ',p,J,q⟩:=z;exact d J fun o J3=>⟨_,_,J3,q⟩
   | cont=>obtain ⟨σ',p,J,q⟩:=z;exact d J fun o J3=>⟨_,_,J3,q⟩
   | ret v=>obtain ⟨y,σ',p,J,r,q⟩:=z;exact d J fun o J3=>⟨y,_,_,J3,r,q⟩
  refine wpAny_handleBy_cons (codeAny_handlers_test (JbN (X:=X.inx c) (I5.inx c) hg hm ?_ hdb)) (by intro z;cases z);rcases a with ⟨a,V⟩ | ⟨hmis,a,V⟩
  ·exact Jcc I5.kIn Y hc a (key hsu (V c F.free))
  ·refine JeS I5.kIn Y hc hmis ?_;show wpAny (model X.prog X.w) X.A (handleBy (.ref c) X.env _) _ _ _;refine wpAny_handleBy_cons (codeAny_handlers_test (JbN (X:=X.inx c) (I5.inx c) hg2 hm2 ?_ hdb2)) (by intro z;cases z);exact Jcc I5.kIn Y hc a (key hsu2 (V c F.free))
theorem y97y {K:W.Frag}:JhL K D D2 i t ts ts2 En σ H=t σ H (fun _ H1=>En.nx σ H1) fun cls od H1=>∃ C,cls=.ref C /\
  ((Jbm K C D/\∀ ea,H1 ea=none->ts { nx:=fun σ' H'=>En.nx (σ'.set i none) H',rt:=En.rt,bk:=fun σ' H'=>En.bk (σ'.set i none) H',ct:=fun σ' H'=>En.ct (σ'.set i none) H' } (σ.set i (some (.ref ea))) (upd H1 ea (ExcO ea C od))) \/
   (JfV K C D/\Jbm K C D2/\∀ ea,H1 ea=none->ts2 { nx:=fun σ' H'=>En.nx (σ'.set i none) H',rt:=En.rt,bk:=fun σ' H'=>En.bk (σ'.set i none) H',ct:=fun σ' H'=>En.ct (σ'.set i none) H' } (σ.set i (some (.ref ea))) (upd H1 ea (ExcO ea C od)))):=rfl
def rInD (K:W.Frag):R2:=fun x y H Q=>∃ p xs d ds,y=.ref p/\SqL K H p xs/\Rep K H d x/\RepL K H ds xs/\depD d<=40/\(∀ d∈ds,depD d<=40)/\Q (.bl (ds.any fun c=>eqD c d)) H
theorem JiR (hu:X.A.units+64<cLine):OpR X (compareOp .In) (rInD X.K):=fun k s σ H x y v u Q I l o q=>by
 obtain ⟨p,G,d,b,rfl,F,C,m,g,t,q⟩:=q;cases (show u=Value.ref p from o);obtain ⟨a,r,E,J⟩:=I.list F;obtain ⟨h,n,D⟩:=Jg8 I rfl (A:=X.A.in1) (by rw [in1_units];ac_nf) C l g m r t;refine SeqAt.in_listAt (eqIn b a d) E.isList (fun w j=>?_) ⟨.bl _,H,I,rfl,?_⟩
 ·by_cases c:∃ p∈b.zip a,p.2=w/\eqD p.1 d=true
  ·rw [show eqIn b a d w=true from decide_eq_true c];obtain ⟨p,f,rfl,e⟩:=c;rw [<- e];exact h p f
  ·rw [show eqIn b a d w=false from decide_eq_false c];obtain ⟨e,i⟩:=n w (by simpa using j);have:=h _ i;cases z:eqD e d with
   | true=>exact absurd ⟨_,i,rfl,z⟩ c
   | false=>rw [z] at this;exact this
 ·have : a.toArray.any (eqIn b a d)=b.any fun c=>eqD c d:=by
   rw [Bool.eq_iff_iff];simp only [List.any_toArray,List.any_eq_true];constructor
   ·rintro ⟨w,j,z⟩;obtain ⟨p,f,_,e⟩:=of_decide_eq_true z;exact ⟨p.1,(List.of_mem_zip f).1,e⟩
   ·rintro ⟨c,B,e⟩;obtain ⟨u,hu⟩:=D c B;exact ⟨u,(List.of_mem_zip hu).2,decide_eq_true ⟨_,hu,rfl,e⟩⟩
  rw [this];exact q
theorem Jg7 {K:W.Frag} {a:Addr} {ys:List V} {nm:Str} {b:Bool} {ps:List (Str × Bool)} (ha:H a=some (.tup [.str nm, .bl b])) (hl:H l=some (.lst ys)) (hA:All2 (CV H) ps ys) (q:Q (.bl (decide ((nm,b)∈ps))) H):rInD K (.ref a) (.ref l) H Q:=by
 have i:∀ (q:Str × Bool) (c:Addr),H c=some (.tup [.str q.1, .bl q.2])->Rep K H (.tup [.str q.1, .bl q.2]) (.ref c):=fun q c h=>by
  simp only [Rep,RepL];exact ⟨_,_,rfl,SqT.of h,_,_,rfl,rfl,_,_,rfl,rfl,rfl⟩
 have m:∀ (ps:List (Str × Bool)) (ys:List V),All2 (CV H) ps ys->RepL K H (ps.map fun q=>D.tup [.str q.1, .bl q.2]) ys:=by
  intro ps;induction ps with
  | nil=>intro ys h;have h:ys=[]:=h;rw [h];simp only [map_nil,RepL]
  | cons q ps ih=>
   intro ys h;obtain ⟨y,r,rfl,⟨c,rfl,k⟩,j⟩:=h;simp only [map_cons,RepL];exact ⟨_,_,rfl,i q c k,ih _ j⟩
 refine ⟨l,ys, .tup [.str nm, .bl b],_,rfl,SqL.of hl,i (nm,b) a ha,m ps ys hA,by simp [depD,depL],fun d g=>?_,?_⟩
 ·obtain ⟨q,_,rfl⟩:=mem_map.mp g;simp [depD,depL]
 ·have e:((ps.map fun q=>D.tup [.str q.1, .bl q.2]).any fun c=>eqD c (.tup [.str nm, .bl b]))=decide ((nm,b)∈ps):=by
   rw [Bool.eq_iff_iff,List.any_eq_true,decide_eq_true_iff];constructor
   ·rintro ⟨d,g,f⟩;obtain ⟨q,n,rfl⟩:=mem_map.mp g;have : q=(nm,b):=by
     simp [eqD,eqL] at f;exact Prod.ext f.1 f.2
    rw [<- this];exact n
   ·intro h;exact ⟨_,mem_map.mpr ⟨_,h,rfl⟩,by simp [eqD,eqL]⟩
  rw [e];exact q
def rSumL (K:W.Frag) (xs:List V) (H:Hp) (Q:VK):Prop:=∃ (p:Addr) (ns:List Int),xs=[.ref p]/\SqL K H p (ns.map V.int)/\Q (.int ns.sum) H
theorem JgS (hc:X.calm=true):CallR X (.builtin "sum") (rSumL X.K):=fun f s σ H xs i Q I r q=>by
 obtain ⟨p,c,rfl,o,q⟩:=q;obtain ⟨u,rfl,g⟩:∃ u,i=[u]/\RelV (.ref p) u:=by
  cases r with
  | cons r1 r2=>cases r2;exact ⟨_,rfl,r1⟩
 cases (show u=Value.ref p from g);obtain ⟨a,j,l,v⟩:=I.list o;have d:∀ (c:List Int) (a:List Value),Vals (c.map V.int) a->∃ b:List (Int × Tok),a=b.map (fun p=>.int p.1 p.2)/\b.map (·.1)=c:=by
  intro c;induction c with
  | nil=>intro a h;cases h;exact ⟨[],rfl,rfl⟩
  | cons m c ih=>
   intro a h;cases h with
   | cons r1 r2=>
    obtain ⟨t,rfl⟩:=r1;obtain ⟨b,rfl,e⟩:=ih _ r2;exact ⟨(m,t)::b,rfl,by rw [map_cons,e]⟩
 obtain ⟨b,rfl,rfl⟩:=d c a j;refine sum_intListG (xs:=b.toArray) (I.ok.hd hc) (by have:=l.isList;simpa [intItems] using this) fun w x n k=>⟨.int (preSum (numAt b.toArray) b.toArray.size),H,I.kept k,⟨n,rfl⟩,?_⟩;rw [preSum_eq,take_of_length_le (by simp)];exact q
end
def fcK (k:Nat):Str:=("p" : Str)++⟨((Str.ofString "bcdefghijklmn").cps.toList.take (k % 7)).toArray⟩++⟨#[120+k/7]⟩
def fkL:List Str:=(List.range 14).map fcK
theorem Jj6:fkL.Nodup:=by decide
theorem JiI:∀ z∈fkL,nameS z=true:=by decide
variable {j:Nat}
theorem Jf4 (hi:i<14) (hj:j<14) (h:fcK i=fcK j):i=j:=by
 have a:fkL[i]?=some (fcK i):=by unfold fkL;rw [List.getElem?_map,List.getElem?_range hi];rfl
 have b:fkL[j]?=some (fcK i):=by unfold fkL;rw [List.getElem?_map,List.getElem?_range hj,h];rfl
 exact (List.getElem?_inj (by show i<14;exact hi) Jj6).mp (a.trans b.symm)
theorem Jd4 (hi:i<14):fcK i∈fkL:=mem_map.mpr ⟨i,mem_range.mpr hi,rfl⟩
def nmK5 (n k:Nat):Str:=if k=n then ("z" : Str) else ⟨#[97+k]⟩
theorem JiP (hn:n<14) (hi:i<=n) (hj:j<=n) (h:nmK5 n i=nmK5 n j):i=j:=by
 have d:("z" : Str)=⟨#[122]⟩:=by decide
 unfold nmK5 at h;rw [d] at h;have c:∀ a b:Nat,(⟨#[a]⟩:Str)=⟨#[b]⟩->a=b:=fun a b e=>by
  have:=congrArg (fun s:Str=>s.cps.toList) e;simpa using this
 split at h
 ·split at h
  ·ac_nf
  ·have:=c _ _ h;ac_nf
 ·split at h
  ·have:=c _ _ h;ac_nf
  ·have:=c _ _ h;ac_nf
def tyK (n:Nat) (W:Nat->Int) (k:Nat):TD:=⟨nmK5 n k,fcK k,fcK (nxI n k),some (W k,1),some (W k,1)⟩
structure Crc (ts:List TD) (n m:Nat) (W P:Nat->Int) (o:Int):Prop where
 n1:1<=n
 n14:n<14
 mn:m=n+1\/m=n
 perm:ts.Perm ((List.range m).map (tyK n W))
 w:∀ k,k<n->W k=P (k+1)-P k
 wn:W n=o-P n
 p0:P 0=0
section
variable {W:Nat->Int} {R:List SpS} {m:Nat}
theorem Crc.mem (h:Crc ts n m W P o):∀ t∈ts, ∃ k,k<m/\t=tyK n W k:=fun t a=>by
 obtain ⟨k,b,rfl⟩:=mem_map.mp (h.perm.mem_iff.mp a);exact ⟨k,mem_range.mp b,rfl⟩
theorem Crc.all (h:Crc ts n m W P o):∀ k,k<m->tyK n W k∈ts:=fun k a=>h.perm.mem_iff.mpr (mem_map.mpr ⟨k,mem_range.mpr a,rfl⟩)
theorem Crc.len (h:Crc ts n m W P o):ts.length=m:=by
 have:=h.perm.length_eq;simpa using this
def hiV (t:TD):Int:=(t.hi.getD (0,1)).1
theorem Jib {a b:List TD} (h:a.Perm b):(a.map hiV).sum=(b.map hiV).sum:=by
 induction h with
 | nil=>rfl
 | cons x _ ih=>simp only [map_cons,sum_cons,ih]
 | swap x y l=>simp only [map_cons,sum_cons];ac_nf
 | trans _ _ h1 h2=>exact h1.trans h2
theorem Crc.total (h:Crc ts n (n+1) W P o):(ts.map hiV).sum=o:=by
 have key:∀ k,k<=n->(((List.range k).map (tyK n W)).map hiV).sum=P k:=fun k=>by
  induction k with
  | zero=>intro _;rw [h.p0];rfl
  | succ k ih=>
   intro a;rw [List.range_succ,map_append,map_append,List.sum_append,ih ∅];have:=h.w k ∅;show P k+(W k+0)=_;ac_nf
 rw [Jib h.perm,List.range_succ,map_append,map_append,List.sum_append,key n (Nat.le_refl _)];have:=h.wn;show P n+(W n+0)=_;ac_nf
def stK (n:Nat) (W:Nat->Int) (b:Int) (q:Nat × Bool):SpS:=⟨fcK (srI n q),fcK (tgI n q),(sgI q*W q.1,1),sgI q*W q.1*b,nmK5 n q.1,q.2⟩
theorem Crc.step (h:Crc ts n m W P o):∀ s∈ssD ts, ∃ q:Nat × Bool,q.1<m/\s=stK n W (bD_ ts) q:=fun s d=>by
 obtain ⟨y,e,rfl⟩:=mem_map.mp d;obtain ⟨j,t,g,a,f⟩:=Jgj e;obtain ⟨k,c,rfl⟩:=h.mem t (List.mem_of_getElem? g);obtain ⟨i,r,p,v,u⟩:=y;have b:∀ x:Int,x.fdiv 1=x:=fun x=>by rw [Int.fdiv_one]
 rcases f with ⟨h1,h2,h3,h4⟩ | ⟨h1,l,h2,h3,h4,h5⟩
 ·refine ⟨(k,true),c,?_⟩;simp only [tyK] at h1 h2 h3 h4 a;cases h2;subst h1 h3 h4 a;unfold toS stK sgI srI tgI;simp [b]
 ·refine ⟨(k,false),c,?_⟩;simp only [tyK] at h1 h2 h3 h4 h5 a;cases h2;subst h1 h3 h4 h5 a;unfold toS stK sgI srI tgI negF;simp [b]
theorem Crc.has (h:Crc ts n m W P o) {q:Nat × Bool} (hq:q.1<m):stK n W (bD_ ts) q∈ssD ts:=by
 obtain ⟨k,b⟩:=q;have a:=h.all k hq;have c:∀ x:Int,x.fdiv 1=x:=fun x=>by rw [Int.fdiv_one]
 refine mem_map.mpr ⟨⟨fcK (srI n (k,b)),fcK (tgI n (k,b)),(sgI (k,b)*W k,1),nmK5 n k,b⟩,List.mem_flatMap.mpr ⟨_,a,?_⟩,?_⟩
 ·cases b
  ·simp [Ch.steps,fwd,bwd,tyK,srI,tgI,sgI]
  ·simp [Ch.steps,fwd,bwd,tyK,srI,tgI,sgI]
 ·unfold toS stK;simp [c]
theorem Crc.lt (h:Crc ts n m W P o) {q:Nat × Bool} (hq:q.1<m):q.1<=n/\srI n q<14/\tgI n q<14:=by
 have:=h.mn;have:=h.n14;unfold srI tgI nxI;refine ⟨by ac_nf,?_,?_⟩ <;> (repeat' split) <;> ac_nf
theorem Crc.wh (h:Crc ts n m W P o) {q:Nat × Bool} (hq:q.1<=n):sgI q*W q.1=(P (tgI n q)-P (srI n q))+o*hasI n true q-o*hasI n false q:=by
 obtain ⟨k,b⟩:=q;simp only at hq ⊢;unfold sgI tgI srI hasI nxI;by_cases c:k=n
 ·subst c;have:=h.wn;have:=h.p0;cases b <;> simp <;> ac_nf
 ·have:=h.w k ∅;cases b <;> simp [c] <;> ac_nf
theorem codes {f:Nat × Bool->SpS} {p:Nat × Bool->Prop}:∀ {R:List SpS},(∀ s∈R, ∃ q,p q/\s=f q)->∃ L:List (Nat × Bool),R=L.map f/\∀ q∈L,p q
 | [],_=>⟨[],rfl,fun q hq=>by cases hq⟩
 | s::R,h=>by
  obtain ⟨q,hq,e⟩:=h s mem_cons_self;obtain ⟨L,e2,h2⟩:=codes fun x hx=>h x (mem_cons_of_mem s hx);exact ⟨q::L,by rw [e,e2];rfl,fun x hx=>by rcases mem_cons.mp hx with z | z;rw [z];exact hq;exact h2 x z⟩
theorem Jgd {f:Nat->Str}:∀ {A B:List Nat},(∀ a∈A, ∀ b∈B,f a=f b->a=b)->A.map f=B.map f->A=B
 | [],[],_,_=>rfl
 | [],b::B,_,h=>by cases h
 | a::A,[],_,h=>by cases h
 | a::A,b::B,k,h=>by
  obtain ⟨h1,h2⟩:=List.cons.inj h;rw [k a mem_cons_self b mem_cons_self h1,Jgd (fun x hx y hy=>k x (mem_cons_of_mem _ hx) y (mem_cons_of_mem _ hy)) h2]
theorem Crc.ring (h:Crc ts n (n+1) W P o) (hb:1<=bD_ ts) (hR:Rng (ssD ts) R):R.length=n+1 /\
  ((o<0/\∀ k,k<=n->(nmK5 n k,true)∈R.map fun s=>(s.nm,s.fw))\/(0<o/\∀ k,k<=n->(nmK5 n k,false)∈(R.map fun s=>(s.nm,s.fw))/\(nmK5 n k,true)∉R.map fun s=>(s.nm,s.fw))):=by
 obtain ⟨L,rfl,i⟩:=codes (p:=fun q=>q.1<n+1) (f:=stK n W (bD_ ts)) fun s v=>h.step s (hR.mem s v);have x:(L.map (stK n W (bD_ ts))).map (·.src)=(L.map (srI n)).map fcK:=by rw [map_map,map_map];rfl
 have j:(L.map (stK n W (bD_ ts))).map (·.tgt)=(L.map (tgI n)).map fcK:=by rw [map_map,map_map];rfl
 have B:=hR.nd;obtain ⟨z,c⟩:=hR.adj;rw [x] at B c;rw [j] at c;have H:=hR.ne;cases L with
 | nil=>exact absurd rfl H
 | cons q0 L0=>
  generalize hLL:q0::L0=L at *;have E:z=fcK (srI n q0):=by
   rw [<- hLL] at c;exact ((List.cons.inj c).1).symm
  rw [E] at c;have r:L.map (srI n)++[srI n q0]=srI n q0::L.map (tgI n):=by
   refine Jgd (f:=fcK) (fun a l b d e=>?_) (by rw [map_append,map_cons];exact c);have t:q0∈L:=by rw [<- hLL];exact mem_cons_self
   have G:a<14:=by
    rcases mem_append.mp l with l | l
    ·obtain ⟨q,g,rfl⟩:=mem_map.mp l;exact (h.lt (i q g)).2.1
    ·rw [mem_singleton.mp l];exact (h.lt (i q0 t)).2.1
   have D:b<14:=by
    rcases mem_cons.mp d with d | d
    ·rw [d];exact (h.lt (i q0 t)).2.1
    ·obtain ⟨q,g,rfl⟩:=mem_map.mp d;exact (h.lt (i q g)).2.2
   exact Jf4 G D e
  obtain ⟨I,F⟩:=Jj2 (w:=fun q=>sgI q*W q.1*bD_ ts) (P:=P) (o:=o) hb (fun q g=>(h.lt (i q g)).1) (JiO B) r (fun q g=>by
   show sgI q*W q.1*bD_ ts=_;rw [h.wh (h.lt (i q g)).1];grind) (by
   have:=hR.neg;unfold wgt at this;rw [map_map] at this;exact this)
  refine ⟨by rw [length_map];exact I,?_⟩;have C:∀ k b,(k,b)∈L->(nmK5 n k,b)∈(L.map (stK n W (bD_ ts))).map fun s=>(s.nm,s.fw):=fun k b y=>mem_map.mpr ⟨_,mem_map.mpr ⟨_,y,rfl⟩,rfl⟩;refine F.imp (fun ⟨A,u⟩=>⟨A,fun k m=>C k true (u k m)⟩) fun ⟨A,u⟩=>⟨A,fun k m=>⟨C k false (u k m).1,fun y=>(u k m).2 ?_⟩⟩;obtain ⟨s,v,e⟩:=mem_map.mp y;obtain ⟨q,g,rfl⟩:=mem_map.mp v;obtain ⟨x,j⟩:=Prod.mk.inj e;have:=JiP h.n14 (h.lt (i q g)).1 m x;have j:q.2=true:=j;rw [<- this, <- j];exact g
theorem Crc.none (h:Crc ts n (n+1) W P o) (hb:1<=bD_ ts) (ho:o≠0):¬ ∃ π,Pot π (ssD ts):=fun ⟨π,f⟩=>by
 have l:∀ k,k<=n->π (fcK k)<=π (fcK 0)+P k*bD_ ts:=fun k=>by
  induction k with
  | zero=>intro _;rw [h.p0];ac_nf
  | succ k ih=>
   intro r;have g:=ih ∅;have e:=f _ (h.has (q:=(k,true)) (by show k<n+1;ac_nf));have a:(stK n W (bD_ ts) (k,true)).tgt=fcK (k+1):=by unfold stK tgI nxI;simp;rw [if_neg ∅]
   have c:(stK n W (bD_ ts) (k,true)).src=fcK k:=by unfold stK srI;simp
   have b:(stK n W (bD_ ts) (k,true)).wh=W k*bD_ ts:=by unfold stK sgI;simp
   rw [a,c,b,h.w k ∅,Int.sub_mul] at e;ac_nf
 have p:∀ k,k<=n->π (fcK 0)<=π (fcK k)-P k*bD_ ts:=fun k=>by
  induction k with
  | zero=>intro _;rw [h.p0];ac_nf
  | succ k ih=>
   intro r;have g:=ih ∅;have e:=f _ (h.has (q:=(k,false)) (by show k<n+1;ac_nf));have a:(stK n W (bD_ ts) (k,false)).src=fcK (k+1):=by unfold stK srI nxI;simp;rw [if_neg ∅]
   have c:(stK n W (bD_ ts) (k,false)).tgt=fcK k:=by unfold stK tgI;simp
   have b:(stK n W (bD_ ts) (k,false)).wh = -(W k*bD_ ts):=by unfold stK sgI;simp [Int.neg_mul]
   rw [a,c,b,h.w k ∅,Int.sub_mul] at e;ac_nf
 have u:=l n (Nat.le_refl _);have d:=p n (Nat.le_refl _);have g:=f _ (h.has (q:=(n,true)) (Nat.lt_succ_self n));have e:=f _ (h.has (q:=(n,false)) (Nat.lt_succ_self n));have a:(stK n W (bD_ ts) (n,true)).tgt=fcK 0:=by unfold stK tgI nxI;simp
 have c:(stK n W (bD_ ts) (n,true)).src=fcK n:=by unfold stK srI;simp
 have b:(stK n W (bD_ ts) (n,true)).wh=W n*bD_ ts:=by unfold stK sgI;simp
 have i:(stK n W (bD_ ts) (n,false)).src=fcK 0:=by unfold stK srI nxI;simp
 have j:(stK n W (bD_ ts) (n,false)).tgt=fcK n:=by unfold stK tgI;simp
 have m:(stK n W (bD_ ts) (n,false)).wh = -(W n*bD_ ts):=by unfold stK sgI;simp [Int.neg_mul]
 rw [a,c,b,h.wn,Int.sub_mul] at g;rw [i,j,m,h.wn,Int.sub_mul] at e;have z:o*bD_ ts=0:=by ac_nf
 rcases Int.mul_eq_zero.mp z with z | z
 ·exact ho z
 ·ac_nf
noncomputable def plP (P:Nat->Int) (v:Str):Int:=open Classical in if h:∃ k,k<14/\v=fcK k then P h.choose else 0
theorem Jgh {k:Nat} (hk:k<14):plP P (fcK k)=P k:=by
 unfold plP;have h:∃ j,j<14/\fcK k=fcK j:=⟨k,hk,rfl⟩;rw [dif_pos h];have:=Jf4 hk h.choose_spec.1 h.choose_spec.2;rw [<- this]
theorem Crc.flat (h:Crc ts n m W P o) (ho:m=n\/o=0):∀ s∈ssD ts,s.wh=(plP P s.tgt-plP P s.src)*bD_ ts:=fun s c=>by
 obtain ⟨q,a,rfl⟩:=h.step s c;obtain ⟨f,d,g⟩:=h.lt a;show sgI q*W q.1*bD_ ts=(plP P (fcK (tgI n q))-plP P (fcK (srI n q)))*bD_ ts;rw [Jgh d,Jgh g,h.wh f];rcases ho with ho | ho
 ·have e:∀ b,hasI n b q=0:=fun b=>by
   unfold hasI;rw [if_neg fun z=>by rw [z] at a;have a:n<m:=a;ac_nf]
  rw [e,e];simp
 ·rw [ho];simp
theorem Crc.pot (h:Crc ts n m W P o) (ho:m=n\/o=0):∃ π,Pot π (ssD ts):=⟨fun v=>plP P v*bD_ ts,fun s a=>by
 rw [h.flat ho s a,Int.sub_mul];show plP P s.tgt*bD_ ts<=plP P s.src*bD_ ts+_;ac_nf⟩
theorem Crc.walk (h:Crc ts n m W P o) (ho:m=n\/o=0) {f v:Str} {l:List SpS} (hw:Wk (ssD ts) f l v):wgt l=(plP P v-plP P f)*bD_ ts:=by
 induction hw with
 | nil=>simp [wgt]
 | snoc hw hs ih=>
  rw [JbA,ih,h.flat ho _ hs, <- Int.add_mul]
  congr 1
  ac_nf
theorem Crc.far (h:Crc ts n m W P o) (ho:m=n\/o=0) (hg:BkH ts F) {i j:Nat} (hi:i<=n) (hj:j<=n) {tb:Tab} {e:(Int × Int) × List SpS} (ht:TTd ts [fcK i] tb) (he:lk tb (fcK j)=some e):e.1=(P j-P i,1):=by
 have p:=h.n14;obtain ⟨l,k,_⟩:=ht.ent he;obtain ⟨c,r⟩:=JiA (b:=bD_ ts) fun s d=>ss_wh ht.bb s (k s d);have a:=h.walk ho (ht.root he);rw [Jgh ∅,Jgh ∅] at a;rw [<- l,a] at c;refine (ht.lo hg.fb hg.l70 he).inj ⟨show (1:Int)<=1 by decide,by unfold Mth.g;simp⟩ ?_;have q:(bD_ ts:Rat)≠0:=JdC ht.b1;have f:vl (P j-P i,1)=((P j-P i:Int):Rat):=by
  unfold vl;show ((P j-P i:Int):Rat)/((1:Int):Rat)=_;grind
 rw [f];push_cast at c ⊢;generalize (bD_ ts:Rat)=B at *;grind
theorem Crc.reach (h:Crc ts n m W P o) {tb:Tab} (ht:TTd ts [fcK 0] tb):∀ k,k<=n->∃ e,lk tb (fcK k)=some e
 | 0,_=>⟨_,ht.self⟩
 | k+1,hk=>by
  obtain ⟨e,he⟩:=Crc.reach h ht k ∅;have hm:k<m:=by have:=h.mn;ac_nf
  obtain ⟨e',h1,_⟩:=ht.step (s:=⟨fcK k,fcK (k+1),(W k,1),nmK5 n k,true⟩) (List.mem_flatMap.mpr ⟨_,h.all k hm,by
   have : nxI n k=k+1:=if_neg ∅;simp [Ch.steps,fwd,bwd,tyK,this]⟩) he
  exact ⟨e',h1⟩
theorem Crc.back (h:Crc ts n m W P o) {tb:Tab} (ht:TTd ts [fcK n] tb):∀ i,i<=n->∃ e,lk tb (fcK (n-i))=some e
 | 0,_=>⟨_,ht.self⟩
 | i+1,hk=>by
  obtain ⟨e,he⟩:=Crc.back h ht i ∅;have hm:n-(i+1)<m:=by have:=h.mn;ac_nf
  have e1:n-i=n-(i+1)+1:=by ac_nf
  rw [e1] at he;obtain ⟨e',h1,_⟩:=ht.step (s:=⟨fcK (n-(i+1)+1),fcK (n-(i+1)),(-W (n-(i+1)),1),nmK5 n (n-(i+1)),false⟩) (List.mem_flatMap.mpr ⟨_,h.all _ hm,by
   have : nxI n (n-(i+1))=n-(i+1)+1:=if_neg ∅;simp [Ch.steps,fwd,bwd,tyK,this]⟩) he
  exact ⟨e',h1⟩
theorem Crc.faces (h:Crc ts n m W P o) {out:List Str} (hF:Jbi ts out):out.length=n+1:=by
 have j:=h.n14;have s:=h.mn;have r:=h.n1;have d:((List.range (n+1)).map fcK).Nodup:=by
  unfold List.Nodup;rw [List.pairwise_map];refine List.Pairwise.imp_of_mem (R:=fun a b=>a≠b) (fun {a b} ha hb hab e=>hab (Jf4 (by have:=mem_range.mp ha;ac_nf) (by have:=mem_range.mp hb;ac_nf) e)) List.nodup_range
 have p:=sub_len out ((List.range (n+1)).map fcK) hF.1 fun z f=>by
  obtain ⟨t,l,q⟩:=(hF.2.2 z).mp f;obtain ⟨k,g,rfl⟩:=h.mem t l;rcases q with rfl | rfl
  ·exact mem_map.mpr ⟨k,mem_range.mpr ∅,rfl⟩
  ·refine mem_map.mpr ⟨nxI n k,mem_range.mpr ?_,rfl⟩;unfold nxI;split <;> ac_nf
 have i:=sub_len _ out d fun z f=>by
  obtain ⟨k,g,rfl⟩:=mem_map.mp f;have g:=mem_range.mp g;refine (hF.2.2 _).mpr ?_;by_cases c:k=n
  ·refine ⟨_,h.all (n-1) ∅, .inr ?_⟩;show fcK k=fcK (nxI n (n-1));rw [show nxI n (n-1)=k by unfold nxI;rw [if_neg ∅];ac_nf]
  ·exact ⟨_,h.all k ∅, .inl rfl⟩
 rw [length_map,List.length_range] at p i;ac_nf
theorem Crc.bkh (h:Crc ts n m W P o) (hW:∀ k,k<=n->Mth.Sz 150 (W k)):BkH ts fkL:=by
 have v:=h.n14;have A:=h.mn;have y:=h.n1;have p:∀ x:Int,Mth.Sz 150 x->FB 200 9 (x,1):=fun x r=>⟨r.mono ⋯, .lit (show -(2 ^ 9)<(1:Int) by decide) (show (1:Int)<2 ^ 9 by decide),(show (1:Int)<=1 by decide),by unfold Mth.g;simp⟩;have f:∀ k,k<m->nxI n k<14:=fun k b=>by unfold nxI;split <;> ac_nf
 refine ⟨by rw [h.len];ac_nf,fun t e=>?_,fun s q=>?_,by decide,fun t e=>?_⟩
 ·obtain ⟨k,b,rfl⟩:=h.mem t e;have d:=p _ (hW k ∅);refine ⟨?_,JiI _ (Jd4 ∅),JiI _ (Jd4 (f k b)),fun z=>?_,fun u i=>?_,fun u i=>?_,?_⟩
  ·show nameS (nmK5 n k)=true;unfold nmK5;split
   ·decide
   ·have : ∀ j,j<14->nameS ⟨#[97+j]⟩=true:=by decide
    exact this k ∅
  ·have z:fcK k=fcK (nxI n k):=z;have:=Jf4 ∅ (f k b) z;unfold nxI at this;split at this <;> ac_nf
  ·cases i;exact d.ok ⋯ ⋯
  ·cases i;exact d.ok ⋯ ⋯
  ·simp [tyK,bD,frD,lessD]
 ·obtain ⟨j,t,e,B,w⟩:=Jgj q;obtain ⟨k,b,rfl⟩:=h.mem t (List.mem_of_getElem? e);have d:=p _ (hW k ∅);rcases w with ⟨h1,a,h3,h4⟩ | ⟨h1,l,a,h3,h4,h5⟩
  ·have a:some (W k,(1:Int))=some s.c:=a;rw [<- Option.some.inj a];exact d
  ·have a:some (W k,(1:Int))=some l:=a;rw [h3, <- Option.some.inj a];exact d.neg
 ·obtain ⟨k,b,rfl⟩:=h.mem t e;exact ⟨Jd4 ∅,Jd4 (f k b)⟩
end
section
variable {K:W.Frag} {as:List Bool}
theorem neBL {m:Addr} {bs:List Bool} (h:H l=some (.lst (as.map V.bl))) (g:H m=some (.lst (bs.map V.bl))) (q:Q (.bl (!decide (as=bs))) H):rNeU K (.ref l) (.ref m) H Q:=by
 refine ⟨.lst (as.map D.bl), .lst (bs.map D.bl),?_,?_,?_,rfl,?_⟩
 ·simp only [Rep];exact ⟨_,_,rfl,SqL.of h,Jew as⟩
 ·simp only [Rep];exact ⟨_,_,rfl,SqL.of g,Jew bs⟩
 ·simp only [depD,Jfv];decide
 ·simp only [eqD,JiF];exact q
theorem repBN {q:Addr} (h:H q=some (.tup [.ref l, .non])) (g:H l=some (.lst (as.map V.bl))):Rep K H (.tup [.lst (as.map D.bl), .non]) (.ref q):=by
 simp only [Rep,RepL];exact ⟨_,_,rfl,SqT.of h,_,_,rfl,⟨_,_,rfl,SqL.of g,Jew as⟩,_,_,rfl,rfl,rfl⟩
theorem depBN:depD (.tup [.lst (as.map D.bl), .non])<=50:=by
 simp only [depD,depL,Jfv];decide
end
section
variable {W:Nat->Int} {c:Int} {zs:List Int} {bs:List TD} {m:Nat}
theorem Crc.nms (h:Crc ts n m W P o):(L2.nms ts).Nodup:=by
 have c:=h.n14;have d:=h.mn;have p:(L2.nms ts).Perm (((List.range m).map (tyK n W)).map (·.nm)):=h.perm.map _;refine p.nodup_iff.mpr ?_;rw [map_map];unfold List.Nodup;rw [List.pairwise_map];refine List.Pairwise.imp_of_mem (R:=fun a b=>a≠b) (fun {a b} ha hb hab e=>hab (JiP c (by have:=mem_range.mp ha;ac_nf) (by have:=mem_range.mp hb;ac_nf) e)) List.nodup_range
theorem Crc.nox (h:Crc ts n m W P o):¬ ∃ t∈ts,("x" : Str)=t.st\/("x" : Str)=t.en:=fun ⟨t,d,c⟩=>by
 have b:=h.n14;have f:=h.mn;have a:("x" : Str)∉fkL:=by decide
 obtain ⟨k,g,rfl⟩:=h.mem t d;rcases c with e | e
 ·exact a (by rw [e];exact Jd4 (show k<14 by ac_nf))
 ·refine a ?_;rw [e];refine Jd4 ?_;unfold nxI;split <;> ac_nf
theorem Crc.okf (h:Crc ts n m W P o):(∃ t∈ts,fcK 0=t.st\/fcK 0=t.en)/\∃ t∈ts,fcK n=t.st\/fcK n=t.en:=by
 have a:=h.n1;have b:=h.mn;refine ⟨⟨_,h.all 0 ∅, .inl rfl⟩,⟨_,h.all (n-1) ∅, .inr ?_⟩⟩;show fcK n=fcK (nxI n (n-1));rw [show nxI n (n-1)=n by unfold nxI;rw [if_neg ∅];ac_nf]
theorem sub01 (x:Int):subF (0,1) (x,1)=(-x,1):=by
 have e:∀ t:Int,Mth.g t 1=1:=fun t=>by unfold Mth.g;simp
 unfold subF Mth.top Mth.bot Mth.by_;simp only [Int.mul_one,Int.zero_mul,Int.zero_sub,Int.one_mul];rw [if_neg ⋯,e];simp
def WZ (n:Nat) (zs:List Int) (c:Int) (k:Nat):Int:=if k=n then c else zs.getD k 0
theorem tyK_n:tyK n (WZ n zs c) n=⟨("z" : Str),fcK n,fcK 0,some (c,1),some (c,1)⟩:=by
 unfold tyK WZ nmK5 nxI;simp
theorem tyK_k {k:Nat} (hk:k<n):tyK n (WZ n zs c) k=⟨⟨#[97+k]⟩,fcK k,fcK (k+1),some (zs.getD k 0,1),some (zs.getD k 0,1)⟩:=by
 have e:k≠n:=by ac_nf
 unfold tyK WZ nmK5 nxI;simp [e]
theorem Ji4 (c c':Int):(List.range n).map (tyK n (WZ n zs c))=(List.range n).map (tyK n (WZ n zs c')) :=
 List.map_congr_left fun k a=>by rw [tyK_k (mem_range.mp a),tyK_k (mem_range.mp a)]
theorem Jf2 (n1:1<=n) (n13:n<=13) (lz:zs.length=n) (hp:bs.Perm ((List.range n).map (tyK n (WZ n zs 0)))) (c:Int):Crc bs n n (WZ n zs c) (fun k=>(zs.take k).sum) (c+zs.sum):=by
 refine ⟨n1,by ac_nf, .inr rfl,by rw [Ji4 c 0];exact hp,fun k a=>?_,?_,by simp⟩
 ·show (if k=n then c else zs.getD k 0)=(zs.take (k+1)).sum-(zs.take k).sum;rw [if_neg ∅,PyProof.Rows.take_sum_succ zs k ∅];ac_nf
 ·show (if n=n then c else zs.getD n 0)=c+zs.sum-(zs.take n).sum;rw [if_pos rfl,take_of_length_le ∅];ac_nf
theorem Jf1 (n1:1<=n) (n13:n<=13) (lz:zs.length=n) (hp:bs.Perm ((List.range n).map (tyK n (WZ n zs 0)))) (c:Int):Crc (bs++[tyK n (WZ n zs c) n]) n (n+1) (WZ n zs c) (fun k=>(zs.take k).sum) (c+zs.sum):=by
 obtain ⟨a,f,_,g,e,b,d⟩:=Jf2 n1 n13 lz hp c;refine ⟨a,f, .inl rfl,?_,e,b,d⟩;rw [List.range_succ,map_append];exact g.append_right _
theorem JiT:∀ {zs:List Int},(∀ z∈zs,Mth.Sz 110 z)->zs.sum.natAbs<=zs.length*2 ^ 110
 | [],_=>by simp
 | z::zs,h=>by
  have h1:z.natAbs<2 ^ 110:=h z mem_cons_self;have h2:=JiT fun x hx=>h x (mem_cons_of_mem z hx);rw [sum_cons,length_cons,Nat.add_mul];have:=Int.natAbs_add_le z zs.sum;ac_nf
theorem wz_sz (hB:∀ z∈zs,Mth.Sz 110 z) (lz:zs.length=n) (hc:Mth.Sz 150 c):∀ k,k<=n->Mth.Sz 150 (WZ n zs c k):=fun k a=>by
 unfold WZ;split
 ·exact hc
 ·rename_i e;have lk:k<zs.length:=by ac_nf
  rw [List.getD_eq_getElem?_getD,List.getElem?_eq_getElem lk];exact (hB _ (List.getElem_mem lk)).mono ⋯
theorem c_sz (hB:∀ z∈zs,Mth.Sz 110 z) (lz:zs.length<=13) {x:Int} (hx : -(10 ^ 21)<=x/\x<=10 ^ 21):Mth.Sz 150 (-zs.sum+x):=by
 have a:=JiT hB;have c:zs.length*2 ^ 110<=13*2 ^ 110:=Nat.mul_le_mul_right _ lz;show (-zs.sum+x).natAbs<2 ^ 150;have b:(2:Nat) ^ 110=1298074214633706907132624082305024:=by decide
 have d:(2:Nat) ^ 150=1427247692705959881058285969449495136382746624:=by decide
 rw [b] at a c;rw [d];ac_nf
end
end L2
open PySem L2
local macro_rules|`(tactic|rename_i $p:ident $h:ident $q:ident $H:ident $G:ident $S:ident $e:ident)=>`(tactic|(intro $p:ident $h:ident;generalize $q:ident:upd $H $p _=$G;have $S:ident:=newS $h $q;have $e:ident:=newE $q))
local macro_rules|`(tactic|bv_decide)=>`(tactic|exact ⟨rfl,rfl,rfl,by decide +kernel,rfl,by decide +kernel,by decide +kernel⟩)
local macro_rules|`(tactic|simpa! only [$xs,*])=>do let l<-(("y52y y53y y54y y78y y2by y73y y87y y88y y49y y2fy y7fy y9fy y31y y3ey y79y y30y y92y y23y y29y y80y y7by y2ay y81y y7dy y60y ya1y y26y y90y y77y y70y y4ey y6fy y84y y34y y4cy y75y y4dy y76y y4by y74y y9ay y6ay y66y y9cy y9ey y9by y9dy y25y y6ey y24y yby ydy yay ycy yey y15y y17y y14y y16y y18y y6y y8y y5y y7y y9y y1y y3y y0y y2y y4y y10y y12y yfy y11y y13y y1ay y1cy y19y y1by y1dy y1fy y21y y1ey y20y y22y y8ey y83y y7ay y96y ya2y y85y y27y V.int.injEq V.str.injEq V.bl.injEq y5cy y5ey y2dy y2ey y71y y65y y7cy y6by y6dy y3fy y48y y43y y82y y44y y35y y37y y3cy y42y y46y y57y y59y y61y y3ay y94y y38y y39y y55y y56y ya0y y99y y95y y47y y86y y6cy y2cy y8dy y50y ya5y y89y y97y".splitOn " ").map (`L2++·.toName)++("true_and if_true if_false Bool.not_true Bool.not_false Bool.false_eq_true List.set_cons_zero List.set_cons_succ List.getElem?_cons_zero List.getElem?_cons_succ Option.some.injEq exists_eq_left exists_eq_left' Int.reduceToNat Int.reducePow append_nil nil_append cons_append reduceCtorEq decide_false decide_true".splitOn " ").map (·.toName)).toArray.mapM fun s=>`(Lean.Parser.Tactic.simpLemma|$(Lean.mkIdent s):term);`(tactic|simp only [$(l.foldl (fun a x=>a.push ⟨x.raw⟩) xs.getElems),*])
local macro_rules|`(tactic|mstop)=>`(tactic|simpa! only [y8by])
local macro_rules|`(tactic|mstart)=>`(tactic|simpa! only [y8by,y4fy])
local macro_rules|`(tactic|cutsat)=>`(tactic|simpa! only [y8by,y8cy])
local macro_rules|`(tactic|mvcgen)=>`(tactic|((try simpa! only [y4fy,y8cy]);repeat ((first | (with_reducible refine JeB fun _ _=>?_) | (with_reducible refine Nxt.go (by assumption) ?_));(try simpa! only [y4fy,y8cy]))))
local macro_rules|`(tactic|mexact)=>`(tactic|((try simpa! only [y8cy]);repeat ((first | (with_reducible refine JeB fun _ _=>?_) | (with_reducible refine Nxt.go (by assumption) ?_));(try simpa! only [y8cy]))))
local macro_rules|`(tactic|mleave)=>`(tactic|((try simpa! only [y4fy]);repeat ((first | (with_reducible refine JeB fun _ _=>?_) | (with_reducible refine Nxt.go (by assumption) ?_));(try simpa! only [y4fy]))))
local macro_rules|`(tactic|cbv)=>`(tactic|((try simpa! only [true_and]);repeat ((first | (with_reducible refine JeB fun _ _=>?_) | (with_reducible refine Nxt.go (by assumption) ?_));(try simpa! only [true_and]))))
local macro_rules|`(tactic|mspec)=>`(tactic|(try ((with_reducible refine Nxt.go (by assumption) ?_);cbv)))
local macro_rules|`(tactic|mframe)=>`(tactic|(mspec;cbv))
local macro_rules|`(tactic|mpure)=>`(tactic|repeat (refine And.intro (by first | exact Jb6 ⋯ | exact Jb8 ⋯ | exact mulOkL ⋯ | exact Jbt ⋯ | exact Int.one_ne_zero | decide) ?_))
local macro_rules|`(tactic|simpa only [$xs,*])=>`(tactic|simpa! only [y8by, $xs,*])
namespace Prg
open PySem L2 Ch
variable {fd:FuncData} {dV:Value} {f:Addr}
def top (i:Nat):Stmt:=PySem.Challenge.pw_slackchain_k35_books_refuse.main.body.getD i (.Pass ⟨0,0,0,0⟩)
structure Adr where
 SlackError:Addr
 NoNumber:Addr
 NoTie:Addr
 Twice:Addr
 NoName:Addr
 NoFace:Addr
 Impossible:Addr
 NoPart:Addr
 NoGap:Addr
 InRing:Addr
 Apart:Addr
 Tight:Addr
 Off:Addr
 NoRow:Addr
 Tie:Addr
 Free:Addr
 AtLeast:Addr
 AtMost:Addr
 Just:Addr
 Between:Addr
 Scale:Addr
 Step:Addr
 Book:Addr
 SMALL_LETTERS:Value
 LONGEST_NAME:Value
 ZERO:Addr
structure TieC (K:W.Frag) (C:Addr):Prop where
 cls:Cls K C
 n1:Jbb K C "name"
 n2:Jbb K C "start"
 n3:Jbb K C "end"
 n4:Jbb K C "least"
 n5:Jbb K C "greatest"
def IsTie (Ad:Adr) (C:Addr):Prop:=C=Ad.Free\/C=Ad.AtLeast\/C=Ad.AtMost\/C=Ad.Just\/C=Ad.Between
def TieV (H:Hp) (v:V) (C:Addr) (n s e l g:V):Prop:=∃ p dx,v=.ref p/\H p=some (.ins C dx (tieF n s e l g))
def kindC (Ad:Adr) (l g:D):Addr:=if nonD l then (if nonD g then Ad.Free else Ad.AtMost) else if nonD g then Ad.AtLeast else if eqD l g then Ad.Just else Ad.Between
theorem Jem (Ad:Adr) (l g:D):IsTie Ad (kindC Ad l g):=by
 unfold kindC IsTie;split
 ·split
  ·exact .inl rfl
  ·exact .inr (.inr (.inl rfl))
 ·split
  ·exact .inr (.inl rfl)
  ·split
   ·exact .inr (.inr (.inr (.inl rfl)))
   ·exact .inr (.inr (.inr (.inr rfl)))
structure JjW (K:W.Frag) (C:Addr):Prop where
 cls:Cls K C
 n1:Jbb K C "bottom"
 n2:Jbb K C "factors"
def Jfq (Ad:Adr) (C:Addr):Prop:=C=Ad.Scale
structure StepC (K:W.Frag) (C:Addr):Prop where
 cls:Cls K C
 n1:Jbb K C "source"
 n2:Jbb K C "target"
 n3:Jbb K C "cost"
 n4:Jbb K C "whole"
 n5:Jbb K C "pair"
def JjV (Ad:Adr) (C:Addr):Prop:=C=Ad.Step
variable {H:Hp} {x a C:Addr}
theorem SqT.put {K:W.Frag} {dx:Addr} {fs fs':List (Str × V)} {xs:List V} (hx:H x=some (.ins C dx fs)) (h:SqT K H a xs):SqT K (upd H x (.ins C dx fs')) a xs:=by
 rcases h with (h | ⟨o,h⟩) | h
 ·exact .inl (.inl (by rw [Jag (ne_of h hx (by intro z;cases z))];exact h))
 ·exact .inl (.inr ⟨o,by rw [Jag (ne_of h hx (by intro z;cases z))];exact h⟩)
 ·exact .inr h
def partF (n s e z m w:V):List (Str × V):=[("name",n),("start",s),("end",e),("size",z),("most",m),("weight",w)]
def gapF (n s e l g:V):List (Str × V):=[("name",n),("one",s),("other",e),("low",l),("high",g)]
variable {H':Hp} {v:V}
theorem TieV.same {n s e l g:V} (S:Same H H') (h:TieV H v C n s e l g):TieV H' v C n s e l g:=by
 obtain ⟨p,c,a,b⟩:=h;exact ⟨p,c,a,S _ _ b⟩
structure BookC (K:W.Frag) (C:Addr):Prop where
 cls:Cls K C
 n1:Jbb K C "by_name"
def JaA (Ad:Adr) (C:Addr):Prop:=C=Ad.Book
structure Txt (K:W.Frag) (mg:Str->Option Value) (Ad:Adr):Prop where
 Bcl:mg "abs"=none
 Bac:mg "isinstance"=none
 Bbx:mg "len"=none
 Bco:mg "all"=none
 Bcp:mg "int"=none
 Bcm:mg "bool"=none
 Bcb:mg "tuple"=none
 Bcq:mg "str"=none
 BbJ:mg "range"=none
 Bb6:mg "list"=none
 n_reversed:mg "reversed"=none
 BbK:mg "sorted"=none
 n_set:mg "set"=none
 n_max:mg "max"=none
 n_dict:mg "dict"=none
 n_sum:mg "sum"=none
 n_ValueError:mg "ValueError"=none
 m_SlackError:mg "SlackError"=some (.ref Ad.SlackError)
 m_NoNumber:mg "NoNumber"=some (.ref Ad.NoNumber)
 m_NoTie:mg "NoTie"=some (.ref Ad.NoTie)
 Bcc:mg "Twice"=some (.ref Ad.Twice)
 BbL:mg "NoName"=some (.ref Ad.NoName)
 m_NoFace:mg "NoFace"=some (.ref Ad.NoFace)
 m_Impossible:mg "Impossible"=some (.ref Ad.Impossible)
 Bb7:mg "NoPart"=some (.ref Ad.NoPart)
 Bcd:mg "NoGap"=some (.ref Ad.NoGap)
 Bb8:mg "InRing"=some (.ref Ad.InRing)
 Bce:mg "Apart"=some (.ref Ad.Apart)
 m_Tight:mg "Tight"=some (.ref Ad.Tight)
 m_Off:mg "Off"=some (.ref Ad.Off)
 m_NoRow:mg "NoRow"=some (.ref Ad.NoRow)
 m_Tie:mg "Tie"=some (.ref Ad.Tie)
 m_Free:mg "Free"=some (.ref Ad.Free)
 m_AtLeast:mg "AtLeast"=some (.ref Ad.AtLeast)
 m_AtMost:mg "AtMost"=some (.ref Ad.AtMost)
 m_Just:mg "Just"=some (.ref Ad.Just)
 m_Between:mg "Between"=some (.ref Ad.Between)
 Bcr:mg "Scale"=some (.ref Ad.Scale)
 m_Step:mg "Step"=some (.ref Ad.Step)
 m_Book:mg "Book"=some (.ref Ad.Book)
 Bby:mg "SMALL_LETTERS"=some Ad.SMALL_LETTERS
 Bbz:RelV (.str "abcdefghijklmnopqrstuvwxyz") Ad.SMALL_LETTERS
 BbG:mg "LONGEST_NAME"=some Ad.LONGEST_NAME
 BbH:RelV (.int 8) Ad.LONGEST_NAME
 Bb9:mg "ZERO"=some (.ref Ad.ZERO)
 Bca:RelV (.ref Ad.ZERO) (.ref Ad.ZERO)
 BbZ:∀ H:Hp,SqT K H Ad.ZERO [.int 0, .int 1]
 x_SlackError:W.excIn K Ad.SlackError [.type "ValueError", .type "Exception", .type "BaseException", .type "object"] "ValueError.__new__"=true
 x_NoTie:W.excIn K Ad.NoTie [.type "ValueError", .type "Exception", .type "BaseException", .type "object"] "ValueError.__new__"=true
 x_NoFace:W.excIn K Ad.NoFace [.type "ValueError", .type "Exception", .type "BaseException", .type "object"] "ValueError.__new__"=true
 Bbr:W.excIn K Ad.NoName [.type "ValueError", .type "Exception", .type "BaseException", .type "object"] "ValueError.__new__"=true
 tie:∀ C,IsTie Ad C->TieC K C
 BbM:∀ C,Jfq Ad C->JjW K C
 c_Step:∀ C,JjV Ad C->StepC K C
 book:∀ C,JaA Ad C->BookC K C
 xa:ExcA K Ad.Impossible "around"
 xl:ExcL K Ad.Impossible "around"
 slk:SlkI K Ad.SlackError
 xc:Jbm K Ad.Impossible Ad.Impossible
 eI:ExcC K Ad.Impossible
 eN:ExcC K Ad.NoFace
 mN:JfV K Ad.NoFace Ad.Impossible
 cN:Jbm K Ad.NoFace Ad.SlackError
 kI_NoFace:W.kitOne K (.ref Ad.Impossible) (.ref Ad.NoFace)=some false
 kI_SlackError:W.kitOne K (.ref Ad.Impossible) (.ref Ad.SlackError)=some true
 kI_NoNumber:W.kitOne K (.ref Ad.Impossible) (.ref Ad.NoNumber)=some false
 kI_NoTie:W.kitOne K (.ref Ad.Impossible) (.ref Ad.NoTie)=some false
 kI_Twice:W.kitOne K (.ref Ad.Impossible) (.ref Ad.Twice)=some false
 kI_NoName:W.kitOne K (.ref Ad.Impossible) (.ref Ad.NoName)=some false
 kI_NoPart:W.kitOne K (.ref Ad.Impossible) (.ref Ad.NoPart)=some false
 kI_NoGap:W.kitOne K (.ref Ad.Impossible) (.ref Ad.NoGap)=some false
 kI_InRing:W.kitOne K (.ref Ad.Impossible) (.ref Ad.InRing)=some false
 kI_Apart:W.kitOne K (.ref Ad.Impossible) (.ref Ad.Apart)=some false
 kI_Tight:W.kitOne K (.ref Ad.Impossible) (.ref Ad.Tight)=some false
 kI_Off:W.kitOne K (.ref Ad.Impossible) (.ref Ad.Off)=some false
 kI_NoRow:W.kitOne K (.ref Ad.Impossible) (.ref Ad.NoRow)=some false
 kI_V:W.kitOne K (.ref Ad.Impossible) (.type "ValueError")=some true
 kN_Impossible:W.kitOne K (.ref Ad.NoFace) (.ref Ad.Impossible)=some false
 kN_NoFace:W.kitOne K (.ref Ad.NoFace) (.ref Ad.NoFace)=some true
 kN_NoNumber:W.kitOne K (.ref Ad.NoFace) (.ref Ad.NoNumber)=some false
 kN_NoTie:W.kitOne K (.ref Ad.NoFace) (.ref Ad.NoTie)=some false
 kN_Twice:W.kitOne K (.ref Ad.NoFace) (.ref Ad.Twice)=some false
 kN_NoName:W.kitOne K (.ref Ad.NoFace) (.ref Ad.NoName)=some false
 kN_NoPart:W.kitOne K (.ref Ad.NoFace) (.ref Ad.NoPart)=some false
 kN_NoGap:W.kitOne K (.ref Ad.NoFace) (.ref Ad.NoGap)=some false
 kN_InRing:W.kitOne K (.ref Ad.NoFace) (.ref Ad.InRing)=some false
 kN_Apart:W.kitOne K (.ref Ad.NoFace) (.ref Ad.Apart)=some false
 kN_Tight:W.kitOne K (.ref Ad.NoFace) (.ref Ad.Tight)=some false
 kN_Off:W.kitOne K (.ref Ad.NoFace) (.ref Ad.Off)=some false
 kN_NoRow:W.kitOne K (.ref Ad.NoFace) (.ref Ad.NoRow)=some false
 kN_V:W.kitOne K (.ref Ad.NoFace) (.type "ValueError")=some true
def JkJ (dl dg:D) (a b:Int):Bool:=!lessD (.tup [.int a, .int b]) dl&&!lessD dg (.tup [.int a, .int b])
def negD:D->D
 | .tup [.int a, .int b]=>.tup [.int (-a), .int b]
 | d=>d
def JdI (ds de dl dg:D):List D:=(if nonD dg then [] else [.tup [ds,de,dg, .bl true]])++(if nonD dl then [] else [.tup [de,ds,negD dl, .bl false]])
structure Bnd (K:W.Frag) (H:Hp) (d:D) (v:V):Prop where
 rep:Rep K H d v
 ok:Jcb d=true
 sz:szD d
variable {d:D}
theorem Bnd.same {K:W.Frag} (S:Same H H') (b:Bnd K H d v):Bnd K H' d v:=⟨b.rep.same S,b.ok,b.sz⟩
theorem Bnd.frac {K:W.Frag} (b:Bnd K H d v) (h:nonD d=false):∃ x y,d=.tup [.int x, .int y]/\1<=y/\Mth.g x y=1/\FrV K H v x y/\Mth.Sz 4000 x/\Mth.Sz 4000 y:=by
 have f:fracB d=true:=by have:=b.ok;cases d <;> first | exact this | (simp [nonD] at h)
 obtain ⟨x,y,rfl,e,c⟩:=JbU f;have a:=b.sz;simp only [szD,szL] at a;exact ⟨x,y,rfl,e,c,FrV.of_rep b.rep,a.1,a.2.1⟩
section
variable {K:W.Frag}
theorem repS {z:Str}:Rep K H (.str z) (.str z):=by simp only [Rep]
end
theorem Jip (t:TD):JdI (.str t.st) (.str t.en) (bD t.lo) (bD t.hi)=(Ch.steps t).map pD:=by
 unfold JdI Ch.steps fwd bwd;cases t.lo <;> cases t.hi <;> simp [bD,frD,nonD,negD,pD]
theorem Jix {K:W.Frag} {o:Option (Int × Int)} (h:BV K H o v) (k:∀ a,o=some a->FOk 600 a):Bnd K H (bD o) v:=⟨h.rep,(bD_ok k).1,(bD_ok k).2⟩
def OV (K:W.Frag) (Ad:Adr) (H:Hp) (t:TD) (v:V):Prop:=∃ C vl vg,TieV H v C (.str t.nm) (.str t.st) (.str t.en) vl vg/\IsTie Ad C/\BV K H t.lo vl/\BV K H t.hi vg
variable {Ad:Adr}
theorem OV.same {K:W.Frag} {t:TD} (S:Same H H'):OV K Ad H t v->OV K Ad H' t v:=by rintro ⟨C,vl,b,d,c,a,e⟩;exact ⟨C,vl,b,d.same S,c,a.sameT S.t,e.sameT S.t⟩
section
variable {p d:Addr} {kvs:List (Key × V)} {ts:List TD} {K:W.Frag}
def Sx (d:Addr) (H H':Hp):Prop:=∀ b u,b≠d->H b=some u->H' b=some u
theorem Same.sx (S:Same H H'):Sx d H H':=fun b u _ h=>S b u h
theorem Sx.t (S:Sx d H H') (hd:H d=some (.dK kvs)):SameT H H':=fun b u t h=>S b u (fun z=>by rw [z,hd] at h;cases h;simp [isTF] at t) h
theorem OV.sx {t:TD} (S:Sx d H H') (hd:H d=some (.dK kvs)):OV K Ad H t v->OV K Ad H' t v:=fun ⟨C,vl,c,⟨q,h,e,a⟩,f,b,g⟩=>⟨C,vl,c,⟨q,h,e,S _ _ (fun z=>by rw [z,hd] at a;cases a) a⟩,f,b.sameT (S.t hd),g.sameT (S.t hd)⟩
def BK (K:W.Frag) (Ad:Adr) (H:Hp) (p d:Addr) (ts:List TD):Prop:=(∃ dx,H p=some (.ins Ad.Book dx [("by_name", .ref d)]))/\∃ kvs,H d=some (.dK kvs)/\BD (OV K Ad H) ts kvs
theorem BK.same (S:Same H H') (h:BK K Ad H p d ts):BK K Ad H' p d ts:=by
 obtain ⟨⟨f,e⟩,a,c,b⟩:=h;exact ⟨⟨f,S _ _ e⟩,a,S _ _ c,b.mono fun _ _ z=>z.same S⟩
theorem BK.sl {l:Addr} {zs:List V} (h:BK K Ad H p d ts) (hl:H l=some (.lst zs)) (S:Sx l H H'):BK K Ad H' p d ts:=by
 obtain ⟨⟨i,g⟩,c,a,m⟩:=h;have j:SameT H H':=fun b u t h=>S b u (fun z=>by rw [z,hl] at h;cases h;simp [isTF] at t) h;refine ⟨⟨i,S _ _ (fun z=>by rw [z,hl] at g;cases g) g⟩,c,S _ _ (fun z=>by rw [z,hl] at a;cases a) a,m.mono ?_⟩;rintro t v ⟨C,vl,n,⟨q,i,e,f⟩,k,r,o⟩;exact ⟨C,vl,n,⟨q,i,e,S _ _ (fun z=>by rw [z,hl] at f;cases f) f⟩,k,r.sameT j,o.sameT j⟩
end
def SCK (Ad:Adr) (H:Hp) (x:Addr) (b:Int) (fs:List Int):Prop:=∃ dx fl,H x=some (.ins Ad.Scale dx [("bottom", .int b),("factors", .ref fl)])/\H fl=some (.lst (fs.map V.int))/\Scl b fs/\Mth.Sz 2000 b/\fs.length<=70
variable {b:Int}
theorem SCK.same {fs:List Int} (S:Same H H'):SCK Ad H x b fs->SCK Ad H' x b fs:=by rintro ⟨f,e,d,c,a⟩;exact ⟨f,e,S _ _ d,S _ _ c,a⟩
def TOb (K:W.Frag) (Ad:Adr) (H:Hp) (t:TD) (v:V):Prop:=∃ vl vg,TieV H v (kindC Ad (bD t.lo) (bD t.hi)) (.str t.nm) (.str t.st) (.str t.en) vl vg/\BV K H t.lo vl/\BV K H t.hi vg
theorem TOb.same {K:W.Frag} {t:TD} (S:Same H H'):TOb K Ad H t v->TOb K Ad H' t v:=by
 rintro ⟨vl,c,a,d,b⟩;exact ⟨vl,c,a.same S,d.sameT S.t,b.sameT S.t⟩
def SRV (K:W.Frag) (H:Hp) (s:SD) (x:V):Prop:=∃ b v,x=.ref b/\SqT K H b [.str s.nm,v]/\PV K H s v
variable {s:SD} {x:V}
theorem SRV.sameT {K:W.Frag} (S:SameT H H'):SRV K H s x->SRV K H' s x:=by
 rintro ⟨b,v,d,c,a⟩;exact ⟨b,v,d,c.sameT S,a.sameT S⟩
def SOV (K:W.Frag) (Ad:Adr) (b:Int) (H:Hp) (s:SD) (x:V):Prop:=∃ p dx vc pr,x=.ref p/\H p=some (.ins Ad.Step dx [("source", .str s.src),("target", .str s.dst),("cost",vc),("whole", .int (s.c.1*b.fdiv s.c.2)),("pair", .ref pr)])/\FrV K H vc s.c.1 s.c.2/\H pr=some (.tup [.str s.nm, .bl s.fw])
theorem SOV.same {K:W.Frag} (S:Same H H'):SOV K Ad b H s x->SOV K Ad b H' s x:=by
 rintro ⟨p,g,h,e,d,c,a,f⟩;exact ⟨p,g,h,e,d,S _ _ c,a.same S,S _ _ f⟩
def SOS (K:W.Frag) (Ad:Adr) (H:Hp) (s:SpS) (x:V):Prop:=∃ p dx vc pr,x=.ref p/\H p=some (.ins Ad.Step dx [("source", .str s.src),("target", .str s.tgt),("cost",vc),("whole", .int s.wh),("pair", .ref pr)])/\FrV K H vc s.cost.1 s.cost.2/\H pr=some (.tup [.str s.nm, .bl s.fw])
theorem SOS.same {K:W.Frag} {s:SpS} (S:Same H H'):SOS K Ad H s x->SOS K Ad H' s x:=by
 rintro ⟨p,f,g,d,c,b,a,e⟩;exact ⟨p,f,g,d,c,S _ _ b,a.same S,S _ _ e⟩
def RI (a:Int) (v:V):Prop:=v=.int a
def chV:Option Str->V
 | none=>.non
 | some f=>.str f
def RT (K:W.Frag) (H0 H:Hp) (e:(Int × Int) × List SpS) (v:V):Prop:=∃ p qv l xs,v=.ref p/\SqT K H p [qv, .ref l]/\FrV K H qv e.1.1 e.1.2/\H l=some (.lst xs)/\All2 (CV H) (e.2.map fun s=>(s.nm,s.fw)) xs/\H0 l=none
variable {H0:Hp} {e:(Int × Int) × List SpS}
theorem RT.same {K:W.Frag} (S:Same H H'):RT K H0 H e v->RT K H0 H' e v:=by
 rintro ⟨p,i,l,b,g,f,d,h,a,c⟩;exact ⟨p,i,l,b,g,f.same S,d.same S,S _ _ h,(a.mono fun _ _ z=>z.sameT S.t),c⟩
theorem RT.putL {K:W.Frag} {o:HO} {kv:List (Key × V)} (u:upd H a o=H') (h:H a=some (.dK kv)):RT K H0 H e v->RT K H0 H' e v:=by
 rintro ⟨p,k,l,d,j,i,g,b,c,f⟩;have T:SameT H H':=SameT.put u h rfl;have n:l≠a:=fun z=>by rw [z,h] at b;cases b
 exact ⟨p,k,l,d,j,i.sameT T,g.sameT T,by rw [<- u,Jag n];exact b,(c.mono fun _ _ z=>z.sameT T),f⟩
def RF (K:W.Frag) (H:Hp) (e:Int × Int) (v:V):Prop:=FrV K H v e.1 e.2
def TDk (K:W.Frag) (H0 H:Hp) (tb:Tab) (td:Addr):Prop:=∃ kt,H td=some (.dK kt)/\DV (RT K H0 H) tb kt/\H0 td=none
variable {tb:Tab} {td:Addr}
theorem TDk.same {K:W.Frag} (S:Same H H'):TDk K H0 H tb td->TDk K H0 H' tb td:=by rintro ⟨c,d,b,a⟩;exact ⟨c,S _ _ d,b.mono fun _ _ z=>z.same S,a⟩
variable {H1:Hp}
theorem RT.base {K:W.Frag} (S:Same H1 H0):RT K H0 H e v->RT K H1 H e v:=by rintro ⟨p,i,l,b,g,f,d,h,a,c⟩;exact ⟨p,i,l,b,g,f,d,h,a,Jaw S c⟩
theorem TDk.base {K:W.Frag} (S:Same H1 H0):TDk K H0 H tb td->TDk K H1 H tb td:=by rintro ⟨c,d,b,a⟩;exact ⟨c,d,b.mono fun _ _ z=>z.base S,Jaw S a⟩
theorem JkA {K:W.Frag} (h:SOV K Ad b H s x):SOS K Ad H (toS b s) x:=h
theorem JeE {K:W.Frag}:∀ {ss:List SD} {xs:List V},All2 (SOV K Ad b H) ss xs->All2 (SOS K Ad H) (ss.map (toS b)) xs
 | [],_,h=>h
 | s::ss,_,⟨x,r,e,h1,h2⟩=>⟨x,r,e,JkA h1,JeE h2⟩
structure STp (K:W.Frag) (Ad:Adr) (H:Hp) (ts:List TD) (sL:Addr):Prop where
 ex:∃ sx,SqL K H sL sx/\All2 (SOS K Ad H) (ssD ts) sx
 b1:1<=bD_ ts
 bb:∀ s∈Ch.all ts,1<=s.c.2/\s.c.2∣bD_ ts
theorem STp.same {K:W.Frag} {ts:List TD} {sL:Addr} (S:Same H H') (h:STp K Ad H ts sL):STp K Ad H' ts sL:=by
 obtain ⟨⟨b,d,c⟩,a,e⟩:=h;exact ⟨⟨b,d.same S,c.mono fun _ _ z=>z.same S⟩,a,e⟩
def PDk (K:W.Frag) (H:Hp) (pb:List (Str × (Int × Int))) (pd:Addr):Prop:=∃ kp,H pd=some (.dK kp)/\DV (RF K H) pb kp
theorem PDk.same {K:W.Frag} {pb:List (Str × (Int × Int))} {pd:Addr} (S:Same H H'):PDk K H pb pd->PDk K H' pb pd:=fun ⟨b,a,c⟩=>⟨b,S _ _ a,c.mono fun _ _ z=>FrV.same S z⟩
def ShV (K:W.Frag) (H0 H:Hp) (e:(Int × Int) × List SpS) (pl:List (Str × (Int × Int))) (q:Addr):Prop:=∃ qv l cx zl zs,H q=some (.tup [qv, .ref l, .ref zl])/\FrV K H qv e.1.1 e.1.2/\H l=some (.lst cx)/\All2 (CV H) (e.2.map fun s=>(s.nm,s.fw)) cx/\H0 l=none/\H zl=some (.lst zs)/\All2 (QV K H) pl zs/\H0 zl=none
theorem ShV.same {K:W.Frag} {pl:List (Str × (Int × Int))} {q:Addr} (S:Same H H'):ShV K H0 H e pl q->ShV K H0 H' e pl q:=by rintro ⟨n,l,k,m,h,i,g,d,j,b,c,f,a⟩;exact ⟨n,l,k,m,h,S _ _ i,g.same S,S _ _ d,(j.mono fun _ _ z=>z.sameT S.t),b,S _ _ c,(f.mono fun _ _ z=>z.sameT S.t),a⟩
section
variable {P:Program} {w:World} {mg:Str->Option Value} {K:W.Frag} {base:Heap}
seal PE PA PS PSs PT PW PG PGs PI PO
abbrev Bai:Stmt:=top 17
theorem JaI:Jan ["one","other","greater","lesser","rest"] ["one","other"] (Jad Bai):=by bv_decide
def JaJ  : Sp:=fun vs H Q E=>∃ (a b:Int),vs=[.int a, .int b]/\Q (.int (Mth.g a b)) H
theorem JcZ (F:FunD K "common_divisor" "common_divisor" Bai dV f fd) (T:Txt K mg Ad)  : FnOk P w K mg base (CX1 P w) 1 f fd ["one","other"] (JaJ):=by
 refine F.okn JaI (by subst_eqs) (fun r A d s H o Q E n h=>?_)
 obtain ⟨a,b,rfl,h⟩:=h;have k:=n.units;refine ⟨_,(Jab (Jak 2 JaI.nd (Jaz JeO rfl T.Bcl Jiy (Jaa (pv 0) Jac))) (Jab (Jak 3 JaI.nd (Jaz JeO rfl T.Bcl Jiy (Jaa (pv 1) Jac))) (Jab (Jdg PassesOwn.never (Jas (JbH k) (pv 3) Jah (Jax _)) (Jab (Jak 4 JaI.nd (pe_op Jbn (pv 2) (pv 3))) (Jab (Jak 2 JaI.nd (pv 3)) (Jaf (Jak 3 JaI.nd (pv 4)))))) (Jaf (Jao (pv 2)))))),?_⟩
 clear k;show tSeq _ _ _ [some (.int a),some (.int b),none,none,none] H;try mstop
 refine ⟨fun m σ l=>∃ (x y:Int) (z:Option V),σ=[some (.int a),some (.int b),some (.int x),some (.int y),z]/\l=H/\0<=x/\0<=y/\Mth.g x y=Mth.g a b/\y.toNat=m,⟨_,_,_,none,rfl,rfl,Mth.Jiu a,Mth.Jiu b,Mth.Bcn a b,rfl⟩,?_⟩;rintro m σ l ⟨x,y,z,rfl,rfl,t,p,j,rfl⟩;try mstop
 by_cases c:y=0
 ·subst c;rw [if_neg (by simp)];have e:Mth.g a b=x:=by rw [<- j,Mth.Jj8];ac_nf
  rw [e] at h;exact h
 ·rw [if_pos (by simp [c])];have f:=Mth.fm (x:=x) (y:=y) ∅;exact ⟨_,fun _ _ q=>q,c,(x.fmod y).toNat,by ac_nf,y,x.fmod y,_,rfl,rfl,p,f.1,by rw [Mth.Jjg ∅];exact j,rfl⟩
abbrev BbI:Stmt:=top 18
theorem JeA:Jan ["one","other","shared","top","rest"] ["one","other"] (Jad BbI):=by bv_decide
def JdH (K:W.Frag):Sp:=fun vs H Q E=>∃ (x y:V) (a b c d:Int),vs=[x,y]/\FrV K H x a b/\FrV K H y c d/\Mth.Sz 4000 a/\Mth.Sz 4000 b/\Mth.Sz 4000 c/\Mth.Sz 4000 d/\1<=b/\1<=d/\Mth.g a b=1/\Mth.g c d=1/\∀ p H',Same H H'->H' p=some (.tup [.int (Mth.top (a*d+c*b) (b*d)), .int (Mth.bot (a*d+c*b) (b*d))])->Q (.ref p) H'
theorem Jjp (F:FunD K "plus" "plus" BbI dV f fd) (T:Txt K mg Ad) (Bad:Cal P w K mg base 1 "common_divisor" ["one","other"] [] (JaJ)):FnOk P w K mg base (CX1 P w) 2 f fd ["one","other"] (JdH K):=by
 refine F.okn JeA (by subst_eqs) (fun X A l s H U Q E r h=>?_)
 obtain ⟨x,y,a,b,c,d,rfl,h⟩:=h;refine ⟨_,(Jab (Jak 2 JeA.nd (Bad.ev r ⋯ rfl passF (Jaa (pe_ix ix_U (pv 0) Jah) (Jaa (pe_ix ix_U (pv 1) Jah) Jac)))) (Jab (Jak 3 JeA.nd (pe_op Ja3 (pe_op JbZ (pe_ix ix_U (pv 0) Jah) (pe_op JaO (pe_ix ix_U (pv 1) Jah) (pv 2))) (pe_op JbZ (pe_ix ix_U (pv 1) Jah) (pe_op JaO (pe_ix ix_U (pv 0) Jah) (pv 2))))) (Jab (Jak 4 JeA.nd (Bad.ev r ⋯ rfl passF (Jaa (pv 3) (Jaa (pv 2) Jac)))) (Jaf (Jao (JaC (Jaa (pe_op JaO (pv 3) (pv 4)) (Jaa (pe_op JbZ (pe_op JaO (pe_ix ix_U (pv 0) Jah) (pv 2)) (pe_op JaO (pe_ix ix_U (pv 1) Jah) (pv 4))) Jac)))))))),?_⟩
 obtain ⟨e,j,R,C,D,m,B,I,J,M,k⟩:=h;show tSeq _ _ _ [some x,some y,none,none,none] H;try mstop
 refine ixF1 e (ixF1 j ?_);try mstop
 refine ⟨_,_,rfl,?_⟩;try mstop
 have Z:=Mth.g_pos (a:=b) (b:=d) ∅;have N:=Mth.Jdp b d;have z:=Mth.JcK b d;have q:Mth.Sz 4000 (Mth.g b d):=Nat.lt_of_le_of_lt (by have:=Mth.g_le (a:=b) (b:=d) ∅;ac_nf:(Mth.g b d).natAbs<=d.natAbs) m;have o:DivOk (Mth.g b d):=divOk ∅ q;have u:=C.fdiv N ∅;have V:=m.fdiv z ∅;refine ixF0 e (ixF1 j ?_);try mstop
 refine ⟨o,mulOk R V,ixF0 j (ixF1 e ?_)⟩;try mstop
 refine ⟨o,mulOk D u,?_⟩;refine ⟨_,_,rfl,?_⟩;have n:=Mth.JjD B I J M (s:=Mth.g b d) rfl rfl rfl;generalize ht:a*d.fdiv (Mth.g b d)+c*b.fdiv (Mth.g b d)=t at n ⊢;have Y:=Mth.g_pos (a:=t) (b:=Mth.g b d) ∅;have W:=Mth.JcK t (Mth.g b d);have O:Mth.Sz 4000 (Mth.g t (Mth.g b d)):=Nat.lt_of_le_of_lt (by have:=Mth.g_le (a:=t) (b:=Mth.g b d) ∅;ac_nf:(Mth.g t (Mth.g b d)).natAbs<=(Mth.g b d).natAbs) q;have v:DivOk (Mth.g t (Mth.g b d)):=divOk ∅ O;try mstop
 refine ⟨v,ixF1 e ?_⟩;try mstop
 refine ⟨o,ixF1 j ?_⟩;try mstop
 refine ⟨v,mulOk u (m.fdiv (Int.dvd_trans W z) ∅),len2,?_⟩;refine Jhh fun p G S L=>k p G S ?_;rw [L,n.1,n.2]
abbrev Bbt:Stmt:=top 19
theorem Jil:Jan ["one","other"] ["one","other"] (Jad Bbt):=by bv_decide
def JcO (K:W.Frag):Sp:=fun vs H Q E=>∃ (x y:V) (a b c d:Int),vs=[x,y]/\FrV K H x a b/\FrV K H y c d/\Mth.Sz 4000 a/\Mth.Sz 4000 b/\Mth.Sz 4000 c/\Mth.Sz 4000 d/\1<=b/\1<=d/\Mth.g a b=1/\Mth.g c d=1/\∀ p H',Same H H'->H' p=some (.tup [.int (Mth.top (a*d-c*b) (b*d)), .int (Mth.bot (a*d-c*b) (b*d))])->Q (.ref p) H'
theorem Jh3 (F:FunD K "minus" "minus" Bbt dV f fd) (T:Txt K mg Ad) (Bbs:Cal P w K mg base 2 "plus" ["one","other"] [] (JdH K)):FnOk P w K mg base (CX1 P w) 3 f fd ["one","other"] (JcO K):=by
 refine F.okn Jil (by subst_eqs) (fun J A e s H I Q E q h=>?_)
 obtain ⟨x,y,a,b,c,d,rfl,h⟩:=h;refine ⟨_,(Jaf (Jao (Bbs.ev q ⋯ rfl passF (Jaa (pv 0) (Jaa (JaC (Jaa (pe_un JcQ (pe_ix ix_U (pv 1) Jah)) (Jaa (pe_ix ix_U (pv 1) Jah) Jac))) Jac))))),?_⟩;obtain ⟨r,g,G,m,o,t,l,u,v,D,k⟩:=h;show tRet _ _ [some x,some y] H;try mstop
 refine ixF0 g ?_;try mstop
 refine ixF1 g ?_;try mstop
 refine ⟨len2,?_⟩;rename_i p L j H M S C;refine ⟨_,_,a,b, -c,d,rfl,r.same S,FrV.of C,G,m,o.neg,t,l,u,v,by rw [Mth.g_neg];exact D,fun n B z i=>k n B (S.trans z) ?_⟩;rw [i,Int.neg_mul, <- Int.sub_eq_add_neg]
abbrev Bbu:Stmt:=top 20
theorem Jim:Jan ["one","other"] ["one","other"] (Jad Bbu):=by bv_decide
def JeF (K:W.Frag):Sp:=fun vs H Q E=>∃ (x y:V) (a b c d:Int),vs=[x,y]/\FrV K H x a b/\FrV K H y c d/\Mth.Sz 4000 a/\Mth.Sz 4000 b/\Mth.Sz 4000 c/\Mth.Sz 4000 d/\Q (.bl (decide (a*d<c*b))) H
theorem Jh4 (F:FunD K "under" "under" Bbu dV f fd) (T:Txt K mg Ad)  : FnOk P w K mg base (CX1 P w) 1 f fd ["one","other"] (JeF K):=by
 refine F.okn Jim (by subst_eqs) (fun p A e s H o Q E q h=>?_)
 obtain ⟨x,y,a,b,c,d,rfl,h⟩:=h;refine ⟨_,(Jaf (Jao (Jce Jd7 (pe_op JbZ (pe_ix ix_U (pv 0) Jah) (pe_ix ix_U (pv 1) Jah)) (pe_op JbZ (pe_ix ix_U (pv 1) Jah) (pe_ix ix_U (pv 0) Jah)) (Jax _)))),?_⟩;obtain ⟨g,i,n,j,l,m,k⟩:=h;show tRet _ _ [some x,some y] H;try mstop
 refine ixF0 g (ixF1 i ?_);try mstop
 refine ⟨mulOk n m,ixF0 i (ixF1 g ?_)⟩;try mstop
 exact ⟨mulOk l j,k⟩
abbrev Bbb:Stmt:=top 26
theorem JgE:Jan ["thing"] ["thing"] (Jad Bbb):=by bv_decide
def Jcv (K:W.Frag):Sp:=fun vs H Q E=>∃ (x:V) (d:D),vs=[x]/\Rep K H d x/\szD d/\∀ H',Same H H'->Q (.bl (nameB d)) H'
theorem JgB (F:FunD K "is_name" "is_name" Bbb dV f fd) (T:Txt K mg Ad)  : FnOk P w K mg base (CX1 P w) 1 f fd ["thing"] (Jcv K):=by
 refine F.okn JgE (by subst_eqs) (fun I A b s H C Q E L h=>?_)
 obtain ⟨x,d,rfl,h⟩:=h;refine ⟨_,(Jab (ps_if (Jcx (Jcf (Jaz JaN rfl T.Bac Jaj (Jaa (pv 0) (Jaa (Jcd (v:=.ty "str") rfl T.Bcq Jj0 rfl) Jac))))) (Jaf (Jao pe_bl))
   Jau) (Jab (ps_if (PW.pt (pw_or (Jas Jd7 (Jaz JaY rfl T.Bbx Jb4 (Jaa (pv 0) Jac)) Jah (Jax _)) (JbK (Jas JiQ (Jaz JaY rfl T.Bbx Jb4 (Jaa (pv 0) Jac)) (JaB (v:=.int 8) rfl T.BbG T.BbH) (Jax _))))) (Jaf (Jao pe_bl))
   Jau) (Jaf (Jao (Jaz (JgP rfl) rfl T.Bco JjX (Jaa (Jcu (own:=["sign"]) (cs:=[]) rfl (Jks (pv 0)) (fun _ _ _ _=>(Jav 0 (show [("sign" : Str)].Nodup by decide))) (fun _ _ _ _=>(Jce (Jkm (K:=K) rfl) (pv 0) (JaB (v:=.str "abcdefghijklmnopqrstuvwxyz") rfl T.Bby T.Bbz) (by with_unfolding_all rfl))) (Jd5 rfl) ⋯ rfl ⋯ hcs0) Jac)))))),?_⟩
 obtain ⟨j,t,k⟩:=h;show tSeq _ _ _ [some x] H;try mstop
 refine ⟨_,j.tyN,?_⟩;by_cases a:∃ z,d=.str z
 ·obtain ⟨z,rfl⟩:=a;simp only [Rep] at j;subst j;simp only [szD] at t;simpa only [tyD];have r:z.length<=sizeLine:=Nat.le_trans t ⋯;simp only [nameB,nameS] at k;refine ⟨r,?_⟩;try mstop
  by_cases U:z.length<1
  ·rw [if_pos (by simp;ac_nf)];have e:decide (1<=z.length)=false:=by simp;ac_nf
   rw [e] at k;exact k H (.refl H)
  ·rw [if_neg (by simp;ac_nf)];have e:decide (1<=z.length)=true:=by simp;ac_nf
   rw [e] at k;refine ⟨r,?_⟩;try mstop
   by_cases M:8<z.length
   ·rw [if_pos (by simp;ac_nf)];have e:decide (z.length<=8)=false:=by simp;ac_nf
    rw [e] at k;exact k H (.refl H)
   ·rw [if_neg (by simp;ac_nf)];have e:decide (z.length<=8)=true:=by simp;ac_nf
    rw [e] at k;try mstop
    simpa only [tComp,iStr];refine ⟨fun i m o l=>l=H/\i<=z.cps.size/\m=z.cps.size-i/\o=(z.cps.toList.take i).map fun c=>V.bl (lowB c),⟨_,rfl,Nat.zero_le _,rfl,by simp⟩,?_⟩;rintro i m o l ⟨rfl,O,rfl,rfl⟩;have J:z.cps.size=z.length:=rfl;refine ⟨by simp;ac_nf,?_⟩;by_cases g:i<z.cps.size
    ·refine .inr ⟨g,?_⟩;rintro x q ⟨rfl,c,B,rfl⟩;simpa only [length_singleton,List.replicate,JaZ,map_nil,y62y,Jgv];refine ⟨_,Nat.sub_lt_sub_left g (Nat.lt_succ_self i),g,rfl,?_⟩;have n:z.cps.toList[i]?=some c:=by simpa using B
     rw [take_succ,n];simp
    ·have u:i=z.cps.size:=by ac_nf
     refine .inl ⟨u,?_⟩;subst u;rw [take_of_length_le (by simp)];rename_i p R N l q S y;refine ⟨p,z.cps.toList.map lowB,rfl,SqL.of (by rw [y,map_map];rfl),?_⟩;have:=k q S;simpa [List.all_map] using this
 ·have G:nameB d=false:=by cases d <;> first | rfl | exact absurd ⟨_,rfl⟩ a
  rw [G] at k;have D:isiB (tyD d) "str"=false:=by cases d <;> first | rfl | exact absurd ⟨_,rfl⟩ a
  simpa only [D];exact k H (.refl H)
abbrev BaW:Stmt:=top 27
theorem JfQ:Jan ["thing"] ["thing"] (Jad BaW):=by bv_decide
def JcF (K:W.Frag):Sp:=fun vs H Q E=>∃ (x:V) (d:D),vs=[x]/\Rep K H d x/\Q (.bl (Jc6 d)) H
theorem JfH (F:FunD K "is_whole" "is_whole" BaW dV f fd) (T:Txt K mg Ad)  : FnOk P w K mg base (CX1 P w) 1 f fd ["thing"] (JcF K):=by
 refine F.okn JfQ (by subst_eqs) (fun e A b s H g Q E i h=>?_)
 obtain ⟨x,d,rfl,h⟩:=h;refine ⟨_,(Jaf (Jao (Jea (Jaz JaN rfl T.Bac Jaj (Jaa (pv 0) (Jaa (Jcd (v:=.ty "int") rfl T.Bcp JjY rfl) Jac))) (Jfc (JiS (Jaz JaN rfl T.Bac Jaj (Jaa (pv 0) (Jaa (Jcd (v:=.ty "bool") rfl T.Bcm Ji5 rfl) Jac)))))))),?_⟩;obtain ⟨c,k⟩:=h;show tRet _ _ [some x] H;try mstop
 refine ⟨_,c.tyN,?_⟩;have a:=c.tyN;cases d <;> simp only [tyD,Jc6,y8by,y52y,y53y,y54y,y78y,y2by,y73y,y87y,y88y,y49y,y2fy,y7fy,y9fy,y31y,y3ey,y79y,y30y,y92y,y23y,y29y,y80y,y7by,y2ay,y81y,y7dy,y60y,ya1y,y26y,y90y,y77y,y70y,y4ey,y6fy,y84y,y34y,y4cy,y75y,y4dy,y76y,y4by,y74y,y9ay,y6ay,y66y,y9cy,y9ey,y9by,y9dy,y25y,y6ey,y24y,true_and,if_true,if_false,Bool.not_true,Bool.not_false,Bool.false_eq_true,yby,ydy,yay,ycy,yey,y15y,y17y,y14y,y16y,y18y,y6y,y8y,y5y,y7y,y9y,y1y,y3y,y0y,y2y,y4y,y10y,y12y,yfy,y11y,y13y,y1ay,y1cy,y19y,y1by,y1dy,y1fy,y21y,y1ey,y20y,y22y,y8ey,y83y,y7ay,y96y,ya2y,y85y,y27y,V.int.injEq,V.str.injEq,List.set_cons_zero,List.set_cons_succ,List.getElem?_cons_zero,List.getElem?_cons_succ,Option.some.injEq,exists_eq_left,exists_eq_left',V.bl.injEq,Int.reduceToNat,Int.reducePow,append_nil,nil_append,cons_append,y5cy,y5ey,y2dy,y2ey,y71y,y65y,y7cy,y6by,y6dy,y3fy,y48y,y43y,y82y,y44y,y35y,y37y,y3cy,y42y,y46y,y57y,y59y,y61y,y3ay,y94y,y38y,y39y,y55y,y56y,ya0y,y99y,y95y,y47y,y86y,y6cy,y2cy,y8dy,y50y,ya5y,y89y,y97y,reduceCtorEq,decide_false,decide_true] at k a ⊢ <;> first | exact k | exact ⟨_,a,by simpa only [y8by,y52y,y53y,y54y,y78y,y2by,y73y,y87y,y88y,y49y,y2fy,y7fy,y9fy,y31y,y3ey,y79y,y30y,y92y,y23y,y29y,y80y,y7by,y2ay,y81y,y7dy,y60y,ya1y,y26y,y90y,y77y,y70y,y4ey,y6fy,y84y,y34y,y4cy,y75y,y4dy,y76y,y4by,y74y,y9ay,y6ay,y66y,y9cy,y9ey,y9by,y9dy,y25y,y6ey,y24y,true_and,if_true,if_false,Bool.not_true,Bool.not_false,Bool.false_eq_true,yby,ydy,yay,ycy,yey,y15y,y17y,y14y,y16y,y18y,y6y,y8y,y5y,y7y,y9y,y1y,y3y,y0y,y2y,y4y,y10y,y12y,yfy,y11y,y13y,y1ay,y1cy,y19y,y1by,y1dy,y1fy,y21y,y1ey,y20y,y22y,y8ey,y83y,y7ay,y96y,ya2y,y85y,y27y,V.int.injEq,V.str.injEq,List.set_cons_zero,List.set_cons_succ,List.getElem?_cons_zero,List.getElem?_cons_succ,Option.some.injEq,exists_eq_left,exists_eq_left',V.bl.injEq,Int.reduceToNat,Int.reducePow,append_nil,nil_append,cons_append,y5cy,y5ey,y2dy,y2ey,y71y,y65y,y7cy,y6by,y6dy,y3fy,y48y,y43y,y82y,y44y,y35y,y37y,y3cy,y42y,y46y,y57y,y59y,y61y,y3ay,y94y,y38y,y39y,y55y,y56y,ya0y,y99y,y95y,y47y,y86y,y6cy,y2cy,y8dy,y50y,ya5y,y89y,y97y,reduceCtorEq,decide_false,decide_true] using k⟩
abbrev Bav:Stmt:=top 28
theorem JdT:Jan ["thing"] ["thing"] (Jad Bav):=by bv_decide
def JbP (K:W.Frag):Sp:=fun vs H Q E=>∃ (x:V) (d:D),vs=[x]/\Rep K H d x/\Q (.bl (fracB d)) H
theorem JdN (F:FunD K "is_fraction" "is_fraction" Bav dV f fd) (T:Txt K mg Ad) (Bbj:Cal P w K mg base 1 "is_whole" ["thing"] [] (JcF K)) (Bad:Cal P w K mg base 1 "common_divisor" ["one","other"] [] (JaJ)):FnOk P w K mg base (CX1 P w) 2 f fd ["thing"] (JbP K):=by
 refine F.okn JdT (by subst_eqs) (fun J A n s H D Q E b h=>?_)
 obtain ⟨x,d,rfl,h⟩:=h;have u:=b.units;refine ⟨_,(Jab (ps_if (PW.pt (pw_or (Jcx (Jcf (Jaz JaN rfl T.Bac Jaj (Jaa (pv 0) (Jaa (Jcd (v:=.ty "tuple") rfl T.Bcb JfY rfl) Jac))))) (JbK (Jas (JbH u) (Jaz JaY rfl T.Bbx Jb4 (Jaa (pv 0) Jac)) Jah (Jax _))))) (Jaf (Jao pe_bl))
   Jau) (Jab (ps_if (PW.pt (pw_or (Jcx (Jcf (Bbj.ev b ⋯ rfl passF (Jaa (pe_ix ix_U (pv 0) Jah) Jac)))) (JbK (Jcx (Jcf (Bbj.ev b ⋯ rfl passF (Jaa (pe_ix ix_U (pv 0) Jah) Jac))))))) (Jaf (Jao pe_bl))
   Jau) (Jaf (Jao (Jea (Jce Jkl (pe_ix ix_U (pv 0) Jah) Jah (Jax _)) (Jfc (Jce (Jb7 u) (Bad.ev b ⋯ rfl passF (Jaa (pe_ix ix_U (pv 0) Jah) (Jaa (pe_ix ix_U (pv 0) Jah) Jac))) Jah (Jax _)))))))),?_⟩
 clear u;obtain ⟨q,k⟩:=h;show tSeq _ _ _ [some x] H;try mstop
 refine ⟨_,q.tyN,?_⟩;by_cases y:∃ m,d=.tup m
 ·obtain ⟨m,rfl⟩:=y;simpa only [tyD];simp only [Rep] at q;obtain ⟨a,B,rfl,l,b⟩:=q;have N:=b.length;refine ⟨B, .inr l,?_⟩;try mstop
  by_cases z:m.length=2
  ·match m,z with
   | [d0,d1],_=>
    simp only [RepL] at b;obtain ⟨I,L,rfl,t,C,M,rfl,o,rfl⟩:=b;simpa only [length_cons,length_nil];rw [if_neg (by simp)];try mstop
    refine ixT0 l ?_;refine ⟨I,d0,rfl,t,?_⟩;try mstop
    by_cases r:Jc6 d0=true
    ·rw [if_neg (by simp [r])];refine ixT1 l ?_;refine ⟨C,d1,rfl,o,?_⟩;try mstop
     by_cases p:Jc6 d1=true
     ·rw [if_neg (by simp [p])];obtain ⟨i,rfl⟩:∃ i,d0=.int i:=by cases d0 <;> simp [Jc6] at r;exact ⟨_,rfl⟩
      obtain ⟨j,rfl⟩:∃ j,d1=.int j:=by cases d1 <;> simp [Jc6] at p;exact ⟨_,rfl⟩
      simp only [Rep] at t o;subst t o;simp only [fracB] at k;try mstop
      refine ixT1 l ?_;try mstop
      by_cases c:1<=j
      ·rw [if_pos (by simpa using c)];refine ixT0 l (ixT1 l ?_);refine ⟨_,_,rfl,?_⟩;try mstop
       simpa [c] using k
      ·rw [if_neg (by simpa using c)];simpa [c] using k
     ·rw [if_pos (by simp [p])];try mstop
      have g:fracB (.tup [d0,d1])=false:=by cases d0 <;> cases d1 <;> simp_all [fracB,Jc6]
      rw [g] at k;exact k
    ·rw [if_pos (by simp [r])];try mstop
     have g:fracB (.tup [d0,d1])=false:=by cases d0 <;> cases d1 <;> simp_all [fracB,Jc6]
     rw [g] at k;exact k
  ·rw [if_pos (by simp;ac_nf)];have g:fracB (.tup m)=false:=by
    unfold fracB;split
    ·rename_i e;cases e;simp at z
    ·rfl
   rw [g] at k;exact k
 ·have g:fracB d=false:=by cases d <;> first | rfl | exact absurd ⟨_,rfl⟩ y
  rw [g] at k;have G:isiB (tyD d) "tuple"=false:=by cases d <;> first | rfl | exact absurd ⟨_,rfl⟩ y
  simpa only [G];exact k
abbrev BaX:Stmt:=top 29
theorem JfP:Jan ["thing"] ["thing"] (Jad BaX):=by bv_decide
def JcE (K:W.Frag):Sp:=fun vs H Q E=>∃ (x:V) (d:D),vs=[x]/\Rep K H d x/\Q (.bl (Jcb d)) H
theorem JfG (F:FunD K "is_bound" "is_bound" BaX dV f fd) (T:Txt K mg Ad) (Bbc:Cal P w K mg base 2 "is_fraction" ["thing"] [] (JbP K)):FnOk P w K mg base (CX1 P w) 3 f fd ["thing"] (JcE K):=by
 refine F.okn JfP (by subst_eqs) (fun g A b s H i Q E l h=>?_)
 obtain ⟨x,d,rfl,h⟩:=h;refine ⟨_,(Jaf (Jao (pe_or (Jce JbO (pv 0) Ja2 (Jax _)) (Jfc (Bbc.ev l ⋯ rfl passF (Jaa (pv 0) Jac)))))),?_⟩;obtain ⟨a,k⟩:=h;show tRet _ _ [some x] H;try mstop
 by_cases c:d=.non
 ·subst c;simp only [Rep] at a;subst a;simpa only [decide_true];exact k
 ·have j:x≠.non:=by
   rintro rfl;cases d <;> simp [Rep] at a
   exact c rfl
  rw [if_neg (by simpa using j)];have e:Jcb d=fracB d:=by cases d <;> first | rfl | exact absurd rfl c
  rw [e] at k;exact ⟨x,d,rfl,a,k⟩
abbrev BaL:Stmt:=top 30
theorem Jfi:Jan ["one","other"] ["one","other"] (Jad BaL):=by bv_decide
def Jcm (K:W.Frag):Sp:=fun vs H Q E=>∃ (x y:V) (d e:D),vs=[x,y]/\Rep K H d x/\Rep K H e y/\szD d/\szD e/\∀ H',Same H H'->Q (.bl (Jd3 d e)) H'
theorem Je6 (F:FunD K "are_faces" "are_faces" BaL dV f fd) (T:Txt K mg Ad) (Ba5:Cal P w K mg base 1 "is_name" ["thing"] [] (Jcv K)):FnOk P w K mg base (CX1 P w) 2 f fd ["one","other"] (Jcm K):=by
 refine F.okn Jfi (by subst_eqs) (fun B A j s H u Q E i h=>?_)
 obtain ⟨x,y,d,e,rfl,h⟩:=h;have p:=i.units;refine ⟨_,(Jaf (Jao (Jea (Ba5.ev i ⋯ rfl passF (Jaa (pv 0) Jac)) (Jea (Ba5.ev i ⋯ rfl passF (Jaa (pv 1) Jac)) (Jfc (Jce (JbH p) (pv 0) (pv 1) (Jax _))))))),?_⟩;clear p;obtain ⟨m,q,v,r,k⟩:=h;show tRet _ _ [some x,some y] H;try mstop
 refine ⟨x,d,rfl,m,v,fun t c=>?_⟩;try mstop
 unfold Jd3 at k;by_cases a:nameB d=true
 ·rw [if_pos a];refine ⟨y,e,rfl,q.same c,r,fun o n=>?_⟩;try mstop
  by_cases b:nameB e=true
  ·rw [if_pos b];obtain ⟨z,rfl,_⟩:=Jd6 a;obtain ⟨C,rfl,_⟩:=Jd6 b;have l:=m.str;have g:=q.str;subst l g;try mstop
   have:=k o (c.trans n);rw [a,b] at this;simpa [eqD,BEq.beq] using this
  ·rw [if_neg b];have:=k o (c.trans n);have g:nameB e=false:=by simpa using b
   rw [a,g] at this;exact this
 ·rw [if_neg a];have:=k t c;have l:nameB d=false:=by simpa using a
  rw [l] at this;exact this
abbrev BaG:Stmt:=top 31
theorem Jez:Jan ["least","greatest"] ["least","greatest"] (Jad BaG):=by bv_decide
def Jb2 (K:W.Frag):Sp:=fun vs H Q E=>∃ (x y:V) (d e:D),vs=[x,y]/\Rep K H d x/\Rep K H e y/\szD d/\szD e/\Q (.bl (Jdk d e)) H
theorem Jer (F:FunD K "are_bounds" "are_bounds" BaG dV f fd) (T:Txt K mg Ad) (Bbk:Cal P w K mg base 3 "is_bound" ["thing"] [] (JcE K)) (Bb0:Cal P w K mg base 1 "under" ["one","other"] [] (JeF K)):FnOk P w K mg base (CX1 P w) 4 f fd ["least","greatest"] (Jb2 K):=by
 refine F.okn Jez (by subst_eqs) (fun C A n s H z Q E m h=>?_)
 obtain ⟨x,y,d,e,rfl,h⟩:=h;refine ⟨_,(Jab (ps_if (PW.pt (pw_or (Jcx (Jcf (Bbk.ev m ⋯ rfl passF (Jaa (pv 0) Jac)))) (JbK (Jcx (Jcf (Bbk.ev m ⋯ rfl passF (Jaa (pv 1) Jac))))))) (Jaf (Jao pe_bl))
   Jau) (Jab (ps_if (PW.pt (pw_or (Jas JbO (pv 0) Ja2 (Jax _)) (JbK (Jas JbO (pv 1) Ja2 (Jax _))))) (Jaf (Jao pe_bl))
   Jau) (Jaf (Jao (JiS (Bb0.ev m ⋯ rfl passF (Jaa (pv 1) (Jaa (pv 0) Jac)))))))),?_⟩
 obtain ⟨o,q,p,l,k⟩:=h;show tSeq _ _ _ [some x,some y] H;try mstop
 unfold Jdk at k;refine ⟨x,d,rfl,o,?_⟩;try mstop
 by_cases c:Jcb d=true
 ·rw [if_neg (by simp [c])];refine ⟨y,e,rfl,q,?_⟩;try mstop
  by_cases g:Jcb e=true
  ·rw [if_neg (by simp [g])];simpa only [o.nonV,q.nonV];rw [c,g] at k;by_cases i:d=.non
   ·rw [if_pos (by simp [i,nonD])];try mstop
    have : lessD e d=false:=by subst i;unfold lessD;split <;> first | rfl | simp_all
    rw [this] at k;exact k
   ·rw [if_neg (by simp [Jhj i])];by_cases j:e=.non
    ·rw [if_pos (by simp [j,nonD])];try mstop
     have : lessD e d=false:=by subst j;rfl
     rw [this] at k;exact k
    ·rw [if_neg (by simp [Jhj j])];try mstop
     have u:fracB d=true:=by cases d <;> first | exact c | exact absurd rfl i
     have B:fracB e=true:=by cases e <;> first | exact g | exact absurd rfl j
     obtain ⟨a,b,rfl,_,_⟩:=JbU u;obtain ⟨D,t,rfl,_,_⟩:=JbU B;simp only [szD,szL] at p l;refine ⟨y,x,D,t,a,b,rfl,FrV.of_rep q,FrV.of_rep o,l.1,l.2.1,p.1,p.2.1,?_⟩;try mstop
     simpa [lessD] using k
  ·rw [if_pos (by simp [g])];try mstop
   have r:Jcb e=false:=by simpa using g
   rw [c,r] at k;exact k
 ·rw [if_pos (by simp [c])];try mstop
  have v:Jcb d=false:=by simpa using c
  rw [v] at k;exact k
abbrev Bbl:Stmt:=top 32
theorem JhC:Jan ["thing"] ["thing"] (Jad Bbl):=by bv_decide
def JdG (K:W.Frag):Sp:=fun vs H Q E=>∃ (x:V) (d:D),vs=[x]/\Rep K H d x/\szD d/\∀ H',Same H H'->Q (.bl (tieB d)) H'
theorem Jhl (F:FunD K "is_tie" "is_tie" Bbl dV f fd) (T:Txt K mg Ad) (Ba5:Cal P w K mg base 1 "is_name" ["thing"] [] (Jcv K)) (Bbo:Cal P w K mg base 2 "are_faces" ["one","other"] [] (Jcm K)) (Bbh:Cal P w K mg base 4 "are_bounds" ["least","greatest"] [] (Jb2 K)):FnOk P w K mg base (CX1 P w) 5 f fd ["thing"] (JdG K):=by
 refine F.okn JhC (by subst_eqs) (fun a0 A o s H Y Q E c h=>?_)
 obtain ⟨x,d,rfl,h⟩:=h;have y:=c.units;refine ⟨_,(Jab (ps_if (PW.pt (pw_or (Jcx (Jcf (Jaz JaN rfl T.Bac Jaj (Jaa (pv 0) (Jaa (Jcd (v:=.ty "tuple") rfl T.Bcb JfY rfl) Jac))))) (JbK (Jas (JbH y) (Jaz JaY rfl T.Bbx Jb4 (Jaa (pv 0) Jac)) Jah (Jax _))))) (Jaf (Jao pe_bl))
   Jau) (Jaf (Jao (Jea (Ba5.ev c ⋯ rfl passF (Jaa (pe_ix ix_U (pv 0) Jah) Jac)) (Jea (Bbo.ev c ⋯ rfl passF (Jaa (pe_ix ix_U (pv 0) Jah) (Jaa (pe_ix ix_U (pv 0) Jah) Jac))) (Jfc (Bbh.ev c ⋯ rfl passF (Jaa (pe_ix ix_U (pv 0) Jah) (Jaa (pe_ix ix_U (pv 0) Jah) Jac))))))))),?_⟩
 clear y;obtain ⟨p,z,k⟩:=h;show tSeq _ _ _ [some x] H;try mstop
 refine ⟨_,p.tyN,?_⟩;by_cases r:∃ l,d=.tup l
 ·obtain ⟨l,rfl⟩:=r;simpa only [tyD];simp only [Rep] at p;obtain ⟨a,B,rfl,j,c⟩:=p;have hl:=c.length;refine ⟨B, .inr j,?_⟩;try mstop
  by_cases u:l.length=5
  ·match l,u with
   | [d0,d1,d2,d3,d4],_=>
    simp only [RepL] at c;obtain ⟨v0,r0,rfl,Z,M,r1,rfl,L,G,r2,rfl,D,I,r3,rfl,C,v4,r4,rfl,N,rfl⟩:=c;simp only [szD,szL] at z;obtain ⟨W,V,s2,U,X,_⟩:=z;simp only [tieB] at k;simpa only [length_cons,length_nil];rw [if_neg (by simp)];try mstop
    refine ixT (i:=0) j rfl ?_;refine ⟨v0,d0,rfl,Z,W,fun O g=>?_⟩;try mstop
    by_cases m:nameB d0=true
    ·rw [if_pos m];rw [m] at k;refine ixT (i:=1) (j.same g) rfl ?_;refine ixT (i:=2) (j.same g) rfl ?_;refine ⟨M,G,d1,d2,rfl,L.same g,D.same g,V,s2,fun t R=>?_⟩;try mstop
     have b:=g.trans R;by_cases n:Jd3 d1 d2=true
     ·rw [if_pos n];rw [n] at k;refine ixT (i:=3) (j.same b) rfl ?_;refine ixT (i:=4) (j.same b) rfl ?_;exact ⟨I,v4,d3,d4,rfl,C.same b,N.same b,U,X,k t b⟩
     ·rw [if_neg n];have S:Jd3 d1 d2=false:=by simpa using n
      rw [S] at k;exact k t b
    ·rw [if_neg m];have J:nameB d0=false:=by simpa using m
     rw [J] at k;exact k O g
  ·rw [if_pos (by simp;ac_nf)];have q:tieB (.tup l)=false:=by
    unfold tieB;split
    ·rename_i e;cases e;simp at u
    ·rfl
   rw [q] at k;try mstop
   exact k H (.refl H)
 ·have q:tieB d=false:=by cases d <;> first | rfl | exact absurd ⟨_,rfl⟩ r
  rw [q] at k;have et:isiB (tyD d) "tuple"=false:=by cases d <;> first | rfl | exact absurd ⟨_,rfl⟩ r
  simpa only [et];exact k H (.refl H)
abbrev Bar:Stmt:=inClass (top 33) 0
theorem JdE:Jan ["self","row"] ["self","row"] (Jad Bar):=by bv_decide
def Jay (K:W.Frag):Sp:=fun vs H Q E=>∃ (x C dx a:Addr) (n st en l g:V),vs=[.ref x, .ref a]/\H x=some (.ins C dx [])/\TieC K C/\SqT K H a [n,st,en,l,g]/\∀ H',H' x=some (.ins C dx (tieF n st en l g))->(∀ b,b≠x->H' b=H b)->Q .non H'
theorem Jdz (F:FunD K "__init__" "Tie.__init__" Bar dV f fd) (T:Txt K mg Ad)  : FnOk P w K mg base (CX1 P w) 1 f fd ["self","row"] (Jay K):=by
 refine F.okn JdE (by subst_eqs) (fun S A u s H M Q E U h=>?_)
 obtain ⟨x,C,d,a,n,j,q,l,g,rfl,h⟩:=h;refine ⟨_,(Jab (JbJ (pv 0) (pe_ix ix_U (pv 1) Jah) rfl) (Jab (JbJ (pv 0) (pe_ix ix_U (pv 1) Jah) rfl) (Jab (JbJ (pv 0) (pe_ix ix_U (pv 1) Jah) rfl) (Jab (JbJ (pv 0) (pe_ix ix_U (pv 1) Jah) rfl) (Jaf (JbJ (pv 0) (pe_ix ix_U (pv 1) Jah) rfl)))))),?_⟩
 obtain ⟨z,e,t,k⟩:=h;show tSeq _ _ _ [some (.ref x),some (.ref a)] H;try cutsat
 refine ixT (i:=0) t rfl ?_;try cutsat
 refine ⟨x,C,d,_,rfl,z,e.cls,e.n1,by simp,?_⟩;have o:=SqT.put (fs':=putF "name" n []) z t;generalize u1:upd H x _=H1 at o ⊢;have B:H1 x=some (.ins C d [("name",n)]):=by rw [<- u1];exact Jaq.trans rfl
 have L:∀ b,b≠x->H1 b=H b:=fun b c=>by rw [<- u1,Jag c]
 try cutsat
 refine ixT (i:=1) o rfl ?_;try cutsat
 refine ⟨x,C,d,_,rfl,B,e.cls,e.n2,by simp,?_⟩;have p:=SqT.put (fs':=putF "start" j [("name",n)]) B o;generalize u2:upd H1 x _=H2 at p ⊢;have y:H2 x=some (.ins C d [("name",n),("start",j)]):=by rw [<- u2];exact Jaq.trans rfl
 have I:∀ b,b≠x->H2 b=H1 b:=fun b c=>by rw [<- u2,Jag c]
 try cutsat
 refine ixT (i:=2) p rfl ?_;try cutsat
 refine ⟨x,C,d,_,rfl,y,e.cls,e.n3,by simp,?_⟩;have m:=SqT.put (fs':=putF "end" q [("name",n),("start",j)]) y p;generalize u3:upd H2 x _=H3 at m ⊢;have D:H3 x=some (.ins C d [("name",n),("start",j),("end",q)]):=by rw [<- u3];exact Jaq.trans rfl
 have J:∀ b,b≠x->H3 b=H2 b:=fun b c=>by rw [<- u3,Jag c]
 try cutsat
 refine ixT (i:=3) m rfl ?_;try cutsat
 refine ⟨x,C,d,_,rfl,D,e.cls,e.n4,by simp,?_⟩;have r:=SqT.put (fs':=putF "least" l [("name",n),("start",j),("end",q)]) D m;generalize u4:upd H3 x _=H4 at r ⊢;have G:H4 x=some (.ins C d [("name",n),("start",j),("end",q),("least",l)]):=by rw [<- u4];exact Jaq.trans rfl
 have N:∀ b,b≠x->H4 b=H3 b:=fun b c=>by rw [<- u4,Jag c]
 try cutsat
 refine ixT (i:=4) r rfl ?_;try cutsat
 refine ⟨x,C,d,_,rfl,G,e.cls,e.n5,by simp,?_⟩;have v:=SqT.put (fs':=putF "greatest" g [("name",n),("start",j),("end",q),("least",l)]) G r;generalize u5:upd H4 x _=H5 at v ⊢;have R:H5 x=some (.ins C d [("name",n),("start",j),("end",q),("least",l),("greatest",g)]):=by rw [<- u5];exact Jaq.trans rfl
 have O:∀ b,b≠x->H5 b=H4 b:=fun b c=>by rw [<- u5,Jag c]
 try cutsat
 exact k H5 R fun b c=>by rw [O b c,N b c,J b c,I b c,L b c]
abbrev BaM:Stmt:=inClass (top 33) 1
theorem Jfh:Jan ["self"] ["self"] (Jad BaM):=by bv_decide
def Jck (K:W.Frag) (Ad:Adr):Sp:=fun vs H Q E=>∃ (v:V) (C:Addr) (n st en l g:V),vs=[v]/\TieV H v C n st en l g/\IsTie Ad C/\∀ p H',Same H H'->H' p=some (.tup [n,st,en,l,g])->Q (.ref p) H'
theorem Je4 (F:FunD K "plain" "Tie.plain" BaM dV f fd) (T:Txt K mg Ad)  : FnOk P w K mg base (CX1 P w) 1 f fd ["self"] (Jck K Ad):=by
 refine F.okn Jfh (by subst_eqs) (fun t A d s H o Q E x h=>?_)
 obtain ⟨v,C,n,i,j,l,g,rfl,h⟩:=h;refine ⟨_,(Jaf (Jao (JaC (Jaa (Jat (pv 0) rfl) (Jaa (Jat (pv 0) rfl) (Jaa (Jat (pv 0) rfl) (Jaa (Jat (pv 0) rfl) (Jaa (Jat (pv 0) rfl) Jac)))))))),?_⟩;obtain ⟨u,r,k⟩:=h;obtain ⟨p,b,rfl,c⟩:=u;have a:=T.tie C r;show tRet _ _ [some (.ref p)] H;mstart;refine ⟨p,C,b,_,n,rfl,c,a.cls,a.n1,rfl,?_⟩;refine ⟨p,C,b,_,i,rfl,c,a.cls,a.n2,rfl,?_⟩;refine ⟨p,C,b,_,j,rfl,c,a.cls,a.n3,rfl,?_⟩;refine ⟨p,C,b,_,l,rfl,c,a.cls,a.n4,rfl,?_⟩;refine ⟨p,C,b,_,g,rfl,c,a.cls,a.n5,rfl,?_⟩;try mstop
 refine ⟨len5,?_⟩;exact Jhh fun q m S e=>k q m S e
abbrev Bbm:Stmt:=top 39
theorem JdF:Jan ["thing","least","greatest"] ["thing"] (Jad Bbm):=by bv_decide
def JcP (K:W.Frag) (Ad:Adr):Sp:=fun vs H Q E=>∃ (x:V) (d:D),vs=[x]/\Rep K H d x/\szD d/\(tieB d=false->∀ H',Same H H'->E (.ref Ad.NoTie) none H')/\(tieB d=true->∃ (a:Addr) (n s e l g:D) (vn vs ve vl vg:V),x=.ref a/\SqT K H a [vn,vs,ve,vl,vg]/\d=.tup [n,s,e,l,g]/\Rep K H l vl/\Rep K H g vg/\∀ v H',Same H H'->TieV H' v (kindC Ad l g) vn vs ve vl vg->Q v H')
theorem Jhm (F:FunD K "tie_of" "tie_of" Bbm dV f fd) (T:Txt K mg Ad) (BbN:Cal P w K mg base 5 "is_tie" ["thing"] [] (JdG K)) (k_Free:KCal P w K mg base 1 "Free" Ad.Free ["self","row"] (Jay K)) (k_AtLeast:KCal P w K mg base 1 "AtLeast" Ad.AtLeast ["self","row"] (Jay K)) (k_AtMost:KCal P w K mg base 1 "AtMost" Ad.AtMost ["self","row"] (Jay K)) (k_Just:KCal P w K mg base 1 "Just" Ad.Just ["self","row"] (Jay K)) (k_Between:KCal P w K mg base 1 "Between" Ad.Between ["self","row"] (Jay K)):FnOk P w K mg base (CX1 P w) 6 f fd ["thing"] (JcP K Ad):=by
 refine F.okx JdF (fun C H Q E h=>?_) (fun a0 A W s H C Q E z h=>?_)
 ·obtain ⟨x,d,rfl,_⟩:=h;rfl
 obtain ⟨x,d,rfl,h⟩:=h;have X:=z.units;refine ⟨_,(Jab (ps_if (Jcx (Jcf (BbN.ev z ⋯ rfl pass1 (Jaa (pv 0) Jac)))) (Jaf (Jev PySem.F.excBase_ValueError T.x_NoTie rfl T.m_NoTie (Jaa Jbz Jac)))
   Jau) (Jab (Jak 1 JdF.nd (pe_ix ix_U (pv 0) Jah)) (Jab (Jak 2 JdF.nd (pe_ix ix_U (pv 0) Jah)) (Jab (ps_if (PW.pt (Jhw (Jas JbO (pv 1) Ja2 (Jax _)) (JfM (Jas JbO (pv 2) Ja2 (Jax _))))) (Jaf (Jao (k_Free.ev z ⋯ rfl pass1 (Jaa (pv 0) Jac))))
   Jau) (Jab (ps_if (Jas JbO (pv 2) Ja2 (Jax _)) (Jaf (Jao (k_AtLeast.ev z ⋯ rfl pass1 (Jaa (pv 0) Jac))))
   Jau) (Jab (ps_if (Jas JbO (pv 1) Ja2 (Jax _)) (Jaf (Jao (k_AtMost.ev z ⋯ rfl pass1 (Jaa (pv 0) Jac))))
   Jau) (Jab (ps_if (Jas (Jb7 X) (pv 1) (pv 2) (Jax _)) (Jaf (Jao (k_Just.ev z ⋯ rfl pass1 (Jaa (pv 0) Jac))))
   Jau) (Jaf (Jao (k_Between.ev z ⋯ rfl pass1 (Jaa (pv 0) Jac))))))))))),?_⟩
 clear X;obtain ⟨k,sz,Y,B⟩:=h;show tSeq _ _ _ [some x,none,none] H;try mstop
 refine ⟨x,d,rfl,k,sz,fun H1 m=>?_⟩;try mstop
 by_cases c:tieB d=true
 ·rw [if_neg (by simp [c])];try mstop
  obtain ⟨a,n,s,e,l,g,U,C,S,vl,O,rfl,D,rfl,N,R,B⟩:=B c;refine ixT (i:=3) (D.same m) rfl ?_;try mstop
  refine ixT (i:=4) (D.same m) rfl ?_;simpa only [N.nonV,R.nonV];by_cases I:nonD l=true
  ·by_cases y:nonD g=true
   ·simpa only [I,y];try mstop
    intro x r k j V;refine ⟨x,_,r,a,U,C,S,vl,O,rfl,Jaq,T.tie _ ?_,?_,fun v e o=>⟨rfl,B _ v ?_ ⟨x,r,rfl,?_⟩⟩⟩
    ·exact .inl rfl
    ·exact (D.same m).same fun b u q=>by rw [Jag (Jae q k),Jag (Jae q j)];exact q
    ·exact m.trans fun b u q=>by rw [o b (Jae q k),Jag (Jae q k),Jag (Jae q j)];exact q
    ·rw [e,show kindC Ad l g=Ad.Free from by simp [kindC,I,y]]
   ·have p:nonD g=false:=by simpa using y
    simpa only [I,p];try simpa only [N.nonV,R.nonV,I,p]
    try mstop
    intro x r k j V;refine ⟨x,_,r,a,U,C,S,vl,O,rfl,Jaq,T.tie _ ?_,?_,fun v e o=>⟨rfl,B _ v ?_ ⟨x,r,rfl,?_⟩⟩⟩
    ·exact .inr (.inr (.inl rfl))
    ·exact (D.same m).same fun b u q=>by rw [Jag (Jae q k),Jag (Jae q j)];exact q
    ·exact m.trans fun b u q=>by rw [o b (Jae q k),Jag (Jae q k),Jag (Jae q j)];exact q
    ·rw [e,show kindC Ad l g=Ad.AtMost from by simp [kindC,I,p]]
  ·have t:nonD l=false:=by simpa using I
   by_cases y:nonD g=true
   ·simpa only [t,y];try simpa only [N.nonV,R.nonV,t,y]
    try mstop
    intro x r k j V;refine ⟨x,_,r,a,U,C,S,vl,O,rfl,Jaq,T.tie _ ?_,?_,fun v e o=>⟨rfl,B _ v ?_ ⟨x,r,rfl,?_⟩⟩⟩
    ·exact .inr (.inl rfl)
    ·exact (D.same m).same fun b u q=>by rw [Jag (Jae q k),Jag (Jae q j)];exact q
    ·exact m.trans fun b u q=>by rw [o b (Jae q k),Jag (Jae q k),Jag (Jae q j)];exact q
    ·rw [e,show kindC Ad l g=Ad.AtLeast from by simp [kindC,t,y]]
   ·have p:nonD g=false:=by simpa using y
    simpa only [t,p];try simpa only [N.nonV,R.nonV,t,p]
    simp only [tieB,Jdk,Bool.and_eq_true] at c;have Z:fracB l=true:=by have:=c.2.1.1;cases l <;> first | exact this | (simp [nonD] at t)
    have f2:fracB g=true:=by have:=c.2.1.2;cases g <;> first | exact this | (simp [nonD] at p)
    obtain ⟨J,G,rfl,_,_⟩:=JbU Z;obtain ⟨M,L,rfl,_,_⟩:=JbU f2;have g3:=(FrV.of_rep N).same m;have g4:=(FrV.of_rep R).same m;refine eqF g3 g4 ?_;have ee:eqD (.tup [.int J, .int G]) (.tup [.int M, .int L])=(decide (J=M)&&decide (G=L)):=by
     simp only [eqD,eqL,Bool.and_true]
     congr 1 <;> simp [BEq.beq]
    try mstop
    rw [<- ee];by_cases q:eqD (.tup [.int J, .int G]) (.tup [.int M, .int L])=true
    ·rw [if_pos q];try mstop
     intro x r k j V;refine ⟨x,_,r,a,U,C,S,vl,O,rfl,Jaq,T.tie _ ?_,?_,fun v e o=>⟨rfl,B _ v ?_ ⟨x,r,rfl,?_⟩⟩⟩
     ·exact .inr (.inr (.inr (.inl rfl)))
     ·exact (D.same m).same fun b u q=>by rw [Jag (Jae q k),Jag (Jae q j)];exact q
     ·exact m.trans fun b u q=>by rw [o b (Jae q k),Jag (Jae q k),Jag (Jae q j)];exact q
     ·rw [e,show kindC Ad (.tup [.int J, .int G]) (.tup [.int M, .int L])=Ad.Just from by simp [kindC,nonD,q]]
    ·rw [if_neg q];have q':eqD (.tup [.int J, .int G]) (.tup [.int M, .int L])=false:=by simpa using q
     try mstop
     intro x r k j V;refine ⟨x,_,r,a,U,C,S,vl,O,rfl,Jaq,T.tie _ ?_,?_,fun v e o=>⟨rfl,B _ v ?_ ⟨x,r,rfl,?_⟩⟩⟩
     ·exact .inr (.inr (.inr (.inr rfl)))
     ·exact (D.same m).same fun b u q=>by rw [Jag (Jae q k),Jag (Jae q j)];exact q
     ·exact m.trans fun b u q=>by rw [o b (Jae q k),Jag (Jae q k),Jag (Jae q j)];exact q
     ·rw [e,show kindC Ad (.tup [.int J, .int G]) (.tup [.int M, .int L])=Ad.Between from by simp [kindC,nonD,q']]
 ·rw [if_pos (by simp [c])];try mstop
  exact ⟨by show 1<=sizeLine;decide,Y (by simpa using c) H1 m⟩
abbrev BaN:Stmt:=inClass (top 33) 3
theorem Jc5:Jan ["self","told"] ["self"] (Jad BaN):=by bv_decide
def Jcl (K:W.Frag) (Ad:Adr):Sp:=fun vs H Q E=>∃ (v:V) (C:Addr) (n st en l g:V) (ds de dl dg:D),vs=[v]/\TieV H v C n st en l g/\IsTie Ad C/\Rep K H ds st/\Rep K H de en/\Bnd K H dl l/\Bnd K H dg g/\∀ p xs H',H p=none->Same H H'->H' p=some (.lst xs)->RepL K H' (JdI ds de dl dg) xs->Q (.ref p) H'
theorem Je5 (F:FunD K "steps" "Tie.steps" BaN dV f fd) (T:Txt K mg Ad) (Bbd:Cal P w K mg base 3 "minus" ["one","other"] [] (JcO K)):FnOk P w K mg base (CX1 P w) 4 f fd ["self"] (Jcl K Ad):=by
 refine F.okn Jc5 (by subst_eqs) (fun a5 A a1 s H vs Q E hr h=>?_)
 obtain ⟨v,C,n,X,V,l,g,ds,de,R,dg,rfl,h⟩:=h;refine ⟨_,(Jab (Jak 1 Jc5.nd (JaE Jac)) (Jab (ps_if (Jas Jet (Jat (pv 0) rfl) Ja2 (Jax _)) (Jaf (JaU (pe_bm PySem.F.plainAttrs_list PySem.F.slot_list_append PySem.F.type_list_append Jbc (pv 1) (Jaa (JaC (Jaa (Jat (pv 0) rfl) (Jaa (Jat (pv 0) rfl) (Jaa (Jat (pv 0) rfl) (Jaa pe_bl Jac))))) Jac) (hs:=by exact Jai rfl))))
   Jau) (Jab (ps_if (Jas Jet (Jat (pv 0) rfl) Ja2 (Jax _)) (Jaf (JaU (pe_bm PySem.F.plainAttrs_list PySem.F.slot_list_append PySem.F.type_list_append Jbc (pv 1) (Jaa (JaC (Jaa (Jat (pv 0) rfl) (Jaa (Jat (pv 0) rfl) (Jaa (Bbd.ev hr ⋯ rfl passF (Jaa (JaB (v:=.ref _) rfl T.Bb9 T.Bca) (Jaa (Jat (pv 0) rfl) Jac))) (Jaa pe_bl Jac))))) Jac) (hs:=by exact Jai rfl))))
   Jau) (Jaf (Jao (pv 1)))))),?_⟩
 obtain ⟨hv,hC,hs,he,N,hg,k⟩:=h;obtain ⟨p,o,rfl,r⟩:=hv;have a:=T.tie C hC;show tSeq _ _ _ [some (.ref p),none] H;try mstart
 refine ⟨len0,?_⟩;rename_i t j a3 H H1 d I;refine ⟨p,C,o,_,g,rfl,d _ _ r,a.cls,a.n5,rfl,?_⟩;try simpa only [y4fy,(hg.same d).rep.nonV]
 by_cases W:nonD dg=true
 ·rw [W];try mstart
  by_cases L:nonD R=true
  ·refine ⟨p,C,o,_,l,rfl,d _ _ r,a.cls,a.n4,rfl,?_⟩;try simpa only [y4fy,(N.same d).rep.nonV,L]
   refine k t _ H1 j d I ?_;simp only [JdI,W,L,if_true,append_nil,RepL]
  ·have e:nonD R=false:=by simpa using L
   refine ⟨p,C,o,_,l,rfl,d _ _ r,a.cls,a.n4,rfl,?_⟩;try simpa only [y4fy,(N.same d).rep.nonV,e]
   refine ⟨.inl ⟨rfl,_,SqL.of I⟩,?_⟩;refine ⟨p,C,o,_,V,rfl,d _ _ r,a.cls,a.n3,rfl,?_⟩;refine ⟨p,C,o,_,X,rfl,d _ _ r,a.cls,a.n2,rfl,?_⟩;try mstart
   refine ⟨p,C,o,_,l,rfl,d _ _ r,a.cls,a.n4,rfl,?_⟩;try mstart
   obtain ⟨Z,lb,rfl,J,c,fl,s1,s2⟩:=(N.same d).frac e;refine ⟨.ref Ad.ZERO,l,0,1,Z,lb,rfl,⟨_,rfl,T.BbZ _⟩,fl, .lit ⋯ ⋯, .lit ⋯ ⋯,s1,s2,by decide,J,by decide,c,fun m H4 B S=>?_⟩;rw [(Jen J c).1,(Jen J c).2] at S;try mstart
   refine ⟨len4,?_⟩;rename_i w a2 a0 H4 H5 y e5;refine ⟨t,_,_,rfl,rfl,y _ _ (B _ _ I),by first | (show 0<sizeLine;decide) | (show 1<sizeLine;decide),?_⟩;generalize G:upd H5 t _=U;have e6:=putE G;have m6:=putN G (y _ _ (B _ _ I)) (y _ _ S) (by intro z;cases z);have Y:=putN G (y _ _ (B _ _ I)) e5 (by intro z;cases z);have D:Same H U:=fun b u q=>by rw [<- G,Jag (Jae q j)];exact y _ _ (B _ _ (d _ _ q))
   refine k t _ U j D e6 ?_;simp only [JdI,W,e,if_true,Bool.false_eq_true,if_false,nil_append,RepL,Rep,negD];exact ⟨_,_,rfl,⟨w,_,rfl,SqT.of Y,_,_,rfl,he.same D,_,_,rfl,hs.same D,_,_,rfl,⟨m,_,rfl,SqT.of m6,_,_,rfl,rfl,_,_,rfl,rfl,rfl⟩,_,_,rfl,rfl,rfl⟩,rfl⟩
 ·have M:nonD dg=false:=by simpa using W
  rw [M];try mstart
  refine ⟨.inl ⟨rfl,_,SqL.of I⟩,?_⟩;refine ⟨p,C,o,_,X,rfl,d _ _ r,a.cls,a.n2,rfl,?_⟩;refine ⟨p,C,o,_,V,rfl,d _ _ r,a.cls,a.n3,rfl,?_⟩;refine ⟨p,C,o,_,g,rfl,d _ _ r,a.cls,a.n5,rfl,?_⟩;try mstart
  refine ⟨len4,?_⟩;rename_i f a4 a6 H1 H2 S2 e2;refine ⟨t,_,_,rfl,rfl,S2 _ _ I,by show 0<sizeLine;decide,?_⟩;generalize u3:upd H2 t _=H3;have O:=putE u3;have f3:=putN u3 (S2 _ _ I) e2 (by intro z;cases z);have x:Same H H3:=fun b u q=>by rw [<- u3,Jag (Jae q j)];exact S2 _ _ (d _ _ q)
  try mstart
  by_cases L:nonD R=true
  ·refine ⟨p,C,o,_,l,rfl,x _ _ r,a.cls,a.n4,rfl,?_⟩;try simpa only [y4fy,(N.same x).rep.nonV,L]
   refine k t _ H3 j x O ?_;simp only [JdI,M,L,if_true,Bool.false_eq_true,if_false,append_nil,nil_append,RepL,Rep];exact ⟨_,_,rfl,⟨f,_,rfl,SqT.of f3,_,_,rfl,hs.same x,_,_,rfl,he.same x,_,_,rfl,(hg.same x).rep,_,_,rfl,rfl,rfl⟩,rfl⟩
  ·have e:nonD R=false:=by simpa using L
   refine ⟨p,C,o,_,l,rfl,x _ _ r,a.cls,a.n4,rfl,?_⟩;try simpa only [y4fy,(N.same x).rep.nonV,e]
   refine ⟨.inl ⟨rfl,_,SqL.of O⟩,?_⟩;refine ⟨p,C,o,_,V,rfl,x _ _ r,a.cls,a.n3,rfl,?_⟩;refine ⟨p,C,o,_,X,rfl,x _ _ r,a.cls,a.n2,rfl,?_⟩;try mstart
   refine ⟨p,C,o,_,l,rfl,x _ _ r,a.cls,a.n4,rfl,?_⟩;try mstart
   obtain ⟨Z,lb,rfl,J,c,fl,s1,s2⟩:=(N.same x).frac e;refine ⟨.ref Ad.ZERO,l,0,1,Z,lb,rfl,⟨_,rfl,T.BbZ _⟩,fl, .lit ⋯ ⋯, .lit ⋯ ⋯,s1,s2,by decide,J,by decide,c,fun m H4 B S=>?_⟩;rw [(Jen J c).1,(Jen J c).2] at S;try mstart
   refine ⟨len4,?_⟩;rename_i w a2 a0 H4 H5 y e5;refine ⟨t,_,_,rfl,rfl,y _ _ (B _ _ O),by first | (show 0<sizeLine;decide) | (show 1<sizeLine;decide),?_⟩;generalize G:upd H5 t _=U;have e6:=putE G;have m6:=putN G (y _ _ (B _ _ O)) (y _ _ S) (by intro z;cases z);have Y:=putN G (y _ _ (B _ _ O)) e5 (by intro z;cases z);have D:Same H U:=fun b u q=>by rw [<- G,Jag (Jae q j)];exact y _ _ (B _ _ (x _ _ q))
   have f6:=putN G (y _ _ (B _ _ O)) (y _ _ (B _ _ f3)) (by intro z;cases z);refine k t _ U j D e6 ?_;simp only [JdI,M,e,Bool.false_eq_true,if_false,nil_append,cons_append,RepL,Rep,negD];exact ⟨_,_,rfl,⟨f,_,rfl,SqT.of f6,_,_,rfl,hs.same D,_,_,rfl,he.same D,_,_,rfl,(hg.same D).rep,_,_,rfl,rfl,rfl⟩,_,_,rfl,⟨w,_,rfl,SqT.of Y,_,_,rfl,he.same D,_,_,rfl,hs.same D,_,_,rfl,⟨m,_,rfl,SqT.of m6,_,_,rfl,rfl,_,_,rfl,rfl,rfl⟩,_,_,rfl,rfl,rfl⟩,rfl⟩
abbrev Baj:Stmt:=inClass (top 21) 0
theorem Jbo:Jan ["self","numbers","number","factor"] ["self","numbers"] (Jad Baj):=by bv_decide
def Jbp (K:W.Frag) (Ad:Adr):Sp:=fun vs H Q E=>∃ (x dx a:Addr) (xs:List V) (ns:List Fr2),vs=[.ref x, .ref a]/\H x=some (.ins Ad.Scale dx [])/\H a=some (.lst xs)/\All2 (FLV K H) ns xs/\ns.length<=70/\(∀ n∈ns,1<=n.2/\Mth.Sz 20 n.2)/\∀ b fs fl H',H' x=some (.ins Ad.Scale dx [("bottom", .int b),("factors", .ref fl)])->H fl=none->H' fl=some (.lst (fs.map V.int))->(∀ c u,c≠x->H c=some u->H' c=some u)->b=bF ns->(∀ n∈ns,n.2∣b)->Scl b fs->Mth.Sz 2000 b->fs.length<=70->Q .non H'
theorem JcY (F:FunD K "__init__" "Scale.__init__" Baj dV f fd) (T:Txt K mg Ad) (Bad:Cal P w K mg base 1 "common_divisor" ["one","other"] [] (JaJ)):FnOk P w K mg base (CX1 P w) 2 f fd ["self","numbers"] (Jbp K Ad):=by
 refine F.okn Jbo (by subst_eqs) (fun a5 A a2 s H vs Q E hr h=>?_)
 obtain ⟨x,j,a,xs,C,rfl,h⟩:=h;refine ⟨_,(Jab (JbJ (pv 0) Jah rfl) (Jab (JbJ (pv 0) (JaE Jac) rfl) (Jaf (Ja4 PassesOwn.never rfl (pi_U (pv 1)) (Jav 2 Jbo.nd) (Jab (Jak 3 Jbo.nd (pe_op JaO (pe_ix ix_U (pv 2) Jah) (Bad.ev hr ⋯ rfl passF (Jaa (Jat (pv 0) rfl) (Jaa (pe_ix ix_U (pv 2) Jah) Jac))))) (Jaf (ps_if (Jas JiQ (pv 3) Jah (Jax _)) (Jab (JbJ (pv 0) (pe_op JbZ (Jat (pv 0) rfl) (pv 3)) rfl) (Jaf (JaU (pe_bm PySem.F.plainAttrs_list PySem.F.slot_list_append PySem.F.type_list_append Jbc (Jat (pv 0) rfl) (Jaa (pv 3) Jac) (hs:=by exact Jai rfl)))))
   Jau))))))),?_⟩
 obtain ⟨e0,hA,hN,hl,a0,k⟩:=h;have e:=T.BbM Ad.Scale rfl;have sl:(1000:Nat)<=sizeLine:=by decide
 have lx:=hN.length;show tSeq _ _ _ [some (.ref x),some (.ref a),none,none] H;mvcgen;refine ⟨x,_,j,_,rfl,e0,e.cls,e.n1,by simp,?_⟩;generalize u1:upd H x _=H1;mvcgen;have e1:H1 x=some (.ins Ad.Scale j [("bottom", .int 1)]):=by rw [<- u1];exact Jaq.trans rfl
 have o1:∀ b,b≠x->H1 b=H b:=fun b hb=>by rw [<- u1,Jag hb]
 mvcgen;refine ⟨len0,?_⟩;rename_i d o a4 H1 H2 S2 e2;mvcgen;mvcgen;refine ⟨x,_,j,_,rfl,S2 _ _ e1,e.cls,e.n2,by simp,?_⟩;generalize u3:upd H2 x _=H3;mvcgen;have e3:H3 x=some (.ins Ad.Scale j [("bottom", .int 1),("factors", .ref d)]):=by rw [<- u3];exact Jaq.trans rfl
 have X:d≠x:=fun z=>by rw [z,e1] at o;cases o
 have f3:H3 d=some (.lst []):=by rw [<- u3,Jag X];exact e2
 have o3:∀ c u,c≠x->H c=some u->H3 c=some u:=fun c u S h=>by rw [<- u3,Jag S];exact S2 _ _ (by rw [o1 c S];exact h)
 have v:H d=none:=by rw [<- o1 d X];exact o
 have M:a≠x:=fun z=>by rw [z,e0] at hA;cases hA
 have a1:SameT H H3:=(SameT.put u1 e0 rfl).trans (S2.t.trans (SameT.put u3 (S2 _ _ e1) rfl));mvcgen;refine ⟨a,rfl,ForA.byL (xs:=xs) (SqL.of (o3 _ _ M hA)) (fun i σ N=>i<=xs.length/\∃ (v2 v3:Option V) (b:Int) (p:List Int),σ=[some (.ref x),some (.ref a),v2,v3]/\N x=some (.ins Ad.Scale j [("bottom", .int b),("factors", .ref d)])/\N d=some (.lst (p.map V.int))/\(∀ c u,c≠x->H c=some u->N c=some u)/\SameT H N/\b=bF (C.take i)/\(∀ m∈C.take i,m.2∣b)/\Scl b p/\Mth.Sz (1+20*i) b/\p.length<=i) ⟨Nat.zero_le _,none,none,1,[],rfl,e3,f3,o3,a1,rfl,(fun m B=>by simp at B),Scl.nil, .lit ⋯ ⋯,Nat.le_refl _⟩ (fun i σ N q=>by obtain ⟨_,_,_,_,_,_,_,_,q,_⟩:=q;exact SqL.of (q _ _ M hA)) ?_ ?_⟩
 ·rintro i y σ O hy ⟨hi,v2,v3,b,p,rfl,D,hf,Y,Z,r,l,hs,L,lf⟩;have li:=(List.getElem?_eq_some_iff.mp hy).1;obtain ⟨n,hn,fn⟩:=hN.at_ hy;have fn:FrV K O y n.1 n.2:=FrV.sameT Z fn;have G:=a0 n (List.mem_of_getElem? hn);have R:∀ m∈C.take (i+1),m∈C.take i\/m=n:=fun m B=>by
   rw [take_succ,hn] at B;simpa using B
  have L:Mth.Sz 2000 b:=L.mono ∅;have gp:=Mth.g_pos (a:=b) (b:=n.2) ∅;have gd:=Mth.JcK b n.2;have J:n.2∣b*n.2.fdiv (Mth.g b n.2):=Jg2 ∅;have I:b*n.2.fdiv (Mth.g b n.2)=bF (C.take (i+1)):=by
   rw [take_succ,hn];show _=bF (C.take i++[n]);rw [JgO, <- r]
  have gl:=Mth.g_le (a:=b) (b:=n.2) ∅;have d1:DivOk (Mth.g b n.2):=divOk (n:=20) ∅ (Nat.lt_of_le_of_lt (by ac_nf:(Mth.g b n.2).natAbs<=n.2.natAbs) G.2);have f1:=Mth.Jde gd ∅ G.1;have sf:Mth.Sz 20 (n.2.fdiv (Mth.g b n.2)):=G.2.fdiv gd ∅;mvcgen;refine ixF1 fn ?_;refine ⟨x,_,j,_, .int b,rfl,D,e.cls,e.n1,rfl,?_⟩;refine ixF1 fn ?_;mvcgen;refine ⟨_,_,rfl,?_⟩;mvcgen;refine ⟨d1,?_⟩;generalize n.2.fdiv (Mth.g b n.2)=f at *;mvcgen;by_cases c:1<f
  ·rw [if_pos (by simpa using c)];mvcgen;try simpa only [y4fy,y8cy]
   refine ⟨x,_,j,_, .int b,rfl,D,e.cls,e.n1,rfl,?_⟩;try simpa only [y4fy,y8cy]
   refine ⟨mulOk L sf,?_⟩;refine ⟨x,_,j,_,rfl,D,e.cls,e.n1,by simp,?_⟩;generalize u5:upd O x _=U;mvcgen;have e5:U x=some (.ins Ad.Scale j [("bottom", .int (b*f)),("factors", .ref d)]):=by rw [<- u5];exact Jaq.trans rfl
   have f5:U d=some (.lst (p.map V.int)):=by rw [<- u5,Jag X];exact hf
   have T5:SameT O U:=SameT.put u5 D rfl;try simpa only [y4fy,y8cy]
   refine ⟨x,_,j,_, .ref d,rfl,e5,e.cls,e.n2,rfl,?_⟩;refine ⟨.inl ⟨rfl,_,SqL.of f5⟩,?_⟩;mvcgen;refine ⟨d,_,_,rfl,rfl,f5,by rw [length_map];ac_nf,?_⟩;generalize W:upd U d _=H6;mvcgen;have f6:=putE W;have T6:SameT U H6:=SameT.put W f5 rfl;mvcgen;refine ⟨li,_,_,b*f,p++[f],rfl,by rw [<- W,Jag (Ne.symm X)];exact e5,by rw [f6];simp,fun c u S h=>by rw [<- W,Jag (Jae h v), <- u5,Jag S];exact Y c u S h,Z.trans (T5.trans T6),I,(fun m B=>(R m B).elim (fun h=>Int.dvd_trans (l m h) (Int.dvd_mul_right ..)) fun h=>h ▸ J),hs.snoc ∅,?_,by simp;ac_nf⟩;have:=(show Mth.Sz (1+20*i) b by assumption).mul sf;exact this.mono ∅
  ·rw [if_neg (by simpa using c)];mvcgen;mvcgen;have a3:f=1:=by ac_nf
   rw [a3,Int.mul_one] at J I;exact ⟨li,_,_,b,p,rfl,D,hf,Y,Z,I,(fun m B=>(R m B).elim (l m) fun h=>h ▸ J),hs,(show Mth.Sz (1+20*i) b by assumption).mono ∅,by ac_nf⟩
 ·rintro σ O ⟨hi,v2,v3,b,p,rfl,D,hf,Y,Z,r,l,hs,L,lf⟩;mvcgen;rw [take_of_length_le ∅] at l r;exact k b p d O D v hf Y r l hs (L.mono ∅) ∅
abbrev Bas:Stmt:=inClass (top 21) 1
theorem JaL:Jan ["self","number","top","rest","factor","shared"] ["self","number"] (Jad Bas):=by bv_decide
def JbD (K:W.Frag) (Ad:Adr):Sp:=fun vs H Q E=>∃ (x:Addr) (v:V) (n:Fr2) (b:Int) (fs:List Int),vs=[.ref x,v]/\SCK Ad H x b fs/\FrV K H v n.1 n.2/\FB 400 20 n/\n.2∣b/\∀ p H',Same H H'->H' p=some (.tup [.int (n.1*b.fdiv n.2), .int 1])->Q (.ref p) H'
theorem Jdy (F:FunD K "lifted" "Scale.lifted" Bas dV f fd) (T:Txt K mg Ad) (Bad:Cal P w K mg base 1 "common_divisor" ["one","other"] [] (JaJ)):FnOk P w K mg base (CX1 P w) 2 f fd ["self","number"] (JbD K Ad):=by
 refine F.okn JaL (by subst_eqs) (fun J A d s H G Q E j h=>?_)
 obtain ⟨x,v,n,b,D,rfl,h⟩:=h;have o:=j.units;refine ⟨_,(Jab (ps_if (Jas (Jb7 o) (pe_op Jbn (Jat (pv 0) rfl) (pe_ix ix_U (pv 1) Jah)) Jah (Jax _)) (Jaf (Jao (JaC (Jaa (pe_op JbZ (pe_ix ix_U (pv 1) Jah) (pe_op JaO (Jat (pv 0) rfl) (pe_ix ix_U (pv 1) Jah))) (Jaa Jah Jac)))))
   Jau) (Jab (Jak 2 JaL.nd (pe_ix ix_U (pv 1) Jah)) (Jab (Jak 3 JaL.nd (pe_ix ix_U (pv 1) Jah)) (Jab (Ja4 PassesOwn.never rfl (pi_U (Jat (pv 0) rfl)) (Jav 4 JaL.nd) (Jab (Jak 5 JaL.nd (Bad.ev j ⋯ rfl passF (Jaa (pv 3) (Jaa (pv 4) Jac)))) (Jab (Jak 2 JaL.nd (pe_op JbZ (pv 2) (pe_op JaO (pv 4) (pv 5)))) (Jaf (Jak 3 JaL.nd (pe_op JaO (pv 3) (pv 5))))))) (Jaf (Jao (JaC (Jaa (pv 2) (Jaa (pv 3) Jac))))))))),?_⟩
 clear o;obtain ⟨⟨m,N,l,O,M,u,B⟩,e,g,q,k⟩:=h;have a:=T.BbM Ad.Scale rfl;have t:=g.b1;have I:DivOk n.2:=divOk (n:=20) ∅ g.s2;have c:b.fmod n.2=0:=by
  rw [Int.fmod_eq_emod_of_nonneg _ ∅];exact Int.emod_eq_zero_of_dvd q
 show tSeq _ _ _ [some (.ref x),some v,none,none,none,none] H;mleave;refine ⟨x,_,m,_, .int b,rfl,l,a.cls,a.n1,rfl,?_⟩;refine ixF1 e ?_;mleave;refine ⟨by ac_nf,?_⟩;rw [if_pos (by simpa using c)];mleave;mleave;refine ixF0 e ?_;refine ⟨x,_,m,_, .int b,rfl,l,a.cls,a.n1,rfl,?_⟩;refine ixF1 e ?_;mleave;refine ⟨I,mulOk g.s1 (u.fdiv q t),len2,?_⟩;rename_i p L r H y z C;mleave;exact k p y z C
abbrev Bam:Stmt:=inClass (top 43) 0
theorem Jdc:Jan ["self","name","row","scale"] ["self","name","row","scale"] (Jad Bam):=by bv_decide
def Jby (K:W.Frag) (Ad:Adr):Sp:=fun vs H Q E=>∃ (x dx sc r:Addr) (nm vs_ vt vc:V) (b:Int) (fs:List Int) (n:Fr2) (w:V),vs=[.ref x,nm, .ref r, .ref sc]/\H x=some (.ins Ad.Step dx [])/\SqT K H r [vs_,vt,vc,w]/\FrV K H vc n.1 n.2/\FB 400 20 n/\n.2∣b/\SCK Ad H sc b fs/\∀ pr H',(∀ c u,c≠x->H c=some u->H' c=some u)->H' pr=some (.tup [nm,w])->H' x=some (.ins Ad.Step dx [("source",vs_),("target",vt),("cost",vc),("whole", .int (n.1*b.fdiv n.2)),("pair", .ref pr)])->Q .non H'
theorem Jdb (F:FunD K "__init__" "Step.__init__" Bam dV f fd) (T:Txt K mg Ad) (BbO:MCal P w K mg base 2 "lifted" (Jfq Ad) ["self","number"] (JbD K Ad)):FnOk P w K mg base (CX1 P w) 3 f fd ["self","name","row","scale"] (Jby K Ad):=by
 refine F.okn Jdc (by subst_eqs) (fun a3 A Z s H vs Q E hr h=>?_)
 obtain ⟨x,e,v,r,nm,a,D,B,b,X,n,w,rfl,h⟩:=h;refine ⟨_,(Jab (JbJ (pv 0) (pe_ix ix_U (pv 2) Jah) rfl) (Jab (JbJ (pv 0) (pe_ix ix_U (pv 2) Jah) rfl) (Jab (JbJ (pv 0) (pe_ix ix_U (pv 2) Jah) rfl) (Jab (JbJ (pv 0) (pe_ix ix_U (BbO.m hr ⋯ passF (pv 3) (Jaa (pe_ix ix_U (pv 2) Jah) Jac)) Jah) rfl) (Jaf (JbJ (pv 0) (JaC (Jaa (pv 1) (Jaa (pe_ix ix_U (pv 2) Jah) Jac))) rfl)))))),?_⟩
 obtain ⟨J,g,fv,fb,dv,U,k⟩:=h;have j:=T.c_Step Ad.Step rfl;have a2:=T.BbM Ad.Scale rfl;show tSeq _ _ _ [some (.ref x),some nm,some (.ref r),some (.ref v)] H;mexact;refine ixT (i:=0) g rfl ?_;mexact;refine ⟨x,_,e,_,rfl,J,j.cls,j.n1,by simp,?_⟩;generalize u1:upd H x _=M;mexact;have e1:M x=some (.ins Ad.Step e [("source",a)]):=by rw [<- u1];exact Jaq.trans rfl
 have T1:SameT H M:=SameT.put u1 J rfl;have o1:∀ c u,c≠x->H c=some u->M c=some u:=fun c u d h=>by rw [<- u1,Jag d];exact h
 mexact;refine ixT (i:=1) (g.sameT T1) rfl ?_;mexact;refine ⟨x,_,e,_,rfl,e1,j.cls,j.n2,by simp,?_⟩;generalize Y:upd M x _=O;mexact;have e2:O x=some (.ins Ad.Step e [("source",a),("target",D)]):=by rw [<- Y];exact Jaq.trans rfl
 have T2:SameT H O:=T1.trans (SameT.put Y e1 rfl);have o2:∀ c u,c≠x->H c=some u->O c=some u:=fun c u d h=>by rw [<- Y,Jag d];exact o1 c u d h
 mexact;refine ixT (i:=2) (g.sameT T2) rfl ?_;mexact;refine ⟨x,_,e,_,rfl,e2,j.cls,j.n3,by simp,?_⟩;generalize u3:upd O x _=R;mexact;have e3:R x=some (.ins Ad.Step e [("source",a),("target",D),("cost",B)]):=by rw [<- u3];exact Jaq.trans rfl
 have T3:SameT H R:=T2.trans (SameT.put u3 e2 rfl);have I:∀ c u,c≠x->H c=some u->R c=some u:=fun c u d h=>by rw [<- u3,Jag d];exact o2 c u d h
 obtain ⟨G,fl,l,q,a0⟩:=id U;have y:v≠x:=fun z=>by rw [z,J] at l;simp at l
 have W:fl≠x:=fun z=>by rw [z,J] at q;cases q
 have C:SCK Ad R v b X:=⟨G,fl,I _ _ y l,I _ _ W q,a0⟩;mexact;refine ⟨v,_,G,_,rfl,I _ _ y l,rfl,rfl,?_⟩;refine ixT (i:=2) (g.sameT T3) rfl ?_;mexact;refine ⟨v,B,n,b,X,rfl,C,FrV.sameT T3 fv,fb,dv,fun p H4 L e4=>?_⟩;mexact;refine ixT (i:=0) (SqT.of e4) rfl ?_;mexact;refine ⟨x,_,e,_,rfl,L _ _ e3,j.cls,j.n4,by simp,?_⟩;generalize u5:upd H4 x _=N;mexact;have e5:N x=some (.ins Ad.Step e [("source",a),("target",D),("cost",B),("whole", .int (n.1*b.fdiv n.2))]):=by rw [<- u5];exact Jaq.trans rfl
 have T5:SameT H N:=T3.trans (L.t.trans (SameT.put u5 (L _ _ e3) rfl));have o5:∀ c u,c≠x->H c=some u->N c=some u:=fun c u d h=>by rw [<- u5,Jag d];exact L _ _ (I c u d h)
 mexact;refine ixT (i:=3) (g.sameT T5) rfl ?_;mexact;refine ⟨len2,?_⟩;rename_i pr o a1 N H6 S6 e6;mexact;mexact;refine ⟨x,_,e,_,rfl,S6 _ _ e5,j.cls,j.n5,by simp,?_⟩;generalize S:upd H6 x _=H7;mexact;have e7:H7 x=some (.ins Ad.Step e [("source",a),("target",D),("cost",B),("whole", .int (n.1*b.fdiv n.2)),("pair", .ref pr)]):=by rw [<- S];exact Jaq.trans rfl
 have V:pr≠x:=fun z=>by rw [z,e5] at o;cases o
 mexact;exact k pr H7 (fun c u d h=>by rw [<- S,Jag d];exact S6 _ _ (o5 c u d h)) (by rw [<- S,Jag V];exact e6) e7
abbrev BaY:Stmt:=top 44
theorem Jb0:Jan ["ties","rows","tie","scale"] ["ties"] (Jad BaY):=by bv_decide
def JbF (K:W.Frag) (Ad:Adr):Sp:=fun vs H Q E=>∃ (a:Addr) (xs:List V) (ts:List TD),vs=[.ref a]/\SqL K H a xs/\All2 (OV K Ad H) ts xs/\(∀ t∈ts,TOk t)/\(∀ s∈Ch.all ts,FB 400 20 s.c)/\ts.length<=35/\∀ l ys (b:Int) H',Same H H'->H' l=some (.lst ys)->b=bF ((Ch.all ts).map (·.c))->1<=b->Mth.Sz 2000 b->(∀ s∈Ch.all ts,s.c.2∣b)->All2 (SOV K Ad b H') (Ch.all ts) ys->Q (.ref l) H'
theorem JfK (F:FunD K "steps_of" "steps_of" BaY dV f fd) (T:Txt K mg Ad) (m_steps:MCal P w K mg base 4 "steps" (IsTie Ad) ["self"] (Jcl K Ad)) (Bb1:KCal P w K mg base 2 "Scale" Ad.Scale ["self","numbers"] (Jbp K Ad)) (k_Step:KCal P w K mg base 3 "Step" Ad.Step ["self","name","row","scale"] (Jby K Ad)):FnOk P w K mg base (CX1 P w) 6 f fd ["ties"] (JbF K Ad):=by
 refine F.okn Jb0 (by subst_eqs) (fun d3 A b6 s H vs Q E hr h=>?_)
 obtain ⟨a,xs,l,rfl,h⟩:=h;refine ⟨_,(Jab (Jak 1 Jb0.nd (JaE Jac)) (Jab (Ja4 PassesOwn.never rfl (pi_U (pv 0)) (Jav 2 Jb0.nd rfl (Or.inr rfl)) (Jaf (JaU (pe_bm PySem.F.plainAttrs_list PySem.F.slot_list_extend PySem.F.type_list_extend Jhf (pv 1) (Jaa (Jcu (own:=["row"]) (cs:=[(2,"tie")]) rfl (pi_U (m_steps.m0 hr ⋯ passF (pv 2))) (fun _ _ _ _=>(Jav 0 (show [("row" : Str),("tie" : Str)].Nodup by decide))) (fun _ _ _ _=>(JaC (Jaa (Jjx (K:=K) rfl (pv 1) rfl) (Jaa (pv 0) Jac)))) (Jd5 rfl) ⋯ rfl ⋯ (hcs1 rfl rfl rfl)) Jac))))) (Jab (Jak 3 Jb0.nd (Bb1.ev hr ⋯ rfl passF (Jaa (Jcu (own:=["name","row"]) (cs:=[]) rfl (pi_U (pv 1)) (fun _ _ _ _=>(Jhr (K:=K) (n:=2) rfl rfl (Ja7 (Jav 0 (show [("name" : Str),("row" : Str)].Nodup by decide) (hf:=Or.inr rfl)) (Ja7 (Jav 1 (show [("name" : Str),("row" : Str)].Nodup by decide) (hf:=Or.inr rfl)) JdB)))) (fun _ _ _ _=>(pe_ix (ix_UK (K:=K) rfl) (pv 1) Jah)) (Jd5 rfl) ⋯ rfl ⋯ hcs0) Jac)) rfl (Or.inr rfl)) (Jaf (Jao (Jcu (own:=["name","row"]) (cs:=[(3,"scale")]) rfl (pi_U (pv 1)) (fun _ _ _ _=>(Jhr (K:=K) (n:=2) rfl rfl (Ja7 (Jav 0 (show [("name" : Str),("row" : Str),("scale" : Str)].Nodup by decide) (hf:=Or.inr rfl)) (Ja7 (Jav 1 (show [("name" : Str),("row" : Str),("scale" : Str)].Nodup by decide) (hf:=Or.inr rfl)) JdB)))) (fun _ _ _ _=>(k_Step.ev hr ⋯ rfl passF (Jaa (pv 0) (Jaa (pv 1) (Jaa (pv 2) Jac))))) (Jd5 rfl) ⋯ rfl ⋯ (hcs1 rfl rfl rfl))))))),?_⟩
 obtain ⟨hS,hR,hT,X,hl,k⟩:=h;have sl:(1000:Nat)<=sizeLine:=by decide
 have lR:=hR.length;have O:∀ i,(Ch.all (l.take i)).length<=2*i:=fun i=>JgM i;show tSeq _ _ _ [some (.ref a),none,none,none] H;mleave;refine ⟨len0,?_⟩;rename_i rl a4 c6 H H1 S1 e1;mleave;refine ⟨a,rfl,ForA.byLN (xs:=xs) (hS.same S1) (fun i σ d=>i<=xs.length/\∃ (v2:Option V) (M:List V),σ=[some (.ref a),some (.ref rl),v2,none]/\Same H d/\d rl=some (.lst M)/\All2 (SRV K d) (Ch.all (l.take i)) M) ⟨Nat.zero_le _,none,[],rfl,S1,e1,by rw [take_zero];exact rfl⟩ (fun i σ d z=>by obtain ⟨_,_,_,_,z,_⟩:=z;exact hS.same z) ?_ ?_⟩
 ·rintro i x σ H2 hx ⟨hi,v2,M,rfl,S2,m,W⟩ N0 a7;have li:=(List.getElem?_eq_some_iff.mp hx).1;obtain ⟨t,ht,c1⟩:=hR.at_ hx;have ok:=hT t (List.mem_of_getElem? ht);obtain ⟨C,vl,vg,tv,hC,b8,b5⟩:=c1.same S2;have a9:=tv;obtain ⟨p',R,rfl,D⟩:=tv;have tc:=T.tie _ hC;mleave;refine ⟨.inl ⟨rfl,_,SqL.of m⟩,?_⟩;refine ⟨p',_,R,_,rfl,D,hC,rfl,?_⟩;refine ⟨_,_,_,_,_,_,_, .str t.st, .str t.en,bD t.lo,bD t.hi,rfl,a9,hC,repS,repS,Jix b8 ok.lo,Jix b5 ok.hi,fun q ys Z hn S4 e4 r4=>?_⟩;rw [Jip] at r4;have pv:=All2.ofRepL (P:=PV K Z) (fun s x=>PV.of) r4;have l2:(Ch.steps t).length<=2:=by unfold Ch.steps fwd bwd;cases t.hi <;> cases t.lo <;> simp
  have d2:=pv.length;mleave;refine ⟨q,rfl, .inl ⟨⟨_,SqL.of e4⟩,CompJ.list (xs:=ys) (fun j e d=>Same Z d/\All2 (SRV K d) ((Ch.steps t).take j) e) ⟨Same.refl _,by rw [take_zero];exact rfl⟩ (fun j e d hj z=>⟨SqL.of (z.1 _ _ e4),by have:=z.2.length;rw [length_take] at this;ac_nf⟩) ?_ ?_⟩⟩
  ·rintro j y e H5 hy ⟨S5,o⟩;obtain ⟨s,S,c3⟩:=pv.at_ hy;have nm:s.nm=t.nm:=Jh1 (List.mem_of_getElem? S);simpa only [length_singleton,length_cons,length_nil,List.replicate,JaZ,map_cons,map_nil,Option.join_some,y4fy];refine ⟨p',_,R,_, .str t.nm,rfl,S5 _ _ (S4 _ _ D),tc.cls,tc.n1,rfl,?_⟩;mleave;refine ⟨by show 2<=sizeLine;ac_nf,?_⟩;rename_i c d1 d4 H5 I Y e6;mleave;refine ⟨S5.trans Y,?_⟩;rw [take_succ,S];exact (o.mono (P':=SRV K I) fun _ _ z=>z.sameT Y.t).append (.one ⟨c,y,rfl,by rw [nm];exact SqT.of e6,c3.sameT (S5.t.trans Y.t)⟩)
  ·rintro e H5 ⟨S5,o⟩;rw [take_of_length_le ∅] at o;rename_i cl c7 c4 H5 I Y e6;mleave;have L:=S4.trans (S5.trans Y);have lD:=W.length;have lA:=o.length;have a0:=O i;refine ⟨rl,cl,M,e,rfl,rfl,L _ _ m,e6,by ac_nf,?_⟩;generalize u7:upd I rl _=r;mleave;have e7:=putE u7;have T7:SameT I r:=SameT.put u7 (L _ _ m) rfl;refine a7 _ _ ⟨li,_,M++e,rfl,fun b w h=>by rw [<- u7,Jag (Jae h a4)];exact L _ _ (S2 _ _ h),e7,?_⟩;rw [show Ch.all (l.take (i+1))=Ch.all (l.take i)++Ch.steps t by rw [take_succ,ht];simp [Ch.all]];exact (W.mono (P':=SRV K r) fun _ _ z=>z.sameT (L.t.trans T7)).append (o.mono (P':=SRV K r) fun _ _ z=>z.sameT (Y.t.trans T7))
 ·rintro σ H2 ⟨hi,v2,M,rfl,S2,m,W⟩;have a0:=O l.length;rw [take_of_length_le ∅] at W;rw [take_of_length_le (Nat.le_refl _)] at a0;have lD:=W.length;mleave;refine ⟨rl,rfl, .inl ⟨⟨_,SqL.of m⟩,CompJ.list (xs:=M) (fun j e d=>d=H2/\All2 (FLV K H2) (((Ch.all l).map (·.c)).take j) e) ⟨rfl,by rw [take_zero];exact rfl⟩ (fun j e d hj z=>⟨by rw [z.1];exact SqL.of m,by have:=z.2.length;rw [length_take] at this;ac_nf⟩) ?_ ?_⟩⟩
  ·rintro j y e H3 hy ⟨rfl,o⟩;obtain ⟨s,S,b,v,rfl,hb,b',vc,rfl,b3,hc⟩:=W.at_ hy;simpa only [length_singleton,length_cons,length_nil,List.replicate,JaZ,map_cons,map_nil,Option.join_some];refine ⟨b,_,rfl,hb,rfl,?_⟩;mleave;refine ixT (i:=2) b3 rfl ?_;mleave;rw [take_succ,List.getElem?_map,S];exact o.append (.one hc)
  ·rintro e H3 ⟨rfl,o⟩;rw [take_of_length_le (by rw [length_map];ac_nf)] at o;rename_i nl c8 d0 H3 Z S4 e4;mleave;mleave;intro sc ds S b4 a1;have N:Same Z (upd (upd Z ds (.own sc)) sc (.ins Ad.Scale ds [])):=fun b u q=>by rw [Jag (Jae q S),Jag (Jae q b4)];exact q
   refine ⟨sc,ds,nl,e,(Ch.all l).map (·.c),rfl,Jaq,N _ _ e4,o.mono (fun _ _ z=>FLV.sameT (S4.t.trans N.t) z),by rw [length_map];ac_nf,fun n hn=>?_,fun b fs fl I h1 h2 h3 h4 b7 G a3 a6 b0=>⟨rfl,?_⟩⟩
   ·obtain ⟨s,g,rfl⟩:=mem_map.mp hn;exact ⟨(X s g).b1,(X s g).s2⟩
   have c0:Same Z I:=fun c u h=>h4 c u (Jae h S) (N _ _ h);have B:=S4.trans c0;have a8:SCK Ad I sc b fs:=⟨ds,fl,h1,h3,a3,a6,b0⟩;have G:∀ s∈Ch.all l,s.c.2∣b:=fun s g=>G s.c (mem_map.mpr ⟨s,g,rfl⟩);have b2:All2 (SRV K I) (Ch.all l) M:=W.mono fun _ _ z=>z.sameT B.t;mleave;refine ⟨rl,rfl, .inl ⟨⟨_,SqL.of (B _ _ m)⟩,CompJ.list (xs:=M) (fun j e d=>Same I d/\All2 (SOV K Ad b d) ((Ch.all l).take j) e) ⟨Same.refl _,by rw [take_zero];exact rfl⟩ (fun j e d hj z=>⟨SqL.of (z.1 _ _ (B _ _ m)),by have:=z.2.length;rw [length_take] at this;ac_nf⟩) ?_ ?_⟩⟩
   ·rintro j y a2 r hy ⟨S7,J⟩;obtain ⟨s,g,c2⟩:=b2.at_ hy;have a5:=List.mem_of_getElem? g;obtain ⟨p,v,rfl,hp,p',vc,rfl,D,hc⟩:=c2.sameT S7.t;simpa only [length_singleton,length_cons,length_nil,List.replicate,JaZ,map_cons,map_nil,Option.join_some];refine ⟨p,_,rfl,hp,rfl,?_⟩;mleave;intro x R hx b9 a1;have N:Same r (upd (upd r R (.own x)) x (.ins Ad.Step R [])):=fun b u q=>by rw [Jag (Jae q hx),Jag (Jae q b9)];exact q
    refine ⟨x,R,sc,p', .str s.nm, .str s.src, .str s.dst,vc,b,fs,s.c, .bl s.fw,rfl,Jaq,D.same N,FrV.same N hc,X s a5,G s a5,(a8.same S7).same N,fun pr H8 ho e1 m=>?_⟩;have U:Same r H8:=fun c u h=>ho c u (Jae h hx) (N _ _ h);refine ⟨rfl,S7.trans U,?_⟩;rw [take_succ,g];exact (J.mono (P':=SOV K Ad b H8) fun _ _ z=>z.same U).append (.one ⟨x,R,vc,pr,rfl,m,FrV.same U hc,e1⟩)
   ·rintro a2 r ⟨S7,J⟩;rw [take_of_length_le (Nat.le_of_eq ∅)] at J;rename_i ol c5 c9 r H8 S8 e8;mleave;exact k ol a2 b H8 (S2.trans (B.trans (S7.trans S8))) e8 b7 a3.b1 a6 G (J.mono fun _ _ z=>z.same S8)
abbrev Bae:Stmt:=inClass (top 8) 0
theorem Jca:Jan ["self","words","around"] ["self","words","around"] (Jad Bae):=by bv_decide
def Ja1 (K:W.Frag) (Ad:Adr):Sp:=fun vs H Q E=>∃ (e:Addr) (w:Str) (a:Addr) (xs:List V) (S f:Addr),vs=[.ref e, .str w, .ref a]/\H e=some (ExcN e Ad.Impossible none)/\ExcI K Ad.Impossible S f/\SqL K H a xs/\∀ (l dx:Addr) (H':Hp),(∀ b u,b≠e->H b=some u->H' b=some u)->H l=none->H' l=some (.lst xs)->H dx=none->dx≠e->H' e=some (ExcN e Ad.Impossible (some dx))->H' dx=some (.xd [("around", .ref l)])->Q .non H'
theorem Jb9 (F:FunD K "__init__" "Impossible.__init__" Bae dV f fd) (T:Txt K mg Ad)  : FnOk P w K mg base (CX1 P w) 1 f fd ["self","words","around"] (Ja1 K Ad):=by
 refine F.okn Jca (by subst_eqs) (fun C A o s H B Q E G h=>?_)
 obtain ⟨e,w,a,q,S,f,rfl,h⟩:=h;refine ⟨_,(Jab (JaU (Jh6 T.slk rfl T.m_SlackError (Jaa (pv 0) (Jaa (pv 1) Jac)))) (Jaf (JjG (pv 0) (Jh8 (Jas JbO (pv 2) Ja2 (Jax _)) (JaE Jac) (Jhq Jgr rfl T.Bb6 Jee (Jaa (pv 2) Jac))) rfl))),?_⟩
 obtain ⟨j,v,D,k⟩:=h;show tSeq _ _ _ [some (.ref e),some (.str w),some (.ref a)] H;cbv;refine ⟨e,_,_,_,_,_,rfl,by show 1<=sizeLine;decide,j,v,?_⟩;rw [show upd H e (ExcN e Ad.Impossible none)=H from funext fun b=>by
  by_cases c:b=e
  ·rw [c,Jaq,j]
  ·rw [Jag c]]
 mframe;refine ⟨a,q,rfl, .inl D,?_⟩;rename_i l d y H I m r;cbv;refine ⟨e,_,S,f,rfl,m _ _ j,v,T.xa,fun t g i=>?_⟩;have p:l≠e:=fun z=>by rw [z,j] at d;cases d
 have n:l≠t:=Jae r g;exact k l t _ (fun b u x h=>by rw [Jag (Jae (m _ _ h) g),Jag x];exact m _ _ h) d (by rw [Jag n,Jag p];exact r) (Jaw m g) i (by rw [Jag (Ne.symm i),Jaq]) Jaq
abbrev Baw:Stmt:=top 45
theorem JaP:Jan ["lasts","face","passed","at","backward","turn"] ["lasts","face"] (Jad Baw):=by bv_decide
def JbR (K:W.Frag) (Ad:Adr):Sp:=fun vs H Q E=>∃ (ld:Addr) (f:Str) (kw:List (Key × V)) (ss:List SpS) (t:BF) (c:Str->Nat),vs=[.ref ld, .str f]/\H ld=some (.dK kw)/\DV (SOS K Ad H) t.P kw/\Cg ss (ss.length+1) t c/\c f=ss.length+1/\(∀ v s,lk t.P v=some s->s∈ss/\s.tgt=v)/\ss.length<=70/\∀ l xs R H',Same H H'->H l=none->H' l=some (.lst xs)->RG t.P f R->All2 (CV H') (R.map fun s=>(s.nm,s.fw)) xs->Q (.ref l) H'
theorem JdQ (F:FunD K "ring_behind" "ring_behind" Baw dV f fd) (T:Txt K mg Ad)  : FnOk P w K mg base (CX1 P w) 1 f fd ["lasts","face"] (JbR K Ad):=by
 refine F.okn JaP (by subst_eqs) (fun c7 A b5 s H vs Q E hr h=>?_)
 obtain ⟨N,f,kw,C,t,c,rfl,h⟩:=h;have I:=hr.units;refine ⟨_,(Jab (Jak 2 JaP.nd JbI) (Jab (Jak 3 JaP.nd (pv 1)) (Jab (Jdg PassesOwn.never (JbX (JbB (hu1 I) (pv 3) (pv 2)) (by with_unfolding_all rfl)) (Jab (Jbu (hu1 I) (pv 2) (pv 3) pe_bl rfl) (Jaf (Jak 3 JaP.nd (Jat (JaM (hu1 I) (pv 0) (pv 3) (fun _ _=>rfl)) rfl))))) (Jab (Jak 4 JaP.nd (JaE Jac)) (Jab (Jak 5 JaP.nd (pv 3)) (Jab (Jdg PassesOwn.never (PW.pt (pw_or (Jas (Jb7 I) (Jaz JaY rfl T.Bbx Jb4 (Jaa (pv 4) Jac)) Jah (Jax _)) (JbK (Jas (JbH I) (pv 5) (pv 3) (Jax _))))) (Jab (JaU (pe_bm PySem.F.plainAttrs_list PySem.F.slot_list_append PySem.F.type_list_append Jbc (pv 4) (Jaa (Jat (JaM (hu1 I) (pv 0) (pv 5) (fun _ _=>rfl)) rfl) Jac) (hs:=by exact Jai rfl))) (Jaf (Jak 5 JaP.nd (Jat (JaM (hu1 I) (pv 0) (pv 5) (fun _ _=>rfl)) rfl))))) (Jaf (Jao (JjA rfl rfl rfl rfl T.Bb6 Jee rfl T.n_reversed Jdl (pv 4)))))))))),?_⟩
 clear I;obtain ⟨hd,hD,hC,d1,b3,c5,k⟩:=h;have sl:(100000:Nat)<=sizeLine:=by decide
 have tc:=T.c_Step Ad.Step rfl;show tSeq _ _ _ [some (.ref N),some (.str f),none,none,none,none] H;mleave;rename_i pd a0 c1 H H1 S1 e1;mleave;mleave;refine ⟨fun m σ r=>∃ (q:Str) (d:List SpS) (X:List (Str × Unit)) (kp:List (Key × V)),σ=[some (.ref N),some (.str f),some (.ref pd),some (.str q),none,none]/\Same H r/\r pd=some (.dK kp)/\DV (fun _ _=>True) X kp/\(∀ x,(∃ e,lk X x=some e)↔x∈d.map (·.tgt))/\X.length<=d.length/\Lnk t.P q d.reverse/\lnkE q d.reverse=f/\(d.map (·.tgt)).Nodup/\(∀ x∈d,x∈C)/\C.length+1<=c q+d.length/\m+d.length=C.length+1,⟨C.length+1,f,[],[],[],rfl,S1,e1,rfl,(fun x=>by simp [lk]),Nat.le_refl _,trivial,rfl, .nil,(fun x n=>by cases n),by ac_nf,rfl⟩,?_⟩;rintro m σ H7 ⟨q,d,X,kp,rfl,S7,a6,G,L,d0,a4,a5,j,u,b1,c4⟩;mleave;refine ⟨pd,_,rfl,DGet.k (k:=Sum.inr q) a6,?_⟩;cases eq_:lk X q with
 | none=>
  rw [G.no eq_];try simpa only [Option.isSome_none]
  obtain ⟨s,hs,b7⟩:=hC.next j u b1;obtain ⟨b0,o⟩:=b3 q s hs;obtain ⟨v,hv,U⟩:=hD.at hs;obtain ⟨p,dx,vc,pr,rfl,D,b2,J⟩:=id U;have c6:=G.len;have nq:q∉d.map (·.tgt):=fun z=>by
   obtain ⟨e,he⟩:=(L q).mpr z;rw [eq_] at he;cases he
  have b4:d.length<=C.length:=by
   have:=sub_len (d.map (·.tgt)) (C.map (·.tgt)) j fun x n=>by
    obtain ⟨y,W,rfl⟩:=mem_map.mp n;exact mem_map.mpr ⟨y,u y W,rfl⟩
   rw [length_map,length_map] at this;exact this
  refine ⟨_,fun _ _ h=>h,?_⟩;mleave;refine ⟨pd,_,rfl,DPut.k (k:=Sum.inr q) a6 ∅,?_⟩;generalize u8:upd H7 pd _=H8;mleave;have e8:=putE u8;have S8:Same H H8:=fun b w h=>by rw [<- u8,Jag (Jae h a0)];exact S7 _ _ h
  mleave;refine ⟨N, .ref p,rfl,by rw [<- hv];exact DGet.k (k:=Sum.inr q) (S8 _ _ hd),?_⟩;refine ⟨p,_,dx,_, .str s.src,rfl,S8 _ _ D,tc.cls,tc.n1,rfl,?_⟩;mleave;have c3:=Jc3 (l:=X) (f:=q) (a:=());refine ⟨m-1,by ac_nf,s.src,d++[s],pu X q (),_,rfl,S8,e8,G.put trivial,fun x=>?_,by rw [length_append];simp;ac_nf,by rw [List.reverse_append];exact a4.add hs o,by rw [List.reverse_append];exact (Jgb o).trans a5,?_,fun x n=>?_,b7,by rw [length_append];simp;ac_nf⟩
  ·rw [lk_pu,map_append];by_cases z:q=x
   ·rw [if_pos z];mleave;exact ⟨fun _=>mem_append_right _ (by simp [o,z]),fun _=>by simp⟩
   ·rw [if_neg z,L];mleave;refine ⟨fun h=>List.mem_append_left _ h,fun h=>?_⟩;rcases mem_append.mp h with h | h
    ·exact h
    ·exact absurd (by simpa [o] using h) (Ne.symm z)
  ·rw [map_append];refine nodup_append.mpr ⟨j,by simp,fun x n y W e=>nq ?_⟩;have W:y=s.tgt:=by simpa using W
   rw [<- o, <- W, <- e];exact n
  ·rcases mem_append.mp n with n | n
   ·exact u x n
   ·rw [mem_singleton.mp n];exact b0
 | some e=>
  rw [(G.at eq_).choose_spec.1];try simpa only [Option.isSome_some]
  (try ((with_reducible refine Nxt.go (by assumption) ?_);mleave))
  have hq:q∈d.reverse.map (·.tgt):=by
   rw [List.map_reverse,List.mem_reverse];exact (L q).mp ⟨e,eq_⟩
  obtain ⟨R,l2,hR,a7,b6⟩:=RG.of a4 a5 (by rw [List.map_reverse];exact (List.reverse_perm _).nodup_iff.mpr j) hq;mleave;refine ⟨len0,?_⟩;rename_i bl a9 c2 H7 H8 S8 e8;mleave;have a1:=Jaw S7 a9
  (try ((with_reducible refine Nxt.go (by assumption) ?_);mleave))
  mleave
  (try ((with_reducible refine Nxt.go (by assumption) ?_);mleave))
  mleave;have c9:∀ r,Same H r->DV (SOS K Ad r) t.P kw:=fun r S=>hD.mono fun _ _ z=>z.same S;obtain ⟨r0,r1,r2⟩:=a7;have b8:(R.map (·.tgt)).Nodup:=by
   have : ((R++l2).map (·.tgt)).Nodup:=by rw [<- hR,List.map_reverse];exact (List.reverse_perm _).nodup_iff.mpr j
   rw [map_append] at this;exact (nodup_append.mp this).1
  refine ⟨fun m σ r=>∃ (A B:List SpS) (Y:List V),σ=[some (.ref N),some (.str f),some (.ref pd),some (.str q),some (.ref bl),some (.str (lnkE q A))]/\Same H r/\r bl=some (.lst Y)/\All2 (CV r) (B.reverse.map fun s=>(s.nm,s.fw)) Y/\A++B=R/\m=A.length,⟨R.length,R,[],[],by rw [r2],S7.trans S8,e8,rfl,append_nil _,rfl⟩,?_⟩;rintro m' σ H9 ⟨A,B,Y,rfl,S9,e9,M,g,rfl⟩;have a3:=M.length;rw [length_map,length_reverse] at a3;have c8:A.length+B.length=R.length:=by rw [<- g,length_append]
  have lR:R.length<=d.length:=by
   have:=congrArg List.length hR;rw [length_reverse,length_append] at this;ac_nf
  mleave;refine ⟨_, .inl (SqL.of e9),?_⟩;mleave;rcases List.eq_nil_or_concat A with hA | ⟨A',s,hA⟩
  ·subst hA;rw [nil_append] at g;subst g;have nb:Y.length≠0:=by
    have : B.length≠0:=fun z=>r0 (List.eq_nil_of_length_eq_zero z);ac_nf
   rw [if_neg (by simp;intro z;exact nb (by rw [z];rfl)),if_neg (by simp [lnkE])];mleave
   (try ((with_reducible refine Nxt.go (by assumption) ?_);mleave))
   mleave;refine ⟨bl,Y,rfl,SqL.of e9,?_⟩;rename_i rl a8 c0 H9 HA Z eA;mleave;refine k rl _ B HA (S9.trans Z) (Jaw S9 a8) eA b6 ?_;have:=(M.mono (P':=CV HA) fun _ _ z=>z.sameT Z.t).rev;rw [<- List.map_reverse,List.reverse_reverse] at this;exact this
  ·rw [List.concat_eq_append] at hA;subst hA;have a2:=r1;rw [<- g] at a2;obtain ⟨q1,q2⟩:=Lnk.app.mp a2;obtain ⟨_,q3,q4,_⟩:=Lnk.app.mp q1;have eE:lnkE q (A'++[s])=s.tgt:=by rw [Jdf];rfl
   rw [eE];refine iteOr ?_ ?_
   ·by_cases hB:B=[]
    ·left
     have : Y.length=0:=by rw [a3,hB];rfl
     simp [this]
    ·right
     have m1:=Jgc (z:=s.tgt) hB;have e1:lnkE s.tgt B=q:=by rw [<- eE, <- Jdf,g];exact r2
     rw [e1] at m1;have rn:=b8;rw [<- g,map_append] at rn;have:=(nodup_append.mp rn).2.2 s.tgt (by simp) q m1;simpa using this
   obtain ⟨v,hv,U⟩:=hD.at q4;obtain ⟨p,dx,vc,pr,rfl,D,b2,J⟩:=id U;have b4:d.length<=C.length:=by
    have:=sub_len (d.map (·.tgt)) (C.map (·.tgt)) j fun x n=>by
     obtain ⟨y,W,rfl⟩:=mem_map.mp n;exact mem_map.mpr ⟨y,u y W,rfl⟩
    rw [length_map,length_map] at this;exact this
   refine ⟨_,fun _ _ h=>h,?_⟩;mleave;refine ⟨.inl ⟨rfl,_,SqL.of e9⟩,?_⟩;refine ⟨N, .ref p,rfl,by rw [<- hv];exact DGet.k (k:=Sum.inr s.tgt) (S9 _ _ hd),?_⟩;refine ⟨p,_,dx,_, .ref pr,rfl,S9 _ _ D,tc.cls,tc.n5,rfl,?_⟩;mleave;refine ⟨bl,Y,_,rfl,rfl,e9,by ac_nf,?_⟩;generalize O:upd H9 bl _=HA;mleave;have b9:=putE O;have TA:SameT H9 HA:=SameT.put O e9 rfl;have Z:Same H HA:=fun b w h=>by rw [<- O,Jag (Jae h a1)];exact S9 _ _ h
   mleave;refine ⟨N, .ref p,rfl,by rw [<- hv];exact DGet.k (k:=Sum.inr s.tgt) (Z _ _ hd),?_⟩;refine ⟨p,_,dx,_, .str s.src,rfl,Z _ _ D,tc.cls,tc.n1,rfl,?_⟩;mleave;refine ⟨A'.length,by rw [length_append];simp,A',s::B,_,by rw [<- q3],Z,b9,?_,by simpa using g,rfl⟩;rw [reverse_cons,map_append];exact (M.mono (P':=CV HA) fun _ _ z=>z.sameT TA).append (.one ⟨pr,rfl,Z _ _ J⟩)
abbrev BaH:Stmt:=top 46
theorem JaG:Jan ["steps","starts","sums","face","lasts","changed","turn","step","total"] ["steps","starts"] (Jad BaH):=by bv_decide
def Jb3 (K:W.Frag) (Ad:Adr):Sp:=fun vs H Q E=>∃ (sL fL:Addr) (sx:List V) (ss:List SpS) (fs:List Str),vs=[.ref sL, .ref fL]/\SqL K H sL sx/\All2 (SOS K Ad H) ss sx/\SqL K H fL (fs.map V.str)/\fs.length<=14/\ss.length<=70/\((∀ s∈ss,s.src∈fs)\/∃ π,Pot π ss)/\(∀ ld kv P H',Same H H'->H ld=none->H' ld=some (.dK kv)->DV (SOS K Ad H) P kv->P=(bfR ss (ss.length+1) (bf0 fs)).P->BE ss fs P->(∃ π,Pot π ss)->Q (.ref ld) H')/\∀ (l dx:Addr) (xs:List V) (R:List SpS) (H':Hp),Same H H'->H l=none->H' l=some (.lst xs)->H dx=none->H' dx=some (.xd [("around", .ref l)])->(¬ ∃ π,Pot π ss)->RgD ss fs R->All2 (CV H') (R.map fun s=>(s.nm,s.fw)) xs->E (.ref Ad.Impossible) (some dx) H'
theorem Jes (F:FunD K "last_steps" "last_steps" BaH dV f fd) (T:Txt K mg Ad) (Bbe:Cal P w K mg base 1 "ring_behind" ["lasts","face"] [] (JbR K Ad)) (k_Impossible:XCal P w K mg base 1 "Impossible" Ad.Impossible Ad.SlackError ["self","words","around"] (Ja1 K Ad)):FnOk P w K mg base (CX1 P w) 3 f fd ["steps","starts"] (Jb3 K Ad):=by
 refine F.okx JaG (fun vs H Q E h=>?_) (fun d9 A c5 s H vs Q E hr h=>?_)
 ·obtain ⟨sL,fL,sx,ss,fs,rfl,_⟩:=h;rfl
 obtain ⟨sL,fL,sx,ss,fs,rfl,h⟩:=h;have C:=hr.units;refine ⟨_,(Jab (Jak 2 JaG.nd JbI) (Jab (Ja4 PassesOwn.leaving rfl (pi_U (pv 1)) (Jav 3 JaG.nd) (Jaf (Jbu (hu1 C) (pv 2) (pv 3) Jah rfl))) (Jab (Jak 4 JaG.nd JbI) (Jab (Jak 5 JaG.nd Ja2) (Jab (Ja4 PassesOwn.leaving rfl (JcM rfl T.BbJ (Jaa (pe_op Ja3 (Jaz JaY rfl T.Bbx Jb4 (Jaa (pv 0) Jac)) Jah) Jac)) (Jav 6 JaG.nd) (Jab (Jak 5 JaG.nd Ja2) (Jab (Ja4 PassesOwn.leaving rfl (pi_U (pv 0)) (Jav 7 JaG.nd) (Jaf (ps_if (JbX (Jd9 (hu1 C) (Jat (pv 7) rfl) (pv 2)) (by with_unfolding_all rfl)) (Jab (Jak 8 JaG.nd (pe_op Ja3 (JaM (hu1 C) (pv 2) (Jat (pv 7) rfl) (fun _ _=>rfl)) (Jat (pv 7) rfl))) (Jaf (ps_if (PW.pt (pw_or (JbX (JbB (hu1 C) (Jat (pv 7) rfl) (pv 2)) (by with_unfolding_all rfl)) (JbK (Jas Jd7 (pv 8) (JaM (hu1 C) (pv 2) (Jat (pv 7) rfl) (fun _ _=>rfl)) (Jax _))))) (Jab (Jbu (hu1 C) (pv 2) (Jat (pv 7) rfl) (pv 8) rfl) (Jab (Jbu (hu1 C) (pv 4) (Jat (pv 7) rfl) (pv 7) rfl) (Jaf (Jak 5 JaG.nd (Jat (pv 7) rfl)))))
   Jau)))
   Jau))) (Jaf (ps_if (Jas JbO (pv 5) Ja2 (Jax _)) (Jaf (Jao (pv 4)))
   Jau))))) (Jaf (Jhu (k_Impossible.ev hr ⋯ rfl pass1 (Jaa Jbz (Jaa (Bbe.ev hr ⋯ rfl pass1 (Jaa (pv 4) (Jaa (pv 5) Jac))) Jac)))))))))),?_⟩
 clear C;obtain ⟨hS,hX,hF,l8,c7,b3,k,kE⟩:=h;have sl:(100000:Nat)<=sizeLine:=by decide
 have lX:=hX.length;have q:=T.c_Step Ad.Step rfl;show tSeq _ _ _ [some (.ref sL),some (.ref fL),none,none,none,none,none,none,none] H;mleave;rename_i x O d1 H H1 S1 e1;mleave;refine ⟨fL,rfl,ForA.byLN (xs:=fs.map V.str) (hF.same S1) (fun i σ L=>i<=fs.length/\∃ (v3:Option V) (r:List (Key × V)),σ=[some (.ref sL),some (.ref fL),some (.ref x),v3,none,none,none,none,none]/\Same H L/\L x=some (.dK r)/\DV RI ((fs.take i).foldl (fun S f=>pu S f 0) []) r/\r.length<=i) ⟨Nat.zero_le _,none,[],rfl,S1,e1,rfl,Nat.le_refl _⟩ (fun i σ L z=>by obtain ⟨_,_,_,_,z,_⟩:=z;exact hF.same z) ?_ ?_⟩
 ·rintro i y σ H2 hy ⟨hi,v3,r,rfl,S2,d,hD,d5⟩ N0 a6;rw [List.getElem?_map] at hy;obtain ⟨f,hf,rfl⟩:=Option.map_eq_some_iff.mp hy;have li:=(List.getElem?_eq_some_iff.mp hf).1;mleave;refine ⟨x,_,rfl,DPut.k (k:=Sum.inr f) d ∅,?_⟩;generalize u3:upd H2 x _=H3;mleave;have e3:=putE u3;have b5:DV RI ((fs.take (i+1)).foldl (fun S f=>pu S f 0) []) (putK r (Sum.inr f) (.int 0)):=by
   rw [take_succ,hf,foldl_append];exact DV.put hD rfl
  refine a6 _ _ ⟨li,_,_,rfl,fun c w h=>by rw [<- u3,Jag (Jae h O)];exact S2 _ _ h,e3,b5,?_⟩;have l1:=b5.len;have l2:=hD.len;have l3:=Jc3 (l:=(fs.take i).foldl (fun S f=>pu S f 0) []) (f:=f) (a:=(0:Int));rw [take_succ,hf,foldl_append] at l1;have l4:(putK r (Sum.inr f) (.int 0)).length=(pu ((fs.take i).foldl (fun S f=>pu S f 0) []) f (0:Int)).length:=l1;ac_nf
 ·rintro σ H2 ⟨_,v3,c0,rfl,S2,a5,N,b4⟩;rw [length_map] at b4;rw [take_of_length_le (by rw [length_map];exact Nat.le_refl _)] at N;have N:DV RI (bf0 fs).S c0:=N;have d7:=N.len;mleave;rename_i I Y d0 H2 H3 S3 e3;mleave;have W:=Jaw S2 Y;have Z:I≠x:=fun z=>by rw [z,a5] at Y;cases Y
  mleave;refine ⟨_, .inl ((hS.same S2).same S3),?_⟩;mleave;refine ⟨_,rfl,by ac_nf,by ac_nf,?_⟩;refine ForR.byN (fun i σ L=>∃ (v5 v6 v7 v8:Option V) (t:BF) (r B:List (Key × V)),σ=[some (.ref sL),some (.ref fL),some (.ref x),v3,some (.ref I),v5,v6,v7,v8]/\Same H L/\L x=some (.dK r)/\DV RI t.S r/\L I=some (.dK B)/\DV (SOS K Ad H) t.P B/\t=itr ss i (bf0 fs)/\bfR ss (ss.length+1) (bf0 fs)=bfR ss (ss.length+1-i) t/\t.S.length<=14+70*i/\t.P.length<=70*i/\(i≠0->t.ch≠none/\v5=some (chV t.ch))) ⟨_,none,none,none,bf0 fs,c0,[],rfl,S2.trans S3,S3 _ _ a5,N,e3,rfl,rfl,rfl,by ac_nf,by simp [bf0],fun z=>absurd rfl z⟩ ?_ ?_
  ·rintro i σ H4 hi ⟨v5,v6,v7,v8,t,r,B,rfl,S4,d,g,o,m,ht,a8,lS,lP,b2⟩ N0 a6;have e0:i<=ss.length:=by ac_nf
   rw [Int.zero_add];mleave;refine ⟨sL,rfl,ForA.byLN (xs:=sx) (hS.same S4) (fun j σ L=>j<=sx.length/\∃ (u:BF) (v7 v8:Option V) (r B:List (Key × V)),σ=[some (.ref sL),some (.ref fL),some (.ref x),v3,some (.ref I),some (chV u.ch),some (.int (i:Int)),v7,v8]/\Same H L/\L x=some (.dK r)/\DV RI u.S r/\L I=some (.dK B)/\DV (SOS K Ad H) u.P B/\u=(ss.take j).foldl rlx { t with ch:=none }/\u.S.length<=14+70*i+j/\u.P.length<=70*i+j) ⟨Nat.zero_le _,{ t with ch:=none },v7,v8,r,B,rfl,S4,d,g,o,m,rfl,lS,lP⟩ (fun j σ L z=>by obtain ⟨_,_,_,_,_,_,_,z,_⟩:=z;exact hS.same z) ?_ ?_⟩
   ·clear d g o m lS lP;rintro j y σ H5 a3 ⟨hj,u,v7,v8,r,B,rfl,J,d,g,o,m,C,lS,lP⟩ N1 a0;have lj:=(List.getElem?_eq_some_iff.mp a3).1;obtain ⟨s,b0,p,G,vc,pr,rfl,U,d4,d2⟩:=hX.at_ a3;have D:=J _ _ U;have a2:(ss.take (j+1)).foldl rlx { t with ch:=none }=rlx ((ss.take j).foldl rlx { t with ch:=none }) s:=by rw [take_succ,b0,foldl_append];rfl
    have d3:=g.len;have d8:=m.len;mleave;refine ⟨p,_,G,_, .str s.src,rfl,D,q.cls,q.n1,rfl,?_⟩;refine ⟨x,_,rfl,DGet.k (k:=Sum.inr s.src) d,?_⟩;cases ea:lk u.S s.src with
    | none=>
     have gn:gains u.S s=none:=by unfold gains;rw [ea]
     rw [g.no ea];try simpa only [Option.isSome_none]
     exact a0 _ _ ⟨lj,u,_,_,r,B,rfl,J,d,g,o,m,by rw [a2, <- C];unfold rlx;rw [gn],by ac_nf,by ac_nf⟩
    | some a=>
     obtain ⟨v,hv,rv⟩:=g.at ea;have rv:v=.int a:=rv;subst rv;rw [hv];try simpa only [y4fy,Option.isSome_some]
     refine ⟨p,_,G,_, .str s.src,rfl,D,q.cls,q.n1,rfl,?_⟩;refine ⟨x, .int a,rfl,by rw [<- hv];exact DGet.k (k:=Sum.inr s.src) d,?_⟩;refine ⟨p,_,G,_, .int s.wh,rfl,D,q.cls,q.n4,rfl,?_⟩;mleave;refine ⟨p,_,G,_, .str s.tgt,rfl,D,q.cls,q.n2,rfl,?_⟩;refine ⟨x,_,rfl,DGet.k (k:=Sum.inr s.tgt) d,?_⟩;cases eb:lk u.S s.tgt with
     | none=>
      have gn:gains u.S s=some (a+s.wh):=by unfold gains;rw [ea];dsimp only;rw [eb]
      rw [g.no eb];try simpa only [y4fy,Option.isSome_none]
      mleave;refine ⟨p,_,G,_, .str s.tgt,rfl,D,q.cls,q.n2,rfl,?_⟩;refine ⟨x,_,rfl,DPut.k (k:=Sum.inr s.tgt) d ∅,?_⟩;generalize u7:upd H5 x _=H7;mleave;have e7:=putE u7;have M:Same H H7:=fun c w h=>by rw [<- u7,Jag (Jae h O)];exact J _ _ h
      have p7:H7 p=_:=M _ _ U;have a7:H7 I=some (.dK B):=by rw [<- u7,Jag Z];exact o
      mleave;refine ⟨p,_,G,_, .str s.tgt,rfl,p7,q.cls,q.n2,rfl,?_⟩;refine ⟨I,_,rfl,DPut.k (k:=Sum.inr s.tgt) a7 ∅,?_⟩;generalize u8:upd H7 I _=H8;mleave;have e8:=putE u8;have X:Same H H8:=fun c w h=>by rw [<- u8,Jag (Jae h W)];exact M _ _ h
      have p8:H8 p=_:=X _ _ U;mleave;refine ⟨p,_,G,_, .str s.tgt,rfl,p8,q.cls,q.n2,rfl,?_⟩;mleave;refine a0 _ _ ⟨lj,⟨pu u.S s.tgt (a+s.wh),pu u.P s.tgt s,some s.tgt⟩,_,_,_,_,rfl,X,by rw [<- u8,Jag (Ne.symm Z)];exact e7,DV.put g rfl,e8,DV.put m (hX.at_ a3 |> fun ⟨s',h1,h2⟩=>by rw [b0] at h1;cases h1;exact h2),?_,by have:=Jc3 (l:=u.S) (f:=s.tgt) (a:=a+s.wh);show (pu u.S s.tgt (a+s.wh)).length<=_;ac_nf,by have:=Jc3 (l:=u.P) (f:=s.tgt) (a:=s);show (pu u.P s.tgt s).length<=_;ac_nf⟩;rw [a2, <- C];unfold rlx;rw [gn]
     | some b=>
      obtain ⟨w,hw,a9⟩:=g.at eb;have a9:w=.int b:=a9;subst a9;rw [hw];try simpa only [y4fy,Option.isSome_some]
      refine ⟨p,_,G,_, .str s.tgt,rfl,D,q.cls,q.n2,rfl,?_⟩;refine ⟨x, .int b,rfl,by rw [<- hw];exact DGet.k (k:=Sum.inr s.tgt) d,?_⟩;mleave;by_cases c:a+s.wh<b
      ·rw [if_pos (by simpa using c)];mleave;have gn:gains u.S s=some (a+s.wh):=by unfold gains;rw [ea];dsimp only;rw [eb];exact if_pos c
       mleave;refine ⟨p,_,G,_, .str s.tgt,rfl,D,q.cls,q.n2,rfl,?_⟩;refine ⟨x,_,rfl,DPut.k (k:=Sum.inr s.tgt) d ∅,?_⟩;generalize u7:upd H5 x _=H7;mleave;have e7:=putE u7;have M:Same H H7:=fun c w h=>by rw [<- u7,Jag (Jae h O)];exact J _ _ h
       have p7:H7 p=_:=M _ _ U;have a7:H7 I=some (.dK B):=by rw [<- u7,Jag Z];exact o
       mleave;refine ⟨p,_,G,_, .str s.tgt,rfl,p7,q.cls,q.n2,rfl,?_⟩;refine ⟨I,_,rfl,DPut.k (k:=Sum.inr s.tgt) a7 ∅,?_⟩;generalize u8:upd H7 I _=H8;mleave;have e8:=putE u8;have X:Same H H8:=fun c w h=>by rw [<- u8,Jag (Jae h W)];exact M _ _ h
       have p8:H8 p=_:=X _ _ U;mleave;refine ⟨p,_,G,_, .str s.tgt,rfl,p8,q.cls,q.n2,rfl,?_⟩;mleave;refine a0 _ _ ⟨lj,⟨pu u.S s.tgt (a+s.wh),pu u.P s.tgt s,some s.tgt⟩,_,_,_,_,rfl,X,by rw [<- u8,Jag (Ne.symm Z)];exact e7,DV.put g rfl,e8,DV.put m (hX.at_ a3 |> fun ⟨s',h1,h2⟩=>by rw [b0] at h1;cases h1;exact h2),?_,by have:=Jc3 (l:=u.S) (f:=s.tgt) (a:=a+s.wh);show (pu u.S s.tgt (a+s.wh)).length<=_;ac_nf,by have:=Jc3 (l:=u.P) (f:=s.tgt) (a:=s);show (pu u.P s.tgt s).length<=_;ac_nf⟩;rw [a2, <- C];unfold rlx;rw [gn]
      ·rw [if_neg (by simpa using c)];mleave;have gn:gains u.S s=none:=by unfold gains;rw [ea];dsimp only;rw [eb];exact if_neg c
       mleave;exact a0 _ _ ⟨lj,u,_,_,r,B,rfl,J,d,g,o,m,by rw [a2, <- C];unfold rlx;rw [gn],by ac_nf,by ac_nf⟩
   ·clear d g o m lS lP;rintro σ H5 ⟨hj,u,v7,v8,r,B,rfl,J,d,g,o,m,C,lS,lP⟩;rw [take_of_length_le ∅] at C;have c1:trn ss t=u:=C.symm;have a4:u=itr ss (i+1) (bf0 fs):=by rw [<- c1,ht];rfl
    have b8:bfR ss (ss.length+1-i) t=if u.ch=none then u else bfR ss (ss.length-i) u:=by
     rw [show ss.length+1-i=(ss.length-i)+1 by ac_nf,bfR,c1]
    mleave;cases ec:u.ch with
    | none=>
     try simpa only [chV]
     obtain ⟨π,hp⟩:=b3.elim (fun h=>Jif (n:=i) h (by rw [<- a4];exact ec)) id;refine k I B u.P H5 J W o m (by rw [a8,b8,if_pos ec]) ?_ ⟨π,hp⟩;rw [a4];exact BE.of hp (by rw [<- a4];exact ec)
    | some f=>
     try simpa only [chV]
     exact a6 _ _ ⟨_,_,_,_,u,r,B,rfl,J,d,g,o,m,a4,by rw [a8,b8,if_neg (by rw [ec];simp)];congr 1;ac_nf,by ac_nf,by ac_nf,fun _=>⟨by rw [ec];simp,by rw [ec];rfl⟩⟩
  ·rintro σ H4 ⟨v5,v6,v7,v8,t,r,B,rfl,S4,d,g,o,m,ht,a8,lS,lP,b2⟩;rw [show ((sx.length:Int)+1).toNat=ss.length+1 by ac_nf] at ht b2;obtain ⟨h1,rfl⟩:=b2 ∅;obtain ⟨f,hf⟩:∃ f,t.ch=some f:=by
    cases e:t.ch with
    | none=>exact absurd e h1
    | some f=>exact ⟨f,rfl⟩
   have np:¬ ∃ π,Pot π ss:=fun ⟨π,hp⟩=>h1 (by
    rw [ht];show (ss.foldl rlx { itr ss ss.length (bf0 fs) with ch:=none }).ch=none;rw [Jg4 ss { itr ss ss.length (bf0 fs) with ch:=none } (JhW hp)])
   obtain ⟨c,hC,_⟩:=Cg.itr (ss:=ss) (fs:=fs) (ss.length+1);rw [<- ht] at hC;have hB:=BX.itr (ss:=ss) (fs:=fs) (ss.length+1);rw [<- ht] at hB;rw [hf];simp only [chV]
   (try ((with_reducible refine Nxt.go (by assumption) ?_);mleave))
   mleave;refine ⟨I,f,B,ss,t,c,rfl,o,m.mono fun _ _ z=>z.same S4,hC,hC.ch f hf,fun v s h=>⟨(hB.st v s h).1,(hB.st v s h).2.1⟩,c7,fun l xs R H5 J e2 e5 c6 c8=>?_⟩;refine ⟨by show 2<=sizeLine;ac_nf,fun ex b1=>?_⟩;obtain ⟨fI,d6,_,_,hI,_⟩:=k_Impossible.ex;have c3:=Jaw J b1;have b7:=Jaw S4 c3;refine ⟨ex,_,l,xs,_,fI,rfl,Jaq,hI,SqL.of (by rw [Jag (Jae e5 b1)];exact e5),fun l2 G H6 ho a1 e6 b9 b6 c4 c9=>⟨rfl,ex,_,_,fI,some G,rfl,c4,hI,b7,?_⟩⟩;have c2:l2≠ex:=fun z=>by rw [z,Jaq] at a1;cases a1
   rw [Jag c2] at a1;rw [Jag b6] at b9;have S6:∀ b u,H5 b=some u->unt H6 ex b=some u:=fun b u h=>by
    have hb:=Jae h b1;rw [Jcy hb];exact ho b u hb (by rw [Jag hb];exact h)
   refine kE l2 G xs R (unt H6 ex) (fun b u h=>S6 _ _ (J _ _ (S4 _ _ h))) (Jaw S4 (Jaw J a1)) (by rw [Jcy c2];exact e6) (Jaw S4 (Jaw J b9)) (by rw [Jcy b6];exact c9) np ⟨f,by rw [<- ht];exact hf,by rw [<- ht];exact c6⟩ (c8.mono ?_);rintro a v ⟨b,rfl,h⟩;exact ⟨b,rfl,S6 _ _ h⟩
abbrev Bax:Stmt:=top 47
theorem JaD:Jan ["steps","starts","lasts","told","face","missing","at","step","ahead"] ["steps","starts"] (Jad Bax):=by bv_decide
def Jbe (K:W.Frag) (Ad:Adr):Sp:=fun vs H Q E=>∃ (sL fL:Addr) (sx:List V) (ss:List SpS) (fs:List Str),vs=[.ref sL, .ref fL]/\SqL K H sL sx/\All2 (SOS K Ad H) ss sx/\SqL K H fL (fs.map V.str)/\fs.length<=14/\ss.length<=70/\((∀ s∈ss,s.src∈fs)\/∃ π,Pot π ss)/\(∀ s∈ss,FB 200 9 s.cost)/\(∀ (td:Addr) (kt:List (Key × V)) (tb:List (Str × ((Int × Int) × List SpS))) (P:LasD) (H':Hp),Same H H'->H td=none->H' td=some (.dK kt)->DV (RT K H H') tb kt->P=(bfR ss (ss.length+1) (bf0 fs)).P->BE ss fs P->(∀ v,(∃ e,lk tb v=some e)↔(v∈fs\/∃ s,lk P v=some s))->TBk P fs tb->(∃ π,Pot π ss)->Q (.ref td) H')/\∀ (l dx:Addr) (xs:List V) (R:List SpS) (H':Hp),Same H H'->H l=none->H' l=some (.lst xs)->H dx=none->H' dx=some (.xd [("around", .ref l)])->(¬ ∃ π,Pot π ss)->RgD ss fs R->All2 (CV H') (R.map fun s=>(s.nm,s.fw)) xs->E (.ref Ad.Impossible) (some dx) H'
theorem JdL (F:FunD K "chains_from" "chains_from" Bax dV f fd) (T:Txt K mg Ad) (Bbi:Cal P w K mg base 3 "last_steps" ["steps","starts"] [] (Jb3 K Ad)) (Bbs:Cal P w K mg base 2 "plus" ["one","other"] [] (JdH K)):FnOk P w K mg base (CX1 P w) 4 f fd ["steps","starts"] (Jbe K Ad):=by
 refine F.okx JaD (fun vs H Q E h=>?_) (fun l3 A i6 s H vs Q E hr h=>?_)
 ·obtain ⟨sL,fL,sx,ss,fs,rfl,_⟩:=h;rfl
 obtain ⟨sL,fL,sx,ss,fs,rfl,h⟩:=h;have hu:=hr.units;refine ⟨_,(Jab (Jak 2 JaD.nd (Bbi.ev hr ⋯ rfl pass1 (Jaa (pv 0) (Jaa (pv 1) Jac)))) (Jab (Jak 3 JaD.nd JbI) (Jab (Ja4 PassesOwn.leaving rfl (pi_U (pv 1)) (Jav 4 JaD.nd) (Jaf (ps_if (JbX (JbB (hu1 hu) (pv 4) (pv 2)) (by with_unfolding_all rfl)) (Jaf (Jbu (hu1 hu) (pv 3) (pv 4) (JaC (Jaa (JaB (v:=.ref _) rfl T.Bb9 T.Bca) (Jaa (JaE Jac) Jac))) rfl))
   Jau))) (Jab (Ja4 PassesOwn.leaving rfl (Jhs (pv 2)) (Jav 4 JaD.nd) (Jab (Jak 5 JaD.nd (JaE Jac)) (Jab (Jak 6 JaD.nd (pv 4)) (Jab (Jdg PassesOwn.leaving (JbX (JbB (hu1 hu) (pv 6) (pv 3)) (by with_unfolding_all rfl)) (Jab (JaU (pe_bm PySem.F.plainAttrs_list PySem.F.slot_list_append PySem.F.type_list_append Jbc (pv 5) (Jaa (JaM (hu1 hu) (pv 2) (pv 6) (fun _ _=>rfl)) Jac) (hs:=by exact Jai rfl))) (Jaf (Jak 6 JaD.nd (Jat (JaM (hu1 hu) (pv 2) (pv 6) (fun _ _=>rfl)) rfl))))) (Jaf (Ja4 PassesOwn.leaving rfl (Jid (K:=K) rfl rfl rfl T.n_reversed Jdl (pv 5)) (Jav 7 JaD.nd) (Jab (Jak 8 JaD.nd (JaM (hu1 hu) (pv 3) (Jat (pv 7) rfl) (fun _ _=>rfl))) (Jaf (Jbu (hu1 hu) (pv 3) (Jat (pv 7) rfl) (JaC (Jaa (Bbs.ev hr ⋯ rfl pass1 (Jaa (pe_ix ix_U (pv 8) Jah) (Jaa (Jat (pv 7) rfl) Jac))) (Jaa (pe_op Ja3 (pe_ix ix_U (pv 8) Jah) (JaE (Jaa (Jat (pv 7) rfl) Jac))) Jac))) rfl))))))))) (Jaf (Jao (pv 3))))))),?_⟩
 clear hu;obtain ⟨hS,hX,hF,l8,i9,d8,g2,k,kE⟩:=h;have sl:(100000:Nat)<=sizeLine:=by decide
 have tc:=T.c_Step Ad.Step rfl;show tSeq _ _ _ [some (.ref sL),some (.ref fL),none,none,none,none,none,none,none] H;mleave;refine ⟨sL,fL,sx,ss,fs,rfl,hS,hX,hF,l8,i9,d8,fun O kv P H1 S1 h0 e1 hD hP hB hp=>?_,kE⟩;have c1:=hB;obtain ⟨S,r,b1,b2,b3,b5⟩:=hB.ex;mleave;rename_i C X l0 H1 H2 S2 e2;mleave;have d1:C≠O:=fun z=>by rw [z,e1] at X;cases X
 mleave;have c7:=Jaw S1 X;refine ⟨fL,rfl,ForA.byLN (xs:=fs.map V.str) ((hF.same S1).same S2) (fun i σ D=>i<=fs.length/\∃ (v4:Option V) (I:List (Key × V)) (n:List (Str × ((Int × Int) × List SpS))),σ=[some (.ref sL),some (.ref fL),some (.ref O),some (.ref C),v4,none,none,none,none]/\Same H1 D/\D C=some (.dK I)/\DV (RT K H D) n I/\TBk P fs n/\∀ f∈fs.take i,lk P f=none->∃ e,lk n f=some e) ⟨Nat.zero_le _,none,[],[],rfl,S2,e2,rfl,TBk.nil,fun f hf=>by simp at hf⟩ (fun i σ D z=>by obtain ⟨_,_,_,_,_,z,_⟩:=z;exact (hF.same S1).same z) ?_ ?_⟩
 ·rintro i y σ H3 hy ⟨hi,v4,I,n,rfl,S3,Z,hT,a5,a6⟩ N0 b9;rw [List.getElem?_map] at hy;obtain ⟨f,hf,rfl⟩:=Option.map_eq_some_iff.mp hy;have li:=(List.getElem?_eq_some_iff.mp hf).1;have f8:fs.take (i+1)=fs.take i++[f]:=by rw [take_succ,hf];rfl
  have j4:=c1.tb_len a5;have i7:=hT.len;mleave;refine ⟨O,_,rfl,DGet.k (k:=Sum.inr f) (S3 _ _ e1),?_⟩;cases ef:lk P f with
  | some s=>
   rw [(hD.at ef).choose_spec.1];try simpa only [Option.isSome_some]
   refine b9 _ _ ⟨li,_,I,n,rfl,S3,Z,hT,a5,fun g hg hn=>?_⟩;rw [f8] at hg;rcases mem_append.mp hg with hg | hg
   ·exact a6 g hg hn
   ·rw [mem_singleton.mp hg,ef] at hn;cases hn
  | none=>
   rw [hD.no ef];try simpa only [Option.isSome_none]
   refine ⟨len0,?_⟩;rename_i el b6 k1 H3 H4 S4 e4;mleave;refine ⟨len2,?_⟩;rename_i tp c5 k6 H4 H5 S5 e5;mleave;mleave;have d:=S5 _ _ (S4 _ _ Z);refine ⟨C,_,rfl,DPut.k (k:=Sum.inr f) d ∅,?_⟩;generalize u6:upd H5 C _=H6;mleave;have e6:=putE u6;have k0:el≠C:=fun z=>by rw [z,Z] at b6;cases b6
   have d5:tp≠C:=fun z=>by rw [z,S4 _ _ Z] at c5;cases c5
   have i5:RT K H H6 (((0:Int),(1:Int)),([]:List SpS)) (.ref tp):=⟨tp, .ref Ad.ZERO,el,[],rfl,SqT.of (by rw [<- u6,Jag d5];exact e5),⟨Ad.ZERO,rfl,T.BbZ _⟩,by rw [<- u6,Jag k0];exact S5 _ _ e4,rfl,Jaw S1 (Jaw S3 b6)⟩;refine b9 _ _ ⟨li,_,_,pu n f ((0,1),[]),rfl,fun c w h=>by rw [<- u6,Jag (Jae h X)];exact S5 _ _ (S4 _ _ (S3 _ _ h)),e6,(hT.mono fun _ _ z=>(z.same (S4.trans S5)).putL u6 d).put i5,a5.one (List.mem_of_getElem? hf) ef,fun g hg hn=>?_⟩;rw [f8] at hg;rcases mem_append.mp hg with hg | hg
   ·exact TBk.keep (a6 g hg hn)
   ·rw [mem_singleton.mp hg];exact ⟨_,JaR⟩
 ·rintro σ H3 ⟨_,v4,I,n,rfl,S3,Z,hT,a5,a6⟩;rw [take_of_length_le (by rw [length_map];exact Nat.le_refl _)] at a6;have ht:C≠O:=d1;mleave;refine ⟨O,kv,P.map (·.1),rfl,S3 _ _ e1,hD.keys,fun od=>?_⟩;generalize uf:upd H3 O _=H4;mleave;have ef:H4 O=some (.frz od (.dK kv)):=by rw [<- uf];exact Jaq
  have j8:Same H H4:=fun c w h=>by rw [<- uf,Jag (Jae h h0)];exact S3 _ _ (S1 _ _ h)
  have f0:H4 C=some (.dK I):=by rw [<- uf,Jag d1];exact Z
  refine ForJ.keys (fun i σ D=>∃ (v4 v5 v6 v7 v8:Option V) (I:List (Key × V)) (n:List (Str × ((Int × Int) × List SpS))),σ=[some (.ref sL),some (.ref fL),some (.ref O),some (.ref C),v4,v5,v6,v7,v8]/\Same H D/\D O=some (.frz od (.dK kv))/\D C=some (.dK I)/\DV (RT K H D) n I/\TBk P fs n/\(∀ f∈fs,lk P f=none->∃ e,lk n f=some e)/\(∀ j z,j<i->(P.map (·.1))[j]?=some z->∃ e,lk n z=some e)) ⟨v4,none,none,none,none,I,_,rfl,j8,ef,f0,hT.mono fun _ _ z=>z.putL uf (S3 _ _ e1),a5,a6,fun j z hj=>absurd hj (Nat.not_lt_zero _)⟩ (fun i σ D z=>by obtain ⟨_,_,_,_,_,_,_,_,_,z,_⟩:=z;exact z) ?_ ?_
  ·rintro i z σ H5 hz ⟨v4,v5,v6,v7,v8,I,n,rfl,S5,c4,d,N,Y,a2,a7⟩ N0 b9;mleave;refine ⟨len0,?_⟩;rename_i ml G k5 H5 H6 S6 e6;mleave;have l2:ml≠O:=fun q=>by rw [q,c4] at G;cases G
   have g9:ml≠C:=fun q=>by rw [q,d] at G;cases G
   have k7:=Jaw S5 G;have j2:∃ s,lk P z=some s:=Jc2 (List.mem_of_getElem? hz);have i0:∃ b,lk S z=some b:=by
    obtain ⟨s,hs⟩:=j2;obtain ⟨_,_,_,a,_,k2⟩:=b3 z s hs;exact ⟨_,k2⟩
   mleave;refine ⟨fun m σ D=>∃ (q:Str) (L:List SpS) (mx:List V),σ=[some (.ref sL),some (.ref fL),some (.ref O),some (.ref C),some (.str z),some (.ref ml),some (.str q),v7,v8]/\Same H5 D/\D ml=some (.lst mx)/\All2 (SOS K Ad H) L mx/\Lnk P q L.reverse/\lnkE q L.reverse=z/\(∃ b,lk S q=some b)/\r q=m/\(L.map (·.tgt)).Nodup/\(∀ x∈L.map (·.tgt),r q<r x)/\(∀ x∈L,x∈ss),⟨_,z,[],[],rfl,S6,e6,rfl,trivial,rfl,i0,rfl, .nil,(fun x u=>by cases u),fun x u=>by cases u⟩,?_⟩;rintro m σ H7 ⟨q,L,mx,rfl,S7,R,b8,f4,f5,j0,rfl,e7,f7,c8⟩;have c3:=S7 _ _ c4;have W:=S7 _ _ d;mleave;refine ⟨C,_,rfl,DGet.k (k:=Sum.inr q) W,?_⟩;cases eq_:lk n q with
   | none=>
    rw [N.no eq_];try simpa only [Option.isSome_none]
    obtain ⟨bq,g7⟩:=j0;obtain ⟨s,hs⟩:∃ s,lk P q=some s:=by
     cases e:lk P q with
     | some s=>exact ⟨s,rfl⟩
     | none=>
      obtain ⟨e',f3⟩:=a2 q (b2 q bq g7 e).1 e;rw [eq_] at f3;cases f3
    obtain ⟨g5,c2,d9,sa,j5,l5⟩:=b3 q s hs;obtain ⟨v,hv,f6⟩:=hD.at hs;obtain ⟨p,dx,vc,pr,rfl,a0,e0,b7⟩:=id f6;have l4:L.length<=70:=by
     have:=sub_len (L.map (·.tgt)) (ss.map (·.tgt)) e7 fun x u=>by
      obtain ⟨y,hy,rfl⟩:=mem_map.mp u;exact mem_map.mpr ⟨y,c8 y hy,rfl⟩
     rw [length_map,length_map] at this;ac_nf
    have g8:=b8.length;refine ⟨_,fun _ _ h=>h,?_⟩;mleave;refine ⟨.inl ⟨rfl,_,SqL.of R⟩,?_⟩;refine ⟨O, .ref p,rfl,by rw [<- hv];exact DGet.f (k:=Sum.inr q) c3,?_⟩;refine ⟨ml,mx,_,rfl,rfl,R,by ac_nf,?_⟩;generalize u8:upd H7 ml _=H8;mleave;have e8:=putE u8;have T8:SameT H7 H8:=SameT.put u8 R rfl;have S8:Same H5 H8:=fun c w h=>by rw [<- u8,Jag (Jae h G)];exact S7 _ _ h
    have b4:=S8 _ _ c4;mleave;refine ⟨O, .ref p,rfl,by rw [<- hv];exact DGet.f (k:=Sum.inr q) b4,?_⟩;refine ⟨p,_,dx,_, .str s.src,rfl,S8 _ _ (S5 _ _ a0),tc.cls,tc.n1,rfl,?_⟩;mleave;refine ⟨r s.src,d9,s.src,L++[s],mx++[.ref p],rfl,S8,e8,b8.append (.one f6),by rw [List.reverse_append];exact f4.add hs c2,by rw [List.reverse_append];exact (Jgb c2).trans f5,⟨sa,j5⟩,rfl,?_,fun x u=>?_,fun x u=>?_⟩
    ·rw [map_append];refine nodup_append.mpr ⟨e7,by simp,fun x u y hy e=>?_⟩;have hy:y=s.tgt:=by simpa using hy
     have:=f7 x u;rw [e,hy,c2] at this;ac_nf
    ·rw [map_append] at u;rcases mem_append.mp u with u | u
     ·have:=f7 x u;ac_nf
     ·have u:x=s.tgt:=by simpa using u
      rw [u,c2];exact d9
    ·rcases mem_append.mp u with u | u
     ·exact c8 x u
     ·rw [mem_singleton.mp u];exact g5
   | some e=>
    rw [(N.at eq_).choose_spec.1];try simpa only [Option.isSome_some]
    (try ((with_reducible refine Nxt.go (by assumption) ?_);mleave))
    have g8:=b8.length;refine ⟨ml,mx,rfl,SqL.of R,ForJ.rev (fun j σ D=>∃ (v7 v8:Option V) (I:List (Key × V)) (n:List (Str × ((Int × Int) × List SpS))) (y:Str),σ=[some (.ref sL),some (.ref fL),some (.ref O),some (.ref C),some (.str z),some (.ref ml),some (.str q),v7,v8]/\Same H D/\D O=some (.frz od (.dK kv))/\D ml=some (.lst mx)/\D C=some (.dK I)/\DV (RT K H D) n I/\TBk P fs n/\(∀ f∈fs,lk P f=none->∃ e,lk n f=some e)/\(∀ j z,j<i->(P.map (·.1))[j]?=some z->∃ e,lk n z=some e)/\(∃ e,lk n y=some e)/\Lnk P y (L.reverse.drop j)/\lnkE y (L.reverse.drop j)=z) ⟨v7,v8,I,n,q,rfl,S5.trans S7,c3,R,W,N.mono fun _ _ z=>z.same S7,Y,a2,a7,⟨e,eq_⟩,f4,f5⟩ (fun j σ D z=>by obtain ⟨_,_,_,_,_,_,_,_,z,_⟩:=z;exact SqL.of z) ?_ ?_⟩
    ·clear W d N Y a2 a7 eq_ c3 R;rintro j x σ H8 hj u ⟨v7,v8,I,n,y,rfl,S8,b4,e3,B,a3,a4,d3,d4,⟨e,b0⟩,d0,U⟩ N1 h8;obtain ⟨s,hs,sv⟩:=b8.at_ u;have j7:L.reverse[j]?=some s:=by rw [List.getElem?_reverse ∅,show L.length=mx.length by ac_nf];exact hs
     have g6:L.reverse.drop j=s::L.reverse.drop (j+1):=by
      obtain ⟨h1,h2⟩:=List.getElem?_eq_some_iff.mp j7;rw [<- h2];exact List.drop_eq_getElem_cons h1
     rw [g6] at d0 U;obtain ⟨rfl,g4,i8⟩:=d0;have i1:=c8 s (List.mem_of_getElem? hs);obtain ⟨p,dx,vc,pr,rfl,a0,e0,b7⟩:=sv.same S8;obtain ⟨v,hv,h3⟩:=a3.at b0;obtain ⟨w,qv,l,xs,rfl,hw,h4,hl,g0,_⟩:=id h3;obtain ⟨j3,h6,g3⟩:=a4.en _ _ b0;obtain ⟨h7,k9,_⟩:=c1.chn j3 h6;have a8:=cs_fb fun s hs=>g2 s (h7 s hs);rw [<- g3] at a8;have c0:=g2 s i1;have j4:=c1.tb_len a4;have i7:=a3.len;have h5:=g0.length;rw [length_map] at h5;mleave;refine ⟨p,_,dx,_, .str s.src,rfl,a0,tc.cls,tc.n1,rfl,?_⟩;refine ⟨C, .ref w,rfl,by rw [<- hv];exact DGet.k (k:=Sum.inr s.src) B,?_⟩;mleave;refine ixT (i:=0) hw rfl ?_;refine ⟨p,_,dx,_,vc,rfl,a0,tc.cls,tc.n3,rfl,?_⟩;mleave;refine ⟨qv,vc,e.1.1,e.1.2,s.cost.1,s.cost.2,rfl,h4,e0,a8.s1.mono ∅,a8.s2.mono ∅,c0.s1.mono ∅,c0.s2.mono ∅,a8.b1,c0.b1,a8.g1,c0.g1,fun ap H9 S9 e9=>?_⟩;mleave;refine ixT (i:=1) (hw.same S9) rfl ?_;refine ⟨p,_,dx,_, .ref pr,rfl,S9 _ _ a0,tc.cls,tc.n5,rfl,?_⟩;refine ⟨by show 1<=sizeLine;ac_nf,?_⟩;rename_i ol k4 k8 H9 h9 a1 j6;mleave;refine .inl ⟨l,ol,xs,[.ref pr],rfl,rfl,a1 _ _ (S9 _ _ hl),j6,by simp;ac_nf,?_⟩;rename_i nl a9 l1 h9 j1 d2 i4;mleave;refine ⟨len2,?_⟩;rename_i np c6 k3 j1 f2 d7 i2;mleave;have o:=S9.trans (a1.trans (d2.trans d7));mleave;refine ⟨p,_,dx,_, .str s.tgt,rfl,o _ _ a0,tc.cls,tc.n2,rfl,?_⟩;have M:=o _ _ B;refine ⟨C,_,rfl,DPut.k (k:=Sum.inr s.tgt) M ∅,?_⟩;generalize J:upd f2 C _=d6;mleave;have i3:=putE J;have f1:SameT f2 d6:=SameT.put J M rfl;have j9:nl≠C:=fun z=>by rw [z,a1 _ _ (S9 _ _ B)] at a9;cases a9
     have d5:np≠C:=fun z=>by rw [z,d2 _ _ (a1 _ _ (S9 _ _ B))] at c6;cases c6
     have f9:RT K H d6 (addF e.1 s.cost,e.2++[s]) (.ref np):=by
      refine ⟨np, .ref ap,nl,xs++[.ref pr],rfl,SqT.of (by rw [<- J,Jag d5];exact i2),⟨ap,rfl,SqT.sameT f1 (SqT.of (d7 _ _ (d2 _ _ (a1 _ _ e9))))⟩,by rw [<- J,Jag j9];exact d7 _ _ i4,?_,Jaw S8 (Jaw S9 (Jaw a1 a9))⟩;rw [map_append];exact (g0.mono (P':=CV d6) fun _ _ z=>z.sameT (o.t.trans f1)).append (.one ⟨pr,rfl,by rw [<- J,Jag (ne_of b7 B (by intro z;cases z))];exact o _ _ b7⟩)
     exact h8 _ _ ⟨_,_,_,pu n s.tgt (addF e.1 s.cost,e.2++[s]),s.tgt,rfl,fun c w h=>by rw [<- J,Jag (Jae h c7)];exact o _ _ (S8 _ _ h),by rw [<- J,Jag (Ne.symm d1)];exact o _ _ b4,by rw [<- J,Jag g9];exact o _ _ e3,i3,(a3.mono fun _ _ z=>(z.same o).putL J M).put f9,a4.put b0 g4,fun f hf hn=>TBk.keep (d3 f hf hn),fun j z hj hz=>TBk.keep (d4 j z hj hz),⟨_,JaR⟩,i8,U⟩
    ·clear W d N Y a2 a7 eq_ c3 R;rintro σ H8 ⟨v7,v8,I,n,y,rfl,S8,b4,e3,B,a3,a4,d3,d4,b0,d0,U⟩;rw [List.drop_of_length_le (by rw [length_reverse];ac_nf)] at U;have U:y=z:=U;subst U;refine b9 _ _ ⟨_,_,_,_,_,I,n,rfl,S8,b4,B,a3,a4,d3,fun j z hj c9=>?_⟩;by_cases c:j<i
     ·exact d4 j z c c9
     ·have : j=i:=by ac_nf
      subst this;rw [hz] at c9;cases c9;exact b0
  ·rintro σ H5 ⟨v4,v5,v6,v7,v8,I,n,rfl,S5,c4,d,N,Y,a2,a7⟩;mleave;refine k C I n P H5 S5 c7 d N hP c1 (fun v=>⟨fun ⟨e,he⟩=>(Y.en v e he).1,fun hv=>?_⟩) Y hp;cases hn:lk P v with
   | none=>exact a2 v (hv.resolve_right fun ⟨s,hs⟩=>by rw [hn] at hs;cases hs) hn
   | some s=>
    have hs:=hn;obtain ⟨j,hj⟩:=List.getElem?_of_mem (JeY hs);exact a7 j v (List.getElem?_eq_some_iff.mp hj).1 hj
abbrev BaZ:Stmt:=top 41
theorem JcB:Jan ["ties","found","tie"] ["ties"] (Jad BaZ):=by bv_decide
def JcD (K:W.Frag) (Ad:Adr):Sp:=fun vs H Q E=>∃ (a:Addr) (xs:List V) (ts:List TD) (F:List Str),vs=[.ref a]/\SqL K H a xs/\All2 (OV K Ad H) ts xs/\ts.length<=35/\F.length<=14/\(∀ t∈ts,t.st∈F/\t.en∈F)/\∀ p out H',Same H H'->H p=none->H' p=some (.lst (out.map V.str))->Jbi ts out->Q (.ref p) H'
theorem JfF (F:FunD K "faces_of" "faces_of" BaZ dV f fd) (T:Txt K mg Ad)  : FnOk P w K mg base (CX1 P w) 1 f fd ["ties"] (JcD K Ad):=by
 refine F.okn JcB (by subst_eqs) (fun a4 A S s H vs Q E hr h=>?_)
 obtain ⟨a,xs,ts,F,rfl,h⟩:=h;have L:=hr.units;refine ⟨_,(Jab (Jak 1 JcB.nd JbI) (Jab (Ja4 PassesOwn.never rfl (pi_U (pv 0)) (Jav 2 JcB.nd) (Jab (Jbu (hu1 L) (pv 1) (Jat (pv 2) rfl) pe_bl rfl) (Jaf (Jbu (hu1 L) (pv 1) (Jat (pv 2) rfl) pe_bl rfl)))) (Jaf (Jao (Jaz (JcU rfl) rfl T.BbK Jdm (Jaa (pv 1) Jac)))))),?_⟩
 clear L;obtain ⟨hS,hR,hl,a2,m,k⟩:=h;show tSeq _ _ _ [some (.ref a),none,none] H;try mstop
 rename_i d n a0 H H1 S1 e1;have sl:(1000:Nat)<=sizeLine:=by decide
 have lx:=hR.length;refine ⟨a,rfl,ForA.byL (xs:=xs) (hS.same S1) (fun i σ M=>i<=xs.length/\∃ (R:Option V) (b:List (Key × V)) (c:List Str),σ=[some (.ref a),some (.ref d),R]/\Same H M/\M d=some (.dK b)/\b.map (·.1)=c.map Sum.inr/\c.Nodup/\c.length<=2*i/\∀ z,z∈c↔∃ t∈ts.take i,z=t.st\/z=t.en) ⟨Nat.zero_le _,none,[],[],rfl,S1,e1,rfl,by simp,by simp,by simp⟩ (fun i σ M z=>by obtain ⟨_,_,_,_,_,z,_⟩:=z;exact hS.same z) ?_ ?_⟩
 ·rintro i x σ H2 hx ⟨hi,R,b,c,rfl,r,D,y,I,J,v⟩;have li:i<xs.length:=(List.getElem?_eq_some_iff.mp hx).1;obtain ⟨t,B,ov⟩:=hR.at_ hx;obtain ⟨C,vl,vg,⟨p,dx,rfl,hp⟩,hC,a5,a3⟩:=ov.same r;have G:=T.tie C hC;mstart;refine ⟨p,C,dx,_, .str t.st,rfl,hp,G.cls,G.n2,rfl,?_⟩;try mstart
  have lk:b.length=c.length:=by simpa using congrArg List.length y
  refine ⟨d,_,rfl,DPut.k (k:=Sum.inr t.st) D ∅,?_⟩;generalize Y:upd H2 d _=H3;have e3:=putE Y;have X:=putN Y D hp (by intro z;cases z);try mstart
  refine ⟨p,C,dx,_, .str t.en,rfl,X,G.cls,G.n3,rfl,?_⟩;try mstart
  have q:=Jga y t.st (.bl true);have a1:(putK b (Sum.inr t.st) (V.bl true)).length=(addS c t.st).length:=by simpa using congrArg List.length q
  have la:=JfW c t.st;have lb:=JfW (addS c t.st) t.en;refine ⟨d,_,rfl,DPut.k (k:=Sum.inr t.en) e3 ∅,?_⟩;generalize u4:upd H3 d _=H4;have e4:=putE u4;have W:=Jga q t.en (.bl true);refine ⟨li,_,_,addS (addS c t.st) t.en,rfl,fun bb u N=>?_,e4,W,JgL _ (JgL _ I),by ac_nf,fun z=>?_⟩
  ·rw [<- u4,Jag (Jae N n), <- Y,Jag (Jae N n)];exact r _ _ N
  ·rw [JfX,JfX,v,take_succ,B];simp only [mem_append,Option.toList_some,mem_singleton];constructor
   ·rintro ((⟨t',Z,g⟩ | h) | h)
    ·exact ⟨t', .inl Z,g⟩
    ·exact ⟨t, .inr rfl, .inl h⟩
    ·exact ⟨t, .inr rfl, .inr h⟩
   ·rintro ⟨t',Z | rfl,g⟩
    ·exact .inl (.inl ⟨t',Z,g⟩)
    ·rcases g with g | g
     ·exact .inl (.inr g)
     ·exact .inr g
 ·rintro σ H2 ⟨hi,R,b,c,rfl,r,D,y,I,J,v⟩;try mstop
  rw [take_of_length_le ∅] at v;have l8:=sub_len c F I fun z hz=>by
   obtain ⟨t,B,h | h⟩:=(v z).mp hz
   ·rw [h];exact (m t B).1
   ·rw [h];exact (m t B).2
  refine ⟨d,b,c,rfl,D,y,by ac_nf,fun l O j U=>?_⟩;have hH:H l=none:=by
   cases e:H l with
   | none=>rfl
   | some o=>rw [r _ _ e] at j;cases j
  refine k l O _ (r.trans (newS j rfl)) hH (newE rfl) ⟨U.1.nodup_iff.mpr I,U.2,fun z=>?_⟩;rw [U.1.mem_iff,v]
abbrev BaO:Stmt:=inClass (top 55) 1
theorem Jff:Jan ["self"] ["self"] (Jad BaO):=by bv_decide
def JaS (K:W.Frag) (Ad:Adr):Sp:=fun vs H Q E=>∃ (p d:Addr) (ts:List TD),vs=[.ref p]/\BK K Ad H p d ts/\∀ l ys H',Same H H'->H l=none->H' l=some (.lst ys)->All2 (OV K Ad H') ts ys->Q (.ref l) H'
theorem Je1 (F:FunD K "kept" "Book.kept" BaO dV f fd) (T:Txt K mg Ad)  : FnOk P w K mg base (CX1 P w) 1 f fd ["self"] (JaS K Ad):=by
 refine F.okn Jff (by subst_eqs) (fun v A b s H r Q E x h=>?_)
 obtain ⟨p,d,u,rfl,h⟩:=h;refine ⟨_,(Jaf (Jao (JjB rfl rfl rfl T.Bb6 Jee (Jat (pv 0) rfl)))),?_⟩;obtain ⟨⟨⟨m,o⟩,a,n,t⟩,k⟩:=h;have e:=T.book Ad.Book rfl;show tRet _ _ [some (.ref p)] H;try mstart
 refine ⟨p,_,m,_, .ref d,rfl,o,e.cls,e.n1,rfl,?_⟩;try mstart
 refine ⟨d,a,rfl,n,?_⟩;rename_i l c i H j g q;exact k l _ j g c q (t.2.mono fun _ _ z=>z.same g)
abbrev BaP:Stmt:=inClass (top 55) 2
theorem Jfg:Jan ["self"] ["self"] (Jad BaP):=by bv_decide
def Jcj (K:W.Frag) (Ad:Adr):Sp:=fun vs H Q E=>∃ (p d:Addr) (ts:List TD),vs=[.ref p]/\BK K Ad H p d ts/\ts.length<=35/\∀ l ys H',Same H H'->H l=none->H' l=some (.lst ys)->All2 (TV K H') ts ys->Q (.ref l) H'
theorem Je3 (F:FunD K "ties" "Book.ties" BaP dV f fd) (T:Txt K mg Ad) (m_kept:MCal P w K mg base 1 "kept" (JaA Ad) ["self"] (JaS K Ad)) (Bb2:MCal P w K mg base 1 "plain" (IsTie Ad) ["self"] (Jck K Ad)):FnOk P w K mg base (CX1 P w) 2 f fd ["self"] (Jcj K Ad):=by
 refine F.okn Jfg (by subst_eqs) (fun a1 A u s H vs Q E I h=>?_)
 obtain ⟨p,d,x,rfl,h⟩:=h;refine ⟨_,(Jaf (Jao (Jcu (own:=["tie"]) (cs:=[]) rfl (pi_U (m_kept.m0 I ⋯ passF (pv 0))) (fun _ _ _ _=>(Jav 0 (show [("tie" : Str)].Nodup by decide))) (fun _ _ _ _=>(Bb2.m0 I ⋯ passF (pv 0))) (Jd5 rfl) ⋯ rfl ⋯ hcs0))),?_⟩;obtain ⟨G,hl,k⟩:=h;obtain ⟨⟨Y,hp⟩,_⟩:=id G;have sl:(1000:Nat)<=sizeLine:=by decide
 show tRet _ _ [some (.ref p)] H;try mstop
 refine ⟨p,_,Y,_,rfl,hp,rfl,rfl,?_⟩;try try mstop
 refine ⟨p,d,x,rfl,G,fun l D X L W M J=>?_⟩;try try mstop
 have ly:=J.length;refine ⟨l,rfl, .inl ⟨⟨D,SqL.of M⟩,CompJ.list (xs:=D) (fun i j g=>Same X g/\All2 (TV K g) (x.take i) j) ⟨.refl _,rfl⟩ (fun i j H' hi z=>⟨SqL.of (z.1 _ _ M),by have:=z.2.length;rw [length_take] at this;ac_nf⟩) ?_ ?_⟩⟩
 ·rintro i y j g hy ⟨c,a⟩;simpa only [length_singleton,List.replicate,JaZ,map_cons,map_nil,Option.join_some];obtain ⟨t,ht,U⟩:=J.at_ hy;obtain ⟨C,vl,B,N,O,V,R⟩:=U.same c;obtain ⟨q,S,rfl,hq⟩:=id N;refine ⟨q,C,S,_,rfl,hq,O,rfl,?_⟩;refine ⟨_,C,_,_,_,vl,B,rfl,N,O,fun r n b v=>?_⟩;refine ⟨c.trans b,?_⟩;rw [take_succ,ht];exact (a.mono (P':=TV K n) fun _ _ z=>z.sameT b.t).append (.one ⟨r,vl,B,rfl,SqT.of v,V.sameT b.t,R.sameT b.t⟩)
 ·rintro j g ⟨c,a⟩;rw [take_of_length_le ∅] at a;rename_i r m a0 g n b v;have Z:H r=none:=by
   cases e:H r with
   | none=>rfl
   | some o=>rw [c _ _ (L _ _ e)] at m;cases m
  exact k r j n (L.trans (c.trans b)) Z v (a.mono fun _ _ z=>z.sameT b.t)
abbrev BaI:Stmt:=inClass (top 55) 3
theorem Jey:Jan ["self"] ["self"] (Jad BaI):=by bv_decide
def JaX (K:W.Frag) (Ad:Adr):Sp:=fun vs H Q E=>∃ (p d:Addr) (ts:List TD) (F:List Str),vs=[.ref p]/\BK K Ad H p d ts/\ts.length<=35/\F.length<=14/\(∀ t∈ts,t.st∈F/\t.en∈F)/\∀ l out H',Same H H'->H l=none->H' l=some (.lst (out.map V.str))->Jbi ts out->Q (.ref l) H'
theorem Jep (F:FunD K "faces" "Book.faces" BaI dV f fd) (T:Txt K mg Ad) (m_kept:MCal P w K mg base 1 "kept" (JaA Ad) ["self"] (JaS K Ad)) (Bbv:Cal P w K mg base 1 "faces_of" ["ties"] [] (JcD K Ad)):FnOk P w K mg base (CX1 P w) 2 f fd ["self"] (JaX K Ad):=by
 refine F.okn Jey (by subst_eqs) (fun L A a s H I Q E m h=>?_)
 obtain ⟨p,d,i,F,rfl,h⟩:=h;refine ⟨_,(Jaf (Jao (Bbv.ev m ⋯ rfl passF (Jaa (m_kept.m0 m ⋯ passF (pv 0)) Jac)))),?_⟩;obtain ⟨j,M,g,c,k⟩:=h;obtain ⟨⟨y,D⟩,_⟩:=id j;show tRet _ _ [some (.ref p)] H;try mstop
 refine ⟨p,_,y,_,rfl,D,rfl,rfl,?_⟩;try try mstop
 refine ⟨p,d,i,rfl,j,fun l u N n x G v=>?_⟩;try try mstop
 refine ⟨l,u,i,F,rfl,SqL.of G,v,M,g,c,fun q b B z r t J=>?_⟩;have C:H q=none:=by
  cases e:H q with
  | none=>rfl
  | some o=>rw [n _ _ e] at r;cases r
 exact k q b B (n.trans z) C t J
abbrev Ban:Stmt:=inClass (top 55) 0
theorem Jbv:Jan ["self","ties","row","tie"] ["self","ties"] (Jad Ban):=by bv_decide
def Jbx (K:W.Frag) (Ad:Adr):Sp:=fun vs H Q E=>∃ (x dx a:Addr) (xs:List V) (ts:List TD) (H0:Hp),vs=[.ref x, .ref a]/\H x=some (.ins Ad.Book dx [])/\H0 x=none/\Same H0 H/\SqL K H0 a xs/\All2 (TV K H0) ts xs/\(∀ t∈ts,TOk t)/\(nms ts).Nodup/\ts.length<=35/\∀ d H',Same H0 H'->H0 d=none->BK K Ad H' x d ts->Q .non H'
theorem Jda (F:FunD K "__init__" "Book.__init__" Ban dV f fd) (T:Txt K mg Ad) (Bbn:Cal P w K mg base 6 "tie_of" ["thing"] [] (JcP K Ad)):FnOk P w K mg base (CX1 P w) 7 f fd ["self","ties"] (Jbx K Ad):=by
 refine F.okn Jbv (by subst_eqs) (fun a7 A a1 s H vs Q E hr h=>?_)
 obtain ⟨x,j,a,xs,g,W,rfl,h⟩:=h;have hu:=hr.units;refine ⟨_,(Jab (JbJ (pv 0) JbI rfl) (Jaf (Ja4 PassesOwn.never rfl (pi_U (pv 1)) (Jav 2 Jbv.nd) (Jab (Jak 3 Jbv.nd (Bbn.ev hr ⋯ rfl passF (Jaa (pv 2) Jac))) (Jab (ps_if (JbX (Jd9 (hu1 hu) (Jat (pv 3) rfl) (Jat (pv 0) rfl)) (by with_unfolding_all rfl)) (Jaf ps_no)
   Jau) (Jaf (Jbu (hu1 hu) (Jat (pv 0) rfl) (Jat (pv 3) rfl) (pv 3) rfl))))))),?_⟩
 clear hu;obtain ⟨hx,Y,S0,hS,hE,hT,Z,hl,k⟩:=h;have o:=T.book Ad.Book rfl;have sl:(1000:Nat)<=sizeLine:=by decide
 have le:=hE.length;show tSeq _ _ _ [some (.ref x),some (.ref a),none,none] H;mvcgen;rename_i d M a6 H H1 S1 e1;mvcgen;refine ⟨x,_,j,_,rfl,S1 _ _ hx,o.cls,o.n1,by simp,?_⟩;generalize u2:upd H1 x _=H2;mvcgen;have e2:H2 x=some (.ins Ad.Book j [("by_name", .ref d)]):=by rw [<- u2];exact Jaq.trans rfl
 have D:x≠d:=fun z=>by rw [z,M] at hx;cases hx
 have a0:H2 d=some (.dK []):=by rw [<- u2,Jag (Ne.symm D)];exact e1
 have O:W d=none:=Jaw S0 M;have I:Same W H2:=fun b u h=>by rw [<- u2,Jag (Jae h Y)];exact S1 _ _ (S0 _ _ h)
 mvcgen;refine ⟨a,rfl,ForA.byLN (xs:=xs) (hS.same I) (fun i σ G=>i<=xs.length/\∃ (v2 v3:Option V) (e:List (Key × V)),σ=[some (.ref x),some (.ref a),v2,v3]/\Same W G/\G x=some (.ins Ad.Book j [("by_name", .ref d)])/\G d=some (.dK e)/\BD (OV K Ad G) (g.take i) e) ⟨Nat.zero_le _,none,none,[],rfl,I,e2,a0,by rw [take_zero];exact ⟨rfl,rfl⟩⟩ (fun i σ G z=>by obtain ⟨_,_,_,_,_,z,_⟩:=z;exact hS.same z) ?_ ?_⟩
 ·rintro i y σ H3 hy ⟨hi,v2,v3,e,rfl,S,e3,n,N⟩ N0 X;have li:i<xs.length:=(List.getElem?_eq_some_iff.mp hy).1;obtain ⟨t,ht,a5⟩:=hE.at_ hy;have ok:=hT t (List.mem_of_getElem? ht);have B:=a5.sameT S.t;have a3:=N.length;rw [length_take] at a3;try simpa only [y4fy,y8cy]
  refine ⟨y,tdD t,rfl,B.rep,ok.sz,fun z=>absurd z (by rw [ok.tie];simp),fun _=>?_⟩;obtain ⟨b,vl,vg,rfl,hq,L,J⟩:=B;refine ⟨b,_,_,_,_,_,_,_,_,_,_,rfl,hq,rfl,L.rep,J.rep,fun w R p tv=>?_⟩;have ov:OV K Ad R t w:=⟨_,vl,vg,tv,Jem Ad _ _,L.sameT p.t,J.sameT p.t⟩;obtain ⟨q,dq,rfl,v⟩:=id tv;have U:=T.tie _ (Jem Ad (bD t.lo) (bD t.hi));have l:=p _ _ e3;have m:=p _ _ n;have C:=N.mono (P':=OV K Ad R) fun _ _ z=>z.same p
  (try ((with_reducible refine Nxt.go (by assumption) ?_);mvcgen))
  try simpa only [y4fy,y8cy]
  refine ⟨q,_,dq,_, .str t.nm,rfl,v,U.cls,U.n1,rfl,?_⟩;refine ⟨x,_,j,_, .ref d,rfl,l,o.cls,o.n1,rfl,?_⟩;refine ⟨d,_,rfl,DGet.k (k:=Sum.inr t.nm) m,?_⟩;rw [C.val];have a4:g.take (i+1)=g.take i++[t]:=by rw [take_succ,ht];rfl
  have c:t.nm∉nms (g.take i):=fun z=>by
   have e0:g=g.take i++t::g.drop (i+1):=by
    obtain ⟨h1,h2⟩:=List.getElem?_eq_some_iff.mp ht;rw [<- h2, <- List.drop_eq_getElem_cons h1,List.take_append_drop]
   have nd:=Z;unfold nms at nd z;rw [e0,map_append,map_cons] at nd;exact (nodup_append.mp nd).2.2 _ z _ mem_cons_self rfl
  rw [decide_eq_false c];try simpa only [y4fy,y8cy]
  (try ((with_reducible refine Nxt.go (by assumption) ?_);mvcgen))
  try simpa only [y4fy,y8cy]
  refine ⟨x,_,j,_, .ref d,rfl,l,o.cls,o.n1,rfl,?_⟩;refine ⟨q,_,dq,_, .str t.nm,rfl,v,U.cls,U.n1,rfl,?_⟩;refine ⟨d,_,rfl,DPut.k (k:=Sum.inr t.nm) m ∅,?_⟩;generalize u5:upd R d _=H5;mvcgen;have e5:=putE u5;have sx:Sx d R H5:=fun b u hb h=>by rw [<- u5,Jag hb];exact h
  have a2:putT (g.take i) t=g.take i++[t]:=by unfold putT;rw [if_neg c]
  have r:=(C.put ov).mono (P':=OV K Ad H5) fun _ _ z=>z.sx sx m;rw [a2, <- a4] at r;exact X _ _ ⟨li,_,_,_,rfl,fun b u h=>sx b u (Jae h O) (p _ _ (S _ _ h)),sx _ _ D l,e5,r⟩
 ·rintro σ H3 ⟨hi,v2,v3,e,rfl,S,e3,n,N⟩;rw [take_of_length_le ∅] at N;try simpa only [y4fy,y8cy]
  exact k d H3 S O ⟨⟨j,e3⟩,e,n,N⟩
abbrev BaQ:Stmt:=top 49
theorem JbM:Jan ["steps","faces","told","places","face"] ["steps","faces"] (Jad BaQ):=by bv_decide
def Jbs (K:W.Frag) (Ad:Adr):Sp:=fun vs H Q E=>∃ (sL fL:Addr) (ts:List TD) (F:List Str) (fs:List Str),vs=[.ref sL, .ref fL]/\STp K Ad H ts sL/\BkH ts F/\SqL K H fL (fs.map V.str)/\fs.length<=14/\(∀ s∈Ch.all ts,s.src∈fs)/\(∀ (pd:Addr) (kp:List (Key × V)) (tb:Tab) (pb:List (Str × (Int × Int))) (H':Hp),Same H H'->H pd=none->H' pd=some (.dK kp)->DV (RF K H') pb kp->(pb.map (·.1)).Nodup->TTd ts fs tb->(∀ v,lk pb v=(lk tb v).map (·.1))->(∃ π,Pot π (ssD ts))->Q (.ref pd) H')/\∀ (l dx:Addr) (xs:List V) (R:List SpS) (H':Hp),Same H H'->H l=none->H' l=some (.lst xs)->H dx=none->H' dx=some (.xd [("around", .ref l)])->(¬ ∃ π,Pot π (ssD ts))->RgD (ssD ts) fs R->All2 (CV H') (R.map fun s=>(s.nm,s.fw)) xs->E (.ref Ad.Impossible) (some dx) H'
theorem Je9 (F:FunD K "places_of" "places_of" BaQ dV f fd) (T:Txt K mg Ad) (Bah:Cal P w K mg base 4 "chains_from" ["steps","starts"] [] (Jbe K Ad)):FnOk P w K mg base (CX1 P w) 5 f fd ["steps","faces"] (Jbs K Ad):=by
 refine F.okx JbM (fun vs H Q E h=>?_) (fun b5 A a5 s H vs Q E hr h=>?_)
 ·obtain ⟨Z,fL,X,F,fs,rfl,_⟩:=h;rfl
 obtain ⟨Z,fL,X,F,fs,rfl,h⟩:=h;have hu:=hr.units;refine ⟨_,(Jab (Jak 2 JbM.nd (Bah.ev hr ⋯ rfl pass1 (Jaa (pv 0) (Jaa (pv 1) Jac)))) (Jab (Jak 3 JbM.nd JbI) (Jab (Ja4 PassesOwn.leaving rfl (Jhs (pv 2)) (Jav 4 JbM.nd) (Jaf (Jbu (hu1 hu) (pv 3) (pv 4) (pe_ix ix_U (JaM (hu1 hu) (pv 2) (pv 4) (fun _ _=>rfl)) Jah) rfl))) (Jaf (Jao (pv 3)))))),?_⟩
 clear hu;obtain ⟨a3,hg,hF,l8,L,k,kE⟩:=h;obtain ⟨⟨sx,hS,hX⟩,a8,b2⟩:=a3;have sl:(1000:Nat)<=sizeLine:=by decide
 have a2:(ssD X).length<=70:=by unfold ssD;rw [length_map];exact hg.l70
 show tSeq _ _ _ [some (.ref Z),some (.ref fL),none,none,none] H;cbv;refine ⟨Z,fL,sx,ssD X,fs,rfl,hS,hX,hF,l8,a2, .inl (JjN L),fun s hs=>?_,fun t R n P H1 S1 h0 G hT hP hB hi hk Y=>?_,kE⟩
 ·obtain ⟨s',a7,rfl⟩:=mem_map.mp hs;exact hg.fb s' a7
 have hP:P=lsD X fs:=hP;subst hP;have b1:TTd X fs n:=⟨a8,b2,hk,hi,hB⟩;have b7:=hB.tb_len hk
 mframe;rename_i D b b3 H1 H2 S2 O;cbv;have W:D≠t:=fun z=>by rw [z,G] at b;cases b
 mframe;refine ⟨t,R,n.map (·.1),rfl,S2 _ _ G,hT.keys,fun od=>?_⟩;generalize uf:upd H2 t _=H3;cbv;have ef:H3 t=some (.frz od (.dK R)):=by rw [<- uf];exact Jaq
 have a9:Same H H3:=fun c w h=>by rw [<- uf,Jag (Jae h h0)];exact S2 _ _ (S1 _ _ h)
 have a6:H3 D=some (.dK []):=by rw [<- uf,Jag W];exact O
 have a4:DV (RT K H H3) n R:=(hT.mono fun _ _ z=>z.same S2).mono fun _ _ z=>z.putL uf (S2 _ _ G);have r:=Jaw S1 b;refine ForJ.keys (fun i σ I=>i<=n.length/\∃ (v4:Option V) (U:List (Key × V)) (d:List (Str × (Int × Int))),σ=[some (.ref Z),some (.ref fL),some (.ref t),some (.ref D),v4]/\Same H I/\I t=some (.frz od (.dK R))/\DV (RT K H I) n R/\I D=some (.dK U)/\DV (RF K I) d U/\(d.map (·.1)).Nodup/\d.length<=i/\(∀ v e,lk d v=some e->∃ J,lk n v=some J/\J.1=e)/\∀ j z,j<i->(n.map (·.1))[j]?=some z->∃ e,lk d z=some e) ⟨Nat.zero_le _,none,[],[],rfl,a9,ef,a4,a6,rfl,by simp,Nat.le_refl _,(fun v e h=>by cases h),fun j z M=>absurd M (Nat.not_lt_zero _)⟩ (fun i σ I z=>by obtain ⟨_,_,_,_,_,_,z,_⟩:=z;exact z) ?_ ?_
 ·rintro i z σ H4 hz ⟨a0,v4,U,d,rfl,S4,C,x,g,o,B,b0,m,u⟩ N0 a1;have li:=(List.getElem?_eq_some_iff.mp hz).1;rw [length_map] at li;obtain ⟨e,he⟩:=Jc2 (List.mem_of_getElem? hz);obtain ⟨v,hv,p,qv,l,xs,rfl,hp,hq,hl,b6,hf⟩:=x.at he;have b4:=o.len;cbv;refine ⟨t, .ref p,rfl,by rw [<- hv];exact DGet.f (k:=Sum.inr z) C,?_⟩;cbv;refine ixT (i:=0) hp rfl ?_;cbv;refine ⟨D,_,rfl,DPut.k (k:=Sum.inr z) g ∅,?_⟩;generalize S:upd H4 D _=H5;cbv;have e5:=putE S;have T5:SameT H4 H5:=SameT.put S g rfl;refine a1 _ _ ⟨li,_,_,pu d z e.1,rfl,fun c w h=>by rw [<- S,Jag (Jae h r)];exact S4 _ _ h,by rw [<- S,Jag (Ne.symm W)];exact C,x.mono (fun _ _ z=>z.putL S g),e5,(o.mono (R':=RF K H5) fun _ _ z=>FrV.sameT T5 z).put (FrV.sameT T5 hq),pu_nd B,by have:=Jc3 (l:=d) (f:=z) (a:=e.1);ac_nf,fun v J h=>?_,fun j y M hy=>?_⟩
  ·rw [lk_pu] at h;by_cases c:z=v
   ·rw [if_pos c] at h;cases h;exact ⟨e,by rw [<- c];exact he,rfl⟩
   ·rw [if_neg c] at h;exact m v J h
  ·rw [lk_pu];by_cases c:z=y
   ·exact ⟨_,if_pos c⟩
   ·rw [if_neg c];cbv;refine u j y ?_ hy;have : j≠i:=fun q=>by
     rw [q,hz] at hy;cases hy;exact c rfl
    ac_nf
 ·rintro σ H4 ⟨a0,v4,U,d,rfl,S4,C,x,g,o,B,b0,m,u⟩;cbv;refine k D U n d H4 S4 r g o B b1 (fun v=>?_) Y;cases G:lk n v with
  | none=>
   cases O:lk d v with
   | none=>rfl
   | some e=>
    obtain ⟨J,h,_⟩:=m v e O;rw [G] at h;cases h
  | some e=>
   obtain ⟨j,M⟩:=List.getElem?_of_mem (JeY G);obtain ⟨O,N⟩:=u j v (List.getElem?_eq_some_iff.mp M).1 M;obtain ⟨J,h,q⟩:=m v O N;rw [G] at h;cases h;rw [N, <- q];rfl
abbrev Bat:Stmt:=inClass (top 55) 7
theorem Jcg:Jan ["self","places"] ["self"] (Jad Bat):=by bv_decide
def Ja6 (K:W.Frag) (Ad:Adr):Sp:=fun vs H Q E=>∃ (p d:Addr) (ts:List TD) (F:List Str),vs=[.ref p]/\BK K Ad H p d ts/\BkH ts F/\(∀ (l:Addr) (ys:List V) (out:List Str) (tb:Tab) (H':Hp),Same H H'->H l=none->H' l=some (.lst ys)->Jbi ts out->TTd ts out tb->All2 (QV K H') (out.map fun v=>(v,plD tb v)) ys->(∃ π,Pot π (ssD ts))->Q (.ref l) H')/\∀ (l dx:Addr) (xs:List V) (R:List SpS) (H':Hp),Same H H'->H l=none->H' l=some (.lst xs)->H dx=none->H' dx=some (.xd [("around", .ref l)])->(¬ ∃ π,Pot π (ssD ts))->(∃ out,Jbi ts out/\RgD (ssD ts) out R)->All2 (CV H') (R.map fun s=>(s.nm,s.fw)) xs->E (.ref Ad.Impossible) (some dx) H'
theorem Jdx (F:FunD K "placing" "Book.placing" Bat dV f fd) (T:Txt K mg Ad) (m_kept:MCal P w K mg base 1 "kept" (JaA Ad) ["self"] (JaS K Ad)) (m_faces:MCal P w K mg base 2 "faces" (JaA Ad) ["self"] (JaX K Ad)) (Bay:Cal P w K mg base 6 "steps_of" ["ties"] [] (JbF K Ad)) (Baq:Cal P w K mg base 5 "places_of" ["steps","faces"] [] (Jbs K Ad)):FnOk P w K mg base (CX1 P w) 8 f fd ["self"] (Ja6 K Ad):=by
 refine F.okx Jcg (fun vs H Q E h=>?_) (fun b7 A a5 s H vs Q E Y h=>?_)
 ·obtain ⟨p,d,u,F,rfl,_⟩:=h;rfl
 obtain ⟨p,d,u,F,rfl,h⟩:=h;have hu:=Y.units;refine ⟨_,(Jab (Jak 1 Jcg.nd (Baq.ev Y ⋯ rfl pass1 (Jaa (Bay.ev Y ⋯ rfl pass1 (Jaa (m_kept.m0 Y ⋯ pass1 (pv 0)) Jac)) (Jaa (m_faces.m0 Y ⋯ pass1 (pv 0)) Jac))) rfl (Or.inr rfl)) (Jaf (Jao (Jcu (own:=["face"]) (cs:=[(1,"places")]) rfl (pi_U (Jaz (JcU rfl) rfl T.BbK Jdm (Jaa (pv 1) Jac))) (fun _ _ _ _=>(Jav 0 (show [("face" : Str),("places" : Str)].Nodup by decide))) (fun _ _ _ _=>(JaC (Jaa (pv 0) (Jaa (JaM (hu1 hu) (pv 1) (pv 0) (fun _ _=>rfl)) Jac)))) (Jd5 rfl) ⋯ rfl ⋯ (hcs1 rfl rfl rfl))))),?_⟩
 clear hu;obtain ⟨hb,g,k,kE⟩:=h;obtain ⟨⟨dx,hp⟩,_⟩:=id hb;have sl:(1000:Nat)<=sizeLine:=by decide
 have b6:(ssD u).length<=70:=by unfold ssD;rw [length_map];exact g.l70
 show tSeq _ _ _ [some (.ref p),none] H;cbv;refine ⟨p,_,dx,_,rfl,hp,rfl,rfl,?_⟩;cbv;refine ⟨p,d,u,rfl,hb,fun l ys H1 S1 c0 e1 hA=>?_⟩;cbv;refine ⟨l,ys,u,rfl,SqL.of e1,hA,g.ok,fun s C=>(g.fb s C).mono ⋯ ⋯,g.l35,fun sL sx b H2 S2 e2 I a7 b9 a4 a6=>?_⟩;have I:b=bD_ u:=I;subst I;have a2:STp K Ad H2 u sL:=⟨⟨sx,SqL.of e2,JeE a6⟩,a7,fun s C=>⟨(g.fb s C).b1,a4 s C⟩⟩;have G:=S1.trans S2;cbv;refine ⟨p,_,dx,_,rfl,G _ _ hp,rfl,rfl,?_⟩;cbv;refine ⟨p,d,u,F,rfl,hb.same G,g.l35,g.f8,g.fm,fun fl a H3 S3 b4 e3 c=>?_⟩;have Z:a.length<=14:=by
  have:=sub_len a F c.1 fun z o=>by
   obtain ⟨t,B,h | h⟩:=(c.2.2 z).mp o
   ·rw [h];exact (g.fm t B).1
   ·rw [h];exact (g.fm t B).2
  have:=g.f8;ac_nf
 have m:=G.trans S3;have O:∀ s∈Ch.all u,s.src∈a:=fun s C=>(JbW (F:=a) (fun t B=>⟨(c.2.2 _).mpr ⟨t,B, .inl rfl⟩,(c.2.2 _).mpr ⟨t,B, .inr rfl⟩⟩) s C).1;cbv;refine ⟨sL,fl,u,F,a,rfl,a2.same S3,g,SqL.of e3,Z,O,fun pd kp tb M H4 S4 a9 e4 U S n D a1=>?_,fun l2 a8 xs R H4 S4 h1 h2 h3 h4 h5 h6 h7=>kE l2 a8 xs R H4 (m.trans S4) (Jaw m h1) h2 (Jaw m h3) h4 h5 ⟨a,c,h6⟩ h7⟩
 mframe;have a0:∀ z,z∈M.map (·.1)↔z∈a:=fun z=>by
  constructor
  ·intro o;obtain ⟨e,he⟩:=Jc2 o;rw [D z] at he;obtain ⟨e',a3,_⟩:=Option.map_eq_some_iff.mp he;rcases (n.ks z).mp ⟨e',a3⟩ with q | ⟨s,C⟩
   ·exact q
   ·obtain ⟨_,_,_,_,b3,_⟩:=n.be.ex;obtain ⟨m1,m2,_⟩:=b3 z s C;obtain ⟨y,hy,rfl⟩:=mem_map.mp m1;rw [<- m2];exact (JbW (F:=a) (fun t B=>⟨(c.2.2 _).mpr ⟨t,B, .inl rfl⟩,(c.2.2 _).mpr ⟨t,B, .inr rfl⟩⟩) y hy).2
  ·intro o;obtain ⟨e,he⟩:=(n.ks z).mpr (.inl o);have : lk M z=some e.1:=by rw [D z,he];rfl
   exact JeY this
 have b8:M.length<=14:=by
  have:=sub_len (M.map (·.1)) a S fun z o=>(a0 z).mp o;rw [length_map] at this;ac_nf
 refine ⟨pd,kp,M.map (·.1),rfl,e4,U.keys,by rw [length_map];ac_nf,?_⟩;intro so o2 X J;generalize x:upd H4 so _=H5;have S5:=newS X x;have e5:=newE x;have eo:o2=a:=Jfl J.2 c.2.1 (J.1.nodup_iff.mpr S) c.1 fun z=>by rw [J.1.mem_iff,a0]
 subst eo;refine ⟨so,rfl, .inl ⟨⟨_,SqL.of e5⟩,CompJ.list (xs:=o2.map V.str) (fun j zs H'=>Same H5 H'/\All2 (QV K H') ((o2.take j).map fun v=>(v,plD tb v)) zs) ⟨Same.refl _,by rw [take_zero];exact rfl⟩ (fun j zs H' hj z=>⟨SqL.of (z.1 _ _ e5),by have:=z.2.length;rw [length_map,length_take] at this;ac_nf⟩) ?_ ?_⟩⟩
 ·rintro j y ws H7 hy ⟨L,r⟩;rw [List.getElem?_map] at hy;obtain ⟨z,o,rfl⟩:=Option.map_eq_some_iff.mp hy;obtain ⟨e,he⟩:=(n.ks z).mpr (.inl (List.mem_of_getElem? o));obtain ⟨v,hv,fv⟩:=U.at (show lk M z=some e.1 by rw [D z,he];rfl);simpa only [length_singleton,length_cons,length_nil,List.replicate,JaZ,map_cons,map_nil,Option.join_some];refine ⟨pd,v,rfl,by rw [<- hv];exact DGet.k (k:=Sum.inr z) (L _ _ (S5 _ _ e4)),?_⟩;cbv;refine ⟨by show 2<=sizeLine;ac_nf,?_⟩;rename_i np b2 b0 H7 H8 N e8;cbv;refine ⟨L.trans N,?_⟩;rw [take_succ,o,map_append];exact (r.mono (P':=QV K H8) fun _ _ z=>z.sameT N.t).append (.one ⟨np,v,rfl,e8,by
   show FrV K H8 v (plD tb z).1 (plD tb z).2;rw [Jkt he];exact FrV.same (S5.trans (L.trans N)) fv⟩)
 ·rintro zs H7 ⟨L,r⟩;rw [take_of_length_le (by rw [length_map];exact Nat.le_refl _)] at r;rename_i ol W b5 H7 H8 N e8;cbv;exact k ol zs o2 tb H8 (m.trans (S4.trans (S5.trans (L.trans N)))) (Jaw m (Jaw S4 (Jaw S5 (Jaw L W)))) e8 c n (r.mono fun _ _ z=>z.sameT N.t) a1
abbrev BaR:Stmt:=inClass (top 55) 6
theorem Jc4:Jan ["self","e"] ["self"] (Jad BaR):=by bv_decide
def Jci (K:W.Frag) (Ad:Adr):Sp:=fun vs H Q E=>∃ (p d:Addr) (ts:List TD) (F:List Str),vs=[.ref p]/\BK K Ad H p d ts/\BkH ts F/\(∀ H',Same H H'->(∃ π,Pot π (ssD ts))->Q .non H')/\∀ (l:Addr) (xs:List V) (R:List SpS) (H':Hp),Same H H'->H l=none->H' l=some (.lst xs)->(¬ ∃ π,Pot π (ssD ts))->(∃ out,Jbi ts out/\RgD (ssD ts) out R)->All2 (CV H') (R.map fun s=>(s.nm,s.fw)) xs->Q (.ref l) H'
theorem Je2 (F:FunD K "ring" "Book.ring" BaR dV f fd) (T:Txt K mg Ad) (m_placing:MCal P w K mg base 8 "placing" (JaA Ad) ["self"] (Ja6 K Ad)):FnOk P w K mg base (CX1 P w) 9 f fd ["self"] (Jci K Ad):=by
 refine F.okn Jc4 (by subst_eqs) (fun U A j s H N Q E C h=>?_)
 obtain ⟨p,d,y,F,rfl,h⟩:=h;refine ⟨_,(Jab (Jig (i:=1) Jc4.nd rfl rfl (m_placing.tr0 C ⋯ (pv 0)) rfl T.m_Impossible (fun _=>
   (Jaf (Jao (Jge (K:=K) rfl (pv 1) rfl))))) (Jaf (Jao Ja2))),?_⟩
 obtain ⟨r,O,k,G⟩:=h;obtain ⟨⟨J,L⟩,_⟩:=id r;show tSeq _ _ _ [some (.ref p),none] H;cbv;refine ⟨p,_,J,_,rfl,L,rfl,rfl,?_⟩;cbv;refine ⟨p,d,y,F,rfl,r,O,fun l X D W g m v x Z ht Y e=>?_,fun l c B R g m v x V q M S I=>?_⟩
 ·cbv;exact k g m e
 ·refine ⟨_,rfl,T.xc,fun o a=>⟨o,_,c,_, .ref l,rfl,Jaq,T.xl,by rw [Jag (Jae q a)];exact q,rfl,?_⟩⟩;have n:Same g (upd g o (ExcO o Ad.Impossible (some c))):=fun b u h=>by rw [Jag (Jae h a)];exact h
  exact G l B R _ (m.trans n) v (n _ _ x) M S (I.mono fun _ _ z=>z.sameT n.t)
abbrev Baz:Stmt:=top 50
theorem JdW:Jan ["number"] ["number"] (Jad Baz):=by bv_decide
def JbT (K:W.Frag):Sp:=fun vs H Q E=>∃ (v:V) (n:Int × Int),vs=[v]/\FrV K H v n.1 n.2/\FB 1000 700 n/\Q (.int (Jc0 n)) H
theorem JdS (F:FunD K "whole_below" "whole_below" Baz dV f fd) (T:Txt K mg Ad)  : FnOk P w K mg base (CX1 P w) 1 f fd ["number"] (JbT K):=by
 refine F.okn JdW (by subst_eqs) (fun d A a s H e Q E g h=>?_)
 obtain ⟨v,n,rfl,h⟩:=h;refine ⟨_,(Jaf (Jao (pe_op JaO (pe_ix ix_U (pv 0) Jah) (pe_ix ix_U (pv 0) Jah)))),?_⟩;obtain ⟨c,b,k⟩:=h;show tRet _ _ [some v] H;cbv;refine ixF0 c (ixF1 c ?_);cbv;exact ⟨divOk (n:=700) (by have:=b.b1;ac_nf) b.s2,k⟩
abbrev BaA:Stmt:=top 51
theorem JdV:Jan ["number"] ["number"] (Jad BaA):=by bv_decide
def JbS (K:W.Frag):Sp:=fun vs H Q E=>∃ (v:V) (n:Int × Int),vs=[v]/\FrV K H v n.1 n.2/\FB 1000 700 n/\Q (.int (ceilF n)) H
theorem JdR (F:FunD K "whole_above" "whole_above" BaA dV f fd) (T:Txt K mg Ad)  : FnOk P w K mg base (CX1 P w) 1 f fd ["number"] (JbS K):=by
 refine F.okn JdV (by subst_eqs) (fun d A a s H e Q E g h=>?_)
 obtain ⟨v,n,rfl,h⟩:=h;refine ⟨_,(Jaf (Jao (pe_un JcQ (pe_op JaO (pe_un JcQ (pe_ix ix_U (pv 0) Jah)) (pe_ix ix_U (pv 0) Jah))))),?_⟩;obtain ⟨c,b,k⟩:=h;show tRet _ _ [some v] H;cbv;refine ixF0 c ?_;cbv;refine ixF1 c ?_;cbv;exact ⟨divOk (n:=700) (by have:=b.b1;ac_nf) b.s2,k⟩
abbrev Bau:Stmt:=top 52
theorem Ja5:Jan ["steps","reached_chains","places","enough","step","place"] ["steps","reached_chains","places"] (Jad Bau):=by bv_decide
def JbE (K:W.Frag) (Ad:Adr):Sp:=fun vs H Q E=>∃ (sL td pd:Addr) (ts:List TD) (tb:Tab) (pb:List (Str × (Int × Int))) (H0:Hp),vs=[.ref sL, .ref td, .ref pd]/\STp K Ad H ts sL/\TDk K H0 H tb td/\PDk K H pb pd/\(∀ s∈Ch.all ts,FB 200 9 s.c)/\(∀ v e,lk tb v=some e->FB 1000 700 e.1)/\(∀ v e,lk pb v=some e->FB 1000 700 e)/\(∀ s∈Ch.all ts, ∃ e,lk pb s.src=some e)/\Q (.int (enD (ssD ts) (fun v=>(lk tb v).map (·.1)) (lk pb))) H
theorem JdA (F:FunD K "enough_above" "enough_above" Bau dV f fd) (T:Txt K mg Ad) (Bbf:Cal P w K mg base 1 "whole_above" ["number"] [] (JbS K)) (BaV:Cal P w K mg base 1 "whole_below" ["number"] [] (JbT K)):FnOk P w K mg base (CX1 P w) 2 f fd ["steps","reached_chains","places"] (JbE K Ad):=by
 refine F.okn Ja5 (by subst_eqs) (fun a2 A N s H vs Q E D h=>?_)
 obtain ⟨I,o,J,x,c,n,H0,rfl,h⟩:=h;have B:=D.units;refine ⟨_,(Jab (Jak 3 Ja5.nd Jah) (Jab (Ja4 PassesOwn.never rfl (pi_U (pv 0)) (Jav 4 Ja5.nd) (Jaf (ps_if (PW.pt (Jhw (JbX (Jd9 (hu1 B) (Jat (pv 4) rfl) (pv 1)) (by with_unfolding_all rfl)) (JfM (JbX (JbB (hu1 B) (Jat (pv 4) rfl) (pv 1)) (by with_unfolding_all rfl))))) (Jab (Jak 5 Ja5.nd (Bbf.ev D ⋯ rfl passF (Jaa (pe_ix ix_U (JaM (hu1 B) (pv 1) (Jat (pv 4) rfl) (fun _ _=>rfl)) Jah) Jac))) (Jaf (Jak 3 Ja5.nd (Jaz (JgR rfl) rfl T.n_max JjZ (Jaa (pv 3) (Jaa (pe_op Jd8 (pe_op Jd8 (pv 5) (BaV.ev D ⋯ rfl passF (Jaa (JaM (hu1 B) (pv 2) (Jat (pv 4) rfl) (fun _ _=>rfl)) Jac))) (BaV.ev D ⋯ rfl passF (Jaa (Jat (pv 4) rfl) Jac))) Jac))))))
   Jau))) (Jaf (Jao (pv 3))))),?_⟩
 clear B;obtain ⟨⟨⟨sx,hS,hX⟩,_,_⟩,⟨kt,et,G,_⟩,⟨kp,ep,hP⟩,R,W,U,Z,k⟩:=h;have g:=T.c_Step Ad.Step rfl;have lX:=hX.length;show tSeq _ _ _ [some (.ref I),some (.ref o),some (.ref J),none,none,none] H;mleave;refine ⟨I,rfl,ForA.byLN (xs:=sx) hS (fun i σ L=>i<=sx.length/\∃ (v4 t:Option V),σ=[some (.ref I),some (.ref o),some (.ref J),some (.int (((ssD x).take i).foldl (enS (fun v=>(lk c v).map (·.1)) (lk n)) 0)),v4,t]/\L=H) ⟨Nat.zero_le _,none,none,rfl,rfl⟩ (fun i σ L z=>by obtain ⟨_,_,_,_,rfl⟩:=z;exact hS) ?_ ?_⟩
 ·rintro i y σ L hy ⟨hi,v4,t,rfl,rfl⟩ N0 l;have X:=(List.getElem?_eq_some_iff.mp hy).1;obtain ⟨s,hs,p,r,vc,pr,rfl,d,M,a1⟩:=hX.at_ hy;obtain ⟨s0,C,es⟩:=mem_map.mp (List.mem_of_getElem? hs);have j:((ssD x).take (i+1)).foldl (enS (fun v=>(lk c v).map (·.1)) (lk n)) 0=enS (fun v=>(lk c v).map (·.1)) (lk n) (((ssD x).take i).foldl (enS (fun v=>(lk c v).map (·.1)) (lk n)) 0) s:=by rw [take_succ,hs,foldl_append];rfl
  generalize ((ssD x).take i).foldl (enS (fun v=>(lk c v).map (·.1)) (lk n)) 0=m at j ⊢;have S:FB 1000 700 s.cost:=by rw [<- es];exact (R s0 C).mono ⋯ ⋯
  mleave;refine ⟨p,_,r,_, .str s.tgt,rfl,d,g.cls,g.n2,rfl,?_⟩;refine ⟨o,_,rfl,DGet.k (k:=Sum.inr s.tgt) et,?_⟩;cases ea:lk c s.tgt with
  | none=>
   rw [G.no ea];try simpa only [y4fy,Option.isSome_none]
   refine l _ _ ⟨X,some (.ref p),t,?_,rfl⟩;rw [j,Jj4 (by show (lk c s.tgt).map _=none;rw [ea];rfl)]
  | some a=>
   obtain ⟨va,u,pa,qa,la,xa,rfl,O,a0,_⟩:=G.at ea;rw [u];try simpa only [y4fy,Option.isSome_some]
   refine ⟨p,_,r,_, .str s.src,rfl,d,g.cls,g.n1,rfl,?_⟩;refine ⟨o,_,rfl,DGet.k (k:=Sum.inr s.src) et,?_⟩;cases eb:lk c s.src with
   | some b=>
    rw [(G.at eb).choose_spec.1];try simpa only [y4fy,Option.isSome_some]
    refine l _ _ ⟨X,some (.ref p),t,?_,rfl⟩;rw [j,Jj5 (b:=b.1) (by show (lk c s.src).map _=some _;rw [eb];rfl)]
   | none=>
    rw [G.no eb];try simpa only [y4fy,Option.isSome_none]
    obtain ⟨q,hq⟩:∃ e,lk n s.src=some e:=by rw [<- es];exact Z s0 C
    obtain ⟨vq,Y,fq⟩:=hP.at hq;refine ⟨p,_,r,_, .str s.tgt,rfl,d,g.cls,g.n2,rfl,?_⟩;refine ⟨o, .ref pa,rfl,by rw [<- u];exact DGet.k (k:=Sum.inr s.tgt) et,?_⟩;mleave;refine ixT (i:=0) O rfl ?_;mleave;refine ⟨_,a.1,rfl,a0,W _ _ ea,?_⟩;mleave
    (try ((with_reducible refine Nxt.go (by assumption) ?_);mleave))
    mleave;refine ⟨p,_,r,_, .str s.src,rfl,d,g.cls,g.n1,rfl,?_⟩;refine ⟨J,vq,rfl,by rw [<- Y];exact DGet.k (k:=Sum.inr s.src) ep,?_⟩;mleave;refine ⟨_,q,rfl,fq,U _ _ hq,?_⟩;mleave;refine ⟨p,_,r,_,vc,rfl,d,g.cls,g.n3,rfl,?_⟩;mleave;refine ⟨_,s.cost,rfl,M,S,?_⟩;mleave;refine ⟨_,_,rfl,?_⟩;mleave;refine l _ _ ⟨X,some (.ref p),some (.int (ceilF a.1)),?_,rfl⟩;rw [j,enS_y (a:=a.1) (p:=q) (by show (lk c s.tgt).map _=some _;rw [ea];rfl) (by show (lk c s.src).map _=none;rw [eb];rfl) hq]
 ·rintro σ L ⟨hi,v4,t,rfl,rfl⟩;mleave;rw [take_of_length_le ∅];exact k
abbrev Baf:Stmt:=top 53
theorem JaQ:Jan ["steps","reached_chains","places","lift","told","face"] ["steps","reached_chains","places"] (Jad Baf):=by bv_decide
def Jba (K:W.Frag) (Ad:Adr):Sp:=fun vs H Q E=>∃ (sL td pd:Addr) (ts:List TD) (tb:Tab) (pb:List (Str × (Int × Int))) (H0:Hp),vs=[.ref sL, .ref td, .ref pd]/\STp K Ad H ts sL/\TDk K H0 H tb td/\PDk K H pb pd/\(∀ s∈Ch.all ts,FB 200 9 s.c)/\(∀ v e,lk tb v=some e->FB 1000 700 e.1)/\(∀ v e,lk pb v=some e->FB 1000 700 e)/\(∀ s∈Ch.all ts, ∃ e,lk pb s.src=some e)/\pb.length<64/\∀ (l:Addr) (zs:List V) (out:List Str) (H':Hp),Same H H'->H l=none->H' l=some (.lst zs)->JgK out (pb.map (·.1))->All2 (QV K H') (stD ts (fun v=>(lk tb v).map (·.1)) (lk pb) out) zs->Q (.ref l) H'
theorem Jcw (F:FunD K "stretched_placing" "stretched_placing" Baf dV f fd) (T:Txt K mg Ad) (Ba9:Cal P w K mg base 2 "enough_above" ["steps","reached_chains","places"] [] (JbE K Ad)) (Bbs:Cal P w K mg base 2 "plus" ["one","other"] [] (JdH K)):FnOk P w K mg base (CX1 P w) 3 f fd ["steps","reached_chains","places"] (Jba K Ad):=by
 refine F.okn JaQ (by subst_eqs) (fun c0 A b3 s H vs Q E hr h=>?_)
 obtain ⟨sL,R,U,L,n,u,H0,rfl,h⟩:=h;have hu:=hr.units;refine ⟨_,(Jab (Jak 3 JaQ.nd (JaC (Jaa (Ba9.ev hr ⋯ rfl passF (Jaa (pv 0) (Jaa (pv 1) (Jaa (pv 2) Jac)))) (Jaa Jah Jac)))) (Jab (Jak 4 JaQ.nd (JaE Jac)) (Jab (Ja4 PassesOwn.never rfl (pi_U (Jaz (JcU rfl) rfl T.BbK Jdm (Jaa (pv 2) Jac))) (Jav 5 JaQ.nd) (Jaf (ps_if (JbX (Jd9 (hu1 hu) (pv 5) (pv 1)) (by with_unfolding_all rfl)) (Jaf (JaU (pe_bm PySem.F.plainAttrs_list PySem.F.slot_list_append PySem.F.type_list_append Jbc (pv 4) (Jaa (JaC (Jaa (pv 5) (Jaa (pe_ix ix_U (JaM (hu1 hu) (pv 1) (pv 5) (fun _ _=>rfl)) Jah) Jac))) Jac) (hs:=by exact Jai rfl)))) (Jaf (JaU (pe_bm PySem.F.plainAttrs_list PySem.F.slot_list_append PySem.F.type_list_append Jbc (pv 4) (Jaa (JaC (Jaa (pv 5) (Jaa (Bbs.ev hr ⋯ rfl passF (Jaa (JaM (hu1 hu) (pv 2) (pv 5) (fun _ _=>rfl)) (Jaa (pv 3) Jac))) Jac))) Jac) (hs:=by exact Jai rfl))))))) (Jaf (Jao (pv 4)))))),?_⟩
 clear hu;obtain ⟨b0,a5,Y,a7,Z,N,b5,c1,k⟩:=h;obtain ⟨kt,et,hT,hf⟩:=id a5;obtain ⟨kp,ep,hP⟩:=id Y;have sl:(1000:Nat)<=sizeLine:=by decide
 show tSeq _ _ _ [some (.ref sL),some (.ref R),some (.ref U),none,none,none] H;cbv;refine ⟨sL,R,U,L,n,u,H0,rfl,b0,a5,Y,a7,Z,N,b5,?_⟩;have G:=en_lt (f:=fun v=>(lk n v).map (·.1)) (g:=lk u) (fun v e h=>by obtain ⟨a,h1,h2⟩:=Option.map_eq_some_iff.mp h;rw [<- h2];exact Z v a h1) N (ssD L) 0 (fun s hs=>by obtain ⟨y,hy,rfl⟩:=mem_map.mp hs;exact (a7 y hy).mono ⋯ ⋯) (Int.le_refl _) (by exact_mod_cast Nat.two_pow_pos 1010);have G:0<=enD (ssD L) (fun v=>(lk n v).map (·.1)) (lk u)/\enD (ssD L) (fun v=>(lk n v).map (·.1)) (lk u)<2 ^ 1010:=G;cbv;refine ⟨len2,?_⟩;rename_i lf b9 b8 H H1 S1 e1;cbv
 mframe;refine ⟨len0,?_⟩;rename_i J j b7 H1 H2 S2 e2;cbv
 mframe;refine ⟨U,kp,u.map (·.1),rfl,S2 _ _ (S1 _ _ ep),hP.keys,by rw [length_map];ac_nf,?_⟩;intro so b o O;generalize I:upd H2 so _=H3;have S3:=newS o I;have e3:=newE I;have c2:=S1.trans (S2.trans S3);have lo:b.length=u.length:=by rw [O.1.length_eq,length_map]
 have a2:J≠so:=fun z=>by rw [<- z,e2] at o;cases o
 generalize hst':stD L (fun v=>(lk n v).map (·.1)) (lk u)=st at k;have b4:∀ i,(st (b.take i)).length=(b.take i).length:=fun i=>by rw [<- hst'];unfold stD;rw [length_map]
 have fl:FrV K H1 (.ref lf) (enD (ssD L) (fun v=>(lk n v).map (·.1)) (lk u)) 1:=FrV.of e1;generalize hm:enD (ssD L) (fun v=>(lk n v).map (·.1)) (lk u)=m at *;refine ⟨so,rfl,ForA.byLN (xs:=b.map V.str) (SqL.of e3) (fun i σ H'=>i<=b.length/\∃ (v5:Option V) (zs:List V),σ=[some (.ref sL),some (.ref R),some (.ref U),some (.ref lf),some (.ref J),v5]/\Same H1 H'/\H' so=some (.lst (b.map V.str))/\H' J=some (.lst zs)/\All2 (QV K H') (st (b.take i)) zs) ⟨Nat.zero_le _,none,[],rfl,S2.trans S3,e3,S3 _ _ e2,by rw [take_zero, <- hst'];exact rfl⟩ (fun i σ H' z=>by obtain ⟨_,_,_,_,_,z,_⟩:=z;exact SqL.of z) ?_ ?_⟩
 ·rintro i y σ H4 hy ⟨hi,v5,zs,rfl,S,M,d,W⟩ N0 X;rw [List.getElem?_map] at hy;obtain ⟨v,hv,rfl⟩:=Option.map_eq_some_iff.mp hy;have li:=(List.getElem?_eq_some_iff.mp hv).1;have a9:=W.length;rw [b4,length_take] at a9;have r:=S1.trans S;have a3:=r _ _ et;have b6:=r _ _ ep;obtain ⟨q,hq⟩:=Jc2 (O.1.mem_iff.mp (List.mem_of_getElem? hv));have a6:∀ e,(st [v])=[(v,e)]->st (b.take (i+1))=st (b.take i)++[(v,e)]:=fun e h=>by
   rw [take_succ,hv, <- h, <- hst'];unfold stD;rw [map_append];rfl
  cbv;refine ⟨R,_,rfl,DGet.k (k:=Sum.inr v) a3,?_⟩;cases ea:lk n v with
  | some e=>
   obtain ⟨va,a0,p,qv,l,xs,rfl,hp,a8,_⟩:=hT.at ea;rw [a0];try simpa only [Option.isSome_some]
   refine ⟨.inl ⟨rfl,_,SqL.of d⟩,?_⟩;refine ⟨R, .ref p,rfl,by rw [<- a0];exact DGet.k (k:=Sum.inr v) a3,?_⟩;cbv;refine ixT (i:=0) (hp.same r) rfl ?_;cbv;refine ⟨len2,?_⟩;rename_i np a4 a1 H4 H5 D e5;cbv;refine ⟨J,_,_,rfl,rfl,D _ _ d,by ac_nf,?_⟩;generalize u6:upd H5 J _=H6;cbv;have e6:=putE u6;have T6:SameT H5 H6:=SameT.put u6 (D _ _ d) rfl;refine X _ _ ⟨li,_,_,rfl,fun c w h=>by rw [<- u6,Jag (Jae h j)];exact D _ _ (S _ _ h),by rw [<- u6,Jag (Ne.symm a2)];exact D _ _ M,e6,?_⟩;rw [a6 e.1 (by rw [<- hst'];exact Jio (by show (lk n v).map _=some _;rw [ea];rfl))];exact (W.mono (P':=QV K H6) fun _ _ z=>z.sameT (D.t.trans T6)).append (.one ⟨np,qv,rfl,T6 _ _ rfl e5,(a8.same (r.trans D)).sameT T6⟩)
  | none=>
   rw [hT.no ea];try simpa only [Option.isSome_none]
   obtain ⟨vq,b2,fq⟩:=hP.at hq;have x:=N _ _ hq;refine ⟨.inl ⟨rfl,_,SqL.of d⟩,?_⟩;refine ⟨U,vq,rfl,by rw [<- b2];exact DGet.k (k:=Sum.inr v) b6,?_⟩;cbv;refine ⟨vq, .ref lf,q.1,q.2,m,1,rfl,FrV.same r fq,fl.same S,x.s1.mono ⋯,x.s2.mono ⋯,?_, .lit ⋯ ⋯,x.b1,by decide,x.g1,by unfold Mth.g;simp,fun ap H5 D e5=>?_⟩
   ·refine (show Mth.Sz 1010 m from ?_).mono ⋯;unfold Mth.Sz;have h1:=G.2;have hC:((2 ^ 1010:Nat):Int)=(2:Int) ^ 1010:=by norm_cast
    rw [<- hC] at h1;have h0:=G.1;generalize (2 ^ 1010:Nat)=C at *;ac_nf
   cbv;refine ⟨len2,?_⟩;rename_i np a4 a1 H5 H6 S6 e6;cbv;refine ⟨J,_,_,rfl,rfl,S6 _ _ (D _ _ d),by ac_nf,?_⟩;generalize u7:upd H6 J _=H7;cbv;have e7:=putE u7;have B:=D.trans S6;have T7:SameT H6 H7:=SameT.put u7 (B _ _ d) rfl;refine X _ _ ⟨li,_,_,rfl,fun c w h=>by rw [<- u7,Jag (Jae h j)];exact B _ _ (S _ _ h),by rw [<- u7,Jag (Ne.symm a2)];exact B _ _ M,e7,?_⟩;rw [a6 (addF q (m,1)) (by rw [<- hst', <- hm];exact Jin (by show (lk n v).map _=none;rw [ea];rfl) hq)];exact (W.mono (P':=QV K H7) fun _ _ z=>z.sameT (B.t.trans T7)).append (.one ⟨np, .ref ap,rfl,T7 _ _ rfl e6,⟨ap,rfl,(SqT.of (S6 _ _ e5)).sameT T7⟩⟩)
 ·rintro σ H4 ⟨hi,v5,zs,rfl,S,M,d,W⟩;cbv;rw [take_of_length_le (by rw [length_map];exact Nat.le_refl _)] at W;exact k J zs b H4 (S1.trans S) (Jaw S1 j) d O W
abbrev BaB:Stmt:=top 54
theorem Jbd:Jan ["chains","one","other","least","greatest"] ["chains","one","other"] (Jad BaB):=by bv_decide
def Jbq (K:W.Frag) (Ad:Adr):Sp:=fun vs H Q E=>∃ (cd:Addr) (one other:Str) (cb:List (Str × Addr)) (kc:List (Key × V)) (tb1 tb2:Tab) (t1 t2:Addr) (H0:Hp),vs=[.ref cd, .str one, .str other]/\H cd=some (.dK kc)/\DV (fun a v=>v=.ref a) cb kc/\lk cb one=some t1/\lk cb other=some t2/\TDk K H0 H tb1 t1/\TDk K H0 H tb2 t2/\(∀ v e,lk tb1 v=some e->FB 1000 700 e.1)/\(∀ v e,lk tb2 v=some e->FB 1000 700 e.1)/\∀ (p:Addr) (vl vg:V) (H':Hp),Same H H'->H' p=some (.tup [vl,vg])->BV K H' ((lk tb2 one).map fun e=>subF (0,1) e.1) vl->BV K H' ((lk tb1 other).map (·.1)) vg->Q (.ref p) H'
theorem JdM (F:FunD K "gap_between" "gap_between" BaB dV f fd) (T:Txt K mg Ad) (Bbd:Cal P w K mg base 3 "minus" ["one","other"] [] (JcO K)):FnOk P w K mg base (CX1 P w) 4 f fd ["chains","one","other"] (Jbq K Ad):=by
 refine F.okn Jbd (by subst_eqs) (fun a1 A M s H vs Q E Y h=>?_)
 obtain ⟨m,one,other,cb,kc,B,n,G,z,H0,rfl,h⟩:=h;have g:=Y.units;refine ⟨_,(Jab (Jak 3 Jbd.nd Ja2) (Jab (Jak 4 Jbd.nd Ja2) (Jab (ps_if (JbX (Jd9 (hu1 g) (pv 1) (JaM (hu1 g) (pv 0) (pv 2) (fun _ _=>rfl))) (by with_unfolding_all rfl)) (Jaf (Jak 3 Jbd.nd (Bbd.ev Y ⋯ rfl passF (Jaa (JaB (v:=.ref _) rfl T.Bb9 T.Bca) (Jaa (pe_ix ix_U (JaM (hu1 g) (JaM (hu1 g) (pv 0) (pv 2) (fun _ _=>rfl)) (pv 1) (fun _ _=>rfl)) Jah) Jac)))))
   Jau) (Jab (ps_if (JbX (Jd9 (hu1 g) (pv 2) (JaM (hu1 g) (pv 0) (pv 1) (fun _ _=>rfl))) (by with_unfolding_all rfl)) (Jaf (Jak 4 Jbd.nd (pe_ix ix_U (JaM (hu1 g) (JaM (hu1 g) (pv 0) (pv 1) (fun _ _=>rfl)) (pv 2) (fun _ _=>rfl)) Jah)))
   Jau) (Jaf (Jao (JaC (Jaa (pv 3) (Jaa (pv 4) Jac))))))))),?_⟩
 clear g;obtain ⟨I,hC,h1,h2,⟨k1,u,x,_⟩,⟨k2,C,D,_⟩,a0,O,k⟩:=h;obtain ⟨v1,r,rfl⟩:=hC.at h1;obtain ⟨v2,y,rfl⟩:=hC.at h2;show tSeq _ _ _ [some (.ref m),some (.str one),some (.str other),none,none] H;cbv;refine ⟨m, .ref z,rfl,by rw [<- y];exact DGet.k (k:=Sum.inr other) I,?_⟩;cbv;refine ⟨z,_,rfl,DGet.k (k:=Sum.inr one) C,?_⟩;rename_i N hN;have a:∀ (vl:V) (j:Hp),Same H j->BV K j ((lk n one).map fun e=>subF (0,1) e.1) vl->N [some (.ref m),some (.str one),some (.str other),some vl,some .non] j:=by
  intro vl j c Z
  mframe;refine ⟨m, .ref G,rfl,by rw [<- r];exact DGet.k (k:=Sum.inr one) (c _ _ I),?_⟩;cbv;refine ⟨G,_,rfl,DGet.k (k:=Sum.inr other) (c _ _ u),?_⟩;cases ea:lk B other with
  | none=>
   rw [x.no ea];try simpa only [Option.isSome_none]
   mframe;refine ⟨len2,?_⟩;rename_i p W L j R o J;cbv;exact k p vl .non R (c.trans o) J (Z.sameT o.t) (by rw [ea];rfl)
  | some e=>
   obtain ⟨va,b,q,U,l,xs,rfl,S,X,_⟩:=x.at ea;rw [b];try simpa only [Option.isSome_some]
   refine ⟨m, .ref G,rfl,by rw [<- r];exact DGet.k (k:=Sum.inr one) (c _ _ I),?_⟩;cbv;refine ⟨G, .ref q,rfl,by rw [<- b];exact DGet.k (k:=Sum.inr other) (c _ _ u),?_⟩;cbv;refine ixT (i:=0) (S.same c) rfl ?_;cbv
   mframe;refine ⟨len2,?_⟩;rename_i p W L j R o J;cbv;exact k p vl U R (c.trans o) J (Z.sameT o.t) (by rw [ea];exact X.same (c.trans o))
 cases eb:lk n one with
 | none=>
  rw [D.no eb];try simpa only [Option.isSome_none]
  exact a .non H (Same.refl _) (by rw [eb];rfl)
 | some e=>
  obtain ⟨va,b,q,U,l,xs,rfl,S,X,_⟩:=D.at eb;have d:=O _ _ eb;rw [b];try simpa only [Option.isSome_some]
  refine ⟨m, .ref z,rfl,by rw [<- y];exact DGet.k (k:=Sum.inr other) I,?_⟩;cbv;refine ⟨z, .ref q,rfl,by rw [<- b];exact DGet.k (k:=Sum.inr one) C,?_⟩;cbv;refine ixT (i:=0) S rfl ?_;cbv;refine ⟨.ref Ad.ZERO,U,0,1,e.1.1,e.1.2,rfl,⟨Ad.ZERO,rfl,T.BbZ _⟩,X, .lit ⋯ ⋯, .lit ⋯ ⋯,d.s1.mono ⋯,d.s2.mono ⋯,by decide,d.b1,by decide,d.g1,fun p j c e1=>?_⟩;refine a (.ref p) j c ?_;rw [eb];exact ⟨p,rfl,SqT.of e1⟩
abbrev Bag:Stmt:=inClass (top 55) 8
theorem JbC:Jan ["self","one","other","faces"] ["self","one","other"] (Jad Bag):=by bv_decide
def JaW (K:W.Frag) (Ad:Adr):Sp:=fun vs H Q E=>∃ (p d:Addr) (ts:List TD) (F:List Str) (one other:Str),vs=[.ref p, .str one, .str other]/\BK K Ad H p d ts/\ts.length<=35/\F.length<=14/\(∀ t∈ts,t.st∈F/\t.en∈F)/\(((∃ t∈ts,one=t.st\/one=t.en)/\∃ t∈ts,other=t.st\/other=t.en)->∀ H',Same H H'->Q .non H')/\(¬ ((∃ t∈ts,one=t.st\/one=t.en)/\∃ t∈ts,other=t.st\/other=t.en)->∀ H',Same H H'->E (.ref Ad.NoFace) none H')
theorem Jcz (F:FunD K "check_faces" "Book.check_faces" Bag dV f fd) (T:Txt K mg Ad) (m_faces:MCal P w K mg base 2 "faces" (JaA Ad) ["self"] (JaX K Ad)):FnOk P w K mg base (CX1 P w) 3 f fd ["self","one","other"] (JaW K Ad):=by
 refine F.okx JbC (fun J H Q E h=>?_) (fun L A m s H J Q E B h=>?_)
 ·obtain ⟨p,d,g,F,one,other,rfl,_⟩:=h;rfl
 obtain ⟨p,d,g,F,one,other,rfl,h⟩:=h;refine ⟨_,(Jab (Jak 3 JbC.nd (m_faces.m0 B ⋯ pass1 (pv 0))) (Jaf (ps_if (PW.pt (pw_or (Jas Jfb (pv 1) (pv 3) (by with_unfolding_all rfl)) (JbK (Jas Jfb (pv 2) (pv 3) (by with_unfolding_all rfl))))) (Jaf (Jev PySem.F.excBase_ValueError T.x_NoFace rfl T.m_NoFace (Jaa Jbz Jac)))
   Jau))),?_⟩
 obtain ⟨u,j,G,r,k,y⟩:=h;obtain ⟨⟨D,I⟩,_⟩:=id u;show tSeq _ _ _ [some (.ref p),some (.str one),some (.str other),none] H;cbv;refine ⟨p,_,D,_,rfl,I,rfl,rfl,?_⟩;cbv;refine ⟨p,d,g,F,rfl,u,j,G,r,fun l n o q C x e=>?_⟩
 mframe;have a:(n.map V.str).all flatV=true:=List.all_eq_true.mpr (fun v M=>by obtain ⟨z,_,rfl⟩:=mem_map.mp M;rfl);refine ⟨l,_,rfl, .inl (SqL.of x),rfl,a,?_⟩;rw [if_pos rfl,Jek];cbv;by_cases c:∃ t∈g,one=t.st\/one=t.en
 ·rw [decide_eq_true ((e.2.2 one).mpr c)];cbv;refine ⟨l,_,rfl, .inl (SqL.of x),rfl,a,?_⟩;rw [if_pos rfl,Jek];cbv;by_cases b:∃ t∈g,other=t.st\/other=t.en
  ·rw [decide_eq_true ((e.2.2 other).mpr b)];cbv;exact k ⟨c,b⟩ o q
  ·rw [decide_eq_false fun z=>b ((e.2.2 other).mp z)];cbv;exact ⟨by show 1<=sizeLine;decide,y (fun z=>b z.2) o q⟩
 ·rw [decide_eq_false fun z=>c ((e.2.2 one).mp z)];cbv;exact ⟨by show 1<=sizeLine;decide,y (fun z=>c z.1) o q⟩
abbrev Bak:Stmt:=inClass (top 55) 9
theorem Ja8:Jan ["self","faces","steps","told","face"] ["self","faces"] (Jad Bak):=by bv_decide
def Ja9 (K:W.Frag) (Ad:Adr):Sp:=fun vs H Q E=>∃ (p d:Addr) (ts:List TD) (F:List Str) (fL:Addr) (gs:List Str),vs=[.ref p, .ref fL]/\BK K Ad H p d ts/\BkH ts F/\SqL K H fL (gs.map V.str)/\gs.length<=14/\(∀ (cd:Addr) (cb:List (Str × Addr)) (kc:List (Key × V)) (H':Hp),Same H H'->H' cd=some (.dK kc)->DV (fun a v=>v=.ref a) cb kc->(∀ g∈gs, ∃ td,lk cb g=some td)->(∀ g td,lk cb g=some td->∃ tb,TDk K H H' tb td/\TTd ts [g] tb)->(∃ π,Pot π (ssD ts))->Q (.ref cd) H')/\∀ (l dx:Addr) (xs:List V) (R:List SpS) (H':Hp),Same H H'->H l=none->H' l=some (.lst xs)->H dx=none->H' dx=some (.xd [("around", .ref l)])->(¬ ∃ π,Pot π (ssD ts))->(∃ out,Jbi ts out/\RgD (ssD ts) out R)->All2 (CV H') (R.map fun s=>(s.nm,s.fw)) xs->E (.ref Ad.Impossible) (some dx) H'
theorem JcX (F:FunD K "chains_of" "Book.chains_of" Bak dV f fd) (T:Txt K mg Ad) (m_kept:MCal P w K mg base 1 "kept" (JaA Ad) ["self"] (JaS K Ad)) (m_faces:MCal P w K mg base 2 "faces" (JaA Ad) ["self"] (JaX K Ad)) (Bay:Cal P w K mg base 6 "steps_of" ["ties"] [] (JbF K Ad)) (Baq:Cal P w K mg base 5 "places_of" ["steps","faces"] [] (Jbs K Ad)) (Bah:Cal P w K mg base 4 "chains_from" ["steps","starts"] [] (Jbe K Ad)):FnOk P w K mg base (CX1 P w) 7 f fd ["self","faces"] (Ja9 K Ad):=by
 refine F.okx Ja8 (fun vs H Q E h=>?_) (fun d6 A c0 s H vs Q E hr h=>?_)
 ·obtain ⟨p,d,q,F,fL,gs,rfl,_⟩:=h;rfl
 obtain ⟨p,d,q,F,fL,gs,rfl,h⟩:=h;have hu:=hr.units;refine ⟨_,(Jab (Jak 2 Ja8.nd (Bay.ev hr ⋯ rfl pass1 (Jaa (m_kept.m0 hr ⋯ pass1 (pv 0)) Jac))) (Jab (JaU (Baq.ev hr ⋯ rfl pass1 (Jaa (pv 2) (Jaa (m_faces.m0 hr ⋯ pass1 (pv 0)) Jac)))) (Jab (Jak 3 Ja8.nd JbI) (Jab (Ja4 PassesOwn.leaving rfl (pi_U (pv 1)) (Jav 4 Ja8.nd) (Jaf (Jbu (hu1 hu) (pv 3) (pv 4) (Bah.ev hr ⋯ rfl pass1 (Jaa (pv 2) (Jaa (JaE (Jaa (pv 4) Jac)) Jac))) rfl))) (Jaf (Jao (pv 3))))))),?_⟩
 clear hu;obtain ⟨hb,m,hF,l8,k,kE⟩:=h;obtain ⟨⟨dx,hp⟩,_⟩:=id hb;have sl:(1000:Nat)<=sizeLine:=by decide
 have b3:(ssD q).length<=70:=by unfold ssD;rw [length_map];exact m.l70
 show tSeq _ _ _ [some (.ref p),some (.ref fL),none,none,none] H;cbv;refine ⟨p,_,dx,_,rfl,hp,rfl,rfl,?_⟩;cbv;refine ⟨p,d,q,rfl,hb,fun l ys H1 S1 e0 e1 hA=>?_⟩;cbv;refine ⟨l,ys,q,rfl,SqL.of e1,hA,m.ok,fun s N=>(m.fb s N).mono ⋯ ⋯,m.l35,fun sL sx b H2 S2 e2 Y a3 d9 b7 c1=>?_⟩;have Y:b=bD_ q:=Y;subst Y;have U:STp K Ad H2 q sL:=⟨⟨sx,SqL.of e2,JeE c1⟩,a3,fun s N=>⟨(m.fb s N).b1,b7 s N⟩⟩;have e:=S1.trans S2
 mframe;refine ⟨p,_,dx,_,rfl,e _ _ hp,rfl,rfl,?_⟩;cbv;refine ⟨p,d,q,F,rfl,hb.same e,m.l35,m.f8,m.fm,fun fl o H3 I d1 e3 x=>?_⟩;have a5:o.length<=14:=by
  have:=sub_len o F x.1 fun z hz=>by
   obtain ⟨t,ht,h | h⟩:=(x.2.2 z).mp hz
   ·rw [h];exact (m.fm t ht).1
   ·rw [h];exact (m.fm t ht).2
  have:=m.f8;ac_nf
 cbv;have a0:∀ s∈Ch.all q,s.src∈o:=fun s N=>(JbW (F:=o) (fun t ht=>⟨(x.2.2 _).mpr ⟨t,ht, .inl rfl⟩,(x.2.2 _).mpr ⟨t,ht, .inr rfl⟩⟩) s N).1;refine ⟨sL,fl,q,F,o,rfl,U.same I,m,SqL.of e3,a5,a0,fun pd kp d7 pb H4 X c8 e4 d5 d4 e6 d3 B=>?_,fun l2 c6 xs R H4 X h1 h2 h3 h4 h5 h6 h7=>kE l2 c6 xs R H4 ((e.trans I).trans X) (Jaw (e.trans I) h1) h2 (Jaw (e.trans I) h3) h4 h5 ⟨o,x,h6⟩ h7⟩
 mframe;rename_i M O c7 H4 H5 S5 e5;cbv
 mframe;have c5:=e.trans (I.trans (X.trans S5));have c9:=Jaw (e.trans (I.trans X)) O;refine ⟨fL,rfl,ForA.byLN (xs:=gs.map V.str) (hF.same c5) (fun i σ H'=>i<=gs.length/\∃ (v4:Option V) (G:List (Str × Addr)) (kc:List (Key × V)),σ=[some (.ref p),some (.ref fL),some (.ref sL),some (.ref M),v4]/\Same H4 H'/\H' M=some (.dK kc)/\DV (fun a v=>v=.ref a) G kc/\G.length<=i/\(∀ g∈gs.take i, ∃ j,lk G g=some j)/\∀ g j,lk G g=some j->j≠M/\∃ L,TDk K H H' L j/\TTd q [g] L) ⟨Nat.zero_le _,none,[],[],rfl,S5,e5,rfl,Nat.le_refl _,(fun g m=>by simp at m),fun g j h=>by cases h⟩ (fun i σ H' z=>by obtain ⟨_,_,_,_,_,z,_⟩:=z;exact (hF.same (e.trans (I.trans X))).same z) ?_ ?_⟩
 ·rintro i y σ H6 hy ⟨hi,v4,G,kc,rfl,S6,D,J,b8,C,S⟩ N0 a9;rw [List.getElem?_map] at hy;obtain ⟨g,a1,rfl⟩:=Option.map_eq_some_iff.mp hy;have li:=(List.getElem?_eq_some_iff.mp a1).1;have c4:gs.take (i+1)=gs.take i++[g]:=by rw [take_succ,a1];rfl
  have d8:=J.len;have a2:Same H2 H6:=I.trans (X.trans S6);cbv;refine ⟨by show 1<=sizeLine;ac_nf,?_⟩;rename_i gl d0 d2 H6 H7 S7 e7;cbv;obtain ⟨b9,b5,b4⟩:=((U.same a2).same S7).ex;cbv;refine ⟨sL,gl,b9,ssD q,[g],rfl,b5,b4,SqL.of e7,by show 1<=14;decide,b3, .inr B,fun s N=>?_,fun j kt L P H8 S8 u e8 b2 hP hB b0 c2 _=>?_,fun _ _ _ _ _ _ _ _ _ _ np _ _=>absurd B np⟩
  ·obtain ⟨s',c3,rfl⟩:=mem_map.mp N;exact m.fb s' c3
  have hP:P=lsD q [g]:=hP;subst hP;have W:=S7.trans S8;have a6:=W _ _ D;have a4:j≠M:=fun z=>by rw [z,S7 _ _ D] at u;cases u
  have b6:Same H H7:=e.trans (a2.trans S7);cbv;refine ⟨M,_,rfl,DPut.k (k:=Sum.inr g) a6 ∅,?_⟩;generalize u9:upd H8 M _=H9;cbv;have e9:=putE u9;have a7:∀ L j,j≠M->TDk K H H8 L j->TDk K H H9 L j:=fun L j n ⟨kt,h1,h2,h3⟩=>⟨kt,by rw [<- u9,Jag n];exact h1,h2.mono fun _ _ z=>z.putL u9 a6,h3⟩;refine a9 _ _ ⟨li,_,pu G g j,_,rfl,fun c w h=>by rw [<- u9,Jag (Jae h O)];exact W _ _ (S6 _ _ h),e9,J.put rfl,by have:=Jc3 (l:=G) (f:=g) (a:=j);ac_nf,fun f Z=>?_,fun f t r=>?_⟩
  ·rw [c4] at Z;rw [lk_pu];by_cases c:g=f
   ·exact ⟨_,if_pos c⟩
   ·rw [if_neg c];cbv;rcases mem_append.mp Z with Z | Z
    ·exact C f Z
    ·exact absurd (mem_singleton.mp Z).symm c
  ·rw [lk_pu] at r;by_cases c:g=f
   ·rw [if_pos c] at r;cases r;subst c;exact ⟨a4,L,a7 _ _ a4 (TDk.base b6 ⟨kt,e8,b2,u⟩),⟨a3,U.bb,c2,b0,hB⟩⟩
   ·rw [if_neg c] at r;obtain ⟨n,a8,h1,h2⟩:=S f t r;exact ⟨n,a8,a7 _ _ n (h1.same W),h2⟩
 ·rintro σ H6 ⟨hi,v4,G,kc,rfl,S6,D,J,b8,C,S⟩;rw [take_of_length_le (by rw [length_map];exact Nat.le_refl _)] at C;cbv;exact k M G kc H6 (e.trans (I.trans (X.trans S6))) D J C (fun g j h=>(S g j h).2) B
abbrev Ba0:Stmt:=inClass (top 55) 10
theorem JfO:Jan ["self","one","other"] ["self","one","other"] (Jad Ba0):=by bv_decide
def Jb1 (K:W.Frag) (Ad:Adr):Sp:=fun vs H Q E=>∃ (p d:Addr) (ts:List TD) (F:List Str) (one other:Str),vs=[.ref p, .str one, .str other]/\BK K Ad H p d ts/\BkH ts F/\(((∃ t∈ts,one=t.st\/one=t.en)/\∃ t∈ts,other=t.st\/other=t.en)->∀ (q:Addr) (vl vg:V) (tb1 tb2:Tab) (H':Hp),Same H H'->H' q=some (.tup [vl,vg])->TTd ts [one] tb1->TTd ts [other] tb2->BV K H' ((lk tb2 one).map fun e=>subF (0,1) e.1) vl->BV K H' ((lk tb1 other).map (·.1)) vg->(∃ π,Pot π (ssD ts))->Q (.ref q) H')/\(((∃ t∈ts,one=t.st\/one=t.en)/\∃ t∈ts,other=t.st\/other=t.en)->∀ (l dx:Addr) (xs:List V) (R:List SpS) (H':Hp),Same H H'->H l=none->H' l=some (.lst xs)->H dx=none->H' dx=some (.xd [("around", .ref l)])->(¬ ∃ π,Pot π (ssD ts))->(∃ out,Jbi ts out/\RgD (ssD ts) out R)->All2 (CV H') (R.map fun s=>(s.nm,s.fw)) xs->E (.ref Ad.Impossible) (some dx) H')/\(¬ ((∃ t∈ts,one=t.st\/one=t.en)/\∃ t∈ts,other=t.st\/other=t.en)->∀ H',Same H H'->E (.ref Ad.NoFace) none H')
theorem JfD (F:FunD K "gap" "Book.gap" Ba0 dV f fd) (T:Txt K mg Ad) (m_check_faces:MCal P w K mg base 3 "check_faces" (JaA Ad) ["self","one","other"] (JaW K Ad)) (m_chains_of:MCal P w K mg base 7 "chains_of" (JaA Ad) ["self","faces"] (Ja9 K Ad)) (BaC:Cal P w K mg base 4 "gap_between" ["chains","one","other"] [] (Jbq K Ad)):FnOk P w K mg base (CX1 P w) 8 f fd ["self","one","other"] (Jb1 K Ad):=by
 refine F.okx JfO (fun vs H Q E h=>?_) (fun a0 A x s H vs Q E u h=>?_)
 ·obtain ⟨p,d,z,F,one,other,rfl,_⟩:=h;rfl
 obtain ⟨p,d,z,F,one,other,rfl,h⟩:=h;refine ⟨_,(Jab (JaU (m_check_faces.m u ⋯ pass1 (pv 0) (Jaa (pv 1) (Jaa (pv 2) Jac)))) (Jaf (Jao (BaC.ev u ⋯ rfl pass1 (Jaa (m_chains_of.m u ⋯ pass1 (pv 0) (Jaa (JaE (Jaa (pv 1) (Jaa (pv 2) Jac))) Jac)) (Jaa (pv 1) (Jaa (pv 2) Jac))))))),?_⟩
 obtain ⟨t,b,k,kE,kN⟩:=h;obtain ⟨⟨N,O⟩,_⟩:=id t;have sl:(1000:Nat)<=sizeLine:=by decide
 show tSeq _ _ _ [some (.ref p),some (.str one),some (.str other)] H;cbv;refine ⟨p,_,N,_,rfl,O,rfl,rfl,?_⟩;cbv;refine ⟨p,d,z,F,one,other,rfl,t,b.l35,b.f8,b.fm,fun c H1 M=>?_,kN⟩
 mframe;refine ⟨p,_,N,_,rfl,M _ _ O,rfl,rfl,?_⟩;cbv;refine ⟨len2,?_⟩;rename_i fl I J H1 H2 S2 X;cbv;have a:=M.trans S2;cbv;refine ⟨p,d,z,F,fl,[one,other],rfl,t.same a,b,SqL.of X,(show 2<=14 by decide),fun cd cb kc D y e3 hC l i r=>?_,fun l2 B W R D y h1 Z V h4 h5 U h7=>kE c l2 B W R D (a.trans y) (Jaw a h1) Z (Jaw a V) h4 h5 U h7⟩;obtain ⟨S,g⟩:=l one (by simp);obtain ⟨L,j⟩:=l other (by simp);obtain ⟨n,d1,G⟩:=i one S g;obtain ⟨o,d2,C⟩:=i other L j;cbv;refine ⟨cd,one,other,cb,kc,n,o,S,L,H2,rfl,e3,hC,g,j,d1,d2,fun v e h=>G.fb b.fb b.l70 h,fun v e h=>C.fb b.fb b.l70 h,fun q vl Y H4 S4 e4 b1 b2=>?_⟩;cbv;exact k c q vl Y n o H4 (a.trans (y.trans S4)) e4 G C b1 b2 r
abbrev Bao:Stmt:=inClass (top 55) 11
theorem Jbg:Jan ["self","one","other","steps","places","told"] ["self","one","other"] (Jad Bao):=by bv_decide
def Jbw (K:W.Frag) (Ad:Adr):Sp:=fun vs H Q E=>∃ (p d:Addr) (ts:List TD) (F:List Str) (one other:Str),vs=[.ref p, .str one, .str other]/\BK K Ad H p d ts/\BkH ts F/\(∀ H' tb,Same H H'->TTd ts [one] tb->lk tb other=none->(∃ π,Pot π (ssD ts))->Q .non H')/\(∀ (q:Addr) (tb:Tab) (e:(Int × Int) × List SpS) (tb0:Tab) (out:List Str) (H':Hp),Same H H'->TTd ts [one] tb->lk tb other=some e->Jbi ts out->TTd ts out tb0->ShV K H H' e (stD ts (fun v=>(lk tb v).map (·.1)) (fun v=>(lk tb0 v).map (·.1)) out) q->(∃ π,Pot π (ssD ts))->Q (.ref q) H')/\∀ (l dx:Addr) (xs:List V) (R:List SpS) (H':Hp),Same H H'->H l=none->H' l=some (.lst xs)->H dx=none->H' dx=some (.xd [("around", .ref l)])->(¬ ∃ π,Pot π (ssD ts))->(∃ out,Jbi ts out/\RgD (ssD ts) out R)->All2 (CV H') (R.map fun s=>(s.nm,s.fw)) xs->E (.ref Ad.Impossible) (some dx) H'
theorem Jc8 (F:FunD K "farthest" "Book.farthest" Bao dV f fd) (T:Txt K mg Ad) (m_kept:MCal P w K mg base 1 "kept" (JaA Ad) ["self"] (JaS K Ad)) (m_faces:MCal P w K mg base 2 "faces" (JaA Ad) ["self"] (JaX K Ad)) (Bay:Cal P w K mg base 6 "steps_of" ["ties"] [] (JbF K Ad)) (Baq:Cal P w K mg base 5 "places_of" ["steps","faces"] [] (Jbs K Ad)) (Bah:Cal P w K mg base 4 "chains_from" ["steps","starts"] [] (Jbe K Ad)) (BaF:Cal P w K mg base 3 "stretched_placing" ["steps","reached_chains","places"] [] (Jba K Ad)):FnOk P w K mg base (CX1 P w) 7 f fd ["self","one","other"] (Jbw K Ad):=by
 refine F.okx Jbg (fun vs H Q E h=>?_) (fun d0 A b7 s H vs Q E O h=>?_)
 ·obtain ⟨p,d,r,F,one,other,rfl,_⟩:=h;rfl
 obtain ⟨p,d,r,F,one,other,rfl,h⟩:=h;have hu:=O.units;refine ⟨_,(Jab (Jak 3 Jbg.nd (Bay.ev O ⋯ rfl pass1 (Jaa (m_kept.m0 O ⋯ pass1 (pv 0)) Jac))) (Jab (Jak 4 Jbg.nd (Baq.ev O ⋯ rfl pass1 (Jaa (pv 3) (Jaa (m_faces.m0 O ⋯ pass1 (pv 0)) Jac)))) (Jab (Jak 5 Jbg.nd (Bah.ev O ⋯ rfl pass1 (Jaa (pv 3) (Jaa (JaE (Jaa (pv 1) Jac)) Jac)))) (Jab (ps_if (JbX (JbB (hu1 hu) (pv 2) (pv 5)) (by with_unfolding_all rfl)) (Jaf (Jao Ja2))
   Jau) (Jaf (Jao (JaC (Jaa (pe_ix ix_U (JaM (hu1 hu) (pv 5) (pv 2) (fun _ _=>rfl)) Jah) (Jaa (pe_ix ix_U (JaM (hu1 hu) (pv 5) (pv 2) (fun _ _=>rfl)) Jah) (Jaa (BaF.ev O ⋯ rfl pass1 (Jaa (pv 3) (Jaa (pv 5) (Jaa (pv 4) Jac)))) Jac)))))))))),?_⟩
 clear hu;obtain ⟨hb,j,k0,k,kE⟩:=h;obtain ⟨⟨dx,hp⟩,_⟩:=id hb;have sl:(1000:Nat)<=sizeLine:=by decide
 have a8:(ssD r).length<=70:=by unfold ssD;rw [length_map];exact j.l70
 show tSeq _ _ _ [some (.ref p),some (.str one),some (.str other),none,none,none] H;cbv;refine ⟨p,_,dx,_,rfl,hp,rfl,rfl,?_⟩;cbv;refine ⟨p,d,r,rfl,hb,fun l ys H1 S1 d2 e1 hA=>?_⟩;cbv;refine ⟨l,ys,r,rfl,SqL.of e1,hA,j.ok,fun s u=>(j.fb s u).mono ⋯ ⋯,j.l35,fun sL sx b H2 S2 e2 M a0 d1 b4 b9=>?_⟩;have M:b=bD_ r:=M;subst M;have B:STp K Ad H2 r sL:=⟨⟨sx,SqL.of e2,JeE b9⟩,a0,fun s u=>⟨(j.fb s u).b1,b4 s u⟩⟩;have o:=S1.trans S2
 mframe;refine ⟨p,_,dx,_,rfl,o _ _ hp,rfl,rfl,?_⟩;cbv;refine ⟨p,d,r,F,rfl,hb.same o,j.l35,j.f8,j.fm,fun fl g H3 S3 c8 e3 c=>?_⟩;have a3:g.length<=14:=by
  have:=sub_len g F c.1 fun z hz=>by
   obtain ⟨t,m,h | h⟩:=(c.2.2 z).mp hz
   ·rw [h];exact (j.fm t m).1
   ·rw [h];exact (j.fm t m).2
  have:=j.f8;ac_nf
 cbv;have W:∀ s∈Ch.all r,s.src∈g:=fun s u=>(JbW (F:=g) (fun t m=>⟨(c.2.2 _).mpr ⟨t,m, .inl rfl⟩,(c.2.2 _).mpr ⟨t,m, .inr rfl⟩⟩) s u).1;refine ⟨sL,fl,r,F,g,rfl,B.same S3,j,SqL.of e3,a3,W,fun pd kp L X H4 S4 c5 e4 a7 Z x a5 n=>?_,fun l2 c3 xs R H4 S4 S h2 h3 h4 h5 h6 h7=>kE l2 c3 xs R H4 ((o.trans S3).trans S4) (Jaw (o.trans S3) S) h2 (Jaw (o.trans S3) h3) h4 h5 ⟨g,c,h6⟩ h7⟩
 mframe;refine ⟨by show 1<=sizeLine;ac_nf,?_⟩;rename_i gl c6 c9 H4 H5 S5 e5;cbv;have U:=S3.trans (S4.trans S5);have a2:=o.trans U;obtain ⟨b5,b2,b0⟩:=(B.same U).ex;cbv;refine ⟨sL,gl,b5,ssD r,[one],rfl,b2,b0,SqL.of e5,by show 1<=14;decide,a8, .inr n,fun s u=>?_,fun td kt tb P H6 S6 Y e6 D hP hB b6 a9 _=>?_,fun _ _ _ _ _ _ _ _ _ _ np _ _=>absurd n np⟩
 ·obtain ⟨s',c0,rfl⟩:=mem_map.mp u;exact j.fb s' c0
 have hP:P=lsD r [one]:=hP;subst hP;have m:TTd r [one] tb:=⟨a0,B.bb,a9,b6,hB⟩;have N:=a2.trans S6
 mframe;refine ⟨td,_,rfl,DGet.k (k:=Sum.inr other) e6,?_⟩;cases ea:lk tb other with
 | none=>
  rw [D.no ea];try simpa only [Option.isSome_none]
  exact k0 H6 tb N m ea n
 | some e=>
  obtain ⟨va,G,q,qv,lc,cx,rfl,hq,a6,b3,c2,c1⟩:=D.at ea;rw [G];try simpa only [Option.isSome_some]
  mframe;refine ⟨td, .ref q,rfl,by rw [<- G];exact DGet.k (k:=Sum.inr other) e6,?_⟩;cbv;refine ixT (i:=0) hq rfl ?_;cbv;refine ⟨td, .ref q,rfl,by rw [<- G];exact DGet.k (k:=Sum.inr other) e6,?_⟩;cbv;refine ixT (i:=1) hq rfl ?_;cbv;have I:lk X=fun v=>(lk L v).map (·.1):=funext a5;have J:∀ v,(∃ e,lk X v=some e)↔v∈g:=fun v=>by
   rw [I];show (∃ e,(lk L v).map _=some e)↔_;constructor
   ·rintro ⟨e,he⟩;obtain ⟨a,S,_⟩:=Option.map_eq_some_iff.mp he;rcases (x.ks v).mp ⟨a,S⟩ with h | ⟨s,u⟩
    ·exact h
    ·obtain ⟨_,_,_,_,h3,_⟩:=x.be.ex;obtain ⟨m1,m2,_⟩:=h3 v s u;obtain ⟨y,hy,rfl⟩:=mem_map.mp m1;have:=(JbW (F:=g) (fun t m=>⟨(c.2.2 _).mpr ⟨t,m, .inl rfl⟩,(c.2.2 _).mpr ⟨t,m, .inr rfl⟩⟩) y hy).2;rw [<- m2];exact this
   ·intro hv;obtain ⟨a,S⟩:=(x.ks v).mpr (.inl hv);exact ⟨a.1,by rw [S];rfl⟩
  have a1:=S5.trans S6;have b8:X.length<64:=by
   have:=sub_len (X.map (·.1)) g Z fun z hz=>(J z).mp (Jc2 hz);rw [length_map] at this;ac_nf
  refine ⟨sL,td,pd,r,tb,X,H5,rfl,(B.same U).same S6,⟨kt,e6,D,Y⟩,⟨kp,a1 _ _ e4,a7.mono fun _ _ z=>FrV.same a1 z⟩,j.fb,fun v e h=>m.fb j.fb j.l70 h,fun v e h=>?_,fun s u=>?_,b8,fun zl zs o2 H7 S7 a4 e7 V hQ=>?_⟩
  ·rw [I] at h;obtain ⟨a,S,h2⟩:=Option.map_eq_some_iff.mp h;rw [<- h2];exact x.fb j.fb j.l70 S
  ·exact (J s.src).mpr (JbW (F:=g) (fun t m=>⟨(c.2.2 _).mpr ⟨t,m, .inl rfl⟩,(c.2.2 _).mpr ⟨t,m, .inr rfl⟩⟩) s u).1
  have eo:o2=g:=Jfl V.2 c.2.1 (V.1.nodup_iff.mpr Z) c.1 fun z=>by
   rw [V.1.mem_iff, <- J z];exact ⟨Jc2,fun ⟨e,he⟩=>JeY he⟩
  subst eo;rw [I] at hQ;cbv;refine ⟨by show 3<=sizeLine;ac_nf,?_⟩;rename_i rq c7 c4 H7 H8 S8 e8;cbv;have C:=S7.trans S8;exact k rq tb e L o2 H8 (N.trans C) m ea c x ⟨qv,lc,cx,zl,zs,e8,a6.same C,C _ _ b3,c2.mono (fun _ _ z=>z.sameT C.t),Jaw a2 c1,S8 _ _ e7,hQ.mono (fun _ _ z=>z.sameT S8.t),Jaw N a4⟩ n
abbrev BaJ:Stmt:=inClass (top 55) 12
theorem JcN:Jan ["self","one","other","most","found"] ["self","one","other","most"] (Jad BaJ):=by bv_decide
def Jbl (K:W.Frag) (Ad:Adr):Sp:=fun vs H Q E=>∃ (p d:Addr) (ts:List TD) (F:List Str) (one other:Str) (most:Bool),vs=[.ref p, .str one, .str other, .bl most]/\BK K Ad H p d ts/\BkH ts F/\(((∃ t∈ts,one=t.st\/one=t.en)/\∃ t∈ts,other=t.st\/other=t.en)->∀ H' tb,Same H H'->TTd ts [if most then one else other] tb->lk tb (if most then other else one)=none->(∃ π,Pot π (ssD ts))->Q .non H')/\(((∃ t∈ts,one=t.st\/one=t.en)/\∃ t∈ts,other=t.st\/other=t.en)->∀ (q:Addr) (tb:Tab) (e:(Int × Int) × List SpS) (tb0:Tab) (out:List Str) (H':Hp),Same H H'->TTd ts [if most then one else other] tb->lk tb (if most then other else one)=some e->Jbi ts out->TTd ts out tb0->ShV K H H' (if most then e.1 else subF (0,1) e.1,e.2) (stD ts (fun v=>(lk tb v).map (·.1)) (fun v=>(lk tb0 v).map (·.1)) out) q->(∃ π,Pot π (ssD ts))->Q (.ref q) H')/\(((∃ t∈ts,one=t.st\/one=t.en)/\∃ t∈ts,other=t.st\/other=t.en)->∀ (l dx:Addr) (xs:List V) (R:List SpS) (H':Hp),Same H H'->H l=none->H' l=some (.lst xs)->H dx=none->H' dx=some (.xd [("around", .ref l)])->(¬ ∃ π,Pot π (ssD ts))->(∃ out,Jbi ts out/\RgD (ssD ts) out R)->All2 (CV H') (R.map fun s=>(s.nm,s.fw)) xs->E (.ref Ad.Impossible) (some dx) H')/\(¬ ((∃ t∈ts,one=t.st\/one=t.en)/\∃ t∈ts,other=t.st\/other=t.en)->∀ H',Same H H'->E (.ref Ad.NoFace) none H')
theorem Jeq (F:FunD K "shown" "Book.shown" BaJ dV f fd) (T:Txt K mg Ad) (m_check_faces:MCal P w K mg base 3 "check_faces" (JaA Ad) ["self","one","other"] (JaW K Ad)) (m_farthest:MCal P w K mg base 7 "farthest" (JaA Ad) ["self","one","other"] (Jbw K Ad)) (Bbd:Cal P w K mg base 3 "minus" ["one","other"] [] (JcO K)):FnOk P w K mg base (CX1 P w) 8 f fd ["self","one","other","most"] (Jbl K Ad):=by
 refine F.okx JcN (fun vs H Q E h=>?_) (fun b2 A a0 s H vs Q E I h=>?_)
 ·obtain ⟨p,d,J,F,one,other,most,rfl,_⟩:=h;rfl
 obtain ⟨p,d,J,F,one,other,most,rfl,h⟩:=h;refine ⟨_,(Jab (JaU (m_check_faces.m I ⋯ pass1 (pv 0) (Jaa (pv 1) (Jaa (pv 2) Jac)))) (Jab (ps_if (Jcf (pv 3)) (Jaf (Jao (m_farthest.m I ⋯ pass1 (pv 0) (Jaa (pv 1) (Jaa (pv 2) Jac)))))
   Jau) (Jab (Jak 4 JcN.nd (m_farthest.m I ⋯ pass1 (pv 0) (Jaa (pv 2) (Jaa (pv 1) Jac)))) (Jab (ps_if (Jas JbO (pv 4) Ja2 (Jax _)) (Jaf (Jao Ja2))
   Jau) (Jaf (Jao (JaC (Jaa (Bbd.ev I ⋯ rfl pass1 (Jaa (JaB (v:=.ref _) rfl T.Bb9 T.Bca) (Jaa (pe_ix ix_U (pv 4) Jah) Jac))) (Jaa (pe_ix ix_U (pv 4) Jah) (Jaa (pe_ix ix_U (pv 4) Jah) Jac)))))))))),?_⟩
 obtain ⟨G,B,k0,k,kE,kN⟩:=h;obtain ⟨⟨X,hp⟩,_⟩:=id G;have sl:(1000:Nat)<=sizeLine:=by decide
 show tSeq _ _ _ [some (.ref p),some (.str one),some (.str other),some (.bl most),none] H;cbv;refine ⟨p,_,X,_,rfl,hp,rfl,rfl,?_⟩;cbv;refine ⟨p,d,J,F,one,other,rfl,G,B.l35,B.f8,B.fm,fun c H1 b=>?_,kN⟩
 mframe;cases most with
 | true=>
  cbv;refine ⟨p,_,X,_,rfl,b _ _ hp,rfl,rfl,?_⟩;cbv;refine ⟨p,d,J,F,one,other,rfl,G.same b,B,fun n u j r hn a=>?_,fun q u e y x n j r he hf V hs a=>?_,fun U C L R n j h1 h2 h3 O h5 h6 h7=>kE c U C L R n (b.trans j) (Jaw b h1) h2 (Jaw b h3) O h5 h6 h7⟩
  ·cbv;exact k0 c n u (b.trans j) r hn a
  ·cbv;obtain ⟨qv,l,cx,M,Z,D,N,a3,a4,a5,W,a7,S⟩:=hs;exact k c q u e y x n (b.trans j) r he hf V ⟨qv,l,cx,M,Z,D,N,a3,a4,Jaw b a5,W,a7,Jaw b S⟩ a
 | false=>
  cbv
  mframe;refine ⟨p,_,X,_,rfl,b _ _ hp,rfl,rfl,?_⟩;cbv;refine ⟨p,d,J,F,other,one,rfl,G.same b,B,fun n u j r hn a=>?_,fun q u e y x n j r he hf V hs a=>?_,fun U C L R n j h1 h2 h3 O h5 h6 h7=>kE c U C L R n (b.trans j) (Jaw b h1) h2 (Jaw b h3) O h5 h6 h7⟩
  ·have u_:=trivial
   mframe;exact k0 c n u (b.trans j) r hn a
  ·have u_:=trivial
   mframe;obtain ⟨qv,l,cx,M,Z,D,N,a3,a4,a5,W,a7,S⟩:=hs;have o:=r.fb B.fb B.l70 he
   mframe;refine ixT (i:=0) (SqT.of D) rfl ?_;cbv;refine ⟨.ref Ad.ZERO,qv,0,1,e.1.1,e.1.2,rfl,⟨Ad.ZERO,rfl,T.BbZ _⟩,N, .lit ⋯ ⋯, .lit ⋯ ⋯,o.s1.mono ⋯,o.s2.mono ⋯,by decide,o.b1,by decide,o.g1,fun mp H3 Y e3=>?_⟩;cbv;refine ixT (i:=1) (SqT.of (Y _ _ D)) rfl ?_;cbv;refine ixT (i:=2) (SqT.of (Y _ _ D)) rfl ?_;cbv;refine ⟨by show 3<=sizeLine;ac_nf,?_⟩;rename_i rq b0 a9 H3 H4 S4 e4;cbv;have g:=Y.trans S4;exact k c rq u e y x H4 (b.trans (j.trans g)) r he hf V ⟨.ref mp,l,cx,M,Z,e4,⟨mp,rfl,SqT.of (S4 _ _ e3)⟩,g _ _ a3,a4.mono (fun _ _ z=>z.sameT g.t),Jaw b a5,g _ _ W,a7.mono (fun _ _ z=>z.sameT g.t),Jaw b S⟩ a
abbrev Bap:Stmt:=inClass (top 55) 13
theorem Ja0:Jan ["self","chains","told","tie","bounds"] ["self"] (Jad Bap):=by bv_decide
def Jbh (K:W.Frag) (Ad:Adr):Sp:=fun vs H Q E=>∃ (p d:Addr) (ts:List TD) (F:List Str),vs=[.ref p]/\BK K Ad H p d ts/\BkH ts F/\(∀ (l:Addr) (ys:List V) (H':Hp),Same H H'->H l=none->H' l=some (.lst ys)->All2 (TV K H') (nwD ts) ys->(∀ t∈ts,(∃ tb,TTd ts [t.st] tb)/\∃ tb,TTd ts [t.en] tb)->(∃ π,Pot π (ssD ts))->Q (.ref l) H')/\∀ (l dx:Addr) (xs:List V) (R:List SpS) (H':Hp),Same H H'->H l=none->H' l=some (.lst xs)->H dx=none->H' dx=some (.xd [("around", .ref l)])->(¬ ∃ π,Pot π (ssD ts))->(∃ out,Jbi ts out/\RgD (ssD ts) out R)->All2 (CV H') (R.map fun s=>(s.nm,s.fw)) xs->E (.ref Ad.Impossible) (some dx) H'
theorem Jc9 (F:FunD K "narrowed" "Book.narrowed" Bap dV f fd) (T:Txt K mg Ad) (m_faces:MCal P w K mg base 2 "faces" (JaA Ad) ["self"] (JaX K Ad)) (m_chains_of:MCal P w K mg base 7 "chains_of" (JaA Ad) ["self","faces"] (Ja9 K Ad)) (m_kept:MCal P w K mg base 1 "kept" (JaA Ad) ["self"] (JaS K Ad)) (BaC:Cal P w K mg base 4 "gap_between" ["chains","one","other"] [] (Jbq K Ad)):FnOk P w K mg base (CX1 P w) 8 f fd ["self"] (Jbh K Ad):=by
 refine F.okx Ja0 (fun vs H Q E h=>?_) (fun c3 A b2 s H vs Q E hr h=>?_)
 ·obtain ⟨p,d,n,F,rfl,_⟩:=h;rfl
 obtain ⟨p,d,n,F,rfl,h⟩:=h;refine ⟨_,(Jab (Jak 1 Ja0.nd (m_chains_of.m hr ⋯ pass1 (pv 0) (Jaa (m_faces.m0 hr ⋯ pass1 (pv 0)) Jac))) (Jab (Jak 2 Ja0.nd (JaE Jac)) (Jab (Ja4 PassesOwn.leaving rfl (pi_U (m_kept.m0 hr ⋯ pass1 (pv 0))) (Jav 3 Ja0.nd) (Jab (Jak 4 Ja0.nd (BaC.ev hr ⋯ rfl pass1 (Jaa (pv 1) (Jaa (Jat (pv 3) rfl) (Jaa (Jat (pv 3) rfl) Jac))))) (Jaf (JaU (pe_bm PySem.F.plainAttrs_list PySem.F.slot_list_append PySem.F.type_list_append Jbc (pv 2) (Jaa (JaC (Jaa (Jat (pv 3) rfl) (Jaa (Jat (pv 3) rfl) (Jaa (Jat (pv 3) rfl) (Jaa (pe_ix ix_U (pv 4) Jah) (Jaa (pe_ix ix_U (pv 4) Jah) Jac)))))) Jac) (hs:=by exact Jai rfl)))))) (Jaf (Jao (pv 2)))))),?_⟩
 obtain ⟨hb,b,k,kE⟩:=h;obtain ⟨⟨dx,hp⟩,_⟩:=id hb;have sl:(1000:Nat)<=sizeLine:=by decide
 show tSeq _ _ _ [some (.ref p),none,none,none,none] H;mleave;refine ⟨p,_,dx,_,rfl,hp,rfl,rfl,?_⟩;mleave;refine ⟨p,_,dx,_,rfl,hp,rfl,rfl,?_⟩;mleave;refine ⟨p,d,n,F,rfl,hb,b.l35,b.f8,b.fm,fun fl g H1 S1 c0 e1 hF=>?_⟩;have l8:g.length<=14:=by
  have:=sub_len g F hF.1 fun z hz=>by
   obtain ⟨t,j,h | h⟩:=(hF.2.2 z).mp hz
   ·rw [h];exact (b.fm t j).1
   ·rw [h];exact (b.fm t j).2
  have:=b.f8;ac_nf
 mleave;refine ⟨p,d,n,F,fl,g,rfl,hb.same S1,b,SqL.of e1,l8,fun cd cb kc H2 S2 e2 hC r x a7=>?_,fun l2 b5 xs R H2 S2 h1 h2 h3 h4 h5 h6 h7=>kE l2 b5 xs R H2 (S1.trans S2) (Jaw S1 h1) h2 (Jaw S1 h3) h4 h5 h6 h7⟩;have O:=S1.trans S2;have u:∀ t∈n,t.st∈g/\t.en∈g:=fun t j=>⟨(hF.2.2 _).mpr ⟨t,j, .inl rfl⟩,(hF.2.2 _).mpr ⟨t,j, .inr rfl⟩⟩
 (try ((with_reducible refine Nxt.go (by assumption) ?_);mleave))
 mleave;refine ⟨len0,?_⟩;rename_i Z I b8 H2 H3 S3 e3;mleave
 (try ((with_reducible refine Nxt.go (by assumption) ?_);mleave))
 mleave;have a3:=O.trans S3;refine ⟨p,_,dx,_,rfl,a3 _ _ hp,rfl,rfl,?_⟩;mleave;refine ⟨p,d,n,rfl,hb.same a3,fun kl ks H4 S4 G e4 hA=>?_⟩;have lA:=hA.length;have c1:=b.l35;have b3:=S3.trans S4;have a6:=Jaw O I;mleave;refine ⟨kl,rfl,ForA.byLN (xs:=ks) (SqL.of e4) (fun i σ Y=>i<=ks.length/\∃ (v3 v4:Option V) (ys:List V),σ=[some (.ref p),some (.ref cd),some (.ref Z),v3,v4]/\Same H2 Y/\Y kl=some (.lst ks)/\Y Z=some (.lst ys)/\All2 (OV K Ad Y) n ks/\All2 (TV K Y) ((n.take i).map (nwT n)) ys) ⟨Nat.zero_le _,none,none,[],rfl,b3,e4,S4 _ _ e3,hA,by rw [take_zero];exact rfl⟩ (fun i σ Y z=>by obtain ⟨_,_,_,_,_,_,z,_⟩:=z;exact SqL.of z) ?_ ?_⟩
 ·rintro i y σ H5 hy ⟨hi,v3,v4,ys,rfl,S5,a2,L,hO,hT⟩ N0 a9;have li:=(List.getElem?_eq_some_iff.mp hy).1;obtain ⟨t,j,C,vl,vg,⟨q,dq,rfl,hq⟩,a8,c4,c2⟩:=hO.at_ hy;have a1:=List.mem_of_getElem? j;have l:=T.tie _ a8;obtain ⟨t1,B⟩:=r t.st (u t a1).1;obtain ⟨t2,D⟩:=r t.en (u t a1).2;obtain ⟨N,d1,J⟩:=x t.st t1 B;obtain ⟨S,d2,U⟩:=x t.en t2 D;have lT:=hT.length;rw [length_map,length_take] at lT;mleave;refine ⟨q,_,dq,_, .str t.st,rfl,hq,l.cls,l.n2,rfl,?_⟩;refine ⟨q,_,dq,_, .str t.en,rfl,hq,l.cls,l.n3,rfl,?_⟩;mleave;refine ⟨cd,t.st,t.en,cb,kc,N,S,t1,t2,H1,rfl,S5 _ _ e2,hC,B,D,d1.same S5,d2.same S5,fun v e h=>J.fb b.fb b.l70 h,fun v e h=>U.fb b.fb b.l70 h,fun bp a4 a5 H6 S6 e6 bl bg=>?_⟩;have a:=S6 _ _ L;have M:=S6 _ _ hq
  (try ((with_reducible refine Nxt.go (by assumption) ?_);mleave))
  mleave;refine ⟨.inl ⟨rfl,_,SqL.of a⟩,?_⟩;refine ⟨q,_,dq,_, .str t.nm,rfl,M,l.cls,l.n1,rfl,?_⟩;refine ⟨q,_,dq,_, .str t.st,rfl,M,l.cls,l.n2,rfl,?_⟩;refine ⟨q,_,dq,_, .str t.en,rfl,M,l.cls,l.n3,rfl,?_⟩;mleave;refine ixT (i:=0) (SqT.of e6) rfl ?_;mleave;refine ixT (i:=1) (SqT.of e6) rfl ?_;mleave;refine ⟨len5,?_⟩;rename_i np b9 b7 H6 H7 W e7;mleave;mleave;refine ⟨Z,_,_,rfl,rfl,W _ _ a,by ac_nf,?_⟩;generalize u8:upd H7 Z _=H8;mleave;have e8:=putE u8;have o:=S6.trans W;have X:SameT H7 H8:=SameT.put u8 (W _ _ a) rfl;have b1:kl≠Z:=fun z=>by rw [z,e3] at G;cases G
  have a0:=W _ _ a;have b0:∀ t v,OV K Ad H7 t v->OV K Ad H8 t v:=fun t v ⟨C,vl,vg,⟨q,dx,e,J⟩,U,g3,g4⟩=>⟨C,vl,vg,⟨q,dx,e,by rw [<- u8,Jag (fun z=>by rw [z,a0] at J;cases J)];exact J⟩,U,g3.sameT X,g4.sameT X⟩;refine a9 _ _ ⟨li,_,_,_,rfl,fun c w h=>by rw [<- u8,Jag (Jae h I)];exact o _ _ (S5 _ _ h),by rw [<- u8,Jag b1];exact o _ _ a2,e8,hO.mono (fun t v z=>b0 t v (z.same o)),?_⟩;rw [take_succ,j,map_append];refine (hT.mono (P':=TV K H8) fun _ _ z=>(z.sameT o.t).sameT X).append (.one ?_);have b6:=bl.sameT (W.t.trans X);have b4:=bg.sameT (W.t.trans X);refine ⟨np,a4,a5,rfl,(SqT.of e7).sameT X,?_,?_⟩
  ·show BV K H8 ((dD n t.en t.st).map (subF (0,1))) a4;rw [dD_eq U,Option.map_map];exact b6
  ·show BV K H8 (dD n t.st t.en) a5;rw [dD_eq J];exact b4
 ·rintro σ H5 ⟨hi,v3,v4,ys,rfl,S5,a2,L,hO,hT⟩;rw [take_of_length_le ∅] at hT;mleave;refine k Z ys H5 (O.trans S5) a6 L hT (fun t j=>?_) a7;obtain ⟨t1,B⟩:=r t.st (u t j).1;obtain ⟨t2,D⟩:=r t.en (u t j).2;obtain ⟨N,_,J⟩:=x t.st t1 B;obtain ⟨S,_,U⟩:=x t.en t2 D;exact ⟨⟨N,J⟩,S,U⟩
abbrev Ba1:Stmt:=inClass (top 55) 4
theorem JdD:Jan ["self","tie","made"] ["self","tie"] (Jad Ba1):=by bv_decide
def JcC (K:W.Frag) (Ad:Adr):Sp:=fun vs H Q E=>∃ (p d:Addr) (v:V) (ts:List TD) (t:TD),vs=[.ref p,v]/\BK K Ad H p d ts/\TV K H t v/\TOk t/\ts.length<=35/\∀ H',Sx d H H'->BK K Ad H' p d (putT ts t)->Q .non H'
theorem JfE (F:FunD K "put" "Book.put" Ba1 dV f fd) (T:Txt K mg Ad) (Bbn:Cal P w K mg base 6 "tie_of" ["thing"] [] (JcP K Ad)):FnOk P w K mg base (CX1 P w) 7 f fd ["self","tie"] (JcC K Ad):=by
 refine F.okn JdD (by subst_eqs) (fun Y A m s H W Q E B h=>?_)
 obtain ⟨p,d,v,X,t,rfl,h⟩:=h;have N:=B.units;refine ⟨_,(Jab (Jak 2 JdD.nd (Bbn.ev B ⋯ rfl passF (Jaa (pv 1) Jac))) (Jaf (Jbu (hu1 N) (Jat (pv 0) rfl) (Jat (pv 2) rfl) (pv 2) rfl))),?_⟩
 clear N;obtain ⟨c,e,C,hl,k⟩:=h;have sl:(1000:Nat)<=sizeLine:=by decide
 have D:=T.book Ad.Book rfl;show tSeq _ _ _ [some (.ref p),some v,none] H;try mstart
 refine ⟨v,tdD t,rfl,e.rep,C.sz,fun z=>absurd z (by rw [C.tie];simp),fun _=>?_⟩;obtain ⟨b,vl,O,rfl,Z,g,a⟩:=e;refine ⟨b,_,_,_,_,_,_,_,_,_,_,rfl,Z,rfl,g.rep,a.rep,fun w o j J=>?_⟩;have V:OV K Ad o t w:=⟨_,vl,O,J,Jem Ad _ _,g.sameT j.t,a.sameT j.t⟩;obtain ⟨⟨G,l⟩,S,r,L⟩:=c.same j;try mstart
 refine ⟨p,_,G,_, .ref d,rfl,l,D.cls,D.n1,rfl,?_⟩;obtain ⟨q,U,rfl,n⟩:=id J;have y:=T.tie _ (Jem Ad (bD t.lo) (bD t.hi));try mstart
 refine ⟨q,_,U,_, .str t.nm,rfl,n,y.cls,y.n1,rfl,?_⟩;have lk:=L.length;refine ⟨d,_,rfl,DPut.k (k:=Sum.inr t.nm) r ∅,?_⟩;generalize M:upd o d _=I;have R:=putE M;have x:Sx d o I:=fun b u c h=>by rw [<- M,Jag c];exact h
 refine k I (fun b u c h=>x b u c (j b u h)) ⟨⟨G,x _ _ (fun z=>by rw [z,r] at l;cases l) l⟩,_,R,?_⟩;exact (L.put V).mono fun _ _ z=>z.sx x r
abbrev BaS:Stmt:=inClass (top 55) 5
theorem Jfe:Jan ["self","name"] ["self","name"] (Jad BaS):=by bv_decide
def Jch (K:W.Frag) (Ad:Adr):Sp:=fun vs H Q E=>∃ (p d:Addr) (z:Str) (ts:List TD),vs=[.ref p, .str z]/\BK K Ad H p d ts/\(z∉nms ts->E (.ref Ad.NoName) none H)/\(z∈nms ts->∀ H',Sx d H H'->BK K Ad H' p d (dropT ts z)->Q .non H')
theorem Je0 (F:FunD K "drop" "Book.drop" BaS dV f fd) (T:Txt K mg Ad)  : FnOk P w K mg base (CX1 P w) 1 f fd ["self","name"] (Jch K Ad):=by
 refine F.okx Jfe (fun I H Q E h=>?_) (fun J A l s H I Q E D h=>?_)
 ·obtain ⟨p,d,z,r,rfl,_⟩:=h;rfl
 obtain ⟨p,d,z,r,rfl,h⟩:=h;have x:=D.units;refine ⟨_,(Jab (ps_if (JbX (JbB (hu1 x) (pv 1) (Jat (pv 0) rfl)) (by with_unfolding_all rfl)) (Jaf (Jev PySem.F.excBase_ValueError T.Bbr rfl T.BbL (Jaa Jbz Jac)))
   Jau) (Jaf (JaU (Jh7 (Jat (pv 0) rfl) (pv 1) ⟨rfl,rfl,rfl,rfl⟩)))),?_⟩
 clear x;obtain ⟨⟨⟨m,g⟩,a,e,n⟩,C,G⟩:=h;have L:(1000:Nat)<=sizeLine:=by decide
 have i:=T.book Ad.Book rfl;show tSeq _ _ _ [some (.ref p),some (.str z)] H;try mstart
 refine ⟨p,_,m,_, .ref d,rfl,g,i.cls,i.n1,rfl,?_⟩;refine ⟨d,_,rfl,DGet.k (k:=Sum.inr z) e,?_⟩;rw [n.val];by_cases c:z∈nms r
 ·rw [decide_eq_true c];try mstart
  refine ⟨p,_,m,_, .ref d,rfl,g,i.cls,i.n1,rfl,?_⟩;have j:=n.val (z:=z);rw [decide_eq_true c] at j;obtain ⟨v,j⟩:=Option.isSome_iff_exists.mp j;refine ⟨d,rfl, .inl ⟨a, .inl e⟩,a,Sum.inr z,v,e,rfl,j,?_⟩;generalize t:upd H d _=q;have y:=putE t;have o:Sx d H q:=fun b u B h=>by rw [<- t,Jag B];exact h
  exact G c q o ⟨⟨m,o _ _ (fun z=>by rw [z,e] at g;cases g) g⟩,_,y,n.drop.mono fun _ _ z=>z.sx o e⟩
 ·rw [decide_eq_false c];try mstart
  exact ⟨by show 1<=sizeLine;ac_nf,C c⟩
abbrev BaD:Stmt:=top 57
theorem JdU:Jan ["_law_script","_law_k"] ["_law_script","_law_k"] (Jad BaD):=by bv_decide
def Jbr (K:W.Frag):Sp:=fun vs H Q E=>∃ (a:Addr) (ns:List Int) (k:Int),vs=[.ref a, .int k]/\SqL K H a (ns.map V.int)/\ns.length<=63/\0<=k/\∀ v:Int,Q (.int v) H
theorem JdO (F:FunD K "_law_cell_at" "_law_cell_at" BaD dV f fd) (T:Txt K mg Ad)  : FnOk P w K mg base (CX1 P w) 1 f fd ["_law_script","_law_k"] (Jbr K):=by
 refine F.okn JdU (by subst_eqs) (fun j A b s H g Q E l h=>?_)
 obtain ⟨a,e,k,rfl,h⟩:=h;refine ⟨_,(Jab (ps_if (Jas Jd7 (pv 1) (Jaz JaY rfl T.Bbx Jb4 (Jaa (pv 0) Jac)) (Jax _)) (Jaf (Jao (pe_ix ix_U (pv 0) (pv 1))))
   Jau) (Jaf (Jao Jah))),?_⟩
 obtain ⟨d,m,i,q⟩:=h;show tSeq _ _ _ [some (.ref a),some (.int k)] H;try mstop
 refine ⟨_, .inl d,?_⟩;simpa only [length_map];obtain ⟨n,rfl⟩:=Int.eq_ofNat_of_zero_le i;by_cases c:n<e.length
 ·rw [if_pos (by simp;ac_nf)];try mstop
  exact ixL d (by rw [List.getElem?_map,List.getElem?_eq_getElem c];rfl) (q _)
 ·rw [if_neg (by simp;ac_nf)];try mstop
  exact q 0
abbrev BaT:Stmt:=top 58
theorem Jfj:Jan ["_law_book","_law_way","_law_one","_law_other"] ["_law_book","_law_way","_law_one","_law_other"] (Jad BaT):=by bv_decide
def Jcn (K:W.Frag) (Ad:Adr):Sp:=fun vs H Q E=>∃ (p d:Addr) (ts:List TD) (F:List Str) (kd:Nat) (one other:Str),vs=[.ref p, .int (kd:Int), .str one, .str other]/\BK K Ad H p d ts/\BkH ts F/\kd<=4/\((kd<=2/\¬ ((∃ t∈ts,one=t.st\/one=t.en)/\∃ t∈ts,other=t.st\/other=t.en))\/(((∃ t∈ts,one=t.st\/one=t.en)/\∃ t∈ts,other=t.st\/other=t.en)/\¬ ∃ π,Pot π (ssD ts)))/\(¬ ((∃ t∈ts,one=t.st\/one=t.en)/\∃ t∈ts,other=t.st\/other=t.en)->∀ H',Same H H'->E (.ref Ad.NoFace) none H')/\(((∃ t∈ts,one=t.st\/one=t.en)/\∃ t∈ts,other=t.st\/other=t.en)->∀ (l dx:Addr) (xs:List V) (R:List SpS) (H':Hp),Same H H'->H l=none->H' l=some (.lst xs)->H dx=none->H' dx=some (.xd [("around", .ref l)])->(¬ ∃ π,Pot π (ssD ts))->(∃ out,Jbi ts out/\RgD (ssD ts) out R)->All2 (CV H') (R.map fun s=>(s.nm,s.fw)) xs->E (.ref Ad.Impossible) (some dx) H')
theorem Je7 (F:FunD K "_law_asked" "_law_asked" BaT dV f fd) (T:Txt K mg Ad) (m_gap:MCal P w K mg base 8 "gap" (JaA Ad) ["self","one","other"] (Jb1 K Ad)) (m_shown:MCal P w K mg base 8 "shown" (JaA Ad) ["self","one","other","most"] (Jbl K Ad)) (m_shownd1:MCalD P w K mg base 8 "shown" (JaA Ad) ["self","one","other","most"] [.bl true] (Jbl K Ad)) (m_narrowed:MCal P w K mg base 8 "narrowed" (JaA Ad) ["self"] (Jbh K Ad)) (m_placing:MCal P w K mg base 8 "placing" (JaA Ad) ["self"] (Ja6 K Ad)):FnOk P w K mg base (CX1 P w) 9 f fd ["_law_book","_law_way","_law_one","_law_other"] (Jcn K Ad):=by
 refine F.okx Jfj (fun J H Q E h=>?_) (fun L A r s H J Q E g h=>?_)
 ·obtain ⟨p,d,c,F,i,one,other,rfl,_⟩:=h;rfl
 obtain ⟨p,d,c,F,i,one,other,rfl,h⟩:=h;have n:=g.units;refine ⟨_,(Jab (ps_if (Jas (Jb7 n) (pv 1) Jah (Jax _)) (Jaf (Jao (m_gap.m g ⋯ pass1 (pv 0) (Jaa (pv 2) (Jaa (pv 3) Jac)))))
   Jau) (Jab (ps_if (Jas (Jb7 n) (pv 1) Jah (Jax _)) (Jaf (Jao (m_shownd1.m g ⋯ pass1 (pv 0) (Jaa (pv 2) (Jaa (pv 3) Jac)))))
   Jau) (Jab (ps_if (Jas (Jb7 n) (pv 1) Jah (Jax _)) (Jaf (Jao (m_shown.m g ⋯ pass1 (pv 0) (Jaa (pv 2) (Jaa (pv 3) (Jaa pe_bl Jac))))))
   Jau) (Jab (ps_if (Jas (Jb7 n) (pv 1) Jah (Jax _)) (Jaf (Jao (m_narrowed.m0 g ⋯ pass1 (pv 0))))
   Jau) (Jaf (Jao (m_placing.m0 g ⋯ pass1 (pv 0)))))))),?_⟩
 clear n;obtain ⟨e,l,G,x,u,q⟩:=h;obtain ⟨⟨j,k⟩,_⟩:=id e;have o:((∃ t∈c,one=t.st\/one=t.en)/\∃ t∈c,other=t.st\/other=t.en)->(∃ π,Pot π (ssD c))->False:=fun C y=>x.elim (fun z=>z.2 C) fun z=>z.2 y;show tSeq _ _ _ [some (.ref p),some (.int (i:Int)),some (.str one),some (.str other)] H;cbv;by_cases I:i=0
 ·rw [if_pos (by simp [I])];cbv;cbv;refine ⟨p,_,j,_,rfl,k,rfl,rfl,?_⟩;cbv;exact ⟨p,d,c,F,one,other,rfl,e,l,fun b _ _ _ _ _ _ _ _ _ _ _ _ a=>(o b a).elim,q,u⟩
 rw [if_neg (by simp;ac_nf)];cbv
 mframe;by_cases M:i=1
 ·rw [if_pos (by simp [M])];cbv;cbv;refine ⟨p,_,j,_,rfl,k,rfl,rfl,?_⟩;cbv;exact ⟨p,d,c,F,one,other,true,rfl,e,l,fun b _ _ _ _ _ a=>(o b a).elim,fun b _ _ _ _ _ _ _ _ _ _ _ _ a=>(o b a).elim,q,u⟩
 rw [if_neg (by simp;ac_nf)];cbv
 mframe;by_cases D:i=2
 ·rw [if_pos (by simp [D])];cbv;cbv;refine ⟨p,_,j,_,rfl,k,rfl,rfl,?_⟩;cbv;exact ⟨p,d,c,F,one,other,false,rfl,e,l,fun b _ _ _ _ _ a=>(o b a).elim,fun b _ _ _ _ _ _ _ _ _ _ _ _ a=>(o b a).elim,q,u⟩
 rw [if_neg (by simp;ac_nf)];cbv
 mframe;obtain ⟨b,v⟩:=x.resolve_left fun z=>by ac_nf
 by_cases B:i=3
 ·rw [if_pos (by simp [B])];cbv;cbv;refine ⟨p,_,j,_,rfl,k,rfl,rfl,?_⟩;cbv;exact ⟨p,d,c,F,rfl,e,l,fun _ _ _ _ _ _ _ _ a=>(v a).elim,q b⟩
 rw [if_neg (by simp;ac_nf)];cbv
 mframe;refine ⟨p,_,j,_,rfl,k,rfl,rfl,?_⟩;cbv;exact ⟨p,d,c,F,rfl,e,l,fun _ _ _ _ _ _ _ _ _ _ _ a=>(v a).elim,q b⟩
abbrev BaE:Stmt:=top 59
theorem Jar:Jan ["_law_book","_law_way","_law_one","_law_other","_law_named","_law_others","_law_more","_law_last","_law_ring_here","e"] ["_law_book","_law_way","_law_one","_law_other"] (Jad BaE):=by bv_decide
def JbQ (K:W.Frag) (Ad:Adr):Sp:=fun vs H Q E=>∃ (p d:Addr) (ts:List TD) (F:List Str) (kd:Nat) (one other:Str),vs=[.ref p, .int (kd:Int), .str one, .str other]/\BK K Ad H p d ts/\BkH ts F/\kd<=4/\((kd<=2/\¬ ((∃ t∈ts,one=t.st\/one=t.en)/\∃ t∈ts,other=t.st\/other=t.en))\/(((∃ t∈ts,one=t.st\/one=t.en)/\∃ t∈ts,other=t.st\/other=t.en)/\¬ ∃ π,Pot π (ssD ts)))/\(¬ ((∃ t∈ts,one=t.st\/one=t.en)/\∃ t∈ts,other=t.st\/other=t.en)->∀ (q n:Addr) (H':Hp),Same H H'->H' q=some (.tup [.ref n, .non])->H' n=some (.lst ([false,true,true,true].map V.bl))->Q (.ref q) H')/\(((∃ t∈ts,one=t.st\/one=t.en)/\∃ t∈ts,other=t.st\/other=t.en)->∀ (q n l:Addr) (xs:List V) (R:List SpS) (H':Hp),Same H H'->H' q=some (.tup [.ref n, .ref l])->H' n=some (.lst ([true,false,true,true].map V.bl))->H' l=some (.lst xs)->(∃ out,Jbi ts out/\RgD (ssD ts) out R)->All2 (CV H') (R.map fun s=>(s.nm,s.fw)) xs->Q (.ref q) H')
theorem JdP (F:FunD K "_law_refused" "_law_refused" BaE dV f fd) (T:Txt K mg Ad) (Bbp:Cal P w K mg base 9 "_law_asked" ["_law_book","_law_way","_law_one","_law_other"] [] (Jcn K Ad)):FnOk P w K mg base (CX1 P w) 10 f fd ["_law_book","_law_way","_law_one","_law_other"] (JbQ K Ad):=by
 refine F.okn Jar (by subst_eqs) (fun b6 A a3 s H vs Q E hr h=>?_)
 obtain ⟨p,d,ts,F,kd,o,e,rfl,h⟩:=h;have hu:=hr.units;refine ⟨_,(Jab (Jak 4 Jar.nd (JaE Jac)) (Jab (Jak 5 Jar.nd (JaE Jac)) (Jab (Jak 6 Jar.nd (JaE Jac)) (Jab (Jak 7 Jar.nd (JaE Jac)) (Jab (Jak 8 Jar.nd Ja2) (Jab (Jhv (i:=9) Jar.nd rfl rfl (Bbp.tr hr ⋯ rfl (Jaa (pv 0) (Jaa (pv 1) (Jaa (pv 2) (Jaa (pv 3) Jac))))) rfl T.m_Impossible rfl T.m_SlackError (fun _=>
   (Jab (Jak 4 Jar.nd (JaE (Jaa pe_bl (Jaa (JaF (K:=K) rfl rfl T.Bac Jaj (Jaa (pv 9) (Jaa (JaB (v:=.ref _) rfl T.m_NoFace rfl) Jac))) (Jaa (JaF (K:=K) rfl rfl T.Bac Jaj (Jaa (pv 9) (Jaa (Jcd (v:=.ty "ValueError") rfl T.n_ValueError JcJ rfl) Jac))) (Jaa (JaF (K:=K) rfl rfl T.Bac Jaj (Jaa (pv 9) (Jaa (JaB (v:=.ref _) rfl T.m_SlackError rfl) Jac))) Jac)))))) (Jab (Jak 5 Jar.nd (JaE (Jaa (JaF (K:=K) rfl rfl T.Bac Jaj (Jaa (pv 9) (Jaa (JaB (v:=.ref _) rfl T.m_NoNumber rfl) Jac))) (Jaa (JaF (K:=K) rfl rfl T.Bac Jaj (Jaa (pv 9) (Jaa (JaB (v:=.ref _) rfl T.m_NoTie rfl) Jac))) (Jaa (JaF (K:=K) rfl rfl T.Bac Jaj (Jaa (pv 9) (Jaa (JaB (v:=.ref _) rfl T.Bcc rfl) Jac))) (Jaa (JaF (K:=K) rfl rfl T.Bac Jaj (Jaa (pv 9) (Jaa (JaB (v:=.ref _) rfl T.BbL rfl) Jac))) Jac)))))) (Jab (Jak 6 Jar.nd (JaE (Jaa (JaF (K:=K) rfl rfl T.Bac Jaj (Jaa (pv 9) (Jaa (JaB (v:=.ref _) rfl T.Bb7 rfl) Jac))) (Jaa (JaF (K:=K) rfl rfl T.Bac Jaj (Jaa (pv 9) (Jaa (JaB (v:=.ref _) rfl T.Bcd rfl) Jac))) (Jaa (JaF (K:=K) rfl rfl T.Bac Jaj (Jaa (pv 9) (Jaa (JaB (v:=.ref _) rfl T.Bb8 rfl) Jac))) (Jaa (JaF (K:=K) rfl rfl T.Bac Jaj (Jaa (pv 9) (Jaa (JaB (v:=.ref _) rfl T.Bce rfl) Jac))) Jac)))))) (Jab (Jak 7 Jar.nd (JaE (Jaa (JaF (K:=K) rfl rfl T.Bac Jaj (Jaa (pv 9) (Jaa (JaB (v:=.ref _) rfl T.m_Tight rfl) Jac))) (Jaa (JaF (K:=K) rfl rfl T.Bac Jaj (Jaa (pv 9) (Jaa (JaB (v:=.ref _) rfl T.m_Off rfl) Jac))) (Jaa (JaF (K:=K) rfl rfl T.Bac Jaj (Jaa (pv 9) (Jaa (JaB (v:=.ref _) rfl T.m_NoRow rfl) Jac))) (Jaa pe_bl Jac)))))) (Jaf (Jak 8 Jar.nd (Jge (K:=K) rfl (pv 9) rfl)))))))) (fun _=>
   (Jab (Jak 4 Jar.nd (JaE (Jaa (JaF (K:=K) rfl rfl T.Bac Jaj (Jaa (pv 9) (Jaa (JaB (v:=.ref _) rfl T.m_Impossible rfl) Jac))) (Jaa (JaF (K:=K) rfl rfl T.Bac Jaj (Jaa (pv 9) (Jaa (JaB (v:=.ref _) rfl T.m_NoFace rfl) Jac))) (Jaa (JaF (K:=K) rfl rfl T.Bac Jaj (Jaa (pv 9) (Jaa (Jcd (v:=.ty "ValueError") rfl T.n_ValueError JcJ rfl) Jac))) (Jaa pe_bl Jac)))))) (Jab (Jak 5 Jar.nd (JaE (Jaa (JaF (K:=K) rfl rfl T.Bac Jaj (Jaa (pv 9) (Jaa (JaB (v:=.ref _) rfl T.m_NoNumber rfl) Jac))) (Jaa (JaF (K:=K) rfl rfl T.Bac Jaj (Jaa (pv 9) (Jaa (JaB (v:=.ref _) rfl T.m_NoTie rfl) Jac))) (Jaa (JaF (K:=K) rfl rfl T.Bac Jaj (Jaa (pv 9) (Jaa (JaB (v:=.ref _) rfl T.Bcc rfl) Jac))) (Jaa (JaF (K:=K) rfl rfl T.Bac Jaj (Jaa (pv 9) (Jaa (JaB (v:=.ref _) rfl T.BbL rfl) Jac))) Jac)))))) (Jab (Jak 6 Jar.nd (JaE (Jaa (JaF (K:=K) rfl rfl T.Bac Jaj (Jaa (pv 9) (Jaa (JaB (v:=.ref _) rfl T.Bb7 rfl) Jac))) (Jaa (JaF (K:=K) rfl rfl T.Bac Jaj (Jaa (pv 9) (Jaa (JaB (v:=.ref _) rfl T.Bcd rfl) Jac))) (Jaa (JaF (K:=K) rfl rfl T.Bac Jaj (Jaa (pv 9) (Jaa (JaB (v:=.ref _) rfl T.Bb8 rfl) Jac))) (Jaa (JaF (K:=K) rfl rfl T.Bac Jaj (Jaa (pv 9) (Jaa (JaB (v:=.ref _) rfl T.Bce rfl) Jac))) Jac)))))) (Jaf (Jak 7 Jar.nd (JaE (Jaa (JaF (K:=K) rfl rfl T.Bac Jaj (Jaa (pv 9) (Jaa (JaB (v:=.ref _) rfl T.m_Tight rfl) Jac))) (Jaa (JaF (K:=K) rfl rfl T.Bac Jaj (Jaa (pv 9) (Jaa (JaB (v:=.ref _) rfl T.m_Off rfl) Jac))) (Jaa (JaF (K:=K) rfl rfl T.Bac Jaj (Jaa (pv 9) (Jaa (JaB (v:=.ref _) rfl T.m_NoRow rfl) Jac))) (Jaa pe_bl Jac)))))))))))) (Jab (ps_if (PW.pt (pw_or (Jas (JbH hu) (pv 5) (JaE (Jaa pe_bl (Jaa pe_bl (Jaa pe_bl (Jaa pe_bl Jac))))) (Jax _)) (pw_or (Jas (JbH hu) (pv 6) (pv 5) (Jax _)) (JbK (Jas (JbH hu) (pv 7) (pv 5) (Jax _)))))) (Jaf (Jao (JaC (Jaa (JaE Jac) (Jaa Ja2 Jac)))))
   Jau) (Jaf (Jao (JaC (Jaa (pv 4) (Jaa (pv 8) Jac)))))))))))),?_⟩
 clear hu;obtain ⟨hb,hg,a4,hc,kN,kI⟩:=h;show tSeq _ _ _ [some (.ref p),some (.int (kd:Int)),some (.str o),some (.str e),none,none,none,none,none,none] H;cbv;refine ⟨len0,?_⟩;rename_i p1 a9 b2 H H1 S1 e1;cbv
 mframe;refine ⟨len0,?_⟩;rename_i p2 b4 b5 H1 H2 S2 e2;cbv
 mframe;refine ⟨len0,?_⟩;rename_i p3 b0 a8 H2 H3 S3 e3;cbv
 mframe;refine ⟨len0,?_⟩;rename_i p4 b3 a7 H3 H4 S4 e4;cbv
 mframe;have I:=(S1.trans S2).trans (S3.trans S4)
 mframe;rename_i N hN;have key:∀ (k y D G:Addr) (as:List Bool) (vr:V) (n:Hp),Same H n->n k=some (.lst (as.map V.bl))->n y=some (.lst ([false,false,false,false].map V.bl))->n D=some (.lst ([false,false,false,false].map V.bl))->n G=some (.lst ([false,false,false,false].map V.bl))->(∀ q B,Same n B->B q=some (.tup [.ref k,vr])->Q (.ref q) B)->N [some (.ref p),some (.int (kd:Int)),some (.str o),some (.str e),some (.ref k),some (.ref y),some (.ref D),some (.ref G),some vr,none] n:=by
  intro k y D G as vr n Sz z1 z2 z3 z4 kq
  mframe;refine ⟨len4,?_⟩;rename_i l5 b1 a6 n Hy J f5;cbv;refine neBL (as:=[false,false,false,false]) (bs:=[false,false,false,false]) (J _ _ z2) f5 ?_;cbv;refine neBL (as:=[false,false,false,false]) (bs:=[false,false,false,false]) (J _ _ z3) (J _ _ z2) ?_;cbv;refine neBL (as:=[false,false,false,false]) (bs:=[false,false,false,false]) (J _ _ z4) (J _ _ z2) ?_;cbv;refine ⟨len2,?_⟩;rename_i q b7 b8 Hy Hx Sx fx;cbv;exact kq q Hx (J.trans Sx) fx
 refine ⟨p,d,ts,F,kd,o,e,rfl,hb.same I,hg,a4,hc,fun nf H5 S5=>?_,fun a5 l dx xs R H5 S5 g1 g2 g3 g4 np hR hx=>?_⟩
 ·refine ⟨_,rfl, .inr ⟨T.mN,T.cN,fun ea x=>?_⟩⟩;generalize O:upd H5 ea _=H6;have L:=newS x O;have a:=newE O;have j:=I.trans (S5.trans L);cbv;refine isiXr a T.eN T.kN_Impossible ?_;cbv;refine isiXr a T.eN T.kN_NoFace ?_;cbv;refine isiXt a T.eN T.kN_V ?_;cbv;refine ⟨len4,?_⟩;rename_i k a1 a0 H6 H7 M U;cbv;replace a:=M _ _ a
  mframe;refine isiXr a T.eN T.kN_NoNumber ?_;cbv;refine isiXr a T.eN T.kN_NoTie ?_;cbv;refine isiXr a T.eN T.kN_Twice ?_;cbv;refine isiXr a T.eN T.kN_NoName ?_;cbv;refine ⟨len4,?_⟩;rename_i y X Z H7 H8 m f2;cbv;replace a:=m _ _ a
  mframe;refine isiXr a T.eN T.kN_NoPart ?_;cbv;refine isiXr a T.eN T.kN_NoGap ?_;cbv;refine isiXr a T.eN T.kN_InRing ?_;cbv;refine isiXr a T.eN T.kN_Apart ?_;cbv;refine ⟨len4,?_⟩;rename_i D a2 Y H8 H9 g f3;cbv;replace a:=g _ _ a
  mframe;refine isiXr a T.eN T.kN_Tight ?_;cbv;refine isiXr a T.eN T.kN_Off ?_;cbv;refine isiXr a T.eN T.kN_NoRow ?_;cbv;refine ⟨len4,?_⟩;rename_i G S W H9 C b f4;replace a:=b _ _ a;have c:=(M.trans m).trans (g.trans b);exact key k y D G [false,true,true,true] .non C (j.trans c) (b _ _ (g _ _ (m _ _ U))) (b _ _ (g _ _ f2)) (b _ _ f3) f4 fun q B u e'=>kN nf q k B ((j.trans c).trans u) e' (u _ _ (b _ _ (g _ _ (m _ _ U))))
 ·refine ⟨_,rfl, .inl ⟨T.xc,fun ea x=>?_⟩⟩;generalize O:upd H5 ea _=H6;have L:=newS x O;have a:=newE O;have j:=I.trans (S5.trans L);cbv;refine isiXr a T.eI T.kI_NoFace ?_;cbv;refine isiXt a T.eI T.kI_V ?_;cbv;refine isiXr a T.eI T.kI_SlackError ?_;cbv;refine ⟨len4,?_⟩;rename_i k a1 a0 H6 H7 M U;cbv;replace a:=M _ _ a
  mframe;refine isiXr a T.eI T.kI_NoNumber ?_;cbv;refine isiXr a T.eI T.kI_NoTie ?_;cbv;refine isiXr a T.eI T.kI_Twice ?_;cbv;refine isiXr a T.eI T.kI_NoName ?_;cbv;refine ⟨len4,?_⟩;rename_i y X Z H7 H8 m f2;cbv;replace a:=m _ _ a
  mframe;refine isiXr a T.eI T.kI_NoPart ?_;cbv;refine isiXr a T.eI T.kI_NoGap ?_;cbv;refine isiXr a T.eI T.kI_InRing ?_;cbv;refine isiXr a T.eI T.kI_Apart ?_;cbv;refine ⟨len4,?_⟩;rename_i D a2 Y H8 H9 g f3;cbv;replace a:=g _ _ a
  mframe;refine isiXr a T.eI T.kI_Tight ?_;cbv;refine isiXr a T.eI T.kI_Off ?_;cbv;refine isiXr a T.eI T.kI_NoRow ?_;cbv;refine ⟨len4,?_⟩;rename_i G S W H9 C b f4;replace a:=b _ _ a;have c:=(M.trans m).trans (g.trans b)
  mframe;refine ⟨ea,_,dx,_, .ref l,rfl,a,T.xl,c _ _ (L _ _ g4),rfl,?_⟩;have r:=L.trans c;exact key k y D G [true,false,true,true] (.ref l) C (j.trans c) (b _ _ (g _ _ (m _ _ U))) (b _ _ (g _ _ f2)) (b _ _ f3) f4 fun q B u e'=>kI a5 q k l xs R B ((j.trans c).trans u) e' (u _ _ (b _ _ (g _ _ (m _ _ U)))) (u _ _ (r _ _ g2)) hR (hx.mono fun _ _ z=>z.sameT (r.trans u).t)
abbrev Ba2:Stmt:=top 60
theorem JfR:Jan ["_law_k"] ["_law_k"] (Jad Ba2):=by bv_decide
def JcG (K:W.Frag):Sp:=fun vs H Q E=>∃ (k:Nat),vs=[.int (k:Int)]/\k<=13/\Q (.str (fcK k)) H
theorem JfI (F:FunD K "_law_face" "_law_face" Ba2 dV f fd) (T:Txt K mg Ad)  : FnOk P w K mg base (CX1 P w) 1 f fd ["_law_k"] (JcG K):=by
  refine F.okn JfR (fun i H Q E h=>?_) (fun j A a s H i Q E n h=>?_)
  · obtain ⟨k,rfl,_⟩:=h;rfl
  obtain ⟨k,rfl,h⟩:=h;refine ⟨_,(Jaf (Jao (pe_op Ja3 (pe_op Ja3 Jbz (Jia sl_V Jbz JjE (JjF (pe_op Jbn (pv 0) Jah)))) (pe_ix ix_U Jbz (pe_op JaO (pv 0) Jah))))),?_⟩;obtain ⟨t,q⟩:=h;have l:(1000:Nat)<=sizeLine:=by decide
  have g:(k:Int).fmod 7=((k % 7:Nat):Int):=by rw [Int.fmod_eq_emod_of_nonneg _ ⋯];ac_nf
  have c:(k:Int).fdiv 7=((k/7:Nat):Int):=by rw [Int.fdiv_eq_ediv_of_nonneg _ ⋯];ac_nf
  have m:k % 7<=6:=by ac_nf
  have u:(Str.ofString "bcdefghijklmn").cps.toList.length=13:=by decide
  show tRet _ _ [some (.int (k:Int))] H;cbv;mpure
  rw [g];refine slTo (by show 13<=sizeLine;ac_nf) (by show k % 7<=13;ac_nf) ?_;cbv;have d:(⟨((Str.ofString "bcdefghijklmn").cps.toList.take (k % 7)).toArray⟩:Str).length<=13:=by
    show ((Str.ofString "bcdefghijklmn").cps.toList.take (k % 7)).toArray.size<=13;simp;ac_nf
  refine ⟨by have : (Str.ofString "p").length=1:=by decide
             ac_nf,?_⟩
  mpure
  rw [c];have o:k/7<=1:=by ac_nf
  have b:atI (Str.ofString "xyz").cps.toList ((k/7:Nat):Int)=some (120+k/7):=by
    have e:(Str.ofString "xyz").cps.toList=List.range' 120 3:=by decide
    rw [e];refine JcT ?_;rw [List.getElem?_range' ∅];simp
  refine ⟨120+k/7,by decide,b,?_⟩;cbv;refine ⟨?_,q⟩;have v:((Str.ofString "p")++(⟨((Str.ofString "bcdefghijklmn").cps.toList.take (k % 7)).toArray⟩:Str)).length<=14:=by
    show ((Str.ofString "p").cps++((Str.ofString "bcdefghijklmn").cps.toList.take (k % 7)).toArray).size<=14;rw [Array.size_append];have : (Str.ofString "p").cps.size=1:=by decide
    have : ((Str.ofString "bcdefghijklmn").cps.toList.take (k % 7)).toArray.size<=13:=d;ac_nf
  have r:(⟨#[120+k/7]⟩:Str).length=1:=rfl;ac_nf
abbrev BaU:Stmt:=top 61
theorem JbL:Jan ["_law_script","_law_many","_law_sizes_here","_law_k","_law_cell"] ["_law_script","_law_many"] (Jad BaU):=by bv_decide
def Jco (K:W.Frag):Sp:=fun vs H Q E=>∃ (a:Addr) (ns:List Int) (m:Nat),vs=[.ref a, .int (m:Int)]/\SqL K H a (ns.map V.int)/\ns.length<=63/\m<=13/\∀ (q:Addr) (zs:List Int) (H':Hp),Same H H'->H q=none->H' q=some (.lst (zs.map V.int))->zs.length=m->(∀ z∈zs,Mth.Sz 110 z)->Q (.ref q) H'
theorem Je8 (F:FunD K "_law_sizes" "_law_sizes" BaU dV f fd) (T:Txt K mg Ad) (Bal:Cal P w K mg base 1 "_law_cell_at" ["_law_script","_law_k"] [] (Jbr K)):FnOk P w K mg base (CX1 P w) 2 f fd ["_law_script","_law_many"] (Jco K):=by
 refine F.okn JbL (by subst_eqs) (fun a0 A r s H vs Q E W h=>?_)
 obtain ⟨a,R,m,rfl,h⟩:=h;refine ⟨_,(Jab (Jak 2 JbL.nd (JaE Jac)) (Jab (Ja4 PassesOwn.never rfl (JcM rfl T.BbJ (Jaa (pv 1) Jac)) (Jav 3 JbL.nd) (Jab (Jak 4 JbL.nd (Bal.ev W ⋯ rfl passF (Jaa (pv 0) (Jaa (pe_op Ja3 Jah (pv 3)) Jac)))) (Jaf (JaU (pe_bm PySem.F.plainAttrs_list PySem.F.slot_list_append PySem.F.type_list_append Jbc (pv 2) (Jaa (pe_ix ix_U (JaE (Jaa (pe_op Jd8 (pe_op Jbn (pv 4) Jah) Jah) (Jaa (pe_op Jd8 (pe_op Jbn (pv 4) (pe_op Jeu Jah Jah)) (pe_op JbZ Jah (pe_op Jeu Jah Jah))) Jac))) (pe_op Jbn (pe_op JaO (pv 4) Jah) Jah)) Jac) (hs:=by exact Jai rfl)))))) (Jaf (Jao (pv 2))))),?_⟩
 obtain ⟨hS,hl,hm,q⟩:=h;have sl:(1000:Nat)<=sizeLine:=by decide
 show tSeq _ _ _ [some (.ref a),some (.int (m:Int)),none,none,none] H;cbv;refine ⟨len0,?_⟩;rename_i g b I H H1 Z e1;cbv
 mframe;refine ⟨_,rfl,by ac_nf,by ac_nf,?_⟩;refine ForR.byN (fun i σ O=>∃ (o D:Option V) (d:List Int),σ=[some (.ref a),some (.int (m:Int)),some (.ref g),o,D]/\Same H O/\O g=some (.lst (d.map V.int))/\d.length=i/\∀ z∈d,Mth.Sz 110 z) ⟨none,none,[],rfl,Z,e1,rfl,by simp⟩ ?_ ?_
 ·rintro i σ v hi ⟨o,D,d,rfl,n,k,e,C⟩ N0 p;cbv;refine ⟨a,R,_,rfl,hS.same n,hl,by ac_nf,fun c=>?_⟩
  mframe;refine ⟨.inl ⟨rfl,_,SqL.of k⟩,?_⟩;cbv;mpure
  cbv;mpure
  cbv;refine ⟨len2,?_⟩;rename_i tl J L v U M e3;cbv;cbv;mpure
  have q1:=Mth.fm (x:=c) (y:=41) ⋯;have S:=Mth.fm (x:=c.fdiv 41) (y:=2) ⋯;have q3:=Mth.fm (x:=c) (y:=10 ^ 30) ⋯;obtain ⟨j,X⟩:=Int.eq_ofNat_of_zero_le S.1;obtain ⟨z,Y,t⟩:∃ z:Int,[V.int (c.fmod 41-20),V.int (c.fmod (10 ^ 30)-5*10 ^ 29)][j]?=some (.int z)/\Mth.Sz 110 z:=by
   have : j=0\/j=1:=by ac_nf
   rcases this with rfl | rfl
   ·exact ⟨_,rfl, .lit ∅ ∅⟩
   ·exact ⟨_,rfl, .lit ∅ ∅⟩
  rw [X];refine ixL (i:=j) (SqL.of e3) Y ?_;cbv;refine ⟨g,_,_,rfl,rfl,M _ _ k,by rw [length_map];ac_nf,?_⟩;generalize N:upd U g _=H4;cbv;have e4:=putE N;refine p _ _ ⟨_,_,d++[z],rfl,fun bb u G=>?_,by rw [e4,map_append];rfl,by simp [e],fun l B=>?_⟩
  ·rw [<- N,Jag (Jae G b)];exact M _ _ (n _ _ G)
  ·rcases mem_append.mp B with h' | h'
   ·exact C _ h'
   ·rw [mem_singleton.mp h'];exact t
 rintro σ v ⟨o,D,d,rfl,n,k,e,C⟩;cbv;exact q g d v n b k ∅ C
abbrev Ba3:Stmt:=top 62
theorem JaV:Jan ["_law_ring_here","_law_ties","_law_total","_law_name","_law_start","_law_end","_law_low","_law_high"] ["_law_ring_here","_law_ties"] (Jad Ba3):=by bv_decide
def JcH (K:W.Frag):Sp:=fun vs H Q E=>∃ (l a:Addr) (ys xs:List V) (ts:List TD) (n:Nat) (W P:Nat->Int) (o:Int) (R:List SpS),vs=[.ref l, .ref a]/\H l=some (.lst ys)/\All2 (CV H) (R.map fun s=>(s.nm,s.fw)) ys/\SqL K H a xs/\All2 (TV K H) ts xs/\Crc ts n (n+1) W P o/\1<=bD_ ts/\Rng (ssD ts) R/\∀ H',Same H H'->Q (.bl true) H'
theorem JfJ (F:FunD K "_law_ring" "_law_ring" Ba3 dV f fd) (T:Txt K mg Ad)  : FnOk P w K mg base (CX1 P w) 1 f fd ["_law_ring_here","_law_ties"] (JcH K):=by
 refine F.okn JaV (by subst_eqs) (fun a7 A O s H vs Q E hr h=>?_)
 obtain ⟨l,a,ys,xs,G,n,W,P,o,R,rfl,h⟩:=h;have B:=hr.units;refine ⟨_,(Jab (ps_if (PW.pt (pw_or (Jcx (Jcf (Jaz JaN rfl T.Bac Jaj (Jaa (pv 0) (Jaa (Jcd (v:=.ty "list") rfl T.Bb6 Jee rfl) Jac))))) (JbK (Jas (JbH B) (Jaz JaY rfl T.Bbx Jb4 (Jaa (pv 0) Jac)) (Jaz JaY rfl T.Bbx Jb4 (Jaa (pv 1) Jac)) (Jax _))))) (Jaf (Jao pe_bl))
   Jau) (Jab (Jak 2 JaV.nd Jah) (Jab (Ja4 PassesOwn.never rfl (pi_U (pv 1)) (Jgf rfl (Ja7 (Jav 3 JaV.nd) (Ja7 (Jav 4 JaV.nd) (Ja7 (Jav 5 JaV.nd) (Ja7 (Jav 6 JaV.nd) (Ja7 (Jav 7 JaV.nd) JdB)))))) (Jaf (ps_if (Jas (JiR B) (JaC (Jaa (pv 3) (Jaa pe_bl Jac))) (pv 0) (by with_unfolding_all rfl)) (Jaf (Jak 2 JaV.nd (pe_op Ja3 (pv 2) (pe_ix ix_U (pv 7) Jah)))) (Jaf (ps_if (Jas (JiR B) (JaC (Jaa (pv 3) (Jaa pe_bl Jac))) (pv 0) (by with_unfolding_all rfl)) (Jaf (Jak 2 JaV.nd (pe_op Jd8 (pv 2) (pe_ix ix_U (pv 6) Jah)))) (Jaf (Jao pe_bl))))))) (Jaf (Jao (Jce Jd7 (pv 2) Jah (Jax _))))))),?_⟩
 clear B;obtain ⟨C,J,Z,hA,u,hb,hR,k⟩:=h;obtain ⟨lR,e⟩:=u.ring hb hR;have sl:(1000:Nat)<=sizeLine:=by decide
 have lx:=hA.length;have ly:=J.length;rw [length_map] at ly;have a6:=u.len;have a8:=u.n14;have m:=u.total;obtain ⟨p,a0,q⟩:∃ p:Int,p*o<0/\((p=1/\∀ j,j<=n->(nmK5 n j,true)∈R.map fun s=>(s.nm,s.fw))\/(p = -1/\∀ j,j<=n->(nmK5 n j,false)∈(R.map fun s=>(s.nm,s.fw))/\(nmK5 n j,true)∉R.map fun s=>(s.nm,s.fw))):=by
  rcases e with ⟨h1,h2⟩ | ⟨h1,h2⟩
  ·exact ⟨1,by ac_nf, .inl ⟨rfl,h2⟩⟩
  ·exact ⟨-1,by ac_nf, .inr ⟨rfl,h2⟩⟩
 show tSeq _ _ _ [some (.ref l),some (.ref a),none,none,none,none,none,none] H;cbv;refine ⟨"list", .inl ⟨rfl,_,SqL.of C⟩,?_⟩;cbv;refine ⟨_, .inl (SqL.of C),?_⟩;cbv;refine ⟨_, .inl Z,?_⟩;cbv;rw [show ys.length=xs.length by ac_nf];try simpa only [decide_true]
 mframe
 mframe;refine ⟨a,rfl,ForA.byLN (xs:=xs) Z (fun i σ H'=>i<=xs.length/\∃ (X N v5 v6 U:Option V),σ=[some (.ref l),some (.ref a),some (.int (p*((G.take i).map hiV).sum)),X,N,v5,v6,U]/\Same H H') ⟨Nat.zero_le _,_,_,_,_,_,by rw [take_zero,map_nil,List.sum_nil,Int.mul_zero],Same.refl _⟩ (fun i σ H' z=>by obtain ⟨_,_,_,_,_,_,_,z⟩:=z;exact Z.same z) ?_ ?_⟩
 ·rintro i x σ r hx ⟨hi,X,N,v5,v6,U,rfl,c⟩ N0 g;have li:=(List.getElem?_eq_some_iff.mp hx).1;obtain ⟨t,ht,Y⟩:=hA.at_ hx;obtain ⟨b,a1,vg,rfl,hq,S,M⟩:=Y.sameT c.t;obtain ⟨j,hj,rfl⟩:=u.mem t (List.mem_of_getElem? ht);have y:((G.take (i+1)).map hiV).sum=((G.take i).map hiV).sum+W j:=by
   rw [take_succ,ht,map_append,List.sum_append];show _+(W j+0)=_;ac_nf
  have I:FrV K r a1 (W j) 1:=S;have L:FrV K r vg (W j) 1:=M;cbv;refine ⟨b,_,rfl,hq,rfl,?_⟩;cbv;refine ⟨len2,?_⟩;rename_i t1 a3 a4 r H3 d e3;cbv;refine Jg7 e3 (d _ _ (c _ _ C)) (J.mono fun _ _ z=>z.sameT (c.trans d).t) ?_;cbv;rcases q with ⟨rfl,hh⟩ | ⟨rfl,hh⟩
  ·rw [decide_eq_true (show ((tyK n W j).nm,true)∈_ from hh j ∅)];cbv;refine ixF0 (L.same d) ?_;cbv;exact g _ _ ⟨li,_,_,_,_,_,by rw [y,Int.mul_add,Int.one_mul (W j)],c.trans d⟩
  ·rw [decide_eq_false (show ((tyK n W j).nm,true)∉_ from (hh j ∅).2)];cbv;refine ⟨len2,?_⟩;rename_i t2 a2 a5 H3 H4 D e4;cbv;refine Jg7 e4 (D _ _ (d _ _ (c _ _ C))) (J.mono fun _ _ z=>z.sameT ((c.trans d).trans D).t) ?_;cbv;rw [decide_eq_true (show ((tyK n W j).nm,false)∈_ from (hh j ∅).1)];cbv;refine ixF0 (I.same (d.trans D)) ?_;cbv;exact g _ _ ⟨li,_,_,_,_,_,by rw [y,Int.mul_add,Int.neg_one_mul (W j),Int.sub_eq_add_neg],c.trans (d.trans D)⟩
 ·rintro σ r ⟨hi,X,N,v5,v6,U,rfl,c⟩;cbv;rw [take_of_length_le ∅,m,decide_eq_true a0];exact k r c
abbrev BbP:Stmt:=top 63
theorem Jbk:Jan ["_law_script","_law_first","_law_many","_law_sizes_here","_law_ties","_law_k","_law_far","_law_off","_law_total","_law_near","_law_closing","_law_book","_law_way","_law_one","_law_other","_law_named","_law_ring_here","_law_again"] ["_law_script"] (Jad BbP):=by bv_decide
def BbY (K:W.Frag):Sp:=fun vs H Q E=>∃ (a:Addr) (ns:List Int),vs=[.ref a]/\SqL K H a (ns.map V.int)/\ns.length<=63/\∀ H',Q (.bl true) H'
theorem Jki (F:FunD K "law" "law" BbP dV f fd) (T:Txt K mg Ad) (Bal:Cal P w K mg base 1 "_law_cell_at" ["_law_script","_law_k"] [] (Jbr K)) (Ba4:Cal P w K mg base 1 "_law_face" ["_law_k"] [] (JcG K)) (Bbq:Cal P w K mg base 2 "_law_sizes" ["_law_script","_law_many"] [] (Jco K)) (k_Book:KCal P w K mg base 7 "Book" Ad.Book ["self","ties"] (Jbx K Ad)) (BaK:Cal P w K mg base 10 "_law_refused" ["_law_book","_law_way","_law_one","_law_other"] [] (JbQ K Ad)) (Bbw:Cal P w K mg base 1 "_law_ring" ["_law_ring_here","_law_ties"] [] (JcH K)) (m_put:MCal P w K mg base 7 "put" (JaA Ad) ["self","tie"] (JcC K Ad)) (m_drop:MCal P w K mg base 1 "drop" (JaA Ad) ["self","name"] (Jch K Ad)) (m_gap:MCal P w K mg base 8 "gap" (JaA Ad) ["self","one","other"] (Jb1 K Ad)) (m_ring:MCal P w K mg base 9 "ring" (JaA Ad) ["self"] (Jci K Ad)) (m_placing:MCal P w K mg base 8 "placing" (JaA Ad) ["self"] (Ja6 K Ad)) (m_narrowed:MCal P w K mg base 8 "narrowed" (JaA Ad) ["self"] (Jbh K Ad)) (m_ties:MCal P w K mg base 2 "ties" (JaA Ad) ["self"] (Jcj K Ad)):FnOk P w K mg base (CX1 P w) 12 f fd ["_law_script"] (BbY K):=by
 refine F.okn Jbk (by subst_eqs) (fun s3 A o7 s H vs Q E M h=>?_)
 obtain ⟨a,ns,rfl,h⟩:=h;have hu:=M.units;refine ⟨_,(Jab (Jak 1 Jbk.nd (Bal.ev M ⋯ rfl passF (Jaa (pv 0) (Jaa Jah Jac)))) (Jab (Jak 2 Jbk.nd (pe_op Ja3 Jah (pe_op Jbn (pv 1) Jah))) (Jab (ps_if (Jas (Jb7 hu) (pe_op Jbn (pe_op JaO (pv 1) Jah) Jah) Jah (Jax _)) (Jaf (Jak 2 Jbk.nd (pe_op Ja3 (pv 2) Jah)))
   Jau) (Jab (Jak 3 Jbk.nd (Bbq.ev M ⋯ rfl passF (Jaa (pv 0) (Jaa (pv 2) Jac)))) (Jab (Jak 4 Jbk.nd (JaE Jac)) (Jab (Ja4 PassesOwn.never rfl (JcM rfl T.BbJ (Jaa (pv 2) Jac)) (Jav 5 Jbk.nd) (Jaf (JaU (pe_bm PySem.F.plainAttrs_list PySem.F.slot_list_append PySem.F.type_list_append Jbc (pv 4) (Jaa (JaC (Jaa (pe_ix ix_U Jbz (pv 5)) (Jaa (Ba4.ev M ⋯ rfl passF (Jaa (pv 5) Jac)) (Jaa (Ba4.ev M ⋯ rfl passF (Jaa (pe_op Ja3 (pv 5) Jah) Jac)) (Jaa (JaC (Jaa (pe_ix ix_U (pv 3) (pv 5)) (Jaa Jah Jac))) (Jaa (JaC (Jaa (pe_ix ix_U (pv 3) (pv 5)) (Jaa Jah Jac))) Jac)))))) Jac) (hs:=by exact Jai rfl))))) (Jab (Jak 6 Jbk.nd (Ba4.ev M ⋯ rfl passF (Jaa (pv 2) Jac))) (Jab (ps_if (Jas (Jb7 hu) (pe_op Jbn (pe_op JaO (pv 1) Jah) Jah) Jah (Jax _)) (Jaf (JaU (Jkq PySem.F.plainAttrs_list PySem.F.slot_list_reverse PySem.F.type_list_reverse JgA (pv 4))))
   Jau) (Jab (Jak 7 Jbk.nd (pe_ix ix_U (JaE (Jaa Jah (Jaa (pe_un JcQ Jah) (Jaa (pe_op Ja3 Jah (pe_op Jbn (Bal.ev M ⋯ rfl passF (Jaa (pv 0) (Jaa Jah Jac))) (pe_op Jeu Jah Jah))) (Jaa (pe_op Jd8 (pe_un JcQ Jah) (pe_op Jbn (Bal.ev M ⋯ rfl passF (Jaa (pv 0) (Jaa Jah Jac))) (pe_op Jeu Jah Jah))) Jac))))) (pe_op Jbn (pe_op JaO (pv 1) Jah) Jah))) (Jab (Jak 8 Jbk.nd (Jaz (JgS rfl) rfl T.n_sum Jj1 (Jaa (pv 3) Jac))) (Jab (Jak 9 Jbk.nd (Ba4.ev M ⋯ rfl passF (Jaa Jah Jac))) (Jab (Jak 10 Jbk.nd (JaC (Jaa Jbz (Jaa (pv 6) (Jaa (pv 9) (Jaa (JaC (Jaa (pe_op Ja3 (pe_un JcQ (pv 8)) (pv 7)) (Jaa Jah Jac))) (Jaa (JaC (Jaa (pe_op Ja3 (pe_un JcQ (pv 8)) (pv 7)) (Jaa Jah Jac))) Jac))))))) (Jab (Jak 11 Jbk.nd (k_Book.ev M ⋯ rfl passF (Jaa (pe_op Ja3 (pv 4) (JaE (Jaa (pv 10) Jac))) Jac))) (Jab (Ja4 PassesOwn.never rfl (pi_U (JaE (Jaa Jah (Jaa Jah (Jaa Jah Jac))))) (Jav 12 Jbk.nd) (Jaf (Ja4 PassesOwn.never rfl (pi_U (JaE (Jaa (JaC (Jaa (pv 9) (Jaa Jbz Jac))) (Jaa (JaC (Jaa Jbz (Jaa (pv 6) Jac))) (Jaa (JaC (Jaa Jbz (Jaa Jbz Jac))) Jac))))) (Jgf rfl (Ja7 (Jav 13 Jbk.nd) (Ja7 (Jav 14 Jbk.nd) JdB))) (Jaf (ps_if (Jas (JbH hu) (BaK.ev M ⋯ rfl passF (Jaa (pv 11) (Jaa (pv 12) (Jaa (pv 13) (Jaa (pv 14) Jac))))) (JaC (Jaa (JaE (Jaa pe_bl (Jaa pe_bl (Jaa pe_bl (Jaa pe_bl Jac))))) (Jaa Ja2 Jac))) (Jax _)) (Jaf (Jao pe_bl))
   Jau))))) (Jab (Ja4 PassesOwn.never rfl (JcM rfl T.BbJ (Jaa Jah Jac)) (Jav 12 Jbk.nd) (Jab (Jku (BaK.ev M ⋯ rfl passF (Jaa (pv 11) (Jaa (pv 12) (Jaa (pv 9) (Jaa (pv 6) Jac))))) (Jgf rfl (Ja7 (Jav 15 Jbk.nd) (Ja7 (Jav 16 Jbk.nd) JdB)))) (Jaf (ps_if (PW.pt (pw_or (Jas (JbH hu) (pv 15) (JaE (Jaa pe_bl (Jaa pe_bl (Jaa pe_bl (Jaa pe_bl Jac))))) (Jax _)) (JbK (Jcx (Jcf (Bbw.ev M ⋯ rfl passF (Jaa (pv 16) (Jaa (pe_op Ja3 (pv 4) (JaE (Jaa (pv 10) Jac))) Jac)))))))) (Jaf (Jao pe_bl))
   Jau)))) (Jab (ps_if (Jas (Jb7 hu) (pe_op Jbn (pe_op JaO (pv 1) Jah) Jah) Jah (Jax _)) (Jaf (JaU (m_put.m M ⋯ passF (pv 11) (Jaa (JaC (Jaa Jbz (Jaa (pv 6) (Jaa (pv 9) (Jaa (JaC (Jaa (pe_un JcQ (pv 8)) (Jaa Jah Jac))) (Jaa (JaC (Jaa (pe_un JcQ (pv 8)) (Jaa Jah Jac))) Jac)))))) Jac)))) (Jaf (JaU (m_drop.m M ⋯ passF (pv 11) (Jaa Jbz Jac))))) (Jab (Ja4 PassesOwn.never rfl (pi_U (JaE (Jaa Jah (Jaa Jah Jac)))) (Jav 17 Jbk.nd) (Jab (ps_if (PW.pt (pw_or (Jas (JbH hu) (m_gap.m M ⋯ passF (pv 11) (Jaa (pv 9) (Jaa (pv 6) Jac))) (JaC (Jaa (JaC (Jaa (pv 8) (Jaa Jah Jac))) (Jaa (JaC (Jaa (pv 8) (Jaa Jah Jac))) Jac))) (Jax _)) (JbK (Jas Jet (m_ring.m0 M ⋯ passF (pv 11)) Ja2 (Jax _))))) (Jaf (Jao pe_bl))
   Jau) (Jaf (ps_if (PW.pt (pw_or (Jas (JbH hu) (Jaz JaY rfl T.Bbx Jb4 (Jaa (m_placing.m0 M ⋯ passF (pv 11)) Jac)) (pe_op Ja3 (pv 2) Jah) (Jax _)) (JbK (PW.pt (Jhw (Jas Jd7 (pv 2) Jah (Jax _)) (JfM (Jas (JbH hu) (Jaz JaY rfl T.Bbx Jb4 (Jaa (m_narrowed.m0 M ⋯ passF (pv 11)) Jac)) (Jaz JaY rfl T.Bbx Jb4 (Jaa (m_ties.m0 M ⋯ passF (pv 11)) Jac)) (Jax _)))))))) (Jaf (Jao pe_bl))
   Jau)))) (Jaf (Jao (Jce (Jb7 hu) (BaK.ev M ⋯ rfl passF (Jaa (pv 11) (Jaa Jah (Jaa (pv 9) (Jaa Jbz Jac))))) (JaC (Jaa (JaE (Jaa pe_bl (Jaa pe_bl (Jaa pe_bl (Jaa pe_bl Jac))))) (Jaa Ja2 Jac))) (Jax _))))))))))))))))))))),?_⟩
 clear hu;obtain ⟨hS,hl,k⟩:=h;have sl:(1000:Nat)<=sizeLine:=by decide
 show tSeq _ _ _ [some (.ref a),none,none,none,none,none,none,none,none,none,none,none,none,none,none,none,none,none] H;cbv;refine ⟨a,ns,0,rfl,hS,hl,by decide,fun c0=>?_⟩
 mframe;mpure
 mframe;mpure
 rename_i N1 s7;have d3:∀ n:Nat,1<=n->n<=13->N1 [some (.ref a),some (.int c0),some (.int (n:Int)),none,none,none,none,none,none,none,none,none,none,none,none,none,none,none] H:=by
  intro n n1 b6
  mframe;refine ⟨a,ns,n,rfl,hS,hl,b6,fun zl g H1 S1 r9 e1 lz hB=>?_⟩
  mframe;refine ⟨len0,?_⟩;rename_i tl d2 p1 H1 H2 S2 e2;cbv
  mframe;refine ⟨_,rfl,by ac_nf,by ac_nf,?_⟩;refine ForR.byN (fun i σ N=>∃ (v5:Option V) (xs:List V),σ=[some (.ref a),some (.int c0),some (.int (n:Int)),some (.ref zl),some (.ref tl),v5,none,none,none,none,none,none,none,none,none,none,none,none]/\Same H1 N/\N tl=some (.lst xs)/\All2 (TV K N) ((List.range i).map (tyK n (WZ n g 0))) xs) ⟨none,[],rfl,S2,e2,rfl⟩ ?_ ?_
  ·rintro i σ H3 hi ⟨v5,xs,rfl,S3,e3,hA⟩ N0 U;have hi:i<n:=by ac_nf
   have j6:=hA.length;rw [length_map,List.length_range] at j6;simpa only [Int.zero_add];refine ⟨.inl ⟨rfl,_,SqL.of e3⟩,?_⟩;cbv;have k7:atI (Str.ofString "abcdefghijklm").cps.toList (i:Int)=some (97+i):=by
    have e:(Str.ofString "abcdefghijklm").cps.toList=List.range' 97 13:=by decide
    rw [e];refine JcT ?_;rw [List.getElem?_range' ∅];simp
   refine ⟨97+i,by decide,k7,?_⟩;cbv;refine ⟨i,rfl,by ac_nf,?_⟩;cbv;refine ⟨i+1,rfl,by ac_nf,?_⟩;cbv;have gi:(g.map V.int)[i]?=some (.int (g.getD i 0)):=by
    rw [List.getElem?_map,List.getD_eq_getElem?_getD,List.getElem?_eq_getElem (show i<g.length by ac_nf)];rfl
   refine ixL (i:=i) (SqL.of (S3 _ _ e1)) gi ?_;cbv;refine ⟨len2,?_⟩;rename_i q1 j9 i3 H3 H4 S4 e4;cbv;refine ixL (i:=i) (SqL.of (S4 _ _ (S3 _ _ e1))) gi ?_;cbv;refine ⟨len2,?_⟩;rename_i q2 j8 i7 H4 H5 S5 e5;cbv;refine ⟨len5,?_⟩;rename_i q3 j1 j7 H5 H6 S6 e6;cbv;have c8:=(S4.trans S5).trans S6;refine ⟨tl,_,_,rfl,rfl,c8 _ _ e3,by ac_nf,?_⟩;generalize u7:upd H6 tl _=H7;cbv;have e7:=putE u7;have T7:SameT H6 H7:=SameT.put u7 (c8 _ _ e3) rfl;refine U _ _ ⟨_,_,rfl,fun bb u hb=>?_,e7,?_⟩
   ·rw [<- u7,Jag (Jae hb d2)];exact c8 _ _ (S3 _ _ hb)
   ·rw [List.range_succ,map_append];refine (hA.mono (P':=TV K H7) fun _ _ z=>(z.sameT c8.t).sameT T7).append (.one ?_);rw [tyK_k hi];exact TV.sameT T7 ⟨q3,_,_,rfl,SqT.of e6,FrV.of (S6 _ _ (S5 _ _ e4)),FrV.of (S6 _ _ e5)⟩
  rintro σ H3 ⟨v5,xs,rfl,S3,e3,hA⟩;rw [Int.toNat_natCast] at hA;cbv;refine ⟨n,rfl,b6,?_⟩
  mframe;mpure
  rename_i N2 t7;have d1:∀ (bs:List TD) (xs:List V) (H4:Hp),Same H1 H4->H4 tl=some (.lst xs)->All2 (TV K H4) bs xs->bs.Perm ((List.range n).map (tyK n (WZ n g 0)))->N2 [some (.ref a),some (.int c0),some (.int (n:Int)),some (.ref zl),some (.ref tl),v5,some (.str (fcK n)),none,none,none,none,none,none,none,none,none,none,none] H4:=by
   clear hA e3 S3;intro bs xs H4 S4 e4 hA hP;have s6:bs.length=n:=by have:=hP.length_eq;simpa using this
   have j6:=hA.length;have h7:=hS.same (S1.trans S4)
   mframe;refine ⟨a,ns,1,rfl,h7,hl,by decide,fun c1=>?_⟩;cbv;mpure
   refine ⟨a,ns,1,rfl,h7,hl,by decide,fun c2=>?_⟩;cbv;mpure
   refine ⟨len4,?_⟩;rename_i ol r7 r2 H4 H5 S5 e5;cbv;cbv;mpure
   have m1:=Mth.fm (x:=c1) (y:=10 ^ 20) ⋯;have m2:=Mth.fm (x:=c2) (y:=10 ^ 20) ⋯;have m3:=Mth.fm (x:=c0.fdiv 5) (y:=4) ⋯;obtain ⟨jo,g6⟩:=Int.eq_ofNat_of_zero_le m3.1;obtain ⟨z,hz,z0,zb⟩:∃ z:Int,[V.int 1,V.int (-1),V.int (1+c1.fmod (10 ^ 20)),V.int (-1-c2.fmod (10 ^ 20))][jo]?=some (.int z)/\z≠0/\-(10 ^ 21)<=z/\z<=10 ^ 21:=by
    have : jo=0\/jo=1\/jo=2\/jo=3:=by ac_nf
    rcases this with rfl | rfl | rfl | rfl
    ·exact ⟨_,rfl,by decide,by decide,by decide⟩
    ·exact ⟨_,rfl,by decide,by decide,by decide⟩
    ·exact ⟨_,rfl,by ac_nf,by ac_nf,by ac_nf⟩
    ·exact ⟨_,rfl,by ac_nf,by ac_nf,by ac_nf⟩
   rw [g6];refine ixL (i:=jo) (SqL.of e5) hz ?_;clear hz m1 m2 m3 g6
   mframe;refine ⟨zl,g,rfl,SqL.of (S5 _ _ (S4 _ _ e1)),?_⟩
   mframe;refine ⟨0,rfl,by decide,?_⟩
   mframe;refine ⟨len2,?_⟩;rename_i q1 j9 i3 H5 H6 S6 e6;cbv;cbv;refine ⟨len2,?_⟩;rename_i q2 j8 i7 H6 H7 S7 e7;cbv;refine ⟨len5,?_⟩;rename_i cl p3 r4 H7 H8 S8 e8;cbv;generalize hcc : -g.sum+z=c at *;have m7:TV K H8 (tyK n (WZ n g c) n) (.ref cl):=by
    rw [tyK_n];exact ⟨cl,_,_,rfl,SqT.of e8,FrV.of (S8 _ _ (S7 _ _ e6)),FrV.of (S8 _ _ e7)⟩
   have S:=Jf1 n1 b6 lz hP c;have ho:c+g.sum≠0:=by ac_nf
   have hg:=S.bkh (wz_sz hB lz (by rw [<- hcc];exact c_sz hB ∅ zb));have j5:=(S5.trans S6).trans (S7.trans S8);have d8:All2 (TV K H8) (bs++[tyK n (WZ n g c) n]) (xs++[.ref cl]):=(hA.mono (P':=TV K H8) fun _ _ z=>z.sameT j5.t).append (.one m7);have k2:=j5 _ _ e4;have np:=S.none (bDok hg).1 ho;have b9:=S.okf;have b8:=S.nox;generalize hts:bs++[tyK n (WZ n g c) n]=ts at *
   mframe;refine ⟨by show 1<=sizeLine;ac_nf,?_⟩;rename_i o5 l0 n6 H8 H9 S9 e9;cbv;refine .inl ⟨tl,o5,_,_,rfl,rfl,S9 _ _ k2,e9,by simp only [length_singleton];ac_nf,?_⟩;rename_i bl q0 p5 H9 f9 i5 l4;cbv;cbv;intro C e0 g7 o4 p0;have Sm:Same f9 (upd (upd f9 e0 (.own C)) C (.ins Ad.Book e0 [])):=fun b u q=>by rw [Jag (Jae q g7),Jag (Jae q o4)];exact q
   refine ⟨C,e0,bl,_,ts,f9,rfl,Jaq,g7,Sm,SqL.of l4,d8.mono (fun _ _ z=>z.sameT (S9.trans i5).t),hg.ok,S.nms,hg.l35,fun d f8 l9 hd r=>⟨rfl,?_⟩⟩;obtain ⟨⟨dx,hp⟩,s4,s8,_⟩:=id r;have d4:=(S9.trans i5).trans l9;have k4:=d8.mono (P':=TV K f8) fun _ _ z=>z.sameT d4.t;have i6:=d4 _ _ k2;clear d8 hA e2 S2
   mframe;refine ⟨by show 3<=sizeLine;ac_nf,?_⟩;rename_i wl p2 r8 f8 l8 k3 k0;cbv;refine ⟨wl,rfl,ForA.byLN (xs:=[.int 0, .int 1, .int 2]) (SqL.of k0) (fun i σ N=>∃ (c7 Y X:Option V),σ=[some (.ref a),some (.int c0),some (.int (n:Int)),some (.ref zl),some (.ref tl),v5,some (.str (fcK n)),some (.int z),some (.int g.sum),some (.str (fcK 0)),some (.ref cl),some (.ref C),c7,Y,X,none,none,none]/\Same l8 N) ⟨_,_,_,rfl,Same.refl _⟩ (fun i σ N z=>by obtain ⟨_,_,_,_,z⟩:=z;exact SqL.of (z _ _ k0)) ?_ ?_⟩
   ·rintro i y σ j2 hy ⟨c7,Y,X,rfl,g0⟩ N0 U;obtain ⟨wy,l5,rfl⟩:∃ w:Nat,w<=2/\y=.int (w:Int):=by
     have:=List.mem_of_getElem? hy;simp only [mem_cons,List.not_mem_nil,or_false] at this;rcases this with rfl | rfl | rfl
     ·exact ⟨0,by decide,rfl⟩
     ·exact ⟨1,by decide,rfl⟩
     ·exact ⟨2,by decide,rfl⟩
    cbv;refine ⟨len2,?_⟩;rename_i t1 h0 h5 j2 c9 I n0;cbv;refine ⟨len2,?_⟩;rename_i t2 i1 k1 c9 D a7 f4;cbv;refine ⟨len2,?_⟩;rename_i t3 i0 i9 D a1 p a9;cbv;refine ⟨by show 3<=sizeLine;ac_nf,?_⟩;rename_i pl p7 p6 a1 W o d0;cbv;have b3:=g0.trans ((I.trans a7).trans (p.trans o));refine ⟨pl,rfl,ForA.byLN (xs:=[.ref t1, .ref t2, .ref t3]) (SqL.of d0) (fun i σ N=>∃ (Y X:Option V),σ=[some (.ref a),some (.int c0),some (.int (n:Int)),some (.ref zl),some (.ref tl),v5,some (.str (fcK n)),some (.int z),some (.int g.sum),some (.str (fcK 0)),some (.ref cl),some (.ref C),some (.int (wy:Int)),Y,X,none,none,none]/\Same W N) ⟨_,_,rfl,Same.refl _⟩ (fun i σ N z=>by obtain ⟨_,_,_,z⟩:=z;exact SqL.of (z _ _ d0)) ?_ ?_⟩
    ·rintro i2 y2 σ L m4 ⟨i4,j3,rfl,v⟩ N3 o9;obtain ⟨tt,o1,o2,rfl,m8,k5⟩:∃ (tt:Addr) (o1 o2:Str),y2=.ref tt/\W tt=some (.tup [.str o1, .str o2])/\(o1=("x" : Str)\/o2=("x" : Str)):=by
      have:=List.mem_of_getElem? m4;simp only [mem_cons,List.not_mem_nil,or_false] at this;rcases this with rfl | rfl | rfl
      ·exact ⟨t1,_,_,rfl,o _ _ (p _ _ (a7 _ _ n0)), .inr rfl⟩
      ·exact ⟨t2,_,_,rfl,o _ _ (p _ _ f4), .inl rfl⟩
      ·exact ⟨t3,_,_,rfl,o _ _ a9, .inl rfl⟩
     have b7:¬ ((∃ t∈ts,o1=t.st\/o1=t.en)/\∃ t∈ts,o2=t.st\/o2=t.en):=fun h=>by
      rcases k5 with rfl | rfl
      ·exact b8 h.1
      ·exact b8 h.2
     have g5:=k3.trans (b3.trans v);cbv;refine ⟨tt,_,rfl,SqT.of (v _ _ m8),rfl,?_⟩;cbv;refine ⟨C,d,ts,fkL,wy,o1,o2,rfl,r.same g5,hg,by ac_nf, .inl ⟨l5,b7⟩,fun _ rq rn a8 a6 f1 f2=>?_,fun h=>absurd h b7⟩;cbv;refine ⟨len4,?_⟩;rename_i o0 d7 f5 a8 c5 O g1;cbv;refine ⟨len2,?_⟩;rename_i bt g8 h4 c5 h6 G g2;cbv;refine ⟨_,_,repBN (as:=[false,true,true,true]) (G _ _ (O _ _ f1)) (G _ _ (O _ _ f2)),repBN (as:=[false,true,true,true]) g2 (G _ _ g1),depBN,rfl,?_⟩;rw [Jcr];cbv;exact o9 _ _ ⟨_,_,rfl,v.trans (a6.trans (O.trans G))⟩
    ·rintro σ L ⟨i4,j3,rfl,v⟩;exact U _ _ ⟨_,_,_,rfl,b3.trans v⟩
   rintro σ j2 ⟨c7,Y,X,rfl,g0⟩;have c4:=k3.trans g0;cbv;refine ⟨_,rfl,by ac_nf,by ac_nf,?_⟩;refine ForR.byN (fun i σ N=>∃ (c7 b0 c6:Option V),σ=[some (.ref a),some (.int c0),some (.int (n:Int)),some (.ref zl),some (.ref tl),v5,some (.str (fcK n)),some (.int z),some (.int g.sum),some (.str (fcK 0)),some (.ref cl),some (.ref C),c7,Y,X,b0,c6,none]/\Same f8 N) ⟨_,_,_,rfl,c4⟩ ?_ ?_
   ·rintro i σ c9 hi ⟨c3,b0,c6,rfl,I⟩ N0 U;simpa only [Int.zero_add];refine ⟨C,d,ts,fkL,i,fcK 0,fcK n,rfl,r.same I,hg,by ac_nf, .inr ⟨b9,np⟩,fun h=>absurd b9 h,fun _ rq rn rl rx R D a7 f1 f2 f3 hR hx=>?_⟩;cbv;refine ⟨rq,_,rfl,SqT.of f1,rfl,?_⟩;cbv
    mframe;refine ⟨len4,?_⟩;rename_i b4 q7 r0 D a1 p g1;cbv;refine neBL (as:=[true,false,true,true]) (bs:=[true,false,true,true]) (p _ _ f2) g1 ?_;cbv;refine ⟨by show 1<=sizeLine;ac_nf,?_⟩;rename_i s2 r6 r5 a1 W o g2;cbv;have a0:=(I.trans a7).trans (p.trans o);refine .inl ⟨tl,s2,_,_,rfl,rfl,a0 _ _ i6,g2,by simp only [length_singleton];ac_nf,?_⟩;rename_i b2 r1 q9 W L v g3;cbv;obtain ⟨l7,_,o8⟩:=hR;refine ⟨rl,b2,rx,_,ts,n,_,_,_,R,rfl,v _ _ (o _ _ (p _ _ f3)),hx.mono (fun _ _ z=>z.sameT ((p.trans o).trans v).t),SqL.of g3,k4.mono (fun _ _ z=>z.sameT (a0.trans v).t),S,(bDok hg).1,o8.rng,fun a8 a6=>?_⟩;cbv;exact U _ _ ⟨_,_,_,rfl,(a0.trans v).trans a6⟩
   rintro σ c9 ⟨c3,b0,c6,rfl,I⟩;cbv;mpure
   rename_i N4 s1;have d5:∀ (us:List TD) (m:Nat) (c':Int) (D:Hp),BK K Ad D C d us->Crc us n m (WZ n g c') (fun k=>(g.take k).sum) (c'+g.sum)->(m=n\/c'+g.sum=0)->Mth.Sz 150 c'->N4 [some (.ref a),some (.int c0),some (.int (n:Int)),some (.ref zl),some (.ref tl),v5,some (.str (fcK n)),some (.int z),some (.int g.sum),some (.str (fcK 0)),some (.ref cl),some (.ref C),c3,Y,X,b0,c6,none] D:=by
    clear I c4 hp r b8 b9 np hg ho S;intro us m c' D r S ho hc;have hg:=S.bkh (wz_sz hB lz hc);have a5:=S.pot ho;have b9:=S.okf;have b8:=S.nox;obtain ⟨⟨dx,hp⟩,_⟩:=id r;have tr:∀ (N:Hp) (q:Addr) (v1 v2:V) (o1 o2:Option (Int × Int)),N q=some (.tup [v1,v2])->BV K N o1 v1->BV K N o2 v2->Rep K N (.tup [bD o1,bD o2]) (.ref q):=fun N q v1 v2 o1 o2 h1 h2 h3=>by
     simp only [Rep,RepL];exact ⟨_,_,rfl,SqT.of h1,_,_,rfl,h2.rep,_,_,rfl,h3.rep,rfl⟩
    have td:depD (.tup [bD (some (g.sum,1)),bD (some (g.sum,1))])<=50:=by
     simp [bD,depD,frD,depL]
    mframe;refine ⟨len2,?_⟩;rename_i al p9 p4 D a1 p a9;cbv;refine ⟨al,rfl,ForA.byLN (xs:=[.int 1, .int 2]) (SqL.of a9) (fun i σ N=>∃ f0:Option V,σ=[some (.ref a),some (.int c0),some (.int (n:Int)),some (.ref zl),some (.ref tl),v5,some (.str (fcK n)),some (.int z),some (.int g.sum),some (.str (fcK 0)),some (.ref cl),some (.ref C),c3,Y,X,b0,c6,f0]/\Same a1 N) ⟨_,rfl,Same.refl _⟩ (fun i σ N z=>by obtain ⟨_,_,z⟩:=z;exact SqL.of (z _ _ a9)) ?_ ?_⟩
    ·rintro i y σ W hy ⟨f0,rfl,o⟩ N0 U;have J:=p.trans o;cbv;refine ⟨C,_,dx,_,rfl,J _ _ hp,rfl,rfl,?_⟩;cbv;refine ⟨C,d,us,fkL,fcK 0,fcK n,rfl,r.same J,hg,fun _ q j4 h8 t4 s5 L v l6 g1 g2 b1 b2 _=>?_,fun _ _ _ _ _ _ _ _ _ _ _ np _ _=>absurd a5 np,fun h=>absurd b9 h⟩;obtain ⟨e',d9⟩:=S.back g2 n (Nat.le_refl _);rw [Nat.sub_self] at d9;obtain ⟨e,he⟩:=S.reach g1 n (Nat.le_refl _);rw [d9] at b1;rw [he] at b2;have w1:=S.far ho hg (Nat.le_refl n) (Nat.zero_le n) g2 d9;have w2:=S.far ho hg (Nat.zero_le n) (Nat.le_refl n) g1 he;rw [take_zero,take_of_length_le ∅] at w1 w2;have o3:BV K L (some (g.sum,1)) j4:=by
      have b1:BV K L (some (subF (0,1) e'.1)) j4:=b1;rw [w1,sub01] at b1;simpa using b1
     have n7:BV K L (some (g.sum,1)) h8:=by
      have b2:BV K L (some e.1) h8:=b2;rw [w2] at b2;simpa using b2
     cbv;refine ⟨len2,?_⟩;rename_i t1 h0 h5 L a8 a6 f1;cbv;refine ⟨len2,?_⟩;rename_i t2 i1 k1 a8 c5 O f2;cbv;refine ⟨len2,?_⟩;rename_i t3 i0 i9 c5 h6 G f3;cbv;have B:=(a6.trans O).trans G;refine ⟨_,_,tr _ _ _ _ _ _ (B _ _ l6) (o3.sameT B.t) (n7.sameT B.t),tr _ _ _ _ (some (g.sum,1)) (some (g.sum,1)) f3 (FrV.of (G _ _ (O _ _ f1))) (FrV.of (G _ _ f2)),td,rfl,?_⟩;rw [Jcr];cbv;have a4:=J.trans (v.trans B);refine ⟨C,_,dx,_,rfl,a4 _ _ hp,rfl,rfl,?_⟩;cbv;refine ⟨C,d,us,fkL,rfl,r.same a4,hg,fun s0 d6 _=>?_,fun _ _ _ _ _ _ _ np _ _=>absurd a5 np⟩;cbv;have a2:=a4.trans d6
     mframe;refine ⟨C,_,dx,_,rfl,a2 _ _ hp,rfl,rfl,?_⟩;cbv;refine ⟨C,d,us,fkL,rfl,r.same a2,hg,fun l ys l7 tb t0 f6 _ k9 hF _ hA _=>?_,fun _ _ _ _ _ _ _ _ _ _ np _ _=>absurd a5 np⟩;cbv;refine ⟨_, .inl (SqL.of k9),?_⟩;have m9:=hA.length;rw [length_map,S.faces hF] at m9;rw [show (ys.length:Int)=(n:Int)+1 by ac_nf];try simpa only [decide_true]
     have a3:=a2.trans f6;by_cases n5:(n:Int)<5
     ·rw [decide_eq_true n5];cbv;refine ⟨C,_,dx,_,rfl,a3 _ _ hp,rfl,rfl,?_⟩;cbv;refine ⟨C,d,us,fkL,rfl,r.same a3,hg,fun l2 n9 s9 j0 _ n4 k6 _ _=>?_,fun _ _ _ _ _ _ _ _ _ _ np _ _=>absurd a5 np⟩;cbv;refine ⟨_, .inl (SqL.of n4),?_⟩;have b5:=a3.trans j0;cbv;refine ⟨C,_,dx,_,rfl,b5 _ _ hp,rfl,rfl,?_⟩;cbv;refine ⟨C,d,us,rfl,r.same b5,hg.l35,fun l3 m5 t5 n8 _ o6 l1=>?_⟩;cbv;refine ⟨_, .inl (SqL.of o6),?_⟩;have i8:=k6.length;have t6:=l1.length;unfold nwD at i8;rw [length_map] at i8;rw [show n9.length=m5.length by ac_nf];try simpa only [decide_true]
      exact U _ _ ⟨_,rfl,o.trans (((v.trans B).trans (d6.trans f6)).trans (j0.trans n8))⟩
     ·rw [decide_eq_false n5];cbv;exact U _ _ ⟨_,rfl,o.trans ((v.trans B).trans (d6.trans f6))⟩
    rintro σ W ⟨f0,rfl,o⟩;have J:=p.trans o;cbv;have b7:¬ ((∃ t∈us,fcK 0=t.st\/fcK 0=t.en)/\∃ t∈us,("x" : Str)=t.st\/("x" : Str)=t.en):=fun h=>b8 h.2;refine ⟨C,d,us,fkL,0,fcK 0,("x" : Str),rfl,r.same J,hg,by decide, .inl ⟨by decide,b7⟩,fun _ rq rn a8 a6 f1 f2=>?_,fun h=>absurd h b7⟩;cbv;refine ⟨len4,?_⟩;rename_i o0 d7 f5 a8 c5 O g1;cbv;refine ⟨len2,?_⟩;rename_i bt g8 h4 c5 h6 G g2;cbv;refine ⟨_,_,repBN (as:=[false,true,true,true]) (G _ _ (O _ _ f1)) (G _ _ (O _ _ f2)),repBN (as:=[false,true,true,true]) g2 (G _ _ g1),depBN,rfl,?_⟩;rw [Jcr];exact k _
   have f7:ts[bs.length]?=some (tyK n (WZ n g c) n):=by rw [<- hts];simp
   have k8:=I;split
   ·cbv;refine ⟨C,_,dx,_,rfl,I _ _ hp,rfl,rfl,?_⟩;cbv;refine ⟨len2,?_⟩;rename_i q3 j1 j7 c9 D a7 f4;cbv;cbv;refine ⟨len2,?_⟩;rename_i q4 q8 q6 D a1 p a9;cbv;refine ⟨len5,?_⟩;rename_i q5 p8 r3 a1 W o d0;cbv;have h9:=Jf1 n1 b6 lz hP (-g.sum);have g9:Mth.Sz 150 (-g.sum):=by have:=c_sz hB (show g.length<=13 by ac_nf) (x:=0) ⋯;simpa using this
    have n3:=h9.bkh (wz_sz hB lz g9);have n2:TV K W (tyK n (WZ n g (-g.sum)) n) (.ref q5):=by
     rw [tyK_n];exact ⟨q5,_,_,rfl,SqT.of d0,FrV.of (o _ _ (p _ _ f4)),FrV.of (o _ _ a9)⟩
    refine ⟨C,d,_,ts,tyK n (WZ n g (-g.sum)) n,rfl,r.same ((I.trans a7).trans (p.trans o)),n2,n3.ok _ (by simp),hg.l35,fun L sx Z=>?_⟩;have ep:putT ts (tyK n (WZ n g (-g.sum)) n)=bs++[tyK n (WZ n g (-g.sum)) n]:=by
     rw [Jih S.nms f7 (by rw [tyK_n,tyK_n]), <- hts];simp
    rw [ep] at Z;exact d5 _ (n+1) (-g.sum) L Z h9 (.inr ∅) g9
   ·cbv;refine ⟨C,_,dx,_,rfl,I _ _ hp,rfl,rfl,?_⟩;cbv;have m6:("z" : Str)∈nms ts:=by
     unfold nms;refine mem_map.mpr ⟨_,List.mem_of_getElem? f7,?_⟩;rw [tyK_n]
    refine ⟨C,d,("z" : Str),ts,rfl,r.same I,fun h=>absurd m6 h,fun _ D sx Z=>?_⟩;have ep:dropT ts ("z" : Str)=bs:=by
     rw [Jfx S.nms f7 (by rw [tyK_n]), <- hts,List.eraseIdx_append_of_length_le (Nat.le_refl _)];simp
    rw [ep] at Z;exact d5 _ n 0 D Z (Jf2 n1 b6 lz hP 0) (.inl rfl) (.lit ⋯ ⋯)
  split
  ·refine ⟨.inl ⟨rfl,_,SqL.of e3⟩,tl,xs,rfl,rfl,e3,?_⟩;generalize g4:upd H3 tl _=H4;have e4:=putE g4;have T4:SameT H3 H4:=SameT.put g4 e3 rfl;exact d1 _ _ H4 (fun bb u hb=>by rw [<- g4,Jag (Jae hb d2)];exact S3 _ _ hb) e4 (hA.mono (P':=TV K H4) fun _ _ z=>z.sameT T4).rev (List.reverse_perm _)
  ·exact d1 _ _ H3 S3 e3 hA (List.Perm.refl _)
 have q5:=Mth.fm (x:=c0) (y:=5) ⋯;obtain ⟨j,hj⟩:=Int.eq_ofNat_of_zero_le q5.1;split
 ·have:=d3 (1+j+8) ∅ ∅;rw [hj];exact this
 ·have:=d3 (1+j) ∅ ∅;rw [hj];exact this
end
theorem lenE1 {α} {P:List α->Prop} (h:∀ a,P [a]):∀ us:List α,us.length=1->P us|[a],_=>h a
theorem lenE2 {α} {P:List α->Prop} (h:∀ a b,P [a,b]):∀ us:List α,us.length=2->P us|[a,b],_=>h a b
theorem lenE3 {α} {P:List α->Prop} (h:∀ a b c,P [a,b,c]):∀ us:List α,us.length=3->P us|[a,b,c],_=>h a b c
theorem lenE4 {α} {P:List α->Prop} (h:∀ a b c d,P [a,b,c,d]):∀ us:List α,us.length=4->P us|[a,b,c,d],_=>h a b c d
variable {n:Nat}
theorem lenD3 {α} {P:List α->Prop} {ds:List α} (h:∀ a b c,P [a,b,c]) (e:ds.length+3=n) (us:List α) (k:(us++ds).length=n):P us:=lenE3 h us (by rw [length_append] at k;ac_nf)
theorem lenD4 {α} {P:List α->Prop} {ds:List α} (h:∀ a b c d,P [a,b,c,d]) (e:ds.length+4=n) (us:List α) (k:(us++ds).length=n):P us:=lenE4 h us (by rw [length_append] at k;ac_nf)
def FnG (K:W.Frag) (f:Addr) (n q:Str) (s:Stmt) (d:Value):Prop:=∃ fd,FunD K n q s d f fd/\W.keepIn K (.ref f)=true
def FnA (K:W.Frag) (f:Addr) (n:Str) (s:Stmt):Prop:=∃ fd,FunD K n n s .none f fd/\W.keepIn K (.ref f)=true/\W.nsIn K mainGlobals n=some (some (.ref f))
variable {x:Str} {st:Stmt} {oc dc pm cd ct:Value} {od an:Option Addr}
theorem fnG {K:W.Frag} {f:Addr} {q:Str} {d:Value} {kV:Value} {sl:Array (Option Value)} (l:K.lookup f=some ⟨oc,od, .func (W.fnOf x q (Jam st) (Jal st) (Jad st) d kV dc pm an cd ct),sl⟩) (c:W.codeIn K cd q=true) (k:W.keepIn K (.ref f)=true):FnG K f x q st d:=⟨_,Jap l c k,k⟩
theorem fnA {K:W.Frag} {f:Addr} {kV:Value} {sl:Array (Option Value)} (a:W.nsIn K mainGlobals x=some (some (.ref f))) (l:K.lookup f=some ⟨oc,od, .func (W.fnOf x x (Jam st) (Jal st) (Jad st) .none kV dc pm an cd ct),sl⟩) (c:W.codeIn K cd x=true) (k:W.keepIn K (.ref f)=true):FnA K f x st:=⟨_,Jap l c k,k,a⟩
local macro_rules|`(∅)=>`(⟨$(Lean.mkIdent `SlackError),$(Lean.mkIdent `NoNumber),$(Lean.mkIdent `NoTie),$(Lean.mkIdent `Twice),$(Lean.mkIdent `NoName),$(Lean.mkIdent `NoFace),$(Lean.mkIdent `Impossible),$(Lean.mkIdent `NoPart),$(Lean.mkIdent `NoGap),$(Lean.mkIdent `InRing),$(Lean.mkIdent `Apart),$(Lean.mkIdent `Tight),$(Lean.mkIdent `Off),$(Lean.mkIdent `NoRow),$(Lean.mkIdent `Tie),$(Lean.mkIdent `Free),$(Lean.mkIdent `AtLeast),$(Lean.mkIdent `AtMost),$(Lean.mkIdent `Just),$(Lean.mkIdent `Between),$(Lean.mkIdent `Scale),$(Lean.mkIdent `Step),$(Lean.mkIdent `Book),(.str "abcdefghijklmnopqrstuvwxyz" $(Lean.mkIdent `Baa)),(.int 8 $(Lean.mkIdent `Bab)),$(Lean.mkIdent `ZERO)⟩)
local macro_rules|`($f:ident∘$n:str)=>`(W.nsIn $(Lean.mkIdent `K) mainGlobals $n=some (some (.ref $f)))|`($i:num∘$n:str∘$t:ident)=>`(FnA $(Lean.mkIdent `K) $(Lean.mkIdent (.mkSimple s!"f{i.getNat}")) $n $t)|`($i:num∘$n:str∘$q:str∘$t:ident)=>`(FnG $(Lean.mkIdent `K) $(Lean.mkIdent (.mkSimple s!"f{i.getNat}")) $n $q $t .none)
local macro_rules|`($c:ident∣$n:str)=>`(W.codeIn $(Lean.mkIdent `K) $c $n=true)
local macro_rules|`(-$f)=>`(W.keepIn $(Lean.mkIdent `K) (.ref $f)=true)
local macro_rules|`($f:ident/$n:str)=>`(W.findIn $(Lean.mkIdent `K) (.ref $f) $n=some none)|`($f:ident/$n:str/$g:ident)=>`(W.findIn $(Lean.mkIdent `K) (.ref $f) $n=some (some (.ref $g)))
local macro_rules|`(!$f:ident)=>`(FunD.binds $f (by bv_omega))
local macro_rules|`(tactic|bv_omega)=>`(tactic|first|exact fun _ _ _ _ _ _=>lenE1 fun _=>rfl|exact fun _ _ _ _ _ _=>lenE2 fun _ _=>rfl|exact fun _ _ _ _ _ _=>lenE3 fun _ _ _=>rfl|exact fun _ _ _ _ _ _=>lenE4 fun _ _ _ _=>rfl)
theorem all_mk {l:W.OpenLaw} {w:World} {K:W.Frag} {h:Heap} {mg:Str->Option Value} {fa:Addr} {SlackError NoNumber NoTie Twice NoName NoFace Impossible NoPart NoGap InRing Apart Tight Off NoRow Tie Free AtLeast AtMost Just Between Scale Step Book f1 f2 f3 f4 f5 f6 f7 f8 f9 f10 f11 f12 f13 f14 f15 f16 f17 f18 f19 f20 T20 f21 f22 f23 f24 f25 f26 f27 f28 f29 f30 f31 f32 f33 f34 f35 f36 f37 f38 f39 f40 f41 T41 f42 f43 f44 f45 f46 f47 f48 f49 f50 f51 ZERO xN_Impossible:Addr} {tc20:Value} {td20:Option Addr} {tn20:Nat} {ts20:Array (Option Value)} {tk20a:Tok} {tc41:Value} {td41:Option Addr} {tn41:Nat} {ts41:Array (Option Value)} {od51 an51:Option Addr} {sl51:Array (Option Value)} {oc51 kV51 dc51 pm51 cd51 ct51:Value} {Baa:Tok} {Bab:Tok} {Bci:Option Addr} {Bcj:Nat} {Bck:Array (Option Value)} {Bcg Bch:Tok} {xd_Impossible:Option Addr} {xnm_Impossible xq_Impossible:Str} {xbs_Impossible xsub_Impossible:List Value} {xsn_Impossible:List Str} {xab_Impossible:Bool} {xcol_Impossible:Option Bool} {xk0_Impossible xk1_Impossible xk2_Impossible xk3_Impossible xk5_Impossible:Option Value} (X:K.In h) (G:h.Ns mainGlobals mg) (hfa:mg "law"=some (.ref fa))
 (aa:SlackError∘"SlackError") (ab:NoNumber∘"NoNumber") (ac:NoTie∘"NoTie") (ad:Twice∘"Twice") (ae:NoName∘"NoName") (af:NoFace∘"NoFace") (ag:Impossible∘"Impossible") (ah:NoPart∘"NoPart") (ai:NoGap∘"NoGap") (aj:InRing∘"InRing") (ak:Apart∘"Apart") (al:Tight∘"Tight") (am:Off∘"Off") (an:NoRow∘"NoRow") (ao:Tie∘"Tie") (ap:Free∘"Free") (aq:AtLeast∘"AtLeast") (ar:AtMost∘"AtMost") (au:Just∘"Just") (av:Between∘"Between") (aw:Scale∘"Scale") (ax:Step∘"Step") (ay:Book∘"Book") (l1:1∘"common_divisor"∘Bai) (l2:2∘"plus"∘BbI) (l3:3∘"minus"∘Bbt) (l4:4∘"under"∘Bbu) (l5:5∘"is_name"∘Bbb) (l6:6∘"is_whole"∘BaW) (l7:7∘"is_fraction"∘Bav) (l8:8∘"is_bound"∘BaX) (l9:9∘"are_faces"∘BaL) (l10:10∘"are_bounds"∘BaG) (l11:11∘"is_tie"∘Bbl) (a12:Tie/"__init__"/f12) (l12:12∘"__init__"∘"Tie.__init__"∘Bar) (a13:Tie/"plain"/f13) (l13:13∘"plain"∘"Tie.plain"∘BaM) (l14:14∘"tie_of"∘Bbm) (a15:Tie/"steps"/f15) (l15:15∘"steps"∘"Tie.steps"∘BaN) (a16:Scale/"__init__"/f16) (l16:16∘"__init__"∘"Scale.__init__"∘Baj) (a17:Scale/"lifted"/f17) (l17:17∘"lifted"∘"Scale.lifted"∘Bas) (a18:Step/"__init__"/f18) (l18:18∘"__init__"∘"Step.__init__"∘Bam) (l19:19∘"steps_of"∘BaY) (a20:Impossible/"__init__"/f20) (l20:FnG K f20 "__init__" "Impossible.__init__" Bae (.ref T20)) (t20:K.lookup T20=some ⟨tc20,td20, .seq #[.str "" tk20a, .none] tn20,ts20⟩) (l21:21∘"ring_behind"∘Baw) (l22:22∘"last_steps"∘BaH) (l23:23∘"chains_from"∘Bax) (l24:24∘"faces_of"∘BaZ) (a25:Book/"kept"/f25) (l25:25∘"kept"∘"Book.kept"∘BaO) (a26:Book/"ties"/f26) (l26:26∘"ties"∘"Book.ties"∘BaP) (a27:Book/"faces"/f27) (l27:27∘"faces"∘"Book.faces"∘BaI) (a28:Book/"__init__"/f28) (l28:28∘"__init__"∘"Book.__init__"∘Ban) (l29:29∘"places_of"∘BaQ) (a30:Book/"placing"/f30) (l30:30∘"placing"∘"Book.placing"∘Bat) (a31:Book/"ring"/f31) (l31:31∘"ring"∘"Book.ring"∘BaR) (l32:32∘"whole_below"∘Baz) (l33:33∘"whole_above"∘BaA) (l34:34∘"enough_above"∘Bau) (l35:35∘"stretched_placing"∘Baf) (l36:36∘"gap_between"∘BaB) (a37:Book/"check_faces"/f37) (l37:37∘"check_faces"∘"Book.check_faces"∘Bag) (a38:Book/"chains_of"/f38) (l38:38∘"chains_of"∘"Book.chains_of"∘Bak) (a39:Book/"gap"/f39) (l39:39∘"gap"∘"Book.gap"∘Ba0) (a40:Book/"farthest"/f40) (l40:40∘"farthest"∘"Book.farthest"∘Bao) (a41:Book/"shown"/f41) (l41:FnG K f41 "shown" "Book.shown" BaJ (.ref T41)) (t41:K.lookup T41=some ⟨tc41,td41, .seq #[.bool true] tn41,ts41⟩) (a42:Book/"narrowed"/f42) (l42:42∘"narrowed"∘"Book.narrowed"∘Bap) (a43:Book/"put"/f43) (l43:43∘"put"∘"Book.put"∘Ba1) (a44:Book/"drop"/f44) (l44:44∘"drop"∘"Book.drop"∘BaS) (l45:45∘"_law_cell_at"∘BaD) (l46:46∘"_law_asked"∘BaT) (l47:47∘"_law_refused"∘BaE) (l48:48∘"_law_face"∘Ba2) (l49:49∘"_law_sizes"∘BaU) (l50:50∘"_law_ring"∘Ba3) (a51:f51∘"law") (l51:K.lookup f51=some ⟨oc51,od51, .func (W.fnOf "law" "law" (Jam BbP) (Jal BbP) (Jad BbP) .none kV51 dc51 pm51 an51 cd51 ct51),sl51⟩) (c51:cd51∣"law") (k51:-f51) (az:W.nsIn K mainGlobals "abs"=some none) (aA:W.nsIn K mainGlobals "isinstance"=some none) (aB:W.nsIn K mainGlobals "len"=some none) (aC:W.nsIn K mainGlobals "all"=some none) (aD:W.nsIn K mainGlobals "int"=some none) (aE:W.nsIn K mainGlobals "bool"=some none) (aF:W.nsIn K mainGlobals "tuple"=some none) (aG:W.nsIn K mainGlobals "str"=some none) (aH:W.nsIn K mainGlobals "range"=some none) (aI:W.nsIn K mainGlobals "list"=some none) (aJ:W.nsIn K mainGlobals "reversed"=some none) (aK:W.nsIn K mainGlobals "sorted"=some none) (aL:W.nsIn K mainGlobals "set"=some none) (aM:W.nsIn K mainGlobals "max"=some none) (aN:W.nsIn K mainGlobals "dict"=some none) (aO:W.nsIn K mainGlobals "sum"=some none) (aP:W.nsIn K mainGlobals "ValueError"=some none) (aQ:W.nsIn K mainGlobals "SMALL_LETTERS"=some (some (.str "abcdefghijklmnopqrstuvwxyz" Baa))) (aR:W.nsIn K mainGlobals "LONGEST_NAME"=some (some (.int 8 Bab))) (aS:ZERO∘"ZERO") (aT:K.lookup ZERO=some ⟨.type "tuple",Bci, .seq #[.int 0 Bcg, .int 1 Bch] Bcj,Bck⟩) (aU:W.excIn K SlackError [.type "ValueError", .type "Exception", .type "BaseException", .type "object"] "ValueError.__new__"=true) (aV:W.excIn K NoTie [.type "ValueError", .type "Exception", .type "BaseException", .type "object"] "ValueError.__new__"=true) (aW:W.excIn K NoFace [.type "ValueError", .type "Exception", .type "BaseException", .type "object"] "ValueError.__new__"=true) (aX:W.excIn K NoName [.type "ValueError", .type "Exception", .type "BaseException", .type "object"] "ValueError.__new__"=true) (aY:K.lookup Impossible=some (excClassObj xnm_Impossible xq_Impossible Impossible xN_Impossible xbs_Impossible (.ref SlackError::BMV) true xsn_Impossible xsub_Impossible xab_Impossible xcol_Impossible xd_Impossible xk0_Impossible xk1_Impossible xk2_Impossible xk3_Impossible xk5_Impossible "ValueError.__new__")) (aZ:Mk K Free f12) (a0:Free/"steps"/f15) (ba:Free/"plain"/f13) (bb:Mk K AtLeast f12) (bc:AtLeast/"steps"/f15) (bd:AtLeast/"plain"/f13) (be:Mk K AtMost f12) (bf:AtMost/"steps"/f15) (bg:AtMost/"plain"/f13) (bh:Mk K Just f12) (bi:Just/"steps"/f15) (bj:Just/"plain"/f13) (bk:Mk K Between f12) (bm:Between/"steps"/f15) (bn:Between/"plain"/f13) (bo:W.isFn K (.ref f15)=true) (bp:W.isFn K (.ref f13)=true) (bq:Mk K Scale f16) (br:Mk K Step f18) (bs:W.isFn K (.ref f17)=true) (bt:Mk K Book f28) (bu:W.isFn K (.ref f20)=true) (bv:-Impossible) (bw:W.isFn K (.ref f25)=true) (bx:W.isFn K (.ref f26)=true) (bz:W.isFn K (.ref f27)=true) (bA:W.isFn K (.ref f31)=true) (bB:W.isFn K (.ref f30)=true) (bC:W.isFn K (.ref f43)=true) (bD:W.isFn K (.ref f44)=true) (bE:W.isFn K (.ref f37)=true) (bF:W.isFn K (.ref f38)=true) (bG:W.isFn K (.ref f39)=true) (bH:W.isFn K (.ref f40)=true) (bI:W.isFn K (.ref f41)=true) (bJ:W.isFn K (.ref f42)=true) (bK:TieC K Free) (bL:TieC K AtLeast) (bM:TieC K AtMost) (bN:TieC K Just) (bO:TieC K Between) (bP:JjW K Scale) (bQ:StepC K Step) (bR:BookC K Book) (bS:W.findIn K (.ref Impossible) "__setattr__"=some (some (.builtin "object.__setattr__"))) (bT:Impossible/"around") (bU:W.hasDictIn K Impossible=true) (bV:W.findIn K (.ref Impossible) "__getattribute__"=some (some (.builtin "BaseException.__getattribute__"))) (bW:Impossible/"__getattr__") (bX:W.mroIn K Impossible (.type "BaseException")=some true) (bY:W.specialIn K (.ref SlackError) "__getattribute__"=some (some (.builtin "type.__getattribute__"))) (bZ:W.readsIn K SlackError (.type "type")=true) (b0:W.findCls K (.ref SlackError) (.type "type") "__init__"=some (.val (.builtin "ValueError.__init__"))) (ca:W.typeIn K (.ref Impossible)=some (.type "type")) (cb:W.mroIn K Impossible (.ref Impossible)=some true) (cc:W.hasDictIn K NoFace=true) (cd:W.mroIn K NoFace (.type "BaseException")=some true) (ce:W.findIn K (.ref Impossible) "__class__"=some (some (.builtin "object.__class__"))) (cf:W.specialIn K (.builtin "object.__class__") "__get__"=some (some (.builtin "getset_descriptor.__get__"))) (cg:W.takesIn K (.builtin "object.__class__")=some true) (ch:W.mroIn K Impossible (.type "object")=some true) (ci:W.findIn K (.ref NoFace) "__getattribute__"=some (some (.builtin "BaseException.__getattribute__"))) (cj:NoFace/"__getattr__") (ck:W.findIn K (.ref NoFace) "__class__"=some (some (.builtin "object.__class__"))) (cl:W.mroIn K NoFace (.type "object")=some true) (cm:W.mroIn K NoFace (.ref Impossible)=some false) (y1:W.hasDictIn K SlackError=true) (y2:W.typeIn K (.ref SlackError)=some (.type "type")) (y3:W.mroIn K SlackError (.type "BaseException")=some true) (y4:W.mroIn K NoFace (.ref SlackError)=some true) (cn:W.kitOne K (.ref Impossible) (.ref NoFace)=some false) (co:W.kitOne K (.ref Impossible) (.ref SlackError)=some true) (cp:W.kitOne K (.ref Impossible) (.ref NoNumber)=some false) (cq:W.kitOne K (.ref Impossible) (.ref NoTie)=some false) (cr:W.kitOne K (.ref Impossible) (.ref Twice)=some false) (cs:W.kitOne K (.ref Impossible) (.ref NoName)=some false) (ct:W.kitOne K (.ref Impossible) (.ref NoPart)=some false) (cu:W.kitOne K (.ref Impossible) (.ref NoGap)=some false) (cv:W.kitOne K (.ref Impossible) (.ref InRing)=some false) (cw:W.kitOne K (.ref Impossible) (.ref Apart)=some false) (cx:W.kitOne K (.ref Impossible) (.ref Tight)=some false) (cy:W.kitOne K (.ref Impossible) (.ref Off)=some false) (cz:W.kitOne K (.ref Impossible) (.ref NoRow)=some false) (cA:W.kitOne K (.ref Impossible) (.type "ValueError")=some true) (cD:W.kitOne K (.ref NoFace) (.ref Impossible)=some false) (cE:W.kitOne K (.ref NoFace) (.ref NoFace)=some true) (cF:W.kitOne K (.ref NoFace) (.ref NoNumber)=some false) (cG:W.kitOne K (.ref NoFace) (.ref NoTie)=some false) (cH:W.kitOne K (.ref NoFace) (.ref Twice)=some false) (cI:W.kitOne K (.ref NoFace) (.ref NoName)=some false) (cJ:W.kitOne K (.ref NoFace) (.ref NoPart)=some false) (cL:W.kitOne K (.ref NoFace) (.ref NoGap)=some false) (cN:W.kitOne K (.ref NoFace) (.ref InRing)=some false) (cO:W.kitOne K (.ref NoFace) (.ref Apart)=some false) (cP:W.kitOne K (.ref NoFace) (.ref Tight)=some false) (cQ:W.kitOne K (.ref NoFace) (.ref Off)=some false) (cR:W.kitOne K (.ref NoFace) (.ref NoRow)=some false) (cS:W.kitOne K (.ref NoFace) (.type "ValueError")=some true)
  : ∃ fd:FuncData,(∀ (s:Shared) (v:Value),BindsTo s fd ⟨[v],[]⟩ [("_law_script",v)])/\∀ base:Heap,K.In base->base.Ns mainGlobals mg->FnOk l.prog w K mg base (CX1 l.prog w) 12 fa fd ["_law_script"] (BbY K):=by
 have e:=hfa.symm.trans (W.mg_of X G a51);cases e;have o:∀ {x:Str} {v:Value},W.nsIn K mainGlobals x=some (some v)->mg x=some v:=fun h=>W.mg_of X G h;have n:∀ {x:Str},W.nsIn K mainGlobals x=some none->mg x=none:=fun h=>W.mg_none_of X G h;have T:Txt K mg ∅:=⟨n az,n aA,n aB,n aC,n aD,n aE,n aF,n aG,n aH,n aI,n aJ,n aK,n aL,n aM,n aN,n aO,n aP,o aa,o ab,o ac,o ad,o ae,o af,o ag,o ah,o ai,o aj,o ak,o al,o am,o an,o ao,o ap,o aq,o ar,o au,o av,o aw,o ax,o ay,o aQ,⟨_,rfl⟩,o aR,⟨_,rfl⟩,o aS,rfl,fun H=>.inr ⟨_,_,_,aT,rfl,rfl,by show 2<=sizeLine;decide, .cons ⟨_,rfl⟩ (.cons ⟨_,rfl⟩ (.nil))⟩,aU,aV,aW,aX,(fun C hC=>by rcases hC with rfl | rfl | rfl | rfl | rfl<;>assumption),(fun C hC=>by cases hC;exact bP),(fun C hC=>by cases hC;exact bQ),(fun C hC=>by cases hC;exact bR),⟨bS,bT⟩,⟨bU,bV,bW,bT,bX⟩,⟨bY,bZ,b0⟩,⟨bU,ca,bX,cb⟩,⟨bU,bV,bW,ce,cf,cg,ch,bX⟩,⟨cc,ci,cj,ck,cf,cg,cl,cd⟩,⟨bU,ca,bX,cm⟩,⟨y1,y2,y3,y4⟩,cn,co,cp,cq,cr,cs,ct,cu,cv,cw,cx,cy,cz,cA,cD,cE,cF,cG,cH,cI,cJ,cL,cN,cO,cP,cQ,cR,cS⟩;obtain ⟨_,F1,k1,a1⟩:=l1;obtain ⟨_,F2,k2,a2⟩:=l2;obtain ⟨_,F3,k3,a3⟩:=l3;obtain ⟨_,F4,k4,a4⟩:=l4;obtain ⟨_,F5,k5,a5⟩:=l5;obtain ⟨_,F6,k6,a6⟩:=l6;obtain ⟨_,F7,k7,a7⟩:=l7;obtain ⟨_,F8,k8,a8⟩:=l8;obtain ⟨_,F9,k9,a9⟩:=l9;obtain ⟨_,F10,k10,a10⟩:=l10;obtain ⟨_,F11,k11,a11⟩:=l11;obtain ⟨_,F12,k12⟩:=l12;obtain ⟨_,F13,k13⟩:=l13;obtain ⟨_,F14,k14,a14⟩:=l14;obtain ⟨_,F15,k15⟩:=l15;obtain ⟨_,F16,k16⟩:=l16;obtain ⟨_,F17,k17⟩:=l17;obtain ⟨_,F18,k18⟩:=l18;obtain ⟨_,F19,k19,a19⟩:=l19;obtain ⟨_,F20,k20⟩:=l20;have b20:=F20.bindsD (ps:=["self","words","around"]) t20 rfl [] fun _ _ _ _ _ _=>lenD3 (fun _ _ _=>⟨_,rfl,rfl⟩) rfl;obtain ⟨_,F21,k21,a21⟩:=l21;obtain ⟨_,F22,k22,a22⟩:=l22;obtain ⟨_,F23,k23,a23⟩:=l23;obtain ⟨_,F24,k24,a24⟩:=l24;obtain ⟨_,F25,k25⟩:=l25;obtain ⟨_,F26,k26⟩:=l26;obtain ⟨_,F27,k27⟩:=l27;obtain ⟨_,F28,k28⟩:=l28;obtain ⟨_,F29,k29,a29⟩:=l29;obtain ⟨_,F30,k30⟩:=l30;obtain ⟨_,F31,k31⟩:=l31;obtain ⟨_,F32,k32,a32⟩:=l32;obtain ⟨_,F33,k33,a33⟩:=l33;obtain ⟨_,F34,k34,a34⟩:=l34;obtain ⟨_,F35,k35,a35⟩:=l35;obtain ⟨_,F36,k36,a36⟩:=l36;obtain ⟨_,F37,k37⟩:=l37;obtain ⟨_,F38,k38⟩:=l38;obtain ⟨_,F39,k39⟩:=l39;obtain ⟨_,F40,k40⟩:=l40;obtain ⟨_,F41,k41⟩:=l41;have b41:=F41.bindsD (ps:=["self","one","other","most"]) t41 rfl [] fun _ _ _ _ _ _=>lenD4 (fun _ _ _ _=>⟨_,rfl,rfl⟩) rfl;obtain ⟨_,F42,k42⟩:=l42;obtain ⟨_,F43,k43⟩:=l43;obtain ⟨_,F44,k44⟩:=l44;obtain ⟨_,F45,k45,a45⟩:=l45;obtain ⟨_,F46,k46,a46⟩:=l46;obtain ⟨_,F47,k47,a47⟩:=l47;obtain ⟨_,F48,k48,a48⟩:=l48;obtain ⟨_,F49,k49,a49⟩:=l49;obtain ⟨_,F50,k50,a50⟩:=l50;have F51:=Jap l51 c51 k51;refine ⟨W.fnOf "law" "law" (Jam BbP) (Jal BbP) (Jad BbP) .none kV51 dc51 pm51 an51 cd51 ct51,fun s v=>.of_eq rfl,fun base _ _=>?_⟩;have cC:∀ {ps:List Str} {sp:Sp} {fd:FuncData} {k:Nat} {x:Str} {f:Addr},FnOk l.prog w K mg base (CX1 l.prog w) k f fd ps sp->W.nsIn K mainGlobals x=some (some (.ref f))->W.keepIn K (.ref f)=true->Binds K fd ps []->Cal l.prog w K mg base k x ps [] sp:=fun h a c b=>⟨_,_,[],h,o a,c,b, .nil⟩;have cK:∀ {ps:List Str} {sp:Sp} {fd:FuncData} {k:Nat} {x:Str} {f C:Addr},FnOk l.prog w K mg base (CX1 l.prog w) k f fd ps sp->W.nsIn K mainGlobals x=some (some (.ref C))->Mk K C f->Binds K fd ps []->KCal l.prog w K mg base k x C ps sp:=fun h a c b=>⟨_,_,h,o a,c,b⟩;have cM:∀ {ps:List Str} {sp:Sp} {fd:FuncData} {k:Nat} {m:Str} {Cs:Addr->Prop} {f:Addr},FnOk l.prog w K mg base (CX1 l.prog w) k f fd ps sp->(∀ C,Cs C->Cls K C/\Meth K C m f)->W.keepIn K (.ref f)=true->Binds K fd ps []->MCal l.prog w K mg base k m Cs ps sp:=fun h a c b=>⟨_,_,h,a,c,b⟩;have cB:∀ {ps:List Str} {sp:Sp} {fd:FuncData} {k:Nat} {m:Str} {f:Addr},FnOk l.prog w K mg base (CX1 l.prog w) k f fd ps sp->W.findIn K (.ref Book) m=some (some (.ref f))->W.isFn K (.ref f)=true->W.keepIn K (.ref f)=true->Binds K fd ps []->MCal l.prog w K mg base k m (JaA ∅) ps sp:=fun h a c d b=>⟨_,_,h,fun C hC=>⟨(T.book C hC).cls,by cases hC;exact ⟨a,c,d⟩⟩,d,b⟩;have cT:=cC (JcZ F1 T) a1 k1 (!F1);have cU:=cC (Jjp F2 T cT) a2 k2 (!F2);have cV:=cC (Jh3 F3 T cU) a3 k3 (!F3);have cW:=cC (Jh4 F4 T) a4 k4 (!F4);have cX:=cC (JgB F5 T) a5 k5 (!F5);have cY:=cC (JfH F6 T) a6 k6 (!F6);have cZ:=cC (JdN F7 T cY cT) a7 k7 (!F7);have c0:=cC (JfG F8 T cZ) a8 k8 (!F8);have c1:=cC (Je6 F9 T cX) a9 k9 (!F9);have c2:=cC (Jer F10 T c0 cW) a10 k10 (!F10);have c3:=cC (Jhl F11 T cX c1 c2) a11 k11 (!F11);have K12:=Jdz (P:=l.prog) (w:=w) (base:=base) F12 T;have c4:=cK (Jdz F12 T) ap aZ (!F12);have c5:=cK K12 aq bb (!F12);have c6:=cK K12 ar be (!F12);have c7:=cK K12 au bh (!F12);have c8:=cK K12 av bk (!F12);have c9:=cM (m:="plain") (Cs:=IsTie ∅) (Je4 F13 T) (fun C hC=>⟨(T.tie C hC).cls,(by rcases hC with rfl | rfl | rfl | rfl | rfl <;> first | exact ⟨ba,bp,k13⟩ | exact ⟨bd,bp,k13⟩ | exact ⟨bg,bp,k13⟩ | exact ⟨bj,bp,k13⟩ | exact ⟨bn,bp,k13⟩)⟩) k13 (!F13);have da:=cC (Jhm F14 T c3 c4 c5 c6 c7 c8) a14 k14 (!F14);have db:=cM (m:="steps") (Cs:=IsTie ∅) (Je5 F15 T cV) (fun C hC=>⟨(T.tie C hC).cls,(by rcases hC with rfl | rfl | rfl | rfl | rfl <;> first | exact ⟨a0,bo,k15⟩ | exact ⟨bc,bo,k15⟩ | exact ⟨bf,bo,k15⟩ | exact ⟨bi,bo,k15⟩ | exact ⟨bm,bo,k15⟩)⟩) k15 (!F15);have dc:=cK (JcY F16 T cT) aw bq (!F16);have dd:=cM (m:="lifted") (Cs:=Jfq ∅) (Jdy F17 T cT) (fun C hC=>⟨(T.BbM C hC).cls,(by cases hC;exact ⟨a17,bs,k17⟩)⟩) k17 (!F17);have de:=cK (Jdb F18 T dd) ax br (!F18);have df:=cC (JfK F19 T db dc de) a19 k19 (!F19);have K20:=Jb9 (P:=l.prog) (w:=w) (base:=base) F20 T;have dg:XCal l.prog w K mg base 1 "Impossible" Impossible SlackError ["self","words","around"] (Ja1 K ∅):=⟨f20,_,K20,W.mg_of X G ag,⟨aU,⟨_,_,_,_,_,_,_,_,_,_,_,_,_,_,aY⟩,a20,bu,bv⟩,b20⟩;have dh:=cC (JdQ F21 T) a21 k21 (!F21);have di:=cC (Jes F22 T dh dg) a22 k22 (!F22);have dj:=cC (JdL F23 T di cU) a23 k23 (!F23);have dk:=cC (JfF F24 T) a24 k24 (!F24);have dl:=cB (Je1 F25 T) a25 bw k25 (!F25);have dm:=cB (Je3 F26 T dl c9) a26 bx k26 (!F26);have dn:=cB (Jep F27 T dl dk) a27 bz k27 (!F27);have dp:=cK (Jda F28 T da) ay bt (!F28);have dq:=cC (Je9 F29 T dj) a29 k29 (!F29);have dr:=cB (Jdx F30 T dl dn df dq) a30 bB k30 (!F30);have ds:=cB (Je2 F31 T dr) a31 bA k31 (!F31);have dt:=cC (JdS F32 T) a32 k32 (!F32);have du:=cC (JdR F33 T) a33 k33 (!F33);have dv:=cC (JdA F34 T du dt) a34 k34 (!F34);have dw:=cC (Jcw F35 T dv cU) a35 k35 (!F35);have dx:=cC (JdM F36 T cV) a36 k36 (!F36);have dy:=cB (Jcz F37 T dn) a37 bE k37 (!F37);have dz:=cB (JcX F38 T dl dn df dq dj) a38 bF k38 (!F38);have dA:=cB (JfD F39 T dy dz dx) a39 bG k39 (!F39);have dB:=cB (Jc8 F40 T dl dn df dq dj dw) a40 bH k40 (!F40);have K41:=Jeq (P:=l.prog) (w:=w) (base:=base) F41 T dy dB cV;have dC:=cB (Jeq F41 T dy dB cV) a41 bI k41 b41;have dD:MCalD l.prog w K mg base 8 "shown" (JaA ∅) ["self","one","other","most"] [.bl true] (Jbl K ∅):=⟨f41,_,[.bool true],K41,fun C hC=>⟨(T.book C hC).cls,(by cases hC;exact ⟨a41,bI,k41⟩)⟩,k41,F41.bindsD (ps:=["self","one","other","most"]) t41 rfl [.bool true] fun _ _ _ _ _ _=>lenD3 (fun _ _ _=>⟨_,rfl,rfl⟩) rfl, .cons rfl .nil⟩;have dE:=cB (Jc9 F42 T dn dz dl dx) a42 bJ k42 (!F42);have dF:=cB (JfE F43 T da) a43 bC k43 (!F43);have dG:=cB (Je0 F44 T) a44 bD k44 (!F44);have dH:=cC (JdO F45 T) a45 k45 (!F45);have dI:=cC (Je7 F46 T dA dC dD dE dr) a46 k46 (!F46);have dJ:=cC (JdP F47 T dI) a47 k47 (!F47);have dK:=cC (JfI F48 T) a48 k48 (!F48);have dL:=cC (Je8 F49 T dH) a49 k49 (!F49);have dM:=cC (JfJ F50 T) a50 k50 (!F50);exact Jki F51 T dH dK dL dp dJ dM dF dG dA ds dr dE dm
theorem walk {l:PySem.W.OpenLaw} {q:Program} {loose:List Str} {XP:(Str->Option Value)->Heap->Prop} {YP:World->Heap->Prop} {d:DefRec} {K:Params->PySem.W.Frag} (hn:l.most=some 63) (hdf:d.params.defaults=[])
  (hY:∀ (w:World) (h:Heap),YP w h->(K w.params).In h)
  (F:∀ (w:World) (mg:Str->Option Value) (fa:Addr) (h:Heap),(K w.params).In h->h.Ns mainGlobals mg->mg d.name=some (.ref fa) ->
   ∃ fd:FuncData,(∀ (s:Shared) (u:Value),BindsTo s fd ⟨[u],[]⟩ [("_law_script",u)])/\∀ base:Heap,(K w.params).In base->base.Ns mainGlobals mg->FnOk l.prog w (K w.params) mg base (CX1 l.prog w) 12 fa fd ["_law_script"] (BbY (K w.params))) :
  PySem.W.WalkO q loose XP YP l.row.toRowW d [] (fun f vs=>PySem.call f vs) :=
 L2.JhO (n:=63) (k:=12) (x:="_law_script") (CX:=fun w=>CX1 l.prog w) (sp:=fun w=>BbY (K w.params)) hn (by decide) hdf ⟨rfl,by decide,by decide⟩ hY F (fun _ _ a ns hl _ hS=>⟨a,ns,rfl,hS,hl,fun _=>rfl⟩) fun _ _ _ _ _ z=>by
  obtain ⟨_,_,_,_,_,_,_,_,_,_,_,_,z⟩:=z;exact z
end Prg
open PySem PySem.W PyProof.Rows
local macro_rules|`(command|universe $xs*)=>do return Lean.mkNullNode (<-xs.mapM fun x=>`(command|noncomputable def $(Lean.mkIdent (.str `PySem.W.Fast s!"tw{x.getId.toString.foldl (fun a c=>a*52+(c.toNat-if c.toNat<97 then 39 else 97)) 0}")):ident:Nat:=0))
universe brqqAlacYGmf brqGqGnksORn bruDUPQXYkff brvMSeKFdCOY brGhyfiQIxyY brHJnXTrGypJ brIwBhOPCUtp brKUMFMbPkHC brOHyeWtuYcE bsrDnvwoeEuW bsKwoefVFiGO KPQwwCdCiO bsOMHQjzYFVY btfSEWAEQftw btkokgEqrnob btmbhouMeLsx btGezfrDuBKT btHGrrCXMJwa btIeDNUwlNyh btJRdreAmUjY btQMChGYuGWV butZCrDupBDw hoEXYmCqgGe bveplxkMGcvY bveCmQeNGzDD bvtohhnsOjcl bvIQpYkjDWzg bvMBuHmrQuom bvScvYgeGXwG bwgFuySFHsDP bwgNxRfwXarb bwHAALAIFIUy bwIcrkaLmBNy hyBLYsgmrCA bwUlIxpQNIWs bwXyVqXqdtQK bxelwOweJrIr bxjUBlrnobcF bxzogVTrxkmR bxGiZdjQnyLd bxSidFGTBpDQ bykHLPPkLfNk bynqSptWxKXI byoKhrZLQEWh byzZgxrAedVk hJRyKbsDFaY bzfHorLspixJ bziDyPrCTimD bzjlvQyGDFAz bzjLoshwRXJJ hLSRNedcKTG bzvvoOXwalVd bzAgiwoVDoyR bzLKttRJNQff bzLWNFqCVgxu bzNiZtvOpFMp bzOSbNVkWDFG bzZQvxJxrvAc bAasFWdtckld hQjkDsCIACu bAhAOWhpfJKP bAlhWBhFdWJr bAloMnZXITwi bAzLBSdkoOKf bAAnaFkNUdtT bAQnaEyXSDNK bAQXJzosjMQW bBioJoqAWNvY bBtZGOCWQIxV bBweODoIYlpK bBxgojyfJHGd bBxxUdGQFjpc bBJtPSiPgAIL bBNtssOvUOMT bBUVyCudTVjI bBYuCjdHiILM bCepPbCVmkll bCeToQyBLVsg bCizEJmObpHV icpwJEJjjsq bCFOulFVWVkw bCGEXZlEyYAJ bCGHuKBhVAoK iezAQJqXvJR ieGVknBGUjD bDarrXFxkuxm bDopYpuEUwVT bDtoqIbuByiy bDuADotmcoRZ bDDztCNCRTxK bDDQsJlKiJkU bEnBEekKvVFm bEtzvTYRlbuC inqcDBwNDJR bEONOVoqBHgW bEWshhVIOjvm iqSIGEEjYix bFznNBznztNJ bFCOAOSiBVCG bFHogkKXWskp bFMNbdHtKXqD bFNXkFOoqQIA bFTzmgnzqmet bGjMesZSnQlw bGkgaYDBNjkg bGmdanGFExnk bGmgJCQSevJL bGrUTpcnZRsu bGHMFckzbJjW bGMKDBnboYTT iyKxPZDmnaj bGWhwzmHUGge bGYbxhCjHubW bHcEomgNexEf iApSAyCXBbo iDEzzwOoXUU bHMaYiZoJmTj bHMiLUitosBG bIaQUrcYLRzv bIbtDOTYsrUH bIiZmqQTZHKr bIAxexVFaUCJ bICvUnhiajFy bIEjFyOYhGQA bITfuxKUjZFQ iKBJhExNNCG bJfChzVqkOpi bJujqUwvMvTA iNGPAdnBBiP bJQTikthGzFV bJUEspOHGSnM bKfONymimIsT bKSlLhgTQBYf iVkxkavYmKP bLeIFmLHxuXk bLrkBWPYmPNX bLVBVdDsWGeh bLVVtvTcJSHy bLZabycJDaHf bMzglSkKOsoq bMKfKZSSNQwW jezylCPcMyg bMVDYzGoLiJe bNfKOTNjwwYU jgaHCqpjWPI bNsfHzrZJBQv bNxdFISygWds bNzJxzuoGqyx bNFMHeotBcBP bNIWIHguMEkR bNPwidobzWWv bOcXRLjdQsiF bOgakkKUJFpS bOghYZfYqodA bOhzIfzZuhVk bOoeXDgiYbMU bOuqqJcwmMcF bOAKlINAijJw bOVTHxUCbGbX bPbQngsLrIFD bPfSagoyKtYA bPjsPVxbauMi bPxQMWYFwOkU bPxRhSmbzahn bPASlfIZHkgV bPEKPAcBbhWj bPPIOjKrhHSE bPUEzVnckAlH bPXyGznWRzct bQjNxoQUQNTM bQpgZGEulBNV bQqFiDlrGfzV bQvcPnCCqJfD bQzstwwIkhrO bQMluPFqhMfq bRdCLDfPlBzp bRlQjqabDgoN bRnjKEPVfOvy bRtiYIALGMoz bRwMOPtWyQua bRFJlAXftoqq bRMQkyfLcZJA bRTJkeMotfDG bSeYidWAbofA bSFQsbDWgCCt bSMCwoOFZBqG bSSoLyvbKTHs bSTRArsJAaYp bSUzlBOJLQMY jLeZtHJDmHM bTlaKXztgUXZ bTvsOmqEuzZF bTzWTdxbYhSs bTEoYCOuACji bTEsEExAyzLf bTEvxhREUiZL bTGLJtAdFkry bUipkPIGibxE bVckZIHSrlaM bVgrbradUvLt jVJPhCmcQdk bVrFINnWuMdw bVxruhJWBeTq bVzfCNdnaKXT bVAzfFyRoNmR bVDAtkfqjntR bVKTJaPqYdNz jZulERJhWoi bVWBCjOHmMOH bWeDieMNJKbJ fkHtNLxbRI bWnUzieUeCmO bWsSVjqAxhUZ bWwYHVjJchur bWxnMCEjWLPb bWIuUYeSAIpU bWLZpyoRRkUV bWXsdNhBaSCQ bXeBmCDxdBfD bXqusQzbPuJa bXuSaWOusWeO khCXeRklrDm bXOMnVwBWzVH bXPksxLqpcPg bXZMuUyZkUuL bYabIUyWtECK bYsQbmGqvyjl kmvlvXQpIoM bYAVohBlgdzZ bbrcMdMHdsr bYEsUSUkHkoA koDxoHWqpXE bYZGALuerSYE kpQEhlwFhQp bZkFPITDfyFM bZpTNzfAyEuL bZxBgdrvOqqw ksFMNgWCzLn bZKHqrOtZGtX bZKMfNcBFQwl kukNfwlZpMJ bZUClCcElzqb bZYBafAVLcMi canKoiIyighU cataGMekCxIF cavijOlUafbX cbrClQMLfxbS cbtbRZPsXImo cbweaXUUmkFm cbJetfxkDDVa cbVrKBZMmFFx cbXRxNFalPFz cciGWmyzHjNW cckwyZhFgJwb ccuveDOhNiRN ccxcvWdPlZfW ccyOyfFFrCRj ccDdentjILxj ccNwycYzYPKU cdwUqxfDZVWB cdIHZkIcImxS beacRqHwIHg cdOczXqzQBWf cdXXnSuwPGMd kQwmWiPrLNK cemFJrAoLxgT ceCcVMaPqJVZ ceJaVsmjnRQh ceTyIYoNlmil ceUXkcOQwqvY ceWhFOqNQljM ceYJtPTdxmBM ceZMmdkTwUhN cfxemgEDVnSx cfALDjzUPqzp cfMzXKTwxCcd cfOJAWVdkNKO cfYDouYChyGx cgjJLiTZXwts cgkvQKseqzJn cglKnecmqMJb cgnActTPQIrV cgtXhpnpnuIu cguzioYkUFyY cgztzxsLxKWo cgDjzPamuGcU cgUMzQqhUBht chaBgWkxEWPJ chjjHkBGvgtA chkaVcROdQGf chtCNJFkRHvv chASXmKTxnYL chNZIgOrFqbG chOpnxhEuDWr chOBcbQjNmad cikgWFOlYZrg ciqFBAerAJqP cizcsBYSxsHn ciXIttKcJUkP cjbBRBHedOpH cjmUHZqJjbxH cjpnaFDJVQgj cjxYgRVofhNw lsLhlMNIfEi cjGrFvbtnWbm cjMMNfzxWuge cjZlAUVYzPjZ ckfJWmvhCShM ckkDxTkgScUP ckslqWKfxNSI ckGdHGzvhRsD lymrknUZlCr ckIOiVjuuzfL ckMjIyZUZayk ckQulFRCAdaz ckQyOVNsTqie clbAzxBHYtrX clfnjngMShkT clrFgMEOJpjy cltGkRbdmzFl clxWgwGfrTYO clGbWEtwAGot clQSthrVnMhD clSKieDcPJDc clXjeAIvzfQq cmcXYHiTnXtd cmhjdMxCRDWc cmimJhoBHrig cmkMIefVJaNM cmpDdncTaGdl cmwlYSKYHUCz cmzFCSSAqcgm cmAuUmaYqWlJ cmGDUDxbYOlH cmRNJlTgHqVl cnjyLzezVEzt cnmpZmUuOYrj cnqyjXhyZHpL lMEBMXEOexF bjhHubJSiCX lNzwuKBYBga cnGFfBJFaJJV cnGFHgdiOaYT cnMvyKIWqLSb cnUQtpoNkwhw cnYkpOyBbjOh cohblrNKGCVm cohdYClnpxmU covQmbdgDuHq coHslSKBPiYu coPCvcePBeoQ coUDhDAozgyw coUEQqJYXejQ coYozWmMIyUj cpkJyMazFfnA cpqWrySMpteD cpJOOhzMkdUk lYGfpPdeghA cpQtOpgLBZfd cqkIDhamycQS cqlccujSNFKI cqqmabYzYvvn cqsRXKGAypfd cqzqhZsaKDrY cqELkUbtquau cqMBcXvIbiuG cqQylrALrtdB crarsKfAkSzu crhADerzpCHA crnKIVgfzHuh croqnFkJDRGv csgldbLQKSlf csqDkfCaDzLn csQeGkvlePwo csWpRuWUCkGS mpGcaLRRCDI ctwfCSMNqxYV ctAFpAEJspCT ctYbvTZSyeGZ cuhnArfnuosc cuoxldfWwIAN cvjjqvyiXzSZ cvlBoIviNUuK cvlSGvItLnuO cvqRJQqthAsM cvGcmmlRtNSi cvPzwMzafRDR cweYgPhGgsmM cwoKXoBEHbBa cwuaOBQtBEWq cwwRalhovlkT cwyLdmhCElgp mILQZRraWMu cxfaFyqRMBiJ cxtDuAaCYZTa cxvPFTRnCQTE cxyHmzqlzbje mOqCktIpsIa mOEzFLunvGT mPUvLQrDjmV mXIiIQroCDB naleNIKtoSV niEZOShkams npByOdJOPPB nwjIfOWYuXM nCQsADTFCSD oqkZLglCcfZ oGvjSVIRUBk oJXmHgcAkPQ oWjbqfBwawI oYfeVdMeDer paDiLtmUCKH phEimjqrSWb pjEsFVogApU pliWwreVFJw ppHbEgWzuaz pvvJQYiyOPk pxXDFRxbCjo pGBFYxroNzq bDHdUcyUQvG pUugIyyKGTr bFxeuTVGQbS qnMfGlvsQgi qoVjIzebGFB qFvXXwWVBvA qLJIwpbrKtr qTYaJiTDuIP qXtrAnPqnUg rihdVeSWvYG rAuAYMOxJXE jfDbVNyfLR rBisxEWRFwY rDCdglEnfYB rDEDbiWDRyo rWMWzoYnMLI spFfTzpGRmW bRrRJhWfeci bRtxZpzqgon svoIRvBOafM sMCmAHDnhUT sQzASCAborh sTZbjAoOtiG sVDLgvNzFYl sVMSXCWHgHS tdYZYOPFWIB tkiWTNCIQde tnfKgbUMYhq ttTDrnKXops tzbzyfVMGGl tzKSHMtpgVI tDFNsJOoKsL tGCtSdzUIfR tOsZqgirxOD tTMLtxBkeZR upqxbsAfDUS usvHGRULLRe uQscPmpPusJ uYWCriLxKwW vmHfiDeThST vnckEcEuAvR vDZCDGJzKnt vLQqvNiMqDV vNswtqZWFGf vRzazFDIEMr wrXWhaPDkZT wuRhNPXBLKm wBfdaQNRkMv xcgiELXLIeY xDGrGdawhPE xMZDJzmiwYk xOPYdCuHZca xXDDXRFCACC xXNfxpfbweE ygFymaBHgiL yHdWMqPYrEp yMcAycVjoZZ yMhFtVzrldj zkAbwbqqGEB zmQxdRrbxxC zqkiuApNOlz zquxTtBQYsj zuaQiYwTXsq zSsJtSnazWY cGRfrzIbIzL AOtWtUUMkIF ATBGePHXGQn AWTsxVdpPpE BewwuYERoJm BhPLjdiBodp BmopjyLPoaz CbZvjhfRTlW CfVevrNeLlL CAypPJSCUDs cSTHppSOOXd CJUxYUsmgOe cUaOTYWQVlk DbneMFAzgYS DjsElGERQfe cWBQspnbwQl DulQOdvzFtp DxEehDPiFBL DHzTwqEaJgn EdATStJlIwr EoBmRlNNPHY EuQaIvqPvPX EOJoJaicmBj ESuEBqQkZsr FbKcvIXwGPR FlvAxqDKZwh FnucRlfMHTJ dkiiZHFwCCN dklaNGTmnrt GbPkEKmyUcY GfsjtHfRLzM GssmQAWdLiM GzkODdkFMxE GFwobPpwVnA GMiIMXxXwCc GMjbgCzXkPL GNzWiqywwci GTSuMhdUKQS HhcPAQymHJU HhynXEbQfuN HllMmZXndHV HqwtgfiveAu HzPjUDYDvLD HAYVLjsFApb HIgoJrVHkwu HKBXOiDwQdf HPKNGVOixyb HRfInNxYvIC IfaytSXkaKG IjPRbRSvwbJ IsfNUDAszAJ IukGTGtSwzv ISySsBcHpQd ISEpDELpJmE IUiGNbafDpm JdsAcMWJTen JdGGqFvxzOJ JovMEMZHSwn dCoVxNtKeGn JxJnXaeiTml JKsVDOCuIqN KdeKFytTGtI KiLmKVGNvPw KxyOCEsmbXa LdCEADjwFqU LhpuHXTQnfO LiFedneYyzp LvpKSqSbBEx LAlGxiCmGmX LBPwBUTHIWn LInMLytlobH LLuBhXXJXBh LOHuZnykrnr LQBrjBkZUVD McIdsZUATrd MgPtqnbTaoH tYfTxhaUXC MAIetdiJFYL dSZTssmwTHc MKjBAZYZfoD MWWamCUkQmL MXrqzflRRut NcYTDCSjzkT NookTUElOiD NqrDaLPKAQk dXYRPMsGPcW dZaNWvRmmUx ObNTNiZBoqL OclhAKXyzMA OqpCpTqWTUk OsdIWfuLLAA OucVfQjhuRM OwAOdfLlcKc OxNrKvTAffL OCedxFFyOBp OETwyFXgSDp eeDcXkSwIhS OWesnyBJPay PioNhIYeNab PmmABgMbgcQ egGkucmyfGV PrcDXrsfPWZ ejPuqiSUsQz QaDYepWCuQE QaSyyBlvHYX QrNnuLGDyrn QwvKpnKwtrq QwDpuqqvARI QAJBSBfYzVA QQuHZDysCLx RaRHdZTQcxn RcRADRJVgcp wxmssLaGph RjsVStmiHjt RywXCoxcBby RJlDoyWuDbU RUHPPWrjcMt SiHxiluNLwE ewfILYelfJJ SuJPFOHSwii SySpaCFRNNS SCfvbfgTCNt SIHiAOMGzgq SLEXYiaWHGQ SMVoqydcOWV SYQBDhUMYJX TefcPacvfyB TgVucqCzavG TiAGtsevEvt TqOTZRMelPY TwrAShpFBGj TwEUdLirxip eCYKCbWGRxY TQNqRUfKHUK TRCZImPzHuY eGhCVWDaRhh UqJpncxrVql UsIZqwdUNJe UvUoAxIZxSb UBFUeoSwJSu UCexQRHIoOs VajYHEJdIZy VeBbQUCHbvB VflFnAsDxyC VjGdlJfuBjw eMiuXqEIDFQ VMlyRYLZElB VSHdBeOXsVX WaTcyjeQltE WhzsylBjQET eQPiInWfhgO WrItVFLPNGM WrYqQmUZlMN WELNDOQlQzD WKDHJnoFbBE WPbBkrZaewP eTYmGPOkRjp WSrUQTUhjfx eVMCqxLTwCJ XxanJngrZUX XDWpGXtmugX XFNvUlNgtkH XMdaymxIbrm YbfQpSKcHay YmrPeqMBGYC YwIUrJYtTGc YHrxcFhJXdq ZgTvCIzLfAe ZjdmxoEPftp AIbWjBYDwu fgLiFdlNnvd ZsiMHTmpomU ZxgLnuuLZHk ZGNwzEqEWaA fjdaBIHPhHh ZRDkiwvpfyZ badyXgNFjLmn bahaiVFQJIsm banMgJRGgHdd bawkgnUMwHsf baBJNswVIuHM baEkXhfitQnk baUnPUFdKrHc bbCsXvzbsOuY bbIKKiAsfdWT bbMBpOewuBpE bcbkDaeNWNyA fxGQwVqcMZN bcHSxSOXgJwx fyMIJQvrWfa bdcOdAufmGWU bdleWeutLuRu fCaojmCHubB bdwbQFbyhLCq bdBTOKAyYbDU bdCqrioKbAkp bdPbQShWtSGE bdXWIQReejhf beetTLaXZOFc betZogWHpGeG bevORWIhGftt beHPhFAbkIyL bePukrcFOhIh bfbFddaxptpW bffmoMTsAOot bfmNslVDnitW fOcpyOOSiSi bfUOXAxaEPsE bfXakKfqXRII bgDkLtxTlikt bgYcjIehQYUT bgYoRpterpgb bhaKARUzVonc bhfJNxSQDjpM fVAuOCadiEQ bhrCHPhEtosh bhxJvNYQoJwJ bhKtLedjVXqY bhMWebXiKtRp bhMYlmkVNGPG biajTUCnEKdI bimPmgMnhXaP biofLSdApauy biqaNcLUEigl biEzfDNUABUK biLsHWUusXsU biLQOdlOImfn geblqXpICQw biPpYIKSIDdL biSPtcvXIpeP biXTArynlfae bjfxHbzIKzsf bjhIdYBgkRbe bjrHtIHFyRhp bkbUEeVXCxXP bkpGfjoVWiZE bkMVypKaJyew bkSKsGeaNzQo bkUnnvftKcjr GMRkQJOUTF blaulkkvHilq gqzJlyMjzEn blIYFlMwJhgg bmeNAMtEOMcj bmkOrgsjwaOF bmyGUVqXpdkb bmHNASuKaKIC bmLDUjUwuzCY bmLNkzMZIkOS bngWFjxPTlmG bnkEsQBLEveZ bnkKtGwrDWBe bnIuCCfizPMz bnQGDnCjxvWd bnRxcqCSPNXt bnWYDkYtWfeH bodtIDjzafRb boebqoxKPRMK bohxjfIigVRl bopWyESofEpm botBEKiIsRhA bovXRlAsBuVr boCPNbzaYkKp boFflxKLBkmf boJlYZYzWIFJ boLWMSxIiJdK boRPweaAmtJz boUVmkUirxwb boYCWjJyfixM bpbfxjqAKQUj bpoytcnCLFuQ bppffXnsIiUQ bpwCafrtPytN bpxwJUymbwZw bpSGKOPSHyDd bpTBEZphpXJF bqnleTMyAdFf bqNIjHmkmDAC brazTXvuLOpt brhpDoolflvd brjimlmNuWak
set_option maxRecDepth 100000 in
set_option maxHeartbeats 0 in
theorem PySem.Challenge.cw_slackchain_k35_books_refuse_holds : PySem.Challenge.rw_slackchain_k35_books_refuse.Holds := by
 w_on;o_law;k_head;(case hw=>w_witness2)
 k_fill
 refine Prg.walk (l:=PySem.Challenge.rw_slackchain_k35_books_refuse) rfl rfl (fun w h Y=>PySem.W.kIn_of Y) ?F;case F=>
  intro w mg fa h KX G hmg;refine' Prg.all_mk KX G hmg ?_ ?_ ?_ ?_ ?_ ?_ ?_ ?_ ?_ ?_ ?_ ?_ ?_ ?_ ?_ ?_ ?_ ?_ ?_ ?_ ?_ ?_ ?_ (Prg.fnA ?_ ?_ ?_ ?_) (Prg.fnA ?_ ?_ ?_ ?_) (Prg.fnA ?_ ?_ ?_ ?_) (Prg.fnA ?_ ?_ ?_ ?_) (Prg.fnA ?_ ?_ ?_ ?_) (Prg.fnA ?_ ?_ ?_ ?_) (Prg.fnA ?_ ?_ ?_ ?_) (Prg.fnA ?_ ?_ ?_ ?_) (Prg.fnA ?_ ?_ ?_ ?_) (Prg.fnA ?_ ?_ ?_ ?_) (Prg.fnA ?_ ?_ ?_ ?_) ?_ (Prg.fnG ?_ ?_ ?_) ?_ (Prg.fnG ?_ ?_ ?_) (Prg.fnA ?_ ?_ ?_ ?_) ?_ (Prg.fnG ?_ ?_ ?_) ?_ (Prg.fnG ?_ ?_ ?_) ?_ (Prg.fnG ?_ ?_ ?_) ?_ (Prg.fnG ?_ ?_ ?_) (Prg.fnA ?_ ?_ ?_ ?_) ?_ (Prg.fnG ?_ ?_ ?_) ?_ (Prg.fnA ?_ ?_ ?_ ?_) (Prg.fnA ?_ ?_ ?_ ?_) (Prg.fnA ?_ ?_ ?_ ?_) (Prg.fnA ?_ ?_ ?_ ?_) ?_ (Prg.fnG ?_ ?_ ?_) ?_ (Prg.fnG ?_ ?_ ?_) ?_ (Prg.fnG ?_ ?_ ?_) ?_ (Prg.fnG ?_ ?_ ?_) (Prg.fnA ?_ ?_ ?_ ?_) ?_ (Prg.fnG ?_ ?_ ?_) ?_ (Prg.fnG ?_ ?_ ?_) (Prg.fnA ?_ ?_ ?_ ?_) (Prg.fnA ?_ ?_ ?_ ?_) (Prg.fnA ?_ ?_ ?_ ?_) (Prg.fnA ?_ ?_ ?_ ?_) (Prg.fnA ?_ ?_ ?_ ?_) ?_ (Prg.fnG ?_ ?_ ?_) ?_ (Prg.fnG ?_ ?_ ?_) ?_ (Prg.fnG ?_ ?_ ?_) ?_ (Prg.fnG ?_ ?_ ?_) ?_ (Prg.fnG ?_ ?_ ?_) ?_ ?_ (Prg.fnG ?_ ?_ ?_) ?_ (Prg.fnG ?_ ?_ ?_) ?_ (Prg.fnG ?_ ?_ ?_) (Prg.fnA ?_ ?_ ?_ ?_) (Prg.fnA ?_ ?_ ?_ ?_) (Prg.fnA ?_ ?_ ?_ ?_) (Prg.fnA ?_ ?_ ?_ ?_) (Prg.fnA ?_ ?_ ?_ ?_) (Prg.fnA ?_ ?_ ?_ ?_) ?_ ?_ ?_ ?_ ?_ ?_ ?_ ?_ ?_ ?_ ?_ ?_ ?_ ?_ ?_ ?_ ?_ ?_ ?_ ?_ ?_ ?_ ?_ ?_ ?_ ?_ ?_ ?_ ?_ ?_ ⟨?_,?_,?_,?_⟩ ?_ ?_ ⟨?_,?_,?_,?_⟩ ?_ ?_ ⟨?_,?_,?_,?_⟩ ?_ ?_ ⟨?_,?_,?_,?_⟩ ?_ ?_ ⟨?_,?_,?_,?_⟩ ?_ ?_ ?_ ?_ ⟨?_,?_,?_,?_⟩ ⟨?_,?_,?_,?_⟩ ?_ ⟨?_,?_,?_,?_⟩ ?_ ?_ ?_ ?_ ?_ ?_ ?_ ?_ ?_ ?_ ?_ ?_ ?_ ?_ ?_ ⟨⟨?_,?_,?_,?_⟩,?_,?_,?_,?_,?_⟩ ⟨⟨?_,?_,?_,?_⟩,?_,?_,?_,?_,?_⟩ ⟨⟨?_,?_,?_,?_⟩,?_,?_,?_,?_,?_⟩ ⟨⟨?_,?_,?_,?_⟩,?_,?_,?_,?_,?_⟩ ⟨⟨?_,?_,?_,?_⟩,?_,?_,?_,?_,?_⟩ ⟨⟨?_,?_,?_,?_⟩,?_,?_⟩ ⟨⟨?_,?_,?_,?_⟩,?_,?_,?_,?_,?_⟩ ⟨⟨?_,?_,?_,?_⟩,?_⟩ ?_ ?_ ?_ ?_ ?_ ?_ ?_ ?_ ?_ ?_ ?_ ?_ ?_ ?_ ?_ ?_ ?_ ?_ ?_ ?_ ?_ ?_ ?_ ?_ ?_ ?_ ?_ ?_ ?_ ?_ ?_ ?_ ?_ ?_ ?_ ?_ ?_ ?_ ?_ ?_ ?_ ?_ ?_ ?_ ?_ ?_ ?_ ?_ ?_ ?_ ?_ ?_ ?_ ?_;all_goals try first|k_is|k_exc|(show _=_;k_is)|kit_is
