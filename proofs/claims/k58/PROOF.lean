import PyProof.Rows.All
import Wide.All
import OpenK.AllK
import Wide.FinOn
import Lean
import PyProof.EqAt
import PyProof.EqKinds
import PyProof.TupleCall
import PyProof.ZipIter
import PyProof.Rows.SetFrom
import PyProof.Rows.SortStr
import KE.KDictList
import PyProof.AttrMissHeap
import KE.KDictOf
import KE.KDictLaws
import KE.KRevIter
import PyProof.CollectIter
import PyProof.FactsAll.range_2
import PyProof.FactsAll.range_iterator_1
import PyProof.WalksEnum
import PyProof.EnumMake
import PyProof.Rows.Range3
import PySem.Challenge.RW_slackchain_k58_shares_as_ties
set_option Elab.async false
set_option linter.all false
set_option maxRecDepth 100000
open List (mem_filter mem_cons_self mem_cons_of_mem mem_cons mem_append mem_append_right length_cons map_cons length_map append_nil nodup_cons length_take length_append size_toArray any_cons length_singleton map_nil cons_append length_nil not_mem_nil mem_singleton mem_map take_zero take_succ take_of_length_le map_append mem_flatMap nodup_append nil_append filter_append map_map)
local macro_rules|`(tactic|ac_nf)=>`(tactic|first|lia|omega)
local macro_rules|`(⋯)=>`(by decide)
local macro_rules|`(∅)=>`(by ac_nf)
local macro_rules|`(tactic|subst_eqs)=>`(tactic|(intro _ _ _ _ h;(repeat obtain ⟨_,h⟩:=h);subst_vars;rfl))
namespace L2
open PySem PySem.Spec PyProof.Rows
abbrev Key:=Sum Bool Str
def isBoolOf:Bool->Value->Bool
 | b, .bool c=>b == c
 | _,_=>false
theorem Jey {b:Bool} {v:Value} (h:isBoolOf b v=true):v=.bool b:=by
 cases v <;> simp_all [isBoolOf]
def keyIs:Key->Value->Bool
 | .inl k,v=>isBoolOf k v
 | .inr x,v=>Value.isStrOf x v
def keyH (w:World):Key->Int
 | .inl k=>hashInt (if k then 1 else 0)
 | .inr x=>hashStr w x
theorem JaN:∀ {k:Key} {v:Value},keyIs k v=true->(∃ i,k=Sum.inl i/\v=Value.bool i)\/(∃ x t,k=Sum.inr x/\v=Value.str x t)
 | .inl i,v,h=>.inl ⟨i,rfl,Jey h⟩
 | .inr x,v,h=>by
  obtain ⟨t,e⟩:=Value.isStrOf_shape (x:=x) (v:=v) h;exact .inr ⟨x,t,rfl,e⟩
theorem Jhi (i:Bool):keyIs (.inl i) (.bool i)=true:=by simp [keyIs,isBoolOf]
theorem JhZ (x:Str) (t:Tok):keyIs (.inr x) (.str x t)=true:=by simp [keyIs,Value.isStrOf]
theorem Jlb (a b:Bool):decide ((Sum.inl a:Key)=Sum.inl b)=(a == b):=by cases a <;> cases b <;> rfl
theorem Jle (a b:Str):decide ((Sum.inr a:Key)=Sum.inr b)=decide (a=b):=by
 by_cases e:a=b
 ·subst e;simp
 ·have h:¬ (Sum.inr a:Key)=Sum.inr b:=fun q=>e (Sum.inr.inj q);rw [decide_eq_false h,decide_eq_false e]
theorem Jlc (a:Bool) (b:Str):decide ((Sum.inl a:Key)=Sum.inr b)=false:=decide_eq_false (fun q=>nomatch q)
theorem Jld (a:Str) (b:Bool):decide ((Sum.inr a:Key)=Sum.inl b)=false:=decide_eq_false (fun q=>nomatch q)
theorem JgA {prog:Program} {w:World} {A:Around} {E:Value->Shared->Prop} {s:Shared} {b:Bool} {Q:Int->Shared->Prop} (h:Q (hashInt (if b then 1 else 0)) { s with toks:=s.toks+1 }) :
  wpAny (model prog w) A (pyHash (.bool b)) Q E s:=by
 have c:=rawHash_range (if b then 1 else 0);have a:s.TypeIs (.bool b) "bool":=rfl;unfold pyHash;have d:[Value.bool b].any Value.onHeap=false:=rfl;refine wpAny_bind ?_;rw [cRoomFor,if_neg (by rw [d];exact Bool.false_ne_true)];refine wpAny_pure ?_;refine wpAny_bind (wpAny_specialOf a F.slot_bool_hash.lookup ?_);show wpAny _ _ (if (some (Value.builtin "int.__hash__") == some Value.none)=true then _ else _) Q E s;rw [if_neg (by rw [beq_builtin_none];exact Bool.false_ne_true)];refine wpAny_bind (wpAny_specialOf a F.slot_bool_hash.lookup ?_);show wpAny _ _ (callSpecialIfBoundUnlessNone? (.bool b) "__hash__" _ >>= _) Q E s;refine wpAny_bind (wpAny_callSpecialIfBoundUnlessNone?_slot a F.slot_bool_hash
  (wpAny_call_entry F.slot_bool_hash a entry_int_hash
   (show wpAny _ _ (do ret (<- mkInt (rawHash (if b then 1 else 0)))) _ _ s from wpAny_ret_mkInt ?_) (args_int_hash _)))
 show wpAny _ _ (if (decide (-(2:Int) ^ 63<=rawHash (if b then 1 else 0))&&decide (rawHash (if b then 1 else 0)<2 ^ 63))=true then _ else _) Q E _;rw [if_pos (by rw [decide_eq_true c.1,decide_eq_true c.2];rfl)];exact wpAny_pure h
def Jau (prog:Program) (w:World):PySem.KeyKind prog w Key where
 is:=keyIs
 hash:=keyH w
 inj:=fun v a b ha hb=>by
  rcases JaN ha with ⟨i,rfl,rfl⟩ | ⟨x,t,rfl,rfl⟩
  ·rcases JaN hb with ⟨j,rfl,e⟩ | ⟨y,u,rfl,e⟩
   ·injection e with e1;rw [e1]
   ·exact nomatch e
  ·rcases JaN hb with ⟨j,rfl,e⟩ | ⟨y,u,rfl,e⟩
   ·exact nomatch e
   ·injection e with e1 _;rw [e1]
 byValue:=fun k v h=>by
  rcases JaN h with ⟨i,rfl,rfl⟩ | ⟨x,t,rfl,rfl⟩ <;> rfl
 pyHash:=fun hv h=>by
  rcases JaN hv with ⟨i,rfl,rfl⟩ | ⟨x,t,rfl,rfl⟩
  ·exact JgA h
  ·exact wpAny_pyHash_str h
 eqBool:=fun hu hv h=>by
  rcases JaN hu with ⟨i,rfl,rfl⟩ | ⟨x,t,rfl,rfl⟩
  ·rcases JaN hv with ⟨j,rfl,rfl⟩ | ⟨y,u,rfl,rfl⟩
   ·rw [Jlb] at h;exact SeqAt.EqAt.bool_bool i j _ _ _ _ h
   ·rw [Jlc] at h;exact SeqAt.EqAt.bool_str i y u _ _ _ _ h
  ·rcases JaN hv with ⟨j,rfl,rfl⟩ | ⟨y,u,rfl,rfl⟩
   ·rw [Jld] at h;exact SeqAt.EqAt.str_bool x t j _ _ _ _ h
   ·rw [Jle] at h;exact wpAny_eqBool_str h
 «strs»:=fun k x t v h=>by
  rcases JaN h with ⟨i,rfl,e⟩ | ⟨y,u,rfl,e⟩
  ·exact nomatch e
  ·injection e with e1 _
   subst e1;cases v <;> rfl
theorem JfK (prog:Program) (w:World) (i:Bool):(Jau prog w).is (.inl i) (.bool i)=true:=Jhi i
theorem Jgm (prog:Program) (w:World) (x:Str) (t:Tok):(Jau prog w).is (.inr x) (.str x t)=true:=JhZ x t
inductive V where
 | non | bl (b:Bool) | int (i:Int) | str (x:Str) | byt (b:Array UInt8) | flt (b:UInt64) | ref (a:Addr) | ty (n:String)
 deriving DecidableEq
def RelV:V->Value->Prop
 | .non,u=>u=Value.none
 | .bl b,u=>u=Value.bool b
 | .int i,u=>∃ t,u=Value.int i t
 | .str x,u=>∃ t,u=Value.str x t
 | .byt b,u=>∃ t,u=Value.bytes b t
 | .flt b,u=>∃ t,u=Value.float b t
 | .ref a,u=>u=Value.ref a
 | .ty n,u=>u=Value.type n
abbrev Vals:List V->List Value->Prop:=Paired RelV
theorem Vals.length {xs:List V} {us:List Value} (r:Vals xs us):xs.length=us.length:=Paired.length r
theorem Vals.get:∀ {xs:List V} {us:List Value} {i:Nat} {x:V},Vals xs us->xs[i]?=some x->∃ u,us[i]?=some u/\RelV x u
 | _,_,_,_, .nil,e=>by simp at e
 | _,_,0,_, .cons r _,e=>by simp at e;subst e;exact ⟨_,rfl,r⟩
 | _,_,i+1,x, .cons _ t,e=>by
  obtain ⟨u,h1,h2⟩:=Vals.get (i:=i) (x:=x) t (by simpa using e);exact ⟨u,by simpa using h1,h2⟩
theorem Vals.append:∀ {xs ys:List V} {us ws:List Value},Vals xs us->Vals ys ws->Vals (xs++ys) (us++ws)
 | _,_,_,_, .nil,s=>s
 | _,_,_,_, .cons r t,s=>.cons r (Vals.append t s)
def RelO:Option V->Option Value->Prop
 | some v,some u=>RelV v u
 | none,none=>True
 | _,_=>False
def KV {κ : Type}:List (κ × V)->List (κ × Value)->Prop:=Paired fun (p : κ × V) (q : κ × Value)=>p.1=q.1/\RelV p.2 q.2
def kV:Key->V
 | .inl i=>.bl i
 | .inr x=>.str x
inductive HO where
 | lst (xs:List V)
 | tup (xs:List V)
 | dK (kvs:List (Key × V)) | dT (kvs:List (List Key × V))
 | set (S:Int->Bool) (n:Nat)
 | ins (C dx:Addr) (fs:List (Str × V))
 | own (x:Addr)
 | xd (fs:List (Str × V))
 | met (f x:Addr)
 | rng (lo hi:Int)
 | frz (o:Obj) (u:HO)
 | tbl (ps:Array Value)
 | ext (φ : Heap->Prop)
abbrev Hp:=Addr->Option HO
def upd (H:Hp) (a:Addr) (o:HO):Hp:=fun b=>if b=a then some o else H b
theorem Jaj {H:Hp} {a:Addr} {o:HO}:upd H a o a=some o:=by unfold upd;rw [if_pos rfl]
theorem Jag {H:Hp} {a b:Addr} {o:HO} (h:b≠a):upd H a o b=H b:=by unfold upd;rw [if_neg h]
theorem ne_of {H:Hp} {a b:Addr} {o u:HO} (h:H a=some o) (h':H b=some u) (d:o≠u):a≠b:=by
 intro e;subst e;rw [h] at h';exact d (Option.some.inj h')
theorem Jah {H:Hp} {a b:Addr} {o:HO} (h:H a=some o) (h':H b=none):a≠b:=by
 intro e;subst e;rw [h] at h';cases h'
section
variable (P:Program) (w:World)
def ObjOk (H:Hp) (h:Heap) (a:Addr):HO->Prop
 | .lst xs=>xs.length<=sizeLine/\∃ (its:List Value) (n:Nat),Vals xs its/\h.get? a=some { cls:=.type "list",data:=.seq its.toArray n }
 | .tup xs=>xs.length<=sizeLine/\∃ its:List Value,Vals xs its/\IsTup h a its.toArray
 | .dK kvs=>kvs.length<=sizeLine/\(a == sysModules)=false/\∃ vs,KV kvs vs/\h.DictOf (Jau P w) a vs
 | .dT kvs=>kvs.length<=sizeLine/\(a == sysModules)=false/\∃ xs:List (List Key × Addr × Value),
   Paired (fun (p:List Key × V) (q:List Key × Addr × Value)=>p.1=q.1/\H q.2.1=some (.tup (p.1.map kV))/\RelV p.2 q.2.2) kvs xs /\
   ∃ o es ep,h.get? a=some o/\o.ExactDict/\o.data=.dict es ep/\es.toList=xs.map (entryOfKey (tupleKind (Jau P w)))/\(xs.map (·.1)).Nodup
 | .set S n=>h.SetOf (intKind P w) a S n
 | .ins C dx fs=>H dx=some (.own a)/\fs.length<=1000/\dx≠a/\h.get? a=some (W.instObj C dx) /\
   ∃ mA,h.Ns1 dx mA/\(∀ f,RelO (fs.lookup f) (mA f))/\PySem.Within mA (fs.map (·.1))
 | .own _=>∃ o,h.get? a=some o
 | .xd fs=>∃ mA,h.Ns1 a mA/\∀ f,RelO (fs.lookup f) (mA f)
 | .rng lo hi=>∃ t u v,h.get? a=some { cls:=.type "range",data:=.fields #[.int lo t, .int hi u, .int 1 v] }
 | .frz o u=>h.get? a=some o/\ObjOk H h a u
 | .tbl ps=>h.get? a=some { cls:=.none,data:=.fields ps }
 | .met f x=>h.get? a=some (W.methodObj (.ref f) (.ref x))
 | .ext φ=>φ h/\(∃ o,h.get? a=some o)/\∀ h1 h2:Heap,φ h1->(∀ o,h1.get? a=some o->h2.get? a=some o)->φ h2
def HOk (H:Hp) (h:Heap):Prop:=∀ a o,H a=some o->ObjOk P w H h a o
end
section
variable {P:Program} {w:World} {H H':Hp} {h h':Heap} {a:Addr} {o:HO}
theorem ObjOk.lt (x:ObjOk P w H h a o):a<h.objs.size:=by
 cases o with
 | lst xs=>obtain ⟨_,_,_,_,e⟩:=x;exact Heap.lt_size e
 | tup xs=>obtain ⟨_,_,_,p⟩:=x;exact p.lt
 | dK kvs=>obtain ⟨_,_,_,_,o,_,_,e,_⟩:=x;exact Heap.lt_size e
 | dT kvs=>obtain ⟨_,_,_,_,o,_,_,e,_⟩:=x;exact Heap.lt_size e
 | set S n=>obtain ⟨o,_,_,_,e,_⟩:=x;exact Heap.lt_size e
 | ins C dx fs=>obtain ⟨_,_,_,e,_⟩:=x;exact Heap.lt_size e
 | own y=>obtain ⟨_,e⟩:=x;exact Heap.lt_size e
 | xd fs=>obtain ⟨_,⟨_,_,_,e,_⟩,_⟩:=x;exact Heap.lt_size e
 | rng lo hi=>obtain ⟨_,_,_,e⟩:=x;exact Heap.lt_size e
 | frz ob u=>obtain ⟨e,_⟩:=x;exact Heap.lt_size e
 | tbl ps=>exact Heap.lt_size (show h.get? a=some _ from x)
 | met f y=>exact Heap.lt_size (show h.get? a=some _ from x)
 | ext φ=>obtain ⟨_,⟨_,e⟩,_⟩:=x;exact Heap.lt_size e
theorem Paired.mapP {α β : Type} {F G : α->β->Prop}:∀ {l₁ : List α} {l₂ : List β},Paired F l₁ l₂->(∀ a b,F a b->G a b)->Paired G l₁ l₂
 | _,_, .nil,_=>.nil
 | _,_, .cons r t,f=>.cons (f _ _ r) (Paired.mapP t f)
theorem ObjOk.stay (x:ObjOk P w H h a o) (k:∀ b u,(b=a\/H b=some (.own a))->h.get? b=some u->h'.get? b=some u)
  (ho:∀ b,H b=some (.own a)->H' b=some (.own a)) (ht:∀ b xs,H b=some (.tup xs)->H' b=some (.tup xs)):ObjOk P w H' h' a o:=by
 induction o with
 | lst xs=>obtain ⟨z,l,n,r,e⟩:=x;exact ⟨z,l,n,r,k _ _ (.inl rfl) e⟩
 | tup xs=>obtain ⟨z,l,r,g,e,c⟩:=x;exact ⟨z,l,r,g,k _ _ (.inl rfl) e,c⟩
 | dK kvs=>obtain ⟨z,y,E,r,g,i,j,e,c⟩:=x;exact ⟨z,y,E,r,g,i,j,k _ _ (.inl rfl) e,c⟩
 | dT kvs=>
  obtain ⟨z,y,xs,r,g,i,j,e,c⟩:=x;exact ⟨z,y,xs,Paired.mapP r fun p q z=>⟨z.1,ht _ _ z.2.1,z.2.2⟩,g,i,j,k _ _ (.inl rfl) e,c⟩
 | set S n=>obtain ⟨g,i,j,t,e,c⟩:=x;exact ⟨g,i,j,t,k _ _ (.inl rfl) e,c⟩
 | ins C dx fs=>
  obtain ⟨d,z,D,e,m,⟨s,i,j,B,c⟩,r⟩:=x;exact ⟨ho _ d,z,D,k _ _ (.inl rfl) e,m,⟨s,i,j,k _ _ (.inr d) B,c⟩,r⟩
 | own y=>obtain ⟨g,e⟩:=x;exact ⟨g,k _ _ (.inl rfl) e⟩
 | xd fs=>obtain ⟨m,⟨s,i,j,e,c⟩,r⟩:=x;exact ⟨m,⟨s,i,j,k _ _ (.inl rfl) e,c⟩,r⟩
 | rng lo hi=>obtain ⟨t,u,v,e⟩:=x;exact ⟨t,u,v,k _ _ (.inl rfl) e⟩
 | frz g u ih=>obtain ⟨e,q⟩:=x;exact ⟨k _ _ (.inl rfl) e,ih q⟩
 | tbl ps=>
  have e:h.get? a=some { cls:=.none,data:=.fields ps }:=x;show h'.get? a=some { cls:=.none,data:=.fields ps };exact k a _ (.inl rfl) e
 | met f y=>
  have e:h.get? a=some (W.methodObj (.ref f) (.ref y)):=x;show h'.get? a=some (W.methodObj (.ref f) (.ref y));exact k a _ (.inl rfl) e
 | ext φ=>obtain ⟨p,⟨o,e⟩,A⟩:=x;exact ⟨A _ _ p fun o q=>k _ _ (.inl rfl) q,⟨o,k _ _ (.inl rfl) e⟩,A⟩
theorem HOk.lt (x:HOk P w H h) (e:H a=some o):a<h.objs.size:=(x a o e).lt
theorem HOk.fresh (x:HOk P w H h) (e:h.objs.size<=a):H a=none:=by
 cases q:H a with
 | none=>rfl
 | some u=>exact absurd (Nat.lt_of_lt_of_le (x.lt q) e) (Nat.lt_irrefl _)
theorem HOk.kept (x:HOk P w H h) (k:∀ b u,h.get? b=some u->h'.get? b=some u):HOk P w H h':=fun a o e=>
 (x a o e).stay (fun b u _ q=>k b u q) (fun _ q=>q) fun _ _ q=>q
theorem HOk.laid (x:HOk P w H h) (k:∀ b u,h.get? b=some u->h'.get? b=some u) (hp:h.objs.size<=a) (new:ObjOk P w (upd H a o) h' a o):HOk P w (upd H a o) h':=fun b u e=>by
 have f:=x.fresh hp;by_cases d:b=a
 ·subst d;rw [Jaj] at e;cases e;exact new
 ·rw [Jag d] at e;exact (x b u e).stay (fun c v _ q=>k c v q) (fun c q=>by rw [Jag (Jah q f)];exact q) fun c g q=>by rw [Jag (Jah q f)];exact q
end
def Rd (H:Hp) (a:Addr) (u:HO):Prop:=H a=some u\/∃ o,H a=some (.frz o u)
theorem Rd.ok {P:Program} {w:World} {H:Hp} {h:Heap} {a:Addr} {u:HO} (r:Rd H a u) (x:HOk P w H h):ObjOk P w H h a u:=by
 rcases r with r | ⟨o,r⟩
 ·exact x a u r
 ·obtain ⟨_,q⟩:=x a _ r;exact q
def Mut:Option HO->Prop
 | some (.lst _)=>True
 | some (.dK _)=>True
 | some (.dT _)=>True
 | some (.set _ _)=>True
 | some (.ins _ _ _)=>True
 | some (.ext _)=>True
 | _=>False
section
variable {P:Program} {w:World} {H:Hp} {h h':Heap} {x e:Addr} {o':HO}
theorem HOk.write (ok:HOk P w H h) (mu:Mut (H x)) (he:e=x\/H e=some (.own x)) (k:∀ b u,b≠e->h.get? b=some u->h'.get? b=some u) (heo:∃ u,h'.get? e=some u)
  (new:ObjOk P w (upd H x o') h' x o'):HOk P w (upd H x o') h':=fun b u q=>by
 have d:∀ c y,H c=some (.own y)->c≠x:=fun c y r z=>by subst z;rw [r] at mu;exact mu
 have f:∀ c j,H c=some (.tup j)->c≠x:=fun c j r z=>by subst z;rw [r] at mu;exact mu
 by_cases g:b=x
 ·subst g;rw [Jaj] at q;cases q;exact new
 ·rw [Jag g] at q;by_cases a:b=e
  ·have l:H b=some (.own x):=by
    rcases he with z | z
    ·exact absurd (a.trans z) g
    ·rw [a];exact z
   rw [q] at l;cases l;obtain ⟨v,m⟩:=heo;exact ⟨v,by rw [a];exact m⟩
  ·refine (ok b u q).stay (fun c v i r=>k c v ?_ r) (fun c r=>by rw [Jag (d c b r)];exact r) fun c j r=>by rw [Jag (f c j r)];exact r
   rcases i with rfl | i
   ·exact a
   ·rintro rfl;rcases he with z | z
    ·exact d c b i z
    ·rw [i] at z;cases z;exact g rfl
end
structure Un (fs ex:List Addr) (H H':Hp) (h h':Heap):Prop where
 keep:∀ b o,h.get? b=some o->H b=none->b∉fs->b∉ex->h'.get? b=some o
 slot:∀ b o,h.get? b=some o->H b=none->b∈fs->b∉ex->∃ sl,h'.get? b=some { o with slots:=sl }
 free:∀ b o,h.get? b=some o->H b=none->b∉ex->H' b=none
 there:∀ b o,h.get? b=some o->b∉ex->∃ o',h'.get? b=some o'
 tups:∀ b xs,H b=some (.tup xs)->H' b=some (.tup xs)
 frzs:∀ b o u,H b=some (.frz o u)->H' b=some (.frz o u)
 tbls:∀ b ps,H b=some (.tbl ps)->∃ more,H' b=some (.tbl (ps++more))
section
variable {fs fs' ex ex':List Addr} {H H1 H2:Hp} {h h1 h2 h':Heap} {a x e:Addr} {o:HO}
theorem Un.any (u:Un fs ex H H1 h h1) {b:Addr} {ob:Obj} (q:h.get? b=some ob) (n:H b=none) (hx:b∉ex):∃ sl,h1.get? b=some { ob with slots:=sl }:=by
 by_cases a:b∈fs
 ·exact u.slot b ob q n a hx
 ·exact ⟨ob.slots,u.keep b ob q n a hx⟩
theorem Un.kept (k:∀ b u,h.get? b=some u->h'.get? b=some u):Un fs ex H H h h' :=
 ⟨fun b a q _ _ _=>k b a q,fun b a q _ _ _=>⟨a.slots,k b a q⟩,fun _ _ _ n _=>n,fun b a q _=>⟨a,k b a q⟩,fun _ _ q=>q,fun _ _ _ q=>q,fun _ c q=>⟨#[],by rw [q];simp⟩⟩
theorem Un.refl:Un fs ex H H h h:=Un.kept fun _ _ q=>q
theorem Un.laid (k:∀ b u,h.get? b=some u->h'.get? b=some u) (hp:h.objs.size<=a) (hn:H a=none):Un fs ex H (upd H a o) h h' where
 keep:=fun b u q _ _ _=>k b u q
 slot:=fun b u q _ _ _=>⟨u.slots,k b u q⟩
 free:=fun b u q n _=>by rw [Jag (Nat.ne_of_lt (Nat.lt_of_lt_of_le (Heap.lt_size q) hp))];exact n
 there:=fun b u q _=>⟨u,k b u q⟩
 tups:=fun b c q=>by rw [Jag (Jah q hn)];exact q
 frzs:=fun b u c q=>by rw [Jag (Jah q hn)];exact q
 tbls:=fun b d q=>⟨#[],by rw [Jag (Jah q hn),q];simp⟩
theorem Un.write (mu:Mut (H x)) (he:e=x\/H e=some (.own x)) (k:∀ b u,b≠e->h.get? b=some u->h'.get? b=some u) (heo:∃ u,h'.get? e=some u):Un fs ex H (upd H x o) h h':=by
 have d:∀ b,H b=none->b≠x:=fun b n z=>by subst z;rw [n] at mu;exact mu
 have f:∀ b,H b=none->b≠e:=fun b n z=>by
  subst z;rcases he with r | r
  ·exact d b n r
  ·rw [n] at r;cases r
 have c:∀ b u,H b=some u->¬ Mut (some u)->b≠x:=fun b u q g z=>by subst z;rw [q] at mu;exact g mu
 refine ⟨fun b u q n _ _=>k b u (f b n) q,fun b u q n _ _=>⟨u.slots,k b u (f b n) q⟩,fun b u q n _=>by rw [Jag (d b n)];exact n,fun b u q _=>?_,
  fun b i q=>by rw [Jag (c b _ q fun z=>z)];exact q,fun b u i q=>by rw [Jag (c b _ q fun z=>z)];exact q,fun b j q=>⟨#[],by rw [Jag (c b _ q fun z=>z),q];simp⟩⟩
 by_cases a:b=e
 ·subst a;exact heo
 ·exact ⟨u,k b u a q⟩
end
def trk (h:Heap) (H:Hp):List Addr:=(List.range h.objs.size).filter fun a=>(H a).isSome
def hidT (h:Heap) (H:Hp):Heap:=W.hideAll h (trk h H)
theorem JhX (h:Heap) (H:Hp):(hidT h H).objs.size=h.objs.size:=W.hideAll_size _ _
theorem Ji0 {h:Heap} {H:Hp} {b:Addr} {o:Obj} (e:h.get? b=some o) (n:H b=none):(hidT h H).get? b=some o :=
 W.hideAll_get _ e fun a=>by
  have q:(H b).isSome=true:=(mem_filter.mp a).2;rw [n] at q;simp at q
theorem Jkr {h:Heap} {H:Hp} {b:Addr} {o:Obj} (e:(hidT h H).get? b=some o):h.get? b=some o/\H b=none:=by
 have a:h.get? b=some o:=W.of_hideAll (trk h H) e;refine ⟨a,?_⟩;cases q:H b with
 | none=>rfl
 | some x=>
  have c:b∈trk h H:=mem_filter.mpr ⟨List.mem_range.mpr (Heap.lt_size a),by simp [q]⟩;have z:(hidT h H).get? b=none:=W.hideAll_none (trk h H) c;rw [z] at e;cases e
def JjZ (g h:Heap) (L:Addr):List (Addr × Obj):=(List.range h.objs.size).filterMap fun a=>if a=L\/(g.get? a).isSome=true then none else (h.get? a).map fun o=>(a,o)
def rest (g h:Heap) (L d:Addr):List (Addr × Obj):=(JjZ g h L).filter fun p=>decide (p.1≠d)
structure Mod (K:W.Frag) (mg:Str->Option Value) (base:Heap):Prop where
 kin:K.In base
 glob:base.Ns mainGlobals mg
 blt:∃ mb,base.Ns builtinsNs mb/\∀ x:Str,x≠"__name__"->mb x=bootBuiltins x
 nolimit:base.NoLimit
structure Cx where
 prog:Program
 w:World
 K:W.Frag
 mg:Str->Option Value
 base:Heap
 A:Around
 N:List Str
 s₀ : Shared
 H₀ : Hp
 env:Env
 outer:List Env
 stack:List Env
 ex:List Addr
 fn:Str->Bool
 calm:Bool
 pn:List (Addr × Obj)
 xe:Value->Shared->Prop
def frs (l:List Env):List Addr:=l.filterMap (·.frame)
abbrev Cx.fs (X:Cx):List Addr:=frs X.outer
def Vis (sc:Scope) (x:Str):Prop:=sc.names.lookup x=some .local\/sc.names.lookup x=some .cell\/sc.names.lookup x=some .free
def Loc (sc:Scope) (x:Str):Prop:=sc.names.lookup x=some .local\/sc.names.lookup x=some .cell
def Look (env:Env) (h:Heap) (m:Str->Option Value) (x:Str) (u:Value):Prop :=
 (env.kindOf x=some .local/\m x=some u)\/((env.kindOf x=some .cell\/env.kindOf x=some .free)/\∃ c,env.cells.lookup x=some c/\h.IsCell c (some u))
structure Cx.Ok (X:Cx):Prop where
 mod:Mod X.K X.mg X.base
 kind:X.env.scope.kind=.function
 glob:X.env.globals=mainGlobals
 blt:X.env.builtins=builtinsNs
 above:X.s₀.heap.objs.size<=X.env.locals
 inj:∀ x y c,X.env.cells.lookup x=some c->X.env.cells.lookup y=some c->x=y
 has:∀ x,(X.env.kindOf x=some .cell\/X.env.kindOf x=some .free)->∃ c,X.env.cells.lookup x=some c
 cab:∀ x c,X.fn x=true->X.env.cells.lookup x=some c->X.s₀.heap.objs.size<=c
 hd:X.calm=true->X.A.handled=none
 frames:X.A.frames=some X.stack
 stk:X.stack=X.outer\/(X.stack=X.env::X.outer/\X.env.frame=some X.env.locals)
 exf:∀ b∈X.ex,b≠X.env.locals/\∀ x c,X.env.cells.lookup x=some c->c≠b
 bs:∀ b o,X.base.get? b=some o->X.s₀.heap.get? b=some o/\X.H₀ b=none
 bsz:X.base.objs.size<=X.s₀.heap.objs.size
 noex:∀ b o,X.base.get? b=some o->b∉X.ex
 exfs:∀ b∈X.ex,b∉X.fs
 funs:X.s₀.heap.FunFrames X.base X.outer
 frf:∀ b∈X.fs,X.H₀ b=none
structure Inv (X:Cx) (pins:List (Addr × Obj)) (σ : List (Option V)) (H:Hp) (s:Shared):Prop where
 ok:X.Ok
 os:s.os=X.s₀.os
 bare:AllBare s.gens
 base:Un X.fs X.ex X.H₀ H X.s₀.heap s.heap
 loc:∃ m,s.heap.Ns X.env.locals m/\∀ (i:Nat) (x:Str) (v:V),X.N[i]?=some x->σ[i]?=some (some v)->Vis X.env.scope x->∃ u,RelV v u/\Look X.env s.heap m x u
 cell:∀ x c,X.env.cells.lookup x=some c->∃ v,s.heap.IsCell c v
 free:H X.env.locals=none
 freeC:∀ x c,X.env.cells.lookup x=some c->H c=none
 pin:∀ p∈X.pn++pins,s.heap.get? p.1=some p.2/\H p.1=none/\p.1≠X.env.locals/\p.1∉X.fs/\∀ v,p.2.data≠.cell v
 hok:HOk X.prog X.w H s.heap
 len : σ.length=X.N.length
section
variable {X:Cx} {pins:List (Addr × Obj)} {σ : List (Option V)} {H H':Hp} {s:Shared} {h':Heap}
theorem Cx.Ok.nofr (ok:X.Ok) {b:Addr} {o:Obj} (e:X.base.get? b=some o):b∉X.fs:=fun a=>by
 have:=(ok.funs.mem a).1;rw [e] at this;cases this
theorem Inv.bs (I:Inv X pins σ H s):∀ b o,X.base.get? b=some o->s.heap.get? b=some o/\H b=none:=fun b o e=>
 ⟨I.base.keep b o (I.ok.bs b o e).1 (I.ok.bs b o e).2 (I.ok.nofr e) (I.ok.noex b o e),I.base.free b o (I.ok.bs b o e).1 (I.ok.bs b o e).2 (I.ok.noex b o e)⟩
theorem Inv.bk (I:Inv X pins σ H s):∀ b o,X.base.get? b=some o->s.heap.get? b=some o:=fun b o e=>(I.bs b o e).1
theorem Inv.mod (I:Inv X pins σ H s):Mod X.K X.mg X.base:=I.ok.mod
theorem Inv.kIn (I:Inv X pins σ H s):X.K.In s.heap:=I.ok.mod.kin.keeps I.bk
theorem Inv.lt (I:Inv X pins σ H s):X.env.locals<s.heap.objs.size:=let ⟨_,hn,_⟩:=I.loc;hn.lt
theorem Inv.sz (I:Inv X pins σ H s):X.s₀.heap.objs.size<=s.heap.objs.size:=Nat.le_trans I.ok.above (Nat.le_of_lt I.lt)
theorem Inv.nofs (I:Inv X pins σ H s) {a:Addr} (h:s.heap.objs.size<=a):a∉X.fs:=fun b=>by
 obtain ⟨_,o,c,_⟩:=I.ok.funs.mem b;exact absurd (Nat.lt_of_lt_of_le (Heap.lt_size c) (Nat.le_trans I.sz h)) (Nat.lt_irrefl _)
theorem Inv.cne (I:Inv X pins σ H s):∀ x c,X.env.cells.lookup x=some c->c≠X.env.locals:=fun x c e z=>by
 obtain ⟨v,o,d,f⟩:=I.cell x c e;obtain ⟨m,⟨i,h,g,a,b,_⟩,_⟩:=I.loc;rw [z,a] at d;cases d;rw [b] at f;cases f
theorem Inv.funs (I:Inv X pins σ H s):s.heap.FunFrames X.base X.outer:=by
 have all:∀ (l:List Env),(∀ b∈frs l,b∈X.fs)->X.s₀.heap.FunFrames X.base l->s.heap.FunFrames X.base l:=by
  intro l;induction l with
  | nil=>intro _ _;trivial
  | cons env r ih=>
   intro f k;obtain ⟨g,⟨L,o,a,i,j,m⟩,h⟩:=k;have d:L∈X.fs:=f L (by unfold frs;rw [List.filterMap_cons,a];exact mem_cons_self);obtain ⟨n,e⟩:=I.base.slot L o j (I.ok.frf L d) d fun z=>I.ok.exfs L z d;exact ⟨g,⟨L,_,a,i,e,m⟩,ih (fun b c=>f b (by unfold frs;rw [List.filterMap_cons,a];exact mem_cons_of_mem _ c)) h⟩
 exact all X.outer (fun _ c=>c) I.ok.funs
theorem Inv.stack (I:Inv X pins σ H s):s.heap.FunFrames X.base X.stack:=by
 rcases I.ok.stk with e | ⟨e,hf⟩
 ·rw [e];exact I.funs
 ·rw [e];obtain ⟨m,a,_⟩:=I.loc;refine .cons (by rw [I.ok.kind];decide) hf a ?_ I.funs;exact Heap.get?_none_of_le (Nat.le_trans I.ok.bsz I.ok.above)
theorem Inv.stkSub (I:Inv X pins σ H s):∀ b∈frs X.stack,b∈X.env.locals::X.fs:=fun b a=>by
 rcases I.ok.stk with e | ⟨e,hf⟩
 ·rw [e] at a;exact mem_cons_of_mem _ a
 ·rw [e] at a;unfold frs at a;rw [List.filterMap_cons,hf] at a;exact a
theorem Inv.stkFree (I:Inv X pins σ H s):∀ b∈frs X.stack,H b=none:=fun b a=>by
 rcases mem_cons.mp (I.stkSub b a) with e | a
 ·rw [e];exact I.free
 ·obtain ⟨_,o,c,_⟩:=I.ok.funs.mem a;exact I.base.free b o c (I.ok.frf b a) fun z=>I.ok.exfs b z a
theorem Inv.step {g':Array GenState} {t':Nat} {d':Drawn} {ch:List Addr} (I:Inv X pins σ H s)
  (hch:∀ b∈ch,(b∈X.ex\/X.s₀.heap.objs.size<=b)/\b≠X.env.locals/\(∀ x c,X.env.cells.lookup x=some c->c≠b)/\∀ p∈X.pn++pins,p.1≠b)
  (keep:∀ b o,b≠X.env.locals->b∉X.fs->b∉ch->s.heap.get? b=some o->H b=none->h'.get? b=some o)
  (slot:∀ b o,b≠X.env.locals->b∈X.fs->b∉ch->s.heap.get? b=some o->H b=none->∃ sl,h'.get? b=some { o with slots:=sl }) (free:∀ b o,b∉ch->s.heap.get? b=some o->H b=none->H' b=none)
  (there:∀ b o,b∉ch->s.heap.get? b=some o->∃ o',h'.get? b=some o')
  (tups:∀ b xs,H b=some (.tup xs)->H' b=some (.tup xs)) (frzs:∀ b o u,H b=some (.frz o u)->H' b=some (.frz o u)) (tbls:∀ b ps,H b=some (.tbl ps)->∃ more,H' b=some (.tbl (ps++more)))
  (ns:∀ m,s.heap.Ns X.env.locals m->h'.Ns X.env.locals m) (hok:HOk X.prog X.w H' h') (hg:AllBare g') :
  Inv X pins σ H' { s with heap:=h',gens:=g',drawn:=d',toks:=t' }:=by
 have B:∀ b o,X.s₀.heap.get? b=some o->b≠X.env.locals:=fun b o e=>Nat.ne_of_lt (Nat.lt_of_lt_of_le (Heap.lt_size e) I.ok.above);have j:∀ b o,X.s₀.heap.get? b=some o->b∉X.ex->b∉ch:=fun b o e a t=>by
  rcases (hch b t).1 with z | z
  ·exact a z
  ·exact absurd (Nat.lt_of_lt_of_le (Heap.lt_size e) z) (Nat.lt_irrefl _)
 have f:∀ x c,X.env.cells.lookup x=some c->∀ v,s.heap.IsCell c v->h'.IsCell c v:=fun x c e v ⟨o,y,D⟩=>by
  have g:c∉ch:=fun z=>(hch c z).2.2.1 x c e rfl;by_cases J:c∈X.fs
  ·obtain ⟨sl,q⟩:=slot c o (I.cne x c e) J g y (I.freeC x c e);exact ⟨_,q,D⟩
  ·exact ⟨o,keep c o (I.cne x c e) J g y (I.freeC x c e),D⟩
 refine ⟨I.ok,I.os,hg,⟨fun b o e n t a=>?_,fun b o e n t a=>?_,fun b o e n a=>?_,fun b o e a=>?_,fun b xs e=>tups b xs (I.base.tups b xs e),fun b o xs e=>frzs b o xs (I.base.frzs b o xs e),fun b ps e=>?_⟩,?_,fun x c e=>?_,?_,fun x c e=>?_,fun p F=>?_,hok,I.len⟩
 ·exact keep b o (B b o e) t (j b o e a) (I.base.keep b o e n t a) (I.base.free b o e n a)
 ·obtain ⟨sl,h⟩:=I.base.slot b o e n t a;obtain ⟨C,A⟩:=slot b _ (B b o e) t (j b o e a) h (I.base.free b o e n a);exact ⟨C,A⟩
 ·obtain ⟨o',h⟩:=I.base.there b o e a;exact free b o' (j b o e a) h (I.base.free b o e n a)
 ·obtain ⟨o',h⟩:=I.base.there b o e a;exact there b o' (j b o e a) h
 ·obtain ⟨L,h⟩:=I.base.tbls b ps e;obtain ⟨M,A⟩:=tbls b _ h;exact ⟨L++M,by rw [A,Array.append_assoc]⟩
 ·obtain ⟨m,O,K⟩:=I.loc;refine ⟨m,ns m O,fun i x v h A N=>?_⟩;obtain ⟨u,r,l⟩:=K i x v h A N;refine ⟨u,r,?_⟩;rcases l with l | ⟨k,c,e,z⟩
  ·exact .inl l
  ·exact .inr ⟨k,c,e,f x c e _ z⟩
 ·obtain ⟨v,z⟩:=I.cell x c e;exact ⟨v,f x c e v z⟩
 ·obtain ⟨m,⟨o,_,_,y,_⟩,_⟩:=I.loc;exact free _ o (fun z=>(hch _ z).2.1 rfl) y I.free
 ·obtain ⟨v,o,y,D⟩:=I.cell x c e;exact free c o (fun z=>(hch c z).2.2.1 x c e rfl) y (I.freeC x c e)
 ·obtain ⟨e,n,E,G,d⟩:=I.pin p F;have g:p.1∉ch:=fun z=>(hch p.1 z).2.2.2 p F rfl;exact ⟨keep p.1 p.2 E G g e n,free p.1 p.2 g e n,E,G,d⟩
theorem Inv.un {t':Nat} (I:Inv X pins σ H s) (u:Un X.fs [] H H' s.heap h') (hok:HOk X.prog X.w H' h'):Inv X pins σ H' { s with heap:=h',toks:=t' }:=by
 obtain ⟨m,⟨o,l,p,g,r⟩,_⟩:=id I.loc;obtain ⟨q,h⟩:=u.any g I.free (by simp);exact I.step (g':=s.gens) (d':=s.drawn) (ch:=[]) (fun _ z=>nomatch z) (fun b o _ c _ e n=>u.keep b o e n c (by simp)) (fun b o _ c _ e n=>u.slot b o e n c (by simp)) (fun b o _ e n=>u.free b o e n (by simp)) (fun b o _ e=>u.there b o e (by simp)) u.tups u.frzs u.tbls (fun k i=>by
  obtain ⟨t,f,d,a,j⟩:=i;rw [g] at a;cases a;exact ⟨_,f,d,h,j⟩) hok I.bare
theorem Inv.call {g':Array GenState} {t':Nat} {d':Drawn} {ch:List Addr} (I:Inv X pins σ H s) (u:Un (frs X.stack) ch H H' s.heap h') (hok:HOk X.prog X.w H' h') (hg:AllBare g')
  (hch:∀ b∈ch,(b∈X.ex\/X.s₀.heap.objs.size<=b)/\b≠X.env.locals/\(∀ x c,X.env.cells.lookup x=some c->c≠b)/\∀ p∈X.pn++pins,p.1≠b) :
  Inv X pins σ H' { s with heap:=h',gens:=g',drawn:=d',toks:=t' }:=by
 obtain ⟨m,⟨o,t,v,i,r⟩,_⟩:=id I.loc;obtain ⟨y,g⟩:=u.any i I.free fun z=>(hch _ z).2.1 rfl;exact I.step (ch:=ch) hch (fun b o g j a e n=>u.keep b o e n (fun z=>(mem_cons.mp (I.stkSub b z)).elim g j) a) (fun b o _ _ a e n=>u.any e n a) (fun b o a e n=>u.free b o e n a) (fun b o a e=>u.there b o e a) u.tups u.frzs u.tbls (fun q k=>by
  obtain ⟨A,h,f,d,l⟩:=k;rw [i] at d;cases d;exact ⟨_,h,f,g,l⟩) hok hg
theorem Inv.turned {t':Nat} {it:Addr} (I:Inv X pins σ H s) (k:∀ b o,b≠it->s.heap.get? b=some o->h'.get? b=some o) (hn:H it=none) (hL:it≠X.env.locals)
  (h1:it∈X.ex\/X.s₀.heap.objs.size<=it) (h2:∀ x c,X.env.cells.lookup x=some c->c≠it) (h3:∀ p∈X.pn++pins,p.1≠it):Inv X pins σ H { s with heap:=h',toks:=t' }:=by
 have d:∀ b u,H b=some u->b≠it:=fun b u e z=>by rw [z,hn] at e;cases e
 refine I.step (g':=s.gens) (d':=s.drawn) (ch:=[it]) (fun b g=>?_) (fun b o _ _ a e _=>k b o (fun z=>a (by simp [z])) e) (fun b o _ _ a e _=>⟨o.slots,k b o (fun z=>a (by simp [z])) e⟩) (fun _ _ _ _ n=>n)
  (fun b o a e=>⟨o,k b o (fun z=>a (by simp [z])) e⟩) (fun _ _ e=>e) (fun _ _ _ e=>e) (fun b l e=>⟨#[],by rw [e];simp⟩) (fun m j=>?_) (fun b u e=>?_) I.bare
 ·have e:b=it:=by simpa using g
  subst e;exact ⟨h1,hL,h2,h3⟩
 ·obtain ⟨o,f,i,h,r⟩:=j;exact ⟨o,f,i,k _ o (Ne.symm hL) h,r⟩
 ·refine (I.hok b u e).stay (fun c v a q=>k c v ?_ q) (fun _ q=>q) fun _ _ q=>q;rcases a with z | z
  ·rw [z];exact d b u e
  ·exact d c _ z
theorem Inv.tok (I:Inv X pins σ H s) (t:Nat):Inv X pins σ H { s with toks:=t }:=I.un (h':=s.heap) (t':=t) Un.refl I.hok
theorem Inv.kept {t':Nat} (I:Inv X pins σ H s) (k:∀ b u,s.heap.get? b=some u->h'.get? b=some u):Inv X pins σ H { s with heap:=h',toks:=t' }:=I.un (Un.kept k) (I.hok.kept k)
theorem Inv.laid {a:Addr} {o:HO} {t':Nat} (I:Inv X pins σ H s) (k:∀ b u,s.heap.get? b=some u->h'.get? b=some u) (hp:s.heap.objs.size<=a) (new:ObjOk X.prog X.w (upd H a o) h' a o) :
  Inv X pins σ (upd H a o) { s with heap:=h',toks:=t' }:=I.un (Un.laid k hp (I.hok.fresh hp)) (I.hok.laid k hp new)
theorem Inv.write {x e:Addr} {o:HO} {t':Nat} (I:Inv X pins σ H s) (mu:Mut (H x)) (he:e=x\/H e=some (.own x)) (k:∀ b u,b≠e->s.heap.get? b=some u->h'.get? b=some u) (heo:∃ u,h'.get? e=some u)
  (new:ObjOk X.prog X.w (upd H x o) h' x o):Inv X pins σ (upd H x o) { s with heap:=h',toks:=t' }:=I.un (Un.write mu he k heo) (I.hok.write mu he k heo new)
theorem Inv.pins_of {pins':List (Addr × Obj)} (I:Inv X pins σ H s) (h:∀ p∈pins',s.heap.get? p.1=some p.2/\H p.1=none/\p.1≠X.env.locals/\p.1∉X.fs/\∀ v,p.2.data≠.cell v):Inv X pins' σ H s :=
 ⟨I.ok,I.os,I.bare,I.base,I.loc,I.cell,I.free,I.freeC,fun p a=>(mem_append.mp a).elim (fun z=>I.pin p (List.mem_append_left _ z)) (h p),I.hok,I.len⟩
theorem JgZ {N:List Str} (hN:N.Nodup) {i j:Nat} {x:Str} (a:N[i]?=some x) (b:N[j]?=some x):i=j:=by
 obtain ⟨f,c⟩:=List.getElem?_eq_some_iff.mp a;obtain ⟨e,d⟩:=List.getElem?_eq_some_iff.mp b;exact (List.getElem_inj hN).mp (c.trans d.symm)
theorem Jf0 {M:Model} {A:Around} {E:Value->Shared->Prop} {i:Nat} {x:Str} {v:V} {u:Value} {Q:Unit->Shared->Prop} (I:Inv X pins σ H s) (hN:X.N.Nodup) (hi:X.N[i]?=some x) (hx:Loc X.env.scope x) (r:RelV v u)
  (h:∀ s',Inv X pins (σ.set i (some v)) H s'->(∃ a,Heap.SameBut a s.heap s'.heap/\(a=X.env.locals\/X.env.cells.lookup x=some a))->Q () s') (hf:X.fn x=true\/X.env.scope.names.lookup x=some .local:=by first | exact .inl rfl | exact .inr rfl | assumption):wpAny M A (storeName X.env x u) Q E s:=by
 obtain ⟨m,hn,hl⟩:=id I.loc;have R:(X.env.scope.kind == .class||(X.env.scope.kind == .module&&X.env.locals != X.env.globals))=false:=by rw [I.ok.kind];rfl
 have hiσ : i<σ.length:=by rw [I.len];exact (List.getElem?_eq_some_iff.mp hi).1
 have J:=I.cne;have l:∀ {a:Addr} {K:Heap},(∃ o,s.heap.get? a=some o/\H a=none)->Heap.SameBut a s.heap K->HOk X.prog X.w H K:=fun {a K} ha f b ob e=>by
  obtain ⟨_,_,B⟩:=ha;refine (I.hok b ob e).stay (fun c T t q=>(f.2 c ?_).trans q) (fun _ q=>q) fun _ _ q=>q;rintro rfl;rcases t with rfl | t
  ·rw [B] at e;cases e
  ·rw [B] at t;cases t
 rcases hx with hk | hk
 ·refine wpAny_storeName_local hk hn (fun K a0 f=>?_) R;obtain ⟨oL,_,_,a1,_⟩:=id hn;refine h _ ⟨I.ok,I.os,I.bare,⟨fun b o e n F hx=>?_,fun b o e n F hx=>?_,I.base.free,fun b o e hx=>?_,I.base.tups,I.base.frzs,I.base.tbls⟩,⟨_,a0,fun j y v' g C Y=>?_⟩,fun y c e=>?_,I.free,I.freeC,fun p hp=>?_,l ⟨oL,a1,I.free⟩ f,by simpa using I.len⟩ ⟨_,f, .inl rfl⟩
  ·exact (f.2 b (Nat.ne_of_lt (Nat.lt_of_lt_of_le (Heap.lt_size e) I.ok.above))).trans (I.base.keep b o e n F hx)
  ·obtain ⟨Z,g⟩:=I.base.slot b o e n F hx;exact ⟨Z,(f.2 b (Nat.ne_of_lt (Nat.lt_of_lt_of_le (Heap.lt_size e) I.ok.above))).trans g⟩
  ·obtain ⟨o',g⟩:=I.base.there b o e hx;exact ⟨o',(f.2 b (Nat.ne_of_lt (Nat.lt_of_lt_of_le (Heap.lt_size e) I.ok.above))).trans g⟩
  ·by_cases D:j=i
   ·subst D;rw [hi] at g;cases g;rw [List.getElem?_set_self hiσ] at C;cases C;exact ⟨u,r, .inl ⟨hk,by simp⟩⟩
   ·rw [List.getElem?_set_ne (Ne.symm D)] at C;obtain ⟨u',r',q⟩:=hl j y v' g C Y;refine ⟨u',r',?_⟩;rcases q with ⟨k,e⟩ | ⟨k,c,e,z⟩
    ·refine .inl ⟨k,?_⟩;have : y≠x:=fun e=>D (JgZ hN g (e ▸ hi));simp [this,e]
    ·exact .inr ⟨k,c,e,z.sameBut f (J y c e)⟩
  ·obtain ⟨T,z⟩:=I.cell y c e;exact ⟨T,z.sameBut f (J y c e)⟩
  ·obtain ⟨e,n,U,nf,d⟩:=I.pin p hp;exact ⟨(f.2 p.1 U).trans e,n,U,nf,d⟩
 ·have G:X.fn x=true:=by
   rcases hf with z | z
   ·exact z
   ·rw [z] at hk;cases hk
  obtain ⟨c,t⟩:=I.ok.has x (.inl hk);obtain ⟨T,z⟩:=I.cell x c t;refine wpAny_storeName_cell I.ok.kind hk t z (fun K S f=>?_);obtain ⟨oc,O,L⟩:=id z;refine h { s with heap:=K } ⟨I.ok,I.os,I.bare,⟨fun b o e n F hx=>?_,fun b o e n F hx=>?_,I.base.free,fun b o e hx=>?_,I.base.tups,I.base.frzs,I.base.tbls⟩,⟨m,hn.sameBut f (Ne.symm (J x c t)),fun j y v' g C Y=>?_⟩,fun y W e=>?_,I.free,I.freeC,fun p hp=>?_,l ⟨oc,O,I.freeC x c t⟩ f,by simpa using I.len⟩ ⟨c,f, .inr t⟩
  ·exact (f.2 b (Nat.ne_of_lt (Nat.lt_of_lt_of_le (Heap.lt_size e) (I.ok.cab x c G t)))).trans (I.base.keep b o e n F hx)
  ·obtain ⟨Z,g⟩:=I.base.slot b o e n F hx;exact ⟨Z,(f.2 b (Nat.ne_of_lt (Nat.lt_of_lt_of_le (Heap.lt_size e) (I.ok.cab x c G t)))).trans g⟩
  ·obtain ⟨o',g⟩:=I.base.there b o e hx;exact ⟨o',(f.2 b (Nat.ne_of_lt (Nat.lt_of_lt_of_le (Heap.lt_size e) (I.ok.cab x c G t)))).trans g⟩
  ·by_cases D:j=i
   ·subst D;rw [hi] at g;cases g;rw [List.getElem?_set_self hiσ] at C;cases C;exact ⟨u,r, .inr ⟨.inl hk,c,t,S⟩⟩
   ·rw [List.getElem?_set_ne (Ne.symm D)] at C;obtain ⟨u',r',q⟩:=hl j y v' g C Y;refine ⟨u',r',?_⟩;rcases q with q | ⟨k,W,e,z'⟩
    ·exact .inl q
    ·refine .inr ⟨k,W,e,z'.sameBut f ?_⟩;rintro rfl;exact D (JgZ hN g (I.ok.inj _ _ _ e t ▸ hi))
  ·by_cases P:W=c
   ·subst P;exact ⟨_,S⟩
   ·obtain ⟨w2,z2⟩:=I.cell y W e;exact ⟨w2,z2.sameBut f P⟩
  ·obtain ⟨e,n,U,nf,d⟩:=I.pin p hp;refine ⟨(f.2 p.1 ?_).trans e,n,U,nf,d⟩;intro q;rw [q,O] at e;have q':oc=p.2:=Option.some.inj e;exact d T (by rw [<- q'];exact L)
theorem Jg6 {M:Model} {A:Around} {E:Value->Shared->Prop} {i:Nat} {x:Str} {v:V} {u:Value} {Q:Unit->Shared->Prop} (I:Inv X pins σ H s) (hN:X.N.Nodup) (hi:X.N[i]?=some x) (hx:Loc X.env.scope x) (r:RelV v u)
  (h:∀ s',Inv X pins (σ.set i (some v)) H s'->Q () s') (hf:X.fn x=true\/X.env.scope.names.lookup x=some .local:=by first | exact .inl rfl | exact .inr rfl | assumption):wpAny M A (storeName X.env x u) Q E s :=
 Jf0 I hN hi hx r (fun s' I' _=>h s' I') hf
theorem Inv.call' {s':Shared} {ch:List Addr} (I:Inv X pins σ H s) (ho:s'.os=s.os) (u:Un (frs X.stack) ch H H' s.heap s'.heap) (hok:HOk X.prog X.w H' s'.heap) (hg:AllBare s'.gens)
  (hch:∀ b∈ch,(b∈X.ex\/X.s₀.heap.objs.size<=b)/\b≠X.env.locals/\(∀ x c,X.env.cells.lookup x=some c->c≠b)/\∀ p∈X.pn++pins,p.1≠b):Inv X pins σ H' s':=by
 obtain ⟨d,g',d',t',a⟩:=s';have e:a=s.os:=ho;subst e;exact I.call (g':=g') (t':=t') (d':=d') u hok hg hch
end
abbrev XK:=Value->Option Addr->Hp->Prop
abbrev St:=List (Option V)
abbrev VK:=V->Hp->Prop
abbrev TE:=St->Hp->VK->Prop
abbrev TT:=St->Hp->(Bool->Hp->Prop)->Prop
abbrev TA:=St->Hp->(List V->Hp->Prop)->Prop
structure Ends where
 nx:St->Hp->Prop
 rt:VK
 bk:St->Hp->Prop:=fun _ _=>False
 ct:St->Hp->Prop:=fun _ _=>False
abbrev TS:=Ends->St->Hp->Prop
def EP (X:Cx) (pins:List (Addr × Obj)) (σ : St) (Q:VK) (u:Value) (s':Shared):Prop:=∃ v H',Inv X pins σ H' s'/\RelV v u/\Q v H'
def TP (X:Cx) (pins:List (Addr × Obj)) (σ : St) (Q:Bool->Hp->Prop) (b:Bool) (s':Shared):Prop:=∃ H',Inv X pins σ H' s'/\Q b H'
def AP (X:Cx) (pins:List (Addr × Obj)) (σ : St) (Q:List V->Hp->Prop) (us:List Value) (s':Shared):Prop:=∃ vs H',Inv X pins σ H' s'/\Vals vs us/\Q vs H'
def SP (X:Cx) (pins:List (Addr × Obj)) (D:Ends) (f:Flow) (s':Shared):Prop :=
 match f with
 | .next=>∃ σ' H',Inv X pins σ' H' s'/\D.nx σ' H'
 | .brk=>∃ σ' H',Inv X pins σ' H' s'/\D.bk σ' H'
 | .cont=>∃ σ' H',Inv X pins σ' H' s'/\D.ct σ' H'
 | .ret u=>∃ v σ' H',Inv X pins σ' H' s'/\RelV v u/\D.rt v H'
def PE (X:Cx) (e:Expr) (t:TE):Prop :=
 ∀ (pins:List (Addr × Obj)) (s:Shared) (σ : St) (H:Hp) (Q:VK),Inv X pins σ H s->t σ H Q->wpAny (model X.prog X.w) X.A (eval e X.env) (EP X pins σ Q) X.xe s
def PT (X:Cx) (e:Expr) (t:TT):Prop :=
 ∀ (pins:List (Addr × Obj)) (s:Shared) (σ : St) (H:Hp) (Q:Bool->Hp->Prop),Inv X pins σ H s->t σ H Q->wpAny (model X.prog X.w) X.A (isTrue e X.env (eval e X.env)) (TP X pins σ Q) X.xe s
def PW (X:Cx) (e:Expr) (t:TT):Prop :=
 ∀ (whole:Sem Value) (pins:List (Addr × Obj)) (s:Shared) (σ : St) (H:Hp) (Q:Bool->Hp->Prop),Inv X pins σ H s->t σ H Q->wpAny (model X.prog X.w) X.A (isTrue e X.env whole) (TP X pins σ Q) X.xe s
theorem PW.pt {X:Cx} {e:Expr} {t:TT} (h:PW X e t):PT X e t:=h _
def PA (X:Cx) (es:List Expr) (t:TA):Prop :=
 ∀ (pos:Pos) (pins:List (Addr × Obj)) (s:Shared) (σ : St) (H:Hp) (Q:List V->Hp->Prop),Inv X pins σ H s->t σ H Q->wpAny (model X.prog X.w) X.A (spliced (backTo pos (starEach es X.env))) (AP X pins σ Q) X.xe s
def PS (X:Cx) (st:Stmt) (t:TS):Prop :=
 ∀ (pins:List (Addr × Obj)) (s:Shared) (σ : St) (H:Hp) (D:Ends),Inv X pins σ H s->t D σ H->wpAny (model X.prog X.w) X.A (exec st X.env) (SP X pins D) X.xe s
def PSs (X:Cx) (st:List Stmt) (t:TS):Prop :=
 ∀ (pins:List (Addr × Obj)) (s:Shared) (σ : St) (H:Hp) (D:Ends),Inv X pins σ H s->t D σ H->wpAny (model X.prog X.w) X.A (execs st X.env) (SP X pins D) X.xe s
theorem thn {α : Type} {t:Sem α} {Q Q' : α->Shared->Prop} {M:Model} {A:Around} {E:Value->Shared->Prop} {s:Shared} (h:wpAny M A t Q E s) (hQ:∀ a s,Q a s->Q' a s):wpAny M A t Q' E s:=wpAny_mono h hQ fun _ _ x=>x
section
variable {X:Cx}
def tVar (i:Nat):TE:=fun σ H Q=>∃ v,σ[i]?=some (some v)/\Q v H
def tC (v:V):TE:=fun _ H Q=>Q v H
theorem Jlt {i:Nat} {x:Str} {pos:Pos} (hN:X.N[i]?=some x) (hv:Vis X.env.scope x) (hd:(x == ("__debug__" : Str))=false:=by decide) (hcd:(x == ("__classdict__" : Str))=false:=by decide):PE X (.Name x pos) (tVar i):=by
 intro b s σ H Q I h;obtain ⟨v,e,h⟩:=h;obtain ⟨m,f,d⟩:=I.loc;obtain ⟨u,r,l⟩:=d i x v hN e hv;have a:EP X b σ Q u s:=⟨v,H,I,r,h⟩;rcases l with ⟨hk,hm⟩ | ⟨hk,c,hc,hcell⟩
 ·exact wpAny_Name (wpAny_loadName_local I.ok.kind hk f hm a) hd
 ·rcases hk with hk | hk
  ·exact wpAny_Name (wpAny_loadName_cell I.ok.kind hk hc hcell a) hd
  ·exact wpAny_Name (wpAny_loadName_free I.ok.kind hk hc hcell a hcd) hd
theorem Jad {i j pos}:PE X (.Constant (.int i) j pos) (tC (.int i)):=fun _ _ _ H _ I h=>wpAny_Constant_int ⟨.int i,H,I.tok _,⟨_,rfl⟩,h⟩
theorem pe_bl {b j pos}:PE X (.Constant (.bool b) j pos) (tC (.bl b)):=fun _ _ _ H _ I h=>Constant_bool ⟨.bl b,H,I,rfl,h⟩
theorem JcI {j pos}:PE X (.Constant .none j pos) (tC .non):=fun _ _ _ H _ I h=>Constant_none ⟨.non,H,I,rfl,h⟩
theorem JbM {x j pos}:PE X (.Constant (.str x) j pos) (tC (.str x)):=fun _ _ _ H _ I h=>Calls.Constant_str ⟨.str x,H,I.tok _,⟨_,rfl⟩,h⟩
def Gl (X:Cx) (x:Str):Prop:=X.env.kindOf x=some .globalImplicit
theorem Jd0 {E:Value->Shared->Prop} {pins:List (Addr × Obj)} {s:Shared} {σ : St} {H:Hp} {x:Str} {u:Value} {pos:Pos} {Q:Value->Shared->Prop} (I:Inv X pins σ H s) (hg:Gl X x) (hm:X.mg x=some u) (h:Q u s)
  (hd:(x == ("__debug__" : Str))=false:=by decide):wpAny (model X.prog X.w) X.A (eval (.Name x pos) X.env) Q E s :=
 Calls.Name_function_global I.ok.kind hg (Calls.loadGlobal_global (by rw [I.ok.glob];exact I.mod.glob.keeps I.bk) hm h) hd
theorem JdZ {E:Value->Shared->Prop} {pins:List (Addr × Obj)} {s:Shared} {σ : St} {H:Hp} {x:Str} {u:Value} {pos:Pos} {Q:Value->Shared->Prop} (I:Inv X pins σ H s) (hg:Gl X x) (hm:X.mg x=none) (hv:bootBuiltins x=some u) (h:Q u s)
  (hn:x≠"__name__":=by decide) (hd:(x == ("__debug__" : Str))=false:=by decide):wpAny (model X.prog X.w) X.A (eval (.Name x pos) X.env) Q E s:=by
 obtain ⟨c,b,a⟩:=I.mod.blt;exact Calls.Name_function_global I.ok.kind hg (Calls.loadGlobal_builtin (by rw [I.ok.glob];exact I.mod.glob.keeps I.bk) hm (by rw [I.ok.blt];exact b.keeps I.bk) ((a x hn).trans hv) h) hd
theorem JcW {x:Str} {v:V} {u:Value} {pos:Pos} (hg:Gl X x) (hm:X.mg x=some u) (r:RelV v u) (hd:(x == ("__debug__" : Str))=false:=by decide):PE X (.Name x pos) (tC v) :=
 fun _ _ _ H _ I h=>Jd0 I hg hm ⟨v,H,I,r,h⟩ hd
theorem JcH {x:Str} {v:V} {u:Value} {pos:Pos} (hg:Gl X x) (hm:X.mg x=none) (hv:bootBuiltins x=some u) (r:RelV v u) (hn:x≠"__name__":=by decide) (hd:(x == ("__debug__" : Str))=false:=by decide):PE X (.Name x pos) (tC v) :=
 fun _ _ _ H _ I h=>JdZ I hg hm hv ⟨v,H,I,r,h⟩ hn hd
variable {a b:Expr} {ta tb:TE} {pos:Pos}
def PC (X:Cx) (op:CmpOp) (a b:Expr) (t:TE):Prop :=
 ∀ (pins:List (Addr × Obj)) (s:Shared) (σ : St) (H:Hp) (Q:VK),Inv X pins σ H s->t σ H Q ->
  wpAny (model X.prog X.w) X.A (eval a X.env) (fun v s₁=>wpAny (model X.prog X.w) X.A (eval b X.env) (fun u s₂=>wpAny (model X.prog X.w) X.A (compareOp op v u) (EP X pins σ Q) X.xe s₂) X.xe s₁) X.xe s
def tB (t:TE):TT:=fun σ H Q=>t σ H fun x H1=>∃ c,x=.bl c/\Q c H1
theorem Jls {op:CmpOp} {t:TE} (h:PC X op a b t) (h1:behindInMarks op b=false:=by first | exact nobehind _ ⋯ ⋯ | rfl):PE X (.Compare a [op] [b] pos) t:=fun c s σ H Q I d=>wpAny_Compare1 (h c s σ H Q I d) h1
theorem Jej {op:CmpOp} {t:TE} (h:PC X op a b t) (h1:behindInMarks op b=false:=by first | exact nobehind _ ⋯ ⋯ | rfl):PT X (.Compare a [op] [b] pos) (tB t):=by
 intro e s σ H Q I k;refine wpAny_isTrue_Compare1 (thn (h e s σ H _ I k) fun v l h1=>thn h1 fun u m f=>thn f fun c n ζ=>?_) h1;obtain ⟨x,j,I1,g,i⟩:=ζ;obtain ⟨d,rfl,q⟩:=i;cases g;exact wpAny_truthy_bool ⟨j,I1,q⟩
theorem Ja9 {e:Expr} {t:TE} (h:PE X e t) (he:∀ whole,isTrue e X.env whole=(do let v <- whole;standAt e.pos;holding [v] (truthy v)):=by intro _;rfl):PT X e (tB t):=by
 intro a s σ H Q I g;refine isTrue_plain (thn (h a s σ H _ I g) fun v i ζ=>?_) (he _);obtain ⟨x,c,I1,b,f⟩:=ζ;obtain ⟨d,rfl,q⟩:=f;cases b;exact wpAny_truthy_bool ⟨c,I1,q⟩
variable {tA tB':TT} {rest:List Expr}
def tAnd (t u:TT):TT:=fun σ H Q=>t σ H fun c H1=>if c=true then u σ H1 Q else Q false H1
def tOr (t u:TT):TT:=fun σ H Q=>t σ H fun c H1=>if c=true then Q true H1 else u σ H1 Q
def tNot (t:TT):TT:=fun σ H Q=>t σ H fun c H1=>Q (!c) H1
theorem Jiu (ha:PT X a tA):PW X (.BoolOp .And [a] pos) tA:=by
 intro d b s σ H Q I h;refine isTrue_and (thn (ha b s σ H Q I h) fun c f e=>?_);cases c with
 | true=>exact isTrue_and_nil e
 | false=>exact e
theorem JcB (ha:PT X a tA):PW X (.BoolOp .Or [a] pos) tA:=by
 intro d b s σ H Q I h;refine isTrue_or (thn (ha b s σ H Q I h) fun c f e=>?_);cases c with
 | false=>exact isTrue_or_nil e
 | true=>exact e
theorem JjI (ha:PT X a tA) (hb:PW X (.BoolOp .And (b::rest) pos) tB'):PW X (.BoolOp .And (a::b::rest) pos) (tAnd tA tB'):=by
 intro g d s σ H Q I h;refine isTrue_and (thn (ha d s σ H _ I h) fun c i ⟨e,I1,f⟩=>?_);cases c with
 | true=>exact hb g d i σ e Q I1 f
 | false=>exact ⟨e,I1,f⟩
theorem pw_or (ha:PT X a tA) (hb:PW X (.BoolOp .Or (b::rest) pos) tB'):PW X (.BoolOp .Or (a::b::rest) pos) (tOr tA tB'):=by
 intro g d s σ H Q I h;refine isTrue_or (thn (ha d s σ H _ I h) fun c i ⟨e,I1,f⟩=>?_);cases c with
 | true=>exact ⟨e,I1,f⟩
 | false=>exact hb g d i σ e Q I1 f
theorem Jbt (ha:PT X a tA):PT X (.UnaryOp .Not a pos) (tNot tA):=by
 intro b s σ H Q I h;exact isTrue_not (ha b s σ H (fun c d=>Q (!c) d) I h)
def tAndV (ta tb:TE):TE:=fun σ H Q=>ta σ H fun x H1=>∃ c,x=.bl c/\if c=true then tb σ H1 Q else Q (.bl false) H1
def tOrV (ta tb:TE):TE:=fun σ H Q=>ta σ H fun x H1=>∃ c,x=.bl c/\if c=true then Q (.bl true) H1 else tb σ H1 Q
def tNotV (ta:TE):TE:=fun σ H Q=>ta σ H fun x H1=>∃ c,x=.bl c/\Q (.bl (!c)) H1
theorem Jdf {op} {t:TE} (h:PE X a t):PE X (.BoolOp op [a] pos) t:=fun b s σ H Q I c=>BoolOp_one (h b s σ H Q I c)
theorem JcA (ha:PE X a ta) (hb:PE X (.BoolOp .And (b::rest) pos) tb):PE X (.BoolOp .And (a::b::rest) pos) (tAndV ta tb):=by
 intro d s σ H Q I h;refine BoolOp_and (thn (ha d s σ H _ I h) fun v i ζ=>?_);obtain ⟨x,f,I1,g,e⟩:=ζ;obtain ⟨c,rfl,e⟩:=e;cases g;refine wpAny_truthy_bool ?_;cases c with
 | true=>exact hb d i σ f Q I1 e
 | false=>exact ⟨.bl false,f,I1,rfl,e⟩
theorem pe_or (ha:PE X a ta) (hb:PE X (.BoolOp .Or (b::rest) pos) tb):PE X (.BoolOp .Or (a::b::rest) pos) (tOrV ta tb):=by
 intro d s σ H Q I h;refine BoolOp_or (thn (ha d s σ H _ I h) fun v i ζ=>?_);obtain ⟨x,f,I1,g,e⟩:=ζ;obtain ⟨c,rfl,e⟩:=e;cases g;refine wpAny_truthy_bool ?_;cases c with
 | false=>exact hb d i σ f Q I1 e
 | true=>exact ⟨.bl true,f,I1,rfl,e⟩
theorem Jin (ha:PE X a ta):PE X (.UnaryOp .Not a pos) (tNotV ta):=by
 intro b s σ H Q I h;refine UnaryOp_ (thn (ha b s σ H _ I h) fun v g ζ=>?_);obtain ⟨x,f,I1,e,d⟩:=ζ;obtain ⟨c,rfl,d⟩:=d;cases e;exact not_of (wpAny_truthy_bool ⟨.bl (!c),f,I1,rfl,d⟩)
def tIf (t:TT) (ta tb:TE):TE:=fun σ H Q=>t σ H fun c H1=>if c=true then ta σ H1 Q else tb σ H1 Q
theorem Jg3 {c:Expr} (hc:PT X c tA) (ha:PE X a ta) (hb:PE X b tb):PE X (.IfExp c a b pos) (tIf tA ta tb):=by
 intro e s σ H Q I h;refine wpAny_IfExp (thn (hc e s σ H _ I h) fun d i ⟨f,I1,g⟩=>?_);cases d with
 | true=>exact ha e i σ f Q I1 g
 | false=>exact hb e i σ f Q I1 g
end
def SqL (K:W.Frag) (H:Hp) (a:Addr) (xs:List V):Prop :=
 Rd H a (.lst xs) \/
  ∃ (o:Obj) (its:Array Value) (n:Nat),K.lookup a=some o/\o.cls=.type "list"/\o.dict=none/\o.data=.seq its n/\its.size<=sizeLine/\Vals xs its.toList
def SqT (K:W.Frag) (H:Hp) (a:Addr) (xs:List V):Prop :=
 Rd H a (.tup xs) \/
  ∃ (o:Obj) (its:Array Value) (n:Nat),K.lookup a=some o/\o.cls=.type "tuple"/\o.data=.seq its n/\its.size<=sizeLine/\Vals xs its.toList
def absV:Value->Option V
 | .none=>some .non
 | .bool b=>some (.bl b)
 | .int i _=>some (.int i)
 | .str x _=>some (.str x)
 | .bytes b _=>some (.byt b)
 | .float b _=>some (.flt b)
 | .ref a=>some (.ref a)
 | .type n=>some (.ty n)
 | _=>none
theorem RelV.abs {x:V} {u:Value} (r:RelV x u):absV u=some x:=by
 cases x with
 | non=>cases r;rfl
 | bl _=>cases r;rfl
 | int _=>obtain ⟨t,rfl⟩:=r;rfl
 | str _=>obtain ⟨t,rfl⟩:=r;rfl
 | byt _=>obtain ⟨t,rfl⟩:=r;rfl
 | flt _=>obtain ⟨t,rfl⟩:=r;rfl
 | ref _=>cases r;rfl
 | ty _=>cases r;rfl
theorem RelV.inj {x y:V} {u:Value} (r:RelV x u) (q:RelV y u):x=y:=Option.some.inj (r.abs.symm.trans q.abs)
theorem Vals.inj:∀ {xs ys:List V} {us:List Value},Vals xs us->Vals ys us->xs=ys
 | _,_,_, .nil, .nil=>rfl
 | _,_,_, .cons r t, .cons r' t'=>by rw [r.inj r',Vals.inj t t']
section
variable {X:Cx} {pins:List (Addr × Obj)} {σ : St} {H:Hp} {s:Shared} {a:Addr} {xs ys:List V}
theorem SqL.of {K:W.Frag} (h:H a=some (.lst xs)):SqL K H a xs:=.inl (.inl h)
theorem SqT.of {K:W.Frag} (h:H a=some (.tup xs)):SqT K H a xs:=.inl (.inl h)
theorem Inv.list (I:Inv X pins σ H s) (h:SqL X.K H a xs):∃ its:List Value,Vals xs its/\PlainL s.heap a its.toArray/\xs.length<=sizeLine:=by
 rcases h with h | ⟨o,its,n,hk,hc,hd,hs,hz,r⟩
 ·obtain ⟨z,its,n,r,e⟩:=h.ok I.hok;exact ⟨its,r,⟨_,n,e,rfl,rfl,rfl⟩,z⟩
 ·refine ⟨its.toList,r,⟨o,n,I.kIn a o hk,hc,hd,by simpa using hs⟩,?_⟩;have e:=r.length;simp only [Array.length_toList] at e;ac_nf
theorem Inv.tuple (I:Inv X pins σ H s) (h:SqT X.K H a xs):∃ its:List Value,Vals xs its/\IsTup s.heap a its.toArray/\xs.length<=sizeLine:=by
 rcases h with h | ⟨o,its,n,hk,hc,hs,hz,r⟩
 ·obtain ⟨z,its,r,p⟩:=h.ok I.hok;exact ⟨its,r,p,z⟩
 ·refine ⟨its.toList,r,⟨o,I.kIn a o hk,hc,n,by simpa using hs⟩,?_⟩;have e:=r.length;simp only [Array.length_toList] at e;ac_nf
theorem Inv.list_inj (I:Inv X pins σ H s) (h:SqL X.K H a xs) (h':SqL X.K H a ys):xs=ys:=by
 obtain ⟨c,r,⟨o,n,e,_,_,d⟩,_⟩:=I.list h;obtain ⟨b,i,⟨k,j,f,_,_,g⟩,_⟩:=I.list h';rw [e] at f;cases f;rw [d] at g;injection g with d1 _
 have : c=b:=by simpa using congrArg Array.toList d1
 subst this;exact r.inj i
theorem Inv.tuple_inj (I:Inv X pins σ H s) (h:SqT X.K H a xs) (h':SqT X.K H a ys):xs=ys:=by
 obtain ⟨c,r,⟨o,e,_,n,d⟩,_⟩:=I.tuple h;obtain ⟨b,i,⟨k,f,_,j,g⟩,_⟩:=I.tuple h';rw [e] at f;cases f;rw [d] at g;injection g with d1 _
 have : c=b:=by simpa using congrArg Array.toList d1
 subst this;exact r.inj i
end
abbrev Cx.wish (X:Cx) (E:Value->Shared->Prop):Cx:={ X with xe:=E }
abbrev Cx.nox (X:Cx):Cx:=X.wish fun _ _=>False
theorem Cx.Ok.wish {X:Cx} (ok:X.Ok) (E:Value->Shared->Prop):(X.wish E).Ok :=
 ⟨ok.mod,ok.kind,ok.glob,ok.blt,ok.above,ok.inj,ok.has,ok.cab,ok.hd,ok.frames,ok.stk,ok.exf,ok.bs,ok.bsz,ok.noex,ok.exfs,ok.funs,ok.frf⟩
theorem Cx.Ok.unwish {X:Cx} {E:Value->Shared->Prop} (ok:(X.wish E).Ok):X.Ok :=
 ⟨ok.mod,ok.kind,ok.glob,ok.blt,ok.above,ok.inj,ok.has,ok.cab,ok.hd,ok.frames,ok.stk,ok.exf,ok.bs,ok.bsz,ok.noex,ok.exfs,ok.funs,ok.frf⟩
section
variable {X:Cx} {pins:List (Addr × Obj)} {σ : St} {H:Hp} {s:Shared} {E:Value->Shared->Prop}
theorem Inv.wish (I:Inv X pins σ H s) (E:Value->Shared->Prop):Inv (X.wish E) pins σ H s:=⟨I.ok.wish E,I.os,I.bare,I.base,I.loc,I.cell,I.free,I.freeC,I.pin,I.hok,I.len⟩
theorem Inv.unwish (I:Inv (X.wish E) pins σ H s):Inv X pins σ H s:=⟨I.ok.unwish,I.os,I.bare,I.base,I.loc,I.cell,I.free,I.freeC,I.pin,I.hok,I.len⟩
theorem SP.unwish {D:Ends} {f:Flow} {s':Shared} (h:SP (X.wish E) pins D f s'):SP X pins D f s':=by
 cases f with
 | next=>obtain ⟨σ',a,I,q⟩:=h;exact ⟨σ',a,I.unwish,q⟩
 | brk=>obtain ⟨σ',a,I,q⟩:=h;exact ⟨σ',a,I.unwish,q⟩
 | cont=>obtain ⟨σ',a,I,q⟩:=h;exact ⟨σ',a,I.unwish,q⟩
 | ret u=>obtain ⟨v,σ',a,I,r,q⟩:=h;exact ⟨v,σ',a,I.unwish,r,q⟩
theorem PSs.nox {st:List Stmt} {t:TS} (h:PSs X.nox st t):PSs X st t:=fun a s σ H D I b=>
 wpAny_mono (h a s σ H D (I.wish _) b) (fun _ _ q=>q.unwish) fun _ _ z=>False.elim z
end
section
variable {X:Cx} {st:Stmt} {rest:List Stmt} {t u:TS} {e:Expr} {te:TE} {pos:Pos}
def tNext:TS:=fun D σ H=>D.nx σ H
def tSeq (t u:TS):TS:=fun D σ H=>t { D with nx:=u D } σ H
theorem Jav:PSs X [] tNext:=fun _ _ σ H _ I h=>wpAny_execs_nil ⟨σ,H,I,h⟩
theorem Jab (h1:PS X st t) (h2:PSs X rest u):PSs X (st::rest) (tSeq t u):=by
 intro a s σ H D I h;refine wpAny_execs_cons (thn (h1 a s σ H { D with nx:=u D } I h) fun f c q=>?_);cases f with
 | next=>
  obtain ⟨σ',b,I',q⟩:=q;exact h2 a c σ' b D I' q
 | ret v=>exact q
 | brk=>exact q
 | cont=>exact q
theorem Jai (h1:PS X st t):PSs X [st] t:=by
 intro a s σ H D I h;refine wpAny_execs_cons (thn (h1 a s σ H D I h) fun f b q=>?_);cases f with
 | next=>exact wpAny_execs_nil q
 | ret v=>exact q
 | brk=>exact q
 | cont=>exact q
theorem Inv.quiet {pins:List (Addr × Obj)} {σ : St} {H:Hp} {s:Shared} (I:Inv X pins σ H s):interactive X.env=false:=by simp [interactive,I.ok.kind]
def tDrop (te:TE):TS:=fun D σ H=>te σ H fun _ H1=>D.nx σ H1
theorem Ja4 (he:PE X e te) (hs:swapsWith e none pos.line X.env=pure false:=by rfl):PS X (.Expr e pos) (tDrop te):=by
 intro a s σ H D I h;exact wpAny_Expr_any (thn (he a s σ H _ I h) fun v f ⟨x,b,I1,d,c⟩=>⟨σ,b,I1,c⟩) I.quiet hs
def tRet (te:TE):TS:=fun D σ H=>te σ H D.rt
theorem Jap (he:PE X e te):PS X (.Return (some e) pos) (tRet te):=by
 intro a s σ H D I h;exact wpAny_Return_some (thn (he a s σ H _ I h) fun v f ⟨x,c,I1,b,d⟩=>⟨x,σ,c,I1,b,d⟩)
def tRetN:TS:=fun D _ H=>D.rt .non H
def tIfS (c:TT) (t u:TS):TS:=fun D σ H=>c σ H fun b H1=>if b=true then t D σ H1 else u D σ H1
theorem ps_if {c:Expr} {a b:List Stmt} {tc:TT} (hc:PT X c tc) (ha:PSs X a t) (hb:PSs X b u):PS X (.If c a b pos) (tIfS tc t u):=by
 intro e s σ H D I h;refine wpAny_If (thn (hc e s σ H _ I h) fun d i ⟨f,I1,g⟩=>?_);cases d with
 | true=>exact ha e i σ f D I1 g
 | false=>exact hb e i σ f D I1 g
end
abbrev TG:=V->St->Hp->(St->Hp->Prop)->Prop
abbrev TGs:=List V->St->Hp->(St->Hp->Prop)->Prop
def PG (X:Cx) (target:Expr) (t:TG):Prop :=
 ∀ (pins:List (Addr × Obj)) (s:Shared) (σ : St) (H:Hp) (v:V) (u:Value) (Q:St->Hp->Prop),Inv X pins σ H s->RelV v u->t v σ H Q ->
  wpAny (model X.prog X.w) X.A (assign target X.env u) (fun _ s'=>∃ σ' H',Inv X pins σ' H' s'/\Q σ' H') X.xe s
def PGs (X:Cx) (ts:List Expr) (t:TGs):Prop :=
 ∀ (pins:List (Addr × Obj)) (s:Shared) (σ : St) (H:Hp) (vs:List V) (us:List Value) (Q:St->Hp->Prop),Inv X pins σ H s->Vals vs us->t vs σ H Q ->
  wpAny (model X.prog X.w) X.A (assignInOrder ((assignEach ts X.env).map (·.2)) us) (fun _ s'=>∃ σ' H',Inv X pins σ' H' s'/\Q σ' H') X.xe s
section
variable {X:Cx} {pos:Pos}
def gName (i:Nat):TG:=fun v σ H Q=>Q (σ.set i (some v)) H
theorem Jar {i:Nat} {x:Str} (hN:X.N.Nodup) (hi:X.N[i]?=some x) (hx:Loc X.env.scope x) (hf:X.fn x=true\/X.env.scope.names.lookup x=some .local:=by first | exact .inl rfl | exact .inr rfl | assumption):PG X (.Name x pos) (gName i):=by
 intro a s σ H v u Q I r h;exact wpAny_assign_Name (Jg6 I hN hi hx r (fun b I'=>⟨_,H,I',h⟩) hf)
def gNil:TGs:=fun vs σ H Q=>vs=[]/\Q σ H
def gCons (t:TG) (u:TGs):TGs:=fun vs σ H Q=>∃ v r,vs=v::r/\t v σ H fun σ' H'=>u r σ' H' Q
theorem Jeh:PGs X [] gNil:=by
 intro a s σ H b c Q I r h;obtain ⟨e,h⟩:=h;subst e;cases r;exact assignInOrder_nil ⟨σ,H,I,h⟩
theorem Ja7 {e:Expr} {es:List Expr} {t:TG} {u:TGs} (h1:PG X e t) (h2:PGs X es u)
  (hs:(assignEach (e::es) X.env).map (·.2)=assign e X.env::(assignEach es X.env).map (·.2):=by rfl):PGs X (e::es) (gCons t u):=by
 intro a s σ H g i Q I r h;obtain ⟨v,j,b,h⟩:=h;subst b;cases r with
 | cons r rr=>
  rw [hs];refine assignInOrder_cons (thn (h1 a s σ H _ _ _ I r h) fun _ f ⟨σ1,c,I1,d⟩=>?_);exact h2 a f σ1 c _ _ Q I1 rr d
def gTup (K:W.Frag) (n:Nat) (t:TGs):TG:=fun v σ H Q=>∃ a xs,v=.ref a/\SqT K H a xs/\xs.length=n/\t xs σ H Q
theorem JfU {es:List Expr} {k:Nat} {t:TGs} {n:Nat} (hc:X.calm=true) (h:PGs X es t)
  (hn:(assignEach es X.env).length=n:=by rfl) (hst:(assignEach es X.env).findIdx? (·.1)=none:=by rfl):PG X (.Tuple es k pos) (gTup X.K n t):=by
 intro c s σ H v u Q I r d;obtain ⟨a,l,i,p,j,d⟩:=d;subst i;cases r;obtain ⟨g,f,w,x⟩:=I.tuple p;refine assign_Tuple_tuple (I.ok.hd hc) w (by simp [hn, <- j,f.length]) hst fun m q=>?_;have I1:Inv X c σ H { s with heap:=m }:=I.kept (t':=s.toks) fun b o e=>q b o (Nat.ne_of_lt (Heap.lt_size e)) e;exact h c _ σ H l _ Q I1 (by simpa using f) d
def tAsg (te:TE) (g:TG):TS:=fun D σ H=>te σ H fun x H1=>g x σ H1 D.nx
theorem JjH {tg e:Expr} {te:TE} {g:TG} (he:PE X e te) (hg:PG X tg g) (hs:swapsWithSole [tg] e pos.line X.env=pure false:=by rfl) (hw:swappedStores [tg] e X.env=pure none:=by rfl)
  (h1:(assignEach [tg] X.env).map (·.2)=[assign tg X.env]:=by rfl):PS X (.Assign [tg] e pos) (tAsg te g):=by
 intro a s σ H D I h;refine wpAny_Assign_stores (thn (he a s σ H _ I h) fun v f ζ=>?_) hs hw;obtain ⟨x,c,I1,b,d⟩:=ζ;rw [h1];exact thn (hg a f σ c x v _ I1 b d) fun _ i q=>q
theorem Jak {i:Nat} {x:Str} {e:Expr} {te:TE} {pos':Pos} (hN:X.N.Nodup) (hi:X.N[i]?=some x) (hx:Loc X.env.scope x) (he:PE X e te) (hs:swapsWith e (some (.Name x pos')) pos.line X.env=pure false:=by rfl) (hf:X.fn x=true\/X.env.scope.names.lookup x=some .local:=by first | exact .inl rfl | exact .inr rfl | assumption) :
  PS X (.Assign [.Name x pos'] e pos) (tAsg te (gName i)):=by
 intro a s σ H D I h;refine wpAny_Assign_Name (thn (he a s σ H _ I h) fun v g ζ=>?_) hs;obtain ⟨y,c,I1,b,d⟩:=ζ;exact Jg6 I1 hN hi hx b (fun f I2=>⟨_,c,I2,d⟩) hf
end
section
variable {X:Cx} {pos:Pos}
def JlI (c:TT) (tb:TS):TS:=fun D σ H=>∃ W:Nat->St->Hp->Prop,(∃ m,W m σ H)/\∀ m σ H,W m σ H ->
 c σ H fun b H1=>if b=true then ∃ N:St->Hp->Prop,(∀ σ' H',N σ' H'->∃ m',m'<m/\W m' σ' H')/\tb { D with nx:=N,ct:=N,bk:=D.nx } σ H1 else D.nx σ H1
theorem JdN {c:Expr} {body:List Stmt} {tc:TT} {tb:TS} (hp:PassesOwn (model X.prog X.w) X.A X.env X.xe) (hc:PT X c tc) (hb:PSs X body tb):PS X (.While c body [] pos) (JlI tc tb):=by
 intro a s σ H D I h;obtain ⟨W,⟨y,x⟩,e⟩:=h;refine wpAny_While (codeAny_whileLoop (fun n z=>∃ σ' H',Inv X a σ' H' z/\W n σ' H') ?_ y ⟨σ,H,I,x⟩);rintro n r ⟨σ1,q,I1,t⟩;refine wpAny_passesOwn hp (thn (hc a r σ1 q _ I1 (e n σ1 q t)) fun b u ⟨o,I2,i⟩=>?_);cases b with
 | true=>
  obtain ⟨N,p,i⟩:=i;rw [if_pos rfl];refine wpAny_passesOwn hp (thn (hb a u σ1 o _ I2 i) fun f B g=>?_);cases f with
  | next=>
   obtain ⟨σ3,d,I3,m⟩:=g;obtain ⟨j,l,k⟩:=p σ3 d m;exact ⟨j,l,σ3,d,I3,k⟩
  | cont=>
   obtain ⟨σ3,d,I3,m⟩:=g;obtain ⟨j,l,k⟩:=p σ3 d m;exact ⟨j,l,σ3,d,I3,k⟩
  | brk=>exact g
  | ret v=>exact g
 | false=>
  rw [if_neg Bool.false_ne_true];exact wpAny_execs_nil ⟨σ1,o,I2,i⟩
end
structure It where
 go:Nat->Hp->Prop
 yld:Nat->Hp->V->Hp->Prop
 stop:Nat->Hp->Prop
def FpOk (X:Cx) (pins:List (Addr × Obj)) (H:Hp) (b:Addr):Prop :=
 H b=none/\b≠X.env.locals/\b∉X.fs/\(b∈X.ex\/X.s₀.heap.objs.size<=b)/\(∀ x c,X.env.cells.lookup x=some c->c≠b)/\∀ p∈X.pn++pins,p.1≠b
theorem Inv.fpOk {X:Cx} {pins:List (Addr × Obj)} {σ : St} {H H':Hp} {s:Shared} {b:Addr} (I:Inv X pins σ H s) (hb:s.heap.objs.size<=b) (hn:H' b=none):FpOk X pins H' b:=by
 refine ⟨hn,Nat.ne_of_gt (Nat.lt_of_lt_of_le I.lt hb),I.nofs hb, .inr (Nat.le_trans I.sz hb),fun x c e z=>?_,fun p a z=>?_⟩
 ·obtain ⟨v,q⟩:=I.cell x c e;exact absurd (Nat.lt_of_lt_of_le q.lt (by rw [z];exact hb)) (Nat.lt_irrefl _)
 ·exact absurd (Nat.lt_of_lt_of_le (Heap.lt_size (I.pin p a).1) (by rw [z];exact hb)) (Nat.lt_irrefl _)
structure Turn (P:Program) (w:World) (K:W.Frag) (tg:Expr) (J:It) (fp:List Addr) (it:Addr) (tn:Nat->Heap->Prop):Prop where
 mem:it∈fp
 obj:∀ i h,tn i h->∀ b∈fp, ∃ o,h.get? b=some o/\∀ v,o.data≠.cell v
 keep:∀ i h h',tn i h->(∀ b∈fp, ∀ o,h.get? b=some o->h'.get? b=some o)->tn i h'
 item:∀ (X:Cx),X.prog=P->X.w=w->X.K=K->X.calm=true->∀ (i:Nat) (pins:List (Addr × Obj)) (s:Shared) (σ : St) (H:Hp) (E:Value->Shared->Prop),Inv X pins σ H s->(∀ b∈fp,FpOk X pins H b)->tn i s.heap->J.go i H ->
  wpAny (model P w) X.A (pyNext (.ref it)) (fun r s1=>∃ u,r=some u /\
   wpAny (model P w) X.A (letOwnedTupleGo tg (.ref it) u) (fun _ s2=>∃ x H',Inv X pins σ H' s2/\RelV x u/\J.yld i H x H'/\tn (i+1) s2.heap/\∀ b∈fp,H' b=none) E s1) E s
 done:∀ (X:Cx),X.prog=P->X.w=w->X.K=K->X.calm=true->∀ (i:Nat) (pins:List (Addr × Obj)) (s:Shared) (σ : St) (H:Hp) (E:Value->Shared->Prop),Inv X pins σ H s->(∀ b∈fp,FpOk X pins H b)->tn i s.heap->J.stop i H ->
  wpAny (model P w) X.A (pyNext (.ref it)) (fun r s1=>r=none/\Inv X pins σ H s1) E s
 self:∀ (A:Around) (i:Nat) (s:Shared) (Q:Value->Shared->Prop) (E:Value->Shared->Prop),tn i s.heap->Q (.ref it) s->wpAny (model P w) A (pyIter (.ref it)) Q E s
abbrev TI:=St->Hp->(It->Hp->Prop)->Prop
def PIE (X:Cx) (pins:List (Addr × Obj)) (σ : St) (tg:Expr) (R:It->Hp->Prop) (itv:Value) (s2:Shared):Prop :=
 ∃ (it:Addr) (fp:List Addr) (tn:Nat->Heap->Prop) (J:It) (H':Hp),itv=.ref it/\Inv X pins σ H' s2/\Turn X.prog X.w X.K tg J fp it tn/\tn 0 s2.heap/\(∀ b∈fp,FpOk X pins H' b)/\R J H'
def PI (X:Cx) (tg iter:Expr) (wi:TI):Prop :=
 ∀ (pins:List (Addr × Obj)) (s:Shared) (σ : St) (H:Hp) (R:It->Hp->Prop),Inv X pins σ H s->wi σ H R ->
  wpAny (model X.prog X.w) X.A (eval iter X.env) (fun v s1=>wpAny (model X.prog X.w) X.A (pyIter v) (PIE X pins σ tg R) X.xe s1) X.xe s
theorem go_of {M:Model} {A:Around} {E:Value->Shared->Prop} {s:Shared} {tg:Expr} {it:Addr} {u:Value} {o:Obj} {n:String} {vs:Array Value} {Q:Unit->Shared->Prop} (ho:s.heap.get? it=some o) (hc:o.cls=.type n) (hd:o.data=.fields vs)
    (hn:["enumerate","zip","dict_itemiterator","dict_reverseitemiterator","odict_iterator","itertools.zip_longest","itertools.pairwise"].contains n=false) (hQ:Q () s):wpAny M A (letOwnedTupleGo tg (.ref it) u) Q E s:=by
  unfold letOwnedTupleGo;cases tg <;> first
    | exact wpAny_pure hQ
    | (cases u <;> first
        | exact wpAny_pure hQ
        | (refine wpAny_bind (wpAny_load ho ?_)
           rw [hc,hd];show wpAny M A (if (["enumerate","zip","dict_itemiterator","dict_reverseitemiterator","odict_iterator","itertools.zip_longest","itertools.pairwise"].contains n&&vs[0]? == some (rawInt _))=true then _ else _) Q E s;rw [if_neg (by intro h;rw [hn,Bool.false_and] at h;cases h)];exact wpAny_pure hQ))
def Itl (K:W.Frag) (a:Addr):It :=
 ⟨fun i H=>∃ xs x,SqL K H a xs/\xs[i]?=some x,fun i H x H'=>H'=H/\∀ xs,SqL K H a xs->xs[i]?=some x,fun i H=>∃ xs,SqL K H a xs/\xs.length<=i⟩
def Itt (K:W.Frag) (a:Addr):It :=
 ⟨fun i H=>∃ xs x,SqT K H a xs/\xs[i]?=some x,fun i H x H'=>H'=H/\∀ xs,SqT K H a xs->xs[i]?=some x,fun i H=>∃ xs,SqT K H a xs/\xs.length<=i⟩
def Itr (lo:Int) (n:Nat):It:=⟨fun i _=>i<n,fun i H x H'=>H'=H/\x=.int (lo+i),fun i _=>n<=i⟩
theorem JiN {P:Program} {w:World} {K:W.Frag} {tg:Expr} (a it:Addr):Turn P w K tg (Itl K a) [it] it (fun i h=>h.IsListIter it a i) where
 mem:=by simp
 obj:=fun i h f b j=>by
  have e:b=it:=by simpa using j
  subst e;obtain ⟨o,e,c,d⟩:=f;exact ⟨o,e,fun v z=>by rw [d] at z;cases z⟩
 keep:=fun i h n f k=>f.at fun o e=>k it (by simp) o e
 item:=by
  intro X y M J N i g s σ H E I m f G;subst y M J;obtain ⟨U,x,q,L⟩:=G;obtain ⟨r,t,p,O⟩:=I.list q;obtain ⟨u,Q,S⟩:=t.get L;obtain ⟨C,F,V,B,D,A⟩:=m it (by simp);refine wpAny_pyNext_list_item f p.isList (x:=u) (by simpa using Q) fun n l Y=>?_;have I1:Inv X g σ H { s with heap:=n }:=I.turned (t':=s.toks) (fun b o j e=>(Y.2 b j).trans e) C F B D A;obtain ⟨o,e,c,d⟩:=id l;exact ⟨u,rfl,go_of (s:={ s with heap:=n }) e c d ⋯ ⟨x,H,I1,S,⟨rfl,fun ys T=>by rw [I.list_inj T q];exact L⟩,l,fun b j=>(m b j).1⟩⟩
 done:=by
  intro X y M J N i g s σ H E I m f G;subst y M J;obtain ⟨U,q,L⟩:=G;obtain ⟨r,t,p,O⟩:=I.list q;obtain ⟨C,F,V,B,D,A⟩:=m it (by simp);have Z:=t.length;exact wpAny_pyNext_list_end (I.ok.hd N) f p.isList (by simp;ac_nf) fun n R=>⟨rfl,I.turned (t':=s.toks) (fun b o j e=>R b o j e) C F B D A⟩
 self:=fun _ _ _ _ _ f h=>wpAny_pyIter_listiter f h
theorem JhD {P:Program} {w:World} {K:W.Frag} {tg:Expr} (a it:Addr):Turn P w K tg (Itt K a) [it] it (fun i h=>h.IsTupleIter it a i) where
 mem:=by simp
 obj:=fun i h f b l=>by
  have e:b=it:=by simpa using l
  subst e;obtain ⟨o,e,c,d⟩:=f;exact ⟨o,e,fun v z=>by rw [d] at z;cases z⟩
 keep:=fun i h q f k=>f.at fun o e=>k it (by simp) o e
 item:=by
  intro X y M J N i g s σ H E I n f G;subst y M J;obtain ⟨U,x,r,L⟩:=G;obtain ⟨j,t,p,O⟩:=I.tuple r;obtain ⟨u,Q,S⟩:=t.get L;obtain ⟨C,F,V,B,D,A⟩:=n it (by simp);refine wpAny_pyNext_tuple_item f (show s.heap.IsTuple a j.toArray from p) (x:=u) (by simpa using Q) fun q m Y=>?_;have I1:Inv X g σ H { s with heap:=q }:=I.turned (t':=s.toks) (fun b o l e=>(Y.2 b l).trans e) C F B D A;obtain ⟨o,e,c,d⟩:=id m;exact ⟨u,rfl,go_of (s:={ s with heap:=q }) e c d ⋯ ⟨x,H,I1,S,⟨rfl,fun ys T=>by rw [I.tuple_inj T r];exact L⟩,m,fun b l=>(n b l).1⟩⟩
 done:=by
  intro X y M J N i g s σ H E I n f G;subst y M J;obtain ⟨U,r,L⟩:=G;obtain ⟨j,t,p,O⟩:=I.tuple r;obtain ⟨C,F,V,B,D,A⟩:=n it (by simp);have Z:=t.length;exact wpAny_pyNext_tuple_end (I.ok.hd N) f (show s.heap.IsTuple a j.toArray from p) (by simp;ac_nf) fun q R=>⟨rfl,I.turned (t':=s.toks) (fun b o l e=>R b o l e) C F B D A⟩
 self:=fun _ _ _ _ _ f h=>wpAny_pyIter_tupleiter f h
theorem JhC {P:Program} {w:World} {K:W.Frag} {tg:Expr} (it:Addr) (lo:Int) (n:Nat):Turn P w K tg (Itr lo n) [it] it (fun i h=>IsRangeIter h it (lo+(i:Nat)*1) ((n:Int)-(i:Nat)) 1) where
 mem:=by simp
 obj:=fun i h a b d=>by
  have e:b=it:=by simpa using d
  subst e;exact ⟨_,a,fun v z=>by
   have F:Data.fields _=Data.cell v:=z;cases F⟩
 keep:=fun i h j a k=>k it (by simp) _ a
 item:=by
  intro X l B y A i c s σ H E I g a x;subst l B y;obtain ⟨q,u,L,p,r,m⟩:=g it (by simp);have W:=Walks.range (prog:=X.prog) (w:=X.w) (I.ok.hd A) it lo 1 n;refine W.item i s _ _ x a fun v j C G f J=>?_;obtain ⟨t,rfl⟩:=G;have I1:Inv X c σ H { s with heap:=j,toks:=C }:=I.turned (fun b o d e=>J b o (by simpa using d) e) q u p r m;refine ⟨_,rfl,go_of (s:={ s with heap:=j,toks:=C }) (n:="range_iterator") f rfl rfl ⋯ ⟨.int (lo+i),H,I1,⟨t,?_⟩,⟨rfl,rfl⟩,f,fun b d=>(g b d).1⟩⟩;rw [Int.mul_one]
 done:=by
  intro X l B y A i c s σ H E I g a x;subst l B y;obtain ⟨q,u,L,p,r,m⟩:=g it (by simp);exact wpAny_pyNext_range_end (I.ok.hd A) a (by have : n<=i:=x;ac_nf) fun j D=>⟨rfl,I.turned (t':=s.toks) (fun b o d e=>D b o d e) q u p r m⟩
 self:=fun _ _ _ _ _ a h=>wpAny_pyIter_rangeiter a h
section
variable {X:Cx} {tg:Expr}
theorem Jjk {pins:List (Addr × Obj)} {σ : St} {H:Hp} {s:Shared} {R:It->Hp->Prop} {E:Value->Shared->Prop} {lo hi:Int} {t u v:Tok} {tk:Nat} (I:Inv X pins σ H s) (h1 : -(2 ^ 62)<=lo) (h2:lo<2 ^ 62) (h3 : -(2 ^ 62)<=hi) (h4:hi<2 ^ 62)
  (q:R (Itr lo (hi-lo).toNat) H):wpAny (model X.prog X.w) X.A (pyIter (.ref s.heap.objs.size)) (PIE X pins σ tg R) E { s with heap:=s.heap.push { cls:=.type "range",data:=.fields #[.int lo t, .int hi u, .int 1 v] },toks:=tk }:=by
 refine wpAny_pyIter_range (IsRange.new ..) (small_one h1 h2 h3 h4) ?_;have I1:Inv X pins σ H { s with heap:=s.heap.push { cls:=.type "range",data:=.fields #[.int lo t, .int hi u, .int 1 v] },toks:=tk }:=I.kept fun b o e=>Heap.get?_push_of_some _ e;refine ⟨(s.heap.push { cls:=.type "range",data:=.fields #[.int lo t, .int hi u, .int 1 v] }).objs.size,[(s.heap.push { cls:=.type "range",data:=.fields #[.int lo t, .int hi u, .int 1 v] }).objs.size],_,_,H,rfl,
  I1.kept (t':=tk) fun b o e=>Heap.get?_push_of_some _ e,JhC _ lo (hi-lo).toNat,?_,fun b d=>?_,q⟩
 ·have c:lo+((0:Nat):Int)*1=lo:=by simp
  have a:(((hi-lo).toNat:Nat):Int)-((0:Nat):Int)=Builtin.Range.rangeSize lo hi 1:=by rw [rangeSize_one];split <;> ac_nf
  show IsRangeIter _ _ (lo+((0:Nat):Int)*1) ((((hi-lo).toNat:Nat):Int)-((0:Nat):Int)) 1;rw [c,a];exact Heap.get?_push_size _ rfl
 ·have e:b=(s.heap.push { cls:=.type "range",data:=.fields #[.int lo t, .int hi u, .int 1 v] }).objs.size:=by simpa using d
  subst e;exact I1.fpOk (Nat.le_refl _) (I1.hok.fresh (Nat.le_refl _))
def iRng1 (ta:TA):TI:=fun σ H R=>ta σ H fun vs H1=>∃ j:Int,vs=[.int j]/\-(2 ^ 62)<=j/\j<2 ^ 62/\R (Itr 0 j.toNat) H1
def iRng2 (ta:TA):TI:=fun σ H R=>ta σ H fun vs H1=>∃ i j:Int,vs=[.int i, .int j]/\(-(2 ^ 62)<=i/\i<2 ^ 62/\-(2 ^ 62)<=j/\j<2 ^ 62)/\R (Itr i (j-i).toNat) H1
theorem Jdg {a:Expr} {ta:TA} {p pos:Pos} (hg:Gl X "range") (hm:X.mg "range"=none) (ha:PA X [a] ta) (hs:starEach [a] X.env=[(false,eval a X.env)]:=by rfl):PI X tg (.Call (.Name "range" p) [a] [] pos) (iRng1 ta):=by
 intro b s σ H R I h;refine Call_ (JdZ I hg hm boot_range (PyProof.Rows.callWith_type1 (thn (ha pos b s σ H _ I h) fun g k ζ=>?_) hs rfl));obtain ⟨l,i,I1,d,c⟩:=ζ;obtain ⟨j,e,c,f,q⟩:=c;subst e;cases d with
 | cons r rr=>
  cases rr;obtain ⟨t,rfl⟩:=r;exact call_range_1 (Jjk I1 ∅ ∅ c f (by simpa using q))
def tFor (wi:TI) (g:TG) (tb:TS):TS:=fun D σ H=>wi σ H fun J H1=>∃ W:Nat->Nat->St->Hp->Prop,(∃ m,W 0 m σ H1)/\∀ i m σ H,W i m σ H ->
 (J.stop i H/\D.nx σ H)\/(J.go i H/\∃ N:St->Hp->Prop,(∀ σ' H',N σ' H'->∃ m',m'<m/\W (i+1) m' σ' H')/\∀ x H',J.yld i H x H'->g x σ H' fun σ2 H2=>tb { D with nx:=N,ct:=N,bk:=D.nx } σ2 H2)
def Jg4 (fp:List Addr) (h:Heap):List (Addr × Obj):=fp.filterMap fun b=>(h.get? b).map fun o=>(b,o)
theorem Jb7 {fp:List Addr} {h:Heap} {b:Addr} {o:Obj} (hb:b∈fp) (e:h.get? b=some o):(b,o)∈Jg4 fp h:=List.mem_filterMap.mpr ⟨b,hb,by rw [e];rfl⟩
theorem Jia {fp:List Addr} {h:Heap} {p:Addr × Obj} (hp:p∈Jg4 fp h):p.1∈fp/\h.get? p.1=some p.2:=by
 obtain ⟨b,a,e⟩:=List.mem_filterMap.mp hp;cases q:h.get? b with
 | none=>rw [q] at e;cases e
 | some o=>
  rw [q] at e;have c:(b,o)=p:=Option.some.inj e;subst c;exact ⟨a,q⟩
theorem Inv.pinned {pins:List (Addr × Obj)} {σ : St} {H:Hp} {s:Shared} {fp:List Addr} (I:Inv X pins σ H s) (hf:∀ b∈fp,FpOk X pins H b) (ho:∀ b∈fp, ∃ o,s.heap.get? b=some o/\∀ v,o.data≠.cell v):Inv X (pins++Jg4 fp s.heap) σ H s :=
 I.pins_of fun p i=>(mem_append.mp i).elim (fun z=>I.pin p (mem_append_right _ z)) fun z=>by
  obtain ⟨c,e⟩:=Jia z;obtain ⟨h,f,g,_⟩:=hf p.1 c;obtain ⟨o,a,d⟩:=ho p.1 c;rw [e] at a;cases a;exact ⟨e,h,f,g,d⟩
theorem Inv.unpinned {pins pl:List (Addr × Obj)} {σ : St} {H:Hp} {s:Shared} (I:Inv X (pins++pl) σ H s):Inv X pins σ H s:=I.pins_of fun p a=>I.pin p (mem_append_right _ (List.mem_append_left _ a))
theorem Ja3 {iter:Expr} {body:List Stmt} {wi:TI} {g:TG} {tb:TS} {pos:Pos} (hp:PassesOwn (model X.prog X.w) X.A X.env X.xe) (hc:X.calm=true) (hi:PI X tg iter wi) (hg:PG X tg g) (hb:PSs X body tb)
  (hs:∀ x,foldedSetIterable iter X.env x=pure x:=by intro _;rfl):PS X (.For tg iter body [] pos) (tFor wi g tb):=by
 intro a s σ H D I h;refine wpAny_For (thn (hi a s σ H _ I h) fun v s1 h1=>thn h1 fun Y s2 h2=>?_) hs;obtain ⟨it,q,M,J,H2,e,I2,T,K,Q,W,⟨m0,w0⟩,B⟩:=h2;subst e;have c:∀ {H':Hp},(∀ b∈q,H' b=none)->∀ b∈q,FpOk X a H' b:=fun hn b hb=>⟨hn b hb,(Q b hb).2⟩;refine codeAny_forLoop_any (fun n R=>∃ i σ' H',Inv X a σ' H' R/\M i R.heap/\(∀ b∈q,H' b=none)/\W i n σ' H') ?_ m0 ⟨0,σ,H2,I2,K,fun b hb=>(Q b hb).1,w0⟩;rintro n P ⟨i,σ3,C,I3,t,z,w3⟩;rcases B i n σ3 C w3 with ⟨stop,qn⟩ | ⟨go,N,hN,step⟩
 ·refine wpAny_passesOwn hp (thn (T.done X rfl rfl rfl hc i a P σ3 C X.xe I3 (c z) t stop) fun r Z ⟨G,I4⟩=>?_);subst G;exact wpAny_execs_nil ⟨σ3,C,I4,qn⟩
 ·refine wpAny_passesOwn hp (thn (T.item X rfl rfl rfl hc i a P σ3 C X.xe I3 (c z) t go) fun r Z ⟨u,G,h4⟩=>?_);subst G;refine wpAny_passesOwn hp (thn h4 fun _ O ζ=>?_);obtain ⟨x,L,I5,r5,y5,p,F⟩:=ζ;have I5':=I5.pinned (c F) (T.obj _ _ p);refine wpAny_passesOwn hp (thn (hg _ O σ3 L x u _ I5' r5 (step x L y5)) fun _ s6 ⟨σ6,H6,I6,S⟩=>?_);refine wpAny_passesOwn hp (thn (hb _ s6 σ6 H6 _ I6 S) fun f E l=>?_);have j:∀ {σ7:St} {k:Hp},Inv X (a++Jg4 q O.heap) σ7 k E->N σ7 k->∃ m,m<n/\∃ i σ' H',Inv X a σ' H' E/\M i E.heap/\(∀ b∈q,H' b=none)/\W i m σ' H':=fun {σ7 k} I7 y=>by
   obtain ⟨U,hm,w7⟩:=hN σ7 k y;refine ⟨U,hm,i+1,σ7,k,I7.unpinned,T.keep _ _ _ p fun b hb o e=>(I7.pin (b,o) (mem_append_right _ (mem_append_right _ (Jb7 hb e)))).1,fun b hb=>?_,w7⟩;obtain ⟨o,e,d⟩:=T.obj _ _ p b hb;exact (I7.pin (b,o) (mem_append_right _ (mem_append_right _ (Jb7 hb e)))).2.1
  cases f with
  | next=>obtain ⟨σ7,k,I7,y⟩:=l;exact j I7 y
  | cont=>obtain ⟨σ7,k,I7,y⟩:=l;exact j I7 y
  | brk=>obtain ⟨σ7,k,I7,l⟩:=l;exact ⟨σ7,k,I7.unpinned,l⟩
  | ret v=>obtain ⟨x7,σ7,k,I7,V,l⟩:=l;exact ⟨x7,σ7,k,I7.unpinned,V,l⟩
end
theorem JhQ {lo:Int} {n:Nat} {g:TG} {tb:TS} {D:Ends} {σ : St} {H:Hp} (Pv:Nat->St->Hp->Prop) (h0:Pv 0 σ H)
  (hs:∀ i σ H,i<n->Pv i σ H->g (.int (lo+i)) σ H fun σ2 H2=>tb { D with nx:=Pv (i+1),ct:=Pv (i+1),bk:=D.nx } σ2 H2) (hd:∀ σ H,Pv n σ H->D.nx σ H) :
  ∃ W:Nat->Nat->St->Hp->Prop,(∃ m,W 0 m σ H)/\∀ i m σ H,W i m σ H ->
   ((Itr lo n).stop i H/\D.nx σ H)\/((Itr lo n).go i H/\∃ N:St->Hp->Prop,(∀ σ' H',N σ' H'->∃ m',m'<m/\W (i+1) m' σ' H')/\∀ x H',(Itr lo n).yld i H x H'->g x σ H' fun σ2 H2=>tb { D with nx:=N,ct:=N,bk:=D.nx } σ2 H2):=by
 refine ⟨fun i m σ H=>m=n-i/\i<=n/\Pv i σ H,⟨n,by simp,Nat.zero_le _,h0⟩,?_⟩;rintro i m σ H ⟨rfl,c,p⟩;by_cases a:i<n
 ·refine .inr ⟨a,Pv (i+1),fun σ' H' b=>⟨n-(i+1),by ac_nf,rfl,a,b⟩,fun x H' y=>?_⟩;obtain ⟨e,y⟩:=y;subst e y;exact hs i σ _ a p
 ·have e:i=n:=by ac_nf
  subst e;exact .inl ⟨Nat.le_refl _,hd σ H p⟩
abbrev R2:=V->V->Hp->VK->Prop
def OpR (X:Cx) (f:Value->Value->Sem Value) (r:R2):Prop :=
 ∀ (pins:List (Addr × Obj)) (s:Shared) (σ : St) (H:Hp) (x y:V) (v u:Value) (Q:VK),Inv X pins σ H s->RelV x v->RelV y u->r x y H Q ->
  wpAny (model X.prog X.w) X.A (f v u) (EP X pins σ Q) X.xe s
def UnR (X:Cx) (f:Value->Sem Value) (r:V->Hp->VK->Prop):Prop :=
 ∀ (pins:List (Addr × Obj)) (s:Shared) (σ : St) (H:Hp) (x:V) (v:Value) (Q:VK),Inv X pins σ H s->RelV x v->r x H Q ->
  wpAny (model X.prog X.w) X.A (f v) (EP X pins σ Q) X.xe s
def CallR (X:Cx) (f:Value) (r:List V->Hp->VK->Prop):Prop :=
 ∀ (pins:List (Addr × Obj)) (s:Shared) (σ : St) (H:Hp) (xs:List V) (us:List Value) (Q:VK),Inv X pins σ H s->Vals xs us->r xs H Q ->
  wpAny (model X.prog X.w) X.A (call f us) (EP X pins σ Q) X.xe s
def tOp (r:R2) (ta tb:TE):TE:=fun σ H Q=>ta σ H fun x H1=>tb σ H1 fun y H2=>r x y H2 Q
def tUn (r:V->Hp->VK->Prop) (ta:TE):TE:=fun σ H Q=>ta σ H fun x H1=>r x H1 Q
def rI (C:Int->Int->Prop) (g:Int->Int->V):R2:=fun x y H Q=>∃ i j,x=.int i/\y=.int j/\C i j/\Q (g i j) H
def rI0 (g:Int->Int->V):R2:=fun x y H Q=>∃ i j,x=.int i/\y=.int j/\Q (g i j) H
def rU (g:Int->V):V->Hp->VK->Prop:=fun x H Q=>∃ i,x=.int i/\Q (g i) H
section
variable {X:Cx} {a b c:Expr} {ta tb tc:TE} {pos:Pos}
theorem binT (ha:PE X a ta) (hb:PE X b tb) {pins:List (Addr × Obj)} {s:Shared} {σ : St} {H:Hp} {R:V->V->Hp->Prop} (I:Inv X pins σ H s)
  (h:ta σ H fun x H1=>tb σ H1 fun y H2=>R x y H2) {Q:Value->Shared->Prop} {f:Value->Value->Sem Value}
  (hf:∀ v u s2 x y H2,Inv X pins σ H2 s2->RelV x v->RelV y u->R x y H2->wpAny (model X.prog X.w) X.A (f v u) Q X.xe s2) :
  wpAny (model X.prog X.w) X.A (eval a X.env) (fun v s₁=>wpAny (model X.prog X.w) X.A (eval b X.env) (fun u s₂=>wpAny (model X.prog X.w) X.A (f v u) Q X.xe s₂) X.xe s₁) X.xe s:=by
 refine thn (ha pins s σ H _ I h) fun v d ζ=>?_;obtain ⟨x,H1,I1,c,g⟩:=ζ;refine thn (hb pins d σ H1 _ I1 g) fun u s2 ζ=>?_;obtain ⟨y,H2,I2,e,i⟩:=ζ;exact hf v u s2 x y H2 I2 c e i
theorem pe_op {op:Operator} {r:R2} (ho:OpR X (binaryOp op) r) (ha:PE X a ta) (hb:PE X b tb):PE X (.BinOp a op b pos) (tOp r ta tb):=by
 intro c s σ H Q I h;exact wpAny_BinOp (binT ha hb I h fun v u g x y d I2 f e q=>ho c g σ d x y v u Q I2 f e q)
theorem pe_un {op:UnaryOp} {r:V->Hp->VK->Prop} (ho:UnR X (unaryOp op) r) (ha:PE X a ta):PE X (.UnaryOp op a pos) (tUn r ta):=by
 intro b s σ H Q I h;exact UnaryOp_ (thn (ha b s σ H _ I h) fun v f ⟨x,d,I1,c,e⟩=>ho b f σ d x v Q I1 c e)
theorem opI {f:Value->Value->Sem Value} {C:Int->Int->Prop} {g:Int->Int->Int}
  (rule:∀ (i j:Int) (t u:Tok) (s:Shared) (Q:Value->Shared->Prop) (E:Value->Shared->Prop),C i j->Q (.int (g i j) s.toks) { s with toks:=s.toks+1 }->wpAny (model X.prog X.w) X.A (f (.int i t) (.int j u)) Q E s) :
  OpR X f (rI C fun i j=>.int (g i j)):=by
 intro a s σ H x y v u Q I d c h;obtain ⟨i,j,rfl,rfl,e,q⟩:=h;obtain ⟨t,rfl⟩:=d;obtain ⟨b,rfl⟩:=c;exact rule i j t b s _ _ e ⟨.int (g i j),H,I.tok _,⟨_,rfl⟩,q⟩
theorem opI0 {f:Value->Value->Sem Value} {g:Int->Int->Int}
  (rule:∀ (i j:Int) (t u:Tok) (s:Shared) (Q:Value->Shared->Prop) (E:Value->Shared->Prop),Q (.int (g i j) s.toks) { s with toks:=s.toks+1 }->wpAny (model X.prog X.w) X.A (f (.int i t) (.int j u)) Q E s) :
  OpR X f (rI0 fun i j=>.int (g i j)):=by
 intro a s σ H x y v u Q I d c h;obtain ⟨i,j,rfl,rfl,q⟩:=h;obtain ⟨t,rfl⟩:=d;obtain ⟨b,rfl⟩:=c;exact rule i j t b s _ _ ⟨.int (g i j),H,I.tok _,⟨_,rfl⟩,q⟩
theorem opB0 {f:Value->Value->Sem Value} {g:Int->Int->Bool}
  (rule:∀ (i j:Int) (t u:Tok) (s:Shared) (Q:Value->Shared->Prop) (E:Value->Shared->Prop),Q (.bool (g i j)) s->wpAny (model X.prog X.w) X.A (f (.int i t) (.int j u)) Q E s) :
  OpR X f (rI0 fun i j=>.bl (g i j)):=by
 intro a s σ H x y v u Q I d c h;obtain ⟨i,j,rfl,rfl,q⟩:=h;obtain ⟨t,rfl⟩:=d;obtain ⟨b,rfl⟩:=c;exact rule i j t b s _ _ ⟨.bl (g i j),H,I,rfl,q⟩
def CPow (i j:Int):Prop:=0<=j/\j<=1000000/\i.natAbs<2 ^ 64
theorem Jlk:OpR X (binaryOp .Add) (rI0 fun i j=>.int (i+j)):=opI0 fun _ _ _ _ _ _ _ q=>add_int q
theorem JfT:OpR X (binaryOp .Sub) (rI0 fun i j=>.int (i-j)):=opI0 fun _ _ _ _ _ _ _ q=>sub_int q
theorem Jkv:OpR X (binaryOp .Mod) (rI (fun _ j=>j≠0) fun i j=>.int (i.fmod j)):=opI fun _ _ _ _ _ _ _ a q=>mod_int' a q
theorem Jlr:OpR X (binaryOp .Pow) (rI CPow fun i j=>.int (i ^ j.toNat)):=opI fun _ _ _ _ _ _ _ a q=>pow_int_small a.1 a.2.1 a.2.2 q
theorem unI {f:Value->Sem Value} {g:Int->Int}
  (rule:∀ (i:Int) (t:Tok) (s:Shared) (Q:Value->Shared->Prop) (E:Value->Shared->Prop),Q (.int (g i) s.toks) { s with toks:=s.toks+1 }->wpAny (model X.prog X.w) X.A (f (.int i t)) Q E s) :
  UnR X f (rU fun i=>.int (g i)):=by
 intro a s σ H x v Q I b h;obtain ⟨i,rfl,q⟩:=h;obtain ⟨t,rfl⟩:=b;exact rule i t s _ _ ⟨.int (g i),H,I.tok _,⟨_,rfl⟩,q⟩
theorem JeT:UnR X (unaryOp .USub) (rU fun i=>.int (-i)):=unI fun _ _ _ _ _ q=>neg_int q
end
def scal:V->V->Bool
 | .non, .non=>true | .non, .int _=>true | .int _, .non=>true | .non, .bl _=>true | .bl _, .non=>true | .non, .str _=>true | .str _, .non=>true
 | .int _, .int _=>true | .bl _, .bl _=>true | .str _, .str _=>true | .byt _, .byt _=>true
 | .int _, .str _=>true | .str _, .int _=>true | .bl _, .str _=>true | .str _, .bl _=>true
 | _,_=>false
def rEq:R2:=fun x y H Q=>scal x y=true/\Q (.bl (decide (x=y))) H
def rNe:R2:=fun x y H Q=>scal x y=true/\Q (.bl (!decide (x=y))) H
theorem JhM {i j:Int}:decide (V.int i=V.int j)=(i == j):=by
 rw [Bool.eq_iff_iff];simp
theorem Jjy {i j:Bool}:decide (V.bl i=V.bl j)=(i == j):=by
 rw [Bool.eq_iff_iff];simp
theorem JhN {i j:Str}:decide (V.str i=V.str j)=(i == j):=by
 rw [Bool.eq_iff_iff];simp
theorem JhL {i j:Array UInt8}:decide (V.byt i=V.byt j)=(i.toList == j.toList):=by
 rw [Bool.eq_iff_iff];cases i;cases j;simp
section
variable {X:Cx} {a b c:Expr} {ta tb tc:TE} {pos:Pos}
theorem JaP {pins:List (Addr × Obj)} {σ : St} {H:Hp} {s:Shared} {Q:VK} {k k':Bool} (I:Inv X pins σ H s) (q:Q (.bl k) H) (e:k=k'):EP X pins σ Q (.bool k') s:=by
 subst e;exact ⟨.bl k,H,I,rfl,q⟩
theorem op_eq:OpR X (compareOp .Eq) rEq:=by
 intro e s σ H x y v u Q I d a h;obtain ⟨c,q⟩:=h;cases x with
 | non=>
  cases d;cases y with
  | non=>cases a;exact PySem.EqNone.eq_none_none (JaP I q (by simp))
  | bl j=>cases a;exact PySem.EqNone.eq_none_bool (JaP I q (by simp))
  | int j=>obtain ⟨b,rfl⟩:=a;exact PySem.EqNone.eq_none_int (JaP I q (by simp))
  | str j=>obtain ⟨b,rfl⟩:=a;exact PySem.EqNone.eq_none_str (JaP I q (by simp))
  | _=>exact absurd (show false=true from c) Bool.false_ne_true
 | bl i=>
  cases d;cases y with
  | non=>cases a;exact PySem.EqNone.eq_bool_none (JaP I q (by simp))
  | bl j=>cases a;exact eq_bool (JaP I q Jjy)
  | str j=>obtain ⟨b,rfl⟩:=a;exact PySem.EqMixed.eq_bool_str (JaP I q (by simp))
  | _=>exact absurd (show false=true from c) Bool.false_ne_true
 | int i=>
  obtain ⟨t,rfl⟩:=d;cases y with
  | non=>cases a;exact PySem.EqNone.eq_int_none (JaP I q (by simp))
  | int j=>obtain ⟨b,rfl⟩:=a;exact eq_int (JaP I q JhM)
  | str j=>obtain ⟨b,rfl⟩:=a;exact PySem.EqMixed.eq_int_str (JaP I q (by simp))
  | _=>exact absurd (show false=true from c) Bool.false_ne_true
 | str i=>
  obtain ⟨t,rfl⟩:=d;cases y with
  | non=>cases a;exact PySem.EqNone.eq_str_none (JaP I q (by simp))
  | bl j=>cases a;exact PySem.EqMixed.eq_str_bool (JaP I q (by simp))
  | int j=>obtain ⟨b,rfl⟩:=a;exact PySem.EqMixed.eq_str_int (JaP I q (by simp))
  | str j=>obtain ⟨b,rfl⟩:=a;exact eq_str (JaP I q JhN)
  | _=>exact absurd (show false=true from c) Bool.false_ne_true
 | byt i=>
  obtain ⟨t,rfl⟩:=d;cases y with
  | byt j=>obtain ⟨b,rfl⟩:=a;exact W.eq_bytes (JaP I q JhL)
  | _=>exact absurd (show false=true from c) Bool.false_ne_true
 | _=>cases y <;> exact absurd (show false=true from c) Bool.false_ne_true
theorem op_ne:OpR X (compareOp .NotEq) rNe:=by
 intro e s σ H x y v u Q I d a h;obtain ⟨c,q⟩:=h;cases x with
 | non=>
  cases d;cases y with
  | non=>cases a;exact PySem.EqNone.ne_none_none (JaP I q (by simp))
  | bl j=>cases a;exact PySem.EqNone.ne_none_bool (JaP I q (by simp))
  | int j=>obtain ⟨b,rfl⟩:=a;exact PySem.EqNone.ne_none_int (JaP I q (by simp))
  | str j=>obtain ⟨b,rfl⟩:=a;exact PySem.EqNone.ne_none_str (JaP I q (by simp))
  | _=>exact absurd (show false=true from c) Bool.false_ne_true
 | bl i=>
  cases d;cases y with
  | non=>cases a;exact PySem.EqNone.ne_bool_none (JaP I q (by simp))
  | bl j=>cases a;exact ne_bool (JaP I q (congrArg not Jjy))
  | str j=>obtain ⟨b,rfl⟩:=a;exact PySem.EqMixed.ne_bool_str (JaP I q (by simp))
  | _=>exact absurd (show false=true from c) Bool.false_ne_true
 | int i=>
  obtain ⟨t,rfl⟩:=d;cases y with
  | non=>cases a;exact PySem.EqNone.ne_int_none (JaP I q (by simp))
  | int j=>obtain ⟨b,rfl⟩:=a;exact ne_int (JaP I q (congrArg not JhM))
  | str j=>obtain ⟨b,rfl⟩:=a;exact PySem.EqMixed.ne_int_str (JaP I q (by simp))
  | _=>exact absurd (show false=true from c) Bool.false_ne_true
 | str i=>
  obtain ⟨t,rfl⟩:=d;cases y with
  | non=>cases a;exact PySem.EqNone.ne_str_none (JaP I q (by simp))
  | bl j=>cases a;exact PySem.EqMixed.ne_str_bool (JaP I q (by simp))
  | int j=>obtain ⟨b,rfl⟩:=a;exact PySem.EqMixed.ne_str_int (JaP I q (by simp))
  | str j=>obtain ⟨b,rfl⟩:=a;exact ne_str (JaP I q (congrArg not JhN))
  | _=>exact absurd (show false=true from c) Bool.false_ne_true
 | byt i=>
  obtain ⟨t,rfl⟩:=d;cases y with
  | byt j=>obtain ⟨b,rfl⟩:=a;exact W.ne_bytes (JaP I q (congrArg not JhL))
  | _=>exact absurd (show false=true from c) Bool.false_ne_true
 | _=>cases y <;> exact absurd (show false=true from c) Bool.false_ne_true
theorem op_lt:OpR X (compareOp .Lt) (rI0 fun i j=>.bl (decide (i<j))):=opB0 fun _ _ _ _ _ _ _ q=>lt_int q
theorem op_gt:OpR X (compareOp .Gt) (rI0 fun i j=>.bl (decide (j<i))):=opB0 fun _ _ _ _ _ _ _ q=>gt_int q
theorem op_ge:OpR X (compareOp .GtE) (rI0 fun i j=>.bl (decide (j<=i))):=opB0 fun _ _ _ _ _ _ _ q=>ge_int q
theorem Jig:OpR X (compareOp .In) (fun x y H Q=>∃ i j,x=.str i/\y=.str j/\Q (.bl (!(Builtin.Str.occurrences j i 0 j.length 1).isEmpty)) H):=by
 intro a s σ H x y v u Q I c b h;obtain ⟨i,j,rfl,rfl,q⟩:=h;obtain ⟨t,rfl⟩:=c;obtain ⟨d,rfl⟩:=b;exact in_str (JaP I q rfl)
theorem Jlp:OpR X (compareOp .Is) (fun x y H Q=>y=.non/\Q (.bl (decide (x=.non))) H):=by
 intro b s σ H x y v u Q I a c h;obtain ⟨rfl,q⟩:=h;cases c;refine is_none_gen (JaP I q ?_);cases x <;> first
  | (cases a;rfl)
  | (obtain ⟨t,rfl⟩:=a;rfl)
theorem Jky:OpR X (compareOp .IsNot) (fun x y H Q=>y=.non/\Q (.bl (!decide (x=.non))) H):=by
 intro b s σ H x y v u Q I a c h;obtain ⟨rfl,q⟩:=h;cases c;refine isnot_none_gen (JaP I q ?_);cases x <;> first
  | (cases a;rfl)
  | (obtain ⟨t,rfl⟩:=a;rfl)
theorem Jaw (b:Expr) {op:CmpOp} (h:op≠.In:=by decide) (h2:op≠.NotIn:=by decide):behindInMarks op b=false:=by
 have a:(op == CmpOp.In)=false:=by cases op <;> first | rfl | exact absurd rfl h
 have c:(op == CmpOp.NotIn)=false:=by cases op <;> first | rfl | exact absurd rfl h2
 cases b <;> simp [behindInMarks,a,c]
theorem Jbu {op:CmpOp} {r:R2} (ho:OpR X (compareOp op) r) (ha:PE X a ta) (hb:PE X b tb) (hm:behindInMarks op b=false):PE X (.Compare a [op] [b] pos) (tOp r ta tb):=by
 intro c s σ H Q I h;exact wpAny_Compare1 (binT ha hb I h fun v u g x y d I2 f e q=>ho c g σ d x y v u Q I2 f e q) hm
def tTest (t:TE):TT:=fun σ H Q=>t σ H fun x H'=>∃ k,x=.bl k/\Q k H'
theorem Jay {op:CmpOp} {r:R2} (ho:OpR X (compareOp op) r) (ha:PE X a ta) (hb:PE X b tb) (hm:behindInMarks op b=false):PT X (.Compare a [op] [b] pos) (tTest (tOp r ta tb)):=by
 intro d s σ H Q I h;refine wpAny_isTrue_Compare1 (thn (ha d s σ H _ I h) fun v j ⟨x,t,I1,n,q⟩=>thn (hb d j σ t _ I1 q) fun u p ⟨y,m,I2,f,i⟩=>
  thn (ho d p σ m x y v u _ I2 n f i) fun c w ⟨z,o,I3,l,k,e,g⟩=>?_) hm
 subst e;cases l;exact wpAny_truthy_bool ⟨o,I3,g⟩
theorem JeO:(sizeLine:Nat)<2 ^ 63:=by rw [sizeLine_eq];decide
theorem Jht:OpR X (binaryOp .Add) (fun x y H Q=>∃ i j,x=.str i/\y=.str j/\i.length+j.length<=sizeLine/\Q (.str (i++j)) H):=by
 intro a s σ H x y v u Q I d c h;obtain ⟨i,j,rfl,rfl,b,q⟩:=h;obtain ⟨t,rfl⟩:=d;obtain ⟨e,rfl⟩:=c;exact add_str (fun e f=>⟨.str (i++j),H,I.tok _,⟨_,rfl⟩,q⟩) b
theorem vals1 {x:V} {us:List Value} (r:Vals [x] us):∃ u,us=[u]/\RelV x u:=by
 cases r with
 | cons r1 r2=>cases r2;exact ⟨_,rfl,r1⟩
theorem vals2 {x y:V} {us:List Value} (r:Vals [x,y] us):∃ u w',us=[u,w']/\RelV x u/\RelV y w':=by
 cases r with
 | cons r1 r2=>
  cases r2 with
  | cons r3 r4=>cases r4;exact ⟨_,_,rfl,r1,r3⟩
theorem JiW:CallR X (.builtin "abs") (fun xs H Q=>∃ i,xs=[.int i]/\Q (.int (if i<0 then -i else i)) H):=by
 intro a s σ H xs b Q I r h;obtain ⟨i,rfl,q⟩:=h;obtain ⟨u,rfl,t,rfl⟩:=vals1 r;exact call_abs_int fun u c=>⟨.int (if i<0 then -i else i),H,I.tok _,⟨_,rfl⟩,q⟩
theorem JhF (hc:X.calm=true):CallR X (.builtin "min") (fun xs H Q=>∃ i j,xs=[.int i, .int j]/\Q (.int (if j<i then j else i)) H):=by
 intro b s σ H xs e Q I r h;obtain ⟨i,j,rfl,q⟩:=h;obtain ⟨u,d,rfl,⟨t,rfl⟩,⟨f,rfl⟩⟩:=vals2 r;refine min_two_ints (I.ok.hd hc) fun g c k=>⟨_,H,I.kept k,?_,q⟩;by_cases a:j<i
 ·rw [if_pos a,if_pos a];exact ⟨_,rfl⟩
 ·rw [if_neg a,if_neg a];exact ⟨_,rfl⟩
end
structure ObjM (h:Heap) (x dx C:Addr) (mA:Str->Option Value):Prop where
 obj:h.get? x=some (W.instObj C dx)
 ns:h.Ns1 dx mA
 ne:dx≠x
theorem JfJ {h:Heap} {dx:Addr} {mA:Str->Option Value} (n:h.Ns1 dx mA):∃ od,h.get? dx=some od/\∀ name,W.lookIn name od=some (mA name):=by
 obtain ⟨o,c,l,i,k,d,_,j⟩:=n;refine ⟨o,i,fun name=>?_⟩;have e:=j name;unfold nsFind findBy at e;rw [<- Array.find?_toList] at e;unfold W.lookIn;rw [k];dsimp only;split
 ·rename_i y q;rw [q] at e;exact congrArg some e
 ·rename_i q;rw [q] at e;have a:c.toList.any (·.refKey)=false:=by
   rw [List.any_eq_false];intro y g;obtain ⟨z,t,b⟩:=d y (Array.mem_toList_iff.mp g);simp [DictEntry.refKey,b]
  have f:¬ c.toList.any (·.refKey)=true:=by rw [a];exact Bool.false_ne_true
  rw [if_neg f];exact congrArg some e
theorem ObjM.look {h:Heap} {x dx C:Addr} {mA:Str->Option Value} (I:ObjM h x dx C mA):∃ od,W.InstAt h x (W.instObj C dx) C (some od)/\∀ name,W.lookIn name od=some (mA name) :=
 let ⟨od,ho,hl⟩:=JfJ I.ns
 ⟨od,⟨I.obj,rfl,rfl,ho⟩,hl⟩
section
variable {prog:Program} {w:World} {A:Around} {E:Value->Shared->Prop} {s:Shared} {K:W.Frag} {x dx C f:Addr} {mA:Str->Option Value} {name:Str} {v:Value}
theorem get_map {expr:Bool} {Q:Value->Shared->Prop} (X:K.In s.heap) (I:ObjM s.heap x dx C mA) (hg:W.plainGet K C name=true) (hh:W.hasDictIn K C=true)
  (ha:W.findIn K (.ref C) name=some none) (hv:mA name=some v) (hv':W.handedIn v=true) (h:Q v { s with toks:=s.toks+1 }) :
  wpAny (model prog w) A (getAttr (.ref x) name expr) Q E s:=by
 obtain ⟨b,J,a⟩:=I.look;exact W.get_value X J (W.plainGet_of hg).1 (W.findObj_own hh ha rfl (by rw [a,hv])) hv' h
theorem JiZ {pl:Sem Bool} {Q:Value × List Value->Shared->Prop} (X:K.In s.heap) (I:ObjM s.heap x dx C mA) (hg:W.plainGet K C name=true)
  (hf:W.findIn K (.ref C) name=some (some (.ref f))) (ht:W.isFn K (.ref f)=true) (hv:mA name=none) (h:Q (.ref f,[.ref x]) s) :
  wpAny (model prog w) A (getMethod (.ref x) name pl) Q E s:=by
 obtain ⟨a,J,b⟩:=I.look;exact W.method_fn X J (W.plainGet_of hg).1 (W.plainGet_of hg).2 hf (beq_iff_eq.mp ht) (by show (W.lookIn name a).map (·.isSome)=some false;rw [b,hv];rfl) h
theorem JkL {ns:List Str} {Q:Unit->Shared->Prop} (X:K.In s.heap) (I:ObjM s.heap x dx C mA)
  (hs:W.findIn K (.ref C) "__setattr__"=some (some (.builtin "object.__setattr__"))) (hp:W.plainOver K C=true) (ht:W.takerIn K C name=some none) (hh:W.hasDictIn K C=true)
  (hw:PySem.Within mA ns) (hsz:ns.length<=sizeLine)
  (h:∀ h',ObjM h' x dx C (fun y=>if y=name then some v else mA y)->Heap.SameBut dx s.heap h'->Q () { s with heap:=h',toks:=s.toks+2 }) :
  wpAny (model prog w) A (setAttr (.ref x) name v) Q E s:=by
 obtain ⟨p,J,q⟩:=I.look;refine W.set_plain X J hs (W.osa_open (s:={ s with toks:=s.toks+1 }) (r:=none) X J hp ht fun b=>?_);obtain ⟨n,l,f⟩:=W.any_some hh;have k:s.heap.get? x=some ⟨.ref C,some dx, .plain, #[]⟩:=I.obj;refine wpAny_bind (wpAny_pure (wpAny_bind (wpAny_bind (wpAny_loadPart k (wpAny_bind (W.Looks.here (s:={ s with toks:=s.toks+1 }) (W.looks_clsIn X l) ?_))))));rw [f];refine wpAny_pure (a:=some dx) (wpAny_bind (wpAny_pure (wpAny_bind ?_)));refine wpAny_nsSet1 (s:={ s with toks:=s.toks+1 }) I.ns fun h' d c=>?_;obtain ⟨o,j,m,i,g,e⟩:=d.count (PySem.Within.cons name v hw);refine wpAny_bind (wpAny_lookBehind i (by rw [g];exact pastItsLine_dict (Nat.le_trans e (by rw [length_cons];ac_nf))) ?_);exact wpAny_pure (h _ ⟨(c.2 _ (Ne.symm I.ne)).trans I.obj,d,I.ne⟩ c)
theorem Ji3 {R:Result->Shared->Prop} {vs:List Value} {kw:List (Str × Value)} (X:K.In s.heap) (hm:W.makesIn K C=true)
  (hi:W.findIn K (.ref C) "__init__"=some (some (.ref f))) (hf:W.typeIn K (.ref f)=some (.type "function"))
  (h:codeAny (model prog w) (A.under (.builtin "type.__call__" ⟨.ref C::vs,kw⟩)) (.call (.ref f) ⟨.ref (s.heap.objs.size+1)::vs,kw⟩) (W.InitBack (s.heap.objs.size+1) R)
   { s with heap:=(s.heap.push W.emptyDict).push (W.instObj C s.heap.objs.size) }) :
  codeAny (model prog w) A (.call (.ref C) ⟨vs,kw⟩) R s:=by
 obtain ⟨c,g,d,t,b⟩:=s;exact W.make_core (W.makes_of X hm) (W.looks_findIn X hi) (fun a=>W.bind_fn X a hf) (.inl rfl) h
end
def putF (f:Str) (v:V):List (Str × V)->List (Str × V)
 | []=>[(f,v)]
 | (g,x)::r=>if g=f then (g,v)::r else (g,x)::putF f v r
theorem Jd4 (f g:Str) (v:V):∀ fs:List (Str × V),(putF f v fs).lookup g=if g=f then some v else fs.lookup g
 | []=>by
  show List.lookup g [(f,v)]=_;by_cases h:g=f
  ·have hb:(g == f)=true:=beq_iff_eq.mpr h;simp only [List.lookup,hb,if_pos h]
  ·have hb:(g == f)=false:=beq_eq_false_iff_ne.mpr h;simp only [List.lookup,hb,if_neg h]
 | (k,x)::r=>by
  have ih:=Jd4 f g v r;rw [show putF f v ((k,x)::r)=(if k=f then (k,v)::r else (k,x)::putF f v r) from rfl];by_cases hk:k=f
  ·rw [if_pos hk];by_cases h:g=k
   ·have hb:(g == k)=true:=beq_iff_eq.mpr h;simp only [List.lookup,hb,if_pos (h.trans hk)]
   ·have hb:(g == k)=false:=beq_eq_false_iff_ne.mpr h;simp only [List.lookup,hb,if_neg (fun e:g=f=>h (e.trans hk.symm))]
  ·rw [if_neg hk];by_cases h:g=k
   ·have hb:(g == k)=true:=beq_iff_eq.mpr h;simp only [List.lookup,hb,if_neg (fun e:g=f=>hk (h.symm.trans e))]
   ·have hb:(g == k)=false:=beq_eq_false_iff_ne.mpr h;simp only [List.lookup,hb];exact ih
theorem JdY (f:Str) (v:V):∀ fs:List (Str × V),f∈(putF f v fs).map (·.1)/\∀ g,g∈fs.map (·.1)->g∈(putF f v fs).map (·.1)
 | []=>⟨by simp [putF],fun g h=>by simp at h⟩
 | (k,x)::r=>by
  obtain ⟨i1,i2⟩:=JdY f v r;rw [show putF f v ((k,x)::r)=(if k=f then (k,v)::r else (k,x)::putF f v r) from rfl];by_cases hk:k=f
  ·rw [if_pos hk];subst hk;exact ⟨by simp,fun g h=>by simpa using h⟩
  ·rw [if_neg hk];refine ⟨?_,fun g h=>?_⟩
   ·rw [map_cons];exact mem_cons_of_mem _ i1
   ·rw [map_cons] at h ⊢;rcases mem_cons.mp h with e | e
    ·exact mem_cons.mpr (.inl e)
    ·exact mem_cons_of_mem _ (i2 g e)
theorem Jd3 (f:Str) (v:V):∀ fs:List (Str × V),(putF f v fs).length<=fs.length+1
 | []=>by simp [putF]
 | (k,x)::r=>by
  have ih:=Jd3 f v r;rw [show putF f v ((k,x)::r)=(if k=f then (k,v)::r else (k,x)::putF f v r) from rfl];by_cases hk:k=f
  ·rw [if_pos hk,length_cons,length_cons];ac_nf
  ·rw [if_neg hk,length_cons,length_cons];ac_nf
theorem RelO.some_of {v:V} {o:Option Value} (r:RelO (some v) o):∃ u,o=some u/\RelV v u:=by
 cases o with
 | none=>exact (show False from r).elim
 | some u=>exact ⟨u,rfl,r⟩
theorem RelO.none_of {o:Option Value} (r:RelO none o):o=none:=by
 cases o with
 | none=>rfl
 | some u=>exact (show False from r).elim
theorem JhW {v:V} {u:Value} (r:RelV v u):W.handedIn u=true:=by
 cases v with
 | non=>cases (show u=Value.none from r);rfl
 | bl b=>cases (show u=Value.bool b from r);rfl
 | int i=>obtain ⟨t,e⟩:=(show ∃ t,u=Value.int i t from r);cases e;rfl
 | str x=>obtain ⟨t,e⟩:=(show ∃ t,u=Value.str x t from r);cases e;rfl
 | byt b=>obtain ⟨t,e⟩:=(show ∃ t,u=Value.bytes b t from r);cases e;rfl
 | flt b=>obtain ⟨t,e⟩:=(show ∃ t,u=Value.float b t from r);cases e;rfl
 | ref a=>cases (show u=Value.ref a from r);rfl
 | ty n=>cases (show u=Value.type n from r);rfl
section
variable {P:Program} {w:World} {H H':Hp} {h h':Heap} {a C dx:Addr} {fs fs':List (Str × V)}
theorem Jgj (hok:HOk P w H h) (e:H a=some (.ins C dx fs)):∃ mA,ObjM h a dx C mA/\(∀ f,RelO (fs.lookup f) (mA f))/\PySem.Within mA (fs.map (·.1))/\fs.length<=1000/\H dx=some (.own a):=by
 obtain ⟨d,z,b,c,mA,n,r,q⟩:=(show ObjOk P w H h a (.ins C dx fs) from hok a _ e);exact ⟨mA,⟨c,n,b⟩,r,q,z,d⟩
end
structure Cls (K:W.Frag) (C:Addr):Prop where
 pg:W.plainGet K C Str.empty=true
 hd:W.hasDictIn K C=true
 po:W.plainOver K C=true
 sa:W.findIn K (.ref C) "__setattr__"=some (some (.builtin "object.__setattr__"))
theorem Cls.get {K:W.Frag} {C:Addr} (c:Cls K C) (f:Str):W.plainGet K C f=true:=c.pg
def JaK (K:W.Frag) (C:Addr) (f:Str):Prop:=W.findIn K (.ref C) f=some none
theorem JaK.taker {K:W.Frag} {C:Addr} {f:Str} (n:JaK K C f):W.takerIn K C f=some none:=by
 unfold W.takerIn;rw [show W.findIn K (.ref C) f=some none from n];rfl
structure Meth (K:W.Frag) (C:Addr) (m:Str) (f:Addr):Prop where
 at_:W.findIn K (.ref C) m=some (some (.ref f))
 fn:W.isFn K (.ref f)=true
 kp:W.keepIn K (.ref f)=true
section
variable {X:Cx} {pins:List (Addr × Obj)} {σ : St} {H:Hp} {s:Shared} {a C dx:Addr} {fs:List (Str × V)} {f:Str} {v:V} {A:Around} {E:Value->Shared->Prop}
theorem Jhg {b:Bool} {Q:Value->Shared->Prop} (I:Inv X pins σ H s) (e:H a=some (.ins C dx fs)) (c:Cls X.K C) (n:JaK X.K C f) (l:fs.lookup f=some v)
  (h:∀ u s',Inv X pins σ H s'->RelV v u->Q u s'):wpAny (model X.prog X.w) A (getAttr (.ref a) f b) Q E s:=by
 obtain ⟨i,O,r,_,_,_⟩:=Jgj I.hok e;obtain ⟨u,g,d⟩:=RelO.some_of (v:=v) (o:=i f) (by rw [<- l];exact r f);exact get_map I.kIn O (c.get f) c.hd n g (JhW d) (h u _ (I.tok _) d)
theorem JeN {m:Str} {g:Addr} {pl:Sem Bool} {Q:Value × List Value->Shared->Prop} (I:Inv X pins σ H s) (e:H a=some (.ins C dx fs)) (c:Cls X.K C) (k:Meth X.K C m g) (l:fs.lookup m=none)
  (h:Q (.ref g,[.ref a]) s):wpAny (model X.prog X.w) A (getMethod (.ref a) m pl) Q E s:=by
 obtain ⟨b,O,r,_,_,_⟩:=Jgj I.hok e;have d:b m=none:=RelO.none_of (by rw [<- l];exact r m);exact JiZ I.kIn O (c.get m) k.at_ k.fn d h
theorem Jhz {y:V} {u:Value} {Q:Unit->Shared->Prop} (I:Inv X pins σ H s) (e:H a=some (.ins C dx fs)) (c:Cls X.K C) (n:JaK X.K C f) (hl:fs.length<1000) (ry:RelV y u)
  (h:∀ s',Inv X pins σ (upd H a (.ins C dx (putF f y fs))) s'->Q () s'):wpAny (model X.prog X.w) A (setAttr (.ref a) f u) Q E s:=by
 obtain ⟨i,O,r,j,_,d⟩:=Jgj I.hok e;have k:(fs.map (·.1)).length<=sizeLine:=by rw [length_map,sizeLine_eq];ac_nf
 refine JkL I.kIn O c.sa c.po n.taker c.hd j k fun l O' t=>h _ ?_;have v:∃ o,l.get? dx=some o:=let ⟨o,_,_,e',_⟩:=O'.ns;⟨o,e'⟩;refine I.write (x:=a) (e:=dx) (by rw [e];exact True.intro) (.inr d) (fun b q m z=>(t.2 b m).trans z) v ?_;refine ⟨by rw [Jag O.ne];exact d,?_,O.ne,O'.obj,_,O'.ns,fun g=>?_,fun g p=>?_⟩
 ·have:=Jd3 f y fs;ac_nf
 ·show RelO ((putF f y fs).lookup g) (if g=f then some u else i g);rw [Jd4];by_cases q:g=f
  ·rw [if_pos q,if_pos q];exact ry
  ·rw [if_neg q,if_neg q];exact r g
 ·by_cases q:g=f
  ·rw [q];exact (JdY f y fs).1
  ·refine (JdY f y fs).2 g (j g fun z=>p ?_);show (if g=f then some u else i g)=none;rw [if_neg q];exact z
theorem Inv.made (I:Inv X pins σ H s):Inv X pins σ (upd (upd H s.heap.objs.size (.own (s.heap.objs.size+1))) (s.heap.objs.size+1) (.ins C s.heap.objs.size []))
  { s with heap:=(s.heap.push W.emptyDict).push (W.instObj C s.heap.objs.size) }:=by
 have c:(s.heap.push W.emptyDict).get? s.heap.objs.size=some W.emptyDict:=Heap.get?_push_size s.heap rfl;have f:((s.heap.push W.emptyDict).push (W.instObj C s.heap.objs.size)).get? (s.heap.objs.size+1)=some (W.instObj C s.heap.objs.size):=by
  have:=Heap.get?_push_size (s.heap.push W.emptyDict) (o:=W.instObj C s.heap.objs.size) rfl
  rwa [Heap.size_push] at this
 have g:(s.heap.push W.emptyDict).Ns s.heap.objs.size (fun _=>none):=⟨W.emptyDict, #[],_,c,rfl,(fun e h=>absurd h (by simp)),fun _=>rfl⟩;have I1:=I.laid (a:=s.heap.objs.size) (o:=.own (s.heap.objs.size+1)) (h':=s.heap.push W.emptyDict) (t':=s.toks) (fun b u q=>Heap.get?_push_of_some _ q) (Nat.le_refl _) ⟨_,c⟩;refine I1.laid (a:=s.heap.objs.size+1) (o:=.ins C s.heap.objs.size []) (t':=s.toks) (fun b u q=>Heap.get?_push_of_some _ q) (Nat.le_of_eq (Heap.size_push _ _)) ?_;have d:s.heap.objs.size≠s.heap.objs.size+1:=Nat.ne_of_lt (Nat.lt_succ_self _);refine ⟨by rw [Jag d,Jaj],Nat.zero_le _,d,f,fun _=>none,(Heap.Ns1.of_empty g).at fun o q=>Heap.get?_push_of_some _ q,fun _=>True.intro,fun y i=>absurd rfl i⟩
theorem Jj0 {prog:Program} {w:World} {env:Env} {e:Expr} {f:Str} {pos:Pos} {s:Shared} {Q:Value->Shared->Prop} (hb:attributeBase e f env (eval e env)=eval e env)
  (h:wpAny (model prog w) A (eval e env) (fun o s₁=>wpAny (model prog w) A (getAttr o f true) Q E s₁) E s):wpAny (model prog w) A (eval (.Attribute e f pos) env) Q E s :=
 Attribute_any_ h (by rw [arm_eval_Attribute,hb])
end
def tFld (K:W.Frag) (ta:TE) (f:Str):TE:=fun σ H Q=>ta σ H fun x H1=>∃ a C dx fs v,x=.ref a/\H1 a=some (.ins C dx fs)/\Cls K C/\JaK K C f/\fs.lookup f=some v/\Q v H1
def sFld (K:W.Frag) (ta tv:TE) (f:Str):TS:=fun D σ H=>tv σ H fun y H1=>ta σ H1 fun x H2=>∃ a C dx fs,x=.ref a/\H2 a=some (.ins C dx fs)/\Cls K C/\JaK K C f/\fs.length<1000 /\
 D.nx σ (upd H2 a (.ins C dx (putF f y fs)))
section
variable {X:Cx} {o e value:Expr} {f:Str} {pos pos' tpos:Pos} {ta tv:TE}
theorem Jaq (he:PE X e ta) (hb:attributeBase e f X.env (eval e X.env)=eval e X.env):PE X (.Attribute e f pos) (tFld X.K ta f):=by
 intro b s σ H Q I h;refine Jj0 hb (thn (he b s σ H _ I h) fun u o ζ=>?_);obtain ⟨x,j,I1,g,a,C,m,p,v,d,k,c,n,l,q⟩:=ζ;subst d;obtain rfl:u=Value.ref a:=g;exact Jhg I1 k c n l fun r t I2 i=>⟨v,j,I2,i,q⟩
theorem JaR (ha:PE X o ta) (hv:PE X value tv) (hs:swapsWith value (some (.Attribute o f pos')) pos.line X.env=pure false):PS X (.Assign [.Attribute o f pos'] value pos) (sFld X.K ta tv f):=by
 intro b s σ H D I h;refine plainObj_wpAny_Assign_Attribute (thn (hv b s σ H _ I h) fun u g ⟨y,m,I1,i,q⟩=>thn (ha b g σ m _ I1 q) fun k w ζ=>?_) hs;obtain ⟨x,v,I2,j,a,C,r,t,d,p,c,n,l,e⟩:=ζ;subst d;obtain rfl:k=Value.ref a:=j;exact Jhz I2 p c n l i fun z I3=>⟨σ,_,I3,e⟩
end
section
variable {X:Cx} {pins:List (Addr × Obj)} {σ : St} {H:Hp} {s:Shared} {A:Around} {E:Value->Shared->Prop} {Q:Value->Shared->Prop} {c:Value} {b:Bool}
end
structure Room (k:Nat) (A:Around):Prop where
 hd:A.handled=none
 dp:A.depth+3*k+5<recursionLimit
 un:A.units+16*k+200<cLine
theorem Room.mono {j k:Nat} {A:Around} (r:Room k A) (h:j<=k):Room j A:=⟨r.hd,by have:=r.dp;ac_nf,by have:=r.un;ac_nf⟩
theorem Room.deeper {k:Nat} {A:Around} (r:Room (k+1) A) (env:Env):Room k (A.deeper env) :=
 ⟨r.hd,by have:=r.dp;show A.depth+1+3*k+5<_;ac_nf,by have:=r.un;show A.units+3+16*k+200<_;ac_nf⟩
theorem Jhk {A:Around} {C:Addr} {us:List Value} {kw:List (Str × Value)}:(A.under (.builtin "type.__call__" ⟨.ref C::us,kw⟩)).depth=A.depth+1:=by
 first | rfl | simp [Around.under,Code.weight,Code.isCreation,Code.isGuard,Code.isCaller,Code.frames,Code.isFrame,guardIds]
theorem Jhl {A:Around} {C:Addr} {us:List Value} {kw:List (Str × Value)}:(A.under (.builtin "type.__call__" ⟨.ref C::us,kw⟩)).units=A.units+1:=by
 first | rfl | simp [Around.under,Code.cUnits,Code.frames,Code.isFrame]
theorem Room.make {k:Nat} {A:Around} (r:Room (k+1) A) (C:Addr) (us:List Value) (kw:List (Str × Value)):Room k (A.under (.builtin "type.__call__" ⟨.ref C::us,kw⟩)) :=
 ⟨r.hd,by have:=r.dp;rw [Jhk];ac_nf,by have:=r.un;rw [Jhl];ac_nf⟩
theorem Room.depth {k:Nat} {A:Around} (r:Room k A):A.depth<recursionLimit:=by have:=r.dp;ac_nf
theorem Room.units {k:Nat} {A:Around} (r:Room k A):A.units+64<cLine:=by have:=r.un;ac_nf
def tNil:TA:=fun _ H Q=>Q [] H
def tCons (ta:TE) (tr:TA):TA:=fun σ H Q=>ta σ H fun x H1=>tr σ H1 fun xs H2=>Q (x::xs) H2
section
variable {X:Cx} {e:Expr} {es:List Expr} {te:TE} {t:TA} {pos:Pos}
theorem Jac:PA X [] tNil:=fun _ _ _ _ H Q I h=>Calls.spliced_nil ⟨[],H,I, .nil,h⟩
theorem Jii (ha:PE X e te) (hr:PA X es t) (hs:starEach (e::es) X.env=(false,eval e X.env)::starEach es X.env:=by rfl):PA X (e::es) (tCons te t):=by
 intro b a s σ H Q I h;rw [hs];show wpAny _ _ (spliced ((false,eval e X.env)::backTo b (starEach es X.env))) _ _ s;refine Calls.spliced_cons (thn (ha a s σ H _ I h) fun u f ζ=>?_);obtain ⟨x,l,I1,i,j⟩:=ζ;exact thn (hr b a f σ l _ I1 j) fun m n ⟨k,g,I2,c,d⟩=>⟨x::k,g,I2, .cons i c,d⟩
def tTup (t:TA):TE:=fun σ H Q=>t σ H fun xs H1=>xs.length<=sizeLine/\∀ p,H1 p=none->Q (.ref p) (upd H1 p (.tup xs))
def tLst (t:TA):TE:=fun σ H Q=>t σ H fun xs H1=>xs.length<=sizeLine/\∀ p,H1 p=none->Q (.ref p) (upd H1 p (.lst xs))
theorem JaH {x1} (h:PA X es t):PE X (.Tuple es x1 pos) (tTup t):=by
 intro a s σ H Q I f;refine wpAny_Tuple_spliced (thn (h pos a s σ H _ I f) fun i c ⟨j,d,I1,r,z,q⟩=>⟨by rw [<- r.length];exact z,?_⟩);have g:d c.heap.objs.size=none:=I1.hok.fresh (Nat.le_refl _);refine ⟨.ref c.heap.objs.size,upd d c.heap.objs.size (.tup j),I1.laid (t':=c.toks) (fun b u e=>Heap.get?_push_of_some _ e) (Nat.le_refl _) ?_,rfl,q _ g⟩;exact ⟨z,i,r,⟨_,Heap.get?_push_size _ rfl,rfl,_,rfl⟩⟩
theorem Ja2 (h:PA X es t):PE X (.List es pos) (tLst t):=by
 intro a s σ H Q I f;refine wpAny_List_spliced (thn (h pos a s σ H _ I f) fun i c ⟨j,d,I1,r,z,q⟩=>⟨by rw [<- r.length];exact z,?_⟩);have g:d c.heap.objs.size=none:=I1.hok.fresh (Nat.le_refl _);refine ⟨.ref c.heap.objs.size,upd d c.heap.objs.size (.lst j),I1.laid (t':=c.toks) (fun b u e=>Heap.get?_push_of_some _ e) (Nat.le_refl _) ?_,rfl,q _ g⟩;exact ⟨z,i,0,r,Heap.get?_push_size _ rfl⟩
end
abbrev Sp:=List V->Hp->VK->XK->Prop
abbrev CXT:=List Env->Hp->Shared->XK->Value->Shared->Prop
structure Env0 (P:Program) (w:World) (K:W.Frag) (mg:Str->Option Value) (base:Heap) (A:Around) (outer:List Env) (s:Shared) (H:Hp):Prop where
 frames:A.frames=some outer
 mod:Mod K mg base
 bs:∀ b o,base.get? b=some o->s.heap.get? b=some o/\H b=none
 bsz:base.objs.size<=s.heap.objs.size
 funs:s.heap.FunFrames base outer
 frf:∀ b∈frs outer,H b=none
 hok:HOk P w H s.heap
 bare:AllBare s.gens
def CE (outer:List Env) (P:Program) (w:World) (H:Hp) (s:Shared) (Q:VK) (u:Value) (s':Shared):Prop :=
 ∃ v H',s'.os=s.os/\AllBare s'.gens/\Un (frs outer) [] H H' s.heap s'.heap/\HOk P w H' s'.heap/\RelV v u/\Q v H'
def CR (CX:CXT) (outer:List Env) (P:Program) (w:World) (H:Hp) (s:Shared) (Q:VK) (E:XK) (r:Result) (s':Shared):Prop :=
 match r with
 | .ok (.ret u)=>CE outer P w H s Q u s'
 | .ok _=>False
 | .error e=>CX outer H s E e s'
structure FnOk (P:Program) (w:World) (K:W.Frag) (mg:Str->Option Value) (base:Heap) (CX:CXT) (k:Nat) (f:Addr) (fd:FuncData) (ps:List Str) (sp:Sp):Prop where
 len:∀ vs H Q E,sp vs H Q E->vs.length=ps.length
 run:∀ (A:Around) (outer:List Env) (s:Shared) (H:Hp) (args:Args) (us:List Value) (vs:List V) (Q:VK) (E:XK),Room k A->Env0 P w K mg base A outer s H->BindsTo s fd args (ps.zip us)->Vals vs us->sp vs H Q E ->
  codeAny (model P w) A (.call (.ref f) args) (CR CX outer P w H s Q E) s
theorem Env0.make {P:Program} {w:World} {K:W.Frag} {mg:Str->Option Value} {base:Heap} {A:Around} {outer:List Env} {s:Shared} {H:Hp} (e:Env0 P w K mg base A outer s H) (C:Addr) (us:List Value) (kw:List (Str × Value)) :
  Env0 P w K mg base (A.under (.builtin "type.__call__" ⟨.ref C::us,kw⟩)) outer s H:=⟨by first | exact e.frames | (simpa [Around.under,Code.envs,Code.isFrame,pushEnvs] using e.frames),e.mod,e.bs,e.bsz,e.funs,e.frf,e.hok,e.bare⟩
section
variable {X:Cx} {pins:List (Addr × Obj)} {σ : St} {H:Hp} {s s':Shared}
theorem Inv.env0 (I:Inv X pins σ H s):Env0 X.prog X.w X.K X.mg X.base X.A X.stack s H :=
 ⟨I.ok.frames,I.ok.mod,I.bs,Nat.le_trans I.ok.bsz I.sz,I.stack,I.stkFree,I.hok,I.bare⟩
theorem Inv.after {Q:VK} {u:Value} (I:Inv X pins σ H s) (h:CE X.stack X.prog X.w H s Q u s'):EP X pins σ Q u s':=by
 obtain ⟨v,f,i,a,j,e,r,q⟩:=h;obtain ⟨k,g,d,t,c⟩:=s';obtain rfl:c=s.os:=i;exact ⟨v,f,I.call (h':=k) (g':=g) (d':=d) (t':=t) (ch:=[]) j e a (fun b z=>absurd z (by simp)),r,q⟩
end
def tCall (sp:Sp) (dvs:List V) (E:XK) (t:TA):TE:=fun σ H Q=>t σ H fun vs H1=>sp (vs++dvs) H1 Q E
def tMake (C:Addr) (sp:Sp) (dvs:List V) (E:XK) (t:TA):TE:=fun σ H Q=>t σ H fun vs H1=>∀ x dx,H1 x=none->H1 dx=none->dx≠x ->
 sp (.ref x::(vs++dvs)) (upd (upd H1 dx (.own x)) x (.ins C dx [])) (fun v H2=>v=.non/\Q (.ref x) H2) E
def Binds (K:W.Frag) (fd:FuncData) (ps:List Str) (ds:List Value):Prop :=
 ∀ (s:Shared) (us:List Value),K.In s.heap->(us++ds).length=ps.length->BindsTo s fd ⟨us,[]⟩ (ps.zip (us++ds))
theorem Binds.all {K:W.Frag} {fd:FuncData} {ps:List Str} (h:∀ us:List Value,us.length=ps.length->bindArgs fd ⟨us,[]⟩=pure (ps.zip us)):Binds K fd ps []:=fun s us _ a=>by
 rw [append_nil] at a ⊢;exact .of_eq (h us a)
def Jcx (CX:CXT) (X:Cx) (E:XK):Prop:=∀ (pins:List (Addr × Obj)) (σ : St) (H:Hp) (s:Shared) (e:Value) (s':Shared),Inv X pins σ H s->CX X.stack H s E e s'->X.xe e s'
section
variable {X:Cx} {CX:CXT} {k:Nat} {f C:Addr} {fd:FuncData} {ps:List Str} {sp:Sp} {dvs:List V} {ds:List Value} {E:XK} {x m:Str} {p pos apos:Pos} {e o:Expr} {es:List Expr} {ta:TE} {t:TA}
theorem Jiw {pins:List (Addr × Obj)} {σ : St} {H:Hp} {s:Shared} {Q:VK} {us:List Value} {vs:List V} (F:FnOk X.prog X.w X.K X.mg X.base CX k f fd ps sp) (hr:Room k X.A) (hb:Binds X.K fd ps ds) (hd:Vals dvs ds) (hx:Jcx CX X E)
  (I:Inv X pins σ H s) (r:Vals vs us) (h:sp (vs++dvs) H Q E):wpAny (model X.prog X.w) X.A (call (.ref f) us) (EP X pins σ Q) X.xe s:=by
 have b:Vals (vs++dvs) (us++ds):=r.append hd;have c:(us++ds).length=ps.length:=by rw [<- b.length];exact F.len _ _ _ _ h
 refine wpAny_call (codeAny_mono (F.run X.A X.stack s H ⟨us,[]⟩ (us++ds) (vs++dvs) Q E hr I.env0 (hb s us I.kIn c) b h) fun r d a=>?_);cases r with
 | error e=>exact hx pins σ H s e d I a
 | ok fl=>
  cases fl with
  | ret u=>exact I.after a
  | next=>exact False.elim a
  | brk=>exact False.elim a
  | cont=>exact False.elim a
theorem Jkz (F:FnOk X.prog X.w X.K X.mg X.base CX k f fd ps sp) (hr:Room k X.A) (hg:Gl X x) (hm:X.mg x=some (.ref f)) (hk:W.keepIn X.K (.ref f)=true) (hb:Binds X.K fd ps ds) (hd:Vals dvs ds) (hx:Jcx CX X E)
  (ha:PA X (e::es) t) (hdb:(x == ("__debug__" : Str))=false:=by decide) (he:starEach (e::es) X.env=(false,eval e X.env)::starEach es X.env:=by rfl) (hpl:(backTo pos (starEach es X.env)).any (·.1)=false:=by rfl) :
  PE X (.Call (.Name x p) (e::es) [] pos) (tCall sp dvs E t):=by
 intro a s σ H Q I h;refine wpAny_Call_Name_kw (Jd0 I hg hm ?_ hdb);refine W.callWith_K (h₀:=X.base) I.ok.mod.kin hk (thn (ha pos a s σ H _ I h) fun b g ⟨d,c,I1,r,q⟩=>⟨I1.kIn,?_⟩) he hpl;exact Jiw F hr hb hd hx I1 r q
structure Mk (K:W.Frag) (C f:Addr):Prop where
 makes:W.makesIn K C=true
 init:W.findIn K (.ref C) "__init__"=some (some (.ref f))
 fn:W.isFn K (.ref f)=true
 kp:W.keepIn K (.ref C)=true
theorem Jg5 {pins:List (Addr × Obj)} {σ : St} {H:Hp} {s:Shared} {Q:VK} {us:List Value} {vs:List V} (M:Mk X.K C f) (F:FnOk X.prog X.w X.K X.mg X.base CX k f fd ps sp) (hr:Room (k+1) X.A) (hb:Binds X.K fd ps ds) (hd:Vals dvs ds)
  (hx:Jcx CX X E) (I:Inv X pins σ H s) (r:Vals vs us)
  (h:∀ x dx,H x=none->H dx=none->dx≠x->sp (.ref x::(vs++dvs)) (upd (upd H dx (.own x)) x (.ins C dx [])) (fun v H2=>v=.non/\Q (.ref x) H2) E) :
  wpAny (model X.prog X.w) X.A (call (.ref C) us) (EP X pins σ Q) X.xe s:=by
 have b:=h (s.heap.objs.size+1) s.heap.objs.size (I.hok.fresh (Nat.le_succ _)) (I.hok.fresh (Nat.le_refl _)) (Nat.ne_of_lt (Nat.lt_succ_self _));have I2:=Inv.made (C:=C) I;have c:Vals (V.ref (s.heap.objs.size+1)::(vs++dvs)) (Value.ref (s.heap.objs.size+1)::(us++ds)):=.cons rfl (r.append hd);have i:(Value.ref (s.heap.objs.size+1)::us++ds).length=ps.length:=by
  have e:=c.length;rw [F.len _ _ _ _ b] at e;exact e.symm
 refine wpAny_call (Ji3 (f:=f) I.kIn M.makes M.init (beq_iff_eq.mp M.fn) (codeAny_mono (F.run _ X.stack _ _ ⟨Value.ref (s.heap.objs.size+1)::us,[]⟩ (Value.ref (s.heap.objs.size+1)::(us++ds)) _ _ E (hr.make C us [])
  (I2.env0.make C us []) (hb _ (Value.ref (s.heap.objs.size+1)::us) I2.kIn i) c b) fun r m a=>?_))
 cases r with
 | error e=>exact hx pins σ _ _ e m I2 a
 | ok fl=>
  cases fl with
  | ret u=>
   obtain ⟨v,d,I3,g,j,l⟩:=I2.after a;subst j;exact ⟨g,⟨V.ref (s.heap.objs.size+1),d,I3,rfl,l⟩⟩
  | next=>exact False.elim a
  | brk=>exact False.elim a
  | cont=>exact False.elim a
theorem JkC (M:Mk X.K C f) (F:FnOk X.prog X.w X.K X.mg X.base CX k f fd ps sp) (hr:Room (k+1) X.A) (hg:Gl X x) (hm:X.mg x=some (.ref C)) (hb:Binds X.K fd ps ds) (hd:Vals dvs ds) (hx:Jcx CX X E)
  (ha:PA X (e::es) t) (hdb:(x == ("__debug__" : Str))=false:=by decide) (he:starEach (e::es) X.env=(false,eval e X.env)::starEach es X.env:=by rfl) (hpl:(backTo pos (starEach es X.env)).any (·.1)=false:=by rfl) :
  PE X (.Call (.Name x p) (e::es) [] pos) (tMake C sp dvs E t):=by
 intro a s σ H Q I h;refine wpAny_Call_Name_kw (Jd0 I hg hm ?_ hdb);refine W.callWith_K (h₀:=X.base) I.ok.mod.kin M.kp (thn (ha pos a s σ H _ I h) fun b g ⟨d,c,I1,r,q⟩=>⟨I1.kIn,?_⟩) he hpl;exact Jg5 M F hr hb hd hx I1 r q
theorem Jjg (M:Mk X.K C f) (F:FnOk X.prog X.w X.K X.mg X.base CX k f fd ps sp) (hr:Room (k+1) X.A) (hg:Gl X x) (hm:X.mg x=some (.ref C)) (hb:Binds X.K fd ps ds) (hd:Vals dvs ds) (hx:Jcx CX X E)
  (hdb:(x == ("__debug__" : Str))=false:=by decide):PE X (.Call (.Name x p) [] [] pos) (tMake C sp dvs E tNil):=by
 intro a s σ H Q I h;refine wpAny_Call_Name_kw (Jd0 I hg hm ?_ hdb);exact W.callWith_K0 I.kIn M.kp (Jg5 (us:=[]) M F hr hb hd hx I .nil h)
end
section
variable {X:Cx} {CX:CXT} {k:Nat} {f C:Addr} {fd:FuncData} {ps ks:List Str} {sp:Sp} {E:XK} {x m:Str} {p pos apos kpos:Pos} {e o:Expr} {es:List Expr} {kws:List Keyword} {te ta:TE} {t tk:TA} {nm:Option Str}
variable {g:List Value->List Value->List Value} {gV:List V->List V->List V}
end
structure Jan (N P:List Str) (sc:Scope):Prop where
 kind:sc.kind=.function
 co:sc.isCoroutine=false
 gen:sc.isGenerator=false
 nd:N.Nodup
 pre:N.take P.length=P
 par:∀ x∈P,sc.names.lookup x=some .local\/sc.names.lookup x=some .cell
 nofree:∀ y∈sc.names,y.2≠.free
theorem Jfy {kindOf:Str->Option NameKind} {x:Str}:∀ {binds:List (Str × Value)} {m:Str->Option Value},(∀ v,(x,v)∉binds)->bindL kindOf binds m x=m x
 | [],_,_=>rfl
 | (n,v)::r,m,h=>by
  unfold bindL;rw [Jfy fun w hw=>h w (mem_cons_of_mem _ hw)];split
  ·have : x≠n:=by rintro rfl;exact h v mem_cons_self
   simp [this]
  ·rfl
theorem Jfw {kindOf:Str->Option NameKind} {x:Str}:∀ {binds:List (Str × Value)} {m:Str->Option Value},(∀ v,(x,v)∉binds)->bindC kindOf binds m x=m x
 | [],_,_=>rfl
 | (n,v)::r,m,h=>by
  unfold bindC;rw [Jfw fun w hw=>h w (mem_cons_of_mem _ hw)];split
  ·rfl
  ·have : x≠n:=by rintro rfl;exact h v mem_cons_self
   simp [this]
theorem Jfx {kindOf:Str->Option NameKind} {x:Str} {v:Value}:∀ {P:List Str} {vs:List Value} {i:Nat} {m:Str->Option Value},P.Nodup->P[i]?=some x->vs[i]?=some v->kindOf x=some .local ->
  bindL kindOf (P.zip vs) m x=some v
 | [],_,_,_,_,h,_,_=>by simp at h
 | _::_,[],_,_,_,_,h,_=>by simp at h
 | p::P,w::vs,0,m,nd,h1,h2,hk=>by
  simp at h1 h2;subst h1;subst h2;show bindL kindOf ((p,w)::P.zip vs) m p=_;unfold bindL;rw [Jfy fun v hv=>(nodup_cons.mp nd).1 (List.of_mem_zip hv).1,if_pos hk];simp
 | p::P,w::vs,i+1,m,nd,h1,h2,hk=>by
  show bindL kindOf ((p,w)::P.zip vs) m x=_;unfold bindL;exact Jfx (i:=i) (nodup_cons.mp nd).2 (by simpa using h1) (by simpa using h2) hk
theorem Jfv {kindOf:Str->Option NameKind} {x:Str} {v:Value}:∀ {P:List Str} {vs:List Value} {i:Nat} {m:Str->Option Value},P.Nodup->P[i]?=some x->vs[i]?=some v->kindOf x≠some .local ->
  bindC kindOf (P.zip vs) m x=some v
 | [],_,_,_,_,h,_,_=>by simp at h
 | _::_,[],_,_,_,_,h,_=>by simp at h
 | p::P,w::vs,0,m,nd,h1,h2,hk=>by
  simp at h1 h2;subst h1;subst h2;show bindC kindOf ((p,w)::P.zip vs) m p=_;unfold bindC;rw [Jfw fun v hv=>(nodup_cons.mp nd).1 (List.of_mem_zip hv).1,if_neg hk];simp
 | p::P,w::vs,i+1,m,nd,h1,h2,hk=>by
  show bindC kindOf ((p,w)::P.zip vs) m x=_;unfold bindC;exact Jfv (i:=i) (nodup_cons.mp nd).2 (by simpa using h1) (by simpa using h2) hk
def start (N:List Str) (vs:List V):St:=vs.map some++List.replicate (N.length-vs.length) none
def cxOf (CX:CXT) (P:Program) (w:World) (K:W.Frag) (mg:Str->Option Value) (base:Heap) (N:List Str) (qual:Str) (scope:Scope) (f:Addr) (cd:Value) (A:Around) (outer:List Env) (s:Shared) (H:Hp) (E:XK):Cx where
 prog:=P
 w:=w
 K:=K
 mg:=mg
 base:=base
 A:=A.deeper (envOfC qual scope s.heap.objs.size f cd)
 N:=N
 s₀:=s
 H₀:=H
 env:=envOfC qual scope s.heap.objs.size f cd
 outer:=outer
 stack:=envOfC qual scope s.heap.objs.size f cd::outer
 ex:=[]
 calm:=true
 fn:=fun _=>true
 pn:=[]
 xe:=fun e s'=>wpAny (model P w) (A.deeper (envOfC qual scope s.heap.objs.size f cd)) (leaving (envOfC qual scope s.heap.objs.size f cd) e) (fun _ s''=>CX outer H s E e s'') (fun e' s''=>CX outer H s E e' s'') s'
theorem JgO {sc:Scope} {n:Nat} {x:Str} (h:sc.names.lookup x=some .cell):∃ c,(cellsFrom n sc.names []).lookup x=some c:=by
 have q:=W.cellsFrom_some sc.names n [] (.inl h);exact Option.isSome_iff_exists.mp q
theorem JhY {CX:CXT} {P:Program} {w:World} {K:W.Frag} {mg:Str->Option Value} {base:Heap} {N ps:List Str} {qual:Str} {scope:Scope} {f:Addr} {cd:Value} {A:Around} {outer:List Env} {s s1:Shared} {H:Hp} {E:XK} {us:List Value} {vs:List V}
  (S:Jan N ps scope) (hd:A.handled=none) (e0:Env0 P w K mg base A outer s H) (hl:vs.length=ps.length) (r:Vals vs us)
  (x:InCallC s s.heap.objs.size (bindL (envOfC qual scope s.heap.objs.size f cd).kindOf (ps.zip us) fun _=>none) (cellsFrom (s.heap.objs.size+1) scope.names []) (bindC (envOfC qual scope s.heap.objs.size f cd).kindOf (ps.zip us) fun _=>none) s1) :
  Inv (cxOf CX P w K mg base N qual scope f cd A outer s H E) [] (start N vs) H s1:=by
 have F:ps.length<=N.length:=by have:=congrArg List.length S.pre;rw [length_take] at this;ac_nf
 obtain ⟨o,I,rfl,C⟩:=x.done;have g:∀ b:Addr,b∉(cxOf CX P w K mg base N qual scope f cd A outer s H E).ex:=fun b z=>absurd (show b∈([]:List Addr) from z) (by simp);refine ⟨⟨e0.mod,S.kind,rfl,rfl,Nat.le_refl _,fun y z c o d=>?_,fun y j=>?_,fun y c _ h=>?_,fun _=>hd,Around.frames_deeper e0.frames, .inr ⟨rfl,rfl⟩,fun b z=>absurd z (g b),e0.bs,e0.bsz,fun b _ _=>g b,fun b z=>absurd z (g b),e0.funs,e0.frf⟩,
  rfl,e0.bare,Un.kept C,⟨_,x.toInCall.ns,fun i y v o d J=>?_⟩,fun y c h=>⟨_,x.cell y c h⟩,e0.hok.fresh (Nat.le_refl _),fun y c h=>?_,fun p l=>absurd (show p∈([]:List (Addr × Obj)) from l) (by simp),e0.hok.kept C,?_⟩
 ·exact name_of_addr x.apart (PySem.mem_of_lookup o) (PySem.mem_of_lookup d)
 ·have j:scope.names.lookup y=some .cell\/scope.names.lookup y=some .free:=j;rcases j with j | j
  ·exact JgO j
  ·exact absurd rfl (S.nofree _ (PySem.mem_of_lookup j))
 ·exact Nat.le_of_lt (x.above y c (PySem.mem_of_lookup h))
 ·have t:i<vs.length:=by
   unfold start at d;by_cases t:i<vs.length
   ·exact t
   ·rw [List.getElem?_append_right (by simpa using t)] at d;rw [List.getElem?_replicate] at d;split at d <;> cases d
  have G:vs[i]?=some v:=by
   unfold start at d;rw [List.getElem?_append_left (by simpa using t),List.getElem?_map] at d;cases e:vs[i]? with
   | none=>rw [e] at d;cases d
   | some a=>rw [e] at d;cases d;rfl
  obtain ⟨u,B,D⟩:=r.get G;have l:ps[i]?=some y:=by
   rw [<- S.pre,List.getElem?_take_of_lt ∅];exact o
  have m:ps.Nodup:=by rw [<- S.pre];exact S.nd.sublist (List.take_sublist _ _)
  refine ⟨u,D,?_⟩;rcases S.par y (List.mem_of_getElem? l) with k | k
  ·exact .inl ⟨k,Jfx m l B k⟩
  ·obtain ⟨c,e⟩:=JgO (n:=s.heap.objs.size+1) k;refine .inr ⟨.inl k,c,e,?_⟩;have q:=x.cell y c e;rw [Jfv m l B (by show scope.names.lookup y≠_;rw [k];decide)] at q;exact q
 ·exact e0.hok.fresh (Nat.le_of_lt (x.above y c (PySem.mem_of_lookup h)))
 ·unfold start;show _=N.length;rw [length_append,length_map,List.length_replicate];ac_nf
theorem fn_of {CX:CXT} {P:Program} {w:World} {K:W.Frag} {mg:Str->Option Value} {base:Heap} {k:Nat} {f:Addr} {name qual:Str} {params:Arguments} {body:List Stmt} {scope:Scope} {dV kV doc pm cdv ct oc:Value} {an od:Option Addr}
  {osl:Array (Option Value)} {N ps:List Str} {sp:Sp} (lk:K.lookup f=some ⟨oc,od, .func (W.fnOf name qual params body scope dV kV doc pm an cdv ct),osl⟩) (hcd:W.codeIn K cdv qual=true) (S:Jan N ps scope)
  (len:∀ vs H Q E,sp vs H Q E->vs.length=ps.length)
  (hbody:∀ (A:Around) (outer:List Env) (s:Shared) (H:Hp) (vs:List V) (Q:VK) (E:XK),Room k (A.deeper (envOfC qual scope s.heap.objs.size f cdv))->sp vs H Q E ->
   ∃ t,PSs (cxOf CX P w K mg base N qual scope f cdv A outer s H E) body t/\t { nx:=fun _ H'=>Q .non H',rt:=Q } (start N vs) H) :
  FnOk P w K mg base CX (k+1) f (W.fnOf name qual params body scope dV kV doc pm an cdv ct) ps sp:=by
 refine ⟨len,fun A outer s H z D vs Q E l g B r h=>?_⟩;have C:=len _ _ _ _ h;have KX:K.In s.heap:=g.mod.kin.keeps fun b o e=>(g.bs b o e).1;have i:s.heap.NoLimit:=g.mod.nolimit.keeps fun b o e=>(g.bs b o e).1;have a:∀ y∈ps.zip D,scope.names.lookup y.1=some .local\/(scope.names.lookup y.1=some .cell/\((cellsFrom (s.heap.objs.size+1) scope.names []).lookup y.1).isSome=true):=fun ⟨n,v⟩ G=>by
  rcases S.par n (List.of_mem_zip G).1 with q | q
  ·exact .inl q
  ·exact .inr ⟨q,W.cellsFrom_some _ _ _ (.inl q)⟩
 refine codeAny_call_function l.depth (KX _ _ lk) rfl S.co S.gen rfl (W.codeRec_of KX hcd) (B _ _ _ _ ?_);refine wpAny_newFunctionEnv_cells S.kind a fun F O p x=>?_;subst O;refine ⟨i.keeps x.toInCall.keep,codeAny_func ?_⟩;obtain ⟨t,R,M⟩:=hbody A outer s H vs Q E (l.deeper _) h;have I:Inv (cxOf CX P w K mg base N qual scope f cdv A outer s H E) [] (start N vs) H p:=JhY S l.hd g C r x;refine wpAny_mono (R [] p (start N vs) H _ I M) (fun L m c=>?_) fun e m c=>c;have d:∀ {σ':St} {H':Hp} {v:V} {u:Value},Inv (cxOf CX P w K mg base N qual scope f cdv A outer s H E) [] σ' H' m->RelV v u->Q v H'->CE outer P w H s Q u m :=
  fun {σ' H' v u} J j q=>⟨v,H',J.os,J.bare,J.base,J.hok,j,q⟩
 cases L with
 | ret u=>
  obtain ⟨v,σ',H',J,j,q⟩:=c;exact d J j q
 | next=>
  obtain ⟨σ',H',J,q⟩:=c;exact d (v:=V.non) (u:=Value.none) J rfl q
 | brk=>
  obtain ⟨_,_,_,q⟩:=c;exact False.elim q
 | cont=>
  obtain ⟨_,_,_,q⟩:=c;exact False.elim q
section
variable {X:Cx} {x:Str} {p pos:Pos} {e:Expr} {es:List Expr} {t:TA} {id T:String} {r:List V->Hp->VK->Prop}
def tCB (r:List V->Hp->VK->Prop) (t:TA):TE:=fun σ H Q=>t σ H fun vs H1=>r vs H1 Q
theorem Jat (hc:CallR X (.builtin id) r) (hg:Gl X x) (hm:X.mg x=none) (hv:bootBuiltins x=some (.builtin id)) (ha:PA X (e::es) t) (hn:x≠"__name__":=by decide) (hdb:(x == ("__debug__" : Str))=false:=by decide)
  (he:starEach (e::es) X.env=(false,eval e X.env)::starEach es X.env:=by rfl) (hpl:(backTo pos (starEach es X.env)).any (·.1)=false:=by rfl):PE X (.Call (.Name x p) (e::es) [] pos) (tCB r t):=by
 intro a s σ H Q I h;refine wpAny_Call_Name_kw (JdZ I hg hm hv ?_ hn hdb);exact PyProof.Rows.callWith_builtin1 (thn (ha pos a s σ H _ I h) fun c i ⟨g,d,I1,b,f⟩=>hc a i σ d g c Q I1 b f) he hpl
theorem Jde (hc:CallR X (.type T) r) (hg:Gl X x) (hm:X.mg x=none) (hv:bootBuiltins x=some (.type T)) (ha:PA X (e::es) t) (hn:x≠"__name__":=by decide) (hdb:(x == ("__debug__" : Str))=false:=by decide)
  (he:starEach (e::es) X.env=(false,eval e X.env)::starEach es X.env:=by rfl) (hpl:(backTo pos (starEach es X.env)).any (·.1)=false:=by rfl):PE X (.Call (.Name x p) (e::es) [] pos) (tCB r t):=by
 intro a s σ H Q I h;refine wpAny_Call_Name_kw (JdZ I hg hm hv ?_ hn hdb);exact PyProof.Rows.callWith_type1 (thn (ha pos a s σ H _ I h) fun c i ⟨g,d,I1,b,f⟩=>hc a i σ d g c Q I1 b f) he hpl
end
end L2
namespace HT
open PySem PyProof.Rows
section
open PySem.SeqAt
open PySem.AutoSeq1 (wpAny_loadPart')
open PySem.MeetsSeq PySem.MeetsSeq2 PySem.MeetsSeq3
end
section
variable {prog:Program} {w:World} {A:Around} {E:Value->Shared->Prop} {s:Shared}
theorem cat_tup {t b:Addr} {vs ws:List Value} {Q:Value->Shared->Prop} (ht:IsTup s.heap t vs.toArray) (hb:IsTup s.heap b ws.toArray) (hv:vs≠[])
  (h1:ws=[]->Q (.ref t) s) (h2:ws≠[]->Q (.ref s.heap.objs.size) { s with heap:=s.heap.push { cls:=.type "tuple",data:=.seq (vs++ws).toArray } })
  (hsz:vs.length+ws.length<=sizeLine):wpAny (model prog w) A (binaryOp .Add (.ref t) (.ref b)) Q E s:=by
 obtain ⟨⟨cls,p,data,l⟩,h,m,n,q⟩:=id ht;obtain ⟨⟨o,c,j,f⟩,a,d,k,g⟩:=id hb;simp only at m q d g;subst m q d g;have e:vs.toArray++ws.toArray=(vs++ws).toArray:=by simp
 by_cases i:ws=[]
 ·exact concat_meets ⟨_,h,rfl⟩ ⟨_,a,rfl⟩ noFill_tuple_add seq_tuple_add PySem.F.slot_tuple_add PySem.F.entry_tuple_add (PySem.F.args_tuple_add_2 _ _)
   (tuple_addW1 t b vs.toArray ws.toArray n k p c l f (by simpa using hv) (by simp [i])) ⟨h,a,h1 i⟩
 ·refine concat_meets ⟨_,h,rfl⟩ ⟨_,a,rfl⟩ noFill_tuple_add seq_tuple_add PySem.F.slot_tuple_add PySem.F.entry_tuple_add (PySem.F.args_tuple_add_2 _ _)
   (tuple_addW2 t b vs.toArray ws.toArray n k p c l f (by simpa using hv) (by simpa using i) (by rw [size_toArray,size_toArray];exact hsz)) ⟨h,a,?_⟩
  rw [e];exact h2 i
end
end HT
namespace L2
open PySem PySem.Spec PyProof.Rows
abbrev TO:=St->Hp->(Option Int->Hp->Prop)->Prop
def PO (X:Cx) (e:Option Expr) (t:TO):Prop :=
 ∀ (pins:List (Addr × Obj)) (s:Shared) (σ : St) (H:Hp) (Q:Option Int->Hp->Prop),Inv X pins σ H s->t σ H Q ->
  wpAny (model X.prog X.w) X.A (evalPart e X.env) (fun u s'=>∃ o H',Inv X pins σ H' s'/\IsPart u o/\Q o H') X.xe s
section
variable {X:Cx} {e:Expr} {te:TE} {lo hi:Option Expr} {tl th:TO} {pos p2:Pos}
def rCatT (K:W.Frag):R2:=fun x y H Q=>∃ a b xs ys,x=.ref a/\y=.ref b/\SqT K H a xs/\SqT K H b ys/\xs≠[]/\xs.length+ys.length<=sizeLine /\
 (ys=[]->Q (.ref a) H)/\(ys≠[]->∀ p,H p=none->Q (.ref p) (upd H p (.tup (xs++ys))))
theorem Vals.nil_iff {xs:List V} {us:List Value} (r:Vals xs us):us=[]↔xs=[]:=by
 cases r with
 | nil=>simp
 | cons _ _=>simp
theorem Jku:OpR X (binaryOp .Add) (rCatT X.K):=by
 intro f s σ H x y v u Q I p n h;obtain ⟨a,b,B,r,rfl,rfl,A,k,C,e,t,m⟩:=h;cases p;cases n;obtain ⟨j,d,l,_⟩:=I.tuple A;obtain ⟨g,c,i,_⟩:=I.tuple k;refine HT.cat_tup l i (fun z=>C (d.nil_iff.mp z)) (fun z=>⟨.ref a,H,I,rfl,t (c.nil_iff.mp z)⟩) (fun z=>?_) (by rw [<- d.length, <- c.length];exact e);refine ⟨.ref s.heap.objs.size,_,I.laid (t':=s.toks) (o:=.tup (B++r)) (fun b D q=>Heap.get?_push_of_some _ q) (Nat.le_refl _) ?_,rfl,m (fun w=>z (c.nil_iff.mpr w)) _ (I.hok.fresh (Nat.le_refl _))⟩;exact ⟨by rw [length_append];exact e,_,d.append c,IsTup.new _ _⟩
end
def ixN (n:Nat) (i:Int):Option Nat:=if 0<=i then (if i<n then some i.toNat else none) else if -(n:Int)<=i then some (i+n).toNat else none
def atI {α : Type} (xs:List α) (i:Int):Option α:=(ixN xs.length i).bind fun j=>xs[j]?
theorem Jkf {n:Nat} {i:Int} {j:Nat} (h:ixN n i=some j):seqIndex? i n=some j/\j<n/\-(n:Int)<=i/\i<n:=by
 unfold ixN at h;by_cases b:0<=i
 ·rw [if_pos b] at h;by_cases a:i<n
  ·rw [if_pos a] at h;have e:i.toNat=j:=Option.some.inj h;exact ⟨by rw [seqIndex_of b a,e],by ac_nf,by ac_nf,a⟩
  ·rw [if_neg a] at h;cases h
 ·rw [if_neg b] at h;by_cases a : -(n:Int)<=i
  ·rw [if_pos a] at h;have e:(i+n).toNat=j:=Option.some.inj h;exact ⟨by rw [seqIndex_neg ∅ a,e],by ac_nf,a,by ac_nf⟩
  ·rw [if_neg a] at h;cases h
theorem Jf9 {α : Type} {xs:List α} {i:Int} {v : α} (h:atI xs i=some v):∃ j,seqIndex? i xs.length=some j/\xs[j]?=some v/\j<xs.length/\-(xs.length:Int)<=i/\i<xs.length:=by
 unfold atI at h;cases e:ixN xs.length i with
 | none=>rw [e] at h;cases h
 | some j=>
  rw [e] at h;obtain ⟨d,a,c,b⟩:=Jkf e;exact ⟨j,d,h,a,c,b⟩
theorem JdP {α : Type} {xs:List α} {j:Nat} {v : α} (h:xs[j]?=some v):atI xs (j:Int)=some v:=by
 have a:j<xs.length:=(List.getElem?_eq_some_iff.mp h).1;have e:ixN xs.length (j:Int)=some j:=by
  unfold ixN;rw [if_pos ∅,if_pos ∅];simp
 unfold atI;rw [e];exact h
def JjY (b:Expr):Prop:=∀ o i,subscripted b false o i=operate [o,i] (getItem o i)
def IxR (X:Cx) (r:R2):Prop :=
 ∀ (value slice:Expr) (pins:List (Addr × Obj)) (s:Shared) (σ : St) (H:Hp) (x y:V) (v u:Value) (Q:VK),Inv X pins σ H s->RelV x v->RelV y u->r x y H Q ->
  subscripted slice false v u=operate [v,u] (getItem v u)->wpAny (model X.prog X.w) X.A (subscriptTail value slice v u) (EP X pins σ Q) X.xe s
def MtR (X:Cx) (id:String) (r:V->List V->Hp->VK->Prop):Prop :=
 ∀ (pins:List (Addr × Obj)) (s:Shared) (σ : St) (H:Hp) (x:V) (xs:List V) (v:Value) (us:List Value) (Q:VK),Inv X pins σ H s->RelV x v->Vals xs us->r x xs H Q ->
  wpAny (model X.prog X.w) X.A (call (.builtin id) (v::us)) (EP X pins σ Q) X.xe s
section
variable {X:Cx} {a b:Expr} {ta tb:TE} {pos:Pos}
theorem pe_ix {r:R2} (hr:IxR X r) (ha:PE X a ta) (hb:PE X b tb) (hs:JjY b):PE X (.Subscript a b pos) (tOp r ta tb):=by
 intro c s σ H Q I h;exact Subscript_ (binT ha hb I h fun v u g x y d I2 f e q=>hr a b c g σ d x y v u Q I2 f e q (hs _ _))
def rIxL (K:W.Frag):R2:=fun x y H Q=>∃ p xs i v,x=.ref p/\y=.int i/\SqL K H p xs/\atI xs i=some v/\Q v H
def rIxT (K:W.Frag):R2:=fun x y H Q=>∃ p xs i v,x=.ref p/\y=.int i/\SqT K H p xs/\atI xs i=some v/\Q v H
def rIxS:R2:=fun x y H Q=>∃ z i c,x=.str z/\y=.int i/\z.length<=sizeLine/\atI z.cps.toList i=some c/\Q (.str ⟨#[c]⟩) H
theorem Jkg:IxR X (rIxL X.K):=by
 intro d l a s σ H x y v u Q I C B h n;obtain ⟨p,N,i,z,rfl,rfl,F,J,q⟩:=h;cases C;obtain ⟨t,rfl⟩:=B;obtain ⟨f,r,k,M⟩:=I.list F;obtain ⟨j,c,E,P,D,G⟩:=Jf9 J;obtain ⟨w,m,e⟩:=r.get E;have A:=r.length;have O:=JeO;have b:EP X a σ Q w s:=⟨z,H,I,e,q⟩;by_cases o:0<=i
 ·have g:i.toNat=j:=by
   rw [seqIndex_of o G] at c;exact Option.some.inj c
  exact item_listR k.isList o ∅ (by rw [g];simpa using m) b n
 ·have g:(i+(f.toArray.size:Int)).toNat=j:=by
   rw [seqIndex_neg ∅ D] at c;rw [size_toArray, <- A];exact Option.some.inj c
  exact subscriptTail_builtinR (x:=w) k.isList.typeIs slot_list_getitem.lookup
   (wpAny_getItem_list_neg (Q:=fun r L=>r=w/\EP X a σ Q r L) k.isList ∅ (by rw [size_toArray] <;> ac_nf) ∅ (by rw [g];simpa using m) ⟨rfl,b⟩) n
theorem Jla:IxR X (rIxT X.K):=by
 intro b e a s σ H x y v u Q I o n h l;obtain ⟨p,J,i,z,rfl,rfl,C,D,q⟩:=h;cases o;obtain ⟨t,rfl⟩:=n;obtain ⟨g,r,f,F⟩:=I.tuple C;obtain ⟨j,A,B,N,G,L⟩:=Jf9 D;obtain ⟨w,k,c⟩:=r.get B;have m:=r.length;have M:=JeO;have d:EP X a σ Q w s:=⟨z,H,I,c,q⟩;exact subscriptTail_builtinR (x:=w) f.typeIs slot_tuple_getitem.lookup
  (getItem_tuple (j:=j) (Q:=fun r E=>r=w/\EP X a σ Q r E) f ∅ ∅ (by rw [size_toArray, <- m];exact A) (by simpa using k) ⟨rfl,d⟩) l
theorem Jk9:IxR X rIxS:=by
 intro a b e s σ H x y v u Q I m l h g;obtain ⟨z,i,c,rfl,rfl,A,w,q⟩:=h;obtain ⟨t,rfl⟩:=m;obtain ⟨B,rfl⟩:=l;obtain ⟨j,d,p,D,o,r⟩:=Jf9 w;have k:z.cps.toList.length=z.length:=by simp [Str.length]
 rw [k] at d o r;have C:=JeO;exact tail_any (typeIs_str s z t) slot_str_getitem.lookup (getItem_str (c:=c) (by
  have f:decide (i < -(2 ^ 63:Int))=false:=decide_eq_false ∅;have n:decide (i ≥ 2 ^ 63)=false:=decide_eq_false ∅;rw [f,n,Bool.or_false]) (by rw [d];simpa using p) ⟨.str ⟨#[c]⟩,H,I.tok _,⟨_,rfl⟩,q⟩) g
def flatV:V->Bool
 | .non=>true
 | .bl _=>true
 | .int _=>true
 | .str _=>true
 | _=>false
def eqV:V->V->Bool
 | .non, .non=>true
 | .bl a, .bl b=>a == b
 | .bl a, .int b=>(if a then 1 else 0) == b
 | .int a, .bl b=>a == (if b then 1 else 0)
 | .int a, .int b=>a == b
 | .str a, .str b=>a == b
 | _,_=>false
theorem JjA {A:Around} {s:Shared} {y x:V} {u v:Value} (ry:RelV y u) (rx:RelV x v) (fy:flatV y=true) (fx:flatV x=true):SeqAt.EqAt A s u v (eqV y x):=by
 cases y with
 | non=>
  cases ry;cases x with
  | non=>cases rx;exact SeqAt.EqAt.same _
  | bl b=>cases rx;exact SeqAt.EqAt.none_bool b
  | int b=>obtain ⟨t,rfl⟩:=rx;exact SeqAt.EqAt.none_int b t
  | str b=>obtain ⟨t,rfl⟩:=rx;exact SeqAt.EqAt.none_str b t
  | _=>exact absurd (show false=true from fx) Bool.false_ne_true
 | bl a=>
  cases ry;cases x with
  | non=>cases rx;exact SeqAt.EqAt.bool_none a
  | bl b=>cases rx;exact SeqAt.EqAt.bool_bool a b
  | int b=>obtain ⟨t,rfl⟩:=rx;exact SeqAt.EqAt.bool_int a b t
  | str b=>obtain ⟨t,rfl⟩:=rx;exact SeqAt.EqAt.bool_str a b t
  | _=>exact absurd (show false=true from fx) Bool.false_ne_true
 | int a=>
  obtain ⟨c,rfl⟩:=ry;cases x with
  | non=>cases rx;exact SeqAt.EqAt.int_none a c
  | bl b=>cases rx;exact SeqAt.EqAt.int_bool a c b
  | int b=>obtain ⟨t,rfl⟩:=rx;exact SeqAt.EqAt.int_int a c b t
  | str b=>obtain ⟨t,rfl⟩:=rx;exact SeqAt.EqAt.int_str a c b t
  | _=>exact absurd (show false=true from fx) Bool.false_ne_true
 | str a=>
  obtain ⟨c,rfl⟩:=ry;cases x with
  | non=>cases rx;exact SeqAt.EqAt.str_none a c
  | bl b=>cases rx;exact SeqAt.EqAt.str_bool a c b
  | int b=>obtain ⟨t,rfl⟩:=rx;exact SeqAt.EqAt.str_int a c b t
  | str b=>obtain ⟨t,rfl⟩:=rx;exact SeqAt.EqAt.str_str a c b t
  | _=>exact absurd (show false=true from fx) Bool.false_ne_true
 | _=>exact absurd (show false=true from fy) Bool.false_ne_true
def eqU (x:V) (u:Value):Bool:=match u with
 | .none=>eqV .non x
 | .bool b=>eqV (.bl b) x
 | .int i _=>eqV (.int i) x
 | .str z _=>eqV (.str z) x
 | _=>false
theorem JjB {x y:V} {u:Value} (r:RelV y u) (f:flatV y=true):eqU x u=eqV y x:=by
 cases y with
 | non=>cases r;rfl
 | bl b=>cases r;rfl
 | int i=>obtain ⟨t,rfl⟩:=r;rfl
 | str z=>obtain ⟨t,rfl⟩:=r;rfl
 | _=>exact absurd (show false=true from f) Bool.false_ne_true
theorem Jf8 {x:V}:∀ {xs:List V} {us:List Value},Vals xs us->xs.all flatV=true->us.any (eqU x)=xs.any fun y=>eqV y x
 | _,_, .nil,_=>rfl
 | y::xs,u::us, .cons r t,f=>by
  rw [List.all_cons,Bool.and_eq_true] at f;rw [any_cons,any_cons,JjB r f.1,Jf8 t f.2]
theorem Je5 {A:Around} {s:Shared} {x:V} {v:Value} (rx:RelV x v) (fx:flatV x=true):∀ {xs:List V} {us:List Value},Vals xs us->xs.all flatV=true->∀ u∈us,SeqAt.EqAt A s u v (eqU x u)
 | _,_, .nil,_=>fun u hu=>by cases hu
 | y::xs,u::us, .cons r t,f=>fun u' hu=>by
  rw [List.all_cons,Bool.and_eq_true] at f;rcases mem_cons.mp hu with rfl | hu
  ·rw [JjB r f.1];exact JjA r rx f.1 fx
  ·exact Je5 rx fx t f.2 u' hu
def inV (x:V) (xs:List V):Bool:=xs.any fun y=>eqV y x
def rIn (K:W.Frag) (neg:Bool):R2:=fun x y H Q=>∃ p xs,y=.ref p/\(SqL K H p xs\/SqT K H p xs)/\flatV x=true/\xs.all flatV=true/\Q (.bl (if neg then !inV x xs else inV x xs)) H
theorem Jif:OpR X (compareOp .In) (rIn X.K false):=by
 intro g s σ H x y v u Q I f k h;obtain ⟨p,l,rfl,b,i,c,q⟩:=h;cases k;rcases b with b | b
 ·obtain ⟨a,r,d,j⟩:=I.list b;refine SeqAt.in_listAt (eqU x) d.isList (fun w e=>Je5 f i r c w (by simpa using e)) ⟨.bl _,H,I,rfl,?_⟩;rw [show a.toArray.any (eqU x)=a.any (eqU x) by simp,Jf8 r c];exact q
 ·obtain ⟨a,r,d,j⟩:=I.tuple b;refine SeqAt.in_tupleAt (eqU x) d (fun w e=>Je5 f i r c w (by simpa using e)) ⟨.bl _,H,I,rfl,?_⟩;rw [show a.toArray.any (eqU x)=a.any (eqU x) by simp,Jf8 r c];exact q
theorem JfA:CallR X (.builtin "len") (fun xs H Q=>∃ p ys,xs=[.ref p]/\(SqL X.K H p ys\/SqT X.K H p ys)/\Q (.int ys.length) H):=by
 intro f s σ H xs j Q I r h;obtain ⟨p,ys,rfl,b,q⟩:=h;obtain ⟨u,rfl,i⟩:=vals1 r;cases i;have k:=JeO;rcases b with b | b
 ·obtain ⟨c,e,d,g⟩:=I.list b;have a:=e.length;exact Calls.call_len_list d.isList (by simp only [size_toArray] <;> ac_nf) ⟨.int ys.length,H,I.tok _,⟨s.toks+1,by rw [size_toArray,a]⟩,q⟩
 ·obtain ⟨c,e,d,g⟩:=I.tuple b;have a:=e.length;exact len_tuple d (by simp only [size_toArray] <;> ac_nf) ⟨.int ys.length,H,I.tok _,⟨s.toks+1,by rw [size_toArray,a]⟩,q⟩
theorem JfB:CallR X (.builtin "len") (fun xs H Q=>∃ z,xs=[.str z]/\z.length<=sizeLine/\Q (.int z.length) H):=by
 intro a s σ H xs d Q I r h;obtain ⟨z,rfl,b,q⟩:=h;obtain ⟨u,rfl,t,rfl⟩:=vals1 r;have c:=JeO;exact len_str ∅ ⟨.int z.length,H,I.tok _,⟨_,rfl⟩,q⟩
theorem JfC:CallR X (.type "list") (fun xs H Q=>∃ p ys,xs=[.ref p]/\(SqL X.K H p ys\/SqT X.K H p ys)/\∀ l,H l=none->Q (.ref l) (upd H l (.lst ys))):=by
 intro j s σ H xs B Q I r h;obtain ⟨p,ys,rfl,m,q⟩:=h;obtain ⟨u,rfl,A⟩:=vals1 r;cases A;have i:∀ (a:List Value),Vals ys a->ys.length<=sizeLine->∀ (c:Heap) (d:Nat),(∀ b o',s.heap.get? b=some o'->c.get? b=some o') ->
   c.get? s.heap.objs.size=some { cls:=.type "list",dict:=none,data:=.seq a.toArray d,slots:=#[] }->EP X j σ Q (.ref s.heap.objs.size) { s with heap:=c }:=fun a f g c d t e=>
  ⟨.ref s.heap.objs.size,_,I.laid (t':=s.toks) t (Nat.le_refl _) (show ObjOk X.prog X.w _ c _ (.lst ys) from ⟨g,a,d,f,e⟩),rfl,q _ (I.hok.fresh (Nat.le_refl _))⟩
 rcases m with m | m
 ·obtain ⟨a,f,x,g⟩:=I.list m;have k:=f.length;obtain ⟨o,v,z,n,y⟩:=x.isList;exact call_list_seq p (.inl rfl) v z y (fun c d t e=>i a f g c d t e) (by simp only [size_toArray] <;> ac_nf)
 ·obtain ⟨a,f,x,g⟩:=I.tuple m;have k:=f.length;obtain ⟨o,v,z,n,y⟩:=x;exact call_list_seq p (.inr rfl) v z y (fun c d t e=>i a f g c d t e) (by simp only [size_toArray] <;> ac_nf)
def tyV (K:W.Frag) (T:String) (x:V) (H:Hp):Prop:=match x with
 | .str _=>T="str"
 | .int _=>T="int"
 | .ref p=>(T="list"/\∃ xs,SqL K H p xs)\/(T="tuple"/\∃ o,K.lookup p=some o/\o.cls=.type "tuple"/\o.dict=none) \/
   (T="dict"/\((∃ kvs,H p=some (.dK kvs))\/∃ kvs,H p=some (.dT kvs)))\/(T="set"/\∃ S n,H p=some (.set S n))
 | _=>False
theorem JjR {pins:List (Addr × Obj)} {σ : St} {H:Hp} {s:Shared} {T:String} {x:V} {v:Value} (I:Inv X pins σ H s) (r:RelV x v) (ty:tyV X.K T x H) :
  s.TypeIs v T/\∀ a,v=.ref a->∃ ob,s.heap.get? a=some ob/\ob.dict=none:=by
 cases x with
 | str z=>
  obtain ⟨t,rfl⟩:=r;cases (show T="str" from ty);exact ⟨typeIs_str s z t,fun _ e=>nomatch e⟩
 | int i=>
  obtain ⟨t,rfl⟩:=r;cases (show T="int" from ty);exact ⟨typeIs_int s i t,fun _ e=>nomatch e⟩
 | ref p=>
  cases r;rcases ty with ⟨rfl,xs,hq⟩ | ⟨rfl,o,hk,hc,f⟩ | ⟨rfl,hk⟩ | ⟨rfl,S,n,hk⟩
  ·obtain ⟨h,_,g,_⟩:=I.list hq;refine ⟨g.isList.typeIs,fun a e=>?_⟩;cases e;obtain ⟨o,n,e,c,f,_⟩:=g;exact ⟨o,e,f⟩
  ·refine ⟨⟨o,I.kIn p o hk,hc⟩,fun a e=>?_⟩;cases e;exact ⟨o,I.kIn _ o hk,f⟩
  ·have z:∃ o,s.heap.get? p=some o/\o.ExactDict:=by
    rcases hk with ⟨kvs,hk⟩ | ⟨kvs,hk⟩
    ·obtain ⟨_,_,_,_,o,_,_,e,b,_⟩:=I.hok p _ hk;exact ⟨o,e,b⟩
    ·obtain ⟨_,_,_,_,o,_,_,e,b,_⟩:=I.hok p _ hk;exact ⟨o,e,b⟩
   obtain ⟨o,e,b⟩:=z;refine ⟨⟨o,e,b.1⟩,fun a d=>?_⟩;cases d;exact ⟨o,e,b.2.1⟩
  ·obtain ⟨o,_,_,_,e,b,_⟩:=I.hok p _ hk;refine ⟨⟨o,e,b.1⟩,fun a d=>?_⟩;cases d;exact ⟨o,e,b.2.1⟩
 | _=>exact False.elim ty
def tBM0 (K:W.Frag) (T:String) (r:V->List V->Hp->VK->Prop) (to:TE):TE:=fun σ H Q=>to σ H fun x H1=>tyV K T x H1/\r x [] H1 Q
def tBM (K:W.Frag) (T:String) (r:V->List V->Hp->VK->Prop) (to:TE) (t:TA):TE:=fun σ H Q=>to σ H fun x H1=>tyV K T x H1/\t σ H1 fun xs H2=>r x xs H2 Q
variable {o e:Expr} {es:List Expr} {to:TE} {t:TA} {name:Str} {apos cpos:Pos} {T id:String} {r:V->List V->Hp->VK->Prop}
theorem JjG (pa:PlainAttrs T) (slot:Slot T name id) (hty:typeOf (.builtin id)=pure (.type "method_descriptor")) (hm:MtR X id r) (ho:PE X o to)
  (hbase:attributeBase o name X.env (eval o X.env)=eval o X.env:=by rfl) (hline:(apos.endLine == cpos.line)=true:=by rfl):PE X (.Call (.Attribute o name apos) [] [] cpos) (tBM0 X.K T r to):=by
 intro a s σ H Q I h;refine wpAny_Call_method0_late hbase hline (thn (ho a s σ H _ I h) fun v i ζ=>?_);obtain ⟨x,d,I1,b,f,e⟩:=ζ;obtain ⟨g,c⟩:=JjR I1 b f;exact ⟨T,id,pa,slot,hty,g,c,Calls.callWith_builtin rfl (PySem.evalArgs_none (hm a i σ d x [] v [] Q I1 b .nil e))⟩
theorem pe_bm (pa:PlainAttrs T) (slot:Slot T name id) (hty:typeOf (.builtin id)=pure (.type "method_descriptor")) (hm:MtR X id r) (ho:PE X o to) (ha:PA X (e::es) t)
  (hbase:attributeBase o name X.env (eval o X.env)=eval o X.env:=by rfl)
  (hfew:((backTo cpos (starEach (e::es) X.env)).all (fun x=>!x.1)&&(backToKw cpos (keywordEach [] X.env)).all (fun x=>x.1.isSome)
   && decide ((e::es).length+([]:List Keyword).length+(if ([]:List Keyword).isEmpty then 0 else 1)<30))=true:=by rfl)
  (hline:(apos.endLine == cpos.line)=true:=by rfl) (hs:starEach (e::es) X.env=(false,eval e X.env)::starEach es X.env:=by rfl) (hplain:(backTo cpos (starEach es X.env)).any (·.1)=false:=by rfl) :
  PE X (.Call (.Attribute o name apos) (e::es) [] cpos) (tBM X.K T r to t):=by
 intro a s σ H Q I h;refine wpAny_Call_method_late hbase hfew hline rfl (thn (ho a s σ H _ I h) fun v g ζ=>?_);obtain ⟨x,u,I1,c,p,n⟩:=ζ;obtain ⟨j,k⟩:=JjR I1 c p;refine ⟨T,id,pa,slot,hty,j,k,?_⟩;have b:=ha cpos a g σ u _ I1 n;rw [hs] at b ⊢;refine Calls.callWith_builtin (by show (false||(backTo cpos (starEach es X.env)).any (·.1))=false;rw [hplain] <;> rfl) (Calls.evalArgs_plain ?_);exact thn b fun i m ⟨q,l,I2,d,f⟩=>hm a m σ l x q v i Q I2 c d f
end
def MtM (X:Cx) (id:String) (r:V->List V->Hp->VK->Prop):Prop :=
 ∀ (pins:List (Addr × Obj)) (s:Shared) (σ : St) (H:Hp) (x:V) (xs:List V) (v:Value) (us:List Value) (Q:VK),Inv X pins σ H s->RelV x v->Vals xs us->r x xs H Q ->
  wpAny (model X.prog X.w) X.A (call (.builtin id) (v::us)) (EP X pins σ Q) X.xe s
theorem Vals.one:∀ {x:V} {us:List Value},Vals [x] us->∃ u,us=[u]/\RelV x u
 | _,_, .cons r .nil=>⟨_,rfl,r⟩
theorem Vals.zero:∀ {us:List Value},Vals [] us->us=[]
 | _, .nil=>rfl
theorem Vals.dropLast {xs:List V} {us:List Value} (h:Vals xs us):Vals xs.dropLast us.dropLast:=by
 induction h with
 | nil=>exact .nil
 | cons r t ih=>
  cases t with
  | nil=>exact .nil
  | cons q t'=>exact .cons r ih
theorem Vals.eraseIdx:∀ {xs:List V} {us:List Value} (i:Nat),Vals xs us->Vals (xs.eraseIdx i) (us.eraseIdx i)
 | _,_,_, .nil=>.nil
 | _,_,0, .cons _ t=>t
 | _,_,i+1, .cons r t=>.cons r (Vals.eraseIdx i t)
theorem Vals.reverse {xs:List V} {us:List Value} (h:Vals xs us):Vals xs.reverse us.reverse:=by
 induction h with
 | nil=>exact .nil
 | cons r t ih=>rw [List.reverse_cons,List.reverse_cons];exact Vals.append ih (.cons r .nil)
theorem Jhf {α : Type} (l:List α):l.eraseIdx (l.length-1)=l.dropLast:=by
 induction l with
 | nil=>rfl
 | cons a r ih=>
  cases r with
  | nil=>rfl
  | cons b r=>
   have e:(a::b::r).length-1=((b::r).length-1)+1:=by
    have d:(a::b::r).length=r.length+2:=rfl;have c:(b::r).length=r.length+1:=rfl;ac_nf
   rw [e,List.eraseIdx_cons_succ,ih];all_goals rfl
theorem JfI {α : Type}:∀ (l:List α) (i:Nat),(l.eraseIdx i).length<=l.length
 | [],_=>Nat.le_refl _
 | _::_,0=>Nat.le_succ _
 | _::r,i+1=>Nat.succ_le_succ (JfI r i)
section
variable {X:Cx} {pins:List (Addr × Obj)} {σ : St} {H:Hp} {s:Shared} {l b:Addr} {xs ys zs:List V}
theorem Inv.lset {its its':List Value} {n:Nat} {f:Array Value->Array Value} {t':Nat} (I:Inv X pins σ H s) (hH:H l=some (.lst xs))
  (e:s.heap.get? l=some { cls:=.type "list",data:=.seq its.toArray n }) (hf:f its.toArray=its'.toArray) (hv:Vals ys its') (hz:ys.length<=sizeLine) :
  Inv X pins σ (upd H l (.lst ys)) { s with heap:=s.heap.update l (Obj.mapSeq f),toks:=t' }:=by
 have q:=PySem.IsL.update e f;rw [hf] at q;refine I.write (x:=l) (e:=l) (by rw [hH];exact trivial) (.inl rfl) (fun c u b a=>(Heap.get?_update_other s.heap (Obj.mapSeq f) (Ne.symm b)).trans a) ⟨_,q⟩ ?_;exact ⟨hz,its',_,hv,q⟩
theorem Inv.lnew {its:List Value} {t':Nat} (I:Inv X pins σ H s) (hv:Vals ys its) (hz:ys.length<=sizeLine) :
  Inv X pins σ (upd H s.heap.objs.size (.lst ys)) { s with heap:=s.heap.push { cls:=.type "list",data:=.seq its.toArray },toks:=t' } :=
 I.laid (fun _ _ q=>Heap.get?_push_of_some _ q) (Nat.le_refl _) ⟨hz,its,0,hv,Heap.get?_push_size _ rfl⟩
theorem Inv.fresh (I:Inv X pins σ H s):H s.heap.objs.size=none:=I.hok.fresh (Nat.le_refl _)
theorem Inv.lstM (I:Inv X pins σ H s) (hH:H l=some (.lst xs)):xs.length<=sizeLine/\∃ (its:List Value) (n:Nat),Vals xs its/\xs.length=its.length/\s.heap.get? l=some { cls:=.type "list",data:=.seq its.toArray n }:=by
 obtain ⟨z,its,n,r,e⟩:=I.hok l _ hH;exact ⟨z,its,n,r,r.length,e⟩
theorem Ji6 {n:Nat} (h:n<=sizeLine):Builtin.List.listTooLong n=false:=by
 unfold Builtin.List.listTooLong;exact decide_eq_false ∅
end
section
variable {X:Cx}
def JkI:V->List V->Hp->VK->Prop:=fun x vs H Q=>∃ l xs y,x=.ref l/\vs=[y]/\H l=some (.lst xs)/\xs.length<sizeLine/\Q .non (upd H l (.lst (xs++[y])))
theorem JaY:MtM X "list.append" JkI:=by
 intro c s σ H x m v k Q I f d h;obtain ⟨l,o,y,rfl,rfl,b,i,q⟩:=h;cases f;obtain ⟨u,rfl,g⟩:=d.one;obtain ⟨z,a,n,r,j,e⟩:=I.lstM b;refine call_meets F.slot_list_append ⟨_,e,rfl⟩ F.entry_list_append (F.args_list_append_2 _ _) (PySem.list_append l a.toArray n u (by rw [size_toArray];ac_nf)) ⟨e,?_⟩;refine ⟨.non,_,I.lset (its':=a++[u]) b e (by simp) (r.append (.cons g .nil)) ?_,rfl,q⟩;rw [length_append,length_singleton];ac_nf
def JkJ:V->List V->Hp->VK->Prop:=fun x vs H Q=>∃ l b xs zs,x=.ref l/\vs=[.ref b]/\H l=some (.lst xs)/\H b=some (.lst zs)/\xs.length+zs.length<=sizeLine/\Q .non (upd H l (.lst (xs++zs)))
theorem JfL:MtM X "list.extend" JkJ:=by
 intro i s σ H x G v D Q I p m h;obtain ⟨l,b,J,E,rfl,rfl,g,y,B,q⟩:=h;cases p;obtain ⟨u,rfl,w⟩:=m.one;cases w;obtain ⟨z,c,n,r,C,e⟩:=I.lstM g;obtain ⟨A,a,o,k,j,t⟩:=I.lstM y;have f:c.toArray.size+a.toArray.size<=sizeLine:=by rw [size_toArray,size_toArray];ac_nf
 have d:¬ (!c.toArray.isEmpty&&Builtin.List.listTooLong (c.toArray.size+a.toArray.size))=true:=by
  rw [Ji6 f,Bool.and_false];exact Bool.false_ne_true
 refine call_meets F.slot_list_extend ⟨_,e,rfl⟩ F.entry_list_extend (F.args_list_extend_2 _ _)
  (AutoSeq1.list_extend_list_list_0 l c.toArray n b a.toArray o d (by rw [size_toArray];ac_nf) ∅) ⟨e,t,?_⟩
 refine ⟨.non,_,I.lset (its':=c++a) g e (by simp) (r.append k) ?_,rfl,q⟩;rw [length_append];ac_nf
def rPop:V->List V->Hp->VK->Prop:=fun x vs H Q=>∃ l xs y,x=.ref l/\vs=[]/\H l=some (.lst xs)/\xs[xs.length-1]?=some y/\Q y (upd H l (.lst xs.dropLast))
theorem Jli:MtM X "list.pop" rPop:=by
 intro f s σ H x t v p Q I k i h;obtain ⟨l,w,y,rfl,rfl,d,o,q⟩:=h;cases k;have b:=i.zero;subst b;obtain ⟨z,a,n,r,j,e⟩:=I.lstM d;obtain ⟨u,g,m⟩:=r.get o;have c:a.toArray[a.toArray.size-1]?=some u:=by
  show a.toArray[a.length-1]?=some u;rw [<- Array.getElem?_toList, <- j];exact g
 refine call_meets F.slot_list_pop ⟨_,e,rfl⟩ F.entry_list_pop (F.args_list_pop_1 _) (MeetsSeq.list_pop_last l a.toArray n u c (by rw [size_toArray];ac_nf)) ⟨e,?_⟩;refine ⟨y,_,I.lset (its':=a.dropLast) d e ?_ r.dropLast ?_,m,q⟩
 ·show a.toArray.eraseIdxIfInBounds (a.toArray.size-1)=a.dropLast.toArray;rw [size_toArray,List.eraseIdxIfInBounds_toArray,Jhf]
 ·rw [List.length_dropLast];ac_nf
def JlB:V->List V->Hp->VK->Prop:=fun x vs H Q=>∃ l xs i k y,x=.ref l/\vs=[.int i]/\H l=some (.lst xs)/\-(2 ^ 63)<=i/\i<2 ^ 63/\seqIndex? i xs.length=some k/\xs[k]?=some y/\Q y (upd H l (.lst (xs.eraseIdx k)))
theorem Ji4:MtM X "list.pop" JlB:=by
 intro d s σ H x G v E Q I m f h;obtain ⟨l,C,i,k,y,rfl,rfl,c,p,B,j,A,q⟩:=h;cases m;obtain ⟨u,rfl,o⟩:=f.one;obtain ⟨t,rfl⟩:=o;obtain ⟨z,a,n,r,g,e⟩:=I.lstM c;obtain ⟨w,D,b⟩:=r.get A;refine call_meets F.slot_list_pop ⟨_,e,rfl⟩ F.entry_list_pop (F.args_list_pop_2 _ _)
  (MeetsSeq.list_pop_at l a.toArray n i t k w (fitsIndex_both p B) (by rw [size_toArray, <- g];exact j) (by rw [<- Array.getElem?_toList];exact D) (by rw [size_toArray];ac_nf)) ⟨e,?_⟩
 refine ⟨y,_,I.lset (its':=a.eraseIdx k) c e ?_ (r.eraseIdx k) ?_,b,q⟩
 ·show a.toArray.eraseIdxIfInBounds k=(a.eraseIdx k).toArray;rw [List.eraseIdxIfInBounds_toArray]
 ·have:=JfI C k;ac_nf
def Jjj:V->List V->Hp->VK->Prop:=fun x vs H Q=>∃ l xs,x=.ref l/\vs=[]/\H l=some (.lst xs)/\Q .non (upd H l (.lst xs.reverse))
theorem Jhm:MtM X "list.reverse" Jjj:=by
 intro d s σ H x k v j Q I g f h;obtain ⟨l,m,rfl,rfl,c,q⟩:=h;cases g;have b:=f.zero;subst b;obtain ⟨z,a,n,r,i,e⟩:=I.lstM c;refine call_meets F.slot_list_reverse ⟨_,e,rfl⟩ F.entry_list_reverse (F.args_list_reverse_1 _) (AutoSeq1.list_reverse_list_0 l a.toArray n (by rw [size_toArray];ac_nf)) ⟨e,?_⟩;refine ⟨.non,_,I.lset (its':=a.reverse) c e (by simp) r.reverse ?_,rfl,q⟩;rw [List.length_reverse];ac_nf
def rCat:R2:=fun x y H Q=>∃ l b xs zs,x=.ref l/\y=.ref b/\H l=some (.lst xs)/\H b=some (.lst zs)/\xs.length+zs.length<=sizeLine/\∀ p,H p=none->Q (.ref p) (upd H p (.lst (xs++zs)))
theorem Jll:OpR X (binaryOp .Add) rCat:=by
 intro d s σ H x y v u Q I k j h;obtain ⟨l,b,D,C,rfl,rfl,f,o,w,q⟩:=h;cases k;cases j;obtain ⟨z,c,n,r,A,e⟩:=I.lstM f;obtain ⟨t,a,B,i,g,m⟩:=I.lstM o;refine PySem.P.add_list e m ?_ (by rw [size_toArray,size_toArray];ac_nf);have p:c.toArray++a.toArray=(c++a).toArray:=by simp
 rw [p];exact ⟨.ref _,_,I.lnew (t':=s.toks) (r.append i) (by rw [length_append];ac_nf),rfl,q _ I.fresh⟩
end
section
variable {prog:Program} {w:World} {A:Around} {E:Value->Shared->Prop} {s:Shared}
end
section
variable {X:Cx}
end
end L2
namespace Att
open PySem PySem.W PySem.Calls PyProof.Rows
theorem JdW {P:Params} {h:Heap}:∀ (ns:List Int) (vs:List Value),WellAll P h vs (ns.map WData.int)->IntsAre vs ns:=by
 intro ns;induction ns with
 | nil=>
  intro vs w;rw [map_nil] at w;cases w;exact .nil
 | cons n ns ih=>
  intro vs w;rw [map_cons] at w;cases w with
  | cons a b=>
   cases a;exact .cons _ _ (ih _ b)
theorem JiA {l:OpenLaw} {n:Nat} (hn:l.most=some n) {P:Params} {h:Heap} {args:List WData} {vals:List Value}
  (hpre:l.row.toRowW.claim.pre args=true) (hwl:WellAll P h vals args) :
  ∃ a vs ns,vals=[Value.ref a]/\args=[WData.list (ns.map WData.int)]/\h.get? a=some { cls:=.type "list",data:=.seq vs.toArray }/\IntsAre vs ns/\ns.length<=n:=by
 have f:WShape.hasAll [] args [.list .int]=true:=(pre_splitW hpre).1;have g:l.pre.holds [] { args:=args }=true:=(pre_splitW hpre).2;obtain ⟨d,r,rfl,k,i⟩:=hasAllW_cons f;obtain rfl:=hasAllW_nil i;obtain ⟨o,rfl,m⟩:=hasW_list k;obtain ⟨ns,rfl⟩:=items_int m;have b:ns.length<=n:=by
  unfold OpenLaw.pre at g;have e:(WTm.not (.lt (.lit (.int (n:Int))) (.len (.arg 0)))).holds [] { args:=[.list (ns.map .int)] }=true:=by
   have e:=(holds_andW g).1;rw [hn] at e;exact e
  have c:=condW_of e (w_not (w_lt w_lit (w_len_list (w_arg rfl))));rw [length_map] at c;refine Nat.le_of_not_lt fun q=>?_;have j:(n:Int)<((ns.length:Nat):Int):=by ac_nf
  first
   | (rw [decide_eq_true j] at c;exact absurd c ⋯)
   | (simp at c;ac_nf)
 cases hwl with
 | cons w1 w2=>
  cases w2;cases w1 with
  | list ho hall=>exact ⟨_,_,ns,rfl,rfl,ho,JdW ns _ hall,b⟩
theorem Jir (l:OpenLaw) (args:List WData):l.row.toRowW.claim.post args (.bool true) args=true :=
 postW_of (r:=l.row.toRowW) (X:=(true == true))
  (show WShape.has [] (.bool true) .bool=true by first | rfl | decide | simp [WShape.has,WShape.arms,WShape.armsAll])
  (show (WTm.eq .res (.lit (.bool true))).value [] { args:=args,res:=some (.bool true),after:=args }=some (.bool (true == true)) from w_eq_bool (w_res rfl) w_lit) rfl
theorem attach_call {l:OpenLaw} {n:Nat} {q:Program} {loose:List Str} {XP:(Str->Option Value)->Heap->Prop} {YP:World->Heap->Prop} {d:DefRec}
  (hn:l.most=some n) (hdf:d.params.defaults=[])
  (call:∀ (w:World) (s₀ s₁ : Shared) (mg mb:Str->Option Value) (fa:Addr) (o:Obj) (pm cd doc:Value) (a:Addr) (vs:List Value) (ns:List Int),
   Ground q loose [] XP w s₀ mg mb s₁.heap->YP w s₁.heap ->
   s₁.heap.get? fa=some o->o.data=.func (docDef d.name d.params d.body d.scope pm cd doc)->s₁.heap.CodeRec cd d.name->mg d.name=some (.ref fa) ->
   s₁.heap.get? a=some { cls:=.type "list",data:=.seq vs.toArray }->IntsAre vs ns->ns.length<=n->s₁.gens=#[] ->
   codeAny (model l.prog w) callerA (.call (.ref fa) ⟨[.ref a],[]⟩) (fun r s'=>r=.ok (.ret (.bool true))/\OldK s₁.heap s'.heap/\s'.os=s₁.os/\AllBare s'.gens) s₁) :
  WalkO q loose XP YP l.row.toRowW d [] (fun f vs=>PySem.call f vs):=by
 intro w s₀ s₁ mg mb G Y fa o pm cd doc x kV v C h p j A m t H g k u i E;obtain rfl:x=.none:=Dflts.none p hdf;obtain rfl:kV=.none:=Dflts.noKw p;obtain ⟨a,vs,ns,rfl,rfl,e,b,c⟩:=JiA hn g i;refine enter_call (codeAny_mono (call w s₀ s₁ mg mb fa o pm cd doc a vs ns G Y v (fd_plain C) h j e b c A) fun r s' D=>?_);obtain ⟨rfl,z,F,y⟩:=D;exact ⟨.inl ⟨.bool true, .bool true,[],rfl,fun _=>rfl, .bool true,Jir l _,fun _=>⟨List.Pairwise.nil,fun _ B=>(nomatch B)⟩⟩,z,F,y⟩
section
variable {prog:Program} {w:World} {A:Around} {E:Value->Shared->Prop} {s:Shared} {K:Frag}
end
end Att
namespace L2
open PySem PySem.Spec PyProof.Rows
theorem Jf5:∀ {vs:List Value} {ns:List Int},IntsAre vs ns->Vals (ns.map V.int) vs
 | _,_, .nil=>.nil
 | _,_, .cons n t h=>.cons ⟨t,rfl⟩ (Jf5 h)
def Only (H:Hp):Prop:=∀ b,H b=none\/∃ o xs,H b=some (.frz o (.lst xs))
theorem Ji1 {P:Program} {w:World} {K:W.Frag} {mg mb:Str->Option Value} {CX:CXT} {k:Nat} {fa a:Addr} {fd:FuncData} {x:Str} {sp:Sp} {s₁ : Shared} {vs:List Value} {ns:List Int}
  (KX:K.In s₁.heap) (hns:s₁.heap.Ns mainGlobals mg) (hb:s₁.heap.Ns builtinsNs mb) (hbb:∀ x:Str,x≠"__name__"->mb x=bootBuiltins x) (hlim:s₁.heap.NoLimit) (hg:s₁.gens=#[])
  (ha:s₁.heap.get? a=some { cls:=.type "list",data:=.seq vs.toArray }) (hi:IntsAre vs ns) (hl:ns.length<=sizeLine) (hr:Room k callerA)
  (F:∀ base:Heap,K.In base->base.Ns mainGlobals mg->FnOk P w K mg base CX k fa fd [x] sp) (hbind:∀ (s:Shared) (u:Value),BindsTo s fd ⟨[u],[]⟩ [(x,u)])
  (hsp:∀ H:Hp,Only H->SqL K H a (ns.map V.int)->sp [.ref a] H (fun v _=>v=.bl true) fun _ _ _=>False)
  (hCX:∀ H e s',CX [] H s₁ (fun _ _ _=>False) e s'->False) :
  codeAny (model P w) callerA (.call (.ref fa) ⟨[.ref a],[]⟩) (fun r s'=>r=.ok (.ret (.bool true))/\OldK s₁.heap s'.heap/\s'.os=s₁.os/\AllBare s'.gens) s₁:=by
 have E:=Jf5 hi;have j:=hi.length;have g:∀ H:Hp,Only H->SqL K H a (ns.map V.int)->HOk P w H s₁.heap->(∀ b,H b≠none->b=a)->(H a≠none->K.lookup a=none) ->
   codeAny (model P w) callerA (.call (.ref fa) ⟨[.ref a],[]⟩) (fun r s'=>r=.ok (.ret (.bool true))/\OldK s₁.heap s'.heap/\s'.os=s₁.os/\AllBare s'.gens) s₁:=by
  intro H I L i C N;have c:∀ {b:Addr} {o:Obj},s₁.heap.get? b=some o->H b=none->(hidT s₁.heap H).get? b=some o:=fun e n=>Ji0 e n;have A:∀ {b:Addr} {o:Obj} {es:Array DictEntry} {ep:Nat},s₁.heap.get? b=some o->o.data=.dict es ep->H b=none:=fun {b o es ep} e d=>by
   cases q:H b with
   | none=>rfl
   | some u=>
    have B:b=a:=C b (by rw [q];simp);subst B;rw [ha] at e;cases e;have R:Data.seq vs.toArray _=Data.dict es ep:=d;cases R
  have f:∀ {b:Addr} {m:Str->Option Value},s₁.heap.Ns b m->(hidT s₁.heap H).Ns b m:=fun {b m} ⟨o,es,ep,e,d,r⟩=>⟨o,es,ep,c e (A e d),d,r⟩;have y:K.In (hidT s₁.heap H):=fun b o e=>c (KX b o e) (by
   cases q:H b with
   | none=>rfl
   | some u=>
    have B:b=a:=C b (by rw [q];simp);subst B;rw [N (by rw [q];simp)] at e;cases e)
  have T:Mod K mg (hidT s₁.heap H):=⟨y,f hns,⟨mb,f hb,hbb⟩,let ⟨mc,h1,h2⟩:=hlim;⟨mc,f h1,h2⟩⟩;have O:Env0 P w K mg (hidT s₁.heap H) callerA [] s₁ H:=⟨rfl,T,fun b o e=>Jkr e,Nat.le_of_eq (JhX _ _),trivial,fun b hb=>absurd (show b∈([]:List Addr) from hb) (by simp),i, .of_eq hg⟩;refine codeAny_mono ((F _ y (f hns)).run callerA [] s₁ H ⟨[.ref a],[]⟩ [.ref a] [.ref a] _ _ hr O (hbind s₁ (.ref a)) (.cons rfl .nil) (hsp H I L)) fun r s' h=>?_;cases r with
  | error e=>exact (hCX H e s' h).elim
  | ok fl=>
   cases fl with
   | next=>exact False.elim h
   | brk=>exact False.elim h
   | cont=>exact False.elim h
   | ret u=>
    obtain ⟨v,U,os,p,G,l,S,q⟩:=h;have Q:v=.bl true:=q;subst Q;obtain rfl:u=Value.bool true:=S;refine ⟨rfl,OldK.of_keep fun b o e=>?_,os,p⟩;cases q:H b with
    | none=>exact G.keep b o e q (by intro z;exact absurd (show b∈([]:List Addr) from z) (by simp)) (by simp)
    | some u=>
     rcases I b with z | ⟨ob,xs,z⟩
     ·rw [q] at z;cases z
     ·have J:=G.frzs b ob _ z;obtain ⟨D,_⟩:=i b _ z;obtain ⟨M,_⟩:=l b _ J;rw [e] at D;cases D;exact M
 cases hk:K.lookup a with
 | some o=>
  have e:=KX a o hk;rw [ha] at e;cases e;refine g (fun _=>none) (fun _=>.inl rfl) (.inr ⟨_,vs.toArray,_,hk,rfl,rfl,rfl,by rw [size_toArray,j];exact hl,by simpa using E⟩) (fun b u z=>by have t:(none:Option HO)=some u:=z;cases t) (fun b z=>absurd rfl z) fun z=>absurd rfl z
 | none=>
  refine g (fun b=>if b=a then some (.frz { cls:=.type "list",data:=.seq vs.toArray } (.lst (ns.map V.int))) else none) (fun b=>?_) (.inl (.inr ⟨{ cls:=.type "list",data:=.seq vs.toArray },if_pos rfl⟩)) (fun b u z=>?_) (fun b z=>?_) fun _=>hk
  ·by_cases hb:b=a
   ·exact .inr ⟨_,_,if_pos hb⟩
   ·exact .inl (if_neg hb)
  ·by_cases hb:b=a
   ·have t:=(if_pos hb).symm.trans z;cases t;subst hb;exact ⟨ha,by rw [length_map];exact hl,vs,_,E,ha⟩
   ·have t:=(if_neg hb).symm.trans z;cases t
  ·by_cases hb:b=a
   ·exact hb
   ·exact absurd (if_neg hb) z
abbrev KOf {K:W.Frag} {h:Heap} (_:K.In h):W.Frag:=K
theorem JiR {l:W.OpenLaw} {n k:Nat} {q:Program} {loose:List Str} {XP:(Str->Option Value)->Heap->Prop} {YP:World->Heap->Prop} {d:DefRec} {K:Params->W.Frag} {CX:World->CXT} {sp:World->Sp} {x:Str}
  (hn:l.most=some n) (hn2:n<=sizeLine) (hdf:d.params.defaults=[]) (hr:Room k callerA)
  (hY:∀ (w:World) (h:Heap),YP w h->(K w.params).In h)
  (F:∀ (w:World) (mg:Str->Option Value) (fa:Addr) (h:Heap),(K w.params).In h->h.Ns mainGlobals mg->mg d.name=some (.ref fa) ->
   ∃ fd:FuncData,(∀ (s:Shared) (u:Value),BindsTo s fd ⟨[u],[]⟩ [(x,u)]) /\
    ∀ base:Heap,(K w.params).In base->base.Ns mainGlobals mg->FnOk l.prog w (K w.params) mg base (CX w) k fa fd [x] (sp w))
  (hsp:∀ (w:World) (H:Hp) (a:Addr) (ns:List Int),ns.length<=n->Only H->SqL (K w.params) H a (ns.map V.int)->sp w [.ref a] H (fun v _=>v=.bl true) fun _ _ _=>False)
  (hCX:∀ (w:World) (H:Hp) (s:Shared) (e:Value) (s':Shared),CX w [] H s (fun _ _ _=>False) e s'->False) :
  W.WalkO q loose XP YP l.row.toRowW d [] (fun f vs=>PySem.call f vs):=by
 refine Att.attach_call hn hdf fun w s₀ s₁ mg J fa o E C B a vs ns G Y D I t m j i c y=>?_;have KX:=hY w _ Y;obtain ⟨fd,r,z⟩:=F w mg fa _ KX G.T.g m;exact Ji1 KX G.T.g G.T.b G.T.builtins G.T.nolimit y j i (Nat.le_trans c hn2) hr z r (fun H A p=>hsp w H a ns c A p) fun H e s'=>hCX w H s₁ e s'
def inClass (s:Stmt) (j:Nat):Stmt:=match s with
 | .ClassDef _ _ _ body _ _ _ _ _ _ _=>body.getD j (.Pass ⟨0,0,0,0⟩)
 | _=>.Pass ⟨0,0,0,0⟩
def Jam (s:Stmt):Arguments:=match s with
 | .FunctionDef _ a _ _ _ _ _ _ _ _=>a
 | _=>{ posonlyargs:=[],args:=[],vararg:=none,kwonlyargs:=[],kw_defaults:=[],kwarg:=none,defaults:=[] }
def Jal (s:Stmt):List Stmt:=match s with
 | .FunctionDef _ _ b _ _ _ _ _ _ _=>b
 | _=>[]
def Jae (s:Stmt):Scope:=match s with
 | .FunctionDef _ _ _ _ _ _ sc _ _ _=>sc
 | _=>{ kind:=.function,names:=[],isGenerator:=false,isCoroutine:=false }
abbrev E0:XK:=fun _ _ _=>False
structure Fun (K:W.Frag) (x qual:Str) (st:Stmt) (f:Addr) (fd:FuncData):Prop where
 ex:∃ (oc:Value) (od:Option Addr) (kV doc pm:Value) (an:Option Addr) (cdv ct:Value) (osl:Array (Option Value)),
  fd=W.fnOf x qual (Jam st) (Jal st) (Jae st) .none kV doc pm an cdv ct/\K.lookup f=some ⟨oc,od, .func fd,osl⟩/\W.codeIn K cdv qual=true
 kp:W.keepIn K (.ref f)=true
section
variable {P:Program} {w:World} {K:W.Frag} {mg:Str->Option Value} {base:Heap}
theorem Fun.binds {x qual:Str} {st:Stmt} {f:Addr} {fd:FuncData} {ps:List Str} (F:Fun K x qual st f fd)
  (h:∀ (kV doc pm:Value) (an:Option Addr) (cdv ct:Value) (us:List Value),us.length=ps.length->bindArgs (W.fnOf x qual (Jam st) (Jal st) (Jae st) .none kV doc pm an cdv ct) ⟨us,[]⟩=pure (ps.zip us)):Binds K fd ps []:=by
 obtain ⟨c,d,kV,doc,pm,an,cdv,ct,a,rfl,e,b⟩:=F.ex;exact .all (h kV doc pm an cdv ct)
end
section
variable {X:Cx}
theorem pv (i:Nat) {x:Str} {pos:Pos} (hN:X.N[i]?=some x:=by rfl) (hv:Vis X.env.scope x:=by first | exact Or.inl rfl | exact Or.inr (Or.inl rfl) | exact Or.inr (Or.inr rfl)) (hd:(x == ("__debug__" : Str))=false:=by decide)
  (hcd:(x == ("__classdict__" : Str))=false:=by decide):PE X (.Name x pos) (tVar i):=Jlt hN hv hd hcd
end
def Same (H H':Hp):Prop:=∀ b o,H b=some o->H' b=some o
theorem Same.refl (H:Hp):Same H H:=fun _ _ h=>h
theorem Same.trans {H H1 H2:Hp} (a:Same H H1) (b:Same H1 H2):Same H H2:=fun c o h=>b c o (a c o h)
theorem Same.seq {K:W.Frag} {H H':Hp} {a:Addr} {xs:List V} (e:Same H H') (h:SqL K H a xs):SqL K H' a xs:=by
 rcases h with (h | ⟨o,h⟩) | h
 ·exact .inl (.inl (e _ _ h))
 ·exact .inl (.inr ⟨o,e _ _ h⟩)
 ·exact .inr h
end L2
set_option maxHeartbeats 4000000
namespace L2
open PySem PySem.Spec PyProof.Rows
section
variable {κ : Type} [DecidableEq κ]
def valV (kvs:List (κ × V)) (k : κ):Option V:=(kvs.find? fun kv=>decide (kv.1=k)).map (·.2)
def putK (kvs:List (κ × V)) (k : κ) (v:V):List (κ × V) :=
 if (kvs.any fun kv=>decide (kv.1=k))=true then kvs.map (fun kv=>if kv.1=k then (kv.1,v) else kv) else kvs++[(k,v)]
theorem Jbd {p : κ × V} {r:List (κ × V)} {k : κ} (e:p.1=k):valV (p::r) k=some p.2:=by simp [valV,List.find?_cons,e]
theorem Jbf {p : κ × V} {r:List (κ × V)} {k : κ} (e:¬ p.1=k):valV (p::r) k=valV r k:=by simp [valV,List.find?_cons,e]
theorem Jcv (k : κ):∀ kvs:List (κ × V),(kvs.any fun kv=>decide (kv.1=k))=(valV kvs k).isSome
 | []=>rfl
 | p::r=>by
  rw [any_cons];by_cases e:p.1=k
  ·simp only [Jbd e,decide_eq_true e,Bool.true_or,Option.isSome_some]
  ·rw [Jbf e,decide_eq_false e,Bool.false_or];exact Jcv k r
theorem Jg8 (k j : κ) (y:V):∀ kvs:List (κ × V),valV (kvs.map fun kv=>if kv.1=k then (kv.1,y) else kv) j=(valV kvs j).map fun x=>if j=k then y else x
 | []=>rfl
 | p::r=>by
  have ih:=Jg8 k j y r;rw [map_cons];by_cases h:p.1=k
  ·rw [if_pos h];by_cases e:p.1=j
   ·rw [Jbd (p:=(p.1,y)) e,Jbd e,Option.map_some,if_pos (e.symm.trans h)]
   ·rw [Jbf (p:=(p.1,y)) e,Jbf e,ih]
  ·rw [if_neg h];by_cases e:p.1=j
   ·rw [Jbd (p:=p) e,Jbd e,Option.map_some,if_neg (fun z=>h (e.trans z))]
   ·rw [Jbf (p:=p) e,Jbf e,ih]
theorem Jf4 (k j : κ) (y:V):∀ kvs:List (κ × V),valV kvs k=none->valV (kvs++[(k,y)]) j=if j=k then some y else valV kvs j
 | [],_=>by
  by_cases e:k=j
  ·rw [if_pos e.symm];exact Jbd (p:=(k,y)) e
  ·rw [if_neg (fun z=>e z.symm)];exact Jbf (p:=(k,y)) e
 | p::r,hn=>by
  rw [cons_append];have hk:¬ p.1=k:=fun z=>by rw [Jbd z] at hn;cases hn
  rw [Jbf hk] at hn;have ih:=Jf4 k j y r hn;by_cases e:p.1=j
  ·rw [Jbd e,Jbd e,if_neg (fun z=>hk (e.trans z))]
  ·rw [Jbf e,Jbf e,ih]
theorem Jg9 (kvs:List (κ × V)) (k j : κ) (y:V):valV (putK kvs k y) j=if j=k then some y else valV kvs j:=by
 unfold putK;by_cases a:(kvs.any fun b=>decide (b.1=k))=true
 ·rw [if_pos a,Jg8];rw [Jcv] at a;by_cases e:j=k
  ·obtain ⟨x,c⟩:=Option.isSome_iff_exists.mp a;rw [if_pos e,e,c,Option.map_some,if_pos rfl]
  ·rw [if_neg e];cases valV kvs j with
   | none=>rfl
   | some x=>rw [Option.map_some,if_neg e]
 ·rw [if_neg a];refine Jf4 k j y kvs ?_;rw [Jcv] at a;cases q:valV kvs k with
  | none=>rfl
  | some x=>rw [q] at a;exact (a rfl).elim
theorem Jbg (kvs:List (κ × V)) (k : κ) (v:V):(putK kvs k v).length<=kvs.length+1:=by
 unfold putK;split
 ·rw [length_map];ac_nf
 ·rw [length_append,length_cons,length_nil];ac_nf
theorem Jji {kvs:List (κ × V)} {k : κ} (v:V) (h:valV kvs k=none):putK kvs k v=kvs++[(k,v)]:=by
 unfold putK;rw [Jcv,h];exact if_neg ⋯
theorem RelO.isSome_eq {o:Option V} {u:Option Value} (r:RelO o u):o.isSome=u.isSome:=by
 cases o with
 | none=>cases u with
  | none=>rfl
  | some _=>exact (show False from r).elim
 | some _=>cases u with
  | none=>exact (show False from r).elim
  | some _=>rfl
theorem RelO.getD {o:Option V} {u:Option Value} {d:V} {d':Value} (r:RelO o u) (rd:RelV d d'):RelV (o.getD d) (u.getD d'):=by
 cases o with
 | none=>cases u with
  | none=>exact rd
  | some _=>exact (show False from r).elim
 | some _=>cases u with
  | none=>exact (show False from r).elim
  | some _=>exact r
theorem KV.val {kvs:List (κ × V)} {vs:List (κ × Value)} (r:KV kvs vs) (k : κ):RelO (valV kvs k) (valueAt vs k):=by
 unfold KV at r;induction r with
 | nil=>exact True.intro
 | @cons p q ps qs h t ih=>
  obtain ⟨c,d⟩:=h;by_cases e:p.1=k
  ·have a:q.1=k:=c.symm.trans e;have b:valueAt (q::qs) k=some q.2:=by simp [valueAt,List.find?_cons,a]
   rw [Jbd e,b];exact d
  ·have a:¬ q.1=k:=fun z=>e (c.trans z);have b:valueAt (q::qs) k=valueAt qs k:=by simp [valueAt,List.find?_cons,a]
   rw [Jbf e,b];exact ih
theorem KV.any {kvs:List (κ × V)} {vs:List (κ × Value)} (r:KV kvs vs) (k : κ):(kvs.any fun kv=>decide (kv.1=k))=vs.any fun kv=>decide (kv.1=k):=by
 unfold KV at r;induction r with
 | nil=>rfl
 | cons h t ih=>rw [any_cons,any_cons,ih,h.1]
theorem KV.repl {kvs:List (κ × V)} {vs:List (κ × Value)} (r:KV kvs vs) (k : κ) {y:V} {u:Value} (ry:RelV y u) :
  KV (kvs.map fun kv=>if kv.1=k then (kv.1,y) else kv) (vs.map fun kv=>if kv.1=k then (kv.1,u) else kv):=by
 unfold KV at r ⊢;induction r with
 | nil=>exact .nil
 | @cons p q ps qs h t ih=>
  rw [map_cons,map_cons];refine .cons ?_ ih;obtain ⟨a,b⟩:=h;by_cases e:p.1=k
  ·rw [if_pos e,if_pos (a.symm.trans e)];exact ⟨a,ry⟩
  ·rw [if_neg e,if_neg (fun z=>e (a.trans z))];exact ⟨a,b⟩
theorem KV.put {kvs:List (κ × V)} {vs:List (κ × Value)} (r:KV kvs vs) (k : κ) {y:V} {u:Value} (ry:RelV y u):KV (putK kvs k y) (stored vs k u):=by
 unfold putK stored;rw [r.any k];by_cases e:(vs.any fun a=>decide (a.1=k))=true
 ·rw [if_pos e,if_pos e];exact r.repl k ry
 ·rw [if_neg e,if_neg e];exact Paired.snoc r ⟨rfl,ry⟩
theorem KV.length {kvs:List (κ × V)} {vs:List (κ × Value)} (r:KV kvs vs):kvs.length=vs.length:=Paired.length r
end
theorem kV_is {P:Program} {w:World} {k:Key} {u:Value} (r:RelV (kV k) u):(Jau P w).is k u=true:=by
 cases k with
 | inl i=>have e:=(show u=Value.bool i from r);subst e;exact JfK P w i
 | inr x=>obtain ⟨t,e⟩:=(show ∃ t,u=Value.str x t from r);subst e;exact Jgm P w x t
theorem JfH {P:Program} {w:World}:∀ {ks:List Key} {us:List Value},Vals (ks.map kV) us->ItemsAre (Jau P w) ks us
 | [],_,r=>by rw [map_nil] at r;cases r;exact .nil
 | k::ks,_,r=>by
  rw [map_cons] at r;cases r with
  | cons h t=>exact .cons (kV_is h) (JfH t)
abbrev KT (H:Hp):List (List Key × V)->List (List Key × Addr × Value)->Prop:=Paired fun p q=>p.1=q.1/\H q.2.1=some (.tup (p.1.map kV))/\RelV p.2 q.2.2
theorem KT.val {H:Hp} {kvs:List (List Key × V)} {xs:List (List Key × Addr × Value)} (r:KT H kvs xs) (k:List Key):RelO (valV kvs k) ((atKey xs k).map (·.2)):=by
 induction r with
 | nil=>exact True.intro
 | @cons p q ps qs h t ih=>
  obtain ⟨c,_,d⟩:=h;by_cases e:p.1=k
  ·have a:q.1=k:=c.symm.trans e;have b:atKey (q::qs) k=some q.2:=by simp [atKey,List.find?_cons,a]
   rw [Jbd e,b];exact d
  ·have a:¬ q.1=k:=fun z=>e (c.trans z);have b:atKey (q::qs) k=atKey qs k:=by simp [atKey,List.find?_cons,a]
   rw [Jbf e,b];exact ih
theorem KT.repl {H:Hp} {kvs:List (List Key × V)} {xs:List (List Key × Addr × Value)} (r:KT H kvs xs) (k:List Key) {y:V} {u:Value} (ry:RelV y u) :
  KT H (kvs.map fun kv=>if kv.1=k then (kv.1,y) else kv) (xs.map (putAt k u)):=by
 induction r with
 | nil=>exact .nil
 | @cons p q ps qs h t ih=>
  rw [map_cons,map_cons];refine .cons ?_ ih;obtain ⟨a,b,c⟩:=h;unfold putAt;by_cases e:p.1=k
  ·rw [if_pos e,if_pos (a.symm.trans e)];exact ⟨a,b,ry⟩
  ·rw [if_neg e,if_neg (fun z=>e (a.trans z))];exact ⟨a,b,c⟩
theorem KT.put {H:Hp} {kvs:List (List Key × V)} {xs:List (List Key × Addr × Value)} (r:KT H kvs xs) (k:List Key) {b:Addr} {y:V} {u:Value} (hb:H b=some (.tup (k.map kV))) (ry:RelV y u) :
  KT H (putK kvs k y) (storedH xs k b u):=by
 have e:(kvs.any fun a=>decide (a.1=k))=(atKey xs k).isSome:=by
  rw [Jcv,(r.val k).isSome_eq,Option.isSome_map]
 unfold putK storedH;rw [e];by_cases q:(atKey xs k).isSome=true
 ·rw [if_pos q,if_pos q];exact r.repl k ry
 ·rw [if_neg q,if_neg q];exact Paired.snoc r ⟨rfl,hb,ry⟩
theorem KT.keeps {H H':Hp} {kvs:List (List Key × V)} {xs:List (List Key × Addr × Value)} (r:KT H kvs xs) (ht:∀ b ys,H b=some (.tup ys)->H' b=some (.tup ys)):KT H' kvs xs :=
 Paired.mapP r fun _ _ z=>⟨z.1,ht _ _ z.2.1,z.2.2⟩
section
variable {P:Program} {w:World} {H:Hp} {h:Heap} {a:Addr}
theorem y78y {u:HO} (ok:HOk P w H h) (e:Rd H a u):ObjOk P w H h a u:=e.ok ok
theorem dk_rd {kvs:List (Key × V)} (ok:HOk P w H h) (e:Rd H a (.dK kvs)):kvs.length<=sizeLine/\(a == sysModules)=false/\∃ vs,KV kvs vs/\h.DictOf (Jau P w) a vs :=
 show ObjOk P w H h a (.dK kvs) from y78y ok e
theorem dk_of {kvs:List (Key × V)} (ok:HOk P w H h) (e:H a=some (.dK kvs)):kvs.length<=sizeLine/\(a == sysModules)=false/\∃ vs,KV kvs vs/\h.DictOf (Jau P w) a vs:=dk_rd ok (.inl e)
theorem JdX {ks:List Key} (ok:HOk P w H h) (e:H a=some (.tup (ks.map kV))):(tupleKind (Jau P w)).is h ks a:=by
 obtain ⟨_,b,r,o,d,c,n,f⟩:=(show ObjOk P w H h a (.tup (ks.map kV)) from ok a _ e);exact ⟨o,b.toArray,n,d,c,f,by simpa using JfH r⟩
theorem dt_rd {kvs:List (List Key × V)} (ok:HOk P w H h) (e:Rd H a (.dT kvs)):kvs.length<=sizeLine/\(a == sysModules)=false /\
  ∃ xs,KT H kvs xs/\h.DictOfH (tupleKind (Jau P w)) a xs:=by
 obtain ⟨z,y,xs,r,o,g,f,k,c,d,j,i⟩:=(show ObjOk P w H h a (.dT kvs) from y78y ok e);refine ⟨z,y,xs,r,o,g,f,k,c,d,j,fun x b=>?_,i⟩;have all:∀ {l:List (List Key × V)} {m:List (List Key × Addr × Value)},KT H l m->∀ x∈m,(tupleKind (Jau P w)).is h x.1 x.2.1:=by
  intro l m q;induction q with
  | nil=>intro x b;exact nomatch b
  | @cons p q ps qs hq t ih=>
   intro x b;rcases mem_cons.mp b with e | b
   ·subst e;exact JdX ok (by rw [<- hq.1];exact hq.2.1)
   ·exact ih x b
 exact all r x b
theorem dt_of {kvs:List (List Key × V)} (ok:HOk P w H h) (e:H a=some (.dT kvs)):kvs.length<=sizeLine/\(a == sysModules)=false /\
  ∃ xs,KT H kvs xs/\h.DictOfH (tupleKind (Jau P w)) a xs:=dt_rd ok (.inl e)
end
def DGet (H:Hp) (a:Addr) (y:V) (r:Option V):Prop :=
 (∃ kvs k,Rd H a (.dK kvs)/\y=kV k/\r=valV kvs k)\/∃ kvs k b,Rd H a (.dT kvs)/\y=.ref b/\H b=some (.tup (k.map kV))/\r=valV kvs k
def DPut (H:Hp) (a:Addr) (y v:V) (H':Hp):Prop :=
 (∃ kvs k,H a=some (.dK kvs)/\y=kV k/\kvs.length<sizeLine/\H'=upd H a (.dK (putK kvs k v))) \/
 ∃ kvs k b,H a=some (.dT kvs)/\y=.ref b/\H b=some (.tup (k.map kV))/\kvs.length<sizeLine/\H'=upd H a (.dT (putK kvs k v))
theorem DGet.k {H:Hp} {a:Addr} {kvs:List (Key × V)} {k:Key} (e:H a=some (.dK kvs)):DGet H a (kV k) (valV kvs k):=.inl ⟨kvs,k, .inl e,rfl,rfl⟩
theorem DPut.k {H:Hp} {a:Addr} {kvs:List (Key × V)} {k:Key} {v:V} (e:H a=some (.dK kvs)) (hl:kvs.length<sizeLine):DPut H a (kV k) v (upd H a (.dK (putK kvs k v))):=.inl ⟨kvs,k,e,rfl,hl,rfl⟩
section
variable {X:Cx} {pins:List (Addr × Obj)} {σ : St} {H:Hp} {s:Shared} {a:Addr} {y v:V} {u r:Value} {o:Option V} {A:Around} {E:Value->Shared->Prop}
theorem Inv.big (I:Inv X pins σ H s):sysModules<s.heap.objs.size:=by
 have h:mainGlobals<s.heap.objs.size:=(I.mod.glob.keeps I.bk).lt;exact Nat.lt_trans ⋯ h
theorem JhJ {Q:Value->Shared->Prop} (hu:A.units+1<cLine) (I:Inv X pins σ H s) (g:DGet H a y (some v)) (ry:RelV y u) (h:∀ w' s',Inv X pins σ H s'->RelV v w'->Q w' s') :
  wpAny (model X.prog X.w) A (getItem (.ref a) u) Q E s:=by
 rcases g with ⟨kvs,k,e,ey,l⟩ | ⟨kvs,k,b,e,ey,eb,l⟩
 ·subst ey;obtain ⟨z,r,n,d,j⟩:=dk_rd I.hok e;obtain ⟨w',i,c⟩:=RelO.some_of (v:=v) (o:=valueAt n k) (by rw [l];exact d.val k);exact wpAny_getItem_of (kV_is ry) j.mapOf i (h w' _ (I.tok _) c)
 ·subst ey;cases (show u=Value.ref b from ry);obtain ⟨z,r,q,d,j⟩:=dt_rd I.hok e;obtain ⟨w',i,c⟩:=RelO.some_of (v:=v) (o:=(atKey q k).map (·.2)) (by rw [l];exact d.val k);obtain ⟨p,m,f⟩:=Option.map_eq_some_iff.mp i;refine wpAny_getItem_heap (tupleKind_room_in1 hu) (JdX I.hok eb) j m ?_;rw [f];exact h w' _ (I.tok _) c
theorem d_in {Q:Value->Shared->Prop} (hu:A.units+1<cLine) (I:Inv X pins σ H s) (g:DGet H a y o) (ry:RelV y u) (h:∀ s',Inv X pins σ H s'->Q (.bool o.isSome) s') :
  wpAny (model X.prog X.w) A (compareOp .In u (.ref a)) Q E s:=by
 rcases g with ⟨kvs,k,e,ey,l⟩ | ⟨kvs,k,b,e,ey,eb,l⟩
 ·subst ey;obtain ⟨z,f,i,c,d⟩:=dk_rd I.hok e;refine wpAny_in_of (kV_is ry) f d.mapOf ?_;rw [<- (c.val k).isSome_eq, <- l];exact h _ (I.tok _)
 ·subst ey;cases (show u=Value.ref b from ry);obtain ⟨z,f,j,c,d⟩:=dt_rd I.hok e;refine wpAny_in_heap (tupleKind_room_in1 hu) (JdX I.hok eb) f d ?_;have q:=(c.val k).isSome_eq;rw [Option.isSome_map] at q;rw [<- q, <- l];exact h _ (I.tok _)
theorem Jj8 {Q:Value->Shared->Prop} (hu:A.units+1<cLine) (I:Inv X pins σ H s) (g:DGet H a y o) (ry:RelV y u) (h:∀ s',Inv X pins σ H s'->Q (.bool (!o.isSome)) s') :
  wpAny (model X.prog X.w) A (compareOp .NotIn u (.ref a)) Q E s:=by
 rcases g with ⟨kvs,k,e,ey,l⟩ | ⟨kvs,k,b,e,ey,eb,l⟩
 ·subst ey;obtain ⟨z,f,i,c,d⟩:=dk_rd I.hok e;refine wpAny_notIn_of (kV_is ry) f d.mapOf ?_;rw [<- (c.val k).isSome_eq, <- l];exact h _ (I.tok _)
 ·subst ey;cases (show u=Value.ref b from ry);obtain ⟨z,f,j,c,d⟩:=dt_rd I.hok e;refine wpAny_notIn_heap (tupleKind_room_in1 hu) (JdX I.hok eb) f d ?_;have q:=(c.val k).isSome_eq;rw [Option.isSome_map] at q;rw [<- q, <- l];exact h _ (I.tok _)
theorem JeY {h':Heap} {t':Nat} {ob:HO} (I:Inv X pins σ H s) (mu:Mut (H a)) (hs:Heap.SameBut a s.heap h') (he:∃ q,h'.get? a=some q) (new:ObjOk X.prog X.w (upd H a ob) h' a ob) :
  Inv X pins σ (upd H a ob) { s with heap:=h',toks:=t' } :=
 I.write (x:=a) (e:=a) mu (.inl rfl) (fun b q c z=>(hs.2 b c).trans z) he new
theorem JgS {P:Program} {w:World} {H':Hp} {h':Heap} {kvs:List (Key × V)} {vs:List (Key × Value)} (z:kvs.length<=sizeLine) (hd:(a == sysModules)=false) (rel:KV kvs vs) (dd:h'.DictOf (Jau P w) a vs) :
  ObjOk P w H' h' a (.dK kvs):=⟨z,hd,vs,rel,dd⟩
theorem JhK {H':Hp} {Q:Unit->Shared->Prop} (hu:A.units+1<cLine) (I:Inv X pins σ H s) (g:DPut H a y v H') (ry:RelV y u) (rv:RelV v r) (h:∀ s',Inv X pins σ H' s'->Q () s') :
  wpAny (model X.prog X.w) A (setItem (.ref a) u r) Q E s:=by
 rcases g with ⟨kvs,k,e,ey,l,eH⟩ | ⟨kvs,k,b,e,ey,eb,l,eH⟩
 ·subst ey eH;obtain ⟨z,o,G,d,p⟩:=dk_of I.hok e;have j:G.length<=sizeLine:=by rw [<- d.length];exact z
  have n:(putK kvs k v).length<=sizeLine:=by have:=Jbg kvs k v;ac_nf
  refine wpAny_setItem_pairs (hsz:=j) (kV_is ry) p fun x f m=>h _ ?_;have L:∃ q,x.get? a=some q:=let ⟨q,_,_,i,_⟩:=f;⟨q,i⟩;exact JeY I (by rw [e];exact True.intro) m L (JgS n o (d.put k rv) f)
 ·subst ey eH;cases (show u=Value.ref b from ry);obtain ⟨z,o,J,d,p⟩:=dt_of I.hok e;have j:J.length<=sizeLine:=by rw [<- Paired.length d];exact z
  have n:(putK kvs k v).length<=sizeLine:=by have:=Jbg kvs k v;ac_nf
  refine wpAny_setItem_heap (hsz:=j) (tupleKind_room_in1 hu) (JdX I.hok eb) p fun x f m=>h _ ?_;obtain ⟨q,B,C,i,F,M,D,_,K⟩:=f;refine JeY I (by rw [e];exact True.intro) m ⟨q,i⟩ ⟨n,o,_,(d.put k eb rv).keeps fun c N t=>?_,q,B,C,i,F,M,D,K⟩;rw [Jag (ne_of t e (fun z=>nomatch z))];exact t
end
section
variable {X:Cx} {pins:List (Addr × Obj)} {σ : St} {H:Hp} {s:Shared} {a:Addr} {kvs:List (Key × V)} {k:Key} {u:Value} {A:Around} {E:Value->Shared->Prop}
end
def NoSl (i:Expr):Prop:=∀ ov iv,subscripted i false ov iv=operate [ov,iv] (getItem ov iv)
theorem JkQ {prog:Program} {w:World} {A:Around} {E:Value->Shared->Prop} {s:Shared} {env:Env} {value slice:Expr} {pos:Pos} {T id:String} {Q:Value->Shared->Prop}
  (hl:typeLookup (.type T) "__getitem__"=pure (some (.builtin id))) (hs:NoSl slice)
  (h:wpAny (model prog w) A (eval value env) (fun o s₁=>wpAny (model prog w) A (eval slice env) (fun i s₂=>s₂.TypeIs o T/\wpAny (model prog w) A (getItem o i) Q E s₂) E s₁) E s) :
  wpAny (model prog w) A (eval (.Subscript value slice pos) env) Q E s:=by
 refine Subscript_ (wpAny_mono h (fun o s₁ h₁=>wpAny_mono h₁ (fun i s₂ h₂=>?_) fun _ _ x=>x) fun _ _ x=>x);obtain ⟨b,h₂⟩:=h₂;unfold subscriptTail;refine wpAny_bind ?_;rw [getitemInPython_of_ne b.not_modules];refine wpAny_bind (wpAny_specialOf b hl ?_);have a:wpAny (model prog w) A (subscripted slice false o i) (fun r s₃=>wpAny (model prog w) A (letTemporaryGo value o r >>= fun _=>pure r) Q E s₃) E s₂:=by
  rw [hs o i];exact wpAny_operating (wpAny_mono h₂ (fun r s₃ h₃=>wpAny_bind (wpAny_letTemporaryGo (wpAny_pure h₃))) fun _ _ x=>x)
 first
  | exact wpAny_pure (wpAny_bind a)
  | exact wpAny_bind (wpAny_pure (wpAny_bind a))
  | exact wpAny_bind a
theorem Jge {X:Cx} {pins:List (Addr × Obj)} {σ : St} {H:Hp} {s:Shared} {a:Addr} {y:V} {o:Option V} (I:Inv X pins σ H s) (g:DGet H a y o):s.TypeIs (.ref a) "dict":=by
 rcases g with ⟨kvs,k,e,_,_⟩ | ⟨kvs,k,b,e,_,_,_⟩
 ·obtain ⟨_,_,d,_,c⟩:=dk_rd I.hok e;exact c.typeIs
 ·obtain ⟨_,_,f,_,c⟩:=dt_rd I.hok e;exact c.typeIs
def tDGet (td ty:TE):TE:=fun σ H Q=>td σ H fun x H1=>ty σ H1 fun y H2=>∃ a v,x=.ref a/\DGet H2 a y (some v)/\Q v H2
def tDIn (ty td:TE):TE:=fun σ H Q=>ty σ H fun y H1=>td σ H1 fun x H2=>∃ a o,x=.ref a/\DGet H2 a y o/\Q (.bl o.isSome) H2
def JiH (ty td:TE):TE:=fun σ H Q=>ty σ H fun y H1=>td σ H1 fun x H2=>∃ a o,x=.ref a/\DGet H2 a y o/\Q (.bl (!o.isSome)) H2
def sDPut (td ty tv:TE):TS:=fun D σ H=>tv σ H fun v H1=>td σ H1 fun x H2=>ty σ H2 fun y H3=>∃ a H4,x=.ref a/\DPut H3 a y v H4/\D.nx σ H4
section
variable {X:Cx} {o i e value:Expr} {pos pos' tpos:Pos} {td ty tv:TE}
theorem Jbh (hu:X.A.units+1<cLine) (ho:PE X o td) (hi:PE X i ty) (hs:NoSl i):PE X (.Subscript o i pos) (tDGet td ty):=by
 intro b s σ H Q I h;refine JkQ PySem.F.slot_dict_getitem.lookup hs (thn (ho b s σ H _ I h) fun u f ⟨x,n,I1,k,m⟩=>thn (hi b f σ n _ I1 m) fun q r ζ=>?_);obtain ⟨y,l,I2,j,a,v,d,g,e⟩:=ζ;subst d;obtain rfl:u=Value.ref a:=k;exact ⟨Jge I2 g,JhJ hu I2 g j fun p t I3 c=>⟨v,l,I3,c,e⟩⟩
theorem Jg2 (hu:X.A.units+1<cLine) (hi:PE X i ty) (ho:PE X o td):PC X .In i o (tDIn ty td):=by
 intro b s σ H Q I h;refine thn (hi b s σ H _ I h) fun p e ⟨y,n,I1,f,m⟩=>thn (ho b e σ n _ I1 m) fun u q ζ=>?_;obtain ⟨x,k,I2,j,a,l,c,g,d⟩:=ζ;subst c;obtain rfl:u=Value.ref a:=j;exact d_in hu I2 g f fun r I3=>⟨.bl l.isSome,k,I3,rfl,d⟩
theorem Jdd (hu:X.A.units+1<cLine) (hi:PE X i ty) (ho:PE X o td):PC X .NotIn i o (JiH ty td):=by
 intro b s σ H Q I h;refine thn (hi b s σ H _ I h) fun p e ⟨y,n,I1,f,m⟩=>thn (ho b e σ n _ I1 m) fun u q ζ=>?_;obtain ⟨x,k,I2,j,a,l,c,g,d⟩:=ζ;subst c;obtain rfl:u=Value.ref a:=j;exact Jj8 hu I2 g f fun r I3=>⟨.bl (!l.isSome),k,I3,rfl,d⟩
theorem Jb1 (hu:X.A.units+1<cLine) (ho:PE X o td) (hi:PE X i ty) (hv:PE X value tv) (hs:swapsWith value (some (.Subscript o i pos')) pos.line X.env=pure false) :
  PS X (.Assign [.Subscript o i pos'] value pos) (sDPut td ty tv):=by
 intro b s σ H D I h;refine wpAny_Assign_Subscript (thn (hv b s σ H _ I h) fun r k ⟨v,t,I1,e,q⟩=>thn (ho b k σ t _ I1 q) fun u p ⟨x,n,I2,m,j⟩=>thn (hi b p σ n _ I2 j) fun z C ζ=>?_) hs;obtain ⟨y,B,I3,l,a,d,c,g,f⟩:=ζ;subst c;obtain rfl:u=Value.ref a:=m;exact JhK hu I3 g l e fun w I4=>⟨σ,d,I4,f⟩
end
theorem JgR {P:Program} {w:World} {H:Hp} (h:Heap) (hb:sysModules<h.objs.size):ObjOk P w H (h.push { cls:=.type "dict",data:=.dict #[] }) h.objs.size (.dK []) :=
 ⟨Nat.zero_le _,beq_eq_false_iff_ne.mpr (Ne.symm (Nat.ne_of_lt hb)),[], .nil,Heap.DictOf.new h⟩
def JjO:TE:=fun _ H Q=>∀ p,H p=none->Q (.ref p) (upd H p (.dK []))
section
variable {X:Cx} {pos:Pos}
theorem JbH:PE X (.Dict [] [] pos) JjO:=fun b s σ H Q I h=>
 wpAny_Dict_empty ⟨.ref s.heap.objs.size,_,I.laid (a:=s.heap.objs.size) (o:=.dK []) (t':=s.toks) (fun _ _ q=>Heap.get?_push_of_some _ q) (Nat.le_refl _) (JgR s.heap I.big),rfl,h _ (I.hok.fresh (Nat.le_refl _))⟩
end
def Jf2:List (TE × TE)->St->Hp->(List (V × V)->Hp->Prop)->Prop
 | [],_,H,Q=>Q [] H
 | (tk,tv)::r,σ,H,Q=>tk σ H fun x H1=>tv σ H1 fun y H2=>Jf2 r σ H2 fun ps H3=>Q ((x,y)::ps) H3
abbrev VV:List (V × V)->List (Value × Value)->Prop:=Paired fun p q=>RelV p.1 q.1/\RelV p.2 q.2
def PPs (X:Cx) (pos:Pos) (keys:List (Option Expr)) (values:List Expr) (trs:List (TE × TE)):Prop :=
 ∀ (pins:List (Addr × Obj)) (s:Shared) (σ : St) (H:Hp) (Q:List (V × V)->Hp->Prop),Inv X pins σ H s->Jf2 trs σ H Q ->
  wpAny (model X.prog X.w) X.A (evalPairs (pairTrees keys values X.env pos)) (fun vs s'=>∃ ps H',Inv X pins σ H' s'/\VV ps vs/\Q ps H') X.xe s
theorem JkG {X:Cx} {pos:Pos}:PPs X pos [] [] []:=fun a s σ H Q I h=>pairTrees_nil_walk ⟨[],H,I, .nil,h⟩
theorem Jjh {X:Cx} {pos:Pos} {k v:Expr} {ks:List (Option Expr)} {vs:List Expr} {tk tv:TE} {trs:List (TE × TE)} (hk:PE X k tk) (hv:PE X v tv) (hr:PPs X pos ks vs trs) :
  PPs X pos (some k::ks) (v::vs) ((tk,tv)::trs):=fun a s σ H Q I h=>
 pairTrees_cons_walk (thn (hk a s σ H _ I h) fun u f ⟨x,o,I1,i,n⟩=>thn (hv a f σ o _ I1 n) fun p m ⟨y,j,I2,g,e⟩=>
  thn (hr a m σ j _ I2 e) fun q r ⟨c,l,I3,b,d⟩=>⟨(x,y)::c,l,I3, .cons ⟨i,g⟩ b,d⟩)
def JeP (kvs more:List (Key × V)):List (Key × V):=more.foldl (fun acc kv=>putK acc kv.1 kv.2) kvs
theorem KV.merge:∀ {more:List (Key × V)} {rs:List (Key × Value)} {kvs:List (Key × V)} {vs:List (Key × Value)},KV more rs->KV kvs vs->KV (JeP kvs more) (merged vs rs):=by
 intro more rs kvs vs r;unfold KV at r;induction r generalizing kvs vs with
 | nil=>intro q;exact q
 | @cons p q ps qs h t ih=>
  intro a;have e:KV (putK kvs p.1 p.2) (stored vs q.1 q.2):=by
   have:=a.put p.1 h.2;rw [<- h.1];exact this
  exact ih e
theorem Jc8:∀ (more kvs:List (Key × V)),(JeP kvs more).length<=kvs.length+more.length
 | [],kvs=>by show kvs.length<=kvs.length+0;ac_nf
 | p::r,kvs=>by
  have h1:=Jc8 r (putK kvs p.1 p.2);have h2:=Jbg kvs p.1 p.2;show (JeP (putK kvs p.1 p.2) r).length<=_;rw [length_cons];ac_nf
theorem JeJ {P:Program} {w:World}:∀ {kvs:List (Key × V)} {ws:List (Value × Value)},VV (kvs.map fun kv=>(kV kv.1,kv.2)) ws->∃ rs,Carries (Jau P w) ws rs/\KV kvs rs
 | [],_,r=>by rw [map_nil] at r;cases r;exact ⟨[],True.intro, .nil⟩
 | p::kvs,_,r=>by
  rw [map_cons] at r;cases r with
  | @cons a b as bs h t=>
   obtain ⟨rs,c,q⟩:=JeJ (P:=P) (w:=w) t;obtain ⟨b1,b2⟩:=b;exact ⟨(p.1,b2)::rs,⟨kV_is h.1,rfl,c⟩, .cons ⟨rfl,h.2⟩ q⟩
def tDisp (trs:List (TE × TE)):TE:=fun σ H Q=>∀ p,H p=none->Jf2 trs σ (upd H p (.dK [])) fun ps H2=>H2 p=some (.dK [])/\∃ kvs:List (Key × V),ps=kvs.map (fun kv=>(kV kv.1,kv.2))/\kvs.length<=15/\Q (.ref p) (upd H2 p (.dK (JeP [] kvs)))
theorem JkA {X:Cx} {pos:Pos} {keys:List (Option Expr)} {values:List Expr} {trs:List (TE × TE)} (h:PPs X pos keys values trs) (hall:keys.all (·.isSome)=true) (hl:keys.length=values.length) (h0:keys≠[])
  (h15:keys.length<=15):PE X (.Dict keys values pos) (tDisp trs):=by
 intro b s σ H Q I q;have x:=I.hok.fresh (Nat.le_refl s.heap.objs.size);have I1:=I.laid (a:=s.heap.objs.size) (o:=.dK []) (h':=s.heap.push { cls:=.type "dict",data:=.dict #[] }) (t':=s.toks) (fun _ _ q=>Heap.get?_push_of_some _ q) (Nat.le_refl _) (JgR s.heap I.big);refine wpAny_Dict_walk (knd:=Jau X.prog X.w) hall hl h0 h15 (thn (h b _ σ _ _ I1 (q _ x)) fun D C ζ=>?_);obtain ⟨A,B,I2,g,e,d,m,E,l⟩:=ζ;subst m;obtain ⟨r,c,t⟩:=JeJ (P:=X.prog) (w:=X.w) g;obtain ⟨z,u,k,n,y⟩:=dk_of I2.hok e;cases n;refine ⟨r,c,y,fun h' f j=>⟨.ref s.heap.objs.size,_,?_,rfl,l⟩⟩;have i:(JeP [] d).length<=sizeLine:=by
  have p:=Jc8 d [];rw [length_nil] at p;rw [sizeLine_eq];ac_nf
 have v:∃ q,h'.get? s.heap.objs.size=some q:=let ⟨q,_,_,hq,_⟩:=f;⟨q,hq⟩;exact JeY I2 (by rw [e];exact True.intro) j v (JgS i u (t.merge .nil) f)
structure M1 (X:Cx) (o:Expr) (m:Str) (apos:Pos) (e:Expr) (cpos:Pos):Prop where
 base:attributeBase o m X.env (eval o X.env)=eval o X.env
 few:((backTo cpos (starEach [e] X.env)).all (fun x=>!x.1)&&(backToKw cpos (keywordEach [] X.env)).all (fun x=>x.1.isSome)
  && decide (([e]:List Expr).length+([]:List Keyword).length+(if ([]:List Keyword).isEmpty then 0 else 1)<30))=true
 line:(apos.endLine == cpos.line)=true
 trees:backTo cpos (starEach [e] X.env)=[(false,eval e X.env)]
structure M2 (X:Cx) (o:Expr) (m:Str) (apos:Pos) (e f:Expr) (cpos:Pos):Prop where
 base:attributeBase o m X.env (eval o X.env)=eval o X.env
 few:((backTo cpos (starEach [e,f] X.env)).all (fun x=>!x.1)&&(backToKw cpos (keywordEach [] X.env)).all (fun x=>x.1.isSome)
  && decide (([e,f]:List Expr).length+([]:List Keyword).length+(if ([]:List Keyword).isEmpty then 0 else 1)<30))=true
 line:(apos.endLine == cpos.line)=true
 trees:backTo cpos (starEach [e,f] X.env)=[(false,eval e X.env),(false,eval f X.env)]
def IsD (H:Hp) (a:Addr):Prop:=(∃ kvs,Rd H a (.dK kvs))\/∃ kvs,Rd H a (.dT kvs)
theorem JfG {X:Cx} {pins:List (Addr × Obj)} {σ : St} {H:Hp} {s:Shared} {a:Addr} (I:Inv X pins σ H s) (d:IsD H a) :
  s.TypeIs (.ref a) "dict"/\(∀ b,Value.ref a=.ref b->∃ ob,s.heap.get? b=some ob/\ob.dict=none)/\(a == sysModules)=false:=by
 rcases d with ⟨kvs,e⟩ | ⟨kvs,e⟩
 ·obtain ⟨_,h,i,_,c⟩:=dk_rd I.hok e;refine ⟨c.typeIs,fun b q=>?_,h⟩;cases q;obtain ⟨ob,_,_,g,f,_⟩:=c;exact ⟨ob,g,f.2.1⟩
 ·obtain ⟨_,h,j,_,c⟩:=dt_rd I.hok e;refine ⟨c.typeIs,fun b q=>?_,h⟩;cases q;obtain ⟨ob,_,_,g,f,_⟩:=c;exact ⟨ob,g,f.2.1⟩
section
variable {X:Cx} {pins:List (Addr × Obj)} {σ : St} {H:Hp} {s:Shared} {a:Addr} {y d:V} {u r:Value} {o:Option V} {A:Around} {E:Value->Shared->Prop}
theorem Jk3 {Q:Value->Shared->Prop} (hu:A.units+1<cLine) (I:Inv X pins σ H s) (g:DGet H a y o) (ry:RelV y u) (h:∀ w' s',Inv X pins σ H s'->RelV (o.getD .non) w'->Q w' s') :
  wpAny (model X.prog X.w) A (call (.builtin "dict.get") [.ref a,u]) Q E s:=by
 rcases g with ⟨kvs,k,e,ey,l⟩ | ⟨kvs,k,b,e,ey,eb,l⟩
 ·subst ey;obtain ⟨z,f,j,c,d⟩:=dk_rd I.hok e;refine call_meetsIn PySem.F.slot_dict_get d.typeIs PySem.F.entry_dict_get (PySem.F.args_dict_get_2 _ _) (meets_dict_get (Jau X.prog X.w) a (kV_is ry) f) ⟨_,d.mapOf,h _ _ (I.tok _) ?_⟩;rw [l];exact (c.val k).getD rfl
 ·subst ey;cases (show u=Value.ref b from ry);obtain ⟨z,f,i,c,d⟩:=dt_rd I.hok e;refine call_meetsIn PySem.F.slot_dict_get d.typeIs PySem.F.entry_dict_get (PySem.F.args_dict_get_2 _ _) (meetsH_dict_get (tupleKind (Jau X.prog X.w)) a b f) ⟨tupleKind_room_in1 hu,k,i,JdX I.hok eb,d,h _ _ (I.tok _) ?_⟩;rw [l];exact (c.val k).getD rfl
theorem Jk4 {Q:Value->Shared->Prop} (hu:A.units+1<cLine) (I:Inv X pins σ H s) (g:DGet H a y o) (ry:RelV y u) (rd:RelV d r) (h:∀ w' s',Inv X pins σ H s'->RelV (o.getD d) w'->Q w' s') :
  wpAny (model X.prog X.w) A (call (.builtin "dict.get") [.ref a,u,r]) Q E s:=by
 rcases g with ⟨kvs,k,e,ey,l⟩ | ⟨kvs,k,b,e,ey,eb,l⟩
 ·subst ey;obtain ⟨z,i,m,c,f⟩:=dk_rd I.hok e;refine call_meetsIn PySem.F.slot_dict_get f.typeIs PySem.F.entry_dict_get (PySem.F.args_dict_get_3 _ _ _) (meets_dict_get_default (Jau X.prog X.w) a (kV_is ry) i r) ⟨_,f.mapOf,h _ _ (I.tok _) ?_⟩;rw [l];exact (c.val k).getD rd
 ·subst ey;cases (show u=Value.ref b from ry);obtain ⟨z,i,j,c,f⟩:=dt_rd I.hok e;refine call_meetsIn PySem.F.slot_dict_get f.typeIs PySem.F.entry_dict_get (PySem.F.args_dict_get_3 _ _ _) (meetsH_dict_get_default (tupleKind (Jau X.prog X.w)) a b i r) ⟨tupleKind_room_in1 hu,k,j,JdX I.hok eb,f,h _ _ (I.tok _) ?_⟩;rw [l];exact (c.val k).getD rd
end
def JjM (td ty:TE):TE:=fun σ H Q=>td σ H fun x H1=>∃ a,x=.ref a/\IsD H1 a/\ty σ H1 fun y H2=>∃ o,DGet H2 a y o/\Q (o.getD .non) H2
def JjN (td ty tx:TE):TE:=fun σ H Q=>td σ H fun x H1=>∃ a,x=.ref a/\IsD H1 a/\ty σ H1 fun y H2=>tx σ H2 fun z H3=>∃ o,DGet H3 a y o/\Q (o.getD z) H3
section
variable {X:Cx} {o e f:Expr} {apos cpos:Pos} {td ty tx:TE}
theorem Jje (hu:X.A.units+1<cLine) (ho:PE X o td) (he:PE X e ty) (m:M1 X o "get" apos e cpos):PE X (.Call (.Attribute o "get" apos) [e] [] cpos) (JjM td ty):=by
 intro b s σ H Q I h;refine wpAny_Call_method m.base m.few m.line PySem.F.plainAttrs_dict PySem.F.slot_dict_get PySem.F.type_dict_get (thn (ho b s σ H _ I h) fun u j ζ=>?_);obtain ⟨x,t,I1,n,a,f,d,r⟩:=ζ;subst f;obtain rfl:u=Value.ref a:=n;obtain ⟨p,l,_⟩:=JfG I1 d;refine ⟨p,l,?_⟩;rw [m.trees];refine Calls.callWith_builtin rfl (Calls.evalArgs_plain (Calls.spliced_cons (thn (he b j σ t _ I1 r) fun w z ⟨y,q,I2,k,B,g,i⟩=>Calls.spliced_nil ?_)));exact Jk3 hu I2 g k fun v C I3 c=>⟨_,q,I3,c,i⟩
theorem Jjf (hu:X.A.units+1<cLine) (ho:PE X o td) (he:PE X e ty) (hf:PE X f tx) (m:M2 X o "get" apos e f cpos):PE X (.Call (.Attribute o "get" apos) [e,f] [] cpos) (JjN td ty tx):=by
 intro b s σ H Q I h;refine wpAny_Call_method m.base m.few m.line PySem.F.plainAttrs_dict PySem.F.slot_dict_get PySem.F.type_dict_get (thn (ho b s σ H _ I h) fun u l ζ=>?_);obtain ⟨x,C,I1,q,a,i,d,B⟩:=ζ;subst i;obtain rfl:u=Value.ref a:=q;obtain ⟨r,p,_⟩:=JfG I1 d;refine ⟨r,p,?_⟩;rw [m.trees];refine Calls.callWith_builtin rfl (Calls.evalArgs_plain (Calls.spliced_cons (thn (he b l σ C _ I1 B) fun K w ⟨y,t,I2,n,k⟩=>
  Calls.spliced_cons (thn (hf b w σ t _ I2 k) fun J M ⟨z,v,I3,D,L,g,j⟩=>Calls.spliced_nil ?_))))
 exact Jk4 hu I3 g n D fun G E I4 c=>⟨_,v,I4,c,j⟩
end
section
variable {X:Cx} {pins:List (Addr × Obj)} {σ : St} {H:Hp} {s:Shared} {a:Addr} {kvs:List (Key × V)} {A:Around} {E:Value->Shared->Prop}
end
section
variable {X:Cx} {pins:List (Addr × Obj)} {σ : St} {H:Hp} {s:Shared} {a:Addr} {y:V} {u:Value} {A:Around} {E:Value->Shared->Prop}
end
section
variable {κ : Type} [DecidableEq κ]
end
theorem ObjOk.is_there {P:Program} {w:World} {H:Hp} {h:Heap} {a:Addr} {o:HO} (x:ObjOk P w H h a o):∃ ob,h.get? a=some ob:=by
 cases o with
 | lst xs=>obtain ⟨_,_,_,_,e⟩:=x;exact ⟨_,e⟩
 | tup xs=>obtain ⟨_,_,_,p⟩:=x;obtain ⟨o,e,_⟩:=p;exact ⟨_,e⟩
 | dK kvs=>obtain ⟨_,_,_,_,o,_,_,e,_⟩:=x;exact ⟨_,e⟩
 | dT kvs=>obtain ⟨_,_,_,_,o,_,_,e,_⟩:=x;exact ⟨_,e⟩
 | set S n=>
  obtain ⟨o,_,_,_,e,_⟩:=x;exact ⟨_,e⟩
 | ins C dx fs=>obtain ⟨_,_,_,e,_⟩:=x;exact ⟨_,e⟩
 | own y=>exact x
 | xd fs=>obtain ⟨c,n,_⟩:=x;obtain ⟨b,e,_⟩:=JfJ n;exact ⟨_,e⟩
 | rng lo hi=>obtain ⟨_,_,_,e⟩:=x;exact ⟨_,e⟩
 | frz ob u=>exact ⟨_,x.1⟩
 | tbl ps=>exact ⟨_,x⟩
 | met f y=>exact ⟨_,x⟩
 | ext φ=>exact x.2.1
theorem HOk.isnone {P:Program} {w:World} {H:Hp} {h:Heap} {a:Addr} (x:HOk P w H h) (e:h.get? a=none):H a=none:=by
 cases q:H a with
 | none=>rfl
 | some u=>
  obtain ⟨b,z⟩:=(x a u q).is_there;rw [e] at z;cases z
structure Fly (l:List Env) (H':Hp) (h0:Heap) (ea:Addr) (cls a0:Value) (B h:Heap):Prop where
 fly:Heap.FlyingW B l ea cls a0 h
 free:H' ea=none
 new:h0.get? ea=none
 kept:∀ b o,h.get? b=some o->((∃ o',h0.get? b=some o')\/∃ u,H' b=some u)->b∉frs l->B.get? b=some o
def CX1 (P:Program) (w:World):CXT:=fun outer H s E e s'=>
 ∃ (ea:Addr) (cls a0:Value) (B:Heap) (H':Hp),e=.ref ea/\s'.os=s.os/\AllBare s'.gens/\Un (frs outer) [] H H' s.heap s'.heap/\HOk P w H' s'.heap /\
  Fly outer H' s.heap ea cls a0 B s'.heap/\E cls none H'
section
variable {P:Program} {w:World} {l l':List Env} {H H':Hp} {h0 h h' B:Heap} {ea:Addr} {cls a0:Value}
theorem Fly.next (u:Un (frs l) [] H H' h0 h) (hok:HOk P w H' h) (F:Fly l H' h0 ea cls a0 B h) (fr:∀ b∈frs l,H' b=none) (k:B.StaysIn h') (sl:h.UpToSlots h') :
  HOk P w H' h'/\Un (frs l) [] H H' h0 h'/\∀ b o,h.get? b=some o->((∃ o',h0.get? b=some o')\/∃ u,H' b=some u)->b∉frs l->h'.get? b=some o:=by
 have c:∀ b o,h.get? b=some o->((∃ o',h0.get? b=some o')\/∃ u,H' b=some u)->b∉frs l->h'.get? b=some o:=fun b o q r n=>k b o (F.kept b o q r n);have d:∀ b o,b∈frs l->h.get? b=some o->∃ i,h'.get? b=some { o with slots:=i }:=fun b o m q=>by
  obtain ⟨_,o',s,x⟩:=F.fly.2.2.1.mem m;rw [q] at s;cases s;exact sl b o q x
 refine ⟨fun a o e=>?_,⟨fun b o q n p _=>?_,fun b o q n m _=>?_,u.free,fun b o q y=>?_,u.tups,u.frzs,u.tbls⟩,c⟩
 ·have t:∀ b u,H' b=some u->b∉frs l:=fun b u q m=>by
   rw [fr b m] at q;cases q
  refine (hok a o e).stay (fun b v g q=>?_) (fun _ r=>r) (fun _ _ r=>r);rcases g with rfl | g
  ·exact c _ _ q (.inr ⟨_,e⟩) (t _ _ e)
  ·exact c _ _ q (.inr ⟨_,g⟩) (t _ _ g)
 ·exact c b o (u.keep b o q n p (by simp)) (.inl ⟨o,q⟩) p
 ·obtain ⟨z,f⟩:=u.slot b o q n m (by simp);obtain ⟨i,j⟩:=d b _ m f;exact ⟨i,j⟩
 ·obtain ⟨o',f⟩:=u.there b o q (by simp);by_cases m:b∈frs l
  ·obtain ⟨i,j⟩:=d b _ m f;exact ⟨_,j⟩
  ·exact ⟨o',c b o' f (.inl ⟨o,q⟩) m⟩
end
section
variable {X:Cx} {pins:List (Addr × Obj)} {σ : St} {H H':Hp} {s:Shared} {h h' B:Heap} {ea:Addr} {cls a0:Value}
theorem Inv.out (I:Inv X pins σ H s) (hex:X.ex=[]) (u:Un (frs X.stack) [] H H' s.heap h'):Un X.fs [] X.H₀ H' X.s₀.heap h':=by
 have J:=I.base;rw [hex] at J;have r:∀ b o,X.s₀.heap.get? b=some o->b≠X.env.locals:=fun b o q z=>by
  have f:=Heap.lt_size q;have k:=I.ok.above;rw [z] at f;exact absurd (Nat.lt_of_lt_of_le f k) (Nat.lt_irrefl _)
 have l:∀ b o,X.s₀.heap.get? b=some o->b∉X.fs->b∉frs X.stack:=fun b o q c m=>by
  rcases mem_cons.mp (I.stkSub b m) with z | z
  ·exact r b o q z
  ·exact c z
 refine ⟨fun b o q n c _=>?_,fun b o q n m _=>?_,fun b o q n _=>?_,fun b o q _=>?_,fun b g q=>u.tups b g (J.tups b g q),fun b o v q=>u.frzs b o v (J.frzs b o v q),fun b h q=>?_⟩
 ·exact u.keep b o (J.keep b o q n c (by simp)) (J.free b o q n (by simp)) (l b o q c) (by simp)
 ·obtain ⟨t,a⟩:=J.slot b o q n m (by simp);obtain ⟨p,d⟩:=u.any a (J.free b o q n (by simp)) (by simp);exact ⟨p,d⟩
 ·obtain ⟨e,a⟩:=J.there b o q (by simp);exact u.free b e a (J.free b o q n (by simp)) (by simp)
 ·obtain ⟨e,a⟩:=J.there b o q (by simp);exact u.there b e a (by simp)
 ·obtain ⟨i,a⟩:=J.tbls b h q;obtain ⟨j,d⟩:=u.tbls b _ a;exact ⟨i++j,by rw [d,Array.append_assoc]⟩
theorem Inv.stkFree' (I:Inv X pins σ H s) (u:Un (frs X.stack) [] H H' s.heap h):∀ b∈frs X.stack,H' b=none:=fun b m=>by
 obtain ⟨_,o,q,_⟩:=I.stack.mem m;exact u.free b o q (I.stkFree b m) (by simp)
end
section
variable {P:Program} {w:World} {K:W.Frag} {mg:Str->Option Value} {base:Heap} {N:List Str} {qual:Str} {scope:Scope} {f:Addr} {cdv:Value} {A:Around} {outer:List Env} {s0:Shared} {H0:Hp} {E:XK}
theorem pass1:Jcx (CX1 P w) (cxOf (CX1 P w) P w K mg base N qual scope f cdv A outer s0 H0 E) E:=by
 intro x σ H s e G I V;obtain ⟨i,cls,a0,B,C,rfl,n,Q,u,j,F,W⟩:=V;have D:=I.stkFree' u;show wpAny (model P w) (A.deeper (envOfC qual scope s0.heap.objs.size f cdv)) (leaving (envOfC qual scope s0.heap.objs.size f cdv) (.ref i)) (fun _ h=>CX1 P w outer H0 s0 E (.ref i) h) (fun U h=>CX1 P w outer H0 s0 E U h) G;refine wpAny_leaves_onW (base:=B) (cls:=cls) (a0:=a0) I.ok.frames rfl F.fly fun S g p=>?_;obtain ⟨k,M,X⟩:=F.next u j D g.1 p;have l:s0.heap.get? i=none:=by
  cases q:s0.heap.get? i with
  | none=>rfl
  | some o=>
   obtain ⟨a,J⟩:=I.base.there i o q (by intro z;cases z);have:=F.new;rw [J] at this;cases this
 refine ⟨i,cls,a0,B,C,rfl,n.trans I.os,Q,I.out rfl M,k,⟨g,F.free,l,fun b o q r L=>?_⟩,W⟩;have T:b≠s0.heap.objs.size:=fun z=>by
  rcases r with ⟨a,c⟩ | ⟨v,c⟩
  ·have:=Heap.lt_size c;rw [z] at this;exact absurd this (Nat.lt_irrefl _)
  ·have R:=D s0.heap.objs.size (by
    show s0.heap.objs.size∈frs (envOfC qual scope s0.heap.objs.size f cdv::outer);exact List.mem_filterMap.mpr ⟨_,mem_cons_self ..,rfl⟩)
   rw [z,R] at c;cases c
 have O:b∉frs (envOfC qual scope s0.heap.objs.size f cdv::outer):=fun m=>by
  rcases mem_cons.mp (I.stkSub b m) with z | z
  ·exact T z
  ·exact L z
 have y:(∃ a,s.heap.get? b=some a)\/∃ v,C b=some v:=by
  rcases r with ⟨a,c⟩ | r
  ·exact .inl (I.base.there b a c (by intro z;cases z))
  ·exact .inr r
 have d:∃ a,G.heap.get? b=some a:=by
  rcases y with ⟨a,c⟩ | ⟨v,c⟩
  ·exact u.there b a c (by simp)
  ·exact (j b v c).is_there
 obtain ⟨a,c⟩:=d;have z:=F.kept b a c y O;have t:=g.1 b a z;rw [show S.get? b=some o from q] at t;cases t;exact z
end
theorem passF {P:Program} {w:World} {X:Cx}:Jcx (CX1 P w) X E0:=fun _ _ _ _ _ _ _ h=>by
 obtain ⟨_,_,_,_,_,_,_,_,_,_,_,z⟩:=h;exact False.elim z
theorem Jkb {K:W.Frag} {h:Heap} {C:Addr} {bmB:List Value} {newId:String} (X:K.In h) (q:W.excIn K C bmB newId=true) :
  ∃ (bm:List Value) (N:Addr) (nm qn:Str) (bs:List Value) (hdct:Bool) (sn:List Str) (sub:List Value) (ab:Bool) (col:Option Bool) (dd:Option Addr) (k0 k1 k2 k3 k5:Option Value) (mN:Str->Option Value),
   h.get? C=some (excClassObj nm qn C N bs bm hdct sn sub ab col dd k0 k1 k2 k3 k5 newId)/\h.Ns N mN/\mN "__init__"=none/\OwnTail h bmB bm:=by
 unfold W.excIn at q;split at q
 next dd cd sl ho=>
  split at q
  next C' bm k0 k1 k2 k3 n k5 hm hs=>
   have o:((((C'=C/\n=newId)/\cd.hasDel=false)/\W.tailIn K bmB bm=true)/\W.nsOkIn K cd.ns=true)/\W.nsIn K cd.ns "__init__"=some none:=by simpa using q
   obtain ⟨⟨⟨⟨⟨g,k⟩,l⟩,m⟩,e⟩,f⟩:=o;obtain ⟨nm,bs,c,j,qn,p,sn,sub,ab,col,a⟩:=cd;have i:sl=#[k0,k1,k2,k3,some (.builtin n),k5]:=by
    cases sl;exact congrArg Array.mk hs
   subst g;subst k;subst i;have b:c=.ref C'::bm:=hm;subst b;have d:a=false:=l;subst d;exact ⟨bm,j,nm,qn,bs,p,sn,sub,ab,col,dd,k0,k1,k2,k3,k5,_,X _ _ ho, .of_isNs (W.isNs_of_in X e),W.nsMap_none_of_in X e f,W.tail_of_in X m⟩
  next=>cases q
 next=>cases q
section
variable {P:Program} {w:World} {K:W.Frag} {mg:Str->Option Value} {base:Heap} {N:List Str} {qual:Str} {scope:Scope} {f:Addr} {cdv:Value} {A:Around} {outer:List Env} {s0:Shared} {H0:Hp} {E:XK}
theorem Jlf {pins:List (Addr × Obj)} {σ : St} {H:Hp} {s:Shared} {h':Heap} {e:Addr} {cls:Value} {us:List Value}
  (I:Inv (cxOf (CX1 P w) P w K mg base N qual scope f cdv A outer s0 H0 E) pins σ H s) (hm:Heap.MadeExcOf s.heap h' e cls us) (q:E cls none H) :
  (cxOf (CX1 P w) P w K mg base N qual scope f cdv A outer s0 H0 E).xe (.ref e) { s with heap:=h' }:=by
 show wpAny (model P w) (A.deeper (envOfC qual scope s0.heap.objs.size f cdv)) (leaving (envOfC qual scope s0.heap.objs.size f cdv) (.ref e)) (fun _ j=>CX1 P w outer H0 s0 E (.ref e) j) (fun U j=>CX1 P w outer H0 s0 E U j) { s with heap:=h' };have X:=I.stkFree;have J:∀ i∈(envOfC qual scope s0.heap.objs.size f cdv::outer), ∀ b,i.frame=some b->b∈frs (envOfC qual scope s0.heap.objs.size f cdv::outer):=fun i V b p=>List.mem_filterMap.mpr ⟨i,V,p⟩;refine wpAny_leaves_madeW (base:=W.hideAll s.heap (frs (envOfC qual scope s0.heap.objs.size f cdv::outer))) (h:=s.heap) (cls:=cls) (args:=us) I.ok.frames rfl (fun b o z=>W.of_hideAll _ z) (W.funFrames_hide I.stack J) hm fun D t x _ _ C=>?_;have k:H e=none:=I.hok.isnone hm.new;have c:∀ b o,s.heap.get? b=some o->b∉frs (envOfC qual scope s0.heap.objs.size f cdv::outer)->D.get? b=some o:=fun b o z n=>x.1 b o (W.hideAll_get _ z n);have u:Un (frs (envOfC qual scope s0.heap.objs.size f cdv::outer)) [] H H s.heap D:=by
  refine ⟨fun b o z _ n _=>c b o z n,fun b o z _ m _=>?_,fun _ _ _ n _=>n,fun b o z _=>?_,fun _ _ z=>z,fun _ _ _ z=>z,fun _ Y z=>⟨#[],by rw [z];simp⟩⟩
  ·obtain ⟨_,g,d,G⟩:=I.stack.mem m;rw [z] at d;cases d;exact C b o (hm.keeps b o z) G
  ·by_cases m:b∈frs (envOfC qual scope s0.heap.objs.size f cdv::outer)
   ·obtain ⟨_,g,d,G⟩:=I.stack.mem m;rw [z] at d;cases d;obtain ⟨Z,R⟩:=C b o (hm.keeps b o z) G;exact ⟨_,R⟩
   ·exact ⟨o,c b o z m⟩
 have L:∀ b v,H b=some v->b∉frs (envOfC qual scope s0.heap.objs.size f cdv::outer):=fun b v z m=>by
  rw [X b m] at z;cases z
 have F:HOk P w H D:=fun a o z=>by
  refine (I.hok a o z).stay (fun b v p l=>?_) (fun _ r=>r) (fun _ _ r=>r);rcases p with rfl | p
  ·exact c _ _ l (L _ _ z)
  ·exact c _ _ l (L _ _ p)
 have B:s0.heap.get? e=none:=by
  cases z:s0.heap.get? e with
  | none=>rfl
  | some o=>
   obtain ⟨g,Q⟩:=I.base.there e o z (by intro z;cases z);have:=hm.new;rw [Q] at this;cases this
 refine ⟨e,cls, .ref t,_,H,rfl,I.os,I.bare,I.out rfl u,F,⟨x,k,B,fun b o z r S=>?_⟩,q⟩;have T:∃ g,s.heap.get? b=some g:=by
  rcases r with ⟨g,d⟩ | ⟨v,d⟩
  ·exact I.base.there b g d (by intro z;cases z)
  ·exact (I.hok b v d).is_there
 have O:b∉frs (envOfC qual scope s0.heap.objs.size f cdv::outer):=fun m=>by
  rcases mem_cons.mp (I.stkSub b m) with y | y
  ·rcases r with ⟨g,d⟩ | ⟨v,d⟩
   ·have M:=Heap.lt_size d;rw [y] at M;exact absurd M (Nat.lt_irrefl _)
   ·exact L b v d m
  ·exact S y
 obtain ⟨g,d⟩:=T;have l:=c b g d O;rw [show D.get? b=some o from z] at l;cases l;exact W.hideAll_get _ d O
def JjP (E:XK) (C:Addr) (ta:TA):TS:=fun _ σ H=>ta σ H fun vs H1=>vs.length<=sizeLine/\E (.ref C) none H1
theorem JbX {x:Str} {np cpos pos:Pos} {e:Expr} {es:List Expr} {C:Addr} {B newId initId:String} {bmB:List Value} {ta:TA} (FB:ExcBaseFacts B newId initId bmB) (hx:W.excIn K C bmB newId=true)
  (hg:Gl (cxOf (CX1 P w) P w K mg base N qual scope f cdv A outer s0 H0 E) x) (hm:mg x=some (.ref C)) (ha:PA (cxOf (CX1 P w) P w K mg base N qual scope f cdv A outer s0 H0 E) (e::es) ta)
  (he:starEach (e::es) (envOfC qual scope s0.heap.objs.size f cdv)=(false,eval e (envOfC qual scope s0.heap.objs.size f cdv))::starEach es (envOfC qual scope s0.heap.objs.size f cdv):=by rfl)
  (hpl:(backTo cpos (starEach es (envOfC qual scope s0.heap.objs.size f cdv))).any (·.1)=false:=by rfl) (hdb:(x == ("__debug__" : Str))=false:=by decide) :
  PS (cxOf (CX1 P w) P w K mg base N qual scope f cdv A outer s0 H0 E) (.Raise (some (.Call (.Name x np) (e::es) [] cpos)) none pos) (JjP E C ta):=by
 intro a s σ H D I h;obtain ⟨bm,g,nm,l,bs,hdct,sn,sub,ab,col,dd,k0,k1,k2,k3,k5,mN,j,k,b,T⟩:=Jkb I.mod.kin hx;have i:(A.deeper (envOfC qual scope s0.heap.objs.size f cdv)).handled=none:=I.ok.hd rfl;refine wpAny_Raise_call_subT (C:=C) (nm:=nm) (q:=l) (N:=g) (bs:=bs) (bm:=bm) (hdct:=hdct) (sn:=sn) (sub:=sub) (ab:=ab) (col:=col) (dd:=dd) (k0:=k0) (k1:=k1) (k2:=k2) (k3:=k3) (k5:=k5)
  FB (mN:=mN) (T.hasType FB.hasBase) i ?_ b (Jd0 I hg hm ⟨rfl,?_⟩ hdb)
 ·show (backTo cpos (starEach (e::es) (envOfC qual scope s0.heap.objs.size f cdv))).any (·.1)=false;rw [he];show (false||(backTo cpos (starEach es (envOfC qual scope s0.heap.objs.size f cdv))).any (·.1))=false;rw [hpl];rfl
 ·have z:=ha cpos a s σ H _ I h;show wpAny _ _ (evalArgs (.ref C) true (backTo cpos (starEach (e::es) (envOfC qual scope s0.heap.objs.size f cdv))) []) _ _ _;have m:=he;rw [he];refine Calls.evalArgs_plain ?_;have c:wpAny (model P w) (A.deeper (envOfC qual scope s0.heap.objs.size f cdv)) (spliced (backTo cpos (starEach (e::es) (envOfC qual scope s0.heap.objs.size f cdv)))) _ _ s:=z;rw [he] at c;refine thn c fun n o ζ=>?_;obtain ⟨p,u,I1,r,d,q⟩:=ζ;exact ⟨rfl,by rw [<- r.length];exact d,I1.bk _ _ j,k.keeps I1.bk,T.keeps I1.bk,fun t e hm=>Jlf I1 hm q⟩
end
section
variable {X:Cx} {k:Nat} {f C:Addr} {fd:FuncData} {ps:List Str} {sp:Sp} {dvs:List V} {ds:List Value} {E:XK} {x m:Str} {p pos apos:Pos} {e o:Expr} {es:List Expr} {ta:TE} {t:TA}
end
section
variable {X:Cx} {pins:List (Addr × Obj)} {σ : St} {H H':Hp} {s s':Shared} {h' B:Heap} {ea:Addr} {cls a0:Value}
theorem Inv.track {a:Addr} {o:HO} (I:Inv X pins σ H s) (hn:H a=none) (h1:X.s₀.heap.get? a=none) (h2:a≠X.env.locals) (h3:∀ x c,X.env.cells.lookup x=some c->c≠a) (h4:∀ p∈X.pn++pins,p.1≠a)
  (ok:ObjOk X.prog X.w (upd H a o) s.heap a o):Inv X pins σ (upd H a o) s:=by
 have d:∀ b u,H b=some u->b≠a:=fun b u q=>Jah q hn;refine ⟨I.ok,I.os,I.bare,⟨I.base.keep,I.base.slot,fun b f q n k=>?_,I.base.there,fun b i q=>?_,fun b f u q=>?_,fun b l q=>?_⟩,I.loc,I.cell,?_,fun x c e=>?_,fun p h=>?_,fun b u q=>?_,I.len⟩
 ·have : b≠a:=fun z=>by rw [z,h1] at q;cases q
  rw [Jag this];exact I.base.free b f q n k
 ·have z:=I.base.tups b i q;rw [Jag (d _ _ z)];exact z
 ·have z:=I.base.frzs b f u q;rw [Jag (d _ _ z)];exact z
 ·obtain ⟨j,z⟩:=I.base.tbls b l q;exact ⟨j,by rw [Jag (d _ _ z)];exact z⟩
 ·rw [Jag (Ne.symm h2)];exact I.free
 ·rw [Jag (h3 x c e)];exact I.freeC x c e
 ·obtain ⟨e,n,r⟩:=I.pin p h;exact ⟨e,by rw [Jag (h4 p h)];exact n,r⟩
 ·by_cases g:b=a
  ·subst g;rw [Jaj] at q;cases q;exact ok
  ·rw [Jag g] at q;exact (I.hok b u q).stay (fun _ _ _ z=>z) (fun c z=>by rw [Jag (d _ _ z)];exact z) (fun c i z=>by rw [Jag (d _ _ z)];exact z)
end
section
variable {X:Cx} {ce:Expr} {epos pos hpos np:Pos} {x n:Str} {b0:Stmt} {suite:List Stmt} {D:Addr} {t:St->Hp->VK->XK->Prop} {ts:TS}
end
inductive D where
 | non | bl (b:Bool) | int (i:Int) | str (x:Str) | tup (xs:List D) | lst (xs:List D)
mutual
def Rep (K:W.Frag) (H:Hp):D->V->Prop
 | .non,v=>v=.non
 | .bl b,v=>v=.bl b
 | .int i,v=>v=.int i
 | .str x,v=>v=.str x
 | .tup ds,v=>∃ a xs,v=.ref a/\SqT K H a xs/\RepL K H ds xs
 | .lst ds,v=>∃ a xs,v=.ref a/\SqL K H a xs/\RepL K H ds xs
def RepL (K:W.Frag) (H:Hp):List D->List V->Prop
 | [],vs=>vs=[]
 | d::ds,vs=>∃ v r,vs=v::r/\Rep K H d v/\RepL K H ds r
end
mutual
def eqD:D->D->Bool
 | .non, .non=>true
 | .bl a, .bl b=>a == b
 | .int a, .int b=>a == b
 | .bl a, .int b=>(if a then 1 else 0) == b
 | .int a, .bl b=>a == (if b then 1 else 0)
 | .str a, .str b=>a == b
 | .tup xs, .tup ys=>eqL xs ys
 | .lst xs, .lst ys=>eqL xs ys
 | _,_=>false
def eqL:List D->List D->Bool
 | [],[]=>true
 | x::xs,y::ys=>eqD x y&&eqL xs ys
 | _,_=>false
end
mutual
def depD:D->Nat
 | .tup xs=>depL xs+1
 | .lst xs=>depL xs+1
 | _=>0
def depL:List D->Nat
 | []=>0
 | x::xs=>max (depD x) (depL xs)
end
theorem JeM:∀ {xs ys:List D},eqL xs ys=true->xs.length=ys.length
 | [],[],_=>rfl
 | [],_::_,h=>by simp [eqL] at h
 | _::_,[],h=>by simp [eqL] at h
 | x::xs,y::ys,h=>by
  simp only [eqL,Bool.and_eq_true] at h;simp only [length_cons,JeM h.2]
mutual
theorem Jce:∀ d:D,eqD d d=true
 | .non=>by simp [eqD]
 | .bl b=>by simp [eqD]
 | .int i=>by simp [eqD]
 | .str x=>by simp [eqD]
 | .tup xs=>by simp only [eqD];exact Je0 xs
 | .lst xs=>by simp only [eqD];exact Je0 xs
theorem Je0:∀ d:List D,eqL d d=true
 | []=>by simp [eqL]
 | x::xs=>by simp only [eqL,Bool.and_eq_true];exact ⟨Jce x,Je0 xs⟩
end
theorem RepL.length {K:W.Frag} {H:Hp}:∀ {ds:List D} {vs:List V},RepL K H ds vs->ds.length=vs.length
 | [],vs,h=>by
  simp only [RepL] at h;rw [h];rfl
 | d::ds,vs,h=>by
  simp only [RepL] at h;obtain ⟨v,r,rfl,_,h2⟩:=h;simp only [length_cons,RepL.length h2]
theorem RepL.get {K:W.Frag} {H:Hp}:∀ {ds:List D} {vs:List V} {i:Nat} {d:D},RepL K H ds vs->ds[i]?=some d->∃ v,vs[i]?=some v/\Rep K H d v
 | [],_,_,_,_,e=>by simp at e
 | d::ds,vs,i,d',h,e=>by
  simp only [RepL] at h;obtain ⟨v,r,rfl,h1,h2⟩:=h;cases i with
  | zero=>simp at e;subst e;exact ⟨v,rfl,h1⟩
  | succ i=>
   obtain ⟨v',e',h'⟩:=RepL.get h2 (by simpa using e);exact ⟨v',by simpa using e',h'⟩
theorem SqL.same {K:W.Frag} {H H':Hp} {a:Addr} {xs:List V} (e:Same H H') (h:SqL K H a xs):SqL K H' a xs:=e.seq h
theorem SqT.same {K:W.Frag} {H H':Hp} {a:Addr} {xs:List V} (e:Same H H') (h:SqT K H a xs):SqT K H' a xs:=by
 rcases h with (h | ⟨o,h⟩) | h
 ·exact .inl (.inl (e _ _ h))
 ·exact .inl (.inr ⟨o,e _ _ h⟩)
 ·exact .inr h
mutual
theorem Rep.same {K:W.Frag} {H H':Hp} (e:Same H H'):∀ {d:D} {v:V},Rep K H d v->Rep K H' d v
 | .non,_,h=>by simpa only [Rep] using h
 | .bl _,_,h=>by simpa only [Rep] using h
 | .int _,_,h=>by simpa only [Rep] using h
 | .str _,_,h=>by simpa only [Rep] using h
 | .tup ds,_,h=>by
  simp only [Rep] at h ⊢;obtain ⟨a,xs,h1,h2,h3⟩:=h;exact ⟨a,xs,h1,h2.same e,RepL.same e h3⟩
 | .lst ds,_,h=>by
  simp only [Rep] at h ⊢;obtain ⟨a,xs,h1,h2,h3⟩:=h;exact ⟨a,xs,h1,h2.same e,RepL.same e h3⟩
theorem RepL.same {K:W.Frag} {H H':Hp} (e:Same H H'):∀ {d:List D} {v:List V},RepL K H d v->RepL K H' d v
 | [],_,h=>by simpa only [RepL] using h
 | x::xs,_,h=>by
  simp only [RepL] at h ⊢;obtain ⟨v,r,h1,h2,h3⟩:=h;exact ⟨v,r,h1,Rep.same e h2,RepL.same e h3⟩
end
section
variable {X:Cx} {pins:List (Addr × Obj)} {σ : St} {H:Hp} {s:Shared}
theorem Inv.list_tuple (I:Inv X pins σ H s) {a:Addr} {xs ys:List V} (h:SqL X.K H a xs) (h':SqT X.K H a ys):False:=by
 obtain ⟨_,_,p,_⟩:=I.list h;obtain ⟨_,_,q,_⟩:=I.tuple h';obtain ⟨o,_,e,d,_⟩:=p;obtain ⟨f,c,b,_⟩:=q;rw [e] at c;cases c;rw [d] at b;exact absurd b ⋯
mutual
theorem Inv.rep_inj (I:Inv X pins σ H s):∀ {d e:D} {v:V},Rep X.K H d v->Rep X.K H e v->d=e
 | .non,e,v,h,h'=>by
  simp only [Rep] at h;subst h;cases e <;> simp [Rep] at h' ⊢
 | .bl _,e,v,h,h'=>by
  simp only [Rep] at h;subst h;cases e <;> simp [Rep] at h' ⊢
  exact h'
 | .int _,e,v,h,h'=>by
  simp only [Rep] at h;subst h;cases e <;> simp [Rep] at h' ⊢
  exact h'
 | .str _,e,v,h,h'=>by
  simp only [Rep] at h;subst h;cases e <;> simp [Rep] at h' ⊢
  exact h'
 | .tup ds,e,v,h,h'=>by
  simp only [Rep] at h;obtain ⟨a,xs,rfl,h2,h3⟩:=h;cases e with
  | tup es=>
   simp only [Rep] at h';obtain ⟨a',ys,q,g2,g3⟩:=h';cases q;have:=I.tuple_inj h2 g2;subst this;rw [Inv.repL_inj I h3 g3]
  | lst es=>
   simp only [Rep] at h';obtain ⟨a',ys,q,g2,g3⟩:=h';cases q;exact (I.list_tuple g2 h2).elim
  | _=>simp [Rep] at h'
 | .lst ds,e,v,h,h'=>by
  simp only [Rep] at h;obtain ⟨a,xs,rfl,h2,h3⟩:=h;cases e with
  | lst es=>
   simp only [Rep] at h';obtain ⟨a',ys,q,g2,g3⟩:=h';cases q;have:=I.list_inj h2 g2;subst this;rw [Inv.repL_inj I h3 g3]
  | tup es=>
   simp only [Rep] at h';obtain ⟨a',ys,q,g2,g3⟩:=h';cases q;exact (I.list_tuple h2 g2).elim
  | _=>simp [Rep] at h'
theorem Inv.repL_inj (I:Inv X pins σ H s):∀ {d e:List D} {v:List V},RepL X.K H d v->RepL X.K H e v->d=e
 | [],e,v,h,h'=>by
  simp only [RepL] at h;subst h;cases e <;> simp [RepL] at h' ⊢
 | x::xs,e,v,h,h'=>by
  simp only [RepL] at h;obtain ⟨u,r,rfl,h1,h2⟩:=h;cases e with
  | nil=>simp [RepL] at h'
  | cons y ys=>
   simp only [RepL] at h';obtain ⟨u',r',q,g1,g2⟩:=h';cases q;rw [Inv.rep_inj I h1 g1,Inv.repL_inj I h2 g2]
end
end
def JcN {α β : Type} (f : α->β->Bool):List α->List β->Bool
 | [],[]=>true
 | x::xs,y::ys=>f x y&&JcN f xs ys
 | _,_=>false
def atB {α β : Type} (f : α->β->Bool) (xs:List α) (ys:List β) (j:Nat):Bool:=match xs[j]?,ys[j]? with
 | some x,some y=>f x y
 | _,_=>true
theorem JcO {α β : Type} (f : α->β->Bool):∀ (xs:List α) (ys:List β),
  ((List.range (min xs.length ys.length)).all (atB f xs ys)&&(xs.length == ys.length))=JcN f xs ys
 | [],[]=>by simp [JcN]
 | [],_::_=>by simp [JcN]
 | _::_,[]=>by simp [JcN]
 | x::xs,y::ys=>by
  have ih:=JcO f xs ys;simp only [JcN,length_cons];rw [<- ih,Nat.succ_min_succ,List.range_succ_eq_map,List.all_cons,List.all_map];have e:((List.range (min xs.length ys.length)).all (atB f (x::xs) (y::ys) ∘ Nat.succ))=(List.range (min xs.length ys.length)).all (atB f xs ys):=by
   congr 1
  rw [e];have e0:atB f (x::xs) (y::ys) 0=f x y:=by unfold atB;simp
  rw [e0,Bool.and_assoc]
  congr 2
  simp
theorem Jgg:∀ xs ys:List D,eqL xs ys=JcN eqD xs ys
 | [],[]=>by simp [eqL,JcN]
 | [],_::_=>by simp [eqL,JcN]
 | _::_,[]=>by simp [eqL,JcN]
 | x::xs,y::ys=>by simp only [eqL,JcN,Jgg xs ys]
theorem JgP:∀ {ds:List D} {d:D},d∈ds->depD d<=depL ds
 | [],_,h=>by simp at h
 | x::xs,d,h=>by
  simp only [depL];rcases mem_cons.mp h with rfl | h
  ·exact Nat.le_max_left ..
  ·exact Nat.le_trans (JgP h) (Nat.le_max_right ..)
def flatD:D->Bool
 | .tup _=>false
 | .lst _=>false
 | _=>true
def valD:D->V
 | .bl b=>.bl b
 | .int i=>.int i
 | .str x=>.str x
 | _=>.non
theorem Jfi {K:W.Frag} {H:Hp} {d:D} {v:V} (f:flatD d=true) (h:Rep K H d v):v=valD d:=by
 cases d <;> simp_all [flatD,Rep,valD]
theorem JgT {d:D} (f:flatD d=true):flatV (valD d)=true:=by
 cases d <;> simp_all [flatD,valD,flatV]
theorem Jka {d e:D} (f:flatD d=true) (g:flatD e=true):eqV (valD d) (valD e)=eqD d e:=by
 cases d <;> cases e <;> simp_all [flatD,valD,eqV,eqD]
section
variable {X:Cx} {pins:List (Addr × Obj)} {σ : St} {H:Hp} {s:Shared}
theorem in1_units (A:Around):A.in1.units=A.units+1:=rfl
def EqP (X:Cx) (H:Hp) (s:Shared) (n:Nat):Prop:=∀ (d e:D) (A:Around) (x y:V) (u v:Value),depD d<=n->Rep X.K H d x->Rep X.K H e y->RelV x u->RelV y v->A.units+n<cLine->SeqAt.EqAt A s u v (eqD d e)
theorem JgX {n:Nat} (ih:EqP X H s n) {ds es:List D} {xs ys:List V} {its jts:List Value} (h3:RepL X.K H ds xs) (g3:RepL X.K H es ys) (vi:Vals xs its) (vj:Vals ys jts) (hds:depL ds<=n) {A:Around} (hA:A.units+n<cLine) :
  ∀ j (p1:j<its.toArray.size) (p2:j<jts.toArray.size),SeqAt.EqAt A s its.toArray[j] jts.toArray[j] (atB eqD ds es j):=by
 intro j p1 p2;have e:its.length=ds.length:=by rw [h3.length,vi.length]
 have r:jts.length=es.length:=by rw [g3.length,vj.length]
 have a:j<ds.length:=by rw [<- e];simpa using p1
 have b:j<es.length:=by rw [<- r];simpa using p2
 obtain ⟨v,f,o⟩:=h3.get (List.getElem?_eq_getElem a);obtain ⟨u,l,d⟩:=g3.get (List.getElem?_eq_getElem b);obtain ⟨q,m,h⟩:=vi.get f;obtain ⟨g,t,p⟩:=vj.get l;have k:its.toArray[j]=q:=by
  have:=m;rw [List.getElem?_eq_getElem (by simpa using p1)] at this;simpa using this
 have c:jts.toArray[j]=g:=by
  have:=t;rw [List.getElem?_eq_getElem (by simpa using p2)] at this;simpa using this
 rw [k,c];have i:atB eqD ds es j=eqD ds[j] es[j]:=by
  unfold atB;rw [List.getElem?_eq_getElem a,List.getElem?_eq_getElem b]
 rw [i];exact ih _ _ _ _ _ _ _ (Nat.le_trans (JgP (List.getElem_mem a)) hds) o d h p hA
theorem JlK (I:Inv X pins σ H s) {n:Nat} (ih:EqP X H s n) {ds es:List D} {a b:Addr} {xs ys:List V} (h2:SqT X.K H a xs) (h3:RepL X.K H ds xs) (g2:SqT X.K H b ys) (g3:RepL X.K H es ys) (hds:depL ds<=n) {A:Around} (hA:A.units+(n+1)<cLine) :
  SeqAt.RcAt A s (.ref a) (.ref b) (eqD (.tup ds) (.tup es))/\SeqAt.RcNeAt A s (.ref a) (.ref b) (!eqD (.tup ds) (.tup es)):=by
 obtain ⟨c,f,i,_⟩:=I.tuple h2;obtain ⟨d,h,e,_⟩:=I.tuple g2;have k:c.length=ds.length:=by rw [h3.length,f.length]
 have l:d.length=es.length:=by rw [g3.length,h.length]
 have g:=JgX ih h3 g3 f h hds (A:=A.in1) (by rw [in1_units];ac_nf);have j:eqD (.tup ds) (.tup es)=((List.range (min c.toArray.size d.toArray.size)).all (atB eqD ds es)&&c.toArray.size == d.toArray.size):=by
  simp only [eqD,Jgg];rw [<- JcO];simp only [size_toArray,k,l]
 rw [j];exact ⟨SeqAt.RcAt.tuples i e ∅ g,SeqAt.RcNeAt.tuples i e ∅ g⟩
theorem Jlg (I:Inv X pins σ H s) {n:Nat} (ih:EqP X H s n) {ds es:List D} {a b:Addr} {xs ys:List V} (h2:SqL X.K H a xs) (h3:RepL X.K H ds xs) (g2:SqL X.K H b ys) (g3:RepL X.K H es ys) (hds:depL ds<=n) {A:Around} (hA:A.units+(n+1)<cLine) :
  SeqAt.RcAt A s (.ref a) (.ref b) (eqD (.lst ds) (.lst es))/\SeqAt.RcNeAt A s (.ref a) (.ref b) (!eqD (.lst ds) (.lst es)):=by
 obtain ⟨e,k,g,_⟩:=I.list h2;obtain ⟨j,m,f,_⟩:=I.list g2;have d:e.length=ds.length:=by rw [h3.length,k.length]
 have h:j.length=es.length:=by rw [g3.length,m.length]
 have l:=JgX ih h3 g3 k m hds (A:=A.in1) (by rw [in1_units];ac_nf);by_cases c:ds.length=es.length
 ·have i:eqD (.lst ds) (.lst es)=(List.range e.toArray.size).all (atB eqD ds es):=by
   simp only [eqD,Jgg];rw [<- JcO];simp [d,c]
  rw [i];exact ⟨SeqAt.RcAt.lists g.isList f.isList (by simp [d,h,c]) ∅ l,SeqAt.RcNeAt.lists g.isList f.isList (by simp [d,h,c]) ∅ l⟩
 ·have i:eqD (.lst ds) (.lst es)=false:=by
   cases q:eqD (.lst ds) (.lst es) with
   | false=>rfl
   | true=>simp only [eqD] at q;exact absurd (JeM q) c
  rw [i];exact ⟨SeqAt.RcAt.lists_lengths g.isList f.isList (by simp [d,h,c]) ∅,SeqAt.RcNeAt.lists_lengths g.isList f.isList (by simp [d,h,c]) ∅⟩
theorem JcY {K:W.Frag} {d:D} {x:V} (h:Rep K H d x):(flatD d=true/\x=valD d)\/(∃ ds a xs,d=.tup ds/\x=.ref a/\SqT K H a xs/\RepL K H ds xs)\/∃ ds a xs,d=.lst ds/\x=.ref a/\SqL K H a xs/\RepL K H ds xs:=by
 cases d with
 | tup ds=>simp only [Rep] at h;obtain ⟨a,xs,c,b,e⟩:=h;exact .inr (.inl ⟨ds,a,xs,rfl,c,b,e⟩)
 | lst ds=>simp only [Rep] at h;obtain ⟨a,xs,c,b,e⟩:=h;exact .inr (.inr ⟨ds,a,xs,rfl,c,b,e⟩)
 | _=>exact .inl ⟨rfl,Jfi rfl h⟩
theorem JcS (I:Inv X pins σ H s) {d e:D} {x y:V} {u v:Value} (hd:Rep X.K H d x) (he:Rep X.K H e y) (ru:RelV x u) (rv:RelV y v) (m:flatD d=!flatD e) {A:Around} (hA:A.units<cLine) :
  eqD d e=false/\SeqAt.EqAt A s u v false/\SeqAt.RcAt A s u v false/\SeqAt.RcNeAt A s u v true:=by
 rcases JcY hd with ⟨fd,rfl⟩ | ⟨ds,a,xs,rfl,rfl,h2,h3⟩ | ⟨ds,a,xs,rfl,rfl,h2,h3⟩
 ·rcases JcY he with ⟨fe,rfl⟩ | ⟨es,b,ys,rfl,rfl,g2,g3⟩ | ⟨es,b,ys,rfl,rfl,g2,g3⟩
  ·rw [fd,fe] at m;cases m
  ·obtain rfl:v=Value.ref b:=rv;obtain ⟨f,g,c,_⟩:=I.tuple g2;refine ⟨by cases d <;> simp [eqD,flatD] at fd ⊢,?_⟩;cases d <;> simp only [valD,RelV] at ru <;> first | (simp [flatD] at fd;done) | skip
   ·subst ru;exact ⟨SeqAt.EqAt.none_tuple c hA,SeqAt.RcAt.none_tuple c hA,SeqAt.RcNeAt.none_tuple c hA⟩
   ·subst ru;exact ⟨SeqAt.EqAt.bool_tuple _ c hA,SeqAt.RcAt.bool_tuple _ c hA,SeqAt.RcNeAt.bool_tuple _ c hA⟩
   ·obtain ⟨t,rfl⟩:=ru;exact ⟨SeqAt.EqAt.int_tuple _ _ c hA,SeqAt.RcAt.int_tuple _ _ c hA,SeqAt.RcNeAt.int_tuple _ _ c hA⟩
   ·obtain ⟨t,rfl⟩:=ru;exact ⟨SeqAt.EqAt.str_tuple _ _ c hA,SeqAt.RcAt.str_tuple _ _ c hA,SeqAt.RcNeAt.str_tuple _ _ c hA⟩
  ·obtain rfl:v=Value.ref b:=rv;obtain ⟨f,g,c,_⟩:=I.list g2;have c:=c.isList;refine ⟨by cases d <;> simp [eqD,flatD] at fd ⊢,?_⟩;cases d <;> simp only [valD,RelV] at ru <;> first | (simp [flatD] at fd;done) | skip
   ·subst ru;exact ⟨SeqAt.EqAt.none_list c hA,SeqAt.RcAt.none_list c hA,SeqAt.RcNeAt.none_list c hA⟩
   ·subst ru;exact ⟨SeqAt.EqAt.bool_list _ c hA,SeqAt.RcAt.bool_list _ c hA,SeqAt.RcNeAt.bool_list _ c hA⟩
   ·obtain ⟨t,rfl⟩:=ru;exact ⟨SeqAt.EqAt.int_list _ _ c hA,SeqAt.RcAt.int_list _ _ c hA,SeqAt.RcNeAt.int_list _ _ c hA⟩
   ·obtain ⟨t,rfl⟩:=ru;exact ⟨SeqAt.EqAt.str_list _ _ c hA,SeqAt.RcAt.str_list _ _ c hA,SeqAt.RcNeAt.str_list _ _ c hA⟩
 ·rcases JcY he with ⟨fe,rfl⟩ | ⟨es,b,ys,rfl,rfl,g2,g3⟩ | ⟨es,b,ys,rfl,rfl,g2,g3⟩
  ·obtain rfl:u=Value.ref a:=ru;obtain ⟨f,g,c,_⟩:=I.tuple h2;refine ⟨by cases e <;> simp [eqD,flatD] at fe ⊢,?_⟩;cases e <;> simp only [valD,RelV] at rv <;> first | (simp [flatD] at fe;done) | skip
   ·subst rv;exact ⟨SeqAt.EqAt.tuple_none c hA,SeqAt.RcAt.tuple_none c hA,SeqAt.RcNeAt.tuple_none c hA⟩
   ·subst rv;exact ⟨SeqAt.EqAt.tuple_bool _ c hA,SeqAt.RcAt.tuple_bool _ c hA,SeqAt.RcNeAt.tuple_bool _ c hA⟩
   ·obtain ⟨t,rfl⟩:=rv;exact ⟨SeqAt.EqAt.tuple_int _ _ c hA,SeqAt.RcAt.tuple_int _ _ c hA,SeqAt.RcNeAt.tuple_int _ _ c hA⟩
   ·obtain ⟨t,rfl⟩:=rv;exact ⟨SeqAt.EqAt.tuple_str _ _ c hA,SeqAt.RcAt.tuple_str _ _ c hA,SeqAt.RcNeAt.tuple_str _ _ c hA⟩
  ·simp [flatD] at m
  ·simp [flatD] at m
 ·rcases JcY he with ⟨fe,rfl⟩ | ⟨es,b,ys,rfl,rfl,g2,g3⟩ | ⟨es,b,ys,rfl,rfl,g2,g3⟩
  ·obtain rfl:u=Value.ref a:=ru;obtain ⟨f,g,c,_⟩:=I.list h2;have c:=c.isList;refine ⟨by cases e <;> simp [eqD,flatD] at fe ⊢,?_⟩;cases e <;> simp only [valD,RelV] at rv <;> first | (simp [flatD] at fe;done) | skip
   ·subst rv;exact ⟨SeqAt.EqAt.list_none c hA,SeqAt.RcAt.list_none c hA,SeqAt.RcNeAt.list_none c hA⟩
   ·subst rv;exact ⟨SeqAt.EqAt.list_bool _ c hA,SeqAt.RcAt.list_bool _ c hA,SeqAt.RcNeAt.list_bool _ c hA⟩
   ·obtain ⟨t,rfl⟩:=rv;exact ⟨SeqAt.EqAt.list_int _ _ c hA,SeqAt.RcAt.list_int _ _ c hA,SeqAt.RcNeAt.list_int _ _ c hA⟩
   ·obtain ⟨t,rfl⟩:=rv;exact ⟨SeqAt.EqAt.list_str _ _ c hA,SeqAt.RcAt.list_str _ _ c hA,SeqAt.RcNeAt.list_str _ _ c hA⟩
  ·simp [flatD] at m
  ·simp [flatD] at m
theorem seq_eq (I:Inv X pins σ H s) {n:Nat} (ih:EqP X H s n) {d e:D} {x y:V} {u v:Value} (hn:depD d<=n+1) (hd:Rep X.K H d x) (he:Rep X.K H e y) (ru:RelV x u) (rv:RelV y v) (fd:flatD d=false) (fe:flatD e=false) {A:Around} (hA:A.units+(n+1)<cLine) :
  SeqAt.EqAt A s u v (eqD d e)/\SeqAt.RcAt A s u v (eqD d e)/\SeqAt.RcNeAt A s u v (!eqD d e):=by
 have k:=hd;have j:=he;rcases JcY hd with ⟨f,_⟩ | ⟨ds,a,xs,rfl,rfl,h2,h3⟩ | ⟨ds,a,xs,rfl,rfl,h2,h3⟩
 ·rw [f] at fd;cases fd
 ·obtain rfl:u=Value.ref a:=ru;have h:depL ds<=n:=by simp only [depD] at hn;ac_nf
  rcases JcY he with ⟨f,_⟩ | ⟨es,b,ys,rfl,rfl,g2,g3⟩ | ⟨es,b,ys,rfl,rfl,g2,g3⟩
  ·rw [f] at fe;cases fe
  ·obtain rfl:v=Value.ref b:=rv;have R:=JlK I ih h2 h3 g2 g3 h hA;refine ⟨?_,R.1,R.2⟩;by_cases c:a=b
   ·subst c;rw [I.rep_inj k j,Jce];exact SeqAt.EqAt.same _
   ·exact SeqAt.EqAt.of_refs c R.1
  ·obtain rfl:v=Value.ref b:=rv;obtain ⟨l,_,i,_⟩:=I.tuple h2;obtain ⟨m,_,g,_⟩:=I.list g2;exact ⟨SeqAt.EqAt.tuple_list i g.isList ∅,SeqAt.RcAt.tuple_list i g.isList ∅,SeqAt.RcNeAt.tuple_list i g.isList ∅⟩
 ·obtain rfl:u=Value.ref a:=ru;have h:depL ds<=n:=by simp only [depD] at hn;ac_nf
  rcases JcY he with ⟨f,_⟩ | ⟨es,b,ys,rfl,rfl,g2,g3⟩ | ⟨es,b,ys,rfl,rfl,g2,g3⟩
  ·rw [f] at fe;cases fe
  ·obtain rfl:v=Value.ref b:=rv;obtain ⟨l,_,i,_⟩:=I.list h2;obtain ⟨m,_,g,_⟩:=I.tuple g2;exact ⟨SeqAt.EqAt.list_tuple i.isList g ∅,SeqAt.RcAt.list_tuple i.isList g ∅,SeqAt.RcNeAt.list_tuple i.isList g ∅⟩
  ·obtain rfl:v=Value.ref b:=rv;have R:=Jlg I ih h2 h3 g2 g3 h hA;refine ⟨?_,R.1,R.2⟩;by_cases c:a=b
   ·subst c;rw [I.rep_inj k j,Jce];exact SeqAt.EqAt.same _
   ·exact SeqAt.EqAt.of_refs c R.1
theorem Inv.eqP (I:Inv X pins σ H s):∀ n,EqP X H s n
 | 0=>fun d e A x y u v hn hd he ru rv hA=>by
  have fd:flatD d=true:=by
   cases d <;> simp [depD,flatD] at hn ⊢
  cases fe:flatD e with
  | true=>
   have ex:=Jfi fd hd;have ey:=Jfi fe he;subst ex ey;rw [<- Jka fd fe];exact JjA ru rv (JgT fd) (JgT fe)
  | false=>
   obtain ⟨e1,e2,_⟩:=JcS I hd he ru rv (by rw [fd,fe];rfl) (A:=A) ∅;rw [e1];exact e2
 | n+1=>fun d e A x y u v hn hd he ru rv hA=>by
  cases fd:flatD d with
  | true=>
   have h0:depD d<=n:=by cases d <;> simp [depD,flatD] at fd ⊢
   exact Inv.eqP I n d e A x y u v h0 hd he ru rv ∅
  | false=>
   cases fe:flatD e with
   | true=>
    obtain ⟨e1,e2,_⟩:=JcS I hd he ru rv (by rw [fd,fe];rfl) (A:=A) ∅;rw [e1];exact e2
   | false=>exact (seq_eq I (Inv.eqP I n) hn hd he ru rv fd fe hA).1
def rEqU (K:W.Frag):R2:=fun x y H Q=>match x,y with
 | .int i, .int j=>Q (.bl (decide (i=j))) H
 | .str i, .str j=>Q (.bl (decide (i=j))) H
 | .bl i, .bl j=>Q (.bl (decide (i=j))) H
 | .non, .non=>Q (.bl true) H
 | x,y=>∃ d e,Rep K H d x/\Rep K H e y/\depD d<=50/\(flatD d&&flatD e)=false/\Q (.bl (eqD d e)) H
def rNeU (K:W.Frag):R2:=fun x y H Q=>match x,y with
 | .int i, .int j=>Q (.bl (!decide (i=j))) H
 | .str i, .str j=>Q (.bl (!decide (i=j))) H
 | .bl i, .bl j=>Q (.bl (!decide (i=j))) H
 | .non, .non=>Q (.bl false) H
 | x,y=>∃ d e,Rep K H d x/\Rep K H e y/\depD d<=50/\(flatD d&&flatD e)=false/\Q (.bl (!eqD d e)) H
theorem Jb9 (hu:X.A.units+64<cLine):OpR X (compareOp .Eq) (rEqU X.K):=fun a s σ H x y v u Q I b c q=>by
 unfold rEqU at q;split at q
 ·rename_i i j;exact op_eq a s σ H _ _ v u Q I b c ⟨rfl,by rw [show decide (V.int i=V.int j)=decide (i=j) from by simp];exact q⟩
 ·rename_i i j;exact op_eq a s σ H _ _ v u Q I b c ⟨rfl,by rw [show decide (V.str i=V.str j)=decide (i=j) from by simp];exact q⟩
 ·rename_i i j;exact op_eq a s σ H _ _ v u Q I b c ⟨rfl,by rw [show decide (V.bl i=V.bl j)=decide (i=j) from by simp];exact q⟩
 ·exact op_eq a s σ H _ _ v u Q I b c ⟨rfl,by simpa using q⟩
 ·obtain ⟨d,e,h,k,m,l,q⟩:=q;show wpAny (model X.prog X.w) X.A (richCompare .Eq v u) (EP X a σ Q) X.xe s;cases fd:flatD d with
  | true=>
   cases fe:flatD e with
   | true=>rw [fd,fe] at l;cases l
   | false=>
    obtain ⟨f,_,g,_⟩:=JcS I h k b c (by rw [fd,fe];rfl) (A:=X.A) ∅;rw [f] at q;exact g _ _ _ _ ⟨V.bl _,H,I,rfl,q⟩
  | false=>
   cases fe:flatD e with
   | true=>
    obtain ⟨f,_,g,_⟩:=JcS I h k b c (by rw [fd,fe];rfl) (A:=X.A) ∅;rw [f] at q;exact g _ _ _ _ ⟨V.bl _,H,I,rfl,q⟩
   | false=>exact (seq_eq I (I.eqP 49) m h k b c fd fe ∅).2.1 _ _ _ _ ⟨V.bl _,H,I,rfl,q⟩
theorem Jdb (hu:X.A.units+64<cLine):OpR X (compareOp .NotEq) (rNeU X.K):=fun a s σ H x y v u Q I b c q=>by
 unfold rNeU at q;split at q
 ·rename_i i j;exact op_ne a s σ H _ _ v u Q I b c ⟨rfl,by rw [show decide (V.int i=V.int j)=decide (i=j) from by simp];exact q⟩
 ·rename_i i j;exact op_ne a s σ H _ _ v u Q I b c ⟨rfl,by rw [show decide (V.str i=V.str j)=decide (i=j) from by simp];exact q⟩
 ·rename_i i j;exact op_ne a s σ H _ _ v u Q I b c ⟨rfl,by rw [show decide (V.bl i=V.bl j)=decide (i=j) from by simp];exact q⟩
 ·exact op_ne a s σ H _ _ v u Q I b c ⟨rfl,by simpa using q⟩
 ·obtain ⟨d,e,h,k,m,l,q⟩:=q;show wpAny (model X.prog X.w) X.A (richCompare .NotEq v u) (EP X a σ Q) X.xe s;cases fd:flatD d with
  | true=>
   cases fe:flatD e with
   | true=>rw [fd,fe] at l;cases l
   | false=>
    obtain ⟨f,_,_,g⟩:=JcS I h k b c (by rw [fd,fe];rfl) (A:=X.A) ∅;rw [f] at q;exact g _ _ _ _ ⟨V.bl _,H,I,rfl,q⟩
  | false=>
   cases fe:flatD e with
   | true=>
    obtain ⟨f,_,_,g⟩:=JcS I h k b c (by rw [fd,fe];rfl) (A:=X.A) ∅;rw [f] at q;exact g _ _ _ _ ⟨V.bl _,H,I,rfl,q⟩
   | false=>exact (seq_eq I (I.eqP 49) m h k b c fd fe ∅).2.2 _ _ _ _ ⟨V.bl _,H,I,rfl,q⟩
end
def DivOk (j:Int):Prop:=j≠0/\j.natAbs.log2<9000
section
variable {X:Cx}
def rAddU (K:W.Frag):R2:=fun x y H Q=>match x,y with
 | .int i, .int j=>Q (.int (i+j)) H
 | .str i, .str j=>i.length+j.length<=sizeLine/\Q (.str (i++j)) H
 | .ref a, .ref b=>rCat (.ref a) (.ref b) H Q\/rCatT K (.ref a) (.ref b) H Q
 | _,_=>False
theorem Ja6:OpR X (binaryOp .Add) (rAddU X.K):=fun a s σ H x y v u Q I c b q=>by
 unfold rAddU at q;split at q
 ·exact Jlk a s σ H _ _ v u Q I c b ⟨_,_,rfl,rfl,q⟩
 ·exact Jht a s σ H _ _ v u Q I c b ⟨_,_,rfl,rfl,q.1,q.2⟩
 ·rcases q with q | q
  ·exact Jll a s σ H _ _ v u Q I c b q
  ·exact Jku a s σ H _ _ v u Q I c b q
 ·exact q.elim
def rMulU:R2:=fun x y H Q=>match x,y with
 | .int i, .int j=>IntMulOk i j/\Q (.int (i*j)) H
 | _,_=>False
theorem Jkw:OpR X (binaryOp .Mult) (rI IntMulOk fun i j=>.int (i*j)):=opI fun _ _ _ _ _ _ _ a q=>mul_int q a
theorem Jkx:OpR X (binaryOp .Mult) rMulU:=fun a s σ H x y v u Q I c b q=>by
 unfold rMulU at q;split at q
 ·exact Jkw a s σ H _ _ v u Q I c b ⟨_,_,rfl,rfl,q.1,q.2⟩
 ·exact q.elim
def Jiv:R2:=fun x y H Q=>match x,y with
 | .int i, .int j=>DivOk j/\Q (.int (i.fdiv j)) H
 | _,_=>False
theorem Jjb:OpR X (binaryOp .FloorDiv) (rI (fun _ j=>DivOk j) fun i j=>.int (i.fdiv j)):=opI fun _ _ _ _ _ _ _ a q=>floordiv_int a.1 q (.inl (PyProof.noPylong_of_log2 a.2))
theorem Jas:OpR X (binaryOp .FloorDiv) Jiv:=fun a s σ H x y v u Q I c b q=>by
 unfold Jiv at q;split at q
 ·exact Jjb a s σ H _ _ v u Q I c b ⟨_,_,rfl,rfl,q.1,q.2⟩
 ·exact q.elim
def rModU:R2:=fun x y H Q=>match x,y with
 | .int i, .int j=>j≠0/\Q (.int (i.fmod j)) H
 | _,_=>False
theorem JaC:OpR X (binaryOp .Mod) rModU:=fun a s σ H x y v u Q I c b q=>by
 unfold rModU at q;split at q
 ·exact Jkv a s σ H _ _ v u Q I c b ⟨_,_,rfl,rfl,q.1,q.2⟩
 ·exact q.elim
def rPowU:R2:=fun x y H Q=>match x,y with
 | .int i, .int j=>CPow i j/\Q (.int (i ^ j.toNat)) H
 | _,_=>False
theorem Jgw:OpR X (binaryOp .Pow) rPowU:=fun a s σ H x y v u Q I c b q=>by
 unfold rPowU at q;split at q
 ·exact Jlr a s σ H _ _ v u Q I c b ⟨_,_,rfl,rfl,q.1,q.2⟩
 ·exact q.elim
def rCmpU (p:Int->Int->Bool):R2:=fun x y H Q=>match x,y with
 | .int i, .int j=>Q (.bl (p i j)) H
 | _,_=>False
theorem Jgv {op:CmpOp} {p:Int->Int->Bool} (h:OpR X (compareOp op) (rI0 fun i j=>.bl (p i j))):OpR X (compareOp op) (rCmpU p):=fun a s σ H x y v u Q I c b q=>by
 unfold rCmpU at q;split at q
 ·exact h a s σ H _ _ v u Q I c b ⟨_,_,rfl,rfl,q⟩
 ·exact q.elim
theorem JfS:OpR X (compareOp .Lt) (rCmpU fun i j=>decide (i<j)):=Jgv op_lt
theorem Jg0:OpR X (compareOp .Gt) (rCmpU fun i j=>decide (j<i)):=Jgv op_gt
theorem JjF:OpR X (compareOp .GtE) (rCmpU fun i j=>decide (j<=i)):=Jgv op_ge
def SqA (K:W.Frag) (H:Hp) (a:Addr) (xs:List V):Prop:=SqL K H a xs\/SqT K H a xs
def rIxU (K:W.Frag):R2:=fun x y H Q=>match x,y with
 | .ref p, .int i=>∃ xs v,SqA K H p xs/\atI xs i=some v/\Q v H
 | .str z, .int i=>∃ c,z.length<=sizeLine/\atI z.cps.toList i=some c/\Q (.str ⟨#[c]⟩) H
 | _,_=>False
theorem ix_U:IxR X (rIxU X.K):=fun a b d s σ H x y v u Q I g i q f=>by
 unfold rIxU at q;split at q
 ·obtain ⟨l,w,h | h,e,q⟩:=q
  ·exact Jkg a b d s σ H _ _ v u Q I g i ⟨_,_,_,_,rfl,rfl,h,e,q⟩ f
  ·exact Jla a b d s σ H _ _ v u Q I g i ⟨_,_,_,_,rfl,rfl,h,e,q⟩ f
 ·obtain ⟨c,j,k,q⟩:=q;exact Jk9 a b d s σ H _ _ v u Q I g i ⟨_,_,_,rfl,rfl,j,k,q⟩ f
 ·exact q.elim
def rLen (K:W.Frag):List V->Hp->VK->Prop:=fun xs H Q=>match xs with
 | [.ref p]=>∃ ys,SqA K H p ys/\Q (.int ys.length) H
 | [.str z]=>z.length<=sizeLine/\Q (.int z.length) H
 | _=>False
theorem Ja5:CallR X (.builtin "len") (rLen X.K):=fun a s σ H d b Q I r q=>by
 unfold rLen at q;split at q
 ·obtain ⟨c,h,q⟩:=q;exact JfA a s σ H _ b Q I r ⟨_,_,rfl,h,q⟩
 ·exact JfB a s σ H _ b Q I r ⟨_,rfl,q.1,q.2⟩
 ·exact q.elim
def rAbs:List V->Hp->VK->Prop:=fun xs H Q=>match xs with
 | [.int i]=>Q (.int (if i<0 then -i else i)) H
 | _=>False
theorem Jc6:CallR X (.builtin "abs") rAbs:=fun a s σ H c b Q I r q=>by
 unfold rAbs at q;split at q
 ·exact JiW a s σ H _ b Q I r ⟨_,rfl,q⟩
 ·exact q.elim
def rMin:List V->Hp->VK->Prop:=fun xs H Q=>match xs with
 | [.int i, .int j]=>Q (.int (if j<i then j else i)) H
 | _=>False
theorem JhG (hc:X.calm=true):CallR X (.builtin "min") rMin:=fun a s σ H c b Q I r q=>by
 unfold rMin at q;split at q
 ·exact JhF hc a s σ H _ b Q I r ⟨_,_,rfl,q⟩
 ·exact q.elim
def isiB (t T:String):Bool:=t == T||(t == "bool"&&T == "int")
def tyN (K:W.Frag) (H:Hp) (x:V) (t:String):Prop:=match x with
 | .int _=>t="int"
 | .str _=>t="str"
 | .bl _=>t="bool"
 | .non=>t="NoneType"
 | .ref a=>(t="list"/\∃ xs,SqL K H a xs)\/(t="tuple"/\∃ xs,SqT K H a xs)
 | _=>False
theorem kit_b (K:W.Frag) {t T:String} (ht:t∈["int","str","bool","NoneType","list","tuple"]) (hT:T∈["int","str","bool","list","tuple"]):W.kitOne K (.type t) (.type T)=some (isiB t T):=by
 simp only [mem_cons,not_mem_nil,or_false] at ht hT;rcases ht with rfl | rfl | rfl | rfl | rfl | rfl <;> rcases hT with rfl | rfl | rfl | rfl | rfl <;> with_unfolding_all rfl
def rIsi (K:W.Frag):List V->Hp->VK->Prop:=fun xs H Q=>match xs with
 | [x, .ty T]=>T∈["int","str","bool","list","tuple"]/\∃ t,tyN K H x t/\Q (.bl (isiB t T)) H
 | _=>False
theorem JaE:CallR X (.builtin "isinstance") (rIsi X.K):=fun g s σ H v n Q I r q=>by
 unfold rIsi at q;split at q
 ·rename_i x T;obtain ⟨e,t,d,q⟩:=q;obtain ⟨u,c,rfl,f,m⟩:=vals2 r;obtain rfl:c=Value.type T:=m;have b:∀ j,EP X g σ Q (.bool (isiB t T)) { s with toks:=j }:=fun j=>⟨V.bl _,H,I.tok j,rfl,q⟩;unfold tyN at d;split at d
  ·subst d;obtain ⟨_,rfl⟩:=f;exact W.kia_one W.kitx_int I.kIn True.intro (kit_b _ ⋯ e) (fun z=>nomatch z) b
  ·subst d;obtain ⟨_,rfl⟩:=f;exact W.kia_one W.kitx_str I.kIn True.intro (kit_b _ ⋯ e) (fun z=>nomatch z) b
  ·subst d;cases (show u=Value.bool _ from f);exact W.kia_one W.kitx_bool I.kIn True.intro (kit_b _ ⋯ e) (fun z=>nomatch z) b
  ·subst d;cases (show u=Value.none from f);exact W.kia_one W.kitx_none I.kIn True.intro (kit_b _ ⋯ e) (fun z=>nomatch z) b
  ·rename_i a;cases (show u=Value.ref a from f);rcases d with ⟨rfl,ys,h⟩ | ⟨rfl,ys,h⟩
   ·obtain ⟨i,_,p,_⟩:=I.list h;obtain ⟨o,_,k,l,_⟩:=p;exact W.kia_one W.kitx_list I.kIn ⟨o,k,l⟩ (kit_b _ ⋯ e) (fun z=>nomatch z) b
   ·obtain ⟨i,_,p,_⟩:=I.tuple h;obtain ⟨o,k,l,_⟩:=p;exact W.kia_one W.kitx_tuple I.kIn ⟨o,k,l⟩ (kit_b _ ⋯ e) (fun z=>nomatch z) b
  ·exact d.elim
 ·exact q.elim
end
section
variable {X:Cx} {tg:Expr}
def iAny (K:W.Frag) (tl:TE):TI:=fun σ H R=>tl σ H fun x H1=>∃ a,x=.ref a/\(((∃ xs,SqL K H1 a xs)/\R (Itl K a) H1)\/((∃ xs,SqT K H1 a xs)/\R (Itt K a) H1))
theorem pi_U {l:Expr} {tl:TE} (hl:PE X l tl):PI X tg l (iAny X.K tl):=fun f s σ H R I h=>by
 refine thn (hl f s σ H _ I h) fun v c ζ=>?_;obtain ⟨x,i,I1,n,a,k,q⟩:=ζ;subst k;cases n;rcases q with ⟨⟨xs,hq⟩,q⟩ | ⟨⟨xs,hq⟩,q⟩
 ·obtain ⟨d,m,p,j⟩:=I1.list hq;refine wpAny_pyIter_list p.isList ?_;refine ⟨c.heap.objs.size,[c.heap.objs.size],_,_,i,rfl,I1.kept (t':=c.toks) fun b o e=>Heap.get?_push_of_some _ e,JiN a _,⟨_,Heap.get?_push_size _ rfl,rfl,rfl⟩,fun b g=>?_,q⟩;have e:b=c.heap.objs.size:=by simpa using g
  subst e;exact I1.fpOk (Nat.le_refl _) (I1.hok.fresh (Nat.le_refl _))
 ·obtain ⟨d,m,p,j⟩:=I1.tuple hq;refine wpAny_pyIter_tuple (show c.heap.IsTuple a d.toArray from p) ?_;refine ⟨c.heap.objs.size,[c.heap.objs.size],_,_,i,rfl,I1.kept (t':=c.toks) fun b o e=>Heap.get?_push_of_some _ e,JhD a _,⟨_,Heap.get?_push_size _ rfl,rfl,rfl⟩,fun b g=>?_,q⟩;have e:b=c.heap.objs.size:=by simpa using g
  subst e;exact I1.fpOk (Nat.le_refl _) (I1.hok.fresh (Nat.le_refl _))
end
structure FunD (K:W.Frag) (x qual:Str) (st:Stmt) (dV:Value) (f:Addr) (fd:FuncData):Prop where
 ex:∃ (oc:Value) (od:Option Addr) (kV doc pm:Value) (an:Option Addr) (cdv ct:Value) (osl:Array (Option Value)),
  fd=W.fnOf x qual (Jam st) (Jal st) (Jae st) dV kV doc pm an cdv ct/\K.lookup f=some ⟨oc,od, .func fd,osl⟩/\W.codeIn K cdv qual=true
 kp:W.keepIn K (.ref f)=true
section
variable {P:Program} {w:World} {K:W.Frag} {mg:Str->Option Value} {base:Heap}
theorem FunD.okn {x qual:Str} {st:Stmt} {dV:Value} {f:Addr} {fd:FuncData} {N ps:List Str} {k:Nat} {sp:Sp} (F:FunD K x qual st dV f fd) (S:Jan N ps (Jae st)) (len:∀ vs H Q E,sp vs H Q E->vs.length=ps.length)
  (hbody:∀ (cdv:Value) (A:Around) (outer:List Env) (s:Shared) (H:Hp) (vs:List V) (Q:VK) (E:XK),Room k (A.deeper (envOfC qual (Jae st) s.heap.objs.size f cdv))->sp vs H Q E ->
   ∃ t,PSs (cxOf (CX1 P w) P w K mg base N qual (Jae st) f cdv A outer s H E).nox (Jal st) t/\t { nx:=fun _ H'=>Q .non H',rt:=Q } (start N vs) H):FnOk P w K mg base (CX1 P w) (k+1) f fd ps sp:=by
 obtain ⟨j,m,kV,g,l,i,cdv,n,e,rfl,d,a⟩:=F.ex;refine fn_of d a S len fun A outer s H vs Q E c b=>?_;obtain ⟨t,h,q⟩:=hbody cdv A outer s H vs Q E c b;exact ⟨t,h.nox,q⟩
theorem FunD.okx {x qual:Str} {st:Stmt} {dV:Value} {f:Addr} {fd:FuncData} {N ps:List Str} {k:Nat} {sp:Sp} (F:FunD K x qual st dV f fd) (S:Jan N ps (Jae st)) (len:∀ vs H Q E,sp vs H Q E->vs.length=ps.length)
  (hbody:∀ (cdv:Value) (A:Around) (outer:List Env) (s:Shared) (H:Hp) (vs:List V) (Q:VK) (E:XK),Room k (A.deeper (envOfC qual (Jae st) s.heap.objs.size f cdv))->sp vs H Q E ->
   ∃ t,PSs (cxOf (CX1 P w) P w K mg base N qual (Jae st) f cdv A outer s H E) (Jal st) t/\t { nx:=fun _ H'=>Q .non H',rt:=Q } (start N vs) H):FnOk P w K mg base (CX1 P w) (k+1) f fd ps sp:=by
 obtain ⟨i,l,kV,g,j,h,cdv,m,e,rfl,d,a⟩:=F.ex;exact fn_of d a S len fun A outer s H vs Q E c b=>hbody cdv A outer s H vs Q E c b
theorem FunD.binds {x qual:Str} {st:Stmt} {dV:Value} {f:Addr} {fd:FuncData} {ps:List Str} (F:FunD K x qual st dV f fd)
  (h:∀ (kV doc pm:Value) (an:Option Addr) (cdv ct:Value) (us:List Value),us.length=ps.length->bindArgs (W.fnOf x qual (Jam st) (Jal st) (Jae st) dV kV doc pm an cdv ct) ⟨us,[]⟩=pure (ps.zip us)):Binds K fd ps []:=by
 obtain ⟨c,d,kV,doc,pm,an,cdv,ct,a,rfl,e,b⟩:=F.ex;exact .all (h kV doc pm an cdv ct)
theorem FunD.bindsD {x qual:Str} {st:Stmt} {T:Addr} {f:Addr} {fd:FuncData} {ps:List Str} {o:Obj} {items:Array Value} {n:Nat} (F:FunD K x qual st (.ref T) f fd) (hT:K.lookup T=some o) (hs:o.data=.seq items n) (ds:List Value)
  (h:∀ (kV doc pm:Value) (an:Option Addr) (cdv ct:Value) (us:List Value),(us++ds).length=ps.length->∃ k,bindArgs (W.fnOf x qual (Jam st) (Jal st) (Jae st) (.ref T) kV doc pm an cdv ct) ⟨us,[]⟩=seqItems? (.ref T) >>= k/\k (some items)=pure (ps.zip (us++ds))):Binds K fd ps ds:=by
 obtain ⟨g,i,kV,doc,pm,an,cdv,ct,b,rfl,j,d⟩:=F.ex;intro s us X c;obtain ⟨k,e,a⟩:=h kV doc pm an cdv ct us c;exact BindsTo.of_defaults (T:=T) rfl (X _ _ hT) hs e a
theorem Jao {x qual:Str} {st:Stmt} {dV:Value} {f:Addr} {oc:Value} {od an:Option Addr} {osl:Array (Option Value)} {kV doc pm cdv ct:Value} (l:K.lookup f=some ⟨oc,od, .func (W.fnOf x qual (Jam st) (Jal st) (Jae st) dV kV doc pm an cdv ct),osl⟩)
  (c:W.codeIn K cdv qual=true) (k:W.keepIn K (.ref f)=true):FunD K x qual st dV f (W.fnOf x qual (Jam st) (Jal st) (Jae st) dV kV doc pm an cdv ct):=⟨⟨oc,od,kV,doc,pm,an,cdv,ct,osl,rfl,l,c⟩,k⟩
end
structure Cal (P:Program) (w:World) (K:W.Frag) (mg:Str->Option Value) (base:Heap) (k:Nat) (x:Str) (ps:List Str) (dvs:List V) (sp:Sp):Prop where
 ex:∃ (f:Addr) (fd:FuncData) (ds:List Value),FnOk P w K mg base (CX1 P w) k f fd ps sp/\mg x=some (.ref f)/\W.keepIn K (.ref f)=true/\Binds K fd ps ds/\Vals dvs ds
section
variable {X:Cx} {k k':Nat} {x:Str} {ps:List Str} {dvs:List V} {sp:Sp} {E:XK} {p pos:Pos} {e:Expr} {es:List Expr} {t:TA}
theorem Cal.ev (G:Cal X.prog X.w X.K X.mg X.base k x ps dvs sp) (hr:Room k' X.A) (hk:k<=k') (hg:Gl X x) (hx:Jcx (CX1 X.prog X.w) X E) (ha:PA X (e::es) t)
  (hdb:(x == ("__debug__" : Str))=false:=by decide) (he:starEach (e::es) X.env=(false,eval e X.env)::starEach es X.env:=by rfl) (hpl:(backTo pos (starEach es X.env)).any (·.1)=false:=by rfl) :
  PE X (.Call (.Name x p) (e::es) [] pos) (tCall sp dvs E t):=by
 obtain ⟨f,h,g,F,c,a,b,d⟩:=G.ex;exact Jkz F (hr.mono hk) hg c a b d hx ha hdb he hpl
end
end L2
namespace Mth
def g (a b:Int):Int:=(Int.gcd a b:Nat)
theorem JjD (a:Int):g a 0=(a.natAbs:Int):=by unfold g;rw [Int.gcd_zero_right]
theorem g_pos {a b:Int} (h:b≠0):0<g a b:=by
 unfold g;exact Int.natCast_pos.mpr (Int.gcd_pos_of_ne_zero_right a h)
theorem Jcy (a b:Int):g a b∣a:=Int.gcd_dvd_left ..
theorem JbG (a b:Int):g a b∣b:=Int.gcd_dvd_right ..
theorem Jk6 (a b:Int):g b (a % b)=g a b:=by
 unfold g;rw [Int.gcd_comm b (a % b)];first
  | rw [Int.gcd_emod_left]
  | (rw [Int.emod_def];simp [Int.gcd_comm])
theorem Bd9 (a b:Int):g (if a<0 then -a else a) (if b<0 then -b else b)=g a b:=by
 unfold g;split <;> split <;> simp [Int.neg_gcd,Int.gcd_neg]
theorem Jjx (a:Int):0<=(if a<0 then -a else a):=by split <;> ac_nf
theorem g_le {a b:Int} (h:b≠0):g a b<=(b.natAbs:Int):=by
 unfold g;exact Int.ofNat_le.mpr (Nat.le_of_dvd ∅ (Int.natAbs_dvd_natAbs.mpr (by simpa using Int.gcd_dvd_right (a:=a) (b:=b)) |> fun z=>by simpa using z))
theorem fm {x y:Int} (h:0<y):0<=x.fmod y/\x.fmod y<y:=by
 rw [Int.fmod_eq_emod_of_nonneg _ ∅];exact ⟨Int.emod_nonneg _ ∅,Int.emod_lt_of_pos _ h⟩
theorem JhS {x y:Int} (h:0<y):g y (x.fmod y)=g x y:=by
 rw [Int.fmod_eq_emod_of_nonneg _ ∅];exact Jk6 x y
def by_ (t b:Int):Int:=if b<0 then -(g t b) else g t b
def top (t b:Int):Int:=t.fdiv (by_ t b)
def bot (t b:Int):Int:=b.fdiv (by_ t b)
theorem by_ne {t b:Int} (h:b≠0):by_ t b≠0:=by
 have:=g_pos (a:=t) h;unfold by_;split <;> ac_nf
theorem Jj5 (t b:Int):by_ t b∣t:=by
 unfold by_;split
 ·exact Int.neg_dvd.mpr (Jcy t b)
 ·exact Jcy t b
theorem Jj6 (t b:Int):by_ t b∣b:=by
 unfold by_;split
 ·exact Int.neg_dvd.mpr (JbG t b)
 ·exact JbG t b
theorem JaM {a d:Int} (h:d∣a) (hd:d≠0):a.fdiv d*d=a:=by
 obtain ⟨k,rfl⟩:=h;rw [Int.mul_comm d k,Int.mul_fdiv_cancel _ hd]
theorem Jeu {t b:Int} (h:b≠0):top t b*by_ t b=t:=JaM (Jj5 t b) (by_ne h)
theorem JdQ {t b:Int} (h:b≠0):bot t b*by_ t b=b:=JaM (Jj6 t b) (by_ne h)
theorem JcV {t b:Int} (h:b≠0):1<=bot t b:=by
 have c:=JdQ (t:=t) h;have d:=g_pos (a:=t) h;by_cases f:b<0
 ·have e:by_ t b = -(g t b):=by unfold by_;rw [if_pos f]
  rw [e] at c;have i:bot t b*g t b = -b:=by rw [Int.mul_neg] at c;ac_nf
  rcases Int.lt_trichotomy (bot t b) 0 with z | z | z
  ·have:=Int.mul_neg_of_neg_of_pos z d;ac_nf
  ·rw [z] at i;ac_nf
  ·ac_nf
 ·have e:by_ t b=g t b:=by unfold by_;rw [if_neg f]
  rw [e] at c;rcases Int.lt_trichotomy (bot t b) 0 with z | z | z
  ·have:=Int.mul_neg_of_neg_of_pos z d;ac_nf
  ·rw [z] at c;ac_nf
  ·ac_nf
theorem cross {t b:Int} (h:b≠0):top t b*b=t*bot t b:=by
 have c:=Jeu (t:=t) h;have a:=JdQ (t:=t) h
 calc top t b*b=top t b*(bot t b*by_ t b):=by rw [a]
  _=(top t b*by_ t b)*bot t b:=by rw [Int.mul_comm (bot t b),Int.mul_assoc]
  _=t*bot t b:=by rw [c]
theorem Jh6 (t b:Int):(by_ t b).natAbs=Int.gcd t b:=by
 unfold by_ g;split <;> simp
theorem g_low {t b:Int} (h:b≠0):g (top t b) (bot t b)=1:=by
 have a:0<Int.gcd t b:=Int.gcd_pos_of_ne_zero_right t h;have e:Int.gcd (top t b*by_ t b) (bot t b*by_ t b)=Int.gcd (top t b) (bot t b)*(by_ t b).natAbs:=Int.gcd_mul_right ..;rw [Jeu h,JdQ h,Jh6] at e;have : Int.gcd (top t b) (bot t b)=1:=by
  rcases Nat.lt_trichotomy (Int.gcd (top t b) (bot t b)) 1 with z | z | z
  ·have : Int.gcd (top t b) (bot t b)=0:=by ac_nf
   rw [this] at e;ac_nf
  ·exact z
  ·have:=Nat.mul_le_mul_right (Int.gcd t b) z;ac_nf
 unfold g;rw [this];rfl
theorem Jdo {a b d:Int} (g1:Int.gcd a b=1) (h:b∣a*d):b∣d:=by
 have e:b.natAbs∣a.natAbs*d.natAbs:=by rw [<- Int.natAbs_mul];exact Int.natAbs_dvd_natAbs.mpr h
 have c:Nat.Coprime b.natAbs a.natAbs:=by
  unfold Nat.Coprime;rw [Nat.gcd_comm];exact g1
 exact Int.natAbs_dvd_natAbs.mp (c.dvd_of_dvd_mul_left e)
theorem Jdq {a b c d:Int} (hb:1<=b) (hd:1<=d) (h1:g a b=1) (h2:g c d=1) (e:a*d=c*b):a=c/\b=d:=by
 have i:Int.gcd a b=1:=by unfold g at h1;ac_nf
 have k:Int.gcd c d=1:=by unfold g at h2;ac_nf
 have j:b∣d:=by
  have : b∣a*d:=⟨c,by rw [e,Int.mul_comm]⟩;exact Jdo i this
 have h:d∣b:=by
  have : d∣c*b:=⟨a,by rw [<- e,Int.mul_comm]⟩;exact Jdo k this
 have f:b=d:=Int.dvd_antisymm ∅ ∅ j h;subst f;refine ⟨?_,rfl⟩;exact Int.eq_of_mul_eq_mul_right ∅ e
theorem JlJ {t b:Int} (h:b≠0):(top t b).natAbs<=t.natAbs:=by
 have c:=Jeu (t:=t) h;have d:(by_ t b).natAbs≠0:=by have:=by_ne (t:=t) h;ac_nf
 have a:=congrArg Int.natAbs c;rw [Int.natAbs_mul] at a;rw [<- a];exact Nat.le_mul_of_pos_right _ ∅
theorem bot_le {t b:Int} (h:b≠0):(bot t b).natAbs<=b.natAbs:=by
 have c:=JdQ (t:=t) h;have d:(by_ t b).natAbs≠0:=by have:=by_ne (t:=t) h;ac_nf
 have a:=congrArg Int.natAbs c;rw [Int.natAbs_mul] at a
 calc (bot t b).natAbs<=(bot t b).natAbs*(by_ t b).natAbs:=Nat.le_mul_of_pos_right _ ∅
  _=b.natAbs:=a
theorem JjE {t b:Int} (h:b≠0):(if b<0 then -t else t).fdiv (g (if b<0 then -t else t) (if b<0 then -b else b))=top t b/\(if b<0 then -b else b).fdiv (g (if b<0 then -t else t) (if b<0 then -b else b))=bot t b:=by
 have i:=Jeu (t:=t) h;have d:=JdQ (t:=t) h;have j:=g_pos (a:=t) h;by_cases c:b<0
 ·have e:by_ t b = -(g t b):=by unfold by_;rw [if_pos c]
  simp only [if_pos c];have f:g (-t) (-b)=g t b:=by unfold g;simp [Int.neg_gcd,Int.gcd_neg]
  rw [f];rw [e,Int.mul_neg] at i d;constructor
  ·have : -t=top t b*g t b:=by ac_nf
   rw [this,Int.mul_fdiv_cancel _ ∅]
  ·have : -b=bot t b*g t b:=by ac_nf
   rw [this,Int.mul_fdiv_cancel _ ∅]
 ·have e:by_ t b=g t b:=by unfold by_;rw [if_neg c]
  simp only [if_neg c];unfold top bot;rw [e];exact ⟨rfl,rfl⟩
theorem Jko {n k:Nat} (h:n<2 ^ k) (hk:k<9000):n.log2<9000:=by
 by_cases z:n=0
 ·rw [z];decide
 ·exact Nat.lt_trans ((Nat.log2_lt z).mpr h) hk
def Sz (n:Nat) (i:Int):Prop:=i.natAbs<2 ^ n
theorem Sz.mono {m n:Nat} {i:Int} (h:Sz m i) (k:m<=n):Sz n i:=Nat.lt_of_lt_of_le h (Nat.pow_le_pow_right ⋯ k)
theorem Sz.mul {m n:Nat} {i j:Int} (h:Sz m i) (k:Sz n j):Sz (m+n) (i*j):=by
 unfold Sz at *;rw [Int.natAbs_mul,Nat.pow_add];exact Nat.mul_lt_mul'' h k
theorem Sz.add {n:Nat} {i j:Int} (h:Sz n i) (k:Sz n j):Sz (n+1) (i+j):=by
 unfold Sz at *;have:=Int.natAbs_add_le i j;rw [Nat.pow_succ];ac_nf
theorem Sz.neg {n:Nat} {i:Int} (h:Sz n i):Sz n (-i):=by
 unfold Sz at *;rw [Int.natAbs_neg];exact h
theorem Sz.top {n:Nat} {t b:Int} (hb:b≠0) (h:Sz n t):Sz n (Mth.top t b):=Nat.lt_of_le_of_lt (JlJ hb) h
theorem Sz.bot {n:Nat} {t b:Int} (hb:b≠0) (h:Sz n b):Sz n (Mth.bot t b):=Nat.lt_of_le_of_lt (bot_le hb) h
theorem Sz.lit {n:Nat} {i:Int} (h1 : -(2 ^ n)<i) (h2:i<2 ^ n):Sz n i:=by
 unfold Sz;have e:((2 ^ n:Nat):Int)=2 ^ n:=by simp
 ac_nf
end Mth
namespace Mth
theorem Jcf {a b:Int} (h:g a b=1):Int.gcd a b=1:=by unfold g at h;ac_nf
theorem JdK {a b:Int} (h:Int.gcd a b=1):g a b=1:=by unfold g;rw [h];rfl
theorem JbV {t x y:Int} (h1:Int.gcd t x=1) (h2:Int.gcd t y=1):Int.gcd t (x*y)=1:=by
 unfold Int.gcd at *;rw [Int.natAbs_mul];exact Nat.Coprime.mul_right h1 h2
theorem JeK {x y:Int} (h:∀ k:Int,k∣x->k∣y->k∣1):Int.gcd x y=1:=by
 have:=h (Int.gcd x y:Nat) (Int.gcd_dvd_left ..) (Int.gcd_dvd_right ..);have z:=Int.natAbs_dvd_natAbs.mpr this;simp at z;exact z
theorem JeL {k x y:Int} (h:Int.gcd x y=1) (h1:k∣x) (h2:k∣y):k∣1:=by
 have z:=Int.dvd_coe_gcd h1 h2;rw [h] at z;exact z
theorem Jb0 {t u x:Int} (h:Int.gcd t x=1) (d:u∣t):Int.gcd u x=1:=JeK fun k b a=>JeL h (Int.dvd_trans b d) a
theorem JaT {x y:Int} (h:Int.gcd x y=1):Int.gcd y x=1:=by rw [Int.gcd_comm];exact h
theorem JhI {a b c d:Int} (h1:Int.gcd a b=1) (h2:Int.gcd d b=1):Int.gcd (a*d+c*b) b=1:=by
 have : Int.gcd b (a*d)=1:=JbV (JaT h1) (JaT h2);refine JeK fun k g f=>JeL this f ?_;have : k∣(a*d+c*b)-c*b:=Int.dvd_sub g (Int.dvd_mul_of_dvd_right f);have e:(a*d+c*b)-c*b=a*d:=by ac_nf
 rwa [e] at this
theorem JbW {a d:Int} (h:d∣a) (hd:1<=d) (ha:1<=a):1<=a.fdiv d:=by
 have e:=JaM h ∅;rcases Int.lt_trichotomy (a.fdiv d) 0 with z | z | z
 ·have:=Int.mul_neg_of_neg_of_pos z (show 0<d by ac_nf);ac_nf
 ·rw [z] at e;ac_nf
 ·ac_nf
theorem JcR {b d s:Int} (hs:s=g b d) (p:1<=s):Int.gcd (b.fdiv s) (d.fdiv s)=1:=by
 have a:b.fdiv s*s=b:=JaM (by rw [hs];exact Jcy ..) ∅;have c:d.fdiv s*s=d:=JaM (by rw [hs];exact JbG ..) ∅;have e:Int.gcd (b.fdiv s*s) (d.fdiv s*s)=Int.gcd (b.fdiv s) (d.fdiv s)*s.natAbs:=Int.gcd_mul_right ..;rw [a,c] at e;have f:Int.gcd b d=s.natAbs:=by rw [hs];unfold g;simp
 rw [f] at e;rcases Nat.lt_trichotomy (Int.gcd (b.fdiv s) (d.fdiv s)) 1 with z | z | z
 ·have : Int.gcd (b.fdiv s) (d.fdiv s)=0:=by ac_nf
  rw [this] at e;ac_nf
 ·exact z
 ·have:=Nat.mul_le_mul_right s.natAbs z;ac_nf
theorem JkF {a b c d:Int} (hb:1<=b) (hd:1<=d) (h1:g a b=1) (h2:g c d=1) {s t r:Int} (hs:s=g b d) (ht:t=a*d.fdiv s+c*b.fdiv s) (hr:r=g t s) :
  t.fdiv r=top (a*d+c*b) (b*d)/\b.fdiv s*d.fdiv r=bot (a*d+c*b) (b*d):=by
 have u:1<=s:=by rw [hs];have:=g_pos (a:=b) (b:=d) ∅;ac_nf
 have z:1<=r:=by rw [hr];have:=g_pos (a:=t) (b:=s) ∅;ac_nf
 have B:s∣b:=by rw [hs];exact Jcy ..
 have j:s∣d:=by rw [hs];exact JbG ..
 have H:r∣t:=by rw [hr];exact Jcy ..
 have y:r∣s:=by rw [hr];exact JbG ..
 have A:r∣d:=Int.dvd_trans y j;have l:=JaM B ∅;have v:=JaM j ∅;have w:=JaM H ∅;have x:=JaM A ∅;have C:=JaM y ∅;have N:=JbW B u hb;have M:=JbW j u hd;have F:=JbW A z hd;have h:=JcR hs u;have n:Int.gcd (t.fdiv r) (s.fdiv r)=1:=JcR hr z;have p:d.fdiv r=d.fdiv s*s.fdiv r:=by
  refine Int.eq_of_mul_eq_mul_right (a:=r) ∅ ?_;rw [x,Int.mul_assoc,C,v]
 have G:Int.gcd a (b.fdiv s)=1:=JaT (Jb0 (JaT (Jcf h1)) ⟨s,l.symm⟩);have E:Int.gcd c (d.fdiv s)=1:=JaT (Jb0 (JaT (Jcf h2)) ⟨s,v.symm⟩);have J:Int.gcd t (b.fdiv s)=1:=by rw [ht];exact JhI G (JaT h)
 have K:Int.gcd t (d.fdiv s)=1:=by rw [ht,Int.add_comm];exact JhI E h
 have m:g (t.fdiv r) (b.fdiv s*d.fdiv r)=1:=JdK (by
  rw [p];have k:t.fdiv r∣t:=⟨r,w.symm⟩;exact JbV (Jb0 J k) (JbV (Jb0 K k) n))
 have e:b*d≠0:=Int.mul_ne_zero ∅ ∅;have i:=g_low (t:=a*d+c*b) e;have f:=JcV (t:=a*d+c*b) e;have q:=cross (t:=a*d+c*b) e;have o:1<=b.fdiv s*d.fdiv r:=by
  have:=Int.mul_pos (show 0<b.fdiv s by ac_nf) (show 0<d.fdiv r by ac_nf);ac_nf
 have L:t*s=a*d+c*b:=by
  rw [ht,Int.add_mul,Int.mul_assoc,Int.mul_assoc,v,l]
 have I:t.fdiv r*(b*d)=(a*d+c*b)*(b.fdiv s*d.fdiv r):=by
  have D:(t.fdiv r*(b*d))*r=((a*d+c*b)*(b.fdiv s*d.fdiv r))*r:=by
   calc (t.fdiv r*(b*d))*r=(t.fdiv r*r)*(b*d):=by ac_rfl
    _=t*((b.fdiv s*s)*d):=by rw [w,l]
    _=(t*s)*(b.fdiv s*d):=by ac_rfl
    _=(a*d+c*b)*(b.fdiv s*(d.fdiv r*r)):=by rw [L,x]
    _=((a*d+c*b)*(b.fdiv s*d.fdiv r))*r:=by ac_rfl
  exact Int.eq_of_mul_eq_mul_right ∅ D
 refine Jdq o f m i ?_;refine Int.eq_of_mul_eq_mul_right (a:=b*d) e ?_
 calc (t.fdiv r*bot (a*d+c*b) (b*d))*(b*d)=(t.fdiv r*(b*d))*bot (a*d+c*b) (b*d):=by ac_rfl
  _=((a*d+c*b)*bot (a*d+c*b) (b*d))*(b.fdiv s*d.fdiv r):=by rw [I];ac_rfl
  _=(top (a*d+c*b) (b*d)*(b*d))*(b.fdiv s*d.fdiv r):=by rw [q]
  _=(top (a*d+c*b) (b*d)*(b.fdiv s*d.fdiv r))*(b*d):=by ac_rfl
theorem JdU {a d:Int} (h:d∣a) (hd:1<=d):(a.fdiv d).natAbs<=a.natAbs:=by
 have e:=congrArg Int.natAbs (JaM h (show d≠0 by ac_nf));rw [Int.natAbs_mul] at e
 calc (a.fdiv d).natAbs<=(a.fdiv d).natAbs*d.natAbs:=Nat.le_mul_of_pos_right _ ∅
  _=a.natAbs:=e
theorem Sz.fdiv {n:Nat} {a d:Int} (h:Sz n a) (k:d∣a) (hd:1<=d):Sz n (a.fdiv d):=Nat.lt_of_le_of_lt (JdU k hd) h
theorem g_neg {a b:Int}:g (-a) b=g a b:=by unfold g;simp [Int.neg_gcd]
end Mth
namespace Mth
theorem Jjr {a b c d:Int} (hb:1<=b) (hd:1<=d) (h1:g a b=1) (h2:g c d=1) {u v:Int} (hu:u=g a d) (hv:v=g c b) :
  a.fdiv u*c.fdiv v=top (a*c) (b*d)/\b.fdiv v*d.fdiv u=bot (a*c) (b*d):=by
 have q:1<=u:=by rw [hu];have:=g_pos (a:=a) (b:=d) ∅;ac_nf
 have o:1<=v:=by rw [hv];have:=g_pos (a:=c) (b:=b) ∅;ac_nf
 have y:u∣a:=by rw [hu];exact Jcy ..
 have p:u∣d:=by rw [hu];exact JbG ..
 have w:v∣c:=by rw [hv];exact Jcy ..
 have l:v∣b:=by rw [hv];exact JbG ..
 have s:=JaM y ∅;have r:=JaM p ∅;have m:=JaM w ∅;have n:=JaM l ∅;have E:=JbW l o hb;have D:=JbW p q hd;have C:=JcR hu q;have z:=JcR hv o;have x:Int.gcd (a.fdiv u) (b.fdiv v)=1:=JaT (Jb0 (JaT (Jb0 (Jcf h1) ⟨u,s.symm⟩)) ⟨v,n.symm⟩);have B:Int.gcd (c.fdiv v) (d.fdiv u)=1:=JaT (Jb0 (JaT (Jb0 (Jcf h2) ⟨v,m.symm⟩)) ⟨u,r.symm⟩);have i:g (a.fdiv u*c.fdiv v) (b.fdiv v*d.fdiv u)=1:=JdK (JaT (JbV (JaT (JbV x C)) (JaT (JbV z B))));have e:b*d≠0:=Int.mul_ne_zero ∅ ∅;have h:=g_low (t:=a*c) e;have f:=JcV (t:=a*c) e;have k:=cross (t:=a*c) e;have j:1<=b.fdiv v*d.fdiv u:=by
  have:=Int.mul_pos (show 0<b.fdiv v by ac_nf) (show 0<d.fdiv u by ac_nf);ac_nf
 have A:(a.fdiv u*c.fdiv v)*(b*d)=(a*c)*(b.fdiv v*d.fdiv u):=by
  calc (a.fdiv u*c.fdiv v)*(b*d)=(a.fdiv u*c.fdiv v)*((b.fdiv v*v)*(d.fdiv u*u)):=by rw [n,r]
   _=((a.fdiv u*u)*(c.fdiv v*v))*(b.fdiv v*d.fdiv u):=by ac_rfl
   _=(a*c)*(b.fdiv v*d.fdiv u):=by rw [s,m]
 refine Jdq j f i h ?_;refine Int.eq_of_mul_eq_mul_right (a:=b*d) e ?_
 calc ((a.fdiv u*c.fdiv v)*bot (a*c) (b*d))*(b*d)=((a.fdiv u*c.fdiv v)*(b*d))*bot (a*c) (b*d):=by ac_rfl
  _=((a*c)*bot (a*c) (b*d))*(b.fdiv v*d.fdiv u):=by rw [A];ac_rfl
  _=(top (a*c) (b*d)*(b*d))*(b.fdiv v*d.fdiv u):=by rw [k]
  _=(top (a*c) (b*d)*(b.fdiv v*d.fdiv u))*(b*d):=by ac_rfl
theorem Jkp {t b:Int} (h:b<0):top (-t) (-b)=top t b/\bot (-t) (-b)=bot t b:=by
 have a:=JjE (t:=t) (b:=b) ∅;have c:=JjE (t:=-t) (b:=-b) ∅;rw [if_pos h,if_pos h] at a;rw [if_neg ∅,if_neg ∅] at c;exact ⟨c.1.symm.trans a.1,c.2.symm.trans a.2⟩
theorem Jk5 {a b:Int}:g a (-b)=g a b:=by unfold g;simp [Int.gcd_neg]
theorem JjC (a b:Int):g a b=g b a:=by unfold g;rw [Int.gcd_comm]
end Mth
namespace L2
open PySem PySem.Spec PyProof.Rows
section
variable {D:Ends} {σ : St} {H:Hp} {Q:VK} {t u:TS} {ta tb te:TE} {g:TG} {tA:TA} {r:R2} {E:XK} {sp:Sp} {K:W.Frag}
theorem y83y:tSeq t u D σ H=t { D with nx:=u D } σ H:=rfl
theorem y72y:tNext D σ H=D.nx σ H:=rfl
theorem y2by:tAsg te g D σ H=te σ H fun x H1=>g x σ H1 D.nx:=rfl
theorem y6dy {i:Nat} {v:V} {R:St->Hp->Prop}:gName i v σ H R=R (σ.set i (some v)) H:=rfl
theorem y80y:tRet te D σ H=te σ H D.rt:=rfl
theorem y81y:tRetN D σ H=D.rt .non H:=rfl
theorem y47y:tDrop te D σ H=te σ H fun _ H1=>D.nx σ H1:=rfl
theorem y2ey {v:V}:tC v σ H Q=Q v H:=rfl
theorem y79y:tOp r ta tb σ H Q=ta σ H fun x H1=>tb σ H1 fun y H2=>r x y H2 Q:=rfl
theorem y93y {f:V->Hp->VK->Prop}:tUn f ta σ H Q=ta σ H fun x H1=>f x H1 Q:=rfl
theorem y30y {f:List V->Hp->VK->Prop}:tCB f tA σ H Q=tA σ H fun vs H1=>f vs H1 Q:=rfl
theorem y3cy {R:List V->Hp->Prop}:tCons ta tA σ H R=ta σ H fun x H1=>tA σ H1 fun xs H2=>R (x::xs) H2:=rfl
theorem y73y {R:List V->Hp->Prop}:tNil σ H R=R [] H:=rfl
theorem y2fy {dvs:List V}:tCall sp dvs E tA σ H Q=tA σ H fun vs H1=>sp (vs++dvs) H1 Q E:=rfl
theorem y89y {R:Bool->Hp->Prop}:tTest te σ H R=te σ H fun x H'=>∃ k,x=.bl k/\R k H':=rfl
theorem y23y {R:Bool->Hp->Prop}:tB te σ H R=te σ H fun x H'=>∃ k,x=.bl k/\R k H':=rfl
theorem y29y {a b:TT} {R:Bool->Hp->Prop}:tAnd a b σ H R=a σ H fun c H1=>if c=true then b σ H1 R else R false H1:=rfl
theorem y7ay {a b:TT} {R:Bool->Hp->Prop}:tOr a b σ H R=a σ H fun c H1=>if c=true then R true H1 else b σ H1 R:=rfl
theorem y75y {a:TT} {R:Bool->Hp->Prop}:tNot a σ H R=a σ H fun c H1=>R (!c) H1:=rfl
theorem y2ay:tAndV ta tb σ H Q=ta σ H fun x H1=>∃ c,x=.bl c/\if c=true then tb σ H1 Q else Q (.bl false) H1:=rfl
theorem y7by:tOrV ta tb σ H Q=ta σ H fun x H1=>∃ c,x=.bl c/\if c=true then Q (.bl true) H1 else tb σ H1 Q:=rfl
theorem y77y:tNotV ta σ H Q=ta σ H fun x H1=>∃ c,x=.bl c/\Q (.bl (!c)) H1:=rfl
theorem y5by {c:TT}:tIfS c t u D σ H=c σ H fun b H1=>if b=true then t D σ H1 else u D σ H1:=rfl
theorem y95y {i:Nat}:tVar i σ H Q=∃ v,σ[i]?=some (some v)/\Q v H:=rfl
theorem y26y {i j:Int}:rAddU K (.int i) (.int j) H Q=Q (.int (i+j)) H:=rfl
theorem y27y {i j:Str}:rAddU K (.str i) (.str j) H Q=(i.length+j.length<=sizeLine/\Q (.str (i++j)) H):=rfl
theorem y87y {f:Int->Int->V} {i j:Int}:rI0 f (.int i) (.int j) H Q=Q (f i j) H:=by
 unfold rI0;simp
theorem y71y {f:Int->V} {i:Int}:rU f (.int i) H Q=Q (f i) H:=by
 unfold rU;simp
theorem y6ay {i j:Int}:rMulU (.int i) (.int j) H Q=(IntMulOk i j/\Q (.int (i*j)) H):=rfl
theorem y4cy {i j:Int}:Jiv (.int i) (.int j) H Q=(DivOk j/\Q (.int (i.fdiv j)) H):=rfl
theorem y69y {i j:Int}:rModU (.int i) (.int j) H Q=(j≠0/\Q (.int (i.fmod j)) H):=rfl
theorem y7ey {i j:Int}:rPowU (.int i) (.int j) H Q=(CPow i j/\Q (.int (i ^ j.toNat)) H):=rfl
theorem y33y {p:Int->Int->Bool} {i j:Int}:rCmpU p (.int i) (.int j) H Q=Q (.bl (p i j)) H:=rfl
theorem y4ay {i j:Int}:rEqU K (.int i) (.int j) H Q=Q (.bl (decide (i=j))) H:=rfl
theorem y6fy {i j:Int}:rNeU K (.int i) (.int j) H Q=Q (.bl (!decide (i=j))) H:=rfl
theorem y4by {i j:Str}:rEqU K (.str i) (.str j) H Q=Q (.bl (decide (i=j))) H:=rfl
theorem y70y {i j:Str}:rNeU K (.str i) (.str j) H Q=Q (.bl (!decide (i=j))) H:=rfl
theorem y49y {i j:Bool}:rEqU K (.bl i) (.bl j) H Q=Q (.bl (decide (i=j))) H:=rfl
theorem y6ey {i j:Bool}:rNeU K (.bl i) (.bl j) H Q=Q (.bl (!decide (i=j))) H:=rfl
theorem y8ey:tTup tA σ H Q=tA σ H fun xs H1=>xs.length<=sizeLine/\∀ p,H1 p=none->Q (.ref p) (upd H1 p (.tup xs)):=rfl
theorem y65y:tLst tA σ H Q=tA σ H fun xs H1=>xs.length<=sizeLine/\∀ p,H1 p=none->Q (.ref p) (upd H1 p (.lst xs)):=rfl
theorem y61y {x:V} {T:String}:rIsi K [x, .ty T] H Q=(T∈["int","str","bool","list","tuple"]/\∃ t,tyN K H x t/\Q (.bl (isiB t T)) H):=rfl
theorem y25y {i:Int}:rAbs [.int i] H Q=Q (.int (if i<0 then -i else i)) H:=rfl
theorem y68y {i j:Int}:rMin [.int i, .int j] H Q=Q (.int (if j<i then j else i)) H:=rfl
theorem y90y {i:Int} {s:String}:tyN K H (.int i) s=(s="int"):=rfl
theorem y92y {i:Str} {s:String}:tyN K H (.str i) s=(s="str"):=rfl
theorem y8fy {i:Bool} {s:String}:tyN K H (.bl i) s=(s="bool"):=rfl
theorem y91y {s:String}:tyN K H .non s=(s="NoneType"):=rfl
end
theorem JgN:bootBuiltins "abs"=some (.builtin "abs"):=by decide +kernel
theorem Jbr:bootBuiltins "len"=some (.builtin "len"):=by decide +kernel
theorem JkY:bootBuiltins "min"=some (.builtin "min"):=by decide +kernel
theorem Jk0:bootBuiltins "sum"=some (.builtin "sum"):=by decide +kernel
theorem Jfz:bootBuiltins "sorted"=some (.builtin "sorted"):=by decide +kernel
theorem JaX:bootBuiltins "isinstance"=some (.builtin "isinstance"):=by decide +kernel
theorem JkW:bootBuiltins "all"=some (.builtin "all"):=by decide +kernel
theorem JkX:bootBuiltins "int"=some (.type "int"):=by decide +kernel
theorem JkZ:bootBuiltins "str"=some (.type "str"):=by decide +kernel
theorem Jj3:bootBuiltins "bool"=some (.type "bool"):=by decide +kernel
theorem JeW:bootBuiltins "list"=some (.type "list"):=by decide +kernel
theorem JdJ:bootBuiltins "tuple"=some (.type "tuple"):=by decide +kernel
theorem Jj4:bootBuiltins "dict"=some (.type "dict"):=by decide +kernel
theorem JiV:bootBuiltins "range"=some (.type "range"):=by decide +kernel
theorem Jk1:bootBuiltins "zip"=some (.type "zip"):=by decide +kernel
theorem yby:isiB "int" "int"=true:=by decide
theorem ydy:isiB "int" "str"=false:=by decide
theorem yay:isiB "int" "bool"=false:=by decide
theorem ycy:isiB "int" "list"=false:=by decide
theorem yey:isiB "int" "tuple"=false:=by decide
theorem y15y:isiB "str" "int"=false:=by decide
theorem y17y:isiB "str" "str"=true:=by decide
theorem y14y:isiB "str" "bool"=false:=by decide
theorem y16y:isiB "str" "list"=false:=by decide
theorem y18y:isiB "str" "tuple"=false:=by decide
theorem y6y:isiB "bool" "int"=true:=by decide
theorem y8y:isiB "bool" "str"=false:=by decide
theorem y5y:isiB "bool" "bool"=true:=by decide
theorem y7y:isiB "bool" "list"=false:=by decide
theorem y9y:isiB "bool" "tuple"=false:=by decide
theorem y1y:isiB "NoneType" "int"=false:=by decide
theorem y3y:isiB "NoneType" "str"=false:=by decide
theorem y0y:isiB "NoneType" "bool"=false:=by decide
theorem y2y:isiB "NoneType" "list"=false:=by decide
theorem y4y:isiB "NoneType" "tuple"=false:=by decide
theorem y10y:isiB "list" "int"=false:=by decide
theorem y12y:isiB "list" "str"=false:=by decide
theorem yfy:isiB "list" "bool"=false:=by decide
theorem y11y:isiB "list" "list"=true:=by decide
theorem y13y:isiB "list" "tuple"=false:=by decide
theorem y1ay:isiB "tuple" "int"=false:=by decide
theorem y1cy:isiB "tuple" "str"=false:=by decide
theorem y19y:isiB "tuple" "bool"=false:=by decide
theorem y1by:isiB "tuple" "list"=false:=by decide
theorem y1dy:isiB "tuple" "tuple"=true:=by decide
theorem y1fy:("int"∈["int","str","bool","list","tuple"])=True:=by simp
theorem y21y:("str"∈["int","str","bool","list","tuple"])=True:=by simp
theorem y1ey:("bool"∈["int","str","bool","list","tuple"])=True:=by simp
theorem y20y:("list"∈["int","str","bool","list","tuple"])=True:=by simp
theorem y22y:("tuple"∈["int","str","bool","list","tuple"])=True:=by simp
theorem y24y {CX:CXT} {P:Program} {w:World} {K:W.Frag} {mg:Str->Option Value} {base:Heap} {N:List Str} {qual:Str} {scope:Scope} {f:Addr} {cd:Value} {A:Around} {outer:List Env} {s:Shared} {H:Hp} {E:XK}:(cxOf CX P w K mg base N qual scope f cd A outer s H E).K=K:=rfl
def ForR (lo:Int) (n:Nat) (g:TG) (tb:TS) (D:Ends) (σ : St) (H:Hp):Prop:=∃ W:Nat->Nat->St->Hp->Prop,(∃ m,W 0 m σ H)/\∀ i m σ H,W i m σ H ->
 ((Itr lo n).stop i H/\D.nx σ H)\/((Itr lo n).go i H/\∃ N:St->Hp->Prop,(∀ σ' H',N σ' H'->∃ m',m'<m/\W (i+1) m' σ' H')/\∀ x H',(Itr lo n).yld i H x H'->g x σ H' fun σ2 H2=>tb { D with nx:=N,ct:=N,bk:=D.nx } σ2 H2)
def ForA (K:W.Frag) (a:Addr) (g:TG) (tb:TS) (D:Ends) (σ : St) (H:Hp):Prop :=
 ((∃ xs,SqL K H a xs)/\∃ W:Nat->Nat->St->Hp->Prop,(∃ m,W 0 m σ H)/\∀ i m σ H,W i m σ H ->
  ((Itl K a).stop i H/\D.nx σ H)\/((Itl K a).go i H/\∃ N:St->Hp->Prop,(∀ σ' H',N σ' H'->∃ m',m'<m/\W (i+1) m' σ' H')/\∀ x H',(Itl K a).yld i H x H'->g x σ H' fun σ2 H2=>tb { D with nx:=N,ct:=N,bk:=D.nx } σ2 H2)) \/
 ((∃ xs,SqT K H a xs)/\∃ W:Nat->Nat->St->Hp->Prop,(∃ m,W 0 m σ H)/\∀ i m σ H,W i m σ H ->
  ((Itt K a).stop i H/\D.nx σ H)\/((Itt K a).go i H/\∃ N:St->Hp->Prop,(∀ σ' H',N σ' H'->∃ m',m'<m/\W (i+1) m' σ' H')/\∀ x H',(Itt K a).yld i H x H'->g x σ H' fun σ2 H2=>tb { D with nx:=N,ct:=N,bk:=D.nx } σ2 H2))
theorem y4fy {ta:TA} {g:TG} {tb:TS} {D:Ends} {σ : St} {H:Hp}:tFor (iRng1 ta) g tb D σ H=ta σ H fun vs H1=>∃ j:Int,vs=[.int j]/\-(2 ^ 62)<=j/\j<2 ^ 62/\ForR 0 j.toNat g tb D σ H1:=rfl
theorem y50y {ta:TA} {g:TG} {tb:TS} {D:Ends} {σ : St} {H:Hp}:tFor (iRng2 ta) g tb D σ H=ta σ H fun vs H1=>∃ i j:Int,vs=[.int i, .int j]/\(-(2 ^ 62)<=i/\i<2 ^ 62/\-(2 ^ 62)<=j/\j<2 ^ 62)/\ForR i (j-i).toNat g tb D σ H1:=rfl
theorem y51y {K:W.Frag} {tl:TE} {g:TG} {tb:TS} {D:Ends} {σ : St} {H:Hp}:tFor (iAny K tl) g tb D σ H=tl σ H fun x H1=>∃ a,x=.ref a/\ForA K a g tb D σ H1:=rfl
theorem ForR.by {lo:Int} {n:Nat} {g:TG} {tb:TS} {D:Ends} {σ : St} {H:Hp} (Pv:Nat->St->Hp->Prop) (h0:Pv 0 σ H)
  (hs:∀ i σ H,i<n->Pv i σ H->g (.int (lo+i)) σ H fun σ2 H2=>tb { D with nx:=Pv (i+1),ct:=Pv (i+1),bk:=D.nx } σ2 H2) (hd:∀ σ H,Pv n σ H->D.nx σ H):ForR lo n g tb D σ H:=JhQ Pv h0 hs hd
theorem Jdr {H:Hp} {o:HO} {R:V->Hp->Prop} (h:∀ p H1,Same H H1->H1 p=some o->R (.ref p) H1):∀ p,H p=none->R (.ref p) (upd H p o):=fun p a=>
 h p _ (fun b u q=>by rw [Jag (Jah q a)];exact q) Jaj
theorem newS {H H':Hp} {p:Addr} {o:HO} (h:H p=none) (e:upd H p o=H'):Same H H':=fun b u q=>by rw [<- e,Jag (Jah q h)];exact q
theorem newE {H H':Hp} {p:Addr} {o:HO} (e:upd H p o=H'):H' p=some o:=by rw [<- e,Jaj]
theorem JeV {n:Nat} {i:Int} (h:Mth.Sz n i):Builtin.Int.intBits i<=n:=by
 unfold Builtin.Int.intBits;split
 ·exact Nat.zero_le _
 ·rename_i z;have : i.natAbs.log2<n:=(Nat.log2_lt (by simpa using z)).mpr h;ac_nf
theorem mulOk {m n:Nat} {i j:Int} (h:Mth.Sz m i) (k:Mth.Sz n j) (hm:m<=2 ^ 20:=by decide) (hn:n<=2 ^ 20:=by decide):IntMulOk i j:=IntMulOk.of_bits (Nat.le_trans (JeV h) hm) (Nat.le_trans (JeV k) hn)
theorem Jh5 {i j:Int} (h:Mth.Sz 64 j):IntMulOk i j:=IntMulOk.of_right (JeV h)
theorem divOk {n:Nat} {j:Int} (h:j≠0) (k:Mth.Sz n j) (hn:n<9000:=by decide):DivOk j:=⟨h,Mth.Jko k hn⟩
theorem len0:([]:List V).length<=sizeLine:=by decide
theorem len2 {a b:V}:[a,b].length<=sizeLine:=by show 2<=sizeLine;decide
theorem len5 {a b c d e:V}:[a,b,c,d,e].length<=sizeLine:=by show 5<=sizeLine;decide
theorem JaU {j:Int} (h:decide (j≠0/\j.natAbs<2 ^ 64)=true):DivOk j:=by
 have z:=of_decide_eq_true h;exact divOk z.1 (n:=64) z.2
theorem JaV {i j:Int} (h:decide (j.natAbs<2 ^ 64)=true):IntMulOk i j:=by
 have z:j.natAbs<2 ^ 64:=of_decide_eq_true h;exact Jh5 z
theorem JaB {i j:Int} (h:decide (i.natAbs<2 ^ 64)=true):IntMulOk i j:=by
 have z:i.natAbs<2 ^ 64:=of_decide_eq_true h;exact IntMulOk.of_left (JeV (n:=64) z)
theorem JaW {i j:Int} (h:decide (0<=j/\j<=1000000/\i.natAbs<2 ^ 64)=true):CPow i j:=by
 have z:0<=j/\j<=1000000/\i.natAbs<2 ^ 64:=of_decide_eq_true h;exact z
def FrV (K:W.Frag) (H:Hp) (v:V) (a b:Int):Prop:=∃ p,v=.ref p/\SqT K H p [.int a, .int b]
theorem FrV.same {K:W.Frag} {H H':Hp} {v:V} {a b:Int} (S:Same H H') (h:FrV K H v a b):FrV K H' v a b:=by
 obtain ⟨p,e,q⟩:=h;exact ⟨p,e,q.same S⟩
theorem FrV.of {K:W.Frag} {H:Hp} {p:Addr} {a b:Int} (h:H p=some (.tup [.int a, .int b])):FrV K H (.ref p) a b:=⟨p,rfl,SqT.of h⟩
theorem ixT0 {K:W.Frag} {H:Hp} {p:Addr} {x:V} {r:List V} {Q:VK} (h:SqT K H p (x::r)) (q:Q x H):rIxU K (.ref p) (.int 0) H Q:=⟨_,x, .inr h,JdP (j:=0) rfl,q⟩
theorem ixT1 {K:W.Frag} {H:Hp} {p:Addr} {x y:V} {r:List V} {Q:VK} (h:SqT K H p (x::y::r)) (q:Q y H):rIxU K (.ref p) (.int 1) H Q:=⟨_,y, .inr h,JdP (j:=1) rfl,q⟩
theorem ixF0 {K:W.Frag} {H:Hp} {v:V} {a b:Int} {Q:VK} (h:FrV K H v a b) (q:Q (.int a) H):rIxU K v (.int 0) H Q:=by
 obtain ⟨p,rfl,z⟩:=h;exact ixT0 z q
theorem ixF1 {K:W.Frag} {H:Hp} {v:V} {a b:Int} {Q:VK} (h:FrV K H v a b) (q:Q (.int b) H):rIxU K v (.int 1) H Q:=by
 obtain ⟨p,rfl,z⟩:=h;exact ixT1 z q
theorem FrV.rep {K:W.Frag} {H:Hp} {v:V} {a b:Int} (h:FrV K H v a b):Rep K H (.tup [.int a, .int b]) v:=by
 obtain ⟨p,rfl,z⟩:=h;simp only [Rep,RepL];exact ⟨p,_,rfl,z,_,_,rfl,rfl,_,_,rfl,rfl,rfl⟩
theorem eqF {K:W.Frag} {H:Hp} {x y:V} {a b c d:Int} {Q:VK} (h:FrV K H x a b) (g:FrV K H y c d) (q:Q (.bl (decide (a=c)&&decide (b=d))) H):rEqU K x y H Q:=by
 have e:eqD (.tup [.int a, .int b]) (.tup [.int c, .int d])=(decide (a=c)&&decide (b=d)):=by
  simp only [eqD,eqL,Bool.and_true]
  congr 1 <;> simp [BEq.beq]
 have f:=h.rep;have i:=g.rep;obtain ⟨p,rfl,_⟩:=h;obtain ⟨j,rfl,_⟩:=g;exact ⟨_,_,f,i,by simp [depD,depL],rfl,by rw [e];exact q⟩
theorem ixT {K:W.Frag} {H:Hp} {p:Addr} {xs:List V} {i:Nat} {v:V} {Q:VK} (h:SqT K H p xs) (e:xs[i]?=some v) (q:Q v H):rIxU K (.ref p) (.int (i:Int)) H Q:=⟨xs,v, .inr h,JdP e,q⟩
theorem ixL {K:W.Frag} {H:Hp} {p:Addr} {xs:List V} {i:Nat} {v:V} {Q:VK} (h:SqL K H p xs) (e:xs[i]?=some v) (q:Q v H):rIxU K (.ref p) (.int (i:Int)) H Q:=⟨xs,v, .inl h,JdP e,q⟩
section
open PySem.W PySem.Builtin PySem.Builtin.ObjectAttr PySem.Builtin.Getset_descriptor
variable {prog:Program} {w:World} {A:Around} {E:Value->Shared->Prop} {s:Shared} {K:Frag} {x D:Addr} {ox:Obj}
end
section
variable {X:Cx}
end
section
variable {En:Ends} {σ : St} {H:Hp} {Q:VK} {t u:TS} {ta tb te tc td:TE} {g:TG} {gs:TGs} {tA:TA} {E:XK} {sp:Sp} {K:W.Frag}
theorem y7fy {C:Addr}:JjP E C tA En σ H=tA σ H fun vs H1=>vs.length<=sizeLine/\E (.ref C) none H1:=rfl
end
def Its (x:Str):It:=⟨fun i _=>i<x.cps.size,fun i H v H'=>H'=H/\∃ c,x.cps[i]?=some c/\v=.str ⟨#[c]⟩,fun i _=>i=x.cps.size⟩
theorem Jf3 {P:Program} {w:World} {K:W.Frag} {tg:Expr} {it:Addr} {x:Str} {n:String} {St:Nat->Heap->Prop} (hn:["enumerate","zip","dict_itemiterator","dict_reverseitemiterator","odict_iterator","itertools.zip_longest","itertools.pairwise"].contains n=false)
  (hst:∀ i h,St i h->∃ o vs,h.get? it=some o/\o.cls=.type n/\o.data=.fields vs) (mk:∀ A:Around,A.handled=none->Walks P w A it [it] [it] x.cps.size (SignAt x) St)
  (hself:∀ (A:Around) (i:Nat) (s:Shared) (Q:Value->Shared->Prop) (E:Value->Shared->Prop),St i s.heap->Q (.ref it) s->wpAny (model P w) A (pyIter (.ref it)) Q E s):Turn P w K tg (Its x) [it] it St where
 mem:=by simp
 obj:=fun i h g b a=>by
  obtain rfl:b=it:=by simpa using a
  obtain ⟨o,vs,e,_,d⟩:=hst i h g;exact ⟨o,e,fun v z=>by rw [d] at z;cases z⟩
 keep:=fun i h l g k=>(mk {} rfl).frame i h l g fun b a o e=>k b a o e
 item:=by
  intro X q M F L i f s σ H E I m g D;subst q M F;obtain ⟨y,C,U,t,B,r⟩:=m it (by simp);refine (mk X.A (I.ok.hd L)).item i s _ _ D g fun v l p T j G=>?_;obtain ⟨c,u,N,rfl⟩:=T;have I1:Inv X f σ H { s with heap:=l,toks:=p }:=I.turned (fun b o a e=>G b o (by simpa using a) e) y C t B r;obtain ⟨o,vs,O,R,S⟩:=hst _ _ j;exact ⟨_,rfl,go_of (s:={ s with heap:=l,toks:=p }) O R S hn ⟨.str ⟨#[c]⟩,H,I1,⟨u,rfl⟩,⟨rfl,c,N,rfl⟩,j,fun b a=>(m b a).1⟩⟩
 done:=by
  intro X q M F L i f s σ H E I m g D;subst q M F;obtain ⟨y,C,U,t,B,r⟩:=m it (by simp);have J:i=x.cps.size:=D;subst J;exact (mk X.A (I.ok.hd L)).done s _ _ g fun l p G=>⟨rfl,I.turned (fun b o a e=>G b o (by simpa using a) e) y C t B r⟩
 self:=hself
section
variable {X:Cx} {tg:Expr}
def iStr (tl:TE):TI:=fun σ H R=>tl σ H fun x H1=>∃ z,x=.str z/\R (Its z) H1
theorem Jlu {l:Expr} {tl:TE} (hl:PE X l tl):PI X tg l (iStr tl):=fun f s σ H R I h=>by
 refine thn (hl f s σ H _ I h) fun v d ζ=>?_;obtain ⟨x,u,I1,r,z,k,q⟩:=ζ;subst k;obtain ⟨t,rfl⟩:=r;have key:∀ (n:String),(n="str_ascii_iterator"\/n="str_iterator")->PIE X f σ tg R (.ref d.heap.objs.size) { d with heap:=d.heap.push { cls:=.type n,data:=.fields #[.str z t, .int 0 0] } }:=fun n y=>by
  have p:Turn X.prog X.w X.K tg (Its z) [d.heap.objs.size] d.heap.objs.size (fun i h=>h.IsStrIter d.heap.objs.size n z t i):=by
   rcases y with rfl | rfl
   ·exact Jf3 (n:="str_ascii_iterator") ⋯ (fun i h g=>let ⟨o,a,b,c⟩:=g;⟨o,_,a,b,c⟩) (fun A j=>Walks.strAscii j _ z t) fun A i s Q E g q=>wpAny_pyIter_striter_ascii g q
   ·exact Jf3 (n:="str_iterator") ⋯ (fun i h g=>let ⟨o,a,b,c⟩:=g;⟨o,_,a,b,c⟩) (fun A j=>Walks.strWide j _ z t) fun A i s Q E g q=>wpAny_pyIter_striter_wide g q
  refine ⟨d.heap.objs.size,[d.heap.objs.size],_,_,u,rfl,I1.kept (t':=d.toks) fun b o e=>Heap.get?_push_of_some _ e,p,⟨_,Heap.get?_push_size _ rfl,rfl,rfl⟩,fun b m=>?_,q⟩;obtain rfl:b=d.heap.objs.size:=by simpa using m
  exact I1.fpOk (Nat.le_refl _) (I1.hok.fresh (Nat.le_refl _))
 cases ha:z.cps.all (· < 128)
 ·exact wpAny_pyIter_wide ha (key _ (.inr rfl))
 ·exact wpAny_pyIter_ascii ha (key _ (.inl rfl))
end
abbrev Cx.inc (X:Cx) (N':List Str) (scope:Scope) (cl:List (Str × Addr)) (fp:List Addr) (s2:Shared) (H2:Hp) (C:Addr):Cx :=
 { X with N:=N',s₀:=s2,H₀:=H2,env:=compEnvC scope cl C X.env,outer:=X.stack,ex:=fp,fn:=fun _=>false,pn:=[],xe:=fun _ _=>False }
section
variable {X:Cx} {pins:List (Addr × Obj)} {σ : St} {H2:Hp} {s2:Shared} {N':List Str} {scope:Scope} {cl:List (Str × Addr)} {fp:List Addr} {C:Addr}
theorem Inv.incOk (I:Inv X pins σ H2 s2) (hf:∀ b∈fp,FpOk X pins H2 b) (hfp:∀ b∈fp,b<s2.heap.objs.size) (hk:scope.kind=.function) (hC:s2.heap.objs.size<=C) (hcl:∀ x c,cl.lookup x=some c->X.env.cells.lookup x=some c)
  (hhas:∀ y,((relabel scope X.env).names.lookup y=some .cell\/(relabel scope X.env).names.lookup y=some .free)->∃ c,cl.lookup y=some c):(X.inc N' scope cl fp s2 H2 C).Ok where
 mod:=I.ok.mod
 kind:=hk
 glob:=I.ok.glob
 blt:=I.ok.blt
 above:=hC
 inj:=fun x y c g d=>I.ok.inj x y c (hcl x c g) (hcl y c d)
 has:=fun y f=>hhas y f
 cab:=fun x c h=>by cases h
 hd:=I.ok.hd
 frames:=I.ok.frames
 stk:=.inl rfl
 exf:=fun b a=>⟨Nat.ne_of_lt (Nat.lt_of_lt_of_le (hfp b a) hC),fun x c e=>(hf b a).2.2.2.2.1 x c (hcl x c e)⟩
 bs:=I.bs
 bsz:=Nat.le_trans I.ok.bsz I.sz
 noex:=fun b o e a=>by
  rcases (hf b a).2.2.2.1 with z | z
  ·exact I.ok.noex b o e z
  ·exact absurd (Nat.lt_of_lt_of_le (Nat.lt_of_lt_of_le (Heap.lt_size e) I.ok.bsz) z) (Nat.lt_irrefl _)
 exfs:=fun b a i=>by
  rcases mem_cons.mp (I.stkSub b i) with z | z
  ·exact (hf b a).2.1 z
  ·exact (hf b a).2.2.1 z
 funs:=I.stack
 frf:=I.stkFree
def JaF (cs:List (Nat × Str)) (σ : St):St:=cs.map fun p=>(σ[p.1]?).join
theorem Inv.capsLoc {s4:Shared} {m:Str->Option Value} {own:List Str} {cs:List (Nat × Str)} (I:Inv X pins σ H2 s2) (ok:(X.inc (own++cs.map (·.2)) scope cl fp s2 H2 C).Ok) (kept:∀ c v,(∃ x,cl.lookup x=some c)->s2.heap.IsCell c v->s4.heap.IsCell c v)
  (hcl:∀ x c,cl.lookup x=some c->X.env.cells.lookup x=some c) (hcs:∀ p∈cs,X.N[p.1]?=some p.2/\X.env.scope.names.lookup p.2=some .cell/\(relabel scope X.env).names.lookup p.2=some .cell) :
  ∀ (i:Nat) (x:Str) (v:V),(own++cs.map (·.2))[i]?=some x->(List.replicate own.length none++JaF cs σ)[i]?=some (some v)->∃ u,RelV v u/\Look (compEnvC scope cl C X.env) s4.heap m x u:=fun i x v t e=>by
  by_cases h:i<own.length
  ·rw [List.getElem?_append_left (by simpa using h),List.getElem?_replicate,if_pos h] at e;cases e
  ·have b:(JaF cs σ)[i-own.length]?=some (some v):=by rw [List.getElem?_append_right (by simp;ac_nf)] at e;simpa using e
   have a:(cs.map (·.2))[i-own.length]?=some x:=by
    rwa [List.getElem?_append_right ∅] at t
   unfold JaF at b;rw [List.getElem?_map] at a b;cases q:cs[i-own.length]? with
   | none=>rw [q] at a;cases a
   | some p=>
    rw [q] at a b;obtain rfl:p.2=x:=by simpa using a
    have d:(σ[p.1]?).join=some v:=by simpa using b
    have f : σ[p.1]?=some (some v):=by
     cases z : σ[p.1]? with
     | none=>rw [z] at d;cases d
     | some o=>rw [z] at d;exact congrArg some d
    obtain ⟨r,j,l⟩:=hcs p (List.mem_of_getElem? q);obtain ⟨y,_,n⟩:=I.loc;obtain ⟨u,s,w⟩:=n p.1 p.2 v r f (.inr (.inl j));refine ⟨u,s, .inr ⟨.inl l,?_⟩⟩;obtain ⟨c,g⟩:=ok.has p.2 (.inl l);refine ⟨c,g,?_⟩;rcases w with ⟨k,_⟩ | ⟨_,c',e',hcell⟩
    ·have k:X.env.scope.names.lookup p.2=some .local:=k;rw [j] at k;cases k
    ·rw [hcl _ _ g] at e';cases e';exact kept _ _ ⟨_,g⟩ hcell
theorem Inv.incStart {s4:Shared} {m:Str->Option Value} {own:List Str} {cs:List (Nat × Str)} (I:Inv X pins σ H2 s2) (ok:(X.inc (own++cs.map (·.2)) scope cl fp s2 H2 C).Ok) (kept:∀ b o,s2.heap.get? b=some o->s4.heap.get? b=some o) (hos:s4.os=s2.os) (hg:s4.gens=s2.gens) (hm:s4.heap.Ns C m)
  (hC:s2.heap.objs.size<=C) (hcl:∀ x c,cl.lookup x=some c->X.env.cells.lookup x=some c)
  (hcs:∀ p∈cs,X.N[p.1]?=some p.2/\X.env.scope.names.lookup p.2=some .cell/\(relabel scope X.env).names.lookup p.2=some .cell) :
  Inv (X.inc (own++cs.map (·.2)) scope cl fp s2 H2 C) [] (List.replicate own.length none++JaF cs σ) H2 s4 where
 ok:=ok
 os:=hos
 bare:=by rw [hg];exact I.bare
 base:=Un.kept kept
 loc:=⟨m,hm,fun i x v h f _=>I.capsLoc (m:=m) ok (fun c v _ ⟨o,a,d⟩=>⟨o,kept _ _ a,d⟩) hcl hcs i x v h f⟩
 cell:=fun x c e=>by
  obtain ⟨v,o,a,d⟩:=I.cell x c (hcl x c e);exact ⟨v,o,kept _ _ a,d⟩
 free:=I.hok.fresh hC
 freeC:=fun x c e=>I.freeC x c (hcl x c e)
 pin:=fun p g=>by simp at g
 hok:=I.hok.kept kept
 len:=by simp [JaF]
theorem Inv.incAgain {s':Shared} {H':Hp} {σ':St} {pl:List (Addr × Obj)} {own:List Str} {cs:List (Nat × Str)} (I:Inv X pins σ H2 s2) (J:Inv (X.inc (own++cs.map (·.2)) scope cl fp s2 H2 C) pl σ' H' s')
  (hf:∀ b∈fp,FpOk X pins H2 b) (hcl:∀ x c,cl.lookup x=some c->X.env.cells.lookup x=some c) (hcs:∀ p∈cs,X.N[p.1]?=some p.2/\X.env.scope.names.lookup p.2=some .cell/\(relabel scope X.env).names.lookup p.2=some .cell) :
  Inv (X.inc (own++cs.map (·.2)) scope cl fp s2 H2 C) [] (List.replicate own.length none++JaF cs σ) H' s' where
 ok:=J.ok
 os:=J.os
 bare:=J.bare
 base:=J.base
 loc:=by
  obtain ⟨m,a,_⟩:=J.loc;refine ⟨m,a,fun i x v k h _=>I.capsLoc (m:=m) J.ok (fun c v ⟨x,d⟩ ⟨o,e,g⟩=>?_) hcl hcs i x v k h⟩;have f:c∉fp:=fun z=>(hf c z).2.2.2.2.1 x c (hcl x c d) rfl;by_cases a:c∈frs X.stack
  ·obtain ⟨l,z⟩:=J.base.slot c o e (I.freeC x c (hcl x c d)) a f;exact ⟨_,z,g⟩
  ·exact ⟨o,J.base.keep c o e (I.freeC x c (hcl x c d)) a f,g⟩
 cell:=J.cell
 free:=J.free
 freeC:=J.freeC
 pin:=fun p j=>by simp at j
 hok:=J.hok
 len:=by simp [JaF]
end
section
variable {prog:Program} {w:World} {A:Around} {E:Value->Shared->Prop} {R:Result->Shared->Prop} {s:Shared}
theorem Jhe {elt target iter:Expr} {scope:Scope} {pos:Pos} {it acc:Value} {env:Env} (J:Nat->Shared->Prop)
  (turn:∀ n s,J n s->wpAny (model prog w) A (pyNext it) (fun r s1=>match r with
   | none=>R (.ok .next) s1
   | some v=>wpAny (model prog w) A (letOwnedTupleGo target it v) (fun _ s2=>wpAny (model prog w) A (assign target env v) (fun _ s3=>wpAny (model prog w) A (eval elt env) (fun x s4=>
     wpAny (model prog w) A (call (.builtin "list.append") [acc,x]) (fun _ s5=>∃ m,m<n/\J m s5) (fun _ _=>False) s4) (fun _ _=>False) s3) (fun _ _=>False) s2) (fun _ _=>False) s1) (fun _ _=>False) s) (n:Nat) (h:J n s) :
  codeAny (model prog w) A (.compLoop (.ListComp elt [⟨target,iter,[],0⟩] scope pos) 0 it acc env) R s:=by
 refine codeAny_loop rfl J (fun n s b=>?_) n h;show wpAny _ A ((compTurn (.ListComp elt [⟨target,iter,[],0⟩] scope pos) 0 it acc env).onRaise (fun y=>do noteFrame y env;theTreesLotGoes y)) _ _ s
 (refine wpAny_noted ?_;rw [compTurn_list])
 refine wpAny_bind (wpAny_standAt (wpAny_bind (wpAny_mono (turn n s b) (fun r s1 a=>?_) fun _ _ z=>z.elim)));cases r with
 | none=>exact wpAny_pure a
 | some v=>
  refine wpAny_bind (wpAny_mono a (fun _ s2 f=>wpAny_bind (wpAny_mono f (fun _ s3 e=>?_) fun _ _ z=>z.elim)) fun _ _ z=>z.elim);refine wpAny_bind (wpAny_tests_nil ?_);exact wpAny_bind (wpAny_bind (wpAny_mono e (fun x s4 d=>(wpAny_bind (wpAny_mono d (fun _ s5 c=>(wpAny_pure (wpAny_pure ⟨rfl,c⟩))) fun _ _ z=>z.elim))) fun _ _ z=>z.elim))
end
def tComp (k:Nat) (cs:List (Nat × Str)) (wi:TI) (g:TG) (te:TE):TE:=fun σ H Q=>wi σ H fun J H1=>∃ W:Nat->Nat->List V->Hp->Prop,(∃ m,W 0 m [] H1)/\∀ i m ys H2,W i m ys H2->ys.length<=sizeLine /\
  ((J.stop i H2/\∀ p,H2 p=none->Q (.ref p) (upd H2 p (.lst ys))) \/
   (J.go i H2/\∀ x H3,J.yld i H2 x H3->g x (List.replicate k none++JaF cs σ) H3 fun σ4 H4=>te σ4 H4 fun y H5=>∃ m',m'<m/\W (i+1) m' (ys++[y]) H5))
theorem lstP {us:List Value} {v:Value}:(us.toArray.push v)=(us++[v]).toArray:=by simp
section
variable {X:Cx} {tg:Expr}
theorem Jeg {iter elt:Expr} {scope:Scope} {pos:Pos} {own:List Str} {cl:List (Str × Addr)} {cs:List (Nat × Str)} {wi:TI} {g:TG} {te:TE} (hc:X.calm=true) (hi:PI X tg iter wi)
  (hg:∀ fp s2 H2 C,PG (X.inc (own++cs.map (·.2)) scope cl fp s2 H2 C) tg g) (he:∀ fp s2 H2 C,PE (X.inc (own++cs.map (·.2)) scope cl fp s2 H2 C) elt te)
  (hclos:closureFor scope X.env=pure cl) (hcell:∀ y∈scope.names,y.2≠.cell) (hkind:scope.kind=.function) (hnames:∀ y∈scope.names,y.2=.local->scope.names.lookup y.1=some .local)
  (hcl:∀ x c,cl.lookup x=some c->X.env.cells.lookup x=some c) (hhas:∀ y,((relabel scope X.env).names.lookup y=some .cell\/(relabel scope X.env).names.lookup y=some .free)->∃ c,cl.lookup y=some c)
  (hcs:∀ p∈cs,X.N[p.1]?=some p.2/\X.env.scope.names.lookup p.2=some .cell/\(relabel scope X.env).names.lookup p.2=some .cell)
  (hs:∀ x,foldedSetIterable iter X.env x=pure x:=by intro _;rfl):PE X (.ListComp elt [⟨tg,iter,[],0⟩] scope pos) (tComp own.length cs wi g te):=by
 intro E s σ H Q I h;rw [eval_ListComp];refine wpAny_comprehension_free (use:=none) rfl hs hclos hkind hnames (thn (hi E s σ H _ I h) fun v s1 h1=>thn h1 fun b8 s2 h2=>?_);obtain ⟨it,fp,tn,J,H2,rfl,I2,T,a1,Y,W,⟨m0,w0⟩,a8⟩:=h2;have K:∀ b∈fp,b<s2.heap.objs.size:=fun b d=>by
  obtain ⟨o,e,_⟩:=T.obj _ _ a1 b d;exact Heap.lt_size e
 refine wpAny_newObj_type (wpAny_newFunctionEnv hcell (by intro y hy;simp at hy) (fun h4 l j=>?_) hkind);dsimp only at l j ⊢;generalize hH3:s2.heap.push { cls:=.type "list",dict:=none,data:=.seq ([]:List Value).toArray }=H3 at l j ⊢;have a3:H3.objs.size=s2.heap.objs.size+1:=by rw [<- hH3,Heap.size_push]
 have hC:s2.heap.objs.size<=H3.objs.size:=by ac_nf
 have t:s2.heap.objs.size≠H3.objs.size:=by ac_nf
 have Z:∀ b o,s2.heap.get? b=some o->h4.get? b=some o:=fun b o e=>j.extBut b o (by have:=Heap.lt_size e;exact Nat.ne_of_lt (Nat.lt_of_lt_of_le this hC)) (Heap.get?_push_of_some _ (hH3 ▸ Heap.get?_push_of_some _ e));have a9:h4.get? s2.heap.objs.size=some { cls:=.type "list",data:=.seq ([]:List Value).toArray }:=j.extBut _ _ t (Heap.get?_push_of_some _ (hH3 ▸ Heap.get?_push_size _ rfl));obtain ⟨D,f⟩:∃ D,D=s2.heap.objs.size:=⟨_,rfl⟩;obtain ⟨C,b2⟩:∃ C,C=H3.objs.size:=⟨_,rfl⟩;rw [<- b2] at a3 l j hC t ⊢;rw [<- f] at K a3 hC t a9 ⊢;have G:=I2.incOk (N':=own++cs.map (·.2)) (C:=C) Y (fun b d=>by rw [<- f];exact K b d) hkind (by rw [<- f];exact hC) hcl hhas;have I4:Inv (X.inc (own++cs.map (·.2)) scope cl fp s2 H2 C) [] (List.replicate own.length none++JaF cs σ) H2 { s2 with heap:=h4,toks:=s2.toks+([]:List (Str × Value)).length } :=
  I2.incStart (s4:={ s2 with heap:=h4,toks:=s2.toks+([]:List (Str × Value)).length }) G Z rfl rfl l (by rw [<- f];exact hC) hcl hcs
 have Dfree:H2 D=none:=I2.hok.fresh (Nat.le_of_eq f.symm);have F:∀ b o,s2.heap.get? b=some o->b≠D:=fun b o e=>by
  rw [f];exact Nat.ne_of_lt (Heap.lt_size e)
 have b1:∀ b o,s2.heap.get? b=some o->b≠C:=fun b o e=>Nat.ne_of_lt (Nat.lt_of_lt_of_le (by rw [f];exact Heap.lt_size e) hC);have Dfs:D∉frs X.stack:=fun hm=>by
  obtain ⟨_,o,e,_⟩:=I2.stack.mem hm;exact F _ _ e rfl
 have M:∀ {σ':St} {H':Hp} {s':Shared} {us:List Value} {n:Nat} {pl:List (Addr × Obj)},Inv (X.inc (own++cs.map (·.2)) scope cl fp s2 H2 C) pl σ' H' s'->s'.heap.get? D=some { cls:=.type "list",data:=.seq us.toArray n }->H' D=none ->
   Inv (X.inc (own++cs.map (·.2)) scope cl fp s2 H2 C) [(D,{ cls:=.type "list",data:=.seq us.toArray n })] σ' H' s':=fun {σ' H' s' us n pl} J' e n'=>J'.pins_of fun p S=>by
  rcases mem_singleton.mp S with rfl
  exact ⟨e,n',t,Dfs,fun v z=>by cases z⟩
 have B:∀ {H':Hp} {o:Obj},(∀ b∈fp,H' b=none)->∀ b∈fp,FpOk (X.inc (own++cs.map (·.2)) scope cl fp s2 H2 C) [(D,o)] H' b:=fun {H' o} hn b d=>by
  refine ⟨hn b d,(G.exf b d).1,G.exfs b d, .inl d,(G.exf b d).2,fun p S=>?_⟩;rcases mem_singleton.mp S with rfl
  exact Nat.ne_of_gt (K b d)
 have O:∀ s3:Shared,s3={ s2 with heap:=h4,toks:=s2.toks+([]:List (Str × Value)).length } ->
   codeAny (model X.prog X.w) X.A (.compLoop (.ListComp elt [⟨tg,iter,[],0⟩] scope pos) 0 (.ref it) (.ref D) (compEnvC scope cl C X.env)) (compPost (model X.prog X.w) X.A X.xe none (EP X E σ Q) (.ref D) C) s3:=by
  rintro s3 rfl;refine Jhe (fun n s'=>∃ i ys us V H',Inv (X.inc (own++cs.map (·.2)) scope cl fp s2 H2 C) [(D,{ cls:=.type "list",data:=.seq us.toArray V })] (List.replicate own.length none++JaF cs σ) H' s'/\tn i s'.heap/\(∀ b∈fp,H' b=none)/\Vals ys us/\W i n ys H') ?_ m0
   ⟨0,[],[],0,H2,M (us:=[]) (n:=0) I4 a9 Dfree,T.keep _ _ _ a1 fun b d o e=>Z b o e,fun b d=>(Y b d).1, .nil,w0⟩
  rintro n s5 ⟨i,ys,us,V,R,I5,a2,a4,vy,w5⟩;obtain ⟨hz,⟨a7,qn⟩ | ⟨go,a5⟩⟩:=a8 i n ys R w5
  ·refine wpAny_mono (T.done (X.inc (own++cs.map (·.2)) scope cl fp s2 H2 C) rfl rfl rfl hc i _ s5 _ R (fun _ _=>False) I5 (B a4) a2 a7) (fun r s6 z=>?_) fun _ _ z=>z;obtain ⟨rfl,I6⟩:=z;obtain ⟨m6,b3,_⟩:=id I6.loc;refine ⟨m6,b3,fun h7 b0=>?_⟩;obtain ⟨pD,pN,_,_,_⟩:=I6.pin (D,{ cls:=.type "list",data:=.seq us.toArray V }) (by simp);have k:∀ b,b≠C->h7.get? b=s6.heap.get? b:=fun b d=>b0.2 b d;have a0:=b1;have u7:Un (frs X.stack) fp H2 R s2.heap h7:=⟨fun b o e n1 n2 n3=>(k b (a0 b o e)).trans (I6.base.keep b o e n1 n2 n3),fun b o e n1 n2 n3=>by
     obtain ⟨sl,z⟩:=I6.base.slot b o e n1 n2 n3;exact ⟨sl,(k b (a0 b o e)).trans z⟩,I6.base.free,fun b o e n1=>by
     obtain ⟨o',z⟩:=I6.base.there b o e n1;exact ⟨o',(k b (a0 b o e)).trans z⟩,I6.base.tups,I6.base.frzs,I6.base.tbls⟩
   have Cfree:R C=none:=I6.free;have a6:HOk X.prog X.w R h7:=fun a o e=>by
    refine (I6.hok a o e).stay (fun c v b4 q=>(k c ?_).trans q) (fun _ q=>q) fun _ _ q=>q;rintro rfl;rcases b4 with z | z
    ·rw [<- z] at e;rw [Cfree] at e;cases e
    ·rw [Cfree] at z;cases z
   have I7:Inv X E σ R { s6 with heap:=h7 }:=I2.call' (s':={ s6 with heap:=h7 }) I6.os u7 a6 I6.bare fun b d=>⟨(Y b d).2.2.2.1,(Y b d).2.1,(Y b d).2.2.2.2.1,(Y b d).2.2.2.2.2⟩;have I8:=I7.track (a:=D) (o:=.lst ys) pN (Heap.get?_none_of_le (by rw [f];exact I2.sz)) (by rw [f];exact Nat.ne_of_gt I2.lt) (fun x c e z=>by
     obtain ⟨v,o,ho,_⟩:=I2.cell x c e;exact F _ _ ho z) (fun p S z=>F _ _ (I2.pin p S).1 z) ⟨hz,us,V,vy,(k D t).trans pD⟩
   exact ⟨.ref D,_,I8,rfl,qn D pN⟩
  ·refine wpAny_mono (T.item (X.inc (own++cs.map (·.2)) scope cl fp s2 H2 C) rfl rfl rfl hc i _ s5 _ R (fun _ _=>False) I5 (B a4) a2 go) (fun r s6 z=>?_) fun _ _ z=>z;obtain ⟨u,rfl,z⟩:=z;refine wpAny_mono z (fun _ s7 ζ=>?_) fun _ _ z=>z;obtain ⟨x,H7,I7,r7,y7,U,b7⟩:=ζ;have I7':=I7.pinned (B b7) (T.obj _ _ U);refine wpAny_mono (hg fp s2 H2 C _ s7 _ H7 x u _ I7' r7 (a5 x H7 y7)) (fun _ s8 ⟨σ8,H8,I8,q8⟩=>?_) fun _ _ z=>z;refine wpAny_mono (he fp s2 H2 C _ s8 σ8 H8 _ I8 q8) (fun uy s9 ζ=>?_) fun _ _ z=>z;obtain ⟨y,H9,I9,r9,m',b6,w9⟩:=ζ;obtain ⟨pD,pN,_,_,_⟩:=I9.pin (D,{ cls:=.type "list",data:=.seq us.toArray V }) (by simp);refine append_at (its:=us.toArray) (n:=V) pD (fun b5 L P=>?_) (by rw [size_toArray, <- vy.length];exact hz);have m:∀ b∈fp, ∀ o,s7.heap.get? b=some o->s9.heap.get? b=some o/\H9 b=none:=fun b d o e=>by
    have z:=I9.pin (b,o) (mem_append_right _ (mem_append_right _ (Jb7 d e)));exact ⟨z.1,z.2.1⟩
   have I9':Inv (X.inc (own++cs.map (·.2)) scope cl fp s2 H2 C) [] (List.replicate own.length none++JaF cs σ) H9 s9:=I2.incAgain I9 Y hcl hcs;have I10:Inv (X.inc (own++cs.map (·.2)) scope cl fp s2 H2 C) [] (List.replicate own.length none++JaF cs σ) H9 { s9 with heap:=b5 }:=I9'.turned (it:=D) (t':=s9.toks) (fun b o d e=>(L.2 b d).trans e) pN t (.inr (Nat.le_of_eq f.symm)) (fun x c e z=>by
     obtain ⟨v,o,ho,_⟩:=I2.cell x c (hcl x c e);exact F _ _ ho z) fun p S=>by simp at S
   rw [lstP] at P;refine ⟨m',b6,i+1,ys++[y],us++[uy],V+1,H9,M I10 P pN,T.keep _ _ _ U fun b d o e=>?_,fun b d=>?_,vy.append (.cons r9 .nil),w9⟩
   ·exact (L.2 b (Nat.ne_of_lt (K b d))).trans (m b d o e).1
   ·obtain ⟨o,e,_⟩:=T.obj _ _ U b d;exact (m b d o e).2
 exact codeAny_compStart_list (O _ rfl) (T.self _ 0 _ _ _ (T.keep _ _ _ a1 fun b d o e=>Z b o e) (O _ rfl))
end
section
variable {X:Cx}
def rInU (K:W.Frag):R2:=fun x y H Q=>match x,y with
 | .str i, .str j=>Q (.bl (!(Builtin.Str.occurrences j i 0 j.length 1).isEmpty)) H
 | x,y=>rIn K false x y H Q
theorem Jlo:OpR X (compareOp .In) (rInU X.K):=fun a s σ H x y v u Q I c b q=>by
 unfold rInU at q;split at q
 ·exact Jig a s σ H _ _ v u Q I c b ⟨_,_,rfl,rfl,q⟩
 ·exact Jif a s σ H _ _ v u Q I c b q
theorem Jln {K:W.Frag} (hK:X.K=K):OpR X (compareOp .In) (rInU K):=hK ▸ Jlo
theorem ix_UK {K:W.Frag} (hK:X.K=K):IxR X (rIxU K):=hK ▸ ix_U
theorem Jlm {K:W.Frag} (hK:X.K=K) (hu:X.A.units+64<cLine):OpR X (compareOp .Eq) (rEqU K):=hK ▸ Jb9 hu
theorem Jlq {K:W.Frag} (hK:X.K=K) (hu:X.A.units+64<cLine):OpR X (compareOp .NotEq) (rNeU K):=hK ▸ Jdb hu
theorem y5dy {K:W.Frag} {i j:Str} {H:Hp} {Q:VK}:rInU K (.str i) (.str j) H Q=Q (.bl (!(Builtin.Str.occurrences j i 0 j.length 1).isEmpty)) H:=rfl
theorem all_range:∀ bs:List Bool,(List.range bs.length).all (fun i=>bs.getD i false)=bs.all id:=fun bs=>by
 rw [Bool.eq_iff_iff];simp only [List.all_eq_true,List.mem_range,id];constructor
 ·intro h x b;obtain ⟨i,a,rfl⟩:=List.mem_iff_getElem.mp b;have:=h i a;simpa [List.getD_eq_getElem?_getD,a] using this
 ·intro h i a;have:=h bs[i] (List.getElem_mem a);simpa [List.getD_eq_getElem?_getD,a] using this
def rAll (K:W.Frag):List V->Hp->VK->Prop:=fun xs H Q=>∃ (p:Addr) (bs:List Bool),xs=[.ref p]/\SqL K H p (bs.map V.bl)/\Q (.bl (bs.all id)) H
theorem JhE (hc:X.calm=true):CallR X (.builtin "all") (rAll X.K):=fun n s σ H L G Q I r q=>by
 obtain ⟨p,c,rfl,w,q⟩:=q;obtain ⟨a,f,g,E⟩:=I.list w;obtain ⟨u,rfl,y⟩:=vals1 r;cases (show u=Value.ref p from y);refine call_all_walk (wpAny_pyIter_list g.isList ?_);have h:p<s.heap.objs.size:=by
  obtain ⟨_,e,_⟩:=g.isList;exact Heap.lt_size e
 refine ⟨s.heap.objs.size,_,_,a.toArray.size,_,_,fun i=>c.getD i false,rfl,Walks.list (by show X.A.handled=none;exact I.ok.hd hc) s.heap.objs.size p (Nat.ne_of_lt h) a.toArray,⟨⟨_,Heap.get?_push_size _ rfl,rfl,rfl⟩,g.isList.push _⟩,?_,?_⟩
 ·intro i v N Q' E' B z;have d:a[i]?=some v:=by simpa using B
  have m:i<c.length:=by
   obtain ⟨F,_⟩:=List.getElem?_eq_some_iff.mp d;have l:=f.length;rw [length_map] at l;ac_nf
  obtain ⟨J,j,t⟩:=f.get (i:=i) (x:=.bl c[i]) (by simp [m]);rw [d] at j;cases j;cases (show v=Value.bool c[i] from t);refine wpAny_truthy_bool ?_;simpa [List.getD_eq_getElem?_getD,m] using z
 ·intro M o k;have l:=f.length;rw [length_map] at l;have D:(List.range a.toArray.size).all (fun i=>c.getD i false)=c.all id:=by rw [size_toArray, <- l];exact all_range c
  rw [D];exact ⟨.bl _,H,I.kept (t':=o) fun b C e=>k b C (by have:=Heap.lt_size e;simp;exact Nat.ne_of_lt this) (Heap.get?_push_of_some _ e),rfl,q⟩
end
theorem hcl0 {X:Cx}:∀ (x:Str) (c:Addr),([]:List (Str × Addr)).lookup x=some c->X.env.cells.lookup x=some c:=fun _ _ h=>by simp at h
theorem hcs0 {X:Cx} {scope:Scope}:∀ p∈([]:List (Nat × Str)),X.N[p.1]?=some p.2/\X.env.scope.names.lookup p.2=some .cell/\(relabel scope X.env).names.lookup p.2=some .cell:=fun _ h=>by simp at h
theorem hhas0 {X:Cx} {scope:Scope} (h:scope.names.all (fun p=>p.2 != .free&&p.2 != .cell)=true):∀ y,((relabel scope X.env).names.lookup y=some .cell\/(relabel scope X.env).names.lookup y=some .free)->∃ c,([]:List (Str × Addr)).lookup y=some c:=fun y a=>by
 exfalso;have j:=List.all_eq_true.mp h;have b:∀ k,(relabel scope X.env).names.lookup y=some k->k≠.cell/\k≠.free:=fun k e=>by
  have m:=PySem.mem_of_lookup e;obtain ⟨⟨n,d⟩,i,g⟩:=mem_map.mp (show (y,k)∈scope.names.map _ from m);have z:=j _ i;simp only [bne_iff_ne,ne_eq,Bool.and_eq_true] at z;have f:(if (d == NameKind.free&&X.env.scope.kind == .function&&X.env.kindOf n == some .cell)=true then (n,NameKind.cell) else (n,d))=(y,k):=g;split at f
  ·rename_i c;rw [Bool.and_eq_true,Bool.and_eq_true] at c;exact absurd (beq_iff_eq.mp c.1.1) z.1
  ·cases f;exact ⟨z.2,z.1⟩
 rcases a with a | a
 ·exact (b _ a).1 rfl
 ·exact (b _ a).2 rfl
def tyD:D->String
 | .non=>"NoneType"
 | .bl _=>"bool"
 | .int _=>"int"
 | .str _=>"str"
 | .tup _=>"tuple"
 | .lst _=>"list"
theorem Rep.tyN {K:W.Frag} {H:Hp} {d:D} {x:V} (h:Rep K H d x):L2.tyN K H x (tyD d):=by
 cases d <;> simp only [Rep] at h
 ·subst h;rfl
 ·subst h;rfl
 ·subst h;rfl
 ·subst h;rfl
 ·obtain ⟨a,b,rfl,q,_⟩:=h;exact .inr ⟨rfl,b,q⟩
 ·obtain ⟨a,b,rfl,q,_⟩:=h;exact .inl ⟨rfl,b,q⟩
mutual
def szD:D->Prop
 | .int i=>Mth.Sz 4000 i
 | .str s=>s.length<=1000
 | .tup xs=>szL xs
 | .lst xs=>szL xs
 | _=>True
def szL:List D->Prop
 | []=>True
 | x::xs=>szD x/\szL xs
end
def lowB (c:Nat):Bool:=decide (97<=c/\c<=122)
def nameS (s:Str):Bool:=(decide (1<=s.length)&&decide (s.length<=8))&&s.cps.toList.all lowB
def nameB:D->Bool
 | .str s=>nameS s
 | _=>false
def Jcd:D->Bool
 | .int _=>true
 | _=>false
def fracB:D->Bool
 | .tup [.int a, .int b]=>decide (1<=b)&&decide (Mth.g a b=1)
 | _=>false
def JcC:D->Bool
 | .non=>true
 | d=>fracB d
def JcD (d e:D):Bool:=nameB d&&nameB e&&!eqD d e
def lessD:D->D->Bool
 | .tup [.int a, .int b], .tup [.int c, .int d]=>decide (a*d<c*b)
 | _,_=>false
def JdR (l g:D):Bool:=JcC l&&JcC g&&!lessD g l
def tieB:D->Bool
 | .tup [n,s,e,l,g]=>nameB n&&JcD s e&&JdR l g
 | _=>false
theorem Jhj:(Str.ofString "abcdefghijklmnopqrstuvwxyz").cps.toList=List.range' 97 26:=by decide
theorem Jhh (c:Nat):(!(Builtin.Str.occurrences (Str.ofString "abcdefghijklmnopqrstuvwxyz") ⟨#[c]⟩ 0 (Str.ofString "abcdefghijklmnopqrstuvwxyz").length 1).isEmpty)=lowB c:=by
 rw [StrLaws.found_one,Jhj];unfold lowB
 congr 1
 rw [List.mem_range'];refine propext ⟨fun ⟨i,a,e⟩=>by ac_nf,fun h=>⟨c-97,by ac_nf,by ac_nf⟩⟩
structure KCal (P:Program) (w:World) (K:W.Frag) (mg:Str->Option Value) (base:Heap) (k:Nat) (x:Str) (C:Addr) (ps:List Str) (sp:Sp):Prop where
 ex:∃ (f:Addr) (fd:FuncData),FnOk P w K mg base (CX1 P w) k f fd ps sp/\mg x=some (.ref C)/\Mk K C f/\Binds K fd ps []
structure MCal (P:Program) (w:World) (K:W.Frag) (mg:Str->Option Value) (base:Heap) (k:Nat) (m:Str) (Cs:Addr->Prop) (ps:List Str) (sp:Sp):Prop where
 ex:∃ (f:Addr) (fd:FuncData),FnOk P w K mg base (CX1 P w) k f fd ps sp/\(∀ C,Cs C->Cls K C/\Meth K C m f)/\W.keepIn K (.ref f)=true/\Binds K fd ps []
def JiI (Cs:Addr->Prop) (m:Str) (sp:Sp) (E:XK) (ta:TE) (t:TA):TE:=fun σ H Q=>ta σ H fun x H1=>∃ a C dx fs,x=.ref a/\H1 a=some (.ins C dx fs)/\Cs C/\fs.lookup m=none/\t σ H1 fun vs H2=>sp (x::vs) H2 Q E
section
variable {X:Cx} {k k':Nat} {x mn:Str} {C:Addr} {Cs:Addr->Prop} {ps:List Str} {sp:Sp} {E:XK} {p pos apos:Pos} {e o:Expr} {es:List Expr} {t:TA} {ta:TE}
theorem KCal.ev (G:KCal X.prog X.w X.K X.mg X.base k x C ps sp) (hr:Room k' X.A) (hk:k+1<=k') (hg:Gl X x) (hx:Jcx (CX1 X.prog X.w) X E) (ha:PA X (e::es) t)
  (hdb:(x == ("__debug__" : Str))=false:=by decide) (he:starEach (e::es) X.env=(false,eval e X.env)::starEach es X.env:=by rfl) (hpl:(backTo pos (starEach es X.env)).any (·.1)=false:=by rfl) :
  PE X (.Call (.Name x p) (e::es) [] pos) (tMake C sp [] E t):=by
 obtain ⟨f,c,F,b,M,a⟩:=G.ex;exact JkC M F (hr.mono hk) hg b a .nil hx ha hdb he hpl
theorem MCal.m {pl:Sem Bool} (G:MCal X.prog X.w X.K X.mg X.base k mn Cs ps sp) (hr:Room k' X.A) (hk:k<=k') (hx:Jcx (CX1 X.prog X.w) X E) (ho:PE X o ta) (ha:PA X (e::es) t)
  (hst:starEach (e::es) X.env=(false,eval e X.env)::starEach es X.env:=by rfl) (hpl:(backTo pos (starEach es X.env)).any (·.1)=false:=by rfl)
  (ht:eval (.Call (.Attribute o mn apos) (e::es) [] pos) X.env=(do
   let ov <- eval o X.env
   standAt apos.atName
   let (f,first) <- holding [ov] (getMethod ov mn pl)
   callWith pos f first (backTo pos (starEach (e::es) X.env)) (backToKw pos (keywordEach [] X.env))):=by rfl) :
  PE X (.Call (.Attribute o mn apos) (e::es) [] pos) (JiI Cs mn sp E ta t):=by
 obtain ⟨f,M,F,d,v,i⟩:=G.ex;intro b s σ H Q I h;refine W.methodCall_KW (pl:=pl) (thn (ho b s σ H _ I h) fun u n ζ=>?_) ht;obtain ⟨x,y,I1,p,a,C,B,D,g,z,c,l,q⟩:=ζ;subst g;obtain rfl:u=Value.ref a:=p;refine JeN I1 z (d C c).1 (d C c).2 l ?_;refine W.callWith_K (first:=[.ref a]) (h₀:=X.base) I.ok.mod.kin v (thn (ha pos b n σ y _ I1 q) fun us L ⟨vs,J,I2,r,j⟩=>⟨I2.kIn,?_⟩) hst hpl;exact Jiw (us:=.ref a::us) (vs:=.ref a::vs) F (hr.mono hk) i .nil hx I2 (.cons rfl r) (by simpa using j)
theorem MCal.m0 {pl:Sem Bool} (G:MCal X.prog X.w X.K X.mg X.base k mn Cs ps sp) (hr:Room k' X.A) (hk:k<=k') (hx:Jcx (CX1 X.prog X.w) X E) (ho:PE X o ta)
  (ht:eval (.Call (.Attribute o mn apos) [] [] pos) X.env=(do
   let ov <- eval o X.env
   standAt apos.atName
   let (f,first) <- holding [ov] (getMethod ov mn pl)
   callWith pos f first (backTo pos (starEach [] X.env)) (backToKw pos (keywordEach [] X.env))):=by rfl) :
  PE X (.Call (.Attribute o mn apos) [] [] pos) (JiI Cs mn sp E ta tNil):=by
 obtain ⟨f,v,F,d,j,g⟩:=G.ex;intro b s σ H Q I h;refine W.methodCall_KW (pl:=pl) (thn (ho b s σ H _ I h) fun u r ζ=>?_) ht;obtain ⟨x,m,I1,i,a,C,p,t,e,n,c,l,q⟩:=ζ;subst e;obtain rfl:u=Value.ref a:=i;refine JeN I1 n (d C c).1 (d C c).2 l ?_;exact W.callWith_K0 (first:=[.ref a]) I1.kIn j (Jiw (us:=[.ref a]) (vs:=[.ref a]) F (hr.mono hk) g .nil hx I1 (.cons rfl .nil) (show sp ([.ref a]++[]) m Q E from q))
def rMulS:R2:=fun x y H Q=>match x,y with
 | .str z, .int n=>0<n/\n<1000/\z.length<=1000/\∀ z':Str,z'.cps.toList=(List.replicate n.toNat z.cps.toList).flatten->Q (.str z') H
 | x,y=>rMulU x y H Q
theorem JeX:∀ (l:List (Array Nat)) (acc:Array Nat),(l.foldl (· ++ ·) acc).toList=acc.toList++(l.map (·.toList)).flatten
 | [],acc=>by simp
 | x::l,acc=>by
  rw [List.foldl_cons,JeX l];simp
theorem Jih:OpR X (binaryOp .Mult) rMulS:=fun a s σ H x y v u Q I b d q=>by
 unfold rMulS at q;split at q
 ·rename_i z n;obtain ⟨h,j,i,q⟩:=q;obtain ⟨t,rfl⟩:=b;obtain ⟨k,rfl⟩:=d;have f:z.cps.size=z.length:=rfl;have g:z.length*n.toNat<=1000*1000:=Nat.mul_le_mul i ∅;refine PySem.P.mul_str (by simp;ac_nf) (fun _ _=>?_) (fun _ _=>?_) ?_
  ·have : (1000:Int)<=(2 ^ 63-1)/n:=by
    rw [Int.le_ediv_iff_mul_le h];ac_nf
   ac_nf
  ·unfold Builtin.Str.tooLong;simp;have : (1000*1000:Nat)<=sizeLine:=by decide
   ac_nf
  ·rw [if_neg ∅];split
   ·rename_i c;refine ⟨.str z,H,I,⟨_,rfl⟩,q z ?_⟩;rcases Bool.or_eq_true _ _ |>.mp c with c | c
    ·obtain rfl:n=1:=by simpa using c
     simp
    ·have e:z.cps.toList=[]:=by
      have : z.length=0:=by simpa using c
      exact List.eq_nil_of_length_eq_zero (by rw [Array.length_toList];exact this)
     rw [e];simp
   ·refine ⟨?_, .str _,H,I.tok _,⟨_,rfl⟩,q _ ?_⟩
    ·show (Array.size _)<=sizeLine;rw [<- Array.length_toList,JeX];simp;have : (1000*1000:Nat)<=sizeLine:=by decide
     rw [Nat.mul_comm,f];ac_nf
    ·rw [JeX];simp
 ·exact Jkx a s σ H _ _ v u Q I b d q
def rIsN:R2:=fun x y H Q=>y=.non/\Q (.bl (decide (x=.non))) H
def rNotN:R2:=fun x y H Q=>y=.non/\Q (.bl (!decide (x=.non))) H
theorem JcG:OpR X (compareOp .Is) rIsN:=Jlp
theorem Jfh:OpR X (compareOp .IsNot) rNotN:=Jky
def JlA (K:W.Frag):List V->Hp->VK->Prop:=fun xs H Q=>∃ p ys,xs=[.ref p]/\(SqL K H p ys\/SqT K H p ys)/\∀ l,H l=none->Q (.ref l) (upd H l (.lst ys))
theorem JeH:CallR X (.type "list") (JlA X.K):=JfC
end
section
variable {K:W.Frag} {H:Hp} {Q:VK}
theorem y60y {x:V}:rIsN x .non H Q=Q (.bl (decide (x=.non))) H:=by simp [rIsN]
theorem y76y {x:V}:rNotN x .non H Q=Q (.bl (!decide (x=.non))) H:=by simp [rNotN]
theorem y66y {C:Addr} {sp:Sp} {dvs:List V} {E:XK} {t:TA} {σ : St}:tMake C sp dvs E t σ H Q=t σ H fun vs H1=>∀ x dx,H1 x=none->H1 dx=none->dx≠x->sp (.ref x::(vs++dvs)) (upd (upd H1 dx (.own x)) x (.ins C dx [])) (fun v H2=>v=.non/\Q (.ref x) H2) E:=rfl
theorem y67y {Cs:Addr->Prop} {mn:Str} {sp:Sp} {E:XK} {ta:TE} {t:TA} {σ : St}:JiI Cs mn sp E ta t σ H Q=ta σ H fun x H1=>∃ a C dx fs,x=.ref a/\H1 a=some (.ins C dx fs)/\Cs C/\fs.lookup mn=none/\t σ H1 fun vs H2=>sp (x::vs) H2 Q E:=rfl
theorem y4dy {ta:TE} {f:Str} {σ : St}:tFld K ta f σ H Q=ta σ H fun x H1=>∃ a C dx fs v,x=.ref a/\H1 a=some (.ins C dx fs)/\Cls K C/\JaK K C f/\fs.lookup f=some v/\Q v H1:=rfl
theorem y84y {ta tv:TE} {f:Str} {σ : St} {En:Ends}:sFld K ta tv f En σ H=tv σ H fun y H1=>ta σ H1 fun x H2=>∃ a C dx fs,x=.ref a/\H2 a=some (.ins C dx fs)/\Cls K C/\JaK K C f/\fs.length<1000/\En.nx σ (upd H2 a (.ins C dx (putF f y fs))):=rfl
theorem y2cy {T:String} {r:V->List V->Hp->VK->Prop} {to:TE} {t:TA} {σ : St}:tBM K T r to t σ H Q=to σ H fun x H1=>tyV K T x H1/\t σ H1 fun vs H2=>r x vs H2 Q:=rfl
theorem y57y {g:TG} {gs:TGs} {v:V} {r:List V} {σ : St} {R:St->Hp->Prop}:gCons g gs (v::r) σ H R=g v σ H fun σ' H'=>gs r σ' H' R:=by
 unfold gCons;refine propext ⟨fun ⟨b,a,e,h⟩=>?_,fun h=>⟨v,r,rfl,h⟩⟩;cases e;exact h
theorem y59y {σ : St} {R:St->Hp->Prop}:gNil [] σ H R=R σ H:=by unfold gNil;simp
theorem FrV.of_rep {x:V} {a b:Int} (h:Rep K H (.tup [.int a, .int b]) x):FrV K H x a b:=by
 simp only [Rep,RepL] at h;obtain ⟨p,e,rfl,q,v,r,rfl,rfl,d,c,rfl,rfl,rfl⟩:=h;exact ⟨p,rfl,q⟩
theorem Jdp {d:D} (h:fracB d=true):∃ a b,d=.tup [.int a, .int b]/\1<=b/\Mth.g a b=1:=by
 unfold fracB at h;split at h
 ·rw [Bool.and_eq_true] at h;exact ⟨_,_,rfl,by simpa using h.1,by simpa using h.2⟩
 ·cases h
theorem JeQ {d:D} (h:nameB d=true):∃ z,d=.str z/\nameS z=true:=by
 cases d <;> first | exact ⟨_,rfl,h⟩ | (simp [nameB] at h)
theorem Rep.str {d:Str} {x:V} (h:Rep K H (.str d) x):x=.str d:=by simpa only [Rep] using h
def nonD:D->Bool
 | .non=>true
 | _=>false
theorem Jh9 {d:D} (h:d≠.non):nonD d=false:=by cases d <;> first | rfl | exact absurd rfl h
theorem Rep.nonV {d:D} {x:V} (hx:Rep K H d x):decide (x=.non)=nonD d:=by
 cases d <;> simp only [Rep] at hx
 ·subst hx;rfl
 ·subst hx;rfl
 ·subst hx;rfl
 ·subst hx;rfl
 ·obtain ⟨a,b,rfl,_⟩:=hx;rfl
 ·obtain ⟨a,b,rfl,_⟩:=hx;rfl
theorem putE {H':Hp} {l:Addr} {o:HO} (e:upd H l o=H'):H' l=some o:=by rw [<- e,Jaj]
end
def tieF (n s e l g:V):List (Str × V):=[("name",n),("start",s),("end",e),("least",l),("greatest",g)]
section
variable {En:Ends} {σ : St} {H:Hp} {Q:VK} {ta tb te tc td:TE} {K:W.Frag}
end
def Jbs (cells:List (Str × Addr)):List (Str × NameKind)->List (Str × Addr)->List (Str × Addr)
 | [],acc=>acc
 | (n,k)::r,acc=>Jbs cells r (if k == .free then (n,(cells.lookup n).getD 0)::acc else acc)
theorem Jgb {env:Env}:∀ (names:List (Str × NameKind)) (acc:List (Str × Addr)),(∀ p∈names,p.2=.free->∃ c,env.cells.lookup p.1=some c) ->
  (forIn names acc fun (p:Str × NameKind) cs=>(if p.2 == .free then do let c <- cellOf env p.1;pure (ForInStep.yield ((p.1,c)::cs)) else pure (ForInStep.yield cs):Sem (ForInStep (List (Str × Addr)))))=(pure (Jbs env.cells names acc):Sem (List (Str × Addr)))
 | [],acc,_=>by simp [Jbs]
 | (n,k)::r,acc,h=>by
  rw [List.forIn_cons];by_cases c:(k == .free)=true
  ·obtain ⟨a,ha⟩:=h (n,k) mem_cons_self (beq_iff_eq.mp c);have e:cellOf env n=pure a:=by unfold cellOf;rw [ha]
   simp only [c,if_true,e,pure_bind];have:=Jgb (env:=env) r ((n,a)::acc) fun p hp=>h p (mem_cons_of_mem _ hp);simp only [Jbs,c,if_true,ha,Option.getD_some];exact this
  ·have c':(k == .free)=false:=by simpa using c
   simp only [c',Bool.false_eq_true,if_false,pure_bind];have:=Jgb (env:=env) r acc fun p hp=>h p (mem_cons_of_mem _ hp);simp only [Jbs,c',Bool.false_eq_true,if_false];exact this
theorem Jga {scope:Scope} {env:Env} (h:∀ p∈scope.names,p.2=.free->∃ c,env.cells.lookup p.1=some c):closureFor scope env=pure (Jbs env.cells scope.names []):=by
 have:=Jgb (env:=env) scope.names [] h;unfold closureFor;simp only [pure_bind];refine Eq.trans ?_ (congrArg (fun m:Sem (List (Str × Addr))=>m >>= pure) this |>.trans (by simp));first | rfl | (congr 1)
theorem JcQ {cells:List (Str × Addr)}:∀ (names:List (Str × NameKind)) (acc:List (Str × Addr)),(∀ x c,acc.lookup x=some c->cells.lookup x=some c)->(∀ p∈names,p.2=.free->∃ c,cells.lookup p.1=some c) ->
  ∀ x c,(Jbs cells names acc).lookup x=some c->cells.lookup x=some c
 | [],acc,ha,_,x,c,h=>ha x c h
 | (n,k)::r,acc,ha,hf,x,c,h=>by
  simp only [Jbs] at h;refine JcQ r _ ?_ (fun p hp=>hf p (mem_cons_of_mem _ hp)) x c h;intro y d hy;by_cases f:(k == .free)=true
  ·rw [if_pos f] at hy;obtain ⟨a,e⟩:=hf (n,k) mem_cons_self (beq_iff_eq.mp f);rw [List.lookup_cons] at hy;by_cases q:(y == n)=true
   ·rw [q] at hy;have q':y=n:=beq_iff_eq.mp q;subst q';have e':cells.lookup y=some a:=e;rw [e'] at hy ⊢;simpa using hy
   ·have q':(y == n)=false:=by simpa using q
    rw [q'] at hy;exact ha y d hy
  ·rw [if_neg f] at hy;exact ha y d hy
theorem JcP {cells:List (Str × Addr)}:∀ (names:List (Str × NameKind)) (acc:List (Str × Addr)) (y:Str),((∃ c,acc.lookup y=some c)\/(y,NameKind.free)∈names)->∃ c,(Jbs cells names acc).lookup y=some c
 | [],acc,y,h=>by
  rcases h with h | h
  ·exact h
  ·simp at h
 | (n,k)::r,acc,y,h=>by
  simp only [Jbs];refine JcP r _ y ?_;rcases h with ⟨c,h⟩ | h
  ·refine .inl ?_;split
   ·rw [List.lookup_cons];cases (y == n)
    ·exact ⟨c,h⟩
    ·exact ⟨_,rfl⟩
   ·exact ⟨c,h⟩
  ·rcases mem_cons.mp h with e | h
   ·cases e;refine .inl ?_;rw [if_pos ⋯,List.lookup_cons];simp
   ·exact .inr h
section
variable {X:Cx} {tg:Expr}
theorem Jjd {iter elt:Expr} {scope:Scope} {pos:Pos} {own:List Str} {cs:List (Nat × Str)} {wi:TI} {g:TG} {te:TE} (hc:X.calm=true) (hi:PI X tg iter wi)
  (hg:∀ fp s2 H2 C,PG (X.inc (own++cs.map (·.2)) scope (Jbs X.env.cells scope.names []) fp s2 H2 C) tg g) (he:∀ fp s2 H2 C,PE (X.inc (own++cs.map (·.2)) scope (Jbs X.env.cells scope.names []) fp s2 H2 C) elt te)
  (hfree:∀ p∈scope.names,p.2=.free->X.env.scope.names.lookup p.1=some .cell) (hcell:∀ y∈scope.names,y.2≠.cell) (hkind:scope.kind=.function) (hnames:∀ y∈scope.names,y.2=.local->scope.names.lookup y.1=some .local)
  (hcs:∀ p∈cs,X.N[p.1]?=some p.2/\X.env.scope.names.lookup p.2=some .cell/\(relabel scope X.env).names.lookup p.2=some .cell)
  (hs:∀ x,foldedSetIterable iter X.env x=pure x:=by intro _;rfl):PE X (.ListComp elt [⟨tg,iter,[],0⟩] scope pos) (tComp own.length cs wi g te):=by
 intro b s σ H Q I h;have j:∀ p∈scope.names,p.2=.free->∃ c,X.env.cells.lookup p.1=some c:=fun p q d=>I.ok.has p.1 (.inl (hfree p q d));refine Jeg hc hi hg he (Jga j) hcell hkind hnames (JcQ scope.names [] (fun _ _ z=>by simp at z) j) (fun y a=>JcP scope.names [] y (.inr ?_)) hcs hs b s σ H Q I h;have o:∀ k,(k=.cell\/k=.free)->(relabel scope X.env).names.lookup y=some k->(y,NameKind.free)∈scope.names:=fun k d e=>by
  have m:=PySem.mem_of_lookup e;obtain ⟨⟨n,l⟩,i,r⟩:=mem_map.mp (show (y,k)∈scope.names.map _ from m);have f:(if (l == NameKind.free&&X.env.scope.kind == .function&&X.env.kindOf n == some .cell)=true then (n,NameKind.cell) else (n,l))=(y,k):=r;split at f
  ·rename_i c;rw [Bool.and_eq_true,Bool.and_eq_true] at c;have:=beq_iff_eq.mp c.1.1;subst this;cases f;exact i
  ·cases f;rcases d with rfl | rfl
   ·exact absurd rfl (hcell _ i)
   ·exact i
 rcases a with a | a
 ·exact o _ (.inl rfl) a
 ·exact o _ (.inr rfl) a
theorem JfF {scope sc:Scope} (h:scope.names.all (fun p=>p.2 != .free||(sc.names.lookup p.1 == some .cell))=true):∀ p∈scope.names,p.2=.free->sc.names.lookup p.1=some .cell:=fun p a b=>by
 have z:=List.all_eq_true.mp h p a;rw [b] at z;simpa using z
end
theorem hcs1 {X:Cx} {scope:Scope} {i:Nat} {x:Str} (a:X.N[i]?=some x) (b:X.env.scope.names.lookup x=some .cell) (c:(relabel scope X.env).names.lookup x=some .cell) :
  ∀ p∈[(i,x)],X.N[p.1]?=some p.2/\X.env.scope.names.lookup p.2=some .cell/\(relabel scope X.env).names.lookup p.2=some .cell:=fun p d=>by
 rcases mem_singleton.mp d with rfl
 exact ⟨a,b,c⟩
theorem hcs2 {X:Cx} {scope:Scope} {i j:Nat} {x y:Str} (a:X.N[i]?=some x) (b:X.env.scope.names.lookup x=some .cell) (c:(relabel scope X.env).names.lookup x=some .cell)
  (a':X.N[j]?=some y) (b':X.env.scope.names.lookup y=some .cell) (c':(relabel scope X.env).names.lookup y=some .cell) :
  ∀ p∈[(i,x),(j,y)],X.N[p.1]?=some p.2/\X.env.scope.names.lookup p.2=some .cell/\(relabel scope X.env).names.lookup p.2=some .cell:=fun p d=>by
 rcases mem_cons.mp d with rfl | d
 ·exact ⟨a,b,c⟩
 ·rcases mem_singleton.mp d with rfl
  exact ⟨a',b',c'⟩
section
variable {X:Cx} {tg:Expr}
theorem JhR {X:Cx} {scope:Scope} (hcell:∀ y∈scope.names,y.2≠.cell) {y:Str} (hy:(relabel scope X.env).names.lookup y=some .cell\/(relabel scope X.env).names.lookup y=some .free):(y,NameKind.free)∈scope.names:=by
 have d:∀ k,(k=.cell\/k=.free)->(relabel scope X.env).names.lookup y=some k->(y,NameKind.free)∈scope.names:=fun k g e=>by
  have m:=PySem.mem_of_lookup e;obtain ⟨⟨n,f⟩,b,h⟩:=mem_map.mp (show (y,k)∈scope.names.map _ from m);have a:(if (f == NameKind.free&&X.env.scope.kind == .function&&X.env.kindOf n == some .cell)=true then (n,NameKind.cell) else (n,f))=(y,k):=h;split at a
  ·rename_i c;rw [Bool.and_eq_true,Bool.and_eq_true] at c;have:=beq_iff_eq.mp c.1.1;subst this;cases a;exact b
  ·cases a;rcases g with rfl | rfl
   ·exact absurd rfl (hcell _ b)
   ·exact b
 rcases hy with hy | hy
 ·exact d _ (.inl rfl) hy
 ·exact d _ (.inr rfl) hy
end
section
variable {prog:Program} {w:World} {A:Around} {E:Value->Shared->Prop} {R:Result->Shared->Prop} {s:Shared}
theorem Jgc {elt target iter tst:Expr} {scope:Scope} {pos:Pos} {it acc:Value} {env:Env} (J:Nat->Shared->Prop)
  (turn:∀ n s,J n s->wpAny (model prog w) A (pyNext it) (fun r s1=>match r with
   | none=>R (.ok .next) s1
   | some v=>wpAny (model prog w) A (letOwnedTupleGo target it v) (fun _ s2=>wpAny (model prog w) A (assign target env v) (fun _ s3=>wpAny (model prog w) A (isTrue tst env (eval tst env)) (fun b s3'=>if b=true then wpAny (model prog w) A (eval elt env) (fun x s4=>
     wpAny (model prog w) A (call (.builtin "list.append") [acc,x]) (fun _ s5=>∃ m,m<n/\J m s5) (fun _ _=>False) s4) (fun _ _=>False) s3' else ∃ m,m<n/\J m s3') (fun _ _=>False) s3) (fun _ _=>False) s2) (fun _ _=>False) s1) (fun _ _=>False) s) (n:Nat) (h:J n s) :
  codeAny (model prog w) A (.compLoop (.ListComp elt [⟨target,iter,[tst],0⟩] scope pos) 0 it acc env) R s:=by
 refine codeAny_loop rfl J (fun n s g=>?_) n h;show wpAny _ A ((compTurn (.ListComp elt [⟨target,iter,[tst],0⟩] scope pos) 0 it acc env).onRaise (fun y=>do noteFrame y env;theTreesLotGoes y)) _ _ s
 (refine wpAny_noted ?_;rw [compTurn_list])
 refine wpAny_bind (wpAny_standAt (wpAny_bind (wpAny_mono (turn n s g) (fun r s1 c=>?_) fun _ _ z=>z.elim)));cases r with
 | none=>exact wpAny_pure c
 | some v=>
  refine wpAny_bind (wpAny_mono c (fun _ s2 f=>wpAny_bind (wpAny_mono f (fun _ s3 e=>?_) fun _ _ z=>z.elim)) fun _ _ z=>z.elim);refine wpAny_bind (wpAny_tests_one (wpAny_mono e (fun b s3' a=>?_) fun _ _ z=>z.elim));cases b with
  | true=>exact wpAny_bind (wpAny_bind (wpAny_mono a (fun x s4 d=>(wpAny_bind (wpAny_mono d (fun _ s5 i=>(wpAny_pure (wpAny_pure ⟨rfl,i⟩))) fun _ _ z=>z.elim))) fun _ _ z=>z.elim))
  | false=>exact wpAny_bind (wpAny_pure (wpAny_pure ⟨rfl,a⟩))
end
def Jf1 (k:Nat) (cs:List (Nat × Str)) (wi:TI) (g:TG) (tt:TT) (te:TE):TE:=fun σ H Q=>wi σ H fun J H1=>∃ W:Nat->Nat->List V->Hp->Prop,(∃ m,W 0 m [] H1)/\∀ i m ys H2,W i m ys H2->ys.length<=sizeLine /\
  ((J.stop i H2/\∀ p,H2 p=none->Q (.ref p) (upd H2 p (.lst ys))) \/
   (J.go i H2/\∀ x H3,J.yld i H2 x H3->g x (List.replicate k none++JaF cs σ) H3 fun σ4 H4=>tt σ4 H4 fun b H5=>if b=true then te σ4 H5 fun y H6=>∃ m',m'<m/\W (i+1) m' (ys++[y]) H6 else ∃ m',m'<m/\W (i+1) m' ys H5))
section
variable {X:Cx} {tg:Expr}
theorem JdT {iter elt tst:Expr} {scope:Scope} {pos:Pos} {own:List Str} {cl:List (Str × Addr)} {cs:List (Nat × Str)} {g:TG} {te:TE} {tt:TT} {pins:List (Addr × Obj)} {s2:Shared} {σ : St} {H2:Hp} {it:Addr} {fp:List Addr} {tn:Nat->Heap->Prop} {J:It}
  {W:Nat->Nat->List V->Hp->Prop} {m0:Nat} {QN:List V->Hp->Prop} {RR:Value->Addr->Result->Shared->Prop} {E:Value->Shared->Prop} (hc:X.calm=true)
  (hg:∀ fp s2 H2 C,PG (X.inc (own++cs.map (·.2)) scope cl fp s2 H2 C) tg g) (ht:∀ fp s2 H2 C,PT (X.inc (own++cs.map (·.2)) scope cl fp s2 H2 C) tst tt) (he:∀ fp s2 H2 C,PE (X.inc (own++cs.map (·.2)) scope cl fp s2 H2 C) elt te)
  (hcell:∀ y∈scope.names,y.2≠.cell) (hkind:scope.kind=.function)
  (hcl:∀ x c,cl.lookup x=some c->X.env.cells.lookup x=some c) (hhas:∀ y,((relabel scope X.env).names.lookup y=some .cell\/(relabel scope X.env).names.lookup y=some .free)->∃ c,cl.lookup y=some c)
  (hcs:∀ p∈cs,X.N[p.1]?=some p.2/\X.env.scope.names.lookup p.2=some .cell/\(relabel scope X.env).names.lookup p.2=some .cell)
  (I2:Inv X pins σ H2 s2) (T:Turn X.prog X.w X.K tg J fp it tn) (st2:tn 0 s2.heap) (f2:∀ b∈fp,FpOk X pins H2 b) (w0:W 0 m0 [] H2)
  (turn:∀ i m ys H2,W i m ys H2->ys.length<=sizeLine/\((J.stop i H2/\QN ys H2)\/(J.go i H2/\∀ x H3,J.yld i H2 x H3->g x (List.replicate own.length none++JaF cs σ) H3 fun σ4 H4=>tt σ4 H4 fun b H5=>if b=true then te σ4 H5 fun y H6=>∃ m',m'<m/\W (i+1) m' (ys++[y]) H6 else ∃ m',m'<m/\W (i+1) m' ys H5)))
  (hRR:∀ (D C:Addr) (s6:Shared) (H5:Hp) (ys:List V),(∀ h7,Heap.SameBut C s6.heap h7->Inv X pins σ (upd H5 D (.lst ys)) { s6 with heap:=h7 })->H5 D=none->H5 C=none->D≠C->(∃ m,s6.heap.Ns C m)->s2.heap.objs.size<=C->QN ys H5->RR (.ref D) C (.ok .next) s6) :
  wpAny (model X.prog X.w) X.A (newList []) (fun acc s₃=>wpAny (model X.prog X.w) X.A (newFunctionEnv scope X.env.globals cl [] X.env.qual none .none (some X.env)) (fun cenv s₄=>
   codeAny (model X.prog X.w) X.A (.compStart (.ListComp elt [⟨tg,iter,[tst],0⟩] scope pos) 0 (.ref it) acc { cenv with scope:=relabel scope X.env }) (RR acc cenv.locals) s₄) E s₃) E s2:=by
 have O:∀ b∈fp,b<s2.heap.objs.size:=fun b d=>by
  obtain ⟨o,e,_⟩:=T.obj _ _ st2 b d;exact Heap.lt_size e
 refine wpAny_newObj_type (wpAny_newFunctionEnv hcell (by intro y hy;simp at hy) (fun h4 t j=>?_) hkind);dsimp only at t j ⊢;generalize hH3:s2.heap.push { cls:=.type "list",dict:=none,data:=.seq ([]:List Value).toArray }=H3 at t j ⊢;have a3:H3.objs.size=s2.heap.objs.size+1:=by rw [<- hH3,Heap.size_push]
 have U:s2.heap.objs.size<=H3.objs.size:=by ac_nf
 have l:s2.heap.objs.size≠H3.objs.size:=by ac_nf
 have Y:∀ b o,s2.heap.get? b=some o->h4.get? b=some o:=fun b o e=>j.extBut b o (by have:=Heap.lt_size e;exact Nat.ne_of_lt (Nat.lt_of_lt_of_le this U)) (Heap.get?_push_of_some _ (hH3 ▸ Heap.get?_push_of_some _ e));have a8:h4.get? s2.heap.objs.size=some { cls:=.type "list",data:=.seq ([]:List Value).toArray }:=j.extBut _ _ l (Heap.get?_push_of_some _ (hH3 ▸ Heap.get?_push_size _ rfl));obtain ⟨D,h⟩:∃ D,D=s2.heap.objs.size:=⟨_,rfl⟩;obtain ⟨C,b1⟩:∃ C,C=H3.objs.size:=⟨_,rfl⟩;rw [<- b1] at a3 t j U l ⊢;rw [<- h] at O a3 U l a8 ⊢;have L:=I2.incOk (N':=own++cs.map (·.2)) (C:=C) f2 (fun b d=>by rw [<- h];exact O b d) hkind (by rw [<- h];exact U) hcl hhas;have I4:Inv (X.inc (own++cs.map (·.2)) scope cl fp s2 H2 C) [] (List.replicate own.length none++JaF cs σ) H2 { s2 with heap:=h4,toks:=s2.toks+([]:List (Str × Value)).length } :=
  I2.incStart (s4:={ s2 with heap:=h4,toks:=s2.toks+([]:List (Str × Value)).length }) L Y rfl rfl t (by rw [<- h];exact U) hcl hcs
 have Dfree:H2 D=none:=I2.hok.fresh (Nat.le_of_eq h.symm);have I:∀ b o,s2.heap.get? b=some o->b≠D:=fun b o e=>by
  rw [h];exact Nat.ne_of_lt (Heap.lt_size e)
 have b0:∀ b o,s2.heap.get? b=some o->b≠C:=fun b o e=>Nat.ne_of_lt (Nat.lt_of_lt_of_le (by rw [h];exact Heap.lt_size e) U);have Dfs:D∉frs X.stack:=fun hm=>by
  obtain ⟨_,o,e,_⟩:=I2.stack.mem hm;exact I _ _ e rfl
 have G:∀ {σ':St} {H':Hp} {s':Shared} {us:List Value} {n:Nat} {pl:List (Addr × Obj)},Inv (X.inc (own++cs.map (·.2)) scope cl fp s2 H2 C) pl σ' H' s'->s'.heap.get? D=some { cls:=.type "list",data:=.seq us.toArray n }->H' D=none ->
   Inv (X.inc (own++cs.map (·.2)) scope cl fp s2 H2 C) [(D,{ cls:=.type "list",data:=.seq us.toArray n })] σ' H' s':=fun {σ' H' s' us n pl} J' e n'=>J'.pins_of fun p S=>by
  rcases mem_singleton.mp S with rfl
  exact ⟨e,n',l,Dfs,fun v z=>by cases z⟩
 have B:∀ {H':Hp} {o:Obj},(∀ b∈fp,H' b=none)->∀ b∈fp,FpOk (X.inc (own++cs.map (·.2)) scope cl fp s2 H2 C) [(D,o)] H' b:=fun {H' o} hn b d=>by
  refine ⟨hn b d,(L.exf b d).1,L.exfs b d, .inl d,(L.exf b d).2,fun p S=>?_⟩;rcases mem_singleton.mp S with rfl
  exact Nat.ne_of_gt (O b d)
 have Q:∀ s3:Shared,s3={ s2 with heap:=h4,toks:=s2.toks+([]:List (Str × Value)).length } ->
   codeAny (model X.prog X.w) X.A (.compLoop (.ListComp elt [⟨tg,iter,[tst],0⟩] scope pos) 0 (.ref it) (.ref D) (compEnvC scope cl C X.env)) (RR (.ref D) C) s3:=by
  rintro s3 rfl;refine Jgc (fun n s'=>∃ i ys us M H',Inv (X.inc (own++cs.map (·.2)) scope cl fp s2 H2 C) [(D,{ cls:=.type "list",data:=.seq us.toArray M })] (List.replicate own.length none++JaF cs σ) H' s'/\tn i s'.heap/\(∀ b∈fp,H' b=none)/\Vals ys us/\W i n ys H') ?_ m0
   ⟨0,[],[],0,H2,G (us:=[]) (n:=0) I4 a8 Dfree,T.keep _ _ _ st2 fun b d o e=>Y b o e,fun b d=>(f2 b d).1, .nil,w0⟩
  rintro n s5 ⟨i,ys,us,M,H5,I5,a2,a4,vy,w5⟩;obtain ⟨hz,⟨stop,qn⟩ | ⟨go,a5⟩⟩:=turn i n ys H5 w5
  ·refine wpAny_mono (T.done (X.inc (own++cs.map (·.2)) scope cl fp s2 H2 C) rfl rfl rfl hc i _ s5 _ H5 (fun _ _=>False) I5 (B a4) a2 stop) (fun r s6 z=>?_) fun _ _ z=>z;obtain ⟨rfl,I6⟩:=z;obtain ⟨m6,b2,_⟩:=id I6.loc;obtain ⟨pD,pN,_,_,_⟩:=I6.pin (D,{ cls:=.type "list",data:=.seq us.toArray M }) (by simp);have Cfree:H5 C=none:=I6.free;refine hRR D C s6 H5 ys (fun h7 a9=>?_) pN Cfree l ⟨m6,b2⟩ (by rw [<- h];exact U) qn;have k:∀ b,b≠C->h7.get? b=s6.heap.get? b:=fun b d=>a9.2 b d;have a0:=b0;have u7:Un (frs X.stack) fp H2 H5 s2.heap h7:=⟨fun b o e n1 n2 n3=>(k b (a0 b o e)).trans (I6.base.keep b o e n1 n2 n3),fun b o e n1 n2 n3=>by
     obtain ⟨sl,z⟩:=I6.base.slot b o e n1 n2 n3;exact ⟨sl,(k b (a0 b o e)).trans z⟩,I6.base.free,fun b o e n1=>by
     obtain ⟨o',z⟩:=I6.base.there b o e n1;exact ⟨o',(k b (a0 b o e)).trans z⟩,I6.base.tups,I6.base.frzs,I6.base.tbls⟩
   have a6:HOk X.prog X.w H5 h7:=fun a o e=>by
    refine (I6.hok a o e).stay (fun c v b3 q=>(k c ?_).trans q) (fun _ q=>q) fun _ _ q=>q;rintro rfl;rcases b3 with z | z
    ·rw [<- z] at e;rw [Cfree] at e;cases e
    ·rw [Cfree] at z;cases z
   have I7:Inv X pins σ H5 { s6 with heap:=h7 }:=I2.call' (s':={ s6 with heap:=h7 }) I6.os u7 a6 I6.bare fun b d=>⟨(f2 b d).2.2.2.1,(f2 b d).2.1,(f2 b d).2.2.2.2.1,(f2 b d).2.2.2.2.2⟩;exact I7.track (a:=D) (o:=.lst ys) pN (Heap.get?_none_of_le (by rw [h];exact I2.sz)) (by rw [h];exact Nat.ne_of_gt I2.lt) (fun x c e z=>by
     obtain ⟨v,o,ho,_⟩:=I2.cell x c e;exact I _ _ ho z) (fun p S z=>I _ _ (I2.pin p S).1 z) ⟨hz,us,M,vy,(k D l).trans pD⟩
  ·refine wpAny_mono (T.item (X.inc (own++cs.map (·.2)) scope cl fp s2 H2 C) rfl rfl rfl hc i _ s5 _ H5 (fun _ _=>False) I5 (B a4) a2 go) (fun r s6 z=>?_) fun _ _ z=>z;obtain ⟨u,rfl,z⟩:=z;refine wpAny_mono z (fun _ s7 ζ=>?_) fun _ _ z=>z;obtain ⟨x,H7,I7,r7,y7,F,b5⟩:=ζ;have I7':=I7.pinned (B b5) (T.obj _ _ F);refine wpAny_mono (hg fp s2 H2 C _ s7 _ H7 x u _ I7' r7 (a5 x H7 y7)) (fun _ s8 ⟨σ8,H8,I8,q8⟩=>?_) fun _ _ z=>z;refine wpAny_mono (ht fp s2 H2 C _ s8 σ8 H8 _ I8 q8) (fun bb a1 ⟨H,I8',a7⟩=>?_) fun _ _ z=>z;cases bb with
   | true=>
    refine wpAny_mono (he fp s2 H2 C _ a1 σ8 H _ I8' a7) (fun uy s9 ζ=>?_) fun _ _ z=>z;obtain ⟨y,H9,I9,r9,m',Z,w9⟩:=ζ;obtain ⟨pD,pN,_,_,_⟩:=I9.pin (D,{ cls:=.type "list",data:=.seq us.toArray M }) (by simp);refine append_at (its:=us.toArray) (n:=M) pD (fun b4 P R=>?_) (by rw [size_toArray, <- vy.length];exact hz);have f:∀ b∈fp, ∀ o,s7.heap.get? b=some o->s9.heap.get? b=some o/\H9 b=none:=fun b d o e=>by
     have z:=I9.pin (b,o) (mem_append_right _ (mem_append_right _ (Jb7 d e)));exact ⟨z.1,z.2.1⟩
    have I9':Inv (X.inc (own++cs.map (·.2)) scope cl fp s2 H2 C) [] (List.replicate own.length none++JaF cs σ) H9 s9:=I2.incAgain I9 f2 hcl hcs;have I10:Inv (X.inc (own++cs.map (·.2)) scope cl fp s2 H2 C) [] (List.replicate own.length none++JaF cs σ) H9 { s9 with heap:=b4 }:=I9'.turned (it:=D) (t':=s9.toks) (fun b o d e=>(P.2 b d).trans e) pN l (.inr (Nat.le_of_eq h.symm)) (fun x c e z=>by
      obtain ⟨v,o,ho,_⟩:=I2.cell x c (hcl x c e);exact I _ _ ho z) fun p S=>by simp at S
    rw [lstP] at R;refine ⟨m',Z,i+1,ys++[y],us++[uy],M+1,H9,G I10 R pN,T.keep _ _ _ F fun b d o e=>?_,fun b d=>?_,vy.append (.cons r9 .nil),w9⟩
    ·exact (P.2 b (Nat.ne_of_lt (O b d))).trans (f b d o e).1
    ·obtain ⟨o,e,_⟩:=T.obj _ _ F b d;exact (f b d o e).2
   | false=>
    obtain ⟨m',Z,w9⟩:=a7;obtain ⟨pD,pN,_,_,_⟩:=I8'.pin (D,{ cls:=.type "list",data:=.seq us.toArray M }) (by simp);have f:∀ b∈fp, ∀ o,s7.heap.get? b=some o->a1.heap.get? b=some o/\H b=none:=fun b d o e=>by
     have z:=I8'.pin (b,o) (mem_append_right _ (mem_append_right _ (Jb7 d e)));exact ⟨z.1,z.2.1⟩
    have I9':Inv (X.inc (own++cs.map (·.2)) scope cl fp s2 H2 C) [] (List.replicate own.length none++JaF cs σ) H a1:=I2.incAgain I8' f2 hcl hcs;refine ⟨m',Z,i+1,ys,us,M,H,G I9' pD pN,T.keep _ _ _ F fun b d o e=>(f b d o e).1,fun b d=>?_,vy,w9⟩;obtain ⟨o,e,_⟩:=T.obj _ _ F b d;exact (f b d o e).2
 exact codeAny_compStart_list (Q _ rfl) (T.self _ 0 _ _ _ (T.keep _ _ _ st2 fun b d o e=>Y b o e) (Q _ rfl))
theorem JcX {iter elt tst:Expr} {scope:Scope} {pos spos py:Pos} {y:Str} {j:Nat} {own:List Str} {cs:List (Nat × Str)} {wi:TI} {g:TG} {te:TE} {tt:TT} (hN:X.N.Nodup) (hj:X.N[j]?=some y) (hy:Loc X.env.scope y) (hc:X.calm=true) (hi:PI X tg iter wi)
  (hg:∀ fp s2 H2 C,PG (X.inc (own++cs.map (·.2)) scope (Jbs X.env.cells scope.names []) fp s2 H2 C) tg g) (ht:∀ fp s2 H2 C,PT (X.inc (own++cs.map (·.2)) scope (Jbs X.env.cells scope.names []) fp s2 H2 C) tst tt) (he:∀ fp s2 H2 C,PE (X.inc (own++cs.map (·.2)) scope (Jbs X.env.cells scope.names []) fp s2 H2 C) elt te)
  (hfree:∀ p∈scope.names,p.2=.free->X.env.scope.names.lookup p.1=some .cell) (hcell:∀ y∈scope.names,y.2≠.cell) (hkind:scope.kind=.function) (hnames:∀ y∈scope.names,y.2=.local->scope.names.lookup y.1=some .local)
  (hcs:∀ p∈cs,X.N[p.1]?=some p.2/\X.env.scope.names.lookup p.2=some .cell/\(relabel scope X.env).names.lookup p.2=some .cell)
  (hsw:swapsWith (.ListComp elt [⟨tg,iter,[tst],0⟩] scope pos) (some (.Name y py)) spos.line X.env=pure true:=by rfl)
  (hs:∀ x,foldedSetIterable iter X.env x=pure x:=by intro _;rfl) (hf:X.fn y=true\/X.env.scope.names.lookup y=some .local:=by first | exact .inl rfl | exact .inr rfl) :
  PS X (.Assign [.Name y py] (.ListComp elt [⟨tg,iter,[tst],0⟩] scope pos) spos) (tAsg (Jf1 own.length cs wi g tt te) (gName j)):=by
 intro d s σ H D I h;have i:∀ p∈scope.names,p.2=.free->∃ c,X.env.cells.lookup p.1=some c:=fun p t U=>I.ok.has p.1 (.inl (hfree p t U));have w:=JcQ (cells:=X.env.cells) scope.names [] (fun _ _ z=>by simp at z) i;rw [exec_Assign_Name_used _ _ _ _ hsw];refine wpAny_bind (wpAny_standAt (wpAny_bind ?_));show wpAny _ X.A (do let _ <- comprehension (.ListComp elt [⟨tg,iter,[tst],0⟩] scope pos) scope X.env _ (newList []) false (eval iter X.env) (some (assign (.Name y py) X.env))) _ _ s;refine wpAny_bind (wpAny_mono (wpAny_comprehension_free (use:=some (assign (.Name y py) X.env)) (Q:=fun _ L=>SP X d D .next L) rfl hs (Jga i) hkind hnames
  (thn (hi d s σ H _ I h) fun v s1 Z=>thn Z fun V s2 h2=>?_)) (fun _ L hq=>wpAny_pure (wpAny_pure hq)) fun _ _ e=>e)
 obtain ⟨it,fp,tn,J,H2,rfl,I2,T,B,f2,W,⟨m0,w0⟩,k⟩:=h2;refine JdT (QN:=fun E l=>∀ p,l p=none->D.nx (σ.set j (some (.ref p))) (upd l p (.lst E))) hc hg ht he hcell hkind w (fun z M=>JcP scope.names [] z (.inr (JhR hcell M))) hcs I2 T B f2 w0 k ?_;intro D' C G l E r dN R dc hm f q;obtain ⟨Y,u⟩:=hm;have I8:Inv X d σ (upd l D' (.lst E)) G:=r G.heap (Heap.SameBut.refl _ _);show wpAny _ X.A (assign (.Name y py) X.env (.ref D')) _ _ G;refine wpAny_assign_Name (Jf0 (v:=.ref D') I8 hN hj hy rfl (fun O I7 n=>?_) hf);obtain ⟨a,sb,F⟩:=n;have S:C≠a:=by
  rcases F with rfl | F
  ·exact Nat.ne_of_gt (Nat.lt_of_lt_of_le I2.lt f)
  ·obtain ⟨v,o,m,_⟩:=I2.cell y a F;exact Nat.ne_of_gt (Nat.lt_of_lt_of_le (Heap.lt_size m) f)
 refine ⟨Y,u.sameBut sb S,fun h8 K=>⟨_,_,?_,q D' dN⟩⟩;exact I7.turned (it:=C) (t':=O.toks) (fun b o P e=>(K.2 b P).trans e) (by rw [Jag (Ne.symm dc)];exact R) (Nat.ne_of_gt (Nat.lt_of_lt_of_le I2.lt f)) (.inr (Nat.le_trans I2.sz f)) (fun x c e z=>by
  obtain ⟨v,o,m,_⟩:=I2.cell x c e;exact absurd (Nat.lt_of_lt_of_le (Heap.lt_size m) f) (by rw [z];exact Nat.lt_irrefl _)) (fun p t z=>absurd (Nat.lt_of_lt_of_le (Heap.lt_size (I2.pin p t).1) f) (by rw [z];exact Nat.lt_irrefl _))
end
section
variable {X:Cx} {pins:List (Addr × Obj)} {σ : St} {H:Hp} {s:Shared} {h':Heap}
theorem Inv.turnedL {t':Nat} {ch:List Addr} (I:Inv X pins σ H s) (k:∀ b o,b∉ch->s.heap.get? b=some o->h'.get? b=some o) (hf:∀ b∈ch,FpOk X pins H b):Inv X pins σ H { s with heap:=h',toks:=t' }:=by
 have d:∀ b u,H b=some u->b∉ch:=fun b u e z=>by rw [(hf b z).1] at e;cases e
 refine I.step (g':=s.gens) (d':=s.drawn) (ch:=ch) (fun b g=>?_) (fun b o _ _ a e _=>k b o a e) (fun b o _ _ a e _=>⟨o.slots,k b o a e⟩) (fun _ _ _ _ n=>n)
  (fun b o a e=>⟨o,k b o a e⟩) (fun _ _ e=>e) (fun _ _ _ e=>e) (fun b x e=>⟨#[],by rw [e];simp⟩) (fun m w=>?_) (fun b u e=>?_) I.bare
 ·obtain ⟨_,t,_,j,p,i⟩:=hf b g;exact ⟨j,t,p,i⟩
 ·obtain ⟨o,f,l,h,r⟩:=w;exact ⟨o,f,l,k _ o (fun z=>(hf _ z).2.1 rfl) h,r⟩
 ·refine (I.hok b u e).stay (fun c v a q=>k c v ?_ q) (fun _ q=>q) fun _ _ q=>q;rcases a with z | z
  ·rw [z];exact d b u e
  ·exact d c _ z
end
theorem za (n a b:Nat) (h1:a<n) (h2:b<n):ZipApart (n+4) (n+2) (n+3) n (n+1) a b where
 TIz:=Nat.ne_of_lt (show n+2<n+4 by ac_nf)
 TOz:=Nat.ne_of_lt (show n+3<n+4 by ac_nf)
 i1z:=Nat.ne_of_lt (show n<n+4 by ac_nf)
 i2z:=Nat.ne_of_lt (show n+1<n+4 by ac_nf)
 TITO:=Nat.ne_of_lt (show n+2<n+3 by ac_nf)
 TIi1:=Nat.ne_of_gt (show n<n+2 by ac_nf)
 TIi2:=Nat.ne_of_gt (show n+1<n+2 by ac_nf)
 TOi1:=Nat.ne_of_gt (show n<n+3 by ac_nf)
 TOi2:=Nat.ne_of_gt (show n+1<n+3 by ac_nf)
 i12:=Nat.ne_of_lt (show n<n+1 by ac_nf)
 l1z:=Nat.ne_of_lt (show a<n+4 by ac_nf)
 l1TO:=Nat.ne_of_lt (show a<n+3 by ac_nf)
 l1i1:=Nat.ne_of_lt (show a<n by ac_nf)
 l1i2:=Nat.ne_of_lt (show a<n+1 by ac_nf)
 l2z:=Nat.ne_of_lt (show b<n+4 by ac_nf)
 l2TO:=Nat.ne_of_lt (show b<n+3 by ac_nf)
 l2i1:=Nat.ne_of_lt (show b<n by ac_nf)
 l2i2:=Nat.ne_of_lt (show b<n+1 by ac_nf)
def Itz (K:W.Frag) (a b:Addr):It :=
  ⟨fun i H=>∃ xs ys x y,SqL K H a xs/\SqL K H b ys/\xs[i]?=some x/\ys[i]?=some y,
   fun i H v H'=>∃ p x y,(∀ xs,SqL K H a xs->xs[i]?=some x)/\(∀ ys,SqL K H b ys->ys[i]?=some y)/\H p=none/\v=.ref p/\H'=upd H p (.tup [x,y]),
   fun i H=>∃ xs ys,SqL K H a xs/\SqL K H b ys/\(xs.length<=i\/ys.length<=i)⟩
theorem Jjs {P:Program} {w:World} {K:W.Frag} {elts:List Expr} {x1:Nat} {tp:Pos} {z TI TO i1 i2 a b:Addr} (D:ZipApart z TI TO i1 i2 a b) :
  Turn P w K (.Tuple elts x1 tp) (Itz K a b) [z,TI,TO,i1,i2] z (fun i h=>IsZip h z TI TO .none/\IsPair h TI (.ref i1) (.ref i2)/\(∃ u v,IsPair h TO u v)/\h.IsListIter i1 a i/\h.IsListIter i2 b i) where
 mem:=by simp
 obj:=fun i h m c f=>by
  obtain ⟨r,g,⟨u,v,j⟩,t,C⟩:=m;simp only [mem_cons,not_mem_nil,or_false] at f;rcases f with rfl | rfl | rfl | rfl | rfl
  ·exact ⟨_,r,fun v z=>by cases z⟩
  ·exact ⟨_,g,fun v z=>by cases z⟩
  ·exact ⟨_,j,fun v z=>by cases z⟩
  ·obtain ⟨o,e,c,d⟩:=t;exact ⟨o,e,fun v z=>by rw [d] at z;cases z⟩
  ·obtain ⟨o,e,c,d⟩:=C;exact ⟨o,e,fun v z=>by rw [d] at z;cases z⟩
 keep:=fun i h h' m k=>by
  obtain ⟨r,g,⟨u,v,j⟩,t,C⟩:=m;exact ⟨k z (by simp) _ r,k TI (by simp) _ g,⟨u,v,k TO (by simp) _ j⟩,t.at fun o e=>k i1 (by simp) o e,C.at fun o e=>k i2 (by simp) o e⟩
 item:=by
  intro X Z V hK f i F s σ H E I L m R;subst Z V hK;obtain ⟨r,g,⟨u,v,j⟩,t,C⟩:=m;obtain ⟨xs,ys,x,y,N,J,hx,hy⟩:=R;obtain ⟨O,rx,px,zx⟩:=I.list N;obtain ⟨Y,ry,S,zy⟩:=I.list J;obtain ⟨T,a7,a9⟩:=rx.get hx;obtain ⟨U,b0,a0⟩:=ry.get hy;refine wpAny_pyNext_zip_item D r g j t C px.isList S.isList (x:=T) (y:=U) (by simpa using a7) (by simpa using b0) fun h' a1 a2 a3 a4 a5 a6 M=>?_;refine ⟨_,rfl,?_⟩;refine wpAny_letOwnedTupleGo_zip (s:={ s with heap:=h' }) a1 fun G a8 l=>?_;have B:∀ {c o},s.heap.get? c=some o->c≠s.heap.objs.size:=fun e=>Nat.ne_of_lt (Heap.lt_size e);have nz:s.heap.objs.size≠z:=fun q=>B r q.symm;have I1:Inv X F σ H { s with heap:=G,toks:=s.toks }:=I.turnedL (ch:=[z,TI,TO,i1,i2]) (fun c o f e=>by
   simp only [mem_cons,not_mem_nil,or_false,not_or] at f;exact l.extBut _ _ f.1 (M c o f.1 f.2.2.1 f.2.2.2.1 f.2.2.2.2 e)) L
  have fr:H s.heap.objs.size=none:=I.hok.fresh (Nat.le_refl _);have hT:G.get? s.heap.objs.size=some { cls:=.type "tuple",data:=.seq #[T,U] }:=l.extBut _ _ nz a5;have I2:=I1.track (a:=s.heap.objs.size) (o:=.tup [x,y]) fr (Heap.get?_none_of_le I.sz) (Nat.ne_of_gt I.lt) (fun n c e q=>by
   obtain ⟨v,o,ho,_⟩:=I.cell n c e;exact B ho q) (fun p hp q=>B (I.pin p hp).1 q) ⟨by show 2<=sizeLine;decide,[T,U], .cons a9 (.cons a0 .nil),⟨_,hT,rfl,_,rfl⟩⟩
  refine ⟨.ref s.heap.objs.size,_,I2,rfl,⟨_,x,y,fun zs q=>by rw [I.list_inj q N];exact hx,fun zs q=>by rw [I.list_inj q J];exact hy,fr,rfl,rfl⟩,?_,fun c f=>?_⟩
  ·exact ⟨a8,l.extBut _ _ D.TIz (M _ _ D.TIz D.TITO D.TIi1 D.TIi2 g),⟨_,_,l.extBut _ _ D.TOz a2⟩,a3.extBut l.extBut D.i1z,a4.extBut l.extBut D.i2z⟩
  ·have ne:c≠s.heap.objs.size:=by
    simp only [mem_cons,not_mem_nil,or_false] at f;rcases f with rfl | rfl | rfl | rfl | rfl
    ·exact B r
    ·exact B g
    ·exact B j
    ·obtain ⟨o,e,_⟩:=t;exact B e
    ·obtain ⟨o,e,_⟩:=C;exact B e
   rw [Jag ne];exact (L c f).1
 done:=by
  intro X Z V hK f i F s σ H E I L m R;subst Z V hK;obtain ⟨r,g,⟨u,v,j⟩,t,C⟩:=m;obtain ⟨xs,ys,N,J,he⟩:=R;obtain ⟨O,rx,px,zx⟩:=I.list N;obtain ⟨Y,ry,S,zy⟩:=I.list J;have lx:=rx.length;have ly:=ry.length;refine wpAny_pyNext_zip_end (I.ok.hd f) D r g j t C px.isList S.isList (by
   rcases he with he | he
   ·exact .inl (by simp;ac_nf)
   ·exact .inr (by simp;ac_nf)) fun h' M=>⟨rfl,?_⟩
  exact I.turnedL (t':=s.toks) (ch:=[z,TI,TO,i1,i2]) (fun c o f e=>by
   simp only [mem_cons,not_mem_nil,or_false,not_or] at f;exact M c o f.1 f.2.2.1 f.2.2.2.1 f.2.2.2.2 e) L
 self:=fun A i s Q E m q=>wpAny_pyIter_zip m.1 q
section
variable {X:Cx} {elts:List Expr} {x1:Nat} {tp:Pos}
def iZip (K:W.Frag) (ta:TA):TI:=fun σ H R=>ta σ H fun vs H1=>∃ a b,vs=[.ref a, .ref b]/\(∃ xs,SqL K H1 a xs)/\(∃ ys,SqL K H1 b ys)/\R (Itz K a b) H1
theorem Jlv {a b:Expr} {ta:TA} {p pos:Pos} (hg:Gl X "zip") (hm:X.mg "zip"=none) (hv:bootBuiltins "zip"=some (.type "zip")) (ha:PA X [a,b] ta)
  (he:starEach [a,b] X.env=(false,eval a X.env)::starEach [b] X.env:=by rfl) (hpl:(backTo pos (starEach [b] X.env)).any (·.1)=false:=by rfl) :
  PI X (.Tuple elts x1 tp) (.Call (.Name "zip" p) [a,b] [] pos) (iZip X.K ta):=by
 intro g s σ H R I h;refine wpAny_Call_Name_kw (JdZ I hg hm hv ?_);refine PyProof.Rows.callWith_type1 (thn (ha pos g s σ H _ I h) fun P d ζ=>?_) he hpl;obtain ⟨S,J,I1,C,E⟩:=ζ;obtain ⟨i,j,e,⟨T,G⟩,⟨Q,x⟩,q⟩:=E;subst e;obtain ⟨u,v,rfl,B,t⟩:=vals2 C;cases (show u=Value.ref i from B);cases (show v=Value.ref j from t);obtain ⟨o,N,l,V⟩:=I1.list G;obtain ⟨w,O,m,M⟩:=I1.list x;have r:i<d.heap.objs.size:=by obtain ⟨_,e,_⟩:=l.isList;exact Heap.lt_size e
 have z:j<d.heap.objs.size:=by obtain ⟨_,e,_⟩:=m.isList;exact Heap.lt_size e
 refine call_zip_2 l.isList m.isList fun U k D y L F W A=>?_;have ZA:ZipApart (d.heap.objs.size+4) (d.heap.objs.size+2) (d.heap.objs.size+3) d.heap.objs.size (d.heap.objs.size+1) i j:=za _ i j r z;refine wpAny_pyIter_zip k ?_;refine ⟨d.heap.objs.size+4,[d.heap.objs.size+4,d.heap.objs.size+2,d.heap.objs.size+3,d.heap.objs.size,d.heap.objs.size+1],_,_,J,rfl,I1.kept (t':=d.toks) A,Jjs ZA,⟨k,D,⟨_,_,y⟩,L,F⟩,fun c n=>?_,q⟩;have f:d.heap.objs.size<=c:=by
  simp only [mem_cons,not_mem_nil,or_false] at n;rcases n with rfl | rfl | rfl | rfl | rfl
  ·exact Nat.le_add_right _ _
  ·exact Nat.le_add_right _ _
  ·exact Nat.le_add_right _ _
  ·exact Nat.le_refl _
  ·exact Nat.le_add_right _ _
 exact I1.fpOk f (I1.hok.fresh f)
end
section
variable {σ : St} {H:Hp} {Q:VK} {td ty tv tx:TE} {K:W.Frag} {En:Ends}
theorem y3dy:tDGet td ty σ H Q=td σ H fun x H1=>ty σ H1 fun y H2=>∃ a v,x=.ref a/\DGet H2 a y (some v)/\Q v H2:=rfl
theorem y46y:sDPut td ty tv En σ H=tv σ H fun v H1=>td σ H1 fun x H2=>ty σ H2 fun y H3=>∃ a H4,x=.ref a/\DPut H3 a y v H4/\En.nx σ H4:=rfl
theorem y42y:JjO σ H Q=∀ p,H p=none->Q (.ref p) (upd H p (.dK [])):=rfl
end
theorem hu1 {a b:Nat} (h:a+64<b):a+1<b:=by ac_nf
section
variable {X:Cx}
def rMul0:R2:=fun x y H Q=>match x,y with
 | .str z, .int n=>0<=n/\n<1000/\z.length<=1000/\∀ z':Str,z'.cps.toList=(List.replicate n.toNat z.cps.toList).flatten->Q (.str z') H
 | x,y=>rMulS x y H Q
theorem JaI:OpR X (binaryOp .Mult) rMul0:=fun a s σ H x y v u Q I c b q=>by
 unfold rMul0 at q;split at q
 ·rename_i z n;obtain ⟨g,d,e,q⟩:=q;by_cases f:n=0
  ·subst f;obtain ⟨t,rfl⟩:=c;obtain ⟨h,rfl⟩:=b;exact PySem.P.mul_str_none ⋯ ⋯ ⟨.str _,H,I.tok _,⟨_,rfl⟩,q Str.empty rfl⟩
  ·exact Jih a s σ H _ _ v u Q I c b ⟨by ac_nf,d,e,q⟩
 ·exact Jih a s σ H _ _ v u Q I c b q
end
section
variable {K:W.Frag} {H:Hp} {Q:VK} {σ : St} {td ty:TE}
theorem y6by {i j:Int}:rMul0 (.int i) (.int j) H Q=(IntMulOk i j/\Q (.int (i*j)) H):=rfl
theorem y3ey:JjM td ty σ H Q=td σ H fun x H1=>∃ a,x=.ref a/\IsD H1 a/\ty σ H1 fun y H2=>∃ o,DGet H2 a y o/\Q (o.getD .non) H2:=rfl
end
theorem ForA.byL {K:W.Frag} {a:Addr} {xs:List V} {g:TG} {tb:TS} {D:Ends} {σ : St} {H:Hp} (hA:SqL K H a xs) (Pv:Nat->St->Hp->Prop) (h0:Pv 0 σ H) (hl:∀ i σ H',Pv i σ H'->SqL K H' a xs)
  (hs:∀ i x σ H,xs[i]?=some x->Pv i σ H->g x σ H fun σ2 H2=>tb { D with nx:=Pv (i+1),ct:=Pv (i+1),bk:=D.nx } σ2 H2) (hd:∀ σ H,Pv xs.length σ H->D.nx σ H):ForA K a g tb D σ H:=by
 refine .inl ⟨⟨xs,hA⟩,fun i m σ H=>Pv i σ H/\i<=xs.length/\m=xs.length-i,⟨_,h0,Nat.zero_le _,rfl⟩,?_⟩;rintro i m σ H ⟨c,h,rfl⟩;have b:=hl i σ H c;by_cases d:i<xs.length
 ·refine .inr ⟨⟨xs,xs[i],b,List.getElem?_eq_getElem d⟩,Pv (i+1),fun σ' H' p=>⟨_,Nat.sub_lt_sub_left d (Nat.lt_succ_self i),p,d,rfl⟩,?_⟩;rintro x H' ⟨rfl,f⟩;exact hs i x σ _ (f xs b) c
 ·have e:i=xs.length:=by ac_nf
  subst e;exact .inl ⟨⟨xs,b,Nat.le_refl _⟩,hd σ H c⟩
def ForJ (J:It) (g:TG) (tb:TS) (D:Ends) (σ : St) (H:Hp):Prop:=∃ W:Nat->Nat->St->Hp->Prop,(∃ m,W 0 m σ H)/\∀ i m σ H,W i m σ H ->
 (J.stop i H/\D.nx σ H)\/(J.go i H/\∃ N:St->Hp->Prop,(∀ σ' H',N σ' H'->∃ m',m'<m/\W (i+1) m' σ' H')/\∀ x H',J.yld i H x H'->g x σ H' fun σ2 H2=>tb { D with nx:=N,ct:=N,bk:=D.nx } σ2 H2)
theorem y54y {K:W.Frag} {ta:TA} {g:TG} {tb:TS} {D:Ends} {σ : St} {H:Hp}:tFor (iZip K ta) g tb D σ H=ta σ H fun vs H1=>∃ a b,vs=[.ref a, .ref b]/\(∃ xs,SqL K H1 a xs)/\(∃ ys,SqL K H1 b ys)/\ForJ (Itz K a b) g tb D σ H1:=rfl
theorem ForJ.zip {K:W.Frag} {a b:Addr} {xs ys:List V} {g:TG} {tb:TS} {D:Ends} {σ : St} {H:Hp} (Pv:Nat->St->Hp->Prop) (h0:Pv 0 σ H) (hl:∀ i σ H',Pv i σ H'->SqL K H' a xs/\SqL K H' b ys)
  (hs:∀ i x y σ H p H',xs[i]?=some x->ys[i]?=some y->Pv i σ H->H p=none->Same H H'->H' p=some (.tup [x,y])->g (.ref p) σ H' fun σ2 H2=>tb { D with nx:=Pv (i+1),ct:=Pv (i+1),bk:=D.nx } σ2 H2)
  (hd:∀ σ H,Pv (min xs.length ys.length) σ H->D.nx σ H):ForJ (Itz K a b) g tb D σ H:=by
 refine ⟨fun i m σ H=>Pv i σ H/\i<=min xs.length ys.length/\m=min xs.length ys.length-i,⟨_,h0,Nat.zero_le _,rfl⟩,?_⟩;rintro i m σ H ⟨c,q,rfl⟩;obtain ⟨d,f⟩:=hl i σ H c;by_cases h:i<min xs.length ys.length
 ·have k:i<xs.length:=by ac_nf
  have n:i<ys.length:=by ac_nf
  refine .inr ⟨⟨xs,ys,xs[i],ys[i],d,f,List.getElem?_eq_getElem k,List.getElem?_eq_getElem n⟩,Pv (i+1),fun σ' H' p=>⟨_,Nat.sub_lt_sub_left h (Nat.lt_succ_self i),p,h,rfl⟩,?_⟩;rintro v H' ⟨p,x,y,o,l,j,rfl,rfl⟩;exact hs i x y σ H p _ (o xs d) (l ys f) c j (newS j rfl) (newE rfl)
 ·have e:i=min xs.length ys.length:=by ac_nf
  subst e;exact .inl ⟨⟨xs,ys,d,f,by ac_nf⟩,hd σ H c⟩
theorem compL {K:W.Frag} {cs:List (Nat × Str)} {k:Nat} {g:TG} {te:TE} {σ : St} {a:Addr} {xs:List V} {H1:Hp} {Q:VK} (Pv:Nat->List V->Hp->Prop) (h0:Pv 0 [] H1) (hl:∀ i ys H',i<=xs.length->Pv i ys H'->SqL K H' a xs/\ys.length<=sizeLine)
  (hs:∀ i x ys H2,xs[i]?=some x->Pv i ys H2->g x (List.replicate k none++JaF cs σ) H2 fun σ4 H4=>te σ4 H4 fun y H5=>Pv (i+1) (ys++[y]) H5) (hd:∀ ys H2,Pv xs.length ys H2->∀ p,H2 p=none->Q (.ref p) (upd H2 p (.lst ys))) :
  ∃ W:Nat->Nat->List V->Hp->Prop,(∃ m,W 0 m [] H1)/\∀ i m ys H2,W i m ys H2->ys.length<=sizeLine/\(((Itl K a).stop i H2/\∀ p,H2 p=none->Q (.ref p) (upd H2 p (.lst ys))) \/
   ((Itl K a).go i H2/\∀ x H3,(Itl K a).yld i H2 x H3->g x (List.replicate k none++JaF cs σ) H3 fun σ4 H4=>te σ4 H4 fun y H5=>∃ m',m'<m/\W (i+1) m' (ys++[y]) H5)):=by
 refine ⟨fun i m ys H2=>Pv i ys H2/\i<=xs.length/\m=xs.length-i,⟨_,h0,Nat.zero_le _,rfl⟩,?_⟩;rintro i m ys H2 ⟨c,h,rfl⟩;obtain ⟨b,f⟩:=hl i ys H2 h c;refine ⟨f,?_⟩;by_cases d:i<xs.length
 ·refine .inr ⟨⟨xs,xs[i],b,List.getElem?_eq_getElem d⟩,?_⟩;rintro x H3 ⟨rfl,j⟩;have e:(fun (σ4:St) (H4:Hp)=>te σ4 H4 fun y H5=>Pv (i+1) (ys++[y]) H5)=fun σ4 H4=>te σ4 H4 fun y H5=>∃ m',m'<xs.length-i/\Pv (i+1) (ys++[y]) H5/\i+1<=xs.length/\m'=xs.length-(i+1):=by
   funext σ4 H4
   congr 1
   funext y H5
   exact propext ⟨fun q=>⟨_,Nat.sub_lt_sub_left d (Nat.lt_succ_self i),q,d,rfl⟩,fun ⟨_,_,q,_⟩=>q⟩
  rw [<- e];exact hs i x ys _ (j xs b) c
 ·have e:i=xs.length:=by ac_nf
  subst e;exact .inl ⟨⟨xs,b,Nat.le_refl _⟩,hd ys H2 c⟩
theorem Jk2 {K:W.Frag} {cs:List (Nat × Str)} {k:Nat} {g:TG} {tt:TT} {te:TE} {σ : St} {a:Addr} {xs:List V} {H1:Hp} {Q:VK} (Pv:Nat->List V->Hp->Prop) (h0:Pv 0 [] H1) (hl:∀ i ys H',i<=xs.length->Pv i ys H'->SqL K H' a xs/\ys.length<=sizeLine)
  (hs:∀ i x ys H2,xs[i]?=some x->Pv i ys H2->g x (List.replicate k none++JaF cs σ) H2 fun σ4 H4=>tt σ4 H4 fun b H5=>if b=true then te σ4 H5 fun y H6=>Pv (i+1) (ys++[y]) H6 else Pv (i+1) ys H5) (hd:∀ ys H2,Pv xs.length ys H2->∀ p,H2 p=none->Q (.ref p) (upd H2 p (.lst ys))) :
  ∃ W:Nat->Nat->List V->Hp->Prop,(∃ m,W 0 m [] H1)/\∀ i m ys H2,W i m ys H2->ys.length<=sizeLine/\(((Itl K a).stop i H2/\∀ p,H2 p=none->Q (.ref p) (upd H2 p (.lst ys))) \/
   ((Itl K a).go i H2/\∀ x H3,(Itl K a).yld i H2 x H3->g x (List.replicate k none++JaF cs σ) H3 fun σ4 H4=>tt σ4 H4 fun b H5=>if b=true then te σ4 H5 fun y H6=>∃ m',m'<m/\W (i+1) m' (ys++[y]) H6 else ∃ m',m'<m/\W (i+1) m' ys H5)):=by
 refine ⟨fun i m ys H2=>Pv i ys H2/\i<=xs.length/\m=xs.length-i,⟨_,h0,Nat.zero_le _,rfl⟩,?_⟩;rintro i m ys H2 ⟨d,n,rfl⟩;obtain ⟨h,l⟩:=hl i ys H2 n d;refine ⟨l,?_⟩;by_cases j:i<xs.length
 ·refine .inr ⟨⟨xs,xs[i],h,List.getElem?_eq_getElem j⟩,?_⟩;rintro x H3 ⟨rfl,r⟩;have w:∀ (f:List V) (H5:Hp),Pv (i+1) f H5=∃ m',m'<xs.length-i/\Pv (i+1) f H5/\i+1<=xs.length/\m'=xs.length-(i+1):=fun f H5=>
   propext ⟨fun q=>⟨_,Nat.sub_lt_sub_left j (Nat.lt_succ_self i),q,j,rfl⟩,fun ⟨_,_,q,_⟩=>q⟩
  have o:(fun (y:V) (H6:Hp)=>Pv (i+1) (ys++[y]) H6)=fun y H6=>∃ m',m'<xs.length-i/\Pv (i+1) (ys++[y]) H6/\i+1<=xs.length/\m'=xs.length-(i+1):=by
   funext y H6
   exact w _ _
  have e:(fun (σ4:St) (H4:Hp)=>tt σ4 H4 fun b H5=>if b=true then te σ4 H5 fun y H6=>Pv (i+1) (ys++[y]) H6 else Pv (i+1) ys H5)=fun σ4 H4=>tt σ4 H4 fun b H5=>if b=true then te σ4 H5 fun y H6=>∃ m',m'<xs.length-i/\Pv (i+1) (ys++[y]) H6/\i+1<=xs.length/\m'=xs.length-(i+1) else ∃ m',m'<xs.length-i/\Pv (i+1) ys H5/\i+1<=xs.length/\m'=xs.length-(i+1):=by
   funext σ4 H4
   congr 1
   funext b H5
   by_cases c:b=true
   ·rw [if_pos c,if_pos c, <- o]
   ·rw [if_neg c,if_neg c];exact w ys H5
  have:=hs i x ys _ (r xs h) d;rw [e] at this;exact this
 ·have e:i=xs.length:=by ac_nf
  subst e;exact .inl ⟨⟨xs,h,Nat.le_refl _⟩,hd ys H2 d⟩
end L2
namespace Ch
open PySem
structure TD where
 nm:Str
 st:Str
 en:Str
 lo:Option (Int × Int)
 hi:Option (Int × Int)
structure SD where
 src:Str
 dst:Str
 c:Int × Int
 nm:Str
 fw:Bool
def fwd (t:TD):List SD:=match t.hi with
 | some h=>[⟨t.st,t.en,h,t.nm,true⟩]
 | none=>[]
def bwd (t:TD):List SD:=match t.lo with
 | some l=>[⟨t.en,t.st,(-l.1,l.2),t.nm,false⟩]
 | none=>[]
def steps (t:TD):List SD:=fwd t++bwd t
def all (ts:List TD):List SD:=ts.flatMap steps
abbrev Pr:=Str × Bool
def key (s:SD):Pr:=(s.nm,s.fw)
def lastA (acc:Option SD) (ss:List SD) (k:Pr):Option SD:=ss.foldl (fun a s=>if key s=k then some s else a) acc
def last (ss:List SD) (k:Pr):Option SD:=lastA none ss k
def addF (a c:Int × Int):Int × Int:=(Mth.top (a.1*c.2+c.1*a.2) (a.2*c.2),Mth.bot (a.1*c.2+c.1*a.2) (a.2*c.2))
structure FOk (n:Nat) (a:Int × Int):Prop where
 s1:Mth.Sz n a.1
 s2:Mth.Sz n a.2
 b1:1<=a.2
 g1:Mth.g a.1 a.2=1
end Ch
namespace L2
open PySem PySem.Spec PyProof.Rows Ch
def isTF:HO->Bool
 | .tup _=>true
 | .frz _ _=>true
 | _=>false
def SameT (H H':Hp):Prop:=∀ b u,isTF u=true->H b=some u->H' b=some u
theorem SameT.refl (H:Hp):SameT H H:=fun _ _ _ h=>h
theorem SameT.trans {H H1 H2:Hp} (a:SameT H H1) (b:SameT H1 H2):SameT H H2:=fun c o t h=>b c o t (a c o t h)
theorem Same.t {H H':Hp} (a:Same H H'):SameT H H':=fun b u _ h=>a b u h
theorem SameT.put {H H':Hp} {l:Addr} {o o':HO} (e:upd H l o=H') (hl:H l=some o') (ht:isTF o'=false):SameT H H':=fun b u t h=>by
 rw [<- e,Jag (ne_of h hl fun q=>by rw [q,ht] at t;cases t)];exact h
theorem SqT.sameT {K:W.Frag} {H H':Hp} {a:Addr} {xs:List V} (e:SameT H H') (h:SqT K H a xs):SqT K H' a xs:=by
 rcases h with (h | ⟨o,h⟩) | h
 ·exact .inl (.inl (e _ _ rfl h))
 ·exact .inl (.inr ⟨o,e _ _ rfl h⟩)
 ·exact .inr h
theorem FrV.sameT {K:W.Frag} {H H':Hp} {v:V} {a b:Int} (S:SameT H H') (h:FrV K H v a b):FrV K H' v a b:=by
 obtain ⟨p,e,q⟩:=h;exact ⟨p,e,q.sameT S⟩
def frD (a:Int × Int):D:=.tup [.int a.1, .int a.2]
def bD:Option (Int × Int)->D
 | none=>.non
 | some a=>frD a
def tdD (t:TD):D:=.tup [.str t.nm, .str t.st, .str t.en,bD t.lo,bD t.hi]
def BV (K:W.Frag) (H:Hp):Option (Int × Int)->V->Prop
 | none,v=>v=.non
 | some a,v=>FrV K H v a.1 a.2
theorem BV.rep {K:W.Frag} {H:Hp} {o:Option (Int × Int)} {v:V} (h:BV K H o v):Rep K H (bD o) v:=by
 cases o with
 | none=>simp only [bD,Rep];exact h
 | some a=>exact FrV.rep h
theorem BV.sameT {K:W.Frag} {H H':Hp} {o:Option (Int × Int)} {v:V} (S:SameT H H') (h:BV K H o v):BV K H' o v:=by
 cases o with
 | none=>exact h
 | some a=>exact FrV.sameT S h
def TV (K:W.Frag) (H:Hp) (t:TD) (x:V):Prop:=∃ b vl vg,x=.ref b/\SqT K H b [.str t.nm, .str t.st, .str t.en,vl,vg]/\BV K H t.lo vl/\BV K H t.hi vg
def CV (H:Hp) (c:Pr) (x:V):Prop:=∃ b,x=.ref b/\H b=some (.tup [.str c.1, .bl c.2])
section
variable {K:W.Frag} {H H':Hp}
theorem TV.sameT {t:TD} {x:V} (S:SameT H H'):TV K H t x->TV K H' t x:=by rintro ⟨b,vl,c,e,q,d,a⟩;exact ⟨b,vl,c,e,q.sameT S,d.sameT S,a.sameT S⟩
theorem CV.sameT {c:Pr} {x:V} (S:SameT H H'):CV H c x->CV H' c x:=fun ⟨b,e,q⟩=>⟨b,e,S _ _ rfl q⟩
theorem TV.rep {t:TD} {x:V}:TV K H t x->Rep K H (tdD t) x:=fun ⟨b,vl,d,e,q,c,a⟩=>by
 simp only [tdD,Rep,RepL];exact ⟨b,_,e,q,_,_,rfl,rfl,_,_,rfl,rfl,_,_,rfl,rfl,_,_,rfl,c.rep,_,_,rfl,a.rep,rfl⟩
end
def All2 {α : Type} (P : α->V->Prop):List α->List V->Prop
 | [],xs=>xs=[]
 | a::as,xs=>∃ x r,xs=x::r/\P a x/\All2 P as r
section
variable {α : Type} {P P' : α->V->Prop}
theorem All2.mono:∀ {as:List α} {xs:List V},(∀ a x,P a x->P' a x)->All2 P as xs->All2 P' as xs
 | [],_,_,h=>h
 | a::as,xs,f,h=>by
  obtain ⟨x,r,e,h1,h2⟩:=h;exact ⟨x,r,e,f _ _ h1,All2.mono f h2⟩
theorem All2.length:∀ {as:List α} {xs:List V},All2 P as xs->xs.length=as.length
 | [],_,h=>by rw [show _=_ from h];rfl
 | a::as,xs,h=>by
  obtain ⟨x,r,e,h1,h2⟩:=h;rw [e,length_cons,length_cons,h2.length]
theorem All2.at_:∀ {as:List α} {xs:List V} {i:Nat} {x:V},All2 P as xs->xs[i]?=some x->∃ a,as[i]?=some a/\P a x
 | [],_,_,_,h,hx=>by rw [show _=_ from h] at hx;simp at hx
 | a::as,xs,i,y,h,hx=>by
  obtain ⟨x,r,e,h1,h2⟩:=h;subst e;cases i with
  | zero=>simp at hx;subst hx;exact ⟨a,rfl,h1⟩
  | succ i=>simpa using All2.at_ h2 (by simpa using hx)
theorem All2.get:∀ {as:List α} {xs:List V} {i:Nat} {a : α},All2 P as xs->as[i]?=some a->∃ x,xs[i]?=some x/\P a x
 | [],_,_,_,h,hx=>by simp at hx
 | a::as,xs,i,b,h,hx=>by
  obtain ⟨x,r,e,h1,h2⟩:=h;subst e;cases i with
  | zero=>simp at hx;subst hx;exact ⟨x,rfl,h1⟩
  | succ i=>simpa using All2.get h2 (by simpa using hx)
theorem All2.append:∀ {as bs:List α} {xs ys:List V},All2 P as xs->All2 P bs ys->All2 P (as++bs) (xs++ys)
 | [],bs,xs,ys,h,g=>by rw [show xs=[] from h];exact g
 | a::as,bs,xs,ys,h,g=>by
  obtain ⟨x,r,e,h1,h2⟩:=h;subst e;exact ⟨x,r++ys,rfl,h1,All2.append h2 g⟩
theorem All2.one {a : α} {x:V} (h:P a x):All2 P [a] [x]:=⟨x,[],rfl,h,rfl⟩
theorem All2.take:∀ {as:List α} {xs:List V} (j:Nat),All2 P as xs->All2 P (as.take j) (xs.take j)
 | as,xs,0,_=>by simp only [take_zero];exact rfl
 | [],xs,j+1,h=>by rw [show xs=[] from h];simp;exact rfl
 | a::as,xs,j+1,h=>by
  obtain ⟨x,r,e,h1,h2⟩:=h;subst e;exact ⟨x,r.take j,by simp,h1,All2.take j h2⟩
theorem All2.drop:∀ {as:List α} {xs:List V} (j:Nat),All2 P as xs->All2 P (as.drop j) (xs.drop j)
 | as,xs,0,h=>by simpa using h
 | [],xs,j+1,h=>by rw [show xs=[] from h];simp;exact rfl
 | a::as,xs,j+1,h=>by
  obtain ⟨x,r,e,h1,h2⟩:=h;subst e;simpa using All2.drop j h2
theorem All2.repL {K:W.Frag} {H:Hp} {f : α->D} (g:∀ a x,P a x->Rep K H (f a) x):∀ {as:List α} {xs:List V},All2 P as xs->RepL K H (as.map f) xs
 | [],xs,h=>by simp only [map_nil,RepL];exact h
 | a::as,xs,h=>by
  obtain ⟨x,r,e,h1,h2⟩:=h;simp only [map_cons,RepL];exact ⟨x,r,e,g _ _ h1,All2.repL g h2⟩
end
structure TOk (t:TD):Prop where
 n1:nameS t.nm=true
 n2:nameS t.st=true
 n3:nameS t.en=true
 ne:t.st≠t.en
 lo:∀ a,t.lo=some a->FOk 600 a
 hi:∀ a,t.hi=some a->FOk 600 a
 le:lessD (bD t.hi) (bD t.lo)=false
theorem len8 {z:Str} (h:nameS z=true):z.length<=8:=by
 unfold nameS at h;simp only [Bool.and_eq_true,decide_eq_true_eq] at h;exact h.1.2
theorem bD_ok {o:Option (Int × Int)} (h:∀ a,o=some a->FOk 600 a):JcC (bD o)=true/\szD (bD o):=by
 cases o with
 | none=>exact ⟨rfl,by simp only [bD,szD]⟩
 | some a=>
  have k:=h a rfl;refine ⟨by simp [bD,frD,JcC,fracB,k.b1,k.g1],?_⟩;simp only [bD,frD,szD,szL];exact ⟨k.s1.mono ⋯,k.s2.mono ⋯,trivial⟩
theorem TOk.tie {t:TD} (h:TOk t):tieB (tdD t)=true:=by
 have e:eqD (.str t.st) (.str t.en)=false:=by simp only [eqD,beq_eq_false_iff_ne];exact h.ne
 simp [tdD,tieB,nameB,JcD,h.n1,h.n2,h.n3,e,JdR,(bD_ok h.lo).1,(bD_ok h.hi).1,h.le]
theorem TOk.sz {t:TD} (h:TOk t):szD (tdD t):=by
 simp only [tdD,szD,szL];have:=len8 h.n1;have:=len8 h.n2;have:=len8 h.n3;exact ⟨by ac_nf,by ac_nf,by ac_nf,(bD_ok h.lo).2,(bD_ok h.hi).2,trivial⟩
section
variable {K:W.Frag} {H:Hp} {kvs:List (List Key × V)} {ss:List SD}
end
def CompJ (J:It) (k:Nat) (cs:List (Nat × Str)) (g:TG) (te:TE) (σ : St) (Q:VK) (H1:Hp):Prop:=∃ W:Nat->Nat->List V->Hp->Prop,(∃ m,W 0 m [] H1)/\∀ i m ys H2,W i m ys H2->ys.length<=sizeLine /\
  ((J.stop i H2/\∀ p,H2 p=none->Q (.ref p) (upd H2 p (.lst ys))) \/
   (J.go i H2/\∀ x H3,J.yld i H2 x H3->g x (List.replicate k none++JaF cs σ) H3 fun σ4 H4=>te σ4 H4 fun y H5=>∃ m',m'<m/\W (i+1) m' (ys++[y]) H5))
def Jcw (J:It) (k:Nat) (cs:List (Nat × Str)) (g:TG) (tt:TT) (te:TE) (σ : St) (Q:VK) (H1:Hp):Prop:=∃ W:Nat->Nat->List V->Hp->Prop,(∃ m,W 0 m [] H1)/\∀ i m ys H2,W i m ys H2->ys.length<=sizeLine /\
  ((J.stop i H2/\∀ p,H2 p=none->Q (.ref p) (upd H2 p (.lst ys))) \/
   (J.go i H2/\∀ x H3,J.yld i H2 x H3->g x (List.replicate k none++JaF cs σ) H3 fun σ4 H4=>tt σ4 H4 fun b H5=>if b=true then te σ4 H5 fun y H6=>∃ m',m'<m/\W (i+1) m' (ys++[y]) H6 else ∃ m',m'<m/\W (i+1) m' ys H5))
section
variable {K:W.Frag} {k:Nat} {cs:List (Nat × Str)} {g:TG} {tt:TT} {te tl:TE} {σ : St} {H H1:Hp} {Q:VK} {a:Addr} {xs:List V}
theorem y34y:tComp k cs (iAny K tl) g te σ H Q=tl σ H fun x H1=>∃ a,x=.ref a/\(((∃ xs,SqL K H1 a xs)/\CompJ (Itl K a) k cs g te σ Q H1)\/((∃ xs,SqT K H1 a xs)/\CompJ (Itt K a) k cs g te σ Q H1)):=rfl
theorem y36y:Jf1 k cs (iAny K tl) g tt te σ H Q=tl σ H fun x H1=>∃ a,x=.ref a/\(((∃ xs,SqL K H1 a xs)/\Jcw (Itl K a) k cs g tt te σ Q H1)\/((∃ xs,SqT K H1 a xs)/\Jcw (Itt K a) k cs g tt te σ Q H1)):=rfl
theorem CompJ.list (Pv:Nat->List V->Hp->Prop) (h0:Pv 0 [] H1) (hl:∀ i ys H',i<=xs.length->Pv i ys H'->SqL K H' a xs/\ys.length<=sizeLine)
  (hs:∀ i x ys H2,xs[i]?=some x->Pv i ys H2->g x (List.replicate k none++JaF cs σ) H2 fun σ4 H4=>te σ4 H4 fun y H5=>Pv (i+1) (ys++[y]) H5) (hd:∀ ys H2,Pv xs.length ys H2->∀ p,H2 p=none->Q (.ref p) (upd H2 p (.lst ys))) :
  CompJ (Itl K a) k cs g te σ Q H1:=compL Pv h0 hl hs hd
theorem Jcw.list (Pv:Nat->List V->Hp->Prop) (h0:Pv 0 [] H1) (hl:∀ i ys H',i<=xs.length->Pv i ys H'->SqL K H' a xs/\ys.length<=sizeLine)
  (hs:∀ i x ys H2,xs[i]?=some x->Pv i ys H2->g x (List.replicate k none++JaF cs σ) H2 fun σ4 H4=>tt σ4 H4 fun b H5=>if b=true then te σ4 H5 fun y H6=>Pv (i+1) (ys++[y]) H6 else Pv (i+1) ys H5) (hd:∀ ys H2,Pv xs.length ys H2->∀ p,H2 p=none->Q (.ref p) (upd H2 p (.lst ys))) :
  Jcw (Itl K a) k cs g tt te σ Q H1:=Jk2 Pv h0 hl hs hd
end
theorem JgM (x y:Str):(x++y).cps.toList=x.cps.toList++y.cps.toList:=by
 show (x.cps++y.cps).toList=_;simp
theorem JdL (z:Str):z.length=z.cps.toList.length:=by simp [Str.length]
section
variable {ss:List SD} {c:Pr} {cs:List Pr} {s:SD} {tot:Int × Int} {f l:Str}
end
theorem JgQ {α : Type} {f : α->D} {n:Nat} (h:∀ a,depD (f a)<=n):∀ as:List α,depL (as.map f)<=n
 | []=>by simp [depL]
 | a::as=>by
  rw [map_cons,depL];exact Nat.max_le.mpr ⟨h a,JgQ h as⟩
section
variable {K:W.Frag} {H:Hp} {Q:VK}
end
section
variable {prog:Program} {w:World} {A:Around} {E:Value->Shared->Prop} {s:Shared}
end
section
variable {prog:Program} {w:World} {A:Around} {E:Value->Shared->Prop} {s:Shared}
end
section
variable {prog:Program} {w:World} {A:Around} {E:Value->Shared->Prop} {s:Shared}
end
section
variable {M:Model} {A:Around} {E:Value->Shared->Prop} {s:Shared}
end
section
variable {prog:Program} {w:World} {A:Around} {E:Value->Shared->Prop} {s:Shared}
section
variable {I a:Addr} {es:Array (Int × Value)} {i ep:Nat} {t:SetTable} {Q:Option Value->Shared->Prop}
end
end
section
variable {prog:Program} {w:World} {A:Around} {E:Value->Shared->Prop} {s:Shared}
end
section
variable {prog:Program} {w:World} {A:Around} {E:Value->Shared->Prop} {s:Shared}
theorem Jke {S r:Addr} {R:Result->Shared->Prop} (h:wpAny (model prog w) A.in1 (Builtin.List.listExtendWith (.ref S) (.ref r) (.ref S)) (fun fin s'=>match fin with | .done f=>R (.ok f) s' | .again c'=>c'.quiet=true/\codeAny (model prog w) A c' R s') (fun e s'=>R (.error e) s') s) :
  codeAny (model prog w) A (.builtin "list.__iadd__" ⟨[.ref S, .ref r],[]⟩) R s:=by
 refine codeAny_builtin (PySem.F.entry_list_iadd) ?_;rw [Around.under_plainId (PySem.F.plain_list_iadd) _];exact h
theorem JhB {r:Addr} {ss:List Str} {Q:Value->Shared->Prop} (h64:ss.length<64)
  (hx:∀ (R:Result->Shared->Prop),(∀ s' (vs:List Value) c' ss',(∀ b o,s.heap.get? b=some o->s'.heap.get? b=some o)->s'.gens=s.gens->s'.os=s.os->s.toks<=s'.toks ->
    s'.heap.get? s.heap.objs.size=some { cls:=.type "list",dict:=none,data:=.seq vs.toArray c',slots:=#[] }->StrsAre vs ss'->ss'.Perm ss->R (.ok (.ret (.ref s.heap.objs.size))) s') ->
   codeAny (model prog w) A.in1 (.builtin "list.__iadd__" ⟨[.ref s.heap.objs.size, .ref r],[]⟩) R { s with heap:=s.heap.push { cls:=.type "list",data:=.seq ([]:List Value).toArray } })
  (q:∀ s' l (out:Array Value) ss' e,(∀ b o,s.heap.get? b=some o->s'.heap.get? b=some o)->s'.gens=s.gens->s'.os=s.os->s.toks<=s'.toks->s.heap.objs.size<=l->s'.heap.get? l=some (seqObj "list" out e)->StrsAre out.toList ss'->ss'.Perm ss->sortedS ss'=true->Q (.ref l) s') :
  wpAny (model prog w) A (call (.builtin "sorted") [.ref r]) Q E s:=by
 refine Calls.call_function_entry kind_sorted plain_sorted entry_sorted (args_sorted1 _) ?_;unfold Builtin.«sorted»;refine wpAny_bind (m:=checkCount "sorted" 1 1 _) (wpAny_pure ?_);refine wpAny_bind ?_;unfold collect;refine wpAny_bind (wpAny_runValue (codeAny_builtin (PySem.F.entry_proto_collect) ?_));rw [Around.under_plainId (PySem.F.plain_proto_collect) _];show wpAny _ A.in1.in1 (newList [] >>= fun l=>again (.builtin "list.__iadd__" ⟨[l, .ref r],[]⟩)) _ _ s;refine wpAny_bind (wpAny_newObj_type ?_);refine wpAny_pure ⟨plainId_quiet (PySem.F.plain_list_iadd) _,hx _ fun s' vs c' D k z u n h a j=>?_⟩;refine wpAny_bind (m:=load s.heap.objs.size) (wpAny_load h (wpAny_pure ?_));have vl:vs.length<64:=by rw [a.length,j.length_eq];exact h64
 have v:(64:Nat)<=sizeLine:=by decide
 dsimp only;refine wpAny_bind (wpAny_newList ?_ (by show vs.length<=sizeLine;ac_nf));have g:(s'.heap.push (seqObj "list" vs.toArray 0)).get? s'.heap.objs.size=some (seqObj "list" vs.toArray 0):=Heap.get?_push_size _ rfl;refine wpAny_bind (wpAny_holding (wpAny_call_entry slot_list_sort ⟨_,g,rfl⟩ entry_list_sort (list_sort_treeK strKind_oneLt g a.keysOf (fun H G rest e=>keyKind_strs (by rw [<- e];exact a)) vl fun C c f=>⟨_,rfl,?_⟩) (args_list_sort _)));obtain ⟨d,B,p,y⟩:=sorted_out_str a c f;obtain ⟨t,x⟩:=sortedHeap_at (out:=(arrOf C).map (·.2)) g;refine wpAny_pure ⟨_,rfl,q _ s'.heap.objs.size _ d t (fun b o e=>?_) z u n ?_ x B (p.trans j) y⟩
 ·have i:=Heap.lt_size (k b o e);rw [sortedHeap_old (Nat.ne_of_lt i) (by rw [size_push'];exact Nat.lt_succ_of_lt i)];exact Heap.get?_push_of_some _ (k b o e)
 ·exact Nat.le_of_lt (Heap.lt_size h)
theorem JiF:∀ (vs:List Value),(∀ v∈vs, ∃ x t,v=.str x t)->StrsAre vs (vs.map strOf)
 | [],_=>.nil
 | v::vs,h=>by
  obtain ⟨x,t,rfl⟩:=h v (by simp);exact .cons x t (JiF vs fun u hu=>h u (by simp [hu]))
theorem JgH {K:Type} [DecidableEq K] {knd:PySem.KeyKind prog w K} {d:Addr} {kvs:List (K × Value)} {ep:Nat} {ss:List Str} {Q:Value->Shared->Prop} (hh:A.handled=none) (lo:(d == sysModules)=false) (hd:s.heap.DictAt knd d kvs ep) (h64:kvs.length<64)
  (hl:ss.length=kvs.length) (hk:∀ i k x v,kvs[i]?=some (k,x)->knd.is k v=true->∃ t,v=.str (ss.getD i ⟨#[]⟩) t)
  (q:∀ s' l (out:Array Value) ss' e,(∀ b o,s.heap.get? b=some o->s'.heap.get? b=some o)->s'.gens=s.gens->s'.os=s.os->s.toks<=s'.toks->s.heap.objs.size<=l->s'.heap.get? l=some (seqObj "list" out e)->StrsAre out.toList ss'->ss'.Perm ss->sortedS ss'=true->Q (.ref l) s') :
  wpAny (model prog w) A (call (.builtin "sorted") [.ref d]) Q E s:=by
 have I:(64:Nat)<=sizeLine:=by decide
 have G:=hd.lt_size;have L:A.in1.handled=none:=by simp [hh]
 refine JhB (ss:=ss) ∅ (fun R k=>?_) q;obtain ⟨B,h⟩:∃ B:Result->Shared->Prop, ∀ r s',B r s'↔∃ g z a p,r=.ok (.ret (.ref s.heap.objs.size))/\s'={ s with heap:=g,toks:=z }/\(∀ b o,b≠s.heap.objs.size->(s.heap.push { cls:=.type "list",data:=.seq ([]:List Value).toArray }).get? b=some o->g.get? b=some o)/\g.get? s.heap.objs.size=some { cls:=.type "list",dict:=none,data:=.seq a p,slots:=#[] }/\ItemsOf (fun i v=>∃ k x,kvs[i]?=some (k,x)/\knd.is k v=true) a kvs.length:=⟨_,fun _ _=>Iff.rfl⟩;have j:=codeAny_toks_of (n:=s.toks) (s:={ s with heap:=s.heap.push { cls:=.type "list",data:=.seq ([]:List Value).toArray } }) (Nat.le_refl _) (Jke (A:=A.in1) (R:=B)
  (W.kdl_extend (R:=B) (s:={ s with heap:=s.heap.push { cls:=.type "list",data:=.seq ([]:List Value).toArray } }) (W.kdl_dict (knd:=knd) (kvs:=kvs) (ep:=ep) lo) L (hd.push _) s.heap.objs.size (Nat.ne_of_gt G) (Nat.ne_of_gt G) (.ref s.heap.objs.size) 0 (Heap.get?_push_size _ rfl) (fun g z a p F hl f=>(h _ _).mpr ⟨g,z,a,p,rfl,rfl,F,hl,f⟩) ∅))
 refine codeAny_mono j ?_;rintro r s' ⟨S,M⟩;obtain ⟨g,z,a,p,rfl,rfl,F,m,f⟩:=(h _ _).mp M;have P:StrsAre a.toList ss:=by
  have u:∀ v∈a.toList, ∃ x t,v=.str x t:=fun v O=>by
   obtain ⟨i,H⟩:=List.getElem?_of_mem O;rw [Array.getElem?_toList] at H;obtain ⟨C,x,y,D⟩:=f.2 i v H;obtain ⟨t,e⟩:=hk i C x v y D;exact ⟨_,t,e⟩
  have:=JiF _ u;have e:a.toList.map strOf=ss:=by
   refine List.ext_getElem? fun i=>?_;rw [List.getElem?_map,Array.getElem?_toList];have T:a.size=kvs.length:=f.1;by_cases c:i<kvs.length
   ·have y:a[i]?=some a[i]:=Array.getElem?_eq_getElem ∅;obtain ⟨C,x,D,J⟩:=f.2 i _ y;obtain ⟨t,N⟩:=hk i C x _ D J;rw [y,Option.map_some,N,List.getElem?_eq_getElem ∅];simp [strOf,List.getD_eq_getElem?_getD,List.getElem?_eq_getElem (show i<ss.length by ac_nf)]
   ·rw [Array.getElem?_eq_none ∅,List.getElem?_eq_none ∅];rfl
  rw [e] at this;exact this
 exact k _ a.toList p ss (fun b o e=>F b o (Nat.ne_of_lt (Heap.lt_size e)) (Heap.get?_push_of_some _ e)) rfl rfl S (by rw [Array.toArray_toList];exact m) P (.refl _)
end
theorem Jkn:typeLookup (.type "list") "keys"=pure none:=by rw [typeLookup_type,builtinLookup_eq_fast];kernel_rfl
section
variable {prog:Program} {w:World} {A:Around} {E:Value->Shared->Prop} {s:Shared} {a:Addr} {its:Array Value} {n:Nat}
theorem Jki {Q:Option Value->Shared->Prop} (hh:A.handled=none) (hx:s.heap.get? a=some { cls:=.type "list",dict:=none,data:=.seq its n,slots:=#[] })
   (q:∀ h' t',(∀ b o,s.heap.get? b=some o->h'.get? b=some o)->Q none { s with heap:=h',toks:=t' }) :
    wpAny (model prog w) A (getAttr? (.ref a) "keys") Q E s:=by
  obtain ⟨j,g,d,p,i⟩:=s;have h:∀ c,(⟨j,g,d,c,i⟩:Shared).TypeIs (.ref a) "list":=fun _=>⟨_,hx,rfl⟩;have k:=sub_AttributeError;have r:=PySem.F.slot_list_getattribute.lookup;have u:=PySem.F.slot_list_getattribute.bind (.ref a);have t:=am_list_getattr_none;unfold getAttr?;unfold getAttrBy?;unfold getAttrBy;repeat (any_goals (first | assumption | exact h _ | ((with_reducible show wpAny _ _ (call (Value.builtin "list.__getattribute__") _ _) _ _ _);refine call_meets PySem.F.slot_list_getattribute (h _) am_entry_list_getattribute (PySem.F.args_list_getattribute_2 _ _) (meets_getattribute_miss_list a its n #[] "keys" _ Jkn (by decide +kernel) ⋯) ⟨hx,hh,fun h' c e f=>?_⟩) | wp_step))
  obtain ⟨t',l,m⟩:=f.there;show wpAny _ _ (getattributeRaised _ _ _ _ _ _ _) _ _ _;unfold getattributeRaised;repeat (any_goals (first | assumption | wp_step))
  exact q h' c f.keeps
end
theorem JfD:entryFor table "dict.update.loop"=some Builtin.«dict.update.loop»:=entryFor_of_tree (by kernel_rfl)
theorem Jdh:plainId "dict.update.loop"=true:=by decide +kernel
def dkv (key:Nat->Str) (val:Nat->Value) (i:Nat):List (Key × Value):=(List.range i).foldl (fun l j=>PySem.stored l (Sum.inr (key j)) (val j)) []
theorem JeZ (key:Nat->Str) (val:Nat->Value) (i:Nat):dkv key val (i+1)=PySem.stored (dkv key val i) (Sum.inr (key i)) (val i):=by
 unfold dkv;rw [List.range_succ,List.foldl_append];rfl
theorem Jgf (key:Nat->Str) (val:Nat->Value):∀ i,(dkv key val i).length<=i
 | 0=>Nat.le_refl _
 | i+1=>by
  have:=Jgf key val i;rw [JeZ];unfold PySem.stored;split <;> simp <;> ac_nf
section
variable {prog:Program} {w:World} {A:Around} {E:Value->Shared->Prop} {s:Shared}
def JdB (h:Heap) (a:Addr) (k v:Value):Prop:=∃ o c,h.get? a=some o/\o.cls=.type "tuple"/\o.data=.seq #[k,v] c
theorem JdB.at_ {h h':Heap} {a:Addr} {k v:Value} (x:JdB h a k v) (m:∀ o,h.get? a=some o->h'.get? a=some o):JdB h' a k v:=by
 obtain ⟨o,c,e,r⟩:=x;exact ⟨o,c,m o e,r⟩
theorem Jkq {z:Str} {t:Tok}:(Jau prog w).is (Sum.inr z) (.str z t)=true:=by
 show keyIs (Sum.inr z) (.str z t)=true;simp [keyIs,Value.isStrOf]
theorem JhO {R:Result->Shared->Prop} {I:Addr} {fp wr:List Addr} {G:Array GenState->Array GenState->Prop} {n:Nat} {P:Nat->Value->Prop} {St:Nat->Shared->Prop}
  (W:WalksS prog w A.in1 I fp wr G n P St) (d:Addr) (hdf:d∉fp) (adr:Nat->Addr) (key:Nat->Str) (val:Nat->Value) (hP:∀ i v,P i v->v=.ref (adr i)) (nd:∀ i,i<n->adr i≠d) (nw:∀ i,i<n->adr i∉wr) (hz:n<=sizeLine) :
  ∀ (k i:Nat) (s:Shared),n-i=k->i<=n->St i s->s.heap.DictOf (Jau prog w) d (dkv key val i)->(∀ j,j<n->∃ tk,JdB s.heap (adr j) (.str (key j) tk) (val j)) ->
   (∀ s',Moved (d::wr) G s s'->s'.heap.DictOf (Jau prog w) d (dkv key val n)->R (.ok (.ret .none)) s') ->
   codeAny (model prog w) A (.builtin "dict.update.loop" ⟨[.ref d, .ref I, .int (i:Int) 0, .none],[]⟩) R s:=by
 have O:d∉wr:=fun h=>hdf (W.sub _ h);have N:∀ b∈wr,b∈d::wr:=fun b h=>mem_cons_of_mem _ h;intro k;induction k with
 | zero=>
  intro i s Q V J t l q;have : i=n:=by ac_nf
  subst this;refine codeAny_builtin JfD ?_;rw [Around.under_plainId Jdh _];refine wpAny_bind (m:=pyNext (.ref I)) (W.done s _ _ J fun s' f=>?_);refine wpAny_bind (m:=Builtin.Dict.addKeywords d []) (wpAny_pure (wpAny_pure ?_));refine q s' (f.mono N) ?_;obtain ⟨o,u,E,y,rest⟩:=t;exact ⟨o,u,E,f.heap d o O y,rest⟩
 | succ k ih=>
  intro i s Q V J t l q;have c:i<n:=by ac_nf
  refine codeAny_builtin JfD ?_;rw [Around.under_plainId Jdh _];refine wpAny_bind (m:=pyNext (.ref I)) (W.item i s _ _ c J fun v s' Y r f=>?_);rw [hP i v Y];have H:s'.heap.DictOf (Jau prog w) d (dkv key val i):=by
   obtain ⟨o,u,E,y,rest⟩:=t;exact ⟨o,u,E,f.heap d o O y,rest⟩
  have a:∀ j,j<n->∃ tk,JdB s'.heap (adr j) (.str (key j) tk) (val j):=fun j g=>by
   obtain ⟨tk,e⟩:=l j g;exact ⟨tk,e.at_ fun o z=>f.heap _ o (nw j g) z⟩
  obtain ⟨tk,ot,ct,L,p,B⟩:=a i c;have dl:=Jgf key val i;refine wpAny_bind (wpAny_holding ?_);refine wpAny_bind (wpAny_tryCatch ?_);unfold Builtin.Dict.pairItems;refine wpAny_bind (wpAny_typeOf (T:="tuple") ⟨_,L,p⟩ ?_);rw [if_pos ⋯];unfold seqItems?;refine wpAny_bind (wpAny_bind (wpAny_load L ?_));rw [B];refine wpAny_pure (wpAny_pure ?_);show wpAny _ _ (holding [Value.str (key i) tk,val i] (dictSet d (.str (key i) tk) (val i))) _ _ _;refine wpAny_holding (wpAny_dictSet_pairs (knd:=Jau prog w) (k:=Sum.inr (key i)) Jkq H (fun M Z K=>?_) ∅);have F:M.DictOf (Jau prog w) d (dkv key val (i+1)):=by
   rw [JeZ];exact Z
  refine wpAny_pure ⟨plainId_quiet Jdh _,ih (i+1) { s' with heap:=M,toks:=s'.toks+1 } ∅ c (W.frame _ s' _ _ r (Nat.le_succ _) fun b x o e=>?_) F (fun j g=>?_) fun X U D=>?_⟩
  ·rw [K.2 b (fun h:b=d=>hdf (h ▸ x))];exact e
  ·obtain ⟨C,S⟩:=a j g;exact ⟨C,S.at_ fun o z=>(K.2 _ (nd j g)).trans z⟩
  ·refine q X (Moved.trans W.gtrans ((f.mono N).then_heap (Nat.le_succ _) fun b o x e=>?_) U) D;rw [K.2 b (fun h:b=d=>x (by rw [h];exact mem_cons_self))];exact e
theorem JdS {l:Addr} {items:Array Value} {c0:Nat} {Q:Value->Shared->Prop} (hh:A.handled=none) (hl:s.heap.get? l=some { cls:=.type "list",dict:=none,data:=.seq items c0,slots:=#[] }) (adr:Nat->Addr) (key:Nat->Str) (val:Nat->Value)
  (hP:∀ (i:Nat) (v:Value),items[i]?=some v->v=.ref (adr i)) (tup:∀ j,j<items.size->∃ tk,JdB s.heap (adr j) (.str (key j) tk) (val j)) (hz:items.size<=sizeLine)
  (q:∀ h' tk,(∀ b o,s.heap.get? b=some o->h'.get? b=some o)->h'.DictOf (Jau prog w) s.heap.objs.size (dkv key val items.size)->Q (.ref s.heap.objs.size) { s with heap:=h',toks:=tk }) :
  wpAny (model prog w) A (call (.type "dict") [.ref l]) Q E s:=by
 refine callType_codes (Q₁:=fun f C=>f=.ref s.heap.objs.size/\C={ s with heap:=s.heap.push { cls:=.type "dict",data:=.dict #[] } }) (PySem.F.kt_called_dict) (PySem.F.kt_typeCall_dict_1 _) (PySem.F.entry_dict_init) (kt_code_dict_new _ ⟨rfl,rfl⟩) ?_;rintro f C ⟨rfl,rfl⟩;have k:(s.heap.push { cls:=.type "dict",data:=.dict #[] }).DictOf (Jau prog w) s.heap.objs.size []:=Heap.DictOf.new s.heap;refine ⟨k.typeIs,PySem.F.args_dict_init_2 _ _,?_⟩;generalize g:({ cls:=.type "dict",data:=.dict #[] }:Obj)=o0 at k ⊢;have n:(s.heap.push o0).get? l=some { cls:=.type "list",dict:=none,data:=.seq items c0,slots:=#[] }:=Heap.get?_push_of_some _ hl;have L:=Heap.lt_size hl;have V:(s.heap.push o0).objs.size=s.heap.objs.size+1:=Heap.size_push ..;unfold Builtin.«dict.__init__»;refine wpAny_bind ?_;unfold Builtin.Dict.selfAndRest;refine wpAny_bind (wpAny_notOrdered_dict k.typeIs (wpAny_pure ?_));show wpAny _ _ (Builtin.Dict.updateFrom "dict.__init__" s.heap.objs.size (.ref l) [] Value.none) _ _ _;unfold Builtin.Dict.updateFrom;refine wpAny_bind (wpAny_typeOf (T:="list") ⟨_,n,rfl⟩ ?_);rw [if_pos ⋯];have M:A.in1.in1.handled=none:=by simp [hh]
 refine wpAny_bind (Jki M n fun d K m=>?_);refine wpAny_ite_split (fun _=>?_) (fun z=>absurd rfl z);refine wpAny_bind (wpAny_rule ?_);have y:=m _ _ n;have I:d.DictOf (Jau prog w) s.heap.objs.size []:=by
  obtain ⟨o,x,D,g,rest⟩:=k;exact ⟨o,x,D,m _ _ g,rest⟩
 have dlt:s.heap.objs.size<d.objs.size:=by
  obtain ⟨o,x,D,g,rest⟩:=I;exact Heap.lt_size g
 have B:d.IsList l items:=⟨_,y,rfl,c0,rfl⟩;refine wpAny_bind (wpAny_pyIter_list (s:=⟨d,s.gens,s.drawn,K,s.os⟩) B ?_);have H:∀ j,j<items.size->adr j<s.heap.objs.size:=fun j a=>by
  obtain ⟨tk,o,c,e,_⟩:=tup j a;exact Heap.lt_size e
 have t:l<d.objs.size:=Heap.lt_size y;have r:A.in1.in1.handled=none:=by simp [hh]
 refine wpAny_pure ⟨plainId_quiet Jdh _,?_⟩;refine JhO ((Walks.list r d.objs.size l (Nat.ne_of_lt t) items).toS) s.heap.objs.size (by simp only [mem_cons,not_mem_nil,or_false,not_or];exact ⟨Nat.ne_of_lt dlt,Nat.ne_of_gt L⟩) adr key val hP (fun j a=>Nat.ne_of_lt (H j a)) (fun j a=>by simp only [mem_cons,not_mem_nil,or_false];exact Nat.ne_of_lt (Nat.lt_trans (H j a) dlt)) hz items.size 0 _ ∅ (Nat.zero_le _) ⟨⟨_,Heap.get?_push_size _ rfl,rfl,rfl⟩,B.push _⟩ (I.push _) (fun j a=>?_) fun U h O=>?_
 ·obtain ⟨tk,e⟩:=tup j a;exact ⟨tk,e.at_ fun o z=>Heap.get?_push_of_some _ (m _ _ (Heap.get?_push_of_some _ z))⟩
 ·obtain ⟨h',R,P,p,u⟩:=U;have N:R=s.gens:=h.gens;have S:P=s.drawn:=h.drawn;have J:u=s.os:=h.os;subst N;subst S;subst J;refine ⟨rfl,q h' p (fun b o e=>?_) O⟩;have G:=Heap.lt_size e;refine h.heap b o ?_ (Heap.get?_push_of_some _ (m _ _ (Heap.get?_push_of_some _ e)));simp only [mem_cons,not_mem_nil,or_false,not_or];exact ⟨Nat.ne_of_lt G,Nat.ne_of_lt (Nat.lt_trans G dlt)⟩
end
section
variable {X:Cx} {pins:List (Addr × Obj)} {σ : List (Option V)} {H:Hp} {s s':Shared}
theorem Inv.like (I:Inv X pins σ H { s with heap:=s'.heap,toks:=s'.toks }) (eg:s'.gens=s.gens) (eo:s'.os=s.os):Inv X pins σ H s' :=
 ⟨I.ok,by rw [eo];exact I.os,by rw [eg];exact I.bare,I.base,I.loc,I.cell,I.free,I.freeC,I.pin,I.hok,I.len⟩
theorem Jf6:∀ {vs:List Value} {ss:List Str},StrsAre vs ss->Vals (ss.map V.str) vs
 | _,_, .nil=>.nil
 | _,_, .cons z t r=>.cons ⟨t,rfl⟩ (Jf6 r)
def JjW (out ss:List Str):Prop:=out.Perm ss/\sortedS out=true
def JlC (xs:List V) (H:Hp) (Q:VK):Prop:=∃ d kvs ss,xs=[.ref d]/\H d=some (.dK kvs)/\kvs.map (·.1)=ss.map Sum.inr/\ss.length<64/\∀ l out,H l=none->JjW out ss->Q (.ref l) (upd H l (.lst (out.map V.str)))
theorem JeI (hc:X.calm=true):CallR X (.builtin "sorted") JlC:=by
 intro G s σ H xs us Q I r h;obtain ⟨d,a,ss,rfl,e,n,Y,q⟩:=h;obtain ⟨u,rfl,R⟩:=vals1 r;cases R;obtain ⟨L,N,B,f,J⟩:=dk_of I.hok e;obtain ⟨ep,C⟩:=J.dictAt;have sl:(64:Nat)<=sizeLine:=by decide
 have Z:ss.length=a.length:=by simpa using (congrArg List.length n).symm
 have U:B.length=a.length:=f.length.symm;have j:B.map (·.1)=a.map (·.1):=by
  clear J C n Z U L q e;induction f with
  | nil=>rfl
  | cons h1 _ ih=>
   rw [map_cons,map_cons,ih,h1.1]
 refine JgH (ss:=ss) (I.ok.hd hc) N C ∅ ∅ (fun i k x v S W=>?_) fun K l g c M k T O et F P E p A=>?_
 ·have D:(B.map (·.1))[i]?=some k:=by rw [List.getElem?_map,S];rfl
  rw [j,n,List.getElem?_map] at D;obtain ⟨z,m,rfl⟩:=Option.map_eq_some_iff.mp D;rcases JaN (show keyIs (Sum.inr z) v=true from W) with ⟨b,hb,_⟩ | ⟨y,t,hy,rfl⟩
  ·cases hb
  ·cases hy;exact ⟨t,by rw [List.getD_eq_getElem?_getD,m];rfl⟩
 ·have lo:g.toList.length<=sizeLine:=by
   rw [E.length,p.length_eq];ac_nf
  refine ⟨.ref l,_,Inv.like (s:=s) (I.laid (t':=K.toks) (o:=.lst (c.map V.str)) k F (show ObjOk X.prog X.w _ K.heap l (.lst (c.map V.str)) from ⟨by rw [length_map,p.length_eq];ac_nf,g.toList,M,Jf6 E,by rw [Array.toArray_toList];exact P⟩)) T O,rfl,q l c (I.hok.fresh F) ⟨p,A⟩⟩
def JdD (ps:List (Str × V)):List (Key × V):=ps.foldl (fun l p=>putK l (Sum.inr p.1) p.2) []
def Jly (xs:List V) (H:Hp) (Q:VK):Prop:=∃ (l:Addr) (as:List Addr) (ps:List (Str × V)),xs=[.ref l]/\H l=some (.lst (as.map V.ref))/\as.length=ps.length/\(∀ (i:Nat) (a:Addr) (p:Str × V),as[i]?=some a->ps[i]?=some p->H a=some (.tup [.str p.1,p.2]))/\∀ d,H d=none->Q (.ref d) (upd H d (.dK (JdD ps)))
theorem Jhc (hc:X.calm=true):CallR X (.type "dict") Jly:=by
 intro O s σ H xs us Q I r h;obtain ⟨l,b,d,rfl,e,hl,hp,q⟩:=h;obtain ⟨u,rfl,W⟩:=vals1 r;cases W;obtain ⟨S,A,n,ri,G,T⟩:=I.lstM e;have E:b.length<=sizeLine:=by simpa using S
 have li:A.length=b.length:=by simpa using G.symm
 have Y:∀ j,j<b.length->∃ u a p f,b[j]?=some a/\d[j]?=some p/\RelV p.2 u/\JdB s.heap a (.str p.1 f) u:=fun j y=>by
  have B:=List.getElem?_eq_getElem y;have w:=List.getElem?_eq_getElem (l:=d) (i:=j) ∅;obtain ⟨_,ts,C,o,U,K,nn,hd⟩:=I.hok _ _ (hp j _ _ B w);cases C with
  | cons r1 C=>
   cases C with
   | cons r2 C=>
    cases C;obtain ⟨f,rfl⟩:=r1;exact ⟨_,_,_,f,B,w,r2,o,nn,U,K,hd⟩
 obtain ⟨D,m⟩:=Classical.skolem.mp (show ∀ j:Nat, ∃ u:Value,j<b.length->∃ a p f,b[j]?=some a/\d[j]?=some p/\RelV p.2 u/\JdB s.heap a (.str p.1 f) u from fun j=>by
  by_cases c:j<b.length
  ·obtain ⟨u,h⟩:=Y j c;exact ⟨u,fun _=>h⟩
  ·exact ⟨.none,fun z=>absurd z c⟩)
 have g:∀ j a,b[j]?=some a->b.getD j 0=a:=fun j a h=>by rw [List.getD_eq_getElem?_getD,h];rfl
 have t:∀ j (p:Str × V),d[j]?=some p->(d.getD j (⟨#[]⟩, .non)).1=p.1:=fun j p h=>by rw [List.getD_eq_getElem?_getD,h];rfl
 have J:A.toArray.size=b.length:=by rw [size_toArray];exact li
 refine JdS (I.ok.hd hc) T (fun j=>b.getD j 0) (fun j=>(d.getD j (⟨#[]⟩, .non)).1) D (fun j v L=>?_) (fun j y=>?_) ∅ fun h' f k P=>?_
 ·rw [List.getElem?_toArray] at L;have y:j<b.length:=by have:=(List.getElem?_eq_some_iff.mp L).1;ac_nf
  obtain ⟨u,M,Z⟩:=ri.get (i:=j) (x:=.ref b[j]) (by rw [List.getElem?_map,List.getElem?_eq_getElem y];rfl);rw [L] at M;cases M;rw [g j _ (List.getElem?_eq_getElem y)];exact Z
 ·obtain ⟨a,p,f,B,w,R,N⟩:=m j ∅;refine ⟨f,?_⟩;rw [g j a B,t j p w];exact N
 ·have F:∀ i,i<=b.length->KV (JdD (d.take i)) (dkv (fun j=>(d.getD j (⟨#[]⟩, .non)).1) D i):=fun i=>by
   induction i with
   | zero=>intro _;exact .nil
   | succ i ih=>
    intro hi;obtain ⟨a,p,f,B,w,R,N⟩:=m i ∅;rw [JeZ,take_succ,w];unfold JdD;rw [List.foldl_append];rw [t i p w];exact (ih ∅).put _ R
  have r:=F b.length (Nat.le_refl _);rw [take_of_length_le ∅] at r;have ln:(JdD d).length<=sizeLine:=by
   rw [r.length];exact Nat.le_trans (Jgf _ _ _) E
  rw [J] at P;exact ⟨.ref s.heap.objs.size,_,I.laid (a:=s.heap.objs.size) (o:=.dK (JdD d)) (t':=f) k (Nat.le_refl _) (JgS ln (beq_eq_false_iff_ne.mpr (Ne.symm (Nat.ne_of_lt I.big))) r P),rfl,q _ (I.hok.fresh (Nat.le_refl _))⟩
end
def negF (a:Int × Int):Int × Int:=(-a.1,a.2)
def lessF (a c:Int × Int):Bool:=decide (a.1*c.2<c.1*a.2)
structure FB (A B:Nat) (a:Int × Int):Prop where
 s1:Mth.Sz A a.1
 s2:Mth.Sz B a.2
 b1:1<=a.2
 g1:Mth.g a.1 a.2=1
theorem FB.ok {A B n:Nat} {a:Int × Int} (h:FB A B a) (h1:A<=n) (h2:B<=n):FOk n a:=⟨h.s1.mono h1,h.s2.mono h2,h.b1,h.g1⟩
theorem FB.neg {A B:Nat} {a:Int × Int} (h:FB A B a):FB A B (negF a):=⟨by
 have:=h.s1;unfold Mth.Sz at this ⊢;unfold negF;rw [Int.natAbs_neg];exact this,h.s2,h.b1,by
 have:=h.g1;unfold Mth.g negF at *;simpa using this⟩
theorem FB.add {A B C D n m:Nat} {a c:Int × Int} (h:FB A B a) (k:FB C D c) (h1:A+D<=n) (h2:C+B<=n) (h3:B+D<=m):FB (n+1) m (addF a c):=by
 have b:a.2*c.2≠0:=Int.mul_ne_zero (by have:=h.b1;ac_nf) (by have:=k.b1;ac_nf);have e:=(h.s1.mul k.s2).mono h1;have d:=(k.s1.mul h.s2).mono h2;exact ⟨Mth.Sz.top b (e.add d),(Mth.Sz.bot b (h.s2.mul k.s2)).mono h3,Mth.JcV b,Mth.g_low b⟩
theorem FB.low {A B:Nat} {t b:Int} (hb:1<=b) (h1:Mth.Sz A t) (h2:Mth.Sz B b):FB A B (Mth.top t b,Mth.bot t b):=by
 have a:b≠0:=by ac_nf
 exact ⟨Mth.Sz.top a h1,Mth.Sz.bot a h2,Mth.JcV a,Mth.g_low a⟩
theorem JkB {X:Cx} {K:W.Frag} {e:Expr} {ta:TE} {f:Str} {pos:Pos} (hK:X.K=K) (he:PE X e ta) (hb:attributeBase e f X.env (eval e X.env)=eval e X.env):PE X (.Attribute e f pos) (tFld K ta f):=by
 subst hK;exact Jaq he hb
structure FW (A B:Nat) (a:Int × Int):Prop where
 s1:Mth.Sz A a.1
 s2:Mth.Sz B a.2
 b1:1<=a.2
theorem FB.w {A B:Nat} {a:Int × Int} (h:FB A B a):FW A B a:=⟨h.s1,h.s2,h.b1⟩
theorem FW.mono {A B C D:Nat} {a:Int × Int} (h:FW A B a) (h1:A<=C) (h2:B<=D):FW C D a:=⟨h.s1.mono h1,h.s2.mono h2,h.b1⟩
section
variable {X:Cx} {K:W.Frag} {o e:Expr} {es:List Expr} {to:TE} {t:TA} {name:Str} {apos cpos:Pos} {T id:String} {r:V->List V->Hp->VK->Prop}
end
section
variable {X:Cx}
theorem JiP {kvs:List (Key × V)} {vs:List (Key × Value)} (r:KV kvs vs):Vals (kvs.map (·.2)) (vs.map (·.2)):=by
 unfold KV at r;induction r with
 | nil=>exact .nil
 | cons h _ ih=>exact .cons h.2 ih
end
section
variable {prog:Program} {w:World} {A:Around} {E:Value->Shared->Prop} {s:Shared}
end
section
variable {X:Cx}
end
section
variable {X:Cx} {k k':Nat} {x mn:Str} {C:Addr} {Cs:Addr->Prop} {ps:List Str} {sp:Sp} {p pos apos:Pos} {e o:Expr} {es:List Expr} {t:TA} {ta:TE}
abbrev TX:=St->Hp->VK->XK->Prop
end
section
variable {X:Cx}
end
section
variable {σ : St} {H:Hp} {Q:VK} {E:XK} {ta td ty:TE} {ts:TA} {tc:TT} {t u:TX} {C:Addr} {sp:Sp} {Cs:Addr->Prop} {m:Str}
theorem y40y:tDIn ty td σ H Q=ty σ H fun y H1=>td σ H1 fun x H2=>∃ a o,x=.ref a/\DGet H2 a y o/\Q (.bl o.isSome) H2:=rfl
theorem y44y:JiH ty td σ H Q=ty σ H fun y H1=>td σ H1 fun x H2=>∃ a o,x=.ref a/\DGet H2 a y o/\Q (.bl (!o.isSome)) H2:=rfl
end
section
variable {α κ : Type} [DecidableEq κ] {f : α->κ} {k : κ} {u y : α}
end
section
variable {α : Type} {P : α->V->Prop}
end
section
variable {P P':TD->V->Prop} {ts:List TD} {kvs:List (Key × V)} {t:TD} {v:V}
end
theorem sub_len {α : Type} [DecidableEq α]:∀ (l m:List α),l.Nodup->l ⊆ m->l.length<=m.length
 | [],m,_,_=>by simp
 | a::l,m,hn,hs=>by
  rw [nodup_cons] at hn;have ha:a∈m:=hs (by simp);have:=sub_len l (m.erase a) hn.2 fun x hx=>(List.mem_erase_of_ne (show x≠a from fun e=>hn.1 (e ▸ hx))).mpr (hs (by simp [hx]));rw [List.length_erase_of_mem ha] at this;have:=List.length_pos_of_mem ha;rw [length_cons];ac_nf
section
variable {X:Cx} {pins:List (Addr × Obj)} {σ : St} {H:Hp} {s:Shared} {a:Addr} {kvs:List (Key × V)} {k:Key} {u r:Value} {y:V} {A:Around} {E:Value->Shared->Prop}
theorem Jjm {v:Option V} {o:Option Value} {w:Value} (h:RelO v o) (e:o=some w):∃ x,v=some x/\RelV x w:=by
 subst e;cases v with
 | none=>exact absurd h (by simp [RelO])
 | some x=>exact ⟨x,rfl,h⟩
theorem Jjl {v:Option V} {o:Option Value} (h:RelO v o) (e:o=none):v=none:=by
 subst e;cases v with
 | none=>rfl
 | some x=>exact absurd h (by simp [RelO])
theorem JiY {Q:Value->Shared->Prop} (I:Inv X pins σ H s) (e:H a=some (.dK kvs)) (ry:RelV (kV k) u) (rd:RelV y r) (hl:kvs.length<sizeLine)
  (h1:∀ v w' s',valV kvs k=some v->Inv X pins σ H s'->RelV v w'->Q w' s') (h2:∀ s',valV kvs k=none->Inv X pins σ (upd H a (.dK (putK kvs k y))) s'->Q r s') :
  wpAny (model X.prog X.w) A (call (.builtin "dict.setdefault") [.ref a,u,r]) Q E s:=by
 obtain ⟨z,f,o,b,d⟩:=dk_of I.hok e;refine call_meetsIn PySem.F.slot_dict_setdefault d.typeIs PySem.F.entry_dict_setdefault (PySem.F.args_dict_setdefault_3 _ _ _) (PySem.kt_meets_setdefault (Jau X.prog X.w) a (kV_is ry) f r) ⟨o,d,by rw [<- b.length];exact z,fun w n=>?_,fun p t c m=>?_⟩
 ·obtain ⟨x,j,h⟩:=Jjm (b.val k) n;exact h1 x w _ j (I.tok _) h
 ·have i:=Jjl (b.val k) p;refine h2 _ i ?_;have l:∃ q,t.get? a=some q:=let ⟨q,_,_,hq,_⟩:=c;⟨q,hq⟩;have g:(putK kvs k y).length<=sizeLine:=by have:=Jbg kvs k y;ac_nf
  exact JeY I (by rw [e];exact True.intro) m l (JgS g f (b.put k rd) c)
end
def tDSet (td ty tx:TE):TE:=fun σ H Q=>td σ H fun x H1=>∃ a,x=.ref a/\IsD H1 a/\ty σ H1 fun y H2=>tx σ H2 fun z H3=>∃ kvs k,H3 a=some (.dK kvs)/\y=kV k/\kvs.length<sizeLine /\
 (∀ v,valV kvs k=some v->Q v H3)/\(valV kvs k=none->Q z (upd H3 a (.dK (putK kvs k z))))
section
variable {X:Cx} {o e f:Expr} {apos cpos:Pos} {td ty tx:TE}
theorem Jim (ho:PE X o td) (he:PE X e ty) (hf:PE X f tx) (m:M2 X o "setdefault" apos e f cpos):PE X (.Call (.Attribute o "setdefault" apos) [e,f] [] cpos) (tDSet td ty tx):=by
 intro b s σ H Q I h;refine wpAny_Call_method m.base m.few m.line PySem.F.plainAttrs_dict PySem.F.slot_dict_setdefault PySem.F.type_dict_setdefault (thn (ho b s σ H _ I h) fun u r ζ=>?_);obtain ⟨x,L,I1,A,a,j,d,K⟩:=ζ;subst j;obtain rfl:u=Value.ref a:=A;obtain ⟨C,w,_⟩:=JfG I1 d;refine ⟨C,w,?_⟩;rw [m.trees];refine Calls.callWith_builtin rfl (Calls.evalArgs_plain (Calls.spliced_cons (thn (he b r σ L _ I1 K) fun R J ⟨y,E,I2,t,q⟩=>
  Calls.spliced_cons (thn (hf b J σ E _ I2 q) fun P S ⟨z,G,I3,i,M,k,N,B,n,p,l⟩=>Calls.spliced_nil ?_))))
 subst B;exact JiY I3 N t i n (fun v O D g I4 c=>⟨v,G,I4,c,p v g⟩) fun D g I4=>⟨z,_,I4,i,l g⟩
end
section
variable {X:Cx}
end
section
variable {σ : St} {H:Hp} {Q:VK} {td ty tx:TE}
theorem y48y:tDSet td ty tx σ H Q=td σ H fun x H1=>∃ a,x=.ref a/\IsD H1 a/\ty σ H1 fun y H2=>tx σ H2 fun z H3=>∃ kvs k,H3 a=some (.dK kvs)/\y=kV k/\kvs.length<sizeLine/\(∀ v,valV kvs k=some v->Q v H3)/\(valV kvs k=none->Q z (upd H3 a (.dK (putK kvs k z)))):=rfl
theorem y3fy:JjN td ty tx σ H Q=td σ H fun x H1=>∃ a,x=.ref a/\IsD H1 a/\ty σ H1 fun y H2=>tx σ H2 fun z H3=>∃ o,DGet H3 a y o/\Q (o.getD z) H3:=rfl
theorem y41y {trs:List (TE × TE)}:tDisp trs σ H Q=∀ p,H p=none->Jf2 trs σ (upd H p (.dK [])) fun ps H2=>H2 p=some (.dK [])/\∃ kvs:List (Key × V),ps=kvs.map (fun kv=>(kV kv.1,kv.2))/\kvs.length<=15/\Q (.ref p) (upd H2 p (.dK (JeP [] kvs))):=rfl
theorem y7cy {tk tv:TE} {R:List (V × V)->Hp->Prop}:Jf2 [(tk,tv)] σ H R=tk σ H fun x H1=>tv σ H1 fun y H2=>R [(x,y)] H2:=rfl
theorem y2dy {K:W.Frag} {T:String} {r:V->List V->Hp->VK->Prop} {to:TE}:tBM0 K T r to σ H Q=to σ H fun x H1=>tyV K T x H1/\r x [] H1 Q:=rfl
end
def BG {α : Type} (f : α->Str) (P : α->V->Prop) (as:List α) (kvs:List (Key × V)):Prop:=kvs.map (·.1)=as.map (fun a=>Sum.inr (f a))/\All2 P as (kvs.map (·.2))
section
variable {α : Type} {f : α->Str} {P P' : α->V->Prop} {as:List α} {kvs:List (Key × V)} {a : α} {v:V}
theorem BG.mono (h:BG f P as kvs) (m:∀ a x,P a x->P' a x):BG f P' as kvs:=⟨h.1,h.2.mono m⟩
theorem BG.length (h:BG f P as kvs):kvs.length=as.length:=by simpa using congrArg List.length h.1
theorem BG.cons:BG f P (a::as) kvs↔∃ w r,kvs=(Sum.inr (f a),w)::r/\P a w/\BG f P as r:=by
 constructor
 ·rintro ⟨b,c⟩;match kvs,b,c with
  | (k,w)::r,b,c=>
   rw [map_cons,map_cons,List.cons.injEq] at b;obtain ⟨y,g,e,p,c⟩:=c;rw [map_cons,List.cons.injEq] at e;obtain ⟨rfl,rfl⟩:=e;obtain ⟨d,b⟩:=b;have d:k=Sum.inr (f a):=d;subst d;exact ⟨_,r,rfl,p,b,c⟩
 ·rintro ⟨w,r,rfl,p,h⟩;exact ⟨by rw [map_cons,map_cons,h.1],w,r.map (·.2),rfl,p,h.2⟩
theorem BG.nil:BG f P [] kvs↔kvs=[]:=by
 constructor
 ·rintro ⟨h,_⟩;simpa using h
 ·rintro rfl;exact ⟨rfl,rfl⟩
theorem BG.any:∀ {as:List α} {kvs:List (Key × V)} {z:Str},BG f P as kvs->(kvs.any fun kv=>decide (kv.1=Sum.inr z))=decide (z∈as.map f)
 | [],kvs,z,h=>by rw [BG.nil.mp h];simp
 | a::as,kvs,z,h=>by
  obtain ⟨w,r,rfl,_,h⟩:=BG.cons.mp h;rw [any_cons,BG.any h];by_cases c:f a=z
  ·subst c;simp
  ·have c1:(Sum.inr (f a):Key)≠Sum.inr z:=fun e=>c (by injection e);have c2:z≠f a:=fun e=>c e.symm;simp [c1,c2]
theorem BG.get:∀ {as:List α} {kvs:List (Key × V)} {z:Str},BG f P as kvs->(∃ a v,a∈as/\f a=z/\valV kvs (Sum.inr z)=some v/\P a v)\/(z∉as.map f/\valV kvs (Sum.inr z)=none)
 | [],kvs,z,h=>by
  rw [BG.nil.mp h];exact .inr ⟨by simp,rfl⟩
 | a::as,kvs,z,h=>by
  obtain ⟨w,r,rfl,p,h⟩:=BG.cons.mp h;by_cases c:f a=z
  ·subst c;exact .inl ⟨a,w,by simp,rfl,Jbd rfl,p⟩
  ·have c1:(Sum.inr (f a):Key)≠Sum.inr z:=fun e=>c (by injection e);have c2:z≠f a:=fun e=>c e.symm;have e:valV ((Sum.inr (f a),w)::r) (Sum.inr z)=valV r (Sum.inr z):=by simp [valV,List.find?_cons,c1]
   rw [e];rcases BG.get h (z:=z) with ⟨b,v,h1,h2,h3,h4⟩ | ⟨h1,h2⟩
   ·exact .inl ⟨b,v,by simp [h1],h2,h3,h4⟩
   ·exact .inr ⟨by simp [c2];simpa using h1,h2⟩
theorem BG.some {z:Str} (h:BG f P as kvs) (hz:z∈as.map f):∃ a v,a∈as/\f a=z/\valV kvs (Sum.inr z)=some v/\P a v:=by
 rcases h.get (z:=z) with h | ⟨h,_⟩
 ·exact h
 ·exact absurd hz h
theorem BG.none {z:Str} (h:BG f P as kvs) (hz:z∉as.map f):valV kvs (Sum.inr z)=none:=by
 rcases h.get (z:=z) with ⟨a,v,h1,h2,_⟩ | ⟨_,h⟩
 ·exact absurd (h2 ▸ List.mem_map_of_mem (f:=f) h1) hz
 ·exact h
theorem BG.val {z:Str} (h:BG f P as kvs):(valV kvs (Sum.inr z)).isSome=decide (z∈as.map f):=by
 by_cases c:z∈as.map f
 ·obtain ⟨a,v,_,_,e,_⟩:=h.some c;rw [e,decide_eq_true c];rfl
 ·rw [h.none c,decide_eq_false c];rfl
theorem BG.new (h:BG f P as kvs) (hn:f a∉as.map f) (p:P a v):BG f P (as++[a]) (putK kvs (Sum.inr (f a)) v):=by
 have e:putK kvs (Sum.inr (f a)) v=kvs++[(Sum.inr (f a),v)]:=by
  unfold putK;rw [h.any,if_neg (by simpa using hn)]
 rw [e];exact ⟨by rw [map_append,map_append,h.1];rfl,by rw [map_append];exact h.2.append (.one p)⟩
end
structure PD where
 nm:Str
 st:Str
 en:Str
 sz:Int × Int
 mo:Int × Int
 wt:Int
def JdC (p:PD) (f:Str):List (Str × Pr):=if p.st=f then [(p.en,(p.nm,true))] else if p.en=f then [(p.st,(p.nm,false))] else []
def JaA (ls:List PD) (f:Str):List (Str × Pr):=ls.flatMap fun p=>JdC p f
theorem Jd1 (ls:List PD) (p:PD) (f:Str):JaA (ls++[p]) f=JaA ls f++JdC p f:=by simp [JaA]
theorem Jbj {ls:List PD} {f g:Str} {pr:Pr}:(g,pr)∈JaA ls f↔∃ p∈ls,(p.st=f/\p.en=g/\pr=(p.nm,true))\/(p.st≠f/\p.en=f/\p.st=g/\pr=(p.nm,false)):=by
 unfold JaA;rw [mem_flatMap];refine exists_congr fun p=>and_congr_right fun _=>?_;unfold JdC;by_cases a:p.st=f
 ·rw [if_pos a,mem_singleton,Prod.mk.injEq];exact ⟨fun h=>.inl ⟨a,h.1.symm,h.2⟩,fun h=>h.elim (fun h=>⟨h.2.1.symm,h.2.2⟩) fun h=>absurd a h.1⟩
 ·rw [if_neg a];by_cases b:p.en=f
  ·rw [if_pos b,mem_singleton,Prod.mk.injEq];exact ⟨fun h=>.inr ⟨a,b,h.1.symm,h.2⟩,fun h=>h.elim (fun h=>absurd h.1 a) fun h=>⟨h.2.2.1.symm,h.2.2.2⟩⟩
  ·rw [if_neg b];exact ⟨fun h=>by simp at h,fun h=>h.elim (fun h=>absurd h.1 a) fun h=>absurd h.2.1 b⟩
theorem Jh8:∀ {ls:List PD} {p q:PD},(ls.map (·.nm)).Nodup->p∈ls->q∈ls->p.nm=q.nm->p=q
 | [],_,_,_,hp,_,_=>by cases hp
 | a::ls,p,q,hn,hp,hq,e=>by
  rw [map_cons,nodup_cons] at hn;rcases mem_cons.mp hp with h1 | h1 <;> rcases mem_cons.mp hq with h2 | h2
  ·rw [h1,h2]
  ·subst h1;exact absurd (e ▸ mem_map.mpr ⟨q,h2,rfl⟩) hn.1
  ·subst h2;exact absurd (e ▸ mem_map.mpr ⟨p,h1,rfl⟩) hn.1
  ·exact Jh8 hn.2 h1 h2 e
inductive Jbi (ls:List PD) (a:Str):List Pr->Str->Prop
 | nil:Jbi ls a [] a
 | snoc {w:List Pr} {f g:Str} {pr:Pr}:Jbi ls a w f->(g,pr)∈JaA ls f->Jbi ls a (w++[pr]) g
def Conn (ls:List PD) (a b:Str):Prop:=∃ w,Jbi ls a w b
theorem Jj7 {ls:List PD} {a b:Str} {S:List Str} (ha:a∈S) (hc:∀ f∈S, ∀ e∈JaA ls f,e.1∈S) (h:Conn ls a b):b∈S:=by
 obtain ⟨w,h⟩:=h;induction h with
 | nil=>exact ha
 | snoc _ hm ih=>exact hc _ ih _ hm
def fcsOf (ls:List PD):List Str:=ls.flatMap fun p=>[p.st,p.en]
theorem JgY {ls:List PD} {f:Str} {e:Str × Pr} (h:e∈JaA ls f):e.1∈fcsOf ls:=by
 obtain ⟨p,b,a⟩:=mem_flatMap.mp h;refine mem_flatMap.mpr ⟨p,b,?_⟩;unfold JdC at a;split at a
 ·rw [mem_singleton.mp a];simp
 ·split at a
  ·rw [mem_singleton.mp a];simp
  ·simp at a
theorem Jhb {ls:List PD} {a b:Str} {w:List Pr} (h:Jbi ls a w b):b∈a::fcsOf ls:=by
 cases h with
 | nil=>simp
 | snoc _ hm=>exact mem_cons_of_mem _ (JgY hm)
theorem Jkc (ls:List PD):(fcsOf ls).length=2*ls.length:=by
 unfold fcsOf;induction ls with
 | nil=>rfl
 | cons p ls ih=>
  rw [List.flatMap_cons,length_append,ih];simp;ac_nf
section
variable {X:Cx} {pins:List (Addr × Obj)} {σ : List (Option V)} {H H':Hp} {s s':Shared} {d:Addr} {kvs kvs':List (Key × V)} {od:Obj}
theorem Inv.freeze (I:Inv X pins σ H s) (e:H d=some (.dK kvs)) (ho:s.heap.get? d=some od):Inv X pins σ (upd H d (.frz od (.dK kvs))) s:=by
 refine I.un (h':=s.heap) (t':=s.toks) ⟨fun b o q _ _ _=>q,fun b o q _ _ _=>⟨o.slots,q⟩,fun b o q n _=>?_,fun b o q _=>⟨o,q⟩,fun b h q=>?_,fun b o u q=>?_,fun b j q=>⟨#[],?_⟩⟩ fun a o q=>?_
 ·rw [Jag (fun z=>by rw [z,e] at n;cases n)];exact n
 ·rw [Jag (fun z=>by rw [z,e] at q;cases q)];exact q
 ·rw [Jag (fun z=>by rw [z,e] at q;cases q)];exact q
 ·rw [Jag (fun z=>by rw [z,e] at q;cases q),Array.append_empty];exact q
 ·have g:∀ i b,H b=some (.own i)->upd H d (.frz od (.dK kvs)) b=some (.own i):=fun i b q=>by
   rw [Jag (fun z=>by rw [z,e] at q;cases q)];exact q
  have f:∀ b h,H b=some (.tup h)->upd H d (.frz od (.dK kvs)) b=some (.tup h):=fun b h q=>by
   rw [Jag (fun z=>by rw [z,e] at q;cases q)];exact q
  by_cases c:a=d
  ·subst c;rw [Jaj] at q;cases q;exact ⟨ho,(I.hok a _ e).stay (fun _ _ _ z=>z) (g a) f⟩
  ·rw [Jag c] at q;exact (I.hok a o q).stay (fun _ _ _ z=>z) (g a) f
theorem Inv.thaw (I:Inv X pins σ H s) (e:H d=some (.dK kvs)) (I':Inv X pins σ H' s') (e':H' d=some (.frz od (.dK kvs'))):Inv X pins σ (upd H' d (.dK kvs')) s':=by
 have m:∀ {b:Addr} {o:HO},H' b=some o->(∀ u v,o≠.frz u v)->b≠d:=fun q h z=>by rw [z,e'] at q;cases q;exact h _ _ rfl
 refine ⟨I'.ok,I'.os,I'.bare,⟨I'.base.keep,I'.base.slot,fun b o q n A=>?_,I'.base.there,fun b l q=>?_,fun b o u q=>?_,fun b t q=>?_⟩,I'.loc,I'.cell,?_,fun x c z=>?_,fun p y=>?_,fun a o q=>?_,I'.len⟩
 ·have:=I'.base.free b o q n A;rw [Jag (fun z=>by rw [z,e'] at this;cases this)];exact this
 ·have:=I'.base.tups b l q;rw [Jag (m this (by intro u v z;cases z))];exact this
 ·have f:=I'.base.frzs b o u q;have g:=I.base.frzs b o u q;rw [Jag (fun z=>by rw [z,e] at g;cases g)];exact f
 ·obtain ⟨j,f⟩:=I'.base.tbls b t q;exact ⟨j,by rw [Jag (m f (by intro u v z;cases z))];exact f⟩
 ·have:=I'.free;rw [Jag (fun z=>by rw [z,e'] at this;cases this)];exact this
 ·have:=I'.freeC x c z;rw [Jag (fun z=>by rw [z,e'] at this;cases this)];exact this
 ·obtain ⟨f,g,B⟩:=I'.pin p y;exact ⟨f,by rw [Jag (fun z=>by rw [z,e'] at g;cases g)];exact g,B⟩
 ·have i:∀ r b,H' b=some (.own r)->upd H' d (.dK kvs') b=some (.own r):=fun r b q=>by
   rw [Jag (m q (by intro u v z;cases z))];exact q
  have k:∀ b l,H' b=some (.tup l)->upd H' d (.dK kvs') b=some (.tup l):=fun b l q=>by
   rw [Jag (m q (by intro u v z;cases z))];exact q
  by_cases c:a=d
  ·subst c;rw [Jaj] at q;cases q;have f:ObjOk X.prog X.w H' s'.heap a (.dK kvs'):=(I'.hok a _ e').2;exact f.stay (fun _ _ _ z=>z) (i a) k
  ·rw [Jag c] at q;exact (I'.hok a o q).stay (fun _ _ _ z=>z) (i a) k
end
def Itv (d:Addr) (od:Obj) (kvs:List (Key × V)):It :=
 ⟨fun i H=>H d=some (.frz od (.dK kvs))/\i<kvs.length,fun i H x H'=>H'=H/\(kvs.map (·.2))[i]?=some x,fun i H=>H d=some (.frz od (.dK kvs))/\kvs.length<=i⟩
theorem JiO {P:Program} {w:World} {K:W.Frag} {tg:Expr} {d it:Addr} {od:Obj} {kvs:List (Key × V)} {vs:List (Key × Value)} {ep:Nat} (rel:KV kvs vs) (hd:∀ h:Heap,h.get? d=some od->h.DictAt (Jau P w) d vs ep) :
  Turn P w K tg (Itv d od kvs) [it] it (fun i h=>h.IsValIter it d i vs.length ep) where
 mem:=by simp
 obj:=fun i h a b l=>by
  obtain rfl:b=it:=by simpa using l
  obtain ⟨o,e,c,z⟩:=a;exact ⟨o,e,fun v q=>by rw [z] at q;cases q⟩
 keep:=fun i h p a k=>a.at fun o e=>k it (by simp) o e
 item:=by
  intro X r G F N i f s σ H E I n a D;subst r G F;obtain ⟨j,L⟩:=D;obtain ⟨A,C,U,y,B,t⟩:=n it (by simp);have g:=(I.hok d _ j).1;have T:=rel.length;have O:=JiP rel;obtain ⟨x,M⟩:∃ x,(kvs.map (·.2))[i]?=some x:=⟨_,List.getElem?_eq_getElem (by rw [length_map];exact L)⟩;obtain ⟨u,J,S⟩:=O.get M;rw [List.getElem?_map] at J;obtain ⟨⟨k,Z⟩,Q,rfl⟩:=Option.map_eq_some_iff.mp J;refine wpAny_pyNext_values_item a (hd _ g) Q fun p m Y=>?_;have I1:Inv X f σ H { s with heap:=p }:=I.turned (t':=s.toks) (fun b o l e=>(Y.2 b l).trans e) A C y B t;obtain ⟨o,e,c,z⟩:=id m;exact ⟨_,rfl,go_of (s:={ s with heap:=p }) e c z ⋯ ⟨x,H,I1,S,⟨rfl,M⟩,m,fun b l=>(n b l).1⟩⟩
 done:=by
  intro X r G F N i f s σ H E I n a D;subst r G F;obtain ⟨j,L⟩:=D;obtain ⟨A,C,U,y,B,t⟩:=n it (by simp);have g:=(I.hok d _ j).1;have T:=rel.length;exact wpAny_pyNext_values_end (I.ok.hd N) a (hd _ g) (List.getElem?_eq_none ∅) fun p R=>⟨rfl,I.turned (t':=s.toks) (fun b o l e=>R b o l e) A C y B t⟩
 self:=fun _ _ _ _ _ a h=>wpAny_pyIter_valiter a h
section
variable {X:Cx} {tg:Expr}
def iVals (td:TE):TI:=fun σ H R=>td σ H fun x H1=>∃ d kvs,x=.ref d/\H1 d=some (.dK kvs)/\∀ od,R (Itv d od kvs) (upd H1 d (.frz od (.dK kvs)))
theorem Jiq {o:Expr} {td:TE} {apos cpos:Pos} (ho:PE X o td) (hb:attributeBase o "values" X.env (eval o X.env)=eval o X.env:=by rfl) (hn:(apos.endLine == cpos.line)=true:=by rfl) :
  PI X tg (.Call (.Attribute o "values" apos) [] [] cpos) (iVals td):=by
 intro c s σ H R I h;refine wpAny_Call_method0_late hb hn (thn (ho c s σ H _ I h) fun v a ζ=>?_);obtain ⟨y,D,I1,x,d,kvs,p,e,A⟩:=ζ;subst p;obtain rfl:v=Value.ref d:=x;obtain ⟨l,u,r⟩:=JfG I1 (.inl ⟨kvs, .inl e⟩);obtain ⟨C,_,vs,i,n⟩:=dk_of I1.hok e;refine ⟨"dict","dict.values",PySem.F.plainAttrs_dict,PySem.F.slot_dict_values,PySem.F.type_dict_values,l,u,Calls.callWith_builtin rfl (PySem.evalArgs_none ?_)⟩;refine call_meetsIn PySem.F.slot_dict_values l PySem.F.entry_dict_values (PySem.F.args_dict_values_1 _) (meets_dict_values (Jau X.prog X.w) d r) ⟨⟨vs,n⟩,?_⟩;obtain ⟨ep,j⟩:=n.dictAt;obtain ⟨m,t,f,rest⟩:=id j;refine wpAny_pyIter_values (knd:=Jau X.prog X.w) (v:=a.heap.objs.size) (d:=d) (kvs:=vs) (ep:=ep) ⟨_,Heap.get?_push_size _ rfl,rfl,rfl⟩ (j.push _) ?_;have B:∀ b o,a.heap.get? b=some o->((a.heap.push { cls:=.type "dict_values",data:=.fields #[.ref d] }).push { cls:=.type "dict_valueiterator",data:=.fields #[.ref d, .int 0 0, .int vs.length 0, .int ep 0] }).get? b=some o:=fun b o z=>Heap.get?_push_of_some _ (Heap.get?_push_of_some _ z);have I2:=(I1.freeze e f).kept (t':=a.toks) B;have k:a.heap.objs.size<=(a.heap.push { cls:=.type "dict_values",data:=.fields #[.ref d] }).objs.size:=by
  rw [Heap.size_push];exact Nat.le_succ _
 refine ⟨_,[_],_,_,_,rfl,I2,JiO (vs:=vs) (ep:=ep) i (fun h q=>⟨m,t,q,rest⟩),⟨_,Heap.get?_push_size _ rfl,rfl,rfl⟩,fun b g=>?_,A m⟩;obtain rfl:=mem_singleton.mp g;exact I1.fpOk k ((I1.freeze e f).hok.fresh k)
def tThaw (t:TE):TE:=fun σ H Q=>∃ d kvs,H d=some (.dK kvs)/\t σ H fun v H'=>∃ od kvs',H' d=some (.frz od (.dK kvs'))/\Q v (upd H' d (.dK kvs'))
theorem Jgz {e:Expr} {t:TE} (h:PE X e t):PE X e (tThaw t):=by
 intro a s σ H Q I ⟨d,i,j,q⟩;exact thn (h a s σ H _ I q) fun v k ⟨x,m,I1,c,l,b,f,g⟩=>⟨x,_,I.thaw j I1 f,c,g⟩
end
section
variable {k:Nat} {cs:List (Nat × Str)} {g:TG} {te tl td:TE} {σ : St} {H H1:Hp} {Q:VK} {d:Addr} {od:Obj} {kvs:List (Key × V)}
theorem y3ay:tThaw (tComp k cs (iVals td) g te) σ H Q=∃ d kvs,H d=some (.dK kvs)/\td σ H fun x H1=>∃ d1 kvs1,x=.ref d1/\H1 d1=some (.dK kvs1)/\∀ od,CompJ (Itv d1 od kvs1) k cs g te σ (fun v H'=>∃ od kvs',H' d=some (.frz od (.dK kvs'))/\Q v (upd H' d (.dK kvs'))) (upd H1 d1 (.frz od (.dK kvs1))):=rfl
theorem CompJ.vals (Pv:Nat->List V->Hp->Prop) (h0:Pv 0 [] H1) (hl:∀ i ys H',i<=kvs.length->Pv i ys H'->H' d=some (.frz od (.dK kvs))/\ys.length<=sizeLine)
  (hs:∀ i x ys H2,(kvs.map (·.2))[i]?=some x->Pv i ys H2->g x (List.replicate k none++JaF cs σ) H2 fun σ4 H4=>te σ4 H4 fun y H5=>Pv (i+1) (ys++[y]) H5) (hd:∀ ys H2,Pv kvs.length ys H2->∀ p,H2 p=none->Q (.ref p) (upd H2 p (.lst ys))) :
  CompJ (Itv d od kvs) k cs g te σ Q H1:=by
 refine ⟨fun i m ys H'=>Pv i ys H'/\i<=kvs.length/\m=kvs.length-i,⟨_,h0,Nat.zero_le _,rfl⟩,?_⟩;rintro i m ys H2 ⟨a,f,rfl⟩;obtain ⟨b,j⟩:=hl i ys H2 f a;refine ⟨j,?_⟩;by_cases c:i<kvs.length
 ·refine .inr ⟨⟨b,c⟩,?_⟩;rintro x l ⟨rfl,n⟩;have e:(fun (σ4:St) (H4:Hp)=>te σ4 H4 fun y H5=>Pv (i+1) (ys++[y]) H5)=fun σ4 H4=>te σ4 H4 fun y H5=>∃ m',m'<kvs.length-i/\Pv (i+1) (ys++[y]) H5/\i+1<=kvs.length/\m'=kvs.length-(i+1):=by
   funext σ4 H4
   congr 1
   funext y H5
   exact propext ⟨fun q=>⟨_,Nat.sub_lt_sub_left c (Nat.lt_succ_self i),q,c,rfl⟩,fun ⟨_,_,q,_⟩=>q⟩
  rw [<- e];exact hs i x ys l n a
 ·have h:i=kvs.length:=by ac_nf
  subst h;exact .inl ⟨⟨b,Nat.le_refl _⟩,hd ys H2 a⟩
end
section
variable {X:Cx} {k k':Nat} {x:Str} {C:Addr} {ps:List Str} {sp:Sp} {E:XK} {p pos:Pos}
theorem KCal.ev0 (G:KCal X.prog X.w X.K X.mg X.base k x C ps sp) (hr:Room k' X.A) (hk:k+1<=k') (hg:Gl X x) (hx:Jcx (CX1 X.prog X.w) X E) (hdb:(x == ("__debug__" : Str))=false:=by decide) :
  PE X (.Call (.Name x p) [] [] pos) (tMake C sp [] E tNil):=by
 obtain ⟨f,c,F,b,M,a⟩:=G.ex;exact Jjg M F (hr.mono hk) hg b a .nil hx hdb
end
def wtB:D->Bool
 | .int i=>decide (1<=i)
 | _=>false
def partB:D->Bool
 | .tup [n,s,e,z,m,w]=>nameB n&&JcD s e&&(fracB z&&fracB m&&Jcd w)&&(!lessD m (.tup [.int 0, .int 1])&&wtB w)
 | _=>false
def gapB:D->Bool
 | .tup [n,s,e,l,g]=>tieB (.tup [n,s,e,l,g])&&!nonD l&&!nonD g
 | _=>false
structure POk (p:PD):Prop where
 n1:nameS p.nm=true
 n2:nameS p.st=true
 n3:nameS p.en=true
 ne:p.st≠p.en
 z:FOk 200 p.sz
 m:FOk 200 p.mo
 m0:0<=p.mo.1
 w:1<=p.wt
 ws:Mth.Sz 200 p.wt
structure GD where
 nm:Str
 st:Str
 en:Str
 lo:Int × Int
 hi:Int × Int
def GD.td (g:GD):TD:=⟨g.nm,g.st,g.en,some g.lo,some g.hi⟩
def pdD (p:PD):D:=.tup [.str p.nm, .str p.st, .str p.en,frD p.sz,frD p.mo, .int p.wt]
theorem POk.part {p:PD} (h:POk p):partB (pdD p)=true:=by
 have e:eqD (.str p.st) (.str p.en)=false:=by simp only [eqD,beq_eq_false_iff_ne];exact h.ne
 have l:lessD (frD p.mo) (.tup [.int 0, .int 1])=false:=by
  simp [frD,lessD];exact h.m0
 simp [pdD,partB,nameB,JcD,h.n1,h.n2,h.n3,e,l,frD,fracB,Jcd,wtB,h.z.b1,h.z.g1,h.m.b1,h.m.g1,h.w];simpa [frD,lessD] using h.m0
theorem POk.sz {p:PD} (h:POk p):szD (pdD p):=by
 simp only [pdD,frD,szD,szL];have:=len8 h.n1;have:=len8 h.n2;have:=len8 h.n3;exact ⟨by ac_nf,by ac_nf,by ac_nf,⟨h.z.s1.mono ⋯,h.z.s2.mono ⋯,trivial⟩,⟨h.m.s1.mono ⋯,h.m.s2.mono ⋯,trivial⟩,h.ws.mono ⋯,trivial⟩
theorem Jk7 {g:GD} (h:TOk g.td):gapB (tdD g.td)=true:=by
 have:=h.tie;simp only [tdD,gapB] at this ⊢;rw [this];rfl
def PDV (K:W.Frag) (H:Hp) (p:PD) (x:V):Prop:=∃ b vz vm,x=.ref b/\SqT K H b [.str p.nm, .str p.st, .str p.en,vz,vm, .int p.wt]/\FrV K H vz p.sz.1 p.sz.2/\FrV K H vm p.mo.1 p.mo.2
section
variable {K:W.Frag} {H H':Hp}
theorem PDV.sameT {p:PD} {x:V} (S:SameT H H'):PDV K H p x->PDV K H' p x:=by rintro ⟨b,d,c,e,q,f,a⟩;exact ⟨b,d,c,e,q.sameT S,f.sameT S,a.sameT S⟩
theorem PDV.rep {p:PD} {x:V}:PDV K H p x->Rep K H (pdD p) x:=fun ⟨b,f,d,e,q,c,a⟩=>by
 simp only [pdD,Rep,RepL];exact ⟨b,_,e,q,_,_,rfl,rfl,_,_,rfl,rfl,_,_,rfl,rfl,_,_,rfl,FrV.rep c,_,_,rfl,FrV.rep a,_,_,rfl,rfl,rfl⟩
end
def LeV (H:Hp) (e:Str × Pr) (x:V):Prop:=∃ b c,x=.ref b/\H b=some (.tup [.str e.1, .ref c])/\H c=some (.tup [.str e.2.1, .bl e.2.2])
theorem LeV.sameT {H H':Hp} {e:Str × Pr} {x:V} (S:SameT H H'):LeV H e x->LeV H' e x:=by rintro ⟨b,c,d,a,f⟩;exact ⟨b,c,d,S _ _ rfl a,S _ _ rfl f⟩
structure JD (H0 H:Hp) (L:Str->List (Str × Pr)) (kvs:List (Key × V)):Prop where
 at_:∀ (f:Str),(valV kvs (Sum.inr f)=none/\L f=[])\/∃ l xs,valV kvs (Sum.inr f)=some (.ref l)/\H0 l=none/\H l=some (.lst xs)/\All2 (LeV H) (L f) xs
 inj:∀ (f g:Str) (l:Addr),valV kvs (Sum.inr f)=some (.ref l)->valV kvs (Sum.inr g)=some (.ref l)->f=g
theorem JD.same {H0 H H':Hp} {L:Str->List (Str × Pr)} {kvs:List (Key × V)} (S:Same H H') (h:JD H0 H L kvs):JD H0 H' L kvs where
 at_:=fun f=>by
  rcases h.at_ f with h | ⟨l,xs,h1,h2,h3,h4⟩
  ·exact .inl h
  ·exact .inr ⟨l,xs,h1,h2,S _ _ h3,h4.mono fun _ _ z=>z.sameT S.t⟩
 inj:=h.inj
theorem JD.sx {H0 H H':Hp} {L:Str->List (Str × Pr)} {kvs kv2:List (Key × V)} {d:Addr} (S:∀ b u,b≠d->H b=some u->H' b=some u) (hd:H d=some (.dK kv2)) (h:JD H0 H L kvs):JD H0 H' L kvs where
 at_:=fun f=>by
  have T:SameT H H':=fun b u t q=>S b u (fun z=>by rw [z,hd] at q;cases q;simp [isTF] at t) q;rcases h.at_ f with h | ⟨l,xs,h1,h2,h3,h4⟩
  ·exact .inl h
  ·exact .inr ⟨l,xs,h1,h2,S _ _ (fun z=>by rw [z,hd] at h3;cases h3) h3,h4.mono fun _ _ z=>z.sameT T⟩
 inj:=h.inj
theorem JD.sy {H0 H H':Hp} {L:Str->List (Str × Pr)} {kvs:List (Key × V)} {x:Addr} {o:HO} (S:∀ b u,b≠x->H b=some u->H' b=some u) (hx:H x=some o) (hn:∀ xs,o≠.lst xs) (ht:isTF o=false) (h:JD H0 H L kvs):JD H0 H' L kvs where
 at_:=fun f=>by
  have T:SameT H H':=fun b u t q=>S b u (fun z=>by rw [z,hx] at q;cases q;rw [ht] at t;cases t) q;rcases h.at_ f with h | ⟨l,xs,h1,h2,h3,h4⟩
  ·exact .inl h
  ·exact .inr ⟨l,xs,h1,h2,S _ _ (fun z=>by rw [z,hx] at h3;exact hn _ (Option.some.inj h3)) h3,h4.mono fun _ _ z=>z.sameT T⟩
 inj:=h.inj
theorem JD.nil {H0 H:Hp}:JD H0 H (fun _=>[]) []:=⟨fun f=>.inl ⟨rfl,rfl⟩,fun f g l h=>by simp [valV] at h⟩
def addL (L:Str->List (Str × Pr)) (f:Str) (e:Str × Pr):Str->List (Str × Pr):=fun g=>if g=f then L g++[e] else L g
theorem JD.more {H0 H H':Hp} {L:Str->List (Str × Pr)} {kvs:List (Key × V)} {f:Str} {e:Str × Pr} {l b:Addr} {xs:List V} (h:JD H0 H L kvs) (hv:valV kvs (Sum.inr f)=some (.ref l)) (hl:H l=some (.lst xs)) (hb:LeV H e (.ref b)) (e':upd H l (.lst (xs++[.ref b]))=H'):JD H0 H' (addL L f e) kvs where
 at_:=fun g=>by
  have T:SameT H H':=SameT.put e' hl rfl;have a:H' l=some (.lst (xs++[.ref b])):=by rw [<- e',Jaj]
  by_cases c:g=f
  ·subst c;rcases h.at_ g with ⟨h1,_⟩ | ⟨l2,xs2,h1,h2,h3,h4⟩
   ·rw [hv] at h1;cases h1
   ·rw [hv] at h1;cases h1;rw [hl] at h3;cases h3;refine .inr ⟨l,_,hv,h2,a,?_⟩;unfold addL;rw [if_pos rfl];exact (h4.mono fun _ _ z=>z.sameT T).append (.one (hb.sameT T))
  ·unfold addL;rw [if_neg c];rcases h.at_ g with h1 | ⟨l2,xs2,h1,h2,h3,h4⟩
   ·exact .inl h1
   ·have d:l2≠l:=fun z=>c (h.inj g f l (by rw [h1,z]) hv);exact .inr ⟨l2,xs2,h1,h2,by rw [<- e',Jag d];exact h3,h4.mono fun _ _ z=>z.sameT T⟩
 inj:=h.inj
theorem JD.first {H0 H H':Hp} {L:Str->List (Str × Pr)} {kvs:List (Key × V)} {f:Str} {e:Str × Pr} {l b:Addr} (h:JD H0 H L kvs) (hv:valV kvs (Sum.inr f)=none) (h0:H0 l=none) (hn:∀ g l',valV kvs (Sum.inr g)=some (.ref l')->l'≠l) (hl:H l=some (.lst [])) (hb:LeV H e (.ref b)) (e':upd H l (.lst [.ref b])=H'):JD H0 H' (addL L f e) (putK kvs (Sum.inr f) (.ref l)) where
 at_:=fun g=>by
  have T:SameT H H':=SameT.put e' hl rfl;have m:H' l=some (.lst [.ref b]):=by rw [<- e',Jaj]
  rw [Jg9];by_cases c:g=f
  ·subst c;rw [if_pos rfl];refine .inr ⟨l,_,rfl,h0,m,?_⟩;unfold addL;rw [if_pos rfl];rcases h.at_ g with ⟨_,d⟩ | ⟨l2,xs2,a,_⟩
   ·rw [d];exact .one (hb.sameT T)
   ·rw [hv] at a;cases a
  ·have o:(Sum.inr g:Key)≠Sum.inr f:=fun z=>c (by injection z);rw [if_neg o];unfold addL;rw [if_neg c];rcases h.at_ g with a | ⟨l2,xs2,a,d,h3,h4⟩
   ·exact .inl a
   ·exact .inr ⟨l2,xs2,a,d,by rw [<- e',Jag (hn g l2 a)];exact h3,h4.mono fun _ _ z=>z.sameT T⟩
 inj:=fun n k l' a d=>by
  rw [Jg9] at a d;by_cases j:(Sum.inr n:Key)=Sum.inr f
  ·by_cases i:(Sum.inr k:Key)=Sum.inr f
   ·have:=j.trans i.symm;injection this
   ·rw [if_pos j] at a;rw [if_neg i] at d;cases a;exact absurd rfl (hn k l d)
  ·by_cases i:(Sum.inr k:Key)=Sum.inr f
   ·rw [if_neg j] at a;rw [if_pos i] at d;cases d;exact absurd rfl (hn n l a)
   ·rw [if_neg j] at a;rw [if_neg i] at d;exact h.inj n k l' a d
theorem Jc5 {ls:List PD} {p:PD} (h:p.st≠p.en):addL (addL (JaA ls) p.st (p.en,(p.nm,true))) p.en (p.st,(p.nm,false))=JaA (ls++[p]):=by
 funext g
 rw [Jd1];unfold addL JdC;by_cases a:g=p.en
 ·subst a;have e:p.en≠p.st:=fun z=>h z.symm;simp [h,e]
 ·have d:p.en≠g:=fun z=>a z.symm;by_cases b:g=p.st
  ·subst b;simp [a]
  ·have c:p.st≠g:=fun z=>b z.symm;simp [a,b,d,c]
theorem Je2 (ls:List PD) (f:Str):(JaA ls f).length<=ls.length:=by
 unfold JaA;induction ls with
 | nil=>simp
 | cons p ls ih=>
  rw [List.flatMap_cons,length_append,length_cons];have : (JdC p f).length<=1:=by
   unfold JdC;split
   ·simp
   ·split <;> simp
  ac_nf
def PWy (H H':Hp) (wl:Addr) (a:Str × List Pr) (v:V):Prop:=∃ l xs,v=.ref l/\H l=none/\l≠wl/\H' l=some (.lst xs)/\All2 (CV H') a.2 xs
structure Srch (H:Hp) (ls:List PD) (one:Str) (fd wl:Addr) (H':Hp) (ws:List (Str × List Pr)) (wt:List Str):Prop where
 same:Same H H'
 dict:∃ kvs,H' fd=some (.dK kvs)/\BG (·.1) (PWy H H' wl) ws kvs
 nd:(ws.map (·.1)).Nodup
 here:one∈ws.map (·.1)
 walk:∀ a∈ws,Jbi ls one a.2 a.1
 wait:H' wl=some (.lst (wt.map V.str))
 sub:∀ f∈wt,f∈ws.map (·.1)
 lw:∀ a∈ws,a.2.length<=ws.length
 sim:∀ a∈ws,(a.2.map (·.1)).Nodup/\∀ p∈ls,p.nm∈a.2.map (·.1)->p.st∈ws.map (·.1)/\p.en∈ws.map (·.1)
section
variable {H H' H'':Hp} {ls:List PD} {one:Str} {fd wl:Addr} {ws:List (Str × List Pr)} {wt:List Str}
theorem Srch.len (h:Srch H ls one fd wl H' ws wt) (hl:ls.length<=20):ws.length<=41:=by
 have:=sub_len (ws.map (·.1)) (one::fcsOf ls) h.nd fun z c=>by
  obtain ⟨a,b,rfl⟩:=mem_map.mp c;exact Jhb (h.walk a b)
 rw [length_map,length_cons,Jkc] at this;ac_nf
theorem Srch.grow (h:Srch H ls one fd wl H' ws wt) (S:Same H' H''):Srch H ls one fd wl H'' ws wt:=by
 obtain ⟨b,f,c⟩:=h.dict;exact ⟨h.same.trans S,⟨b,S _ _ f,c.mono fun a v ⟨l,k,e,j,i,d,g⟩=>⟨l,k,e,j,i,S _ _ d,g.mono fun _ _ z=>z.sameT S.t⟩⟩,h.nd,h.here,h.walk,S _ _ h.wait,h.sub,h.lw,h.sim⟩
theorem Srch.wait' {wt':List Str} (h:Srch H ls one fd wl H' ws wt) (hw:H wl=none) (e:upd H' wl (.lst (wt'.map V.str))=H'') (hs:∀ f∈wt',f∈ws.map (·.1)):Srch H ls one fd wl H'' ws wt':=by
 obtain ⟨g,i,j⟩:=h.dict;have T:SameT H' H'':=SameT.put e h.wait rfl;have d:fd≠wl:=fun z=>by have:=h.wait;rw [<- z,i] at this;cases this
 refine ⟨fun b u q=>by rw [<- e,Jag (Jah q hw)];exact h.same _ _ q,⟨g,by rw [<- e,Jag d];exact i,j.mono fun a v ⟨l,p,n,m,c,o,k⟩=>⟨l,p,n,m,c,by rw [<- e,Jag c];exact o,k.mono fun _ _ z=>z.sameT T⟩⟩,h.nd,h.here,h.walk,by rw [<- e,Jaj],hs,h.lw,h.sim⟩
theorem Srch.find {g:Str} {w:List Pr} {l:Addr} {xs:List V} {kvs:List (Key × V)} (h:Srch H ls one fd wl H' ws wt) (hk:H' fd=some (.dK kvs)) (hb:BG (·.1) (PWy H H' wl) ws kvs) (hf:H fd=none) (hg:g∉ws.map (·.1)) (hwk:Jbi ls one w g) (hlw:w.length<=ws.length+1) (hsm:(w.map (·.1)).Nodup/\∀ p∈ls,p.nm∈w.map (·.1)->p.st∈(ws++[(g,w)]).map (·.1)/\p.en∈(ws++[(g,w)]).map (·.1)) (hl:H l=none) (hne:l≠wl) (hx:H' l=some (.lst xs)) (ha:All2 (CV H') w xs)
  (e:upd H' fd (.dK (putK kvs (Sum.inr g) (.ref l)))=H''):Srch H ls one fd wl H'' (ws++[(g,w)]) wt:=by
 have T:SameT H' H'':=SameT.put e hk rfl;have m:wl≠fd:=fun z=>by have:=h.wait;rw [z,hk] at this;cases this
 have d:∀ {b:Addr} {ys:List V},H' b=some (.lst ys)->H'' b=some (.lst ys):=fun q=>by rw [<- e,Jag (fun z=>by rw [z,hk] at q;cases q)];exact q
 refine ⟨fun b u q=>by rw [<- e,Jag (Jah q hf)];exact h.same _ _ q,⟨_,by rw [<- e,Jaj],?_⟩,?_,?_,?_,d h.wait,?_,?_,?_⟩
 ·have:=hb.mono (P':=PWy H H'' wl) fun a v ⟨l,xs,j,i,hne,hx,ha⟩=>⟨l,xs,j,i,hne,d hx,ha.mono fun _ _ z=>z.sameT T⟩;exact this.new (a:=(g,w)) hg ⟨l,xs,rfl,hl,hne,d hx,ha.mono fun _ _ z=>z.sameT T⟩
 ·rw [map_append,nodup_append];refine ⟨h.nd,by simp,fun a ha b hb z=>hg ?_⟩;rw [map_cons,map_nil,mem_singleton] at hb;have hb:b=g:=hb;rw [<- hb, <- z];exact ha
 ·rw [map_append];exact mem_append.mpr (.inl h.here)
 ·intro a ha;rcases mem_append.mp ha with ha | ha
  ·exact h.walk a ha
  ·rw [mem_singleton.mp ha];exact hwk
 ·intro f c;rw [map_append];exact mem_append.mpr (.inl (h.sub f c))
 ·intro a ha;rw [length_append,length_singleton];rcases mem_append.mp ha with ha | ha
  ·have:=h.lw a ha;ac_nf
  ·rw [mem_singleton.mp ha];exact hlw
 ·intro a ha;rcases mem_append.mp ha with ha | ha
  ·refine ⟨(h.sim a ha).1,fun p k i=>?_⟩;have:=(h.sim a ha).2 p k i;rw [map_append];exact ⟨mem_append.mpr (.inl this.1),mem_append.mpr (.inl this.2)⟩
  ·rw [mem_singleton.mp ha];exact hsm
end
inductive PR
 | ok (ls:List PD)
 | noPart
 | twice
 | ring
open Classical in
noncomputable def partsW:List PD->List (PD ⊕ D)->PR
 | acc,[]=>.ok acc
 | _, .inr _::_=>.noPart
 | acc, .inl p::r=>if p.nm∈acc.map (·.nm) then .twice else if Conn acc p.st p.en then .ring else partsW (acc++[p]) r
inductive GR
 | ok (gs:List GD)
 | noGap
 | twice
 | apart
open Classical in
noncomputable def gapsW (ls:List PD):List GD->List (GD ⊕ D)->GR
 | acc,[]=>.ok acc
 | _, .inr _::_=>.noGap
 | acc, .inl g::r=>if g.nm∈acc.map (·.nm) then .twice else if Conn ls g.st g.en then gapsW ls (acc++[g]) r else .apart
theorem Jhu (acc:List PD) (c:D) (r:List (PD ⊕ D)):partsW acc (.inr c::r)=.noPart:=rfl
theorem Jhv {acc:List PD} {p:PD} {r:List (PD ⊕ D)} (h:p.nm∈acc.map (·.nm)):partsW acc (.inl p::r)=.twice:=by
 rw [partsW,if_pos h]
theorem Jgx {acc:List PD} {p:PD} {r:List (PD ⊕ D)} (h:p.nm∉acc.map (·.nm)) (hc:Conn acc p.st p.en):partsW acc (.inl p::r)=.ring:=by
 rw [partsW,if_neg h,if_pos hc]
theorem Jdc {acc:List PD} {p:PD} {r:List (PD ⊕ D)} (h:p.nm∉acc.map (·.nm)) (hc:¬ Conn acc p.st p.en):partsW acc (.inl p::r)=partsW (acc++[p]) r:=by
 rw [partsW,if_neg h,if_neg hc]
theorem JhT (ls:List PD) (acc:List GD) (c:D) (r:List (GD ⊕ D)):gapsW ls acc (.inr c::r)=.noGap:=rfl
theorem JhU {ls:List PD} {acc:List GD} {g:GD} {r:List (GD ⊕ D)} (h:g.nm∈acc.map (·.nm)):gapsW ls acc (.inl g::r)=.twice:=by
 rw [gapsW,if_pos h]
theorem Jgi {ls:List PD} {acc:List GD} {g:GD} {r:List (GD ⊕ D)} (h:g.nm∉acc.map (·.nm)) (hc:¬ Conn ls g.st g.en):gapsW ls acc (.inl g::r)=.apart:=by
 rw [gapsW,if_neg h,if_neg hc]
theorem JgV {ls:List PD} {acc:List GD} {g:GD} {r:List (GD ⊕ D)} (h:g.nm∉acc.map (·.nm)) (hc:Conn ls g.st g.en):gapsW ls acc (.inl g::r)=gapsW ls (acc++[g]) r:=by
 rw [gapsW,if_neg h,if_pos hc]
def WOV (H:Hp) (ls:List PD) (g:GD) (v:V):Prop:=∃ l xs w,v=.ref l/\H l=some (.lst xs)/\All2 (CV H) w xs/\Jbi ls g.st w g.en/\(w.map (·.1)).Nodup
theorem WOV.same {H H':Hp} {ls:List PD} {g:GD} {v:V} (S:Same H H'):WOV H ls g v->WOV H' ls g v:=by rintro ⟨l,d,w,c,a,e,b⟩;exact ⟨l,d,w,c,S _ _ a,e.mono fun _ _ z=>z.sameT S.t,b⟩
theorem JkE {X:Cx} {K:W.Frag} {pos:Pos} {es:List Expr} {k:Nat} {t:TGs} {n:Nat} (hK:X.K=K) (hc:X.calm=true) (h:PGs X es t) (hn:(assignEach es X.env).length=n:=by rfl) (hst:(assignEach es X.env).findIdx? (·.1)=none:=by rfl):PG X (.Tuple es k pos) (gTup K n t):=by
 subst hK;exact JfU hc h hn hst
abbrev Fr2:=Int × Int
section
variable {K:W.Frag} {k:Nat} {cs:List (Nat × Str)} {g:TG} {te:TE} {ta:TA} {σ : St} {H H1:Hp} {Q:VK} {a b:Addr} {xs zs:List V}
end
section
variable {X:Cx}
end
section
variable {K:W.Frag} {H:Hp} {Q:VK}
end
theorem All2.map {α β : Type} {P : α->V->Prop} {P' : β->V->Prop} {f : α->β}:∀ {as:List α} {xs:List V},All2 P as xs->(∀ a∈as, ∀ x,P a x->P' (f a) x)->All2 P' (as.map f) xs
 | [],xs,h,_=>h
 | a::as,xs,h,m=>by
  obtain ⟨x,r,rfl,h1,h2⟩:=h;exact ⟨x,r,rfl,m a (by simp) x h1,All2.map h2 fun b hb=>m b (by simp [hb])⟩
theorem JhV {ls:List PD}:∀ (gs acc:List GD),((acc++gs).map (·.nm)).Nodup->(∀ g∈gs,Conn ls g.st g.en)->gapsW ls acc (gs.map Sum.inl)=.ok (acc++gs)
 | [],acc,_,_=>by
  rw [map_nil,gapsW,append_nil]
 | g::gs,acc,hn,hc=>by
  have ea:acc++g::gs=(acc++[g])++gs:=by simp
  have ne:g.nm∉acc.map (·.nm):=by
   have h2:=hn;rw [map_append,map_cons,nodup_append] at h2;exact fun z=>h2.2.2 _ z _ (by simp) rfl
  rw [map_cons,JgV ne (hc g (by simp)),JhV gs (acc++[g]) (by rw [<- ea];exact hn) (fun u hu=>hc u (by simp [hu])),ea]
section
variable {prog:Program} {w:World} {A:Around} {E:Value->Shared->Prop} {s:Shared}
end
section
variable {prog:Program} {w:World} {A:Around} {E:Value->Shared->Prop} {s:Shared}
end
section
variable {X:Cx}
end
section
variable {X:Cx} {elts:List Expr} {x1:Nat} {tp:Pos}
end
section
variable {K:W.Frag} {k:Nat} {cs:List (Nat × Str)} {g:TG} {te:TE} {ta:TA} {σ : St} {H H1:Hp} {Q:VK} {a:Addr} {xs:List V}
end
def Itq (lo c:Int) (n:Nat):It:=⟨fun i _=>i<n,fun i H x H'=>H'=H/\x=.int (lo+i*c),fun i _=>n<=i⟩
theorem JgI {P:Program} {w:World} {K:W.Frag} {tg:Expr} (it:Addr) (lo c:Int) (n:Nat):Turn P w K tg (Itq lo c n) [it] it (fun i h=>IsRangeIter h it (lo+(i:Nat)*c) ((n:Int)-(i:Nat)) c) where
 mem:=by simp
 obj:=fun i h a b f=>by
  have e:b=it:=by simpa using f
  subst e;exact ⟨_,a,fun v z=>by
   have G:Data.fields _=Data.cell v:=z;cases G⟩
 keep:=fun i h l a k=>k it (by simp) _ a
 item:=by
  intro X m C A B i d s σ H E I j a y;subst m C A;obtain ⟨r,x,M,q,u,p⟩:=j it (by simp);have W:=Walks.range (prog:=X.prog) (w:=X.w) (I.ok.hd B) it lo c n;refine W.item i s _ _ y a fun v l D J g L=>?_;obtain ⟨t,rfl⟩:=J;have I1:Inv X d σ H { s with heap:=l,toks:=D }:=I.turned (fun b o f e=>L b o (by simpa using f) e) r x q u p;exact ⟨_,rfl,go_of (s:={ s with heap:=l,toks:=D }) (n:="range_iterator") g rfl rfl ⋯ ⟨.int (lo+i*c),H,I1,⟨t,rfl⟩,⟨rfl,rfl⟩,g,fun b f=>(j b f).1⟩⟩
 done:=by
  intro X m C A B i d s σ H E I j a y;subst m C A;obtain ⟨r,x,M,q,u,p⟩:=j it (by simp);exact wpAny_pyNext_range_end (I.ok.hd B) a (by have : n<=i:=y;ac_nf) fun l F=>⟨rfl,I.turned (t':=s.toks) (fun b o f e=>F b o f e) r x q u p⟩
 self:=fun _ _ _ _ _ a h=>wpAny_pyIter_rangeiter a h
def rsz (lo hi c:Int):Nat:=(if lo<hi then (hi-lo-1)/c+1 else 0).toNat
theorem JeS {lo hi c:Int} (hc:1<=c):((rsz lo hi c:Nat):Int)=Builtin.Range.rangeSize lo hi c:=by
 unfold rsz Builtin.Range.rangeSize;rw [if_pos (show c > 0 by ac_nf)];split
 ·have:=Int.ediv_nonneg (a:=hi-lo-1) (b:=c) ∅ ∅;ac_nf
 ·rfl
theorem JgB {lo hi c:Int} (h1:0<=lo) (h2:lo<2 ^ 40) (h3:0<=hi) (h4:hi<2 ^ 40) (h5:1<=c) (h6:c<2 ^ 30):Builtin.Range.small lo hi c=true:=by
 unfold Builtin.Range.small;have e:0<=Builtin.Range.rangeSize lo hi c/\Builtin.Range.rangeSize lo hi c<2 ^ 41:=by
  rw [<- JeS h5];refine ⟨by ac_nf,?_⟩;unfold rsz;split
  ·have d:=Int.ediv_nonneg (a:=hi-lo-1) (b:=c) ∅ ∅;have f:=Int.ediv_le_self c (show 0<=hi-lo-1 by ac_nf);ac_nf
  ·simp
 generalize Builtin.Range.rangeSize lo hi c=z at e ⊢;simp only [Builtin.Range.rangeFitsLong,Bool.and_eq_true,Bool.or_eq_true,decide_eq_true_eq,beq_iff_eq];rw [if_pos ∅];simp only [Bool.and_eq_true,decide_eq_true_eq];ac_nf
section
variable {X:Cx} {tg:Expr}
theorem JlD {pins:List (Addr × Obj)} {σ : St} {H:Hp} {s:Shared} {R:It->Hp->Prop} {h:Heap} {lo c:Int} {n:Nat} {t':Nat} (I:Inv X pins σ H { s with heap:=h,toks:=t' }) (q:R (Itq lo c n) H) :
  PIE X pins σ tg R (.ref h.objs.size) { s with heap:=h.push { cls:=.type "range_iterator",data:=.fields #[rawInt lo,rawInt (n:Int),rawInt c] },toks:=t' }:=by
 refine ⟨h.objs.size,[h.objs.size],_,_,H,rfl,I.kept (t':=t') fun b o e=>Heap.get?_push_of_some _ e,JgI _ lo c n,?_,fun b f=>?_,q⟩
 ·have d:lo+((0:Nat):Int)*c=lo:=by simp
  have a:(n:Int)-((0:Nat):Int)=n:=by simp
  show IsRangeIter _ _ (lo+((0:Nat):Int)*c) ((n:Int)-((0:Nat):Int)) c;rw [d,a];exact Heap.get?_push_size _ rfl
 ·have e:b=h.objs.size:=by simpa using f
  subst e;exact I.fpOk (Nat.le_refl _) (I.hok.fresh (Nat.le_refl _))
def iRng3 (ta:TA):TI:=fun σ H R=>ta σ H fun vs H1=>∃ i j c:Int,vs=[.int i, .int j, .int c]/\(0<=i/\i<2 ^ 40/\0<=j/\j<2 ^ 40/\1<=c/\c<2 ^ 30)/\R (Itq i c (rsz i j c)) H1
theorem Jip {a b d:Expr} {ta:TA} {p pos:Pos} (hg:Gl X "range") (hm:X.mg "range"=none) (ha:PA X [a,b,d] ta)
  (hs:starEach [a,b,d] X.env=[(false,eval a X.env),(false,eval b X.env),(false,eval d X.env)]:=by rfl) (hs2:starEach [b,d] X.env=[(false,eval b X.env),(false,eval d X.env)]:=by rfl):PI X tg (.Call (.Name "range" p) [a,b,d] [] pos) (iRng3 ta):=by
 intro f s σ H R I h;refine wpAny_Call_Name_kw (JdZ I hg hm JiV ?_);refine PyProof.Rows.callWith_type1 (thn (ha pos f s σ H _ I h) fun y v ζ=>?_) (by rw [hs,hs2]) (by rw [hs2];rfl);obtain ⟨z,A,I1,x,g⟩:=ζ;obtain ⟨i,j,c,e,⟨g,w,u,m,k,l⟩,q⟩:=g;subst e;cases x with
 | cons r rr=>
  cases rr with
  | cons r' rr=>
   cases rr with
   | cons r'' rr=>
    cases rr;obtain ⟨t,rfl⟩:=r;obtain ⟨t',rfl⟩:=r';obtain ⟨n,rfl⟩:=r'';refine call_range_3 ∅ ?_ (Or.inl (PyProof.noPylong_small ∅));refine wpAny_pyIter_range (IsRange.new ..) (JgB g w u m k l) ?_;rw [<- JeS k];exact JlD (I1.kept (t':=v.toks) fun b o e=>Heap.get?_push_of_some _ e) q
end
section
variable {ta:TA} {g:TG} {tb:TS} {D:Ends} {σ : St} {H:Hp}
def ForQ (lo c:Int) (n:Nat) (g:TG) (tb:TS) (D:Ends) (σ : St) (H:Hp):Prop:=∃ W:Nat->Nat->St->Hp->Prop,(∃ m,W 0 m σ H)/\∀ i m σ H,W i m σ H ->
 ((Itq lo c n).stop i H/\D.nx σ H)\/((Itq lo c n).go i H/\∃ N:St->Hp->Prop,(∀ σ' H',N σ' H'->∃ m',m'<m/\W (i+1) m' σ' H')/\∀ x H',(Itq lo c n).yld i H x H'->g x σ H' fun σ2 H2=>tb { D with nx:=N,ct:=N,bk:=D.nx } σ2 H2)
theorem y52y:tFor (iRng3 ta) g tb D σ H=ta σ H fun vs H1=>∃ i j c:Int,vs=[.int i, .int j, .int c]/\(0<=i/\i<2 ^ 40/\0<=j/\j<2 ^ 40/\1<=c/\c<2 ^ 30)/\ForQ i c (rsz i j c) g tb D σ H1:=rfl
theorem ForQ.by {lo c:Int} {n:Nat} (Pv:Nat->St->Hp->Prop) (h0:Pv 0 σ H)
  (hs:∀ i σ H,i<n->Pv i σ H->g (.int (lo+i*c)) σ H fun σ2 H2=>tb { D with nx:=Pv (i+1),ct:=Pv (i+1),bk:=D.nx } σ2 H2) (hd:∀ σ H,Pv n σ H->D.nx σ H):ForQ lo c n g tb D σ H:=by
 refine ⟨fun i m σ H=>m=n-i/\i<=n/\Pv i σ H,⟨n,by simp,Nat.zero_le _,h0⟩,?_⟩;rintro i m σ H ⟨rfl,f,p⟩;by_cases a:i<n
 ·refine .inr ⟨a,Pv (i+1),fun σ' b d=>⟨n-(i+1),by ac_nf,rfl,a,d⟩,fun x b y=>?_⟩;obtain ⟨e,y⟩:=y;subst e y;exact hs i σ _ a p
 ·have e:i=n:=by ac_nf
  subst e;exact .inl ⟨Nat.le_refl _,hd σ H p⟩
end
theorem y5cy {c:TT} {ta tb:TE} {σ : St} {H:Hp} {Q:VK}:tIf c ta tb σ H Q=c σ H fun b H1=>if b=true then ta σ H1 Q else tb σ H1 Q:=rfl
def rLenD (xs:List V) (H:Hp) (Q:VK):Prop:=∃ d kvs,xs=[.ref d]/\H d=some (.dK kvs)/\Q (.int (kvs.length:Int)) H
theorem Jb6 {X:Cx}:CallR X (.builtin "len") rLenD:=by
 intro c s σ H n m Q I r h;obtain ⟨d,a,rfl,e,q⟩:=h;obtain ⟨u,rfl,g⟩:=vals1 r;cases g;obtain ⟨l,f,j,b,k⟩:=dk_of I.hok e;have o:=JeO;have i:j.length=a.length:=b.length.symm;exact call_len_dict f k ∅ ⟨.int (a.length:Int),H,I.tok _,⟨s.toks+1,by rw [i]⟩,q⟩
def vl (a:Int × Int):Rat:=(a.1:Rat)/(a.2:Rat)
theorem JaG {a:Int} (h:1<=a):(a:Rat)≠0:=fun z=>by
 have : a=0:=by exact_mod_cast z
 ac_nf
theorem vl_eq {a c:Int × Int} (ha:1<=a.2) (hc:1<=c.2):vl a=vl c↔a.1*c.2=c.1*a.2:=by
 unfold vl;have d:=JaG ha;have b:=JaG hc;have e:((a.1*c.2=c.1*a.2)↔((a.1:Rat)*(c.2:Rat)=(c.1:Rat)*(a.2:Rat))):=by
  constructor
  ·intro h;exact_mod_cast h
  ·intro h;exact_mod_cast h
 rw [e];generalize (a.1:Rat)=x at *;generalize (a.2:Rat)=y at *;generalize (c.1:Rat)=z at *;generalize (c.2:Rat)=u at *;constructor
 ·intro h;grind
 ·intro h;grind
theorem JjU {a c:Int × Int} (ha:1<=a.2) (hc:1<=c.2) (h1:Mth.g a.1 a.2=1) (h2:Mth.g c.1 c.2=1) (h:vl a=vl c):a=c:=by
 have:=Mth.Jdq ha hc h1 h2 ((vl_eq ha hc).mp h);exact Prod.ext this.1 this.2
theorem JjS {a c:Int × Int} (ha:1<=a.2) (hc:1<=c.2):vl (addF a c)=vl a+vl c:=by
 have d:a.2*c.2≠0:=Int.mul_ne_zero ∅ ∅;have f:=Mth.cross (t:=a.1*c.2+c.1*a.2) d;have g:=Mth.JcV (t:=a.1*c.2+c.1*a.2) d;unfold vl addF;dsimp only;generalize Mth.top (a.1*c.2+c.1*a.2) (a.2*c.2)=t at *;generalize Mth.bot (a.1*c.2+c.1*a.2) (a.2*c.2)=b at *;have i:=JaG ha;have h:=JaG hc;have j:=JaG g;have e:(t:Rat)*((a.2:Rat)*(c.2:Rat))=((a.1:Rat)*(c.2:Rat)+(c.1:Rat)*(a.2:Rat))*(b:Rat):=by exact_mod_cast f
 generalize (a.1:Rat)=x at *;generalize (a.2:Rat)=y at *;generalize (c.1:Rat)=z at *;generalize (c.2:Rat)=u at *;generalize (t:Rat)=t at *;generalize (b:Rat)=b at *;grind
theorem JdF (a:Int × Int):vl (negF a) = - vl a:=by
 unfold vl negF;rw [Rat.intCast_neg];grind
theorem Jew {a c:Int × Int} (ha:1<=a.2) (hc:1<=c.2):lessF a c=true↔vl a<vl c:=by
 unfold lessF vl;rw [decide_eq_true_iff];have f:(0:Rat)<(a.2:Rat):=by exact_mod_cast (show 0<a.2 by ac_nf)
 have b:(0:Rat)<(c.2:Rat):=by exact_mod_cast (show 0<c.2 by ac_nf)
 have e:((a.1*c.2<c.1*a.2)↔((a.1:Rat)*(c.2:Rat)<(c.1:Rat)*(a.2:Rat))):=by
  constructor
  ·intro h;exact_mod_cast h
  ·intro h;exact_mod_cast h
 rw [e];rw [Rat.div_lt_iff f];generalize (a.1:Rat)=x at *;generalize (a.2:Rat)=y at *;generalize (c.1:Rat)=z at *;generalize (c.2:Rat)=u at *;have d:z/u*y=z*y/u:=by grind
 rw [d,Rat.lt_div_iff b]
theorem Jbi.trans {ls:List PD} {a b c:Str} {w w':List Pr} (h:Jbi ls a w b) (h':Jbi ls b w' c):Jbi ls a (w++w') c:=by
 induction h' with
 | nil=>
  rw [append_nil];exact h
 | snoc _ hm ih=>
  rw [<- List.append_assoc];exact .snoc ih hm
theorem Conn.trans {ls:List PD} {a b c:Str}:Conn ls a b->Conn ls b c->Conn ls a c:=fun ⟨w,h⟩ ⟨e,d⟩=>⟨w++e,h.trans d⟩
theorem Conn.refl {ls:List PD} {a:Str}:Conn ls a a:=⟨[], .nil⟩
theorem Conn.lead {ls:List PD} {f g:Str} {pr:Pr} (h:(g,pr)∈JaA ls f):Conn ls f g:=⟨[]++[pr], .snoc .nil h⟩
theorem Conn.symm {ls:List PD} (hn:∀ p∈ls,p.st≠p.en) {a b:Str} (h:Conn ls a b):Conn ls b a:=by
 obtain ⟨w,h⟩:=h;induction h with
 | nil=>exact .refl
 | snoc _ hm ih=>
  obtain ⟨p,c,h | h⟩:=Jbj.mp hm
  ·exact Conn.trans (.lead (Jbj.mpr ⟨p,c, .inr ⟨fun z=>hn p c (z.trans h.2.1.symm),h.2.1,h.1,rfl⟩⟩)) ih
  ·exact Conn.trans (.lead (Jbj.mpr ⟨p,c, .inl ⟨h.2.2.1,h.2.1,rfl⟩⟩)) ih
theorem Conn.mono {ls:List PD} {p:PD} {a b:Str} (h:Conn ls a b):Conn (ls++[p]) a b:=by
 obtain ⟨w,h⟩:=h;refine ⟨w,?_⟩;induction h with
 | nil=>exact .nil
 | snoc _ hm ih=>exact .snoc ih (by rw [Jd1];exact mem_append.mpr (.inl hm))
theorem JhH {ls:List PD} {p:PD} (hp:p∈ls):Conn ls p.st p.en:=.lead (pr:=(p.nm,true)) (Jbj.mpr ⟨p,hp, .inl ⟨rfl,rfl,rfl⟩⟩)
theorem JiX {ls:List PD} (hn:∀ p∈ls,p.st≠p.en) {a b:Str} (h:Conn ls a b) (hne:a≠b):a∈fcsOf ls/\b∈fcsOf ls:=by
 have c:∀ {a b:Str},Conn ls a b->a≠b->b∈fcsOf ls:=fun {a b} h hne=>by
  obtain ⟨w,h⟩:=h;rcases mem_cons.mp (Jhb h) with e | e
  ·exact absurd e.symm hne
  ·exact e
 exact ⟨c (h.symm hn) (Ne.symm hne),c h hne⟩
theorem Jee {p:PD}:∀ (l1 acc:List PD),partsW acc (l1.map Sum.inl)=.ok (acc++l1)->p.nm∉(acc++l1).map (·.nm)->¬ Conn (acc++l1) p.st p.en->partsW acc ((l1++[p]).map Sum.inl)=.ok (acc++(l1++[p]))
 | [],acc,_,h2,h3=>by
  rw [append_nil] at h2 h3;rw [nil_append,map_cons,map_nil,Jdc h2 h3,partsW]
 | q::l1,acc,h1,h2,h3=>by
  have ea:acc++q::l1=(acc++[q])++l1:=by simp
  rw [ea] at h1 h2 h3;rw [cons_append,map_cons];rw [map_cons,partsW] at h1;split at h1
  ·cases h1
  ·rename_i c1;split at h1
   ·cases h1
   ·rename_i c2;rw [Jdc c1 c2,Jee l1 (acc++[q]) h1 h2 h3];simp
theorem Conn.sub {L L':List PD} (hs:∀ p∈L,p∈L') {a b:Str} (h:Conn L a b):Conn L' a b:=by
 obtain ⟨w,h⟩:=h;refine ⟨w,?_⟩;induction h with
 | nil=>exact .nil
 | snoc _ hm ih=>
  obtain ⟨p,c,h⟩:=Jbj.mp hm;exact .snoc ih (Jbj.mpr ⟨p,hs p c,h⟩)
def Tree (ls:List PD):Prop:=∀ p∈ls, ¬ Conn (ls.filter fun x=>decide (x.nm≠p.nm)) p.st p.en
theorem Jh2 {L:List PD} {x:Str} {e:Str × Pr} (h:e∈JaA L x):x∈fcsOf L/\e.1∈fcsOf L:=by
 refine ⟨?_,JgY h⟩;obtain ⟨p,a,h⟩:=(Jbj (g:=e.1) (pr:=e.2)).mp h;refine mem_flatMap.mpr ⟨p,a,?_⟩;rcases h with h | h
 ·rw [<- h.1];simp
 ·rw [<- h.2.1];simp
theorem Conn.retract {L:List PD} {q:PD} {f s0:Str} (hq:(q.st=f/\q.en=s0)\/(q.st=s0/\q.en=f)) (hf:f∉fcsOf L) {a b:Str} (h:Conn (L++[q]) a b):Conn L (if a=f then s0 else a) (if b=f then s0 else b):=by
 obtain ⟨w,h⟩:=h;induction h with
 | nil=>exact .refl
 | snoc _ hm ih=>
  refine ih.trans ?_;rw [Jd1] at hm;rcases mem_append.mp hm with h | h
  ·have e:=Jh2 h;have g:∀ x∈fcsOf L,x≠f:=fun x c z=>hf (z ▸ c);rw [if_neg (g _ e.1),if_neg (g _ e.2)];exact .lead h
  ·have d:∀ x,JaA [q] x=JdC q x:=fun x=>by simp [JaA]
   have j:=h;rw [<- d] at j;obtain ⟨p,i,k⟩:=Jbj.mp j;rw [mem_singleton] at i;subst i;have e:∀ x:Str,x=p.st\/x=p.en->(if x=f then s0 else x)=s0:=fun x c=>by
    split
    ·rfl
    ·rename_i n;rcases hq with ⟨h1,h2⟩ | ⟨h1,h2⟩ <;> rcases c with c | c
     ·exact absurd (c.trans h1) n
     ·exact c.trans h2
     ·exact c.trans h1
     ·exact absurd (c.trans h2) n
   rcases k with k | k
   ·rw [e _ (.inl k.1.symm),e _ (.inr k.2.1.symm)];exact .refl
   ·rw [e _ (.inr k.2.1.symm),e _ (.inl k.2.2.1.symm)];exact .refl
theorem Jef {ls:List PD} (ht:Tree ls):∀ (l acc:List PD),((acc++l).map (·.nm)).Nodup->(∀ x∈acc++l,x∈ls)->partsW acc (l.map Sum.inl)=.ok (acc++l)
 | [],acc,_,_=>by rw [map_nil,partsW,append_nil]
 | p::l,acc,hn,hs=>by
  have ea:acc++p::l=(acc++[p])++l:=by simp
  have ne:p.nm∉acc.map (·.nm):=by
   have h2:=hn;rw [map_append,map_cons,nodup_append] at h2;exact fun z=>h2.2.2 _ z _ (by simp) rfl
  have nc:¬ Conn acc p.st p.en:=fun z=>ht p (hs p (by simp)) (z.sub fun x hx=>mem_filter.mpr ⟨hs x (by simp [hx]),by
   rw [decide_eq_true_iff];exact fun e=>ne (by rw [<- e];exact mem_map.mpr ⟨x,hx,rfl⟩)⟩)
  rw [map_cons,Jdc ne nc,Jef ht l (acc++[p]) (by rw [<- ea];exact hn) (by rw [<- ea];exact hs),ea]
def sgn (b:Bool) (a:Int × Int):Int × Int:=if b then a else negF a
inductive Legs (ls:List PD) (pl:Str->Int × Int):Str->List Pr->Str->Prop
 | nil {a:Str}:Legs ls pl a [] a
 | cons {a g b:Str} {p:PD} {fw:Bool} {w:List Pr}:p∈ls->vl (pl g)=vl (pl a)+vl (sgn fw p.sz)->Legs ls pl g w b->Legs ls pl a ((p.nm,fw)::w) b
theorem Legs.snoc {ls:List PD} {pl:Str->Int × Int} {a f g:Str} {w:List Pr} {p:PD} {fw:Bool} (h:Legs ls pl a w f) (hp:p∈ls) (e:vl (pl g)=vl (pl f)+vl (sgn fw p.sz)):Legs ls pl a (w++[(p.nm,fw)]) g:=by
 induction h with
 | nil=>exact .cons hp e .nil
 | cons h1 h2 _ ih=>exact .cons h1 h2 (ih e)
theorem Jkl {ls:List PD} {pl:Str->Int × Int} (hpl:∀ p∈ls,vl (pl p.en)=vl (pl p.st)+vl p.sz) {a b:Str} {w:List Pr} (h:Jbi ls a w b):Legs ls pl a w b:=by
 induction h with
 | nil=>exact .nil
 | snoc _ hm ih=>
  obtain ⟨p,c,h | h⟩:=Jbj.mp hm
  ·obtain ⟨e,d,rfl⟩:=h;refine ih.snoc c ?_;rw [<- e, <- d];exact hpl p c
  ·obtain ⟨_,e,d,rfl⟩:=h;refine ih.snoc c ?_;have:=hpl p c;rw [<- e, <- d,this];show _=_+vl (negF p.sz);rw [JdF];grind
def nmK (s st k:Nat):Str:=⟨(List.replicate st s++([97+k]++List.replicate (3-st) s)).toArray⟩
theorem JcE {s st i j:Nat} (h:nmK s st i=nmK s st j):i=j:=by
 unfold nmK at h;injection h with h
 have h:=congrArg Array.toList h;simp at h;exact h
theorem JdM {s st k:Nat} (hs:97<=s/\s<=122) (hst:st<=3) (hk:k<=25):nameS (nmK s st k)=true:=by
 unfold nameS nmK;simp [Str.length,lowB];exact ⟨by ac_nf, .inr hs,by ac_nf, .inr hs⟩
theorem FB.mono {A B C D:Nat} {a:Int × Int} (h:FB A B a) (h1:A<=C) (h2:B<=D):FB C D a:=⟨h.s1.mono h1,h.s2.mono h2,h.b1,h.g1⟩
theorem Jex:FB 1 1 (0,1):=⟨.lit ⋯ ⋯, .lit ⋯ ⋯,by decide,by decide⟩
structure SpD where
 f:Str
 r:Str
 p:Int × Int
structure Grn (st:Nat) (ls:List PD) (sp:List SpD):Prop where
 nm:∀ i p,ls[i]?=some p->p.nm=nmK 112 st i
 fc:∀ i s,sp[i]?=some s->s.f=nmK 102 st i
 ok:∀ p∈ls,POk p
 sub:∀ p∈ls,p.st∈sp.map (·.f)/\p.en∈sp.map (·.f)
 con:∀ s∈sp,Conn ls s.r s.f
 pl:∀ p∈ls, ∀ s∈sp, ∀ t∈sp,s.f=p.st->t.f=p.en->vl t.p=vl s.p+vl p.sz
 fb:∀ s∈sp,FB (134+21*ls.length) (20*ls.length+1) s.p
 good:partsW [] (ls.map Sum.inl)=.ok ls
 tr:Tree ls
theorem Grn.new {st:Nat} {ls:List PD} {sp:List SpD} (h:Grn st ls sp) {n:Nat} (hn:sp.length<=n):nmK 102 st n∉sp.map (·.f):=fun z=>by
 obtain ⟨s,c,e⟩:=mem_map.mp z;obtain ⟨i,b⟩:=List.getElem?_of_mem c;have d:=(List.getElem?_eq_some_iff.mp b).1;have a:s.f=nmK 102 st n:=e;rw [h.fc i s b] at a;have:=JcE a;ac_nf
theorem Grn.nil {st:Nat}:Grn st [] []:=⟨by simp,by simp,by simp,by simp,by simp,by simp,by simp,by rw [map_nil,partsW],fun p a=>by cases a⟩
theorem Grn.inj {st:Nat} {ls:List PD} {sp:List SpD} (h:Grn st ls sp) {s t:SpD} (hs:s∈sp) (ht:t∈sp) (e:s.f=t.f):s=t:=by
 obtain ⟨i,b⟩:=List.getElem?_of_mem hs;obtain ⟨j,a⟩:=List.getElem?_of_mem ht;rw [h.fc i s b,h.fc j t a] at e;have:=JcE e;subst this;rw [b] at a;exact Option.some.inj a
theorem Jbn {α : Type} {l:List α} {a x : α} {i:Nat} (h:(l++[a])[i]?=some x):l[i]?=some x\/(i=l.length/\x=a):=by
 by_cases c:i<l.length
 ·rw [List.getElem?_append_left c] at h;exact .inl h
 ·have b:=(List.getElem?_eq_some_iff.mp h).1;rw [length_append,length_singleton] at b;have e:i=l.length:=by ac_nf
  subst e;rw [List.getElem?_append_right (Nat.le_refl _),Nat.sub_self] at h;cases h;exact .inr ⟨rfl,rfl⟩
theorem Grn.face {st:Nat} {ls:List PD} {sp:List SpD} (h:Grn st ls sp):Grn st ls (sp++[⟨nmK 102 st sp.length,nmK 102 st sp.length,(0,1)⟩]) where
 nm:=h.nm
 fc:=fun i s f=>by
  rcases Jbn f with f | ⟨rfl,rfl⟩
  ·exact h.fc i s f
  ·rfl
 ok:=h.ok
 sub:=fun p b=>by
  rw [map_append];exact ⟨mem_append.mpr (.inl (h.sub p b).1),mem_append.mpr (.inl (h.sub p b).2)⟩
 con:=fun s a=>by
  rcases mem_append.mp a with a | a
  ·exact h.con s a
  ·rw [mem_singleton.mp a];exact .refl
 pl:=fun p b s a t c e d=>by
  have g:=h.new (Nat.le_refl sp.length);rcases mem_append.mp a with a | a
  ·rcases mem_append.mp c with c | c
   ·exact h.pl p b s a t c e d
   ·rw [mem_singleton.mp c] at d;dsimp only at d;exact absurd (d ▸ (h.sub p b).2) g
  ·rw [mem_singleton.mp a] at e;dsimp only at e;exact absurd (e ▸ (h.sub p b).1) g
 fb:=fun s a=>by
  rcases mem_append.mp a with a | a
  ·exact h.fb s a
  ·rw [mem_singleton.mp a];exact Jex.mono ∅ ∅
 good:=h.good
 tr:=h.tr
theorem Grn.part {st:Nat} {ls:List PD} {sp:List SpD} (h:Grn st ls sp) (hst:st<=3) {s0:SpD} (h0:s0∈sp) {p:PD} {d:Bool} (hnm:p.nm=nmK 112 st ls.length)
  (h1:p.st=if d then s0.f else nmK 102 st sp.length) (h2:p.en=if d then nmK 102 st sp.length else s0.f) (hz:FB 133 20 p.sz) (hok:POk p):Grn st (ls++[p]) (sp++[⟨nmK 102 st sp.length,s0.r,addF s0.p (sgn d p.sz)⟩]):=by
 have u:=h.new (Nat.le_refl sp.length);have E:s0.f∈sp.map (·.f):=mem_map.mpr ⟨s0,h0,rfl⟩;have v:nmK 102 st sp.length≠s0.f:=fun z=>u (z ▸ E);have M:∀ q∈ls,q.st≠q.en:=fun q a=>(h.ok q a).ne;have D:nmK 102 st sp.length∉fcsOf ls:=fun z=>by
  obtain ⟨q,a,B⟩:=mem_flatMap.mp z;simp at B;rcases B with e | e
  ·exact u (e ▸ (h.sub q a).1)
  ·exact u (e ▸ (h.sub q a).2)
 have L:¬ Conn ls p.st p.en:=fun z=>by
  have:=JiX M z hok.ne;cases d with
  | true=>
   rw [if_pos rfl] at h1 h2;exact D (h2 ▸ this.2)
  | false=>
   rw [if_neg ⋯] at h1 h2;exact D (h1 ▸ this.1)
 have R:p.nm∉ls.map (·.nm):=fun z=>by
  obtain ⟨q,a,e⟩:=mem_map.mp z;obtain ⟨i,o⟩:=List.getElem?_of_mem a;have T:=(List.getElem?_eq_some_iff.mp o).1;have k:q.nm=p.nm:=e;rw [h.nm i q o,hnm] at k;have:=JcE k;ac_nf
 have A:=h.fb s0 h0;have w:FB 133 20 (sgn d p.sz):=by
  cases d with
  | true=>exact hz
  | false=>exact hz.neg
 have G:FB (134+21*(ls.length+1)) (20*(ls.length+1)+1) (addF s0.p (sgn d p.sz)):=by
  have:=FB.add (n:=154+21*ls.length) (m:=20*(ls.length+1)+1) A w ∅ ∅ ∅;have e:134+21*(ls.length+1)=154+21*ls.length+1:=by ac_nf
  rw [e];exact this
 have J:vl (addF s0.p (sgn d p.sz))=vl s0.p+vl (sgn d p.sz):=JjS A.b1 w.b1;refine ⟨fun i q o=>?_,fun i s o=>?_,fun q a=>?_,fun q a=>?_,fun s b=>?_,fun q a s b t j l k=>?_,fun s b=>?_,?_,fun q a z=>?_⟩
 ·rcases Jbn o with o | ⟨rfl,rfl⟩
  ·exact h.nm i q o
  ·exact hnm
 ·rcases Jbn o with o | ⟨rfl,rfl⟩
  ·exact h.fc i s o
  ·rfl
 ·rcases mem_append.mp a with a | a
  ·exact h.ok q a
  ·rw [mem_singleton.mp a];exact hok
 ·rw [map_append];rcases mem_append.mp a with a | a
  ·exact ⟨mem_append.mpr (.inl (h.sub q a).1),mem_append.mpr (.inl (h.sub q a).2)⟩
  ·rw [mem_singleton.mp a,h1,h2];have K:nmK 102 st sp.length∈[(⟨nmK 102 st sp.length,s0.r,addF s0.p (sgn d p.sz)⟩:SpD)].map (·.f):=by simp
   cases d with
   | true=>exact ⟨mem_append.mpr (.inl E),mem_append.mpr (.inr K)⟩
   | false=>exact ⟨mem_append.mpr (.inr K),mem_append.mpr (.inl E)⟩
 ·rcases mem_append.mp b with b | b
  ·exact (h.con s b).mono
  ·rw [mem_singleton.mp b];have P:p∈ls++[p]:=by simp
   have F:∀ q∈ls++[p],q.st≠q.en:=fun q a=>by
    rcases mem_append.mp a with a | a
    ·exact M q a
    ·rw [mem_singleton.mp a];exact hok.ne
   have c:=JhH P;cases d with
   | true=>
    rw [if_pos rfl] at h1 h2;rw [h1,h2] at c;exact ((h.con s0 h0).mono).trans c
   | false=>
    rw [if_neg ⋯] at h1 h2;rw [h1,h2] at c;exact ((h.con s0 h0).mono).trans (c.symm F)
 ·rcases mem_append.mp a with a | a
  ·rcases mem_append.mp b with b | b
   ·rcases mem_append.mp j with j | j
    ·exact h.pl q a s b t j l k
    ·rw [mem_singleton.mp j] at k;dsimp only at k;exact absurd (k ▸ (h.sub q a).2) u
   ·rw [mem_singleton.mp b] at l;dsimp only at l;exact absurd (l ▸ (h.sub q a).1) u
  ·have a:=mem_singleton.mp a;subst a;cases d with
   | true=>
    rw [if_pos rfl] at h1 h2;rw [h1] at l;rw [h2] at k;have C:s=s0:=by
     rcases mem_append.mp b with b | b
     ·exact h.inj b h0 l
     ·rw [mem_singleton.mp b] at l;dsimp only at l;exact absurd l v
    have H:t.p=addF s0.p (sgn true q.sz):=by
     rcases mem_append.mp j with j | j
     ·exact absurd (k ▸ mem_map.mpr ⟨t,j,rfl⟩) u
     ·rw [mem_singleton.mp j]
    rw [C,H,J];rfl
   | false=>
    rw [if_neg ⋯] at h1 h2;rw [h1] at l;rw [h2] at k;have H:t=s0:=by
     rcases mem_append.mp j with j | j
     ·exact h.inj j h0 k
     ·rw [mem_singleton.mp j] at k;dsimp only at k;exact absurd k v
    have C:s.p=addF s0.p (sgn false q.sz):=by
     rcases mem_append.mp b with b | b
     ·exact absurd (l ▸ mem_map.mpr ⟨s,b,rfl⟩) u
     ·rw [mem_singleton.mp b]
    have O:vl (sgn false q.sz) = - vl q.sz:=JdF q.sz;rw [H,C,J,O];grind
 ·rw [length_append,length_singleton];rcases mem_append.mp b with b | b
  ·have:=h.fb s b;exact this.mono ∅ ∅
  ·rw [mem_singleton.mp b];exact G
 ·have:=Jee (p:=p) ls [] (by rw [nil_append];exact h.good) (by rw [nil_append];exact R) (by rw [nil_append];exact L);rw [nil_append] at this;exact this
 ·rw [filter_append] at z;rcases mem_append.mp a with a | a
  ·have N:∀ x∈ls.filter (fun x=>decide (x.nm≠q.nm)),x∈ls:=fun x g=>(mem_filter.mp g).1;have S:nmK 102 st sp.length∉fcsOf (ls.filter fun x=>decide (x.nm≠q.nm)):=fun y=>D (by
    obtain ⟨x,g,B⟩:=mem_flatMap.mp y;exact mem_flatMap.mpr ⟨x,N x g,B⟩)
   have Q:Conn (ls.filter (fun x=>decide (x.nm≠q.nm))++[p]) q.st q.en:=z.sub fun x g=>by
    rcases mem_append.mp g with g | g
    ·exact mem_append.mpr (.inl g)
    ·exact mem_append.mpr (.inr (mem_filter.mp g).1)
   have:=Q.retract (s0:=s0.f) (f:=nmK 102 st sp.length) (by
    cases d with
    | true=>exact .inr ⟨h1,h2⟩
    | false=>exact .inl ⟨h1,h2⟩) S
   have I:∀ x∈sp.map (·.f),x≠nmK 102 st sp.length:=fun x g y=>u (y ▸ g);rw [if_neg (I _ (h.sub q a).1),if_neg (I _ (h.sub q a).2)] at this;exact h.tr q a this
  ·rw [mem_singleton.mp a] at z;exact L (z.sub fun x g=>by
    rcases mem_append.mp g with g | g
    ·exact (mem_filter.mp g).1
    ·have:=(mem_filter.mp g);have e:=mem_singleton.mp this.1;rw [e] at this;simp at this)
def Two (sp:List SpD):Prop:=∀ s∈sp, ∃ t∈sp,t.f≠s.f/\t.r=s.r
theorem Jjt {st:Nat} {ls:List PD} {sp:List SpD} (h:Grn st ls sp) {s0:SpD} (h0:s0∈sp) (ht:∀ s∈sp,s.r=s0.r\/∃ t∈sp,t.f≠s.f/\t.r=s.r) {z:Int × Int}:Two (sp++[⟨nmK 102 st sp.length,s0.r,z⟩]):=by
 have b:=h.new (Nat.le_refl sp.length);intro s a;rcases mem_append.mp a with a | a
 ·rcases ht s a with e | ⟨t,ht,e1,e2⟩
  ·exact ⟨⟨nmK 102 st sp.length,s0.r,z⟩,by simp,fun q=>b (mem_map.mpr ⟨s,a,q.symm⟩),e.symm⟩
  ·exact ⟨t,mem_append.mpr (.inl ht),e1,e2⟩
 ·rw [mem_singleton.mp a];exact ⟨s0,mem_append.mpr (.inl h0),fun q=>b (mem_map.mpr ⟨s0,h0,q⟩),rfl⟩
theorem Grn.joined {st:Nat} {ls:List PD} {sp:List SpD} (h:Grn st ls sp) {s t:SpD} (hs:s∈sp) (ht:t∈sp) (e:s.r=t.r):Conn ls s.f t.f:=by
 have b:∀ q∈ls,q.st≠q.en:=fun q a=>(h.ok q a).ne;exact ((h.con s hs).symm b).trans (e ▸ h.con t ht)
def spOf (sp:List SpD) (f:Str):Int × Int:=((sp.find? fun s=>decide (s.f=f)).map (·.p)).getD (0,1)
theorem Grn.pl_at {st:Nat} {ls:List PD} {sp:List SpD} (h:Grn st ls sp) {s:SpD} (hs:s∈sp):spOf sp s.f=s.p:=by
 unfold spOf;cases e:sp.find? fun t=>decide (t.f=s.f) with
 | none=>
  have:=List.find?_eq_none.mp e s hs;simp at this
 | some t=>
  have c:=List.mem_of_find?_eq_some e;have a:=List.find?_some e;have b:t.f=s.f:=by simpa using a
  rw [h.inj c hs b];rfl
theorem Grn.pls {st:Nat} {ls:List PD} {sp:List SpD} (h:Grn st ls sp):∀ p∈ls,vl (spOf sp p.en)=vl (spOf sp p.st)+vl p.sz:=fun p c=>by
 obtain ⟨s,d,b⟩:=mem_map.mp (h.sub p c).1;obtain ⟨t,e,a⟩:=mem_map.mp (h.sub p c).2;have b:s.f=p.st:=b;have a:t.f=p.en:=a;rw [<- b, <- a,h.pl_at d,h.pl_at e];exact h.pl p c s d t e b a
theorem Grn.plb {st:Nat} {ls:List PD} {sp:List SpD} (h:Grn st ls sp) (hl:ls.length<=8) (f:Str):FB 302 161 (spOf sp f):=by
 unfold spOf;cases e:sp.find? fun t=>decide (t.f=f) with
 | none=>exact Jex.mono ∅ ∅
 | some t=>
  have:=h.fb t (List.mem_of_find?_eq_some e);exact this.mono ∅ ∅
theorem JiQ {t b:Int} (hb:1<=b):vl (Mth.top t b,Mth.bot t b)=(t:Rat)/(b:Rat):=by
 have a:b≠0:=by ac_nf
 have c:=Mth.cross (t:=t) a;have d:=Mth.JcV (t:=t) a;unfold vl;dsimp only;generalize Mth.top t b=x at *;generalize Mth.bot t b=y at *;have g:=JaG hb;have f:=JaG d;have e:(x:Rat)*(b:Rat)=(t:Rat)*(y:Rat):=by exact_mod_cast c
 generalize (x:Rat)=x at *;generalize (y:Rat)=y at *;generalize (t:Rat)=t at *;generalize (b:Rat)=b at *;grind
theorem FOk.fb {n:Nat} {a:Int × Int} (h:FOk n a):FB n n a:=⟨h.s1,h.s2,h.b1,h.g1⟩
def mid (pl:Str->Int × Int) (g:GD):Int × Int:=addF (pl g.en) (negF (pl g.st))
def roomF (pl:Str->Int × Int) (g:GD):Int × Int:=if lessF (addF g.hi (negF (mid pl g))) (addF (mid pl g) (negF g.lo)) then addF g.hi (negF (mid pl g)) else addF (mid pl g) (negF g.lo)
section
variable {A B A' B' C D C' D':Nat} {x y z w m a b:Int × Int}
theorem FB.inj (h:FB A B x) (k:FB C D y) (e:vl x=vl y):x=y:=JjU h.b1 k.b1 h.g1 k.g1 e
theorem FB.add' (h:FB A B x) (k:FB C D y):FB (A+D+(C+B)+1) (B+D) (addF x y):=FB.add h k ∅ ∅ (Nat.le_refl _)
theorem FB.vadd (h:FB A B x) (k:FB C D y):vl (addF x y)=vl x+vl y:=JjS h.b1 k.b1
theorem Jkk (hx:FB A B x) (hy:FB A B y) (hz:FB C D z) (hw:FB A B w) (e:vl y=vl x+vl z):addF (addF x (negF w)) z=addF y (negF w):=by
 refine FB.inj ((hx.add' hw.neg).add' hz) (hy.add' hw.neg) ?_;rw [FB.vadd (hx.add' hw.neg) hz,hx.vadd hw.neg,hy.vadd hw.neg,e,JdF];grind
theorem Ji2 (hx:FB A B x):addF x (negF x)=(0,1):=by
 refine FB.inj (hx.add' hx.neg) Jex ?_;rw [hx.vadd hx.neg,JdF];have : vl (0,1)=0:=by
  unfold vl;grind
 rw [this];grind
theorem Jj1 (hm:FB A B m) (ha:FB C D a):addF (addF m a) (negF m)=a:=by
 refine FB.inj ((hm.add' ha).add' hm.neg) ha ?_;rw [FB.vadd (hm.add' ha) hm.neg,hm.vadd ha,JdF];grind
theorem Jj2 (hm:FB A B m) (hb:FB C D b):addF m (negF (addF m (negF b)))=b:=by
 have a:=hm.add' hb.neg;refine FB.inj (hm.add' a.neg) hb ?_;rw [hm.vadd a.neg,JdF,hm.vadd hb.neg,JdF];grind
theorem Jjn (ha:FB A B a) (hb:FB C D b):(if lessF a b then a else b)=if lessF b a then b else a:=by
 have g:=Jew (a:=a) (c:=b) ha.b1 hb.b1;have f:=Jew (a:=b) (c:=a) hb.b1 ha.b1;by_cases e:lessF a b=true
 ·rw [if_pos e,if_neg fun d=>by
   have:=g.mp e;have:=f.mp d;grind]
 ·rw [if_neg e];by_cases d:lessF b a=true
  ·rw [if_pos d]
  ·rw [if_neg d];refine FB.inj hb ha ?_;have i:¬ vl a<vl b:=fun q=>e (g.mpr q);have h:¬ vl b<vl a:=fun q=>d (f.mpr q);grind
theorem hi_lo (hm:FB A B m) (ha:FB C D a) (hb:FB C' D' b) (h:0<=vl a+vl b):lessF (addF m a) (addF m (negF b))=false:=by
 have f:=hm.add' ha;have d:=hm.add' hb.neg;have c:=Jew f.b1 d.b1;rw [hm.vadd ha,hm.vadd hb.neg,JdF] at c;cases e:lessF (addF m a) (addF m (negF b)) with
 | false=>rfl
 | true=>
  have:=c.mp e;grind
theorem Jlh {pl:Str->Int × Int} {g:GD} (h:∀ f,FB 302 161 (pl f)):FB 464 322 (mid pl g):=FB.add (h _) (h _).neg ⋯ ⋯ ⋯
end
section
variable {α : Type} {f : α->Str} {l:List α} {s st:Nat}
theorem Ji5 (h:∀ i a,l[i]?=some a->f a=nmK s st i) {a b : α} (ha:a∈l) (hb:b∈l) (e:f a=f b):a=b:=by
 obtain ⟨i,d⟩:=List.getElem?_of_mem ha;obtain ⟨j,c⟩:=List.getElem?_of_mem hb;rw [h i a d,h j b c] at e;have:=JcE e;subst this;rw [d] at c;exact Option.some.inj c
theorem JfM (h:∀ i a,l[i]?=some a->f a=nmK s st i):(l.map f).Nodup:=by
 rw [List.Nodup,List.pairwise_iff_getElem];intro i j c b d e;rw [length_map] at c b;rw [List.getElem_map,List.getElem_map,h i _ (List.getElem?_eq_getElem c),h j _ (List.getElem?_eq_getElem b)] at e;have:=JcE e;ac_nf
end
theorem Grn.fname {st:Nat} {ls:List PD} {sp:List SpD} (h:Grn st ls sp) (hst:st<=3) (hl:sp.length<=16) {s:SpD} (hs:s∈sp):nameS s.f=true:=by
 obtain ⟨i,a⟩:=List.getElem?_of_mem hs;have:=(List.getElem?_eq_some_iff.mp a).1;rw [h.fc i s a];exact JdM ⋯ hst ∅
section
variable {K:W.Frag} {H H':Hp} {x:V}
def SPV (K:W.Frag) (H:Hp) (s:SpD) (x:V):Prop:=∃ b w,x=.ref b/\SqT K H b [.str s.r,w]/\FrV K H w s.p.1 s.p.2
theorem SPV.sameT {s:SpD} (S:SameT H H'):SPV K H s x->SPV K H' s x:=by rintro ⟨b,w,c,a,d⟩;exact ⟨b,w,c,a.sameT S,d.sameT S⟩
end
theorem JdV {H0 H:Hp} {b:Addr} (S:Same H0 H) (h:H b=none):H0 b=none:=by
 cases e:H0 b with
 | none=>rfl
 | some o=>rw [S _ _ e] at h;cases h
theorem Jk8 {c:TT} {t u:TS} {D:Ends} {σ : St} {H:Hp} (J:St->Hp->Prop) (hJ:∀ σ' H',J σ' H'->D.nx σ' H') (h:∀ N:St->Hp->Prop,(∀ σ' H',J σ' H'->N σ' H')->tIfS c t u { D with nx:=N } σ H):tIfS c t u D σ H:=h D.nx hJ
theorem JiL {t b:Int} (ht:0<=t) (hb:1<=b):0<=Mth.top t b:=by
 have d:=Mth.Jeu (t:=t) (b:=b) ∅;have c:=Mth.g_pos (a:=t) (b:=b) ∅;have e:Mth.by_ t b=Mth.g t b:=by unfold Mth.by_;rw [if_neg ∅]
 rw [e] at d;rcases Int.lt_or_le (Mth.top t b) 0 with z | z
 ·have:=Int.mul_neg_of_neg_of_pos z c;ac_nf
 ·exact z
inductive Path (ls:List PD):Str->List Pr->Str->Prop
 | nil {a:Str}:Path ls a [] a
 | cons {a g b:Str} {p:PD} {fw:Bool} {w:List Pr}:p∈ls->(a=if fw then p.st else p.en)->(g=if fw then p.en else p.st)->Path ls g w b->Path ls a ((p.nm,fw)::w) b
theorem Path.snoc {ls:List PD} {a f g:Str} {w:List Pr} {p:PD} {fw:Bool} (h:Path ls a w f) (hp:p∈ls) (e1:f=if fw then p.st else p.en) (e2:g=if fw then p.en else p.st):Path ls a (w++[(p.nm,fw)]) g:=by
 induction h with
 | nil=>exact .cons hp e1 e2 .nil
 | cons h1 h2 h3 _ ih=>exact .cons h1 h2 h3 (ih e1)
theorem Jgy {ls:List PD} {a b:Str} {w:List Pr} (h:Jbi ls a w b):Path ls a w b:=by
 induction h with
 | nil=>exact .nil
 | snoc _ hm ih=>
  obtain ⟨p,e,h | h⟩:=Jbj.mp hm
  ·obtain ⟨d,c,rfl⟩:=h;exact ih.snoc e d.symm c.symm
  ·obtain ⟨_,d,c,rfl⟩:=h;exact ih.snoc e d.symm c.symm
theorem JeR {ls:List PD} {a b:Str} {w:List Pr} (h:Path ls a w b):∀ n∈w.map (·.1),n∈ls.map (·.nm):=by
 induction h with
 | nil=>simp
 | cons h1 _ _ _ ih=>
  intro n c;rw [map_cons] at c;rcases mem_cons.mp c with e | e
  ·rw [e];exact mem_map.mpr ⟨_,h1,rfl⟩
  ·exact ih n e
theorem Path.sub {ls ls':List PD} (hs:∀ p∈ls,p∈ls') {a b:Str} {w:List Pr} (h:Path ls a w b):Path ls' a w b:=by
 induction h with
 | nil=>exact .nil
 | cons h1 h2 h3 _ ih=>exact .cons (hs _ h1) h2 h3 ih
open PySem.Spec PyProof.Rows
theorem Jh7 {ks:List PD} (h:(ks.map (·.nm)).Nodup) {i:Nat} {p:PD} (hp:ks[i]?=some p):p.nm∉(ks.take i).map (·.nm):=fun z=>by
 obtain ⟨q,d,e⟩:=mem_map.mp z;have e:q.nm=p.nm:=e;have c:=(List.getElem?_eq_some_iff.mp hp).1;obtain ⟨j,a⟩:=List.getElem?_of_mem d;have f:=(List.getElem?_eq_some_iff.mp a).1;rw [length_take] at f;rw [List.getElem?_take_of_lt ∅] at a;have b:=(List.getElem?_eq_some_iff.mp a).1;rw [List.Nodup,List.pairwise_iff_getElem] at h;refine h j i (by rw [length_map];exact b) (by rw [length_map];exact c) ∅ ?_;rw [List.getElem_map,List.getElem_map];rw [List.getElem?_eq_getElem b] at a;rw [List.getElem?_eq_getElem c] at hp;rw [Option.some.inj a,Option.some.inj hp];exact e
theorem ForR.byN {lo:Int} {n:Nat} {g:TG} {tb:TS} {D:Ends} {σ : St} {H:Hp} (Pv:Nat->St->Hp->Prop) (h0:Pv 0 σ H)
  (hs:∀ i σ H,i<n->Pv i σ H->∀ N:St->Hp->Prop,(∀ σ' H',Pv (i+1) σ' H'->N σ' H')->g (.int (lo+i)) σ H fun σ2 H2=>tb { D with nx:=N,ct:=N,bk:=D.nx } σ2 H2) (hd:∀ σ H,Pv n σ H->D.nx σ H):ForR lo n g tb D σ H :=
 ForR.by Pv h0 (fun i σ H b a=>hs i σ H b a _ fun _ _ h=>h) hd
theorem ForA.byLN {K:W.Frag} {a:Addr} {xs:List V} {g:TG} {tb:TS} {D:Ends} {σ : St} {H:Hp} (hA:SqL K H a xs) (Pv:Nat->St->Hp->Prop) (h0:Pv 0 σ H) (hl:∀ i σ H',Pv i σ H'->SqL K H' a xs)
  (hs:∀ i x σ H,xs[i]?=some x->Pv i σ H->∀ N:St->Hp->Prop,(∀ σ' H',Pv (i+1) σ' H'->N σ' H')->g x σ H fun σ2 H2=>tb { D with nx:=N,ct:=N,bk:=D.nx } σ2 H2) (hd:∀ σ H,Pv xs.length σ H->D.nx σ H):ForA K a g tb D σ H :=
 ForA.byL hA Pv h0 hl (fun i x σ H c b=>hs i x σ H c b _ fun _ _ h=>h) hd
structure Nms (ls:List PD) (xs:List (SpD × List Str)):Prop where
 nd:∀ x∈xs,x.2.Nodup
 sub:∀ x∈xs, ∀ n∈x.2,n∈ls.map (·.nm)
 stp:∀ p∈ls, ∀ x∈xs, ∀ y∈xs,x.1.f=p.st->y.1.f=p.en->(∀ n,n≠p.nm->(n∈x.2↔n∈y.2))/\(p.nm∈x.2↔p.nm∉y.2)
 fb:∀ x∈xs,FB (134+5*ls.length) (4*ls.length+1) x.1.p
 pb:∀ p∈ls,FB 133 4 p.sz/\FB 100 6 p.mo
 ln:∀ x∈xs,x.2.length<=ls.length
theorem Nms.nil:Nms [] []:=⟨by simp,by simp,by simp,by simp,by simp,by simp⟩
theorem Nms.face {st:Nat} {ls:List PD} {xs:List (SpD × List Str)} (h:Nms ls xs) (hG:Grn st ls (xs.map (·.1))):Nms ls (xs++[(⟨nmK 102 st (xs.map (·.1)).length,nmK 102 st (xs.map (·.1)).length,(0,1)⟩,[])]):=by
 have f:=hG.new (Nat.le_refl _);refine ⟨fun x a=>?_,fun x a=>?_,fun p e x a y b d c=>?_,fun x a=>?_,h.pb,fun x a=>?_⟩
 ·rcases mem_append.mp a with a | a
  ·exact h.nd x a
  ·rw [mem_singleton.mp a];exact .nil
 ·rcases mem_append.mp a with a | a
  ·exact h.sub x a
  ·rw [mem_singleton.mp a];intro n g;cases g
 ·rcases mem_append.mp a with a | a
  ·rcases mem_append.mp b with b | b
   ·exact h.stp p e x a y b d c
   ·rw [mem_singleton.mp b] at c;dsimp only at c;exact absurd (c ▸ (hG.sub p e).2) f
  ·rw [mem_singleton.mp a] at d;dsimp only at d;exact absurd (d ▸ (hG.sub p e).1) f
 ·rcases mem_append.mp a with a | a
  ·exact h.fb x a
  ·rw [mem_singleton.mp a];exact Jex.mono ∅ ∅
 ·rcases mem_append.mp a with a | a
  ·exact h.ln x a
  ·rw [mem_singleton.mp a];exact Nat.zero_le _
theorem Nms.part {st:Nat} {ls:List PD} {xs:List (SpD × List Str)} (h:Nms ls xs) (hG:Grn st ls (xs.map (·.1))) {s0:SpD × List Str} (h0:s0∈xs) {p:PD} {d:Bool} (hnm:p.nm=nmK 112 st ls.length)
  (h1:p.st=if d then s0.1.f else nmK 102 st (xs.map (·.1)).length) (h2:p.en=if d then nmK 102 st (xs.map (·.1)).length else s0.1.f) (hz:FB 133 4 p.sz) (hm:FB 100 6 p.mo) :
  Nms (ls++[p]) (xs++[(⟨nmK 102 st (xs.map (·.1)).length,s0.1.r,addF s0.1.p (sgn d p.sz)⟩,s0.2++[p.nm])]):=by
 have C:=hG.new (Nat.le_refl _);have t:∀ x∈xs,x.1.f=s0.1.f->(∀ n,n∈x.2↔n∈s0.2):=fun x c e=>by
  obtain ⟨i,u⟩:=List.getElem?_of_mem c;obtain ⟨j,A⟩:=List.getElem?_of_mem h0;have I:=hG.fc i x.1 (by rw [List.getElem?_map,u];rfl);have J:=hG.fc j s0.1 (by rw [List.getElem?_map,A];rfl);rw [I,J] at e;have:=JcE e;subst this;rw [u] at A;rw [Option.some.inj A];exact fun _=>Iff.rfl
 have K:p.nm∉ls.map (·.nm):=fun z=>by
  obtain ⟨q,g,e⟩:=mem_map.mp z;obtain ⟨i,u⟩:=List.getElem?_of_mem g;have M:=(List.getElem?_eq_some_iff.mp u).1;have l:q.nm=p.nm:=e;rw [hG.nm i q u,hnm] at l;have:=JcE l;ac_nf
 have B:p.nm∉s0.2:=fun z=>K (h.sub s0 h0 _ z);have D:FB 133 4 (sgn d p.sz):=by
  cases d with
  | true=>exact hz
  | false=>exact hz.neg
 refine ⟨fun x c=>?_,fun x c n o=>?_,fun q g x c y k s l=>?_,fun x c=>?_,fun q g=>?_,fun x c=>?_⟩
 ·rcases mem_append.mp c with c | c
  ·exact h.nd x c
  ·rw [mem_singleton.mp c];show (s0.2++[p.nm]).Nodup;rw [nodup_append];refine ⟨h.nd s0 h0,by simp,fun a L b H e=>?_⟩;rw [mem_singleton.mp H] at e;exact B (e ▸ L)
 ·rw [map_append];rcases mem_append.mp c with c | c
  ·exact mem_append.mpr (.inl (h.sub x c n o))
  ·rw [mem_singleton.mp c] at o;rcases mem_append.mp o with o | o
   ·exact mem_append.mpr (.inl (h.sub s0 h0 n o))
   ·rw [mem_singleton.mp o];simp
 ·rcases mem_append.mp g with g | g
  ·rcases mem_append.mp c with c | c
   ·rcases mem_append.mp k with k | k
    ·exact h.stp q g x c y k s l
    ·rw [mem_singleton.mp k] at l;dsimp only at l;exact absurd (l ▸ (hG.sub q g).2) C
   ·rw [mem_singleton.mp c] at s;dsimp only at s;exact absurd (s ▸ (hG.sub q g).1) C
  ·have g:=mem_singleton.mp g;subst g;have v:∀ z∈xs,z.1.f≠nmK 102 st (xs.map (·.1)).length:=fun z w e=>C (e ▸ mem_map.mpr ⟨z.1,mem_map.mpr ⟨z,w,rfl⟩,rfl⟩);have G:∀ n,n≠q.nm->(n∈s0.2↔n∈s0.2++[q.nm]):=fun n o=>by simp [o]
   cases d with
   | true=>
    rw [if_pos rfl] at h1 h2;rw [h1] at s;rw [h2] at l;rcases mem_append.mp c with c | c
    ·rcases mem_append.mp k with k | k
     ·exact absurd l (v y k)
     ·rw [mem_singleton.mp k];have F:=t x c s;refine ⟨fun n o=>(F n).trans (G n o),?_⟩;rw [F];simp [B]
    ·rw [mem_singleton.mp c] at s;dsimp only at s;exact absurd s.symm (v s0 h0)
   | false=>
    rw [if_neg ⋯] at h1 h2;rw [h1] at s;rw [h2] at l;rcases mem_append.mp k with k | k
    ·rcases mem_append.mp c with c | c
     ·exact absurd s (v x c)
     ·rw [mem_singleton.mp c];have E:=t y k l;refine ⟨fun n o=>(G n o).symm.trans (E n).symm,?_⟩;rw [E];simp [B]
    ·rw [mem_singleton.mp k] at l;dsimp only at l;exact absurd l.symm (v s0 h0)
 ·rw [length_append,length_singleton];rcases mem_append.mp c with c | c
  ·exact (h.fb x c).mono ∅ ∅
  ·rw [mem_singleton.mp c];have:=FB.add (n:=138+5*ls.length) (m:=4*(ls.length+1)+1) (h.fb s0 h0) D ∅ ∅ ∅;exact this.mono ∅ ∅
 ·rcases mem_append.mp g with g | g
  ·exact h.pb q g
  ·rw [mem_singleton.mp g];exact ⟨hz,hm⟩
 ·rw [length_append,length_singleton];rcases mem_append.mp c with c | c
  ·have:=h.ln x c;ac_nf
  ·rw [mem_singleton.mp c];have:=h.ln s0 h0;show (s0.2++[p.nm]).length<=_;rw [length_append,length_singleton];ac_nf
theorem JdE {st:Nat} {ls:List PD} {xs:List (SpD × List Str)} (hG:Grn st ls (xs.map (·.1))) {x y:SpD × List Str} (hx:x∈xs) (hy:y∈xs) (e:x.1.f=y.1.f):x=y:=by
 obtain ⟨i,b⟩:=List.getElem?_of_mem hx;obtain ⟨j,a⟩:=List.getElem?_of_mem hy;have d:=hG.fc i x.1 (by rw [List.getElem?_map,b];rfl);have c:=hG.fc j y.1 (by rw [List.getElem?_map,a];rfl);rw [d,c] at e;have:=JcE e;subst this;rw [b] at a;exact Option.some.inj a
theorem Jjc {st:Nat} {ls:List PD} {xs:List (SpD × List Str)} (hG:Grn st ls (xs.map (·.1))) (hM:Nms ls xs) {a b:Str} {w:List Pr} (h:Path ls a w b):(w.map (·.1)).Nodup->∀ x∈xs, ∀ y∈xs,x.1.f=a->y.1.f=b->∀ n,n∈w.map (·.1)↔¬ (n∈x.2↔n∈y.2):=by
 induction h with
 | nil=>
  intro _ x k y r m o n;have:=JdE hG k r (m.trans o.symm);subst this;simp
 | @cons a g b p fw w hp h1 h2 _ ih=>
  intro l x k y r m o n;rw [map_cons,nodup_cons] at l;obtain ⟨z,d,t⟩:∃ z∈xs,z.1.f=g:=by
   have j:=hG.sub p hp;have : g∈(xs.map (·.1)).map (·.f):=by
    rw [h2];cases fw
    ·exact j.1
    ·exact j.2
   obtain ⟨s,j,e⟩:=mem_map.mp this;obtain ⟨z,d,rfl⟩:=mem_map.mp j;exact ⟨z,d,e⟩
  have i:=ih l.2 z d y r t o n;have u:(∀ n,n≠p.nm->(n∈x.2↔n∈z.2))/\(p.nm∈x.2↔p.nm∉z.2):=by
   rw [<- m] at h1;rw [<- t] at h2;cases fw with
   | true=>
    rw [if_pos rfl] at h1 h2;exact hM.stp p hp x k z d h1 h2
   | false=>
    rw [if_neg ⋯] at h1 h2;have:=hM.stp p hp z d x k h2 h1;exact ⟨fun n v=>(this.1 n v).symm,by have:=this.2;grind⟩
  rw [map_cons,mem_cons];by_cases c:n=p.nm
  ·subst c;have q:¬ p.nm∈w.map (·.1):=l.1;have:=u.2;grind
  ·have:=u.1 n c;grind
def NmOk (xs:List (SpD × List Str)) (e:GD × List Str):Prop:=e.2.Nodup/\∀ x∈xs, ∀ y∈xs,x.1.f=e.1.st->y.1.f=e.1.en->∀ n,n∈e.2↔¬ (n∈x.2↔n∈y.2)
theorem Jju {st:Nat} {ls:List PD} {xs:List (SpD × List Str)} (hG:Grn st ls (xs.map (·.1))) (hM:Nms ls xs) {e:GD × List Str} (he:NmOk xs e) (h1:e.1.st∈(xs.map (·.1)).map (·.f)) (h2:e.1.en∈(xs.map (·.1)).map (·.f)) {w:List Pr} (h:Path ls e.1.st w e.1.en) (nd:(w.map (·.1)).Nodup):e.2.Perm (w.map (·.1)):=by
 obtain ⟨s,g,b⟩:=mem_map.mp h1;obtain ⟨x,c,rfl⟩:=mem_map.mp g;obtain ⟨t,i,a⟩:=mem_map.mp h2;obtain ⟨y,d,rfl⟩:=mem_map.mp i;refine (List.perm_ext_iff_of_nodup he.1 nd).mpr fun n=>?_;rw [he.2 x c y d b a n,Jjc hG hM h nd x c y d b a n]
theorem JlH {a b:List Str} (ha:a.Nodup) (hb:b.Nodup):(a.filter (fun n=>decide (n∉b))++b.filter (fun n=>decide (n∉a))).Nodup/\∀ n,n∈a.filter (fun n=>decide (n∉b))++b.filter (fun n=>decide (n∉a))↔¬ (n∈a↔n∈b):=by
 constructor
 ·rw [nodup_append];refine ⟨ha.filter _,hb.filter _,fun x f y g e=>?_⟩;subst e;have d:=(mem_filter.mp f);have c:=(mem_filter.mp g);simp at d c;exact d.2 c.1
 ·intro n;rw [mem_append,mem_filter,mem_filter];simp;grind
def sm (f:Str->Rat):List Str->Rat
 | []=>0
 | n::r=>f n+sm f r
theorem JkP {f:Str->Rat} {a b:List Str} (h:a.Perm b):sm f a=sm f b:=by
 induction h with
 | nil=>rfl
 | cons _ _ ih=>simp only [sm,ih]
 | swap x y l=>
  simp only [sm];grind
 | trans _ _ ih1 ih2=>exact ih1.trans ih2
def prodI:List Int->Int
 | []=>1
 | f::r=>f*prodI r
theorem Jca (f:Int):∀ fs:List Int,prodI (fs++[f])=prodI fs*f
 | []=>by simp [prodI]
 | g::fs=>by rw [cons_append];simp only [prodI,Jca f fs];rw [Int.mul_assoc]
structure Scl (b:Int) (fs:List Int):Prop where
 b1:1<=b
 f1:∀ f∈fs,1<=f
 pr:prodI fs=b
theorem Jei:∀ {fs:List Int},(∀ f∈fs,1<=f)->1<=prodI fs
 | [],_=>by simp [prodI]
 | f::fs,h=>by
  have h1:=h f (by simp);have h2:=Jei (fs:=fs) fun g hg=>h g (by simp [hg]);have:=Int.mul_pos (show 0<f by ac_nf) (show 0<prodI fs by ac_nf);simp only [prodI];ac_nf
theorem JfV:∀ (as bs:List Int),prodI (as++bs)=prodI as*prodI bs
 | [],bs=>by simp [prodI]
 | a::as,bs=>by rw [cons_append];simp only [prodI,JfV as bs];rw [Int.mul_assoc]
theorem Jit {a b:Int} (ha:1<=a) (hb:1<=b):a<=a*b/\b<=a*b:=by
 have d:=Int.mul_le_mul_of_nonneg_left hb (show 0<=a by ac_nf);have c:=Int.mul_le_mul_of_nonneg_right ha (show 0<=b by ac_nf);constructor <;> ac_nf
theorem Scl.take {b:Int} {fs:List Int} (h:Scl b fs) (i:Nat):1<=prodI (fs.take i)/\prodI (fs.take i)<=b:=by
 have d:=Jei (fs:=fs.take i) fun f a=>h.f1 f (List.mem_of_mem_take a);have c:=Jei (fs:=fs.drop i) fun f a=>h.f1 f (List.mem_of_mem_drop a);have e:=JfV (fs.take i) (fs.drop i);rw [List.take_append_drop,h.pr] at e;have:=Jit d c;ac_nf
theorem Scl.mem {b f:Int} {fs:List Int} (h:Scl b fs) (hf:f∈fs):f<=b:=by
 obtain ⟨i,a⟩:=List.getElem?_of_mem hf;have c:=(List.getElem?_eq_some_iff.mp a).1;have t:=h.take (i+1);rw [take_succ,a] at t;have e:=Jca f (fs.take i);have:=Jit (h.take i).1 (h.f1 f hf);simp only [Option.toList_some] at t;ac_nf
theorem sz_le {n:Nat} {a b:Int} (h:Mth.Sz n b) (h0:0<=a) (h1:a<=b):Mth.Sz n a:=Nat.lt_of_le_of_lt (by ac_nf:a.natAbs<=b.natAbs) h
theorem Scl.nil:Scl 1 []:=⟨by decide,by simp,rfl⟩
theorem Scl.snoc {b f:Int} {fs:List Int} (h:Scl b fs) (hf:1<=f):Scl (b*f) (fs++[f]):=⟨by
 have:=Int.mul_pos (show 0<b by have:=h.b1;ac_nf) (show 0<f by ac_nf);ac_nf,fun g a=>by
 rcases mem_append.mp a with a | a
 ·exact h.f1 g a
 ·rw [mem_singleton.mp a];exact hf,by rw [Jca,h.pr]⟩
structure LInv (n:Int × Int) (q:Int) (t:Int × Int):Prop where
 b1:1<=t.2
 g1:Mth.g t.1 t.2=1
 dv:t.2∣n.2
 cr:t.1*n.2=n.1*q*t.2
 ab:t.1.natAbs<=n.1.natAbs*q.natAbs
theorem LInv.nil {n:Int × Int} (h:1<=n.2) (g:Mth.g n.1 n.2=1):LInv n 1 n:=⟨h,g,Int.dvd_refl _,by rw [Int.mul_one],by simp⟩
theorem LInv.step {n t:Int × Int} {q f:Int} (h:LInv n q t) (hf:1<=f):LInv n (q*f) (t.1*f.fdiv (Mth.g t.2 f),t.2.fdiv (Mth.g t.2 f)):=by
 have v:0<Mth.g t.2 f:=Mth.g_pos ∅;have k:=Mth.Jcy t.2 f;have i:=Mth.JbG t.2 f;have j:=Mth.JaM k ∅;have o:=Mth.JaM i ∅;have p:=Mth.JcR (b:=t.2) (d:=f) rfl ∅;have u:=Mth.JbW k ∅ h.b1;have m:=Mth.JdU i ∅;have e:t.2.fdiv (Mth.g t.2 f)∣t.2:=⟨_,j.symm⟩;have l:Int.gcd t.1 (t.2.fdiv (Mth.g t.2 f))=1:=Mth.JaT (Mth.Jb0 (Mth.JaT (Mth.Jcf h.g1)) e);have a:=h.cr;have c:=h.ab;generalize t.2.fdiv (Mth.g t.2 f)=r at *;generalize f.fdiv (Mth.g t.2 f)=f' at *;generalize Mth.g t.2 f=s at *;refine ⟨u,Mth.JdK (Mth.JaT (Mth.JbV (Mth.JaT l) p)),Int.dvd_trans e h.dv,?_,?_⟩
 ·show t.1*f'*n.2=n.1*(q*f)*r;have : t.1*f'*n.2=(t.1*n.2)*f':=by rw [Int.mul_assoc,Int.mul_comm f', <- Int.mul_assoc]
  rw [this,a, <- j, <- o];simp only [Int.mul_assoc,Int.mul_comm,Int.mul_left_comm]
 ·show (t.1*f').natAbs<=n.1.natAbs*(q*f).natAbs;rw [Int.natAbs_mul,Int.natAbs_mul, <- Nat.mul_assoc];exact Nat.mul_le_mul c m
theorem LInv.all {n:Int × Int} {b:Int} (h:1<=n.2) (hd:b.fmod n.2=0):LInv n b (n.1*b.fdiv n.2,1):=by
 have a:n.2∣b:=by
  rw [Int.fmod_eq_emod_of_nonneg _ ∅] at hd;exact Int.dvd_of_emod_eq_zero hd
 have e:=Mth.JaM a ∅;have c:=Mth.JdU a h;refine ⟨Int.le_refl _,by unfold Mth.g;simp,Int.one_dvd _,?_,?_⟩
 ·show n.1*b.fdiv n.2*n.2=n.1*b*1;rw [Int.mul_assoc,e,Int.mul_one]
 ·show (n.1*b.fdiv n.2).natAbs<=_;rw [Int.natAbs_mul];exact Nat.mul_le_mul_left _ c
theorem LInv.vl {n t:Int × Int} {q:Int} (h:LInv n q t) (hn:1<=n.2):vl t=vl n*(q:Rat):=by
 have g:=JaG hn;have f:=JaG h.b1;have e:(t.1:Rat)*(n.2:Rat)=(n.1:Rat)*(q:Rat)*(t.2:Rat):=by exact_mod_cast h.cr
 unfold L2.vl;generalize (t.1:Rat)=a at *;generalize (t.2:Rat)=b at *;generalize (n.1:Rat)=c at *;generalize (n.2:Rat)=d at *;generalize (q:Rat)=q at *;grind
theorem LInv.fb {n t:Int × Int} {q:Int} {A B C:Nat} (h:LInv n q t) (hn:FB A B n) (hq:Mth.Sz C q):FB (A+C) B t:=by
 refine ⟨?_,?_,h.b1,h.g1⟩
 ·refine Nat.lt_of_le_of_lt h.ab ?_;have:=hn.s1.mul hq;unfold Mth.Sz at this;rw [Int.natAbs_mul] at this;exact this
 ·refine Nat.lt_of_le_of_lt ?_ hn.s2;have:=Int.natAbs_dvd_natAbs.mpr h.dv;exact Nat.le_of_dvd (by have:=hn.b1;ac_nf) this
theorem scaled {x y q:Rat} (h:0<q):x*q<=y*q↔x<=y:=by
 constructor
 ·intro a;refine Rat.not_lt.mp fun z=>?_;have:=Rat.mul_lt_mul_of_pos_right z h;exact Rat.not_lt.mpr a this
 ·intro a;exact Rat.mul_le_mul_of_nonneg_right a (Rat.le_of_lt h)
section
variable {X:Cx} {tg:Expr}
theorem Jil {iter elt tst:Expr} {scope:Scope} {pos:Pos} {own:List Str} {cs:List (Nat × Str)} {wi:TI} {g:TG} {te:TE} {tt:TT} (hc:X.calm=true) (hi:PI X tg iter wi)
  (hg:∀ fp s2 H2 C,PG (X.inc (own++cs.map (·.2)) scope (Jbs X.env.cells scope.names []) fp s2 H2 C) tg g) (ht:∀ fp s2 H2 C,PT (X.inc (own++cs.map (·.2)) scope (Jbs X.env.cells scope.names []) fp s2 H2 C) tst tt) (he:∀ fp s2 H2 C,PE (X.inc (own++cs.map (·.2)) scope (Jbs X.env.cells scope.names []) fp s2 H2 C) elt te)
  (hfree:∀ p∈scope.names,p.2=.free->X.env.scope.names.lookup p.1=some .cell) (hcell:∀ y∈scope.names,y.2≠.cell) (hkind:scope.kind=.function) (hnames:∀ y∈scope.names,y.2=.local->scope.names.lookup y.1=some .local)
  (hcs:∀ p∈cs,X.N[p.1]?=some p.2/\X.env.scope.names.lookup p.2=some .cell/\(relabel scope X.env).names.lookup p.2=some .cell)
  (hs:∀ x,foldedSetIterable iter X.env x=pure x:=by intro _;rfl):PE X (.ListComp elt [⟨tg,iter,[tst],0⟩] scope pos) (Jf1 own.length cs wi g tt te):=by
 intro a s σ H Q I h;have b:∀ p∈scope.names,p.2=.free->∃ c,X.env.cells.lookup p.1=some c:=fun p B r=>I.ok.has p.1 (.inl (hfree p B r));have k:=JcQ (cells:=X.env.cells) scope.names [] (fun _ _ z=>by simp at z) b;rw [eval_ListComp];refine wpAny_comprehension_free (use:=none) rfl hs (Jga b) hkind hnames (thn (hi a s σ H _ I h) fun v P D=>thn D fun t s2 E=>?_);obtain ⟨U,fp,R,J,H2,rfl,I2,T,l,M,W,⟨Z,G⟩,d⟩:=E;refine JdT (QN:=fun n f=>∀ p,f p=none->Q (.ref p) (upd f p (.lst n))) (RR:=fun m C=>compPost (model X.prog X.w) X.A X.xe none (EP X a σ Q) m C) hc hg ht he hcell hkind k (fun z o=>JcP scope.names [] z (.inr (JhR hcell o))) hcs I2 T l M G d ?_;intro D' C Y f n i K O V F S q;obtain ⟨u,j⟩:=F;exact ⟨u,j,fun L e=>⟨.ref D',_,i L e,rfl,q D' K⟩⟩
end
def notStar:Expr->Bool
 | .Starred _ _=>false
 | _=>true
theorem Jaf {e:Expr} {es:List Expr} {env:Env} (h:notStar e=true):starEach (e::es) env=(false,eval e env)::starEach es env:=by
 cases e <;> first | rfl | (simp [notStar] at h)
theorem Jaa {X:Cx} {e:Expr} {es:List Expr} {te:TE} {t:TA} (ha:PE X e te) (hr:PA X es t) (hs:notStar e=true:=by rfl):PA X (e::es) (tCons te t):=Jii ha hr (Jaf hs)
theorem Jcz {X:Cx} {i:Int} {j pos} {es:List Expr} {t:TA} (hr:PA X es t):PA X (.Constant (.int i) j pos::es) (tCons (tC (.int i)) t):=Jii Jad hr (by rfl)
section
variable {K:W.Frag} {H H':Hp} {x:V} {a c:Addr}
def FLV (K:W.Frag) (H:Hp) (s:Int × Int) (x:V):Prop:=FrV K H x s.1 s.2
theorem FLV.sameT {s:Int × Int} (T:SameT H H') (h:FLV K H s x):FLV K H' s x:=FrV.sameT T h
end
theorem Jik:∀ {ls:List PD} {p q:PD},(ls.map (·.nm)).Nodup->p∈ls->q∈ls->p.nm=q.nm->p=q
 | [],_,_,_,hp,_,_=>by cases hp
 | a::ls,p,q,hn,hp,hq,e=>by
  rw [map_cons,nodup_cons] at hn;rcases mem_cons.mp hp with h1 | h1 <;> rcases mem_cons.mp hq with h2 | h2
  ·rw [h1,h2]
  ·subst h1;exact absurd (e ▸ mem_map.mpr ⟨q,h2,rfl⟩) hn.1
  ·subst h2;exact absurd (e ▸ mem_map.mpr ⟨p,h1,rfl⟩) hn.1
  ·exact Jik hn.2 h1 h2 e
theorem Jlw {n:Nat} (h:n<12):∃ bt:Int,[V.int 1, .int 2, .int 3, .int 4, .int 5, .int 6, .int 10, .int 12, .int 15, .int 20, .int 30, .int 60][n]?=some (.int bt)/\1<=bt/\bt<=60:=by
 match n,h with
 | 0,_ | 1,_ | 2,_ | 3,_ | 4,_ | 5,_ | 6,_ | 7,_ | 8,_ | 9,_ | 10,_ | 11,_=>exact ⟨_,rfl,by decide,by decide⟩
 | n+12,h=>ac_nf
theorem pick3 {n:Nat} (h:n<3):∃ om:Int,[V.int 13, .int 13, .int 1000000000000000000000000000000][n]?=some (.int om)/\1<=om/\om<=1000000000000000000000000000000:=by
 match n,h with
 | 0,_ | 1,_ | 2,_=>exact ⟨_,rfl,by decide,by decide⟩
 | n+3,h=>ac_nf
theorem Jlx {n:Nat} (h:n<3):∃ om:Int,[V.int 23, .int 23, .int 1000000000000000000000000000000][n]?=some (.int om)/\1<=om/\om<=1000000000000000000000000000000:=by
 match n,h with
 | 0,_ | 1,_ | 2,_=>exact ⟨_,rfl,by decide,by decide⟩
 | n+3,h=>ac_nf
section
variable {X:Cx}
theorem Jha:∀ {xs:List V} {us:List Value},xs.length=us.length->(∀ (i:Nat) x u,xs[i]?=some x->us[i]?=some u->RelV x u)->Vals xs us
 | [],[],_,_=>.nil
 | [],_::_,h,_=>by simp at h
 | _::_,[],h,_=>by simp at h
 | x::xs,u::us,h,k=>.cons (k 0 x u rfl rfl) (Jha (by simpa using h) fun i x u h1 h2=>k (i+1) x u (by simpa using h1) (by simpa using h2))
def Jlz (xs:List V) (H:Hp) (Q:VK):Prop:=∃ (d:Addr) (kvs:List (Key × V)) (ss:List Str),xs=[.ref d]/\H d=some (.dK kvs)/\kvs.map (·.1)=ss.map Sum.inr/\∀ l,H l=none->Q (.ref l) (upd H l (.lst (ss.map V.str)))
theorem Jhd (hc:X.calm=true):CallR X (.type "list") Jlz:=by
 intro D s σ H xs us Q I r h;obtain ⟨d,kvs,j,rfl,e,p,q⟩:=h;obtain ⟨u,rfl,N⟩:=vals1 r;cases N;obtain ⟨J,K,m,f,F⟩:=dk_of I.hok e;obtain ⟨ep,C⟩:=F.dictAt;have Y:j.length=kvs.length:=by simpa using (congrArg List.length p).symm
 have S:m.length=kvs.length:=f.length.symm;have g:m.map (·.1)=kvs.map (·.1):=by
  clear F C p Y S J q e;induction f with
  | nil=>rfl
  | cons A _ ih=>
   rw [map_cons,map_cons,ih,A.1]
 refine W.kdl_call (W.kdl_dict (knd:=Jau X.prog X.w) (d:=d) (kvs:=m) (ep:=ep) K) (I.ok.hd hc) C ∅ fun U M a P k T c=>?_;have B:Vals (j.map V.str) a.toList:=Jha (by have A:=c.1;have R:a.toList.length=a.size:=Array.length_toList;rw [length_map,R,A];ac_nf) fun i x v E B=>by
  rw [List.getElem?_map] at E;obtain ⟨z,n,rfl⟩:=Option.map_eq_some_iff.mp E;obtain ⟨G,Z,L,O⟩:=c.2 i v (by rw [<- Array.getElem?_toList];exact B);have l:(m.map (·.1))[i]?=some G:=by rw [List.getElem?_map,L];rfl
  rw [g,p,List.getElem?_map,n] at l;have l:Sum.inr z=G:=Option.some.inj l;subst l;rcases JaN (show keyIs (Sum.inr z) v=true from O) with ⟨b,hb,_⟩ | ⟨y,t,hy,rfl⟩
  ·cases hb
  ·cases hy;exact ⟨t,rfl⟩
 exact ⟨.ref _,_,I.laid (t':=M) (o:=.lst (j.map V.str)) k (Nat.le_refl _) (show ObjOk X.prog X.w _ U _ (.lst (j.map V.str)) from ⟨by rw [length_map];ac_nf,a.toList,P,B,by rw [Array.toArray_toList];exact T⟩),rfl,q _ (I.hok.fresh (Nat.le_refl _))⟩
end
section
variable {prog:Program} {w:World} {A:Around} {E:Value->Shared->Prop} {s:Shared}
end
section
variable {X:Cx}
end
section
variable {ls:List PD} {M:Str->Option Str} {a b f g:Str} {p:PD}
end
theorem Jh1 (kvs:List (Key × V)) (k:Key) (v:V):(putK kvs k v).map (·.1)=if (valV kvs k).isSome=true then kvs.map (·.1) else kvs.map (·.1)++[k]:=by
 unfold putK;rw [Jcv];split
 ·rw [map_map];refine List.map_congr_left fun a _=>?_;show (if a.1=k then (a.1,v) else a).1=a.1;split <;> rfl
 ·rw [map_append];rfl
theorem Jh0 {kvs:List (Key × V)} {k:Key}:(valV kvs k).isSome=true↔k∈kvs.map (·.1):=by
 rw [<- Jcv,List.any_eq_true];constructor
 ·rintro ⟨a,c,b⟩;exact mem_map.mpr ⟨a,c,by simpa using b⟩
 ·intro h;obtain ⟨a,c,b⟩:=mem_map.mp h;exact ⟨a,c,by simpa using b⟩
section
variable {K:W.Frag} {H H':Hp}
def cut (p:Addr) (H:Hp):Hp:=fun b=>if b=p then none else H b
theorem JbF {p b:Addr} (h:b≠p):cut p H b=H b:=if_neg h
theorem Jc7 {p:Addr}:Same (cut p H) H:=fun b u h=>by
 unfold cut at h;split at h
 ·cases h
 ·exact h
theorem Same.cut {p:Addr} (S:Same H H'):Same (cut p H) (cut p H'):=fun b u h=>by
 have e:b≠p:=fun z=>by rw [z] at h;unfold L2.cut at h;rw [if_pos rfl] at h;cases h
 rw [JbF e] at h ⊢;exact S _ _ h
theorem Jgd {p:Addr} {o:HO}:cut p (upd H p o)=cut p H:=by
 funext b
 by_cases c:b=p
 ·rw [c];unfold cut;rw [if_pos rfl,if_pos rfl]
 ·rw [JbF c,JbF c,Jag c]
theorem SqT.cut {p a:Addr} {ys xs:List V} (hp:H p=some (.lst ys)) (h:SqT K H a xs):SqT K (cut p H) a xs:=by
 rcases h with (h | ⟨o,h⟩) | h
 ·exact .inl (.inl (by rw [JbF (fun z=>by rw [z,hp] at h;cases h)];exact h))
 ·exact .inl (.inr ⟨o,by rw [JbF (fun z=>by rw [z,hp] at h;cases h)];exact h⟩)
 ·exact .inr h
theorem FrV.cut {p:Addr} {ys:List V} {v:V} {a b:Int} (hp:H p=some (.lst ys)) (h:FrV K H v a b):FrV K (cut p H) v a b:=by
 obtain ⟨q,e,h⟩:=h;exact ⟨q,e,h.cut hp⟩
end
section
variable {a b:Str->Rat}
theorem sm_le:∀ {l:List Str},(∀ q∈l,a q<=b q)->sm a l<=sm b l
 | [],_=>Rat.le_refl
 | n::l,h=>by
  have h1:=h n (by simp);have h2:=sm_le (l:=l) fun q hq=>h q (by simp [hq]);simp only [sm];grind
theorem sm_lt:∀ {l:List Str} {n:Str},(∀ q∈l,a q<=b q)->n∈l->a n<b n->sm a l<sm b l
 | [],_,_,hn,_=>by cases hn
 | m::l,n,h,hn,lt=>by
  have h1:=h m (by simp);have h2:=sm_le (l:=l) fun q hq=>h q (by simp [hq]);simp only [sm];rcases mem_cons.mp hn with e | hn
  ·subst e;grind
  ·have:=sm_lt (fun q hq=>h q (by simp [hq])) hn lt;grind
theorem Jbm:∀ {l:List Str},(∀ q∈l,a q=b q)->sm a l=sm b l
 | [],_=>rfl
 | n::l,h=>by simp only [sm,h n (by simp),Jbm (l:=l) fun q hq=>h q (by simp [hq])]
theorem JcZ:∀ {l:List Str},(∀ q∈l,a q=0)->sm a l=0
 | [],_=>rfl
 | n::l,h=>by
  simp only [sm,h n (by simp),JcZ (l:=l) fun q hq=>h q (by simp [hq])];grind
theorem sm_nn:∀ {l:List Str},(∀ q∈l,0<=a q)->0<=sm a l
 | [],_=>Rat.le_refl
 | n::l,h=>by
  have h1:=h n (by simp);have h2:=sm_nn (l:=l) fun q hq=>h q (by simp [hq]);simp only [sm];grind
theorem Jep (c:Rat):∀ (l:List Str),sm (fun n=>a n+c*b n) l=sm a l+c*sm b l
 | []=>by simp only [sm];grind
 | n::l=>by simp only [sm,Jep c l];grind
theorem JlF {l:List Str} {n:Str} (h:∀ q∈l,0<=a q) (hn:n∈l) (lt:0<a n):0<sm a l:=by
 have:=sm_lt (a:=fun _=>0) (b:=a) h hn lt;rw [JcZ (a:=fun _=>0) fun _ _=>rfl] at this;exact this
end
theorem Jh4 {α : Type} (f : α->Rat):∀ {l:List α},l≠[]->∃ a∈l, ∀ b∈l,f a<=f b
 | [],h=>absurd rfl h
 | [a],_=>⟨a,by simp,fun b hb=>by rw [mem_singleton.mp hb];exact Rat.le_refl⟩
 | a::b::l,_=>by
  obtain ⟨m,hm,h⟩:=Jh4 f (l:=b::l) (by simp);by_cases c:f a<=f m
  ·refine ⟨a,by simp,fun x hx=>?_⟩;rcases mem_cons.mp hx with rfl | hx
   ·exact Rat.le_refl
   ·exact Rat.le_trans c (h x hx)
  ·refine ⟨m,mem_cons_of_mem _ hm,fun x hx=>?_⟩;rcases mem_cons.mp hx with rfl | hx
   ·exact Rat.le_of_lt (Rat.not_le.mp c)
   ·exact h x hx
structure Gp where
 R:Rat
 way:List Str
structure Fair (N:List Str) (w M:Str->Rat) (gs:List Gp) (lv:Str->Rat):Prop where
 lo:∀ n∈N,0<=lv n
 hi:∀ n∈N,lv n<=M n
 fit:∀ g∈gs,sm (fun n=>lv n*w n) g.way<=g.R
 stop:∀ n∈N,lv n=M n\/∃ g∈gs,n∈g.way/\sm (fun n=>lv n*w n) g.way=g.R/\∀ q∈g.way,lv q<=lv n
section
variable {N:List Str} {w M:Str->Rat} {gs:List Gp} {f f':Str->Rat}
theorem Fair.less (hw:∀ n∈N,0<w n) (hs:∀ g∈gs, ∀ n∈g.way,n∈N) (h:Fair N w M gs f) (hi:∀ n∈N,f' n<=M n) (fit:∀ g∈gs,sm (fun n=>f' n*w n) g.way<=g.R) {n:Str} (hn:n∈N) (lt:f n<f' n):∃ q∈N,f' q<f q/\f q<=f n:=by
 rcases h.stop n hn with e | ⟨g,hg,hm,hR,hmax⟩
 ·have:=hi n hn;grind
 ·have j:=fit g hg;by_cases c:∃ q∈g.way,f' q<f q
  ·obtain ⟨q,d,i⟩:=c;exact ⟨q,hs g hg q d,i,hmax q d⟩
  ·have all:∀ q∈g.way,f q*w q<=f' q*w q:=fun q d=>by
    have:=Rat.not_lt.mp fun z=>c ⟨q,d,z⟩;exact Rat.mul_le_mul_of_nonneg_right this (Rat.le_of_lt (hw q (hs g hg q d)))
   have:=sm_lt (a:=fun n=>f n*w n) (b:=fun n=>f' n*w n) all hm (Rat.mul_lt_mul_of_pos_right lt (hw n hn));grind
theorem Fair.uniq (hw:∀ n∈N,0<w n) (hs:∀ g∈gs, ∀ n∈g.way,n∈N) (h:Fair N w M gs f) (k:Fair N w M gs f'):∀ n∈N,f n=f' n:=by
 intro m r;refine Classical.byContradiction fun j=>?_;obtain ⟨n,s,a⟩:=Jh4 (fun n=>if f n<=f' n then f n else f' n) (l:=N.filter fun n=>decide (f n≠f' n)) (by
  intro z;have : m∈N.filter fun n=>decide (f n≠f' n):=mem_filter.mpr ⟨r,by simpa using j⟩;rw [z] at this;cases this)
 have b:=mem_filter.mp s;have o:f n≠f' n:=by simpa using b.2
 by_cases c:f n<=f' n
 ·have e:f n<f' n:=by grind
  obtain ⟨q,d,p,i⟩:=h.less hw hs k.hi k.fit b.1 e;have:=a q (mem_filter.mpr ⟨d,by simp;grind⟩);rw [if_pos c,if_neg (by grind)] at this;grind
 ·have e:f' n<f n:=by grind
  obtain ⟨q,d,p,i⟩:=k.less hw hs h.hi h.fit b.1 e;have:=a q (mem_filter.mpr ⟨d,by simp;grind⟩);rw [if_neg c,if_pos (by grind)] at this;grind
end
def lvv (lvs:List (Str × (Int × Int))) (n:Str):Rat:=((lvs.find? fun x=>decide (x.1=n)).map fun x=>vl x.2).getD 0
def used (lvs:List (Str × (Int × Int))) (w:Str->Rat) (n:Str):Rat:=lvv lvs n*w n
def left (lvs:List (Str × (Int × Int))) (w:Str->Rat) (n:Str):Rat:=if n∈lvs.map (·.1) then 0 else w n
section
variable {lvs:List (Str × (Int × Int))} {n m:Str} {L:Int × Int} {ns:List Str} {w:Str->Rat}
theorem Jcg (h:n∉lvs.map (·.1)):lvv lvs n=0:=by
 unfold lvv;rw [List.find?_eq_none.mpr fun x a=>by
  have : x.1≠n:=fun z=>h (mem_map.mpr ⟨x,a,z⟩);simpa using this]
 rfl
theorem Jd5 (hn:(lvs.map (·.1)).Nodup) {x:Str × (Int × Int)} (hx:x∈lvs):lvv lvs x.1=vl x.2:=by
 induction lvs with
 | nil=>cases hx
 | cons y r ih=>
  rw [map_cons,nodup_cons] at hn;unfold lvv;rw [List.find?_cons];rcases mem_cons.mp hx with e | hx
  ·subst e;simp
  ·have : y.1≠x.1:=fun z=>hn.1 (z ▸ mem_map.mpr ⟨x,hx,rfl⟩);rw [decide_eq_false this];exact ih hn.2 hx
theorem Je4 (h:n∈lvs.map (·.1)):lvv (lvs++ns.map fun m=>(m,L)) n=lvv lvs n:=by
 unfold lvv;rw [List.find?_append];cases e:lvs.find? fun x=>decide (x.1=n) with
 | none=>
  obtain ⟨x,b,a⟩:=mem_map.mp h;have:=List.find?_eq_none.mp e x b;simp [a] at this
 | some y=>rfl
theorem Jgl (h:n∉lvs.map (·.1)) (hn:n∈ns):lvv (lvs++ns.map fun m=>(m,L)) n=vl L:=by
 have b:lvs.find? (fun x=>decide (x.1=n))=none:=List.find?_eq_none.mpr fun x a=>by
  have : x.1≠n:=fun z=>h (mem_map.mpr ⟨x,a,z⟩);simpa using this
 unfold lvv;rw [List.find?_append,b,Option.none_or];cases e:(ns.map fun m=>(m,L)).find? fun x=>decide (x.1=n) with
 | none=>
  have:=List.find?_eq_none.mp e (n,L) (mem_map.mpr ⟨n,hn,rfl⟩);simp at this
 | some y=>
  have:=List.mem_of_find?_eq_some e;obtain ⟨m,_,rfl⟩:=mem_map.mp this;rfl
theorem Jbe:(lvs++ns.map fun m=>(m,L)).map (·.1)=lvs.map (·.1)++ns:=by
 rw [map_append,map_map]
 congr 1
 exact (List.map_congr_left fun _ _=>rfl).trans (List.map_id _)
def dlt (w:Str->Rat) (ns:List Str) (n:Str):Rat:=if n∈ns then w n else 0
theorem Jfu (hd:∀ n∈ns,n∉lvs.map (·.1)) (n:Str):used (lvs++ns.map fun m=>(m,L)) w n=used lvs w n+vl L*dlt w ns n:=by
 unfold used dlt;by_cases c:n∈lvs.map (·.1)
 ·rw [Je4 c,if_neg fun z=>hd n z c];grind
 ·by_cases d:n∈ns
  ·rw [Jgl c d,Jcg c,if_pos d];grind
  ·have : n∉(lvs++ns.map fun m=>(m,L)).map (·.1):=by
    rw [Jbe];simp only [mem_append];exact fun z=>z.elim c d
   rw [Jcg this,Jcg c,if_neg d];grind
theorem Je3 (hd:∀ n∈ns,n∉lvs.map (·.1)) (n:Str):left (lvs++ns.map fun m=>(m,L)) w n=left lvs w n+(-1)*dlt w ns n:=by
 unfold left dlt;rw [Jbe];simp only [mem_append];by_cases c:n∈lvs.map (·.1)
 ·rw [if_pos (.inl c),if_pos c,if_neg fun z=>hd n z c];grind
 ·by_cases d:n∈ns
  ·rw [if_pos (.inr d),if_neg c,if_pos d];grind
  ·rw [if_neg (fun z=>z.elim c d),if_neg c,if_neg d];grind
end
structure RInv (N:List Str) (w M:Str->Rat) (gs:List Gp) (lvs:List (Str × (Int × Int))) (c:Rat):Prop where
 nd:(lvs.map (·.1)).Nodup
 sub:∀ n∈lvs.map (·.1),n∈N
 c0:0<=c
 a:∀ x∈lvs,0<=vl x.2/\vl x.2<=c/\vl x.2<=M x.1
 b:∀ n∈N,n∉lvs.map (·.1)->c<=M n
 cc:∀ g∈gs,c*sm (left lvs w) g.way<=g.R-sm (used lvs w) g.way
 d:∀ x∈lvs,vl x.2=M x.1\/∃ g∈gs,x.1∈g.way/\(∀ q∈g.way,q∈lvs.map (·.1))/\g.R-sm (used lvs w) g.way=0/\∀ q∈g.way,lvv lvs q<=vl x.2
section
variable {N:List Str} {w M:Str->Rat} {gs:List Gp} {lvs:List (Str × (Int × Int))} {c:Rat} {L:Int × Int} {ns:List Str}
theorem Jd2 (hw:∀ n∈N,0<w n) {l:List Str} (hs:∀ n∈l,n∈N):∀ q∈l,0<=left lvs w q:=fun q a=>by
 unfold left;split
 ·exact Rat.le_refl
 ·exact Rat.le_of_lt (hw q (hs q a))
theorem RInv.start (hM:∀ n∈N,0<=M n) (hR:∀ g∈gs,0<=g.R):RInv N w M gs [] 0 where
 nd:=.nil
 sub:=fun n f=>by cases f
 c0:=Rat.le_refl
 a:=fun x c=>by cases c
 b:=fun n f _=>hM n f
 cc:=fun g h=>by
  have e:sm (used [] w) g.way=0:=JcZ fun q _=>by
   unfold used;rw [Jcg (by simp)];grind
  have:=hR g h;rw [e];grind
 d:=fun x c=>by cases c
theorem RInv.round (h:RInv N w M gs lvs c) (hw:∀ n∈N,0<w n) (hs:∀ g∈gs, ∀ n∈g.way,n∈N)
  (hnd:ns.Nodup) (hL1:∀ n∈N,n∉lvs.map (·.1)->vl L<=M n) (hL2:∀ g∈gs,0<sm (left lvs w) g.way->vl L*sm (left lvs w) g.way<=g.R-sm (used lvs w) g.way)
  (hns:∀ n,n∈ns↔n∈N/\n∉lvs.map (·.1)/\(M n=vl L\/∃ g∈gs,n∈g.way/\0<sm (left lvs w) g.way/\vl L*sm (left lvs w) g.way=g.R-sm (used lvs w) g.way)) (hc:c<=vl L) :
  RInv N w M gs (lvs++ns.map fun n=>(n,L)) (vl L):=by
 have o:∀ n∈ns,n∉lvs.map (·.1):=fun n i=>((hns n).mp i).2.1;have B:∀ n∈ns,n∈N:=fun n i=>((hns n).mp i).1;have A:∀ l:List Str,sm (used (lvs++ns.map fun n=>(n,L)) w) l=sm (used lvs w) l+vl L*sm (dlt w ns) l:=fun l=>by
  rw [<- Jep];exact Jbm fun q _=>Jfu o q
 have E:∀ l:List Str,sm (left (lvs++ns.map fun n=>(n,L)) w) l=sm (left lvs w) l+(-1)*sm (dlt w ns) l:=fun l=>by
  rw [<- Jep];exact Jbm fun q _=>Je3 o q
 have v:=fun (g:Gp) (f:g∈gs)=>sm_nn (Jd2 (lvs:=lvs) hw (hs g f));have r:∀ g∈gs, ¬ 0<sm (left lvs w) g.way->sm (left lvs w) g.way=0/\∀ q∈g.way,q∈lvs.map (·.1):=fun g f z=>by
  have H:sm (left lvs w) g.way=0:=by have:=v g f;grind
  refine ⟨H,fun q b=>Classical.byContradiction fun y=>z ?_⟩;refine JlF (Jd2 hw (hs g f)) b ?_;unfold left;rw [if_neg y];exact hw q (hs g f q b)
 have key:∀ g∈gs,vl L*sm (left lvs w) g.way<=g.R-sm (used lvs w) g.way:=fun g f=>by
  by_cases p:0<sm (left lvs w) g.way
  ·exact hL2 g f p
  ·have:=h.cc g f;rw [(r g f p).1] at this ⊢;grind
 refine ⟨?_,?_,?_,?_,?_,?_,?_⟩
 ·rw [Jbe];exact nodup_append.mpr ⟨h.nd,hnd,fun x j y G z=>o y G (z ▸ j)⟩
 ·intro n i;rw [Jbe] at i;rcases mem_append.mp i with i | i
  ·exact h.sub n i
  ·exact B n i
 ·exact Rat.le_trans h.c0 hc
 ·intro x j;rcases mem_append.mp j with j | j
  ·have:=h.a x j;exact ⟨this.1,Rat.le_trans this.2.1 hc,this.2.2⟩
  ·obtain ⟨n,i,rfl⟩:=mem_map.mp j;exact ⟨Rat.le_trans h.c0 hc,Rat.le_refl,hL1 n (B n i) (o n i)⟩
 ·intro n i k;rw [Jbe] at k;exact hL1 n i fun z=>k (mem_append.mpr (.inl z))
 ·intro g f;rw [A,E];have:=key g f;grind
 ·intro x j;rcases mem_append.mp j with j | j
  ·rcases h.d x j with e | ⟨g,f,u,s,C,h4⟩
   ·exact .inl e
   ·refine .inr ⟨g,f,u,fun q b=>?_,?_,fun q b=>?_⟩
    ·rw [Jbe];exact mem_append.mpr (.inl (s q b))
    ·rw [A,JcZ (a:=dlt w ns) fun q b=>if_neg fun z=>o q z (s q b)];grind
    ·rw [Je4 (s q b)];exact h4 q b
  ·obtain ⟨n,i,rfl⟩:=mem_map.mp j;obtain ⟨F,D,e | ⟨g,f,u,s,C⟩⟩:=(hns n).mp i
   ·exact .inl e.symm
   ·have m:∀ q∈g.way,q∉lvs.map (·.1)->q∈ns:=fun q b t=>(hns q).mpr ⟨hs g f q b,t, .inr ⟨g,f,b,s,C⟩⟩;refine .inr ⟨g,f,u,fun q b=>?_,?_,fun q b=>?_⟩
    ·rw [Jbe];by_cases y:q∈lvs.map (·.1)
     ·exact mem_append.mpr (.inl y)
     ·exact mem_append.mpr (.inr (m q b y))
    ·have e:sm (dlt w ns) g.way=sm (left lvs w) g.way:=Jbm fun q b=>by
      unfold dlt left;by_cases y:q∈lvs.map (·.1)
      ·rw [if_neg fun z=>o q z y,if_pos y]
      ·rw [if_pos (m q b y),if_neg y]
     rw [A,e];grind
    ·by_cases y:q∈lvs.map (·.1)
     ·rw [Je4 y];obtain ⟨x,j,rfl⟩:=mem_map.mp y;rw [Jd5 h.nd j];exact Rat.le_trans (h.a x j).2.1 hc
     ·rw [Jgl y (m q b y)];exact Rat.le_refl
theorem RInv.le (h:RInv N w M gs lvs c) (hL:(∃ n∈N,n∉lvs.map (·.1)/\M n=vl L)\/∃ g∈gs,0<sm (left lvs w) g.way/\vl L*sm (left lvs w) g.way=g.R-sm (used lvs w) g.way):c<=vl L:=by
 rcases hL with ⟨n,hn,hS,e⟩ | ⟨g,hg,p,e⟩
 ·rw [<- e];exact h.b n hn hS
 ·have:=h.cc g hg;rw [<- e] at this;exact (scaled p).mp this
theorem RInv.fair (h:RInv N w M gs lvs c) (hw:∀ n∈N,0<w n) (hs:∀ g∈gs, ∀ n∈g.way,n∈N) (hall:∀ n∈N,n∈lvs.map (·.1)):Fair N w M gs (lvv lvs):=by
 have f:∀ n∈N, ∃ x∈lvs,x.1=n/\lvv lvs n=vl x.2:=fun n i=>by
  obtain ⟨x,b,e⟩:=mem_map.mp (hall n i);have e:x.1=n:=e;exact ⟨x,b,e,by rw [<- e];exact Jd5 h.nd b⟩
 refine ⟨fun n i=>?_,fun n i=>?_,fun g k=>?_,fun n i=>?_⟩
 ·obtain ⟨x,b,_,e⟩:=f n i;rw [e];exact (h.a x b).1
 ·obtain ⟨x,b,j,e⟩:=f n i;rw [e, <- j];exact (h.a x b).2.2
 ·have:=h.cc g k;rw [JcZ (a:=left lvs w) fun q l=>if_pos (hall q (hs g k q l))] at this;show sm (used lvs w) g.way<=_;grind
 ·obtain ⟨x,b,j,e⟩:=f n i;rcases h.d x b with q | ⟨g,k,h1,_,h3,h4⟩
  ·exact .inl (by rw [e,q,j])
  ·refine .inr ⟨g,k,j ▸ h1,?_,fun q l=>?_⟩
   ·show sm (used lvs w) g.way=_;grind
   ·rw [e];exact h4 q l
end
def Dv (D:Int) (r:Rat):Prop:=∃ k:Int,r*(D:Rat)=(k:Rat)
section
variable {D E:Int} {r s:Rat}
theorem Dv.int (k:Int):Dv D (k:Rat):=⟨k*D,by push_cast;rfl⟩
theorem Dv.add (h:Dv D r) (k:Dv D s):Dv D (r+s):=by
 obtain ⟨a,c⟩:=h;obtain ⟨b,d⟩:=k;exact ⟨a+b,by push_cast;grind⟩
theorem Dv.sub (h:Dv D r) (k:Dv D s):Dv D (r-s):=by
 obtain ⟨a,c⟩:=h;obtain ⟨b,d⟩:=k;exact ⟨a-b,by push_cast;grind⟩
theorem Dv.mul (h:Dv D r) (k:Int):Dv D (r*(k:Rat)):=by
 obtain ⟨a,b⟩:=h;exact ⟨a*k,by push_cast;grind⟩
theorem Dv.more (h:Dv D r) (k:Int):Dv (D*k) r:=by
 obtain ⟨a,b⟩:=h;exact ⟨a*k,by push_cast;grind⟩
theorem Dv.over {k:Int} (hk:1<=k) (h:Dv D (r*(k:Rat))):Dv (D*k) r:=by
 obtain ⟨a,b⟩:=h;exact ⟨a,by push_cast;grind⟩
theorem Dv.den {t:Int × Int} (h:Dv D (vl t)) (ht:1<=t.2) (hg:Mth.g t.1 t.2=1):t.2∣D:=by
 obtain ⟨a,c⟩:=h;have f:=JaG ht;have e:(t.1:Rat)*D=a*t.2:=by
  unfold vl at c;have : (t.1:Rat)=(t.1:Rat)/t.2*t.2:=by rw [Rat.div_mul_cancel f]
  rw [this];grind
 have e:t.1*D=a*t.2:=by exact_mod_cast e
 refine Mth.Jdo (a:=t.1) (b:=t.2) (d:=D) (Mth.Jcf hg) ⟨a,?_⟩;rw [e,Int.mul_comm]
theorem Dv.fb {t:Int × Int} {m n:Nat} {Q:Int} (h:Dv D (vl t)) (ht:1<=t.2) (hg:Mth.g t.1 t.2=1) (hD:1<=D) (sD:Mth.Sz n D) (h0:0<=vl t) (h1:vl t<=(Q:Rat)) (sQ:Mth.Sz m Q):FB (m+n) n t:=by
 have i:=h.den ht hg;have j:t.2<=D:=Int.le_of_dvd ∅ i;have d:Mth.Sz n t.2:=Nat.lt_of_le_of_lt (by ac_nf:t.2.natAbs<=D.natAbs) sD;have f:=JaG ht;have a:(0:Rat)<(t.2:Rat):=by exact_mod_cast (show 0<t.2 by ac_nf)
 have e:(t.1:Rat)=vl t*t.2:=by unfold vl;rw [Rat.div_mul_cancel f]
 have c:(0:Rat)<=(t.1:Rat):=by rw [e];exact Rat.mul_nonneg h0 (Rat.le_of_lt a)
 have b:(t.1:Rat)<=(Q:Rat)*t.2:=by rw [e];exact Rat.mul_le_mul_of_nonneg_right h1 (Rat.le_of_lt a)
 have c:0<=t.1:=by exact_mod_cast c
 have b:t.1<=Q*t.2:=by exact_mod_cast b
 refine ⟨Nat.lt_of_le_of_lt (?_:t.1.natAbs<=(Q*t.2).natAbs) (sQ.mul d),d,ht,hg⟩;ac_nf
end
theorem Jkj {kvs:List (Key × V)} {vs:List (Key × Value)} (rel:KV kvs vs):vs.map (·.1)=kvs.map (·.1):=by
 unfold KV at rel;induction rel with
 | nil=>rfl
 | cons h1 _ ih=>rw [map_cons,map_cons,ih,h1.1]
theorem Jkh {P:Program} {w:World} {z:Str} {v:Value} (h:(Jau P w).is (Sum.inr z) v=true):∃ t,v=.str z t:=by
 rcases JaN (show keyIs (Sum.inr z) v=true from h) with ⟨b,hb,_⟩ | ⟨y,t,hy,rfl⟩
 ·cases hb
 ·cases hy;exact ⟨t,rfl⟩
def Itk (d:Addr) (od:Obj) (kvs:List (Key × V)) (ss:List Str):It :=
 ⟨fun i H=>H d=some (.frz od (.dK kvs))/\i<ss.length,fun i H x H'=>H'=H/\(ss.map V.str)[i]?=some x,fun i H=>H d=some (.frz od (.dK kvs))/\ss.length<=i⟩
theorem JiM {P:Program} {w:World} {K:W.Frag} {tg:Expr} {d it:Addr} {od:Obj} {kvs:List (Key × V)} {ss:List Str} {vs:List (Key × Value)} {ep:Nat} (rel:KV kvs vs) (hk:kvs.map (·.1)=ss.map Sum.inr) (hd:∀ h:Heap,h.get? d=some od->h.DictAt (Jau P w) d vs ep) :
  Turn P w K tg (Itk d od kvs ss) [it] it (fun i h=>h.IsKeyIter it d i vs.length ep) where
 mem:=by simp
 obj:=fun i h a b l=>by
  obtain rfl:b=it:=by simpa using l
  obtain ⟨o,e,c,z⟩:=a;exact ⟨o,e,fun v q=>by rw [z] at q;cases q⟩
 keep:=fun i h y a k=>a.at fun o e=>k it (by simp) o e
 item:=by
  intro X A N M O i f s σ H E I u a L;subst A N M;obtain ⟨j,F⟩:=L;obtain ⟨D,J,U,C,G,B⟩:=u it (by simp);have g:=(I.hok d _ j).1;have R:=rel.length;have T:kvs.length=ss.length:=by simpa using congrArg List.length hk
  obtain ⟨⟨k,Y⟩,n⟩:∃ p,vs[i]?=some p:=⟨_,List.getElem?_eq_getElem (show i<vs.length by ac_nf)⟩;have x:(vs.map (·.1))[i]?=some k:=by rw [List.getElem?_map,n];rfl
  rw [Jkj rel,hk,List.getElem?_map,List.getElem?_eq_getElem F] at x;have x:Sum.inr ss[i]=k:=Option.some.inj x;subst x;refine wpAny_pyNext_dict_item a (hd _ g) n fun key y r m S=>?_;obtain ⟨t,rfl⟩:=Jkh r;have I1:Inv X f σ H { s with heap:=y }:=I.turned (t':=s.toks) (fun b o l e=>(S.2 b l).trans e) D J C G B;obtain ⟨o,e,c,z⟩:=id m;exact ⟨_,rfl,go_of (s:={ s with heap:=y }) e c z ⋯ ⟨.str ss[i],H,I1,⟨t,rfl⟩,⟨rfl,by rw [List.getElem?_map,List.getElem?_eq_getElem F];rfl⟩,m,fun b l=>(u b l).1⟩⟩
 done:=by
  intro X A N M O i f s σ H E I u a L;subst A N M;obtain ⟨j,F⟩:=L;obtain ⟨D,J,U,C,G,B⟩:=u it (by simp);have g:=(I.hok d _ j).1;have R:=rel.length;have T:kvs.length=ss.length:=by simpa using congrArg List.length hk
  exact wpAny_pyNext_dict_end (I.ok.hd O) a (hd _ g) (List.getElem?_eq_none ∅) fun y Q=>⟨rfl,I.turned (t':=s.toks) (fun b o l e=>Q b o l e) D J C G B⟩
 self:=fun _ _ _ _ _ a h=>wpAny_pyIter_keyiter a h
section
variable {X:Cx} {tg:Expr}
def iKeys (td:TE):TI:=fun σ H R=>td σ H fun x H1=>∃ (d:Addr) (kvs:List (Key × V)) (ss:List Str),x=.ref d/\H1 d=some (.dK kvs)/\kvs.map (·.1)=ss.map Sum.inr/\∀ od,R (Itk d od kvs ss) (upd H1 d (.frz od (.dK kvs)))
theorem Jio {o:Expr} {td:TE} (ho:PE X o td):PI X tg o (iKeys td):=by
 intro a s σ H R I h;refine thn (ho a s σ H _ I h) fun v i ζ=>?_;obtain ⟨y,C,I1,r,d,kvs,B,l,e,p,t⟩:=ζ;subst l;obtain rfl:v=Value.ref d:=r;obtain ⟨A,m,vs,g,x⟩:=dk_of I1.hok e;obtain ⟨ep,j⟩:=x.dictAt;obtain ⟨k,n,c,rest⟩:=id j;refine wpAny_pyIter_dict (knd:=Jau X.prog X.w) (d:=d) (kvs:=vs) (ep:=ep) m j ?_;have u:∀ b o,i.heap.get? b=some o->(i.heap.push { cls:=.type "dict_keyiterator",data:=.fields #[.ref d, .int 0 0, .int vs.length 0, .int ep 0] }).get? b=some o:=fun b o z=>Heap.get?_push_of_some _ z;have I2:=(I1.freeze e c).kept (t':=i.toks) u;refine ⟨_,[_],_,_,_,rfl,I2,JiM (vs:=vs) (ep:=ep) g p (fun h q=>⟨k,n,q,rest⟩),⟨_,Heap.get?_push_size _ rfl,rfl,rfl⟩,fun b f=>?_,t k⟩;obtain rfl:=mem_singleton.mp f;exact I1.fpOk (Nat.le_refl _) ((I1.freeze e c).hok.fresh (Nat.le_refl _))
def JjQ (ts:TS):TS:=fun D σ H=>∃ d kvs,H d=some (.dK kvs)/\ts { nx:=fun σ' H'=>∃ od kvs',H' d=some (.frz od (.dK kvs'))/\D.nx σ' (upd H' d (.dK kvs')),rt:=fun _ _=>False } σ H
theorem Inv.thawS {pins:List (Addr × Obj)} {σ σ':List (Option V)} {H H':Hp} {s s':Shared} {d:Addr} {kvs kvs':List (Key × V)} {od:Obj} (I:Inv X pins σ H s) (e:H d=some (.dK kvs)) (I':Inv X pins σ' H' s') (e':H' d=some (.frz od (.dK kvs'))):Inv X pins σ' (upd H' d (.dK kvs')) s':=by
 have m:∀ {b:Addr} {o:HO},H' b=some o->(∀ u v,o≠.frz u v)->b≠d:=fun q h z=>by rw [z,e'] at q;cases q;exact h _ _ rfl
 refine ⟨I'.ok,I'.os,I'.bare,⟨I'.base.keep,I'.base.slot,fun b o q n A=>?_,I'.base.there,fun b l q=>?_,fun b o u q=>?_,fun b t q=>?_⟩,I'.loc,I'.cell,?_,fun x c z=>?_,fun p y=>?_,fun a o q=>?_,I'.len⟩
 ·have:=I'.base.free b o q n A;rw [Jag (fun z=>by rw [z,e'] at this;cases this)];exact this
 ·have:=I'.base.tups b l q;rw [Jag (m this (by intro u v z;cases z))];exact this
 ·have f:=I'.base.frzs b o u q;have g:=I.base.frzs b o u q;rw [Jag (fun z=>by rw [z,e] at g;cases g)];exact f
 ·obtain ⟨j,f⟩:=I'.base.tbls b t q;exact ⟨j,by rw [Jag (m f (by intro u v z;cases z))];exact f⟩
 ·have:=I'.free;rw [Jag (fun z=>by rw [z,e'] at this;cases this)];exact this
 ·have:=I'.freeC x c z;rw [Jag (fun z=>by rw [z,e'] at this;cases this)];exact this
 ·obtain ⟨f,g,B⟩:=I'.pin p y;exact ⟨f,by rw [Jag (fun z=>by rw [z,e'] at g;cases g)];exact g,B⟩
 ·have i:∀ r b,H' b=some (.own r)->upd H' d (.dK kvs') b=some (.own r):=fun r b q=>by
   rw [Jag (m q (by intro u v z;cases z))];exact q
  have k:∀ b l,H' b=some (.tup l)->upd H' d (.dK kvs') b=some (.tup l):=fun b l q=>by
   rw [Jag (m q (by intro u v z;cases z))];exact q
  by_cases c:a=d
  ·subst c;rw [Jaj] at q;cases q;have f:ObjOk X.prog X.w H' s'.heap a (.dK kvs'):=(I'.hok a _ e').2;exact f.stay (fun _ _ _ z=>z) (i a) k
  ·rw [Jag c] at q;exact (I'.hok a o q).stay (fun _ _ _ z=>z) (i a) k
theorem JkH {st:Stmt} {ts:TS} (h:PS X st ts):PS X st (JjQ ts):=by
 intro b s σ H D I ⟨d,i,j,q⟩;refine wpAny_mono (h b s σ H _ I q) (fun f k z=>?_) fun _ _ z=>z;cases f with
 | next=>
  obtain ⟨σ',c,I1,l,e,g,a⟩:=z;exact ⟨σ',_,I.thawS j I1 g,a⟩
 | brk=>obtain ⟨σ',c,I1,a⟩:=z;exact a.elim
 | cont=>obtain ⟨σ',c,I1,a⟩:=z;exact a.elim
 | ret v=>obtain ⟨y,σ',c,I1,r,a⟩:=z;exact a.elim
theorem ps_no {st:Stmt}:PS X st (fun _ _ _=>False):=fun _ _ _ _ _ _ h=>h.elim
def tSumV (td:TE):TE:=fun σ H Q=>td σ H fun x H1=>∃ (d:Addr) (kvs:List (Key × V)) (ns:List Int),x=.ref d/\H1 d=some (.dK kvs)/\kvs.map (·.2)=ns.map V.int/\Q (.int ns.sum) H1
theorem Jis (ns:List Int):∀ k,k<=ns.length->preSum (fun i=>ns.getD i 0) k=(ns.take k).sum
 | 0,_=>by simp [preSum]
 | k+1,h=>by
  rw [take_sum_succ ns k ∅, <- Jis ns k ∅];rfl
theorem JkD {o:Expr} {td:TE} {p1 apos cpos pos:Pos} {x:Str} (hc:X.calm=true) (hx:x="sum") (hg:Gl X x) (hm:X.mg x=none) (hv:bootBuiltins x=some (.builtin "sum")) (ho:PE X o td)
  (hb:attributeBase o "values" X.env (eval o X.env)=eval o X.env:=by rfl) (hn:(apos.endLine == cpos.line)=true:=by rfl) :
  PE X (.Call (.Name x p1) [.Call (.Attribute o "values" apos) [] [] cpos] [] pos) (tSumV td):=by
 intro j s σ H Q I h;have J:x≠"__name__":=by rw [hx];decide
 have L:(x == ("__debug__" : Str))=false:=by rw [hx];decide
 refine wpAny_Call_Name_kw (JdZ I hg hm hv ?_ J L);refine PyProof.Rows.callWith_builtin1 ?_ rfl rfl;show wpAny _ _ (spliced ((false,eval (.Call (.Attribute o "values" apos) [] [] cpos) X.env)::backTo pos (starEach [] X.env))) _ _ s;refine Calls.spliced_cons ?_;refine wpAny_Call_method0_late hb hn (thn (ho j s σ H _ I h) fun v n ζ=>?_);obtain ⟨y,U,I1,S,d,kvs,a,D,e,m,T⟩:=ζ;subst D;obtain rfl:v=Value.ref d:=S;obtain ⟨t,N,E⟩:=JfG I1 (.inl ⟨kvs, .inl e⟩);obtain ⟨V,_,l,g,C⟩:=dk_of I1.hok e;refine ⟨"dict","dict.values",PySem.F.plainAttrs_dict,PySem.F.slot_dict_values,PySem.F.type_dict_values,t,N,Calls.callWith_builtin rfl (PySem.evalArgs_none ?_)⟩;refine call_meetsIn PySem.F.slot_dict_values t PySem.F.entry_dict_values (PySem.F.args_dict_values_1 _) (meets_dict_values (Jau X.prog X.w) d E) ⟨⟨l,C⟩,?_⟩;refine Calls.spliced_nil ?_;obtain ⟨ep,p⟩:=C.dictAt;have O:X.A.in1.handled=none:=by have:=I.ok.hd hc;simp [this]
 have B:d<n.heap.objs.size:=p.lt_size;have q:(n.heap.push { cls:=.type "dict_values",data:=.fields #[.ref d] }).objs.size=n.heap.objs.size+1:=Heap.size_push ..;refine call_sum_walkG (wpAny_pyIter_values (knd:=Jau X.prog X.w) (v:=n.heap.objs.size) (d:=d) (kvs:=l) (ep:=ep) ⟨_,Heap.get?_push_size _ rfl,rfl,rfl⟩ (p.push _) ?_);have Y:=g.length;have ln:a.length=kvs.length:=by simpa using (congrArg List.length m).symm
 refine ⟨_,_,_,_,_,_,fun i=>a.getD i 0,rfl,Walks.dictValues (knd:=Jau X.prog X.w) O _ d (by rw [q];exact Nat.ne_of_lt (Nat.lt_succ_of_lt B)) l ep,⟨⟨_,Heap.get?_push_size _ rfl,rfl,rfl⟩,(p.push _).push _⟩,fun b c=>?_,fun i u G=>?_,fun Z M t' k=>?_⟩
 ·simp only [mem_cons,not_mem_nil,or_false] at c;show b<(Heap.push _ _).objs.size;rw [Heap.size_push];rcases c with rfl | rfl
  ·exact Nat.lt_succ_self _
  ·rw [q];exact Nat.lt_succ_of_lt (Nat.lt_succ_of_lt B)
 ·obtain ⟨kk,r⟩:=G;have K:=JiP g;have R:(l.map (·.2))[i]?=some u:=by rw [List.getElem?_map,r];rfl
  have li:i<kvs.length:=by
   have:=(List.getElem?_eq_some_iff.mp r).1;ac_nf
  obtain ⟨W,f,P⟩:=K.get (i:=i) (x:=.int (a.getD i 0)) (by rw [m,List.getElem?_map,List.getElem?_eq_getElem (show i<a.length by ac_nf)];simp [List.getD_eq_getElem?_getD,List.getElem?_eq_getElem (show i<a.length by ac_nf)]);rw [R] at f;cases f;exact P
 ·rw [show l.length=a.length by ac_nf,Jis a _ (Nat.le_refl _),take_of_length_le (Nat.le_refl _)];exact ⟨.int _,U,I1.kept (t':=M) (fun b o z=>k b o (by simp only [mem_cons,not_mem_nil,or_false];have:=Heap.lt_size z;rw [q];exact Nat.ne_of_lt (Nat.lt_succ_of_lt this)) (Heap.get?_push_of_some _ (Heap.get?_push_of_some _ z))),⟨_,rfl⟩,T⟩
end
section
variable {k:Nat} {cs:List (Nat × Str)} {g:TG} {te tl td:TE} {tt:TT} {σ : St} {H H1:Hp} {Q:VK} {d:Addr} {od:Obj} {kvs:List (Key × V)} {ss:List Str}
theorem y88y:tSumV td σ H Q=td σ H fun x H1=>∃ (d:Addr) (kvs:List (Key × V)) (ns:List Int),x=.ref d/\H1 d=some (.dK kvs)/\kvs.map (·.2)=ns.map V.int/\Q (.int ns.sum) H1:=rfl
theorem y37y:Jf1 k cs (iKeys td) g tt te σ H Q=td σ H fun x H1=>∃ (d1:Addr) (kvs1:List (Key × V)) (ss:List Str),x=.ref d1/\H1 d1=some (.dK kvs1)/\kvs1.map (·.1)=ss.map Sum.inr/\∀ od,Jcw (Itk d1 od kvs1 ss) k cs g tt te σ Q (upd H1 d1 (.frz od (.dK kvs1))):=rfl
theorem y38y:tThaw (Jf1 k cs (iKeys td) g tt te) σ H Q=∃ d kvs,H d=some (.dK kvs)/\td σ H fun x H1=>∃ (d1:Addr) (kvs1:List (Key × V)) (ss:List Str),x=.ref d1/\H1 d1=some (.dK kvs1)/\kvs1.map (·.1)=ss.map Sum.inr/\∀ od,Jcw (Itk d1 od kvs1 ss) k cs g tt te σ (fun v H'=>∃ od kvs',H' d=some (.frz od (.dK kvs'))/\Q v (upd H' d (.dK kvs'))) (upd H1 d1 (.frz od (.dK kvs1))):=rfl
theorem Jcw.keys (Pv:Nat->List V->Hp->Prop) (h0:Pv 0 [] H1) (hl:∀ i ys H',i<=ss.length->Pv i ys H'->H' d=some (.frz od (.dK kvs))/\ys.length<=sizeLine)
  (hs:∀ i z ys H2,ss[i]?=some z->Pv i ys H2->g (.str z) (List.replicate k none++JaF cs σ) H2 fun σ4 H4=>tt σ4 H4 fun b H5=>if b=true then te σ4 H5 fun y H6=>Pv (i+1) (ys++[y]) H6 else Pv (i+1) ys H5) (hd:∀ ys H2,Pv ss.length ys H2->∀ p,H2 p=none->Q (.ref p) (upd H2 p (.lst ys))) :
  Jcw (Itk d od kvs ss) k cs g tt te σ Q H1:=by
 refine ⟨fun i m ys H'=>Pv i ys H'/\i<=ss.length/\m=ss.length-i,⟨_,h0,Nat.zero_le _,rfl⟩,?_⟩;rintro i m ys H2 ⟨f,o,rfl⟩;obtain ⟨j,t⟩:=hl i ys H2 o f;refine ⟨t,?_⟩;by_cases c:i<ss.length
 ·refine .inr ⟨⟨j,c⟩,?_⟩;rintro x u ⟨rfl,l⟩;rw [List.getElem?_map] at l;obtain ⟨z,n,rfl⟩:=Option.map_eq_some_iff.mp l;have w:∀ (h:List V) (H5:Hp),Pv (i+1) h H5=∃ m',m'<ss.length-i/\Pv (i+1) h H5/\i+1<=ss.length/\m'=ss.length-(i+1):=fun h H5=>
   propext ⟨fun q=>⟨_,Nat.sub_lt_sub_left c (Nat.lt_succ_self i),q,c,rfl⟩,fun ⟨_,_,q,_⟩=>q⟩
  have s:(fun (y:V) (H6:Hp)=>Pv (i+1) (ys++[y]) H6)=fun y H6=>∃ m',m'<ss.length-i/\Pv (i+1) (ys++[y]) H6/\i+1<=ss.length/\m'=ss.length-(i+1):=by
   funext y H6
   exact w _ _
  have e:(fun (σ4:St) (H4:Hp)=>tt σ4 H4 fun b H5=>if b=true then te σ4 H5 fun y H6=>Pv (i+1) (ys++[y]) H6 else Pv (i+1) ys H5)=fun σ4 H4=>tt σ4 H4 fun b H5=>if b=true then te σ4 H5 fun y H6=>∃ m',m'<ss.length-i/\Pv (i+1) (ys++[y]) H6/\i+1<=ss.length/\m'=ss.length-(i+1) else ∃ m',m'<ss.length-i/\Pv (i+1) ys H5/\i+1<=ss.length/\m'=ss.length-(i+1):=by
   funext σ4 H4
   congr 1
   funext b H5
   by_cases a:b=true
   ·rw [if_pos a,if_pos a, <- s]
   ·rw [if_neg a,if_neg a];exact w ys H5
  have:=hs i z ys _ n f;rw [e] at this;exact this
 ·have r:i=ss.length:=by ac_nf
  subst r;exact .inl ⟨⟨j,Nat.le_refl _⟩,hd ys H2 f⟩
theorem y8by {ts:TS} {En:Ends}:JjQ ts En σ H=∃ d kvs,H d=some (.dK kvs)/\ts { nx:=fun σ' H'=>∃ od kvs',H' d=some (.frz od (.dK kvs'))/\En.nx σ' (upd H' d (.dK kvs')),rt:=fun _ _=>False } σ H:=rfl
theorem DGet.f {H:Hp} {a:Addr} {kvs:List (Key × V)} {k:Key} {od:Obj} (e:H a=some (.frz od (.dK kvs))):DGet H a (kV k) (valV kvs k):=.inl ⟨kvs,k, .inr ⟨od,e⟩,rfl,rfl⟩
end
def mulF (a c:Int × Int):Int × Int:=(Mth.top (a.1*c.1) (a.2*c.2),Mth.bot (a.1*c.1) (a.2*c.2))
def divF (a c:Int × Int):Int × Int:=(Mth.top (a.1*c.2) (a.2*c.1),Mth.bot (a.1*c.2) (a.2*c.1))
def subF (a c:Int × Int):Int × Int:=(Mth.top (a.1*c.2-c.1*a.2) (a.2*c.2),Mth.bot (a.1*c.2-c.1*a.2) (a.2*c.2))
structure Lo (a:Int × Int):Prop where
 b1:1<=a.2
 g1:Mth.g a.1 a.2=1
theorem FB.lo {A B:Nat} {a:Int × Int} (h:FB A B a):Lo a:=⟨h.b1,h.g1⟩
theorem Lo.inj {a c:Int × Int} (h:Lo a) (k:Lo c) (e:vl a=vl c):a=c:=JjU h.b1 k.b1 h.g1 k.g1 e
theorem Jh3 {t b:Int} (hb:1<=b):Lo (Mth.top t b,Mth.bot t b):=⟨Mth.JcV ∅,Mth.g_low ∅⟩
section
variable {a c:Int × Int}
theorem Jb8 {x y:Int} (hx:1<=x) (hy:1<=y):1<=x*y:=by
 have:=Int.mul_pos (show 0<x by ac_nf) (show 0<y by ac_nf);ac_nf
theorem JjV (ha:1<=a.2) (hc:1<=c.2):vl (mulF a c)=vl a*vl c:=by
 unfold mulF;rw [JiQ (Jb8 ha hc)];have d:=JaG ha;have b:=JaG hc;unfold vl;push_cast;generalize (a.1:Rat)=x at *;generalize (a.2:Rat)=y at *;generalize (c.1:Rat)=z at *;generalize (c.2:Rat)=t at *;grind
theorem JjT (ha:1<=a.2) (hc:1<=c.1) (hd:1<=c.2):vl (divF a c)=vl a/vl c:=by
 unfold divF;rw [JiQ (Jb8 ha hc)];have e:=JaG ha;have b:=JaG hc;have d:=JaG hd;unfold vl;push_cast;generalize (a.1:Rat)=x at *;generalize (a.2:Rat)=y at *;generalize (c.1:Rat)=z at *;generalize (c.2:Rat)=t at *;grind
theorem JlL (ha:1<=a.2) (hc:1<=c.2):vl (subF a c)=vl a-vl c:=by
 unfold subF;rw [JiQ (Jb8 ha hc)];have d:=JaG ha;have b:=JaG hc;unfold vl;push_cast;generalize (a.1:Rat)=x at *;generalize (a.2:Rat)=y at *;generalize (c.1:Rat)=z at *;generalize (c.2:Rat)=t at *;grind
theorem Je6 (ha:1<=a.2) (hc:1<=c.2):Lo (mulF a c):=Jh3 (Jb8 ha hc)
theorem Jj9 (ha:1<=a.2) (hc:1<=c.1):Lo (divF a c):=Jh3 (Jb8 ha hc)
theorem JkS (ha:1<=a.2) (hc:1<=c.2):Lo (subF a c):=Jh3 (Jb8 ha hc)
theorem Jf7 (k:Int):vl (k,1)=(k:Rat):=by
 unfold vl;have : ((1:Int):Rat)=1:=rfl;grind
theorem JgK:vl (0,1)=0:=Jf7 0
end
structure LidD where
 nm:Str
 rest:Int × Int
 ws:List (Str × Int)
 load:Int
 last:Int × Int
def wtOf (ws:List (Str × Int)) (n:Str):Option Int:=(ws.find? fun x=>decide (x.1=n)).map (·.2)
def LidD.settle (e:LidD) (n:Str) (L:Int × Int):LidD:=match wtOf e.ws n with
 | none=>e
 | some k=>{ e with rest:=subF e.rest (mulF L (k,1)),load:=e.load-k,last:=L }
theorem JgL {ws:List (Str × Int)} {n:Str}:wtOf ws n=none↔n∉ws.map (·.1):=by
 unfold wtOf;rw [Option.map_eq_none_iff,List.find?_eq_none];constructor
 ·intro h z;obtain ⟨x,a,e⟩:=mem_map.mp z;have:=h x a;simp [e] at this
 ·intro h x a;have : x.1≠n:=fun z=>h (mem_map.mpr ⟨x,a,z⟩);simpa using this
theorem JiT {ws:List (Str × Int)} {n:Str} {k:Int} (h:wtOf ws n=some k):(n,k)∈ws:=by
 unfold wtOf at h;obtain ⟨x,b,e⟩:=Option.map_eq_some_iff.mp h;have d:=List.mem_of_find?_eq_some b;have c:=List.find?_some b;have a:x.1=n:=by simpa using c
 obtain ⟨y,z⟩:=x;have e:z=k:=e;have a:y=n:=a;subst e;subst a;exact d
structure LidOk (w:Str->Rat) (g:Gp) (lvs:List (Str × (Int × Int))) (e:LidD):Prop where
 pm:(e.ws.map (·.1)).Perm g.way
 nd:(e.ws.map (·.1)).Nodup
 wt:∀ x∈e.ws,w x.1=(x.2:Rat)/\1<=x.2
 rest:vl e.rest=g.R-sm (used lvs w) g.way
 load:(e.load:Rat)=sm (left lvs w) g.way
 low:Lo e.rest
 llow:Lo e.last
 l1:∀ n∈g.way,n∈lvs.map (·.1)->lvv lvs n<=vl e.last
 l2:(∃ n∈g.way,n∈lvs.map (·.1))->∃ n∈g.way,n∈lvs.map (·.1)/\lvv lvs n=vl e.last
theorem JjL {w:Str->Rat} {m:Str}:∀ {l:List Str},l.Nodup->sm (dlt w [m]) l=if m∈l then w m else 0
 | [],_=>by simp [sm]
 | n::l,h=>by
  rw [nodup_cons] at h;simp only [sm,JjL h.2];unfold dlt;by_cases c:n=m
  ·subst c;rw [if_neg h.1];simp;grind
  ·have c':m≠n:=fun z=>c z.symm;simp only [mem_singleton,mem_cons,c,c',false_or,if_false];grind
section
variable {w:Str->Rat} {g:Gp} {lvs:List (Str × (Int × Int))} {e:LidD} {m:Str} {L:Int × Int}
theorem LidOk.settle (h:LidOk w g lvs e) (hnd:(lvs.map (·.1)).Nodup) (hm:m∉lvs.map (·.1)) (hL:Lo L) (hle:∀ x∈lvs,vl x.2<=vl L):LidOk w g (lvs++[(m,L)]) (e.settle m L):=by
 have v:∀ n∈[m],n∉lvs.map (·.1):=fun n d=>by rw [mem_singleton.mp d];exact hm
 have s:g.way.Nodup:=h.pm.nodup_iff.mp h.nd;have p:sm (used (lvs++[(m,L)]) w) g.way=sm (used lvs w) g.way+vl L*sm (dlt w [m]) g.way:=by
  rw [<- Jep];exact Jbm fun q _=>Jfu (ns:=[m]) v q
 have o:sm (left (lvs++[(m,L)]) w) g.way=sm (left lvs w) g.way+(-1)*sm (dlt w [m]) g.way:=by
  rw [<- Jep];exact Jbm fun q _=>Je3 (ns:=[m]) v q
 have f:(lvs++[(m,L)]).map (·.1)=lvs.map (·.1)++[m]:=Jbe (ns:=[m]);have j:∀ n∈lvs.map (·.1),lvv (lvs++[(m,L)]) n=lvv lvs n:=fun n d=>Je4 (ns:=[m]) d;have l:lvv (lvs++[(m,L)]) m=vl L:=Jgl (ns:=[m]) hm (by simp);rw [JjL s] at p o;unfold LidD.settle;cases hw:wtOf e.ws m with
 | none=>
  have t:m∉g.way:=fun z=>(JgL.mp hw) (h.pm.mem_iff.mpr z);rw [if_neg t] at p o;refine ⟨h.pm,h.nd,h.wt,?_,?_,h.low,h.llow,fun n d b=>?_,fun ⟨n,d,b⟩=>?_⟩
  ·rw [p,h.rest];grind
  ·rw [o,h.load];grind
  ·rw [f] at b;rcases mem_append.mp b with b | b
   ·rw [j n b];exact h.l1 n d b
   ·rw [mem_singleton.mp b] at d;exact absurd d t
  ·rw [f] at b;rcases mem_append.mp b with b | b
   ·obtain ⟨q,D,u,E⟩:=h.l2 ⟨n,d,b⟩;exact ⟨q,D,by rw [f];exact mem_append.mpr (.inl u),by rw [j q u];exact E⟩
   ·rw [mem_singleton.mp b] at d;exact absurd d t
 | some k=>
  have i:=JiT hw;have B:m∈g.way:=h.pm.mem_iff.mp (mem_map.mpr ⟨_,i,rfl⟩);have C:=h.wt _ i;have r:w m=(k:Rat):=C.1;rw [if_pos B,r] at p o;have y:=Je6 (a:=L) (c:=(k,1)) hL.b1 (Int.le_refl 1);refine ⟨h.pm,h.nd,h.wt,?_,?_,JkS h.low.b1 y.b1,hL,fun n d b=>?_,fun _=>⟨m,B,by rw [f];simp,l⟩⟩
  ·show vl (subF e.rest (mulF L (k,1)))=_;rw [JlL h.low.b1 y.b1,JjV hL.b1 (Int.le_refl 1),Jf7,p,h.rest];grind
  ·show ((e.load-k:Int):Rat)=_;rw [o, <- h.load];push_cast;grind
  ·rw [f] at b;rcases mem_append.mp b with b | b
   ·rw [j n b];obtain ⟨x,A,rfl⟩:=mem_map.mp b;rw [Jd5 hnd A];exact hle x A
   ·rw [mem_singleton.mp b,l];exact Rat.le_refl
end
structure SInv (N:List Str) (w:Str->Rat) (gs:List Gp) (lvs:List (Str × (Int × Int))) (L:Int × Int):Prop where
 nd:(lvs.map (·.1)).Nodup
 sub:∀ n∈lvs.map (·.1),n∈N
 a:∀ x∈lvs,0<=vl x.2/\vl x.2<=vl L
 L0:0<=vl L
 cc:∀ g∈gs,vl L*sm (left lvs w) g.way<=g.R-sm (used lvs w) g.way
section
variable {N:List Str} {w:Str->Rat} {gs:List Gp} {lvs:List (Str × (Int × Int))} {L:Int × Int} {m:Str}
theorem SInv.step (h:SInv N w gs lvs L) (hg:∀ g∈gs,g.way.Nodup) (hm:m∈N) (hn:m∉lvs.map (·.1)):SInv N w gs (lvs++[(m,L)]) L:=by
 have f:∀ n∈[m],n∉lvs.map (·.1):=fun n b=>by rw [mem_singleton.mp b];exact hn
 have d:(lvs++[(m,L)]).map (·.1)=lvs.map (·.1)++[m]:=Jbe (ns:=[m]);refine ⟨?_,fun n b=>?_,fun x c=>?_,h.L0,fun g e=>?_⟩
 ·rw [d];exact nodup_append.mpr ⟨h.nd,by simp,fun x c y k z=>hn (by rw [mem_singleton.mp k] at z;rw [<- z];exact c)⟩
 ·rw [d] at b;rcases mem_append.mp b with q | q
  ·exact h.sub n q
  ·rw [mem_singleton.mp q];exact hm
 ·rcases mem_append.mp c with c | c
  ·exact h.a x c
  ·rw [mem_singleton.mp c];exact ⟨h.L0,Rat.le_refl⟩
 ·have j:sm (used (lvs++[(m,L)]) w) g.way=sm (used lvs w) g.way+vl L*sm (dlt w [m]) g.way:=by
   rw [<- Jep];exact Jbm fun q _=>Jfu (ns:=[m]) f q
  have i:sm (left (lvs++[(m,L)]) w) g.way=sm (left lvs w) g.way+(-1)*sm (dlt w [m]) g.way:=by
   rw [<- Jep];exact Jbm fun q _=>Je3 (ns:=[m]) f q
  have:=h.cc g e;rw [j,i];grind
theorem SInv.range (h:SInv N w gs lvs L) (hw:∀ n∈N,0<w n) (hs:∀ g∈gs, ∀ n∈g.way,n∈N) {g:Gp} (hg:g∈gs):0<=g.R-sm (used lvs w) g.way/\g.R-sm (used lvs w) g.way<=g.R:=by
 have i:=h.cc g hg;have d:=sm_nn (Jd2 (lvs:=lvs) hw (hs g hg));have j:=Rat.mul_nonneg h.L0 d;have f:0<=sm (used lvs w) g.way:=sm_nn fun q e=>by
  unfold used;refine Rat.mul_nonneg ?_ (Rat.le_of_lt (hw q (hs g hg q e)));by_cases c:q∈lvs.map (·.1)
  ·obtain ⟨x,b,rfl⟩:=mem_map.mp c;rw [Jd5 h.nd b];exact (h.a x b).1
  ·rw [Jcg c];exact Rat.le_refl
 grind
end
theorem Dv.sm {D:Int} {a:Str->Rat}:∀ {l:List Str},(∀ q∈l,Dv D (a q))->Dv D (L2.sm a l)
 | [],_=>Dv.int 0
 | n::l,h=>(h n (by simp)).add (Dv.sm (l:=l) fun q hq=>h q (by simp [hq]))
theorem JhP {D:Int} {b:Rat} {w:Str->Rat} {g:Gp} {lvs:List (Str × (Int × Int))} (hR:Dv D (g.R/b)) (hw:∀ n∈g.way, ∃ k:Int,w n=(k:Rat)) (hl:∀ x∈lvs,Dv D (vl x.2/b)) (hnd:(lvs.map (·.1)).Nodup):Dv D ((g.R-sm (used lvs w) g.way)/b):=by
 have e:(g.R-sm (used lvs w) g.way)/b=g.R/b-sm (fun n=>lvv lvs n/b*w n) g.way:=by
  have : sm (used lvs w) g.way/b=sm (fun n=>lvv lvs n/b*w n) g.way:=by
   generalize g.way=l;induction l with
   | nil=>simp only [sm];grind
   | cons n l ih=>
    simp only [sm, <- ih];unfold used;grind
  rw [<- this];grind
 rw [e];refine hR.sub (Dv.sm fun q f=>?_);obtain ⟨k,d⟩:=hw q f;rw [d];refine Dv.mul ?_ k;by_cases c:q∈lvs.map (·.1)
 ·obtain ⟨x,a,rfl⟩:=mem_map.mp c;rw [Jd5 hnd a];exact hl x a
 ·rw [Jcg c];have : (0:Rat)/b=((0:Int):Rat):=by
   show (0:Rat)/b=0;grind
  rw [this];exact Dv.int 0
theorem Dv.up {D b:Int} {r:Rat} (hb:1<=b) (h:Dv D (r/(b:Rat))):Dv D r:=by
 have:=h.mul b
 rwa [Rat.div_mul_cancel (JaG hb)] at this
def wsK (ws:List (Str × Int)):List (Key × V):=ws.map fun p=>(Sum.inr p.1, .int p.2)
theorem JgJ (n:Str):∀ ws:List (Str × Int),valV (wsK ws) (Sum.inr n)=(wtOf ws n).map V.int
 | []=>rfl
 | x::ws=>by
  have ih:=JgJ n ws;unfold wsK wtOf at ih ⊢;rw [map_cons,List.find?_cons];by_cases c:x.1=n
  ·rw [Jbd (by rw [c]),decide_eq_true c];rfl
  ·rw [Jbf (fun z=>c (by injection z)),decide_eq_false c];exact ih
theorem Jjv (ws:List (Str × Int)):(wsK ws).map (·.1)=(ws.map (·.1)).map Sum.inr:=by
 unfold wsK;rw [map_map,map_map];rfl
theorem Jjw (ws:List (Str × Int)):(wsK ws).map (·.2)=(ws.map (·.2)).map V.int:=by
 unfold wsK;rw [map_map,map_map];rfl
theorem Jg1:∀ (ps acc:List (Str × V)),((acc++ps).map (·.1)).Nodup->ps.foldl (fun l p=>putK l (Sum.inr p.1) p.2) (acc.map fun p=>((Sum.inr p.1:Key),p.2))=(acc++ps).map fun p=>((Sum.inr p.1:Key),p.2)
 | [],acc,_=>by simp
 | p::ps,acc,h=>by
  have ea:acc++p::ps=(acc++[p])++ps:=by simp
  rw [List.foldl_cons];have nn:valV (acc.map fun p=>((Sum.inr p.1:Key),p.2)) (Sum.inr p.1)=none:=by
   cases e:valV (acc.map fun p=>((Sum.inr p.1:Key),p.2)) (Sum.inr p.1) with
   | none=>rfl
   | some v=>
    have:=Jh0.mp (show (valV (acc.map fun p=>((Sum.inr p.1:Key),p.2)) (Sum.inr p.1)).isSome=true by rw [e];rfl);rw [map_map] at this;obtain ⟨q,hq,eq⟩:=mem_map.mp this;have eq:(Sum.inr q.1:Key)=Sum.inr p.1:=eq;have eq:q.1=p.1:=by injection eq
    rw [map_append,map_cons,nodup_append] at h;exact absurd rfl (h.2.2 p.1 (mem_map.mpr ⟨q,hq,eq⟩) p.1 (by simp))
  rw [Jji p.2 nn];have : (acc.map fun p=>((Sum.inr p.1:Key),p.2))++[(Sum.inr p.1,p.2)]=(acc++[p]).map fun p=>((Sum.inr p.1:Key),p.2):=by simp
  rw [this,Jg1 ps (acc++[p]) (by rw [<- ea];exact h),ea]
theorem Jij {ps:List (Str × V)} (h:(ps.map (·.1)).Nodup):JdD ps=ps.map fun p=>((Sum.inr p.1:Key),p.2):=by
 unfold JdD;exact (Jg1 ps [] (by simpa using h)).trans (by rw [nil_append])
structure LoInv (n:Int × Int) (q:Int) (t:Int × Int):Prop where
 lo:Lo t
 cr:t.1*(n.2*q)=n.1*t.2
 le1:t.1.natAbs<=n.1.natAbs
 le2:t.2.natAbs<=n.2.natAbs*q.natAbs
theorem LoInv.nil {n:Int × Int} (h:Lo n):LoInv n 1 n:=⟨h,by rw [Int.mul_one],Nat.le_refl _,by simp⟩
theorem LoInv.step {n t:Int × Int} {q f:Int} (h:LoInv n q t) (hf:1<=f):LoInv n (q*f) (t.1.fdiv (Mth.g t.1 f),t.2*f.fdiv (Mth.g t.1 f)):=by
 have w:0<Mth.g t.1 f:=Mth.g_pos ∅;have k:=Mth.Jcy t.1 f;have c:=Mth.JbG t.1 f;have j:=Mth.JaM k ∅;have o:=Mth.JaM c ∅;have p:=Mth.JcR (b:=t.1) (d:=f) rfl ∅;have m:=Mth.JbW c ∅ hf;have a:=Mth.JdU k ∅;have e:=Mth.JdU c ∅;have u:t.1.fdiv (Mth.g t.1 f)∣t.1:=⟨_,j.symm⟩;have l:Int.gcd (t.1.fdiv (Mth.g t.1 f)) t.2=1:=Mth.Jb0 (Mth.Jcf h.lo.g1) u;have i:=h.cr;have v:=h.lo.b1;generalize t.1.fdiv (Mth.g t.1 f)=r at *;generalize f.fdiv (Mth.g t.1 f)=f' at *;generalize Mth.g t.1 f=s at *;refine ⟨⟨Jb8 v m,Mth.JdK (Mth.JbV l p)⟩,?_,?_,?_⟩
 ·show r*(n.2*(q*f))=n.1*(t.2*f');have : r*(n.2*(q*f))=(t.1*(n.2*q))*f':=by
   rw [<- j, <- o];simp only [Int.mul_assoc,Int.mul_comm,Int.mul_left_comm]
  rw [this,i,Int.mul_assoc]
 ·exact Nat.le_trans a h.le1
 ·show (t.2*f').natAbs<=n.2.natAbs*(q*f).natAbs;rw [Int.natAbs_mul,Int.natAbs_mul, <- Nat.mul_assoc];exact Nat.mul_le_mul h.le2 e
theorem LoInv.vl {n t:Int × Int} {q:Int} (h:LoInv n q t) (hn:1<=n.2) (hq:1<=q):vl t=vl n/(q:Rat):=by
 have i:=JaG hn;have f:=JaG h.lo.b1;have g:=JaG hq;have e:(t.1:Rat)*((n.2:Rat)*(q:Rat))=(n.1:Rat)*(t.2:Rat):=by exact_mod_cast h.cr
 unfold L2.vl;generalize (t.1:Rat)=a at *;generalize (t.2:Rat)=b at *;generalize (n.1:Rat)=c at *;generalize (n.2:Rat)=d at *;generalize (q:Rat)=q at *;grind
def stF (ms:List (Str × (Int × Int))) (lds:List LidD) (S:List Str):List ((Int × Int) × List Str) :=
 (ms.filter fun m=>decide (m.1∉S)).map (fun m=>(m.2,[m.1]))++(lds.filter fun e=>decide (0<e.load)).map fun e=>(divF e.rest (e.load,1),(e.ws.map (·.1)).filter fun n=>decide (n∉S))
def StV (K:W.Frag) (H:Hp) (s:(Int × Int) × List Str) (x:V):Prop:=∃ t v l,x=.ref t/\SqT K H t [v, .ref l]/\FrV K H v s.1.1 s.1.2/\H l=some (.lst (s.2.map V.str))
theorem StV.same {K:W.Frag} {H H':Hp} {s:(Int × Int) × List Str} {x:V} (S:Same H H'):StV K H s x->StV K H' s x:=by rintro ⟨t,v,l,c,a,d,b⟩;exact ⟨t,v,l,c,a.same S,d.same S,S _ _ b⟩
def NFV (K:W.Frag) (H:Hp) (a:Str × (Int × Int)) (x:V):Prop:=FrV K H x a.2.1 a.2.2
theorem NFV.sameT {K:W.Frag} {H H':Hp} {a:Str × (Int × Int)} {x:V} (S:SameT H H') (h:NFV K H a x):NFV K H' a x:=FrV.sameT S h
def thw (d:Addr) (kv:List (Key × V)) (H:Hp):Hp:=upd H d (.dK kv)
section
variable {H H':Hp} {d a:Addr} {od:Obj} {kv kw:List (Key × V)} {k:Key}
theorem JiJ (h:H d=some (.dK kv)):thw d kv (upd H d (.frz od (.dK kv)))=H:=by
 funext b
 unfold thw;by_cases c:b=d
 ·subst c;rw [Jaj,h]
 ·rw [Jag c,Jag c]
theorem Jft (S:Same H H'):Same (thw d kv H) (thw d kv H'):=fun b u h=>by
 unfold thw at h ⊢;by_cases c:b=d
 ·subst c;rw [Jaj] at h ⊢;exact h
 ·rw [Jag c] at h ⊢;exact S _ _ h
theorem JiK (hd:H d=some (.frz od (.dK kv))) (ha:thw d kv H a=some (.dK kw)):DGet H a (kV k) (valV kw k):=by
 unfold thw at ha;by_cases c:a=d
 ·subst c;rw [Jaj] at ha;cases ha;exact DGet.f hd
 ·rw [Jag c] at ha;exact DGet.k ha
theorem Jfs (hd:H d=some (.frz od (.dK kv))) (ha:H a=none):thw d kv H a=none:=by
 unfold thw;rw [Jag (fun z=>by rw [z,hd] at ha;cases ha)];exact ha
end
theorem StV.cut {K:W.Frag} {H:Hp} {s:(Int × Int) × List Str} {x:V} {p:Addr} (h:StV K (cut p H) s x):StV K H s x:=h.same Jc7
structure SHC (ls:List PD) (es:List (GD × List Str)) (pl:Str->Int × Int):Prop where
 l12:ls.length<=12
 l7:es.length<=7
 l14:ls.length+es.length<=14
 nd:(ls.map (·.nm)).Nodup
 gn:∀ e∈es, ∀ u∈es.map (·.1),u.nm=e.1.nm->u=e.1
 pok:∀ p∈ls,POk p
 pb:∀ p∈ls,(1<=p.sz.2/\Mth.Sz 70 p.sz.2)/\FB 200 12 p.mo
 wt:∀ p∈ls,Mth.Sz 21 p.wt
 tok:∀ e∈es,TOk e.1.td
 gb:∀ e∈es,(1<=e.1.lo.2/\Mth.Sz 70 e.1.lo.2)/\1<=e.1.hi.2/\Mth.Sz 70 e.1.hi.2
 rb:∀ e∈es,FB 200 12 (roomF pl e.1)
 plb:∀ f,FB 302 161 (pl f)
 pls:∀ p∈ls,vl (pl p.en)=vl (pl p.st)+vl p.sz
 way:∀ e∈es, ∀ w:List Pr,Jbi ls e.1.st w e.1.en->(w.map (·.1)).Nodup->e.2.Perm (w.map (·.1))
structure LSt (b:Int) (ls:List PD) (pl:Str->Int × Int) (e:GD × List Str) (l:LidD):Prop where
 nm:l.nm=e.1.nm
 rest:vl l.rest=vl (roomF pl e.1)*(b:Rat)
 fb:FB 2200 12 l.rest
 pm:(l.ws.map (·.1)).Perm e.2
 nd:(l.ws.map (·.1)).Nodup
 wt:∀ x∈l.ws, ∃ p∈ls,p.nm=x.1/\p.wt=x.2
 load:l.load=(l.ws.map (·.2)).sum
 last:l.last=(0,1)
structure MSt (b:Int) (p:PD) (m:Str × (Int × Int)):Prop where
 nm:m.1=p.nm
 vl:L2.vl m.2=L2.vl p.mo*(b:Rat)/(p.wt:Rat)
 fb:FB 2200 33 m.2
theorem Jg7 {H:Hp} {d a:Addr} {od:Obj} {kv:List (Key × V)} {u:HO} (hd:H d=some (.frz od (.dK kv))) (ha:H a=some u) (hu:∀ o w,u≠.frz o w):thw d kv H a=some u:=by
 unfold thw;rw [Jag (fun z=>by rw [z,hd] at ha;cases ha;exact hu _ _ rfl)];exact ha
theorem JgU {β : Type}:∀ {ls:List (Str × β)} {p q:Str × β},(ls.map (·.1)).Nodup->p∈ls->q∈ls->p.1=q.1->p=q
 | [],_,_,_,hp,_,_=>by cases hp
 | a::ls,p,q,hn,hp,hq,e=>by
  rw [map_cons,nodup_cons] at hn;rcases mem_cons.mp hp with h1 | h1 <;> rcases mem_cons.mp hq with h2 | h2
  ·rw [h1,h2]
  ·subst h1;exact absurd (e ▸ mem_map.mpr ⟨q,h2,rfl⟩) hn.1
  ·subst h2;exact absurd (e ▸ mem_map.mpr ⟨p,h1,rfl⟩) hn.1
  ·exact JgU hn.2 h1 h2 e
theorem BG.keysS {P:(Str × (Int × Int))->V->Prop} {as:List (Str × (Int × Int))} {kvs:List (Key × V)} (h:BG (·.1) P as kvs):kvs.map (·.1)=(as.map (·.1)).map Sum.inr:=by
 rw [h.1,map_map];rfl
structure RC (b Q:Int) (N:List Str) (w M:Str->Rat) (gs:List Gp) (ms:List (Str × (Int × Int))):Prop where
 b1:1<=b
 nm:ms.map (·.1)=N
 nd:N.Nodup
 l12:N.length<=12
 wt:∀ n∈N, ∃ k:Int,w n=(k:Rat)/\1<=k/\Mth.Sz 21 k
 ml:∀ m∈ms,vl m.2=M m.1/\FB 2200 33 m.2/\0<=M m.1
 gw:∀ g∈gs,(∀ n∈g.way,n∈N)/\g.way.Nodup/\0<=g.R/\g.R<=(Q:Rat)
 mq:∀ n∈N,M n<=(Q:Rat)
 sQ:Mth.Sz 2200 Q
def LOks (w:Str->Rat) (lvs:List (Str × (Int × Int))) (gs:List Gp) (lds:List LidD):Prop:=lds.length=gs.length/\∀ (i:Nat) g e,gs[i]?=some g->lds[i]?=some e->LidOk w g lvs e
structure RB (b:Int) (N:List Str) (w M:Str->Rat) (gs:List Gp) (k:Nat) (lvs:List (Str × (Int × Int))) (D:Int):Prop where
 D1:1<=D
 sD:Mth.Sz (230+25*k) D
 dl:∀ x∈lvs,Dv D (vl x.2/(b:Rat))
 dr:∀ g∈gs,Dv D (g.R/(b:Rat))
 dm:∀ n∈N,Dv D (M n/(b:Rat)*w n)
structure RSt (b:Int) (N:List Str) (w M:Str->Rat) (gs:List Gp) (lvs:List (Str × (Int × Int))) (lds:List LidD):Prop where
 inv:∃ L,RInv N w M gs lvs (vl L)
 ok:LOks w lvs gs lds
 bt:∃ D,RB b N w M gs lvs.length lvs D
 lo:∀ x∈lvs,Lo x.2
structure RMd (b:Int) (N:List Str) (w M:Str->Rat) (gs:List Gp) (L:Int × Int) (D:Int) (k:Nat) (lvs:List (Str × (Int × Int))) (lds:List LidD):Prop where
 inv:SInv N w gs lvs L
 ok:LOks w lvs gs lds
 bt:RB b N w M gs k lvs D
 k12:k<=12
 dL:Dv D (vl L/(b:Rat))
 fL:FB 3000 1000 L
section
variable {b Q:Int} {N:List Str} {w M:Str->Rat} {gs:List Gp} {ms lvs:List (Str × (Int × Int))} {lds:List LidD} {L:Int × Int} {ns:List Str} {D:Int} {k:Nat}
theorem LOks.fwd (h:LOks w lvs gs lds) {g:Gp} (hg:g∈gs):∃ e∈lds,LidOk w g lvs e:=by
 obtain ⟨i,b⟩:=List.getElem?_of_mem hg;have c:=(List.getElem?_eq_some_iff.mp b).1;have a:i<lds.length:=by rw [h.1];exact c
 exact ⟨lds[i],List.getElem_mem a,h.2 i g _ b (List.getElem?_eq_getElem a)⟩
theorem LOks.bwd (h:LOks w lvs gs lds) {e:LidD} (he:e∈lds):∃ g∈gs,LidOk w g lvs e:=by
 obtain ⟨i,b⟩:=List.getElem?_of_mem he;have c:=(List.getElem?_eq_some_iff.mp b).1;have a:i<gs.length:=by rw [<- h.1];exact c
 exact ⟨gs[i],List.getElem_mem a,h.2 i _ e (List.getElem?_eq_getElem a) b⟩
theorem RC.wpos (hc:RC b Q N w M gs ms):∀ n∈N,0<w n:=fun n c=>by
 obtain ⟨k,a,d,_⟩:=hc.wt n c;rw [a];exact_mod_cast (show 0<k by ac_nf)
theorem RInv.s (h:RInv N w M gs lvs (vl L)):SInv N w gs lvs L:=⟨h.nd,h.sub,fun x b=>⟨(h.a x b).1,(h.a x b).2.1⟩,h.c0,h.cc⟩
theorem JgC (hc:RC b Q N w M gs ms) (hi:SInv N w gs lvs L) (hb:RB b N w M gs k lvs D) (k12:k<=13) {g:Gp} (hg:g∈gs) {e:LidD} (he:LidOk w g lvs e):FB 2800 600 e.rest:=by
 have a:=hi.range hc.wpos (fun g hg=>(hc.gw g hg).1) hg;have c:=hc.gw g hg;have d:=(JhP (hb.dr g hg) (fun n h=>by obtain ⟨k,f,_⟩:=hc.wt n (c.1 n h);exact ⟨k,f⟩) hb.dl hi.nd).up hc.b1;rw [<- he.rest] at d a;exact d.fb (m:=2200) (n:=600) he.low.b1 he.low.g1 hb.D1 (hb.sD.mono ∅) a.1 (Rat.le_trans a.2 c.2.2.2) hc.sQ
theorem JiE {a:Str->Rat} {B:Int} (hB:0<=B):∀ {l:List Str} {n:Nat},(∀ q∈l,a q<=(B:Rat))->l.length<=n->sm a l<=((B*n:Int):Rat)
 | [],n,_,_=>by
  have : 0<=B*(n:Int):=Int.mul_nonneg hB ∅;simp only [sm];exact_mod_cast this
 | q::l,0,_,h=>by simp at h
 | q::l,n+1,h,hl=>by
  have h1:=h q (by simp);have h2:=JiE hB (l:=l) (n:=n) (fun r hr=>h r (by simp [hr])) (by simpa using hl);have e:((B*((n+1:Nat):Int):Int):Rat)=(B:Rat)+((B*(n:Int):Int):Rat):=by
   have : B*((n+1:Nat):Int)=B+B*(n:Int):=by push_cast;rw [Int.mul_add,Int.mul_one,Int.add_comm]
   rw [this];push_cast;rfl
  simp only [sm];rw [e];grind
theorem JiS (hc:RC b Q N w M gs ms) {g:Gp} (hg:g∈gs):g.way.length<=12:=Nat.le_trans (sub_len _ _ (hc.gw g hg).2.1 (hc.gw g hg).1) hc.l12
theorem Jgk (hc:RC b Q N w M gs ms) {g:Gp} (hg:g∈gs) {e:LidD} (he:LidOk w g lvs e):0<=e.load/\Mth.Sz 25 e.load:=by
 have d:=hc.gw g hg;have a:=sm_nn (Jd2 (lvs:=lvs) hc.wpos d.1);obtain ⟨B,l⟩:∃ B:Int,B=2097152:=⟨_,rfl⟩;have B0:0<=B:=by ac_nf
 have c:sm (left lvs w) g.way<=((B*(12:Nat):Int):Rat):=JiE B0 (fun q h=>by
  obtain ⟨k,f,i,j⟩:=hc.wt q (d.1 q h);have : k<=B:=by unfold Mth.Sz at j;ac_nf
  have : (k:Rat)<=(B:Rat):=by exact_mod_cast this
  unfold left;split
  ·exact_mod_cast B0
  ·rw [f];exact this) (JiS hc hg)
 rw [<- he.load] at a c;have a:0<=e.load:=by exact_mod_cast a
 have c:e.load<=B*(12:Nat):=Rat.intCast_le_intCast.mp c;refine ⟨a,?_⟩;unfold Mth.Sz;ac_nf
theorem JcM {S:List Str} {s:(Int × Int) × List Str}:s∈stF ms lds S↔(∃ m∈ms,m.1∉S/\s=(m.2,[m.1]))\/∃ e∈lds,0<e.load/\s=(divF e.rest (e.load,1),(e.ws.map (·.1)).filter fun n=>decide (n∉S)):=by
 unfold stF;rw [mem_append,mem_map,mem_map];constructor
 ·rintro (⟨m,b,rfl⟩ | ⟨e,a,rfl⟩)
  ·have:=mem_filter.mp b;exact .inl ⟨m,this.1,by simpa using this.2,rfl⟩
  ·have:=mem_filter.mp a;exact .inr ⟨e,this.1,by simpa using this.2,rfl⟩
 ·rintro (⟨m,b,h,rfl⟩ | ⟨e,a,h,rfl⟩)
  ·exact .inl ⟨m,mem_filter.mpr ⟨b,by simpa using h⟩,rfl⟩
  ·exact .inr ⟨e,mem_filter.mpr ⟨a,by simpa using h⟩,rfl⟩
theorem RSt.len (hc:RC b Q N w M gs ms) (h:RSt b N w M gs lvs lds):lvs.length<=N.length:=by
 obtain ⟨L,a⟩:=h.inv;have:=sub_len _ _ a.nd a.sub;simpa using this
theorem RSt.all (hc:RC b Q N w M gs ms) (h:RSt b N w M gs lvs lds) (hl:N.length<=lvs.length):∀ n∈N,n∈lvs.map (·.1):=by
 obtain ⟨L,c⟩:=h.inv;intro n d;refine Classical.byContradiction fun z=>?_;have:=sub_len (n::lvs.map (·.1)) N (nodup_cons.mpr ⟨z,c.nd⟩) (fun q a=>by
  rcases mem_cons.mp a with e | a
  ·rw [e];exact d
  ·exact c.sub q a)
 simp at this;ac_nf
theorem RSt.lids (hc:RC b Q N w M gs ms) (h:RSt b N w M gs lvs lds):∀ e∈lds,FB 3000 1000 e.rest/\Mth.Sz 64 e.load/\e.ws.length<=12:=by
 intro e i;obtain ⟨L,j⟩:=h.inv;obtain ⟨D,d⟩:=h.bt;obtain ⟨g,a,c⟩:=h.ok.bwd i;have f:=JgC hc j.s d (by have:=h.len hc;have:=hc.l12;ac_nf) a c;refine ⟨⟨f.s1.mono ⋯,f.s2.mono ⋯,f.b1,f.g1⟩,(Jgk hc a c).2.mono ⋯,?_⟩;have:=c.pm.length_eq;rw [length_map] at this;rw [this];exact JiS hc a
theorem RSt.some (hc:RC b Q N w M gs ms) (h:RSt b N w M gs lvs lds) (hl:lvs.length<N.length):stF ms lds (lvs.map (·.1))≠[]:=by
 intro z;have : ∀ n∈N,n∈lvs.map (·.1):=fun n a=>by
  rw [<- hc.nm] at a;obtain ⟨m,d,rfl⟩:=mem_map.mp a;refine Classical.byContradiction fun y=>?_;have : ((m.2,[m.1]):(Int × Int) × List Str)∈stF ms lds (lvs.map (·.1)):=JcM.mpr (.inl ⟨m,d,y,rfl⟩);rw [z] at this;cases this
 have:=sub_len N (lvs.map (·.1)) hc.nd (fun q c=>this q c);simp at this;ac_nf
theorem RSt.stops (hc:RC b Q N w M gs ms) (h:RSt b N w M gs lvs lds):∀ s∈stF ms lds (lvs.map (·.1)),FB 3000 1000 s.1/\∀ n∈s.2,n∈N/\n∉lvs.map (·.1):=by
 intro s j;rcases JcM.mp j with ⟨m,hm,hS,rfl⟩ | ⟨e,he,hl,rfl⟩
 ·have f:=(hc.ml m hm).2.1;refine ⟨⟨f.s1.mono ⋯,f.s2.mono ⋯,f.b1,f.g1⟩,fun n d=>?_⟩;rw [mem_singleton.mp d];exact ⟨hc.nm ▸ mem_map.mpr ⟨m,hm,rfl⟩,hS⟩
 ·obtain ⟨L,k⟩:=h.inv;obtain ⟨D,i⟩:=h.bt;obtain ⟨g,a,c⟩:=h.ok.bwd he;have f:=JgC hc k.s i (by have:=h.len hc;have:=hc.l12;ac_nf) a c;have z:=Jgk hc a c;refine ⟨?_,fun n d=>?_⟩
  ·refine FB.low (Jb8 f.b1 ∅) ?_ ?_
   ·show Mth.Sz 3000 (e.rest.1*1);rw [Int.mul_one];exact f.s1.mono ⋯
   ·exact (f.s2.mul z.2).mono ⋯
  ·have:=mem_filter.mp d;exact ⟨(hc.gw g a).1 n (c.pm.mem_iff.mp this.1),by simpa using this.2⟩
theorem RSt.first (hc:RC b Q N w M gs ms) (h:RSt b N w M gs lvs lds) (hlt:lvs.length<N.length) (hL:L∈(stF ms lds (lvs.map (·.1))).map (·.1)) (hmin:∀ s∈stF ms lds (lvs.map (·.1)),vl L<=vl s.1) (hnd:ns.Nodup) (hns:∀ n,n∈ns↔∃ s∈stF ms lds (lvs.map (·.1)),s.1=L/\n∈s.2) :
  ns≠[]/\(∀ n∈ns,n∈N/\n∉lvs.map (·.1))/\RInv N w M gs (lvs++ns.map fun n=>(n,L)) (vl L)/\∃ D,RMd b N w M gs L D (lvs.length+1) lvs lds:=by
 obtain ⟨L0,u⟩:=h.inv;obtain ⟨D,B⟩:=h.bt;have S:=h.stops hc;obtain ⟨s0,G,A⟩:=mem_map.mp hL;have U:FB 3000 1000 L:=A ▸ (S s0 G).1;have Z:=hc.wpos;have P:=fun (g:Gp) (c:g∈gs)=>(hc.gw g c).1;have X:∀ n∈N,n∉lvs.map (·.1)->vl L<=M n:=fun n f o=>by
  rw [<- hc.nm] at f;obtain ⟨m,j,rfl⟩:=mem_map.mp f;have:=hmin _ (JcM.mpr (.inl ⟨m,j,o,rfl⟩));rw [<- (hc.ml m j).1];exact this
 have K:∀ e g,g∈gs->LidOk w g lvs e->0<e.load->vl (divF e.rest (e.load,1))*sm (left lvs w) g.way=g.R-sm (used lvs w) g.way:=fun e g c d i=>by
  rw [JjT d.low.b1 (by show 1<=e.load;ac_nf) (Int.le_refl 1),Jf7, <- d.load, <- d.rest];exact Rat.div_mul_cancel (JaG ∅)
 have I:∀ g∈gs,0<sm (left lvs w) g.way->vl L*sm (left lvs w) g.way<=g.R-sm (used lvs w) g.way:=fun g c l=>by
  obtain ⟨e,E,d⟩:=h.ok.fwd c;have i:0<e.load:=by rw [<- d.load] at l;exact_mod_cast l
  have:=hmin _ (JcM.mpr (.inr ⟨e,E,i,rfl⟩));rw [<- K e g c d i];exact Rat.mul_le_mul_of_nonneg_right this (Rat.le_of_lt l)
 have key:∀ n,n∈ns↔n∈N/\n∉lvs.map (·.1)/\(M n=vl L\/∃ g∈gs,n∈g.way/\0<sm (left lvs w) g.way/\vl L*sm (left lvs w) g.way=g.R-sm (used lvs w) g.way):=fun n=>by
  rw [hns n];constructor
  ·rintro ⟨s,J,Y,T⟩;have H:=(S s J).2 n T;refine ⟨H.1,H.2,?_⟩;rcases JcM.mp J with ⟨m,j,o,rfl⟩ | ⟨e,E,i,rfl⟩
   ·left
    rw [mem_singleton.mp T, <- Y];exact (hc.ml m j).1.symm
   ·right
    obtain ⟨g,c,d⟩:=h.ok.bwd E;refine ⟨g,c,d.pm.mem_iff.mp (mem_filter.mp T).1,?_,?_⟩
    ·rw [<- d.load];exact_mod_cast i
    ·rw [<- Y];exact K e g c d i
  ·rintro ⟨f,o,e | ⟨g,c,hw,l,e⟩⟩
   ·rw [<- hc.nm] at f;obtain ⟨m,j,rfl⟩:=mem_map.mp f;exact ⟨_,JcM.mpr (.inl ⟨m,j,o,rfl⟩),(hc.ml m j).2.1.lo.inj U.lo ((hc.ml m j).1.trans e),by simp⟩
   ·obtain ⟨r,E,d⟩:=h.ok.fwd c;have i:0<r.load:=by rw [<- d.load] at l;exact_mod_cast l
    have j:((divF r.rest (r.load,1),(r.ws.map (·.1)).filter fun n=>decide (n∉lvs.map (·.1))):(Int × Int) × List Str)∈stF ms lds (lvs.map (·.1)):=JcM.mpr (.inr ⟨r,E,i,rfl⟩);refine ⟨_,j,(S _ j).1.lo.inj U.lo ?_,mem_filter.mpr ⟨d.pm.mem_iff.mpr hw,by simpa using o⟩⟩;have:=K r g c d i;rw [<- e] at this;have p':sm (left lvs w) g.way≠0:=fun z=>by rw [z] at l;exact absurd l ⋯
    show vl (divF r.rest (r.load,1))=vl L;grind
 have t:(∃ n∈N,n∉lvs.map (·.1)/\M n=vl L)\/∃ g∈gs,0<sm (left lvs w) g.way/\vl L*sm (left lvs w) g.way=g.R-sm (used lvs w) g.way/\∃ e:LidD,LidOk w g lvs e/\0<e.load/\L=divF e.rest (e.load,1):=by
  rcases JcM.mp G with ⟨m,j,o,rfl⟩ | ⟨e,E,i,rfl⟩
  ·exact .inl ⟨m.1,hc.nm ▸ mem_map.mpr ⟨m,j,rfl⟩,o,by rw [<- A];exact (hc.ml m j).1.symm⟩
  ·obtain ⟨g,c,d⟩:=h.ok.bwd E;refine .inr ⟨g,c,?_,by rw [<- A];exact K e g c d i,e,d,i,A.symm⟩;rw [<- d.load];exact_mod_cast i
 have C:vl L0<=vl L:=u.le (t.imp id fun ⟨g,c,V,W,_⟩=>⟨g,c,V,W⟩);have ne:ns≠[]:=fun z=>by
  rcases t with ⟨n,f,o,e⟩ | ⟨g,c,l,e,_⟩
  ·have:=(key n).mpr ⟨f,o, .inl e⟩;rw [z] at this;cases this
  ·have : ∃ n∈g.way,n∉lvs.map (·.1):=Classical.byContradiction fun y=>by
    rw [JcZ (a:=left lvs w) fun q hq=>if_pos (Classical.byContradiction fun v=>y ⟨q,hq,v⟩)] at l;exact absurd l ⋯
   obtain ⟨n,f,o⟩:=this;have:=(key n).mpr ⟨P g c n f,o, .inr ⟨g,c,f,l,e⟩⟩;rw [z] at this;cases this
 refine ⟨ne,fun n f=>⟨((key n).mp f).1,((key n).mp f).2.1⟩,u.round Z P hnd X I key C,?_⟩;have si:SInv N w gs lvs L:=by
  refine ⟨u.nd,u.sub,fun x O=>⟨(u.a x O).1,Rat.le_trans (u.a x O).2.1 C⟩,Rat.le_trans u.c0 C,fun g c=>?_⟩;by_cases p:0<sm (left lvs w) g.way
  ·exact I g c p
  ·have e0:sm (left lvs w) g.way=0:=by have:=sm_nn (Jd2 (lvs:=lvs) Z (P g c));grind
   have:=u.cc g c;rw [e0] at this ⊢;grind
 obtain ⟨k,k1,ks,F⟩:∃ k:Int,1<=k/\Mth.Sz 25 k/\Dv D (vl L/(b:Rat)*(k:Rat)):=by
  rcases t with ⟨n,f,o,e⟩ | ⟨g,c,l,e,r,d,i,eL⟩
  ·obtain ⟨k,F,V,W⟩:=hc.wt n f;refine ⟨k,V,W.mono ⋯,?_⟩;have:=B.dm n f;rw [e,F] at this;exact this
  ·refine ⟨r.load,by ac_nf,(Jgk hc c d).2,?_⟩;have h3:=JhP (B.dr g c) (fun n f=>by obtain ⟨k,F,_⟩:=hc.wt n (P g c n f);exact ⟨k,F⟩) B.dl u.nd;rw [<- e, <- d.load] at h3;have : vl L/(b:Rat)*(r.load:Rat)=vl L*(r.load:Rat)/(b:Rat):=by grind
   rw [this];exact h3
 refine ⟨D*k,si,h.ok,⟨Jb8 B.D1 k1,?_,fun x O=>(B.dl x O).more k,fun g c=>(B.dr g c).more k,fun n f=>(B.dm n f).more k⟩,by have:=hc.l12;ac_nf,F.over k1,U⟩;have:=B.sD.mul ks;rw [show 230+25*(lvs.length+1)=230+25*lvs.length+25 by ac_nf];exact this
theorem RMd.rest (hc:RC b Q N w M gs ms) (h:RMd b N w M gs L D k lvs lds):∀ e∈lds,FB 3000 1000 e.rest/\∀ x∈e.ws,Mth.Sz 64 x.2:=by
 intro e l;obtain ⟨g,i,c⟩:=h.ok.bwd l;have f:=JgC hc h.inv h.bt (by have:=h.k12;ac_nf) i c;refine ⟨⟨f.s1.mono ⋯,f.s2.mono ⋯,f.b1,f.g1⟩,fun x d=>?_⟩;have a:x.1∈N:=(hc.gw g i).1 _ (c.pm.mem_iff.mp (mem_map.mpr ⟨x,d,rfl⟩));obtain ⟨k,j,_,m⟩:=hc.wt _ a;have:=(c.wt x d).1;rw [j] at this;have : k=x.2:=by exact_mod_cast this
 rw [<- this];exact m.mono ⋯
theorem RMd.step (hc:RC b Q N w M gs ms) (h:RMd b N w M gs L D k lvs lds) {n:Str} (hn:n∈N) (hS:n∉lvs.map (·.1)):RMd b N w M gs L D k (lvs++[(n,L)]) (lds.map fun e=>e.settle n L):=by
 refine ⟨h.inv.step (fun g f=>(hc.gw g f).2.1) hn hS,⟨by rw [length_map];exact h.ok.1,fun i g e f j=>?_⟩,⟨h.bt.D1,h.bt.sD,fun x c=>?_,h.bt.dr,h.bt.dm⟩,h.k12,h.dL,h.fL⟩
 ·rw [List.getElem?_map] at j;obtain ⟨l,d,rfl⟩:=Option.map_eq_some_iff.mp j;exact (h.ok.2 i g l f d).settle h.inv.nd hS h.fL.lo fun x c=>(h.inv.a x c).2
 ·rcases mem_append.mp c with c | c
  ·exact h.bt.dl x c
  ·rw [mem_singleton.mp c];exact h.dL
theorem RMd.next (hc:RC b Q N w M gs ms) (h:RMd b N w M gs L D k (lvs++ns.map fun n=>(n,L)) lds) (hi:RInv N w M gs (lvs++ns.map fun n=>(n,L)) (vl L)) (hlo:∀ x∈lvs,Lo x.2) (hk:k<=lvs.length+ns.length):RSt b N w M gs (lvs++ns.map fun n=>(n,L)) lds:=by
 refine ⟨⟨L,hi⟩,h.ok,⟨D,h.bt.D1,h.bt.sD.mono (by simp;ac_nf),h.bt.dl,h.bt.dr,h.bt.dm⟩,fun x a=>?_⟩;rcases mem_append.mp a with a | a
 ·exact hlo x a
 ·obtain ⟨n,_,rfl⟩:=mem_map.mp a;exact h.fL.lo
end
theorem All2.put {α : Type} {P P' : α->V->Prop}:∀ {as:List α} {xs:List V} {j:Nat} {a' : α} {x:V},All2 P as xs->xs[j]?=some x->P' a' x->(∀ (i:Nat) a y,i≠j->as[i]?=some a->xs[i]?=some y->P a y->P' a y)->All2 P' (as.set j a') xs
 | [],xs,j,a',x,h,hx,_,_=>by
  have h:xs=[]:=h;subst h;cases hx
 | a::as,xs,0,a',x,h,hx,p,m=>by
  obtain ⟨y,r,rfl,h1,h2⟩:=h;have hx:y=x:=by simpa using hx
  subst hx;refine ⟨y,r,rfl,p,?_⟩;have go:∀ {as:List α} {r:List V},All2 P as r->(∀ (i:Nat) a y,as[i]?=some a->r[i]?=some y->P a y->P' a y)->All2 P' as r:=by
   intro as;induction as with
   | nil=>intro r h _;exact h
   | cons b bs ih=>
    intro r h m;obtain ⟨z,t,rfl,h1,h2⟩:=h;exact ⟨z,t,rfl,m 0 b z rfl rfl h1,ih h2 fun i a y ha hy=>m (i+1) a y (by simpa using ha) (by simpa using hy)⟩
  exact go h2 fun i a y ha hy=>m (i+1) a y ∅ (by simpa using ha) (by simpa using hy)
 | a::as,xs,j+1,a',x,h,hx,p,m=>by
  obtain ⟨y,r,rfl,h1,h2⟩:=h;refine ⟨y,r,rfl,m 0 a y ∅ rfl rfl h1,All2.put h2 (by simpa using hx) p fun i a y ne ha hy=>m (i+1) a y ∅ (by simpa using ha) (by simpa using hy)⟩
theorem Jkd {α : Type} {f : α->α} {ls:List α} {j:Nat}:((ls.take j).map f++ls.drop j)[j]?=ls[j]?:=by
 by_cases c:j<=ls.length
 ·have e:((ls.take j).map f).length=j:=by rw [length_map,length_take];ac_nf
  rw [List.getElem?_append_right ∅,e,List.getElem?_drop];simp
 ·have e:((ls.take j).map f++ls.drop j).length<=j:=by simp;ac_nf
  rw [List.getElem?_eq_none e,List.getElem?_eq_none ∅]
theorem JgW {α : Type} {f : α->α}:∀ {ls:List α} {j:Nat} {e : α},ls[j]?=some e->((ls.take j).map f++ls.drop j).set j (f e)=(ls.take (j+1)).map f++ls.drop (j+1)
 | [],j,e,h=>by simp at h
 | a::ls,0,e,h=>by
  have h:a=e:=by simpa using h
  subst h;simp
 | a::ls,j+1,e,h=>by
  have:=JgW (f:=f) (ls:=ls) (j:=j) (e:=e) (by simpa using h);simp only [List.take_succ_cons,map_cons,List.drop_succ_cons,cons_append,List.set_cons_succ,this]
theorem JiU {α : Type} {ns:List α} {i:Nat} {n : α} (h:ns.Nodup) (hn:ns[i]?=some n):n∉ns.take i:=by
 intro z;rw [<- List.take_append_drop i ns,nodup_append] at h;refine h.2.2 n z n (List.mem_of_getElem? (i:=0) ?_) rfl;rw [List.getElem?_drop];exact hn
theorem JiB {e:LidD} {n:Str} {L:Int × Int}:(e.settle n L).nm=e.nm:=by
 unfold LidD.settle;split <;> rfl
theorem JhA {ls:List LidD} {n:Str} {L:Int × Int}:(ls.map fun e=>e.settle n L).map (·.nm)=ls.map (·.nm):=by
 rw [map_map];exact List.map_congr_left fun e _=>JiB
structure ShD where
 nm:Str
 sl:Int × Int
 sp:Option Str
def wtF (ls:List PD) (n:Str):Rat:=((ls.find? fun p=>decide (p.nm=n)).map fun p=>(p.wt:Rat)).getD 0
def moF (ls:List PD) (n:Str):Rat:=((ls.find? fun p=>decide (p.nm=n)).map fun p=>vl p.mo/(p.wt:Rat)).getD 0
def gpF (es:List (GD × List Str)) (pl:Str->Int × Int):List Gp:=es.map fun e=>⟨vl (roomF pl e.1),e.2⟩
def gpB (b:Int) (es:List (GD × List Str)) (pl:Str->Int × Int):List Gp:=es.map fun e=>⟨vl (roomF pl e.1)*(b:Rat),e.2⟩
def stp (w f:Str->Rat) (pl:Str->Int × Int) (n:Str) (e:GD × List Str):Bool:=decide (n∈e.2)&&(decide (sm (fun q=>f q*w q) e.2=vl (roomF pl e.1))&&decide (∀ q∈e.2,f q<=f n))
structure ShRow (ls:List PD) (es:List (GD × List Str)) (pl:Str->Int × Int) (f:Str->Rat) (p:PD) (r:ShD):Prop where
 nm:r.nm=p.nm
 lo:Lo r.sl
 val:vl r.sl=f p.nm*(p.wt:Rat)
 sp:(r.sl=p.mo/\r.sp=none)\/(r.sl≠p.mo/\∃ e,es.find? (stp (wtF ls) f pl p.nm)=some e/\r.sp=some e.1.nm)
structure ShF (ls:List PD) (es:List (GD × List Str)) (pl:Str->Int × Int) (f:Str->Rat) (D:Int):Prop where
 sub:∀ e∈es,(∀ n∈e.2,n∈ls.map (·.nm))/\e.2.Nodup
 fair:Fair (ls.map (·.nm)) (wtF ls) (moF ls) (gpF es pl) f
 D1:1<=D
 sD:Mth.Sz 600 D
 dv:∀ n∈ls.map (·.nm),Dv D (f n)
structure ShR (ls:List PD) (es:List (GD × List Str)) (pl:Str->Int × Int) (rs:List ShD):Prop where
 len:rs.length=ls.length
 ex:∃ f D,ShF ls es pl f D/\∀ (i:Nat) p r,ls[i]?=some p->rs[i]?=some r->ShRow ls es pl f p r
theorem Jgh:∀ {ls:List PD} {p:PD},(ls.map (·.nm)).Nodup->p∈ls->ls.find? (fun q=>decide (q.nm=p.nm))=some p
 | [],_,_,h=>by cases h
 | a::ls,p,hn,h=>by
  rw [map_cons,nodup_cons] at hn;rw [List.find?_cons];rcases mem_cons.mp h with e | h
  ·subst e;simp
  ·have : a.nm≠p.nm:=fun z=>hn.1 (z ▸ mem_map.mpr ⟨p,h,rfl⟩);rw [decide_eq_false this];exact Jgh hn.2 h
section
variable {ls:List PD} {es:List (GD × List Str)} {pl:Str->Int × Int} {p:PD} {f f':Str->Rat} {rs rs':List ShD}
theorem JeU (hn:(ls.map (·.nm)).Nodup) (hp:p∈ls):wtF ls p.nm=(p.wt:Rat):=by
 unfold wtF;rw [Jgh hn hp];rfl
theorem Jd6 (hn:(ls.map (·.nm)).Nodup) (hp:p∈ls):moF ls p.nm=vl p.mo/(p.wt:Rat):=by
 unfold moF;rw [Jgh hn hp];rfl
theorem JkT (hn:(ls.map (·.nm)).Nodup) (hk:∀ p∈ls,1<=p.wt):∀ n∈ls.map (·.nm),0<wtF ls n:=fun n h=>by
 obtain ⟨p,a,rfl⟩:=mem_map.mp h;rw [JeU hn a];have:=hk p a;exact_mod_cast (show 0<p.wt by ac_nf)
theorem Je1 {g:Gp} (h:g∈gpF es pl):∃ e∈es,g=⟨vl (roomF pl e.1),e.2⟩:=by
 obtain ⟨e,a,rfl⟩:=mem_map.mp h;exact ⟨e,a,rfl⟩
theorem ShR.uniq (hn:(ls.map (·.nm)).Nodup) (hk:∀ p∈ls,1<=p.wt) (h:ShR ls es pl rs) (k:ShR ls es pl rs'):rs=rs':=by
 obtain ⟨Q,f,D,F,R⟩:=h;obtain ⟨Y,o,D',F',M⟩:=k;have I:=JkT hn hk;have E:∀ g∈gpF es pl, ∀ n∈g.way,n∈ls.map (·.nm):=fun g N=>by
  obtain ⟨e,P,rfl⟩:=Je1 N;exact (F.sub e P).1
 have e:=F.fair.uniq I E F'.fair;refine List.ext_getElem? fun i=>?_;by_cases c:i<ls.length
 ·have H:i<rs.length:=by ac_nf
  have L:i<rs'.length:=by ac_nf
  have u:=List.getElem?_eq_getElem c;have w:=List.getElem?_eq_getElem H;have z:=List.getElem?_eq_getElem L;have s:=R i _ _ u w;have r:=M i _ _ u z;rw [w,z];generalize ls[i]=p at *;generalize rs[i]=a at *;generalize rs'[i]=b at *;have v:p∈ls:=List.mem_of_getElem? u;have j:p.nm∈ls.map (·.nm):=mem_map.mpr ⟨p,v,rfl⟩;have d:a.sl=b.sl:=s.lo.inj r.lo (by rw [s.val,r.val,e _ j]);have C:es.find? (stp (wtF ls) f pl p.nm)=es.find? (stp (wtF ls) o pl p.nm):=by
   have K:∀ {t:List (GD × List Str)},(∀ x∈t,x∈es)->t.find? (stp (wtF ls) f pl p.nm)=t.find? (stp (wtF ls) o pl p.nm):=by
    intro t;induction t with
    | nil=>intro _;rfl
    | cons x t ih=>
     intro B;have : stp (wtF ls) f pl p.nm x=stp (wtF ls) o pl p.nm x:=by
      have l:=(F.sub x (B x (by simp))).1;have O:sm (fun q=>f q*wtF ls q) x.2=sm (fun q=>o q*wtF ls q) x.2:=Jbm fun q m=>by rw [e q (l q m)]
      have G:(∀ q∈x.2,f q<=f p.nm)↔∀ q∈x.2,o q<=o p.nm:=by
       constructor
       ·intro h q m;rw [<- e q (l q m), <- e _ j];exact h q m
       ·intro h q m;rw [e q (l q m),e _ j];exact h q m
      unfold stp;rw [O,decide_eq_decide.mpr G]
     rw [List.find?_cons,List.find?_cons,this,ih fun y J=>B y (by simp [J])]
   exact K fun _ h=>h
  have A:a.sp=b.sp:=by
   rcases s.sp with ⟨x1,x2⟩ | ⟨x1,e1,x2,x3⟩ <;> rcases r.sp with ⟨y1,y2⟩ | ⟨y1,e2,y2,y3⟩
   ·rw [x2,y2]
   ·exact absurd (d ▸ x1) y1
   ·exact absurd (d ▸ y1) x1
   ·rw [C,y2] at x2;cases x2;rw [x3,y3]
  have nm:a.nm=b.nm:=s.nm.trans r.nm.symm;obtain ⟨U,W,X⟩:=a;obtain ⟨T,V,S⟩:=b;simp only at nm d A;rw [nm,d,A]
 ·rw [List.getElem?_eq_none ∅,List.getElem?_eq_none ∅]
end
theorem Jjz:∀ (fs:List (Int × Int)) (k:Nat),(∀ a∈fs,1<=a.2/\Mth.Sz 12 a.2)->fs.length<=k->∃ D:Int,1<=D/\Mth.Sz (12*k+1) D/\∀ a∈fs,Dv D (vl a)
 | [],k,_,_=>⟨1,by decide,by unfold Mth.Sz;exact Nat.one_lt_two_pow ∅,fun a ha=>by cases ha⟩
 | a::fs,0,_,h=>by simp at h
 | a::fs,k+1,h,hl=>by
  obtain ⟨D,h1,h2,h3⟩:=Jjz fs k (fun x hx=>h x (by simp [hx])) (by simpa using hl);obtain ⟨a1,a2⟩:=h a (by simp);refine ⟨D*a.2,Jb8 h1 a1,?_,fun x hx=>?_⟩
  ·have:=h2.mul a2;rw [show 12*(k+1)+1=12*k+1+12 by ac_nf];exact this
  ·rcases mem_cons.mp hx with e | hx
   ·subst e;refine Dv.over a1 ?_;have : vl x*(x.2:Rat)=(x.1:Rat):=by
     unfold vl;exact Rat.div_mul_cancel (JaG a1)
    rw [this];exact Dv.int _
   ·exact (h3 x hx).more _
theorem Jev {a:Int × Int} (h:1<=a.2) (h0:0<=a.1):vl a<=(a.1:Rat):=by
 unfold vl;have p:(0:Rat)<(a.2:Rat):=by exact_mod_cast (show 0<a.2 by ac_nf)
 have e:(a.1:Rat)/(a.2:Rat)*(a.2:Rat)=(a.1:Rat):=Rat.div_mul_cancel (JaG h);have q:(a.1:Rat)<=(a.1:Rat)*(a.2:Rat):=by
  have : a.1<=a.1*a.2:=by
   have:=Int.mul_le_mul_of_nonneg_left h h0;ac_nf
  exact_mod_cast this
 rw [<- scaled p,e];exact q
theorem vl_nn {a:Int × Int} (h:1<=a.2):0<=vl a↔0<=a.1:=by
 unfold vl;have p:(0:Rat)<(a.2:Rat):=by exact_mod_cast (show 0<a.2 by ac_nf)
 have e:(a.1:Rat)/(a.2:Rat)*(a.2:Rat)=(a.1:Rat):=Rat.div_mul_cancel (JaG h);rw [<- scaled p,e,Rat.zero_mul];exact_mod_cast Iff.rfl
theorem JiG:∀ (ws:List (Str × Int)) (w:Str->Rat),(∀ x∈ws,w x.1=(x.2:Rat))->(((ws.map (·.2)).sum:Int):Rat)=sm w (ws.map (·.1))
 | [],_,_=>rfl
 | x::ws,w,h=>by
  have ih:=JiG ws w fun y hy=>h y (by simp [hy]);simp only [map_cons,List.sum_cons,sm,h x (by simp), <- ih];push_cast;rfl
section
variable {ls:List PD} {es:List (GD × List Str)} {pl:Str->Int × Int} {lds:List LidD} {ms lvs:List (Str × (Int × Int))} {b q0:Int}
theorem LSt.way {e:GD × List Str} {l:LidD} (h:LSt b ls pl e l):(∀ n∈e.2,n∈ls.map (·.nm))/\e.2.Nodup:=by
 refine ⟨fun n d=>?_,h.pm.nodup_iff.mp h.nd⟩;obtain ⟨x,a,rfl⟩:=mem_map.mp (h.pm.mem_iff.mpr d);obtain ⟨p,c,e,_⟩:=h.wt x a;exact mem_map.mpr ⟨p,c,e⟩
theorem JjK (hl:lds.length=es.length) (hls:∀ (i:Nat) e l,es[i]?=some e->lds[i]?=some l->LSt b ls pl e l):∀ e∈es,(∀ n∈e.2,n∈ls.map (·.nm))/\e.2.Nodup:=fun e c=>by
 obtain ⟨i,a⟩:=List.getElem?_of_mem c;have d:=(List.getElem?_eq_some_iff.mp a).1;exact (hls i e _ a (List.getElem?_eq_getElem ∅)).way
theorem Jjq (b1:1<=b) (sb:Mth.Sz 2000 b) (hc:SHC ls es pl) (hr:∀ e∈es,0<=vl (roomF pl e.1)) (hl:lds.length=es.length) (hls:∀ (i:Nat) e l,es[i]?=some e->lds[i]?=some l->LSt b ls pl e l) (hm:ms.length=ls.length) (hms:∀ (i:Nat) p m,ls[i]?=some p->ms[i]?=some m->MSt b p m):∃ q0,RC b q0 (ls.map (·.nm)) (wtF ls) (fun n=>moF ls n*(b:Rat)) (gpB b es pl) ms/\RSt b (ls.map (·.nm)) (wtF ls) (fun n=>moF ls n*(b:Rat)) (gpB b es pl) [] lds:=by
 have P:=JjK hl hls;have v:(0:Rat)<(b:Rat):=by exact_mod_cast (show 0<b by ac_nf)
 have Z:=JaG b1;have F:∀ m∈ms, ∃ p∈ls,MSt b p m:=fun m o=>by
  obtain ⟨i,L⟩:=List.getElem?_of_mem o;have Y:=(List.getElem?_eq_some_iff.mp L).1;exact ⟨ls[i]'∅,List.getElem_mem _,hms i _ m (List.getElem?_eq_getElem ∅) L⟩
 obtain ⟨B,W,V,G⟩:∃ B:Int,Mth.Sz 200 B/\0<=B/\∀ x,Mth.Sz 200 x->x<=B:=⟨2 ^ 200-1,by unfold Mth.Sz;decide,by decide,fun x k=>by unfold Mth.Sz at k;ac_nf⟩;have C:∀ g∈gpB b es pl, ∃ e∈es,g=⟨vl (roomF pl e.1)*(b:Rat),e.2⟩:=fun g C=>by
  obtain ⟨e,f,rfl⟩:=mem_map.mp C;exact ⟨e,f,rfl⟩
 have A:∀ p∈ls,1<=p.wt:=fun p d=>(hc.pok p d).w;have y:∀ p∈ls,0<=vl p.mo:=fun p d=>(vl_nn (hc.pb p d).2.b1).mpr (hc.pok p d).m0;have M0:∀ p∈ls,0<=moF ls p.nm/\moF ls p.nm<=vl p.mo:=fun p d=>by
  rw [Jd6 hc.nd d];have K:=A p d;have J:(0:Rat)<(p.wt:Rat):=by exact_mod_cast (show 0<p.wt by ac_nf)
  have e:vl p.mo/(p.wt:Rat)*(p.wt:Rat)=vl p.mo:=Rat.div_mul_cancel (JaG K);have N:=y p d;constructor
  ·rw [<- scaled J,e,Rat.zero_mul];exact N
  ·rw [<- scaled J,e];have : (1:Rat)<=(p.wt:Rat):=by exact_mod_cast K
   have:=Rat.mul_le_mul_of_nonneg_left this N;rw [Rat.mul_one] at this;exact this
 have top:∀ a:Int × Int,FB 200 12 a->0<=vl a->vl a<=(B:Rat):=fun a I T=>by
  refine Rat.le_trans (Jev I.b1 ((vl_nn I.b1).mp T)) ?_;exact_mod_cast G _ I.s1
 have t:((B*b:Int):Rat)=(B:Rat)*(b:Rat):=by push_cast;rfl
 have M:RC b (B*b) (ls.map (·.nm)) (wtF ls) (fun n=>moF ls n*(b:Rat)) (gpB b es pl) ms:=by
  refine ⟨b1,?_,hc.nd,by rw [length_map];exact hc.l12,fun n s=>?_,fun m o=>?_,fun g j=>?_,fun n s=>?_,(W.mul sb)⟩
  ·refine List.ext_getElem? fun i=>?_;rw [List.getElem?_map,List.getElem?_map];by_cases c:i<ls.length
   ·rw [List.getElem?_eq_getElem c,List.getElem?_eq_getElem (by ac_nf:i<ms.length)];exact congrArg some (hms i _ _ (List.getElem?_eq_getElem c) (List.getElem?_eq_getElem ∅)).nm
   ·rw [List.getElem?_eq_none ∅,List.getElem?_eq_none ∅];rfl
  ·obtain ⟨p,d,rfl⟩:=mem_map.mp s;exact ⟨p.wt,JeU hc.nd d,A p d,hc.wt p d⟩
  ·obtain ⟨p,d,h⟩:=F m o;refine ⟨?_,h.fb,?_⟩
   ·rw [h.vl,h.nm,Jd6 hc.nd d];grind
   ·rw [h.nm];exact Rat.mul_nonneg (M0 p d).1 (Rat.le_of_lt v)
  ·obtain ⟨e,f,rfl⟩:=C g j;refine ⟨(P e f).1,(P e f).2,Rat.mul_nonneg (hr e f) (Rat.le_of_lt v),?_⟩;rw [t];exact Rat.mul_le_mul_of_nonneg_right (top _ (hc.rb e f) (hr e f)) (Rat.le_of_lt v)
  ·obtain ⟨p,d,rfl⟩:=mem_map.mp s;rw [t];exact Rat.mul_le_mul_of_nonneg_right (Rat.le_trans (M0 p d).2 (top _ (hc.pb p d).2 (y p d))) (Rat.le_of_lt v)
 refine ⟨_,M,⟨(0,1),?_⟩,⟨by unfold gpB;rw [length_map];exact hl,fun i g l r H=>?_⟩,?_,fun x k=>by cases k⟩
 ·rw [JgK];refine RInv.start (fun n s=>?_) (fun g j=>(M.gw g j).2.2.1);obtain ⟨p,d,rfl⟩:=mem_map.mp s;exact Rat.mul_nonneg (M0 p d).1 (Rat.le_of_lt v)
 ·unfold gpB at r;rw [List.getElem?_map] at r;obtain ⟨e,f,rfl⟩:=Option.map_eq_some_iff.mp r;have h:=hls i e l f H;have u:∀ x∈l.ws,wtF ls x.1=(x.2:Rat)/\1<=x.2:=fun x k=>by
   obtain ⟨p,d,S,U⟩:=h.wt x k;rw [<- S, <- U];exact ⟨JeU hc.nd d,A p d⟩
  have R:sm (used [] (wtF ls)) e.2=0:=JcZ fun q _=>by
   unfold used;rw [Jcg (by simp),Rat.zero_mul]
  refine ⟨h.pm,h.nd,u,?_,?_,h.fb.lo,?_,(fun n _ E=>by cases E),fun ⟨n,_,E⟩=>by cases E⟩
  ·rw [h.rest];show _=_-sm (used [] (wtF ls)) e.2;rw [R];grind
  ·rw [h.load,JiG l.ws (wtF ls) fun x k=>(u x k).1,JkP h.pm];exact Jbm fun q _=>by unfold left;rw [if_neg (by simp)]
  ·rw [h.last];exact ⟨Int.le_refl 1,by unfold Mth.g;simp⟩
 ·obtain ⟨D,D1,Q,O⟩:=Jjz (ls.map (·.mo)++es.map fun e=>roomF pl e.1) 14 (fun a z=>by
   rcases mem_append.mp z with z | z
   ·obtain ⟨p,d,rfl⟩:=mem_map.mp z;exact ⟨(hc.pb p d).2.b1,(hc.pb p d).2.s2⟩
   ·obtain ⟨e,f,rfl⟩:=mem_map.mp z;exact ⟨(hc.rb e f).b1,(hc.rb e f).s2⟩) (by rw [length_append,length_map,length_map];exact hc.l14)
  refine ⟨D,D1,Q.mono (by simp),fun x k=>(by cases k),fun g j=>?_,fun n s=>?_⟩
  ·obtain ⟨e,f,rfl⟩:=C g j;show Dv D (vl (roomF pl e.1)*(b:Rat)/(b:Rat));rw [show vl (roomF pl e.1)*(b:Rat)/(b:Rat)=vl (roomF pl e.1) by grind];exact O _ (mem_append.mpr (.inr (mem_map.mpr ⟨e,f,rfl⟩)))
  ·obtain ⟨p,d,rfl⟩:=mem_map.mp s;rw [Jd6 hc.nd d,JeU hc.nd d];have X:=JaG (A p d);rw [show vl p.mo/(p.wt:Rat)*(b:Rat)/(b:Rat)*(p.wt:Rat)=vl p.mo by grind];exact O _ (mem_append.mpr (.inl (mem_map.mpr ⟨p,d,rfl⟩)))
end
theorem JfE {α β γ : Type} {P : α->Bool} {R : β->Bool} {f : α->γ} {g : β->γ}:∀ {as:List α} {bs:List β},as.length=bs.length->(∀ (i:Nat) a b,as[i]?=some a->bs[i]?=some b->P a=R b/\f a=g b)->(as.find? P).map f=(bs.find? R).map g
 | [],[],_,_=>rfl
 | [],b::bs,h,_=>by simp at h
 | a::as,[],h,_=>by simp at h
 | a::as,b::bs,h,k=>by
  obtain ⟨h1,h2⟩:=k 0 a b rfl rfl;have ih:=JfE (as:=as) (bs:=bs) (by simpa using h) fun i x y hx hy=>k (i+1) x y (by simpa using hx) (by simpa using hy);rw [List.find?_cons,List.find?_cons,h1];cases R b with
  | true=>exact congrArg some h2
  | false=>exact ih
theorem JiD {lv w:Str->Rat} {c:Rat}:∀ (l:List Str),sm (fun n=>lv n/c*w n) l=sm (fun n=>lv n*w n) l/c
 | []=>by simp only [sm];grind
 | n::l=>by
  simp only [sm,JiD l];grind
section
variable {ls:List PD} {es:List (GD × List Str)} {pl:Str->Int × Int} {lds:List LidD} {ms lvs:List (Str × (Int × Int))} {b q0:Int}
abbrev RCs (b q0:Int) (ls:List PD) (es:List (GD × List Str)) (pl:Str->Int × Int) (ms:List (Str × (Int × Int))):Prop:=RC b q0 (ls.map (·.nm)) (wtF ls) (fun n=>moF ls n*(b:Rat)) (gpB b es pl) ms
abbrev RSs (b:Int) (ls:List PD) (es:List (GD × List Str)) (pl:Str->Int × Int) (lvs:List (Str × (Int × Int))) (lds:List LidD):Prop:=RSt b (ls.map (·.nm)) (wtF ls) (fun n=>moF ls n*(b:Rat)) (gpB b es pl) lvs lds
def lvf (b:Int) (lvs:List (Str × (Int × Int))) (n:Str):Rat:=lvv lvs n/(b:Rat)
theorem JlE (rc:RCs b q0 ls es pl ms) (rs:RSs b ls es pl lvs lds) (hl:(ls.map (·.nm)).length<=lvs.length) {n:Str} (hn:n∈ls.map (·.nm)):∃ x∈lvs,x.1=n/\lvv lvs n=vl x.2:=by
 obtain ⟨x,a,e⟩:=mem_map.mp (rs.all rc hl n hn);obtain ⟨L,c⟩:=rs.inv;have e:x.1=n:=e;exact ⟨x,a,e,e ▸ Jd5 c.nd a⟩
theorem sh_at (rs:RSs b ls es pl lvs lds) {x:Str × (Int × Int)} (hx:x∈lvs):lvv lvs x.1=vl x.2:=by
 obtain ⟨L,a⟩:=rs.inv;exact Jd5 a.nd hx
theorem sh_lv (rc:RCs b q0 ls es pl ms) (rs:RSs b ls es pl lvs lds) {x:Str × (Int × Int)} (hx:x∈lvs):FB 2800 600 x.2:=by
 obtain ⟨L,f⟩:=rs.inv;obtain ⟨D,c⟩:=rs.bt;have e:=f.a x hx;have g:=rc.mq x.1 (f.sub _ (mem_map.mpr ⟨x,hx,rfl⟩));have d:=rs.lo x hx;have i:=rs.len rc;have h:=rc.l12;exact ((c.dl x hx).up rc.b1).fb (m:=2200) (n:=600) d.b1 d.g1 c.D1 (c.sD.mono ∅) e.1 (Rat.le_trans e.2.2 g) rc.sQ
theorem JiC (hw:∀ e∈es,(∀ n∈e.2,n∈ls.map (·.nm))/\e.2.Nodup) (rc:RCs b q0 ls es pl ms) (rs:RSs b ls es pl lvs lds) (hl:(ls.map (·.nm)).length<=lvs.length):∃ D,ShF ls es pl (lvf b lvs) D:=by
 obtain ⟨L,r⟩:=rs.inv;obtain ⟨D,i⟩:=rs.bt;have F:=r.fair rc.wpos (fun g c=>(rc.gw g c).1) (rs.all rc hl);have f:(0:Rat)<(b:Rat):=by have:=rc.b1;exact_mod_cast (show 0<b by ac_nf)
 have m:=JaG rc.b1;have e:∀ n,lvf b lvs n*(b:Rat)=lvv lvs n:=fun n=>Rat.div_mul_cancel m;have t:=rs.len rc;have p:=rc.l12;have k:∀ l,sm (fun n=>lvf b lvs n*wtF ls n) l*(b:Rat)=sm (fun n=>lvv lvs n*wtF ls n) l:=fun l=>by
  unfold lvf;rw [JiD,Rat.div_mul_cancel m]
 refine ⟨D,hw,⟨fun n a=>?_,fun n a=>?_,fun g c=>?_,fun n a=>?_⟩,i.D1,i.sD.mono ∅,fun n a=>?_⟩
 ·rw [<- scaled f,e,Rat.zero_mul];exact F.lo n a
 ·rw [<- scaled f,e];exact F.hi n a
 ·obtain ⟨x,d,rfl⟩:=Je1 c;rw [<- scaled f,k];exact F.fit ⟨vl (roomF pl x.1)*(b:Rat),x.2⟩ (mem_map.mpr ⟨x,d,rfl⟩)
 ·rcases F.stop n a with h | ⟨g,c,h1,j,h3⟩
  ·left
   have:=e n;rw [h] at this;grind
  ·right
   obtain ⟨x,d,rfl⟩:=mem_map.mp c;refine ⟨⟨vl (roomF pl x.1),x.2⟩,mem_map.mpr ⟨x,d,rfl⟩,h1,?_,fun q s=>?_⟩
   ·have j:sm (fun n=>lvv lvs n*wtF ls n) x.2=vl (roomF pl x.1)*(b:Rat):=j;rw [<- k] at j;show sm (fun n=>lvf b lvs n*wtF ls n) x.2=vl (roomF pl x.1);grind
   ·rw [<- scaled f,e,e];exact h3 q s
 ·obtain ⟨x,d,rfl,o⟩:=JlE rc rs hl a;unfold lvf;rw [o];exact i.dl x d
theorem Jkm (rc:RCs b q0 ls es pl ms) (rs:RSs b ls es pl lvs lds) (hl:(ls.map (·.nm)).length<=lvs.length) {i:Nat} {e:GD × List Str} {l:LidD} (he:es[i]?=some e) (hli:lds[i]?=some l) {x:Str × (Int × Int)} (hx:x∈lvs):((wtOf l.ws x.1).isSome&&(decide (l.rest=(0,1))&&decide (l.last=x.2)))=stp (wtF ls) (lvf b lvs) pl x.1 e:=by
 have a:=rs.ok.2 i ⟨vl (roomF pl e.1)*(b:Rat),e.2⟩ l (by unfold gpB;rw [List.getElem?_map,he];rfl) hli;have r:(0:Rat)<(b:Rat):=by have:=rc.b1;exact_mod_cast (show 0<b by ac_nf)
 have t:=JaG rc.b1;have d:∀ n,lvf b lvs n*(b:Rat)=lvv lvs n:=fun n=>Rat.div_mul_cancel t;have u:∀ l,sm (fun n=>lvf b lvs n*wtF ls n) l*(b:Rat)=sm (fun n=>lvv lvs n*wtF ls n) l:=fun l=>by
  unfold lvf;rw [JiD,Rat.div_mul_cancel t]
 have all:=rs.all rc hl;have p:=(rc.gw ⟨vl (roomF pl e.1)*(b:Rat),e.2⟩ (by unfold gpB;exact mem_map.mpr ⟨e,List.mem_of_getElem? he,rfl⟩)).1;have o:=rs.lo x hx;have f:=sh_at rs hx;unfold stp;have y:(wtOf l.ws x.1).isSome=decide (x.1∈e.2):=by
  by_cases c:x.1∈e.2
  ·rw [decide_eq_true c];cases h:wtOf l.ws x.1 with
   | none=>exact absurd (a.pm.mem_iff.mpr c) (JgL.mp h)
   | some k=>rfl
  ·rw [decide_eq_false c,JgL.mpr fun z=>c (a.pm.mem_iff.mp z)];rfl
 have A:decide (l.rest=(0,1))=decide (sm (fun q=>lvf b lvs q*wtF ls q) e.2=vl (roomF pl e.1)):=by
  refine decide_eq_decide.mpr ?_;have j:l.rest=(0,1)↔vl l.rest=0:=by
   rw [<- JgK];exact ⟨fun h=>by rw [h],fun h=>a.low.inj ⟨Int.le_refl 1,by unfold Mth.g;simp⟩ h⟩
  have m:vl l.rest=vl (roomF pl e.1)*(b:Rat)-sm (fun n=>lvv lvs n*wtF ls n) e.2:=a.rest;rw [j,m, <- u];constructor <;> intro h <;> grind
 rw [y,A];by_cases c:x.1∈e.2
 ·have w:decide (l.last=x.2)=decide (∀ q∈e.2,lvf b lvs q<=lvf b lvs x.1):=by
   refine decide_eq_decide.mpr ?_;have j:l.last=x.2↔vl l.last=lvv lvs x.1:=by
    rw [f];exact ⟨fun h=>by rw [h],fun h=>a.llow.inj o h⟩
   rw [j];constructor
   ·intro h q s;rw [<- scaled r,d,d, <- h];exact a.l1 q s (all q (p q s))
   ·intro h;obtain ⟨n,B,_,v⟩:=a.l2 ⟨x.1,c,all _ (p _ c)⟩;have m:=h n B;rw [<- scaled r,d,d,v] at m;have C:=a.l1 x.1 c (all _ (p _ c));grind
  rw [w]
 ·rw [decide_eq_false c];rfl
theorem JkM (hw:∀ e∈es,(∀ n∈e.2,n∈ls.map (·.nm))/\e.2.Nodup) (rc:RCs b q0 ls es pl ms) (rs:RSs b ls es pl lvs lds) (hl:(ls.map (·.nm)).length<=lvs.length) (hn:lds.map (·.nm)=es.map (·.1.nm)) {x:Str × (Int × Int)} (hx:x∈lvs) (hne:vl x.2≠moF ls x.1*(b:Rat)):∃ l e,lds.find? (fun l=>(wtOf l.ws x.1).isSome&&(decide (l.rest=(0,1))&&decide (l.last=x.2)))=some l/\es.find? (stp (wtF ls) (lvf b lvs) pl x.1)=some e/\l.nm=e.1.nm:=by
 have k:lds.length=es.length:=by simpa using congrArg List.length hn
 have m:=JfE (P:=fun l:LidD=>(wtOf l.ws x.1).isSome&&(decide (l.rest=(0,1))&&decide (l.last=x.2))) (R:=stp (wtF ls) (lvf b lvs) pl x.1) (f:=fun l:LidD=>l.nm) (g:=fun e:GD × List Str=>e.1.nm) k fun i l e c a=>⟨Jkm rc rs hl a c hx,by
  have:=congrArg (·[i]?) hn;simp only [List.getElem?_map,c,a] at this;exact Option.some.inj this⟩
 obtain ⟨D,F⟩:=JiC hw rc rs hl;obtain ⟨L,p⟩:=rs.inv;have d:=p.sub _ (mem_map.mpr ⟨x,hx,rfl⟩);have q:=JaG rc.b1;have o:∃ e∈es,stp (wtF ls) (lvf b lvs) pl x.1 e=true:=by
  rcases F.fair.stop x.1 d with h | ⟨g,hg,c,a,h3⟩
  ·refine absurd ?_ hne;rw [<- h, <- sh_at rs hx];exact (Rat.div_mul_cancel q).symm
  ·obtain ⟨e,j,rfl⟩:=Je1 hg;refine ⟨e,j,?_⟩;unfold stp;rw [decide_eq_true c,decide_eq_true a,decide_eq_true h3];rfl
 cases hf:es.find? (stp (wtF ls) (lvf b lvs) pl x.1) with
 | none=>
  obtain ⟨e,j,h⟩:=o;have:=List.find?_eq_none.mp hf e j;exact absurd h this
 | some e=>
  rw [hf] at m;obtain ⟨l,c,a⟩:=Option.map_eq_some_iff.mp m;exact ⟨l,e,c,rfl,a⟩
theorem JkO (hc:SHC ls es pl) (rc:RCs b q0 ls es pl ms) (rs:RSs b ls es pl lvs lds) {p:PD} (hp:p∈ls) {x:Str × (Int × Int)} (hx:x∈lvs) (e1:x.1=p.nm) (he:vl x.2=moF ls x.1*(b:Rat)):ShRow ls es pl (lvf b lvs) p ⟨p.nm,p.mo,none⟩:=by
 have c:=JaG rc.b1;have a:=JaG (hc.pok p hp).w;refine ⟨rfl,(hc.pb p hp).2.lo,?_, .inl ⟨rfl,rfl⟩⟩;show vl p.mo=_;unfold lvf;rw [<- e1,sh_at rs hx,he,e1,Jd6 hc.nd hp];grind
theorem JkN (hc:SHC ls es pl) (rc:RCs b q0 ls es pl ms) (rs:RSs b ls es pl lvs lds) {p:PD} (hp:p∈ls) {x:Str × (Int × Int)} (hx:x∈lvs) (e1:x.1=p.nm) (hne:vl x.2≠moF ls x.1*(b:Rat)) {t:Int × Int} (ht:LoInv (mulF x.2 (p.wt,1)) b t) {e:GD × List Str} (hf:es.find? (stp (wtF ls) (lvf b lvs) pl x.1)=some e):ShRow ls es pl (lvf b lvs) p ⟨p.nm,t,some e.1.nm⟩:=by
 have j:=JaG rc.b1;have i:=JaG (hc.pok p hp).w;have g:=rs.lo x hx;have h:=Je6 (a:=x.2) (c:=(p.wt,1)) g.b1 (Int.le_refl 1);have d:=ht.vl h.b1 rc.b1;rw [JjV g.b1 (Int.le_refl 1),Jf7] at d;have f:vl t=lvf b lvs p.nm*(p.wt:Rat):=by
  unfold lvf;rw [<- e1,sh_at rs hx,d];grind
 refine ⟨rfl,ht.lo,f, .inr ⟨fun z=>hne ?_,e,by rw [<- e1];exact hf,rfl⟩⟩;have z:t=p.mo:=z;rw [z] at d;rw [e1,Jd6 hc.nd hp,d];grind
end
structure GOQ (ls:List PD) (xs:List (SpD × List Str)) (e:GD × List Str):Prop where
 tok:TOk e.1.td
 con:Conn ls e.1.st e.1.en
 nm:NmOk xs e
 rb:FB 101 3 (roomF (spOf (xs.map (·.1))) e.1)
 r0:0<=vl (roomF (spOf (xs.map (·.1))) e.1)
 gb:(1<=e.1.lo.2/\Mth.Sz 70 e.1.lo.2)/\1<=e.1.hi.2/\Mth.Sz 70 e.1.hi.2
 f1:e.1.st∈(xs.map (·.1)).map (·.f)
 f2:e.1.en∈(xs.map (·.1)).map (·.f)
 sub:∀ n∈e.2,n∈ls.map (·.nm)
def rvl (rs:List ShD) (n:Str):Rat:=((rs.find? fun r=>decide (r.nm=n)).map fun r=>vl r.sl).getD 0
theorem JjJ:∀ {rs:List ShD} {r:ShD},(rs.map (·.nm)).Nodup->r∈rs->rvl rs r.nm=vl r.sl
 | [],_,_,h=>by cases h
 | a::rs,r,hn,h=>by
  rw [map_cons,nodup_cons] at hn;unfold rvl;rw [List.find?_cons];rcases mem_cons.mp h with e | h
  ·subst e;simp
  ·have : a.nm≠r.nm:=fun z=>hn.1 (z ▸ mem_map.mpr ⟨r,h,rfl⟩);rw [decide_eq_false this];exact JjJ hn.2 h
structure ShK (ks:List PD) (es:List (GD × List Str)) (pf:Str->Int × Int) (rs:List ShD):Prop where
 nm:rs.map (·.nm)=ks.map (·.nm)
 fb:∀ r∈rs,FB 800 600 r.sl
 bd:∀ (i:Nat) p r,ks[i]?=some p->rs[i]?=some r->0<=vl r.sl/\vl r.sl<=vl p.mo/\((∀ e∈es,p.nm∉e.2)->r.sl=p.mo)
 fit:∀ e∈es,sm (rvl rs) e.2<=vl (roomF pf e.1)
 par:∀ e∈es, ∀ (j:Nat) (u:Int × Int),Lo u->vl u=sm (rvl rs) (e.2.take j)->FB 800 600 u
theorem ShR.k {ks:List PD} {es:List (GD × List Str)} {pf:Str->Int × Int} {rs:List ShD} (hc:SHC ks es pf) (hm:∀ p∈ks,FB 100 6 p.mo) (h:ShR ks es pf rs):ShK ks es pf rs:=by
 obtain ⟨hl,f,D,F,R⟩:=h;have hn:rs.map (·.nm)=ks.map (·.nm):=by
  refine List.ext_getElem? fun i=>?_;rw [List.getElem?_map,List.getElem?_map];by_cases c:i<ks.length
  ·rw [List.getElem?_eq_getElem c,List.getElem?_eq_getElem (by ac_nf:i<rs.length)];exact congrArg some (R i _ _ (List.getElem?_eq_getElem c) (List.getElem?_eq_getElem ∅)).nm
  ·rw [List.getElem?_eq_none ∅,List.getElem?_eq_none ∅];rfl
 have V:(rs.map (·.nm)).Nodup:=hn ▸ hc.nd;have s:∀ (i:Nat) p r,ks[i]?=some p->rs[i]?=some r->0<=vl r.sl/\vl r.sl<=vl p.mo:=fun i p r o q=>by
  have d:=R i p r o q;have a:=List.mem_of_getElem? o;have t:p.nm∈ks.map (·.nm):=mem_map.mpr ⟨p,a,rfl⟩;have Q:=(hc.pok p a).w;have Z:(0:Rat)<(p.wt:Rat):=by exact_mod_cast (show 0<p.wt by ac_nf)
  have O:=F.fair.lo _ t;have S:=F.fair.hi _ t;rw [Jd6 hc.nd a] at S;have e:vl p.mo/(p.wt:Rat)*(p.wt:Rat)=vl p.mo:=Rat.div_mul_cancel (JaG Q);rw [d.val];exact ⟨Rat.mul_nonneg O (Rat.le_of_lt Z),by rw [<- e];exact Rat.mul_le_mul_of_nonneg_right S (Rat.le_of_lt Z)⟩
 have y:∀ n∈ks.map (·.nm), ∃ (i:Nat) (p:PD) (r:ShD),ks[i]?=some p/\rs[i]?=some r/\p.nm=n/\rvl rs n=vl r.sl/\rvl rs n=f n*wtF ks n:=fun n b=>by
  obtain ⟨p,o,rfl⟩:=mem_map.mp b;obtain ⟨i,A⟩:=List.getElem?_of_mem o;have li:=(List.getElem?_eq_some_iff.mp A).1;have q:=List.getElem?_eq_getElem (by ac_nf:i<rs.length);have d:=R i p _ A q;have e:=JjJ V (List.mem_of_getElem? q);rw [d.nm] at e;exact ⟨i,p,_,A,q,rfl,e,by rw [e,d.val,JeU hc.nd o]⟩
 have I:∀ n∈ks.map (·.nm),Dv D (rvl rs n):=fun n b=>by
  obtain ⟨i,p,r,o,q,e,E,G⟩:=y n b;have a:=List.mem_of_getElem? o;rw [G, <- e,JeU hc.nd a];exact (F.dv _ (e ▸ b)).mul _
 have nn:∀ n∈ks.map (·.nm),0<=rvl rs n:=fun n b=>by
  obtain ⟨i,p,r,o,q,e,E,G⟩:=y n b;rw [E];exact (s i p r o q).1
 have U:∀ l:List Str,(∀ n∈l,n∈ks.map (·.nm))->sm (rvl rs) l=sm (fun n=>f n*wtF ks n) l:=fun l J=>Jbm fun n b=>by
  obtain ⟨i,p,r,o,q,e,E,G⟩:=y n (J n b);exact G
 refine ⟨hn,fun r q=>?_,fun i p r o q=>⟨(s i p r o q).1,(s i p r o q).2,fun K=>?_⟩,fun e z=>?_,fun e z j u X M=>?_⟩
 ·obtain ⟨i,A⟩:=List.getElem?_of_mem q;have li:=(List.getElem?_eq_some_iff.mp A).1;have o:=List.getElem?_eq_getElem (by ac_nf:i<ks.length);have d:=R i _ r o A;have a:=List.mem_of_getElem? o;have Y:=s i _ r o A;generalize ks[i]=p at *;have H:=hm p a;have:=(F.dv p.nm (mem_map.mpr ⟨p,a,rfl⟩)).mul p.wt;rw [<- d.val] at this;have v:=this.fb (m:=100) (n:=600) d.lo.b1 d.lo.g1 F.D1 F.sD Y.1 (Rat.le_trans Y.2 (Jev H.b1 (hc.pok p a).m0)) H.s1;exact ⟨v.s1.mono ⋯,v.s2,v.b1,v.g1⟩
 ·have d:=R i p r o q;have a:=List.mem_of_getElem? o;have t:p.nm∈ks.map (·.nm):=mem_map.mpr ⟨p,a,rfl⟩;have Q:=(hc.pok p a).w;rcases F.fair.stop _ t with h | ⟨g,hg,h,_⟩
  ·refine d.lo.inj (hm p a).lo ?_;rw [d.val,h,Jd6 hc.nd a];exact Rat.div_mul_cancel (JaG Q)
  ·obtain ⟨e,z,rfl⟩:=Je1 hg;exact absurd h (K e z)
 ·rw [U e.2 (F.sub e z).1];exact F.fair.fit ⟨vl (roomF pf e.1),e.2⟩ (mem_map.mpr ⟨e,z,rfl⟩)
 ·have C:∀ n∈e.2.take j,n∈ks.map (·.nm):=fun n b=>(F.sub e z).1 n (List.mem_of_mem_take b);obtain ⟨B,hB,N,L⟩:∃ B:Int,Mth.Sz 100 B/\0<=B/\∀ x,Mth.Sz 100 x->x<=B:=⟨2 ^ 100-1,by unfold Mth.Sz;decide,by decide,fun x hx=>by unfold Mth.Sz at hx;ac_nf⟩;have P:(e.2.take j).length<=12:=by
   have O:=sub_len _ _ (F.sub e z).2 (F.sub e z).1;rw [length_map] at O;have S:=hc.l12;rw [length_take];ac_nf
  have dv:Dv D (vl u):=by
   rw [M];exact Dv.sm fun n b=>I n (C n b)
  have up:vl u<=((B*(12:Nat):Int):Rat):=by
   rw [M];refine JiE N (fun n b=>?_) P;obtain ⟨i,p,r,o,q,e',E,G⟩:=y n (C n b);have a:=List.mem_of_getElem? o;have H:=hm p a;rw [E];refine Rat.le_trans (Rat.le_trans (s i p r o q).2 (Jev H.b1 (hc.pok p a).m0)) ?_;exact_mod_cast L _ H.s1
  have T:0<=vl u:=by
   rw [M];exact sm_nn fun n b=>nn n (C n b)
  have W:Mth.Sz 4 ((12:Nat):Int):=.lit ⋯ ⋯;have v:=dv.fb (m:=100+4) (n:=600) X.b1 X.g1 F.D1 F.sD T up (hB.mul W);exact ⟨v.s1.mono ⋯,v.s2,v.b1,v.g1⟩
section
variable {a b c d B:TS} {D:Ends} {σ : St} {H:Hp}
end
structure Nxt (R:St->Hp->Prop) (b:TS) (D:Ends):Prop where
 go:∀ {σ : St} {H:Hp},b D σ H->R σ H
theorem Jfq {a b:TS} {D:Ends} {σ : St} {H:Hp} (h:∀ R,Nxt R b D->a { D with nx:=R } σ H):tSeq a b D σ H:=h _ ⟨fun z=>z⟩
end L2
open PySem L2
local macro_rules|`(tactic|rename_i $p:ident $h:ident $q:ident $H:ident $G:ident $S:ident $e:ident)=>`(tactic|(intro $p:ident $h:ident;generalize $q:ident:upd $H $p _=$G;have $S:ident:=newS $h $q;have $e:ident:=newE $q))
local macro_rules|`(tactic|bv_decide)=>`(tactic|exact ⟨rfl,rfl,rfl,by decide +kernel,rfl,by decide +kernel,by decide +kernel⟩)
local macro_rules|`(tactic|simpa! only [$xs,*])=>`(tactic|simp only [y4fy,y50y,y51y,y72y,y2by,y6dy,y80y,y81y,y47y,y2ey,y79y,y93y,y30y,y3cy,y73y,y2fy,y89y,y23y,y29y,y7ay,y75y,y2ay,y7by,y77y,y5by,y95y,y26y,y87y,y71y,y6ay,y4cy,y69y,y7ey,y33y,y4ay,y6fy,y4by,y70y,y49y,y6ey,y8ey,y65y,y61y,y90y,y92y,y8fy,y91y,y25y,y68y,y24y,true_and,if_true,if_false,Bool.not_true,Bool.not_false,Bool.false_eq_true,yby,ydy,yay,ycy,yey,y15y,y17y,y14y,y16y,y18y,y6y,y8y,y5y,y7y,y9y,y1y,y3y,y0y,y2y,y4y,y10y,y12y,yfy,y11y,y13y,y1ay,y1cy,y19y,y1by,y1dy,y1fy,y21y,y1ey,y20y,y22y,y7fy,y27y,V.int.injEq,V.str.injEq,List.set_cons_zero,List.set_cons_succ,List.getElem?_cons_zero,List.getElem?_cons_succ,Option.some.injEq,exists_eq_left,exists_eq_left',V.bl.injEq,Int.reduceToNat,Int.reducePow,append_nil,nil_append,cons_append,y57y,y59y,y2cy,y2dy,y6by,y60y,y76y,y66y,y67y,y3dy,y3ey,y3fy,y46y,y48y,y41y,y7cy,y42y,y34y,y36y,y3ay,y40y,y44y,y52y,y54y,y5cy,y38y,y8by,y88y,y37y,reduceCtorEq,decide_false,decide_true,$xs,*])
local macro_rules|`(tactic|infer_instance)=>`(tactic|simpa! only [y83y])
local macro_rules|`(tactic|contradiction)=>`(tactic|simpa! only [y83y,y4dy])
local macro_rules|`(tactic|ac_rfl)=>`(tactic|simpa! only [y83y,y84y])
local macro_rules|`(tactic|symm_saturate)=>`(tactic|((try simpa! only [y4dy,y84y]);repeat ((first | (with_reducible refine Jfq fun _ _=>?_) | (with_reducible refine Nxt.go (by assumption) ?_));(try simpa! only [y4dy,y84y]))))
local macro_rules|`(tactic|exfalso)=>`(tactic|((try simpa! only [y84y]);repeat ((first | (with_reducible refine Jfq fun _ _=>?_) | (with_reducible refine Nxt.go (by assumption) ?_));(try simpa! only [y84y]))))
local macro_rules|`(tactic|and_intros)=>`(tactic|((try simpa! only [y4dy]);repeat ((first | (with_reducible refine Jfq fun _ _=>?_) | (with_reducible refine Nxt.go (by assumption) ?_));(try simpa! only [y4dy]))))
local macro_rules|`(tactic|nofun)=>`(tactic|((try simpa! only [true_and]);repeat ((first | (with_reducible refine Jfq fun _ _=>?_) | (with_reducible refine Nxt.go (by assumption) ?_));(try simpa! only [true_and]))))
local macro_rules|`(tactic|simpa only [$xs,*])=>`(tactic|simpa! only [y83y, $xs,*])
namespace Prg
open PySem L2 Ch
variable {f:Addr} {fd:FuncData} {dV:Value}
def top (i:Nat):Stmt:=PySem.Challenge.pw_slackchain_k58_shares_as_ties.main.body.getD i (.Pass ⟨0,0,0,0⟩)
structure Adr where
 NoNumber:Addr
 Twice:Addr
 NoName:Addr
 NoPart:Addr
 NoGap:Addr
 InRing:Addr
 Apart:Addr
 Tie:Addr
 Just:Addr
 Between:Addr
 Part:Addr
 Gap:Addr
 Joints:Addr
 Thing:Addr
 Scale:Addr
 Lid:Addr
 SMALL_LETTERS:Value
 LONGEST_NAME:Value
 ZERO:Addr
structure TieC (K:W.Frag) (C:Addr):Prop where
 cls:Cls K C
 n1:JaK K C "name"
 n2:JaK K C "start"
 n3:JaK K C "end"
 n4:JaK K C "least"
 n5:JaK K C "greatest"
def IsTie (Ad:Adr) (C:Addr):Prop:=C=Ad.Just\/C=Ad.Between
def TieV (H:Hp) (v:V) (C:Addr) (n s e l g:V):Prop:=∃ p dx,v=.ref p/\H p=some (.ins C dx (tieF n s e l g))
structure PartC (K:W.Frag) (C:Addr):Prop where
 cls:Cls K C
 n1:JaK K C "name"
 n2:JaK K C "start"
 n3:JaK K C "end"
 n4:JaK K C "size"
 n5:JaK K C "most"
 n6:JaK K C "weight"
def IsPart (Ad:Adr) (C:Addr):Prop:=C=Ad.Part
structure GapC (K:W.Frag) (C:Addr):Prop where
 cls:Cls K C
 n1:JaK K C "name"
 n2:JaK K C "one"
 n3:JaK K C "other"
 n4:JaK K C "low"
 n5:JaK K C "high"
def IsGap (Ad:Adr) (C:Addr):Prop:=C=Ad.Gap
structure JjX (K:W.Frag) (C:Addr):Prop where
 cls:Cls K C
 n1:JaK K C "leads"
def Jc4 (Ad:Adr) (C:Addr):Prop:=C=Ad.Joints
structure JkV (K:W.Frag) (C:Addr):Prop where
 cls:Cls K C
 n1:JaK K C "parts_by_name"
 n2:JaK K C "gaps_by_name"
 n3:JaK K C "ways"
def Ja8 (Ad:Adr) (C:Addr):Prop:=C=Ad.Thing
structure JkU (K:W.Frag) (C:Addr):Prop where
 cls:Cls K C
 n1:JaK K C "bottom"
 n2:JaK K C "factors"
def Jdn (Ad:Adr) (C:Addr):Prop:=C=Ad.Scale
structure LidC (K:W.Frag) (C:Addr):Prop where
 cls:Cls K C
 n1:JaK K C "name"
 n2:JaK K C "rest"
 n3:JaK K C "weights"
 n4:JaK K C "load"
 n5:JaK K C "last_level"
def IsLid (Ad:Adr) (C:Addr):Prop:=C=Ad.Lid
theorem SqT.put {K:W.Frag} {H:Hp} {x a C dx:Addr} {fs fs':List (Str × V)} {xs:List V} (hx:H x=some (.ins C dx fs)) (h:SqT K H a xs):SqT K (upd H x (.ins C dx fs')) a xs:=by
 rcases h with (h | ⟨o,h⟩) | h
 ·exact .inl (.inl (by rw [Jag (ne_of h hx (by intro z;cases z))];exact h))
 ·exact .inl (.inr ⟨o,by rw [Jag (ne_of h hx (by intro z;cases z))];exact h⟩)
 ·exact .inr h
def partF (n s e z m w:V):List (Str × V):=[("name",n),("start",s),("end",e),("size",z),("most",m),("weight",w)]
def gapF (n s e l g:V):List (Str × V):=[("name",n),("one",s),("other",e),("low",l),("high",g)]
theorem TieV.same {H H':Hp} {v:V} {C:Addr} {n s e l g:V} (S:Same H H') (h:TieV H v C n s e l g):TieV H' v C n s e l g:=by
 obtain ⟨p,c,a,b⟩:=h;exact ⟨p,c,a,S _ _ b⟩
structure Txt (K:W.Frag) (mg:Str->Option Value) (Ad:Adr):Prop where
 BdU:mg "abs"=none
 Bao:mg "isinstance"=none
 BbI:mg "len"=none
 Bea:mg "int"=none
 Bd7:mg "bool"=none
 Bc8:mg "tuple"=none
 Beb:mg "str"=none
 BcD:mg "range"=none
 BdG:mg "list"=none
 Bec:mg "min"=none
 BdH:mg "sorted"=none
 Bed:mg "all"=none
 n_sum:mg "sum"=none
 n_dict:mg "dict"=none
 Bee:mg "zip"=none
 m_NoNumber:mg "NoNumber"=some (.ref Ad.NoNumber)
 BdK:mg "Twice"=some (.ref Ad.Twice)
 BdV:mg "NoName"=some (.ref Ad.NoName)
 BdW:mg "NoPart"=some (.ref Ad.NoPart)
 Bd1:mg "NoGap"=some (.ref Ad.NoGap)
 BdX:mg "InRing"=some (.ref Ad.InRing)
 Bd2:mg "Apart"=some (.ref Ad.Apart)
 m_Tie:mg "Tie"=some (.ref Ad.Tie)
 m_Just:mg "Just"=some (.ref Ad.Just)
 m_Between:mg "Between"=some (.ref Ad.Between)
 Beh:mg "Part"=some (.ref Ad.Part)
 Bei:mg "Gap"=some (.ref Ad.Gap)
 Bd8:mg "Joints"=some (.ref Ad.Joints)
 Bef:mg "Thing"=some (.ref Ad.Thing)
 Beg:mg "Scale"=some (.ref Ad.Scale)
 m_Lid:mg "Lid"=some (.ref Ad.Lid)
 BcE:mg "SMALL_LETTERS"=some Ad.SMALL_LETTERS
 BcF:RelV (.str "abcdefghijklmnopqrstuvwxyz") Ad.SMALL_LETTERS
 Bc1:mg "LONGEST_NAME"=some Ad.LONGEST_NAME
 Bc2:RelV (.int 8) Ad.LONGEST_NAME
 Bdu:mg "ZERO"=some (.ref Ad.ZERO)
 Bdv:RelV (.ref Ad.ZERO) (.ref Ad.ZERO)
 Bdw:∀ H:Hp,SqT K H Ad.ZERO [.int 0, .int 1]
 x_NoNumber:W.excIn K Ad.NoNumber [.type "ValueError", .type "Exception", .type "BaseException", .type "object"] "ValueError.__new__"=true
 Bcs:W.excIn K Ad.Twice [.type "ValueError", .type "Exception", .type "BaseException", .type "object"] "ValueError.__new__"=true
 Bcd:W.excIn K Ad.NoName [.type "ValueError", .type "Exception", .type "BaseException", .type "object"] "ValueError.__new__"=true
 Bce:W.excIn K Ad.NoPart [.type "ValueError", .type "Exception", .type "BaseException", .type "object"] "ValueError.__new__"=true
 BcG:W.excIn K Ad.NoGap [.type "ValueError", .type "Exception", .type "BaseException", .type "object"] "ValueError.__new__"=true
 Bcf:W.excIn K Ad.InRing [.type "ValueError", .type "Exception", .type "BaseException", .type "object"] "ValueError.__new__"=true
 BcH:W.excIn K Ad.Apart [.type "ValueError", .type "Exception", .type "BaseException", .type "object"] "ValueError.__new__"=true
 cl1_Just:W.plainGet K Ad.Just Str.empty=true
 cl2_Just:W.hasDictIn K Ad.Just=true
 cl3_Just:W.plainOver K Ad.Just=true
 cl4_Just:W.findIn K (.ref Ad.Just) "__setattr__"=some (some (.builtin "object.__setattr__"))
 na1_Just:W.findIn K (.ref Ad.Just) "name"=some none
 na2_Just:W.findIn K (.ref Ad.Just) "start"=some none
 na3_Just:W.findIn K (.ref Ad.Just) "end"=some none
 na4_Just:W.findIn K (.ref Ad.Just) "least"=some none
 na5_Just:W.findIn K (.ref Ad.Just) "greatest"=some none
 cl1_Between:W.plainGet K Ad.Between Str.empty=true
 cl2_Between:W.hasDictIn K Ad.Between=true
 cl3_Between:W.plainOver K Ad.Between=true
 cl4_Between:W.findIn K (.ref Ad.Between) "__setattr__"=some (some (.builtin "object.__setattr__"))
 na1_Between:W.findIn K (.ref Ad.Between) "name"=some none
 na2_Between:W.findIn K (.ref Ad.Between) "start"=some none
 na3_Between:W.findIn K (.ref Ad.Between) "end"=some none
 na4_Between:W.findIn K (.ref Ad.Between) "least"=some none
 na5_Between:W.findIn K (.ref Ad.Between) "greatest"=some none
 Bcg:W.plainGet K Ad.Part Str.empty=true
 Bch:W.hasDictIn K Ad.Part=true
 Bci:W.plainOver K Ad.Part=true
 Bcj:W.findIn K (.ref Ad.Part) "__setattr__"=some (some (.builtin "object.__setattr__"))
 Bck:W.findIn K (.ref Ad.Part) "name"=some none
 Bcl:W.findIn K (.ref Ad.Part) "start"=some none
 Bcm:W.findIn K (.ref Ad.Part) "end"=some none
 Bcn:W.findIn K (.ref Ad.Part) "size"=some none
 Bco:W.findIn K (.ref Ad.Part) "most"=some none
 Bcp:W.findIn K (.ref Ad.Part) "weight"=some none
 BcI:W.plainGet K Ad.Gap Str.empty=true
 BcJ:W.hasDictIn K Ad.Gap=true
 BcK:W.plainOver K Ad.Gap=true
 BcL:W.findIn K (.ref Ad.Gap) "__setattr__"=some (some (.builtin "object.__setattr__"))
 BcM:W.findIn K (.ref Ad.Gap) "name"=some none
 BcN:W.findIn K (.ref Ad.Gap) "one"=some none
 BcO:W.findIn K (.ref Ad.Gap) "other"=some none
 BcP:W.findIn K (.ref Ad.Gap) "low"=some none
 BcQ:W.findIn K (.ref Ad.Gap) "high"=some none
 Bbp:W.plainGet K Ad.Joints Str.empty=true
 Bbq:W.hasDictIn K Ad.Joints=true
 Bbr:W.plainOver K Ad.Joints=true
 Bbs:W.findIn K (.ref Ad.Joints) "__setattr__"=some (some (.builtin "object.__setattr__"))
 Bbt:W.findIn K (.ref Ad.Joints) "leads"=some none
 BbJ:W.plainGet K Ad.Thing Str.empty=true
 BbK:W.hasDictIn K Ad.Thing=true
 BbL:W.plainOver K Ad.Thing=true
 BbM:W.findIn K (.ref Ad.Thing) "__setattr__"=some (some (.builtin "object.__setattr__"))
 BbN:W.findIn K (.ref Ad.Thing) "parts_by_name"=some none
 BbO:W.findIn K (.ref Ad.Thing) "gaps_by_name"=some none
 BbP:W.findIn K (.ref Ad.Thing) "ways"=some none
 BbQ:W.plainGet K Ad.Scale Str.empty=true
 BbR:W.hasDictIn K Ad.Scale=true
 BbS:W.plainOver K Ad.Scale=true
 BbT:W.findIn K (.ref Ad.Scale) "__setattr__"=some (some (.builtin "object.__setattr__"))
 BbU:W.findIn K (.ref Ad.Scale) "bottom"=some none
 BbV:W.findIn K (.ref Ad.Scale) "factors"=some none
 cl1_Lid:W.plainGet K Ad.Lid Str.empty=true
 cl2_Lid:W.hasDictIn K Ad.Lid=true
 cl3_Lid:W.plainOver K Ad.Lid=true
 cl4_Lid:W.findIn K (.ref Ad.Lid) "__setattr__"=some (some (.builtin "object.__setattr__"))
 na1_Lid:W.findIn K (.ref Ad.Lid) "name"=some none
 na2_Lid:W.findIn K (.ref Ad.Lid) "rest"=some none
 na3_Lid:W.findIn K (.ref Ad.Lid) "weights"=some none
 na4_Lid:W.findIn K (.ref Ad.Lid) "load"=some none
 na5_Lid:W.findIn K (.ref Ad.Lid) "last_level"=some none
 tie:∀ C,IsTie Ad C->TieC K C
 Bc3:∀ C,IsPart Ad C->PartC K C
 BdL:∀ C,IsGap Ad C->GapC K C
 Bcq:∀ C,Jc4 Ad C->JjX K C
 Bbb:∀ C,Ja8 Ad C->JkV K C
 BcR:∀ C,Jdn Ad C->JkU K C
 c_Lid:∀ C,IsLid Ad C->LidC K C
def PEV (K:W.Frag) (H:Hp) (e:PD ⊕ D) (x:V):Prop:=match e with
 | .inl p=>PDV K H p x/\POk p
 | .inr c=>Rep K H c x/\szD c/\partB c=false
def GEV (K:W.Frag) (H:Hp) (e:GD ⊕ D) (x:V):Prop:=match e with
 | .inl g=>TV K H g.td x/\TOk g.td
 | .inr c=>Rep K H c x/\szD c/\gapB c=false
def POV (K:W.Frag) (Ad:Adr) (H:Hp) (p:PD) (v:V):Prop:=∃ q dx vz vm,v=.ref q/\H q=some (.ins Ad.Part dx (partF (.str p.nm) (.str p.st) (.str p.en) vz vm (.int p.wt)))/\FrV K H vz p.sz.1 p.sz.2/\FrV K H vm p.mo.1 p.mo.2
def GOV (K:W.Frag) (Ad:Adr) (H:Hp) (g:GD) (v:V):Prop:=∃ q dx vl vg,v=.ref q/\H q=some (.ins Ad.Gap dx (gapF (.str g.nm) (.str g.st) (.str g.en) vl vg))/\FrV K H vl g.lo.1 g.lo.2/\FrV K H vg g.hi.1 g.hi.2
section
variable {K:W.Frag} {Ad:Adr} {H H':Hp} {v x:V}
def isTI:HO->Bool
 | .ins _ _ _=>true
 | u=>isTF u
def SameI (H H':Hp):Prop:=∀ b u,isTI u=true->H b=some u->H' b=some u
theorem SameI.t (S:SameI H H'):SameT H H':=fun b u t h=>S b u (by cases u <;> first | exact t | (simp [isTF] at t)) h
theorem Same.i (S:Same H H'):SameI H H':=fun b u _ h=>S b u h
theorem PEV.same {e:PD ⊕ D} (S:Same H H') (h:PEV K H e x):PEV K H' e x:=by
 match e,h with
 | .inl t,h=>exact ⟨h.1.sameT S.t,h.2⟩
 | .inr c,h=>exact ⟨h.1.same S,h.2⟩
theorem GEV.same {e:GD ⊕ D} (S:Same H H') (h:GEV K H e x):GEV K H' e x:=by
 match e,h with
 | .inl t,h=>exact ⟨h.1.sameT S.t,h.2⟩
 | .inr c,h=>exact ⟨h.1.same S,h.2⟩
theorem POV.si {p:PD} (S:SameI H H'):POV K Ad H p v->POV K Ad H' p v:=by rintro ⟨q,d,e,b,f,a,g,c⟩;exact ⟨q,d,e,b,f,S _ _ rfl a,g.sameT S.t,c.sameT S.t⟩
theorem GOV.si {g:GD} (S:SameI H H'):GOV K Ad H g v->GOV K Ad H' g v:=by rintro ⟨q,d,e,b,f,a,h,c⟩;exact ⟨q,d,e,b,f,S _ _ rfl a,h.sameT S.t,c.sameT S.t⟩
end
def JK (Ad:Adr) (H0 H:Hp) (j d:Addr) (ls:List PD):Prop:=(∃ dx,H j=some (.ins Ad.Joints dx [("leads", .ref d)]))/\H0 d=none/\∃ kvs,H d=some (.dK kvs)/\kvs.length<=2*ls.length/\JD H0 H (JaA ls) kvs
theorem JK.same {Ad:Adr} {H0 H H':Hp} {j d:Addr} {ls:List PD} (S:Same H H'):JK Ad H0 H j d ls->JK Ad H0 H' j d ls:=fun ⟨⟨f,g⟩,b,a,h,e,c⟩=>⟨⟨f,S _ _ g⟩,b,a,S _ _ h,e,c.same S⟩
def TK (K:W.Frag) (Ad:Adr) (H:Hp) (x:Addr) (ls:List PD) (gs:List GD):Prop:=∃ dx d1 d2 d3 k1 k2 k3,H x=some (.ins Ad.Thing dx [("parts_by_name", .ref d1),("gaps_by_name", .ref d2),("ways", .ref d3)])/\H d1=some (.dK k1)/\BG (·.nm) (POV K Ad H) ls k1/\H d2=some (.dK k2)/\BG (·.nm) (GOV K Ad H) gs k2/\H d3=some (.dK k3)/\BG (·.nm) (WOV H ls) gs k3
theorem TK.same {K:W.Frag} {Ad:Adr} {H H':Hp} {x:Addr} {ls:List PD} {gs:List GD} (S:Same H H'):TK K Ad H x ls gs->TK K Ad H' x ls gs:=by rintro ⟨h,l,g,m,f,e,c,o,k,a,b,d,n,j⟩;exact ⟨h,l,g,m,f,e,c,S _ _ o,S _ _ k,a.mono fun _ _ z=>z.si (Same.i S),S _ _ b,d.mono fun _ _ z=>z.si (Same.i S),S _ _ n,j.mono fun _ _ z=>z.same S⟩
def SameJ (d:Addr) (H H':Hp):Prop:=∀ b u,b≠d->(∀ xs,u≠.lst xs)->H b=some u->H' b=some u
def SCK (Ad:Adr) (H:Hp) (x:Addr) (b:Int) (fs:List Int):Prop:=∃ dx fl,H x=some (.ins Ad.Scale dx [("bottom", .int b),("factors", .ref fl)])/\H fl=some (.lst (fs.map V.int))/\Scl b fs/\Mth.Sz 2000 b/\fs.length<=30
theorem SCK.same {Ad:Adr} {H H':Hp} {x:Addr} {b:Int} {fs:List Int} (S:Same H H'):SCK Ad H x b fs->SCK Ad H' x b fs:=by rintro ⟨c,e,d,a,f⟩;exact ⟨c,e,S _ _ d,S _ _ a,f⟩
def LDV (K:W.Frag) (Ad:Adr) (H:Hp) (e:LidD) (v:V):Prop:=∃ q dx vr vt wd,v=.ref q/\H q=some (.ins Ad.Lid dx [("name", .str e.nm),("rest",vr),("weights", .ref wd),("load", .int e.load),("last_level",vt)])/\FrV K H vr e.rest.1 e.rest.2/\FrV K H vt e.last.1 e.last.2/\H wd=some (.dK (wsK e.ws))
theorem LDV.same {K:W.Frag} {Ad:Adr} {H H':Hp} {e:LidD} {v:V} (S:Same H H'):LDV K Ad H e v->LDV K Ad H' e v:=by rintro ⟨q,f,h,b,i,g,a,j,d,c⟩;exact ⟨q,f,h,b,i,g,S _ _ a,j.same S,d.same S,S _ _ c⟩
theorem LDV.keep {K:W.Frag} {Ad:Adr} {H H':Hp} {e:LidD} {v:V} {q C dq:Addr} {fs:List (Str × V)} (S:∀ b u,b≠q->H b=some u->H' b=some u) (hq:H q=some (.ins C dq fs)) (hne:v≠.ref q):LDV K Ad H e v->LDV K Ad H' e v:=fun ⟨m,k,l,g,d,c,f,i,j,a⟩=>by
 have T:SameT H H':=fun b u t h=>S b u (fun z=>by rw [z,hq] at h;cases h;simp [isTF] at t) h;exact ⟨m,k,l,g,d,c,S _ _ (fun z=>hne (by rw [c,z])) f,i.sameT T,j.sameT T,S _ _ (fun z=>by rw [z,hq] at a;cases a) a⟩
theorem Same.cutN {H H':Hp} {d:Addr} (S:Same H H') (hd:H d=none):Same H (cut d H'):=fun b u h=>by
 rw [JbF (fun z=>by rw [z,hd] at h;cases h)];exact S b u h
theorem SameT.cutO {H:Hp} {d:Addr} {o:HO} (h:H d=some o) (ho:isTF o=false):SameT H (cut d H):=fun b u t a=>by
 rw [JbF (fun z=>by rw [z,h] at a;cases a;rw [ho] at t;cases t)];exact a
theorem LDV.notin {K:W.Frag} {Ad:Adr} {H:Hp} {es:List LidD} {xs:List V} {a:Addr} {u:HO} (hX:All2 (LDV K Ad H) es xs) (h:H a=some u) (hu:∀ dx fs,u≠.ins Ad.Lid dx fs):V.ref a∉xs:=fun z=>by
 obtain ⟨i,d⟩:=List.getElem?_of_mem z;obtain ⟨e,_,q,dx,j,f,g,b,c,_⟩:=hX.at_ d;have b:a=q:=by injection b
 rw [b,c] at h;exact hu _ _ (Option.some.inj h).symm
theorem LDV.dict {K:W.Frag} {Ad:Adr} {H H0 H':Hp} {e:LidD} {v:V} {d:Addr} {kv:List (Key × V)} (S:∀ b u,b≠d->H b=some u->H' b=some u) (hd:H d=some (.dK kv)) (hn:∀ wd,v=.ref wd->True) (h0:∀ q dx vr vt wd,H q=some (.ins Ad.Lid dx [("name", .str e.nm),("rest",vr),("weights", .ref wd),("load", .int e.load),("last_level",vt)])->v=.ref q->wd≠d):LDV K Ad H e v->LDV K Ad H' e v:=fun ⟨j,dx,vr,vt,wd,c,a,f,i,g⟩=>by
 have T:SameT H H':=fun b u t h=>S b u (fun z=>by rw [z,hd] at h;cases h;simp [isTF] at t) h;exact ⟨j,dx,vr,vt,wd,c,S _ _ (fun z=>by rw [z,hd] at a;cases a) a,f.sameT T,i.sameT T,S _ _ (h0 _ _ _ _ _ a c) g⟩
def ShV (K:W.Frag) (H:Hp) (r:ShD) (v:V):Prop:=∃ p vs t,v=.ref p/\SqT K H p [.str r.nm,vs, .ref t]/\FrV K H vs r.sl.1 r.sl.2/\SqT K H t (match r.sp with | none=>[.str (Str.ofString "most")] | some g=>[.str (Str.ofString "gap"), .str g])
theorem ShV.sameT {K:W.Frag} {H H':Hp} {r:ShD} {v:V} (S:SameT H H'):ShV K H r v->ShV K H' r v:=by rintro ⟨p,d,t,c,a,e,b⟩;exact ⟨p,d,t,c,a.sameT S,e.sameT S,b.sameT S⟩
def shD (r:ShD):D:=.tup [.str r.nm,frD r.sl, .tup (match r.sp with | none=>[.str (Str.ofString "most")] | some g=>[.str (Str.ofString "gap"), .str g])]
theorem ShV.rep {K:W.Frag} {H:Hp} {r:ShD} {v:V} (h:ShV K H r v):Rep K H (shD r) v:=by
 obtain ⟨p,d,t,rfl,c,b,a⟩:=h;have b:=FrV.rep b;cases e:r.sp with
 | none=>
  rw [e] at a;unfold shD;rw [e];simp only [Rep,RepL];exact ⟨p,_,rfl,c,_,_,rfl,rfl,_,_,rfl,by simpa only [Rep,RepL,frD] using b,_,_,rfl,⟨t,_,rfl,a,_,_,rfl,rfl,rfl⟩,rfl⟩
 | some g=>
  rw [e] at a;unfold shD;rw [e];simp only [Rep,RepL];exact ⟨p,_,rfl,c,_,_,rfl,rfl,_,_,rfl,by simpa only [Rep,RepL,frD] using b,_,_,rfl,⟨t,_,rfl,a,_,_,rfl,rfl,_,_,rfl,rfl,rfl⟩,rfl⟩
def SPN (K:W.Frag) (H:Hp) (s:SpD × List Str) (x:V):Prop:=SPV K H s.1 x
theorem SPN.sameT {K:W.Frag} {H H':Hp} {s:SpD × List Str} {x:V} (S:SameT H H') (h:SPN K H s x):SPN K H' s x:=SPV.sameT S h
def tiG (p:PD) (r:ShD):GD:=⟨p.nm,p.st,p.en,addF p.sz (negF r.sl),addF p.sz r.sl⟩
def tiL (ls:List PD) (rs:List ShD):List GD:=(ls.zip rs).map fun e=>tiG e.1 e.2
theorem JlG {n m:Nat} (h:n<m):seqIndex? (n:Int) m=some n:=by
 unfold seqIndex?;simp;ac_nf
theorem JkR (a c:Int × Int):addF a (negF c)=(Mth.top (a.1*c.2-c.1*a.2) (a.2*c.2),Mth.bot (a.1*c.2-c.1*a.2) (a.2*c.2)):=by
 unfold addF negF;dsimp only;rw [Int.neg_mul, <- Int.sub_eq_add_neg]
theorem ti_ok {p:PD} {r:ShD} (hp:POk p) (hb:FB 133 4 p.sz) (hr:FB 800 600 r.sl) (h0:0<=vl r.sl):tieB (tdD (tiG p r).td)=true/\szD (tdD (tiG p r).td):=by
 have a:=FB.add (n:=810) (m:=610) hb hr.neg ⋯ ⋯ ⋯;have b:=FB.add (n:=810) (m:=610) hb hr ⋯ ⋯ ⋯;have c:lessF (addF p.sz r.sl) (addF p.sz (negF r.sl))=false:=hi_lo hb hr hr (by grind);have e:eqD (.str p.st) (.str p.en)=false:=by simp only [eqD,beq_eq_false_iff_ne];exact hp.ne
 have g:=len8 hp.n1;have d:=len8 hp.n2;have f:=len8 hp.n3;generalize hx:addF p.sz (negF r.sl)=x at a c;generalize hy:addF p.sz r.sl=y at b c;have c:lessD (frD y) (frD x)=false:=c;unfold tiG;rw [hx,hy];refine ⟨?_,?_⟩
 ·simp [tdD,GD.td,bD,tieB,nameB,JcD,hp.n1,hp.n2,hp.n3,e,JdR,JcC,c];simp [frD,fracB,a.b1,a.g1,b.b1,b.g1]
 ·simp only [tdD,GD.td,bD,frD,szD,szL];exact ⟨by ac_nf,by ac_nf,by ac_nf,⟨a.s1.mono ⋯,a.s2.mono ⋯,trivial⟩,⟨b.s1.mono ⋯,b.s2.mono ⋯,trivial⟩,trivial⟩
section
variable {P:Program} {w:World} {K:W.Frag} {mg:Str->Option Value} {base:Heap} {Ad:Adr}
seal PE PA PS PSs PT PW PG PGs PI PO
abbrev Bah:Stmt:=top 13
theorem JaQ:Jan ["one","other","greater","lesser","rest"] ["one","other"] (Jae Bah):=by bv_decide
def Jaz  : Sp:=fun vs H Q E=>∃ (a b:Int),vs=[.int a, .int b]/\Q (.int (Mth.g a b)) H
theorem Jdv (F:FunD K "common_divisor" "common_divisor" Bah dV f fd) (T:Txt K mg Ad)  : FnOk P w K mg base (CX1 P w) 1 f fd ["one","other"] (Jaz):=by
 refine F.okn JaQ (by subst_eqs) (fun r A d s H p Q E o h=>?_)
 obtain ⟨a,b,rfl,h⟩:=h;have j:=o.units;refine ⟨_,(Jab (Jak (i:=2) JaQ.nd rfl (Or.inl rfl) (Jat Jc6 rfl T.BdU JgN (Jaa (pv 0) Jac)))
   (Jab (Jak (i:=3) JaQ.nd rfl (Or.inl rfl) (Jat Jc6 rfl T.BdU JgN (Jaa (pv 1) Jac)))
   (Jab (JdN PassesOwn.never (Jay (Jdb j) (pv 3) Jad (Jaw _))
   (Jab (Jak (i:=4) JaQ.nd rfl (Or.inl rfl) (pe_op JaC (pv 2) (pv 3)))
   (Jab (Jak (i:=2) JaQ.nd rfl (Or.inl rfl) (pv 3))
   (Jai (Jak (i:=3) JaQ.nd rfl (Or.inl rfl) (pv 4))))))
   (Jai (Jap (pv 2)))))),?_⟩
 clear j;show tSeq _ _ _ [some (.int a),some (.int b),none,none,none] H;try infer_instance
 refine ⟨fun m σ l=>∃ (x y:Int) (z:Option V),σ=[some (.int a),some (.int b),some (.int x),some (.int y),z]/\l=H/\0<=x/\0<=y/\Mth.g x y=Mth.g a b/\y.toNat=m,⟨_,_,_,none,rfl,rfl,Mth.Jjx a,Mth.Jjx b,Mth.Bd9 a b,rfl⟩,?_⟩;rintro m σ l ⟨x,y,z,rfl,rfl,t,n,k,rfl⟩;try infer_instance
 by_cases c:y=0
 ·subst c;rw [if_neg (by simp)];have e:Mth.g a b=x:=by rw [<- k,Mth.JjD];ac_nf
  rw [e] at h;exact h
 ·rw [if_pos (by simp [c])];have f:=Mth.fm (x:=x) (y:=y) ∅;exact ⟨_,fun _ _ q=>q,c,(x.fmod y).toNat,by ac_nf,y,x.fmod y,_,rfl,rfl,n,f.1,by rw [Mth.JhS ∅];exact k,rfl⟩
abbrev Bc4:Stmt:=top 14
theorem Jfo:Jan ["one","other","shared","top","rest"] ["one","other"] (Jae Bc4):=by bv_decide
def Jes (K:W.Frag):Sp:=fun vs H Q E=>∃ (x y:V) (a b c d:Int),vs=[x,y]/\FrV K H x a b/\FrV K H y c d/\Mth.Sz 4000 a/\Mth.Sz 4000 b/\Mth.Sz 4000 c/\Mth.Sz 4000 d/\1<=b/\1<=d/\Mth.g a b=1/\Mth.g c d=1/\∀ p H',Same H H'->H' p=some (.tup [.int (Mth.top (a*d+c*b) (b*d)), .int (Mth.bot (a*d+c*b) (b*d))])->Q (.ref p) H'
theorem Jkt (F:FunD K "plus" "plus" Bc4 dV f fd) (T:Txt K mg Ad) (Bac:Cal P w K mg base 1 "common_divisor" ["one","other"] [] (Jaz)):FnOk P w K mg base (CX1 P w) 2 f fd ["one","other"] (Jes K):=by
 refine F.okn Jfo (by subst_eqs) (fun W A m s H R Q E r h=>?_)
 obtain ⟨x,y,a,b,c,d,rfl,h⟩:=h;refine ⟨_,(Jab (Jak (i:=2) Jfo.nd rfl (Or.inl rfl) (Bac.ev r ⋯ rfl passF (Jaa (pe_ix ix_U (pv 0) Jad (fun _ _=>rfl)) (Jaa (pe_ix ix_U (pv 1) Jad (fun _ _=>rfl)) Jac)) (he:=by exact Jaf rfl)))
   (Jab (Jak (i:=3) Jfo.nd rfl (Or.inl rfl) (pe_op Ja6 (pe_op JaI (pe_ix ix_U (pv 0) Jad (fun _ _=>rfl)) (pe_op Jas (pe_ix ix_U (pv 1) Jad (fun _ _=>rfl)) (pv 2))) (pe_op JaI (pe_ix ix_U (pv 1) Jad (fun _ _=>rfl)) (pe_op Jas (pe_ix ix_U (pv 0) Jad (fun _ _=>rfl)) (pv 2)))))
   (Jab (Jak (i:=4) Jfo.nd rfl (Or.inl rfl) (Bac.ev r ⋯ rfl passF (Jaa (pv 3) (Jaa (pv 2) Jac)) (he:=by exact Jaf rfl)))
   (Jai (Jap (JaH (Jaa (pe_op Jas (pv 3) (pv 4)) (Jaa (pe_op JaI (pe_op Jas (pe_ix ix_U (pv 0) Jad (fun _ _=>rfl)) (pv 2)) (pe_op Jas (pe_ix ix_U (pv 1) Jad (fun _ _=>rfl)) (pv 4))) Jac)))))))),?_⟩
 obtain ⟨j,e,O,V,G,l,D,U,I,L,k⟩:=h;show tSeq _ _ _ [some x,some y,none,none,none] H;try infer_instance
 refine ixF1 j (ixF1 e ?_);try infer_instance
 refine ⟨_,_,rfl,?_⟩;try infer_instance
 have Z:=Mth.g_pos (a:=b) (b:=d) ∅;have J:=Mth.Jcy b d;have u:=Mth.JbG b d;have q:Mth.Sz 4000 (Mth.g b d):=Nat.lt_of_le_of_lt (by have:=Mth.g_le (a:=b) (b:=d) ∅;ac_nf:(Mth.g b d).natAbs<=d.natAbs) l;have o:DivOk (Mth.g b d):=divOk ∅ q;have v:=V.fdiv J ∅;have B:=l.fdiv u ∅;refine ixF0 j (ixF1 e ?_);try infer_instance
 refine ⟨o,mulOk O B,ixF0 e (ixF1 j ?_)⟩;try infer_instance
 refine ⟨o,mulOk G v,?_⟩;refine ⟨_,_,rfl,?_⟩;have n:=Mth.JkF D U I L (s:=Mth.g b d) rfl rfl rfl;generalize ht:a*d.fdiv (Mth.g b d)+c*b.fdiv (Mth.g b d)=t at n ⊢;have Y:=Mth.g_pos (a:=t) (b:=Mth.g b d) ∅;have C:=Mth.JbG t (Mth.g b d);have M:Mth.Sz 4000 (Mth.g t (Mth.g b d)):=Nat.lt_of_le_of_lt (by have:=Mth.g_le (a:=t) (b:=Mth.g b d) ∅;ac_nf:(Mth.g t (Mth.g b d)).natAbs<=(Mth.g b d).natAbs) q;have z:DivOk (Mth.g t (Mth.g b d)):=divOk ∅ M;try infer_instance
 refine ⟨z,ixF1 j ?_⟩;try infer_instance
 refine ⟨o,ixF1 e ?_⟩;try infer_instance
 refine ⟨z,mulOk v (l.fdiv (Int.dvd_trans C u) ∅),len2,?_⟩;refine Jdr fun p X S N=>k p X S ?_;rw [N,n.1,n.2]
abbrev Bct:Stmt:=top 15
theorem Jjo:Jan ["one","other"] ["one","other"] (Jae Bct):=by bv_decide
def JcT (K:W.Frag):Sp:=fun vs H Q E=>∃ (x y:V) (a b c d:Int),vs=[x,y]/\FrV K H x a b/\FrV K H y c d/\Mth.Sz 4000 a/\Mth.Sz 4000 b/\Mth.Sz 4000 c/\Mth.Sz 4000 d/\1<=b/\1<=d/\Mth.g a b=1/\Mth.g c d=1/\∀ p H',Same H H'->H' p=some (.tup [.int (Mth.top (a*d-c*b) (b*d)), .int (Mth.bot (a*d-c*b) (b*d))])->Q (.ref p) H'
theorem Ji7 (F:FunD K "minus" "minus" Bct dV f fd) (T:Txt K mg Ad) (Bcr:Cal P w K mg base 2 "plus" ["one","other"] [] (Jes K)):FnOk P w K mg base (CX1 P w) 3 f fd ["one","other"] (JcT K):=by
 refine F.okn Jjo (by subst_eqs) (fun I A e s H B Q E u h=>?_)
 obtain ⟨x,y,a,b,c,d,rfl,h⟩:=h;refine ⟨_,(Jai (Jap (Bcr.ev u ⋯ rfl passF (Jaa (pv 0) (Jaa (JaH (Jaa (pe_un JeT (pe_ix ix_U (pv 1) Jad (fun _ _=>rfl))) (Jaa (pe_ix ix_U (pv 1) Jad (fun _ _=>rfl)) Jac))) Jac)) (he:=by exact Jaf rfl)))),?_⟩;obtain ⟨J,g,z,D,n,i,m,C,o,r,k⟩:=h;show tRet _ _ [some x,some y] H;try infer_instance
 refine ixF0 g ?_;try infer_instance
 refine ixF1 g ?_;try infer_instance
 refine ⟨len2,?_⟩;rename_i p l G H M S t;refine ⟨_,_,a,b, -c,d,rfl,J.same S,FrV.of t,z,D,n.neg,i,m,C,o,by rw [Mth.g_neg];exact r,fun j v L q=>k j v (S.trans L) ?_⟩;rw [q,Int.neg_mul, <- Int.sub_eq_add_neg]
abbrev Bcu:Stmt:=top 16
theorem Jfp:Jan ["one","other","across","back"] ["one","other"] (Jae Bcu):=by bv_decide
def Jdm (K:W.Frag):Sp:=fun vs H Q E=>∃ (x y:V) (a b c d:Int),vs=[x,y]/\FrV K H x a b/\FrV K H y c d/\Mth.Sz 4000 a/\Mth.Sz 4000 b/\Mth.Sz 4000 c/\Mth.Sz 4000 d/\1<=b/\1<=d/\Mth.g a b=1/\Mth.g c d=1/\∀ p H',Same H H'->H' p=some (.tup [.int (Mth.top (a*c) (b*d)), .int (Mth.bot (a*c) (b*d))])->Q (.ref p) H'
theorem Ji9 (F:FunD K "times" "times" Bcu dV f fd) (T:Txt K mg Ad) (Bac:Cal P w K mg base 1 "common_divisor" ["one","other"] [] (Jaz)):FnOk P w K mg base (CX1 P w) 2 f fd ["one","other"] (Jdm K):=by
 refine F.okn Jfp (by subst_eqs) (fun U A l s H O Q E q h=>?_)
 obtain ⟨x,y,a,b,c,d,rfl,h⟩:=h;refine ⟨_,(Jab (Jak (i:=2) Jfp.nd rfl (Or.inl rfl) (Bac.ev q ⋯ rfl passF (Jaa (pe_ix ix_U (pv 0) Jad (fun _ _=>rfl)) (Jaa (pe_ix ix_U (pv 1) Jad (fun _ _=>rfl)) Jac)) (he:=by exact Jaf rfl)))
   (Jab (Jak (i:=3) Jfp.nd rfl (Or.inl rfl) (Bac.ev q ⋯ rfl passF (Jaa (pe_ix ix_U (pv 1) Jad (fun _ _=>rfl)) (Jaa (pe_ix ix_U (pv 0) Jad (fun _ _=>rfl)) Jac)) (he:=by exact Jaf rfl)))
   (Jai (Jap (JaH (Jaa (pe_op JaI (pe_op Jas (pe_ix ix_U (pv 0) Jad (fun _ _=>rfl)) (pv 2)) (pe_op Jas (pe_ix ix_U (pv 1) Jad (fun _ _=>rfl)) (pv 3))) (Jaa (pe_op JaI (pe_op Jas (pe_ix ix_U (pv 0) Jad (fun _ _=>rfl)) (pv 3)) (pe_op Jas (pe_ix ix_U (pv 1) Jad (fun _ _=>rfl)) (pv 2))) Jac))))))),?_⟩
 obtain ⟨j,e,M,t,D,m,C,R,G,J,k⟩:=h;show tSeq _ _ _ [some x,some y,none,none] H;try infer_instance
 refine ixF0 j (ixF1 e ?_);try infer_instance
 refine ⟨_,_,rfl,?_⟩;refine ixF0 e (ixF1 j ?_);try infer_instance
 refine ⟨_,_,rfl,?_⟩;try infer_instance
 have Y:=Mth.g_pos (a:=a) (b:=d) ∅;have X:=Mth.g_pos (a:=c) (b:=b) ∅;have N:=Mth.Jcy a d;have B:=Mth.JbG a d;have V:=Mth.Jcy c b;have z:=Mth.JbG c b;have I:Mth.Sz 4000 (Mth.g a d):=Nat.lt_of_le_of_lt (by have:=Mth.g_le (a:=a) (b:=d) ∅;ac_nf:(Mth.g a d).natAbs<=d.natAbs) m;have vl:Mth.Sz 4000 (Mth.g c b):=Nat.lt_of_le_of_lt (by have:=Mth.g_le (a:=c) (b:=b) ∅;ac_nf:(Mth.g c b).natAbs<=b.natAbs) t;have r:DivOk (Mth.g a d):=divOk ∅ I;have o:DivOk (Mth.g c b):=divOk ∅ vl;have n:=Mth.Jjr C R G J (u:=Mth.g a d) (v:=Mth.g c b) rfl rfl;refine ixF0 j ?_;try infer_instance
 refine ⟨r,ixF0 e ?_⟩;try infer_instance
 refine ⟨o,mulOk (M.fdiv N ∅) (D.fdiv V ∅),ixF1 j ?_⟩;try infer_instance
 refine ⟨o,ixF1 e ?_⟩;try infer_instance
 refine ⟨r,mulOk (t.fdiv z ∅) (m.fdiv B ∅),len2,?_⟩;refine Jdr fun p W S L=>k p W S ?_;rw [L,n.1,n.2]
abbrev Bc5:Stmt:=top 17
theorem JkK:Jan ["one","other"] ["one","other"] (Jae Bc5):=by bv_decide
def Jfr (K:W.Frag) (Ad:Adr):Sp:=fun vs H Q E=>∃ (x y:V) (a b c d:Int),vs=[x,y]/\FrV K H x a b/\FrV K H y c d/\Mth.Sz 4000 a/\Mth.Sz 4000 b/\Mth.Sz 4000 c/\Mth.Sz 4000 d/\1<=b/\1<=d/\Mth.g a b=1/\Mth.g c d=1/\(c=0->E (.ref Ad.NoNumber) none H)/\(c≠0->∀ p H',Same H H'->H' p=some (.tup [.int (Mth.top (a*d) (b*c)), .int (Mth.bot (a*d) (b*c))])->Q (.ref p) H')
theorem Jks (F:FunD K "over" "over" Bc5 dV f fd) (T:Txt K mg Ad) (Bbh:Cal P w K mg base 2 "times" ["one","other"] [] (Jdm K)):FnOk P w K mg base (CX1 P w) 3 f fd ["one","other"] (Jfr K Ad):=by
 refine F.okx JkK (fun R H Q E h=>?_) (fun U A m s H R Q E r h=>?_)
 ·obtain ⟨x,y,a,b,c,d,rfl,_⟩:=h;rfl
 obtain ⟨x,y,a,b,c,d,rfl,h⟩:=h;have C:=r.units;refine ⟨_,(Jab (ps_if (Jay (Jb9 C) (pe_ix ix_U (pv 1) Jad (fun _ _=>rfl)) Jad (Jaw _))
   (Jai (JbX PySem.F.excBase_ValueError T.x_NoNumber rfl T.m_NoNumber (Jaa JbM Jac)))
   Jav)
   (Jab (ps_if (Jay JfS (pe_ix ix_U (pv 1) Jad (fun _ _=>rfl)) Jad (Jaw _))
   (Jai (Jap (Bbh.ev r ⋯ rfl pass1 (Jaa (pv 0) (Jaa (JaH (Jaa (pe_un JeT (pe_ix ix_U (pv 1) Jad (fun _ _=>rfl))) (Jaa (pe_un JeT (pe_ix ix_U (pv 1) Jad (fun _ _=>rfl))) Jac))) Jac)) (he:=by exact Jaf rfl))))
   Jav)
   (Jai (Jap (Bbh.ev r ⋯ rfl pass1 (Jaa (pv 0) (Jaa (JaH (Jaa (pe_ix ix_U (pv 1) Jad (fun _ _=>rfl)) (Jaa (pe_ix ix_U (pv 1) Jad (fun _ _=>rfl)) Jac))) Jac)) (he:=by exact Jaf rfl)))))),?_⟩
 clear C;obtain ⟨N,g,L,M,G,B,D,W,I,J,O,k⟩:=h;show tSeq _ _ _ [some x,some y] H;try infer_instance
 refine ixF0 g ?_;try infer_instance
 by_cases i:c=0
 ·rw [if_pos (by simpa using i)];try infer_instance
  exact ⟨by decide,O i⟩
 ·rw [if_neg (by simpa using i)];refine ixF0 g ?_;try infer_instance
  by_cases n:c<0
  ·rw [if_pos (by simpa using n)];refine ixF1 g ?_;try infer_instance
   refine ixF0 g ?_;try infer_instance
   refine ⟨len2,?_⟩;rename_i p l v H V S q;refine ⟨_,_,a,b, -d, -c,rfl,N.same S,FrV.of q,L,M,B.neg,G.neg,D,by ac_nf,I,by rw [Mth.g_neg,Mth.Jk5,Mth.JjC];exact J,fun j u z o=>k i j u (S.trans z) ?_⟩;have e:=Mth.Jkp (t:=a*d) (b:=b*c) (Int.mul_neg_of_pos_of_neg ∅ n);rw [o,Int.mul_neg,Int.mul_neg,e.1,e.2]
  ·rw [if_neg (by simpa using n)];refine ixF1 g ?_;try infer_instance
   refine ixF0 g ?_;try infer_instance
   refine ⟨len2,?_⟩;rename_i p l v H V S q;exact ⟨_,_,a,b,d,c,rfl,N.same S,FrV.of q,L,M,B,G,D,by ac_nf,I,by rw [Mth.JjC];exact J,fun j u z o=>k i j u (S.trans z) o⟩
abbrev Bcv:Stmt:=top 18
theorem Jjp:Jan ["one","other"] ["one","other"] (Jae Bcv):=by bv_decide
def Jcu (K:W.Frag):Sp:=fun vs H Q E=>∃ (x y:V) (a b c d:Int),vs=[x,y]/\FrV K H x a b/\FrV K H y c d/\Mth.Sz 4000 a/\Mth.Sz 4000 b/\Mth.Sz 4000 c/\Mth.Sz 4000 d/\Q (.bl (decide (a*d<c*b))) H
theorem Jja (F:FunD K "under" "under" Bcv dV f fd) (T:Txt K mg Ad)  : FnOk P w K mg base (CX1 P w) 1 f fd ["one","other"] (Jcu K):=by
 refine F.okn Jjp (by subst_eqs) (fun p A e s H n Q E q h=>?_)
 obtain ⟨x,y,a,b,c,d,rfl,h⟩:=h;refine ⟨_,(Jai (Jap (Jbu JfS (pe_op JaI (pe_ix ix_U (pv 0) Jad (fun _ _=>rfl)) (pe_ix ix_U (pv 1) Jad (fun _ _=>rfl))) (pe_op JaI (pe_ix ix_U (pv 1) Jad (fun _ _=>rfl)) (pe_ix ix_U (pv 0) Jad (fun _ _=>rfl))) (Jaw _)))),?_⟩;obtain ⟨i,g,m,o,l,j,k⟩:=h;show tRet _ _ [some x,some y] H;try infer_instance
 refine ixF0 i (ixF1 g ?_);try infer_instance
 refine ⟨mulOk m j,ixF0 g (ixF1 i ?_)⟩;try infer_instance
 exact ⟨mulOk l o,k⟩
abbrev Bbu:Stmt:=top 24
theorem Jhw:Jan ["thing"] ["thing"] (Jae Bbu):=by bv_decide
def Jcb (K:W.Frag):Sp:=fun vs H Q E=>∃ (x:V) (d:D),vs=[x]/\Rep K H d x/\szD d/\∀ H',Same H H'->Q (.bl (nameB d)) H'
theorem Jhn (F:FunD K "is_name" "is_name" Bbu dV f fd) (T:Txt K mg Ad)  : FnOk P w K mg base (CX1 P w) 1 f fd ["thing"] (Jcb K):=by
 refine F.okn Jhw (by subst_eqs) (fun G A a s H D Q E N h=>?_)
 obtain ⟨x,d,rfl,h⟩:=h;refine ⟨_,(Jab (ps_if (Jbt (Ja9 (Jat JaE rfl T.Bao JaX (Jaa (pv 0) (Jaa (JcH (v:=.ty "str") rfl T.Beb JkZ rfl) Jac)))))
   (Jai (Jap pe_bl))
   Jav)
   (Jab (ps_if (PW.pt (pw_or (Jay JfS (Jat Ja5 rfl T.BbI Jbr (Jaa (pv 0) Jac)) Jad (Jaw _)) (JcB (Jay Jg0 (Jat Ja5 rfl T.BbI Jbr (Jaa (pv 0) Jac)) (JcW (v:=.int 8) rfl T.Bc1 T.Bc2) (Jaw _)))))
   (Jai (Jap pe_bl))
   Jav)
   (Jai (Jap (Jat (JhE rfl) rfl T.Bed JkW (Jaa (Jeg (own:=["sign"]) (cs:=[]) (cl:=[]) rfl (Jlu (pv 0)) (fun _ _ _ _=>(Jar (i:=0) (show [("sign" : Str)].Nodup by decide) rfl (Or.inl rfl))) (fun _ _ _ _=>(Jbu (Jln (K:=K) rfl) (pv 0) (JcW (v:=.str "abcdefghijklmnopqrstuvwxyz") rfl T.BcE T.BcF) (by with_unfolding_all rfl))) rfl ⋯ rfl ⋯ hcl0 (hhas0 ⋯) hcs0) Jac)))))),?_⟩
 obtain ⟨l,q,k⟩:=h;show tSeq _ _ _ [some x] H;try infer_instance
 refine ⟨_,l.tyN,?_⟩;by_cases b:∃ z,d=.str z
 ·obtain ⟨z,rfl⟩:=b;simp only [Rep] at l;subst l;simp only [szD] at q;simpa only [tyD];have o:z.length<=sizeLine:=Nat.le_trans q ⋯;simp only [nameB,nameS] at k;refine ⟨o,?_⟩;try infer_instance
  by_cases J:z.length<1
  ·rw [if_pos (by simp;ac_nf)];have e:decide (1<=z.length)=false:=by simp;ac_nf
   rw [e] at k;exact k H (.refl H)
  ·rw [if_neg (by simp;ac_nf)];have e:decide (1<=z.length)=true:=by simp;ac_nf
   rw [e] at k;refine ⟨o,?_⟩;try infer_instance
   by_cases O:8<z.length
   ·rw [if_pos (by simp;ac_nf)];have e:decide (z.length<=8)=false:=by simp;ac_nf
    rw [e] at k;exact k H (.refl H)
   ·rw [if_neg (by simp;ac_nf)];have e:decide (z.length<=8)=true:=by simp;ac_nf
    rw [e] at k;try infer_instance
    simpa only [tComp,iStr];refine ⟨fun i m t g=>g=H/\i<=z.cps.size/\m=z.cps.size-i/\t=(z.cps.toList.take i).map fun c=>V.bl (lowB c),⟨_,rfl,Nat.zero_le _,rfl,by simp⟩,?_⟩;rintro i m t g ⟨rfl,M,rfl,rfl⟩;have U:z.cps.size=z.length:=rfl;refine ⟨by simp;ac_nf,?_⟩;by_cases n:i<z.cps.size
    ·refine .inr ⟨n,?_⟩;rintro x u ⟨rfl,c,I,rfl⟩;simpa only [length_singleton,List.replicate,JaF,map_nil,y5dy,Jhh];refine ⟨_,Nat.sub_lt_sub_left n (Nat.lt_succ_self i),n,rfl,?_⟩;have j:z.cps.toList[i]?=some c:=by simpa using I
     rw [take_succ,j];simp
    ·have r:i=z.cps.size:=by ac_nf
     refine .inl ⟨r,?_⟩;subst r;rw [take_of_length_le (by simp)];rename_i p L R g u S B;refine ⟨p,z.cps.toList.map lowB,rfl,SqL.of (by rw [B,map_map];rfl),?_⟩;have:=k u S;simpa [List.all_map] using this
 ·have C:nameB d=false:=by cases d <;> first | rfl | exact absurd ⟨_,rfl⟩ b
  rw [C] at k;have y:isiB (tyD d) "str"=false:=by cases d <;> first | rfl | exact absurd ⟨_,rfl⟩ b
  simpa only [y];exact k H (.refl H)
abbrev Ba3:Stmt:=top 25
theorem JgE:Jan ["thing"] ["thing"] (Jae Ba3):=by bv_decide
def Jcn (K:W.Frag):Sp:=fun vs H Q E=>∃ (x:V) (d:D),vs=[x]/\Rep K H d x/\Q (.bl (Jcd d)) H
theorem Jgp (F:FunD K "is_whole" "is_whole" Ba3 dV f fd) (T:Txt K mg Ad)  : FnOk P w K mg base (CX1 P w) 1 f fd ["thing"] (Jcn K):=by
 refine F.okn JgE (by subst_eqs) (fun g A b s H e Q E i h=>?_)
 obtain ⟨x,d,rfl,h⟩:=h;refine ⟨_,(Jai (Jap (JcA (Jat JaE rfl T.Bao JaX (Jaa (pv 0) (Jaa (JcH (v:=.ty "int") rfl T.Bea JkX rfl) Jac))) (Jdf (Jin (Jat JaE rfl T.Bao JaX (Jaa (pv 0) (Jaa (JcH (v:=.ty "bool") rfl T.Bd7 Jj3 rfl) Jac)))))))),?_⟩;obtain ⟨c,k⟩:=h;show tRet _ _ [some x] H;try infer_instance
 refine ⟨_,c.tyN,?_⟩;have a:=c.tyN;cases d <;> simp only [tyD,Jcd,y83y,y4fy,y50y,y51y,y72y,y2by,y6dy,y80y,y81y,y47y,y2ey,y79y,y93y,y30y,y3cy,y73y,y2fy,y89y,y23y,y29y,y7ay,y75y,y2ay,y7by,y77y,y5by,y95y,y26y,y87y,y71y,y6ay,y4cy,y69y,y7ey,y33y,y4ay,y6fy,y4by,y70y,y49y,y6ey,y8ey,y65y,y61y,y90y,y92y,y8fy,y91y,y25y,y68y,y24y,true_and,if_true,if_false,Bool.not_true,Bool.not_false,Bool.false_eq_true,yby,ydy,yay,ycy,yey,y15y,y17y,y14y,y16y,y18y,y6y,y8y,y5y,y7y,y9y,y1y,y3y,y0y,y2y,y4y,y10y,y12y,yfy,y11y,y13y,y1ay,y1cy,y19y,y1by,y1dy,y1fy,y21y,y1ey,y20y,y22y,y7fy,y27y,V.int.injEq,V.str.injEq,List.set_cons_zero,List.set_cons_succ,List.getElem?_cons_zero,List.getElem?_cons_succ,Option.some.injEq,exists_eq_left,exists_eq_left',V.bl.injEq,Int.reduceToNat,Int.reducePow,append_nil,nil_append,cons_append,y57y,y59y,y2cy,y2dy,y6by,y60y,y76y,y66y,y67y,y3dy,y3ey,y3fy,y46y,y48y,y41y,y7cy,y42y,y34y,y36y,y3ay,y40y,y44y,y52y,y54y,y5cy,y38y,y8by,y88y,y37y,reduceCtorEq,decide_false,decide_true] at k a ⊢ <;> first | exact k | exact ⟨_,a,by simpa only [y83y,y4fy,y50y,y51y,y72y,y2by,y6dy,y80y,y81y,y47y,y2ey,y79y,y93y,y30y,y3cy,y73y,y2fy,y89y,y23y,y29y,y7ay,y75y,y2ay,y7by,y77y,y5by,y95y,y26y,y87y,y71y,y6ay,y4cy,y69y,y7ey,y33y,y4ay,y6fy,y4by,y70y,y49y,y6ey,y8ey,y65y,y61y,y90y,y92y,y8fy,y91y,y25y,y68y,y24y,true_and,if_true,if_false,Bool.not_true,Bool.not_false,Bool.false_eq_true,yby,ydy,yay,ycy,yey,y15y,y17y,y14y,y16y,y18y,y6y,y8y,y5y,y7y,y9y,y1y,y3y,y0y,y2y,y4y,y10y,y12y,yfy,y11y,y13y,y1ay,y1cy,y19y,y1by,y1dy,y1fy,y21y,y1ey,y20y,y22y,y7fy,y27y,V.int.injEq,V.str.injEq,List.set_cons_zero,List.set_cons_succ,List.getElem?_cons_zero,List.getElem?_cons_succ,Option.some.injEq,exists_eq_left,exists_eq_left',V.bl.injEq,Int.reduceToNat,Int.reducePow,append_nil,nil_append,cons_append,y57y,y59y,y2cy,y2dy,y6by,y60y,y76y,y66y,y67y,y3dy,y3ey,y3fy,y46y,y48y,y41y,y7cy,y42y,y34y,y36y,y3ay,y40y,y44y,y52y,y54y,y5cy,y38y,y8by,y88y,y37y,reduceCtorEq,decide_false,decide_true] using k⟩
abbrev BaA:Stmt:=top 26
theorem JeG:Jan ["thing"] ["thing"] (Jae BaA):=by bv_decide
def JbC (K:W.Frag):Sp:=fun vs H Q E=>∃ (x:V) (d:D),vs=[x]/\Rep K H d x/\Q (.bl (fracB d)) H
theorem JeC (F:FunD K "is_fraction" "is_fraction" BaA dV f fd) (T:Txt K mg Ad) (BaT:Cal P w K mg base 1 "is_whole" ["thing"] [] (Jcn K)) (Bac:Cal P w K mg base 1 "common_divisor" ["one","other"] [] (Jaz)):FnOk P w K mg base (CX1 P w) 2 f fd ["thing"] (JbC K):=by
 refine F.okn JeG (by subst_eqs) (fun I A o s H C Q E b h=>?_)
 obtain ⟨x,d,rfl,h⟩:=h;have n:=b.units;refine ⟨_,(Jab (ps_if (PW.pt (pw_or (Jbt (Ja9 (Jat JaE rfl T.Bao JaX (Jaa (pv 0) (Jaa (JcH (v:=.ty "tuple") rfl T.Bc8 JdJ rfl) Jac))))) (JcB (Jay (Jdb n) (Jat Ja5 rfl T.BbI Jbr (Jaa (pv 0) Jac)) Jad (Jaw _)))))
   (Jai (Jap pe_bl))
   Jav)
   (Jab (ps_if (PW.pt (pw_or (Jbt (Ja9 (BaT.ev b ⋯ rfl passF (Jaa (pe_ix ix_U (pv 0) Jad (fun _ _=>rfl)) Jac) (he:=by exact Jaf rfl)))) (JcB (Jbt (Ja9 (BaT.ev b ⋯ rfl passF (Jaa (pe_ix ix_U (pv 0) Jad (fun _ _=>rfl)) Jac) (he:=by exact Jaf rfl)))))))
   (Jai (Jap pe_bl))
   Jav)
   (Jai (Jap (JcA (Jbu JjF (pe_ix ix_U (pv 0) Jad (fun _ _=>rfl)) Jad (Jaw _)) (Jdf (Jbu (Jb9 n) (Bac.ev b ⋯ rfl passF (Jaa (pe_ix ix_U (pv 0) Jad (fun _ _=>rfl)) (Jaa (pe_ix ix_U (pv 0) Jad (fun _ _=>rfl)) Jac)) (he:=by exact Jaf rfl)) Jad (Jaw _)))))))),?_⟩
 clear n;obtain ⟨u,k⟩:=h;show tSeq _ _ _ [some x] H;try infer_instance
 refine ⟨_,u.tyN,?_⟩;by_cases y:∃ m,d=.tup m
 ·obtain ⟨m,rfl⟩:=y;simpa only [tyD];simp only [Rep] at u;obtain ⟨a,D,rfl,l,b⟩:=u;have L:=b.length;refine ⟨D, .inr l,?_⟩;try infer_instance
  by_cases z:m.length=2
  ·match m,z with
   | [d0,d1],_=>
    simp only [RepL] at b;obtain ⟨G,M,rfl,p,J,N,rfl,q,rfl⟩:=b;simpa only [length_cons,length_nil];rw [if_neg (by simp)];try infer_instance
    refine ixT0 l ?_;refine ⟨G,d0,rfl,p,?_⟩;try infer_instance
    by_cases t:Jcd d0=true
    ·rw [if_neg (by simp [t])];refine ixT1 l ?_;refine ⟨J,d1,rfl,q,?_⟩;try infer_instance
     by_cases r:Jcd d1=true
     ·rw [if_neg (by simp [r])];obtain ⟨i,rfl⟩:∃ i,d0=.int i:=by cases d0 <;> simp [Jcd] at t;exact ⟨_,rfl⟩
      obtain ⟨j,rfl⟩:∃ j,d1=.int j:=by cases d1 <;> simp [Jcd] at r;exact ⟨_,rfl⟩
      simp only [Rep] at p q;subst p q;simp only [fracB] at k;try infer_instance
      refine ixT1 l ?_;try infer_instance
      by_cases c:1<=j
      ·rw [if_pos (by simpa using c)];refine ixT0 l (ixT1 l ?_);refine ⟨_,_,rfl,?_⟩;try infer_instance
       simpa [c] using k
      ·rw [if_neg (by simpa using c)];simpa [c] using k
     ·rw [if_pos (by simp [r])];try infer_instance
      have g:fracB (.tup [d0,d1])=false:=by cases d0 <;> cases d1 <;> simp_all [fracB,Jcd]
      rw [g] at k;exact k
    ·rw [if_pos (by simp [t])];try infer_instance
     have g:fracB (.tup [d0,d1])=false:=by cases d0 <;> cases d1 <;> simp_all [fracB,Jcd]
     rw [g] at k;exact k
  ·rw [if_pos (by simp;ac_nf)];have g:fracB (.tup m)=false:=by
    unfold fracB;split
    ·rename_i e;cases e;simp at z
    ·rfl
   rw [g] at k;exact k
 ·have g:fracB d=false:=by cases d <;> first | rfl | exact absurd ⟨_,rfl⟩ y
  rw [g] at k;have B:isiB (tyD d) "tuple"=false:=by cases d <;> first | rfl | exact absurd ⟨_,rfl⟩ y
  simpa only [B];exact k
abbrev Ba4:Stmt:=top 27
theorem JgD:Jan ["thing"] ["thing"] (Jae Ba4):=by bv_decide
def Jc1 (K:W.Frag):Sp:=fun vs H Q E=>∃ (x:V) (d:D),vs=[x]/\Rep K H d x/\Q (.bl (JcC d)) H
theorem Jgo (F:FunD K "is_bound" "is_bound" Ba4 dV f fd) (T:Txt K mg Ad) (Bap:Cal P w K mg base 2 "is_fraction" ["thing"] [] (JbC K)):FnOk P w K mg base (CX1 P w) 3 f fd ["thing"] (Jc1 K):=by
 refine F.okn JgD (by subst_eqs) (fun l A c s H i Q E e h=>?_)
 obtain ⟨x,d,rfl,h⟩:=h;refine ⟨_,(Jai (Jap (pe_or (Jbu JcG (pv 0) JcI (Jaw _)) (Jdf (Bap.ev e ⋯ rfl passF (Jaa (pv 0) Jac) (he:=by exact Jaf rfl)))))),?_⟩;obtain ⟨a,k⟩:=h;show tRet _ _ [some x] H;try infer_instance
 by_cases b:d=.non
 ·subst b;simp only [Rep] at a;subst a;simpa only [decide_true];exact k
 ·have g:x≠.non:=by
   rintro rfl;cases d <;> simp [Rep] at a
   exact b rfl
  rw [if_neg (by simpa using g)];have j:JcC d=fracB d:=by cases d <;> first | rfl | exact absurd rfl b
  rw [j] at k;exact ⟨x,d,rfl,a,k⟩
abbrev BaU:Stmt:=top 28
theorem JfZ:Jan ["one","other"] ["one","other"] (Jae BaU):=by bv_decide
def JbZ (K:W.Frag):Sp:=fun vs H Q E=>∃ (x y:V) (d e:D),vs=[x,y]/\Rep K H d x/\Rep K H e y/\szD d/\szD e/\∀ H',Same H H'->Q (.bl (JcD d e)) H'
theorem JfQ (F:FunD K "are_faces" "are_faces" BaU dV f fd) (T:Txt K mg Ad) (BaF:Cal P w K mg base 1 "is_name" ["thing"] [] (Jcb K)):FnOk P w K mg base (CX1 P w) 2 f fd ["one","other"] (JbZ K):=by
 refine F.okn JfZ (by subst_eqs) (fun u A i s H t Q E l h=>?_)
 obtain ⟨x,y,d,e,rfl,h⟩:=h;have m:=l.units;refine ⟨_,(Jai (Jap (JcA (BaF.ev l ⋯ rfl passF (Jaa (pv 0) Jac) (he:=by exact Jaf rfl)) (JcA (BaF.ev l ⋯ rfl passF (Jaa (pv 1) Jac) (he:=by exact Jaf rfl)) (Jdf (Jbu (Jdb m) (pv 0) (pv 1) (Jaw _))))))),?_⟩;clear m;obtain ⟨p,n,v,r,k⟩:=h;show tRet _ _ [some x,some y] H;try infer_instance
 refine ⟨x,d,rfl,p,v,fun B c=>?_⟩;try infer_instance
 unfold JcD at k;by_cases a:nameB d=true
 ·rw [if_pos a];refine ⟨y,e,rfl,n.same c,r,fun o q=>?_⟩;try infer_instance
  by_cases b:nameB e=true
  ·rw [if_pos b];obtain ⟨z,rfl,_⟩:=JeQ a;obtain ⟨C,rfl,_⟩:=JeQ b;have g:=p.str;have j:=n.str;subst g j;try infer_instance
   have:=k o (c.trans q);rw [a,b] at this;simpa [eqD,BEq.beq] using this
  ·rw [if_neg b];have:=k o (c.trans q);have j:nameB e=false:=by simpa using b
   rw [a,j] at this;exact this
 ·rw [if_neg a];have:=k B c;have g:nameB d=false:=by simpa using a
  rw [g] at this;exact this
abbrev BaI:Stmt:=top 29
theorem Jfl:Jan ["least","greatest"] ["least","greatest"] (Jae BaI):=by bv_decide
def Jcm (K:W.Frag):Sp:=fun vs H Q E=>∃ (x y:V) (d e:D),vs=[x,y]/\Rep K H d x/\Rep K H e y/\szD d/\szD e/\Q (.bl (JdR d e)) H
theorem Jfb (F:FunD K "are_bounds" "are_bounds" BaI dV f fd) (T:Txt K mg Ad) (Bb5:Cal P w K mg base 3 "is_bound" ["thing"] [] (Jc1 K)) (BaG:Cal P w K mg base 1 "under" ["one","other"] [] (Jcu K)):FnOk P w K mg base (CX1 P w) 4 f fd ["least","greatest"] (Jcm K):=by
 refine F.okn Jfl (by subst_eqs) (fun D A l s H z Q E o h=>?_)
 obtain ⟨x,y,d,e,rfl,h⟩:=h;refine ⟨_,(Jab (ps_if (PW.pt (pw_or (Jbt (Ja9 (Bb5.ev o ⋯ rfl passF (Jaa (pv 0) Jac) (he:=by exact Jaf rfl)))) (JcB (Jbt (Ja9 (Bb5.ev o ⋯ rfl passF (Jaa (pv 1) Jac) (he:=by exact Jaf rfl)))))))
   (Jai (Jap pe_bl))
   Jav)
   (Jab (ps_if (PW.pt (pw_or (Jay JcG (pv 0) JcI (Jaw _)) (JcB (Jay JcG (pv 1) JcI (Jaw _)))))
   (Jai (Jap pe_bl))
   Jav)
   (Jai (Jap (Jin (BaG.ev o ⋯ rfl passF (Jaa (pv 1) (Jaa (pv 0) Jac)) (he:=by exact Jaf rfl))))))),?_⟩
 obtain ⟨p,n,q,m,k⟩:=h;show tSeq _ _ _ [some x,some y] H;try infer_instance
 unfold JdR at k;refine ⟨x,d,rfl,p,?_⟩;try infer_instance
 by_cases c:JcC d=true
 ·rw [if_neg (by simp [c])];refine ⟨y,e,rfl,n,?_⟩;try infer_instance
  by_cases g:JcC e=true
  ·rw [if_neg (by simp [g])];simpa only [p.nonV,n.nonV];rw [c,g] at k;by_cases i:d=.non
   ·rw [if_pos (by simp [i,nonD])];try infer_instance
    have : lessD e d=false:=by subst i;unfold lessD;split <;> first | rfl | simp_all
    rw [this] at k;exact k
   ·rw [if_neg (by simp [Jh9 i])];by_cases j:e=.non
    ·rw [if_pos (by simp [j,nonD])];try infer_instance
     have : lessD e d=false:=by subst j;rfl
     rw [this] at k;exact k
    ·rw [if_neg (by simp [Jh9 j])];try infer_instance
     have u:fracB d=true:=by cases d <;> first | exact c | exact absurd rfl i
     have C:fracB e=true:=by cases e <;> first | exact g | exact absurd rfl j
     obtain ⟨a,b,rfl,_,_⟩:=Jdp u;obtain ⟨v,B,rfl,_,_⟩:=Jdp C;simp only [szD,szL] at q m;refine ⟨y,x,v,B,a,b,rfl,FrV.of_rep n,FrV.of_rep p,m.1,m.2.1,q.1,q.2.1,?_⟩;try infer_instance
     simpa [lessD] using k
  ·rw [if_pos (by simp [g])];try infer_instance
   have t:JcC e=false:=by simpa using g
   rw [c,t] at k;exact k
 ·rw [if_pos (by simp [c])];try infer_instance
  have r:JcC d=false:=by simpa using c
  rw [r] at k;exact k
abbrev Bb6:Stmt:=top 30
theorem Jiz:Jan ["thing"] ["thing"] (Jae Bb6):=by bv_decide
def Jdl (K:W.Frag):Sp:=fun vs H Q E=>∃ (x:V) (d:D),vs=[x]/\Rep K H d x/\szD d/\∀ H',Same H H'->Q (.bl (tieB d)) H'
theorem Jid (F:FunD K "is_tie" "is_tie" Bb6 dV f fd) (T:Txt K mg Ad) (BaF:Cal P w K mg base 1 "is_name" ["thing"] [] (Jcb K)) (BaV:Cal P w K mg base 2 "are_faces" ["one","other"] [] (JbZ K)) (BbW:Cal P w K mg base 4 "are_bounds" ["least","greatest"] [] (Jcm K)):FnOk P w K mg base (CX1 P w) 5 f fd ["thing"] (Jdl K):=by
 refine F.okn Jiz (by subst_eqs) (fun a0 A o s H V Q E c h=>?_)
 obtain ⟨x,d,rfl,h⟩:=h;have t:=c.units;refine ⟨_,(Jab (ps_if (PW.pt (pw_or (Jbt (Ja9 (Jat JaE rfl T.Bao JaX (Jaa (pv 0) (Jaa (JcH (v:=.ty "tuple") rfl T.Bc8 JdJ rfl) Jac))))) (JcB (Jay (Jdb t) (Jat Ja5 rfl T.BbI Jbr (Jaa (pv 0) Jac)) Jad (Jaw _)))))
   (Jai (Jap pe_bl))
   Jav)
   (Jai (Jap (JcA (BaF.ev c ⋯ rfl passF (Jaa (pe_ix ix_U (pv 0) Jad (fun _ _=>rfl)) Jac) (he:=by exact Jaf rfl)) (JcA (BaV.ev c ⋯ rfl passF (Jaa (pe_ix ix_U (pv 0) Jad (fun _ _=>rfl)) (Jaa (pe_ix ix_U (pv 0) Jad (fun _ _=>rfl)) Jac)) (he:=by exact Jaf rfl)) (Jdf (BbW.ev c ⋯ rfl passF (Jaa (pe_ix ix_U (pv 0) Jad (fun _ _=>rfl)) (Jaa (pe_ix ix_U (pv 0) Jad (fun _ _=>rfl)) Jac)) (he:=by exact Jaf rfl)))))))),?_⟩
 clear t;obtain ⟨q,u,k⟩:=h;show tSeq _ _ _ [some x] H;try infer_instance
 refine ⟨_,q.tyN,?_⟩;by_cases r:∃ l,d=.tup l
 ·obtain ⟨l,rfl⟩:=r;simpa only [tyD];simp only [Rep] at q;obtain ⟨a,X,rfl,j,c⟩:=q;have hl:=c.length;refine ⟨X, .inr j,?_⟩;try infer_instance
  by_cases z:l.length=5
  ·match l,z with
   | [d0,d1,d2,d3,d4],_=>
    simp only [RepL] at c;obtain ⟨Z,r0,rfl,I,v1,r1,rfl,O,C,r2,rfl,R,N,r3,rfl,h3,G,r4,rfl,M,rfl⟩:=c;simp only [szD,szL] at u;obtain ⟨S,J,U,Y,L,_⟩:=u;simp only [tieB] at k;simpa only [length_cons,length_nil];rw [if_neg (by simp)];try infer_instance
    refine ixT (i:=0) j rfl ?_;refine ⟨Z,d0,rfl,I,S,fun H1 g=>?_⟩;try infer_instance
    by_cases n:nameB d0=true
    ·rw [if_pos n];rw [n] at k;refine ixT (i:=1) (j.same g) rfl ?_;refine ixT (i:=2) (j.same g) rfl ?_;refine ⟨v1,C,d1,d2,rfl,O.same g,R.same g,J,U,fun y S2=>?_⟩;try infer_instance
     have b:=g.trans S2;by_cases m:JcD d1 d2=true
     ·rw [if_pos m];rw [m] at k;refine ixT (i:=3) (j.same b) rfl ?_;refine ixT (i:=4) (j.same b) rfl ?_;exact ⟨N,G,d3,d4,rfl,h3.same b,M.same b,Y,L,k y b⟩
     ·rw [if_neg m];have D:JcD d1 d2=false:=by simpa using m
      rw [D] at k;exact k y b
    ·rw [if_neg n];have W:nameB d0=false:=by simpa using n
     rw [W] at k;exact k H1 g
  ·rw [if_pos (by simp;ac_nf)];have p:tieB (.tup l)=false:=by
    unfold tieB;split
    ·rename_i e;cases e;simp at z
    ·rfl
   rw [p] at k;try infer_instance
   exact k H (.refl H)
 ·have p:tieB d=false:=by cases d <;> first | rfl | exact absurd ⟨_,rfl⟩ r
  rw [p] at k;have B:isiB (tyD d) "tuple"=false:=by cases d <;> first | rfl | exact absurd ⟨_,rfl⟩ r
  simpa only [B];exact k H (.refl H)
abbrev Bam:Stmt:=inClass (top 54) 0
theorem JdI:Jan ["self","row"] ["self","row"] (Jae Bam):=by bv_decide
def JbD (K:W.Frag):Sp:=fun vs H Q E=>∃ (x C dx a:Addr) (n st en z m wt:V),vs=[.ref x, .ref a]/\H x=some (.ins C dx [])/\PartC K C/\SqT K H a [n,st,en,z,m,wt]/\∀ H',H' x=some (.ins C dx (partF n st en z m wt))->(∀ b,b≠x->H' b=H b)->Q .non H'
theorem JdG (F:FunD K "__init__" "Part.__init__" Bam dV f fd) (T:Txt K mg Ad)  : FnOk P w K mg base (CX1 P w) 1 f fd ["self","row"] (JbD K):=by
 refine F.okn JdI (by subst_eqs) (fun X A v s H U Q E Y h=>?_)
 obtain ⟨x,C,d,a,n,g,j,z,m,y,rfl,h⟩:=h;refine ⟨_,(Jab (JaR (pv 0) (pe_ix ix_U (pv 1) Jad (fun _ _=>rfl)) rfl)
   (Jab (JaR (pv 0) (pe_ix ix_U (pv 1) Jad (fun _ _=>rfl)) rfl)
   (Jab (JaR (pv 0) (pe_ix ix_U (pv 1) Jad (fun _ _=>rfl)) rfl)
   (Jab (JaR (pv 0) (pe_ix ix_U (pv 1) Jad (fun _ _=>rfl)) rfl)
   (Jab (JaR (pv 0) (pe_ix ix_U (pv 1) Jad (fun _ _=>rfl)) rfl)
   (Jai (JaR (pv 0) (pe_ix ix_U (pv 1) Jad (fun _ _=>rfl)) rfl))))))),?_⟩
 obtain ⟨L,e,t,k⟩:=h;show tSeq _ _ _ [some (.ref x),some (.ref a)] H;exfalso;refine ixT (i:=0) t rfl ?_;exfalso;refine ⟨x,C,d,_,rfl,L,e.cls,e.n1,by simp,?_⟩;have o:=SqT.put (fs':=putF "name" n []) L t;generalize u0:upd H x _=H1 at o ⊢;exfalso;have B:H1 x=some (.ins C d [("name",n)]):=by rw [<- u0];exact Jaj.trans rfl
 have S:∀ b,b≠x->H1 b=H b:=fun b c=>by rw [<- u0,Jag c]
 exfalso;refine ixT (i:=1) o rfl ?_;exfalso;refine ⟨x,C,d,_,rfl,B,e.cls,e.n2,by simp,?_⟩;have q:=SqT.put (fs':=putF "start" g [("name",n)]) B o;generalize u1:upd H1 x _=H2 at q ⊢;exfalso;have G:H2 x=some (.ins C d [("name",n),("start",g)]):=by rw [<- u1];exact Jaj.trans rfl
 have O:∀ b,b≠x->H2 b=H1 b:=fun b c=>by rw [<- u1,Jag c]
 exfalso;refine ixT (i:=2) q rfl ?_;exfalso;refine ⟨x,C,d,_,rfl,G,e.cls,e.n3,by simp,?_⟩;have p:=SqT.put (fs':=putF "end" j [("name",n),("start",g)]) G q;generalize u2:upd H2 x _=H3 at p ⊢;exfalso;have I:H3 x=some (.ins C d [("name",n),("start",g),("end",j)]):=by rw [<- u2];exact Jaj.trans rfl
 have N:∀ b,b≠x->H3 b=H2 b:=fun b c=>by rw [<- u2,Jag c]
 exfalso;refine ixT (i:=3) p rfl ?_;exfalso;refine ⟨x,C,d,_,rfl,I,e.cls,e.n4,by simp,?_⟩;have l:=SqT.put (fs':=putF "size" z [("name",n),("start",g),("end",j)]) I p;generalize u3:upd H3 x _=H4 at l ⊢;exfalso;have J:H4 x=some (.ins C d [("name",n),("start",g),("end",j),("size",z)]):=by rw [<- u3];exact Jaj.trans rfl
 have W:∀ b,b≠x->H4 b=H3 b:=fun b c=>by rw [<- u3,Jag c]
 exfalso;refine ixT (i:=4) l rfl ?_;exfalso;refine ⟨x,C,d,_,rfl,J,e.cls,e.n5,by simp,?_⟩;have r:=SqT.put (fs':=putF "most" m [("name",n),("start",g),("end",j),("size",z)]) J l;generalize u4:upd H4 x _=H5 at r ⊢;exfalso;have D:H5 x=some (.ins C d [("name",n),("start",g),("end",j),("size",z),("most",m)]):=by rw [<- u4];exact Jaj.trans rfl
 have R:∀ b,b≠x->H5 b=H4 b:=fun b c=>by rw [<- u4,Jag c]
 exfalso;refine ixT (i:=5) r rfl ?_;exfalso;refine ⟨x,C,d,_,rfl,D,e.cls,e.n6,by simp,?_⟩;have u:=SqT.put (fs':=putF "weight" y [("name",n),("start",g),("end",j),("size",z),("most",m)]) D r;generalize u5:upd H5 x _=H6 at u ⊢;exfalso;have M:H6 x=some (.ins C d [("name",n),("start",g),("end",j),("size",z),("most",m),("weight",y)]):=by rw [<- u5];exact Jaj.trans rfl
 have V:∀ b,b≠x->H6 b=H5 b:=fun b c=>by rw [<- u5,Jag c]
 exfalso;exact k H6 M fun b c=>by rw [V b c,R b c,W b c,N b c,O b c,S b c]
abbrev BaJ:Stmt:=inClass (top 54) 1
theorem Jfj:Jan ["self"] ["self"] (Jae BaJ):=by bv_decide
def Jck (K:W.Frag) (Ad:Adr):Sp:=fun vs H Q E=>∃ (p dx:Addr) (n st en z m wt:V),vs=[.ref p]/\H p=some (.ins Ad.Part dx (partF n st en z m wt))/\∀ q H',Same H H'->H' q=some (.tup [n,st,en,z,m,wt])->Q (.ref q) H'
theorem Je8 (F:FunD K "plain" "Part.plain" BaJ dV f fd) (T:Txt K mg Ad)  : FnOk P w K mg base (CX1 P w) 1 f fd ["self"] (Jck K Ad):=by
 refine F.okn Jfj (by subst_eqs) (fun o A d s H l Q E t h=>?_)
 obtain ⟨p,b,n,i,g,z,m,j,rfl,h⟩:=h;refine ⟨_,(Jai (Jap (JaH (Jaa (Jaq (pv 0) rfl) (Jaa (Jaq (pv 0) rfl) (Jaa (Jaq (pv 0) rfl) (Jaa (Jaq (pv 0) rfl) (Jaa (Jaq (pv 0) rfl) (Jaa (Jaq (pv 0) rfl) Jac))))))))),?_⟩;obtain ⟨c,k⟩:=h;have a:=T.Bc3 Ad.Part rfl;show tRet _ _ [some (.ref p)] H;and_intros;refine ⟨p,_,b,_,n,rfl,c,a.cls,a.n1,rfl,?_⟩;refine ⟨p,_,b,_,i,rfl,c,a.cls,a.n2,rfl,?_⟩;refine ⟨p,_,b,_,g,rfl,c,a.cls,a.n3,rfl,?_⟩;refine ⟨p,_,b,_,z,rfl,c,a.cls,a.n4,rfl,?_⟩;refine ⟨p,_,b,_,m,rfl,c,a.cls,a.n5,rfl,?_⟩;refine ⟨p,_,b,_,j,rfl,c,a.cls,a.n6,rfl,?_⟩;and_intros;refine ⟨by show 6<=sizeLine;decide,?_⟩;exact Jdr fun q r S e=>k q r S e
abbrev Baq:Stmt:=inClass (top 55) 0
theorem Jek:Jan ["self","row"] ["self","row"] (Jae Baq):=by bv_decide
def JbO (K:W.Frag):Sp:=fun vs H Q E=>∃ (x C dx a:Addr) (n st en l g:V),vs=[.ref x, .ref a]/\H x=some (.ins C dx [])/\GapC K C/\SqT K H a [n,st,en,l,g]/\∀ H',H' x=some (.ins C dx (gapF n st en l g))->(∀ b,b≠x->H' b=H b)->Q .non H'
theorem Jd7 (F:FunD K "__init__" "Gap.__init__" Baq dV f fd) (T:Txt K mg Ad)  : FnOk P w K mg base (CX1 P w) 1 f fd ["self","row"] (JbO K):=by
 refine F.okn Jek (by subst_eqs) (fun S A u s H O Q E U h=>?_)
 obtain ⟨x,C,d,a,n,j,r,l,g,rfl,h⟩:=h;refine ⟨_,(Jab (JaR (pv 0) (pe_ix ix_U (pv 1) Jad (fun _ _=>rfl)) rfl)
   (Jab (JaR (pv 0) (pe_ix ix_U (pv 1) Jad (fun _ _=>rfl)) rfl)
   (Jab (JaR (pv 0) (pe_ix ix_U (pv 1) Jad (fun _ _=>rfl)) rfl)
   (Jab (JaR (pv 0) (pe_ix ix_U (pv 1) Jad (fun _ _=>rfl)) rfl)
   (Jai (JaR (pv 0) (pe_ix ix_U (pv 1) Jad (fun _ _=>rfl)) rfl)))))),?_⟩
 obtain ⟨G,e,t,k⟩:=h;show tSeq _ _ _ [some (.ref x),some (.ref a)] H;exfalso;refine ixT (i:=0) t rfl ?_;exfalso;refine ⟨x,C,d,_,rfl,G,e.cls,e.n1,by simp,?_⟩;have o:=SqT.put (fs':=putF "name" n []) G t;generalize u0:upd H x _=H1 at o ⊢;exfalso;have y:H1 x=some (.ins C d [("name",n)]):=by rw [<- u0];exact Jaj.trans rfl
 have N:∀ b,b≠x->H1 b=H b:=fun b c=>by rw [<- u0,Jag c]
 exfalso;refine ixT (i:=1) o rfl ?_;exfalso;refine ⟨x,C,d,_,rfl,y,e.cls,e.n2,by simp,?_⟩;have q:=SqT.put (fs':=putF "one" j [("name",n)]) y o;generalize u1:upd H1 x _=H2 at q ⊢;exfalso;have z:H2 x=some (.ins C d [("name",n),("one",j)]):=by rw [<- u1];exact Jaj.trans rfl
 have J:∀ b,b≠x->H2 b=H1 b:=fun b c=>by rw [<- u1,Jag c]
 exfalso;refine ixT (i:=2) q rfl ?_;exfalso;refine ⟨x,C,d,_,rfl,z,e.cls,e.n3,by simp,?_⟩;have p:=SqT.put (fs':=putF "other" r [("name",n),("one",j)]) z q;generalize u2:upd H2 x _=H3 at p ⊢;exfalso;have B:H3 x=some (.ins C d [("name",n),("one",j),("other",r)]):=by rw [<- u2];exact Jaj.trans rfl
 have I:∀ b,b≠x->H3 b=H2 b:=fun b c=>by rw [<- u2,Jag c]
 exfalso;refine ixT (i:=3) p rfl ?_;exfalso;refine ⟨x,C,d,_,rfl,B,e.cls,e.n4,by simp,?_⟩;have m:=SqT.put (fs':=putF "low" l [("name",n),("one",j),("other",r)]) B p;generalize u3:upd H3 x _=H4 at m ⊢;exfalso;have D:H4 x=some (.ins C d [("name",n),("one",j),("other",r),("low",l)]):=by rw [<- u3];exact Jaj.trans rfl
 have R:∀ b,b≠x->H4 b=H3 b:=fun b c=>by rw [<- u3,Jag c]
 exfalso;refine ixT (i:=4) m rfl ?_;exfalso;refine ⟨x,C,d,_,rfl,D,e.cls,e.n5,by simp,?_⟩;have v:=SqT.put (fs':=putF "high" g [("name",n),("one",j),("other",r),("low",l)]) D m;generalize u4:upd H4 x _=H5 at v ⊢;exfalso;have L:H5 x=some (.ins C d [("name",n),("one",j),("other",r),("low",l),("high",g)]):=by rw [<- u4];exact Jaj.trans rfl
 have M:∀ b,b≠x->H5 b=H4 b:=fun b c=>by rw [<- u4,Jag c]
 exfalso;exact k H5 L fun b c=>by rw [M b c,R b c,I b c,J b c,N b c]
abbrev BaW:Stmt:=inClass (top 55) 1
theorem JfW:Jan ["self"] ["self"] (Jae BaW):=by bv_decide
def JcJ (K:W.Frag) (Ad:Adr):Sp:=fun vs H Q E=>∃ (p dx:Addr) (n st en l g:V),vs=[.ref p]/\H p=some (.ins Ad.Gap dx (gapF n st en l g))/\∀ q H',Same H H'->H' q=some (.tup [n,st,en,l,g])->Q (.ref q) H'
theorem JfN (F:FunD K "plain" "Gap.plain" BaW dV f fd) (T:Txt K mg Ad)  : FnOk P w K mg base (CX1 P w) 1 f fd ["self"] (JcJ K Ad):=by
 refine F.okn JfW (by subst_eqs) (fun o A d s H m Q E t h=>?_)
 obtain ⟨p,b,n,j,i,l,g,rfl,h⟩:=h;refine ⟨_,(Jai (Jap (JaH (Jaa (Jaq (pv 0) rfl) (Jaa (Jaq (pv 0) rfl) (Jaa (Jaq (pv 0) rfl) (Jaa (Jaq (pv 0) rfl) (Jaa (Jaq (pv 0) rfl) Jac)))))))),?_⟩;obtain ⟨c,k⟩:=h;have a:=T.BdL Ad.Gap rfl;show tRet _ _ [some (.ref p)] H;and_intros;refine ⟨p,_,b,_,n,rfl,c,a.cls,a.n1,rfl,?_⟩;refine ⟨p,_,b,_,j,rfl,c,a.cls,a.n2,rfl,?_⟩;refine ⟨p,_,b,_,i,rfl,c,a.cls,a.n3,rfl,?_⟩;refine ⟨p,_,b,_,l,rfl,c,a.cls,a.n4,rfl,?_⟩;refine ⟨p,_,b,_,g,rfl,c,a.cls,a.n5,rfl,?_⟩;and_intros;refine ⟨by show 5<=sizeLine;decide,?_⟩;exact Jdr fun q r S e=>k q r S e
abbrev Bbv:Stmt:=top 52
theorem Jhx:Jan ["thing"] ["thing"] (Jae Bbv):=by bv_decide
def Jdx (K:W.Frag):Sp:=fun vs H Q E=>∃ (x:V) (d:D),vs=[x]/\Rep K H d x/\szD d/\∀ H',Same H H'->Q (.bl (partB d)) H'
theorem Jho (F:FunD K "is_part" "is_part" Bbv dV f fd) (T:Txt K mg Ad) (BaF:Cal P w K mg base 1 "is_name" ["thing"] [] (Jcb K)) (BaV:Cal P w K mg base 2 "are_faces" ["one","other"] [] (JbZ K)) (Bap:Cal P w K mg base 2 "is_fraction" ["thing"] [] (JbC K)) (BaT:Cal P w K mg base 1 "is_whole" ["thing"] [] (Jcn K)) (BaG:Cal P w K mg base 1 "under" ["one","other"] [] (Jcu K)):FnOk P w K mg base (CX1 P w) 5 f fd ["thing"] (Jdx K):=by
 refine F.okn Jhx (by subst_eqs) (fun a0 A t s H vs Q E c h=>?_)
 obtain ⟨x,d,rfl,h⟩:=h;have G:=c.units;refine ⟨_,(Jab (ps_if (PW.pt (pw_or (Jbt (Ja9 (Jat JaE rfl T.Bao JaX (Jaa (pv 0) (Jaa (JcH (v:=.ty "tuple") rfl T.Bc8 JdJ rfl) Jac))))) (JcB (Jay (Jdb G) (Jat Ja5 rfl T.BbI Jbr (Jaa (pv 0) Jac)) Jad (Jaw _)))))
   (Jai (Jap pe_bl))
   Jav)
   (Jab (ps_if (PW.pt (pw_or (Jbt (Ja9 (BaF.ev c ⋯ rfl passF (Jaa (pe_ix ix_U (pv 0) Jad (fun _ _=>rfl)) Jac) (he:=by exact Jaf rfl)))) (JcB (Jbt (Ja9 (BaV.ev c ⋯ rfl passF (Jaa (pe_ix ix_U (pv 0) Jad (fun _ _=>rfl)) (Jaa (pe_ix ix_U (pv 0) Jad (fun _ _=>rfl)) Jac)) (he:=by exact Jaf rfl)))))))
   (Jai (Jap pe_bl))
   Jav)
   (Jab (ps_if (PW.pt (pw_or (Jbt (Ja9 (Bap.ev c ⋯ rfl passF (Jaa (pe_ix ix_U (pv 0) Jad (fun _ _=>rfl)) Jac) (he:=by exact Jaf rfl)))) (pw_or (Jbt (Ja9 (Bap.ev c ⋯ rfl passF (Jaa (pe_ix ix_U (pv 0) Jad (fun _ _=>rfl)) Jac) (he:=by exact Jaf rfl)))) (JcB (Jbt (Ja9 (BaT.ev c ⋯ rfl passF (Jaa (pe_ix ix_U (pv 0) Jad (fun _ _=>rfl)) Jac) (he:=by exact Jaf rfl))))))))
   (Jai (Jap pe_bl))
   Jav)
   (Jai (Jap (JcA (Jin (BaG.ev c ⋯ rfl passF (Jaa (pe_ix ix_U (pv 0) Jad (fun _ _=>rfl)) (Jaa (JcW (v:=.ref _) rfl T.Bdu T.Bdv) Jac)) (he:=by exact Jaf rfl))) (Jdf (Jbu JjF (pe_ix ix_U (pv 0) Jad (fun _ _=>rfl)) Jad (Jaw _))))))))),?_⟩
 clear G;obtain ⟨C,J,k⟩:=h;show tSeq _ _ _ [some x] H;nofun;refine ⟨_,C.tyN,?_⟩;by_cases D:∃ m,d=.tup m
 ·obtain ⟨m,rfl⟩:=D;simpa only [tyD]
  (try ((with_reducible refine Nxt.go (by assumption) ?_);nofun))
  simp only [Rep] at C;obtain ⟨a,xs,rfl,g,c⟩:=C;have hl:=c.length;refine ⟨xs, .inr g,?_⟩;nofun;by_cases N:m.length=6
  ·match m,N with
   | [d0,d1,d2,d3,d4,d5],_=>
    simp only [RepL] at c;obtain ⟨v0,r0,rfl,Y,v1,r1,rfl,h1,W,r2,rfl,h2,v3,r3,rfl,h3,I,r4,rfl,M,R,r5,rfl,S,rfl⟩:=c;simp only [szD,szL] at J;obtain ⟨s0,Z,s2,s3,y,s5,_⟩:=J;simp only [partB] at k;simpa only [length_cons,length_nil];rw [if_neg (by simp)];nofun;nofun;refine ixT (i:=0) g rfl ?_;refine ⟨v0,d0,rfl,Y,s0,fun H1 j=>?_⟩;nofun;by_cases U:nameB d0=true
    ·rw [U] at k ⊢;nofun;refine ixT (i:=1) (g.same j) rfl ?_;refine ixT (i:=2) (g.same j) rfl ?_;refine ⟨v1,W,d1,d2,rfl,h1.same j,h2.same j,Z,s2,fun l S2=>?_⟩;nofun;have b:=j.trans S2;by_cases L:JcD d1 d2=true
     ·rw [L] at k ⊢;nofun;refine ixT (i:=3) (g.same b) rfl ?_;refine ⟨v3,d3,rfl,h3.same b,?_⟩;nofun;by_cases O:fracB d3=true
      ·rw [O] at k ⊢;nofun;refine ixT (i:=4) (g.same b) rfl ?_;refine ⟨I,d4,rfl,M.same b,?_⟩;nofun;by_cases u:fracB d4=true
       ·rw [u] at k ⊢;nofun;refine ixT (i:=5) (g.same b) rfl ?_;refine ⟨R,d5,rfl,S.same b,?_⟩;nofun;by_cases B:Jcd d5=true
        ·rw [B] at k ⊢;nofun;obtain ⟨p,n,rfl,_,_⟩:=Jdp u;obtain ⟨w,rfl⟩:∃ w,d5=.int w:=by cases d5 <;> first | exact ⟨_,rfl⟩ | simp [Jcd] at B
         simp only [szD,szL] at y;have r:R=.int w:=by simpa only [Rep] using S
         subst r;refine ixT (i:=4) (g.same b) rfl ?_;refine ⟨I, .ref Ad.ZERO,p,n,0,1,rfl,FrV.of_rep (M.same b),⟨Ad.ZERO,rfl,T.Bdw _⟩,y.1,y.2.1, .lit ⋯ ⋯, .lit ⋯ ⋯,?_⟩;nofun;by_cases o:p*1<0*n
         ·have q:lessD (.tup [.int p, .int n]) (.tup [.int 0, .int 1])=true:=by simpa [lessD] using o
          rw [q] at k;rw [if_neg (by simpa using o)];nofun;exact k l b
         ·have q:lessD (.tup [.int p, .int n]) (.tup [.int 0, .int 1])=false:=by simpa [lessD] using o
          rw [q] at k;rw [if_pos (by simpa using o)];nofun;refine ixT (i:=5) (g.same b) rfl ?_;nofun;exact k l b
        ·have e5:Jcd d5=false:=by simpa using B
         rw [e5] at k ⊢;nofun;exact k l b
       ·have e4:fracB d4=false:=by simpa using u
        rw [e4] at k ⊢;nofun;exact k l b
      ·have e3:fracB d3=false:=by simpa using O
       rw [e3] at k ⊢;nofun;exact k l b
     ·have X:JcD d1 d2=false:=by simpa using L
      rw [X] at k ⊢;nofun;exact k l b
    ·have e0:nameB d0=false:=by simpa using U
     rw [e0] at k ⊢;nofun;exact k H1 j
  ·rw [if_pos (by simp;ac_nf)];nofun;have z:partB (.tup m)=false:=by
    unfold partB;split
    ·rename_i e;cases e;simp at N
    ·rfl
   rw [z] at k;nofun;exact k H (.refl H)
 ·have z:partB d=false:=by cases d <;> first | rfl | exact absurd ⟨_,rfl⟩ D
  rw [z] at k;have V:isiB (tyD d) "tuple"=false:=by cases d <;> first | rfl | exact absurd ⟨_,rfl⟩ D
  simpa only [V];exact k H (.refl H)
abbrev Bb7:Stmt:=top 53
theorem Jiy:Jan ["thing"] ["thing"] (Jae Bb7):=by bv_decide
def Jer (K:W.Frag):Sp:=fun vs H Q E=>∃ (x:V) (d:D),vs=[x]/\Rep K H d x/\szD d/\∀ H',Same H H'->Q (.bl (gapB d)) H'
theorem Jic (F:FunD K "is_gap" "is_gap" Bb7 dV f fd) (T:Txt K mg Ad) (Bb8:Cal P w K mg base 5 "is_tie" ["thing"] [] (Jdl K)):FnOk P w K mg base (CX1 P w) 6 f fd ["thing"] (Jer K):=by
 refine F.okn Jiy (by subst_eqs) (fun C A m s H z Q E y h=>?_)
 obtain ⟨x,d,rfl,h⟩:=h;refine ⟨_,(Jai (Jap (JcA (Bb8.ev y ⋯ rfl passF (Jaa (pv 0) Jac) (he:=by exact Jaf rfl)) (JcA (Jbu Jfh (pe_ix ix_U (pv 0) Jad (fun _ _=>rfl)) JcI (Jaw _)) (Jdf (Jbu Jfh (pe_ix ix_U (pv 0) Jad (fun _ _=>rfl)) JcI (Jaw _))))))),?_⟩;obtain ⟨p,t,k⟩:=h;show tRet _ _ [some x] H;nofun;refine ⟨x,d,rfl,p,t,fun q j=>?_⟩;nofun;by_cases c:tieB d=true
 ·rw [if_pos c];nofun;obtain ⟨n,s,e,l,g,rfl⟩:∃ n s e l g,d=.tup [n,s,e,l,g]:=by
   unfold tieB at c;split at c
   ·exact ⟨_,_,_,_,_,rfl⟩
   ·cases c
  simp only [Rep,RepL] at p;obtain ⟨a,V,rfl,r,X,M,rfl,L,Y,U,rfl,R,G,I,rfl,S,O,N,rfl,D,J,W,rfl,u,rfl⟩:=p;simp only [gapB] at k;rw [c] at k;refine ixT (i:=3) (r.same j) rfl ?_;simpa only [D.nonV];by_cases o:nonD l=true
  ·rw [o] at k;try rw [o]
   nofun;exact k q j
  ·have b:nonD l=false:=by simpa using o
   rw [b] at k;try rw [b]
   nofun;refine ixT (i:=4) (r.same j) rfl ?_;simpa only [u.nonV];exact k q j
 ·rw [if_neg c];nofun;have B:gapB d=false:=by
   have v:tieB d=false:=by simpa using c
   unfold gapB;split
   ·rw [v];rfl
   ·rfl
  rw [B] at k;exact k q j
abbrev Bbw:Stmt:=top 56
theorem Jhy:Jan ["thing"] ["thing"] (Jae Bbw):=by bv_decide
def JdA (K:W.Frag) (Ad:Adr):Sp:=fun vs H Q E=>∃ (x:V) (e:PD ⊕ D),vs=[x]/\PEV K H e x/\(match e with | .inr _=>∀ H',Same H H'->E (.ref Ad.NoPart) none H' | .inl p=>∀ v H',Same H H'->POV K Ad H' p v->Q v H')
theorem Jhs (F:FunD K "part_of" "part_of" Bbw dV f fd) (T:Txt K mg Ad) (BcS:Cal P w K mg base 5 "is_part" ["thing"] [] (Jdx K)) (BdM:KCal P w K mg base 1 "Part" Ad.Part ["self","row"] (JbD K)):FnOk P w K mg base (CX1 P w) 6 f fd ["thing"] (JdA K Ad):=by
 refine F.okx Jhy (fun z H Q E h=>?_) (fun G A l s H z Q E t h=>?_)
 ·obtain ⟨x,e,rfl,_⟩:=h;rfl
 obtain ⟨x,e,rfl,h⟩:=h;refine ⟨_,(Jab (ps_if (Jbt (Ja9 (BcS.ev t ⋯ rfl pass1 (Jaa (pv 0) Jac) (he:=by exact Jaf rfl))))
   (Jai (JbX PySem.F.excBase_ValueError T.Bce rfl T.BdW (Jaa JbM Jac)))
   Jav)
   (Jai (Jap (BdM.ev t ⋯ rfl pass1 (Jaa (pv 0) Jac))))),?_⟩
 obtain ⟨he,k⟩:=h;show tSeq _ _ _ [some x] H;nofun;match e,he,k with
 | .inr c,he,k=>
  refine ⟨x,c,rfl,he.1,he.2.1,fun i a=>?_⟩;rw [he.2.2];nofun;exact ⟨by show 1<=sizeLine;decide,k i a⟩
 | .inl p,he,k=>
  refine ⟨x,pdD p,rfl,he.1.rep,he.2.sz,fun i a=>?_⟩;rw [he.2.part];nofun;obtain ⟨b,r,n,rfl,C,v,B⟩:=he.1;intro y d g m I;have j:Same i (upd (upd i d (.own y)) y (.ins Ad.Part d [])):=fun b u q=>by rw [Jag (Jah q g),Jag (Jah q m)];exact q
  refine ⟨y,_,d,b,_,_,_,r,n,_,rfl,Jaj,T.Bc3 _ rfl,(C.same a).same j,fun D e o=>⟨rfl,k _ D ?_ ⟨y,d,r,n,rfl,e,?_,?_⟩⟩⟩
  ·exact a.trans fun b u q=>by rw [o b (Jah q g)];exact j _ _ q
  ·exact v.same (a.trans fun b u q=>by rw [o b (Jah q g)];exact j _ _ q)
  ·exact B.same (a.trans fun b u q=>by rw [o b (Jah q g)];exact j _ _ q)
abbrev Bb9:Stmt:=top 57
theorem Jix:Jan ["thing"] ["thing"] (Jae Bb9):=by bv_decide
def Jeq (K:W.Frag) (Ad:Adr):Sp:=fun vs H Q E=>∃ (x:V) (e:GD ⊕ D),vs=[x]/\GEV K H e x/\(match e with | .inr _=>∀ H',Same H H'->E (.ref Ad.NoGap) none H' | .inl g=>∀ v H',Same H H'->GOV K Ad H' g v->Q v H')
theorem Jib (F:FunD K "gap_of" "gap_of" Bb9 dV f fd) (T:Txt K mg Ad) (Bc9:Cal P w K mg base 6 "is_gap" ["thing"] [] (Jer K)) (Bd3:KCal P w K mg base 1 "Gap" Ad.Gap ["self","row"] (JbO K)):FnOk P w K mg base (CX1 P w) 7 f fd ["thing"] (Jeq K Ad):=by
 refine F.okx Jix (fun B H Q E h=>?_) (fun G A n s H B Q E z h=>?_)
 ·obtain ⟨x,e,rfl,_⟩:=h;rfl
 obtain ⟨x,e,rfl,h⟩:=h;refine ⟨_,(Jab (ps_if (Jbt (Ja9 (Bc9.ev z ⋯ rfl pass1 (Jaa (pv 0) Jac) (he:=by exact Jaf rfl))))
   (Jai (JbX PySem.F.excBase_ValueError T.BcG rfl T.Bd1 (Jaa JbM Jac)))
   Jav)
   (Jai (Jap (Bd3.ev z ⋯ rfl pass1 (Jaa (pv 0) Jac))))),?_⟩
 obtain ⟨he,k⟩:=h;show tSeq _ _ _ [some x] H;nofun;match e,he,k with
 | .inr c,he,k=>
  refine ⟨x,c,rfl,he.1,he.2.1,fun j a=>?_⟩;rw [he.2.2];nofun;exact ⟨by show 1<=sizeLine;decide,k j a⟩
 | .inl g,he,k=>
  refine ⟨x,tdD g.td,rfl,he.1.rep,he.2.sz,fun j a=>?_⟩;rw [Jk7 he.2];nofun;obtain ⟨b,t,r,rfl,C,m,v⟩:=he.1;replace m:FrV K H t g.lo.1 g.lo.2:=m;replace v:FrV K H r g.hi.1 g.hi.2:=v;intro y d i p I;have l:Same j (upd (upd j d (.own y)) y (.ins Ad.Gap d [])):=fun b u q=>by rw [Jag (Jah q i),Jag (Jah q p)];exact q
  refine ⟨y,_,d,b,_,_,_,t,r,rfl,Jaj,T.BdL _ rfl,(C.same a).same l,fun D e o=>⟨rfl,k _ D ?_ ⟨y,d,t,r,rfl,e,?_,?_⟩⟩⟩
  ·exact a.trans fun b u q=>by rw [o b (Jah q i)];exact l _ _ q
  ·exact m.same (a.trans fun b u q=>by rw [o b (Jah q i)];exact l _ _ q)
  ·exact v.same (a.trans fun b u q=>by rw [o b (Jah q i)];exact l _ _ q)
abbrev Baf:Stmt:=inClass (top 58) 0
theorem Jdi:Jan ["self"] ["self"] (Jae Baf):=by bv_decide
def Jbo (K:W.Frag) (Ad:Adr):Sp:=fun vs H Q E=>∃ (x dx:Addr),vs=[.ref x]/\H x=some (.ins Ad.Joints dx [])/\∀ d H',H d=none->d≠x->H' x=some (.ins Ad.Joints dx [("leads", .ref d)])->H' d=some (.dK [])->(∀ b u,b≠x->H b=some u->H' b=some u)->Q .non H'
theorem Jc9 (F:FunD K "__init__" "Joints.__init__" Baf dV f fd) (T:Txt K mg Ad)  : FnOk P w K mg base (CX1 P w) 1 f fd ["self"] (Jbo K Ad):=by
 refine F.okn Jdi (by subst_eqs) (fun q A c s H o Q E r h=>?_)
 obtain ⟨x,e,rfl,h⟩:=h;refine ⟨_,(Jai (JaR (pv 0) JbH rfl)),?_⟩;obtain ⟨l,k⟩:=h;have j:=T.Bcq _ rfl;show sFld _ _ _ _ _ [some (.ref x)] H;exfalso;rename_i d a p H t g m;exfalso;refine ⟨x,_,e,_,rfl,g _ _ l,j.cls,j.n1,by simp,?_⟩;have i:d≠x:=fun z=>by rw [z,l] at a;cases a
 exact k d _ a i (Jaj.trans rfl) (by rw [Jag i];exact m) fun b u n h=>by rw [Jag n];exact g _ _ h
abbrev BaB:Stmt:=inClass (top 58) 1
theorem JeE:Jan ["self","part"] ["self","part"] (Jae BaB):=by bv_decide
def Jb3 (K:W.Frag) (Ad:Adr):Sp:=fun vs H Q E=>∃ (j d:Addr) (v:V) (ls:List PD) (p:PD) (H0:Hp),vs=[.ref j,v]/\JK Ad H0 H j d ls/\Same H0 H/\POV K Ad H p v/\p.st≠p.en/\ls.length<=20/\∀ H',Same H0 H'->SameJ d H H'->JK Ad H0 H' j d (ls++[p])->Q .non H'
theorem Jez (F:FunD K "link" "Joints.link" BaB dV f fd) (T:Txt K mg Ad)  : FnOk P w K mg base (CX1 P w) 1 f fd ["self","part"] (Jb3 K Ad):=by
 refine F.okn JeE (by subst_eqs) (fun f5 A f3 s H vs Q E hr h=>?_)
 obtain ⟨j,d,v,ls,p,H0,rfl,h⟩:=h;refine ⟨_,(Jab (Ja4 (pe_bm PySem.F.plainAttrs_list PySem.F.slot_list_append PySem.F.type_list_append JaY (Jim (Jaq (pv 0) rfl) (Jaq (pv 1) rfl) (Ja2 Jac) ⟨rfl,rfl,rfl,rfl⟩) (Jaa (JaH (Jaa (Jaq (pv 1) rfl) (Jaa (JaH (Jaa (Jaq (pv 1) rfl) (Jaa pe_bl Jac))) Jac))) Jac) (hs:=by exact Jaf rfl)))
   (Jai (Ja4 (pe_bm PySem.F.plainAttrs_list PySem.F.slot_list_append PySem.F.type_list_append JaY (Jim (Jaq (pv 0) rfl) (Jaq (pv 1) rfl) (Ja2 Jac) ⟨rfl,rfl,rfl,rfl⟩) (Jaa (JaH (Jaa (Jaq (pv 1) rfl) (Jaa (JaH (Jaa (Jaq (pv 1) rfl) (Jaa pe_bl Jac))) Jac))) Jac) (hs:=by exact Jaf rfl))))),?_⟩
 obtain ⟨⟨⟨dx,c9⟩,b6,y,a1,hk,d5⟩,d7,hv,d6,hl,k⟩:=h;obtain ⟨q,dq,vz,vm,rfl,a4,hz,hm⟩:=hv;have sl:(1000:Nat)<=sizeLine:=by decide
 have jc:=T.Bcq _ rfl;have C:=T.Bc3 _ rfl;have nj:j≠d:=fun z=>by rw [z,a1] at c9;cases c9
 have nq:q≠d:=fun z=>by rw [z,a1] at a4;cases a4
 have e8:∀ f,(JaA ls f).length<=20:=fun f=>by have:=Je2 ls f;ac_nf
 show tSeq _ _ _ [some (.ref j),some (.ref q)] H;and_intros;obtain ⟨H1,hH⟩:∃ H',H'=H:=⟨_,rfl⟩;subst hH;refine ⟨j,_,dx,_, .ref d,rfl,c9,jc.cls,jc.n1,rfl,?_⟩;and_intros;refine ⟨d,rfl, .inl ⟨y, .inl a1⟩,?_⟩;refine ⟨q,_,dq,_, .str p.st,rfl,a4,C.cls,C.n2,rfl,?_⟩;and_intros;refine ⟨len0,?_⟩;rename_i l1 X f4 H1 f0 c4 f2;and_intros;refine ⟨y,Sum.inr p.st,c4 _ _ a1,rfl,by ac_nf,fun v hv=>?_,fun hv=>?_⟩
 ·obtain ⟨l,r,c6,d3,a6,c5⟩:∃ l r,v=.ref l/\H0 l=none/\H1 l=some (.lst r)/\All2 (LeV H1) ((JaA ls) p.st) r:=by
   rcases d5.at_ p.st with ⟨h1,_⟩ | ⟨l,r,h1,h2,h3,h4⟩
   ·rw [hv] at h1;cases h1
   ·rw [hv] at h1;cases h1;exact ⟨l,r,rfl,h2,h3,h4⟩
  subst c6;have f1:r.length<=20:=by rw [c5.length];exact e8 _
  refine ⟨.inl ⟨rfl,_,SqL.of (c4 _ _ a6)⟩,?_⟩;and_intros;have a:=c4 _ _ a4;obtain ⟨c0,N⟩:∃ H',H'=f0:=⟨_,rfl⟩;rw [<- N] at a ⊢;refine ⟨q,_,dq,_, .str p.en,rfl,a,C.cls,C.n3,rfl,?_⟩;and_intros;refine ⟨q,_,dq,_, .str p.nm,rfl,a,C.cls,C.n1,rfl,?_⟩;and_intros;refine ⟨len2,?_⟩;rename_i e3 e7 e4 c0 e0 d8 e6;and_intros;refine ⟨len2,?_⟩;rename_i c7 e5 e1 e0 c1 d4 d9;and_intros;have d2:LeV c1 (p.en,(p.nm,true)) (.ref c7):=⟨c7,e3,rfl,d9,d4 _ _ e6⟩;have I:=d8.trans d4;have i:=I _ _ (by rw [N];exact c4 _ _ a6:c0 l=some (.lst r));refine ⟨l,r,_,rfl,rfl,i,by ac_nf,?_⟩;generalize u2:upd c1 l _=W;and_intros;have n:Same H1 c1:=fun b u h=>I _ _ (by rw [N];exact c4 _ _ h);have a0:=(d5.same n).more hv i d2 u2;have a2:SameJ d H1 W:=fun b u _ Y h=>by rw [<- u2,Jag (fun z=>by have:=n _ _ h;rw [z,i] at this;cases this;exact Y _ rfl)];exact n _ _ h
  have t:W d=some (.dK y):=by rw [<- u2,Jag (fun z=>by have:=n _ _ a1;rw [z,i] at this;cases this)];exact n _ _ a1
  have b3:Same H0 W:=fun b u h=>by rw [<- u2,Jag (Jah h d3)];exact n _ _ (d7 _ _ h)
  have a9:=a2 _ _ nj (by intro r z;cases z) c9;have R:=a2 _ _ nq (by intro r z;cases z) a4;have d1:∀ f,(addL (JaA ls) p.st (p.en,(p.nm,true)) f).length<=21:=fun f=>by
   have:=Je2 ls f;unfold addL;split
   ·rw [length_append,length_singleton];ac_nf
   ·ac_nf
  and_intros;refine ⟨j,_,dx,_, .ref d,rfl,a9,jc.cls,jc.n1,rfl,?_⟩;and_intros;refine ⟨d,rfl, .inl ⟨y, .inl t⟩,?_⟩;refine ⟨q,_,dq,_, .str p.en,rfl,R,C.cls,C.n3,rfl,?_⟩;and_intros;refine ⟨len0,?_⟩;rename_i Z m e9 W d0 G e2;and_intros;refine ⟨y,Sum.inr p.en,G _ _ t,rfl,by ac_nf,fun v hv=>?_,fun hv=>?_⟩
  ·obtain ⟨l,r,c6,d3,a6,c5⟩:∃ l r,v=.ref l/\H0 l=none/\W l=some (.lst r)/\All2 (LeV W) ((addL (JaA ls) p.st (p.en,(p.nm,true))) p.en) r:=by
    rcases a0.at_ p.en with ⟨h1,_⟩ | ⟨l,r,h1,h2,h3,h4⟩
    ·rw [hv] at h1;cases h1
    ·rw [hv] at h1;cases h1;exact ⟨l,r,rfl,h2,h3,h4⟩
   subst c6;have f1:r.length<=21:=by rw [c5.length];exact d1 _
   refine ⟨.inl ⟨rfl,_,SqL.of (G _ _ a6)⟩,?_⟩;and_intros;have a:=G _ _ R;obtain ⟨B,N⟩:∃ H',H'=d0:=⟨_,rfl⟩;rw [<- N] at a ⊢;refine ⟨q,_,dq,_, .str p.st,rfl,a,C.cls,C.n2,rfl,?_⟩;and_intros;refine ⟨q,_,dq,_, .str p.nm,rfl,a,C.cls,C.n1,rfl,?_⟩;and_intros;refine ⟨len2,?_⟩;rename_i b5 c3 b9 B b2 b1 c2;and_intros;refine ⟨len2,?_⟩;rename_i M b8 b7 b2 x L b4;and_intros;have S:LeV x (p.st,(p.nm,false)) (.ref M):=⟨M,b5,rfl,b4,L _ _ c2⟩;have c:=b1.trans L;have i:=c _ _ (by rw [N];exact G _ _ a6:B l=some (.lst r));refine ⟨l,r,_,rfl,rfl,i,by ac_nf,?_⟩;generalize u3:upd x l _=H3;and_intros;have n:Same W x:=fun b u h=>c _ _ (by rw [N];exact G _ _ h);have O:=(a0.same n).more hv i S u3;have U:SameJ d W H3:=fun b u _ Y h=>by rw [<- u3,Jag (fun z=>by have:=n _ _ h;rw [z,i] at this;cases this;exact Y _ rfl)];exact n _ _ h
   have a3:H3 d=some (.dK y):=by rw [<- u3,Jag (fun z=>by have:=n _ _ t;rw [z,i] at this;cases this)];exact n _ _ t
   have b0:Same H0 H3:=fun b u h=>by rw [<- u3,Jag (Jah h d3)];exact n _ _ (b3 _ _ h)
   rw [Jc5 d6] at O;refine k H3 b0 (fun b u J Y h=>U b u J Y (a2 b u J Y h)) ⟨⟨dx,U _ _ nj (by intro r z;cases z) a9⟩,b6,_,a3,?_,O⟩;rw [length_append,length_singleton];ac_nf
  ·have a7:H0 Z=none:=by
    cases e:H0 Z with
    | none=>rfl
    | some o=>rw [b3 _ _ e] at m;cases m
   generalize uc:upd d0 d _=B;and_intros;have nd:Z≠d:=fun z=>by rw [z,t] at m;cases m
   have a8:B Z=some (.lst []):=by rw [<- uc,Jag nd];exact e2
   have D:∀ b u,b≠d->W b=some u->B b=some u:=fun b u J h=>by rw [<- uc,Jag J];exact G _ _ h
   have c8:B d=some (.dK (putK y (Sum.inr p.en) (.ref Z))):=by rw [<- uc,Jaj]
   refine ⟨.inl ⟨rfl,_,SqL.of a8⟩,?_⟩;and_intros;have a:=D _ _ (fun z=>by rw [z,t] at R;cases R) R;refine ⟨q,_,dq,_, .str p.st,rfl,a,C.cls,C.n2,rfl,?_⟩;and_intros;refine ⟨q,_,dq,_, .str p.nm,rfl,a,C.cls,C.n1,rfl,?_⟩;and_intros;refine ⟨len2,?_⟩;rename_i b5 c3 b9 B b2 b1 c2;and_intros;refine ⟨len2,?_⟩;rename_i M b8 b7 b2 x L b4;and_intros;have S:LeV x (p.st,(p.nm,false)) (.ref M):=⟨M,b5,rfl,b4,L _ _ c2⟩;have c:=b1.trans L;have i:=c _ _ a8;refine ⟨Z,[],_,rfl,rfl,i,by show 0<sizeLine;ac_nf,?_⟩;generalize u3:upd x Z _=H3;and_intros;have O:=((a0.sx D t).same c).first hv a7 (fun g l' a5 z=>by
    rcases a0.at_ g with ⟨h1,_⟩ | ⟨Z,xs2,h1,_,h3,_⟩
    ·rw [a5] at h1;cases h1
    ·rw [a5] at h1;cases h1;rw [z,m] at h3;cases h3) i S u3
   have U:SameJ d W H3:=fun b u J Y h=>by rw [<- u3,Jag (fun z=>by rw [z,m] at h;cases h)];exact c _ _ (D _ _ J h)
   have a3:=c _ _ c8;rw [show x d=H3 d by rw [<- u3,Jag (Ne.symm nd)]] at a3;have b0:Same H0 H3:=fun b u h=>by rw [<- u3,Jag (Jah h a7)];exact c _ _ (D _ _ (Jah h b6) (b3 _ _ h))
   have lp:=Jbg y (Sum.inr p.en) (V.ref Z);rw [Jc5 d6] at O;refine k H3 b0 (fun b u J Y h=>U b u J Y (a2 b u J Y h)) ⟨⟨dx,U _ _ nj (by intro r z;cases z) a9⟩,b6,_,a3,?_,O⟩;rw [length_append,length_singleton];ac_nf
 ·have a7:H0 l1=none:=by
   cases e:H0 l1 with
   | none=>rfl
   | some o=>rw [d7 _ _ e] at X;cases X
  generalize uc:upd f0 d _=c0;and_intros;have nd:l1≠d:=fun z=>by rw [z,a1] at X;cases X
  have a8:c0 l1=some (.lst []):=by rw [<- uc,Jag nd];exact f2
  have D:∀ b u,b≠d->H1 b=some u->c0 b=some u:=fun b u J h=>by rw [<- uc,Jag J];exact c4 _ _ h
  have c8:c0 d=some (.dK (putK y (Sum.inr p.st) (.ref l1))):=by rw [<- uc,Jaj]
  refine ⟨.inl ⟨rfl,_,SqL.of a8⟩,?_⟩;and_intros;have a:=D _ _ (fun z=>by rw [z,a1] at a4;cases a4) a4;refine ⟨q,_,dq,_, .str p.en,rfl,a,C.cls,C.n3,rfl,?_⟩;and_intros;refine ⟨q,_,dq,_, .str p.nm,rfl,a,C.cls,C.n1,rfl,?_⟩;and_intros;refine ⟨len2,?_⟩;rename_i e3 e7 e4 c0 e0 d8 e6;and_intros;refine ⟨len2,?_⟩;rename_i c7 e5 e1 e0 c1 d4 d9;and_intros;have d2:LeV c1 (p.en,(p.nm,true)) (.ref c7):=⟨c7,e3,rfl,d9,d4 _ _ e6⟩;have I:=d8.trans d4;have i:=I _ _ a8;refine ⟨l1,[],_,rfl,rfl,i,by show 0<sizeLine;ac_nf,?_⟩;generalize u2:upd c1 l1 _=W;and_intros;have a0:=((d5.sx D a1).same I).first hv a7 (fun g l' a5 z=>by
   rcases d5.at_ g with ⟨h1,_⟩ | ⟨Z,xs2,h1,_,h3,_⟩
   ·rw [a5] at h1;cases h1
   ·rw [a5] at h1;cases h1;rw [z,X] at h3;cases h3) i d2 u2
  have a2:SameJ d H1 W:=fun b u J Y h=>by rw [<- u2,Jag (fun z=>by rw [z,X] at h;cases h)];exact I _ _ (D _ _ J h)
  have t:=I _ _ c8;rw [show c1 d=W d by rw [<- u2,Jag (Ne.symm nd)]] at t;have b3:Same H0 W:=fun b u h=>by rw [<- u2,Jag (Jah h a7)];exact I _ _ (D _ _ (Jah h b6) (d7 _ _ h))
  have lp:=Jbg y (Sum.inr p.st) (V.ref l1);have a9:=a2 _ _ nj (by intro r z;cases z) c9;have R:=a2 _ _ nq (by intro r z;cases z) a4;have d1:∀ f,(addL (JaA ls) p.st (p.en,(p.nm,true)) f).length<=21:=fun f=>by
   have:=Je2 ls f;unfold addL;split
   ·rw [length_append,length_singleton];ac_nf
   ·ac_nf
  and_intros;refine ⟨j,_,dx,_, .ref d,rfl,a9,jc.cls,jc.n1,rfl,?_⟩;and_intros;refine ⟨d,rfl, .inl ⟨(putK y (Sum.inr p.st) (V.ref l1)), .inl t⟩,?_⟩;refine ⟨q,_,dq,_, .str p.en,rfl,R,C.cls,C.n3,rfl,?_⟩;and_intros;refine ⟨len0,?_⟩;rename_i Z m e9 W d0 G e2;and_intros;refine ⟨(putK y (Sum.inr p.st) (V.ref l1)),Sum.inr p.en,G _ _ t,rfl,by ac_nf,fun v hv=>?_,fun hv=>?_⟩
  ·obtain ⟨l,r,c6,d3,a6,c5⟩:∃ l r,v=.ref l/\H0 l=none/\W l=some (.lst r)/\All2 (LeV W) ((addL (JaA ls) p.st (p.en,(p.nm,true))) p.en) r:=by
    rcases a0.at_ p.en with ⟨h1,_⟩ | ⟨l,r,h1,h2,h3,h4⟩
    ·rw [hv] at h1;cases h1
    ·rw [hv] at h1;cases h1;exact ⟨l,r,rfl,h2,h3,h4⟩
   subst c6;have f1:r.length<=21:=by rw [c5.length];exact d1 _
   refine ⟨.inl ⟨rfl,_,SqL.of (G _ _ a6)⟩,?_⟩;and_intros;have a:=G _ _ R;obtain ⟨B,N⟩:∃ H',H'=d0:=⟨_,rfl⟩;rw [<- N] at a ⊢;refine ⟨q,_,dq,_, .str p.st,rfl,a,C.cls,C.n2,rfl,?_⟩;and_intros;refine ⟨q,_,dq,_, .str p.nm,rfl,a,C.cls,C.n1,rfl,?_⟩;and_intros;refine ⟨len2,?_⟩;rename_i b5 c3 b9 B b2 b1 c2;and_intros;refine ⟨len2,?_⟩;rename_i M b8 b7 b2 x L b4;and_intros;have S:LeV x (p.st,(p.nm,false)) (.ref M):=⟨M,b5,rfl,b4,L _ _ c2⟩;have c:=b1.trans L;have i:=c _ _ (by rw [N];exact G _ _ a6:B l=some (.lst r));refine ⟨l,r,_,rfl,rfl,i,by ac_nf,?_⟩;generalize u3:upd x l _=H3;and_intros;have n:Same W x:=fun b u h=>c _ _ (by rw [N];exact G _ _ h);have O:=(a0.same n).more hv i S u3;have U:SameJ d W H3:=fun b u _ Y h=>by rw [<- u3,Jag (fun z=>by have:=n _ _ h;rw [z,i] at this;cases this;exact Y _ rfl)];exact n _ _ h
   have a3:H3 d=some (.dK (putK y (Sum.inr p.st) (V.ref l1))):=by rw [<- u3,Jag (fun z=>by have:=n _ _ t;rw [z,i] at this;cases this)];exact n _ _ t
   have b0:Same H0 H3:=fun b u h=>by rw [<- u3,Jag (Jah h d3)];exact n _ _ (b3 _ _ h)
   rw [Jc5 d6] at O;refine k H3 b0 (fun b u J Y h=>U b u J Y (a2 b u J Y h)) ⟨⟨dx,U _ _ nj (by intro r z;cases z) a9⟩,b6,_,a3,?_,O⟩;rw [length_append,length_singleton];ac_nf
  ·have a7:H0 Z=none:=by
    cases e:H0 Z with
    | none=>rfl
    | some o=>rw [b3 _ _ e] at m;cases m
   generalize uc:upd d0 d _=B;and_intros;have nd:Z≠d:=fun z=>by rw [z,t] at m;cases m
   have a8:B Z=some (.lst []):=by rw [<- uc,Jag nd];exact e2
   have D:∀ b u,b≠d->W b=some u->B b=some u:=fun b u J h=>by rw [<- uc,Jag J];exact G _ _ h
   have c8:B d=some (.dK (putK (putK y (Sum.inr p.st) (V.ref l1)) (Sum.inr p.en) (.ref Z))):=by rw [<- uc,Jaj]
   refine ⟨.inl ⟨rfl,_,SqL.of a8⟩,?_⟩;and_intros;have a:=D _ _ (fun z=>by rw [z,t] at R;cases R) R;refine ⟨q,_,dq,_, .str p.st,rfl,a,C.cls,C.n2,rfl,?_⟩;and_intros;refine ⟨q,_,dq,_, .str p.nm,rfl,a,C.cls,C.n1,rfl,?_⟩;and_intros;refine ⟨len2,?_⟩;rename_i b5 c3 b9 B b2 b1 c2;and_intros;refine ⟨len2,?_⟩;rename_i M b8 b7 b2 x L b4;and_intros;have S:LeV x (p.st,(p.nm,false)) (.ref M):=⟨M,b5,rfl,b4,L _ _ c2⟩;have c:=b1.trans L;have i:=c _ _ a8;refine ⟨Z,[],_,rfl,rfl,i,by show 0<sizeLine;ac_nf,?_⟩;generalize u3:upd x Z _=H3;and_intros;have O:=((a0.sx D t).same c).first hv a7 (fun g l' a5 z=>by
    rcases a0.at_ g with ⟨h1,_⟩ | ⟨Z,xs2,h1,_,h3,_⟩
    ·rw [a5] at h1;cases h1
    ·rw [a5] at h1;cases h1;rw [z,m] at h3;cases h3) i S u3
   have U:SameJ d W H3:=fun b u J Y h=>by rw [<- u3,Jag (fun z=>by rw [z,m] at h;cases h)];exact c _ _ (D _ _ J h)
   have a3:=c _ _ c8;rw [show x d=H3 d by rw [<- u3,Jag (Ne.symm nd)]] at a3;have b0:Same H0 H3:=fun b u h=>by rw [<- u3,Jag (Jah h a7)];exact c _ _ (D _ _ (Jah h b6) (b3 _ _ h))
   have lp:=Jbg (putK y (Sum.inr p.st) (V.ref l1)) (Sum.inr p.en) (V.ref Z);rw [Jc5 d6] at O;refine k H3 b0 (fun b u J Y h=>U b u J Y (a2 b u J Y h)) ⟨⟨dx,U _ _ nj (by intro r z;cases z) a9⟩,b6,_,a3,?_,O⟩;rw [length_append,length_singleton];ac_nf
abbrev Bad:Stmt:=inClass (top 58) 2
theorem JaL:Jan ["self","one","other","found","waiting","face","lead"] ["self","one","other"] (Jae Bad):=by bv_decide
def Jba (K:W.Frag) (Ad:Adr):Sp:=fun vs H Q E=>∃ (j d:Addr) (one other:Str) (ls:List PD) (H0:Hp),vs=[.ref j, .str one, .str other]/\JK Ad H0 H j d ls/\ls.length<=20/\(ls.map (·.nm)).Nodup/\(¬ Conn ls one other->∀ H',Same H H'->Q .non H')/\(∀ w l xs H',Same H H'->H l=none->H' l=some (.lst xs)->All2 (CV H') w xs->Jbi ls one w other->(w.map (·.1)).Nodup->Q (.ref l) H')
theorem JcF (F:FunD K "way_between" "Joints.way_between" Bad dV f fd) (T:Txt K mg Ad)  : FnOk P w K mg base (CX1 P w) 1 f fd ["self","one","other"] (Jba K Ad):=by
 refine F.okn JaL (by subst_eqs) (fun i9 A e8 s H vs Q E hr h=>?_)
 obtain ⟨j,d,one,other,M,H0,rfl,h⟩:=h;have hu:=hr.units;refine ⟨_,(Jab (Jak (i:=3) JaL.nd rfl (Or.inl rfl) (JkA (Jjh (pv 1) (Ja2 Jac) JkG) rfl rfl (by simp) ⋯))
   (Jab (Jak (i:=4) JaL.nd rfl (Or.inl rfl) (Ja2 (Jaa (pv 1) Jac)))
   (Jab (JdN PassesOwn.never (Jay Jg0 (Jat Ja5 rfl T.BbI Jbr (Jaa (pv 4) Jac)) Jad (Jaw _))
   (Jab (Jak (i:=5) JaL.nd rfl (Or.inl rfl) (JjG PySem.F.plainAttrs_list PySem.F.slot_list_pop PySem.F.type_list_pop Jli (pv 4)))
   (Jai (Ja3 PassesOwn.never rfl (pi_U (Jjf (hu1 hu) (Jaq (pv 0) rfl) (pv 5) (Ja2 Jac) ⟨rfl,rfl,rfl,rfl⟩)) (Jar (i:=6) JaL.nd rfl (Or.inl rfl))
   (Jai (ps_if (Jej (Jdd (hu1 hu) (pe_ix ix_U (pv 6) Jad (fun _ _=>rfl)) (pv 3)) (by with_unfolding_all rfl))
   (Jab (Jb1 (hu1 hu) (pv 3) (pe_ix ix_U (pv 6) Jad (fun _ _=>rfl)) (pe_op Ja6 (Jbh (hu1 hu) (pv 3) (pv 5) (fun _ _=>rfl)) (Ja2 (Jaa (pe_ix ix_U (pv 6) Jad (fun _ _=>rfl)) Jac))) rfl)
   (Jai (Ja4 (pe_bm PySem.F.plainAttrs_list PySem.F.slot_list_append PySem.F.type_list_append JaY (pv 4) (Jaa (pe_ix ix_U (pv 6) Jad (fun _ _=>rfl)) Jac) (hs:=by exact Jaf rfl)))))
   Jav))))))
   (Jai (Jap (Jje (hu1 hu) (pv 3) (pv 2) ⟨rfl,rfl,rfl,rfl⟩)))))),?_⟩
 clear hu;obtain ⟨⟨⟨dx,hj⟩,i7,d0,hd,hk,hJ⟩,hl,e6,k1,k2⟩:=h;have sl:(1000:Nat)<=sizeLine:=by decide
 have jc:=T.Bcq _ rfl;show tSeq _ _ _ [some (.ref j),some (.str one),some (.str other),none,none,none,none] H;and_intros;rename_i fd b0 h0 H H1 S1 e1;and_intros;refine ⟨len0,?_⟩;rename_i l0 N h9 H1 H2 S2 e2;and_intros;refine ⟨S2 _ _ e1,[(Sum.inr one, .ref l0)],rfl,by show 1<=15;ac_nf,?_⟩;generalize u3:upd H2 fd _=H3;and_intros;have e3:H3 fd=some (.dK [(Sum.inr one, .ref l0)]):=by rw [<- u3];exact Jaj.trans rfl
 have g5:l0≠fd:=fun z=>by rw [z,e1] at N;cases N
 have c1:H3 l0=some (.lst []):=by rw [<- u3,Jag g5];exact e2
 have b8:Same H H3:=fun b u h=>by rw [<- u3,Jag (Jah h b0)];exact S2 _ _ (S1 _ _ h)
 have g1:H l0=none:=by
  cases e:H l0 with
  | none=>rfl
  | some o=>rw [S1 _ _ e] at N;cases N
 refine ⟨by show 1<=sizeLine;ac_nf,?_⟩;rename_i I G i0 H3 H4 S4 e4;and_intros;have b5:H I=none:=by
  cases e:H I with
  | none=>rfl
  | some o=>rw [b8 _ _ e] at G;cases G
 have f0:l0≠I:=fun z=>by rw [<- z,c1] at G;cases G
 have j2:fd≠I:=fun z=>by rw [<- z,e3] at G;cases G
 have f7:Srch H M one fd I H4 [(one,[])] [one]:=⟨b8.trans S4,⟨_,S4 _ _ e3,rfl, .ref l0,[],rfl,⟨l0,[],rfl,g1,f0,S4 _ _ c1,rfl⟩,rfl⟩,by simp,by simp,fun a J=>by rw [mem_singleton.mp J];exact .nil,e4,by simp,by simp,fun a J=>by rw [mem_singleton.mp J];simp⟩;refine ⟨fun m σ H'=>∃ (v5 v6:Option V) (ws:List (Str × List Pr)) (wt:List Str),σ=[some (.ref j),some (.str one),some (.str other),some (.ref fd),some (.ref I),v5,v6]/\Srch H M one fd I H' ws wt/\(∀ a∈ws,a.1∉wt->∀ e∈JaA M a.1,e.1∈ws.map (·.1))/\m=2*(41-ws.length)+wt.length/\m<=81,⟨_,none,none,[(one,[])],[one],rfl,f7,fun a J X=>absurd (by rw [mem_singleton.mp J];simp) X,rfl,by simp⟩,?_⟩;rintro m σ H5 ⟨v5,v6,ws,wt,rfl,O,cl,rfl,b2⟩;and_intros;refine ⟨_, .inl (SqL.of O.wait),?_⟩;and_intros;rcases List.eq_nil_or_concat wt with rfl | ⟨wt',face,rfl⟩
 ·rw [if_neg (by simp)];and_intros;obtain ⟨g3,d4,f6⟩:=O.dict;and_intros;refine ⟨fd,rfl, .inl ⟨g3, .inl d4⟩,_,DGet.k (k:=Sum.inr other) d4,?_⟩;rcases f6.get (z:=other) with ⟨a,v,R,h2,h3,l,xs,rfl,h4,_,h5,h6⟩ | ⟨R,h2⟩
  ·rw [h3];exact k2 a.2 l xs H5 O.same h4 h5 h6 (by rw [<- h2];exact O.walk a R) (O.sim a R).1
  ·rw [h2];refine k1 (fun hc=>R (Jj7 O.here (fun f hf e he=>?_) hc)) H5 O.same;obtain ⟨a,J,rfl⟩:=mem_map.mp hf;exact cl a J (by simp) e he
 ·rw [if_pos (by simp)];and_intros;rw [List.concat_eq_append] at O cl b2 ⊢;refine ⟨_,fun _ _ q=>q,?_⟩;and_intros;refine ⟨.inl ⟨rfl,_,SqL.of O.wait⟩,?_⟩;refine ⟨I,_, .str face,rfl,rfl,O.wait,by simp,?_⟩;generalize u6:upd H5 I _=H6;and_intros;have ed:((wt'++[face]).map V.str).dropLast=wt'.map V.str:=by simp
  rw [ed] at u6;have a8:Srch H M one fd I H6 ws wt':=O.wait' b5 u6 fun f hf=>O.sub f (by simp [hf]);have b4:=O.sub face (by simp);and_intros;refine ⟨j,_,dx,_, .ref d,rfl,a8.same _ _ hj,jc.cls,jc.n1,rfl,?_⟩;and_intros;refine ⟨d,rfl, .inl ⟨d0, .inl (a8.same _ _ hd)⟩,len0,?_⟩;rename_i le c2 i1 H6 H7 S7 e7;and_intros;have a2:=a8.grow S7;have g2:le≠I:=fun z=>by have:=a8.wait;rw [<- z,c2] at this;cases this
  refine ⟨_,DGet.k (k:=Sum.inr face) (a2.same _ _ hd),?_⟩;obtain ⟨la,xs,d9,c7,c3,g9⟩:∃ la xs,(valV d0 (Sum.inr face)).getD (.ref le)=.ref la/\H7 la=some (.lst xs)/\All2 (LeV H7) (JaA M face) xs/\la≠I:=by
   rcases hJ.at_ face with ⟨R,h2⟩ | ⟨l,xs,R,h2,h3,h4⟩
   ·exact ⟨le,[],by rw [R];rfl,e7,by rw [h2];rfl,g2⟩
   ·exact ⟨l,xs,by rw [R];rfl,a2.same _ _ h3,h4.mono fun _ _ z=>z.sameT a2.same.t,Jah h3 b5⟩
  have lx:=c3.length;have i3:=a2.len hl;refine ⟨la,d9,ForA.byL (xs:=xs) (SqL.of c7) (fun i σ H'=>i<=xs.length/\∃ (v6:Option V) (r:List (Str × List Pr)) (C:List Str),σ=[some (.ref j),some (.str one),some (.str other),some (.ref fd),some (.ref I),some (.str face),v6]/\Srch H M one fd I H' r C/\H' la=some (.lst xs)/\SameT H7 H'/\(∀ a∈r,a.1∉C->a.1≠face->∀ e∈JaA M a.1,e.1∈r.map (·.1))/\(∀ e∈(JaA M face).take i,e.1∈r.map (·.1))/\face∈r.map (·.1)/\2*(41-r.length)+C.length<=2*(41-ws.length)+wt'.length) ⟨Nat.zero_le _,v6,ws,wt',rfl,a2,c7,SameT.refl _,fun a J R h2=>cl a J (by simp [R,h2]),by simp,b4,Nat.le_refl _⟩ (fun i σ H' z=>by obtain ⟨_,_,_,_,_,_,z,_⟩:=z;exact SqL.of z) ?_ ?_⟩
  ·rintro i y σ H8 hy ⟨hi,v6,r,C,rfl,B,W,Z,a4,Y,a3,d6⟩;have li:i<xs.length:=(List.getElem?_eq_some_iff.mp hy).1;obtain ⟨e,he,b,c,rfl,f1,d7⟩:=c3.at_ hy;have a5:=Z _ _ rfl f1;have g8:=Z _ _ rfl d7;have d5:(JaA M face).take (i+1)=(JaA M face).take i++[e]:=by rw [take_succ,he];rfl
   have c9:e∈JaA M face:=List.mem_of_getElem? he;obtain ⟨j3,U,a9⟩:=B.dict;and_intros;refine ixT (i:=0) (SqT.of a5) rfl ?_;refine ⟨fd,_,rfl,DGet.k (k:=Sum.inr e.1) U,?_⟩;rw [a9.val];by_cases S:e.1∈r.map (·.1)
   ·rw [decide_eq_true S];and_intros;refine ⟨li,_,r,C,rfl,B,W,Z,a4,fun e' L=>?_,a3,d6⟩;rw [d5] at L;rcases mem_append.mp L with h' | h'
    ·exact Y e' h'
    ·rw [mem_singleton.mp h'];exact S
   ·rw [decide_eq_false S];and_intros;obtain ⟨a,v,J,f2,hv,l,xw,rfl,j0,j1,d3,b9⟩:=a9.some a3;have i4:=B.lw a J;have i6:=B.len hl;have i5:=b9.length;refine ⟨fd, .ref l,rfl,by rw [<- hv];exact DGet.k (k:=Sum.inr face) U,?_⟩;refine ixT (i:=1) (SqT.of a5) rfl ?_;refine ⟨by show 1<=sizeLine;ac_nf,?_⟩;rename_i ln h7 i2 H8 H9 S9 e9;and_intros;refine .inl ⟨l,ln,xw,_,rfl,rfl,S9 _ _ d3,e9,by simp;ac_nf,?_⟩;rename_i lr a1 h8 H9 a0 f9 g4;and_intros;and_intros;have n:=S9.trans f9;have c8:=B.grow n;refine ixT (i:=0) (SqT.of (n _ _ a5)) rfl ?_;have lk:=a9.length;refine ⟨fd,_,rfl,DPut.k (k:=Sum.inr e.1) (n _ _ U) ∅,?_⟩;generalize b3:upd a0 fd _=a7;and_intros;have n0:H lr=none:=by
     cases e:H lr with
     | none=>rfl
     | some o=>rw [S9 _ _ (B.same _ _ e)] at a1;cases a1
    have e0:lr≠I:=fun z=>by have:=(B.grow S9).wait;rw [<- z,a1] at this;cases this
    have g6:Jbi M one (a.2++[e.2]) e.1:=.snoc (by rw [<- f2];exact B.walk a J) c9;have b1:=n _ _ U;have c0:=a9.mono (P':=PWy H a0 I) fun a v ⟨l,xs,e1,X,g7,hx,J⟩=>⟨l,xs,e1,X,g7,n _ _ hx,J.mono fun _ _ z=>z.sameT n.t⟩;have cv:CV a0 e.2 (.ref c):=⟨c,rfl,n _ _ g8⟩;obtain ⟨pp,d1,c6⟩:=(Jbj (g:=e.1) (pr:=e.2)).mp c9;have c5:e.2.1=pp.nm:=by rcases c6 with h | h;rw [h.2.2];rw [h.2.2.2]
    have c4:(pp.st=face/\pp.en=e.1)\/(pp.en=face/\pp.st=e.1):=by rcases c6 with h | h;exact .inl ⟨h.1,h.2.1⟩;exact .inr ⟨h.2.1,h.2.2.1⟩
    have g0:((a.2++[e.2]).map (·.1)).Nodup/\∀ p∈M,p.nm∈(a.2++[e.2]).map (·.1)->p.st∈(r++[(e.1,a.2++[e.2])]).map (·.1)/\p.en∈(r++[(e.1,a.2++[e.2])]).map (·.1):=by
     have sm:=B.sim a J;have f8:e.2.1∉a.2.map (·.1):=fun z=>by
      have:=sm.2 pp d1 (c5 ▸ z);rcases c4 with h | h
      ·exact S (h.2 ▸ this.2)
      ·exact S (h.2 ▸ this.1)
     rw [map_append,map_append,map_cons,map_nil,map_cons,map_nil];refine ⟨nodup_append.mpr ⟨sm.1,by simp,fun x hx y hy z=>f8 (by rw [mem_singleton] at hy;rw [<- hy, <- z];exact hx)⟩,fun p hp X=>?_⟩;rcases mem_append.mp X with X | X
     ·have:=sm.2 p hp X;exact ⟨mem_append.mpr (.inl this.1),mem_append.mpr (.inl this.2)⟩
     ·have ep:=Jh8 e6 hp d1 ((mem_singleton.mp X).trans c5);subst ep;have m1:e.1∈r.map (·.1)++[e.1]:=mem_append.mpr (.inr (by simp));have m2:face∈r.map (·.1)++[e.1]:=mem_append.mpr (.inl a3);rcases c4 with h | h
      ·rw [h.1,h.2];exact ⟨m2,m1⟩
      ·rw [h.1,h.2];exact ⟨m1,m2⟩
    have D:=c8.find b1 c0 b0 S g6 (by simp;ac_nf) g0 n0 e0 g4 ((b9.mono (P':=CV a0) fun _ _ z=>z.sameT n.t).append (.one cv)) b3;have b7:SameT a0 a7:=SameT.put b3 b1 rfl;have e5:la≠fd:=fun z=>by rw [z,U] at W;cases W
    have d2:a7 la=some (.lst xs):=by rw [<- b3,Jag e5];exact n _ _ W
    have d8:=D.len hl;rw [length_append,length_singleton] at d8;have i8:(C.map V.str).length<=81:=by
     rw [length_map];rw [length_append,length_singleton] at b2;ac_nf
    refine ⟨.inl ⟨rfl,_,SqL.of D.wait⟩,?_⟩;refine ixT (i:=0) (SqT.of (b7 _ _ rfl (n _ _ a5))) rfl ?_;refine ⟨I,_,_,rfl,rfl,D.wait,by ac_nf,?_⟩;generalize a6:upd a7 I _=f4;and_intros;have ea:C.map V.str++[V.str e.1]=(C++[e.1]).map V.str:=by simp
    rw [ea] at a6;have b6:=D.wait' b5 a6 (fun f hf=>by
     rcases mem_append.mp hf with h' | h'
     ·exact D.sub f h'
     ·rw [mem_singleton.mp h',map_append];simp)
    have f3:SameT a7 f4:=SameT.put a6 D.wait rfl;refine ⟨li,_,r++[(e.1,a.2++[e.2])],C++[e.1],rfl,b6,by rw [<- a6,Jag g9];exact d2,Z.trans (n.t.trans (b7.trans f3)),fun a' f5 R h2 e' L=>?_,fun e' L=>?_,?_,?_⟩
    ·rw [map_append];rcases mem_append.mp f5 with h' | h'
     ·exact mem_append.mpr (.inl (a4 a' h' (fun z=>R (by simp [z])) h2 e' L))
     ·refine absurd ?_ R;rw [mem_singleton.mp h'];simp
    ·rw [map_append];rw [d5] at L;rcases mem_append.mp L with h' | h'
     ·exact mem_append.mpr (.inl (Y e' h'))
     ·rw [mem_singleton.mp h'];simp
    ·rw [map_append];exact mem_append.mpr (.inl a3)
    ·rw [length_append,length_append,length_singleton,length_singleton];ac_nf
  ·rintro σ H8 ⟨hi,v6,r,C,rfl,B,W,Z,a4,Y,a3,d6⟩;rw [length_append,length_singleton] at b2;refine ⟨_,by rw [length_append,length_singleton];ac_nf,some (.str face),v6,r,C,rfl,B,fun a J X e he=>?_,rfl,by ac_nf⟩;by_cases c:a.1=face
   ·rw [take_of_length_le ∅] at Y;rw [c] at he;exact Y e he
   ·exact a4 a J X c e he
abbrev Bai:Stmt:=inClass (top 59) 0
theorem JaJ:Jan ["self","parts","gaps","joints","row","part","gap","found"] ["self","parts","gaps"] (Jae Bai):=by bv_decide
def Jbz (K:W.Frag) (Ad:Adr):Sp:=fun vs H Q E=>∃ (x dx a c:Addr) (xs zs:List V) (es:List (PD ⊕ D)) (fs:List (GD ⊕ D)) (H0:Hp),vs=[.ref x, .ref a, .ref c]/\H x=some (.ins Ad.Thing dx [])/\H0 x=none/\Same H0 H/\SqL K H0 a xs/\All2 (PEV K H0) es xs/\SqL K H0 c zs/\All2 (GEV K H0) fs zs/\es.length<=20/\fs.length<=20/\(match partsW [] es with | .noPart=>∀ H',Same H0 H'->E (.ref Ad.NoPart) none H' | .twice=>∀ H',Same H0 H'->E (.ref Ad.Twice) none H' | .ring=>∀ H',Same H0 H'->E (.ref Ad.InRing) none H' | .ok ls=>match gapsW ls [] fs with | .noGap=>∀ H',Same H0 H'->E (.ref Ad.NoGap) none H' | .twice=>∀ H',Same H0 H'->E (.ref Ad.Twice) none H' | .apart=>∀ H',Same H0 H'->E (.ref Ad.Apart) none H' | .ok gs=>∀ H',Same H0 H'->TK K Ad H' x ls gs->Q .non H')
theorem Jdu (F:FunD K "__init__" "Thing.__init__" Bai dV f fd) (T:Txt K mg Ad) (Bda:KCal P w K mg base 1 "Joints" Ad.Joints ["self"] (Jbo K Ad)) (BcT:Cal P w K mg base 6 "part_of" ["thing"] [] (JdA K Ad)) (Bdb:Cal P w K mg base 7 "gap_of" ["thing"] [] (Jeq K Ad)) (Ba2:MCal P w K mg base 1 "way_between" (Jc4 Ad) ["self","one","other"] (Jba K Ad)) (BdN:MCal P w K mg base 1 "link" (Jc4 Ad) ["self","part"] (Jb3 K Ad)):FnOk P w K mg base (CX1 P w) 9 f fd ["self","parts","gaps"] (Jbz K Ad):=by
 refine F.okx JaJ (fun vs H Q E h=>?_) (fun m8 A k0 s H vs Q E hr h=>?_)
 ·obtain ⟨x,dx,a,c,xs,zs,es,fs,N,rfl,_⟩:=h;rfl
 obtain ⟨x,dx,a,c,xs,zs,es,fs,N,rfl,h⟩:=h;have hu:=hr.units;refine ⟨_,(Jab (Jak (i:=3) JaJ.nd rfl (Or.inl rfl) (Bda.ev0 hr ⋯ rfl pass1))
   (Jab (JaR (pv 0) JbH rfl)
   (Jab (Ja3 PassesOwn.leaving rfl (pi_U (pv 1)) (Jar (i:=4) JaJ.nd rfl (Or.inl rfl))
   (Jab (Jak (i:=5) JaJ.nd rfl (Or.inl rfl) (BcT.ev hr ⋯ rfl pass1 (Jaa (pv 4) Jac) (he:=by exact Jaf rfl)))
   (Jab (ps_if (Jej (Jg2 (hu1 hu) (Jaq (pv 5) rfl) (Jaq (pv 0) rfl)) (by with_unfolding_all rfl))
   (Jai (JbX PySem.F.excBase_ValueError T.Bcs rfl T.BdK (Jaa JbM Jac)))
   Jav)
   (Jab (ps_if (Jay Jfh (Ba2.m hr ⋯ pass1 (pv 3) (Jaa (Jaq (pv 5) rfl) (Jaa (Jaq (pv 5) rfl) Jac))) JcI (Jaw _))
   (Jai (JbX PySem.F.excBase_ValueError T.Bcf rfl T.BdX (Jaa JbM Jac)))
   Jav)
   (Jab (Ja4 (BdN.m hr ⋯ pass1 (pv 3) (Jaa (pv 5) Jac)))
   (Jai (Jb1 (hu1 hu) (Jaq (pv 0) rfl) (Jaq (pv 5) rfl) (pv 5) rfl)))))))
   (Jab (JaR (pv 0) JbH rfl)
   (Jab (JaR (pv 0) JbH rfl)
   (Jai (Ja3 PassesOwn.leaving rfl (pi_U (pv 2)) (Jar (i:=4) JaJ.nd rfl (Or.inl rfl))
   (Jab (Jak (i:=6) JaJ.nd rfl (Or.inl rfl) (Bdb.ev hr ⋯ rfl pass1 (Jaa (pv 4) Jac) (he:=by exact Jaf rfl)))
   (Jab (ps_if (Jej (Jg2 (hu1 hu) (Jaq (pv 6) rfl) (Jaq (pv 0) rfl)) (by with_unfolding_all rfl))
   (Jai (JbX PySem.F.excBase_ValueError T.Bcs rfl T.BdK (Jaa JbM Jac)))
   Jav)
   (Jab (Jak (i:=7) JaJ.nd rfl (Or.inl rfl) (Ba2.m hr ⋯ pass1 (pv 3) (Jaa (Jaq (pv 6) rfl) (Jaa (Jaq (pv 6) rfl) Jac))))
   (Jab (ps_if (Jay JcG (pv 7) JcI (Jaw _))
   (Jai (JbX PySem.F.excBase_ValueError T.BcH rfl T.Bd2 (Jaa JbM Jac)))
   Jav)
   (Jab (Jb1 (hu1 hu) (Jaq (pv 0) rfl) (Jaq (pv 6) rfl) (pv 6) rfl)
   (Jai (Jb1 (hu1 hu) (Jaq (pv 0) rfl) (Jaq (pv 6) rfl) (pv 7) rfl)))))))))))))),?_⟩
 clear hu;obtain ⟨hx,f8,S0,hS,hE,hC,hG,hl,hg,k⟩:=h;have tc:=T.Bbb _ rfl;have pc:=T.Bc3 _ rfl;have gc:=T.BdL _ rfl;have sl:(1000:Nat)<=sizeLine:=by decide
 have le:=hE.length;have lg:=hG.length;show tSeq _ _ _ [some (.ref x),some (.ref a),some (.ref c),none,none,none,none,none] H;symm_saturate;intro j dj hj j5 nj;have Sm:Same H (upd (upd H dj (.own j)) j (.ins Ad.Joints dj [])):=fun b u q=>by rw [Jag (Jah q hj),Jag (Jah q j5)];exact q
 generalize um:upd (upd H dj (.own j)) j (.ins Ad.Joints dj [])=Hm at Sm ⊢;symm_saturate;have em:Hm j=some (.ins Ad.Joints dj []):=by rw [<- um,Jaj]
 refine ⟨j,dj,rfl,em,fun d H1 k4 m7 l4 b9 j3=>⟨rfl,?_⟩⟩;have J:∀ {H:Hp} {b:Addr},Same N H->H b=none->N b=none:=fun {H b} S h=>by
  cases e:N b with
  | none=>rfl
  | some o=>rw [S _ _ e] at h;cases h
 have c8:∀ {H r:Hp} {d:Addr} {kv:List (Key × V)},(∀ b u,b≠d->H b=some u->r b=some u)->H d=some (.dK kv)->SameI H r:=fun {H r d kv} S hd b u t h=>S b u (fun z=>by rw [z,hd] at h;cases h;simp [isTI,isTF] at t) h;have i4:∀ {H r:Hp} {d b:Addr} {kv:List (Key × V)} {ys:List V},(∀ b u,b≠d->H b=some u->r b=some u)->H d=some (.dK kv)->H b=some (.lst ys)->r b=some (.lst ys):=fun {H r d b kv ys} S hd h=>S _ _ (fun z=>by rw [z,hd] at h;cases h) h;have f2:∀ {H r:Hp} {e:Addr} {kv:List (Key × V)} {G:List PD},(∀ b u,b≠e->H b=some u->r b=some u)->H e=some (.dK kv)->e≠d->JK Ad N H j d G->JK Ad N r j d G:=fun {H r e kv G} S he ne ⟨⟨dj,h1⟩,h2,kvs,h3,h4,h5⟩=>⟨⟨dj,S _ _ (fun z=>by rw [z,he] at h1;cases h1) h1⟩,h2,kvs,S _ _ (Ne.symm ne) h3,h4,h5.sx S he⟩;have j0:=J S0 hj;have g0:Same N H1:=fun b u h=>j3 b u (Jah h j0) (Sm _ _ (S0 _ _ h));have f6:x≠j:=Jah hx hj;have d8:H1 x=some (.ins Ad.Thing dx []):=j3 x _ f6 (Sm _ _ hx);have d0:N d=none:=J (S0.trans Sm) k4
 (try ((with_reducible refine Nxt.go (by assumption) ?_);symm_saturate))
 rename_i O W m2 H1 H2 S2 e2;symm_saturate;symm_saturate;refine ⟨x,_,dx,_,rfl,S2 _ _ d8,tc.cls,tc.n1,by simp,?_⟩;generalize u3:upd H2 x _=H3;symm_saturate;have e3:H3 x=some (.ins Ad.Thing dx [("parts_by_name", .ref O)]):=by rw [<- u3];exact Jaj.trans rfl
 have b8:∀ b u,b≠x->H2 b=some u->H3 b=some u:=fun b u hb h=>by rw [<- u3,Jag hb];exact h
 have g3:Same N H3:=fun b u h=>b8 _ _ (Jah h f8) (S2 _ _ (g0 _ _ h));have e1:d≠x:=fun z=>by rw [z,d8] at b9;cases b9
 have a3:O≠x:=fun z=>by rw [z,d8] at W;cases W
 have c7:O≠d:=fun z=>by rw [z,b9] at W;cases W
 have g7:H3 O=some (.dK []):=b8 _ _ a3 e2;have j9:=J g0 W;have k8:JK Ad N H3 j d []:=⟨⟨dj,b8 _ _ (Ne.symm f6) (S2 _ _ l4)⟩,d0,[],b8 _ _ e1 (S2 _ _ b9),by simp,JD.nil⟩;refine ⟨a,rfl,ForA.byL (xs:=xs) (hS.same g3) (fun i σ r=>i<=xs.length/\∃ (v4 v5:Option V) (k1:List (Key × V)) (G:List PD),σ=[some (.ref x),some (.ref a),some (.ref c),some (.ref j),v4,v5,none,none]/\Same N r/\r x=some (.ins Ad.Thing dx [("parts_by_name", .ref O)])/\JK Ad N r j d G/\r O=some (.dK k1)/\BG (·.nm) (POV K Ad r) G k1/\G.length=i/\(G.map (·.nm)).Nodup/\partsW G (es.drop i)=partsW [] es) ⟨Nat.zero_le _,none,none,[],[],rfl,g3,e3,k8,g7,⟨rfl,rfl⟩,rfl, .nil,rfl⟩ (fun i σ r z=>by obtain ⟨_,_,_,_,_,_,z,_⟩:=z;exact hS.same z) ?_ ?_⟩
 ·rintro i y σ H4 hy ⟨hi,v4,v5,k1,G,rfl,S4,a2,f9,a5,b6,j2,b7,hw⟩;have li:i<xs.length:=(List.getElem?_eq_some_iff.mp hy).1;obtain ⟨e,he,d7⟩:=hE.at_ hy;have a7:i<es.length:=by ac_nf
  have f4:es.drop i=e::es.drop (i+1):=by
   rw [List.drop_eq_getElem_cons a7];rw [List.getElem?_eq_getElem a7] at he;rw [Option.some.inj he]
  rw [f4] at hw;have lk:=b6.length;symm_saturate;match e,d7.same S4,hw with
  | .inr cc,ev,hw=>
   rw [Jhu] at hw;rw [<- hw] at k;exact ⟨y, .inr cc,rfl,ev,fun H5 S5=>k H5 (S4.trans S5)⟩
  | .inl p,ev,hw=>
   refine ⟨y, .inl p,rfl,ev,fun v H5 S5 pv=>?_⟩;obtain ⟨q,dq,vz,vm,rfl,c0,hz,hm⟩:=id pv;have ok:=ev.2;have d5:=S5 _ _ a2;have i7:=S5 _ _ a5;have d9:=f9.same S5;have g8:=b6.mono (P':=POV K Ad H5) fun _ _ z=>z.si (Same.i S5);obtain ⟨⟨j1,i9⟩,_⟩:=id d9;symm_saturate;refine ⟨q,_,dq,_, .str p.nm,rfl,c0,pc.cls,pc.n1,rfl,?_⟩;refine ⟨x,_,dx,_, .ref O,rfl,d5,tc.cls,tc.n1,rfl,?_⟩;refine ⟨O,_,rfl,DGet.k (k:=Sum.inr p.nm) i7,?_⟩;rw [g8.val];by_cases cn:p.nm∈G.map (·.nm)
   ·rw [Jhv cn] at hw;rw [<- hw] at k;rw [decide_eq_true cn];symm_saturate;exact ⟨by show 1<=sizeLine;ac_nf,k H5 (S4.trans S5)⟩
   ·rw [decide_eq_false cn];symm_saturate;refine ⟨j,_,j1,_,rfl,i9,rfl,rfl,?_⟩;symm_saturate;refine ⟨q,_,dq,_, .str p.st,rfl,c0,pc.cls,pc.n2,rfl,?_⟩;refine ⟨q,_,dq,_, .str p.en,rfl,c0,pc.cls,pc.n3,rfl,?_⟩;refine ⟨j,d,p.st,p.en,G,N,rfl,d9,by ac_nf,b7,fun hc H6 S6=>?_,fun w l yy H6 S6 m5 e6 i0 c2 _=>?_⟩
    ·rw [Jdc cn hc] at hw;symm_saturate;have f7:=d9.same S6;have d6:=S4.trans (S5.trans S6);refine ⟨j,_,j1,_,rfl,S6 _ _ i9,rfl,rfl,?_⟩;symm_saturate;refine ⟨j,d, .ref q,G,p,N,rfl,f7,d6,pv.si (Same.i S6),ok.ne,by ac_nf,fun H7 l2 sj l1=>?_⟩;have nd:∀ {b:Addr} {C dd:Addr} {ff:List (Str × V)},H6 b=some (.ins C dd ff)->H7 b=some (.ins C dd ff):=fun {b C dd ff} h=>by
      obtain ⟨_,_,_,d4,_⟩:=f7;exact sj _ _ (fun z=>by rw [z,d4] at h;cases h) (by intro xs z;cases z) h
     have SI:SameI H6 H7:=fun b u t h=>by
      obtain ⟨_,_,_,d4,_⟩:=f7;exact sj b u (fun z=>by rw [z,d4] at h;cases h;simp [isTI,isTF] at t) (fun xs z=>by rw [z] at t;simp [isTI,isTF] at t) h
     have e4:H7 O=some (.dK k1):=sj _ _ c7 (by intro xs z;cases z) (S6 _ _ i7);have l0:=g8.mono (P':=POV K Ad H7) fun _ _ z=>(z.si (Same.i S6)).si SI;have l9:=(pv.si (Same.i S6)).si SI;symm_saturate;refine ⟨x,_,dx,_, .ref O,rfl,nd (S6 _ _ d5),tc.cls,tc.n1,rfl,?_⟩;refine ⟨q,_,dq,_, .str p.nm,rfl,nd (S6 _ _ c0),pc.cls,pc.n1,rfl,?_⟩;refine ⟨O,_,rfl,DPut.k (k:=Sum.inr p.nm) e4 ∅,?_⟩;generalize u8:upd H7 O _=H8;symm_saturate;have e8:=putE u8;have c3:∀ b u,b≠O->H7 b=some u->H8 b=some u:=fun b u hb h=>by rw [<- u8,Jag hb];exact h
     have l6:=c8 c3 e4;refine ⟨li,_,_,_,G++[p],rfl,fun b u h=>c3 _ _ (Jah h j9) (l2 _ _ h),c3 _ _ (Ne.symm a3) (nd (S6 _ _ d5)),f2 c3 e4 c7 l1,e8,?_,by simp [j2],by rw [map_append];exact nodup_append.mpr ⟨b7,by simp,fun u hu v hv z=>cn (by have e:v=p.nm:=mem_singleton.mp hv;rw [<- e, <- z];exact hu)⟩,hw⟩;exact (l0.new (a:=p) cn l9).mono fun _ _ z=>z.si l6
    ·by_cases hc:Conn G p.st p.en
     ·rw [Jgx cn hc] at hw;rw [<- hw] at k;symm_saturate;exact ⟨by show 1<=sizeLine;ac_nf,k H6 (S4.trans (S5.trans S6))⟩
     ·exact absurd ⟨w,c2⟩ hc
 ·rintro σ H4 ⟨hi,v4,v5,k1,G,rfl,S4,a2,f9,a5,b6,j2,b7,hw⟩;rw [List.drop_eq_nil_of_le ∅,partsW] at hw;rw [<- hw] at k;dsimp only at k;symm_saturate;obtain ⟨⟨k5,j7⟩,_,k7,a6,h8,l3⟩:=id f9;rename_i d2 L m3 H4 H5 S5 e5;symm_saturate;refine ⟨x,_,dx,_,rfl,S5 _ _ a2,tc.cls,tc.n2,by simp,?_⟩;generalize u6:upd H5 x _=H6;symm_saturate;have e6:H6 x=some (.ins Ad.Thing dx [("parts_by_name", .ref O),("gaps_by_name", .ref d2)]):=by rw [<- u6];exact Jaj.trans rfl
  have b4:∀ b u,b≠x->H5 b=some u->H6 b=some u:=fun b u hb h=>by rw [<- u6,Jag hb];exact h
  symm_saturate;rename_i d3 B m1 H6 H7 S7 e7;symm_saturate;refine ⟨x,_,dx,_,rfl,S7 _ _ e6,tc.cls,tc.n3,by simp,?_⟩;generalize u8:upd H7 x _=H8;symm_saturate;have e8:H8 x=some (.ins Ad.Thing dx [("parts_by_name", .ref O),("gaps_by_name", .ref d2),("ways", .ref d3)]):=by rw [<- u8];exact Jaj.trans rfl
  have c9:∀ b u,b≠x->H7 b=some u->H8 b=some u:=fun b u hb h=>by rw [<- u8,Jag hb];exact h
  have a1:∀ b u,b≠x->H4 b=some u->H8 b=some u:=fun b u hb h=>c9 _ _ hb (S7 _ _ (b4 _ _ hb (S5 _ _ h)));have b5:d2≠x:=fun z=>by rw [z,a2] at L;cases L
  have f3:d2≠O:=fun z=>by rw [z,a5] at L;cases L
  have h6:d2≠d:=fun z=>by rw [z,a6] at L;cases L
  have c5:d3≠x:=fun z=>by rw [z,e6] at B;cases B
  have g6:=b4 _ _ a3 (S5 _ _ a5);have k9:=b4 _ _ e1 (S5 _ _ a6);have c4:=b4 _ _ b5 e5;have f5:d3≠O:=fun z=>by rw [z,g6] at B;cases B
  have i1:d3≠d:=fun z=>by rw [z,k9] at B;cases B
  have a9:d3≠d2:=fun z=>by rw [z,c4] at B;cases B
  have l7:=J S4 L;have d6:Same N H6:=fun b u h=>b4 _ _ (Jah h f8) (S5 _ _ (S4 _ _ h));have k6:=J d6 B;have i6:Same N H8:=fun b u h=>a1 _ _ (Jah h f8) (S4 _ _ h);have g5:SameT H4 H8:=fun b u t h=>a1 _ _ (fun z=>by rw [z,a2] at h;cases h;simp [isTF] at t) h;have j4:JK Ad N H8 j d G:=⟨⟨k5,a1 _ _ (Ne.symm f6) j7⟩,d0,k7,a1 _ _ e1 a6,h8,l3.sy a1 a2 (by intro xs z;cases z) rfl⟩;have m0:BG (·.nm) (POV K Ad H8) G k1:=b6.mono fun p v ⟨q,dq,vz,vm,h1,h2,h3,h4⟩=>⟨q,dq,vz,vm,h1,a1 _ _ (ne_of h2 a2 (by
   intro z;injection z with _ _ z3
   have:=congrArg List.length z3;simp [partF] at this)) h2,h3.sameT g5,h4.sameT g5⟩
  refine ⟨c,rfl,ForA.byL (xs:=zs) (hC.same i6) (fun i σ r=>i<=zs.length/\∃ (v4 v6 v7:Option V) (k2 k3:List (Key × V)) (gs:List GD),σ=[some (.ref x),some (.ref a),some (.ref c),some (.ref j),v4,v5,v6,v7]/\Same N r/\r x=some (.ins Ad.Thing dx [("parts_by_name", .ref O),("gaps_by_name", .ref d2),("ways", .ref d3)])/\JK Ad N r j d G/\r O=some (.dK k1)/\BG (·.nm) (POV K Ad r) G k1/\r d2=some (.dK k2)/\BG (·.nm) (GOV K Ad r) gs k2/\r d3=some (.dK k3)/\BG (·.nm) (WOV r G) gs k3/\gs.length=i/\gapsW G gs (fs.drop i)=gapsW G [] fs) ⟨Nat.zero_le _,v4,none,none,[],[],[],rfl,i6,e8,j4,a1 _ _ a3 a5,m0,c9 _ _ b5 (S7 _ _ c4),⟨rfl,rfl⟩,c9 _ _ c5 e7,⟨rfl,rfl⟩,rfl,rfl⟩ (fun i σ r z=>by obtain ⟨_,_,_,_,_,_,_,_,z,_⟩:=z;exact hC.same z) ?_ ?_⟩
  ·rintro i y σ H9 hy ⟨hi,v4,v6,v7,k2,k3,gs,rfl,S9,b3,g9,b0,f0,a4,b1,a8,c1,i3,n⟩;have li:i<zs.length:=(List.getElem?_eq_some_iff.mp hy).1;obtain ⟨e,he,d7⟩:=hG.at_ hy;have a7:i<fs.length:=by ac_nf
   have f4:fs.drop i=e::fs.drop (i+1):=by
    rw [List.drop_eq_getElem_cons a7];rw [List.getElem?_eq_getElem a7] at he;rw [Option.some.inj he]
   rw [f4] at n;have lk:=b1.length;have m6:=c1.length;symm_saturate;match e,d7.same S9,n with
   | .inr cc,ev,n=>
    rw [JhT] at n;rw [<- n] at k;exact ⟨y, .inr cc,rfl,ev,fun e9 a0=>k e9 (S9.trans a0)⟩
   | .inl g,ev,n=>
    refine ⟨y, .inl g,rfl,ev,fun v e9 a0 gv=>?_⟩;obtain ⟨q,dq,vl,vg,rfl,R,hz,hm⟩:=id gv;have i8:=a0 _ _ b3;have h0:=a0 _ _ a4;have b2:=g9.same a0;obtain ⟨⟨g4,i5⟩,_⟩:=id b2;symm_saturate;refine ⟨q,_,dq,_, .str g.nm,rfl,R,gc.cls,gc.n1,rfl,?_⟩;refine ⟨x,_,dx,_, .ref d2,rfl,i8,tc.cls,tc.n2,rfl,?_⟩;refine ⟨d2,_,rfl,DGet.k (k:=Sum.inr g.nm) h0,?_⟩;rw [b1.val];by_cases cn:g.nm∈gs.map (·.nm)
    ·rw [JhU cn] at n;rw [<- n] at k;rw [decide_eq_true cn];symm_saturate;exact ⟨by show 1<=sizeLine;ac_nf,k e9 (S9.trans a0)⟩
    ·rw [decide_eq_false cn];symm_saturate;refine ⟨j,_,g4,_,rfl,i5,rfl,rfl,?_⟩;symm_saturate;refine ⟨q,_,dq,_, .str g.st,rfl,R,gc.cls,gc.n2,rfl,?_⟩;refine ⟨q,_,dq,_, .str g.en,rfl,R,gc.cls,gc.n3,rfl,?_⟩;refine ⟨j,d,g.st,g.en,G,N,rfl,b2,by ac_nf,b7,fun hc Z X=>?_,fun w l yy Z X m4 j8 i0 c2 l5=>?_⟩
     ·rw [Jgi cn hc] at n;rw [<- n] at k;symm_saturate;exact ⟨by show 1<=sizeLine;ac_nf,k Z (S9.trans (a0.trans X))⟩
     ·rw [JgV cn ⟨w,c2⟩] at n;symm_saturate;have D:=a0.trans X;have Y:=D _ _ a4;refine ⟨x,_,dx,_, .ref d2,rfl,D _ _ b3,tc.cls,tc.n2,rfl,?_⟩;refine ⟨q,_,dq,_, .str g.nm,rfl,X _ _ R,gc.cls,gc.n1,rfl,?_⟩;refine ⟨d2,_,rfl,DPut.k (k:=Sum.inr g.nm) Y ∅,?_⟩;generalize h7:upd Z d2 _=f1;symm_saturate;have l8:=putE h7;have I:∀ b u,b≠d2->Z b=some u->f1 b=some u:=fun b u hb h=>by rw [<- h7,Jag hb];exact h
      have i2:=c8 I Y;have c6:=I _ _ (Ne.symm b5) (D _ _ b3);have h9:=I _ _ (fun z=>by have:=X _ _ R;rw [z,Y] at this;cases this) (X _ _ R);have U:=I _ _ a9 (D _ _ a8);symm_saturate;refine ⟨x,_,dx,_, .ref d3,rfl,c6,tc.cls,tc.n3,rfl,?_⟩;refine ⟨q,_,dq,_, .str g.nm,rfl,h9,gc.cls,gc.n1,rfl,?_⟩;refine ⟨d3,_,rfl,DPut.k (k:=Sum.inr g.nm) U ∅,?_⟩;generalize g1:upd f1 d3 _=e0;symm_saturate;have j6:=putE g1;have M:∀ b u,b≠d3->f1 b=some u->e0 b=some u:=fun b u hb h=>by rw [<- g1,Jag hb];exact h
      have g2:=c8 M U;have SI:SameI Z e0:=fun b u t h=>g2 b u t (i2 b u t h);have wv:∀ {g:GD} {v:V},WOV Z G g v->WOV e0 G g v:=fun {g v} ⟨l,xs,w,h1,h2,h3,h4⟩=>⟨l,xs,w,h1,i4 M U (i4 I Y h2),h3.mono fun _ _ z=>z.sameT SI.t,h4⟩;refine ⟨li,_,_,_,_,_,gs++[g],rfl,fun b u h=>M _ _ (Jah h k6) (I _ _ (Jah h l7) (D _ _ (S9 _ _ h))),M _ _ (Ne.symm c5) c6,f2 M U i1 (f2 I Y h6 (b2.same X)),M _ _ (Ne.symm f5) (I _ _ (Ne.symm f3) (D _ _ b0)),f0.mono fun _ _ z=>(z.si (Same.i D)).si SI,M _ _ (Ne.symm a9) l8,?_,j6,?_,by simp [i3],n⟩
      ·exact ((b1.mono (P':=GOV K Ad Z) fun _ _ z=>z.si (Same.i D)).new (a:=g) cn (gv.si (Same.i X))).mono fun _ _ z=>z.si SI
      ·exact ((c1.mono (P':=WOV Z G) fun _ _ z=>z.same D).new (a:=g) cn ⟨l,yy,w,rfl,j8,i0,c2,l5⟩).mono fun _ _ z=>wv z
  ·rintro σ H9 ⟨hi,v4,v6,v7,k2,k3,gs,rfl,S9,b3,g9,b0,f0,a4,b1,a8,c1,i3,n⟩;rw [List.drop_eq_nil_of_le ∅,gapsW] at n;symm_saturate;have k':=k;simp only [<- n] at k';exact k' H9 S9 ⟨dx,O,d2,d3,k1,k2,k3,b3,b0,f0,a4,b1,a8,c1⟩
abbrev BaC:Stmt:=inClass (top 59) 1
theorem JeF:Jan ["self"] ["self"] (Jae BaC):=by bv_decide
def JaZ (K:W.Frag) (Ad:Adr):Sp:=fun vs H Q E=>∃ (x:Addr) (ls:List PD) (gs:List GD),vs=[.ref x]/\TK K Ad H x ls gs/\ls.length<=20/\∀ l ys H',Same H H'->H l=none->H' l=some (.lst ys)->All2 (PDV K H') ls ys->Q (.ref l) H'
theorem JeA (F:FunD K "parts" "Thing.parts" BaC dV f fd) (T:Txt K mg Ad) (Bdx:MCal P w K mg base 1 "plain" (IsPart Ad) ["self"] (Jck K Ad)):FnOk P w K mg base (CX1 P w) 2 f fd ["self"] (JaZ K Ad):=by
 refine F.okn JeF (by subst_eqs) (fun a1 A S s H vs Q E hr h=>?_)
 obtain ⟨x,ls,gs,rfl,h⟩:=h;refine ⟨_,(Jai (Jap (Jgz (Jeg (own:=["part"]) (cs:=[]) (cl:=[]) rfl (Jiq (Jaq (pv 0) rfl)) (fun _ _ _ _=>(Jar (i:=0) (show [("part" : Str)].Nodup by decide) rfl (Or.inl rfl))) (fun _ _ _ _=>(Bdx.m0 hr ⋯ passF (pv 0))) rfl ⋯ rfl ⋯ hcl0 (hhas0 ⋯) hcs0)))),?_⟩;obtain ⟨⟨dx,a,d2,d3,l,k2,k3,hx,j,Y,_⟩,hl,k⟩:=h;have tc:=T.Bbb _ rfl;have sl:(1000:Nat)<=sizeLine:=by decide
 have lk:=Y.length;show tRet _ _ [some (.ref x)] H;and_intros;refine ⟨a,l,j,x,_,dx,_, .ref a,rfl,hx,tc.cls,tc.n1,rfl,a,l,rfl,j,fun L=>?_⟩;generalize uf:upd H a (.frz L (.dK l))=H1;and_intros;have f1:H1 a=some (.frz L (.dK l)):=by rw [<- uf,Jaj]
 have o1:∀ b u,b≠a->H b=some u->H1 b=some u:=fun b u O h=>by rw [<- uf,Jag O];exact h
 refine CompJ.vals (fun i m B=>B a=some (.frz L (.dK l))/\(∀ b u,b≠a->H b=some u->B b=some u)/\(∀ b u,b≠a->B b=some u->H b=none->True)/\All2 (PDV K B) (ls.take i) m) ⟨f1,o1,fun _ _ _ _ _=>trivial,rfl⟩ (fun i m B hi z=>⟨z.1,by have:=z.2.2.2.length;rw [length_take] at this;ac_nf⟩) ?_ ?_
 ·rintro i v m J hv ⟨D,C,_,M⟩;simpa only [length_singleton,List.replicate,JaF,map_cons,map_nil,Option.join_some];obtain ⟨p,hp,q,Z,I,N,rfl,hq,hz,hm⟩:=Y.2.at_ hv;have R:∀ {b:Addr} {u:HO},H b=some u->isTI u=true->J b=some u:=fun {b u} h t=>C _ _ (fun z=>by rw [z,j] at h;cases h;simp [isTI,isTF] at t) h;have T2:SameT H J:=fun b u t h=>R h (by cases u <;> first | exact t | (simp [isTF] at t));refine ⟨q,_,Z,_,rfl,R hq rfl,rfl,rfl,q,Z,_,_,_,I,N,_,rfl,R hq rfl,fun r n d W=>?_⟩;refine ⟨d _ _ D,fun b u O h=>d _ _ (C _ _ O h),fun _ _ _ _ _=>trivial,?_⟩;rw [take_succ,hp];exact (M.mono (P':=PDV K n) fun _ _ z=>z.sameT d.t).append (.one ⟨r,I,N,rfl,SqT.of W,(hz.sameT T2).sameT d.t,(hm.sameT T2).sameT d.t⟩)
 ·rintro m J ⟨D,C,_,M⟩;rw [take_of_length_le ∅] at M;rename_i r g a0 J n d W;and_intros;refine ⟨L,l,d _ _ D,?_⟩;generalize y:upd n a (.dK l)=G;and_intros;have nr:r≠a:=fun z=>by rw [z,D] at g;cases g
  have e4:G r=some (.lst m):=by rw [<- y,Jag nr];exact W
  have U:Same H G:=fun b u h=>by
   by_cases c:b=a
   ·subst c;rw [j] at h;cases h;rw [<- y,Jaj]
   ·rw [<- y,Jag c];exact d _ _ (C _ _ c h)
  have f3:=d _ _ D;have X:∀ {b:Addr} {xs:List V},SqT K n b xs->SqT K G b xs:=fun {b xs} h=>by
   rcases h with (h | ⟨o,h⟩) | h
   ·exact .inl (.inl (by rw [<- y,Jag (fun z=>by rw [z,f3] at h;cases h)];exact h))
   ·exact .inl (.inr ⟨o,by rw [<- y,Jag (fun z=>by rw [z,f3] at h;cases h)];exact h⟩)
   ·exact .inr h
  have hn:H r=none:=by
   cases e:H r with
   | none=>rfl
   | some o=>rw [C _ _ nr e] at g;cases g
  exact k r m G U hn e4 ((M.mono (P':=PDV K n) fun _ _ z=>z.sameT d.t).mono fun p v ⟨b,I,N,h1,h2,⟨pz,h3,h4⟩,⟨pm,h5,h6⟩⟩=>⟨b,I,N,h1,X h2,⟨pz,h3,X h4⟩,⟨pm,h5,X h6⟩⟩)
abbrev BaK:Stmt:=inClass (top 59) 2
theorem Jfk:Jan ["self"] ["self"] (Jae BaK):=by bv_decide
def JbK (K:W.Frag) (Ad:Adr):Sp:=fun vs H Q E=>∃ (x:Addr) (ls:List PD) (gs:List GD),vs=[.ref x]/\TK K Ad H x ls gs/\gs.length<=20/\∀ l ys H',Same H H'->H l=none->H' l=some (.lst ys)->All2 (fun (g:GD) v=>TV K H' g.td v) gs ys->Q (.ref l) H'
theorem Je9 (F:FunD K "gaps" "Thing.gaps" BaK dV f fd) (T:Txt K mg Ad) (BcU:MCal P w K mg base 1 "plain" (IsGap Ad) ["self"] (JcJ K Ad)):FnOk P w K mg base (CX1 P w) 2 f fd ["self"] (JbK K Ad):=by
 refine F.okn Jfk (by subst_eqs) (fun a1 A U s H vs Q E hr h=>?_)
 obtain ⟨x,ls,gs,rfl,h⟩:=h;refine ⟨_,(Jai (Jap (Jgz (Jeg (own:=["gap"]) (cs:=[]) (cl:=[]) rfl (Jiq (Jaq (pv 0) rfl)) (fun _ _ _ _=>(Jar (i:=0) (show [("gap" : Str)].Nodup by decide) rfl (Or.inl rfl))) (fun _ _ _ _=>(BcU.m0 hr ⋯ passF (pv 0))) rfl ⋯ rfl ⋯ hcl0 (hhas0 ⋯) hcs0)))),?_⟩;obtain ⟨⟨dx,d1,a,d3,k1,m,k3,hx,_,_,l,b2,_⟩,hl,k⟩:=h;have tc:=T.Bbb _ rfl;have sl:(1000:Nat)<=sizeLine:=by decide
 have lk:=b2.length;show tRet _ _ [some (.ref x)] H;and_intros;refine ⟨a,m,l,x,_,dx,_, .ref a,rfl,hx,tc.cls,tc.n2,rfl,a,m,rfl,l,fun M=>?_⟩;generalize uf:upd H a (.frz M (.dK m))=H1;and_intros;have f1:H1 a=some (.frz M (.dK m)):=by rw [<- uf,Jaj]
 have o1:∀ b u,b≠a->H b=some u->H1 b=some u:=fun b u R h=>by rw [<- uf,Jag R];exact h
 refine CompJ.vals (fun i n L=>L a=some (.frz M (.dK m))/\(∀ b u,b≠a->H b=some u->L b=some u)/\All2 (fun (g:GD) v=>TV K L g.td v) (gs.take i) n) ⟨f1,o1,rfl⟩ (fun i n L hi z=>⟨z.1,by have:=z.2.2.length;rw [length_take] at this;ac_nf⟩) ?_ ?_
 ·rintro i v n J hv ⟨D,C,N⟩;simpa only [length_singleton,List.replicate,JaF,map_cons,map_nil,Option.join_some];obtain ⟨p,hp,q,Z,I,O,rfl,hq,hz,hm⟩:=b2.2.at_ hv;have S:∀ {b:Addr} {u:HO},H b=some u->isTI u=true->J b=some u:=fun {b u} h t=>C _ _ (fun z=>by rw [z,l] at h;cases h;simp [isTI,isTF] at t) h;have T2:SameT H J:=fun b u t h=>S h (by cases u <;> first | exact t | (simp [isTF] at t));refine ⟨q,_,Z,_,rfl,S hq rfl,rfl,rfl,q,Z,_,_,_,I,O,rfl,S hq rfl,fun r y d X=>?_⟩;refine ⟨d _ _ D,fun b u R h=>d _ _ (C _ _ R h),?_⟩;rw [take_succ,hp];exact (N.mono (P':=fun (g:GD) v=>TV K y g.td v) fun _ _ z=>z.sameT d.t).append (.one ⟨r,I,O,rfl,SqT.of X,(hz.sameT T2).sameT d.t,(hm.sameT T2).sameT d.t⟩)
 ·rintro n J ⟨D,C,N⟩;rw [take_of_length_le ∅] at N;rename_i r j a0 J y d X;and_intros;refine ⟨M,m,d _ _ D,?_⟩;generalize B:upd y a (.dK m)=G;and_intros;have nr:r≠a:=fun z=>by rw [z,D] at j;cases j
  have e4:G r=some (.lst n):=by rw [<- B,Jag nr];exact X
  have W:Same H G:=fun b u h=>by
   by_cases c:b=a
   ·subst c;rw [l] at h;cases h;rw [<- B,Jaj]
   ·rw [<- B,Jag c];exact d _ _ (C _ _ c h)
  have f3:=d _ _ D;have Y:∀ {b:Addr} {xs:List V},SqT K y b xs->SqT K G b xs:=fun {b xs} h=>by
   rcases h with (h | ⟨o,h⟩) | h
   ·exact .inl (.inl (by rw [<- B,Jag (fun z=>by rw [z,f3] at h;cases h)];exact h))
   ·exact .inl (.inr ⟨o,by rw [<- B,Jag (fun z=>by rw [z,f3] at h;cases h)];exact h⟩)
   ·exact .inr h
  have hn:H r=none:=by
   cases e:H r with
   | none=>rfl
   | some o=>rw [C _ _ nr e] at j;cases j
  exact k r n G W hn e4 ((N.mono (P':=fun (g:GD) v=>TV K y g.td v) fun _ _ z=>z.sameT d.t).mono fun p v ⟨b,I,O,h1,h2,⟨pz,h3,h4⟩,⟨pm,h5,h6⟩⟩=>⟨b,I,O,h1,Y h2,⟨pz,h3,Y h4⟩,⟨pm,h5,Y h6⟩⟩)
abbrev BaX:Stmt:=inClass (top 59) 3
theorem JfX:Jan ["self","name"] ["self","name"] (Jae BaX):=by bv_decide
def JbY (K:W.Frag) (Ad:Adr):Sp:=fun vs H Q E=>∃ (x:Addr) (z:Str) (ls:List PD) (gs:List GD),vs=[.ref x, .str z]/\TK K Ad H x ls gs/\(z∉gs.map (·.nm)->E (.ref Ad.NoName) none H)/\(∀ g∈gs,g.nm=z->∀ l xs w H',Same H H'->H l=none->H' l=some (.lst xs)->All2 (CV H') w xs->Jbi ls g.st w g.en->(w.map (·.1)).Nodup->Q (.ref l) H')
theorem JfO (F:FunD K "way" "Thing.way" BaX dV f fd) (T:Txt K mg Ad)  : FnOk P w K mg base (CX1 P w) 1 f fd ["self","name"] (JbY K Ad):=by
 refine F.okx JfX (fun R H Q E h=>?_) (fun V A i s H R Q E L h=>?_)
 ·obtain ⟨x,z,I,y,rfl,_⟩:=h;rfl
 obtain ⟨x,z,I,y,rfl,h⟩:=h;have e:=L.units;refine ⟨_,(Jab (ps_if (Jej (Jdd (hu1 e) (pv 1) (Jaq (pv 0) rfl)) (by with_unfolding_all rfl))
   (Jai (JbX PySem.F.excBase_ValueError T.Bcd rfl T.BdV (Jaa JbM Jac)))
   Jav)
   (Jai (Jap (Jde JeH rfl T.BdG JeW (Jaa (Jbh (hu1 e) (Jaq (pv 0) rfl) (pv 1) (fun _ _=>rfl)) Jac))))),?_⟩
 clear e;obtain ⟨⟨p,d1,d2,b,k1,k2,Z,B,J,Y,S,b2,a,q⟩,M,k⟩:=h;have d:=T.Bbb _ rfl;show tSeq _ _ _ [some (.ref x),some (.str z)] H;and_intros;refine ⟨x,_,p,_, .ref b,rfl,B,d.cls,d.n3,rfl,?_⟩;refine ⟨b,_,rfl,DGet.k (k:=Sum.inr z) a,?_⟩;rw [q.val];by_cases c:z∈y.map (·.nm)
 ·rw [decide_eq_true c];and_intros;obtain ⟨g,v,O,C,N,D,u,w,rfl,o,m,W,j⟩:=q.some c;refine ⟨x,_,p,_, .ref b,rfl,B,d.cls,d.n3,rfl,?_⟩;refine ⟨b,_,rfl,by rw [<- N];exact DGet.k (k:=Sum.inr z) a,?_⟩;refine ⟨D,u,rfl, .inl (SqL.of o),?_⟩;rename_i l n X H U r G;and_intros;exact k g O C l u w U r n G (m.mono fun _ _ z=>z.sameT r.t) W j
 ·rw [decide_eq_false c];and_intros;exact ⟨by show 1<=sizeLine;decide,M c⟩
abbrev Bar:Stmt:=inClass (top 59) 4
theorem Ja0:Jan ["self","name","total","part","forward","size"] ["self","name"] (Jae Bar):=by bv_decide
def JbQ (K:W.Frag) (Ad:Adr):Sp:=fun vs H Q E=>∃ (x:Addr) (z:Str) (ls:List PD) (gs:List GD),vs=[.ref x, .str z]/\TK K Ad H x ls gs/\(z∉gs.map (·.nm)->E (.ref Ad.NoName) none H)/\(∀ g∈gs,g.nm=z->∃ pl:Str->Fr2,(∀ u∈gs,u.nm=z->u=g)/\(∀ p∈ls, ∀ q∈ls,p.nm=q.nm->p=q)/\(∀ p∈ls,POk p)/\(∀ f,FB 302 161 (pl f))/\(∀ p∈ls,vl (pl p.en)=vl (pl p.st)+vl p.sz)/\∀ v H',Same H H'->FrV K H' v (mid pl g).1 (mid pl g).2->Q v H')
theorem Jea (F:FunD K "middle" "Thing.middle" Bar dV f fd) (T:Txt K mg Ad) (BdJ:MCal P w K mg base 1 "way" (Ja8 Ad) ["self","name"] (JbY K Ad)) (Bcr:Cal P w K mg base 2 "plus" ["one","other"] [] (Jes K)) (BaY:Cal P w K mg base 3 "minus" ["one","other"] [] (JcT K)):FnOk P w K mg base (CX1 P w) 4 f fd ["self","name"] (JbQ K Ad):=by
 refine F.okx Ja0 (fun vs H Q E h=>?_) (fun a6 A R s H vs Q E M h=>?_)
 ·obtain ⟨x,z,I,gs,rfl,_⟩:=h;rfl
 obtain ⟨x,z,I,gs,rfl,h⟩:=h;have hu:=M.units;refine ⟨_,(Jab (Jak (i:=2) Ja0.nd rfl (Or.inl rfl) (JcW (v:=.ref _) rfl T.Bdu T.Bdv))
   (Jab (Ja3 PassesOwn.leaving rfl (pi_U (BdJ.m M ⋯ pass1 (pv 0) (Jaa (pv 1) Jac))) (JfU rfl (Ja7 (Jar (i:=3) Ja0.nd rfl (Or.inl rfl)) (Ja7 (Jar (i:=4) Ja0.nd rfl (Or.inl rfl)) Jeh)))
   (Jab (Jak (i:=5) Ja0.nd rfl (Or.inl rfl) (Jaq (Jbh (hu1 hu) (Jaq (pv 0) rfl) (pv 3) (fun _ _=>rfl)) rfl))
   (Jai (Jak (i:=2) Ja0.nd rfl (Or.inl rfl) (Jg3 (Ja9 (pv 4)) (Bcr.ev M ⋯ rfl pass1 (Jaa (pv 2) (Jaa (pv 5) Jac)) (he:=by exact Jaf rfl)) (BaY.ev M ⋯ rfl pass1 (Jaa (pv 2) (Jaa (pv 5) Jac)) (he:=by exact Jaf rfl)))))))
   (Jai (Jap (pv 2))))),?_⟩
 clear hu;obtain ⟨ht,kn,k⟩:=h;obtain ⟨dx,d1,d2,d3,k1,k2,k3,hx,S,b1,_⟩:=id ht;have tc:=T.Bbb _ rfl;have pc:=T.Bc3 _ rfl;show tSeq _ _ _ [some (.ref x),some (.str z),none,none,none,none] H;and_intros;refine ⟨x,_,dx,_,rfl,hx,rfl,rfl,x,z,I,gs,rfl,ht,kn,fun g hg hz l xs w H1 S1 a5 e1 J hw _=>?_⟩;obtain ⟨c,a4,hN,hP,o,hV,k⟩:=k g hg hz;have lg:=Jkl hV hw;have lx:=J.length;refine ⟨l,rfl,ForA.byL (xs:=xs) (SqL.of e1) (fun i σ X=>i<=xs.length/\∃ (v3 O v5:Option V) (t:V) (f:Str),σ=[some (.ref x),some (.str z),some t,v3,O,v5]/\Same H1 X/\FrV K X t (addF (c f) (negF (c g.st))).1 (addF (c f) (negF (c g.st))).2/\Legs I c f (w.drop i) g.en) ⟨Nat.zero_le _,none,none,none, .ref Ad.ZERO,g.st,rfl,Same.refl _,by rw [Ji2 (o _)];exact ⟨Ad.ZERO,rfl,T.Bdw _⟩,lg⟩ (fun i σ X q=>by obtain ⟨_,_,_,_,_,_,_,q,_⟩:=q;exact SqL.of (q _ _ e1)) ?_ ?_⟩
 ·rintro i y σ U hy ⟨hi,v3,O,v5,t,f,rfl,n,N,B⟩;have li:i<xs.length:=(List.getElem?_eq_some_iff.mp hy).1;obtain ⟨pr,D,b,rfl,hb⟩:=J.at_ hy;have C:i<w.length:=by ac_nf
  have a0:w.drop i=pr::w.drop (i+1):=by
   rw [List.drop_eq_getElem_cons C];rw [List.getElem?_eq_getElem C] at D;rw [Option.some.inj D]
  rw [a0] at B;have d:=S1.trans n;obtain ⟨p,j,u,rfl,hp,hv,G⟩:∃ p j u,pr=(p.nm,j)/\p∈I/\vl (c u)=vl (c f)+vl (sgn j p.sz)/\Legs I c u (w.drop (i+1)) g.en:=by
   cases B with
   | cons h1 h2 h3=>exact ⟨_,_,_,rfl,h1,h2,h3⟩
  and_intros;refine ⟨b,_,rfl,SqT.of (n _ _ hb),rfl,?_⟩;and_intros;obtain ⟨q,v,hq,a3,Y,qa,dq,L,vm,rfl,a1,a2,hm⟩:=b1.some (z:=p.nm) (mem_map.mpr ⟨p,hp,rfl⟩);have eq:=hN q hq p hp a3;subst eq;refine ⟨x,_,dx,_, .ref d1,rfl,d _ _ hx,tc.cls,tc.n1,rfl,?_⟩;refine ⟨d1,_,rfl,by rw [<- Y];exact DGet.k (k:=Sum.inr q.nm) (d _ _ S),?_⟩;refine ⟨qa,_,dq,_,L,rfl,d _ _ a1,pc.cls,pc.n4,rfl,?_⟩;have a:=(hP q hq).z;have e:FB 464 322 (addF (c f) (negF (c g.st))):=FB.add (o _) (o _).neg ⋯ ⋯ ⋯;have fz:FrV K U L q.sz.1 q.sz.2:=a2.same d;have st:=Jkk (o f) (o u) (z:=sgn j q.sz) (by cases j;exact (L2.FOk.fb a).neg;exact L2.FOk.fb a) (o g.st) hv;and_intros;cases j with
  | true=>
   and_intros;refine ⟨t,L,_,_,_,_,rfl,N,fz,e.s1.mono ⋯,e.s2.mono ⋯,a.s1.mono ⋯,a.s2.mono ⋯,e.b1,a.b1,e.g1,a.g1,fun r H3 W Z=>?_⟩;exact ⟨li,_,_,_, .ref r,u,rfl,n.trans W,by rw [<- st];exact FrV.of Z,G⟩
  | false=>
   and_intros;refine ⟨t,L,_,_,_,_,rfl,N,fz,e.s1.mono ⋯,e.s2.mono ⋯,a.s1.mono ⋯,a.s2.mono ⋯,e.b1,a.b1,e.g1,a.g1,fun r H3 W Z=>?_⟩;refine ⟨li,_,_,_, .ref r,u,rfl,n.trans W,?_,G⟩;rw [<- st];refine FrV.of ?_;rw [Z];show _=some (HO.tup [.int (Mth.top (_*q.sz.2 + -q.sz.1*_) _), .int (Mth.bot (_*q.sz.2 + -q.sz.1*_) _)]);rw [Int.neg_mul, <- Int.sub_eq_add_neg];rfl
 ·rintro σ U ⟨hi,v3,O,v5,t,f,rfl,n,N,B⟩;rw [List.drop_eq_nil_of_le ∅] at B;cases B;and_intros;exact k t U (S1.trans n) N
abbrev BaL:Stmt:=inClass (top 59) 5
theorem Jbk:Jan ["self","name","middle","gap","above","below"] ["self","name"] (Jae BaL):=by bv_decide
def Jcl (K:W.Frag) (Ad:Adr):Sp:=fun vs H Q E=>∃ (x:Addr) (z:Str) (ls:List PD) (gs:List GD),vs=[.ref x, .str z]/\TK K Ad H x ls gs/\(z∉gs.map (·.nm)->E (.ref Ad.NoName) none H)/\(∀ g∈gs,g.nm=z->∃ pl:Str->Fr2,(∀ u∈gs,u.nm=z->u=g)/\(∀ p∈ls, ∀ q∈ls,p.nm=q.nm->p=q)/\(∀ p∈ls,POk p)/\(∀ f,FB 302 161 (pl f))/\(∀ p∈ls,vl (pl p.en)=vl (pl p.st)+vl p.sz)/\TOk g.td/\∀ v H',Same H H'->FrV K H' v (roomF pl g).1 (roomF pl g).2->Q v H')
theorem Jfa (F:FunD K "room" "Thing.room" BaL dV f fd) (T:Txt K mg Ad) (Bdc:MCal P w K mg base 4 "middle" (Ja8 Ad) ["self","name"] (JbQ K Ad)) (BaY:Cal P w K mg base 3 "minus" ["one","other"] [] (JcT K)) (BaG:Cal P w K mg base 1 "under" ["one","other"] [] (Jcu K)):FnOk P w K mg base (CX1 P w) 5 f fd ["self","name"] (Jcl K Ad):=by
 refine F.okx Jbk (fun vs H Q E h=>?_) (fun a1 A y s H vs Q E p h=>?_)
 ·obtain ⟨x,z,V,gs,rfl,_⟩:=h;rfl
 obtain ⟨x,z,V,gs,rfl,h⟩:=h;have O:=p.units;refine ⟨_,(Jab (Jak (i:=2) Jbk.nd rfl (Or.inl rfl) (Bdc.m p ⋯ pass1 (pv 0) (Jaa (pv 1) Jac)))
   (Jab (Jak (i:=3) Jbk.nd rfl (Or.inl rfl) (Jbh (hu1 O) (Jaq (pv 0) rfl) (pv 1) (fun _ _=>rfl)))
   (Jab (Jak (i:=4) Jbk.nd rfl (Or.inl rfl) (BaY.ev p ⋯ rfl pass1 (Jaa (Jaq (pv 3) rfl) (Jaa (pv 2) Jac)) (he:=by exact Jaf rfl)))
   (Jab (Jak (i:=5) Jbk.nd rfl (Or.inl rfl) (BaY.ev p ⋯ rfl pass1 (Jaa (pv 2) (Jaa (Jaq (pv 3) rfl) Jac)) (he:=by exact Jaf rfl)))
   (Jai (Jap (Jg3 (Ja9 (BaG.ev p ⋯ rfl pass1 (Jaa (pv 4) (Jaa (pv 5) Jac)) (he:=by exact Jaf rfl))) (pv 4) (pv 5)))))))),?_⟩
 clear O;obtain ⟨ht,kn,k⟩:=h;obtain ⟨S,d1,d2,d3,k1,k2,k3,hx,a0,b1,L,b2,_⟩:=id ht;have tc:=T.Bbb _ rfl;have u:=T.BdL _ rfl;show tSeq _ _ _ [some (.ref x),some (.str z),none,none,none,none] H;and_intros;refine ⟨x,_,S,_,rfl,hx,rfl,rfl,x,z,V,gs,rfl,ht,kn,fun g hg N=>?_⟩;obtain ⟨W,n,hN,hP,hB,hV,U,k⟩:=k g hg N;refine ⟨W,n,hN,hP,hB,hV,fun v H1 l fm=>?_⟩;have b:=Jlh (g:=g) hB;unfold roomF at k;generalize mid W g=m at *;and_intros;obtain ⟨a,v',M,C,D,qa,Z,q,e,rfl,r,G,I⟩:=b2.some (z:=z) (mem_map.mpr ⟨g,hg,N⟩);have eg:=n a M C;subst eg;have j:=U.lo _ rfl;have o:=U.hi _ rfl;refine ⟨x,_,S,_, .ref d2,rfl,l _ _ hx,tc.cls,tc.n2,rfl,?_⟩;refine ⟨d2,_,rfl,by rw [<- D];exact DGet.k (k:=Sum.inr z) (l _ _ L),?_⟩;and_intros;refine ⟨qa,_,Z,_,e,rfl,l _ _ r,u.cls,u.n5,rfl,?_⟩;refine ⟨e,v,_,_,_,_,rfl,I.same l,fm,o.s1.mono ⋯,o.s2.mono ⋯,b.s1.mono ⋯,b.s2.mono ⋯,o.b1,b.b1,o.g1,b.g1,fun Y H2 S2 e2=>?_⟩;and_intros;have d:=l.trans S2;refine ⟨qa,_,Z,_,q,rfl,d _ _ r,u.cls,u.n4,rfl,?_⟩;refine ⟨v,q,_,_,_,_,rfl,fm.same S2,G.same d,b.s1.mono ⋯,b.s2.mono ⋯,j.s1.mono ⋯,j.s2.mono ⋯,b.b1,j.b1,b.g1,j.g1,fun R t J e3=>?_⟩;and_intros;have ea:addF a.hi (negF m)=(Mth.top (a.hi.1*m.2-m.1*a.hi.2) (a.hi.2*m.2),Mth.bot (a.hi.1*m.2-m.1*a.hi.2) (a.hi.2*m.2)):=by
  unfold addF negF;dsimp only;rw [Int.neg_mul, <- Int.sub_eq_add_neg]
 have eb:addF m (negF a.lo)=(Mth.top (m.1*a.lo.2-a.lo.1*m.2) (m.2*a.lo.2),Mth.bot (m.1*a.lo.2-a.lo.1*m.2) (m.2*a.lo.2)):=by
  unfold addF negF;dsimp only;rw [Int.neg_mul, <- Int.sub_eq_add_neg]
 have fa:FrV K t (.ref Y) (addF a.hi (negF m)).1 (addF a.hi (negF m)).2:=by rw [ea];exact FrV.of (J _ _ e2)
 have fb:FrV K t (.ref R) (addF m (negF a.lo)).1 (addF m (negF a.lo)).2:=by rw [eb];exact FrV.of e3
 have X:=FB.add' (L2.FOk.fb o) b.neg;have bb:=FB.add' b (L2.FOk.fb j).neg;generalize addF a.hi (negF m)=A at *;generalize addF m (negF a.lo)=B at *;refine ⟨.ref Y, .ref R,A.1,A.2,B.1,B.2,rfl,fa,fb,X.s1.mono ⋯,X.s2.mono ⋯,bb.s1.mono ⋯,bb.s2.mono ⋯,?_⟩;and_intros;by_cases c:lessF A B=true
 ·rw [if_pos c] at k;rw [if_pos (show decide (A.1*B.2<B.1*A.2)=true from c)];and_intros;exact k _ t (d.trans J) fa
 ·rw [if_neg c] at k;rw [if_neg (show ¬ decide (A.1*B.2<B.1*A.2)=true from c)];and_intros;exact k _ t (d.trans J) fb
abbrev Baj:Stmt:=inClass (top 19) 0
theorem Jbv:Jan ["self","numbers","number","factor"] ["self","numbers"] (Jae Baj):=by bv_decide
def Jby (K:W.Frag) (Ad:Adr):Sp:=fun vs H Q E=>∃ (x dx a:Addr) (xs:List V) (ns:List Fr2),vs=[.ref x, .ref a]/\H x=some (.ins Ad.Scale dx [])/\H a=some (.lst xs)/\All2 (FLV K H) ns xs/\ns.length<=28/\(∀ n∈ns,1<=n.2/\Mth.Sz 70 n.2)/\∀ b fs fl H',H' x=some (.ins Ad.Scale dx [("bottom", .int b),("factors", .ref fl)])->H fl=none->H' fl=some (.lst (fs.map V.int))->(∀ c u,c≠x->H c=some u->H' c=some u)->Scl b fs->Mth.Sz 2000 b->fs.length<=30->Q .non H'
theorem Jdt (F:FunD K "__init__" "Scale.__init__" Baj dV f fd) (T:Txt K mg Ad) (Bac:Cal P w K mg base 1 "common_divisor" ["one","other"] [] (Jaz)):FnOk P w K mg base (CX1 P w) 2 f fd ["self","numbers"] (Jby K Ad):=by
 refine F.okn Jbv (by subst_eqs) (fun a4 A a0 s H vs Q E hr h=>?_)
 obtain ⟨x,j,a,xs,ns,rfl,h⟩:=h;refine ⟨_,(Jab (JaR (pv 0) Jad rfl)
   (Jab (JaR (pv 0) (Ja2 Jac) rfl)
   (Jai (Ja3 PassesOwn.never rfl (pi_U (pv 1)) (Jar (i:=2) Jbv.nd rfl (Or.inl rfl))
   (Jab (Jak (i:=3) Jbv.nd rfl (Or.inl rfl) (pe_op Jas (pe_ix ix_U (pv 2) Jad (fun _ _=>rfl)) (Bac.ev hr ⋯ rfl passF (Jaa (Jaq (pv 0) rfl) (Jaa (pe_ix ix_U (pv 2) Jad (fun _ _=>rfl)) Jac)) (he:=by exact Jaf rfl))))
   (Jai (ps_if (Jay Jg0 (pv 3) Jad (Jaw _))
   (Jab (JaR (pv 0) (pe_op JaI (Jaq (pv 0) rfl) (pv 3)) rfl)
   (Jai (Ja4 (pe_bm PySem.F.plainAttrs_list PySem.F.slot_list_append PySem.F.type_list_append JaY (Jaq (pv 0) rfl) (Jaa (pv 3) Jac) (hs:=by exact Jaf rfl)))))
   Jav))))))),?_⟩
 obtain ⟨e0,Y,hN,hl,a1,k⟩:=h;have e:=T.BcR Ad.Scale rfl;have sl:(1000:Nat)<=sizeLine:=by decide
 have lx:=hN.length;show tSeq _ _ _ [some (.ref x),some (.ref a),none,none] H;symm_saturate;refine ⟨x,_,j,_,rfl,e0,e.cls,e.n1,by simp,?_⟩;generalize u1:upd H x _=H1;symm_saturate;have e1:H1 x=some (.ins Ad.Scale j [("bottom", .int 1)]):=by rw [<- u1];exact Jaj.trans rfl
 have o1:∀ b,b≠x->H1 b=H b:=fun b hb=>by rw [<- u1,Jag hb]
 symm_saturate;refine ⟨len0,?_⟩;rename_i d l a3 H1 H2 N e2;symm_saturate;symm_saturate;refine ⟨x,_,j,_,rfl,N _ _ e1,e.cls,e.n2,by simp,?_⟩;generalize U:upd H2 x _=L;symm_saturate;have e3:L x=some (.ins Ad.Scale j [("bottom", .int 1),("factors", .ref d)]):=by rw [<- U];exact Jaj.trans rfl
 have X:d≠x:=fun z=>by rw [z,e1] at l;cases l
 have f3:L d=some (.lst []):=by rw [<- U,Jag X];exact e2
 have o3:∀ c u,c≠x->H c=some u->L c=some u:=fun c u C h=>by rw [<- U,Jag C];exact N _ _ (by rw [o1 c C];exact h)
 have o:H d=none:=by rw [<- o1 d X];exact l
 have B:a≠x:=fun z=>by rw [z,e0] at Y;cases Y
 have a2:SameT H L:=(SameT.put u1 e0 rfl).trans (N.t.trans (SameT.put U (N _ _ e1) rfl));symm_saturate;refine ⟨a,rfl,ForA.byL (xs:=xs) (SqL.of (o3 _ _ B Y)) (fun i σ I=>i<=xs.length/\∃ (Z v3:Option V) (b:Int) (m:List Int),σ=[some (.ref x),some (.ref a),Z,v3]/\I x=some (.ins Ad.Scale j [("bottom", .int b),("factors", .ref d)])/\I d=some (.lst (m.map V.int))/\(∀ c u,c≠x->H c=some u->I c=some u)/\SameT H I/\Scl b m/\Mth.Sz (1+70*i) b/\m.length<=i) ⟨Nat.zero_le _,none,none,1,[],rfl,e3,f3,o3,a2,Scl.nil, .lit ⋯ ⋯,Nat.le_refl _⟩ (fun i σ I q=>by obtain ⟨_,_,_,_,_,_,_,_,q,_⟩:=q;exact SqL.of (q _ _ B Y)) ?_ ?_⟩
 ·rintro i y σ v hy ⟨hi,Z,v3,b,m,rfl,p,O,S,J,hs,G,lf⟩;have li:=(List.getElem?_eq_some_iff.mp hy).1;obtain ⟨n,hn,W⟩:=hN.at_ hy;have W:FrV K v y n.1 n.2:=FrV.sameT J W;have r:=a1 n (List.mem_of_getElem? hn);have G:Mth.Sz 2000 b:=G.mono ∅;have gp:=Mth.g_pos (a:=b) (b:=n.2) ∅;have gd:=Mth.JbG b n.2;have gl:=Mth.g_le (a:=b) (b:=n.2) ∅;have d1:DivOk (Mth.g b n.2):=divOk (n:=70) ∅ (Nat.lt_of_le_of_lt (by ac_nf:(Mth.g b n.2).natAbs<=n.2.natAbs) r.2);have f1:=Mth.JbW gd ∅ r.1;have sf:Mth.Sz 70 (n.2.fdiv (Mth.g b n.2)):=r.2.fdiv gd ∅;symm_saturate;refine ixF1 W ?_;refine ⟨x,_,j,_, .int b,rfl,p,e.cls,e.n1,rfl,?_⟩;refine ixF1 W ?_;symm_saturate;refine ⟨_,_,rfl,?_⟩;symm_saturate;refine ⟨d1,?_⟩;generalize n.2.fdiv (Mth.g b n.2)=f at *;symm_saturate;by_cases c:1<f
  ·rw [if_pos (by simpa using c)];symm_saturate;try simpa only [y4dy,y84y]
   refine ⟨x,_,j,_, .int b,rfl,p,e.cls,e.n1,rfl,?_⟩;try simpa only [y4dy,y84y]
   refine ⟨mulOk G sf,?_⟩;refine ⟨x,_,j,_,rfl,p,e.cls,e.n1,by simp,?_⟩;generalize M:upd v x _=D;symm_saturate;have e5:D x=some (.ins Ad.Scale j [("bottom", .int (b*f)),("factors", .ref d)]):=by rw [<- M];exact Jaj.trans rfl
   have f5:D d=some (.lst (m.map V.int)):=by rw [<- M,Jag X];exact O
   have T5:SameT v D:=SameT.put M p rfl;try simpa only [y4dy,y84y]
   refine ⟨x,_,j,_, .ref d,rfl,e5,e.cls,e.n2,rfl,?_⟩;refine ⟨.inl ⟨rfl,_,SqL.of f5⟩,?_⟩;symm_saturate;refine ⟨d,_,_,rfl,rfl,f5,by rw [length_map];ac_nf,?_⟩;generalize R:upd D d _=H6;symm_saturate;have f6:=putE R;have T6:SameT D H6:=SameT.put R f5 rfl;symm_saturate;refine ⟨li,_,_,b*f,m++[f],rfl,by rw [<- R,Jag (Ne.symm X)];exact e5,by rw [f6];simp,fun c u C h=>by rw [<- R,Jag (Jah h o), <- M,Jag C];exact S c u C h,J.trans (T5.trans T6),hs.snoc ∅,?_,by simp;ac_nf⟩;have:=(show Mth.Sz (1+70*i) b by assumption).mul sf;exact this.mono ∅
  ·rw [if_neg (by simpa using c)];symm_saturate;symm_saturate;exact ⟨li,_,_,b,m,rfl,p,O,S,J,hs,(show Mth.Sz (1+70*i) b by assumption).mono ∅,by ac_nf⟩
 ·rintro σ v ⟨hi,Z,v3,b,m,rfl,p,O,S,J,hs,G,lf⟩;symm_saturate;exact k b m d v p o O S hs (G.mono ∅) ∅
abbrev Bas:Stmt:=inClass (top 19) 1
theorem JaS:Jan ["self","number","top","rest","factor","shared"] ["self","number"] (Jae Bas):=by bv_decide
def Jbq (K:W.Frag) (Ad:Adr):Sp:=fun vs H Q E=>∃ (x:Addr) (v:V) (n:Fr2) (b:Int) (fs:List Int),vs=[.ref x,v]/\SCK Ad H x b fs/\FrV K H v n.1 n.2/\FB 200 56 n/\∀ p (t:Fr2) H',Same H H'->H' p=some (.tup [.int t.1, .int t.2])->LInv n b t->Q (.ref p) H'
theorem Jd9 (F:FunD K "lifted" "Scale.lifted" Bas dV f fd) (T:Txt K mg Ad) (Bac:Cal P w K mg base 1 "common_divisor" ["one","other"] [] (Jaz)):FnOk P w K mg base (CX1 P w) 2 f fd ["self","number"] (Jbq K Ad):=by
 refine F.okn JaS (by subst_eqs) (fun a1 A L s H vs Q E hr h=>?_)
 obtain ⟨x,v,n,b,d,rfl,h⟩:=h;have Y:=hr.units;refine ⟨_,(Jab (ps_if (Jay (Jb9 Y) (pe_op JaC (Jaq (pv 0) rfl) (pe_ix ix_U (pv 1) Jad (fun _ _=>rfl))) Jad (Jaw _))
   (Jai (Jap (JaH (Jaa (pe_op JaI (pe_ix ix_U (pv 1) Jad (fun _ _=>rfl)) (pe_op Jas (Jaq (pv 0) rfl) (pe_ix ix_U (pv 1) Jad (fun _ _=>rfl)))) (Jaa Jad Jac)))))
   Jav)
   (Jab (Jak (i:=2) JaS.nd rfl (Or.inl rfl) (pe_ix ix_U (pv 1) Jad (fun _ _=>rfl)))
   (Jab (Jak (i:=3) JaS.nd rfl (Or.inl rfl) (pe_ix ix_U (pv 1) Jad (fun _ _=>rfl)))
   (Jab (Ja3 PassesOwn.never rfl (pi_U (Jaq (pv 0) rfl)) (Jar (i:=4) JaS.nd rfl (Or.inl rfl))
   (Jab (Jak (i:=5) JaS.nd rfl (Or.inl rfl) (Bac.ev hr ⋯ rfl passF (Jaa (pv 3) (Jaa (pv 4) Jac)) (he:=by exact Jaf rfl)))
   (Jab (Jak (i:=2) JaS.nd rfl (Or.inl rfl) (pe_op JaI (pv 2) (pe_op Jas (pv 4) (pv 5))))
   (Jai (Jak (i:=3) JaS.nd rfl (Or.inl rfl) (pe_op Jas (pv 3) (pv 5)))))))
   (Jai (Jap (JaH (Jaa (pv 2) (Jaa (pv 3) Jac))))))))),?_⟩
 clear Y;obtain ⟨⟨G,fl,W,X,m,O,a0⟩,r,u,k⟩:=h;have l:=T.BcR Ad.Scale rfl;have sl:(1000:Nat)<=sizeLine:=by decide
 have J:=u.b1;have b1:=m.b1;have d1:DivOk n.2:=divOk (n:=56) ∅ u.s2;show tSeq _ _ _ [some (.ref x),some v,none,none,none,none] H;and_intros;refine ⟨x,_,G,_, .int b,rfl,W,l.cls,l.n1,rfl,?_⟩;refine ixF1 r ?_;and_intros;refine ⟨by ac_nf,?_⟩;by_cases c:b.fmod n.2=0
 ·rw [if_pos (by simpa using c)];and_intros;and_intros;refine ixF0 r ?_;refine ⟨x,_,G,_, .int b,rfl,W,l.cls,l.n1,rfl,?_⟩;refine ixF1 r ?_;and_intros;have dv:n.2∣b:=by
   rw [Int.fmod_eq_emod_of_nonneg _ ∅] at c;exact Int.dvd_of_emod_eq_zero c
  refine ⟨d1,mulOk u.s1 (O.fdiv dv J),len2,?_⟩;rename_i p D S H U N I;and_intros;exact k p (n.1*b.fdiv n.2,1) U N I (LInv.all J c)
 ·rw [if_neg (by simpa using c)];and_intros;and_intros;refine ixF0 r ?_;and_intros;refine ixF1 r ?_;and_intros;refine ⟨x,_,G,_, .ref fl,rfl,W,l.cls,l.n2,rfl,?_⟩;refine ⟨fl,rfl,ForA.byL (xs:=d.map V.int) (SqL.of X) (fun i σ z=>i<=(d.map V.int).length/\z=H/\∃ (t:Fr2) (M R:Option V),σ=[some (.ref x),some v,some (.int t.1),some (.int t.2),M,R]/\LInv n (prodI (d.take i)) t) ⟨Nat.zero_le _,rfl,n,none,none,rfl,LInv.nil J u.g1⟩ (fun i σ z q=>by rw [q.2.1];exact SqL.of X) ?_ ?_⟩
  ·rintro i y σ z j ⟨hi,rfl,t,M,R,rfl,o⟩;have C:=(List.getElem?_eq_some_iff.mp j).1;rw [length_map] at C;rw [List.getElem?_map,List.getElem?_eq_getElem C] at j;obtain ⟨f,e⟩:∃ f,f=d[i]:=⟨_,rfl⟩;rw [<- e] at j;have j:y=.int f:=(Option.some.inj j).symm;subst j;have fm:f∈d:=by rw [e];exact List.getElem_mem C
   have f1:=m.f1 f fm;have B:Mth.Sz 2000 f:=sz_le O ∅ (m.mem fm);have tk:=m.take i;have tb:=o.fb u (sz_le O ∅ tk.2);have gp:=Mth.g_pos (a:=t.2) (b:=f) ∅;have gl:=Mth.g_le (a:=t.2) (b:=f) ∅;have Z:DivOk (Mth.g t.2 f):=divOk (n:=2000) ∅ (Nat.lt_of_le_of_lt (by ac_nf:(Mth.g t.2 f).natAbs<=f.natAbs) B);have qf:=B.fdiv (Mth.JbG t.2 f) ∅;have st:=o.step f1;have et:prodI (d.take (i+1))=prodI (d.take i)*f:=by
    rw [take_succ,List.getElem?_eq_getElem C, <- e];exact Jca f _
   and_intros;refine ⟨_,_,rfl,?_⟩;and_intros;refine ⟨Z,mulOk tb.s1 qf,?_⟩;and_intros;refine ⟨Z,?_⟩;and_intros;exact ⟨by rw [length_map];ac_nf,(t.1*f.fdiv (Mth.g t.2 f),t.2.fdiv (Mth.g t.2 f)),_,_,rfl,by rw [et];exact st⟩
  ·rintro σ z ⟨hi,rfl,t,M,R,rfl,o⟩;rw [take_of_length_le (by rw [length_map];ac_nf),m.pr] at o;and_intros;refine ⟨len2,?_⟩;rename_i p D S z U N I;and_intros;exact k p t U N I o
abbrev Ban:Stmt:=inClass (top 19) 2
theorem JaO:Jan ["self","number","top","bottom","factor","shared"] ["self","number"] (Jae Ban):=by bv_decide
def JbE (K:W.Frag) (Ad:Adr):Sp:=fun vs H Q E=>∃ (x:Addr) (v:V) (n:Fr2) (b:Int) (fs:List Int),vs=[.ref x,v]/\SCK Ad H x b fs/\FrV K H v n.1 n.2/\FB 3000 1000 n/\∀ p (t:Fr2) H',Same H H'->H' p=some (.tup [.int t.1, .int t.2])->LoInv n b t->Q (.ref p) H'
theorem JdH (F:FunD K "lowered" "Scale.lowered" Ban dV f fd) (T:Txt K mg Ad) (Bac:Cal P w K mg base 1 "common_divisor" ["one","other"] [] (Jaz)):FnOk P w K mg base (CX1 P w) 2 f fd ["self","number"] (JbE K Ad):=by
 refine F.okn JaO (by subst_eqs) (fun a2 A u s H vs Q E hr h=>?_)
 obtain ⟨x,v,n,b,c,rfl,h⟩:=h;refine ⟨_,(Jab (Jak (i:=2) JaO.nd rfl (Or.inl rfl) (pe_ix ix_U (pv 1) Jad (fun _ _=>rfl)))
   (Jab (Jak (i:=3) JaO.nd rfl (Or.inl rfl) (pe_ix ix_U (pv 1) Jad (fun _ _=>rfl)))
   (Jab (Ja3 PassesOwn.never rfl (pi_U (Jaq (pv 0) rfl)) (Jar (i:=4) JaO.nd rfl (Or.inl rfl))
   (Jab (Jak (i:=5) JaO.nd rfl (Or.inl rfl) (Bac.ev hr ⋯ rfl passF (Jaa (pv 2) (Jaa (pv 4) Jac)) (he:=by exact Jaf rfl)))
   (Jab (Jak (i:=2) JaO.nd rfl (Or.inl rfl) (pe_op Jas (pv 2) (pv 5)))
   (Jai (Jak (i:=3) JaO.nd rfl (Or.inl rfl) (pe_op JaI (pv 3) (pe_op Jas (pv 4) (pv 5))))))))
   (Jai (Jap (JaH (Jaa (pv 2) (Jaa (pv 3) Jac)))))))),?_⟩
 obtain ⟨⟨R,J,hx,D,j,M,a0⟩,I,B,k⟩:=h;have L:=T.BcR Ad.Scale rfl;have n1:=B.b1;have b1:=j.b1;show tSeq _ _ _ [some (.ref x),some v,none,none,none,none] H;and_intros;refine ixF0 I ?_;and_intros;refine ixF1 I ?_;and_intros;refine ⟨x,_,R,_, .ref J,rfl,hx,L.cls,L.n2,rfl,?_⟩;refine ⟨J,rfl,ForA.byL (xs:=c.map V.int) (SqL.of D) (fun i σ m=>i<=(c.map V.int).length/\m=H/\∃ (t:Fr2) (z C:Option V),σ=[some (.ref x),some v,some (.int t.1),some (.int t.2),z,C]/\LoInv n (prodI (c.take i)) t) ⟨Nat.zero_le _,rfl,n,none,none,rfl,LoInv.nil B.lo⟩ (fun i σ m q=>by rw [q.2.1];exact SqL.of D) ?_ ?_⟩
 ·rintro i y σ m e ⟨Y,rfl,t,z,C,rfl,l⟩;have r:=(List.getElem?_eq_some_iff.mp e).1;rw [length_map] at r;rw [List.getElem?_map,List.getElem?_eq_getElem r] at e;obtain ⟨f,d⟩:∃ f,f=c[i]:=⟨_,rfl⟩;rw [<- d] at e;have e:y=.int f:=(Option.some.inj e).symm;subst e;have fm:f∈c:=by rw [d];exact List.getElem_mem r
  have Z:=j.f1 f fm;have o:Mth.Sz 2000 f:=sz_le M ∅ (j.mem fm);have U:=j.take i;have pb:Mth.Sz 2000 (prodI (c.take i)):=sz_le M ∅ U.2;have X:Mth.Sz 3000 t.2:=by
   refine Nat.lt_of_le_of_lt l.le2 ?_;have:=B.s2.mul pb;unfold Mth.Sz at this;rw [Int.natAbs_mul] at this;exact this
  have gp:=Mth.g_pos (a:=t.1) (b:=f) ∅;have gl:=Mth.g_le (a:=t.1) (b:=f) ∅;have G:DivOk (Mth.g t.1 f):=divOk (n:=2000) ∅ (Nat.lt_of_le_of_lt (by ac_nf:(Mth.g t.1 f).natAbs<=f.natAbs) o);have qf:=o.fdiv (Mth.JbG t.1 f) ∅;have st:=l.step Z;have N:prodI (c.take (i+1))=prodI (c.take i)*f:=by
   rw [take_succ,List.getElem?_eq_getElem r, <- d];exact Jca f _
  and_intros;refine ⟨_,_,rfl,?_⟩;and_intros;refine ⟨G,?_⟩;and_intros;refine ⟨G,mulOk X qf,?_⟩;and_intros;exact ⟨by rw [length_map];ac_nf,(t.1.fdiv (Mth.g t.1 f),t.2*f.fdiv (Mth.g t.1 f)),_,_,rfl,by rw [N];exact st⟩
 ·rintro σ m ⟨Y,rfl,t,z,C,rfl,l⟩;rw [take_of_length_le (by rw [length_map];ac_nf),j.pr] at l;and_intros;refine ⟨len2,?_⟩;rename_i p O a1 m H1 W S;and_intros;exact k p t H1 W S l
abbrev Ba5:Stmt:=top 39
theorem Jci:Jan ["thing","numbers","part","gap"] ["thing"] (Jae Ba5):=by bv_decide
def Jc3 (K:W.Frag) (Ad:Adr):Sp:=fun vs H Q E=>∃ (x:Addr) (ls:List PD) (gs:List GD),vs=[.ref x]/\TK K Ad H x ls gs/\ls.length<=12/\gs.length<=7/\ls.length+gs.length<=14/\(∀ p∈ls,(1<=p.sz.2/\Mth.Sz 70 p.sz.2)/\1<=p.mo.2/\Mth.Sz 70 p.mo.2)/\(∀ g∈gs,(1<=g.lo.2/\Mth.Sz 70 g.lo.2)/\1<=g.hi.2/\Mth.Sz 70 g.hi.2)/\∀ s b fs H',Same H H'->SCK Ad H' s b fs->Q (.ref s) H'
theorem Jgu (F:FunD K "scale_of" "scale_of" Ba5 dV f fd) (T:Txt K mg Ad) (BaH:MCal P w K mg base 2 "parts" (Ja8 Ad) ["self"] (JaZ K Ad)) (Bc6:MCal P w K mg base 2 "gaps" (Ja8 Ad) ["self"] (JbK K Ad)) (Bdy:KCal P w K mg base 2 "Scale" Ad.Scale ["self","numbers"] (Jby K Ad)):FnOk P w K mg base (CX1 P w) 4 f fd ["thing"] (Jc3 K Ad):=by
 refine F.okn Jci (by subst_eqs) (fun b8 A a7 s H vs Q E hr h=>?_)
 obtain ⟨x,ls,gs,rfl,h⟩:=h;refine ⟨_,(Jab (Jak (i:=1) Jci.nd rfl (Or.inl rfl) (Ja2 Jac))
   (Jab (Ja3 PassesOwn.never rfl (pi_U (BaH.m0 hr ⋯ passF (pv 0))) (Jar (i:=2) Jci.nd rfl (Or.inl rfl))
   (Jai (Ja4 (pe_bm PySem.F.plainAttrs_list PySem.F.slot_list_extend PySem.F.type_list_extend JfL (pv 1) (Jaa (Ja2 (Jaa (pe_ix ix_U (pv 2) Jad (fun _ _=>rfl)) (Jaa (pe_ix ix_U (pv 2) Jad (fun _ _=>rfl)) Jac))) Jac)))))
   (Jab (Ja3 PassesOwn.never rfl (pi_U (Bc6.m0 hr ⋯ passF (pv 0))) (Jar (i:=3) Jci.nd rfl (Or.inl rfl))
   (Jai (Ja4 (pe_bm PySem.F.plainAttrs_list PySem.F.slot_list_extend PySem.F.type_list_extend JfL (pv 1) (Jaa (Ja2 (Jaa (pe_ix ix_U (pv 3) Jad (fun _ _=>rfl)) (Jaa (pe_ix ix_U (pv 3) Jad (fun _ _=>rfl)) Jac))) Jac)))))
   (Jai (Jap (Bdy.ev hr ⋯ rfl passF (Jaa (pv 1) Jac))))))),?_⟩
 obtain ⟨ht,h7,h6,b7,b0,b3,k⟩:=h;obtain ⟨dx,d1,d2,d3,k1,k2,k3,hx,_⟩:=id ht;have sl:(1000:Nat)<=sizeLine:=by decide
 show tSeq _ _ _ [some (.ref x),none,none,none] H;nofun;refine ⟨len0,?_⟩;rename_i r N b5 H H1 S1 e1;nofun;nofun;refine ⟨x,_,dx,_,rfl,S1 _ _ hx,rfl,rfl,x,ls,gs,rfl,ht.same S1,by ac_nf,fun l ys H2 S2 a0 e2 hY=>?_⟩;have lY:=hY.length;have a6:l≠r:=fun z=>by rw [z,e1] at a0;cases a0
 nofun;refine ⟨l,rfl,ForA.byL (xs:=ys) (SqL.of e2) (fun i σ B=>i<=ys.length/\∃ (J M:Option V) (e:List V) (j:List Fr2),σ=[some (.ref x),some (.ref r),J,M]/\(∀ c u,c≠r->H2 c=some u->B c=some u)/\SameT H2 B/\B r=some (.lst e)/\All2 (FLV K B) j e/\(∀ n∈j,1<=n.2/\Mth.Sz 70 n.2)/\j.length=2*i) ⟨Nat.zero_le _,none,none,[],[],rfl,fun _ _ _ h=>h,(Same.refl _).t,S2 _ _ e1,rfl,(fun n d=>by cases d),rfl⟩ (fun i σ B q=>by obtain ⟨_,_,_,_,_,_,q,_⟩:=q;exact SqL.of (q _ _ a6 e2)) ?_ ?_⟩
 ·rintro i y σ H3 hy ⟨hi,J,M,e,j,rfl,ho,U,o,v,a,ln⟩;have li:=(List.getElem?_eq_some_iff.mp hy).1;have la:=v.length;obtain ⟨p,hp,b,W,vm,rfl,hb,hz,hm⟩:=hY.at_ hy;have Y:=b0 p (List.mem_of_getElem? hp);have Z:=hb.sameT U;nofun;refine ⟨.inl ⟨rfl,_,SqL.of o⟩,?_⟩;refine ixT (i:=3) Z rfl ?_;refine ixT (i:=4) Z rfl ?_;nofun;refine ⟨len2,?_⟩;rename_i tl a2 a5 H3 S L e4;nofun;refine ⟨r,tl,e,_,rfl,rfl,L _ _ o,e4,by simp only [length_cons,length_nil];ac_nf,?_⟩;generalize u5:upd S r _=D;nofun;have e5:=putE u5;have T5:SameT S D:=SameT.put u5 (L _ _ o) rfl;have I:SameT H3 D:=L.t.trans T5;nofun;refine ⟨li,_,_,e++[W,vm],j++[p.sz,p.mo],rfl,fun c u hc h=>by rw [<- u5,Jag hc];exact L _ _ (ho c u hc h),U.trans I,e5,(v.mono (P':=FLV K D) fun _ _ z=>z.sameT I).append ⟨W,_,rfl,FrV.sameT (U.trans I) hz,vm,_,rfl,FrV.sameT (U.trans I) hm,rfl⟩,fun n d=>?_,by simp;ac_nf⟩;rcases mem_append.mp d with d | d
  ·exact a n d
  ·rcases mem_cons.mp d with rfl | d
   ·exact Y.1
   ·rw [mem_singleton.mp d];exact Y.2
 ·rintro σ H3 ⟨hi,J,M,e,j,rfl,ho,U,o,v,a,ln⟩;have O:Same H H3:=fun c u h=>ho c u (Jah h N) (S2 _ _ (S1 _ _ h));nofun;refine ⟨x,_,dx,_,rfl,O _ _ hx,rfl,rfl,x,ls,gs,rfl,ht.same O,by ac_nf,fun m zs S L a4 e4 hZ=>?_⟩;have lZ:=hZ.length;have b2:m≠r:=fun z=>by rw [z,o] at a4;cases a4
  have la:=v.length;nofun;refine ⟨m,rfl,ForA.byL (xs:=zs) (SqL.of e4) (fun i σ B=>i<=zs.length/\∃ (J M:Option V) (e:List V) (j:List Fr2),σ=[some (.ref x),some (.ref r),J,M]/\(∀ c u,c≠r->S c=some u->B c=some u)/\SameT S B/\B r=some (.lst e)/\All2 (FLV K B) j e/\(∀ n∈j,1<=n.2/\Mth.Sz 70 n.2)/\j.length<=2*ls.length+2*i) ⟨Nat.zero_le _,J,M,e,j,rfl,fun _ _ _ h=>h,(Same.refl _).t,L _ _ o,v.mono (fun _ _ z=>z.sameT L.t),a,by ac_nf⟩ (fun i σ B q=>by obtain ⟨_,_,_,_,_,_,q,_⟩:=q;exact SqL.of (q _ _ b2 e4)) ?_ ?_⟩
  ·clear v a ln o la;rintro i y σ D hy ⟨hi,J,M,e,j,rfl,R,C,o,v,a,ln⟩;have li:=(List.getElem?_eq_some_iff.mp hy).1;have la:=v.length;obtain ⟨g,hg,b,W,vm,rfl,hb,hz,hm⟩:=hZ.at_ hy;have a3:=b3 g (List.mem_of_getElem? hg);have a1:=hb.sameT C;nofun;refine ⟨.inl ⟨rfl,_,SqL.of o⟩,?_⟩;refine ixT (i:=3) a1 rfl ?_;refine ixT (i:=4) a1 rfl ?_;nofun;refine ⟨len2,?_⟩;rename_i tl a2 a5 D H6 S6 e6;nofun;refine ⟨r,tl,e,_,rfl,rfl,S6 _ _ o,e6,by simp only [length_cons,length_nil];ac_nf,?_⟩;generalize u7:upd H6 r _=H7;nofun;have e7:=putE u7;have T7:SameT H6 H7:=SameT.put u7 (S6 _ _ o) rfl;have G:SameT D H7:=S6.t.trans T7;nofun;refine ⟨li,_,_,e++[W,vm],j++[g.lo,g.hi],rfl,fun c u hc h=>by rw [<- u7,Jag hc];exact S6 _ _ (R c u hc h),C.trans G,e7,(v.mono (P':=FLV K H7) fun _ _ z=>z.sameT G).append ⟨W,_,rfl,FrV.sameT (C.trans G) hz,vm,_,rfl,FrV.sameT (C.trans G) hm,rfl⟩,fun n d=>?_,by simp;ac_nf⟩;rcases mem_append.mp d with d | d
   ·exact a n d
   ·rcases mem_cons.mp d with rfl | d
    ·exact a3.1
    ·rw [mem_singleton.mp d];exact a3.2
  ·clear v a ln o la;rintro σ D ⟨hi,J,M,e,j,rfl,R,C,o,v,a,ln⟩;have X:Same H D:=fun c u h=>R c u (Jah h N) (L _ _ (O _ _ h));nofun;intro s ds hs b1 b6;have Sm:Same D (upd (upd D ds (.own s)) s (.ins Ad.Scale ds [])):=fun b u q=>by rw [Jag (Jah q hs),Jag (Jah q b1)];exact q
   refine ⟨s,ds,r,e,j,rfl,Jaj,Sm _ _ o,v.mono (fun _ _ z=>z.sameT Sm.t),by ac_nf,a,fun b fs fl H6 h1 h2 h3 h4 a8 a9 b4=>⟨rfl,k s b fs H6 (fun c u h=>?_) ⟨ds,fl,h1,h3,a8,a9,b4⟩⟩⟩;exact h4 c u (Jah (X _ _ h) hs) (Sm _ _ (X _ _ h))
abbrev BaM:Stmt:=top 40
theorem Jfn:Jan ["thing","gap_name"] ["thing","gap_name"] (Jae BaM):=by bv_decide
def Jcr (K:W.Frag) (Ad:Adr):Sp:=fun vs H Q E=>∃ (x:Addr) (ls:List PD) (gs:List GD) (g:GD),vs=[.ref x, .str g.nm]/\TK K Ad H x ls gs/\(ls.map (·.nm)).Nodup/\ls.length<=12/\g∈gs/\(∀ u∈gs,u.nm=g.nm->u=g)/\∀ l (w:List Pr) H',Same H H'->H' l=some (.lst ((w.map (·.1)).map V.str))->Jbi ls g.st w g.en->(w.map (·.1)).Nodup->Q (.ref l) H'
theorem Jfe (F:FunD K "part_names" "part_names" BaM dV f fd) (T:Txt K mg Ad) (BdJ:MCal P w K mg base 1 "way" (Ja8 Ad) ["self","name"] (JbY K Ad)):FnOk P w K mg base (CX1 P w) 2 f fd ["thing","gap_name"] (Jcr K Ad):=by
 refine F.okn Jfn (by subst_eqs) (fun a0 A j s H vs Q E W h=>?_)
 obtain ⟨x,o,C,g,rfl,h⟩:=h;refine ⟨_,(Jai (Jap (Jeg (own:=["name","forward"]) (cs:=[]) (cl:=[]) rfl (pi_U (BdJ.m W ⋯ passF (pv 0) (Jaa (pv 1) Jac))) (fun _ _ _ _=>(JkE (K:=K) (n:=2) rfl rfl (Ja7 (Jar (i:=0) (show [("name" : Str),("forward" : Str)].Nodup by decide) rfl (Or.inl rfl) (hf:=Or.inr rfl)) (Ja7 (Jar (i:=1) (show [("name" : Str),("forward" : Str)].Nodup by decide) rfl (Or.inl rfl) (hf:=Or.inr rfl)) Jeh)))) (fun _ _ _ _=>(pv 0)) rfl ⋯ rfl ⋯ hcl0 (hhas0 ⋯) hcs0))),?_⟩;obtain ⟨G,I,h8,Z,q,k⟩:=h;obtain ⟨M,d1,d2,d3,k1,k2,k3,hx,_⟩:=id G;have sl:(1000:Nat)<=sizeLine:=by decide
 show tRet _ _ [some (.ref x),some (.str g.nm)] H;nofun;refine ⟨x,_,M,_,rfl,hx,rfl,rfl,x,g.nm,o,C,rfl,G,fun z=>absurd (mem_map.mpr ⟨g,Z,rfl⟩) z,fun g' u J l xs w H1 O Y v c D a=>?_⟩;have e:=q g' u J;subst e;have lx:=c.length;have lw:w.length<=12:=by
  have:=sub_len (w.map (·.1)) (o.map (·.nm)) a fun n hn=>JeR (Jgy D) n hn;rw [length_map,length_map] at this;ac_nf
 nofun;refine ⟨l,rfl, .inl ⟨⟨xs,SqL.of v⟩,CompJ.list (xs:=xs) (fun i B d=>d=H1/\B=((w.take i).map (·.1)).map V.str) ⟨rfl,rfl⟩ (fun i B d hi z=>⟨by rw [z.1];exact SqL.of v,by rw [z.2,length_map,length_map,length_take];ac_nf⟩) ?_ ?_⟩⟩
 ·rintro i y p d S ⟨rfl,rfl⟩;obtain ⟨pr,t,b,rfl,N⟩:=c.at_ S;simpa only [length_singleton,length_cons,length_nil,List.replicate,JaF,map_cons,map_nil,Option.join_some];refine ⟨b,_,rfl,SqT.of N,rfl,?_⟩;nofun;rw [take_succ,t];simp
 ·rintro p d ⟨rfl,rfl⟩;rw [take_of_length_le ∅];rename_i r L X d U S2 R;nofun;exact k r w U (O.trans S2) R D a
abbrev Bat:Stmt:=inClass (top 41) 0
theorem Jel:Jan ["self","name","rest","weights"] ["self","name","rest","weights"] (Jae Bat):=by bv_decide
def JbP (K:W.Frag) (Ad:Adr):Sp:=fun vs H Q E=>∃ (x dx wd:Addr) (nm:Str) (vr:V) (ws:List (Str × Int)),vs=[.ref x, .str nm,vr, .ref wd]/\H x=some (.ins Ad.Lid dx [])/\H wd=some (.dK (wsK ws))/\∀ H',H' x=some (.ins Ad.Lid dx [("name", .str nm),("rest",vr),("weights", .ref wd),("load", .int (ws.map (·.2)).sum),("last_level", .ref Ad.ZERO)])->(∀ b,b≠x->H' b=H b)->Q .non H'
theorem Jd8 (F:FunD K "__init__" "Lid.__init__" Bat dV f fd) (T:Txt K mg Ad)  : FnOk P w K mg base (CX1 P w) 1 f fd ["self","name","rest","weights"] (JbP K Ad):=by
 refine F.okn Jel (by subst_eqs) (fun W A m s H U Q E X h=>?_)
 obtain ⟨x,c,e,g,j,i,rfl,h⟩:=h;refine ⟨_,(Jab (JaR (pv 0) (pv 1) rfl)
   (Jab (JaR (pv 0) (pv 2) rfl)
   (Jab (JaR (pv 0) (pv 3) rfl)
   (Jab (JaR (pv 0) (JkD rfl rfl rfl T.n_sum Jk0 (pv 3)) rfl)
   (Jai (JaR (pv 0) (JcW (v:=.ref _) rfl T.Bdu T.Bdv) rfl)))))),?_⟩
 obtain ⟨G,r,k⟩:=h;have d:=T.c_Lid Ad.Lid rfl;have p:e≠x:=fun z=>by rw [z,G] at r;cases r
 show tSeq _ _ _ [some (.ref x),some (.str g),some j,some (.ref e)] H;exfalso;refine ⟨x,_,c,_,rfl,G,d.cls,d.n1,by simp,?_⟩;generalize D:upd H x _=q;exfalso;have J:q x=some (.ins Ad.Lid c [("name", .str g)]):=by rw [<- D];exact Jaj.trans rfl
 have S:∀ b,b≠x->q b=H b:=fun b a=>by rw [<- D,Jag a]
 exfalso;refine ⟨x,_,c,_,rfl,J,d.cls,d.n2,by simp,?_⟩;generalize t:upd q x _=n;exfalso;have N:n x=some (.ins Ad.Lid c [("name", .str g),("rest",j)]):=by rw [<- t];exact Jaj.trans rfl
 have L:∀ b,b≠x->n b=H b:=fun b a=>by rw [<- t,Jag a];exact S b a
 exfalso;refine ⟨x,_,c,_,rfl,N,d.cls,d.n3,by simp,?_⟩;generalize C:upd n x _=o;exfalso;have O:o x=some (.ins Ad.Lid c [("name", .str g),("rest",j),("weights", .ref e)]):=by rw [<- C];exact Jaj.trans rfl
 have y:∀ b,b≠x->o b=H b:=fun b a=>by rw [<- C,Jag a];exact L b a
 exfalso;refine ⟨e,wsK i,i.map (·.2),rfl,by rw [y e p];exact r,Jjw i,?_⟩;exfalso;refine ⟨x,_,c,_,rfl,O,d.cls,d.n4,by simp,?_⟩;generalize B:upd o x _=l;exfalso;have R:l x=some (.ins Ad.Lid c [("name", .str g),("rest",j),("weights", .ref e),("load", .int (i.map (·.2)).sum)]):=by rw [<- B];exact Jaj.trans rfl
 have V:∀ b,b≠x->l b=H b:=fun b a=>by rw [<- B,Jag a];exact y b a
 exfalso;refine ⟨x,_,c,_,rfl,R,d.cls,d.n5,by simp,?_⟩;generalize I:upd l x _=u;exfalso;have M:u x=some (.ins Ad.Lid c [("name", .str g),("rest",j),("weights", .ref e),("load", .int (i.map (·.2)).sum),("last_level", .ref Ad.ZERO)]):=by rw [<- I];exact Jaj.trans rfl
 exact k u M fun b a=>by rw [<- I,Jag a];exact V b a
abbrev Bak:Stmt:=inClass (top 41) 1
theorem Jdw:Jan ["self"] ["self"] (Jae Bak):=by bv_decide
def Jbx (K:W.Frag) (Ad:Adr):Sp:=fun vs H Q E=>∃ (q:Addr) (e:LidD),vs=[.ref q]/\LDV K Ad H e (.ref q)/\FB 3000 1000 e.rest/\1<=e.load/\Mth.Sz 64 e.load/\∀ p H',Same H H'->H' p=some (.tup [.int (divF e.rest (e.load,1)).1, .int (divF e.rest (e.load,1)).2])->Q (.ref p) H'
theorem Jds (F:FunD K "full_level" "Lid.full_level" Bak dV f fd) (T:Txt K mg Ad) (Bc7:Cal P w K mg base 3 "over" ["one","other"] [] (Jfr K Ad)):FnOk P w K mg base (CX1 P w) 4 f fd ["self"] (Jbx K Ad):=by
 refine F.okn Jdw (by subst_eqs) (fun C A c s H y Q E d h=>?_)
 obtain ⟨q,e,rfl,h⟩:=h;refine ⟨_,(Jai (Jap (Bc7.ev d ⋯ rfl passF (Jaa (Jaq (pv 0) rfl) (Jaa (JaH (Jaa (Jaq (pv 0) rfl) (Jaa Jad Jac))) Jac)) (he:=by exact Jaf rfl)))),?_⟩;obtain ⟨⟨L,i,m,J,I,x,l,d,O,N⟩,a,G,t,k⟩:=h;cases x;have b:=T.c_Lid Ad.Lid rfl;show tRet _ _ [some (.ref q)] H;and_intros;refine ⟨q,_,i,_,m,rfl,l,b.cls,b.n2,rfl,?_⟩;refine ⟨q,_,i,_, .int e.load,rfl,l,b.cls,b.n4,rfl,?_⟩;and_intros;refine ⟨len2,?_⟩;rename_i p o B H M j r;and_intros;refine ⟨m, .ref p,_,_,e.load,1,rfl,d.same j,FrV.of r,a.s1.mono ⋯,a.s2.mono ⋯,t.mono ⋯, .lit ⋯ ⋯,a.b1,by decide,a.g1,by unfold Mth.g;simp,fun z=>absurd z ∅,fun _ n v D u=>?_⟩;exact k n v (j.trans D) u
abbrev BaN:Stmt:=inClass (top 41) 2
theorem Jdk:Jan ["self","part","level","weight"] ["self","part","level"] (Jae BaN):=by bv_decide
def Jcj (K:W.Frag) (Ad:Adr):Sp:=fun vs H Q E=>∃ (q:Addr) (n:Str) (lv:V) (e:LidD) (L:Fr2),vs=[.ref q, .str n,lv]/\LDV K Ad H e (.ref q)/\FrV K H lv L.1 L.2/\FB 3000 1000 e.rest/\FB 3000 1000 L/\(∀ x∈e.ws,Mth.Sz 64 x.2)/\∀ H',(∀ b u,b≠q->H b=some u->H' b=some u)->LDV K Ad H' (e.settle n L) (.ref q)->(∀ d kv,H d=some (.dK kv)->LDV K Ad (cut d H) e (.ref q)->LDV K Ad (cut d H') (e.settle n L) (.ref q))->Q .non H'
theorem Je7 (F:FunD K "settle" "Lid.settle" BaN dV f fd) (T:Txt K mg Ad) (BaY:Cal P w K mg base 3 "minus" ["one","other"] [] (JcT K)) (Bbh:Cal P w K mg base 2 "times" ["one","other"] [] (Jdm K)):FnOk P w K mg base (CX1 P w) 4 f fd ["self","part","level"] (Jcj K Ad):=by
 refine F.okn Jdk (by subst_eqs) (fun b0 A a2 s H vs Q E Y h=>?_)
 obtain ⟨q,n,G,e,L,rfl,h⟩:=h;have hu:=Y.units;refine ⟨_,(Jai (ps_if (Jej (Jg2 (hu1 hu) (pv 1) (Jaq (pv 0) rfl)) (by with_unfolding_all rfl))
   (Jab (Jak (i:=3) Jdk.nd rfl (Or.inl rfl) (Jbh (hu1 hu) (Jaq (pv 0) rfl) (pv 1) (fun _ _=>rfl)))
   (Jab (JaR (pv 0) (BaY.ev Y ⋯ rfl passF (Jaa (Jaq (pv 0) rfl) (Jaa (Bbh.ev Y ⋯ rfl passF (Jaa (pv 2) (Jaa (JaH (Jaa (pv 3) (Jaa Jad Jac))) Jac)) (he:=by exact Jaf rfl)) Jac)) (he:=by exact Jaf rfl)) rfl)
   (Jab (JaR (pv 0) (pe_op JfT (Jaq (pv 0) rfl) (pv 3)) rfl)
   (Jai (JaR (pv 0) (pv 2) rfl)))))
   Jav)),?_⟩
 clear hu;obtain ⟨hd,hl,Z,o,a3,k⟩:=h;obtain ⟨q',l,vr,vt,m,hv,v,Y,ht,R⟩:=id hd;cases hv;have j:=T.c_Lid Ad.Lid rfl;have W:m≠q:=fun z=>by rw [z,v] at R;cases R
 have gw:=DGet.k (k:=Sum.inr n) R;rw [JgJ] at gw;show tIfS _ _ _ _ [some (.ref q),some (.str n),some G,none] H;try simpa only [y4dy,y84y]
 refine ⟨q,_,l,_, .ref m,rfl,v,j.cls,j.n3,rfl,?_⟩;refine ⟨m,_,rfl,gw,?_⟩;cases hwt:wtOf e.ws n with
 | none=>
  rw [show ((none:Option Int).map V.int).isSome=false from rfl];try simpa only [y4dy,y84y]
  have S:e.settle n L=e:=by unfold LidD.settle;rw [hwt]
  exact k H (fun b u _ h=>h) (by rw [S];exact hd) (fun d kv _ h=>by rw [S];exact h)
 | some w=>
  rw [hwt] at gw;have S:e.settle n L={ e with rest:=subF e.rest (mulF L (w,1)),load:=e.load-w,last:=L }:=by unfold LidD.settle;rw [hwt]
  have sw:=a3 _ (JiT hwt);rw [show ((some w).map V.int).isSome=true from rfl];try simpa only [y4dy,y84y]
  refine ⟨q,_,l,_, .ref m,rfl,v,j.cls,j.n3,rfl,?_⟩;refine ⟨m, .int w,rfl,gw,?_⟩;try simpa only [y4dy,y84y]
  refine ⟨q,_,l,_,vr,rfl,v,j.cls,j.n2,rfl,?_⟩;try simpa only [y4dy,y84y]
  refine ⟨len2,?_⟩;rename_i p a7 a8 H H1 S1 e1;symm_saturate;refine ⟨G, .ref p,_,_,w,1,rfl,hl.same S1,FrV.of e1,o.s1.mono ⋯,o.s2.mono ⋯,sw.mono ⋯, .lit ⋯ ⋯,o.b1,by decide,o.g1,by unfold Mth.g;simp,fun p2 H2 S2 e2=>?_⟩;have N:=S1.trans S2;have ml:=Je6 (a:=L) (c:=(w,1)) o.b1 (Int.le_refl 1);have a1:Mth.Sz 4000 (mulF L (w,1)).1:=(Mth.Sz.top (by have:=o.b1;show L.2*1≠0;ac_nf) (o.s1.mul sw)).mono ⋯;have a4:Mth.Sz 4000 (mulF L (w,1)).2:=(Mth.Sz.bot (t:=L.1*w) (b:=L.2*1) (by have:=o.b1;ac_nf) (by rw [Int.mul_one];exact o.s2)).mono ⋯;have e2:H2 p2=some (.tup [.int (mulF L (w,1)).1, .int (mulF L (w,1)).2]):=e2;try simpa only [y4dy,y84y]
  refine ⟨vr, .ref p2,_,_,_,_,rfl,Y.same N,FrV.of e2,Z.s1.mono ⋯,Z.s2.mono ⋯,a1,a4,Z.b1,ml.b1,Z.g1,ml.g1,fun U H3 S3 e3=>?_⟩;have x:=N.trans S3;have X:=x _ _ v;try simpa only [y4dy,y84y]
  refine ⟨q,_,l,_,rfl,X,j.cls,j.n2,by simp,?_⟩;generalize u4:upd H3 q _=I;symm_saturate;have e4:I q=some (.ins Ad.Lid l [("name", .str e.nm),("rest", .ref U),("weights", .ref m),("load", .int e.load),("last_level",vt)]):=by rw [<- u4];exact Jaj.trans rfl
  have o4:∀ b u,b≠q->H b=some u->I b=some u:=fun b u J h=>by rw [<- u4,Jag J];exact x _ _ h
  have T4:SameT H3 I:=SameT.put u4 X rfl;try simpa only [y4dy,y84y]
  refine ⟨q,_,l,_, .int e.load,rfl,e4,j.cls,j.n4,rfl,?_⟩;try simpa only [y4dy,y84y]
  refine ⟨q,_,l,_,rfl,e4,j.cls,j.n4,by simp,?_⟩;generalize u5:upd I q _=H5;symm_saturate;have e5:H5 q=some (.ins Ad.Lid l [("name", .str e.nm),("rest", .ref U),("weights", .ref m),("load", .int (e.load-w)),("last_level",vt)]):=by rw [<- u5];exact Jaj.trans rfl
  have T5:SameT I H5:=SameT.put u5 e4 rfl;try simpa only [y4dy,y84y]
  refine ⟨q,_,l,_,rfl,e5,j.cls,j.n5,by simp,?_⟩;generalize u6:upd H5 q _=D;symm_saturate;have e6:D q=some (.ins Ad.Lid l [("name", .str e.nm),("rest", .ref U),("weights", .ref m),("load", .int (e.load-w)),("last_level",G)]):=by rw [<- u6];exact Jaj.trans rfl
  have T6:SameT H5 D:=SameT.put u6 e5 rfl;have M:=T4.trans (T5.trans T6);have o6:∀ b u,b≠q->H b=some u->D b=some u:=fun b u J h=>by rw [<- u6,Jag J, <- u5,Jag J];exact o4 b u J h
  have f3:=FrV.of (K:=K) (M _ _ rfl e3);have fl:=(hl.same x).sameT M;refine k D o6 ?_ fun d b3 O a6=>?_
  ·rw [S];exact ⟨q,l, .ref U,G,m,rfl,e6,f3,fl,o6 _ _ W R⟩
  ·obtain ⟨q',b2,a9,b4,a0,B,y,_,_,r⟩:=a6;have B:q=q':=by injection B
   subst B;have C:q≠d:=fun z=>by rw [z,O] at v;cases v
   rw [JbF C,v] at y;simp only [Option.some.injEq,HO.ins.injEq,List.cons.injEq,Prod.mk.injEq,V.ref.injEq,true_and,and_true] at y;have ew:m=a0:=y.2.2.1;subst ew;have a5:m≠d:=fun z=>by
    rw [z] at r;unfold cut at r;rw [if_pos rfl] at r;cases r
   have Tc:SameT D (cut d D):=SameT.cutO (o6 _ _ C.symm O) rfl;rw [S];exact ⟨q,l, .ref U,G,m,rfl,by rw [JbF C];exact e6,f3.sameT Tc,fl.sameT Tc,by rw [JbF a5];exact o6 _ _ W R⟩
abbrev Bag:Stmt:=inClass (top 41) 3
theorem Jdj:Jan ["self","part","level"] ["self","part","level"] (Jae Bag):=by bv_decide
def Jbp (K:W.Frag) (Ad:Adr):Sp:=fun vs H Q E=>∃ (q:Addr) (n:Str) (lv:V) (e:LidD) (L:Fr2),vs=[.ref q, .str n,lv]/\LDV K Ad H e (.ref q)/\FrV K H lv L.1 L.2/\Q (.bl ((wtOf e.ws n).isSome&&(decide (e.rest=(0,1))&&decide (e.last=L)))) H
theorem Jda (F:FunD K "has_stopped" "Lid.has_stopped" Bag dV f fd) (T:Txt K mg Ad)  : FnOk P w K mg base (CX1 P w) 1 f fd ["self","part","level"] (Jbp K Ad):=by
 refine F.okn Jdj (by subst_eqs) (fun y A d s H x Q E g h=>?_)
 obtain ⟨q,n,m,e,L,rfl,h⟩:=h;have b:=g.units;refine ⟨_,(Jai (Jap (JcA (Jls (Jg2 (hu1 b) (pv 1) (Jaq (pv 0) rfl)) (by with_unfolding_all rfl)) (JcA (Jbu (Jb9 b) (Jaq (pv 0) rfl) (JcW (v:=.ref _) rfl T.Bdu T.Bdv) (Jaw _)) (Jdf (Jbu (Jb9 b) (Jaq (pv 0) rfl) (pv 2) (Jaw _))))))),?_⟩;clear b;obtain ⟨⟨D,c,C,t,j,u,i,g,B,z⟩,p,k⟩:=h;cases u;have a:=T.c_Lid Ad.Lid rfl;have l:=DGet.k (k:=Sum.inr n) z;rw [JgJ] at l;have o:decide (e.rest=(0,1))=(decide (e.rest.1=0)&&decide (e.rest.2=1)):=by
  rw [<- Bool.decide_and];exact decide_eq_decide.mpr Prod.ext_iff
 have r:decide (e.last=L)=(decide (e.last.1=L.1)&&decide (e.last.2=L.2)):=by
  rw [<- Bool.decide_and];exact decide_eq_decide.mpr Prod.ext_iff
 rw [o,r] at k;show tRet _ _ [some (.ref q),some (.str n),some m] H;and_intros;refine ⟨q,_,c,_, .ref j,rfl,i,a.cls,a.n3,rfl,?_⟩;refine ⟨j,_,rfl,l,?_⟩;rw [show ((wtOf e.ws n).map V.int).isSome=(wtOf e.ws n).isSome by cases wtOf e.ws n <;> rfl];cases c1:(wtOf e.ws n).isSome with
 | false=>
  rw [c1] at k;and_intros;exact k
 | true=>
  rw [c1] at k;and_intros;refine ⟨q,_,c,_,C,rfl,i,a.cls,a.n2,rfl,?_⟩;refine eqF g ⟨Ad.ZERO,rfl,T.Bdw _⟩ ?_;cases c2:(decide (e.rest.1=0)&&decide (e.rest.2=1)) with
  | false=>
   rw [c2] at k;and_intros;exact k
  | true=>
   rw [c2] at k;and_intros;refine ⟨q,_,c,_,t,rfl,i,a.cls,a.n5,rfl,?_⟩;refine eqF B p ?_;exact k
abbrev Bbx:Stmt:=top 42
theorem Jbw:Jan ["thing","scale","weights","part","lids","gap","room","on_way"] ["thing","scale"] (Jae Bbx):=by bv_decide
def Jdz (K:W.Frag) (Ad:Adr):Sp:=fun vs H Q E=>∃ (x sc:Addr) (ls:List PD) (es:List (GD × List Str)) (pl:Str->Fr2) (b:Int) (fs:List Int),vs=[.ref x, .ref sc]/\TK K Ad H x ls (es.map (·.1))/\SCK Ad H sc b fs/\SHC ls es pl/\(∀ e∈es,0<=vl (roomF pl e.1))/\∀ ll xs lds H',Same H H'->H ll=none->H' ll=some (.lst xs)->All2 (LDV K Ad H') lds xs->xs.Nodup->(∀ v∈xs, ∃ q,v=.ref q/\H q=none)->lds.length=es.length->(∀ (i:Nat) e l,es[i]?=some e->lds[i]?=some l->LSt b ls pl e l)->Q (.ref ll) H'
theorem Jhr (F:FunD K "lids_of" "lids_of" Bbx dV f fd) (T:Txt K mg Ad) (BaH:MCal P w K mg base 2 "parts" (Ja8 Ad) ["self"] (JaZ K Ad)) (Bc6:MCal P w K mg base 2 "gaps" (Ja8 Ad) ["self"] (JbK K Ad)) (BdO:MCal P w K mg base 5 "room" (Ja8 Ad) ["self","name"] (Jcl K Ad)) (BaG:Cal P w K mg base 1 "under" ["one","other"] [] (Jcu K)) (BbX:Cal P w K mg base 2 "part_names" ["thing","gap_name"] [] (Jcr K Ad)) (k_Lid:KCal P w K mg base 1 "Lid" Ad.Lid ["self","name","rest","weights"] (JbP K Ad)) (Bca:MCal P w K mg base 2 "lifted" (Jdn Ad) ["self","number"] (Jbq K Ad)):FnOk P w K mg base (CX1 P w) 7 f fd ["thing","scale"] (Jdz K Ad):=by
 refine F.okx Jbw (fun vs H Q E h=>?_) (fun j2 A f9 s H vs Q E hr h=>?_)
 ·obtain ⟨x,sc,ls,es,pl,b,fs,rfl,_⟩:=h;rfl
 obtain ⟨x,sc,ls,es,pl,b,fs,rfl,h⟩:=h;have hu:=hr.units;refine ⟨_,(Jab (Jak (i:=2) Jbw.nd rfl (Or.inr rfl) JbH)
   (Jab (Ja3 PassesOwn.leaving rfl (pi_U (BaH.m0 hr ⋯ pass1 (pv 0))) (Jar (i:=3) Jbw.nd rfl (Or.inl rfl))
   (Jai (Jb1 (hu1 hu) (pv 2) (pe_ix ix_U (pv 3) Jad (fun _ _=>rfl)) (pe_ix ix_U (pv 3) Jad (fun _ _=>rfl)) rfl)))
   (Jab (Jak (i:=4) Jbw.nd rfl (Or.inl rfl) (Ja2 Jac))
   (Jab (Ja3 PassesOwn.leaving rfl (pi_U (Bc6.m0 hr ⋯ pass1 (pv 0))) (Jar (i:=5) Jbw.nd rfl (Or.inl rfl))
   (Jab (Jak (i:=6) Jbw.nd rfl (Or.inl rfl) (BdO.m hr ⋯ pass1 (pv 0) (Jaa (pe_ix ix_U (pv 5) Jad (fun _ _=>rfl)) Jac)))
   (Jab (ps_if (Ja9 (BaG.ev hr ⋯ rfl pass1 (Jaa (pv 6) (Jaa (JcW (v:=.ref _) rfl T.Bdu T.Bdv) Jac)) (he:=by exact Jaf rfl)))
   (Jai ps_no)
   Jav)
   (Jab (Jak (i:=7) Jbw.nd rfl (Or.inl rfl) (Jde (Jhc rfl) rfl T.n_dict Jj4 (Jaa (Jjd (own:=["name"]) (cs:=[(2,"weights")]) rfl (pi_U (BbX.ev hr ⋯ rfl pass1 (Jaa (pv 0) (Jaa (pe_ix ix_U (pv 5) Jad (fun _ _=>rfl)) Jac)) (he:=by exact Jaf rfl))) (fun _ _ _ _=>(Jar (i:=0) (show [("name" : Str),("weights" : Str)].Nodup by decide) rfl (Or.inl rfl))) (fun _ _ _ _=>(JaH (Jaa (pv 0) (Jaa (Jbh (hu1 hu) (pv 1) (pv 0) (fun _ _=>rfl)) Jac)))) (JfF rfl) ⋯ rfl ⋯
   (hcs1 rfl rfl rfl)) Jac)))
   (Jai (Ja4 (pe_bm PySem.F.plainAttrs_list PySem.F.slot_list_append PySem.F.type_list_append JaY (pv 4) (Jaa (k_Lid.ev hr ⋯ rfl pass1 (Jaa (pe_ix ix_U (pv 5) Jad (fun _ _=>rfl)) (Jaa (Bca.m hr ⋯ pass1 (pv 1) (Jaa (pv 6) Jac)) (Jaa (pv 7) Jac)))) Jac) (hs:=by exact Jaf rfl))))))))
   (Jai (Jap (pv 4))))))),?_⟩
 clear hu;obtain ⟨ht,d7,L,h6,k⟩:=h;obtain ⟨dx,d1,d2,d3,k1,k2,k3,hx,_⟩:=id ht;obtain ⟨h5,fl,e9,_,i3,sb,_⟩:=id d7;have sl:(1000:Nat)<=sizeLine:=by decide
 have i7:=L.l12;have l7:=L.l7;show tSeq _ _ _ [some (.ref x),some (.ref sc),none,none,none,none,none,none] H;nofun;rename_i wd f3 i0 H H1 S1 e1;nofun;refine ⟨x,_,dx,_,rfl,S1 _ _ hx,rfl,rfl,x,ls,_,rfl,ht.same S1,by ac_nf,fun l ys H2 S2 d9 e2 hY=>?_⟩;have lY:=hY.length;have f5:l≠wd:=fun z=>by rw [z,e1] at d9;cases d9
 have f6:=S1.trans S2;nofun;refine ⟨l,rfl,ForA.byLN (xs:=ys) (SqL.of e2) (fun i σ N=>i<=ys.length/\∃ (v3:Option V) (kv:List (Key × V)),σ=[some (.ref x),some (.ref sc),some (.ref wd),v3,none,none,none,none]/\(∀ c u,c≠wd->H2 c=some u->N c=some u)/\SameT H2 N/\N wd=some (.dK kv)/\BG (·.nm) (fun p v=>v=.int p.wt) (ls.take i) kv) ⟨Nat.zero_le _,none,[],rfl,fun _ _ _ h=>h,SameT.refl _,S2 _ _ e1,⟨rfl,rfl⟩⟩ (fun i σ N q=>by obtain ⟨_,_,_,_,q,_⟩:=q;exact SqL.of (q _ _ f5 e2)) ?_ ?_⟩
 ·rintro i y σ H3 R ⟨hi,v3,kv,rfl,ho,hT,X,hB⟩ N0 b2;have li:=(List.getElem?_eq_some_iff.mp R).1;obtain ⟨p,hp,b_,vz,vm,rfl,hb,_,_⟩:=hY.at_ R;have lB:=hB.length;rw [length_take] at lB;have d5:=hb.sameT hT;nofun;refine ixT (i:=5) d5 rfl ?_;nofun;refine ixT (i:=0) d5 rfl ?_;refine ⟨wd,_,rfl,DPut.k (k:=Sum.inr p.nm) X ∅,?_⟩;generalize u4:upd H3 wd _=H4;nofun;have e4:=putE u4;have T4:SameT H3 H4:=SameT.put u4 X rfl;refine b2 _ _ ⟨li,_,_,rfl,fun c u Z h=>by rw [<- u4,Jag Z];exact ho c u Z h,hT.trans T4,e4,?_⟩;rw [take_succ,hp];exact hB.new (a:=p) (Jh7 L.nd hp) rfl
 ·rintro σ H3 ⟨hi,v3,kv,rfl,ho,hT,X,hB⟩;rw [take_of_length_le ∅] at hB;have c6:Same H H3:=fun c u h=>ho c u (Jah h f3) (f6 _ _ h);nofun;refine ⟨len0,?_⟩;rename_i D a0 i1 H3 H4 S4 e4;nofun;have b6:=c6.trans S4;have Y:H D=none:=JdV c6 a0;refine ⟨x,_,dx,_,rfl,b6 _ _ hx,rfl,rfl,x,ls,_,rfl,ht.same b6,by rw [length_map];ac_nf,fun m zs H5 S5 f4 e5 hZ=>?_⟩;have lZ:=hZ.length;rw [length_map] at lZ;have g1:m≠D:=fun z=>by rw [z,e4] at f4;cases f4
  have d0:=b6.trans S5;have c7:=S5 _ _ (S4 _ _ X);nofun;refine ⟨m,rfl,ForA.byLN (xs:=zs) (SqL.of e5) (fun i σ N=>i<=zs.length/\∃ (v5 v6 v7:Option V) (xs:List V) (J:List LidD),σ=[some (.ref x),some (.ref sc),some (.ref wd),v3,some (.ref D),v5,v6,v7]/\(∀ c u,c≠D->H5 c=some u->N c=some u)/\N D=some (.lst xs)/\All2 (LDV K Ad (cut D N)) J xs/\xs.Nodup/\(∀ v∈xs, ∃ q,v=.ref q/\H q=none/\N q≠none)/\J.length=i/\∀ (j:Nat) e l,es[j]?=some e->J[j]?=some l->LSt b ls pl e l) ⟨Nat.zero_le _,none,none,none,[],[],rfl,fun _ _ _ h=>h,S5 _ _ e4,rfl, .nil,(fun v hv=>by cases hv),rfl,fun j e l _ h=>by simp at h⟩ (fun i σ N q=>by obtain ⟨_,_,_,_,_,_,_,q,_⟩:=q;exact SqL.of (q _ _ g1 e5)) ?_ ?_⟩
  ·rintro i y σ H6 R ⟨hi,v5,v6,v7,xs,J,rfl,O,ex,hX,b3,a2,c1,b7⟩ N0 b2;have li:=(List.getElem?_eq_some_iff.mp R).1;have lX:=hX.length;obtain ⟨g,a4,a_,j3,j4,rfl,hb,_,_⟩:=hZ.at_ R;obtain ⟨e,f1,rfl⟩:∃ e,es[i]?=some e/\e.1=g:=by
    rw [List.getElem?_map] at a4;exact Option.map_eq_some_iff.mp a4
   have he:=List.mem_of_getElem? f1;have gm:e.1∈es.map (·.1):=mem_map.mpr ⟨e,he,rfl⟩;have W:Same H H6:=fun c u h=>O c u (Jah h Y) (d0 _ _ h);have g5:SameT H5 H6:=fun c u t h=>O c u (fun z=>by have:=S5 _ _ e4;rw [<- z,h] at this;cases this;simp [isTF] at t) h;have g4:wd≠D:=fun z=>by rw [<- z,X] at a0;cases a0
   have c5:=O _ _ g4 c7;have b8:=hb.sameT g5;nofun;refine ⟨x,_,dx,_,rfl,W _ _ hx,rfl,rfl,?_⟩;refine ixT (i:=0) b8 rfl ?_;refine ⟨x,e.1.nm,ls,es.map (·.1),rfl,ht.same W,fun z=>absurd (mem_map.mpr ⟨e.1,gm,rfl⟩) z,fun g' a4 hz=>?_⟩;have h0:=L.gn e he g' a4 hz;subst h0;refine ⟨pl,L.gn e he,fun p hp q hq h=>Jik L.nd hp hq h,L.pok,L.plb,L.pls,L.tok e he,fun v H7 S7 fv=>?_⟩;have rb:=L.rb e he;have l0:=Jew (a:=roomF pl e.1) (c:=(0,1)) rb.b1 ⋯;rw [JgK] at l0;unfold lessF at l0;nofun;refine ⟨v, .ref Ad.ZERO,_,_,0,1,rfl,fv,⟨Ad.ZERO,rfl,T.Bdw _⟩,rb.s1.mono ⋯,rb.s2.mono ⋯, .lit ⋯ ⋯, .lit ⋯ ⋯,?_⟩;nofun;rw [if_neg (fun z=>absurd (l0.mp z) (Rat.not_lt.mpr (h6 e he)))];nofun;have g7:=W.trans S7;refine ixT (i:=0) (b8.same S7) rfl ?_;refine ⟨x,ls,es.map (·.1),e.1,rfl,ht.same g7,L.nd,by ac_nf,gm,L.gn e he,fun nl w H8 S8 e8 hw c0=>?_⟩;have c3:=S7.trans S8;have e7:=c3 _ _ c5;have f2:∀ n∈w.map (·.1),n∈ls.map (·.nm):=fun n hn=>JeR (Jgy hw) n hn;have lw:w.length<=12:=by
    have:=sub_len (w.map (·.1)) (ls.map (·.nm)) c0 fun n hn=>f2 n hn;rw [length_map,length_map] at this;ac_nf
   nofun;refine ⟨nl,rfl, .inl ⟨⟨_,SqL.of e8⟩,CompJ.list (xs:=(w.map (·.1)).map V.str) (fun j qs N=>Same H8 N/\∃ (as:List Addr) (C:List (Str × Int)),qs=as.map V.ref/\as.length=C.length/\(∀ (i:Nat) (a:Addr) (p:Str × Int),as[i]?=some a->C[i]?=some p->N a=some (.tup [.str p.1, .int p.2]))/\C.map (·.1)=(w.map (·.1)).take j/\∀ y∈C, ∃ p∈ls,p.nm=y.1/\p.wt=y.2) ⟨Same.refl _,[],[],rfl,rfl,(fun i a p h=>by simp at h),rfl,(fun y R=>by cases R)⟩ (fun j qs N hj z=>by
    obtain ⟨z1,as,C,rfl,r,_,d,_⟩:=z;have:=congrArg List.length d;rw [length_map,length_take,length_map] at this;exact ⟨SqL.of (z1 _ _ e8),by rw [length_map];ac_nf⟩) ?_ ?_⟩⟩
   ·rintro j y' qs H9 U ⟨S9,as,C,rfl,c2,b4,o,b0⟩;have lj:=(List.getElem?_eq_some_iff.mp U).1;rw [length_map] at lj;rw [List.getElem?_map,List.getElem?_eq_getElem lj] at U;obtain ⟨n,hn⟩:∃ n,n=(w.map (·.1))[j]:=⟨_,rfl⟩;rw [<- hn] at U;have U:y'=.str n:=(Option.some.inj U).symm;subst U;have h4:n∈ls.map (·.nm):=f2 n (by rw [hn];exact List.getElem_mem lj);obtain ⟨p,v',g8,g0,hv,g6⟩:=hB.some (z:=n) h4;simpa only [length_singleton,length_cons,length_nil,List.replicate,JaF,map_cons,map_nil,Option.join_some];refine ⟨wd,_,rfl,by rw [<- hv];exact DGet.k (k:=Sum.inr n) (S9 _ _ e7),?_⟩;rw [g6];refine ⟨by show 2<=sizeLine;ac_nf,?_⟩;rename_i t j0 i8 H9 e3 S b9;nofun;refine ⟨S9.trans S,as++[t],C++[(n,p.wt)],by simp,by simp [c2],fun i' a' p' r d=>?_,?_,fun y R=>?_⟩
    ·rcases Jbn r with r | ⟨q1,q2⟩
     ·rcases Jbn d with d | ⟨q3,q4⟩
      ·exact S _ _ (b4 i' a' p' r d)
      ·have:=(List.getElem?_eq_some_iff.mp r).1;ac_nf
     ·rcases Jbn d with d | ⟨q3,q4⟩
      ·have:=(List.getElem?_eq_some_iff.mp d).1;ac_nf
      ·rw [q2,q4];exact b9
    ·rw [map_append,o,take_succ,List.getElem?_eq_getElem lj, <- hn];rfl
    ·rcases mem_append.mp R with R | R
     ·exact b0 y R
     ·rw [mem_singleton.mp R];exact ⟨p,g8,g0,rfl⟩
   ·rintro qs H9 ⟨S9,as,C,rfl,c2,b4,o,b0⟩;rw [length_map,take_of_length_le (Nat.le_refl _)] at o;have i9:C.length<=12:=by have:=congrArg List.length o;rw [length_map,length_map] at this;ac_nf
    have c8:(C.map (·.1)).Nodup:=by rw [o];exact c0
    rename_i ql i2 i4 H9 e3 S b9;nofun;refine ⟨ql,as,C.map fun p=>(p.1,V.int p.2),rfl,b9,by rw [length_map];exact c2,fun i' a' p' r d=>?_,?_⟩
    ·rw [List.getElem?_map] at d;obtain ⟨f8,h3,rfl⟩:=Option.map_eq_some_iff.mp d;exact S _ _ (b4 i' a' f8 r h3)
    have g2:JdD (C.map fun p=>(p.1,V.int p.2))=wsK C:=by
     rw [Jij (by rw [map_map];exact c8),map_map];rfl
    rw [g2];rename_i od a9 i5 e3 j1 f7 d6;nofun;have a7:=S9.trans (S.trans f7);have B:=c3.trans a7;have d8:=W.trans B;have c4:=B _ _ ex;refine ⟨.inl ⟨rfl,_,SqL.of c4⟩,?_⟩;refine ixT (i:=0) (b8.same B) rfl ?_;refine ⟨sc,_,h5,_,rfl,d8 _ _ e9,rfl,rfl,?_⟩;refine ⟨sc,v,roomF pl e.1,b,fs,rfl,d7.same d8,FrV.same (S8.trans a7) fv,rb.mono ⋯ ⋯,fun pr t b5 a6 h7 hL=>?_⟩;nofun;intro q dq hq h9 i6;have e6:Same b5 (upd (upd b5 dq (.own q)) q (.ins Ad.Lid dq [])):=fun b u z=>by rw [Jag (Jah z hq),Jag (Jah z h9)];exact z
    refine ⟨q,dq,od,e.1.nm, .ref pr,C,rfl,Jaj,e6 _ _ (a6 _ _ d6),fun a3 d4 g3=>⟨rfl,?_⟩⟩;have G:Same b5 a3:=fun b u z=>by rw [g3 b (Jah z hq)];exact e6 _ _ z
    have M:=B.trans (a6.trans G);have a8:=M _ _ ex;have a5:H6 q=none:=JdV (B.trans a6) hq;refine ⟨D,xs,_,rfl,rfl,a8,by ac_nf,?_⟩;generalize a1:upd a3 D _=e0;nofun;have f0:=putE a1;have ec:cut D e0=cut D a3:=by rw [<- a1];exact Jgd
    have c9:q≠D:=fun z=>by rw [z,ex] at a5;cases a5
    have h8:od≠D:=fun z=>by rw [z,(c3.trans (S9.trans S)) _ _ ex] at a9;cases a9
    refine b2 _ _ ⟨li,_,_,_,xs++[.ref q],J++[⟨e.1.nm,t,C,(C.map (·.2)).sum,(0,1)⟩],rfl,fun c u Z h=>by rw [<- a1,Jag Z];exact M _ _ (O c u Z h),f0,?_,?_,fun v' I=>?_,by simp [c1],fun j e' l' r d=>?_⟩
    ·rw [ec];refine (hX.mono (P':=LDV K Ad (cut D a3)) fun _ _ z=>z.same M.cut).append (.one ⟨q,dq, .ref pr, .ref Ad.ZERO,od,rfl,?_,?_,⟨Ad.ZERO,rfl,T.Bdw _⟩,?_⟩)
     ·rw [JbF c9];exact d4
     ·exact (FrV.of (G _ _ h7)).cut a8
     ·rw [JbF h8];exact G _ _ (a6 _ _ d6)
    ·refine nodup_append.mpr ⟨b3,by simp,fun u hu v' I z=>?_⟩;rw [mem_singleton.mp I] at z;obtain ⟨q',r,_,d⟩:=a2 u hu;rw [r] at z;cases z;exact d a5
    ·have g9:∀ c,H6 c≠none->e0 c≠none:=fun c h=>by
      by_cases cc:c=D
      ·rw [cc,f0];intro y;cases y
      ·cases hh:H6 c with
       | none=>exact absurd hh h
       | some u=>rw [<- a1,Jag cc,M _ _ hh];intro y;cases y
     rcases mem_append.mp I with I | I
     ·obtain ⟨q',r,d,h3⟩:=a2 v' I;exact ⟨q',r,d,g9 q' h3⟩
     ·rw [mem_singleton.mp I];exact ⟨q,rfl,JdV W a5,by rw [<- a1,Jag c9,d4];intro y;cases y⟩
    ·rcases Jbn d with d | ⟨q1,q2⟩
     ·exact b7 j e' l' r d
     ·rw [q1,c1,f1] at r;cases r;rw [q2];exact ⟨rfl,hL.vl rb.b1,(hL.fb rb sb).mono ⋯ ⋯,by rw [o];exact (L.way e he w hw c0).symm,c8,b0,rfl,rfl⟩
  ·rintro σ H6 ⟨hi,v5,v6,v7,xs,J,rfl,O,ex,hX,b3,a2,c1,b7⟩;nofun;exact k D xs J H6 (fun c u h=>O c u (Jah h Y) (d0 _ _ h)) Y ex (hX.mono fun _ _ z=>z.same Jc7) b3 (fun v hv=>by obtain ⟨q,r,d,_⟩:=a2 v hv;exact ⟨q,r,d⟩) ∅ b7
abbrev BaD:Stmt:=top 43
theorem Jb2:Jan ["thing","scale","told","part"] ["thing","scale"] (Jae BaD):=by bv_decide
def Jb5 (K:W.Frag) (Ad:Adr):Sp:=fun vs H Q E=>∃ (x sc:Addr) (ls:List PD) (gs:List GD) (b:Int) (fs:List Int),vs=[.ref x, .ref sc]/\TK K Ad H x ls gs/\SCK Ad H sc b fs/\ls.length<=12/\(ls.map (·.nm)).Nodup/\(∀ p∈ls,FB 200 12 p.mo/\1<=p.wt/\Mth.Sz 21 p.wt)/\∀ md kv ms H',Same H H'->H md=none->H' md=some (.dK kv)->BG (·.1) (NFV K H') ms kv->ms.length=ls.length->(∀ (i:Nat) p m,ls[i]?=some p->ms[i]?=some m->MSt b p m)->Q (.ref md) H'
theorem JeD (F:FunD K "most_levels" "most_levels" BaD dV f fd) (T:Txt K mg Ad) (BaH:MCal P w K mg base 2 "parts" (Ja8 Ad) ["self"] (JaZ K Ad)) (Bca:MCal P w K mg base 2 "lifted" (Jdn Ad) ["self","number"] (Jbq K Ad)) (Bc7:Cal P w K mg base 3 "over" ["one","other"] [] (Jfr K Ad)):FnOk P w K mg base (CX1 P w) 4 f fd ["thing","scale"] (Jb5 K Ad):=by
 refine F.okn Jb2 (by subst_eqs) (fun b2 A a3 s H vs Q E hr h=>?_)
 obtain ⟨x,G,ls,gs,b,fs,rfl,h⟩:=h;have hu:=hr.units;refine ⟨_,(Jab (Jak (i:=2) Jb2.nd rfl (Or.inl rfl) JbH)
   (Jab (Ja3 PassesOwn.never rfl (pi_U (BaH.m0 hr ⋯ passF (pv 0))) (Jar (i:=3) Jb2.nd rfl (Or.inl rfl))
   (Jai (Jb1 (hu1 hu) (pv 2) (pe_ix ix_U (pv 3) Jad (fun _ _=>rfl)) (Bc7.ev hr ⋯ rfl passF (Jaa (Bca.m hr ⋯ passF (pv 1) (Jaa (pe_ix ix_U (pv 3) Jad (fun _ _=>rfl)) Jac)) (Jaa (JaH (Jaa (pe_ix ix_U (pv 3) Jad (fun _ _=>rfl)) (Jaa Jad Jac))) Jac)) (he:=by exact Jaf rfl)) rfl)))
   (Jai (Jap (pv 2))))),?_⟩
 clear hu;obtain ⟨ht,L,b0,a2,a4,k⟩:=h;obtain ⟨dx,d1,d2,d3,k1,k2,k3,hx,_⟩:=id ht;obtain ⟨a5,fl,S,_,R,sb,_⟩:=id L;have sl:(1000:Nat)<=sizeLine:=by decide
 have b1:=R.b1;show tSeq _ _ _ [some (.ref x),some (.ref G),none,none] H;nofun;rename_i C n a9 H H1 S1 e1;nofun;refine ⟨x,_,dx,_,rfl,S1 _ _ hx,rfl,rfl,x,ls,_,rfl,ht.same S1,by ac_nf,fun l ys H2 S2 M e2 hY=>?_⟩;have lY:=hY.length;have a1:l≠C:=fun z=>by rw [z,e1] at M;cases M
 have J:=S1.trans S2;nofun;refine ⟨l,rfl,ForA.byLN (xs:=ys) (SqL.of e2) (fun i σ N=>i<=ys.length/\∃ (v3:Option V) (U:List (Key × V)) (r:List (Str × Fr2)),σ=[some (.ref x),some (.ref G),some (.ref C),v3]/\(∀ c u,c≠C->H2 c=some u->N c=some u)/\SameT H2 N/\N C=some (.dK U)/\BG (·.1) (NFV K N) r U/\r.map (·.1)=(ls.take i).map (·.nm)/\∀ (j:Nat) p m,ls[j]?=some p->r[j]?=some m->MSt b p m) ⟨Nat.zero_le _,none,[],[],rfl,fun _ _ _ h=>h,SameT.refl _,S2 _ _ e1,⟨rfl,rfl⟩,rfl,fun j p m _ h=>by simp at h⟩ (fun i σ N q=>by obtain ⟨_,_,_,_,_,q,_⟩:=q;exact SqL.of (q _ _ a1 e2)) ?_ ?_⟩
 ·rintro i y σ Y hy ⟨hi,v3,U,r,rfl,ho,X,v,hB,d,D⟩ N0 a0;have li:=(List.getElem?_eq_some_iff.mp hy).1;obtain ⟨p,Z,b_,vz,vm,rfl,hb,_,hm⟩:=hY.at_ hy;obtain ⟨mb,w1,ws⟩:=a4 p (List.mem_of_getElem? Z);have lB:=hB.length;have a6:r.length=i:=by have:=congrArg List.length d;rw [length_map,length_map,length_take] at this;ac_nf
  have B:=hb.sameT X;have I:Same H Y:=fun c u h=>ho c u (Jah h n) (J _ _ h);nofun;refine ⟨G,_,a5,_,rfl,I _ _ S,rfl,rfl,?_⟩;refine ixT (i:=4) B rfl ?_;refine ⟨G,vm,p.mo,b,fs,rfl,L.same I,hm.sameT X,mb.mono ⋯ ⋯,fun pr t H4 S4 e4 hL=>?_⟩;nofun;refine ixT (i:=5) (B.same S4) rfl ?_;nofun;refine ⟨len2,?_⟩;rename_i wp a7 a8 H4 H5 S5 e5;nofun;have o:=hL.fb mb sb;refine ⟨.ref pr, .ref wp,_,_,p.wt,1,rfl,FrV.of (S5 _ _ e4),FrV.of e5,o.s1.mono ⋯,o.s2.mono ⋯,ws.mono ⋯, .lit ⋯ ⋯,o.b1,by decide,o.g1,by unfold Mth.g;simp,fun z=>absurd z ∅,fun _ p2 H6 S6 e6=>?_⟩;have e6:H6 p2=some (.tup [.int (divF t (p.wt,1)).1, .int (divF t (p.wt,1)).2]):=e6;have e:=S4.trans (S5.trans S6);nofun;refine ixT (i:=0) (B.same e) rfl ?_;refine ⟨C,_,rfl,DPut.k (k:=Sum.inr p.nm) (e _ _ v) ∅,?_⟩;generalize u7:upd H6 C _=H7;nofun;have e7:=putE u7;have T7:SameT H6 H7:=SameT.put u7 (e _ _ v) rfl;have W:SameT Y H7:=e.t.trans T7;have nn:p.nm∉r.map (·.1):=by rw [d];exact Jh7 a2 Z
  refine a0 _ _ ⟨li,_,_,r++[(p.nm,divF t (p.wt,1))],rfl,fun c u O h=>by rw [<- u7,Jag O];exact e _ _ (ho c u O h),X.trans W,e7,?_,?_,fun j p' m' h1 h2=>?_⟩
  ·exact (hB.mono (P':=NFV K H7) fun _ _ z=>z.sameT W).new (a:=(p.nm,divF t (p.wt,1))) nn (FrV.of (T7 _ _ rfl e6))
  ·rw [map_append,d,take_succ,Z,map_append];rfl
  ·rcases Jbn h2 with h2 | ⟨q1,q2⟩
   ·exact D j p' m' h1 h2
   ·rw [q1,a6,Z] at h1;cases h1;rw [q2];have dl:=Jj9 (a:=t) (c:=(p.wt,1)) o.b1 w1;refine ⟨rfl,?_,?_,?_,dl.b1,dl.g1⟩
    ·show vl (divF t (p.wt,1))=_;rw [JjT o.b1 w1 (Int.le_refl 1),Jf7,hL.vl mb.b1]
    ·exact Mth.Sz.top (by have:=Jb8 o.b1 w1;show t.2*p.wt≠0;ac_nf) (by rw [Int.mul_one];exact o.s1)
    ·exact (Mth.Sz.bot (t:=t.1*1) (b:=t.2*p.wt) (by have:=Jb8 o.b1 w1;ac_nf) (o.s2.mul ws)).mono ⋯
 ·rintro σ Y ⟨hi,v3,U,r,rfl,ho,X,v,hB,d,D⟩;rw [take_of_length_le ∅] at d;nofun;exact k C U r Y (fun c u h=>ho c u (Jah h n) (J _ _ h)) n v hB (by simpa using congrArg List.length d) D
abbrev Bau:Stmt:=top 44
theorem JbN:Jan ["mosts","lids","levels","stops","lid"] ["mosts","lids","levels"] (Jae Bau):=by bv_decide
def JbR (K:W.Frag) (Ad:Adr):Sp:=fun vs H Q E=>∃ (md ll ld:Addr) (kvm:List (Key × V)) (ms:List (Str × Fr2)) (xs:List V) (lds:List LidD) (kvl:List (Key × V)) (lvs:List (Str × Fr2)),vs=[.ref md, .ref ll, .ref ld]/\H md=some (.dK kvm)/\BG (·.1) (NFV K H) ms kvm/\H ll=some (.lst xs)/\All2 (LDV K Ad H) lds xs/\H ld=some (.dK kvl)/\BG (·.1) (NFV K H) lvs kvl/\ms.length<=12/\lds.length<=7/\(∀ e∈lds,FB 3000 1000 e.rest/\Mth.Sz 64 e.load/\e.ws.length<=12)/\(ms.map (·.1)).Nodup/\∀ sl ys H',Same H H'->H' sl=some (.lst ys)->All2 (StV K H') (stF ms lds (lvs.map (·.1))) ys->Q (.ref sl) H'
theorem Jec (F:FunD K "coming_stops" "coming_stops" Bau dV f fd) (T:Txt K mg Ad) (m_full_level:MCal P w K mg base 4 "full_level" (IsLid Ad) ["self"] (Jbx K Ad)):FnOk P w K mg base (CX1 P w) 5 f fd ["mosts","lids","levels"] (JbR K Ad):=by
 refine F.okn JbN (by subst_eqs) (fun e2 A c2 s H vs Q E hr h=>?_)
 obtain ⟨r,ll,ld,c,W,xs,L,d5,a,rfl,h⟩:=h;have hu:=hr.units;refine ⟨_,(Jab (JkH (JcX (j:=3) (own:=["name"]) (cs:=[(0,"mosts"),(2,"levels")]) JbN.nd rfl (Or.inl rfl) rfl (Jio (pv 0)) (fun _ _ _ _=>(Jar (i:=0) (show [("name" : Str),("mosts" : Str),("levels" : Str)].Nodup by decide) rfl (Or.inl rfl))) (fun _ _ _ _=>(Jej (Jdd (hu1 hu) (pv 0) (pv 2)) (by with_unfolding_all rfl))) (fun _ _ _ _=>(JaH (Jaa (Jbh (hu1 hu) (pv 1) (pv 0) (fun _ _=>rfl)) (Jaa (Ja2 (Jaa (pv 0) Jac)) Jac)))) (JfF rfl) ⋯ rfl ⋯ (hcs2 rfl rfl rfl rfl rfl rfl)))
   (Jab (Ja3 PassesOwn.never rfl (pi_U (pv 1)) (Jar (i:=4) JbN.nd rfl (Or.inl rfl))
   (Jai (ps_if (Jay Jg0 (Jaq (pv 4) rfl) Jad (Jaw _))
   (Jai (Ja4 (pe_bm PySem.F.plainAttrs_list PySem.F.slot_list_append PySem.F.type_list_append JaY (pv 3) (Jaa (JaH (Jaa (m_full_level.m0 hr ⋯ passF (pv 4)) (Jaa (Jgz (Jil (own:=["name"]) (cs:=[(2,"levels")]) rfl (Jio (Jaq (pv 4) rfl)) (fun _ _ _ _=>(Jar (i:=0) (show [("name" : Str),("levels" : Str)].Nodup by decide) rfl (Or.inl rfl))) (fun _ _ _ _=>(Jej (Jdd (hu1 hu) (pv 0) (pv 1)) (by with_unfolding_all rfl))) (fun _ _ _ _=>(pv 0)) (JfF rfl) ⋯ rfl ⋯ (hcs1 rfl rfl rfl))) Jac))) Jac) (hs:=by exact Jaf rfl))))
   Jav)))
   (Jai (Jap (pv 3))))),?_⟩
 clear hu;obtain ⟨hm,bm,hl,hX,hv,bl,b7,l7,d2,d3,k⟩:=h;have sz:(1000:Nat)<=sizeLine:=by decide
 have lX:=hX.length;show tSeq _ _ _ [some (.ref r),some (.ref ll),some (.ref ld),none,none] H;and_intros;refine ⟨r,c,hm,r,c,W.map (·.1),rfl,hm,bm.keysS,fun od=>?_⟩;generalize uf:upd H r (.frz od (.dK c))=H1;and_intros;have f1:H1 r=some (.frz od (.dK c)):=by rw [<- uf,Jaj]
 have t1:thw r c H1=H:=by rw [<- uf];exact JiJ hm
 refine Jcw.keys (fun i ys C=>C r=some (.frz od (.dK c))/\Same H (thw r c C)/\All2 (StV K (thw r c C)) (((W.take i).filter fun m=>decide (m.1∉a.map (·.1))).map fun m=>(m.2,[m.1])) ys) ⟨f1,by rw [t1];exact Same.refl _,rfl⟩ (fun i ys C hi z=>⟨z.1,by
  have h1:=z.2.2.length;rw [length_map] at h1;have h2:=List.length_filter_le (fun m:Str × Fr2=>decide (m.1∉a.map (·.1))) (W.take i);rw [length_take] at h2;ac_nf⟩) ?_ ?_
 ·rintro i z ys H2 hz ⟨M,S2,hA⟩;rw [List.getElem?_map] at hz;obtain ⟨m,Y,a4⟩:=Option.map_eq_some_iff.mp hz;have a4:m.1=z:=a4;subst a4;have b0:=List.mem_of_getElem? Y;simpa only [length_singleton,length_cons,length_nil,List.replicate,JaF,map_cons,map_nil,Option.join_some];refine ⟨ld,_,rfl,JiK (k:=Sum.inr m.1) M (S2 _ _ hv),?_⟩;rw [bl.val];by_cases g:m.1∈a.map (·.1)
  ·rw [decide_eq_true g];and_intros;refine ⟨M,S2,?_⟩;rw [take_succ,Y,filter_append,map_append];have : [m].filter (fun m=>decide (m.1∉a.map (·.1)))=[]:=List.filter_eq_nil_iff.mpr fun x G=>by rw [mem_singleton.mp G];simpa using g
   rw [show (some m).toList=[m] from rfl,this,map_nil,append_nil];exact hA
  ·rw [decide_eq_false g];and_intros;obtain ⟨a',v,d0,c4,c5,c6⟩:=bm.some (z:=m.1) (mem_map.mpr ⟨m,b0,rfl⟩);have ea:=JgU d3 d0 b0 c4;subst ea;refine ⟨r,v,rfl,by rw [<- c5];exact DGet.f (k:=Sum.inr a'.1) M,?_⟩;and_intros;refine ⟨by show 1<=sizeLine;ac_nf,?_⟩;rename_i l a8 c1 H2 H3 S3 e3;and_intros;refine ⟨by show 2<=sizeLine;ac_nf,?_⟩;rename_i t c9 b9 H3 S S4 e4;and_intros;have a6:=S3.trans S4;have f4:=a6 _ _ M;have St:=Jft (d:=r) (kv:=c) a6;refine ⟨f4,S2.trans St,?_⟩;rw [take_succ,Y,filter_append,map_append];have : [a'].filter (fun m=>decide (m.1∉a.map (·.1)))=[a']:=List.filter_eq_self.mpr fun x G=>by rw [mem_singleton.mp G];simpa using g
   rw [show (some a').toList=[a'] from rfl,this];exact (hA.mono (P':=StV K (thw r c S)) fun _ _ z=>z.same St).append (.one ⟨t,v,l,rfl,SqT.of (Jg7 f4 e4 (by intro o w z;cases z)),FrV.same (S2.trans St) c6,Jg7 f4 (S4 _ _ e3) (by intro o w z;cases z)⟩)
 ·rintro ys H2 ⟨M,S2,hA⟩;rw [length_map,take_of_length_le (Nat.le_refl _)] at hA;rename_i B R d9 H2 H3 S3 e3;and_intros;refine ⟨od,c,S3 _ _ M,?_⟩;obtain ⟨S,a3⟩:∃ S,S=thw r c H3:=⟨_,rfl⟩;rw [show upd H3 r (.dK c)=S from a3.symm];and_intros;have St:=Jft (d:=r) (kv:=c) S3;rw [<- a3] at St;have a9:=S2.trans St;have e4:S B=some (.lst ys):=by rw [a3];exact Jg7 (S3 _ _ M) e3 (by intro o w z;cases z)
  have N:H B=none:=JdV S2 (Jfs M R);have d4:All2 (StV K (cut B S)) ((W.filter fun m=>decide (m.1∉a.map (·.1))).map fun m=>(m.2,[m.1])) ys:=hA.mono fun _ _ z=>z.same fun b u h=>by
   rw [JbF (fun y=>by rw [y,Jfs M R] at h;cases h)];exact St b u h
  have d8:(W.filter fun m=>decide (m.1∉a.map (·.1))).length<=12:=Nat.le_trans (List.length_filter_le _ _) b7;have e1:ll≠B:=fun z=>by rw [z,N] at hl;cases hl
  refine ⟨ll,rfl,ForA.byLN (xs:=xs) (SqL.of (a9 _ _ hl)) (fun i σ C=>i<=xs.length/\∃ (v4:Option V) (O:List V) (st:List (Fr2 × List Str)),σ=[some (.ref r),some (.ref ll),some (.ref ld),some (.ref B),v4]/\Same H C/\C B=some (.lst O)/\All2 (StV K (cut B C)) st O/\st.length<=12+i/\st=(W.filter fun m=>decide (m.1∉a.map (·.1))).map (fun m=>(m.2,[m.1]))++((L.take i).filter fun e=>decide (0<e.load)).map fun e=>(divF e.rest (e.load,1),(e.ws.map (·.1)).filter fun n=>decide (n∉a.map (·.1)))) ⟨Nat.zero_le _,none,ys,_,rfl,a9,e4,d4,by rw [length_map];ac_nf,by rw [take_zero];simp⟩ (fun i σ C q=>by obtain ⟨_,_,_,_,_,q,_⟩:=q;exact SqL.of (q _ _ hl)) ?_ ?_⟩
  ·rintro i y σ H5 hy ⟨hi,v4,O,st,rfl,S5,ez,hZ,b8,D⟩ N0 a7;have li:=(List.getElem?_eq_some_iff.mp hy).1;obtain ⟨e,b1,hd⟩:=hX.at_ hy;have c7:=List.mem_of_getElem? b1;obtain ⟨d1,c3,e5⟩:=d2 e c7;have b4:=hd.same S5;obtain ⟨q,dx,vr,vt,J,rfl,hq,hr,e0,hw⟩:=id b4;have tc:=T.c_Lid Ad.Lid rfl;have lZ:=hZ.length;and_intros;refine ⟨q,_,dx,_, .int e.load,rfl,hq,tc.cls,tc.n4,rfl,?_⟩;and_intros;have b5:L.take (i+1)=L.take i++[e]:=by rw [take_succ,b1];rfl
   by_cases c0:0<e.load
   ·rw [if_pos (by simpa using c0)];and_intros;refine ⟨.inl ⟨rfl,_,SqL.of ez⟩,?_⟩;refine ⟨q,_,dx,_,rfl,hq,rfl,rfl,?_⟩;refine ⟨q,e,rfl,b4,d1,by ac_nf,c3,fun p H6 S6 e6=>?_⟩;and_intros;have a0:=S6 _ _ hw;refine ⟨J,_,a0,q,_,dx,_, .ref J,rfl,S6 _ _ hq,tc.cls,tc.n3,rfl,J,wsK e.ws,e.ws.map (·.1),rfl,a0,Jjv e.ws,fun a1=>?_⟩;generalize ug:upd H6 J (.frz a1 (.dK (wsK e.ws)))=H7;and_intros;have f7:H7 J=some (.frz a1 (.dK (wsK e.ws))):=by rw [<- ug,Jaj]
    have t7:thw J (wsK e.ws) H7=H6:=by rw [<- ug];exact JiJ a0
    have d6:=S5.trans S6;refine Jcw.keys (fun j qs C=>C=H7/\qs=(((e.ws.map (·.1)).take j).filter fun n=>decide (n∉a.map (·.1))).map V.str) ⟨rfl,by rw [take_zero];rfl⟩ (fun j qs C hj z=>⟨by rw [z.1];exact f7,by
     rw [z.2,length_map];have h2:=List.length_filter_le (fun n:Str=>decide (n∉a.map (·.1))) ((e.ws.map (·.1)).take j);rw [length_take,length_map] at h2;ac_nf⟩) ?_ ?_
    ·rintro j z qs H8 hz ⟨a5,I⟩;subst a5;subst I;simpa only [length_singleton,length_cons,length_nil,List.replicate,JaF,map_cons,map_nil,Option.join_some];refine ⟨ld,_,rfl,JiK (k:=Sum.inr z) f7 (by rw [t7];exact d6 _ _ hv),?_⟩;rw [bl.val];have b2:(e.ws.map (·.1)).take (j+1)=(e.ws.map (·.1)).take j++[z]:=by rw [take_succ,hz];rfl
     by_cases g:z∈a.map (·.1)
     ·rw [decide_eq_true g];and_intros;rw [b2,filter_append,show [z].filter (fun n=>decide (n∉a.map (·.1)))=[] from List.filter_eq_nil_iff.mpr fun x G=>by rw [mem_singleton.mp G];simpa using g,append_nil]
     ·rw [decide_eq_false g];and_intros;rw [b2,filter_append,show [z].filter (fun n=>decide (n∉a.map (·.1)))=[z] from List.filter_eq_self.mpr fun x G=>by rw [mem_singleton.mp G];simpa using g,map_append];rfl
    ·rintro qs H8 ⟨a5,I⟩;subst a5;rw [take_of_length_le (Nat.le_refl _)] at I;subst I;rename_i l a8 c1 H8 H9 S9 e9;and_intros;refine ⟨a1,_,S9 _ _ f7,?_⟩;obtain ⟨HA,U⟩:∃ HA,HA=thw J (wsK e.ws) H9:=⟨_,rfl⟩;rw [show upd H9 J (.dK (wsK e.ws))=HA from U.symm];have Su:=Jft (d:=J) (kv:=wsK e.ws) S9;rw [t7, <- U] at Su;have eA:HA l=some (.lst (((e.ws.map (·.1)).filter fun n=>decide (n∉a.map (·.1))).map V.str)):=by rw [U];exact Jg7 (S9 _ _ f7) e9 (by intro o w z;cases z)
     and_intros;refine ⟨len2,?_⟩;rename_i t c9 b9 HA HB SB eB;and_intros;have X:=S6.trans (Su.trans SB);have Z:=X _ _ ez;refine ⟨B,O,_,rfl,rfl,Z,by ac_nf,?_⟩;generalize a2:upd HB B _=c8;and_intros;have d7:=putE a2;have ec:cut B c8=cut B HB:=by rw [<- a2];exact Jgd
     have b3:H6 l=none:=by rw [<- t7];exact Jfs f7 a8
     have b6:l≠B:=fun z=>by rw [z,S6 _ _ ez] at b3;cases b3
     refine a7 _ _ ⟨li,_,O++[.ref t],st++[(divF e.rest (e.load,1),(e.ws.map (·.1)).filter fun n=>decide (n∉a.map (·.1)))],rfl,fun b u h=>by rw [<- a2,Jag (Jah h N)];exact X _ _ (S5 _ _ h),d7,?_,by simp;ac_nf,?_⟩
     ·rw [ec];refine (hZ.mono (P':=StV K (cut B HB)) fun _ _ z=>z.same X.cut).append (.one ⟨t, .ref p,l,rfl,SqT.cut Z (SqT.of eB),FrV.cut Z (FrV.of (SB _ _ (Su _ _ e6))),?_⟩);rw [JbF b6];exact SB _ _ eA
     ·rw [D,b5,filter_append,show [e].filter (fun e=>decide (0<e.load))=[e] from List.filter_eq_self.mpr fun x G=>by rw [mem_singleton.mp G];simpa using c0,map_append, <- List.append_assoc];rfl
   ·rw [if_neg (by simpa using c0)];and_intros;refine a7 _ _ ⟨li,_,O,st,rfl,S5,ez,hZ,by ac_nf,?_⟩;rw [D,b5,filter_append,show [e].filter (fun e=>decide (0<e.load))=[] from List.filter_eq_nil_iff.mpr fun x G=>by rw [mem_singleton.mp G];simpa using c0,append_nil]
  ·rintro σ H5 ⟨hi,v4,O,st,rfl,S5,ez,hZ,b8,D⟩;rw [take_of_length_le ∅] at D;and_intros;refine k B O H5 S5 ez ?_;unfold stF;rw [<- D];exact hZ.mono fun _ _ z=>z.cut
abbrev BaE:Stmt:=top 45
theorem JbA:Jan ["stops","found","stop"] ["stops"] (Jae BaE):=by bv_decide
def Jb4 (K:W.Frag):Sp:=fun vs H Q E=>∃ (sl:Addr) (ys:List V) (st:List (Fr2 × List Str)),vs=[.ref sl]/\SqL K H sl ys/\All2 (StV K H) st ys/\st≠[]/\(∀ s∈st,FB 3000 1200 s.1)/\∀ v (L:Fr2),L∈st.map (·.1)->(∀ s∈st,vl L<=vl s.1)->FrV K H v L.1 L.2->Q v H
theorem JeB (F:FunD K "first_level" "first_level" BaE dV f fd) (T:Txt K mg Ad) (BaG:Cal P w K mg base 1 "under" ["one","other"] [] (Jcu K)):FnOk P w K mg base (CX1 P w) 2 f fd ["stops"] (Jb4 K):=by
 refine F.okn JbA (by subst_eqs) (fun a0 A N s H vs Q E hr h=>?_)
 obtain ⟨u,W,Z,rfl,h⟩:=h;refine ⟨_,(Jab (Jak (i:=1) JbA.nd rfl (Or.inl rfl) (pe_ix ix_U (pe_ix ix_U (pv 0) Jad (fun _ _=>rfl)) Jad (fun _ _=>rfl)))
   (Jab (Ja3 PassesOwn.never rfl (pi_U (pv 0)) (Jar (i:=2) JbA.nd rfl (Or.inl rfl))
   (Jai (ps_if (Ja9 (BaG.ev hr ⋯ rfl passF (Jaa (pe_ix ix_U (pv 2) Jad (fun _ _=>rfl)) (Jaa (pv 1) Jac)) (he:=by exact Jaf rfl)))
   (Jai (Jak (i:=1) JbA.nd rfl (Or.inl rfl) (pe_ix ix_U (pv 2) Jad (fun _ _=>rfl))))
   Jav)))
   (Jai (Jap (pv 1))))),?_⟩
 obtain ⟨D,M,X,n,k⟩:=h;have lA:=M.length;obtain ⟨g,r,rfl⟩:∃ g r,Z=g::r:=by cases Z with | nil=>exact absurd rfl X | cons a b=>exact ⟨a,b,rfl⟩
 obtain ⟨y0,U,t0,v0,l0,rfl,O,Y,_⟩:=M.get (i:=0) rfl;show tSeq _ _ _ [some (.ref u),none,none] H;nofun;refine ixL (i:=0) D U ?_;nofun;refine ixT (i:=0) O rfl ?_;nofun;refine ⟨u,rfl,ForA.byLN (xs:=W) D (fun i σ B=>i<=W.length/\B=H/\∃ (v:V) (L:Fr2) (I:Option V),σ=[some (.ref u),some v,I]/\FrV K H v L.1 L.2/\L∈(g::r).map (·.1)/\∀ s∈(g::r).take i,vl L<=vl s.1) ⟨Nat.zero_le _,rfl,v0,g.1,none,rfl,Y,by simp,(fun s j=>by simp at j)⟩ (fun i σ B q=>by rw [q.2.1];exact D) ?_ ?_⟩
 ·rintro i y σ B hy ⟨hi,rfl,v,L,I,rfl,x,p,d⟩ N0 o;have li:=(List.getElem?_eq_some_iff.mp hy).1;obtain ⟨s,j,t,w,l,rfl,ht,hw,_⟩:=M.at_ hy;have S:=n s (List.mem_of_getElem? j);obtain ⟨sL,G,C⟩:=mem_map.mp p;have R:FB 3000 1200 L:=C ▸ n sL G;have m:(g::r).take (i+1)=(g::r).take i++[s]:=by rw [take_succ,j];rfl
  have J:=Jew (a:=s.1) (c:=L) S.b1 R.b1;unfold lessF at J;nofun;refine ixT (i:=0) ht rfl ?_;refine ⟨w,v,_,_,_,_,rfl,hw,x,S.s1.mono ⋯,S.s2.mono ⋯,R.s1.mono ⋯,R.s2.mono ⋯,?_⟩;nofun;by_cases c:decide (s.1.1*L.2<L.1*s.1.2)=true
  ·rw [if_pos c];nofun;refine ixT (i:=0) ht rfl ?_;nofun;have lt:=J.mp c;refine o _ _ ⟨li,rfl,w,s.1,_,rfl,hw,mem_map.mpr ⟨s,List.mem_of_getElem? j,rfl⟩,fun s' e=>?_⟩;rw [m] at e;rcases mem_append.mp e with h | h
   ·exact Rat.le_trans (Rat.le_of_lt lt) (d s' h)
   ·rw [mem_singleton.mp h];exact Rat.le_refl
  ·rw [if_neg c];nofun;refine o _ _ ⟨li,rfl,v,L,_,rfl,x,p,fun s' e=>?_⟩;rw [m] at e;rcases mem_append.mp e with h | h
   ·exact d s' h
   ·rw [mem_singleton.mp h];exact Rat.not_lt.mp fun z=>c (J.mpr z)
 ·rintro σ B ⟨hi,rfl,v,L,I,rfl,x,p,d⟩;rw [take_of_length_le ∅] at d;nofun;exact k v L p d x
abbrev BaO:Stmt:=top 46
theorem JbJ:Jan ["stops","level","names","stop","name"] ["stops","level"] (Jae BaO):=by bv_decide
def Jct (K:W.Frag):Sp:=fun vs H Q E=>∃ (sl:Addr) (lv:V) (ys:List V) (st:List (Fr2 × List Str)) (L:Fr2) (N:List Str),vs=[.ref sl,lv]/\SqL K H sl ys/\All2 (StV K H) st ys/\FrV K H lv L.1 L.2/\N.length<=20/\(∀ s∈st, ∀ n∈s.2,n∈N)/\∀ (l:Addr) (ns:List Str) (H':Hp),Same H H'->H' l=some (.lst (ns.map V.str))->ns.Nodup->(∀ n,n∈ns↔∃ s∈st,s.1=L/\n∈s.2)->Q (.ref l) H'
theorem Jfg (F:FunD K "stopped_at" "stopped_at" BaO dV f fd) (T:Txt K mg Ad)  : FnOk P w K mg base (CX1 P w) 1 f fd ["stops","level"] (Jct K):=by
 refine F.okn JbJ (by subst_eqs) (fun b0 A a3 s H vs Q E hr h=>?_)
 obtain ⟨Y,lv,ys,st,L,N,rfl,h⟩:=h;have X:=hr.units;refine ⟨_,(Jab (Jak (i:=2) JbJ.nd rfl (Or.inl rfl) JbH)
   (Jab (Ja3 PassesOwn.never rfl (pi_U (pv 0)) (Jar (i:=3) JbJ.nd rfl (Or.inl rfl))
   (Jai (ps_if (Jay (Jb9 X) (pe_ix ix_U (pv 3) Jad (fun _ _=>rfl)) (pv 1) (Jaw _))
   (Jai (Ja3 PassesOwn.never rfl (pi_U (pe_ix ix_U (pv 3) Jad (fun _ _=>rfl))) (Jar (i:=4) JbJ.nd rfl (Or.inl rfl))
   (Jai (Jb1 (hu1 X) (pv 2) (pv 4) pe_bl rfl))))
   Jav)))
   (Jai (Jap (Jde (Jhd rfl) rfl T.BdG JeW (Jaa (pv 2) Jac)))))),?_⟩
 clear X;obtain ⟨hS,hA,hL,a9,hN,k⟩:=h;have sz:(1000:Nat)<=sizeLine:=by decide
 have lA:=hA.length;show tSeq _ _ _ [some (.ref Y),some lv,none,none,none] H;nofun;rename_i R O a5 H H1 S1 e1;nofun;refine ⟨Y,rfl,ForA.byLN (xs:=ys) (hS.same S1) (fun i σ S=>i<=ys.length/\∃ (v3 M:Option V) (r:List (Key × V)) (B:List Str),σ=[some (.ref Y),some lv,some (.ref R),v3,M]/\Same H S/\S R=some (.dK r)/\r.map (·.1)=B.map Sum.inr/\B.Nodup/\∀ n,n∈B↔∃ s∈st.take i,s.1=L/\n∈s.2) ⟨Nat.zero_le _,none,none,[],[],rfl,S1,e1,rfl, .nil,fun n=>by simp⟩ (fun i σ S q=>by obtain ⟨_,_,_,_,_,_,q,_⟩:=q;exact hS.same q) ?_ ?_⟩
 ·rintro i y σ H2 hy ⟨hi,v3,M,r,B,rfl,C,e2,hk,D,d⟩ N0 W;have li:=(List.getElem?_eq_some_iff.mp hy).1;obtain ⟨s,hs,t,w,l,rfl,ht,hw,hl⟩:=hA.at_ hy;have a4:=List.mem_of_getElem? hs;have a1:st.take (i+1)=st.take i++[s]:=by rw [take_succ,hs];rfl
  nofun;refine ixT (i:=0) (ht.same C) rfl ?_;refine eqF (hw.same C) (hL.same C) ?_;have ee:(decide (s.1.1=L.1)&&decide (s.1.2=L.2))=decide (s.1=L):=by
   rw [<- Bool.decide_and];exact decide_eq_decide.mpr Prod.ext_iff.symm
  rw [ee];nofun;by_cases c:s.1=L
  ·rw [if_pos (by simpa using c)];nofun;refine ixT (i:=1) (ht.same C) rfl ?_;nofun;have a6:l≠R:=Jah hl O;refine ⟨l,rfl,ForA.byLN (xs:=s.2.map V.str) (SqL.of (C _ _ hl)) (fun j σ S=>j<=(s.2.map V.str).length/\∃ (M:Option V) (r:List (Key × V)) (ns':List Str),σ=[some (.ref Y),some lv,some (.ref R),some (.ref t),M]/\Same H S/\S R=some (.dK r)/\r.map (·.1)=ns'.map Sum.inr/\ns'.Nodup/\∀ n,n∈ns'↔n∈B\/n∈s.2.take j) ⟨Nat.zero_le _,M,r,B,rfl,C,e2,hk,D,fun n=>by simp⟩ (fun j σ S q=>by obtain ⟨_,_,_,_,_,q,_⟩:=q;exact SqL.of (q _ _ hl)) ?_ ?_⟩
   ·rintro j z σ H3 hz ⟨hj,M,G,m,rfl,Z,e3,o,g,a⟩ N1 a2;have lj:=(List.getElem?_eq_some_iff.mp hz).1;rw [List.getElem?_map] at hz;obtain ⟨n,hn,rfl⟩:=Option.map_eq_some_iff.mp hz;have lk:G.length=m.length:=by simpa using congrArg List.length o
    have lN:m.length<=N.length:=sub_len m N g fun x hx=>by
     rcases (a x).mp hx with h | h
     ·obtain ⟨J,e,_,p⟩:=(d x).mp h;exact hN J (List.mem_of_mem_take e) x p
     ·exact hN s a4 x (List.mem_of_mem_take h)
    nofun;refine ⟨R,_,rfl,DPut.k (k:=Sum.inr n) e3 ∅,?_⟩;generalize u4:upd H3 R _=H4;nofun;have e4:=putE u4;have a0:s.2.take (j+1)=s.2.take j++[n]:=by rw [take_succ,hn];rfl
    have S4:Same H H4:=fun b u h=>by rw [<- u4,Jag (Jah h O)];exact Z _ _ h
    have U:=Jh0 (kvs:=G) (k:=Sum.inr n);rw [o] at U;by_cases cn:n∈m
    ·refine a2 _ _ ⟨lj,_,_,m,rfl,S4,e4,?_,g,fun x=>?_⟩
     ·rw [Jh1,if_pos (U.mpr (mem_map.mpr ⟨n,cn,rfl⟩))];exact o
     ·rw [a x,a0,mem_append,mem_singleton];refine ⟨fun h=>h.elim .inl fun h=>.inr (.inl h),fun h=>?_⟩;rcases h with h | h | h
      ·exact .inl h
      ·exact .inr h
      ·rw [h];exact (a n).mp cn
    ·refine a2 _ _ ⟨lj,_,_,m++[n],rfl,S4,e4,?_,?_,fun x=>?_⟩
     ·rw [Jh1,if_neg (fun z=>cn (by obtain ⟨q,hq,eq⟩:=mem_map.mp (U.mp z);have eq:q=n:=(by injection eq);exact eq ▸ hq)),o,map_append];rfl
     ·exact nodup_append.mpr ⟨g,by simp,fun u X v hv z=>cn (by rw [mem_singleton.mp hv] at z;rw [<- z];exact X)⟩
     ·rw [mem_append,mem_singleton,a x,a0,mem_append,mem_singleton];grind
   ·rintro σ H3 ⟨hj,M,G,m,rfl,Z,e3,o,g,a⟩;rw [length_map,take_of_length_le (Nat.le_refl _)] at a;refine W _ _ ⟨li,_,_,G,m,rfl,Z,e3,o,g,fun n=>?_⟩;rw [a n,d n,a1];constructor
    ·rintro (⟨J,e,p,I⟩ | h)
     ·exact ⟨J,mem_append.mpr (.inl e),p,I⟩
     ·exact ⟨s,mem_append.mpr (.inr (by simp)),c,h⟩
    ·rintro ⟨J,e,p,I⟩;rcases mem_append.mp e with e | e
     ·exact .inl ⟨J,e,p,I⟩
     ·rw [mem_singleton.mp e] at I;exact .inr I
  ·rw [if_neg (by simpa using c)];nofun;refine W _ _ ⟨li,_,_,r,B,rfl,C,e2,hk,D,fun n=>?_⟩;rw [d n,a1];constructor
   ·rintro ⟨J,e,p,I⟩;exact ⟨J,mem_append.mpr (.inl e),p,I⟩
   ·rintro ⟨J,e,p,I⟩;rcases mem_append.mp e with e | e
    ·exact ⟨J,e,p,I⟩
    ·rw [mem_singleton.mp e] at p;exact absurd p c
 ·rintro σ H2 ⟨hi,v3,M,r,B,rfl,C,e2,hk,D,d⟩;rw [take_of_length_le ∅] at d;nofun;refine ⟨R,r,B,rfl,e2,hk,?_⟩;rename_i l a8 a7 H2 H3 Z e3;nofun;exact k l B H3 (C.trans Z) e3 D d
abbrev Bav:Stmt:=top 47
theorem Ja1:Jan ["mosts","lids","levels","stops","level","name","lid"] ["mosts","lids"] (Jae Bav):=by bv_decide
def JbU (K:W.Frag) (Ad:Adr):Sp:=fun vs H Q E=>∃ (md ll:Addr) (kvm:List (Key × V)) (ms:List (Str × Fr2)) (xs:List V) (lds:List LidD) (b q0:Int) (N:List Str) (w M:Str->Rat) (gs:List Gp),vs=[.ref md, .ref ll]/\H md=some (.dK kvm)/\BG (·.1) (NFV K H) ms kvm/\H ll=some (.lst xs)/\All2 (LDV K Ad H) lds xs/\xs.Nodup/\lds.length<=7/\RC b q0 N w M gs ms/\RSt b N w M gs [] lds/\∀ (ld:Addr) (kv:List (Key × V)) (lvs:List (Str × Fr2)) (lds':List LidD) (H':Hp),(∀ a u,V.ref a∉xs->H a=some u->H' a=some u)->H ld=none->H' ld=some (.dK kv)->BG (·.1) (NFV K H') lvs kv->All2 (LDV K Ad H') lds' xs->RSt b N w M gs lvs lds'->N.length<=lvs.length->lds'.map (·.nm)=lds.map (·.nm)->Q (.ref ld) H'
theorem Jed (F:FunD K "risen_levels" "risen_levels" Bav dV f fd) (T:Txt K mg Ad) (Bbi:Cal P w K mg base 5 "coming_stops" ["mosts","lids","levels"] [] (JbR K Ad)) (BbA:Cal P w K mg base 2 "first_level" ["stops"] [] (Jb4 K)) (BbY:Cal P w K mg base 1 "stopped_at" ["stops","level"] [] (Jct K)) (m_settle:MCal P w K mg base 4 "settle" (IsLid Ad) ["self","part","level"] (Jcj K Ad)):FnOk P w K mg base (CX1 P w) 7 f fd ["mosts","lids"] (JbU K Ad):=by
 refine F.okn Ja1 (by subst_eqs) (fun g2 A d3 s H vs Q E hr h=>?_)
 obtain ⟨md,Z,J,ms,xs,G,b,q0,N,w,M,gs,rfl,h⟩:=h;have hu:=hr.units;refine ⟨_,(Jab (Jak (i:=2) Ja1.nd rfl (Or.inl rfl) JbH)
   (Jab (JdN PassesOwn.never (Jay JfS (Jat Jb6 rfl T.BbI Jbr (Jaa (pv 2) Jac)) (Jat Jb6 rfl T.BbI Jbr (Jaa (pv 0) Jac)) (Jaw _))
   (Jab (Jak (i:=3) Ja1.nd rfl (Or.inl rfl) (Bbi.ev hr ⋯ rfl passF (Jaa (pv 0) (Jaa (pv 1) (Jaa (pv 2) Jac))) (he:=by exact Jaf rfl)))
   (Jab (Jak (i:=4) Ja1.nd rfl (Or.inl rfl) (BbA.ev hr ⋯ rfl passF (Jaa (pv 3) Jac) (he:=by exact Jaf rfl)))
   (Jai (Ja3 PassesOwn.never rfl (pi_U (BbY.ev hr ⋯ rfl passF (Jaa (pv 3) (Jaa (pv 4) Jac)) (he:=by exact Jaf rfl))) (Jar (i:=5) Ja1.nd rfl (Or.inl rfl))
   (Jab (Jb1 (hu1 hu) (pv 2) (pv 5) (pv 4) rfl)
   (Jai (Ja3 PassesOwn.never rfl (pi_U (pv 1)) (Jar (i:=6) Ja1.nd rfl (Or.inl rfl))
   (Jai (Ja4 (m_settle.m hr ⋯ passF (pv 6) (Jaa (pv 5) (Jaa (pv 4) Jac)))))))))))))
   (Jai (Jap (pv 2))))),?_⟩
 clear hu;obtain ⟨hm,bm,hl,hX,d7,l7,S,d9,k⟩:=h;show tSeq _ _ _ [some (.ref md),some (.ref Z),none,none,none,none,none] H;nofun;rename_i g X f5 H H1 S1 e1;nofun;refine ⟨fun m σ C=>∃ (v3 v4 v5 v6:Option V) (kv:List (Key × V)) (d:List (Str × Fr2)) (o:List LidD),σ=[some (.ref md),some (.ref Z),some (.ref g),v3,v4,v5,v6]/\(∀ a u,V.ref a∉xs->H a=some u->C a=some u)/\C g=some (.dK kv)/\BG (·.1) (NFV K C) d kv/\All2 (LDV K Ad (cut g C)) o xs/\RSt b N w M gs d o/\o.map (·.nm)=G.map (·.nm)/\m=N.length-d.length,⟨_,none,none,none,none,[],[],G,rfl,fun a u _ h=>S1 _ _ h,e1,⟨rfl,rfl⟩,hX.mono fun _ _ h=>h.same (Same.cutN S1 X),d9,rfl,rfl⟩,?_⟩;rintro m σ H2 ⟨v3,v4,v5,v6,kv,d,o,rfl,S2,e2,b2,c3,st,c2,rfl⟩;have x2:All2 (LDV K Ad H2) o xs:=c3.mono fun _ _ z=>z.same Jc7;nofun;have f7:=S.l12;have b8:=S2 md _ (LDV.notin hX hm (fun _ _ z=>by cases z)) hm;have U:=S2 Z _ (LDV.notin hX hl (fun _ _ z=>by cases z)) hl;have T2:SameT H H2:=fun c u t h=>S2 c u (LDV.notin hX h (fun _ _ z=>by rw [z] at t;simp [isTF] at t)) h;have c8:BG (·.1) (NFV K H2) ms J:=bm.mono fun _ _ z=>z.sameT T2;have lk:=b2.length;have lm:=bm.length;have lN:ms.length=N.length:=by rw [<- S.nm,length_map]
 have sz:(1000:Nat)<=sizeLine:=by decide
 have f8:=hX.length;have f6:=x2.length;refine ⟨g,kv,rfl,e2,md,J,rfl,b8,?_⟩;nofun;by_cases c:d.length<N.length
 ·rw [if_pos (by simpa using (by ac_nf:kv.length<J.length))];nofun;refine ⟨_,fun σ' C h=>h,?_⟩;nofun;refine ⟨md,Z,g,J,ms,xs,o,kv,d,rfl,b8,c8,U,x2,e2,b2,by ac_nf,by ac_nf,st.lids S,by rw [S.nm];exact S.nd,fun sl ys H3 S3 e3 hY=>?_⟩;nofun;have x:=st.stops S;refine ⟨sl,ys,_,rfl,SqL.of e3,hY,st.some S c,fun s hs=>⟨(x s hs).1.s1,(x s hs).1.s2.mono ⋯,(x s hs).1.b1,(x s hs).1.g1⟩,fun v L hL c4 hv=>?_⟩;nofun;refine ⟨sl,v,ys,_,L,N,rfl,SqL.of e3,hY,hv,by ac_nf,fun s hs n hn=>((x s hs).2 n hn).1,fun l R H4 S4 e4 b7 f4=>?_⟩;obtain ⟨d5,d8,d1,D,d0⟩:=st.first S c hL c4 b7 f4;have I:=S3.trans S4;have x4:All2 (LDV K Ad H4) o xs:=x2.mono fun _ _ z=>z.same I;have a0:=I _ _ e2;have f2:l≠g:=fun z=>by rw [z,a0] at e4;cases e4
  have d4:=LDV.notin x4 e4 (fun _ _ z=>by cases z);have a2:=LDV.notin x4 a0 (fun _ _ z=>by cases z);have b0:Z≠g:=fun z=>by rw [z,e2] at U;cases U
  have a3:=LDV.notin x2 U (fun _ _ z=>by cases z);have d6:=hv.same S4;nofun;refine ⟨l,rfl,ForA.byLN (xs:=R.map V.str) (SqL.of e4) (fun i σ C=>i<=(R.map V.str).length/\∃ (v5 v6:Option V) (kv':List (Key × V)) (lds':List LidD),σ=[some (.ref md),some (.ref Z),some (.ref g),some (.ref sl),some v,v5,v6]/\(∀ a u,V.ref a∉xs->a≠g->H4 a=some u->C a=some u)/\C g=some (.dK kv')/\BG (·.1) (NFV K C) (d++(R.take i).map fun n=>(n,L)) kv'/\All2 (LDV K Ad (cut g C)) lds' xs/\RMd b N w M gs L D (d.length+1) (d++(R.take i).map fun n=>(n,L)) lds'/\lds'.map (·.nm)=G.map (·.nm)) ⟨Nat.zero_le _,v5,v6,kv,o,rfl,fun _ _ _ _ h=>h,a0,by rw [take_zero,map_nil,append_nil];exact b2.mono fun _ _ z=>z.sameT fun c u _ h=>I _ _ h,c3.mono (fun _ _ z=>z.same I.cut),by rw [take_zero,map_nil,append_nil];exact d0,c2⟩ (fun i σ C q=>by obtain ⟨_,_,_,_,_,_,q,_⟩:=q;exact SqL.of (q _ _ d4 f2 e4)) ?_ ?_⟩
  ·rintro i y σ H5 hy ⟨hi,d2,a8,a7,p,rfl,S5,e5,b5,O,B,Y⟩ N0 c7;have li:=(List.getElem?_eq_some_iff.mp hy).1;rw [length_map] at li;rw [List.getElem?_map] at hy;obtain ⟨n,hn,rfl⟩:=Option.map_eq_some_iff.mp hy;have c6:=List.mem_of_getElem? hn;have hN:=d8 n c6;have e9:R.take (i+1)=R.take i++[n]:=by rw [take_succ,hn];rfl
   have a5:(d++(R.take (i+1)).map fun n=>(n,L))=(d++(R.take i).map fun n=>(n,L))++[(n,L)]:=by rw [e9,map_append, <- List.append_assoc];rfl
   have hS:n∉(d++(R.take i).map fun n=>(n,L)).map (·.1):=by
    rw [Jbe];intro z;rcases mem_append.mp z with z | z
    ·exact hN.2 z
    ·exact JiU b7 hn z
   have T5:SameT H4 H5:=fun c u t h=>S5 c u (LDV.notin x4 h (fun _ _ z=>by rw [z] at t;simp [isTF] at t)) (fun z=>by rw [z,a0] at h;cases h;simp [isTF] at t) h;have f9:=b5.length;have l5:(d++(R.take i).map fun n=>(n,L)).length<=N.length:=by
    have:=sub_len _ _ B.inv.nd B.inv.sub;simpa using this
   have g0:=O.length;nofun;refine ⟨g,_,rfl,DPut.k (k:=Sum.inr n) e5 ∅,?_⟩;generalize u6:upd H5 g _=H6;nofun;have e6:=putE u6;have T6:SameT H5 H6:=SameT.put u6 e5 rfl;have o6:∀ a u,a≠g->H5 a=some u->H6 a=some u:=fun a u ne h=>by rw [<- u6,Jag ne];exact h
   have f0:cut g H6=cut g H5:=by rw [<- u6];exact Jgd
   rw [<- f0] at O;have x6:All2 (LDV K Ad H6) p xs:=O.mono fun _ _ z=>z.same Jc7;have c0:=(d6.sameT T5).sameT T6;have b6:BG (·.1) (NFV K H6) (d++(R.take (i+1)).map fun n=>(n,L)) (putK a7 (Sum.inr n) v):=by
    rw [a5];exact (b5.mono (P':=NFV K H6) fun _ _ z=>z.sameT T6).new (a:=(n,L)) hS c0
   have b9:H6 Z=some (.lst xs):=o6 _ _ b0 (S5 _ _ a3 b0 (I _ _ U));have W:=B.rest S;have e0:=B.step S hN.1 hS;nofun;refine ⟨Z,rfl,ForA.byLN (xs:=xs) (SqL.of b9) (fun j σ C=>j<=xs.length/\∃ (v6:Option V),σ=[some (.ref md),some (.ref Z),some (.ref g),some (.ref sl),some v,some (.str n),v6]/\(∀ a u,V.ref a∉xs->H6 a=some u->C a=some u)/\All2 (LDV K Ad (cut g C)) ((p.take j).map (fun e=>e.settle n L)++p.drop j) xs) ⟨Nat.zero_le _,a8,rfl,fun _ _ _ h=>h,by rw [take_zero,map_nil,List.drop_zero,nil_append];exact O⟩ (fun j σ C q=>by obtain ⟨_,_,_,q,_⟩:=q;exact SqL.of (q _ _ a3 b9)) ?_ ?_⟩
   ·rintro j z σ H7 hz ⟨hj,a9,rfl,S7,x7⟩ N1 f3;have lj:=(List.getElem?_eq_some_iff.mp hz).1;obtain ⟨e,a6,a4⟩:=x7.at_ hz;rw [Jkd] at a6;have b4:=List.mem_of_getElem? a6;have b3:=a4.same Jc7;obtain ⟨q,dx,vr,vt,wd,rfl,hq,_⟩:=id b3;have T7:SameT H6 H7:=fun c u t h=>S7 c u (LDV.notin x6 h (fun _ _ z=>by rw [z] at t;simp [isTF] at t)) h;have e7:=S7 _ _ a2 e6;have c5:V.ref q∈xs:=List.mem_of_getElem? hz;nofun;refine ⟨q,_,dx,_,rfl,hq,rfl,rfl,?_⟩;refine ⟨q,n,v,e,L,rfl,b3,c0.sameT T7,(W e b4).1,B.fL,(W e b4).2,fun H8 S8 _ f1=>?_⟩;nofun;have c1:g≠q:=fun z=>by rw [<- z,e7] at hq;cases hq
    have e8:=S8 _ _ c1 e7;refine f3 _ _ ⟨lj,_,rfl,fun a u hx h=>S8 a u (fun z=>hx (z ▸ c5)) (S7 a u hx h),?_⟩;rw [<- JgW a6];refine x7.put hz (f1 g _ e7 a4) fun i' a y ne ha hy a1=>?_;have qc:cut g H7 q=_:=(JbF c1.symm).trans hq;refine a1.keep (q:=q) (fun b u nb h=>?_) qc (fun z=>ne ?_)
    ·have c9:b≠g:=fun z=>by rw [z] at h;unfold cut at h;rw [if_pos rfl] at h;cases h
     rw [JbF c9] at h ⊢;exact S8 b u nb h
    ·rw [z, <- hz] at hy;exact ((List.getElem?_inj lj d7).mp hy.symm).symm
   ·rintro σ H7 ⟨hj,a9,rfl,S7,x7⟩;rw [take_of_length_le ∅,List.drop_eq_nil_of_le ∅,append_nil] at x7;have T7:SameT H6 H7:=fun c u t h=>S7 c u (LDV.notin x6 h (fun _ _ z=>by rw [z] at t;simp [isTF] at t)) h;refine c7 _ _ ⟨by rw [length_map];ac_nf,_,_,_,_,rfl,fun a u hx a1 h=>S7 a u hx (o6 a u a1 (S5 a u hx a1 h)),S7 _ _ a2 e6,b6.mono fun _ _ z=>z.sameT T7,x7,by rw [a5];exact e0,JhA.trans Y⟩
  ·rintro σ H5 ⟨hi,d2,a8,a7,p,rfl,S5,e5,b5,O,B,Y⟩;rw [length_map,take_of_length_le (Nat.le_refl _)] at b5 B;have ln:1<=R.length:=by cases R with | nil=>exact absurd rfl d5 | cons a r=>simp
   refine ⟨_,?_,_,_,_,_,a7,_,p,rfl,fun a u hx h=>S5 a u hx (fun z=>by rw [z,X] at h;cases h) (I _ _ (S2 a u hx h)),e5,b5,O,B.next S d1 st.lo ∅,Y,rfl⟩;rw [length_append,length_map];ac_nf
 ·rw [if_neg (by simpa using (by ac_nf:¬ kv.length<J.length))];nofun;exact k g kv d o H2 S2 X e2 b2 x2 st ∅ c2
abbrev Ba6:Stmt:=top 48
theorem Jen:Jan ["lids","name","level","full"] ["lids","name","level"] (Jae Ba6):=by bv_decide
def Jc0 (K:W.Frag) (Ad:Adr):Sp:=fun vs H Q E=>∃ (ll:Addr) (n:Str) (lv:V) (xs:List V) (lds:List LidD) (L:Fr2) (e:LidD),vs=[.ref ll, .str n,lv]/\H ll=some (.lst xs)/\All2 (LDV K Ad H) lds xs/\lds.length<=7/\FrV K H lv L.1 L.2/\lds.find? (fun l=>(wtOf l.ws n).isSome&&(decide (l.rest=(0,1))&&decide (l.last=L)))=some e/\∀ p H',Same H H'->H' p=some (.tup [.str (Str.ofString "gap"), .str e.nm])->Q (.ref p) H'
theorem Jgn (F:FunD K "gap_stop" "gap_stop" Ba6 dV f fd) (T:Txt K mg Ad) (m_has_stopped:MCal P w K mg base 1 "has_stopped" (IsLid Ad) ["self","part","level"] (Jbp K Ad)):FnOk P w K mg base (CX1 P w) 2 f fd ["lids","name","level"] (Jc0 K Ad):=by
 refine F.okn Jen (by subst_eqs) (fun a1 A o s H vs Q E hr h=>?_)
 obtain ⟨r,n,u,xs,a,L,e,rfl,h⟩:=h;refine ⟨_,(Jab (JcX (j:=3) (own:=["lid"]) (cs:=[(1,"name"),(2,"level")]) Jen.nd rfl (Or.inl rfl) rfl (pi_U (pv 0)) (fun _ _ _ _=>(Jar (i:=0) (show [("lid" : Str),("name" : Str),("level" : Str)].Nodup by decide) rfl (Or.inl rfl))) (fun _ _ _ _=>(Ja9 (m_has_stopped.m hr ⋯ passF (pv 0) (Jaa (pv 1) (Jaa (pv 2) Jac))))) (fun _ _ _ _=>(JkB (K:=K) rfl (pv 0) rfl)) (JfF rfl) ⋯ rfl ⋯ (hcs2 rfl rfl rfl rfl rfl rfl))
   (Jai (Jap (JaH (Jaa JbM (Jaa (pe_ix ix_U (pv 3) Jad (fun _ _=>rfl)) Jac)))))),?_⟩
 obtain ⟨D,U,l7,hv,B,k⟩:=h;have lX:=U.length;have sz:(1000:Nat)<=sizeLine:=by decide
 show tSeq _ _ _ [some (.ref r),some (.str n),some u,none] H;and_intros;obtain ⟨P,G⟩:∃ P:LidD->Bool,P=fun l=>(wtOf l.ws n).isSome&&(decide (l.rest=(0,1))&&decide (l.last=L)):=⟨_,rfl⟩;rw [<- G] at B;refine ⟨r,rfl, .inl ⟨⟨xs,SqL.of D⟩,Jcw.list (xs:=xs) (fun i g S=>S=H/\g=((a.take i).filter P).map fun e=>V.str e.nm) ⟨rfl,by rw [take_zero];rfl⟩ (fun i g S hi z=>⟨by rw [z.1];exact SqL.of D,by
  rw [z.2,length_map];have h2:=List.length_filter_le P (a.take i);rw [length_take] at h2;ac_nf⟩) ?_ ?_⟩⟩
 ·rintro i y g J hy ⟨c,b⟩;subst c;subst b;obtain ⟨l,t,M⟩:=U.at_ hy;obtain ⟨q,C,vr,vt,wd,rfl,R,_⟩:=id M;have O:=T.c_Lid Ad.Lid rfl;have d:a.take (i+1)=a.take i++[l]:=by rw [take_succ,t];rfl
  simpa only [length_singleton,length_cons,length_nil,List.replicate,JaF,map_cons,map_nil,Option.join_some];refine ⟨q,_,C,_,rfl,R,rfl,rfl,?_⟩;refine ⟨q,n,u,l,L,rfl,M,hv,?_⟩;and_intros;rw [show ((wtOf l.ws n).isSome&&(decide (l.rest=(0,1))&&decide (l.last=L)))=P l by rw [G]];cases cp:P l with
  | false=>
   and_intros;rw [d,filter_append,show [l].filter P=[] from List.filter_eq_nil_iff.mpr fun x v=>by rw [mem_singleton.mp v,cp];decide,append_nil]
  | true=>
   and_intros;refine ⟨q,_,C,_, .str l.nm,rfl,R,O.cls,O.n1,rfl,?_⟩;and_intros;rw [d,filter_append,show [l].filter P=[l] from List.filter_eq_self.mpr fun x v=>by rw [mem_singleton.mp v,cp],map_append];rfl
 ·rintro g J ⟨c,b⟩;subst c;rw [take_of_length_le ∅] at b;have Z:g[0]?=some (.str e.nm):=by
   have h1:(a.filter P).head?=some e:=by rw [List.head?_filter];exact B
   rw [b,List.getElem?_map, <- List.head?_eq_getElem?,h1];rfl
  rename_i fl I N J H3 S3 e3;and_intros;and_intros;refine ixL (i:=0) (SqL.of e3) Z ?_;and_intros;refine ⟨len2,?_⟩;rename_i p Y a0 H3 X W e4;and_intros;exact k p X (S3.trans W) e4
abbrev Bcw:Stmt:=top 49
theorem JbB:Jan ["thing","scale","lids","mosts","levels","told","part","name","level","slack"] ["thing"] (Jae Bcw):=by bv_decide
def JdO (K:W.Frag) (Ad:Adr):Sp:=fun vs H Q E=>∃ (x:Addr) (ls:List PD) (es:List (GD × List Str)) (pl:Str->Fr2),vs=[.ref x]/\TK K Ad H x ls (es.map (·.1))/\SHC ls es pl/\(∀ e∈es,0<=vl (roomF pl e.1))/\∀ (tl:Addr) (zs:List V) (rs:List ShD) (H':Hp),Same H H'->H tl=none->H' tl=some (.lst zs)->All2 (ShV K H') rs zs->ShR ls es pl rs->Q (.ref tl) H'
theorem Ji8 (F:FunD K "share" "share" Bcw dV f fd) (T:Txt K mg Ad) (Bcx:Cal P w K mg base 4 "scale_of" ["thing"] [] (Jc3 K Ad)) (BcV:Cal P w K mg base 7 "lids_of" ["thing","scale"] [] (Jdz K Ad)) (BbB:Cal P w K mg base 4 "most_levels" ["thing","scale"] [] (Jb5 K Ad)) (Bbj:Cal P w K mg base 7 "risen_levels" ["mosts","lids"] [] (JbU K Ad)) (BaH:MCal P w K mg base 2 "parts" (Ja8 Ad) ["self"] (JaZ K Ad)) (m_lowered:MCal P w K mg base 2 "lowered" (Jdn Ad) ["self","number"] (JbE K Ad)) (Bbh:Cal P w K mg base 2 "times" ["one","other"] [] (Jdm K)) (Bcy:Cal P w K mg base 2 "gap_stop" ["lids","name","level"] [] (Jc0 K Ad)):FnOk P w K mg base (CX1 P w) 9 f fd ["thing"] (JdO K Ad):=by
 refine F.okx JbB (fun vs H Q E h=>?_) (fun i9 A f1 s H vs Q E hr h=>?_)
 ·obtain ⟨x,W,es,pl,rfl,_⟩:=h;rfl
 obtain ⟨x,W,es,pl,rfl,h⟩:=h;have hu:=hr.units;refine ⟨_,(Jab (Jak (i:=1) JbB.nd rfl (Or.inl rfl) (Bcx.ev hr ⋯ rfl pass1 (Jaa (pv 0) Jac) (he:=by exact Jaf rfl)))
   (Jab (Jak (i:=2) JbB.nd rfl (Or.inl rfl) (BcV.ev hr ⋯ rfl pass1 (Jaa (pv 0) (Jaa (pv 1) Jac)) (he:=by exact Jaf rfl)))
   (Jab (Jak (i:=3) JbB.nd rfl (Or.inl rfl) (BbB.ev hr ⋯ rfl pass1 (Jaa (pv 0) (Jaa (pv 1) Jac)) (he:=by exact Jaf rfl)))
   (Jab (Jak (i:=4) JbB.nd rfl (Or.inl rfl) (Bbj.ev hr ⋯ rfl pass1 (Jaa (pv 3) (Jaa (pv 2) Jac)) (he:=by exact Jaf rfl)))
   (Jab (Jak (i:=5) JbB.nd rfl (Or.inl rfl) (Ja2 Jac))
   (Jab (Ja3 PassesOwn.leaving rfl (pi_U (BaH.m0 hr ⋯ pass1 (pv 0))) (Jar (i:=6) JbB.nd rfl (Or.inl rfl))
   (Jab (Jak (i:=7) JbB.nd rfl (Or.inl rfl) (pe_ix ix_U (pv 6) Jad (fun _ _=>rfl)))
   (Jab (Jak (i:=8) JbB.nd rfl (Or.inl rfl) (Jbh (hu1 hu) (pv 4) (pv 7) (fun _ _=>rfl)))
   (Jai (ps_if (Jay (Jb9 hu) (pv 8) (Jbh (hu1 hu) (pv 3) (pv 7) (fun _ _=>rfl)) (Jaw _))
   (Jai (Ja4 (pe_bm PySem.F.plainAttrs_list PySem.F.slot_list_append PySem.F.type_list_append JaY (pv 5) (Jaa (JaH (Jaa (pv 7) (Jaa (pe_ix ix_U (pv 6) Jad (fun _ _=>rfl)) (Jaa (JaH (Jaa JbM Jac)) Jac)))) Jac) (hs:=by exact Jaf rfl))))
   (Jab (Jak (i:=9) JbB.nd rfl (Or.inl rfl) (m_lowered.m hr ⋯ pass1 (pv 1) (Jaa (Bbh.ev hr ⋯ rfl pass1 (Jaa (pv 8) (Jaa (JaH (Jaa (pe_ix ix_U (pv 6) Jad (fun _ _=>rfl)) (Jaa Jad Jac))) Jac)) (he:=by exact Jaf rfl)) Jac)))
   (Jai (Ja4 (pe_bm PySem.F.plainAttrs_list PySem.F.slot_list_append PySem.F.type_list_append JaY (pv 5) (Jaa (JaH (Jaa (pv 7) (Jaa (pv 9) (Jaa (Bcy.ev hr ⋯ rfl pass1 (Jaa (pv 2) (Jaa (pv 7) (Jaa (pv 8) Jac))) (he:=by exact Jaf rfl)) Jac)))) Jac) (hs:=by exact Jaf rfl))))))))))
   (Jai (Jap (pv 5))))))))),?_⟩
 clear hu;obtain ⟨ht,d,d6,k⟩:=h;obtain ⟨dx,d1,d2,d3,k1,k2,k3,hx,_⟩:=id ht;have sl:(1000:Nat)<=sizeLine:=by decide
 have i4:=d.l12;have l7:=d.l7;show tSeq _ _ _ [some (.ref x),none,none,none,none,none,none,none,none,none] H;nofun;refine ⟨x,W,_,rfl,ht,d.l12,by rw [length_map];exact d.l7,by rw [length_map];exact d.l14,fun p O=>⟨(d.pb p O).1,(d.pb p O).2.b1,(d.pb p O).2.s2.mono ⋯⟩,fun g hg=>by obtain ⟨e,he,rfl⟩:=mem_map.mp hg;exact d.gb e he,fun sc b fs H1 S1 Z=>?_⟩;obtain ⟨g9,fl,c9,_,c8,sb,_⟩:=id Z;have b1:=c8.b1;nofun;refine ⟨x,sc,W,es,pl,b,fs,rfl,ht.same S1,Z,d,d6,fun ll xs b2 H2 S2 h8 e2 hX f6 h6 c7 a7=>?_⟩;nofun;have d9:=S1.trans S2;refine ⟨x,sc,W,_,b,fs,rfl,ht.same d9,Z.same S2,d.l12,d.nd,fun p O=>⟨(d.pb p O).2,(d.pok p O).w,d.wt p O⟩,fun md d4 ms H3 S3 i0 e3 bm h7 h3=>?_⟩;obtain ⟨q0,rc,e7⟩:=Jjq b1 sb d d6 c7 a7 h7 h3;have hw:=JjK c7 a7;nofun;have x3:All2 (LDV K Ad H3) b2 xs:=hX.mono fun _ _ z=>z.same S3;refine ⟨md,ll,d4,ms,xs,b2,b,q0,_,_,_,_,rfl,e3,bm,S3 _ _ e2,x3,f6,by ac_nf,rc,e7,fun ld kv f7 R H4 S4 h9 e4 b4 x4 X N h4=>?_⟩;have b3:Same H1 H4:=fun c u h=>S4 c u (fun z=>by obtain ⟨q,eq,hq⟩:=h6 _ z;have eq:c=q:=(by injection eq);rw [<- eq,h] at hq;cases hq) (S3 _ _ (S2 _ _ h));have a2:=S1.trans b3;have T4:SameT H3 H4:=fun c u t h=>S4 c u (LDV.notin x3 h (fun _ _ z=>by rw [z] at t;simp [isTF] at t)) h;have h0:=S4 _ _ (LDV.notin x3 e3 (fun _ _ z=>by cases z)) e3;have f8:=S4 _ _ (LDV.notin x3 (S3 _ _ e2) (fun _ _ z=>by cases z)) (S3 _ _ e2);have f5:BG (·.1) (NFV K H4) ms d4:=bm.mono fun _ _ z=>z.sameT T4;have c0:R.map (·.nm)=es.map (·.1.nm):=by
  rw [h4];refine List.ext_getElem? fun i=>?_;rw [List.getElem?_map,List.getElem?_map];by_cases c:i<es.length
  ·rw [List.getElem?_eq_getElem c,List.getElem?_eq_getElem (by ac_nf:i<b2.length)];exact congrArg some (a7 i _ _ (List.getElem?_eq_getElem c) (List.getElem?_eq_getElem ∅)).nm
  ·rw [List.getElem?_eq_none ∅,List.getElem?_eq_none ∅];rfl
 have i6:R.length=es.length:=by simpa using congrArg List.length c0
 nofun;refine ⟨Nat.zero_le _,?_⟩;rename_i Y a6 i2 H4 H5 S5 e5;nofun;have a5:H Y=none:=JdV a2 a6;refine ⟨x,_,dx,_,rfl,S5 _ _ (a2 _ _ hx),rfl,rfl,x,W,_,rfl,ht.same (a2.trans S5),by ac_nf,fun l ys H6 S6 c6 e6 hY=>?_⟩;have lY:=hY.length;have g5:l≠Y:=fun z=>by rw [z,e5] at c6;cases c6
 have c3:=Same.trans S5 S6;nofun;refine ⟨l,rfl,ForA.byLN (xs:=ys) (SqL.of e6) (fun i σ H'=>i<=ys.length/\∃ (v6 v7 v8 v9:Option V) (zs:List V) (X:List ShD),σ=[some (.ref x),some (.ref sc),some (.ref ll),some (.ref md),some (.ref ld),some (.ref Y),v6,v7,v8,v9]/\(∀ c u,c≠Y->H6 c=some u->H' c=some u)/\SameT H6 H'/\H' Y=some (.lst zs)/\All2 (ShV K H') X zs/\X.length=i/\∀ (j:Nat) p r,W[j]?=some p->X[j]?=some r->ShRow W es pl (lvf b f7) p r) ⟨Nat.zero_le _,none,none,none,none,[],[],rfl,fun _ _ _ h=>h,SameT.refl _,S6 _ _ e5,rfl,rfl,fun j p r _ h=>by simp at h⟩ (fun i σ H' q=>by obtain ⟨_,_,_,_,_,_,_,_,q,_⟩:=q;exact SqL.of (q _ _ g5 e6)) ?_ ?_⟩
 ·rintro i y σ H7 hy ⟨hi,v6,v7,v8,v9,zs,a0,rfl,ho,hT,ez,hZ,M,I⟩ N0 c1;have li:=(List.getElem?_eq_some_iff.mp hy).1;obtain ⟨p,O,b_,vz,vm,rfl,hb,_,hm⟩:=hY.at_ hy;have a1:=List.mem_of_getElem? O;have b0:=hb.sameT hT;have B:Same H4 H7:=fun c u h=>ho c u (Jah h a6) (c3 _ _ h);have c5:p.nm∈W.map (·.nm):=mem_map.mpr ⟨p,a1,rfl⟩;obtain ⟨a,L,ha,J,d5,f9⟩:=b4.some (z:=p.nm) (X.all rc N _ c5);have J:a.1=p.nm:=J;obtain ⟨m,a8,g2,b6,b8,h5⟩:=f5.some (z:=p.nm) (by rw [rc.nm];exact c5);have b6:m.1=p.nm:=b6;have fa:=sh_lv rc X ha;have ml:=rc.ml m g2;have b9:vl m.2=moF W a.1*(b:Rat):=by rw [ml.1,b6,J]
  have g7:DGet H7 ld (.str p.nm) (some L):=by rw [<- d5];exact DGet.k (k:=Sum.inr p.nm) (B _ _ e4)
  have f4:DGet H7 md (.str p.nm) (some a8):=by rw [<- b8];exact DGet.k (k:=Sum.inr p.nm) (B _ _ h0)
  have a9:FrV K H7 L a.2.1 a.2.2:=FrV.same B f9;have g8:FrV K H7 a8 m.2.1 m.2.2:=FrV.same B h5;have lZ:=hZ.length;nofun;refine ixT (i:=0) b0 rfl ?_;nofun;refine ⟨ld,L,rfl,g7,?_⟩;nofun;refine ⟨md,a8,rfl,f4,?_⟩;refine eqF a9 g8 ?_;have ee:(decide (a.2.1=m.2.1)&&decide (a.2.2=m.2.2))=decide (a.2=m.2):=by
   rw [<- Bool.decide_and];exact decide_eq_decide.mpr Prod.ext_iff.symm
  rw [ee];nofun;by_cases c:a.2=m.2
  ·rw [if_pos (by simpa using c)];nofun;refine ⟨.inl ⟨rfl,_,SqL.of ez⟩,?_⟩;refine ixT (i:=4) b0 rfl ?_;nofun;refine ⟨by show 1<=sizeLine;ac_nf,?_⟩;rename_i t i8 i5 H7 H8 S8 e8;nofun;nofun;refine ⟨by show 3<=sizeLine;ac_nf,?_⟩;rename_i pr d8 d7 H8 H9 S9 e9;nofun;have o:=Same.trans S8 S9;have U:=o _ _ ez;nofun;refine ⟨Y,zs,_,rfl,rfl,U,by ac_nf,?_⟩;generalize G:upd H9 Y _=C;nofun;have b7:=putE G;have n:SameT H9 C:=SameT.put G U rfl;have T7:=o.t.trans n;refine c1 _ _ ⟨li,_,_,_,_,_,a0++[(⟨p.nm,p.mo,none⟩:ShD)],rfl,fun c u S h=>by rw [<- G,Jag S];exact o _ _ (ho c u S h),hT.trans T7,b7,(hZ.mono (P':=ShV K C) fun _ _ z=>z.sameT T7).append (.one (show ShV K C (⟨p.nm,p.mo,none⟩:ShD) (.ref pr) from ⟨pr,_,t,rfl,SqT.of (n _ _ rfl e9),((hm.sameT hT).same o).sameT n,SqT.of (n _ _ rfl (S9 _ _ e8))⟩)),by rw [length_append,M];rfl,fun j p' r' h1 h2=>?_⟩;rcases Jbn h2 with h2 | ⟨q1,q2⟩
   ·exact I j p' r' h1 h2
   ·rw [q1,M,O] at h1;cases h1;rw [q2];exact JkO d rc X a1 ha J (by rw [c];exact b9)
  ·rw [if_neg (by simpa using c)];nofun;have d0:vl a.2≠moF W a.1*(b:Rat):=fun z=>c (fa.lo.inj ml.2.1.lo (z.trans b9.symm));obtain ⟨l0,e0,g0,f3,e1⟩:=JkM hw rc X N c0 ha d0;have wp:=d.wt p a1;refine ⟨sc,_,g9,_,rfl,B _ _ (b3 _ _ c9),rfl,rfl,?_⟩;refine ixT (i:=5) b0 rfl ?_;nofun;refine ⟨len2,?_⟩;rename_i w1 i1 i3 H7 H8 S8 e8;nofun;refine ⟨L, .ref w1,_,_,p.wt,1,rfl,a9.same S8,FrV.of e8,fa.s1.mono ⋯,fa.s2.mono ⋯,wp.mono ⋯, .lit ⋯ ⋯,fa.b1,by decide,fa.g1,by unfold Mth.g;simp,fun p2 H9 S9 e9=>?_⟩;have e9:H9 p2=some (.tup [.int (mulF a.2 (p.wt,1)).1, .int (mulF a.2 (p.wt,1)).2]):=e9;have a3:=Same.trans S8 S9;have j0:=Je6 (a:=a.2) (c:=(p.wt,1)) fa.b1 (Int.le_refl 1);have f2:FB 3000 1000 (mulF a.2 (p.wt,1)):=by
    refine FB.low (Jb8 fa.b1 (Int.le_refl 1)) ((fa.s1.mul wp).mono ⋯) ?_;show Mth.Sz 1000 (a.2.2*1);rw [Int.mul_one];exact fa.s2.mono ⋯
   nofun;refine ⟨sc, .ref p2,_,b,fs,rfl,Z.same (b3.trans (B.trans a3)),FrV.of e9,f2,fun p3 tt i7 g4 g6 f0=>?_⟩;have v:=a3.trans g4;nofun;refine ⟨.inl ⟨rfl,_,SqL.of (v _ _ ez)⟩,?_⟩;nofun;refine ⟨ll,p.nm,L,xs,R,a.2,l0,rfl,v _ _ (B _ _ f8),x4.mono (fun _ _ z=>z.same (B.trans v)),by ac_nf,a9.same v,by rw [<- J];exact g0,fun t g3 c2 c4=>?_⟩;nofun;refine ⟨by show 3<=sizeLine;ac_nf,?_⟩;rename_i pr d8 d7 g3 a4 b5 e9;nofun;have o:=v.trans (c2.trans b5);have U:=o _ _ ez;nofun;refine ⟨Y,zs,_,rfl,rfl,U,by ac_nf,?_⟩;generalize G:upd a4 Y _=C;nofun;have b7:=putE G;have n:SameT a4 C:=SameT.put G U rfl;have T7:=o.t.trans n;refine c1 _ _ ⟨li,_,_,_,_,_,a0++[(⟨p.nm,tt,some e0.1.nm⟩:ShD)],rfl,fun c u S h=>by rw [<- G,Jag S];exact o _ _ (ho c u S h),hT.trans T7,b7,(hZ.mono (P':=ShV K C) fun _ _ z=>z.sameT T7).append (.one (show ShV K C (⟨p.nm,tt,some e0.1.nm⟩:ShD) (.ref pr) from ⟨pr,_,t,rfl,SqT.of (n _ _ rfl e9),FrV.of (n _ _ rfl (b5 _ _ (c2 _ _ g6))),by rw [e1] at c4;exact SqT.of (n _ _ rfl (b5 _ _ c4))⟩)),by rw [length_append,M];rfl,fun j p' r' h1 h2=>?_⟩;rcases Jbn h2 with h2 | ⟨q1,q2⟩
   ·exact I j p' r' h1 h2
   ·rw [q1,M,O] at h1;cases h1;rw [q2];exact JkN d rc X a1 ha J d0 f0 f3
 ·rintro σ H7 ⟨hi,v6,v7,v8,v9,zs,a0,rfl,ho,hT,ez,hZ,M,I⟩;nofun;obtain ⟨D,F⟩:=JiC hw rc X N;exact k Y zs a0 H7 (fun c u h=>ho c u (Jah h a5) (c3 _ _ (a2 _ _ h))) a5 ez hZ ⟨by have:=hZ.length;ac_nf,_,D,F,I⟩
abbrev Ba7:Stmt:=top 61
theorem Jch:Jan ["_law_script","_law_k","_law_total","_law_j"] ["_law_script","_law_k"] (Jae Ba7):=by bv_decide
def JbS (K:W.Frag):Sp:=fun vs H Q E=>∃ (a:Addr) (ns:List Int) (k:Int),vs=[.ref a, .int k]/\SqL K H a (ns.map V.int)/\ns.length<=63/\0<=k/\k<=1000/\∀ v:Int,Q (.int v) H
theorem Jgq (F:FunD K "_law_cell" "_law_cell" Ba7 dV f fd) (T:Txt K mg Ad)  : FnOk P w K mg base (CX1 P w) 1 f fd ["_law_script","_law_k"] (JbS K):=by
 refine F.okn Jch (by subst_eqs) (fun o A b s H n Q E u h=>?_)
 obtain ⟨a,g,k,rfl,h⟩:=h;refine ⟨_,(Jab (Jak (i:=2) Jch.nd rfl (Or.inl rfl) Jad)
   (Jab (Ja3 PassesOwn.never rfl (Jip rfl T.BcD (Jaa (pv 1) (Jaa (Jat (JhG rfl) rfl T.Bec JkY (Jaa (Jat Ja5 rfl T.BbI Jbr (Jaa (pv 0) Jac)) (Jaa Jad Jac))) (Jaa Jad Jac)))) (Jar (i:=3) Jch.nd rfl (Or.inl rfl))
   (Jai (Jak (i:=2) Jch.nd rfl (Or.inl rfl) (pe_op Ja6 (pv 2) (pe_op JaI (pe_ix ix_U (pv 0) (pv 3) (fun _ _=>rfl)) (pe_op Ja6 Jad (pv 3)))))))
   (Jai (Jap (pv 2))))),?_⟩
 obtain ⟨e,p,l,r,q⟩:=h;obtain ⟨k,rfl⟩:=Int.eq_ofNat_of_zero_le l;show tSeq _ _ _ [some (.ref a),some (.int (k:Int)),none,none] H;nofun;refine ⟨_, .inl e,?_⟩;simpa only [length_map];refine ⟨_,_,_,rfl,⟨by ac_nf,by ac_nf,by split <;> ac_nf,by split <;> ac_nf,by decide,by decide⟩,?_⟩;refine ForQ.by (fun i σ d=>∃ (t:Int) (v:Option V),σ=[some (.ref a),some (.int (k:Int)),some (.int t),v]/\d=H) ⟨0,none,rfl,rfl⟩ ?_ ?_
 ·rintro i σ d c ⟨t,v,rfl,rfl⟩;have j:k+i*32<g.length:=by
   unfold rsz at c;split at c <;> split at c <;> ac_nf
  have m:(k:Int)+(i:Int)*32=((k+i*32:Nat):Int):=by ac_nf
  rw [m];nofun;refine ixL e (by rw [List.getElem?_map,List.getElem?_eq_getElem j];rfl) ?_;nofun;exact ⟨Jh5 (.lit ∅ ∅),_,_,rfl,trivial⟩
 ·rintro σ d ⟨t,v,rfl,rfl⟩;nofun;exact q t
abbrev Bby:Stmt:=top 63
theorem JbL:Jan ["_law_top","_law_bottom","_law_one","_law_other","_law_rest"] ["_law_top","_law_bottom"] (Jae Bby):=by bv_decide
def Jcc  : Sp:=fun vs H Q E=>∃ (t b:Int),vs=[.int t, .int b]/\1<=b/\Mth.Sz 8000 b/\∀ p H',Same H H'->H' p=some (.tup [.int (Mth.top t b), .int (Mth.bot t b)])->Q (.ref p) H'
theorem Jhq (F:FunD K "_law_low" "_law_low" Bby dV f fd) (T:Txt K mg Ad)  : FnOk P w K mg base (CX1 P w) 1 f fd ["_law_top","_law_bottom"] (Jcc):=by
 refine F.okn JbL (by subst_eqs) (fun G A j s H D Q E C h=>?_)
 obtain ⟨t,b,rfl,h⟩:=h;have l:=C.units;refine ⟨_,(Jab (Jak (i:=2) JbL.nd rfl (Or.inl rfl) (pv 0))
   (Jab (Jak (i:=3) JbL.nd rfl (Or.inl rfl) (pv 1))
   (Jab (JdN PassesOwn.never (Jay (Jdb l) (pv 3) Jad (Jaw _))
   (Jab (Jak (i:=4) JbL.nd rfl (Or.inl rfl) (pe_op JaC (pv 2) (pv 3)))
   (Jab (Jak (i:=2) JbL.nd rfl (Or.inl rfl) (pv 3))
   (Jai (Jak (i:=3) JbL.nd rfl (Or.inl rfl) (pv 4))))))
   (Jai (Jap (JaH (Jaa (pe_op Jas (pv 0) (Jat Jc6 rfl T.BdU JgN (Jaa (pv 2) Jac))) (Jaa (pe_op Jas (pv 1) (Jat Jc6 rfl T.BdU JgN (Jaa (pv 2) Jac))) Jac)))))))),?_⟩
 clear l;obtain ⟨J,v,k⟩:=h;show tSeq _ _ _ [some (.int t),some (.int b),none,none,none] H;nofun;refine ⟨fun m σ u=>∃ (x y:Int) (z:Option V),σ=[some (.int t),some (.int b),some (.int x),some (.int y),z]/\u=H/\0<=y/\Mth.g x y=Mth.g t b/\y.toNat=m,⟨_,_,_,none,rfl,rfl,by ac_nf,rfl,rfl⟩,?_⟩;rintro m σ u ⟨x,y,z,rfl,rfl,L,o,rfl⟩;nofun;by_cases c:y=0
 ·subst c;rw [if_neg (by simp)];nofun;have N:=Mth.g_pos (a:=t) (b:=b) ∅;have M:=Mth.g_le (a:=t) (b:=b) ∅;have r:DivOk (Mth.g t b):=divOk (n:=8000) ∅ (Nat.lt_of_le_of_lt (by ac_nf:(Mth.g t b).natAbs<=b.natAbs) v);have e:(if x<0 then -x else x)=Mth.g t b:=by
   rw [<- o,Mth.JjD];split <;> ac_nf
  nofun;rw [e];refine ⟨r,r,len2,?_⟩;refine Jdr fun p I S B=>k p I S ?_;rw [B];unfold Mth.top Mth.bot Mth.by_;rw [if_neg ∅];nofun
 ·rw [if_pos (by simp [c])];nofun;have f:=Mth.fm (x:=x) (y:=y) ∅;refine ⟨_,fun _ _ q=>q,?_⟩;nofun;have d:Mth.g y (x.fmod y)=Mth.g t b:=by rw [Mth.JhS ∅];exact o
  refine ⟨c,?_⟩;nofun;first
   | exact ⟨(x.fmod y).toNat,by ac_nf,y,x.fmod y,_,rfl,f.1,d,rfl⟩
   | exact ⟨(x.fmod y).toNat,by ac_nf,y,x.fmod y,_,rfl,rfl,f.1,d,rfl⟩
abbrev Ba8:Stmt:=top 64
theorem JgG:Jan ["_law_one","_law_other","_law_sign"] ["_law_one","_law_other","_law_sign"] (Jae Ba8):=by bv_decide
def JbT (K:W.Frag):Sp:=fun vs H Q E=>∃ (x y:V) (g:Int) (a c:Fr2) (s:Bool),vs=[x,y, .int g]/\(g=if s then 1 else -1)/\FrV K H x a.1 a.2/\FrV K H y c.1 c.2/\FW 3000 3000 a/\FW 3000 3000 c/\∀ p H',Same H H'->H' p=some (.tup [.int (addF a (sgn s c)).1, .int (addF a (sgn s c)).2])->Q (.ref p) H'
theorem Jgt (F:FunD K "_law_plus" "_law_plus" Ba8 dV f fd) (T:Txt K mg Ad) (Bax:Cal P w K mg base 1 "_law_low" ["_law_top","_law_bottom"] [] (Jcc)):FnOk P w K mg base (CX1 P w) 2 f fd ["_law_one","_law_other","_law_sign"] (JbT K):=by
 refine F.okn JgG (by subst_eqs) (fun u A j s H t Q E r h=>?_)
 obtain ⟨x,y,g,a,c,s,rfl,h⟩:=h;refine ⟨_,(Jai (Jap (Bax.ev r ⋯ rfl passF (Jaa (pe_op Ja6 (pe_op JaI (pe_ix ix_U (pv 0) Jad (fun _ _=>rfl)) (pe_ix ix_U (pv 1) Jad (fun _ _=>rfl))) (pe_op JaI (pe_op JaI (pv 2) (pe_ix ix_U (pv 1) Jad (fun _ _=>rfl))) (pe_ix ix_U (pv 0) Jad (fun _ _=>rfl)))) (Jaa (pe_op JaI (pe_ix ix_U (pv 0) Jad (fun _ _=>rfl)) (pe_ix ix_U (pv 1) Jad (fun _ _=>rfl))) Jac)) (he:=by exact Jaf rfl)))),?_⟩;obtain ⟨n,m,l,d,b,k⟩:=h;have i:Mth.Sz 4 g:=by
  rw [n];cases s
  ·exact .lit ⋯ ⋯
  ·exact .lit ⋯ ⋯
 have o:(sgn s c).1=g*c.1:=by
  rw [n];cases s
  ·show -c.1 = -1*c.1;ac_nf
  ·show c.1=1*c.1;ac_nf
 have q:(sgn s c).2=c.2:=by cases s <;> rfl
 unfold addF at k;rw [o,q] at k;show tRet _ _ [some x,some y,some (.int g)] H;nofun;refine ixF0 m (ixF1 l ?_);nofun;refine ⟨mulOk d.s1 b.s2,ixF0 l ?_⟩;nofun;refine ⟨mulOk i b.s1,ixF1 m ?_⟩;nofun;refine ⟨mulOk (i.mul b.s1) d.s2,ixF1 m (ixF1 l ?_)⟩;nofun;refine ⟨mulOk d.s2 b.s2,_,_,rfl,?_,(d.s2.mul b.s2).mono ⋯,fun p v S e=>k p v S e⟩;have:=Int.mul_pos (show 0<a.2 by have:=d.b1;ac_nf) (show 0<c.2 by have:=b.b1;ac_nf);ac_nf
abbrev Ba9:Stmt:=top 65
theorem JgF:Jan ["_law_k","_law_sign","_law_style"] ["_law_k","_law_sign","_law_style"] (Jae Ba9):=by bv_decide
def Jco  : Sp:=fun vs H Q E=>∃ (i:Int) (z:Str) (st:Int) (s m:Nat),vs=[.int i, .str z, .int st]/\z.cps=#[s]/\i=(m:Int)/\m<=16/\0<=st/\st<=3/\Q (.str (nmK s st.toNat m)) H
theorem Jgs (F:FunD K "_law_name" "_law_name" Ba9 dV f fd) (T:Txt K mg Ad)  : FnOk P w K mg base (CX1 P w) 1 f fd ["_law_k","_law_sign","_law_style"] (Jco):=by
 refine F.okn JgF (by subst_eqs) (fun v A l s H u Q E G h=>?_)
 obtain ⟨i,z,a,s,m,rfl,h⟩:=h;refine ⟨_,(Jai (Jap (pe_op Ja6 (pe_op Ja6 (pe_op JaI (pv 1) (pv 2)) (pe_ix ix_U JbM (pv 0) (fun _ _=>rfl))) (pe_op JaI (pv 1) (pe_op JfT Jad (pv 2)))))),?_⟩;obtain ⟨p,rfl,I,r,L,q⟩:=h;have o:z.cps.toList=[s]:=by rw [p]
 have y:z.length=1:=by rw [JdL,o];rfl
 have D:(1000:Nat)<=sizeLine:=by decide
 show tRet _ _ [some (.int (m:Int)),some (.str z),some (.int a)] H;nofun;refine ⟨r,by ac_nf,by ac_nf,fun b j=>?_⟩;have d:b.cps.toList=List.replicate a.toNat s:=by
  rw [j,o];simp
 have k:(Str.ofString "abcdefghijklmnopq").cps.toList=List.range' 97 17:=by decide
 refine ⟨97+m,by decide,by rw [k];exact JdP (by rw [List.getElem?_range' ∅,Nat.one_mul]),?_⟩;nofun;have B:b.length=a.toNat:=by rw [JdL,d,List.length_replicate]
 have e:(b++(⟨#[97+m]⟩:Str)).cps.toList=List.replicate a.toNat s++[97+m]:=by rw [JgM,d]
 have t:(b++(⟨#[97+m]⟩:Str)).length=a.toNat+1:=by rw [JdL,e];simp
 have C:(⟨#[97+m]⟩:Str).length=1:=rfl;refine ⟨by ac_nf,?_⟩;nofun;refine ⟨by ac_nf,by ac_nf,by ac_nf,fun c n=>?_⟩;have g:c.cps.toList=List.replicate (3-a.toNat) s:=by
  rw [n,o];have : (3-a).toNat=3-a.toNat:=by ac_nf
  rw [this];simp
 have J:c.length=3-a.toNat:=by rw [JdL,g,List.length_replicate]
 nofun;refine ⟨by ac_nf,?_⟩;have x:b++(⟨#[97+m]⟩:Str)++c=nmK s a.toNat m:=by
  have : (b++(⟨#[97+m]⟩:Str)++c).cps=(nmK s a.toNat m).cps:=by
   apply Array.toList_inj.mp;rw [JgM,e,g];unfold nmK;simp
  cases h1:b++(⟨#[97+m]⟩:Str)++c;cases h2:nmK s a.toNat m;rw [h1,h2] at this
  congr
 rw [x];exact q
abbrev BaP:Stmt:=top 62
theorem Jfm:Jan ["_law_cell_here","_law_most"] ["_law_cell_here","_law_most"] (Jae BaP):=by bv_decide
def Jcp  : Sp:=fun vs H Q E=>∃ (c m:Int),vs=[.int c, .int m]/\1<=m/\m<=10 ^ 40/\∀ r:Int, -m<r->r<m->Q (.int r) H
theorem Jfc (F:FunD K "_law_signed" "_law_signed" BaP dV f fd) (T:Txt K mg Ad)  : FnOk P w K mg base (CX1 P w) 1 f fd ["_law_cell_here","_law_most"] (Jcp):=by
 refine F.okn Jfm (by subst_eqs) (fun e A a s H d Q E g h=>?_)
 obtain ⟨c,m,rfl,h⟩:=h;refine ⟨_,(Jab (ps_if (Jay JfS (pv 0) Jad (Jaw _))
   (Jai (Jap (pe_op JfT Jad (pe_op JaC (pe_op JfT Jad (pv 0)) (pv 1)))))
   Jav)
   (Jai (Jap (pe_op JaC (pv 0) (pv 1))))),?_⟩
 obtain ⟨i,b,k⟩:=h;have b:m<=10000000000000000000000000000000000000000:=b;show tSeq _ _ _ [some (.int c),some (.int m)] H;nofun;by_cases z:c<0
 ·rw [if_pos (by simpa using z)];nofun;nofun;have q:=Mth.fm (x:=0-c) (y:=m) ∅;refine ⟨by ac_nf,?_⟩;nofun;exact k _ ∅ ∅
 ·rw [if_neg (by simpa using z)];nofun;nofun;have q:=Mth.fm (x:=c) (y:=m) ∅;refine ⟨by ac_nf,?_⟩;nofun;exact k _ ∅ ∅
abbrev BaZ:Stmt:=top 66
theorem Jax:Jan ["_law_script","_law_style","_law_parts_here","_law_spots","_law_k","_law_cell_here","_law_mixed","_law_here","_law_there","_law_other","_law_size","_law_bottom","_law_most","_law_ends"] ["_law_script","_law_style"] (Jae BaZ):=by bv_decide
def JcL (K:W.Frag):Sp:=fun vs H Q E=>∃ (a:Addr) (ns:List Int) (st:Nat),vs=[.ref a, .int (st:Int)]/\SqL K H a (ns.map V.int)/\ns.length<=63/\st<=3/\∀ q pl sd px kv ls xs H',Same H H'->H' q=some (.tup [.ref pl, .ref sd])->H' pl=some (.lst px)->All2 (PDV K H') ls px->H' sd=some (.dK kv)->BG (·.1.f) (SPN K H') xs kv->Grn st ls (xs.map (·.1))->Nms ls xs->Two (xs.map (·.1))->1<=ls.length->ls.length<=8->xs.length<=16->(∀ p∈ls,Mth.Sz 21 p.wt)->xs≠[]->Q (.ref q) H'
theorem JfR (F:FunD K "_law_parts" "_law_parts" BaZ dV f fd) (T:Txt K mg Ad) (Bae:Cal P w K mg base 1 "_law_cell" ["_law_script","_law_k"] [] (JbS K)) (BaQ:Cal P w K mg base 1 "_law_name" ["_law_k","_law_sign","_law_style"] [] (Jco)) (Bax:Cal P w K mg base 1 "_law_low" ["_law_top","_law_bottom"] [] (Jcc)) (Bal:Cal P w K mg base 2 "_law_plus" ["_law_one","_law_other","_law_sign"] [] (JbT K)) (BbZ:Cal P w K mg base 1 "_law_signed" ["_law_cell_here","_law_most"] [] (Jcp)):FnOk P w K mg base (CX1 P w) 3 f fd ["_law_script","_law_style"] (JcL K):=by
 refine F.okn Jax (by subst_eqs) (fun o7 A j8 s H vs Q E hr h=>?_)
 obtain ⟨a,ns,e,rfl,h⟩:=h;have hu:=hr.units;refine ⟨_,(Jab (Jak (i:=2) Jax.nd rfl (Or.inl rfl) (Ja2 Jac))
   (Jab (Jak (i:=3) Jax.nd rfl (Or.inl rfl) JbH)
   (Jab (Ja3 PassesOwn.never rfl (Jdg rfl T.BcD (Jaa (pe_op Ja6 Jad (pe_op JaC (Bae.ev hr ⋯ rfl passF (Jaa (pv 0) (Jaa Jad Jac)) (he:=by exact Jaf rfl)) Jad)) Jac)) (Jar (i:=4) Jax.nd rfl (Or.inl rfl))
   (Jab (Jak (i:=5) Jax.nd rfl (Or.inl rfl) (Bae.ev hr ⋯ rfl passF (Jaa (pv 0) (Jaa (pe_op Ja6 Jad (pe_op JaI Jad (pv 4))) Jac)) (he:=by exact Jaf rfl)))
   (Jab (Jak (i:=6) Jax.nd rfl (Or.inl rfl) (pe_op Jas (pe_op JaC (pe_op JaI (pv 5) Jad) Jad) Jad))
   (Jab (ps_if (PW.pt (pw_or (Jay (Jb9 hu) (Jat Jb6 rfl T.BbI Jbr (Jaa (pv 3) Jac)) Jad (Jaw _)) (JcB (Jay (Jb9 hu) (pe_op JaC (pe_op Jas (pv 6) Jad) Jad) Jad (Jaw _)))))
   (Jab (Jak (i:=7) Jax.nd rfl (Or.inl rfl) (BaQ.ev hr ⋯ rfl passF (Jaa (Jat Jb6 rfl T.BbI Jbr (Jaa (pv 3) Jac)) (Jaa JbM (Jaa (pv 1) Jac))) (he:=by exact Jaf rfl)))
   (Jai (Jb1 (hu1 hu) (pv 3) (pv 7) (JaH (Jaa (pv 7) (Jaa (JaH (Jaa Jad (Jaa Jad Jac))) Jac))) rfl)))
   (Jai (Jak (i:=7) Jax.nd rfl (Or.inl rfl) (pe_ix ix_U (Jat (JeI rfl) rfl T.BdH Jfz (Jaa (pv 3) Jac)) (pe_op JaC (pv 6) (Jat Jb6 rfl T.BbI Jbr (Jaa (pv 3) Jac))) (fun _ _=>rfl)))))
   (Jab (Jak (i:=8) Jax.nd rfl (Or.inl rfl) (BaQ.ev hr ⋯ rfl passF (Jaa (Jat Jb6 rfl T.BbI Jbr (Jaa (pv 3) Jac)) (Jaa JbM (Jaa (pv 1) Jac))) (he:=by exact Jaf rfl)))
   (Jab (Jak (i:=9) Jax.nd rfl (Or.inl rfl) (Bae.ev hr ⋯ rfl passF (Jaa (pv 0) (Jaa (pe_op Ja6 Jad (pe_op JaI Jad (pv 4))) Jac)) (he:=by exact Jaf rfl)))
   (Jab (Jak (i:=10) Jax.nd rfl (Or.inl rfl) (Bax.ev hr ⋯ rfl passF (Jaa (BbZ.ev hr ⋯ rfl passF (Jaa (pv 9) (Jaa (pe_ix ix_U (Ja2 (Jaa Jad (Jaa (pe_op Jgw Jad Jad) Jac))) (pe_op JaC (pe_op Jas (pv 6) Jad) Jad) (fun _ _=>rfl)) Jac)) (he:=by exact Jaf rfl)) (Jaa (pe_op Ja6 Jad (pe_op JaC (pe_op Jas (pv 6) Jad) Jad)) Jac)) (he:=by exact Jaf rfl)))
   (Jab (Jak (i:=11) Jax.nd rfl (Or.inl rfl) (pe_ix ix_U (Ja2 (Jcz (Jcz (Jcz (Jcz (Jcz (Jcz (Jcz (Jcz (Jcz (Jcz (Jcz (Jcz Jac))))))))))))) (pe_op JaC (pe_op Jas (pv 6) Jad) Jad) (fun _ _=>rfl)))
   (Jab (Jak (i:=12) Jax.nd rfl (Or.inl rfl) (Bax.ev hr ⋯ rfl passF (Jaa (pe_op JaC (pv 9) (pe_ix ix_U (Ja2 (Jaa Jad (Jaa Jad (Jaa (pe_op Jgw Jad Jad) Jac)))) (pe_op JaC (pe_op Jas (pv 6) Jad) Jad) (fun _ _=>rfl))) (Jaa (pv 11) Jac)) (he:=by exact Jaf rfl)))
   (Jab (Jak (i:=13) Jax.nd rfl (Or.inl rfl) (pe_ix ix_U (Ja2 (Jaa (JaH (Jaa (pv 7) (Jaa (pv 8) Jac))) (Jaa (JaH (Jaa (pv 8) (Jaa (pv 7) Jac))) Jac))) (pe_op JaC (pe_op Jas (pv 6) Jad) Jad) (fun _ _=>rfl)))
   (Jab (Ja4 (pe_bm PySem.F.plainAttrs_list PySem.F.slot_list_append PySem.F.type_list_append JaY (pv 2) (Jaa (JaH (Jaa (BaQ.ev hr ⋯ rfl passF (Jaa (pv 4) (Jaa JbM (Jaa (pv 1) Jac))) (he:=by exact Jaf rfl)) (Jaa (pe_ix ix_U (pv 13) Jad (fun _ _=>rfl)) (Jaa (pe_ix ix_U (pv 13) Jad (fun _ _=>rfl)) (Jaa (pv 10) (Jaa (pv 12) (Jaa (pe_op Ja6 Jad (pe_op JaC (pe_op Jas (pv 6) Jad) Jad)) Jac))))))) Jac) (hs:=by exact Jaf rfl)))
   (Jai (Jb1 (hu1 hu) (pv 3) (pv 8) (JaH (Jaa (pe_ix ix_U (Jbh (hu1 hu) (pv 3) (pv 7) (fun _ _=>rfl)) Jad (fun _ _=>rfl)) (Jaa (Bal.ev hr ⋯ rfl passF (Jaa (pe_ix ix_U (Jbh (hu1 hu) (pv 3) (pv 7) (fun _ _=>rfl)) Jad (fun _ _=>rfl)) (Jaa (pv 10) (Jaa (pe_op JfT Jad (pe_op JaI Jad (pe_op JaC (pe_op Jas (pv 6) Jad) Jad))) Jac))) (he:=by exact Jaf rfl)) Jac))) rfl)))))))))))))
   (Jai (Jap (JaH (Jaa (pv 2) (Jaa (pv 3) Jac)))))))),?_⟩
 clear hu;obtain ⟨hS,hl,b5,k⟩:=h;have sl:(1000:Nat)<=sizeLine:=by decide
 have a8:(Str.ofString "f").cps=#[102]:=by decide
 have f8:(Str.ofString "p").cps=#[112]:=by decide
 show tSeq _ _ _ [some (.ref a),some (.int (e:Int)),none,none,none,none,none,none,none,none,none,none,none,none] H;nofun;refine ⟨len0,?_⟩;rename_i pl h4 m8 H H1 S1 e1;nofun;rename_i l a7 n0 H1 H2 S2 e2;nofun;refine ⟨a,ns,0,rfl,(hS.same S1).same S2,hl,by decide,by decide,fun c0=>?_⟩;nofun;repeat (refine And.intro (by first | exact JaU ⋯ | exact JaW ⋯ | exact JaV ⋯ | exact JaB ⋯ | exact Int.one_ne_zero | decide) ?_)
 have q0:=Mth.fm (x:=c0) (y:=8) ⋯;refine ⟨_,rfl,by ac_nf,by ac_nf,?_⟩;have d8:pl≠l:=fun z=>by rw [<- z,e1] at a7;cases a7
 have c7:=JdV S1 a7;refine ForR.byN (fun i σ o=>∃ (v4 v5 v6 v7 v8 v9 a4 a9 b0 a5:Option V) (px:List V) (B:List (Key × V)) (ls:List PD) (c:List (SpD × List Str)),σ=[some (.ref a),some (.int (e:Int)),some (.ref pl),some (.ref l),v4,v5,v6,v7,v8,v9,a4,a9,b0,a5]/\Same H o/\o pl=some (.lst px)/\All2 (PDV K o) ls px/\o l=some (.dK B)/\BG (·.1.f) (SPN K o) c B/\Grn e ls (c.map (·.1))/\Nms ls c/\Two (c.map (·.1))/\ls.length=i/\c.length<=2*i/\(1<=i->c≠[])/\∀ p∈ls,Mth.Sz 21 p.wt) ⟨none,none,none,none,none,none,none,none,none,none,[],[],[],[],rfl,S1.trans S2,S2 _ _ e1,rfl,e2,⟨rfl,rfl⟩,Grn.nil,Nms.nil,(fun s hs=>by cases hs),rfl,by decide,fun z=>absurd z ⋯,(fun p hp=>by cases hp)⟩ ?_ ?_
 ·rintro i σ H3 hi ⟨v4,v5,v6,v7,v8,v9,a4,a9,b0,a5,px,B,ls,c,rfl,S3,ep,hP,L,hB,M,hM,hT,b8,f5,f4,f3⟩ N0 j4;have i7:i<8:=by ac_nf
  rw [Int.zero_add];simpa only [-y5by];repeat (refine And.intro (by first | exact JaU ⋯ | exact JaW ⋯ | exact JaV ⋯ | exact JaB ⋯ | exact Int.one_ne_zero | decide) ?_)
  refine ⟨a,ns,_,rfl,hS.same S3,hl,by ac_nf,by ac_nf,fun c1=>?_⟩;try simpa only [-y5by]
  repeat (refine And.intro (by first | exact JaU ⋯ | exact JaW ⋯ | exact JaV ⋯ | exact JaB ⋯ | exact Int.one_ne_zero | decide) ?_)
  generalize ((c1*48271).fmod 2147483647).fdiv 37=mx;refine Jk8 (fun σ' o=>∃ (B:List (Key × V)) (c:List (SpD × List Str)) (W:SpD × List Str),σ'=[some (.ref a),some (.int (e:Int)),some (.ref pl),some (.ref l),some (.int (i:Int)),some (.int c1),some (.int mx),some (.str W.1.f),v8,v9,a4,a9,b0,a5]/\Same H o/\o pl=some (.lst px)/\All2 (PDV K o) ls px/\o l=some (.dK B)/\BG (·.1.f) (SPN K o) c B/\Grn e ls (c.map (·.1))/\Nms ls c/\W∈c/\(∀ s∈c.map (·.1),s.r=W.1.r\/∃ t∈c.map (·.1),t.f≠s.f/\t.r=s.r)/\c.length<=2*i+1) ?_ ?_
  ·clear hB M hT hM f5 f4 L hP ep S3;rintro σ' I ⟨B,c,W,rfl,m,ep,hP,L,hB,M,hM,U,hT,f5⟩;have lk:=hB.length;have Z:(c.map (·.1)).length=c.length:=length_map ..;have D:W.1∈c.map (·.1):=mem_map.mpr ⟨W,U,rfl⟩;nofun;refine ⟨l,B,rfl,L,?_⟩;refine ⟨_,_,_,102,c.length,rfl,a8,by ac_nf,by ac_nf,by ac_nf,by ac_nf,?_⟩;rw [Int.toNat_natCast];nofun;repeat (refine And.intro (by first | exact JaU ⋯ | exact JaW ⋯ | exact JaV ⋯ | exact JaB ⋯ | exact Int.one_ne_zero | decide) ?_)
   refine ⟨a,ns,_,rfl,hS.same m,hl,by ac_nf,by ac_nf,fun c2=>?_⟩;nofun;repeat (refine And.intro (by first | exact JaU ⋯ | exact JaW ⋯ | exact JaV ⋯ | exact JaB ⋯ | exact Int.one_ne_zero | decide) ?_)
   rename_i ml l8 m0 I H6 S6 e6;nofun;repeat (refine And.intro (by first | exact JaU ⋯ | exact JaW ⋯ | exact JaV ⋯ | exact JaB ⋯ | exact Int.one_ne_zero | decide) ?_)
   have q5:=Mth.fm (x:=mx.fdiv 64) (y:=2) ⋯;obtain ⟨n5,i4⟩:=Int.eq_ofNat_of_zero_le q5.1;rw [i4] at q5 ⊢;obtain ⟨mo,k1,m1,m2⟩:∃ mo:Int,[V.int 9, .int 10000000000000000000000000000000000000000][n5]?=some (.int mo)/\1<=mo/\mo<=10000000000000000000000000000000000000000:=by
    match n5,q5 with
    | 0,_=>exact ⟨_,rfl,by decide,by decide⟩
    | 1,_=>exact ⟨_,rfl,by decide,by decide⟩
    | n+2,q5=>ac_nf
   refine ixL (i:=n5) (SqL.of e6) k1 ?_;clear q5 i4;nofun;refine ⟨_,_,rfl,m1,by show mo<=10 ^ 40;exact m2,fun c3 r1 r2=>?_⟩;nofun;repeat (refine And.intro (by first | exact JaU ⋯ | exact JaW ⋯ | exact JaV ⋯ | exact JaB ⋯ | exact Int.one_ne_zero | decide) ?_)
   have qb:=Mth.fm (x:=mx.fdiv 128) (y:=12) ⋯;refine ⟨_,_,rfl,by ac_nf, .lit ∅ ∅,fun fz H7 S7 e7=>?_⟩;have zb:FB 133 4 (Mth.top (c3) (1+(mx.fdiv 128).fmod 12),Mth.bot (c3) (1+(mx.fdiv 128).fmod 12)):=FB.low ∅ (.lit ∅ ∅) (.lit ∅ ∅);obtain ⟨O,g7⟩:∃ O:Fr2,O=(Mth.top (c3) (1+(mx.fdiv 128).fmod 12),Mth.bot (c3) (1+(mx.fdiv 128).fmod 12)):=⟨_,rfl⟩;rw [<- g7] at zb;have e7:H7 fz=some (.tup [.int O.1, .int O.2]):=by rw [e7,g7]
   nofun;refine ⟨by show 12<=sizeLine;ac_nf,?_⟩;rename_i bl n2 m5 H7 k6 l2 k2;nofun;repeat (refine And.intro (by first | exact JaU ⋯ | exact JaW ⋯ | exact JaV ⋯ | exact JaB ⋯ | exact Int.one_ne_zero | decide) ?_)
   have d7:=Mth.fm (x:=mx.fdiv 16) (y:=12) ⋯;obtain ⟨i9,c9⟩:=Int.eq_ofNat_of_zero_le d7.1;rw [c9] at d7 ⊢;obtain ⟨bt,l5,b1,b2⟩:∃ bt:Int,[V.int 1, .int 2, .int 3, .int 4, .int 5, .int 6, .int 10, .int 12, .int 15, .int 20, .int 30, .int 60][i9]?=some (.int bt)/\1<=bt/\bt<=60:=Jlw ∅;refine ixL (i:=i9) (SqL.of k2) l5 ?_;clear d7 c9;nofun;repeat (refine And.intro (by first | exact JaU ⋯ | exact JaW ⋯ | exact JaV ⋯ | exact JaB ⋯ | exact Int.one_ne_zero | decide) ?_)
   rename_i ol m4 n7 k6 p0 k3 k5;nofun;repeat (refine And.intro (by first | exact JaU ⋯ | exact JaW ⋯ | exact JaV ⋯ | exact JaB ⋯ | exact Int.one_ne_zero | decide) ?_)
   have q3:=Mth.fm (x:=mx.fdiv 1024) (y:=3) ⋯;obtain ⟨n3,f7⟩:=Int.eq_ofNat_of_zero_le q3.1;rw [f7] at q3 ⊢;obtain ⟨om,l6,o1,o2⟩:∃ om:Int,[V.int 13, .int 13, .int 1000000000000000000000000000000][n3]?=some (.int om)/\1<=om/\om<=1000000000000000000000000000000:=pick3 ∅;refine ixL (i:=n3) (SqL.of k5) l6 ?_;clear q3 f7;nofun;refine ⟨by ac_nf,?_⟩;repeat (refine And.intro (by first | exact JaU ⋯ | exact JaW ⋯ | exact JaV ⋯ | exact JaB ⋯ | exact Int.one_ne_zero | decide) ?_)
   have qo:=Mth.fm (x:=c2) (y:=om) ∅;refine ⟨_,_,rfl,b1, .lit ∅ ∅,fun fm h8 j3 f1=>?_⟩;have mb:FB 100 6 (Mth.top (c2.fmod om) bt,Mth.bot (c2.fmod om) bt):=FB.low b1 (.lit ∅ ∅) (.lit ∅ ∅);have mn:0<=Mth.top (c2.fmod om) bt:=JiL qo.1 b1;obtain ⟨mz,e0⟩:∃ mz:Fr2,mz=(Mth.top (c2.fmod om) bt,Mth.bot (c2.fmod om) bt):=⟨_,rfl⟩;rw [<- e0] at mb;have mn:0<=mz.1:=by rw [e0];exact mn
   have f1:h8 fm=some (.tup [.int mz.1, .int mz.2]):=by rw [f1,e0]
   clear r1 r2 qb qo m1 m2 b1 b2 o1 o2;nofun;refine ⟨len2,?_⟩;rename_i t1 o3 m6 h8 H8 S8 e8;nofun;refine ⟨len2,?_⟩;rename_i t2 o0 n9 H8 H9 S9 e9;nofun;refine ⟨len2,?_⟩;rename_i el n8 n1 H9 b3 b6 l3;nofun;repeat (refine And.intro (by first | exact JaU ⋯ | exact JaW ⋯ | exact JaV ⋯ | exact JaB ⋯ | exact Int.one_ne_zero | decide) ?_)
   have q6:=Mth.fm (x:=mx.fdiv 32) (y:=2) ⋯;obtain ⟨n6,h5⟩:=Int.eq_ofNat_of_zero_le q6.1;rw [h5] at q6 ⊢;obtain ⟨d,et,u,v,hd,g9,a1,a6,i8⟩:∃ (d:Bool) (et:Addr) (u v:Str),[V.ref t1, .ref t2][n6]?=some (.ref et)/\b3 et=some (.tup [.str u, .str v])/\(u=if d then W.1.f else nmK 102 e c.length)/\(v=if d then nmK 102 e c.length else W.1.f)/\(1-2*(n6:Int)=if d then 1 else -1):=by
    match n6,q6 with
    | 0,_=>exact ⟨true,t1,_,_,rfl,b6 _ _ (S9 _ _ e8),rfl,rfl,rfl⟩
    | 1,_=>exact ⟨false,t2,_,_,rfl,b6 _ _ e9,rfl,rfl,rfl⟩
    | n+2,q6=>ac_nf
   refine ixL (i:=n6) (SqL.of l3) hd ?_;clear q6;nofun;have d2:Same H7 b3:=l2.trans (k3.trans (j3.trans (S8.trans (S9.trans b6))));have d1:Same I b3:=S6.trans (S7.trans d2);have f9:=d2 _ _ e7;have g0:=b6 _ _ (S9 _ _ (S8 _ _ f1));have g1:=d1 _ _ ep;refine ⟨.inl ⟨rfl,_,SqL.of g1⟩,?_⟩;refine ⟨_,_,_,112,i,rfl,f8,rfl,by ac_nf,by ac_nf,by ac_nf,?_⟩;rw [Int.toNat_natCast];nofun;refine ixT (i:=0) (SqT.of g9) rfl ?_;refine ixT (i:=1) (SqT.of g9) rfl ?_;nofun;repeat (refine And.intro (by first | exact JaU ⋯ | exact JaW ⋯ | exact JaV ⋯ | exact JaB ⋯ | exact Int.one_ne_zero | decide) ?_)
   have qw:=Mth.fm (x:=mx.fdiv 8) (y:=4) ⋯;refine ⟨by show 6<=sizeLine;ac_nf,?_⟩;rename_i pt m9 n4 b3 b4 b7 l7;nofun;have G:=d1.trans b7;have lp:=hP.length;refine ⟨pl,px,_,rfl,rfl,G _ _ ep,by ac_nf,?_⟩;generalize d3:upd b4 pl _=a2;nofun;have j5:a2 pl=some (.lst (px++[.ref pt])):=putE d3;have f0:SameT b4 a2:=SameT.put d3 (G _ _ ep) rfl;have c8:∀ b u,b≠pl->b4 b=some u->a2 b=some u:=fun b u hb h=>by rw [<- d3,Jag hb];exact h
   have R:=c8 _ _ (Ne.symm d8) (G _ _ L);have S:SameT I a2:=G.t.trans f0;obtain ⟨s',o6,l1,k0,i1,tb,w0,rfl,i0,j2⟩:=hB.some (z:=W.1.f) (mem_map.mpr ⟨W,U,rfl⟩);have es:=JdE M l1 U k0;subst es;nofun;refine ⟨l,_,rfl,by rw [<- i1];exact DGet.k (k:=Sum.inr s'.1.f) R,?_⟩;refine ixT (i:=0) (i0.sameT S) rfl ?_;refine ⟨l,_,rfl,by rw [<- i1];exact DGet.k (k:=Sum.inr s'.1.f) R,?_⟩;refine ixT (i:=1) (i0.sameT S) rfl ?_;nofun;repeat (refine And.intro (by first | exact JaU ⋯ | exact JaW ⋯ | exact JaV ⋯ | exact JaB ⋯ | exact Int.one_ne_zero | decide) ?_)
   have f6:FrV K a2 (.ref fz) O.1 O.2:=FrV.of (f0 _ _ rfl (b7 _ _ f9));have pb:=M.fb s'.1 D;refine ⟨w0, .ref fz,_,s'.1.p,O,d,rfl,(by first | exact i8 | (rw [h5];exact i8)),j2.sameT S,f6,pb.w.mono ∅ ∅,zb.w.mono ⋯ ⋯,fun np k4 h6 k9=>?_⟩;nofun;have m3:=h6 _ _ R;refine ⟨len2,?_⟩;rename_i nt m7 l9 k4 f2 g2 j7;nofun;have g:=h6.trans g2;have d0:=g _ _ R;refine ⟨l,_,rfl,DPut.k (k:=Sum.inr (nmK 102 e c.length)) d0 ∅,?_⟩;generalize e3:upd f2 l _=Y;nofun;have j9:=putE e3;have b9:SameT f2 Y:=SameT.put e3 d0 rfl;have c4:∀ b u,b≠l->f2 b=some u->Y b=some u:=fun b u hb h=>by rw [<- e3,Jag hb];exact h
   have c5:SameT I Y:=S.trans (g.t.trans b9);have J:SameT b4 Y:=f0.trans (g.t.trans b9);have d6:nameS (nmK 112 e i)=true:=JdM ⋯ b5 ∅;have o9:nameS s'.1.f=true:=M.fname b5 ∅ D;have o8:nameS (nmK 102 e c.length)=true:=JdM ⋯ b5 ∅;have a0:nmK 102 e c.length∉(c.map (·.1)).map (·.f):=M.new (by rw [Z];exact Nat.le_refl _);have nw:nmK 102 e c.length≠s'.1.f:=fun z=>a0 (z ▸ mem_map.mpr ⟨s'.1,D,rfl⟩);have l0:Mth.Sz 200 (1+(mx.fdiv 8).fmod 4):=.lit ∅ ∅;have g5:Mth.Sz 21 (1+(mx.fdiv 8).fmod 4):=.lit ∅ ∅;have j6:POk ⟨nmK 112 e i,u,v,O,mz,1+(mx.fdiv 8).fmod 4⟩:=⟨d6,by show nameS u=true;rw [a1];cases d <;> assumption,by show nameS v=true;rw [a6];cases d <;> assumption,by show u≠v;rw [a1,a6];cases d;exact nw;exact Ne.symm nw,zb.ok ⋯ ⋯,mb.ok ⋯ ⋯,mn,by show (1:Int)<=1+(mx.fdiv 8).fmod 4;ac_nf,l0⟩;rw [<- Z] at a1 a6;have h0:=M.part b5 D (p:=⟨nmK 112 e i,u,v,O,mz,1+(mx.fdiv 8).fmod 4⟩) (d:=d) (by rw [b8]) a1 a6 (zb.mono ⋯ ⋯) j6;have g3:=hM.part M U (p:=⟨nmK 112 e i,u,v,O,mz,1+(mx.fdiv 8).fmod 4⟩) (d:=d) (by rw [b8]) a1 a6 zb mb;have i5:=Jjt M D hT (z:=addF s'.1.p (sgn d O));rw [Z] at h0 g3 i5;obtain ⟨X,hX⟩:∃ X:SpD × List Str,X=(⟨nmK 102 e c.length,s'.1.r,addF s'.1.p (sgn d O)⟩,s'.2++[nmK 112 e i]):=⟨_,rfl⟩;have a3:(c++[X]).map (·.1)=c.map (·.1)++[⟨nmK 102 e c.length,s'.1.r,addF s'.1.p (sgn d O)⟩]:=by rw [map_append,hX];rfl
   refine j4 _ _ ⟨_,_,_,_,_,_,_,_,_,_,px++[.ref pt],_,ls++[⟨nmK 112 e i,u,v,O,mz,1+(mx.fdiv 8).fmod 4⟩],c++[X],rfl,fun b w h=>c4 _ _ (Jah h c7) (g _ _ (c8 _ _ (Jah h h4) (G _ _ (m _ _ h)))),c4 _ _ d8 (g _ _ j5),?_,j9,?_,by rw [a3];exact h0,by rw [hX];exact g3,by rw [a3];exact i5,by simp [b8],by simp;ac_nf,(fun _=>by simp),fun p hp=>by
    rcases mem_append.mp hp with hp | hp
    ·exact f3 p hp
    ·rw [mem_singleton.mp hp];exact g5⟩
   ·exact (hP.mono (P':=PDV K Y) fun _ _ z=>z.sameT c5).append (.one ⟨pt,_,_,rfl,SqT.of (J _ _ rfl l7),FrV.of (J _ _ rfl (b7 _ _ f9)),FrV.of (J _ _ rfl (b7 _ _ g0))⟩)
   ·have d4:=hB.mono (P':=SPN K Y) fun _ _ z=>z.sameT c5;have ef:X.1.f=nmK 102 e c.length:=by rw [hX]
    have nX:(fun x:SpD × List Str=>x.1.f) X∉c.map (fun x=>x.1.f):=by
     show X.1.f∉_;rw [ef];rw [map_map] at a0;exact a0
    have:=d4.new (a:=X) (v:=.ref nt) nX ⟨nt, .ref np,rfl,by rw [hX];exact SqT.of (b9 _ _ rfl j7),by rw [hX];exact FrV.of (b9 _ _ rfl (g2 _ _ k9))⟩;rw [ef] at this;exact this
  ·intro N hN;have lk:=hB.length;have Z:(c.map (·.1)).length=c.length:=length_map ..;nofun;refine ⟨l,B,rfl,L,?_⟩;nofun;have g6:∀ (o:Hp) (tf rf:Addr),Same H3 o->o rf=some (.tup [.int 0, .int 1])->o tf=some (.tup [.str (nmK 102 e c.length), .ref rf])->∀ C,upd o l (.dK (putK B (Sum.inr (nmK 102 e c.length)) (.ref tf)))=C->N [some (.ref a),some (.int (e:Int)),some (.ref pl),some (.ref l),some (.int (i:Int)),some (.int c1),some (.int mx),some (.str (nmK 102 e c.length)),v8,v9,a4,a9,b0,a5] C:=fun o tf rf S' hr ht C u=>by
    have k7:=S' _ _ L;have j1:=putE u;have T':SameT o C:=SameT.put u k7 rfl;have fr:∀ b w,b≠l->o b=some w->C b=some w:=fun b w hb h=>by rw [<- u,Jag hb];exact h
    have T3:SameT H3 C:=S'.t.trans T';have g8:=M.face;have g4:=hM.face M;rw [Z] at g8 g4;obtain ⟨X,hX⟩:∃ X:SpD × List Str,X=(⟨nmK 102 e c.length,nmK 102 e c.length,(0,1)⟩,[]):=⟨_,rfl⟩;have a3:(c++[X]).map (·.1)=c.map (·.1)++[⟨nmK 102 e c.length,nmK 102 e c.length,(0,1)⟩]:=by rw [map_append,hX];rfl
    have d9:X.1.f=nmK 102 e c.length:=by rw [hX]
    have l4:X.1.r=nmK 102 e c.length:=by rw [hX]
    refine hN _ _ ⟨_,c++[X],X,by rw [d9],fun b w h=>fr _ _ (Jah h c7) (S' _ _ (S3 _ _ h)),fr _ _ d8 (S' _ _ ep),hP.mono (P':=PDV K C) (fun _ _ z=>z.sameT T3),j1,?_,by rw [a3];exact g8,by rw [hX];exact g4,by simp,fun s hs=>?_,by simp;ac_nf⟩
    ·have d4:=hB.mono (P':=SPN K C) fun _ _ z=>z.sameT T3;have nX:(fun x:SpD × List Str=>x.1.f) X∉c.map (fun x=>x.1.f):=by
      show X.1.f∉_;rw [d9];have a0:nmK 102 e c.length∉(c.map (·.1)).map (·.f):=M.new (by rw [Z];exact Nat.le_refl _);rw [map_map] at a0;exact a0
     have:=d4.new (a:=X) (v:=.ref tf) nX ⟨tf, .ref rf,rfl,by rw [hX];exact SqT.of (T' _ _ rfl ht),by rw [hX];exact FrV.of (T' _ _ rfl hr)⟩;rw [d9] at this;exact this
    ·rw [a3] at hs ⊢;rcases mem_append.mp hs with hs | hs
     ·obtain ⟨t,h1,h2,h3⟩:=hT s hs;exact .inr ⟨t,mem_append.mpr (.inl h1),h2,h3⟩
     ·rw [mem_singleton.mp hs,l4];exact .inl rfl
   by_cases z0:c.length=0
   ·rw [if_pos (by rw [decide_eq_true_iff];ac_nf)];nofun;refine ⟨l,B,rfl,L,?_⟩;refine ⟨_,_,_,102,c.length,rfl,a8,by ac_nf,by ac_nf,by ac_nf,by ac_nf,?_⟩;rw [Int.toNat_natCast];nofun;refine ⟨len2,?_⟩;rename_i rf j0 i6 H3 I m e4;nofun;refine ⟨len2,?_⟩;rename_i tf i3 i2 I H5 S5 e5;nofun;refine ⟨l,_,rfl,DPut.k (k:=Sum.inr (nmK 102 e c.length)) (S5 _ _ (m _ _ L)) ∅,?_⟩;exact g6 H5 tf rf (m.trans S5) (S5 _ _ e4) e5 _ rfl
   ·rw [if_neg (by rw [decide_eq_true_iff];ac_nf)];nofun;nofun;repeat (refine And.intro (by first | exact JaU ⋯ | exact JaW ⋯ | exact JaV ⋯ | exact JaB ⋯ | exact Int.one_ne_zero | decide) ?_)
    by_cases c6:(mx.fdiv 4096).fmod 6=1
    ·rw [if_pos (by simpa using c6)];nofun;refine ⟨l,B,rfl,L,?_⟩;refine ⟨_,_,_,102,c.length,rfl,a8,by ac_nf,by ac_nf,by ac_nf,by ac_nf,?_⟩;rw [Int.toNat_natCast];nofun;refine ⟨len2,?_⟩;rename_i rf j0 i6 H3 I m e4;nofun;refine ⟨len2,?_⟩;rename_i tf i3 i2 I H5 S5 e5;nofun;refine ⟨l,_,rfl,DPut.k (k:=Sum.inr (nmK 102 e c.length)) (S5 _ _ (m _ _ L)) ∅,?_⟩;exact g6 H5 tf rf (m.trans S5) (S5 _ _ e4) e5 _ rfl
    ·rw [if_neg (by simpa using c6)];nofun;refine ⟨l,B,c.map (·.1.f),rfl,L,by rw [hB.1,map_map];rfl,by rw [length_map];ac_nf,fun k8 d5 h7 h9=>?_⟩;generalize u4:upd H3 k8 _=I;nofun;have m:=newS h7 u4;have e4:=newE u4;nofun;refine ⟨l,B,rfl,m _ _ L,?_⟩;nofun;have lo:d5.length=c.length:=by rw [h9.1.length_eq,length_map]
     refine ⟨by ac_nf,?_⟩;have qj:=Mth.fm (x:=mx) (y:=(B.length:Int)) ∅;obtain ⟨j,hj⟩:=Int.eq_ofNat_of_zero_le qj.1;rw [hj] at qj ⊢;have jl:j<d5.length:=by ac_nf
     obtain ⟨W,U,ef⟩:=mem_map.mp (h9.1.mem_iff.mp (List.getElem_mem jl));refine ixL (i:=j) (SqL.of e4) (by rw [List.getElem?_map,List.getElem?_eq_getElem jl];rfl) ?_;nofun;have ef:W.1.f=d5[j]:=ef;rw [<- ef];exact hN _ _ ⟨B,c,W,rfl,S3.trans m,m _ _ ep,hP.mono (P':=PDV K I) (fun _ _ z=>z.sameT m.t),m _ _ L,hB.mono (P':=SPN K I) (fun _ _ z=>z.sameT m.t),M,hM,U,fun s hs=>.inr (hT s hs),by ac_nf⟩
 ·rintro σ H3 ⟨v4,v5,v6,v7,v8,v9,a4,a9,b0,a5,px,B,ls,c,rfl,S3,ep,hP,L,hB,M,hM,hT,b8,f5,f4,f3⟩;nofun;refine ⟨len2,?_⟩;rename_i q o5 o4 H3 I m e4;nofun;exact k q pl l px B ls c I (S3.trans m) e4 (m _ _ ep) (hP.mono (P':=PDV K I) fun _ _ z=>z.sameT m.t) (m _ _ L) (hB.mono (P':=SPN K I) fun _ _ z=>z.sameT m.t) M hM hT ∅ ∅ ∅ f3 (f4 ∅)
abbrev Bba:Stmt:=top 67
theorem JaD:Jan ["_law_script","_law_spots","_law_style","_law_gaps_here","_law_k","_law_cell_here","_law_mixed","_law_faces","_law_one","_law_same","_law_two","_law_middle","_law_other","_law_far","_law_low_here","_law_high"] ["_law_script","_law_spots","_law_style"] (Jae Bba):=by bv_decide
def Jc2 (K:W.Frag):Sp:=fun vs H Q E=>∃ (a sd:Addr) (ns:List Int) (st:Nat) (kv:List (Key × V)) (ls:List PD) (xs:List (SpD × List Str)),vs=[.ref a, .ref sd, .int (st:Int)]/\SqL K H a (ns.map V.int)/\ns.length<=63/\st<=3/\H sd=some (.dK kv)/\BG (·.1.f) (SPN K H) xs kv/\Grn st ls (xs.map (·.1))/\Nms ls xs/\Two (xs.map (·.1))/\ls.length<=8/\xs.length<=16/\xs≠[]/\∀ gl gx es H',Same H H'->H' gl=some (.lst gx)->All2 (fun (e:GD × List Str) x=>TV K H' e.1.td x) es gx->(∀ e∈es,GOQ ls xs e)->(∀ (i:Nat) (e:GD × List Str),es[i]?=some e->e.1.nm=nmK 103 st i)->es.length<=6->Q (.ref gl) H'
theorem Jgr (F:FunD K "_law_gaps" "_law_gaps" Bba dV f fd) (T:Txt K mg Ad) (Bae:Cal P w K mg base 1 "_law_cell" ["_law_script","_law_k"] [] (JbS K)) (BaQ:Cal P w K mg base 1 "_law_name" ["_law_k","_law_sign","_law_style"] [] (Jco)) (Bax:Cal P w K mg base 1 "_law_low" ["_law_top","_law_bottom"] [] (Jcc)) (Bal:Cal P w K mg base 2 "_law_plus" ["_law_one","_law_other","_law_sign"] [] (JbT K)):FnOk P w K mg base (CX1 P w) 3 f fd ["_law_script","_law_spots","_law_style"] (Jc2 K):=by
 refine F.okn JaD (by subst_eqs) (fun l4 A h4 s H vs Q E W h=>?_)
 obtain ⟨a,sd,ns,st,kv,ls,xs,rfl,h⟩:=h;have I:=W.units;refine ⟨_,(Jab (Jak (i:=3) JaD.nd rfl (Or.inl rfl) (Ja2 Jac))
   (Jab (Ja3 PassesOwn.never rfl (Jdg rfl T.BcD (Jaa (pe_op JaC (Bae.ev W ⋯ rfl passF (Jaa (pv 0) (Jaa Jad Jac)) (he:=by exact Jaf rfl)) Jad) Jac)) (Jar (i:=4) JaD.nd rfl (Or.inl rfl))
   (Jab (Jak (i:=5) JaD.nd rfl (Or.inl rfl) (Bae.ev W ⋯ rfl passF (Jaa (pv 0) (Jaa (pe_op Ja6 Jad (pe_op JaI Jad (pv 4))) Jac)) (he:=by exact Jaf rfl)))
   (Jab (Jak (i:=6) JaD.nd rfl (Or.inl rfl) (pe_op Jas (pe_op JaC (pe_op JaI (pv 5) Jad) Jad) Jad))
   (Jab (Jak (i:=7) JaD.nd rfl (Or.inl rfl) (Jat (JeI rfl) rfl T.BdH Jfz (Jaa (pv 1) Jac)))
   (Jab (Jak (i:=8) JaD.nd rfl (Or.inr rfl) (pe_ix ix_U (pv 7) (pe_op JaC (pv 6) (Jat Ja5 rfl T.BbI Jbr (Jaa (pv 7) Jac))) (fun _ _=>rfl)))
   (Jab (JcX (j:=9) (own:=["_law_face"]) (cs:=[(8,"_law_one"),(1,"_law_spots")]) JaD.nd rfl (Or.inl rfl) rfl (pi_U (pv 7)) (fun _ _ _ _=>(Jar (i:=0) (show [("_law_face" : Str),("_law_one" : Str),("_law_spots" : Str)].Nodup by decide) rfl (Or.inl rfl))) (fun _ _ _ _=>(PW.pt (JjI (Jay (Jlq (K:=K) rfl I) (pv 0) (pv 1) (Jaw _)) (Jiu (Jay (Jlm (K:=K) rfl I) (pe_ix (ix_UK (K:=K) rfl) (Jbh (hu1 I) (pv 2) (pv 0) (fun _ _=>rfl)) Jad (fun _ _=>rfl)) (pe_ix (ix_UK (K:=K) rfl) (Jbh (hu1 I) (pv 2) (pv 1) (fun _ _=>rfl)) Jad (fun _ _=>rfl)) (Jaw _)))))) (fun _ _ _ _=>(pv 0)) (JfF rfl) ⋯ rfl ⋯ (hcs2 rfl rfl rfl rfl rfl rfl))
   (Jab (Jak (i:=10) JaD.nd rfl (Or.inl rfl) (pe_ix ix_U (pv 9) (pe_op JaC (pe_op Jas (pv 6) Jad) (Jat Ja5 rfl T.BbI Jbr (Jaa (pv 9) Jac))) (fun _ _=>rfl)))
   (Jab (Jak (i:=11) JaD.nd rfl (Or.inl rfl) (Bal.ev W ⋯ rfl passF (Jaa (pe_ix ix_U (Jbh (hu1 I) (pv 1) (pv 10) (fun _ _=>rfl)) Jad (fun _ _=>rfl)) (Jaa (pe_ix ix_U (Jbh (hu1 I) (pv 1) (pv 8) (fun _ _=>rfl)) Jad (fun _ _=>rfl)) (Jaa (pe_un JeT Jad) Jac))) (he:=by exact Jaf rfl)))
   (Jab (Jak (i:=12) JaD.nd rfl (Or.inl rfl) (Bae.ev W ⋯ rfl passF (Jaa (pv 0) (Jaa (pe_op Ja6 Jad (pe_op JaI Jad (pv 4))) Jac)) (he:=by exact Jaf rfl)))
   (Jab (Jak (i:=13) JaD.nd rfl (Or.inl rfl) (pe_ix ix_U (Ja2 (Jaa Jad (Jaa Jad (Jaa (pe_op Jgw Jad Jad) Jac)))) (pe_op JaC (pe_op Jas (pv 6) Jad) Jad) (fun _ _=>rfl)))
   (Jab (Jak (i:=14) JaD.nd rfl (Or.inl rfl) (Bal.ev W ⋯ rfl passF (Jaa (pv 11) (Jaa (Bax.ev W ⋯ rfl passF (Jaa (pe_op JaC (pv 12) (pv 13)) (Jaa (pe_op Ja6 Jad (pe_op JaC (pe_op Jas (pv 6) Jad) Jad)) Jac)) (he:=by exact Jaf rfl)) (Jaa (pe_un JeT Jad) Jac))) (he:=by exact Jaf rfl)))
   (Jab (Jak (i:=15) JaD.nd rfl (Or.inl rfl) (Bal.ev W ⋯ rfl passF (Jaa (pv 11) (Jaa (Bax.ev W ⋯ rfl passF (Jaa (pe_op JaC (pe_op Jas (pv 12) Jad) (pv 13)) (Jaa (pe_op Ja6 Jad (pe_op JaC (pe_op Jas (pv 6) Jad) Jad)) Jac)) (he:=by exact Jaf rfl)) (Jaa Jad Jac))) (he:=by exact Jaf rfl)))
   (Jai (Ja4 (pe_bm PySem.F.plainAttrs_list PySem.F.slot_list_append PySem.F.type_list_append JaY (pv 3) (Jaa (JaH (Jaa (BaQ.ev W ⋯ rfl passF (Jaa (pv 4) (Jaa JbM (Jaa (pv 2) Jac))) (he:=by exact Jaf rfl)) (Jaa (pv 8) (Jaa (pv 10) (Jaa (pv 14) (Jaa (pv 15) Jac)))))) Jac) (hs:=by exact Jaf rfl))))))))))))))))
   (Jai (Jap (pv 3))))),?_⟩
 clear I;obtain ⟨hS,hl,b9,ed,hB,U,hM,hT,h7,k7,j8,k⟩:=h;have sl:(1000:Nat)<=sizeLine:=by decide
 have f0:(Str.ofString "g").cps=#[103]:=by decide
 have lk:=hB.length;have l5:(xs.map (·.1)).length=xs.length:=length_map ..;have k6:1<=xs.length:=by cases xs with | nil=>exact absurd rfl j8 | cons _ _=>simp
 show tSeq _ _ _ [some (.ref a),some (.ref sd),some (.int (st:Int)),none,none,none,none,none,none,none,none,none,none,none,none,none] H;nofun;refine ⟨len0,?_⟩;rename_i gl d6 k4 H H1 S1 e1;nofun;refine ⟨a,ns,1,rfl,hS.same S1,hl,by decide,by decide,fun c0=>?_⟩;nofun;repeat (refine And.intro (by first | exact JaU ⋯ | exact JaW ⋯ | exact JaV ⋯ | exact JaB ⋯ | exact Int.one_ne_zero | decide) ?_)
 have q0:=Mth.fm (x:=c0) (y:=7) ⋯;refine ⟨_,rfl,by ac_nf,by ac_nf,?_⟩;refine ForR.byN (fun i σ H'=>∃ (v4 v5 v6 v7 v8 v9 b6 c9 d2 b7 b8 b0:Option V) (gx:List V) (es:List (GD × List Str)),σ=[some (.ref a),some (.ref sd),some (.int (st:Int)),some (.ref gl),v4,v5,v6,v7,v8,v9,b6,c9,d2,b7,b8,b0]/\Same H H'/\H' gl=some (.lst gx)/\All2 (fun (e:GD × List Str) x=>TV K H' e.1.td x) es gx/\(∀ e∈es,GOQ ls xs e)/\(∀ (i:Nat) (e:GD × List Str),es[i]?=some e->e.1.nm=nmK 103 st i)/\es.length=i) ⟨none,none,none,none,none,none,none,none,none,none,none,none,[],[],rfl,S1,e1,rfl,(fun g hg=>by cases hg),(fun i g hi=>by cases hi),rfl⟩ ?_ ?_
 ·rintro i σ H3 hi ⟨v4,v5,v6,v7,v8,v9,b6,c9,d2,b7,b8,b0,gx,es,rfl,S3,eg,hX,b2,a8,c6⟩ N0 g5;have i6:i<6:=by ac_nf
  have f5:=S3 _ _ ed;have e0:=hB.mono (P':=SPN K H3) fun _ _ z=>z.sameT S3.t;rw [Int.zero_add];nofun;repeat (refine And.intro (by first | exact JaU ⋯ | exact JaW ⋯ | exact JaV ⋯ | exact JaB ⋯ | exact Int.one_ne_zero | decide) ?_)
  refine ⟨a,ns,_,rfl,hS.same S3,hl,by ac_nf,by ac_nf,fun k0=>?_⟩;nofun;repeat (refine And.intro (by first | exact JaU ⋯ | exact JaW ⋯ | exact JaV ⋯ | exact JaB ⋯ | exact Int.one_ne_zero | decide) ?_)
  (try ((with_reducible refine Nxt.go (by assumption) ?_);nofun))
  generalize ((k0*39373).fmod 2147483629).fdiv 37=mx;refine ⟨sd,kv,xs.map (·.1.f),rfl,f5,by rw [e0.1,map_map];rfl,by rw [length_map];ac_nf,fun fl o f6 a3=>?_⟩;generalize u4:upd H3 fl _=H4;nofun;have S4:=newS f6 u4;have e4:=newE u4;have c3:=S4 _ _ f5;have c4:=e0.mono (P':=SPN K H4) fun _ _ z=>z.sameT S4.t;have lo:o.length=xs.length:=by rw [a3.1.length_eq,length_map]
  nofun;refine ⟨_, .inl (SqL.of e4),?_⟩;try simpa only [length_map]
  refine ⟨by ac_nf,?_⟩;have qj:=Mth.fm (x:=mx) (y:=(o.length:Int)) ∅;obtain ⟨j,hj⟩:=Int.eq_ofNat_of_zero_le qj.1;rw [hj] at qj ⊢;have jl:j<o.length:=by ac_nf
  obtain ⟨s1,v,ef⟩:=mem_map.mp (a3.1.mem_iff.mp (List.getElem_mem jl));refine ixL (i:=j) (SqL.of e4) (by rw [List.getElem?_map,List.getElem?_eq_getElem jl];rfl) ?_;have ef:s1.1.f=o[j]:=ef;rw [<- ef];clear qj hj;nofun;obtain ⟨c,k5,i9,h5,d8,k8,w1,rfl,a6,i2⟩:=c4.some (z:=s1.1.f) (mem_map.mpr ⟨s1,v,rfl⟩);have j3:=JdE U i9 v h5;subst j3;refine ⟨fl,rfl, .inl ⟨⟨_,SqL.of e4⟩,Jcw.list (xs:=o.map V.str) (fun i ys H'=>H'=H4/\∃ R:List Str,ys=R.map V.str/\R.length<=i/\(∀ f∈R, ∃ t∈xs,t.1.f=f/\t.1.f≠c.1.f/\t.1.r=c.1.r)/\(∀ t∈xs,t.1.f∈o.take i->t.1.f≠c.1.f->t.1.r=c.1.r->t.1.f∈R)) ⟨rfl,[],rfl,Nat.zero_le _,(fun f hf=>by cases hf),fun t _ h=>by simp at h⟩ (fun i ys H' hi z=>by
   obtain ⟨rfl,R,rfl,hf,_⟩:=z;rw [length_map] at hi ⊢;exact ⟨SqL.of e4,by ac_nf⟩) ?_ ?_⟩⟩
  ·rintro m y ys H5 hy ⟨rfl,R,rfl,f7,a2,Y⟩;have lm:=(List.getElem?_eq_some_iff.mp hy).1;rw [length_map] at lm;rw [List.getElem?_map,List.getElem?_eq_getElem lm] at hy;have hy:y=.str o[m]:=(Option.some.inj hy).symm;subst hy;obtain ⟨t,L,X⟩:=mem_map.mp (a3.1.mem_iff.mp (List.getElem_mem lm));have X:t.1.f=o[m]:=X;rw [<- X];obtain ⟨d,vt,b5,c5,b4,h0,wt,rfl,S,f1⟩:=c4.some (z:=t.1.f) (mem_map.mpr ⟨t,L,rfl⟩);have et:=JdE U b5 L c5;subst et;have a5:∀ (u:SpD × List Str),u∈xs->u.1.f∈o.take (m+1)->u.1.f∈o.take m\/u=d:=fun u I h=>by
    rw [take_succ,List.getElem?_eq_getElem lm] at h;rcases mem_append.mp h with h | h
    ·exact .inl h
    ·have : u.1.f=o[m]:=by simpa using h
     exact .inr (JdE U I L (this.trans X.symm))
   simpa only [length_singleton,length_cons,length_nil,List.replicate,JaF,map_cons,map_nil,Option.join_some];have a7:(¬ (d.1.f≠c.1.f/\d.1.r=c.1.r))->∃ fs_1:List Str,R.map V.str=fs_1.map V.str/\fs_1.length<=m+1/\(∀ f∈fs_1, ∃ t∈xs,t.1.f=f/\t.1.f≠c.1.f/\t.1.r=c.1.r)/\∀ t∈xs,t.1.f∈o.take (m+1)->t.1.f≠c.1.f->t.1.r=c.1.r->t.1.f∈fs_1:=fun g3=>⟨R,rfl,by ac_nf,a2,fun u I hk M N=>by
    rcases a5 u I hk with h | rfl
    ·exact Y u I h M N
    ·exact absurd ⟨M,N⟩ g3⟩
   by_cases c1:d.1.f=c.1.f
   ·rw [if_neg (by simpa using c1)];nofun;exact a7 fun h=>h.1 c1
   ·rw [if_pos (by simpa using c1)];nofun;refine ⟨sd,_,rfl,by rw [<- b4];exact DGet.k (k:=Sum.inr d.1.f) c3,?_⟩;refine ixT (i:=0) S rfl ?_;refine ⟨sd,_,rfl,by rw [<- d8];exact DGet.k (k:=Sum.inr c.1.f) c3,?_⟩;refine ixT (i:=0) a6 rfl ?_;nofun;by_cases c2:d.1.r=c.1.r
    ·rw [if_pos (by simpa using c2)];nofun;refine ⟨R++[d.1.f],by simp,by simp;ac_nf,fun f hf=>?_,fun u I hk M N=>?_⟩
     ·rcases mem_append.mp hf with h | h
      ·exact a2 f h
      ·rw [mem_singleton.mp h];exact ⟨d,L,rfl,c1,c2⟩
     ·rcases a5 u I hk with h | rfl
      ·exact mem_append.mpr (.inl (Y u I h M N))
      ·simp
    ·rw [if_neg (by simpa using c2)];nofun;exact a7 fun h=>c2 h.2
  ·rintro ys H5 ⟨rfl,R,rfl,f7,a2,Y⟩;have l0:1<=R.length:=by
    obtain ⟨t0,i1,M,N⟩:=hT c.1 (mem_map.mpr ⟨c,v,rfl⟩);obtain ⟨t,L,rfl⟩:=mem_map.mp i1;have:=Y t L (by rw [take_of_length_le (by rw [length_map];ac_nf)];exact a3.1.mem_iff.mpr (mem_map.mpr ⟨t,L,rfl⟩)) M N;cases R with
    | nil=>cases this
    | cons _ _=>simp
   rw [length_map] at f7;rename_i l1 j0 j9 H5 H6 S6 e6;nofun;nofun;repeat (refine And.intro (by first | exact JaU ⋯ | exact JaW ⋯ | exact JaV ⋯ | exact JaB ⋯ | exact Int.one_ne_zero | decide) ?_)
   refine ⟨_, .inl (SqL.of e6),?_⟩;try simpa only [length_map]
   refine ⟨by ac_nf,?_⟩;have qk:=Mth.fm (x:=mx.fdiv 64) (y:=(R.length:Int)) ∅;obtain ⟨j2,g2⟩:=Int.eq_ofNat_of_zero_le qk.1;rw [g2] at qk ⊢;have f8:j2<R.length:=by ac_nf
   obtain ⟨t,L,c5,g1,i3⟩:=a2 _ (List.getElem_mem f8);refine ixL (i:=j2) (SqL.of e6) (by rw [List.getElem?_map,List.getElem?_eq_getElem f8];rfl) ?_;rw [<- c5];obtain ⟨d,vt,b5,f9,b4,h0,wt,rfl,S,f1⟩:=c4.some (z:=t.1.f) (mem_map.mpr ⟨t,L,rfl⟩);have et:=JdE U b5 L f9;subst et;nofun;have f4:=S6 _ _ c3;refine ⟨sd,_,rfl,by rw [<- b4];exact DGet.k (k:=Sum.inr d.1.f) f4,?_⟩;refine ixT (i:=1) (S.same S6) rfl ?_;refine ⟨sd,_,rfl,by rw [<- d8];exact DGet.k (k:=Sum.inr c.1.f) f4,?_⟩;refine ixT (i:=1) (a6.same S6) rfl ?_;nofun;have tb:FB 174 33 d.1.p:=(hM.fb d L).mono ∅ ∅;have sb:FB 174 33 c.1.p:=(hM.fb c v).mono ∅ ∅;refine ⟨wt,w1,_,d.1.p,c.1.p,false,rfl,rfl,f1.same S6,i2.same S6,tb.w.mono ∅ ∅,sb.w.mono ∅ ∅,fun mp H7 S7 e7=>?_⟩;have g8:=U.pl_at (mem_map.mpr ⟨d,L,rfl⟩);have h3:=U.pl_at (mem_map.mpr ⟨c,v,rfl⟩);have mb:FB 208 66 (addF d.1.p (sgn false c.1.p)):=FB.add (n:=207) (m:=66) tb sb.neg ⋯ ⋯ ⋯;have g4:∀ (g:GD),g.st=c.1.f->g.en=d.1.f->mid (spOf (xs.map (·.1))) g=addF d.1.p (sgn false c.1.p):=fun g M N=>by
    unfold mid;rw [M,N,g8,h3];rfl
   generalize addF d.1.p (sgn false c.1.p)=m at *;nofun;repeat (refine And.intro (by first | exact JaU ⋯ | exact JaW ⋯ | exact JaV ⋯ | exact JaB ⋯ | exact Int.one_ne_zero | decide) ?_)
   have f3:=S4.trans (S6.trans S7);refine ⟨a,ns,_,rfl,(hS.same S3).same f3,hl,by ac_nf,by ac_nf,fun l=>?_⟩;nofun;repeat (refine And.intro (by first | exact JaU ⋯ | exact JaW ⋯ | exact JaV ⋯ | exact JaB ⋯ | exact Int.one_ne_zero | decide) ?_)
   rename_i l2 i0 i7 H7 l3 c8 h6;nofun;repeat (refine And.intro (by first | exact JaU ⋯ | exact JaW ⋯ | exact JaV ⋯ | exact JaB ⋯ | exact Int.one_ne_zero | decide) ?_)
   have q3:=Mth.fm (x:=mx.fdiv 256) (y:=3) ⋯;obtain ⟨n3,d5⟩:=Int.eq_ofNat_of_zero_le q3.1;rw [d5] at q3 ⊢;obtain ⟨J,j4,o1,o2⟩:∃ J:Int,[V.int 23, .int 23, .int 1000000000000000000000000000000][n3]?=some (.int J)/\1<=J/\J<=1000000000000000000000000000000:=Jlx ∅;refine ixL (i:=n3) (SqL.of h6) j4 ?_;clear q3 d5;nofun;have qx:=Mth.fm (x:=l) (y:=J) ∅;have qy:=Mth.fm (x:=l.fdiv 23) (y:=J) ∅;have qd:=Mth.fm (x:=mx.fdiv 1024) (y:=5) ⋯;have j7:=Mth.fm (x:=mx.fdiv 8192) (y:=5) ⋯;refine ⟨by ac_nf,?_⟩;repeat (refine And.intro (by first | exact JaU ⋯ | exact JaW ⋯ | exact JaV ⋯ | exact JaB ⋯ | exact Int.one_ne_zero | decide) ?_)
   refine ⟨_,_,rfl,by ac_nf, .lit ∅ ∅,fun bp H8 S8 e8=>?_⟩;have bb:FB 101 3 (Mth.top (l.fmod J) (1+(mx.fdiv 1024).fmod 5),Mth.bot (l.fmod J) (1+(mx.fdiv 1024).fmod 5)):=FB.low ∅ (.lit ∅ ∅) (.lit ∅ ∅);have ab:FB 101 3 (Mth.top ((l.fdiv 23).fmod J) (1+(mx.fdiv 8192).fmod 5),Mth.bot ((l.fdiv 23).fmod J) (1+(mx.fdiv 8192).fmod 5)):=FB.low ∅ (.lit ∅ ∅) (.lit ∅ ∅);have nB:0<=vl (Mth.top (l.fmod J) (1+(mx.fdiv 1024).fmod 5),Mth.bot (l.fmod J) (1+(mx.fdiv 1024).fmod 5)):=(vl_nn bb.b1).mpr (JiL qx.1 ∅);have nA:0<=vl (Mth.top ((l.fdiv 23).fmod J) (1+(mx.fdiv 8192).fmod 5),Mth.bot ((l.fdiv 23).fmod J) (1+(mx.fdiv 8192).fmod 5)):=(vl_nn ab.b1).mpr (JiL qy.1 ∅);obtain ⟨B,d4⟩:∃ B:Fr2,B=(Mth.top (l.fmod J) (1+(mx.fdiv 1024).fmod 5),Mth.bot (l.fmod J) (1+(mx.fdiv 1024).fmod 5)):=⟨_,rfl⟩;obtain ⟨A,d9⟩:∃ A:Fr2,A=(Mth.top ((l.fdiv 23).fmod J) (1+(mx.fdiv 8192).fmod 5),Mth.bot ((l.fdiv 23).fmod J) (1+(mx.fdiv 8192).fmod 5)):=⟨_,rfl⟩;rw [<- d4] at bb nB;rw [<- d9] at ab nA;have fB:=bb;have fA:=ab;have g6:0<=vl A+vl B:=by grind
   have eb:H8 bp=some (.tup [.int B.1, .int B.2]):=by rw [e8,d4]
   nofun;refine ⟨.ref mp, .ref bp,_,m,B,false,rfl,rfl,FrV.of (S8 _ _ (c8 _ _ e7)),FrV.of eb,mb.w.mono ⋯ ⋯,fB.w.mono ⋯ ⋯,fun lp H9 S9 e9=>?_⟩;nofun;repeat (refine And.intro (by first | exact JaU ⋯ | exact JaW ⋯ | exact JaV ⋯ | exact JaB ⋯ | exact Int.one_ne_zero | decide) ?_)
   refine ⟨by ac_nf,?_⟩;nofun;repeat (refine And.intro (by first | exact JaU ⋯ | exact JaW ⋯ | exact JaV ⋯ | exact JaB ⋯ | exact Int.one_ne_zero | decide) ?_)
   refine ⟨_,_,rfl,by ac_nf, .lit ∅ ∅,fun ap h9 c7 j1=>?_⟩;have ea:h9 ap=some (.tup [.int A.1, .int A.2]):=by rw [j1,d9]
   clear qx qy qd j7 o1 o2;nofun;refine ⟨.ref mp, .ref ap,_,m,A,true,rfl,rfl,FrV.of (c7 _ _ (S9 _ _ (S8 _ _ (c8 _ _ e7)))),FrV.of ea,mb.w.mono ⋯ ⋯,fA.w.mono ⋯ ⋯,fun hp i5 d7 g9=>?_⟩;have a4:=f3.trans (c8.trans (S8.trans (S9.trans (c7.trans d7))));have k9:=hX.length;nofun;refine ⟨.inl ⟨rfl,_,SqL.of (a4 _ _ eg)⟩,?_⟩;refine ⟨_,_,_,103,i,rfl,f0,rfl,by ac_nf,by ac_nf,by ac_nf,?_⟩;rw [Int.toNat_natCast];nofun;refine ⟨len5,?_⟩;rename_i gt k2 k3 i5 e2 d1 j6;nofun;have O:=a4.trans d1;refine ⟨gl,gx,_,rfl,rfl,O _ _ eg,by ac_nf,?_⟩;generalize a9:upd e2 gl _=a0;nofun;have g7:a0 gl=some (.lst (gx++[.ref gt])):=putE a9;have a1:SameT e2 a0:=SameT.put a9 (O _ _ eg) rfl;have e5:SameT H3 a0:=O.t.trans a1;nofun;have sy:=JlH (hM.nd c v) (hM.nd d L);obtain ⟨Z,hZ⟩:∃ Z,Z=c.2.filter (fun n=>decide (n∉d.2))++d.2.filter (fun n=>decide (n∉c.2)):=⟨_,rfl⟩;rw [<- hZ] at sy;have d3:FB 212 69 (addF m (sgn false B)):=FB.add (n:=211) (m:=69) mb fB.neg ⋯ ⋯ ⋯;have d0:FB 212 69 (addF m (sgn true A)):=FB.add (n:=211) (m:=69) mb fA ⋯ ⋯ ⋯;have b3:nameS (nmK 103 st i)=true:=JdM ⋯ b9 ∅;have k1:c.1.f∈(xs.map (·.1)).map (·.f):=mem_map.mpr ⟨c.1,mem_map.mpr ⟨c,v,rfl⟩,rfl⟩;have h8:d.1.f∈(xs.map (·.1)).map (·.f):=mem_map.mpr ⟨d.1,mem_map.mpr ⟨d,L,rfl⟩,rfl⟩;obtain ⟨G,q⟩:∃ G:GD,G=⟨nmK 103 st i,c.1.f,d.1.f,addF m (sgn false B),addF m (sgn true A)⟩:=⟨_,rfl⟩;have i8:TOk G.td:=by
    rw [q];exact ⟨b3,U.fname b9 ∅ (mem_map.mpr ⟨c,v,rfl⟩),U.fname b9 ∅ (mem_map.mpr ⟨d,L,rfl⟩),Ne.symm g1,fun u I=>by cases I;exact (d3.mono (C:=600) (D:=600) ⋯ ⋯).ok ⋯ ⋯,fun u I=>by cases I;exact (d0.mono (C:=600) (D:=600) ⋯ ⋯).ok ⋯ ⋯,hi_lo mb fA fB g6⟩
   have e3:=g4 G (by rw [q]) (by rw [q]);have f2:roomF (spOf (xs.map (·.1))) G=if lessF B A then B else A:=by
    unfold roomF;rw [e3,q];have M:addF (addF m (sgn true A)) (negF m)=A:=Jj1 mb fA;have N:addF m (negF (addF m (sgn false B)))=B:=Jj2 mb fB;show (if lessF (addF (addF m (sgn true A)) (negF m)) (addF m (negF (addF m (sgn false B)))) then addF (addF m (sgn true A)) (negF m) else addF m (negF (addF m (sgn false B))))=_;rw [M,N];exact Jjn fA fB
   have j5:GOQ ls xs (G,Z):=by
    refine ⟨i8,?_,⟨sy.1,fun x hx y hy M N n=>?_⟩,?_,?_,?_,?_,?_,fun n hn=>?_⟩
    ·rw [q];exact U.joined (mem_map.mpr ⟨c,v,rfl⟩) (mem_map.mpr ⟨d,L,rfl⟩) i3.symm
    ·have M:x.1.f=c.1.f:=by rw [q] at M;exact M
     have N:y.1.f=d.1.f:=by rw [q] at N;exact N
     have ex:=JdE U hx v M;have ey:=JdE U hy L N;rw [ex,ey];exact sy.2 n
    ·show FB 101 3 (roomF _ G);rw [f2];split
     ·exact fB
     ·exact fA
    ·show 0<=vl (roomF _ G);rw [f2];split
     ·exact nB
     ·exact nA
    ·rw [q];exact ⟨⟨d3.b1,d3.s2.mono ⋯⟩,d0.b1,d0.s2.mono ⋯⟩
    ·rw [q];exact k1
    ·rw [q];exact h8
    ·have : n∈Z:=hn;rw [hZ] at this;rcases mem_append.mp this with h | h
     ·exact hM.sub c v n (mem_filter.mp h).1
     ·exact hM.sub d L n (mem_filter.mp h).1
   refine g5 _ _ ⟨_,_,_,_,_,_,_,_,_,_,_,_,gx++[.ref gt],es++[(G,Z)],rfl,fun b w h=>by rw [<- a9,Jag (Jah h d6)];exact O _ _ (S3 _ _ h),g7,?_,?_,?_,by simp [c6]⟩
   ·have g0:All2 (fun (e:GD × List Str) x=>TV K a0 e.1.td x) es gx:=hX.mono fun a x (z:TV K H3 a.1.td x)=>TV.sameT e5 z;refine g0.append (.one ?_);rw [q];exact ⟨gt, .ref lp, .ref hp,rfl,SqT.of (a1 _ _ rfl j6),FrV.of (a1 _ _ rfl (d1 _ _ (d7 _ _ (c7 _ _ e9)))),FrV.of (a1 _ _ rfl (d1 _ _ g9))⟩
   ·intro e he;rcases mem_append.mp he with h' | h'
    ·exact b2 e h'
    ·rw [mem_singleton.mp h'];exact j5
   ·intro j' e i4;rcases Jbn i4 with h' | ⟨rfl,rfl⟩
    ·exact a8 j' e h'
    ·rw [c6,q]
 ·rintro σ H3 ⟨v4,v5,v6,v7,v8,v9,b6,c9,d2,b7,b8,b0,gx,es,rfl,S3,eg,hX,b2,a8,c6⟩;nofun;exact k gl gx es H3 S3 eg hX b2 a8 ∅
abbrev BaR:Stmt:=top 50
theorem JbI:Jan ["thing","told","part","row"] ["thing"] (Jae BaR):=by bv_decide
def Jcs (K:W.Frag) (Ad:Adr):Sp:=fun vs H Q E=>∃ (x:Addr) (ls:List PD) (es:List (GD × List Str)) (pl:Str->Fr2),vs=[.ref x]/\TK K Ad H x ls (es.map (·.1))/\SHC ls es pl/\(∀ e∈es,0<=vl (roomF pl e.1))/\(∀ p∈ls,FB 133 4 p.sz/\FB 100 6 p.mo)/\∀ (tl:Addr) (zs:List V) (rs:List ShD) (H':Hp),Same H H'->H tl=none->H' tl=some (.lst zs)->All2 (fun (g:GD) v=>TV K H' g.td v) (tiL ls rs) zs->ShR ls es pl rs->Q (.ref tl) H'
theorem Jff (F:FunD K "share_ties" "share_ties" BaR dV f fd) (T:Txt K mg Ad) (Bcz:Cal P w K mg base 9 "share" ["thing"] [] (JdO K Ad)) (BaH:MCal P w K mg base 2 "parts" (Ja8 Ad) ["self"] (JaZ K Ad)) (BaY:Cal P w K mg base 3 "minus" ["one","other"] [] (JcT K)) (Bcr:Cal P w K mg base 2 "plus" ["one","other"] [] (Jes K)):FnOk P w K mg base (CX1 P w) 10 f fd ["thing"] (Jcs K Ad):=by
 refine F.okx JbI (fun R H Q E h=>?_) (fun b7 A a2 s H R Q E G h=>?_)
 ·obtain ⟨x,n,es,pl,rfl,_⟩:=h;rfl
 obtain ⟨x,n,es,pl,rfl,h⟩:=h;refine ⟨_,(Jab (Jak (i:=1) JbI.nd rfl (Or.inl rfl) (Ja2 Jac))
   (Jab (Ja3 PassesOwn.leaving rfl (Jlv rfl T.Bee Jk1 (Jaa (BaH.m0 G ⋯ pass1 (pv 0)) (Jaa (Bcz.ev G ⋯ rfl pass1 (Jaa (pv 0) Jac) (he:=by exact Jaf rfl)) Jac))) (JfU rfl (Ja7 (Jar (i:=2) JbI.nd rfl (Or.inl rfl)) (Ja7 (Jar (i:=3) JbI.nd rfl (Or.inl rfl)) Jeh)))
   (Jai (Ja4 (pe_bm PySem.F.plainAttrs_list PySem.F.slot_list_append PySem.F.type_list_append JaY (pv 1) (Jaa (JaH (Jaa (pe_ix ix_U (pv 2) Jad (fun _ _=>rfl)) (Jaa (pe_ix ix_U (pv 2) Jad (fun _ _=>rfl)) (Jaa (pe_ix ix_U (pv 2) Jad (fun _ _=>rfl)) (Jaa (BaY.ev G ⋯ rfl pass1 (Jaa (pe_ix ix_U (pv 2) Jad (fun _ _=>rfl)) (Jaa (pe_ix ix_U (pv 3) Jad (fun _ _=>rfl)) Jac)) (he:=by exact Jaf rfl)) (Jaa (Bcr.ev G ⋯ rfl pass1 (Jaa (pe_ix ix_U (pv 2) Jad (fun _ _=>rfl)) (Jaa (pe_ix ix_U (pv 3) Jad (fun _ _=>rfl)) Jac)) (he:=by exact Jaf rfl)) Jac)))))) Jac) (hs:=by exact Jaf rfl)))))
   (Jai (Jap (pv 1))))),?_⟩
 obtain ⟨ht,hc,a9,Z,k⟩:=h;obtain ⟨dx,d1,d2,d3,k1,k2,k3,hx,_⟩:=id ht;have sl:(1000:Nat)<=sizeLine:=by decide
 have b5:=hc.l12;have l7:=hc.l7;show tSeq _ _ _ [some (.ref x),none,none,none] H;nofun;refine ⟨len0,?_⟩;rename_i C B b4 H H1 S1 e1;nofun;nofun;refine ⟨x,_,dx,_,rfl,S1 _ _ hx,rfl,rfl,x,n,_,rfl,ht.same S1,by ac_nf,fun l ys H2 S2 O e2 hY=>?_⟩;nofun;refine ⟨x,n,es,pl,rfl,(ht.same S1).same S2,hc,a9,fun Y zs rs H3 J S e3 hZ hR=>?_⟩;have hk:=hR.k hc (fun p hp=>(Z p hp).2);have lY:=hY.length;have lZ:=hZ.length;have b6:rs.length=n.length:=hR.len;have a1:=S1.trans (S2.trans J);have a4:l≠C:=fun z=>by rw [z,e1] at O;cases O
 have a6:Y≠C:=fun z=>by rw [z,S2 _ _ e1] at S;cases S
 nofun;refine ⟨l,Y,rfl,⟨ys,SqL.of (J _ _ e2)⟩,⟨zs,SqL.of e3⟩,ForJ.zip (xs:=ys) (ys:=zs) (fun i σ U=>i<=n.length/\∃ (v2 v3:Option V) (xs:List V),σ=[some (.ref x),some (.ref C),v2,v3]/\(∀ c u,c≠C->H3 c=some u->U c=some u)/\SameT H3 U/\U C=some (.lst xs)/\All2 (fun (g:GD) v=>TV K U g.td v) (((n.zip rs).take i).map fun e=>tiG e.1 e.2) xs) ⟨Nat.zero_le _,none,none,[],rfl,fun _ _ _ h=>h,(Same.refl _).t,J _ _ (S2 _ _ e1),rfl⟩ (fun i σ U q=>by
  obtain ⟨_,_,_,_,_,q,_⟩:=q;exact ⟨SqL.of (q _ _ a4 (J _ _ e2)),SqL.of (q _ _ a6 e3)⟩) ?_ ?_⟩
 ·rintro i y z σ L pp H5 hy hz ⟨hi,v2,v3,xs,rfl,ho,hT,I,W⟩ hn S5 e5;have li:=(List.getElem?_eq_some_iff.mp hy).1;obtain ⟨p,hp,a_,vz,vm,rfl,hb,b0,hm⟩:=hY.at_ hy;obtain ⟨r,G,pr,R,tt,rfl,a3,a8,b8⟩:=hZ.at_ hz;have m:=(Z p (List.mem_of_getElem? hp)).1;have D:=hk.fb r (List.mem_of_getElem? G);have d:SameT H3 H5:=hT.trans S5.t;have a:=(hb.same J).sameT d;have o:=a3.sameT d;have fz:FrV K H5 vz p.sz.1 p.sz.2:=FrV.sameT d (FrV.same J b0);have fs:FrV K H5 R r.sl.1 r.sl.2:=FrV.sameT d a8;have lX:=W.length;rw [length_map,length_take,List.length_zip] at lX;have b:=S5 _ _ I;nofun;refine ⟨pp,_,rfl,SqT.of e5,rfl,?_⟩;nofun;refine ⟨.inl ⟨rfl,_,SqL.of b⟩,?_⟩;refine ixT (i:=0) a rfl ?_;refine ixT (i:=1) a rfl ?_;refine ixT (i:=2) a rfl ?_;refine ixT (i:=3) a rfl ?_;refine ixT (i:=1) o rfl ?_;refine ⟨vz,R,p.sz.1,p.sz.2,r.sl.1,r.sl.2,rfl,fz,fs,m.s1.mono ⋯,m.s2.mono ⋯,D.s1.mono ⋯,D.s2.mono ⋯,m.b1,D.b1,m.g1,D.g1,fun m1 H6 N e6=>?_⟩;nofun;refine ixT (i:=3) (a.same N) rfl ?_;refine ixT (i:=1) (o.same N) rfl ?_;refine ⟨vz,R,p.sz.1,p.sz.2,r.sl.1,r.sl.2,rfl,fz.same N,fs.same N,m.s1.mono ⋯,m.s2.mono ⋯,D.s1.mono ⋯,D.s2.mono ⋯,m.b1,D.b1,m.g1,D.g1,fun m2 H7 S7 e7=>?_⟩;have f1:FrV K H7 (.ref m1) (addF p.sz (negF r.sl)).1 (addF p.sz (negF r.sl)).2:=by rw [JkR];exact FrV.of (S7 _ _ e6)
  have f2:FrV K H7 (.ref m2) (addF p.sz r.sl).1 (addF p.sz r.sl).2:=FrV.of e7;nofun;refine ⟨len5,?_⟩;rename_i tp b2 b3 H7 H8 S8 e8;nofun;have j:=N.trans (S7.trans S8);refine ⟨C,xs,_,rfl,rfl,j _ _ b,by ac_nf,?_⟩;generalize u9:upd H8 C _=H9;nofun;have e9:=putE u9;have T9:SameT H8 H9:=SameT.put u9 (j _ _ b) rfl;have M:SameT L H9:=S5.t.trans (j.t.trans T9);have a7:(n.zip rs)[i]?=some (p,r):=List.getElem?_zip_eq_some.mpr ⟨hp,G⟩;nofun;refine ⟨by ac_nf,_,_,xs++[.ref tp],rfl,fun c u X h=>by rw [<- u9,Jag X];exact j _ _ (S5 _ _ (ho c u X h)),hT.trans M,e9,?_⟩;rw [take_succ,a7,map_append];have a0:All2 (fun (g:GD) v=>TV K H9 g.td v) (((n.zip rs).take i).map fun e=>tiG e.1 e.2) xs:=W.mono fun g v (z:TV K L g.td v)=>TV.sameT M z;exact a0.append (.one ⟨tp, .ref m1, .ref m2,rfl,SqT.of (T9 _ _ rfl e8),(f1.same S8).sameT T9,(f2.same S8).sameT T9⟩)
 ·rintro σ L ⟨hi,v2,v3,xs,rfl,ho,hT,I,W⟩;rw [take_of_length_le (by rw [List.length_zip];ac_nf)] at W;have a5:Same H L:=fun c u h=>ho c u (Jah h B) (a1 _ _ h);nofun;exact k C xs rs L a5 B I W hR
abbrev BaS:Stmt:=top 68
theorem Jbl:Jan ["_law_parts_here","_law_cell_here","_law_left","_law_found","_law_k"] ["_law_parts_here","_law_cell_here"] (Jae BaS):=by bv_decide
def Jcq (K:W.Frag):Sp:=fun vs H Q E=>∃ (c:Addr) (n:Int) (px:List V) (ls:List PD),vs=[.ref c, .int n]/\SqL K H c px/\All2 (PDV K H) ls px/\ls.length<=8/\∀ l ys ks H',Same H H'->H' l=some (.lst ys)->All2 (PDV K H') ks ys->ks.Perm ls->Q (.ref l) H'
theorem Jfd (F:FunD K "_law_turned" "_law_turned" BaS dV f fd) (T:Txt K mg Ad)  : FnOk P w K mg base (CX1 P w) 1 f fd ["_law_parts_here","_law_cell_here"] (Jcq K):=by
 refine F.okn Jbl (by subst_eqs) (fun b0 A a2 s H vs Q E hr h=>?_)
 obtain ⟨c,n,I,ls,rfl,h⟩:=h;refine ⟨_,(Jab (Jak (i:=2) Jbl.nd rfl (Or.inl rfl) (Jde JeH rfl T.BdG JeW (Jaa (pv 0) Jac)))
   (Jab (Jak (i:=3) Jbl.nd rfl (Or.inl rfl) (Ja2 Jac))
   (Jab (Ja3 PassesOwn.never rfl (Jdg rfl T.BcD (Jaa (pe_op JaI (Jat Ja5 rfl T.BbI Jbr (Jaa (pv 0) Jac)) (pe_op JaC (pv 1) Jad)) Jac)) (Jar (i:=4) Jbl.nd rfl (Or.inl rfl))
   (Jab (Jak (i:=1) Jbl.nd rfl (Or.inl rfl) (pe_op JaC (pe_op Ja6 (pe_op JaI (pv 1) Jad) Jad) Jad))
   (Jai (Ja4 (pe_bm PySem.F.plainAttrs_list PySem.F.slot_list_append PySem.F.type_list_append JaY (pv 3) (Jaa (pe_bm PySem.F.plainAttrs_list PySem.F.slot_list_pop PySem.F.type_list_pop Ji4 (pv 2) (Jaa (pe_op JaC (pe_op Jas (pv 1) Jad) (Jat Ja5 rfl T.BbI Jbr (Jaa (pv 2) Jac))) Jac)) Jac) (hs:=by exact Jaf rfl))))))
   (Jai (Jap (pe_op Ja6 (pv 3) (pv 2))))))),?_⟩
 obtain ⟨hC,hP,h8,k⟩:=h;have sl:(1000:Nat)<=sizeLine:=by decide
 have lp:=hP.length;show tSeq _ _ _ [some (.ref c),some (.int n),none,none,none] H;nofun;refine ⟨c,I,rfl, .inl hC,?_⟩;rename_i J N a5 H H1 S1 e1;nofun;nofun;refine ⟨len0,?_⟩;rename_i fd g a6 H1 H2 S2 e2;nofun;nofun;have O:J≠fd:=fun z=>by rw [z] at e1;rw [e1] at g;cases g
 have M:=JdV S1 g;refine ⟨_, .inl ((hC.same S1).same S2),?_⟩;nofun;repeat (refine And.intro (by first | exact JaU ⋯ | exact JaW ⋯ | exact JaV ⋯ | exact JaB ⋯ | exact Int.one_ne_zero | decide) ?_)
 have q2:=Mth.fm (x:=n) (y:=2) ⋯;refine ⟨Jh5 (.lit ∅ ∅),?_⟩;obtain ⟨tn,L,a7⟩:∃ tn:Nat,(I.length:Int)*n.fmod 2=(tn:Int)/\tn<=I.length:=by
  rcases (by ac_nf:n.fmod 2=0\/n.fmod 2=1) with h | h
  ·exact ⟨0,by rw [h];simp,Nat.zero_le _⟩
  ·exact ⟨I.length,by rw [h];simp,Nat.le_refl _⟩
 rw [L];clear L q2;refine ⟨_,rfl,by ac_nf,by ac_nf,?_⟩;refine ForR.byN (fun i σ U=>∃ (m:Int) (v4:Option V) (d o:List V) (e r:List PD),σ=[some (.ref c),some (.int m),some (.ref J),some (.ref fd),v4]/\Same H U/\U J=some (.lst d)/\U fd=some (.lst o)/\All2 (PDV K U) e d/\All2 (PDV K U) r o/\(r++e).Perm ls/\r.length=i) ⟨n,none,I,[],ls,[],rfl,S1.trans S2,S2 _ _ e1,e2,hP.mono (fun _ _ z=>z.sameT (S1.trans S2).t),rfl,List.Perm.refl _,rfl⟩ ?_ ?_
 ·rintro i σ H3 hi ⟨m,v4,d,o,e,r,rfl,S3,G,ef,D,Y,R,W⟩ N0 a1;have lX:=D.length;have lY:=Y.length;have B:=R.length_eq;rw [length_append] at B;have x1:1<=d.length:=by ac_nf
  nofun;repeat (refine And.intro (by first | exact JaU ⋯ | exact JaW ⋯ | exact JaV ⋯ | exact JaB ⋯ | exact Int.one_ne_zero | decide) ?_)
  (try ((with_reducible refine Nxt.go (by assumption) ?_);nofun))
  refine ⟨.inl ⟨rfl,_,SqL.of ef⟩,?_⟩;refine ⟨.inl ⟨rfl,_,SqL.of G⟩,?_⟩;nofun;repeat (refine And.intro (by first | exact JaU ⋯ | exact JaW ⋯ | exact JaV ⋯ | exact JaB ⋯ | exact Int.one_ne_zero | decide) ?_)
  refine ⟨_, .inl (SqL.of G),?_⟩;nofun;refine ⟨by ac_nf,?_⟩;generalize (((m*48271+11).fmod 2147483647).fdiv 37)=z;have qz:=Mth.fm (x:=z) (y:=(d.length:Int)) ∅;obtain ⟨j,hj⟩:=Int.eq_ofNat_of_zero_le qz.1;rw [hj] at qz ⊢;have jl:j<d.length:=by ac_nf
  obtain ⟨p,Z,pv⟩:=D.at_ (List.getElem?_eq_getElem jl);nofun;refine ⟨J,d,(j:Int),j,d[j],rfl,rfl,G,by ac_nf,by ac_nf,JlG jl,List.getElem?_eq_getElem jl,?_⟩;generalize u4:upd H3 J _=v;nofun;have e4:=putE u4;have T4:SameT H3 v:=SameT.put u4 G rfl;have X:v fd=some (.lst o):=by rw [<- u4,Jag (Ne.symm O)];exact ef
  nofun;refine ⟨fd,o,_,rfl,rfl,X,by ac_nf,?_⟩;generalize u5:upd v fd _=H5;nofun;have e5:=putE u5;have T5:SameT v H5:=SameT.put u5 X rfl;have C:=T4.trans T5;have S:All2 (PDV K H5) e d:=D.mono fun _ _ z=>z.sameT C;have a0:All2 (PDV K H5) r o:=Y.mono fun _ _ z=>z.sameT C;nofun;refine a1 _ _ ⟨_,_,d.eraseIdx j,o++[d[j]],e.eraseIdx j,r++[p],rfl,fun b u h=>by rw [<- u5,Jag (Jah h M), <- u4,Jag (Jah h N)];exact S3 _ _ h,by rw [<- u5,Jag O];exact e4,e5,?_,a0.append (.one (pv.sameT C)),?_,by simp [W]⟩
  ·rw [List.eraseIdx_eq_take_drop_succ,List.eraseIdx_eq_take_drop_succ];exact (S.take j).append (S.drop (j+1))
  ·refine List.Perm.trans ?_ R;rw [List.append_assoc,List.eraseIdx_eq_take_drop_succ];refine List.Perm.append_left r ?_;have jk:j<e.length:=by ac_nf
   have a4:e[j]=p:=by rw [List.getElem?_eq_getElem jk] at Z;exact Option.some.inj Z
   have a3:e=e.take j++p::e.drop (j+1):=by rw [<- a4,List.getElem_cons_drop jk,List.take_append_drop]
   have:=(List.perm_middle (a:=p) (l₁:=e.take j) (l₂:=e.drop (j+1))).symm;exact this.trans (by rw [<- a3])
 ·rintro σ H3 ⟨m,v4,d,o,e,r,rfl,S3,G,ef,D,Y,R,W⟩;have lX:=D.length;have lY:=Y.length;have B:=R.length_eq;rw [length_append] at B;nofun;refine .inl ⟨fd,J,o,d,rfl,rfl,ef,G,by ac_nf,?_⟩;rename_i q a9 a8 H3 v S4 e4;nofun;nofun;exact k q (o++d) (r++e) v (S3.trans S4) e4 ((Y.mono (P':=PDV K v) fun _ _ z=>z.sameT S4.t).append (D.mono (P':=PDV K v) fun _ _ z=>z.sameT S4.t)) R
abbrev Bbz:Stmt:=top 69
theorem Jbc:Jan ["_law_parts_here","_law_told","_law_due_here","_law_k","_law_name_here","_law_start","_law_end","_law_size","_law_most","_law_weight"] ["_law_parts_here","_law_told"] (Jae Bbz):=by bv_decide
def Jdy (K:W.Frag):Sp:=fun vs H Q E=>∃ (pl tl:Addr) (px zs:List V) (ls:List PD) (rs:List ShD),vs=[.ref pl, .ref tl]/\SqL K H pl px/\All2 (PDV K H) ls px/\SqL K H tl zs/\All2 (ShV K H) rs zs/\rs.length=ls.length/\ls.length<=12/\(∀ p∈ls,FB 133 4 p.sz)/\(∀ r∈rs,FB 800 600 r.sl)/\∀ l xs H',Same H H'->H l=none->H' l=some (.lst xs)->All2 (fun (g:GD) v=>TV K H' g.td v) (tiL ls rs) xs->Q (.ref l) H'
theorem Jhp (F:FunD K "_law_due" "_law_due" Bbz dV f fd) (T:Txt K mg Ad) (Bal:Cal P w K mg base 2 "_law_plus" ["_law_one","_law_other","_law_sign"] [] (JbT K)):FnOk P w K mg base (CX1 P w) 3 f fd ["_law_parts_here","_law_told"] (Jdy K):=by
 refine F.okn Jbc (by subst_eqs) (fun b1 A O s H B Q E I h=>?_)
 obtain ⟨S,tl,px,zs,o,n,rfl,h⟩:=h;refine ⟨_,(Jab (Jak (i:=2) Jbc.nd rfl (Or.inl rfl) (Ja2 Jac))
   (Jab (Ja3 PassesOwn.never rfl (Jdg rfl T.BcD (Jaa (Jat Ja5 rfl T.BbI Jbr (Jaa (pv 0) Jac)) Jac)) (Jar (i:=3) Jbc.nd rfl (Or.inl rfl))
   (Jab (JjH (pe_ix ix_U (pv 0) (pv 3) (fun _ _=>rfl)) (JfU rfl (Ja7 (Jar (i:=4) Jbc.nd rfl (Or.inl rfl)) (Ja7 (Jar (i:=5) Jbc.nd rfl (Or.inl rfl)) (Ja7 (Jar (i:=6) Jbc.nd rfl (Or.inl rfl)) (Ja7 (Jar (i:=7) Jbc.nd rfl (Or.inl rfl)) (Ja7 (Jar (i:=8) Jbc.nd rfl (Or.inl rfl)) (Ja7 (Jar (i:=9) Jbc.nd rfl (Or.inl rfl)) Jeh))))))))
   (Jai (Ja4 (pe_bm PySem.F.plainAttrs_list PySem.F.slot_list_append PySem.F.type_list_append JaY (pv 2) (Jaa (JaH (Jaa (pv 4) (Jaa (pv 5) (Jaa (pv 6) (Jaa (Bal.ev I ⋯ rfl passF (Jaa (pv 7) (Jaa (pe_ix ix_U (pe_ix ix_U (pv 1) (pv 3) (fun _ _=>rfl)) Jad (fun _ _=>rfl)) (Jaa (pe_un JeT Jad) Jac))) (he:=by exact Jaf rfl)) (Jaa (Bal.ev I ⋯ rfl passF (Jaa (pv 7) (Jaa (pe_ix ix_U (pe_ix ix_U (pv 1) (pv 3) (fun _ _=>rfl)) Jad (fun _ _=>rfl)) (Jaa Jad Jac))) (he:=by exact Jaf rfl)) Jac)))))) Jac) (hs:=by exact Jaf rfl))))))
   (Jai (Jap (pv 2))))),?_⟩
 obtain ⟨hP,hK,hS,hZ,b0,a9,Y,a5,k⟩:=h;have sl:(1000:Nat)<=sizeLine:=by decide
 have lK:=hK.length;have lZ:=hZ.length;show tSeq _ _ _ [some (.ref S),some (.ref tl),none,none,none,none,none,none,none,none] H;nofun;refine ⟨len0,?_⟩;rename_i q j a8 H H1 S1 e1;nofun;nofun;refine ⟨_, .inl (hP.same S1),?_⟩;nofun;refine ⟨_,rfl,by ac_nf,by ac_nf,?_⟩;refine ForR.byN (fun i σ W=>∃ (v3 L v5 Z X v8 v9:Option V) (m:List V),σ=[some (.ref S),some (.ref tl),some (.ref q),v3,L,v5,Z,X,v8,v9]/\Same H W/\W q=some (.lst m)/\All2 (fun (g:GD) v=>TV K W g.td v) (((o.zip n).take i).map fun e=>tiG e.1 e.2) m) ⟨none,none,none,none,none,none,none,[],rfl,S1,e1,rfl⟩ ?_ ?_
 ·rintro i σ x hi ⟨v3,L,v5,Z,X,v8,v9,m,rfl,c,a,G⟩ N0 N;have il:i<o.length:=by ac_nf
  have hp:=List.getElem?_eq_getElem il;have I:=List.getElem?_eq_getElem (by ac_nf:i<n.length);obtain ⟨y,hy,a_,M,vm,rfl,hb,a3,hm⟩:=hK.get hp;obtain ⟨z,hz,pr,B,tt,rfl,U,a2,b2⟩:=hZ.get I;have a0:(o.zip n)[i]?=some (o[i],n[i]):=List.getElem?_zip_eq_some.mpr ⟨hp,I⟩;have pb:=Y _ (List.getElem_mem il);have rb:=a5 _ (List.getElem_mem (by ac_nf:i<n.length));generalize o[i]=p at *;generalize n[i]=r at *;have lX:=G.length;rw [length_map,length_take,List.length_zip] at lX;have C:=hS.same c;have l:=U.same c;have fz:FrV K x M p.sz.1 p.sz.2:=FrV.same c a3;have fs:FrV K x B r.sl.1 r.sl.2:=FrV.same c a2;rw [Int.zero_add];nofun;refine ixL (i:=i) (hP.same c) hy ?_;nofun;refine ⟨a_,_,rfl,hb.same c,rfl,?_⟩;nofun;refine ⟨.inl ⟨rfl,_,SqL.of a⟩,?_⟩;refine ixL (i:=i) C hz ?_;refine ixT (i:=1) l rfl ?_;refine ⟨M,B,_,p.sz,r.sl,false,rfl,rfl,fz,fs,pb.w.mono ⋯ ⋯,rb.w.mono ⋯ ⋯,fun m1 H3 D e3=>?_⟩;nofun;refine ixL (i:=i) (C.same D) hz ?_;refine ixT (i:=1) (l.same D) rfl ?_;refine ⟨M,B,_,p.sz,r.sl,true,rfl,rfl,fz.same D,fs.same D,pb.w.mono ⋯ ⋯,rb.w.mono ⋯ ⋯,fun m2 H4 S4 e4=>?_⟩;nofun;refine ⟨len5,?_⟩;rename_i tp a6 a7 H4 H5 S5 e5;nofun;have d:=D.trans (S4.trans S5);refine ⟨q,m,_,rfl,rfl,d _ _ a,by ac_nf,?_⟩;generalize R:upd H5 q _=H6;nofun;have e6:=putE R;have J:SameT H5 H6:=SameT.put R (d _ _ a) rfl;have a1:=d.t.trans J;nofun;refine N _ _ ⟨_,_,_,_,_,_,_,m++[.ref tp],rfl,fun b u h=>by rw [<- R,Jag (Jah h j)];exact d _ _ (c _ _ h),e6,?_⟩;rw [take_succ,a0,map_append];have a4:All2 (fun (g:GD) v=>TV K H6 g.td v) (((o.zip n).take i).map fun e=>tiG e.1 e.2) m:=G.mono fun g v (z:TV K x g.td v)=>TV.sameT a1 z;exact a4.append (.one ⟨tp, .ref m1, .ref m2,rfl,SqT.of (J _ _ rfl e5),FrV.of (J _ _ rfl (S5 _ _ (S4 _ _ e3))),FrV.of (J _ _ rfl (S5 _ _ e4))⟩)
 ·rintro σ x ⟨v3,L,v5,Z,X,v8,v9,m,rfl,c,a,G⟩;rw [take_of_length_le (by rw [List.length_zip];ac_nf)] at G;nofun;exact k q m x c j a G
abbrev Baw:Stmt:=inClass (top 31) 0
theorem Jem:Jan ["self","row"] ["self","row"] (Jae Baw):=by bv_decide
def Jbb (K:W.Frag):Sp:=fun vs H Q E=>∃ (x C dx a:Addr) (n st en l g:V),vs=[.ref x, .ref a]/\H x=some (.ins C dx [])/\TieC K C/\SqT K H a [n,st,en,l,g]/\∀ H',H' x=some (.ins C dx (tieF n st en l g))->(∀ b,b≠x->H' b=H b)->Q .non H'
theorem Jeb (F:FunD K "__init__" "Tie.__init__" Baw dV f fd) (T:Txt K mg Ad)  : FnOk P w K mg base (CX1 P w) 1 f fd ["self","row"] (Jbb K):=by
 refine F.okn Jem (by subst_eqs) (fun S A u s H O Q E U h=>?_)
 obtain ⟨x,C,d,a,n,j,r,l,g,rfl,h⟩:=h;refine ⟨_,(Jab (JaR (pv 0) (pe_ix ix_U (pv 1) Jad (fun _ _=>rfl)) rfl)
   (Jab (JaR (pv 0) (pe_ix ix_U (pv 1) Jad (fun _ _=>rfl)) rfl)
   (Jab (JaR (pv 0) (pe_ix ix_U (pv 1) Jad (fun _ _=>rfl)) rfl)
   (Jab (JaR (pv 0) (pe_ix ix_U (pv 1) Jad (fun _ _=>rfl)) rfl)
   (Jai (JaR (pv 0) (pe_ix ix_U (pv 1) Jad (fun _ _=>rfl)) rfl)))))),?_⟩
 obtain ⟨G,e,t,k⟩:=h;show tSeq _ _ _ [some (.ref x),some (.ref a)] H;try ac_rfl
 refine ixT (i:=0) t rfl ?_;try ac_rfl
 refine ⟨x,C,d,_,rfl,G,e.cls,e.n1,by simp,?_⟩;have o:=SqT.put (fs':=putF "name" n []) G t;generalize u1:upd H x _=H1 at o ⊢;have y:H1 x=some (.ins C d [("name",n)]):=by rw [<- u1];exact Jaj.trans rfl
 have N:∀ b,b≠x->H1 b=H b:=fun b c=>by rw [<- u1,Jag c]
 try ac_rfl
 refine ixT (i:=1) o rfl ?_;try ac_rfl
 refine ⟨x,C,d,_,rfl,y,e.cls,e.n2,by simp,?_⟩;have q:=SqT.put (fs':=putF "start" j [("name",n)]) y o;generalize u2:upd H1 x _=H2 at q ⊢;have z:H2 x=some (.ins C d [("name",n),("start",j)]):=by rw [<- u2];exact Jaj.trans rfl
 have J:∀ b,b≠x->H2 b=H1 b:=fun b c=>by rw [<- u2,Jag c]
 try ac_rfl
 refine ixT (i:=2) q rfl ?_;try ac_rfl
 refine ⟨x,C,d,_,rfl,z,e.cls,e.n3,by simp,?_⟩;have p:=SqT.put (fs':=putF "end" r [("name",n),("start",j)]) z q;generalize u3:upd H2 x _=H3 at p ⊢;have B:H3 x=some (.ins C d [("name",n),("start",j),("end",r)]):=by rw [<- u3];exact Jaj.trans rfl
 have I:∀ b,b≠x->H3 b=H2 b:=fun b c=>by rw [<- u3,Jag c]
 try ac_rfl
 refine ixT (i:=3) p rfl ?_;try ac_rfl
 refine ⟨x,C,d,_,rfl,B,e.cls,e.n4,by simp,?_⟩;have m:=SqT.put (fs':=putF "least" l [("name",n),("start",j),("end",r)]) B p;generalize u4:upd H3 x _=H4 at m ⊢;have D:H4 x=some (.ins C d [("name",n),("start",j),("end",r),("least",l)]):=by rw [<- u4];exact Jaj.trans rfl
 have R:∀ b,b≠x->H4 b=H3 b:=fun b c=>by rw [<- u4,Jag c]
 try ac_rfl
 refine ixT (i:=4) m rfl ?_;try ac_rfl
 refine ⟨x,C,d,_,rfl,D,e.cls,e.n5,by simp,?_⟩;have v:=SqT.put (fs':=putF "greatest" g [("name",n),("start",j),("end",r),("least",l)]) D m;generalize u5:upd H4 x _=H5 at v ⊢;have L:H5 x=some (.ins C d [("name",n),("start",j),("end",r),("least",l),("greatest",g)]):=by rw [<- u5];exact Jaj.trans rfl
 have M:∀ b,b≠x->H5 b=H4 b:=fun b c=>by rw [<- u5,Jag c]
 try ac_rfl
 exact k H5 L fun b c=>by rw [M b c,R b c,I b c,J b c,N b c]
abbrev Ba0:Stmt:=inClass (top 31) 1
theorem JfY:Jan ["self"] ["self"] (Jae Ba0):=by bv_decide
def JcK (K:W.Frag) (Ad:Adr):Sp:=fun vs H Q E=>∃ (v:V) (C:Addr) (n st en l g:V),vs=[v]/\TieV H v C n st en l g/\IsTie Ad C/\∀ p H',Same H H'->H' p=some (.tup [n,st,en,l,g])->Q (.ref p) H'
theorem JfP (F:FunD K "plain" "Tie.plain" Ba0 dV f fd) (T:Txt K mg Ad)  : FnOk P w K mg base (CX1 P w) 1 f fd ["self"] (JcK K Ad):=by
 refine F.okn JfY (by subst_eqs) (fun t A d s H r Q E x h=>?_)
 obtain ⟨v,C,n,j,i,l,g,rfl,h⟩:=h;refine ⟨_,(Jai (Jap (JaH (Jaa (Jaq (pv 0) rfl) (Jaa (Jaq (pv 0) rfl) (Jaa (Jaq (pv 0) rfl) (Jaa (Jaq (pv 0) rfl) (Jaa (Jaq (pv 0) rfl) Jac)))))))),?_⟩;obtain ⟨o,m,k⟩:=h;obtain ⟨p,b,rfl,c⟩:=o;have a:=T.tie C m;show tRet _ _ [some (.ref p)] H;contradiction;refine ⟨p,C,b,_,n,rfl,c,a.cls,a.n1,rfl,?_⟩;refine ⟨p,C,b,_,j,rfl,c,a.cls,a.n2,rfl,?_⟩;refine ⟨p,C,b,_,i,rfl,c,a.cls,a.n3,rfl,?_⟩;refine ⟨p,C,b,_,l,rfl,c,a.cls,a.n4,rfl,?_⟩;refine ⟨p,C,b,_,g,rfl,c,a.cls,a.n5,rfl,?_⟩;try infer_instance
 refine ⟨len5,?_⟩;exact Jdr fun q u S e=>k q u S e
abbrev Bcb:Stmt:=top 37
theorem Jeo:Jan ["thing","least","greatest"] ["thing"] (Jae Bcb):=by bv_decide
def Jet (K:W.Frag) (Ad:Adr):Sp:=fun vs H Q E=>∃ (a:Addr) (n s e:D) (la lb ga gb:Int) (vn vq ve vl vg:V),vs=[.ref a]/\Rep K H (.tup [n,s,e, .tup [.int la, .int lb], .tup [.int ga, .int gb]]) (.ref a)/\szD (.tup [n,s,e, .tup [.int la, .int lb], .tup [.int ga, .int gb]])/\tieB (.tup [n,s,e, .tup [.int la, .int lb], .tup [.int ga, .int gb]])=true/\SqT K H a [vn,vq,ve,vl,vg]/\FrV K H vl la lb/\FrV K H vg ga gb/\∀ v C H',Same H H'->IsTie Ad C->TieV H' v C vn vq ve vl vg->Q v H'
theorem Jie (F:FunD K "tie_of" "tie_of" Bcb dV f fd) (T:Txt K mg Ad) (Bb8:Cal P w K mg base 5 "is_tie" ["thing"] [] (Jdl K)) (k_Just:KCal P w K mg base 1 "Just" Ad.Just ["self","row"] (Jbb K)) (k_Between:KCal P w K mg base 1 "Between" Ad.Between ["self","row"] (Jbb K)):FnOk P w K mg base (CX1 P w) 6 f fd ["thing"] (Jet K Ad):=by
 refine F.okn Jeo (by subst_eqs) (fun W A p s H V Q E l h=>?_)
 obtain ⟨a,n,s,e,B,G,L,M,t,y,r,vl,U,rfl,h⟩:=h;have z:=l.units;refine ⟨_,(Jab (ps_if (Jbt (Ja9 (Bb8.ev l ⋯ rfl passF (Jaa (pv 0) Jac) (he:=by exact Jaf rfl))))
   (Jai ps_no)
   Jav)
   (Jab (Jak (i:=1) Jeo.nd rfl (Or.inl rfl) (pe_ix ix_U (pv 0) Jad (fun _ _=>rfl)))
   (Jab (Jak (i:=2) Jeo.nd rfl (Or.inl rfl) (pe_ix ix_U (pv 0) Jad (fun _ _=>rfl)))
   (Jab (ps_if (PW.pt (JjI (Jay JcG (pv 1) JcI (Jaw _)) (Jiu (Jay JcG (pv 2) JcI (Jaw _)))))
   (Jai ps_no)
   Jav)
   (Jab (ps_if (Jay JcG (pv 2) JcI (Jaw _))
   (Jai ps_no)
   Jav)
   (Jab (ps_if (Jay JcG (pv 1) JcI (Jaw _))
   (Jai ps_no)
   Jav)
   (Jab (ps_if (Jay (Jb9 z) (pv 1) (pv 2) (Jaw _))
   (Jai (Jap (k_Just.ev l ⋯ rfl passF (Jaa (pv 0) Jac))))
   Jav)
   (Jai (Jap (k_Between.ev l ⋯ rfl passF (Jaa (pv 0) Jac))))))))))),?_⟩
 clear z;obtain ⟨g,O,c,m,N,D,I⟩:=h;show tSeq _ _ _ [some (.ref a),none,none] H;try infer_instance
 refine ⟨.ref a,_,rfl,g,O,fun Y j=>?_⟩;try infer_instance
 rw [c,show (!true)=false from rfl];try infer_instance
 refine ixT (i:=3) (m.same j) rfl ?_;try infer_instance
 refine ixT (i:=4) (m.same j) rfl ?_;have R:=N.same j;have X:=D.same j;obtain ⟨C,rfl,_⟩:=id N;obtain ⟨J,rfl,_⟩:=id D;try infer_instance
 refine eqF R X ?_;try infer_instance
 generalize (decide (B=L)&&decide (G=M))=q;cases q
 ·try infer_instance
  try infer_instance
  intro x k g d S;refine ⟨x,_,k,a,t,y,r, .ref C, .ref J,rfl,Jaj,T.tie _ (.inr rfl),?_,fun v e o=>⟨rfl,I _ _ v ?_ (.inr rfl) ⟨x,k,rfl,e⟩⟩⟩
  ·exact (m.same j).same fun b u q=>by rw [Jag (Jah q g),Jag (Jah q d)];exact q
  ·exact j.trans fun b u q=>by rw [o b (Jah q g),Jag (Jah q g),Jag (Jah q d)];exact q
 ·try infer_instance
  try infer_instance
  intro x k g d S;refine ⟨x,_,k,a,t,y,r, .ref C, .ref J,rfl,Jaj,T.tie _ (.inl rfl),?_,fun v e o=>⟨rfl,I _ _ v ?_ (.inl rfl) ⟨x,k,rfl,e⟩⟩⟩
  ·exact (m.same j).same fun b u q=>by rw [Jag (Jah q g),Jag (Jah q d)];exact q
  ·exact j.trans fun b u q=>by rw [o b (Jah q g),Jag (Jah q g),Jag (Jah q d)];exact q
abbrev Bdd:Stmt:=top 70
theorem JcU:Jan ["_law_script","_law_style","_law_parts_here","_law_spots","_law_gaps_here","_law_thing","_law_due_here","_law_found","_law_tie"] ["_law_script"] (Jae Bdd):=by bv_decide
def Bdt (K:W.Frag):Sp:=fun vs H Q E=>∃ (a:Addr) (ns:List Int),vs=[.ref a]/\SqL K H a (ns.map V.int)/\ns.length<=63/\∀ H',Q (.bl true) H'
theorem Jlj (F:FunD K "law" "law" Bdd dV f fd) (T:Txt K mg Ad) (Bae:Cal P w K mg base 1 "_law_cell" ["_law_script","_law_k"] [] (JbS K)) (Bcc:Cal P w K mg base 3 "_law_parts" ["_law_script","_law_style"] [] (JcL K)) (BcA:Cal P w K mg base 3 "_law_gaps" ["_law_script","_law_spots","_law_style"] [] (Jc2 K)) (Bb0:Cal P w K mg base 1 "_law_turned" ["_law_parts_here","_law_cell_here"] [] (Jcq K)) (Bde:KCal P w K mg base 9 "Thing" Ad.Thing ["self","parts","gaps"] (Jbz K Ad)) (Bcz:Cal P w K mg base 9 "share" ["thing"] [] (JdO K Ad)) (BcW:Cal P w K mg base 3 "_law_due" ["_law_parts_here","_law_told"] [] (Jdy K)) (Ba1:Cal P w K mg base 10 "share_ties" ["thing"] [] (Jcs K Ad)) (Bdf:Cal P w K mg base 6 "tie_of" ["thing"] [] (Jet K Ad)) (m_plain_T:MCal P w K mg base 1 "plain" (IsTie Ad) ["self"] (JcK K Ad)):FnOk P w K mg base (CX1 P w) 12 f fd ["_law_script"] (Bdt K):=by
 refine F.okn JcU (by subst_eqs) (fun g6 A c7 s H vs Q E o h=>?_)
 obtain ⟨a,ns,rfl,h⟩:=h;have S:=o.units;refine ⟨_,(Jab (Jak (i:=1) JcU.nd rfl (Or.inl rfl) (pe_op JaC (Bae.ev o ⋯ rfl passF (Jaa (pv 0) (Jaa Jad Jac)) (he:=by exact Jaf rfl)) Jad))
   (Jab (JjH (Bcc.ev o ⋯ rfl passF (Jaa (pv 0) (Jaa (pv 1) Jac)) (he:=by exact Jaf rfl)) (JfU rfl (Ja7 (Jar (i:=2) JcU.nd rfl (Or.inl rfl)) (Ja7 (Jar (i:=3) JcU.nd rfl (Or.inl rfl)) Jeh))))
   (Jab (Jak (i:=4) JcU.nd rfl (Or.inl rfl) (BcA.ev o ⋯ rfl passF (Jaa (pv 0) (Jaa (pv 3) (Jaa (pv 1) Jac))) (he:=by exact Jaf rfl)))
   (Jab (Jak (i:=2) JcU.nd rfl (Or.inl rfl) (Bb0.ev o ⋯ rfl passF (Jaa (pv 2) (Jaa (pe_op Jas (Bae.ev o ⋯ rfl passF (Jaa (pv 0) (Jaa Jad Jac)) (he:=by exact Jaf rfl)) Jad) Jac)) (he:=by exact Jaf rfl)))
   (Jab (Jak (i:=5) JcU.nd rfl (Or.inl rfl) (Bde.ev o ⋯ rfl passF (Jaa (pv 2) (Jaa (pv 4) Jac))))
   (Jab (Jak (i:=6) JcU.nd rfl (Or.inl rfl) (BcW.ev o ⋯ rfl passF (Jaa (pv 2) (Jaa (Bcz.ev o ⋯ rfl passF (Jaa (pv 5) Jac) (he:=by exact Jaf rfl)) Jac)) (he:=by exact Jaf rfl)))
   (Jab (Jak (i:=7) JcU.nd rfl (Or.inl rfl) (Ba1.ev o ⋯ rfl passF (Jaa (pv 5) Jac) (he:=by exact Jaf rfl)))
   (Jab (ps_if (PW.pt (pw_or (Jbt (Ja9 (Jat JaE rfl T.Bao JaX (Jaa (pv 7) (Jaa (JcH (v:=.ty "list") rfl T.BdG JeW rfl) Jac))))) (JcB (Jay (Jdb S) (pv 7) (pv 6) (Jaw _)))))
   (Jai (Jap pe_bl))
   Jav)
   (Jab (Ja3 PassesOwn.never rfl (pi_U (pv 7)) (Jar (i:=8) JcU.nd rfl (Or.inl rfl))
   (Jai (ps_if (PW.pt (pw_or (Jbt (Ja9 (Jat JaE rfl T.Bao JaX (Jaa (pv 8) (Jaa (JcH (v:=.ty "tuple") rfl T.Bc8 JdJ rfl) Jac))))) (JcB (Jay (Jdb S) (m_plain_T.m0 o ⋯ passF (Bdf.ev o ⋯ rfl passF (Jaa (pv 8) Jac) (he:=by exact Jaf rfl))) (pv 8) (Jaw _)))))
   (Jai (Jap pe_bl))
   Jav)))
   (Jab (Ja4 (pe_bm PySem.F.plainAttrs_list PySem.F.slot_list_append PySem.F.type_list_append JaY (pv 7) (Jaa Jad Jac) (hs:=by exact Jaf rfl)))
   (Jab (Ja4 (JjG PySem.F.plainAttrs_list PySem.F.slot_list_reverse PySem.F.type_list_reverse Jhm (pv 7)))
   (Jai (Jap (JcA (Jbu (Jb9 S) (Ba1.ev o ⋯ rfl passF (Jaa (pv 5) Jac) (he:=by exact Jaf rfl)) (pv 6) (Jaw _)) (Jdf (Jbu (Jb9 S) (Ba1.ev o ⋯ rfl passF (Jaa (Bde.ev o ⋯ rfl passF (Jaa (Ja2 Jac) (Jaa (Ja2 Jac) Jac))) Jac) (he:=by exact Jaf rfl)) (Ja2 Jac) (Jaw _))))))))))))))))),?_⟩
 clear S;obtain ⟨hS,hl,k⟩:=h;have sl:(1000:Nat)<=sizeLine:=by decide
 show tSeq _ _ _ [some (.ref a),none,none,none,none,none,none,none,none] H;nofun;refine ⟨a,ns,2,rfl,hS,hl,by decide,by decide,fun c0=>?_⟩;nofun;repeat (refine And.intro (by first | exact JaU ⋯ | exact JaW ⋯ | exact JaV ⋯ | exact JaB ⋯ | exact Int.one_ne_zero | decide) ?_)
 have q0:=Mth.fm (x:=c0) (y:=4) ⋯;obtain ⟨st,d7⟩:=Int.eq_ofNat_of_zero_le q0.1;rw [d7] at q0 ⊢;nofun;refine ⟨a,ns,st,rfl,hS,hl,by ac_nf,fun q pl sd px kv ls xs H1 S1 eq ep hP ed hB N hM hT h1 h7 c2 a4 b7=>?_⟩;nofun;refine ⟨q,_,rfl,SqT.of eq,rfl,?_⟩;nofun;refine ⟨a,sd,ns,st,kv,ls,xs,rfl,hS.same S1,hl,by ac_nf,ed,hB,N,hM,hT,h7,c2,b7,fun gl gx J H2 S2 eg hX l a1 g4=>?_⟩;nofun;refine ⟨a,ns,0,rfl,(hS.same S1).same S2,hl,by decide,by decide,fun c1=>?_⟩;nofun;repeat (refine And.intro (by first | exact JaU ⋯ | exact JaW ⋯ | exact JaV ⋯ | exact JaB ⋯ | exact Int.one_ne_zero | decide) ?_)
 refine ⟨pl,_,px,ls,rfl,SqL.of (S2 _ _ ep),hP.mono (P':=PDV K H2) (fun _ _ z=>z.sameT S2.t),by ac_nf,fun kl ys j H3 S3 ek hK c=>?_⟩;nofun;intro x X hx d5 f9;have g5:j.length=ls.length:=c.length_eq;have lK:=hK.length;have lX:=hX.length;have B:∀ p∈j,POk p:=fun p d=>N.ok p (c.mem_iff.mp d);have I:(j.map (·.nm)).Nodup:=(List.Perm.nodup_iff (c.map (·.nm))).mpr (JfM N.nm);have d1:((J.map (·.1)).map (·.nm)).Nodup:=by
  rw [map_map];exact JfM (f:=fun (e:GD × List Str)=>e.1.nm) a1
 have a7:All2 (fun (g:GD) v=>TV K H3 g.td v) (J.map (·.1)) gx:=hX.map fun e _ v (z:TV K H2 e.1.td v)=>z.sameT S3.t;have Sm:Same H3 (upd (upd H3 X (.own x)) x (.ins Ad.Thing X [])):=fun b u q=>by rw [Jag (Jah q hx),Jag (Jah q d5)];exact q
 refine ⟨x,X,kl,gl,ys,gx,j.map Sum.inl,(J.map (·.1)).map Sum.inl,H3,rfl,Jaj,hx,Sm,SqL.of ek,hK.map fun p d x z=>⟨z,B p d⟩,SqL.of (S3 _ _ eg),a7.map fun g M x z=>⟨z,by obtain ⟨e,he,rfl⟩:=mem_map.mp M;exact (l e he).tok⟩,by rw [length_map];ac_nf,by rw [length_map,length_map];ac_nf,?_⟩;rw [Jef N.tr j [] (by rw [nil_append];exact I) (fun p d=>c.mem_iff.mp (by simpa using d)),nil_append];dsimp only;rw [JhV (J.map (·.1)) [] (by rw [nil_append];exact d1) (fun g M=>by obtain ⟨e,he,rfl⟩:=mem_map.mp M;exact (l e he).con.sub fun p d=>c.mem_iff.mpr d),nil_append];dsimp only;intro H4 S4 tk;refine ⟨rfl,?_⟩;nofun;have L:SHC j J (spOf (xs.map (·.1))):=⟨by ac_nf,by ac_nf,by ac_nf,I,fun e he u S h=>by
   obtain ⟨e',d9,rfl⟩:=mem_map.mp S;exact congrArg (·.1) (Ji5 (f:=fun (e:GD × List Str)=>e.1.nm) a1 d9 he h),B,fun p d=>(by have h:=hM.pb p (c.mem_iff.mp d);exact ⟨⟨h.1.b1,h.1.s2.mono ⋯⟩,h.2.mono ⋯ ⋯⟩),fun p d=>a4 p (c.mem_iff.mp d),fun e he=>(l e he).tok,fun e he=>(l e he).gb,fun e he=>(l e he).rb.mono ⋯ ⋯,fun f=>N.plb ∅ f,fun p d=>N.pls p (c.mem_iff.mp d),fun e he w hw hn=>Jju N hM (l e he).nm (l e he).f1 (l e he).f2 ((Jgy hw).sub fun p d=>c.mem_iff.mp d) hn⟩
 have r0:∀ e∈J,0<=vl (roomF (spOf (xs.map (·.1))) e.1):=fun e he=>(l e he).r0;have r:∀ p∈j,FB 133 4 p.sz/\FB 100 6 p.mo:=fun p d=>hM.pb p (c.mem_iff.mp d);have c6:=S4 _ _ ek;have d2:All2 (PDV K H4) j ys:=hK.mono fun p v z=>z.sameT S4.t;clear l a7 hX hB N hM hT b7;generalize spOf (xs.map (·.1))=pf at *;refine ⟨x,j,J,pf,rfl,tk,L,r0,fun tl zs rs H5 S5 f6 e5 hZ hR=>?_⟩;have hk:=hR.k L (fun p d=>(r p d).2);have lZ:=hZ.length;have c5:rs.length=j.length:=hR.len;nofun;refine ⟨kl,tl,ys,zs,j,rs,rfl,SqL.of (S5 _ _ c6),d2.mono (fun p v z=>z.sameT S5.t),SqL.of e5,hZ,c5,by ac_nf,(fun p d=>(r p d).1),hk.fb,fun dl b4 H6 S6 f4 e6 hD=>?_⟩;nofun;have R:=S5.trans S6;refine ⟨x,j,J,pf,rfl,tk.same R,L,r0,r,fun G fx m H7 S7 O e7 hF d6=>?_⟩;have eR:m=rs:=d6.uniq I (fun p d=>(B p d).w) hR;subst eR;nofun;refine ⟨"list", .inl ⟨rfl,_,SqL.of e7⟩,?_⟩;rw [show (!isiB "list" "list")=false from rfl,if_neg ⋯];have lD:=hD.length;have lF:=hF.length;have lT:(tiL j m).length=j.length:=by unfold tiL;rw [length_map,List.length_zip];ac_nf
 have g1:depD (.lst ((tiL j m).map fun g:GD=>tdD g.td))<=20:=by
  have:=JgQ (n:=10) (f:=fun g:GD=>tdD g.td) (fun g=>by simp [tdD,GD.td,bD,frD,depD,depL]) (tiL j m);simp only [depD];ac_nf
 have rD:∀ W,Same H7 W->Rep K W (.lst ((tiL j m).map fun g:GD=>tdD g.td)) (.ref dl):=fun W S'=>by
  simp only [Rep];exact ⟨dl,b4,rfl,SqL.of (S' _ _ (S7 _ _ e6)),(hD.mono (P':=fun (g:GD) v=>TV K W g.td v) fun g v (z:TV K H6 g.td v)=>z.sameT (S7.trans S').t).repL fun _ _ z=>TV.rep z⟩
 have rF:Rep K H7 (.lst ((tiL j m).map fun g:GD=>tdD g.td)) (.ref G):=by
  simp only [Rep];exact ⟨G,fx,rfl,SqL.of e7,hF.repL fun _ _ z=>TV.rep z⟩
 refine ⟨_,_,rF,rD _ (Same.refl _),by ac_nf,rfl,?_⟩;rw [Jce];nofun;try rw [if_neg ⋯]
 (try ((with_reducible refine Nxt.go (by assumption) ?_);nofun))
 have e1:∀ g∈tiL j m,tieB (tdD g.td)=true/\szD (tdD g.td):=fun g M=>by
  unfold tiL at M;obtain ⟨e,he,rfl⟩:=mem_map.mp M;obtain ⟨i,hi⟩:=List.getElem?_of_mem he;obtain ⟨b6,a3⟩:=List.getElem?_zip_eq_some.mp hi;have m1:=List.mem_of_getElem? b6;have m2:=List.mem_of_getElem? a3;exact ti_ok (B _ m1) (r _ m1).1 (hk.fb _ m2) (hk.bd i _ _ b6 a3).1
 refine ⟨G,rfl,ForA.byLN (xs:=fx) (SqL.of e7) (fun i σ W=>i<=fx.length/\∃ (v8:Option V),σ=[some (.ref a),some (.int (st:Int)),some (.ref kl),some (.ref sd),some (.ref gl),some (.ref x),some (.ref dl),some (.ref G),v8]/\Same H7 W) ⟨Nat.zero_le _,none,rfl,Same.refl _⟩ (fun i σ W q=>by obtain ⟨_,_,_,q⟩:=q;exact SqL.of (q _ _ e7)) ?_ ?_⟩
 ·rintro i y σ H8 hy ⟨hi,v8,rfl,Z⟩ N0 c3;have li:=(List.getElem?_eq_some_iff.mp hy).1;obtain ⟨g,M,tv⟩:=hF.at_ hy;obtain ⟨t1,t2⟩:=e1 g (List.mem_of_getElem? M);have a6:TV K H8 g.td y:=TV.sameT Z.t tv;have rp:=TV.rep a6;obtain ⟨b,b2,b3,rfl,hq,a5,a9⟩:=a6;nofun;refine ⟨"tuple", .inr ⟨rfl,_,hq⟩,?_⟩;rw [show (!isiB "tuple" "tuple")=false from rfl,if_neg ⋯];nofun;refine ⟨b,_,_,_,_,_,_,_,_,_,_,b2,b3,rfl,rp,t2,t1,hq,a5,a9,fun v C H9 S9 kc b0=>?_⟩;nofun;obtain ⟨p,dx,rfl,d⟩:=id b0;refine ⟨p,_,dx,_,rfl,d,kc,rfl,?_⟩;refine ⟨_,_,_,_,_,_,_,rfl,b0,kc,fun q1 HA SA eA=>?_⟩;nofun;have rq:Rep K HA (tdD g.td) (.ref q1):=TV.rep ⟨q1,b2,b3,rfl,SqT.of eA,FrV.same (S9.trans SA) a5,FrV.same (S9.trans SA) a9⟩;refine ⟨_,_,rq,rp.same (S9.trans SA),by simp [tdD,GD.td,bD,frD,depD,depL],rfl,?_⟩;rw [Jce];nofun;try rw [if_neg ⋯]
  (try ((with_reducible refine Nxt.go (by assumption) ?_);nofun))
  exact c3 _ _ ⟨li,_,rfl,Z.trans (S9.trans SA)⟩
 ·rintro σ H8 ⟨hi,v8,rfl,Z⟩;have e8:=Z _ _ e7;nofun;refine ⟨.inl ⟨rfl,_,SqL.of e8⟩,?_⟩;nofun;refine ⟨G,fx,_,rfl,rfl,e8,by ac_nf,?_⟩;generalize u9:upd H8 G _=H9;nofun;have e9:=putE u9;have T9:SameT H8 H9:=SameT.put u9 e8 rfl;nofun;refine ⟨.inl ⟨rfl,_,SqL.of e9⟩,?_⟩;refine ⟨G,_,rfl,rfl,e9,?_⟩;generalize a0:upd H9 G _=HA;nofun;have e0:Same H4 HA:=fun b u h=>by
   have nb:b≠G:=Jah (R _ _ h) O;rw [<- a0,Jag nb, <- u9,Jag nb];exact Z _ _ (S7 _ _ (R _ _ h))
  have e2:Same H6 HA:=fun b u h=>by
   have nb:b≠G:=Jah h O;rw [<- a0,Jag nb, <- u9,Jag nb];exact Z _ _ (S7 _ _ h)
  nofun;refine ⟨x,j,J,pf,rfl,tk.same e0,L,r0,r,fun d4 c8 Y HB SB _ eB b8 b9=>?_⟩;have eR:Y=m:=b9.uniq I (fun p d=>(B p d).w) hR;subst eR;nofun;have a2:=e2.trans SB;refine ⟨.lst ((tiL j Y).map fun g:GD=>tdD g.td), .lst ((tiL j Y).map fun g:GD=>tdD g.td),?_,?_,by ac_nf,rfl,?_⟩
  ·simp only [Rep];exact ⟨d4,c8,rfl,SqL.of eB,b8.repL fun _ _ z=>TV.rep z⟩
  ·simp only [Rep];exact ⟨dl,b4,rfl,SqL.of (a2 _ _ e6),(hD.mono (P':=fun (g:GD) v=>TV K HB g.td v) fun g v (z:TV K H6 g.td v)=>z.sameT a2.t).repL fun _ _ z=>TV.rep z⟩
  ·rw [Jce];nofun;refine ⟨len0,?_⟩;rename_i n1 f5 g0 HB HC SC eC;nofun;refine ⟨len0,?_⟩;rename_i n2 e4 f8 HC HD SD eD;nofun;nofun;intro x2 U b5 a8 f3;have e3:Same HD (upd (upd HD U (.own x2)) x2 (.ins Ad.Thing U [])):=fun b u q=>by rw [Jag (Jah q b5),Jag (Jah q a8)];exact q
   refine ⟨x2,U,n1,n2,[],[],[],[],HD,rfl,Jaj,b5,e3,SqL.of (SD _ _ eC),rfl,SqL.of eD,rfl,by decide,by decide,?_⟩;rw [show partsW [] ([]:List (PD ⊕ D))=.ok [] from by rw [partsW]];dsimp only;rw [show gapsW [] [] ([]:List (GD ⊕ D))=.ok [] from by rw [gapsW]];dsimp only;intro HE SE c9;refine ⟨rfl,?_⟩;nofun;refine ⟨x2,[],[],fun _=>(0,1),rfl,c9,⟨by decide,by decide,by decide, .nil,(fun e he=>by cases he),(fun e he=>by cases he),(fun e he=>by cases he),(fun e he=>by cases he),(fun e he=>by cases he),(fun e he=>by cases he),(fun e he=>by cases he),(fun f=>Jex.mono ⋯ ⋯),(fun e he=>by cases he),(fun e he=>by cases he)⟩,(fun e he=>by cases he),(fun e he=>by cases he),fun d3 d0 g3 HF SF _ eF c4 g2=>?_⟩;nofun;refine ⟨len0,?_⟩;rename_i n3 f0 f7 HF HG SG eG;nofun;nofun;have d8:d0=[]:=by
    have:=c4.length;unfold tiL at this;simpa using this
   subst d8;refine ⟨.lst [], .lst [],?_,?_,by decide,rfl,?_⟩
   ·simp only [Rep];exact ⟨d3,[],rfl,SqL.of (SG _ _ eF),by simp only [RepL]⟩
   ·simp only [Rep];exact ⟨n3,[],rfl,SqL.of eG,by simp only [RepL]⟩
   ·rw [Jce];nofun;exact k _
end
theorem lenE1 {α} {P:List α->Prop} (h:∀ a,P [a]):∀ us:List α,us.length=1->P us|[a],_=>h a
theorem lenE2 {α} {P:List α->Prop} (h:∀ a b,P [a,b]):∀ us:List α,us.length=2->P us|[a,b],_=>h a b
theorem lenE3 {α} {P:List α->Prop} (h:∀ a b c,P [a,b,c]):∀ us:List α,us.length=3->P us|[a,b,c],_=>h a b c
theorem lenE4 {α} {P:List α->Prop} (h:∀ a b c d,P [a,b,c,d]):∀ us:List α,us.length=4->P us|[a,b,c,d],_=>h a b c d
theorem lenE5 {α} {P:List α->Prop} (h:∀ a b c d e,P [a,b,c,d,e]):∀ us:List α,us.length=5->P us|[a,b,c,d,e],_=>h a b c d e
theorem lenE6 {α} {P:List α->Prop} (h:∀ a b c d e f,P [a,b,c,d,e,f]):∀ us:List α,us.length=6->P us|[a,b,c,d,e,f],_=>h a b c d e f
theorem lenE0 {α} {P:List α->Prop} (h:P []):∀ us:List α,us.length=0->P us|[],_=>h
local macro_rules|`(∅)=>`(⟨$(Lean.mkIdent `NoNumber),$(Lean.mkIdent `Twice),$(Lean.mkIdent `NoName),$(Lean.mkIdent `NoPart),$(Lean.mkIdent `NoGap),$(Lean.mkIdent `InRing),$(Lean.mkIdent `Apart),$(Lean.mkIdent `Tie),$(Lean.mkIdent `Just),$(Lean.mkIdent `Between),$(Lean.mkIdent `Part),$(Lean.mkIdent `Gap),$(Lean.mkIdent `Joints),$(Lean.mkIdent `Thing),$(Lean.mkIdent `Scale),$(Lean.mkIdent `Lid),(.str "abcdefghijklmnopqrstuvwxyz" $(Lean.mkIdent `Baa)),(.int 8 $(Lean.mkIdent `Bab)),$(Lean.mkIdent `ZERO)⟩)
local macro_rules|`($f:ident∘$n:str)=>`(W.nsIn $(Lean.mkIdent `K) mainGlobals $n=some (some (.ref $f)))|`($i:num∘$n:str∘$t:ident)=>`($i∘$n∘$n∘$t)|`($i:num∘$n:str∘$q:str∘$t:ident)=>do let v:=fun c=>Lean.mkIdent (.mkSimple s!"{c}{i.getNat}");`($(Lean.mkIdent `K).lookup $(v "f")=some ⟨$(v "D"),$(v "A"),.func (W.fnOf $n $q (Jam $t) (Jal $t) (Jae $t) .none $(v "E") $(v "G") $(v "M") $(v "B") $(v "U") $(v "V")),$(v "C")⟩)
local macro_rules|`($c:ident∣$n:str)=>`(W.codeIn $(Lean.mkIdent `K) $c $n=true)
local macro_rules|`(-$f)=>`(W.keepIn $(Lean.mkIdent `K) (.ref $f)=true)
local macro_rules|`($f:ident/$n:str)=>`(W.findIn $(Lean.mkIdent `K) (.ref $f) $n=some none)|`($f:ident/$n:str/$g:ident)=>`(W.findIn $(Lean.mkIdent `K) (.ref $f) $n=some (some (.ref $g)))
local macro_rules|`(tactic|bv_omega)=>`(tactic|first|exact fun _ _ _ _ _ _=>lenE1 fun _=>rfl|exact fun _ _ _ _ _ _=>lenE2 fun _ _=>rfl|exact fun _ _ _ _ _ _=>lenE3 fun _ _ _=>rfl|exact fun _ _ _ _ _ _=>lenE4 fun _ _ _ _=>rfl|exact fun _ _ _ _ _ _=>lenE5 fun _ _ _ _ _=>rfl|exact fun _ _ _ _ _ _=>lenE6 fun _ _ _ _ _ _=>rfl|exact fun _ _ _ _ _ _=>lenE0 rfl)
theorem all_mk {l:W.OpenLaw} {w:World} {K:W.Frag} {h:Heap} {mg:Str->Option Value} {fa:Addr} {NoNumber Twice NoName NoPart NoGap InRing Apart Tie Just Between Part Gap Joints Thing Scale Lid:Addr} (X:K.In h) (G:h.Ns mainGlobals mg) (hfa:mg "law"=some (.ref fa)) {f1 f2 f3 f4 f5 f6 f7 f8 f9 f10 f11 f12 f13 f14 f15 f16 f17 f18 f19 f20 f21 f22 f23 f24 f25 f26 f27 f28 f29 f30 f31 f32 f33 f34 f35 f36 f37 f38 f39 f40 f41 f42 f43 f44 f45 f46 f47 f48 f49 f50 f51 f52 f53 f54 f55 f56 f57 f58 f59 f60 f61:Addr} {A1 B1 A2 B2 A3 B3 A4 B4 A5 B5 A6 B6 A7 B7 A8 B8 A9 B9 A10 B10 A11 B11 A12 B12 A13 B13 A14 B14 A15 B15 A16 B16 A17 B17 A18 B18 A19 B19 A20 B20 A21 B21 A22 B22 A23 B23 A24 B24 A25 B25 A26 B26 A27 B27 A28 B28 A29 B29 A30 B30 A31 B31 A32 B32 A33 B33 A34 B34 A35 B35 A36 B36 A37 B37 A38 B38 A39 B39 A40 B40 A41 B41 A42 B42 A43 B43 A44 B44 A45 B45 A46 B46 A47 B47 A48 B48 A49 B49 A50 B50 A51 B51 A52 B52 A53 B53 A54 B54 A55 B55 A56 B56 A57 B57 A58 B58 A59 B59 A60 B60 A61 B61:Option Addr} {C1 C2 C3 C4 C5 C6 C7 C8 C9 C10 C11 C12 C13 C14 C15 C16 C17 C18 C19 C20 C21 C22 C23 C24 C25 C26 C27 C28 C29 C30 C31 C32 C33 C34 C35 C36 C37 C38 C39 C40 C41 C42 C43 C44 C45 C46 C47 C48 C49 C50 C51 C52 C53 C54 C55 C56 C57 C58 C59 C60 C61:Array (Option Value)} {D1 E1 G1 M1 U1 V1 D2 E2 G2 M2 U2 V2 D3 E3 G3 M3 U3 V3 D4 E4 G4 M4 U4 V4 D5 E5 G5 M5 U5 V5 D6 E6 G6 M6 U6 V6 D7 E7 G7 M7 U7 V7 D8 E8 G8 M8 U8 V8 D9 E9 G9 M9 U9 V9 D10 E10 G10 M10 U10 V10 D11 E11 G11 M11 U11 V11 D12 E12 G12 M12 U12 V12 D13 E13 G13 M13 U13 V13 D14 E14 G14 M14 U14 V14 D15 E15 G15 M15 U15 V15 D16 E16 G16 M16 U16 V16 D17 E17 G17 M17 U17 V17 D18 E18 G18 M18 U18 V18 D19 E19 G19 M19 U19 V19 D20 E20 G20 M20 U20 V20 D21 E21 G21 M21 U21 V21 D22 E22 G22 M22 U22 V22 D23 E23 G23 M23 U23 V23 D24 E24 G24 M24 U24 V24 D25 E25 G25 M25 U25 V25 D26 E26 G26 M26 U26 V26 D27 E27 G27 M27 U27 V27 D28 E28 G28 M28 U28 V28 D29 E29 G29 M29 U29 V29 D30 E30 G30 M30 U30 V30 D31 E31 G31 M31 U31 V31 D32 E32 G32 M32 U32 V32 D33 E33 G33 M33 U33 V33 D34 E34 G34 M34 U34 V34 D35 E35 G35 M35 U35 V35 D36 E36 G36 M36 U36 V36 D37 E37 G37 M37 U37 V37 D38 E38 G38 M38 U38 V38 D39 E39 G39 M39 U39 V39 D40 E40 G40 M40 U40 V40 D41 E41 G41 M41 U41 V41 D42 E42 G42 M42 U42 V42 D43 E43 G43 M43 U43 V43 D44 E44 G44 M44 U44 V44 D45 E45 G45 M45 U45 V45 D46 E46 G46 M46 U46 V46 D47 E47 G47 M47 U47 V47 D48 E48 G48 M48 U48 V48 D49 E49 G49 M49 U49 V49 D50 E50 G50 M50 U50 V50 D51 E51 G51 M51 U51 V51 D52 E52 G52 M52 U52 V52 D53 E53 G53 M53 U53 V53 D54 E54 G54 M54 U54 V54 D55 E55 G55 M55 U55 V55 D56 E56 G56 M56 U56 V56 D57 E57 G57 M57 U57 V57 D58 E58 G58 M58 U58 V58 D59 E59 G59 M59 U59 V59 D60 E60 G60 M60 U60 V60 D61 E61 G61 M61 U61 V61:Value}
  {Baa:Tok}
  {Bab:Tok}
  {ZERO:Addr} {Bd4:Option Addr} {Bd5:Nat} {Bd6:Array (Option Value)} {BdY BdZ:Tok}
  (g_NoNumber:NoNumber∘"NoNumber")
  (Bdz:Twice∘"Twice")
  (Bdg:NoName∘"NoName")
  (Bdh:NoPart∘"NoPart")
  (BdA:NoGap∘"NoGap")
  (Bdi:InRing∘"InRing")
  (BdB:Apart∘"Apart")
  (g_Tie:Tie∘"Tie")
  (g_Just:Just∘"Just")
  (g_Between:Between∘"Between")
  (BdI:Part∘"Part")
  (Bd0:Gap∘"Gap")
  (BcB:Joints∘"Joints")
  (Bdj:Thing∘"Thing")
  (Bdk:Scale∘"Scale")
  (g_Lid:Lid∘"Lid")
  (a1:f1∘"common_divisor") (l1:1∘"common_divisor"∘Bah) (c1:U1∣"common_divisor") (k1:-f1)
  (a2:f2∘"plus") (l2:2∘"plus"∘Bc4) (c2:U2∣"plus") (k2:-f2)
  (a3:f3∘"minus") (l3:3∘"minus"∘Bct) (c3:U3∣"minus") (k3:-f3)
  (a4:f4∘"times") (l4:4∘"times"∘Bcu) (c4:U4∣"times") (k4:-f4)
  (a5:f5∘"over") (l5:5∘"over"∘Bc5) (c5:U5∣"over") (k5:-f5)
  (a6:f6∘"under") (l6:6∘"under"∘Bcv) (c6:U6∣"under") (k6:-f6)
  (a7:f7∘"is_name") (l7:7∘"is_name"∘Bbu) (c7:U7∣"is_name") (k7:-f7)
  (a8:f8∘"is_whole") (l8:8∘"is_whole"∘Ba3) (c8:U8∣"is_whole") (k8:-f8)
  (a9:f9∘"is_fraction") (l9:9∘"is_fraction"∘BaA) (c9:U9∣"is_fraction") (k9:-f9)
  (a10:f10∘"is_bound") (l10:10∘"is_bound"∘Ba4) (c10:U10∣"is_bound") (k10:-f10)
  (a11:f11∘"are_faces") (l11:11∘"are_faces"∘BaU) (c11:U11∣"are_faces") (k11:-f11)
  (a12:f12∘"are_bounds") (l12:12∘"are_bounds"∘BaI) (c12:U12∣"are_bounds") (k12:-f12)
  (a13:f13∘"is_tie") (l13:13∘"is_tie"∘Bb6) (c13:U13∣"is_tie") (k13:-f13)
  (a14:Part/"__init__"/f14) (l14:14∘"__init__"∘"Part.__init__"∘Bam) (c14:U14∣"Part.__init__") (k14:-f14)
  (a15:Part/"plain"/f15) (l15:15∘"plain"∘"Part.plain"∘BaJ) (c15:U15∣"Part.plain") (k15:-f15)
  (a16:Gap/"__init__"/f16) (l16:16∘"__init__"∘"Gap.__init__"∘Baq) (c16:U16∣"Gap.__init__") (k16:-f16)
  (a17:Gap/"plain"/f17) (l17:17∘"plain"∘"Gap.plain"∘BaW) (c17:U17∣"Gap.plain") (k17:-f17)
  (a18:f18∘"is_part") (l18:18∘"is_part"∘Bbv) (c18:U18∣"is_part") (k18:-f18)
  (a19:f19∘"is_gap") (l19:19∘"is_gap"∘Bb7) (c19:U19∣"is_gap") (k19:-f19)
  (a20:f20∘"part_of") (l20:20∘"part_of"∘Bbw) (c20:U20∣"part_of") (k20:-f20)
  (a21:f21∘"gap_of") (l21:21∘"gap_of"∘Bb9) (c21:U21∣"gap_of") (k21:-f21)
  (a22:Joints/"__init__"/f22) (l22:22∘"__init__"∘"Joints.__init__"∘Baf) (c22:U22∣"Joints.__init__") (k22:-f22)
  (a23:Joints/"link"/f23) (l23:23∘"link"∘"Joints.link"∘BaB) (c23:U23∣"Joints.link") (k23:-f23)
  (a24:Joints/"way_between"/f24) (l24:24∘"way_between"∘"Joints.way_between"∘Bad) (c24:U24∣"Joints.way_between") (k24:-f24)
  (a25:Thing/"__init__"/f25) (l25:25∘"__init__"∘"Thing.__init__"∘Bai) (c25:U25∣"Thing.__init__") (k25:-f25)
  (a26:Thing/"parts"/f26) (l26:26∘"parts"∘"Thing.parts"∘BaC) (c26:U26∣"Thing.parts") (k26:-f26)
  (a27:Thing/"gaps"/f27) (l27:27∘"gaps"∘"Thing.gaps"∘BaK) (c27:U27∣"Thing.gaps") (k27:-f27)
  (a28:Thing/"way"/f28) (l28:28∘"way"∘"Thing.way"∘BaX) (c28:U28∣"Thing.way") (k28:-f28)
  (a29:Thing/"middle"/f29) (l29:29∘"middle"∘"Thing.middle"∘Bar) (c29:U29∣"Thing.middle") (k29:-f29)
  (a30:Thing/"room"/f30) (l30:30∘"room"∘"Thing.room"∘BaL) (c30:U30∣"Thing.room") (k30:-f30)
  (a31:Scale/"__init__"/f31) (l31:31∘"__init__"∘"Scale.__init__"∘Baj) (c31:U31∣"Scale.__init__") (k31:-f31)
  (a32:Scale/"lifted"/f32) (l32:32∘"lifted"∘"Scale.lifted"∘Bas) (c32:U32∣"Scale.lifted") (k32:-f32)
  (a33:Scale/"lowered"/f33) (l33:33∘"lowered"∘"Scale.lowered"∘Ban) (c33:U33∣"Scale.lowered") (k33:-f33)
  (a34:f34∘"scale_of") (l34:34∘"scale_of"∘Ba5) (c34:U34∣"scale_of") (k34:-f34)
  (a35:f35∘"part_names") (l35:35∘"part_names"∘BaM) (c35:U35∣"part_names") (k35:-f35)
  (a36:Lid/"__init__"/f36) (l36:36∘"__init__"∘"Lid.__init__"∘Bat) (c36:U36∣"Lid.__init__") (k36:-f36)
  (a37:Lid/"full_level"/f37) (l37:37∘"full_level"∘"Lid.full_level"∘Bak) (c37:U37∣"Lid.full_level") (k37:-f37)
  (a38:Lid/"settle"/f38) (l38:38∘"settle"∘"Lid.settle"∘BaN) (c38:U38∣"Lid.settle") (k38:-f38)
  (a39:Lid/"has_stopped"/f39) (l39:39∘"has_stopped"∘"Lid.has_stopped"∘Bag) (c39:U39∣"Lid.has_stopped") (k39:-f39)
  (a40:f40∘"lids_of") (l40:40∘"lids_of"∘Bbx) (c40:U40∣"lids_of") (k40:-f40)
  (a41:f41∘"most_levels") (l41:41∘"most_levels"∘BaD) (c41:U41∣"most_levels") (k41:-f41)
  (a42:f42∘"coming_stops") (l42:42∘"coming_stops"∘Bau) (c42:U42∣"coming_stops") (k42:-f42)
  (a43:f43∘"first_level") (l43:43∘"first_level"∘BaE) (c43:U43∣"first_level") (k43:-f43)
  (a44:f44∘"stopped_at") (l44:44∘"stopped_at"∘BaO) (c44:U44∣"stopped_at") (k44:-f44)
  (a45:f45∘"risen_levels") (l45:45∘"risen_levels"∘Bav) (c45:U45∣"risen_levels") (k45:-f45)
  (a46:f46∘"gap_stop") (l46:46∘"gap_stop"∘Ba6) (c46:U46∣"gap_stop") (k46:-f46)
  (a47:f47∘"share") (l47:47∘"share"∘Bcw) (c47:U47∣"share") (k47:-f47)
  (a48:f48∘"_law_cell") (l48:48∘"_law_cell"∘Ba7) (c48:U48∣"_law_cell") (k48:-f48)
  (a49:f49∘"_law_low") (l49:49∘"_law_low"∘Bby) (c49:U49∣"_law_low") (k49:-f49)
  (a50:f50∘"_law_plus") (l50:50∘"_law_plus"∘Ba8) (c50:U50∣"_law_plus") (k50:-f50)
  (a51:f51∘"_law_name") (l51:51∘"_law_name"∘Ba9) (c51:U51∣"_law_name") (k51:-f51)
  (a52:f52∘"_law_signed") (l52:52∘"_law_signed"∘BaP) (c52:U52∣"_law_signed") (k52:-f52)
  (a53:f53∘"_law_parts") (l53:53∘"_law_parts"∘BaZ) (c53:U53∣"_law_parts") (k53:-f53)
  (a54:f54∘"_law_gaps") (l54:54∘"_law_gaps"∘Bba) (c54:U54∣"_law_gaps") (k54:-f54)
  (a55:f55∘"share_ties") (l55:55∘"share_ties"∘BaR) (c55:U55∣"share_ties") (k55:-f55)
  (a56:f56∘"_law_turned") (l56:56∘"_law_turned"∘BaS) (c56:U56∣"_law_turned") (k56:-f56)
  (a57:f57∘"_law_due") (l57:57∘"_law_due"∘Bbz) (c57:U57∣"_law_due") (k57:-f57)
  (a58:Tie/"__init__"/f58) (l58:58∘"__init__"∘"Tie.__init__"∘Baw) (c58:U58∣"Tie.__init__") (k58:-f58)
  (a59:Tie/"plain"/f59) (l59:59∘"plain"∘"Tie.plain"∘Ba0) (c59:U59∣"Tie.plain") (k59:-f59)
  (a60:f60∘"tie_of") (l60:60∘"tie_of"∘Bcb) (c60:U60∣"tie_of") (k60:-f60)
  (a61:f61∘"law") (l61:61∘"law"∘Bdd) (c61:U61∣"law") (k61:-f61)
  (z_abs:W.nsIn K mainGlobals "abs"=some none)
  (z_isinstance:W.nsIn K mainGlobals "isinstance"=some none)
  (z_len:W.nsIn K mainGlobals "len"=some none)
  (z_int:W.nsIn K mainGlobals "int"=some none)
  (z_bool:W.nsIn K mainGlobals "bool"=some none)
  (z_tuple:W.nsIn K mainGlobals "tuple"=some none)
  (z_str:W.nsIn K mainGlobals "str"=some none)
  (z_range:W.nsIn K mainGlobals "range"=some none)
  (z_list:W.nsIn K mainGlobals "list"=some none)
  (z_min:W.nsIn K mainGlobals "min"=some none)
  (z_sorted:W.nsIn K mainGlobals "sorted"=some none)
  (z_all:W.nsIn K mainGlobals "all"=some none)
  (z_sum:W.nsIn K mainGlobals "sum"=some none)
  (z_dict:W.nsIn K mainGlobals "dict"=some none)
  (z_zip:W.nsIn K mainGlobals "zip"=some none)
  (Bbc:W.nsIn K mainGlobals "SMALL_LETTERS"=some (some (.str "abcdefghijklmnopqrstuvwxyz" Baa)))
  (Bbk:W.nsIn K mainGlobals "LONGEST_NAME"=some (some (.int 8 Bab)))
  (BdP:ZERO∘"ZERO")
  (h_ZERO:K.lookup ZERO=some ⟨.type "tuple",Bd4, .seq #[.int 0 BdY, .int 1 BdZ] Bd5,Bd6⟩)
  (x_NoNumber:W.excIn K NoNumber [.type "ValueError", .type "Exception", .type "BaseException", .type "object"] "ValueError.__new__"=true)
  (Bcs:W.excIn K Twice [.type "ValueError", .type "Exception", .type "BaseException", .type "object"] "ValueError.__new__"=true)
  (Bcd:W.excIn K NoName [.type "ValueError", .type "Exception", .type "BaseException", .type "object"] "ValueError.__new__"=true)
  (Bce:W.excIn K NoPart [.type "ValueError", .type "Exception", .type "BaseException", .type "object"] "ValueError.__new__"=true)
  (BcG:W.excIn K NoGap [.type "ValueError", .type "Exception", .type "BaseException", .type "object"] "ValueError.__new__"=true)
  (Bcf:W.excIn K InRing [.type "ValueError", .type "Exception", .type "BaseException", .type "object"] "ValueError.__new__"=true)
  (BcH:W.excIn K Apart [.type "ValueError", .type "Exception", .type "BaseException", .type "object"] "ValueError.__new__"=true)
  (mk_Just:W.makesIn K Just=true)
  (mi_Just:Just/"__init__"/f58)
  (mf_Just:W.isFn K (.ref f58)=true)
  (mp_Just:-Just)
  (me_plain_Just:Just/"plain"/f59)
  (mk_Between:W.makesIn K Between=true)
  (mi_Between:Between/"__init__"/f58)
  (mf_Between:W.isFn K (.ref f58)=true)
  (mp_Between:-Between)
  (me_plain_Between:Between/"plain"/f59)
  (BcC:W.isFn K (.ref f59)=true)
  (BdC:W.makesIn K Part=true)
  (BdD:Part/"__init__"/f14)
  (BdE:W.isFn K (.ref f14)=true)
  (BdF:-Part)
  (BdQ:W.makesIn K Gap=true)
  (BdR:Gap/"__init__"/f16)
  (BdS:W.isFn K (.ref f16)=true)
  (BdT:-Gap)
  (BcX:W.makesIn K Joints=true)
  (BcY:Joints/"__init__"/f22)
  (BcZ:W.isFn K (.ref f22)=true)
  (Bc0:-Joints)
  (Bdl:W.makesIn K Thing=true)
  (Bdm:Thing/"__init__"/f25)
  (Bdn:W.isFn K (.ref f25)=true)
  (Bdo:-Thing)
  (Bdp:W.makesIn K Scale=true)
  (Bdq:Scale/"__init__"/f31)
  (Bdr:W.isFn K (.ref f31)=true)
  (Bds:-Scale)
  (mk_Lid:W.makesIn K Lid=true)
  (mi_Lid:Lid/"__init__"/f36)
  (mf_Lid:W.isFn K (.ref f36)=true)
  (mp_Lid:-Lid)
  (BbC:Part/"plain"/f15)
  (BbD:W.isFn K (.ref f15)=true)
  (Bb1:Gap/"plain"/f17)
  (Bb2:W.isFn K (.ref f17)=true)
  (Bbl:Joints/"link"/f23)
  (Bbm:W.isFn K (.ref f23)=true)
  (Bay:Joints/"way_between"/f24)
  (Baz:W.isFn K (.ref f24)=true)
  (Bbn:Thing/"parts"/f26)
  (Bbo:W.isFn K (.ref f26)=true)
  (BbE:Thing/"gaps"/f27)
  (BbF:W.isFn K (.ref f27)=true)
  (Bb3:Thing/"way"/f28)
  (Bb4:W.isFn K (.ref f28)=true)
  (Bbd:Thing/"middle"/f29)
  (Bbe:W.isFn K (.ref f29)=true)
  (BbG:Thing/"room"/f30)
  (BbH:W.isFn K (.ref f30)=true)
  (Bbf:Scale/"lifted"/f32)
  (Bbg:W.isFn K (.ref f32)=true)
  (me_lowered_Scale:Scale/"lowered"/f33)
  (mm_lowered_Scale:W.isFn K (.ref f33)=true)
  (me_full_level_Lid:Lid/"full_level"/f37)
  (mm_full_level_Lid:W.isFn K (.ref f37)=true)
  (me_settle_Lid:Lid/"settle"/f38)
  (mm_settle_Lid:W.isFn K (.ref f38)=true)
  (me_has_stopped_Lid:Lid/"has_stopped"/f39)
  (mm_has_stopped_Lid:W.isFn K (.ref f39)=true)
  (cl1_Just:W.plainGet K Just Str.empty=true)
  (cl2_Just:W.hasDictIn K Just=true)
  (cl3_Just:W.plainOver K Just=true)
  (cl4_Just:W.findIn K (.ref Just) "__setattr__"=some (some (.builtin "object.__setattr__")))
  (na1_Just:Just/"name")
  (na2_Just:Just/"start")
  (na3_Just:Just/"end")
  (na4_Just:Just/"least")
  (na5_Just:Just/"greatest")
  (cl1_Between:W.plainGet K Between Str.empty=true)
  (cl2_Between:W.hasDictIn K Between=true)
  (cl3_Between:W.plainOver K Between=true)
  (cl4_Between:W.findIn K (.ref Between) "__setattr__"=some (some (.builtin "object.__setattr__")))
  (na1_Between:Between/"name")
  (na2_Between:Between/"start")
  (na3_Between:Between/"end")
  (na4_Between:Between/"least")
  (na5_Between:Between/"greatest")
  (Bcg:W.plainGet K Part Str.empty=true)
  (Bch:W.hasDictIn K Part=true)
  (Bci:W.plainOver K Part=true)
  (Bcj:W.findIn K (.ref Part) "__setattr__"=some (some (.builtin "object.__setattr__")))
  (Bck:Part/"name")
  (Bcl:Part/"start")
  (Bcm:Part/"end")
  (Bcn:Part/"size")
  (Bco:Part/"most")
  (Bcp:Part/"weight")
  (BcI:W.plainGet K Gap Str.empty=true)
  (BcJ:W.hasDictIn K Gap=true)
  (BcK:W.plainOver K Gap=true)
  (BcL:W.findIn K (.ref Gap) "__setattr__"=some (some (.builtin "object.__setattr__")))
  (BcM:Gap/"name")
  (BcN:Gap/"one")
  (BcO:Gap/"other")
  (BcP:Gap/"low")
  (BcQ:Gap/"high")
  (Bbp:W.plainGet K Joints Str.empty=true)
  (Bbq:W.hasDictIn K Joints=true)
  (Bbr:W.plainOver K Joints=true)
  (Bbs:W.findIn K (.ref Joints) "__setattr__"=some (some (.builtin "object.__setattr__")))
  (Bbt:Joints/"leads")
  (BbJ:W.plainGet K Thing Str.empty=true)
  (BbK:W.hasDictIn K Thing=true)
  (BbL:W.plainOver K Thing=true)
  (BbM:W.findIn K (.ref Thing) "__setattr__"=some (some (.builtin "object.__setattr__")))
  (BbN:Thing/"parts_by_name")
  (BbO:Thing/"gaps_by_name")
  (BbP:Thing/"ways")
  (BbQ:W.plainGet K Scale Str.empty=true)
  (BbR:W.hasDictIn K Scale=true)
  (BbS:W.plainOver K Scale=true)
  (BbT:W.findIn K (.ref Scale) "__setattr__"=some (some (.builtin "object.__setattr__")))
  (BbU:Scale/"bottom")
  (BbV:Scale/"factors")
  (cl1_Lid:W.plainGet K Lid Str.empty=true)
  (cl2_Lid:W.hasDictIn K Lid=true)
  (cl3_Lid:W.plainOver K Lid=true)
  (cl4_Lid:W.findIn K (.ref Lid) "__setattr__"=some (some (.builtin "object.__setattr__")))
  (na1_Lid:Lid/"name")
  (na2_Lid:Lid/"rest")
  (na3_Lid:Lid/"weights")
  (na4_Lid:Lid/"load")
  (na5_Lid:Lid/"last_level")
  : ∃ fd:FuncData,(∀ (s:Shared) (v:Value),BindsTo s fd ⟨[v],[]⟩ [("_law_script",v)])/\∀ base:Heap,K.In base->base.Ns mainGlobals mg->FnOk l.prog w K mg base (CX1 l.prog w) 12 fa fd ["_law_script"] (Bdt K):=by
 have e:=hfa.symm.trans (W.mg_of X G a61);cases e;have T:Txt K mg ∅:=⟨W.mg_none_of X G z_abs,W.mg_none_of X G z_isinstance,W.mg_none_of X G z_len,W.mg_none_of X G z_int,W.mg_none_of X G z_bool,W.mg_none_of X G z_tuple,W.mg_none_of X G z_str,W.mg_none_of X G z_range,W.mg_none_of X G z_list,W.mg_none_of X G z_min,W.mg_none_of X G z_sorted,W.mg_none_of X G z_all,W.mg_none_of X G z_sum,W.mg_none_of X G z_dict,W.mg_none_of X G z_zip,W.mg_of X G g_NoNumber,W.mg_of X G Bdz,W.mg_of X G Bdg,W.mg_of X G Bdh,W.mg_of X G BdA,W.mg_of X G Bdi,W.mg_of X G BdB,W.mg_of X G g_Tie,W.mg_of X G g_Just,W.mg_of X G g_Between,W.mg_of X G BdI,W.mg_of X G Bd0,W.mg_of X G BcB,W.mg_of X G Bdj,W.mg_of X G Bdk,W.mg_of X G g_Lid,W.mg_of X G Bbc,⟨_,rfl⟩,W.mg_of X G Bbk,⟨_,rfl⟩,W.mg_of X G BdP,rfl,fun H=>.inr ⟨_,_,_,h_ZERO,rfl,rfl,by show 2<=sizeLine;decide, .cons ⟨_,rfl⟩ (.cons ⟨_,rfl⟩ (.nil))⟩,x_NoNumber,Bcs,Bcd,Bce,BcG,Bcf,BcH,cl1_Just,cl2_Just,cl3_Just,cl4_Just,na1_Just,na2_Just,na3_Just,na4_Just,na5_Just,cl1_Between,cl2_Between,cl3_Between,cl4_Between,na1_Between,na2_Between,na3_Between,na4_Between,na5_Between,Bcg,Bch,Bci,Bcj,Bck,Bcl,Bcm,Bcn,Bco,Bcp,BcI,BcJ,BcK,BcL,BcM,BcN,BcO,BcP,BcQ,Bbp,Bbq,Bbr,Bbs,Bbt,BbJ,BbK,BbL,BbM,BbN,BbO,BbP,BbQ,BbR,BbS,BbT,BbU,BbV,cl1_Lid,cl2_Lid,cl3_Lid,cl4_Lid,na1_Lid,na2_Lid,na3_Lid,na4_Lid,na5_Lid,(fun C hC=>by rcases hC with rfl | rfl <;> first | exact ⟨⟨cl1_Just,cl2_Just,cl3_Just,cl4_Just⟩,na1_Just,na2_Just,na3_Just,na4_Just,na5_Just⟩ | exact ⟨⟨cl1_Between,cl2_Between,cl3_Between,cl4_Between⟩,na1_Between,na2_Between,na3_Between,na4_Between,na5_Between⟩),(fun C hC=>by cases hC;exact ⟨⟨Bcg,Bch,Bci,Bcj⟩,Bck,Bcl,Bcm,Bcn,Bco,Bcp⟩),(fun C hC=>by cases hC;exact ⟨⟨BcI,BcJ,BcK,BcL⟩,BcM,BcN,BcO,BcP,BcQ⟩),(fun C hC=>by cases hC;exact ⟨⟨Bbp,Bbq,Bbr,Bbs⟩,Bbt⟩),(fun C hC=>by cases hC;exact ⟨⟨BbJ,BbK,BbL,BbM⟩,BbN,BbO,BbP⟩),(fun C hC=>by cases hC;exact ⟨⟨BbQ,BbR,BbS,BbT⟩,BbU,BbV⟩),(fun C hC=>by cases hC;exact ⟨⟨cl1_Lid,cl2_Lid,cl3_Lid,cl4_Lid⟩,na1_Lid,na2_Lid,na3_Lid,na4_Lid,na5_Lid⟩)⟩;have F1:=Jao l1 c1 k1;have F2:=Jao l2 c2 k2;have F3:=Jao l3 c3 k3;have F4:=Jao l4 c4 k4;have F5:=Jao l5 c5 k5;have F6:=Jao l6 c6 k6;have F7:=Jao l7 c7 k7;have F8:=Jao l8 c8 k8;have F9:=Jao l9 c9 k9;have F10:=Jao l10 c10 k10;have F11:=Jao l11 c11 k11;have F12:=Jao l12 c12 k12;have F13:=Jao l13 c13 k13;have F14:=Jao l14 c14 k14;have F15:=Jao l15 c15 k15;have F16:=Jao l16 c16 k16;have F17:=Jao l17 c17 k17;have F18:=Jao l18 c18 k18;have F19:=Jao l19 c19 k19;have F20:=Jao l20 c20 k20;have F21:=Jao l21 c21 k21;have F22:=Jao l22 c22 k22;have F23:=Jao l23 c23 k23;have F24:=Jao l24 c24 k24;have F25:=Jao l25 c25 k25;have F26:=Jao l26 c26 k26;have F27:=Jao l27 c27 k27;have F28:=Jao l28 c28 k28;have F29:=Jao l29 c29 k29;have F30:=Jao l30 c30 k30;have F31:=Jao l31 c31 k31;have F32:=Jao l32 c32 k32;have F33:=Jao l33 c33 k33;have F34:=Jao l34 c34 k34;have F35:=Jao l35 c35 k35;have F36:=Jao l36 c36 k36;have F37:=Jao l37 c37 k37;have F38:=Jao l38 c38 k38;have F39:=Jao l39 c39 k39;have F40:=Jao l40 c40 k40;have F41:=Jao l41 c41 k41;have F42:=Jao l42 c42 k42;have F43:=Jao l43 c43 k43;have F44:=Jao l44 c44 k44;have F45:=Jao l45 c45 k45;have F46:=Jao l46 c46 k46;have F47:=Jao l47 c47 k47;have F48:=Jao l48 c48 k48;have F49:=Jao l49 c49 k49;have F50:=Jao l50 c50 k50;have F51:=Jao l51 c51 k51;have F52:=Jao l52 c52 k52;have F53:=Jao l53 c53 k53;have F54:=Jao l54 c54 k54;have F55:=Jao l55 c55 k55;have F56:=Jao l56 c56 k56;have F57:=Jao l57 c57 k57;have F58:=Jao l58 c58 k58;have F59:=Jao l59 c59 k59;have F60:=Jao l60 c60 k60;have F61:=Jao l61 c61 k61;refine ⟨W.fnOf "law" "law" (Jam Bdd) (Jal Bdd) (Jae Bdd) .none E61 G61 M61 B61 U61 V61,fun s v=>.of_eq rfl,fun base _ _=>?_⟩;have cC:∀ {k:Nat} {x:Str} {ps:List Str} {sp:Sp} {f:Addr} {fd:FuncData},FnOk l.prog w K mg base (CX1 l.prog w) k f fd ps sp->W.nsIn K mainGlobals x=some (some (.ref f))->W.keepIn K (.ref f)=true->Binds K fd ps []->Cal l.prog w K mg base k x ps [] sp:=fun h a c b=>⟨_,_,[],h,W.mg_of X G a,c,b, .nil⟩;have cK:∀ {k:Nat} {x:Str} {ps:List Str} {sp:Sp} {f C:Addr} {fd:FuncData},FnOk l.prog w K mg base (CX1 l.prog w) k f fd ps sp->W.nsIn K mainGlobals x=some (some (.ref C))->Mk K C f->Binds K fd ps []->KCal l.prog w K mg base k x C ps sp:=fun h a c b=>⟨_,_,h,W.mg_of X G a,c,b⟩;have cM:∀ {k:Nat} {m:Str} {Cs:Addr->Prop} {ps:List Str} {sp:Sp} {f:Addr} {fd:FuncData},FnOk l.prog w K mg base (CX1 l.prog w) k f fd ps sp->(∀ C,Cs C->Cls K C/\Meth K C m f)->W.keepIn K (.ref f)=true->Binds K fd ps []->MCal l.prog w K mg base k m Cs ps sp:=fun h a c b=>⟨_,_,h,a,c,b⟩;have Bac:=cC (Jdv F1 T) a1 k1 (F1.binds (by bv_omega));have Bcr:=cC (Jkt F2 T Bac) a2 k2 (F2.binds (by bv_omega));have BaY:=cC (Ji7 F3 T Bcr) a3 k3 (F3.binds (by bv_omega));have Bbh:=cC (Ji9 F4 T Bac) a4 k4 (F4.binds (by bv_omega));have Bc7:=cC (Jks F5 T Bbh) a5 k5 (F5.binds (by bv_omega));have BaG:=cC (Jja F6 T) a6 k6 (F6.binds (by bv_omega));have BaF:=cC (Jhn F7 T) a7 k7 (F7.binds (by bv_omega));have BaT:=cC (Jgp F8 T) a8 k8 (F8.binds (by bv_omega));have Bap:=cC (JeC F9 T BaT Bac) a9 k9 (F9.binds (by bv_omega));have Bb5:=cC (Jgo F10 T Bap) a10 k10 (F10.binds (by bv_omega));have BaV:=cC (JfQ F11 T BaF) a11 k11 (F11.binds (by bv_omega));have BbW:=cC (Jfb F12 T Bb5 BaG) a12 k12 (F12.binds (by bv_omega));have Bb8:=cC (Jid F13 T BaF BaV BbW) a13 k13 (F13.binds (by bv_omega));have BdM:=cK (JdG F14 T) BdI ⟨BdC,BdD,BdE,BdF⟩ (F14.binds (by bv_omega));have Bdx:=cM (m:="plain") (Cs:=IsPart ∅) (Je8 F15 T) (fun C hC=>⟨(T.Bc3 C hC).cls,(by cases hC;exact ⟨BbC,BbD,k15⟩)⟩) k15 (F15.binds (by bv_omega));have Bd3:=cK (Jd7 F16 T) Bd0 ⟨BdQ,BdR,BdS,BdT⟩ (F16.binds (by bv_omega));have BcU:=cM (m:="plain") (Cs:=IsGap ∅) (JfN F17 T) (fun C hC=>⟨(T.BdL C hC).cls,(by cases hC;exact ⟨Bb1,Bb2,k17⟩)⟩) k17 (F17.binds (by bv_omega));have BcS:=cC (Jho F18 T BaF BaV Bap BaT BaG) a18 k18 (F18.binds (by bv_omega));have Bc9:=cC (Jic F19 T Bb8) a19 k19 (F19.binds (by bv_omega));have BcT:=cC (Jhs F20 T BcS BdM) a20 k20 (F20.binds (by bv_omega));have Bdb:=cC (Jib F21 T Bc9 Bd3) a21 k21 (F21.binds (by bv_omega));have Bda:=cK (Jc9 F22 T) BcB ⟨BcX,BcY,BcZ,Bc0⟩ (F22.binds (by bv_omega));have BdN:=cM (m:="link") (Cs:=Jc4 ∅) (Jez F23 T) (fun C hC=>⟨(T.Bcq C hC).cls,(by cases hC;exact ⟨Bbl,Bbm,k23⟩)⟩) k23 (F23.binds (by bv_omega));have Ba2:=cM (m:="way_between") (Cs:=Jc4 ∅) (JcF F24 T) (fun C hC=>⟨(T.Bcq C hC).cls,(by cases hC;exact ⟨Bay,Baz,k24⟩)⟩) k24 (F24.binds (by bv_omega));have Bde:=cK (Jdu F25 T Bda BcT Bdb Ba2 BdN) Bdj ⟨Bdl,Bdm,Bdn,Bdo⟩ (F25.binds (by bv_omega));have BaH:=cM (m:="parts") (Cs:=Ja8 ∅) (JeA F26 T Bdx) (fun C hC=>⟨(T.Bbb C hC).cls,(by cases hC;exact ⟨Bbn,Bbo,k26⟩)⟩) k26 (F26.binds (by bv_omega));have Bc6:=cM (m:="gaps") (Cs:=Ja8 ∅) (Je9 F27 T BcU) (fun C hC=>⟨(T.Bbb C hC).cls,(by cases hC;exact ⟨BbE,BbF,k27⟩)⟩) k27 (F27.binds (by bv_omega));have BdJ:=cM (m:="way") (Cs:=Ja8 ∅) (JfO F28 T) (fun C hC=>⟨(T.Bbb C hC).cls,(by cases hC;exact ⟨Bb3,Bb4,k28⟩)⟩) k28 (F28.binds (by bv_omega));have Bdc:=cM (m:="middle") (Cs:=Ja8 ∅) (Jea F29 T BdJ Bcr BaY) (fun C hC=>⟨(T.Bbb C hC).cls,(by cases hC;exact ⟨Bbd,Bbe,k29⟩)⟩) k29 (F29.binds (by bv_omega));have BdO:=cM (m:="room") (Cs:=Ja8 ∅) (Jfa F30 T Bdc BaY BaG) (fun C hC=>⟨(T.Bbb C hC).cls,(by cases hC;exact ⟨BbG,BbH,k30⟩)⟩) k30 (F30.binds (by bv_omega));have Bdy:=cK (Jdt F31 T Bac) Bdk ⟨Bdp,Bdq,Bdr,Bds⟩ (F31.binds (by bv_omega));have Bca:=cM (m:="lifted") (Cs:=Jdn ∅) (Jd9 F32 T Bac) (fun C hC=>⟨(T.BcR C hC).cls,(by cases hC;exact ⟨Bbf,Bbg,k32⟩)⟩) k32 (F32.binds (by bv_omega));have m_lowered:=cM (m:="lowered") (Cs:=Jdn ∅) (JdH F33 T Bac) (fun C hC=>⟨(T.BcR C hC).cls,(by cases hC;exact ⟨me_lowered_Scale,mm_lowered_Scale,k33⟩)⟩) k33 (F33.binds (by bv_omega));have Bcx:=cC (Jgu F34 T BaH Bc6 Bdy) a34 k34 (F34.binds (by bv_omega));have BbX:=cC (Jfe F35 T BdJ) a35 k35 (F35.binds (by bv_omega));have k_Lid:=cK (Jd8 F36 T) g_Lid ⟨mk_Lid,mi_Lid,mf_Lid,mp_Lid⟩ (F36.binds (by bv_omega));have m_full_level:=cM (m:="full_level") (Cs:=IsLid ∅) (Jds F37 T Bc7) (fun C hC=>⟨(T.c_Lid C hC).cls,(by cases hC;exact ⟨me_full_level_Lid,mm_full_level_Lid,k37⟩)⟩) k37 (F37.binds (by bv_omega));have m_settle:=cM (m:="settle") (Cs:=IsLid ∅) (Je7 F38 T BaY Bbh) (fun C hC=>⟨(T.c_Lid C hC).cls,(by cases hC;exact ⟨me_settle_Lid,mm_settle_Lid,k38⟩)⟩) k38 (F38.binds (by bv_omega));have m_has_stopped:=cM (m:="has_stopped") (Cs:=IsLid ∅) (Jda F39 T) (fun C hC=>⟨(T.c_Lid C hC).cls,(by cases hC;exact ⟨me_has_stopped_Lid,mm_has_stopped_Lid,k39⟩)⟩) k39 (F39.binds (by bv_omega));have BcV:=cC (Jhr F40 T BaH Bc6 BdO BaG BbX k_Lid Bca) a40 k40 (F40.binds (by bv_omega));have BbB:=cC (JeD F41 T BaH Bca Bc7) a41 k41 (F41.binds (by bv_omega));have Bbi:=cC (Jec F42 T m_full_level) a42 k42 (F42.binds (by bv_omega));have BbA:=cC (JeB F43 T BaG) a43 k43 (F43.binds (by bv_omega));have BbY:=cC (Jfg F44 T) a44 k44 (F44.binds (by bv_omega));have Bbj:=cC (Jed F45 T Bbi BbA BbY m_settle) a45 k45 (F45.binds (by bv_omega));have Bcy:=cC (Jgn F46 T m_has_stopped) a46 k46 (F46.binds (by bv_omega));have Bcz:=cC (Ji8 F47 T Bcx BcV BbB Bbj BaH m_lowered Bbh Bcy) a47 k47 (F47.binds (by bv_omega));have Bae:=cC (Jgq F48 T) a48 k48 (F48.binds (by bv_omega));have Bax:=cC (Jhq F49 T) a49 k49 (F49.binds (by bv_omega));have Bal:=cC (Jgt F50 T Bax) a50 k50 (F50.binds (by bv_omega));have BaQ:=cC (Jgs F51 T) a51 k51 (F51.binds (by bv_omega));have BbZ:=cC (Jfc F52 T) a52 k52 (F52.binds (by bv_omega));have Bcc:=cC (JfR F53 T Bae BaQ Bax Bal BbZ) a53 k53 (F53.binds (by bv_omega));have BcA:=cC (Jgr F54 T Bae BaQ Bax Bal) a54 k54 (F54.binds (by bv_omega));have Ba1:=cC (Jff F55 T Bcz BaH BaY Bcr) a55 k55 (F55.binds (by bv_omega));have Bb0:=cC (Jfd F56 T) a56 k56 (F56.binds (by bv_omega));have BcW:=cC (Jhp F57 T Bal) a57 k57 (F57.binds (by bv_omega));have K58:=Jeb (P:=l.prog) (w:=w) (base:=base) F58 T;have k_Just:=cK (Jeb F58 T) g_Just ⟨mk_Just,mi_Just,mf_Just,mp_Just⟩ (F58.binds (by bv_omega));have k_Between:=cK K58 g_Between ⟨mk_Between,mi_Between,mf_Between,mp_Between⟩ (F58.binds (by bv_omega));have m_plain_T:=cM (m:="plain") (Cs:=IsTie ∅) (JfP F59 T) (fun C hC=>⟨(T.tie C hC).cls,(by rcases hC with rfl | rfl <;> first | exact ⟨me_plain_Just,BcC,k59⟩ | exact ⟨me_plain_Between,BcC,k59⟩)⟩) k59 (F59.binds (by bv_omega));have Bdf:=cC (Jie F60 T Bb8 k_Just k_Between) a60 k60 (F60.binds (by bv_omega));exact Jlj F61 T Bae Bcc BcA Bb0 Bde Bcz BcW Ba1 Bdf m_plain_T
theorem walk {l:PySem.W.OpenLaw} {q:Program} {loose:List Str} {XP:(Str->Option Value)->Heap->Prop} {YP:World->Heap->Prop} {d:DefRec} {K:Params->PySem.W.Frag} (hn:l.most=some 63) (hdf:d.params.defaults=[])
  (hY:∀ (w:World) (h:Heap),YP w h->(K w.params).In h)
  (F:∀ (w:World) (mg:Str->Option Value) (fa:Addr) (h:Heap),(K w.params).In h->h.Ns mainGlobals mg->mg d.name=some (.ref fa) ->
   ∃ fd:FuncData,(∀ (s:Shared) (u:Value),BindsTo s fd ⟨[u],[]⟩ [("_law_script",u)])/\∀ base:Heap,(K w.params).In base->base.Ns mainGlobals mg->FnOk l.prog w (K w.params) mg base (CX1 l.prog w) 12 fa fd ["_law_script"] (Bdt (K w.params))) :
  PySem.W.WalkO q loose XP YP l.row.toRowW d [] (fun f vs=>PySem.call f vs) :=
 L2.JiR (n:=63) (k:=12) (x:="_law_script") (CX:=fun w=>CX1 l.prog w) (sp:=fun w=>Bdt (K w.params)) hn (by decide) hdf ⟨rfl,by decide,by decide⟩ hY F (fun _ _ a ns hl _ hS=>⟨a,ns,rfl,hS,hl,fun _=>rfl⟩) fun _ _ _ _ _ z=>by
  obtain ⟨_,_,_,_,_,_,_,_,_,_,_,z⟩:=z;exact z
end Prg
open PySem PySem.W PyProof.Rows
local macro_rules|`(command|universe $xs*)=>do return Lean.mkNullNode (<-xs.mapM fun x=>`(command|def $(Lean.mkIdent (.str `PySem.W.Fast s!"tw{(x.getId.toString.drop 1)}")):ident:Nat:=0))
universe u10011823264297674981 u10028726718967530610 u10034469115978589885 u10039937843120760217 u10085697005763700436 u1008797124021465551 u10129842683336669620 u10141738650110828130 u10152691359808700731 u1015637024724303194 u10158348363963564842 u10160558665125207143 u10169328627764468796 u10202771243304515639 u10299740848374709598 u10304834405196205136 u10317995624455626841 u10322768791857388329 u10344465313523947788 u10346516318219962861 u10373207956723007287 u10407073780698746070 u10423318342755941060 u10434018622082567280 u10467806148176781709 u10482481330935435562 u10493874004028252640 u10525998107200030542 u10536258305907269935 u10566654674821956855 u10591114365844904002 u10633622893011861666 u10635172365860082982 u10661230423954393859 u10665721353737343674 u1068842897318578185 u10704614249946477285 u10715058905769078924 u10720140873707907364 u10740920238585776278 u10761144711096672105 u10798707422289454764 u10839030008821235696 u10846588893280240411 u10851168271711763147 u10858346081557047820 u10861571828560641983 u10906639306508401726 u10963420705587226296 u10984039135461582536 u10997045450464534354 u11013189660605831702 u11020603676605077197 u11037878408251133643 u11052358007493707612 u1105572595150574270 u11058228005172096342 u11058238680974480438 u11099723812362955712 u11131633789710815718 u11136668237772862437 u11162278095435544955 u11164878668822745556 u11170597314156295061 u1117845498277219723 u11196881770368975242 u11198407757001014083 u11237745095258005048 u1123949269390676529 u11282815697350592939 u11313838242418644145 u11314242617837274638 u11323925355327063703 u11357734488612758329 u11375871700951533283 u11407949971660092116 u11434270408762353108 u11451947362110227286 u11453601836661405093 u11457913324557183223 u11483756143448950587 u11511504591355079551 u11549254719627494955 u1155871141873864448 u11614725758016555587 u11616236316047781023 u11631644078992392988 u11655101600090504925 u116623889277163150 u1169822716696567262 u11703598259205989897 u11746279999589262431 u11774862209546443683 u11798658262899808061 u11817500268563294641 u11835582855900946719 u11875979536020032574 u11965093202113074712 u11971188050492180614 u12007582636729211864 u12010758157410114783 u1206313074772662650 u12120893326709920588 u12137107323623347669 u12138265129444111287 u12147692835446099119 u12160381865884541434 u12195932705606768593 u12245649658112567597 u12250990848015388088 u12256347328784621251 u12295964908916960303 u12296485040575182553 u12306723621329932200 u12311434062554701611 u12381877274627691465 u12384514848756057587 u12388879570820944765 u12393959174443282129 u12415285063075775940 u12463244868385296254 u12471417722204881018 u12495413022756564818 u12518260412734700294 u12524799733675810513 u12548641713189903081 u12555196130917744765 u12572968009050808731 u12649864009319460939 u12814659327461052562 u12846705008620524247 u1284774303989494052 u12849681763827220842 u12886976554383568201 u12890392533604616370 u12892355738858905116 u12921800276418284637 u12929357080619354467 u12972485814634481450 u12977554997454592800 u12979245136888185332 u13020346636375521620 u13031119099185532591 u13040338600483389802 u13081050933495185660 u13100736649213473484 u13101572163715094701 u13131933504134265268 u13132136440650977631 u13132264008731049785 u13176754248102678701 u13183701570782223181 u13189416431776004213 u13239121724613870209 u13245075616543340997 u13306683990681927994 u13325917622852571348 u13341027052796191454 u13341696045084461497 u13386538371653801261 u13421353216751258241 u13428266853837087365 u13439624954597250547 u13490165792840454383 u13490957760664321845 u13493332558343808482 u13502242220191595279 u135289807177477016 u13541813462990938161 u13561795537006705594 u13563771821777831789 u1360420438967007322 u13641248875127956147 u13645354891974871725 u13662122325795445070 u13669215403975596515 u13716464428036897790 u13753600035681847935 u13778151716058321308 u13853325042777560043 u13869829713645314357 u1388882887501251714 u13944274876298987200 u1395141396090282432 u13954198011225770862 u13954844793688357043 u13958653181039152805 u13961027910483448667 u13981686583589908081 u14016943956244175602 u14042255890553792072 u14056821203000541416 u14058154534215586026 u14094546544130191976 u14112930130822117548 u14146059779849990757 u14146743970916156879 u14228949789003908349 u14236629313533572370 u14255596673796494393 u14367531733218481143 u14388445086314652392 u14418053234313685141 u14430675607891571081 u14436425149966834865 u1447322551011585620 u14482116882722692416 u14515051327718923270 u14525394641642829795 u14535830712973713643 u1466247388046174678 u14710168272190990190 u14712383622025943129 u1473769827357452187 u14747139328602942755 u14752350011761571393 u14772345226181331264 u14775816891940688129 u1478414950117945065 u14786147270488782396 u14793049801222636861 u14799060958981462334 u14872777931280082913 u14881817437808214050 u14910179220628895926 u14924699180889159125 u14935113291612244436 u14940528955944168739 u1495057435003412599 u14958194275386214357 u14963893159644181594 u14971920032572493654 u14990494867242769619 u15033012999554309905 u15091768599154868160 u15102896412889013389 u15108399986852799349 u15112647214771672272 u15136647128240937364 u1517510321128374224 u15199022671844191837 u15217239491208412706 u15229849735541934009 u15276416956420832439 u15279161903623304850 u15292128517116753602 u15363396003744188405 u15366415251396323884 u15366420638867303284 u15377857985582401426 u15400554511719435791 u15440758846393965294 u15444078388785680081 u15460217045899922128 u15524759107475397587 u15545830785887309944 u15567638913634387909 u15586259654029876897 u15597696966612693066 u15607876669709532098 u15668818671750022187 u15671613556049216764 u15680596549950497210 u15712689525782378604 u15722559707001792376 u15739996233060944044 u15759369119960013945 u1576660824985467082 u15781738137667012306 u15789848209373396781 u15854786635634698700 u15854817639641302653 u1591989866746244767 u15921266944623288299 u15922205143325678194 u15976636691085992064 u16012130253265144113 u16017811355361603506 u16021899734695790063 u16026210933092090913 u16043099963486694175 u16073331779087312417 u16082888899294359384 u16087208507261862227 u1610759829465268532 u16115479104753977400 u16131599672875770329 u16176244899392009767 u16214692567971960690 u16230617653576219794 u16233300013826202183 u16247805313433618815 u16260215213246091108 u16284006697609118940 u16302355224286065113 u16331861727801250107 u16337689826629310478 u16347204423935629404 u16372240460093938343 u16389597104117249412 u16426143676823760261 u16495428556056209793 u16523727374530499401 u16543390698630413113 u16556159898678253387 u16560669028008097836 u1657670719317842039 u16628014988656820422 u16676702961899140650 u16718005332105169076 u1676311078801209616 u16770393913492390812 u16783269072159626060 u16807155547153650885 u16835684410355818853 u16852865710217996484 u16856965725708916074 u16871499104177720931 u16872249407834915139 u16943453522429018668 u16947060591313220943 u16976830178152243071 u16985465452030308620 u17028168708126214635 u17040481328137197738 u17064604878766262950 u17081722738235983136 u17083910391525561398 u17112207460165054189 u17125908062871849555 u17141853558852355075 u17150353261167630239 u17160338520287780531 u17170091464911240020 u17192687885182741954 u17200128441629892182 u17219808641023952522 u17237528331712403491 u17262504938660299048 u17276448853825328366 u17320586875455412189 u17406512112560226785 u17433080947968693216 u17442157739088099274 u1755457667672169068 u17557909729703135285 u17565830856093714813 u17574265938464230355 u17578707046552018128 u17589107656347846413 u17593269612229901664 u17599589094430359207 u17607955526379774812 u17646082477665094245 u17657075484125953999 u17674607769501989607 u17730304747886637020 u17787423479955001773 u177916811163967830 u1779374699594131816 u17807377597317148690 u1785097668831522581 u17867258968676530391 u17884623249414202651 u17919865931377220043 u17942487514746076254 u17948220453989162426 u18008031695571136873 u18017719569639685882 u18027420411979585141 u18035638392441598926 u180368374142170305 u18044239709791080841 u18068937620077404508 u18076931314991931674 u18080663656028067148 u18084226652232332635 u18155503232457541311 u18156538008640212341 u18170160525247615743 u18176559109984093181 u1820395445862107510 u18210237080959318758 u18215318637905388632 u18241465927341877654 u18270170631460849634 u18281858282895843971 u18298520192526163293 u18309058644331966118 u18324313992140704021 u18325932755960280261 u1834952300446164561 u18359483635875171125 u18382715328515751848 u18388175885179369261 u18400427576987859798 u18429542617279353387 u18445082234038131451 u1950965196266649646 u1978406670042688012 u1995516823735605133 u2006585737703574292 u2062876419303251870 u2079456721353986542 u210655057650536736 u2121809624018861284 u213445448933338938 u2143027835959096811 u2145273167813007790 u2156200303638545198 u2171386875812624670 u2173141951953152716 u2173432981738483406 u2201225275412778522 u2288914585331164000 u2315045699213708011 u2318439250330450245 u2442327705053484970 u2445664227297571491 u2456754873971757899 u2462320997054740002 u2496421562954985746 u2544960599774177950 u2551917199386506176 u2570400586214871814 u2617776247782402023 u2651498083364724631 u2668527278363511931 u2726997274470575799 u2740343736985663272 u2779084897019180893 u2818572202228627261 u2908536339260687775 u2974291558000581778 u3003211471822578471 u3014353303756156083 u3053632904525206609 u3079387486257756170 u3190281620824890773 u321567696069710782 u3235980421710483311 u3252303163127942890 u328676036345136664 u3292584438649902582 u3336168087229288845 u333870462201388297 u339372439160604920 u339997127586661924 u3404165535259018895 u3432899060857142143 u3566038018282015021 u3586332307312677225 u3596686829600513055 u3645039041815588099 u3665917374653825503 u3670788142117789780 u3705789893251456404 u3749546349180361681 u3768149125353694875 u3799788049935923892 u3829239610417866402 u3844860495086049620 u3883598625236358887 u3932676664391553753 u3936482668861116010 u3957352683731037408 u3965859614231226395 u4020284154793801230 u4070188499786447705 u4113593474059373644 u4122867433212090182 u4129501372617507004 u4138014610783102563 u4165475346076844480 u4230761788073879564 u4284120153674958164 u4334099913160856047 u4362718288100594481 u4377376325096948268 u4390991644867067044 u4407648503828152658 u4418445495511580759 u4439312377825451446 u4445054649912561364 u4476230234027151273 u4485659672691354423 u4492246018620991201 u4602223109521582341 u4654403673191727183 u4678502146675520373 u4709733980199737755 u4747202333886584297 u4806497356454116219 u481547118682583723 u4841789571074674804 u4855829306870516234 u4856418143308467428 u4894462863889619133 u4899773165968065353 u4900561870722246775 u491860178523412182 u4936064236209327690 u4942375422593560606 u4943534513655397391 u4964071022814503229 u5063197527816028193 u5086907382934828606 u5111346185095540537 u5123174923224602452 u5129878888567343908 u5134661888025391988 u5205160370788687657 u5220007178931722368 u5241369457156830344 u5246331271810271379 u5252352722323140857 u5275773790805997737 u527927491214688826 u5301037721725932355 u5325528086412071158 u5340664774730044055 u5365539758848712133 u5367252992615973257 u5389911961192156189 u5439600450412779850 u5455036945895715810 u5510619549583643344 u5526561653621213615 u5542940785939313768 u5618671647849913122 u5635370741722054176 u5643813348599737385 u5734457469315452202 u5759478639793358836 u5767382203317830725 u5785748239572307265 u5793193965293746975 u5849671047957313240 u5862839898377740009 u5894721452608420611 u5914530238241545419 u5916403725981748186 u5948093524730837974 u5949878557567731417 u5981581595830254297 u6027338171512505327 u6038617001936787012 u6042896944078228303 u6058068949085827945 u6068678999708335531 u6078442481916405537 u6098492681160574062 u6130129723029908757 u6164668861803962486 u6183539280706208453 u6200917495937766861 u6213188119625088186 u6232282926253849559 u6247434958015967142 u6263337387258024457 u6298057275793943279 u6304210452542220991 u6316173939824053098 u6351115408624796401 u6384429822240978474 u6405257030319678206 u6411778920627062580 u6415582300584387510 u6441601373564924641 u6458176670534613760 u6472535788682901883 u6493620302914072877 u6496625605780218631 u6502110382751437277 u6530921145334318494 u6557865635154435812 u6559671964870432550 u6560678720598929724 u6580759295065163569 u6585934075895997621 u6600886052701821373 u6602295369066919963 u6656872655615316571 u6668878055922927470 u6675951092998323732 u6688913851333908125 u6699125754464882293 u6736793202631810990 u6774388714387722586 u6864960881200221096 u6884435560242746933 u6923285966118020203 u6974695409221985872 u6997656325815013785 u7045747572608407420 u7065105191153934008 u7094096091993065168 u7170809940557723097 u72117321634644404 u721336662626319646 u7230772991413310671 u7244785611282405115 u724940241277273365 u7272955149418976719 u7274562245704978942 u7295185990343103945 u7368270719902080647 u7383222594428111592 u7404863823062746048 u7433824391731638437 u7435407290303531088 u744640582623274932 u7474476499769251126 u7475391718842990343 u7491293257163359470 u7504369094729076874 u7514851885315806703 u7522138673692170851 u7531140690609939298 u7534000664862751384 u7550075607474618616 u7554356030731858334 u7574500550625783949 u7602768850589431062 u7638109156417230791 u7666808369254956055 u767732925589847444 u7699409423831397852 u7719856321624236266 u7727120668243886253 u7766093937362253676 u776835754002637588 u7791695905017233334 u7807214072610002353 u781831469345568538 u7826817597709190338 u7837996317921042584 u7870276643647934611 u7870669778258104386 u7885273477979538957 u7896226197957711241 u7940650778774056441 u7969634655112530434 u798519183051781809 u8003119764916058825 u8080013635641281345 u810088283097994797 u8109140727288128384 u8112962593809563986 u8113078546119809141 u8123829285410885353 u81363738849524961 u8153116971024405414 u8160161857717850687 u8170368760912936741 u817607619400424954 u818449730759979738 u8215543564322499799 u8243023184687334968 u8251628565691237643 u8285190955132854019 u8300765214896293060 u831770582973379448 u8330262544189252235 u8358027037124819027 u8360078188953933489 u8367773307971523840 u8369199752684642559 u8382152337729063394 u8440525997018403130 u8453185943635496883 u8475166072722786232 u8504761114103701079 u8556322641414783463 u8561303363006073478 u8571559597677775134 u8591442951377598084 u8656927687457444122 u8663018474482287145 u8687105228280809755 u8708224985787507808 u8708857839548962683 u8717105613275823273 u873732024071286900 u8745774686415438844 u8768254715701647026 u8784354705585199139 u8797015961007039738 u88113585946863285 u883119188067317750 u8845326776395930572 u8846152976151045529 u8866695470119652527 u8886385900115549015 u8887193511792102152 u8894409495363350571 u8907269942530785253 u8909821268554123542 u8917822247228214683 u8930347854752270261 u8933293000301913269 u8947128046075770308 u8981187157041566882 u8983516797958483380 u9012199799972260948 u9064878695773552294 u9120097496064974470 u9158844554806020303 u9173489639769430844 u9178282191488997448 u9187099199696114172 u9213897939697631918 u9232210849912751414 u9244385257118330244 u9320230540325640169 u933837182502756697 u9344959954175110192 u9392805769004820346 u9396550709231709473 u9444902437101234397 u9450656898058434423 u9492067093447232552 u9515593271723956666 u9524670624955418848 u9545449460290452597 u9558864607176538583 u9565246088062646903 u9654192600720611975 u9788739606309246420 u9888566003180011461 u9938433354655204028 u9945049668333754582 u9949160703439203648
set_option maxRecDepth 100000 in
set_option maxHeartbeats 0 in
theorem PySem.Challenge.cw_slackchain_k58_shares_as_ties_holds : PySem.Challenge.rw_slackchain_k58_shares_as_ties.Holds := by
 w_on;o_law;k_head;(case hw=>w_witness2)
 k_fill
 refine Prg.walk (l:=PySem.Challenge.rw_slackchain_k58_shares_as_ties) rfl rfl (fun w h Y=>PySem.W.kIn_of Y) ?F;case F=>
  intro w mg fa h KX G hmg;refine' Prg.all_mk KX G hmg ?g_NoNumber ?Bdz ?Bdg ?Bdh ?BdA ?Bdi ?BdB ?g_Tie ?g_Just ?g_Between ?BdI ?Bd0 ?BcB ?Bdj ?Bdk ?g_Lid ?a1 ?l1 ?c1 ?k1 ?a2 ?l2 ?c2 ?k2 ?a3 ?l3 ?c3 ?k3 ?a4 ?l4 ?c4 ?k4 ?a5 ?l5 ?c5 ?k5 ?a6 ?l6 ?c6 ?k6 ?a7 ?l7 ?c7 ?k7 ?a8 ?l8 ?c8 ?k8 ?a9 ?l9 ?c9 ?k9 ?a10 ?l10 ?c10 ?k10 ?a11 ?l11 ?c11 ?k11 ?a12 ?l12 ?c12 ?k12 ?a13 ?l13 ?c13 ?k13 ?a14 ?l14 ?c14 ?k14 ?a15 ?l15 ?c15 ?k15 ?a16 ?l16 ?c16 ?k16 ?a17 ?l17 ?c17 ?k17 ?a18 ?l18 ?c18 ?k18 ?a19 ?l19 ?c19 ?k19 ?a20 ?l20 ?c20 ?k20 ?a21 ?l21 ?c21 ?k21 ?a22 ?l22 ?c22 ?k22 ?a23 ?l23 ?c23 ?k23 ?a24 ?l24 ?c24 ?k24 ?a25 ?l25 ?c25 ?k25 ?a26 ?l26 ?c26 ?k26 ?a27 ?l27 ?c27 ?k27 ?a28 ?l28 ?c28 ?k28 ?a29 ?l29 ?c29 ?k29 ?a30 ?l30 ?c30 ?k30 ?a31 ?l31 ?c31 ?k31 ?a32 ?l32 ?c32 ?k32 ?a33 ?l33 ?c33 ?k33 ?a34 ?l34 ?c34 ?k34 ?a35 ?l35 ?c35 ?k35 ?a36 ?l36 ?c36 ?k36 ?a37 ?l37 ?c37 ?k37 ?a38 ?l38 ?c38 ?k38 ?a39 ?l39 ?c39 ?k39 ?a40 ?l40 ?c40 ?k40 ?a41 ?l41 ?c41 ?k41 ?a42 ?l42 ?c42 ?k42 ?a43 ?l43 ?c43 ?k43 ?a44 ?l44 ?c44 ?k44 ?a45 ?l45 ?c45 ?k45 ?a46 ?l46 ?c46 ?k46 ?a47 ?l47 ?c47 ?k47 ?a48 ?l48 ?c48 ?k48 ?a49 ?l49 ?c49 ?k49 ?a50 ?l50 ?c50 ?k50 ?a51 ?l51 ?c51 ?k51 ?a52 ?l52 ?c52 ?k52 ?a53 ?l53 ?c53 ?k53 ?a54 ?l54 ?c54 ?k54 ?a55 ?l55 ?c55 ?k55 ?a56 ?l56 ?c56 ?k56 ?a57 ?l57 ?c57 ?k57 ?a58 ?l58 ?c58 ?k58 ?a59 ?l59 ?c59 ?k59 ?a60 ?l60 ?c60 ?k60 ?a61 ?l61 ?c61 ?k61 ?z_abs ?z_isinstance ?z_len ?z_int ?z_bool ?z_tuple ?z_str ?z_range ?z_list ?z_min ?z_sorted ?z_all ?z_sum ?z_dict ?z_zip ?Bbc ?Bbk ?BdP ?h_ZERO ?x_NoNumber ?Bcs ?Bcd ?Bce ?BcG ?Bcf ?BcH ?mk_Just ?mi_Just ?mf_Just ?mp_Just ?me_plain_Just ?mk_Between ?mi_Between ?mf_Between ?mp_Between ?me_plain_Between ?BcC ?BdC ?BdD ?BdE ?BdF ?BdQ ?BdR ?BdS ?BdT ?BcX ?BcY ?BcZ ?Bc0 ?Bdl ?Bdm ?Bdn ?Bdo ?Bdp ?Bdq ?Bdr ?Bds ?mk_Lid ?mi_Lid ?mf_Lid ?mp_Lid ?BbC ?BbD ?Bb1 ?Bb2 ?Bbl ?Bbm ?Bay ?Baz ?Bbn ?Bbo ?BbE ?BbF ?Bb3 ?Bb4 ?Bbd ?Bbe ?BbG ?BbH ?Bbf ?Bbg ?me_lowered_Scale ?mm_lowered_Scale ?me_full_level_Lid ?mm_full_level_Lid ?me_settle_Lid ?mm_settle_Lid ?me_has_stopped_Lid ?mm_has_stopped_Lid ?cl1_Just ?cl2_Just ?cl3_Just ?cl4_Just ?na1_Just ?na2_Just ?na3_Just ?na4_Just ?na5_Just ?cl1_Between ?cl2_Between ?cl3_Between ?cl4_Between ?na1_Between ?na2_Between ?na3_Between ?na4_Between ?na5_Between ?Bcg ?Bch ?Bci ?Bcj ?Bck ?Bcl ?Bcm ?Bcn ?Bco ?Bcp ?BcI ?BcJ ?BcK ?BcL ?BcM ?BcN ?BcO ?BcP ?BcQ ?Bbp ?Bbq ?Bbr ?Bbs ?Bbt ?BbJ ?BbK ?BbL ?BbM ?BbN ?BbO ?BbP ?BbQ ?BbR ?BbS ?BbT ?BbU ?BbV ?cl1_Lid ?cl2_Lid ?cl3_Lid ?cl4_Lid ?na1_Lid ?na2_Lid ?na3_Lid ?na4_Lid ?na5_Lid;case g_NoNumber|Bdz|Bdg|Bdh|BdA|Bdi|BdB|g_Tie|g_Just|g_Between|BdI|Bd0|BcB|Bdj|Bdk|g_Lid|a1|l1|c1|k1|a2|l2|c2|k2|a3|l3|c3|k3|a4|l4|c4|k4|a5|l5|c5|k5|a6|l6|c6|k6|a7|l7|c7|k7|a8|l8|c8|k8|a9|l9|c9|k9|a10|l10|c10|k10|a11|l11|c11|k11|a12|l12|c12|k12|a13|l13|c13|k13|a14|l14|c14|k14|a15|l15|c15|k15|a16|l16|c16|k16|a17|l17|c17|k17|a18|l18|c18|k18|a19|l19|c19|k19|a20|l20|c20|k20|a21|l21|c21|k21|a22|l22|c22|k22|a23|l23|c23|k23|a24|l24|c24|k24|a25|l25|c25|k25|a26|l26|c26|k26|a27|l27|c27|k27|a28|l28|c28|k28|a29|l29|c29|k29|a30|l30|c30|k30|a31|l31|c31|k31|a32|l32|c32|k32|a33|l33|c33|k33|a34|l34|c34|k34|a35|l35|c35|k35|a36|l36|c36|k36|a37|l37|c37|k37|a38|l38|c38|k38|a39|l39|c39|k39|a40|l40|c40|k40|a41|l41|c41|k41|a42|l42|c42|k42|a43|l43|c43|k43|a44|l44|c44|k44|a45|l45|c45|k45|a46|l46|c46|k46|a47|l47|c47|k47|a48|l48|c48|k48|a49|l49|c49|k49|a50|l50|c50|k50|a51|l51|c51|k51|a52|l52|c52|k52|a53|l53|c53|k53|a54|l54|c54|k54|a55|l55|c55|k55|a56|l56|c56|k56|a57|l57|c57|k57|a58|l58|c58|k58|a59|l59|c59|k59|a60|l60|c60|k60|a61|l61|c61|k61|z_abs|z_isinstance|z_len|z_int|z_bool|z_tuple|z_str|z_range|z_list|z_min|z_sorted|z_all|z_sum|z_dict|z_zip|Bbc|Bbk|BdP|h_ZERO=>k_is
  (case x_NoNumber=>k_exc)
  (case Bcs=>k_exc)
  (case Bcd=>k_exc)
  (case Bce=>k_exc)
  (case BcG=>k_exc)
  (case Bcf=>k_exc)
  (case BcH=>k_exc)
  case mk_Just|mi_Just|mf_Just|mp_Just|me_plain_Just|mk_Between|mi_Between|mf_Between|mp_Between|me_plain_Between|BcC|BdC|BdD|BdE|BdF|BdQ|BdR|BdS|BdT|BcX|BcY|BcZ|Bc0|Bdl|Bdm|Bdn|Bdo|Bdp|Bdq|Bdr|Bds|mk_Lid|mi_Lid|mf_Lid|mp_Lid|BbC|BbD|Bb1|Bb2|Bbl|Bbm|Bay|Baz|Bbn|Bbo|BbE|BbF|Bb3|Bb4|Bbd|Bbe|BbG|BbH|Bbf|Bbg|me_lowered_Scale|mm_lowered_Scale|me_full_level_Lid|mm_full_level_Lid|me_settle_Lid|mm_settle_Lid|me_has_stopped_Lid|mm_has_stopped_Lid|cl1_Just|cl2_Just|cl3_Just|cl4_Just|na1_Just|na2_Just|na3_Just|na4_Just|na5_Just|cl1_Between|cl2_Between|cl3_Between|cl4_Between|na1_Between|na2_Between|na3_Between|na4_Between|na5_Between|Bcg|Bch|Bci|Bcj|Bck|Bcl|Bcm|Bcn|Bco|Bcp|BcI|BcJ|BcK|BcL|BcM|BcN|BcO|BcP|BcQ|Bbp|Bbq|Bbr|Bbs|Bbt|BbJ|BbK|BbL|BbM|BbN|BbO|BbP|BbQ|BbR|BbS|BbT|BbU|BbV|cl1_Lid|cl2_Lid|cl3_Lid|cl4_Lid|na1_Lid|na2_Lid|na3_Lid|na4_Lid|na5_Lid=>k_is
