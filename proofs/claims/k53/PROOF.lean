import PyProof.Rows.All
import Wide.All
import OpenK.AllK
import Wide.FinOn
import Lean
import PyProof.EqAt
import PyProof.EqKinds
import PyProof.TupleCall
import PyProof.ZipIter
import PyProof.Rows.SetFrom
import PyProof.Rows.SortStr
import KE.KDictList
import PyProof.AttrMissHeap
import KE.KDictOf
import KE.KDictLaws
import KE.KRevIter
import PyProof.CollectIter
import PyProof.FactsAll.range_2
import PyProof.FactsAll.range_iterator_1
import PyProof.WalksEnum
import PyProof.EnumMake
import PyProof.Rows.Range3
import PySem.Challenge.RW_slackchain_k53_one_gap_shared
set_option Elab.async false
set_option linter.all false
set_option maxRecDepth 100000
open List (mem_filter mem_cons_self mem_cons_of_mem mem_cons mem_append mem_append_right length_cons map_cons length_map append_nil nodup_cons length_take length_append size_toArray any_cons length_singleton map_nil cons_append length_nil not_mem_nil mem_singleton mem_map take_succ take_of_length_le map_append mem_flatMap nodup_append nil_append filter_append map_map take_zero)
local macro_rules|`(tactic|ac_nf)=>`(tactic|first|lia|omega)
local macro_rules|`(⋯)=>`(by decide)
local macro_rules|`(∅)=>`(by ac_nf)
local macro_rules|`(tactic|subst_eqs)=>`(tactic|(intro _ _ _ _ h;(repeat obtain ⟨_,h⟩:=h);subst_vars;rfl))
namespace L2
open PySem PySem.Spec PyProof.Rows
abbrev Key:=Sum Bool Str
def isBoolOf:Bool->Value->Bool
 | b, .bool c=>b == c
 | _,_=>false
theorem Jem {b:Bool} {v:Value} (h:isBoolOf b v=true):v=.bool b:=by
 cases v <;> simp_all [isBoolOf]
def keyIs:Key->Value->Bool
 | .inl k,v=>isBoolOf k v
 | .inr x,v=>Value.isStrOf x v
def keyH (w:World):Key->Int
 | .inl k=>hashInt (if k then 1 else 0)
 | .inr x=>hashStr w x
theorem JaR:∀ {k:Key} {v:Value},keyIs k v=true->(∃ i,k=Sum.inl i/\v=Value.bool i)\/(∃ x t,k=Sum.inr x/\v=Value.str x t)
 | .inl i,v,h=>.inl ⟨i,rfl,Jem h⟩
 | .inr x,v,h=>by
  obtain ⟨t,e⟩:=Value.isStrOf_shape (x:=x) (v:=v) h;exact .inr ⟨x,t,rfl,e⟩
theorem Jg6 (i:Bool):keyIs (.inl i) (.bool i)=true:=by simp [keyIs,isBoolOf]
theorem JhN (x:Str) (t:Tok):keyIs (.inr x) (.str x t)=true:=by simp [keyIs,Value.isStrOf]
theorem JkU (a b:Bool):decide ((Sum.inl a:Key)=Sum.inl b)=(a == b):=by cases a <;> cases b <;> rfl
theorem JkX (a b:Str):decide ((Sum.inr a:Key)=Sum.inr b)=decide (a=b):=by
 by_cases e:a=b
 ·subst e;simp
 ·have h:¬ (Sum.inr a:Key)=Sum.inr b:=fun q=>e (Sum.inr.inj q);rw [decide_eq_false h,decide_eq_false e]
theorem JkV (a:Bool) (b:Str):decide ((Sum.inl a:Key)=Sum.inr b)=false:=decide_eq_false (fun q=>nomatch q)
theorem JkW (a:Str) (b:Bool):decide ((Sum.inr a:Key)=Sum.inl b)=false:=decide_eq_false (fun q=>nomatch q)
theorem Jgm {prog:Program} {w:World} {A:Around} {E:Value->Shared->Prop} {s:Shared} {b:Bool} {Q:Int->Shared->Prop} (h:Q (hashInt (if b then 1 else 0)) { s with toks:=s.toks+1 }) :
  wpAny (model prog w) A (pyHash (.bool b)) Q E s:=by
 have c:=rawHash_range (if b then 1 else 0);have a:s.TypeIs (.bool b) "bool":=rfl;unfold pyHash;have d:[Value.bool b].any Value.onHeap=false:=rfl;refine wpAny_bind ?_;rw [cRoomFor,if_neg (by rw [d];exact Bool.false_ne_true)];refine wpAny_pure ?_;refine wpAny_bind (wpAny_specialOf a F.slot_bool_hash.lookup ?_);show wpAny _ _ (if (some (Value.builtin "int.__hash__") == some Value.none)=true then _ else _) Q E s;rw [if_neg (by rw [beq_builtin_none];exact Bool.false_ne_true)];refine wpAny_bind (wpAny_specialOf a F.slot_bool_hash.lookup ?_);show wpAny _ _ (callSpecialIfBoundUnlessNone? (.bool b) "__hash__" _ >>= _) Q E s;refine wpAny_bind (wpAny_callSpecialIfBoundUnlessNone?_slot a F.slot_bool_hash
  (wpAny_call_entry F.slot_bool_hash a entry_int_hash
   (show wpAny _ _ (do ret (<- mkInt (rawHash (if b then 1 else 0)))) _ _ s from wpAny_ret_mkInt ?_) (args_int_hash _)))
 show wpAny _ _ (if (decide (-(2:Int) ^ 63<=rawHash (if b then 1 else 0))&&decide (rawHash (if b then 1 else 0)<2 ^ 63))=true then _ else _) Q E _;rw [if_pos (by rw [decide_eq_true c.1,decide_eq_true c.2];rfl)];exact wpAny_pure h
def Jaw (prog:Program) (w:World):PySem.KeyKind prog w Key where
 is:=keyIs
 hash:=keyH w
 inj:=fun v a b ha hb=>by
  rcases JaR ha with ⟨i,rfl,rfl⟩ | ⟨x,t,rfl,rfl⟩
  ·rcases JaR hb with ⟨j,rfl,e⟩ | ⟨y,u,rfl,e⟩
   ·injection e with e1;rw [e1]
   ·exact nomatch e
  ·rcases JaR hb with ⟨j,rfl,e⟩ | ⟨y,u,rfl,e⟩
   ·exact nomatch e
   ·injection e with e1 _;rw [e1]
 byValue:=fun k v h=>by
  rcases JaR h with ⟨i,rfl,rfl⟩ | ⟨x,t,rfl,rfl⟩ <;> rfl
 pyHash:=fun hv h=>by
  rcases JaR hv with ⟨i,rfl,rfl⟩ | ⟨x,t,rfl,rfl⟩
  ·exact Jgm h
  ·exact wpAny_pyHash_str h
 eqBool:=fun hu hv h=>by
  rcases JaR hu with ⟨i,rfl,rfl⟩ | ⟨x,t,rfl,rfl⟩
  ·rcases JaR hv with ⟨j,rfl,rfl⟩ | ⟨y,u,rfl,rfl⟩
   ·rw [JkU] at h;exact SeqAt.EqAt.bool_bool i j _ _ _ _ h
   ·rw [JkV] at h;exact SeqAt.EqAt.bool_str i y u _ _ _ _ h
  ·rcases JaR hv with ⟨j,rfl,rfl⟩ | ⟨y,u,rfl,rfl⟩
   ·rw [JkW] at h;exact SeqAt.EqAt.str_bool x t j _ _ _ _ h
   ·rw [JkX] at h;exact wpAny_eqBool_str h
 «strs»:=fun k x t v h=>by
  rcases JaR h with ⟨i,rfl,e⟩ | ⟨y,u,rfl,e⟩
  ·exact nomatch e
  ·injection e with e1 _
   subst e1;cases v <;> rfl
theorem JfA (prog:Program) (w:World) (i:Bool):(Jaw prog w).is (.inl i) (.bool i)=true:=Jg6 i
theorem Jga (prog:Program) (w:World) (x:Str) (t:Tok):(Jaw prog w).is (.inr x) (.str x t)=true:=JhN x t
inductive V where
 | non | bl (b:Bool) | int (i:Int) | str (x:Str) | byt (b:Array UInt8) | flt (b:UInt64) | ref (a:Addr) | ty (n:String)
 deriving DecidableEq
def RelV:V->Value->Prop
 | .non,u=>u=Value.none
 | .bl b,u=>u=Value.bool b
 | .int i,u=>∃ t,u=Value.int i t
 | .str x,u=>∃ t,u=Value.str x t
 | .byt b,u=>∃ t,u=Value.bytes b t
 | .flt b,u=>∃ t,u=Value.float b t
 | .ref a,u=>u=Value.ref a
 | .ty n,u=>u=Value.type n
abbrev Vals:List V->List Value->Prop:=Paired RelV
theorem Vals.length {xs:List V} {us:List Value} (r:Vals xs us):xs.length=us.length:=Paired.length r
theorem Vals.get:∀ {xs:List V} {us:List Value} {i:Nat} {x:V},Vals xs us->xs[i]?=some x->∃ u,us[i]?=some u/\RelV x u
 | _,_,_,_, .nil,e=>by simp at e
 | _,_,0,_, .cons r _,e=>by simp at e;subst e;exact ⟨_,rfl,r⟩
 | _,_,i+1,x, .cons _ t,e=>by
  obtain ⟨u,h1,h2⟩:=Vals.get (i:=i) (x:=x) t (by simpa using e);exact ⟨u,by simpa using h1,h2⟩
theorem Vals.append:∀ {xs ys:List V} {us ws:List Value},Vals xs us->Vals ys ws->Vals (xs++ys) (us++ws)
 | _,_,_,_, .nil,s=>s
 | _,_,_,_, .cons r t,s=>.cons r (Vals.append t s)
theorem Vals.drop:∀ {xs:List V} {us:List Value} (n:Nat),Vals xs us->Vals (xs.drop n) (us.drop n)
 | _,_,0,r=>r
 | _,_,_+1, .nil=>.nil
 | _,_,n+1, .cons _ t=>Vals.drop n t
def RelO:Option V->Option Value->Prop
 | some v,some u=>RelV v u
 | none,none=>True
 | _,_=>False
def KV {κ : Type}:List (κ × V)->List (κ × Value)->Prop:=Paired fun (p : κ × V) (q : κ × Value)=>p.1=q.1/\RelV p.2 q.2
def kV:Key->V
 | .inl i=>.bl i
 | .inr x=>.str x
inductive HO where
 | lst (xs:List V)
 | tup (xs:List V)
 | dK (kvs:List (Key × V)) | dT (kvs:List (List Key × V))
 | set (S:Int->Bool) (n:Nat)
 | ins (C dx:Addr) (fs:List (Str × V))
 | own (x:Addr)
 | xd (fs:List (Str × V))
 | met (f x:Addr)
 | rng (lo hi:Int)
 | frz (o:Obj) (u:HO)
 | tbl (ps:Array Value)
 | ext (φ : Heap->Prop)
abbrev Hp:=Addr->Option HO
def upd (H:Hp) (a:Addr) (o:HO):Hp:=fun b=>if b=a then some o else H b
theorem Jaj {H:Hp} {a:Addr} {o:HO}:upd H a o a=some o:=by unfold upd;rw [if_pos rfl]
theorem Jag {H:Hp} {a b:Addr} {o:HO} (h:b≠a):upd H a o b=H b:=by unfold upd;rw [if_neg h]
theorem ne_of {H:Hp} {a b:Addr} {o u:HO} (h:H a=some o) (h':H b=some u) (d:o≠u):a≠b:=by
 intro e;subst e;rw [h] at h';exact d (Option.some.inj h')
theorem Jai {H:Hp} {a b:Addr} {o:HO} (h:H a=some o) (h':H b=none):a≠b:=by
 intro e;subst e;rw [h] at h';cases h'
section
variable (P:Program) (w:World)
def ObjOk (H:Hp) (h:Heap) (a:Addr):HO->Prop
 | .lst xs=>xs.length<=sizeLine/\∃ (its:List Value) (n:Nat),Vals xs its/\h.get? a=some { cls:=.type "list",data:=.seq its.toArray n }
 | .tup xs=>xs.length<=sizeLine/\∃ its:List Value,Vals xs its/\IsTup h a its.toArray
 | .dK kvs=>kvs.length<=sizeLine/\(a == sysModules)=false/\∃ vs,KV kvs vs/\h.DictOf (Jaw P w) a vs
 | .dT kvs=>kvs.length<=sizeLine/\(a == sysModules)=false/\∃ xs:List (List Key × Addr × Value),
   Paired (fun (p:List Key × V) (q:List Key × Addr × Value)=>p.1=q.1/\H q.2.1=some (.tup (p.1.map kV))/\RelV p.2 q.2.2) kvs xs /\
   ∃ o es ep,h.get? a=some o/\o.ExactDict/\o.data=.dict es ep/\es.toList=xs.map (entryOfKey (tupleKind (Jaw P w)))/\(xs.map (·.1)).Nodup
 | .set S n=>h.SetOf (intKind P w) a S n
 | .ins C dx fs=>H dx=some (.own a)/\fs.length<=1000/\dx≠a/\h.get? a=some (W.instObj C dx) /\
   ∃ mA,h.Ns1 dx mA/\(∀ f,RelO (fs.lookup f) (mA f))/\PySem.Within mA (fs.map (·.1))
 | .own _=>∃ o,h.get? a=some o
 | .xd fs=>∃ mA,h.Ns1 a mA/\∀ f,RelO (fs.lookup f) (mA f)
 | .rng lo hi=>∃ t u v,h.get? a=some { cls:=.type "range",data:=.fields #[.int lo t, .int hi u, .int 1 v] }
 | .frz o u=>h.get? a=some o/\ObjOk H h a u
 | .tbl ps=>h.get? a=some { cls:=.none,data:=.fields ps }
 | .met f x=>h.get? a=some (W.methodObj (.ref f) (.ref x))
 | .ext φ=>φ h/\(∃ o,h.get? a=some o)/\∀ h1 h2:Heap,φ h1->(∀ o,h1.get? a=some o->h2.get? a=some o)->φ h2
def HOk (H:Hp) (h:Heap):Prop:=∀ a o,H a=some o->ObjOk P w H h a o
end
section
variable {P:Program} {w:World} {H H':Hp} {h h':Heap} {a:Addr} {o:HO}
theorem ObjOk.lt (x:ObjOk P w H h a o):a<h.objs.size:=by
 cases o with
 | lst xs=>obtain ⟨_,_,_,_,e⟩:=x;exact Heap.lt_size e
 | tup xs=>obtain ⟨_,_,_,p⟩:=x;exact p.lt
 | dK kvs=>obtain ⟨_,_,_,_,o,_,_,e,_⟩:=x;exact Heap.lt_size e
 | dT kvs=>obtain ⟨_,_,_,_,o,_,_,e,_⟩:=x;exact Heap.lt_size e
 | set S n=>obtain ⟨o,_,_,_,e,_⟩:=x;exact Heap.lt_size e
 | ins C dx fs=>obtain ⟨_,_,_,e,_⟩:=x;exact Heap.lt_size e
 | own y=>obtain ⟨_,e⟩:=x;exact Heap.lt_size e
 | xd fs=>obtain ⟨_,⟨_,_,_,e,_⟩,_⟩:=x;exact Heap.lt_size e
 | rng lo hi=>obtain ⟨_,_,_,e⟩:=x;exact Heap.lt_size e
 | frz ob u=>obtain ⟨e,_⟩:=x;exact Heap.lt_size e
 | tbl ps=>exact Heap.lt_size (show h.get? a=some _ from x)
 | met f y=>exact Heap.lt_size (show h.get? a=some _ from x)
 | ext φ=>obtain ⟨_,⟨_,e⟩,_⟩:=x;exact Heap.lt_size e
theorem Paired.mapP {α β : Type} {F G : α->β->Prop}:∀ {l₁ : List α} {l₂ : List β},Paired F l₁ l₂->(∀ a b,F a b->G a b)->Paired G l₁ l₂
 | _,_, .nil,_=>.nil
 | _,_, .cons r t,f=>.cons (f _ _ r) (Paired.mapP t f)
theorem ObjOk.stay (x:ObjOk P w H h a o) (k:∀ b u,(b=a\/H b=some (.own a))->h.get? b=some u->h'.get? b=some u)
  (ho:∀ b,H b=some (.own a)->H' b=some (.own a)) (ht:∀ b xs,H b=some (.tup xs)->H' b=some (.tup xs)):ObjOk P w H' h' a o:=by
 induction o with
 | lst xs=>obtain ⟨z,l,n,r,e⟩:=x;exact ⟨z,l,n,r,k _ _ (.inl rfl) e⟩
 | tup xs=>obtain ⟨z,l,r,g,e,c⟩:=x;exact ⟨z,l,r,g,k _ _ (.inl rfl) e,c⟩
 | dK kvs=>obtain ⟨z,y,B,r,g,j,i,e,c⟩:=x;exact ⟨z,y,B,r,g,j,i,k _ _ (.inl rfl) e,c⟩
 | dT kvs=>
  obtain ⟨z,y,xs,r,g,j,i,e,c⟩:=x;exact ⟨z,y,xs,Paired.mapP r fun p q z=>⟨z.1,ht _ _ z.2.1,z.2.2⟩,g,j,i,k _ _ (.inl rfl) e,c⟩
 | set S n=>obtain ⟨g,j,i,t,e,c⟩:=x;exact ⟨g,j,i,t,k _ _ (.inl rfl) e,c⟩
 | ins C dx fs=>
  obtain ⟨d,z,D,e,m,⟨s,j,i,E,c⟩,r⟩:=x;exact ⟨ho _ d,z,D,k _ _ (.inl rfl) e,m,⟨s,j,i,k _ _ (.inr d) E,c⟩,r⟩
 | own y=>obtain ⟨g,e⟩:=x;exact ⟨g,k _ _ (.inl rfl) e⟩
 | xd fs=>obtain ⟨m,⟨s,j,i,e,c⟩,r⟩:=x;exact ⟨m,⟨s,j,i,k _ _ (.inl rfl) e,c⟩,r⟩
 | rng lo hi=>obtain ⟨t,u,v,e⟩:=x;exact ⟨t,u,v,k _ _ (.inl rfl) e⟩
 | frz g u ih=>obtain ⟨e,q⟩:=x;exact ⟨k _ _ (.inl rfl) e,ih q⟩
 | tbl ps=>
  have e:h.get? a=some { cls:=.none,data:=.fields ps }:=x;show h'.get? a=some { cls:=.none,data:=.fields ps };exact k a _ (.inl rfl) e
 | met f y=>
  have e:h.get? a=some (W.methodObj (.ref f) (.ref y)):=x;show h'.get? a=some (W.methodObj (.ref f) (.ref y));exact k a _ (.inl rfl) e
 | ext φ=>obtain ⟨p,⟨o,e⟩,A⟩:=x;exact ⟨A _ _ p fun o q=>k _ _ (.inl rfl) q,⟨o,k _ _ (.inl rfl) e⟩,A⟩
theorem HOk.lt (x:HOk P w H h) (e:H a=some o):a<h.objs.size:=(x a o e).lt
theorem HOk.fresh (x:HOk P w H h) (e:h.objs.size<=a):H a=none:=by
 cases q:H a with
 | none=>rfl
 | some u=>exact absurd (Nat.lt_of_lt_of_le (x.lt q) e) (Nat.lt_irrefl _)
theorem HOk.kept (x:HOk P w H h) (k:∀ b u,h.get? b=some u->h'.get? b=some u):HOk P w H h':=fun a o e=>
 (x a o e).stay (fun b u _ q=>k b u q) (fun _ q=>q) fun _ _ q=>q
theorem HOk.laid (x:HOk P w H h) (k:∀ b u,h.get? b=some u->h'.get? b=some u) (hp:h.objs.size<=a) (new:ObjOk P w (upd H a o) h' a o):HOk P w (upd H a o) h':=fun b u e=>by
 have d:=x.fresh hp;by_cases f:b=a
 ·subst f;rw [Jaj] at e;cases e;exact new
 ·rw [Jag f] at e;exact (x b u e).stay (fun c v _ q=>k c v q) (fun c q=>by rw [Jag (Jai q d)];exact q) fun c g q=>by rw [Jag (Jai q d)];exact q
end
def Rd (H:Hp) (a:Addr) (u:HO):Prop:=H a=some u\/∃ o,H a=some (.frz o u)
theorem Rd.ok {P:Program} {w:World} {H:Hp} {h:Heap} {a:Addr} {u:HO} (r:Rd H a u) (x:HOk P w H h):ObjOk P w H h a u:=by
 rcases r with r | ⟨o,r⟩
 ·exact x a u r
 ·obtain ⟨_,q⟩:=x a _ r;exact q
def Mut:Option HO->Prop
 | some (.lst _)=>True
 | some (.dK _)=>True
 | some (.dT _)=>True
 | some (.set _ _)=>True
 | some (.ins _ _ _)=>True
 | some (.ext _)=>True
 | _=>False
section
variable {P:Program} {w:World} {H:Hp} {h h':Heap} {x e:Addr} {o':HO}
theorem HOk.write (ok:HOk P w H h) (mu:Mut (H x)) (he:e=x\/H e=some (.own x)) (k:∀ b u,b≠e->h.get? b=some u->h'.get? b=some u) (heo:∃ u,h'.get? e=some u)
  (new:ObjOk P w (upd H x o') h' x o'):HOk P w (upd H x o') h':=fun b u q=>by
 have d:∀ c y,H c=some (.own y)->c≠x:=fun c y r z=>by subst z;rw [r] at mu;exact mu
 have f:∀ c i,H c=some (.tup i)->c≠x:=fun c i r z=>by subst z;rw [r] at mu;exact mu
 by_cases g:b=x
 ·subst g;rw [Jaj] at q;cases q;exact new
 ·rw [Jag g] at q;by_cases a:b=e
  ·have l:H b=some (.own x):=by
    rcases he with z | z
    ·exact absurd (a.trans z) g
    ·rw [a];exact z
   rw [q] at l;cases l;obtain ⟨v,m⟩:=heo;exact ⟨v,by rw [a];exact m⟩
  ·refine (ok b u q).stay (fun c v j r=>k c v ?_ r) (fun c r=>by rw [Jag (d c b r)];exact r) fun c i r=>by rw [Jag (f c i r)];exact r
   rcases j with rfl | j
   ·exact a
   ·rintro rfl;rcases he with z | z
    ·exact d c b j z
    ·rw [j] at z;cases z;exact g rfl
end
structure Un (fs ex:List Addr) (H H':Hp) (h h':Heap):Prop where
 keep:∀ b o,h.get? b=some o->H b=none->b∉fs->b∉ex->h'.get? b=some o
 slot:∀ b o,h.get? b=some o->H b=none->b∈fs->b∉ex->∃ sl,h'.get? b=some { o with slots:=sl }
 free:∀ b o,h.get? b=some o->H b=none->b∉ex->H' b=none
 there:∀ b o,h.get? b=some o->b∉ex->∃ o',h'.get? b=some o'
 tups:∀ b xs,H b=some (.tup xs)->H' b=some (.tup xs)
 frzs:∀ b o u,H b=some (.frz o u)->H' b=some (.frz o u)
 tbls:∀ b ps,H b=some (.tbl ps)->∃ more,H' b=some (.tbl (ps++more))
section
variable {fs fs' ex ex':List Addr} {H H1 H2:Hp} {h h1 h2 h':Heap} {a x e:Addr} {o:HO}
theorem Un.any (u:Un fs ex H H1 h h1) {b:Addr} {ob:Obj} (q:h.get? b=some ob) (n:H b=none) (hx:b∉ex):∃ sl,h1.get? b=some { ob with slots:=sl }:=by
 by_cases a:b∈fs
 ·exact u.slot b ob q n a hx
 ·exact ⟨ob.slots,u.keep b ob q n a hx⟩
theorem Un.trans (a:Un fs ex H H1 h h1) (b:Un fs ex H1 H2 h1 h2):Un fs ex H H2 h h2 where
 keep:=fun c d q n i e=>b.keep c d (a.keep c d q n i e) (a.free c d q n e) i e
 slot:=fun c d q n i e=>by
  obtain ⟨r,f⟩:=a.slot c d q n i e;obtain ⟨j,l⟩:=b.slot c _ f (a.free c d q n e) i e;exact ⟨j,l⟩
 free:=fun c d q n e=>by
  obtain ⟨k,f⟩:=a.there c d q e;exact b.free c k f (a.free c d q n e) e
 there:=fun c d q e=>by
  obtain ⟨k,f⟩:=a.there c d q e;exact b.there c k f e
 tups:=fun c g q=>b.tups c g (a.tups c g q)
 frzs:=fun c d g q=>b.frzs c d g (a.frzs c d g q)
 tbls:=fun c o q=>by
  obtain ⟨p,f⟩:=a.tbls c o q;obtain ⟨m,l⟩:=b.tbls c _ f;exact ⟨p++m,by rw [l,Array.append_assoc]⟩
theorem Un.kept (k:∀ b u,h.get? b=some u->h'.get? b=some u):Un fs ex H H h h' :=
 ⟨fun b a q _ _ _=>k b a q,fun b a q _ _ _=>⟨a.slots,k b a q⟩,fun _ _ _ n _=>n,fun b a q _=>⟨a,k b a q⟩,fun _ _ q=>q,fun _ _ _ q=>q,fun _ c q=>⟨#[],by rw [q];simp⟩⟩
theorem Un.refl:Un fs ex H H h h:=Un.kept fun _ _ q=>q
theorem Un.laid (k:∀ b u,h.get? b=some u->h'.get? b=some u) (hp:h.objs.size<=a) (hn:H a=none):Un fs ex H (upd H a o) h h' where
 keep:=fun b u q _ _ _=>k b u q
 slot:=fun b u q _ _ _=>⟨u.slots,k b u q⟩
 free:=fun b u q n _=>by rw [Jag (Nat.ne_of_lt (Nat.lt_of_lt_of_le (Heap.lt_size q) hp))];exact n
 there:=fun b u q _=>⟨u,k b u q⟩
 tups:=fun b c q=>by rw [Jag (Jai q hn)];exact q
 frzs:=fun b u c q=>by rw [Jag (Jai q hn)];exact q
 tbls:=fun b d q=>⟨#[],by rw [Jag (Jai q hn),q];simp⟩
theorem Un.write (mu:Mut (H x)) (he:e=x\/H e=some (.own x)) (k:∀ b u,b≠e->h.get? b=some u->h'.get? b=some u) (heo:∃ u,h'.get? e=some u):Un fs ex H (upd H x o) h h':=by
 have f:∀ b,H b=none->b≠x:=fun b n z=>by subst z;rw [n] at mu;exact mu
 have d:∀ b,H b=none->b≠e:=fun b n z=>by
  subst z;rcases he with r | r
  ·exact f b n r
  ·rw [n] at r;cases r
 have c:∀ b u,H b=some u->¬ Mut (some u)->b≠x:=fun b u q i z=>by subst z;rw [q] at mu;exact i mu
 refine ⟨fun b u q n _ _=>k b u (d b n) q,fun b u q n _ _=>⟨u.slots,k b u (d b n) q⟩,fun b u q n _=>by rw [Jag (f b n)];exact n,fun b u q _=>?_,
  fun b g q=>by rw [Jag (c b _ q fun z=>z)];exact q,fun b u g q=>by rw [Jag (c b _ q fun z=>z)];exact q,fun b j q=>⟨#[],by rw [Jag (c b _ q fun z=>z),q];simp⟩⟩
 by_cases a:b=e
 ·subst a;exact heo
 ·exact ⟨u,k b u a q⟩
end
def trk (h:Heap) (H:Hp):List Addr:=(List.range h.objs.size).filter fun a=>(H a).isSome
def hidT (h:Heap) (H:Hp):Heap:=W.hideAll h (trk h H)
theorem JhL (h:Heap) (H:Hp):(hidT h H).objs.size=h.objs.size:=W.hideAll_size _ _
theorem JiL {h:Heap} {H:Hp} {b:Addr} {o:Obj} (e:h.get? b=some o) (n:H b=none):(hidT h H).get? b=some o :=
 W.hideAll_get _ e fun a=>by
  have q:(H b).isSome=true:=(mem_filter.mp a).2;rw [n] at q;simp at q
theorem Jj9 {h:Heap} {H:Hp} {b:Addr} {o:Obj} (e:(hidT h H).get? b=some o):h.get? b=some o/\H b=none:=by
 have a:h.get? b=some o:=W.of_hideAll (trk h H) e;refine ⟨a,?_⟩;cases q:H b with
 | none=>rfl
 | some x=>
  have c:b∈trk h H:=mem_filter.mpr ⟨List.mem_range.mpr (Heap.lt_size a),by simp [q]⟩;have z:(hidT h H).get? b=none:=W.hideAll_none (trk h H) c;rw [z] at e;cases e
def JjF (g h:Heap) (L:Addr):List (Addr × Obj):=(List.range h.objs.size).filterMap fun a=>if a=L\/(g.get? a).isSome=true then none else (h.get? a).map fun o=>(a,o)
def rest (g h:Heap) (L d:Addr):List (Addr × Obj):=(JjF g h L).filter fun p=>decide (p.1≠d)
structure Mod (K:W.Frag) (mg:Str->Option Value) (base:Heap):Prop where
 kin:K.In base
 glob:base.Ns mainGlobals mg
 blt:∃ mb,base.Ns builtinsNs mb/\∀ x:Str,x≠"__name__"->mb x=bootBuiltins x
 nolimit:base.NoLimit
structure Cx where
 prog:Program
 w:World
 K:W.Frag
 mg:Str->Option Value
 base:Heap
 A:Around
 N:List Str
 s₀ : Shared
 H₀ : Hp
 env:Env
 outer:List Env
 stack:List Env
 ex:List Addr
 fn:Str->Bool
 calm:Bool
 pn:List (Addr × Obj)
 xe:Value->Shared->Prop
def frs (l:List Env):List Addr:=l.filterMap (·.frame)
abbrev Cx.fs (X:Cx):List Addr:=frs X.outer
def Vis (sc:Scope) (x:Str):Prop:=sc.names.lookup x=some .local\/sc.names.lookup x=some .cell\/sc.names.lookup x=some .free
def Loc (sc:Scope) (x:Str):Prop:=sc.names.lookup x=some .local\/sc.names.lookup x=some .cell
def Look (env:Env) (h:Heap) (m:Str->Option Value) (x:Str) (u:Value):Prop :=
 (env.kindOf x=some .local/\m x=some u)\/((env.kindOf x=some .cell\/env.kindOf x=some .free)/\∃ c,env.cells.lookup x=some c/\h.IsCell c (some u))
structure Cx.Ok (X:Cx):Prop where
 mod:Mod X.K X.mg X.base
 kind:X.env.scope.kind=.function
 glob:X.env.globals=mainGlobals
 blt:X.env.builtins=builtinsNs
 above:X.s₀.heap.objs.size<=X.env.locals
 inj:∀ x y c,X.env.cells.lookup x=some c->X.env.cells.lookup y=some c->x=y
 has:∀ x,(X.env.kindOf x=some .cell\/X.env.kindOf x=some .free)->∃ c,X.env.cells.lookup x=some c
 cab:∀ x c,X.fn x=true->X.env.cells.lookup x=some c->X.s₀.heap.objs.size<=c
 hd:X.calm=true->X.A.handled=none
 frames:X.A.frames=some X.stack
 stk:X.stack=X.outer\/(X.stack=X.env::X.outer/\X.env.frame=some X.env.locals)
 exf:∀ b∈X.ex,b≠X.env.locals/\∀ x c,X.env.cells.lookup x=some c->c≠b
 bs:∀ b o,X.base.get? b=some o->X.s₀.heap.get? b=some o/\X.H₀ b=none
 bsz:X.base.objs.size<=X.s₀.heap.objs.size
 noex:∀ b o,X.base.get? b=some o->b∉X.ex
 exfs:∀ b∈X.ex,b∉X.fs
 funs:X.s₀.heap.FunFrames X.base X.outer
 frf:∀ b∈X.fs,X.H₀ b=none
structure Inv (X:Cx) (pins:List (Addr × Obj)) (σ : List (Option V)) (H:Hp) (s:Shared):Prop where
 ok:X.Ok
 os:s.os=X.s₀.os
 bare:AllBare s.gens
 base:Un X.fs X.ex X.H₀ H X.s₀.heap s.heap
 loc:∃ m,s.heap.Ns X.env.locals m/\∀ (i:Nat) (x:Str) (v:V),X.N[i]?=some x->σ[i]?=some (some v)->Vis X.env.scope x->∃ u,RelV v u/\Look X.env s.heap m x u
 cell:∀ x c,X.env.cells.lookup x=some c->∃ v,s.heap.IsCell c v
 free:H X.env.locals=none
 freeC:∀ x c,X.env.cells.lookup x=some c->H c=none
 pin:∀ p∈X.pn++pins,s.heap.get? p.1=some p.2/\H p.1=none/\p.1≠X.env.locals/\p.1∉X.fs/\∀ v,p.2.data≠.cell v
 hok:HOk X.prog X.w H s.heap
 len : σ.length=X.N.length
section
variable {X:Cx} {pins:List (Addr × Obj)} {σ : List (Option V)} {H H':Hp} {s:Shared} {h':Heap}
theorem Cx.Ok.nofr (ok:X.Ok) {b:Addr} {o:Obj} (e:X.base.get? b=some o):b∉X.fs:=fun a=>by
 have:=(ok.funs.mem a).1;rw [e] at this;cases this
theorem Inv.bs (I:Inv X pins σ H s):∀ b o,X.base.get? b=some o->s.heap.get? b=some o/\H b=none:=fun b o e=>
 ⟨I.base.keep b o (I.ok.bs b o e).1 (I.ok.bs b o e).2 (I.ok.nofr e) (I.ok.noex b o e),I.base.free b o (I.ok.bs b o e).1 (I.ok.bs b o e).2 (I.ok.noex b o e)⟩
theorem Inv.bk (I:Inv X pins σ H s):∀ b o,X.base.get? b=some o->s.heap.get? b=some o:=fun b o e=>(I.bs b o e).1
theorem Inv.mod (I:Inv X pins σ H s):Mod X.K X.mg X.base:=I.ok.mod
theorem Inv.kIn (I:Inv X pins σ H s):X.K.In s.heap:=I.ok.mod.kin.keeps I.bk
theorem Inv.fr (I:Inv X pins σ H s):∃ m,Fr X.base X.env.locals s.heap m :=
 let ⟨m,hn,_⟩:=I.loc
 ⟨m,hn,I.bk,Nat.le_trans I.ok.bsz I.ok.above⟩
theorem Inv.lt (I:Inv X pins σ H s):X.env.locals<s.heap.objs.size:=let ⟨_,hn,_⟩:=I.loc;hn.lt
theorem Inv.sz (I:Inv X pins σ H s):X.s₀.heap.objs.size<=s.heap.objs.size:=Nat.le_trans I.ok.above (Nat.le_of_lt I.lt)
theorem Inv.nofs (I:Inv X pins σ H s) {a:Addr} (h:s.heap.objs.size<=a):a∉X.fs:=fun c=>by
 obtain ⟨_,o,b,_⟩:=I.ok.funs.mem c;exact absurd (Nat.lt_of_lt_of_le (Heap.lt_size b) (Nat.le_trans I.sz h)) (Nat.lt_irrefl _)
theorem Inv.cne (I:Inv X pins σ H s):∀ x c,X.env.cells.lookup x=some c->c≠X.env.locals:=fun x c e z=>by
 obtain ⟨v,o,f,d⟩:=I.cell x c e;obtain ⟨m,⟨g,i,h,b,a,_⟩,_⟩:=I.loc;rw [z,b] at f;cases f;rw [a] at d;cases d
theorem Inv.funs (I:Inv X pins σ H s):s.heap.FunFrames X.base X.outer:=by
 have all:∀ (l:List Env),(∀ b∈frs l,b∈X.fs)->X.s₀.heap.FunFrames X.base l->s.heap.FunFrames X.base l:=by
  intro l;induction l with
  | nil=>intro _ _;trivial
  | cons env r ih=>
   intro f k;obtain ⟨m,⟨L,o,a,g,i,h⟩,j⟩:=k;have d:L∈X.fs:=f L (by unfold frs;rw [List.filterMap_cons,a];exact mem_cons_self);obtain ⟨n,e⟩:=I.base.slot L o i (I.ok.frf L d) d fun z=>I.ok.exfs L z d;exact ⟨m,⟨L,_,a,g,e,h⟩,ih (fun b c=>f b (by unfold frs;rw [List.filterMap_cons,a];exact mem_cons_of_mem _ c)) j⟩
 exact all X.outer (fun _ c=>c) I.ok.funs
theorem Inv.stack (I:Inv X pins σ H s):s.heap.FunFrames X.base X.stack:=by
 rcases I.ok.stk with e | ⟨e,hf⟩
 ·rw [e];exact I.funs
 ·rw [e];obtain ⟨m,a,_⟩:=I.loc;refine .cons (by rw [I.ok.kind];decide) hf a ?_ I.funs;exact Heap.get?_none_of_le (Nat.le_trans I.ok.bsz I.ok.above)
theorem Inv.stkSub (I:Inv X pins σ H s):∀ b∈frs X.stack,b∈X.env.locals::X.fs:=fun b a=>by
 rcases I.ok.stk with e | ⟨e,hf⟩
 ·rw [e] at a;exact mem_cons_of_mem _ a
 ·rw [e] at a;unfold frs at a;rw [List.filterMap_cons,hf] at a;exact a
theorem Inv.stkFree (I:Inv X pins σ H s):∀ b∈frs X.stack,H b=none:=fun b a=>by
 rcases mem_cons.mp (I.stkSub b a) with e | a
 ·rw [e];exact I.free
 ·obtain ⟨_,o,c,_⟩:=I.ok.funs.mem a;exact I.base.free b o c (I.ok.frf b a) fun z=>I.ok.exfs b z a
theorem Inv.step {g':Array GenState} {t':Nat} {d':Drawn} {ch:List Addr} (I:Inv X pins σ H s)
  (hch:∀ b∈ch,(b∈X.ex\/X.s₀.heap.objs.size<=b)/\b≠X.env.locals/\(∀ x c,X.env.cells.lookup x=some c->c≠b)/\∀ p∈X.pn++pins,p.1≠b)
  (keep:∀ b o,b≠X.env.locals->b∉X.fs->b∉ch->s.heap.get? b=some o->H b=none->h'.get? b=some o)
  (slot:∀ b o,b≠X.env.locals->b∈X.fs->b∉ch->s.heap.get? b=some o->H b=none->∃ sl,h'.get? b=some { o with slots:=sl }) (free:∀ b o,b∉ch->s.heap.get? b=some o->H b=none->H' b=none)
  (there:∀ b o,b∉ch->s.heap.get? b=some o->∃ o',h'.get? b=some o')
  (tups:∀ b xs,H b=some (.tup xs)->H' b=some (.tup xs)) (frzs:∀ b o u,H b=some (.frz o u)->H' b=some (.frz o u)) (tbls:∀ b ps,H b=some (.tbl ps)->∃ more,H' b=some (.tbl (ps++more)))
  (ns:∀ m,s.heap.Ns X.env.locals m->h'.Ns X.env.locals m) (hok:HOk X.prog X.w H' h') (hg:AllBare g') :
  Inv X pins σ H' { s with heap:=h',gens:=g',drawn:=d',toks:=t' }:=by
 have A:∀ b o,X.s₀.heap.get? b=some o->b≠X.env.locals:=fun b o e=>Nat.ne_of_lt (Nat.lt_of_lt_of_le (Heap.lt_size e) I.ok.above);have h:∀ b o,X.s₀.heap.get? b=some o->b∉X.ex->b∉ch:=fun b o e a t=>by
  rcases (hch b t).1 with z | z
  ·exact a z
  ·exact absurd (Nat.lt_of_lt_of_le (Heap.lt_size e) z) (Nat.lt_irrefl _)
 have g:∀ x c,X.env.cells.lookup x=some c->∀ v,s.heap.IsCell c v->h'.IsCell c v:=fun x c e v ⟨o,y,D⟩=>by
  have f:c∉ch:=fun z=>(hch c z).2.2.1 x c e rfl;by_cases F:c∈X.fs
  ·obtain ⟨sl,q⟩:=slot c o (I.cne x c e) F f y (I.freeC x c e);exact ⟨_,q,D⟩
  ·exact ⟨o,keep c o (I.cne x c e) F f y (I.freeC x c e),D⟩
 refine ⟨I.ok,I.os,hg,⟨fun b o e n t a=>?_,fun b o e n t a=>?_,fun b o e n a=>?_,fun b o e a=>?_,fun b xs e=>tups b xs (I.base.tups b xs e),fun b o xs e=>frzs b o xs (I.base.frzs b o xs e),fun b ps e=>?_⟩,?_,fun x c e=>?_,?_,fun x c e=>?_,fun p G=>?_,hok,I.len⟩
 ·exact keep b o (A b o e) t (h b o e a) (I.base.keep b o e n t a) (I.base.free b o e n a)
 ·obtain ⟨sl,j⟩:=I.base.slot b o e n t a;obtain ⟨C,B⟩:=slot b _ (A b o e) t (h b o e a) j (I.base.free b o e n a);exact ⟨C,B⟩
 ·obtain ⟨o',j⟩:=I.base.there b o e a;exact free b o' (h b o e a) j (I.base.free b o e n a)
 ·obtain ⟨o',j⟩:=I.base.there b o e a;exact there b o' (h b o e a) j
 ·obtain ⟨M,j⟩:=I.base.tbls b ps e;obtain ⟨K,B⟩:=tbls b _ j;exact ⟨M++K,by rw [B,Array.append_assoc]⟩
 ·obtain ⟨m,L,O⟩:=I.loc;refine ⟨m,ns m L,fun i x v j B N=>?_⟩;obtain ⟨u,r,l⟩:=O i x v j B N;refine ⟨u,r,?_⟩;rcases l with l | ⟨k,c,e,z⟩
  ·exact .inl l
  ·exact .inr ⟨k,c,e,g x c e _ z⟩
 ·obtain ⟨v,z⟩:=I.cell x c e;exact ⟨v,g x c e v z⟩
 ·obtain ⟨m,⟨o,_,_,y,_⟩,_⟩:=I.loc;exact free _ o (fun z=>(hch _ z).2.1 rfl) y I.free
 ·obtain ⟨v,o,y,D⟩:=I.cell x c e;exact free c o (fun z=>(hch c z).2.2.1 x c e rfl) y (I.freeC x c e)
 ·obtain ⟨e,n,J,E,d⟩:=I.pin p G;have f:p.1∉ch:=fun z=>(hch p.1 z).2.2.2 p G rfl;exact ⟨keep p.1 p.2 J E f e n,free p.1 p.2 f e n,J,E,d⟩
theorem Inv.un {t':Nat} (I:Inv X pins σ H s) (u:Un X.fs [] H H' s.heap h') (hok:HOk X.prog X.w H' h'):Inv X pins σ H' { s with heap:=h',toks:=t' }:=by
 obtain ⟨m,⟨o,t,q,g,r⟩,_⟩:=id I.loc;obtain ⟨l,i⟩:=u.any g I.free (by simp);exact I.step (g':=s.gens) (d':=s.drawn) (ch:=[]) (fun _ z=>nomatch z) (fun b o _ f _ e n=>u.keep b o e n f (by simp)) (fun b o _ f _ e n=>u.slot b o e n f (by simp)) (fun b o _ e n=>u.free b o e n (by simp)) (fun b o _ e=>u.there b o e (by simp)) u.tups u.frzs u.tbls (fun k h=>by
  obtain ⟨p,c,d,a,j⟩:=h;rw [g] at a;cases a;exact ⟨_,c,d,i,j⟩) hok I.bare
theorem Inv.call {g':Array GenState} {t':Nat} {d':Drawn} {ch:List Addr} (I:Inv X pins σ H s) (u:Un (frs X.stack) ch H H' s.heap h') (hok:HOk X.prog X.w H' h') (hg:AllBare g')
  (hch:∀ b∈ch,(b∈X.ex\/X.s₀.heap.objs.size<=b)/\b≠X.env.locals/\(∀ x c,X.env.cells.lookup x=some c->c≠b)/\∀ p∈X.pn++pins,p.1≠b) :
  Inv X pins σ H' { s with heap:=h',gens:=g',drawn:=d',toks:=t' }:=by
 obtain ⟨m,⟨o,A,y,i,r⟩,_⟩:=id I.loc;obtain ⟨t,h⟩:=u.any i I.free fun z=>(hch _ z).2.1 rfl;exact I.step (ch:=ch) hch (fun b o h j a e n=>u.keep b o e n (fun z=>(mem_cons.mp (I.stkSub b z)).elim h j) a) (fun b o _ _ a e n=>u.any e n a) (fun b o a e n=>u.free b o e n a) (fun b o a e=>u.there b o e a) u.tups u.frzs u.tbls (fun q k=>by
  obtain ⟨v,f,g,d,l⟩:=k;rw [i] at d;cases d;exact ⟨_,f,g,h,l⟩) hok hg
theorem Inv.turned {t':Nat} {it:Addr} (I:Inv X pins σ H s) (k:∀ b o,b≠it->s.heap.get? b=some o->h'.get? b=some o) (hn:H it=none) (hL:it≠X.env.locals)
  (h1:it∈X.ex\/X.s₀.heap.objs.size<=it) (h2:∀ x c,X.env.cells.lookup x=some c->c≠it) (h3:∀ p∈X.pn++pins,p.1≠it):Inv X pins σ H { s with heap:=h',toks:=t' }:=by
 have d:∀ b u,H b=some u->b≠it:=fun b u e z=>by rw [z,hn] at e;cases e
 refine I.step (g':=s.gens) (d':=s.drawn) (ch:=[it]) (fun b f=>?_) (fun b o _ _ a e _=>k b o (fun z=>a (by simp [z])) e) (fun b o _ _ a e _=>⟨o.slots,k b o (fun z=>a (by simp [z])) e⟩) (fun _ _ _ _ n=>n)
  (fun b o a e=>⟨o,k b o (fun z=>a (by simp [z])) e⟩) (fun _ _ e=>e) (fun _ _ _ e=>e) (fun b l e=>⟨#[],by rw [e];simp⟩) (fun m j=>?_) (fun b u e=>?_) I.bare
 ·have e:b=it:=by simpa using f
  subst e;exact ⟨h1,hL,h2,h3⟩
 ·obtain ⟨o,h,g,i,r⟩:=j;exact ⟨o,h,g,k _ o (Ne.symm hL) i,r⟩
 ·refine (I.hok b u e).stay (fun c v a q=>k c v ?_ q) (fun _ q=>q) fun _ _ q=>q;rcases a with z | z
  ·rw [z];exact d b u e
  ·exact d c _ z
theorem Inv.tok (I:Inv X pins σ H s) (t:Nat):Inv X pins σ H { s with toks:=t }:=I.un (h':=s.heap) (t':=t) Un.refl I.hok
theorem Inv.kept {t':Nat} (I:Inv X pins σ H s) (k:∀ b u,s.heap.get? b=some u->h'.get? b=some u):Inv X pins σ H { s with heap:=h',toks:=t' }:=I.un (Un.kept k) (I.hok.kept k)
theorem Inv.laid {a:Addr} {o:HO} {t':Nat} (I:Inv X pins σ H s) (k:∀ b u,s.heap.get? b=some u->h'.get? b=some u) (hp:s.heap.objs.size<=a) (new:ObjOk X.prog X.w (upd H a o) h' a o) :
  Inv X pins σ (upd H a o) { s with heap:=h',toks:=t' }:=I.un (Un.laid k hp (I.hok.fresh hp)) (I.hok.laid k hp new)
theorem Inv.write {x e:Addr} {o:HO} {t':Nat} (I:Inv X pins σ H s) (mu:Mut (H x)) (he:e=x\/H e=some (.own x)) (k:∀ b u,b≠e->s.heap.get? b=some u->h'.get? b=some u) (heo:∃ u,h'.get? e=some u)
  (new:ObjOk X.prog X.w (upd H x o) h' x o):Inv X pins σ (upd H x o) { s with heap:=h',toks:=t' }:=I.un (Un.write mu he k heo) (I.hok.write mu he k heo new)
theorem Inv.pins_of {pins':List (Addr × Obj)} (I:Inv X pins σ H s) (h:∀ p∈pins',s.heap.get? p.1=some p.2/\H p.1=none/\p.1≠X.env.locals/\p.1∉X.fs/\∀ v,p.2.data≠.cell v):Inv X pins' σ H s :=
 ⟨I.ok,I.os,I.bare,I.base,I.loc,I.cell,I.free,I.freeC,fun p a=>(mem_append.mp a).elim (fun z=>I.pin p (List.mem_append_left _ z)) (h p),I.hok,I.len⟩
theorem JgJ {N:List Str} (hN:N.Nodup) {i j:Nat} {x:Str} (a:N[i]?=some x) (b:N[j]?=some x):i=j:=by
 obtain ⟨e,c⟩:=List.getElem?_eq_some_iff.mp a;obtain ⟨f,d⟩:=List.getElem?_eq_some_iff.mp b;exact (List.getElem_inj hN).mp (c.trans d.symm)
theorem JfO {M:Model} {A:Around} {E:Value->Shared->Prop} {i:Nat} {x:Str} {v:V} {u:Value} {Q:Unit->Shared->Prop} (I:Inv X pins σ H s) (hN:X.N.Nodup) (hi:X.N[i]?=some x) (hx:Loc X.env.scope x) (r:RelV v u)
  (h:∀ s',Inv X pins (σ.set i (some v)) H s'->(∃ a,Heap.SameBut a s.heap s'.heap/\(a=X.env.locals\/X.env.cells.lookup x=some a))->Q () s') (hf:X.fn x=true\/X.env.scope.names.lookup x=some .local:=by first | exact .inl rfl | exact .inr rfl | assumption):wpAny M A (storeName X.env x u) Q E s:=by
 obtain ⟨m,hn,hl⟩:=id I.loc;have S:(X.env.scope.kind == .class||(X.env.scope.kind == .module&&X.env.locals != X.env.globals))=false:=by rw [I.ok.kind];rfl
 have hiσ : i<σ.length:=by rw [I.len];exact (List.getElem?_eq_some_iff.mp hi).1
 have D:=I.cne;have g:∀ {a:Addr} {K:Heap},(∃ o,s.heap.get? a=some o/\H a=none)->Heap.SameBut a s.heap K->HOk X.prog X.w H K:=fun {a K} ha f b ob e=>by
  obtain ⟨_,_,B⟩:=ha;refine (I.hok b ob e).stay (fun c T t q=>(f.2 c ?_).trans q) (fun _ q=>q) fun _ _ q=>q;rintro rfl;rcases t with rfl | t
  ·rw [B] at e;cases e
  ·rw [B] at t;cases t
 rcases hx with hk | hk
 ·refine wpAny_storeName_local hk hn (fun K a0 f=>?_) S;obtain ⟨oL,_,_,a1,_⟩:=id hn;refine h _ ⟨I.ok,I.os,I.bare,⟨fun b o e n G hx=>?_,fun b o e n G hx=>?_,I.base.free,fun b o e hx=>?_,I.base.tups,I.base.frzs,I.base.tbls⟩,⟨_,a0,fun j y v' l C e3=>?_⟩,fun y c e=>?_,I.free,I.freeC,fun p hp=>?_,g ⟨oL,a1,I.free⟩ f,by simpa using I.len⟩ ⟨_,f, .inl rfl⟩
  ·exact (f.2 b (Nat.ne_of_lt (Nat.lt_of_lt_of_le (Heap.lt_size e) I.ok.above))).trans (I.base.keep b o e n G hx)
  ·obtain ⟨Z,l⟩:=I.base.slot b o e n G hx;exact ⟨Z,(f.2 b (Nat.ne_of_lt (Nat.lt_of_lt_of_le (Heap.lt_size e) I.ok.above))).trans l⟩
  ·obtain ⟨o',l⟩:=I.base.there b o e hx;exact ⟨o',(f.2 b (Nat.ne_of_lt (Nat.lt_of_lt_of_le (Heap.lt_size e) I.ok.above))).trans l⟩
  ·by_cases F:j=i
   ·subst F;rw [hi] at l;cases l;rw [List.getElem?_set_self hiσ] at C;cases C;exact ⟨u,r, .inl ⟨hk,by simp⟩⟩
   ·rw [List.getElem?_set_ne (Ne.symm F)] at C;obtain ⟨u',r',q⟩:=hl j y v' l C e3;refine ⟨u',r',?_⟩;rcases q with ⟨k,e⟩ | ⟨k,c,e,z⟩
    ·refine .inl ⟨k,?_⟩;have : y≠x:=fun e=>F (JgJ hN l (e ▸ hi));simp [this,e]
    ·exact .inr ⟨k,c,e,z.sameBut f (D y c e)⟩
  ·obtain ⟨T,z⟩:=I.cell y c e;exact ⟨T,z.sameBut f (D y c e)⟩
  ·obtain ⟨e,n,U,Y,d⟩:=I.pin p hp;exact ⟨(f.2 p.1 U).trans e,n,U,Y,d⟩
 ·have J:X.fn x=true:=by
   rcases hf with z | z
   ·exact z
   ·rw [z] at hk;cases hk
  obtain ⟨c,t⟩:=I.ok.has x (.inl hk);obtain ⟨T,z⟩:=I.cell x c t;refine wpAny_storeName_cell I.ok.kind hk t z (fun K O f=>?_);obtain ⟨oc,R,P⟩:=id z;refine h { s with heap:=K } ⟨I.ok,I.os,I.bare,⟨fun b o e n G hx=>?_,fun b o e n G hx=>?_,I.base.free,fun b o e hx=>?_,I.base.tups,I.base.frzs,I.base.tbls⟩,⟨m,hn.sameBut f (Ne.symm (D x c t)),fun j y v' l C e3=>?_⟩,fun y W e=>?_,I.free,I.freeC,fun p hp=>?_,g ⟨oc,R,I.freeC x c t⟩ f,by simpa using I.len⟩ ⟨c,f, .inr t⟩
  ·exact (f.2 b (Nat.ne_of_lt (Nat.lt_of_lt_of_le (Heap.lt_size e) (I.ok.cab x c J t)))).trans (I.base.keep b o e n G hx)
  ·obtain ⟨Z,l⟩:=I.base.slot b o e n G hx;exact ⟨Z,(f.2 b (Nat.ne_of_lt (Nat.lt_of_lt_of_le (Heap.lt_size e) (I.ok.cab x c J t)))).trans l⟩
  ·obtain ⟨o',l⟩:=I.base.there b o e hx;exact ⟨o',(f.2 b (Nat.ne_of_lt (Nat.lt_of_lt_of_le (Heap.lt_size e) (I.ok.cab x c J t)))).trans l⟩
  ·by_cases F:j=i
   ·subst F;rw [hi] at l;cases l;rw [List.getElem?_set_self hiσ] at C;cases C;exact ⟨u,r, .inr ⟨.inl hk,c,t,O⟩⟩
   ·rw [List.getElem?_set_ne (Ne.symm F)] at C;obtain ⟨u',r',q⟩:=hl j y v' l C e3;refine ⟨u',r',?_⟩;rcases q with q | ⟨k,W,e,z'⟩
    ·exact .inl q
    ·refine .inr ⟨k,W,e,z'.sameBut f ?_⟩;rintro rfl;exact F (JgJ hN l (I.ok.inj _ _ _ e t ▸ hi))
  ·by_cases L:W=c
   ·subst L;exact ⟨_,O⟩
   ·obtain ⟨w2,z2⟩:=I.cell y W e;exact ⟨w2,z2.sameBut f L⟩
  ·obtain ⟨e,n,U,Y,d⟩:=I.pin p hp;refine ⟨(f.2 p.1 ?_).trans e,n,U,Y,d⟩;intro q;rw [q,R] at e;have q':oc=p.2:=Option.some.inj e;exact d T (by rw [<- q'];exact P)
theorem JgT {M:Model} {A:Around} {E:Value->Shared->Prop} {i:Nat} {x:Str} {v:V} {u:Value} {Q:Unit->Shared->Prop} (I:Inv X pins σ H s) (hN:X.N.Nodup) (hi:X.N[i]?=some x) (hx:Loc X.env.scope x) (r:RelV v u)
  (h:∀ s',Inv X pins (σ.set i (some v)) H s'->Q () s') (hf:X.fn x=true\/X.env.scope.names.lookup x=some .local:=by first | exact .inl rfl | exact .inr rfl | assumption):wpAny M A (storeName X.env x u) Q E s :=
 JfO I hN hi hx r (fun s' I' _=>h s' I') hf
theorem Inv.call' {s':Shared} {ch:List Addr} (I:Inv X pins σ H s) (ho:s'.os=s.os) (u:Un (frs X.stack) ch H H' s.heap s'.heap) (hok:HOk X.prog X.w H' s'.heap) (hg:AllBare s'.gens)
  (hch:∀ b∈ch,(b∈X.ex\/X.s₀.heap.objs.size<=b)/\b≠X.env.locals/\(∀ x c,X.env.cells.lookup x=some c->c≠b)/\∀ p∈X.pn++pins,p.1≠b):Inv X pins σ H' s':=by
 obtain ⟨d,g',d',t',a⟩:=s';have e:a=s.os:=ho;subst e;exact I.call (g':=g') (t':=t') (d':=d') u hok hg hch
end
abbrev XK:=Value->Option Addr->Hp->Prop
abbrev St:=List (Option V)
abbrev VK:=V->Hp->Prop
abbrev TE:=St->Hp->VK->Prop
abbrev TT:=St->Hp->(Bool->Hp->Prop)->Prop
abbrev TA:=St->Hp->(List V->Hp->Prop)->Prop
structure Ends where
 nx:St->Hp->Prop
 rt:VK
 bk:St->Hp->Prop:=fun _ _=>False
 ct:St->Hp->Prop:=fun _ _=>False
abbrev TS:=Ends->St->Hp->Prop
def EP (X:Cx) (pins:List (Addr × Obj)) (σ : St) (Q:VK) (u:Value) (s':Shared):Prop:=∃ v H',Inv X pins σ H' s'/\RelV v u/\Q v H'
def TP (X:Cx) (pins:List (Addr × Obj)) (σ : St) (Q:Bool->Hp->Prop) (b:Bool) (s':Shared):Prop:=∃ H',Inv X pins σ H' s'/\Q b H'
def AP (X:Cx) (pins:List (Addr × Obj)) (σ : St) (Q:List V->Hp->Prop) (us:List Value) (s':Shared):Prop:=∃ vs H',Inv X pins σ H' s'/\Vals vs us/\Q vs H'
def SP (X:Cx) (pins:List (Addr × Obj)) (D:Ends) (f:Flow) (s':Shared):Prop :=
 match f with
 | .next=>∃ σ' H',Inv X pins σ' H' s'/\D.nx σ' H'
 | .brk=>∃ σ' H',Inv X pins σ' H' s'/\D.bk σ' H'
 | .cont=>∃ σ' H',Inv X pins σ' H' s'/\D.ct σ' H'
 | .ret u=>∃ v σ' H',Inv X pins σ' H' s'/\RelV v u/\D.rt v H'
def PE (X:Cx) (e:Expr) (t:TE):Prop :=
 ∀ (pins:List (Addr × Obj)) (s:Shared) (σ : St) (H:Hp) (Q:VK),Inv X pins σ H s->t σ H Q->wpAny (model X.prog X.w) X.A (eval e X.env) (EP X pins σ Q) X.xe s
def PT (X:Cx) (e:Expr) (t:TT):Prop :=
 ∀ (pins:List (Addr × Obj)) (s:Shared) (σ : St) (H:Hp) (Q:Bool->Hp->Prop),Inv X pins σ H s->t σ H Q->wpAny (model X.prog X.w) X.A (isTrue e X.env (eval e X.env)) (TP X pins σ Q) X.xe s
def PW (X:Cx) (e:Expr) (t:TT):Prop :=
 ∀ (whole:Sem Value) (pins:List (Addr × Obj)) (s:Shared) (σ : St) (H:Hp) (Q:Bool->Hp->Prop),Inv X pins σ H s->t σ H Q->wpAny (model X.prog X.w) X.A (isTrue e X.env whole) (TP X pins σ Q) X.xe s
theorem PW.pt {X:Cx} {e:Expr} {t:TT} (h:PW X e t):PT X e t:=h _
def PA (X:Cx) (es:List Expr) (t:TA):Prop :=
 ∀ (pos:Pos) (pins:List (Addr × Obj)) (s:Shared) (σ : St) (H:Hp) (Q:List V->Hp->Prop),Inv X pins σ H s->t σ H Q->wpAny (model X.prog X.w) X.A (spliced (backTo pos (starEach es X.env))) (AP X pins σ Q) X.xe s
def PS (X:Cx) (st:Stmt) (t:TS):Prop :=
 ∀ (pins:List (Addr × Obj)) (s:Shared) (σ : St) (H:Hp) (D:Ends),Inv X pins σ H s->t D σ H->wpAny (model X.prog X.w) X.A (exec st X.env) (SP X pins D) X.xe s
def PSs (X:Cx) (st:List Stmt) (t:TS):Prop :=
 ∀ (pins:List (Addr × Obj)) (s:Shared) (σ : St) (H:Hp) (D:Ends),Inv X pins σ H s->t D σ H->wpAny (model X.prog X.w) X.A (execs st X.env) (SP X pins D) X.xe s
theorem thn {α : Type} {t:Sem α} {Q Q' : α->Shared->Prop} {M:Model} {A:Around} {E:Value->Shared->Prop} {s:Shared} (h:wpAny M A t Q E s) (hQ:∀ a s,Q a s->Q' a s):wpAny M A t Q' E s:=wpAny_mono h hQ fun _ _ x=>x
section
variable {X:Cx}
def tVar (i:Nat):TE:=fun σ H Q=>∃ v,σ[i]?=some (some v)/\Q v H
def tC (v:V):TE:=fun _ H Q=>Q v H
theorem Jld {i:Nat} {x:Str} {pos:Pos} (hN:X.N[i]?=some x) (hv:Vis X.env.scope x) (hd:(x == ("__debug__" : Str))=false:=by decide) (hcd:(x == ("__classdict__" : Str))=false:=by decide):PE X (.Name x pos) (tVar i):=by
 intro b s σ H Q I h;obtain ⟨v,e,h⟩:=h;obtain ⟨m,d,f⟩:=I.loc;obtain ⟨u,r,l⟩:=f i x v hN e hv;have a:EP X b σ Q u s:=⟨v,H,I,r,h⟩;rcases l with ⟨hk,hm⟩ | ⟨hk,c,hc,hcell⟩
 ·exact wpAny_Name (wpAny_loadName_local I.ok.kind hk d hm a) hd
 ·rcases hk with hk | hk
  ·exact wpAny_Name (wpAny_loadName_cell I.ok.kind hk hc hcell a) hd
  ·exact wpAny_Name (wpAny_loadName_free I.ok.kind hk hc hcell a hcd) hd
theorem Jac {i j pos}:PE X (.Constant (.int i) j pos) (tC (.int i)):=fun _ _ _ H _ I h=>wpAny_Constant_int ⟨.int i,H,I.tok _,⟨_,rfl⟩,h⟩
theorem pe_bl {b j pos}:PE X (.Constant (.bool b) j pos) (tC (.bl b)):=fun _ _ _ H _ I h=>Constant_bool ⟨.bl b,H,I,rfl,h⟩
theorem Jea {j pos}:PE X (.Constant .none j pos) (tC .non):=fun _ _ _ H _ I h=>Constant_none ⟨.non,H,I,rfl,h⟩
theorem Ja8 {x j pos}:PE X (.Constant (.str x) j pos) (tC (.str x)):=fun _ _ _ H _ I h=>Calls.Constant_str ⟨.str x,H,I.tok _,⟨_,rfl⟩,h⟩
def Gl (X:Cx) (x:Str):Prop:=X.env.kindOf x=some .globalImplicit
theorem Jdr {E:Value->Shared->Prop} {pins:List (Addr × Obj)} {s:Shared} {σ : St} {H:Hp} {x:Str} {u:Value} {pos:Pos} {Q:Value->Shared->Prop} (I:Inv X pins σ H s) (hg:Gl X x) (hm:X.mg x=some u) (h:Q u s)
  (hd:(x == ("__debug__" : Str))=false:=by decide):wpAny (model X.prog X.w) X.A (eval (.Name x pos) X.env) Q E s :=
 Calls.Name_function_global I.ok.kind hg (Calls.loadGlobal_global (by rw [I.ok.glob];exact I.mod.glob.keeps I.bk) hm h) hd
theorem JeC {E:Value->Shared->Prop} {pins:List (Addr × Obj)} {s:Shared} {σ : St} {H:Hp} {x:Str} {u:Value} {pos:Pos} {Q:Value->Shared->Prop} (I:Inv X pins σ H s) (hg:Gl X x) (hm:X.mg x=none) (hv:bootBuiltins x=some u) (h:Q u s)
  (hn:x≠"__name__":=by decide) (hd:(x == ("__debug__" : Str))=false:=by decide):wpAny (model X.prog X.w) X.A (eval (.Name x pos) X.env) Q E s:=by
 obtain ⟨c,a,b⟩:=I.mod.blt;exact Calls.Name_function_global I.ok.kind hg (Calls.loadGlobal_builtin (by rw [I.ok.glob];exact I.mod.glob.keeps I.bk) hm (by rw [I.ok.blt];exact a.keeps I.bk) ((b x hn).trans hv) h) hd
theorem JcT {x:Str} {v:V} {u:Value} {pos:Pos} (hg:Gl X x) (hm:X.mg x=some u) (r:RelV v u) (hd:(x == ("__debug__" : Str))=false:=by decide):PE X (.Name x pos) (tC v) :=
 fun _ _ _ H _ I h=>Jdr I hg hm ⟨v,H,I,r,h⟩ hd
theorem Jcf {x:Str} {v:V} {u:Value} {pos:Pos} (hg:Gl X x) (hm:X.mg x=none) (hv:bootBuiltins x=some u) (r:RelV v u) (hn:x≠"__name__":=by decide) (hd:(x == ("__debug__" : Str))=false:=by decide):PE X (.Name x pos) (tC v) :=
 fun _ _ _ H _ I h=>JeC I hg hm hv ⟨v,H,I,r,h⟩ hn hd
variable {a b:Expr} {ta tb:TE} {pos:Pos}
def PC (X:Cx) (op:CmpOp) (a b:Expr) (t:TE):Prop :=
 ∀ (pins:List (Addr × Obj)) (s:Shared) (σ : St) (H:Hp) (Q:VK),Inv X pins σ H s->t σ H Q ->
  wpAny (model X.prog X.w) X.A (eval a X.env) (fun v s₁=>wpAny (model X.prog X.w) X.A (eval b X.env) (fun u s₂=>wpAny (model X.prog X.w) X.A (compareOp op v u) (EP X pins σ Q) X.xe s₂) X.xe s₁) X.xe s
theorem JgI (b:Expr) {op:CmpOp} (h:op≠.In) (h2:op≠.NotIn):behindInMarks op b=false:=by
 have a:(op == CmpOp.In)=false:=by cases op <;> first | rfl | exact absurd rfl h
 have c:(op == CmpOp.NotIn)=false:=by cases op <;> first | rfl | exact absurd rfl h2
 cases b <;> simp [behindInMarks,a,c]
def tB (t:TE):TT:=fun σ H Q=>t σ H fun x H1=>∃ c,x=.bl c/\Q c H1
theorem Jlc {op:CmpOp} {t:TE} (h:PC X op a b t) (h1:behindInMarks op b=false:=by first | exact JgI _ ⋯ ⋯ | rfl):PE X (.Compare a [op] [b] pos) t:=fun c s σ H Q I d=>wpAny_Compare1 (h c s σ H Q I d) h1
theorem Jed {op:CmpOp} {t:TE} (h:PC X op a b t) (h1:behindInMarks op b=false:=by first | exact JgI _ ⋯ ⋯ | rfl):PT X (.Compare a [op] [b] pos) (tB t):=by
 intro e s σ H Q I i;refine wpAny_isTrue_Compare1 (thn (h e s σ H _ I i) fun v n h1=>thn h1 fun u l j=>thn j fun c m ζ=>?_) h1;obtain ⟨x,f,I1,g,k⟩:=ζ;obtain ⟨d,rfl,q⟩:=k;cases g;exact wpAny_truthy_bool ⟨f,I1,q⟩
theorem JaZ {e:Expr} {t:TE} (h:PE X e t) (he:∀ whole,isTrue e X.env whole=(do let v <- whole;standAt e.pos;holding [v] (truthy v)):=by intro _;rfl):PT X e (tB t):=by
 intro a s σ H Q I b;refine isTrue_plain (thn (h a s σ H _ I b) fun v i ζ=>?_) (he _);obtain ⟨x,f,I1,g,c⟩:=ζ;obtain ⟨d,rfl,q⟩:=c;cases g;exact wpAny_truthy_bool ⟨f,I1,q⟩
variable {tA tB':TT} {rest:List Expr}
def tAnd (t u:TT):TT:=fun σ H Q=>t σ H fun c H1=>if c=true then u σ H1 Q else Q false H1
def tOr (t u:TT):TT:=fun σ H Q=>t σ H fun c H1=>if c=true then Q true H1 else u σ H1 Q
def tNot (t:TT):TT:=fun σ H Q=>t σ H fun c H1=>Q (!c) H1
theorem Jkr (ha:PT X a tA):PW X (.BoolOp .And [a] pos) tA:=by
 intro d b s σ H Q I h;refine isTrue_and (thn (ha b s σ H Q I h) fun c f e=>?_);cases c with
 | true=>exact isTrue_and_nil e
 | false=>exact e
theorem JbZ (ha:PT X a tA):PW X (.BoolOp .Or [a] pos) tA:=by
 intro d b s σ H Q I h;refine isTrue_or (thn (ha b s σ H Q I h) fun c f e=>?_);cases c with
 | false=>exact isTrue_or_nil e
 | true=>exact e
theorem Jlh (ha:PT X a tA) (hb:PW X (.BoolOp .And (b::rest) pos) tB'):PW X (.BoolOp .And (a::b::rest) pos) (tAnd tA tB'):=by
 intro g d s σ H Q I h;refine isTrue_and (thn (ha d s σ H _ I h) fun c i ⟨f,I1,e⟩=>?_);cases c with
 | true=>exact hb g d i σ f Q I1 e
 | false=>exact ⟨f,I1,e⟩
theorem pw_or (ha:PT X a tA) (hb:PW X (.BoolOp .Or (b::rest) pos) tB'):PW X (.BoolOp .Or (a::b::rest) pos) (tOr tA tB'):=by
 intro g d s σ H Q I h;refine isTrue_or (thn (ha d s σ H _ I h) fun c i ⟨f,I1,e⟩=>?_);cases c with
 | true=>exact ⟨f,I1,e⟩
 | false=>exact hb g d i σ f Q I1 e
theorem Jbi (ha:PT X a tA):PT X (.UnaryOp .Not a pos) (tNot tA):=by
 intro b s σ H Q I h;exact isTrue_not (ha b s σ H (fun c d=>Q (!c) d) I h)
def tAndV (ta tb:TE):TE:=fun σ H Q=>ta σ H fun x H1=>∃ c,x=.bl c/\if c=true then tb σ H1 Q else Q (.bl false) H1
def tOrV (ta tb:TE):TE:=fun σ H Q=>ta σ H fun x H1=>∃ c,x=.bl c/\if c=true then Q (.bl true) H1 else tb σ H1 Q
def tNotV (ta:TE):TE:=fun σ H Q=>ta σ H fun x H1=>∃ c,x=.bl c/\Q (.bl (!c)) H1
theorem Jde {op} {t:TE} (h:PE X a t):PE X (.BoolOp op [a] pos) t:=fun b s σ H Q I c=>BoolOp_one (h b s σ H Q I c)
theorem Jcw (ha:PE X a ta) (hb:PE X (.BoolOp .And (b::rest) pos) tb):PE X (.BoolOp .And (a::b::rest) pos) (tAndV ta tb):=by
 intro d s σ H Q I h;refine BoolOp_and (thn (ha d s σ H _ I h) fun v i ζ=>?_);obtain ⟨x,f,I1,g,e⟩:=ζ;obtain ⟨c,rfl,e⟩:=e;cases g;refine wpAny_truthy_bool ?_;cases c with
 | true=>exact hb d i σ f Q I1 e
 | false=>exact ⟨.bl false,f,I1,rfl,e⟩
theorem pe_or (ha:PE X a ta) (hb:PE X (.BoolOp .Or (b::rest) pos) tb):PE X (.BoolOp .Or (a::b::rest) pos) (tOrV ta tb):=by
 intro d s σ H Q I h;refine BoolOp_or (thn (ha d s σ H _ I h) fun v i ζ=>?_);obtain ⟨x,f,I1,g,e⟩:=ζ;obtain ⟨c,rfl,e⟩:=e;cases g;refine wpAny_truthy_bool ?_;cases c with
 | false=>exact hb d i σ f Q I1 e
 | true=>exact ⟨.bl true,f,I1,rfl,e⟩
theorem Jh8 (ha:PE X a ta):PE X (.UnaryOp .Not a pos) (tNotV ta):=by
 intro b s σ H Q I h;refine UnaryOp_ (thn (ha b s σ H _ I h) fun v g ζ=>?_);obtain ⟨x,f,I1,e,d⟩:=ζ;obtain ⟨c,rfl,d⟩:=d;cases e;exact not_of (wpAny_truthy_bool ⟨.bl (!c),f,I1,rfl,d⟩)
def tIf (t:TT) (ta tb:TE):TE:=fun σ H Q=>t σ H fun c H1=>if c=true then ta σ H1 Q else tb σ H1 Q
theorem JgP {c:Expr} (hc:PT X c tA) (ha:PE X a ta) (hb:PE X b tb):PE X (.IfExp c a b pos) (tIf tA ta tb):=by
 intro e s σ H Q I h;refine wpAny_IfExp (thn (hc e s σ H _ I h) fun d i ⟨g,I1,f⟩=>?_);cases d with
 | true=>exact ha e i σ g Q I1 f
 | false=>exact hb e i σ g Q I1 f
end
def SqL (K:W.Frag) (H:Hp) (a:Addr) (xs:List V):Prop :=
 Rd H a (.lst xs) \/
  ∃ (o:Obj) (its:Array Value) (n:Nat),K.lookup a=some o/\o.cls=.type "list"/\o.dict=none/\o.data=.seq its n/\its.size<=sizeLine/\Vals xs its.toList
def SqT (K:W.Frag) (H:Hp) (a:Addr) (xs:List V):Prop :=
 Rd H a (.tup xs) \/
  ∃ (o:Obj) (its:Array Value) (n:Nat),K.lookup a=some o/\o.cls=.type "tuple"/\o.data=.seq its n/\its.size<=sizeLine/\Vals xs its.toList
def absV:Value->Option V
 | .none=>some .non
 | .bool b=>some (.bl b)
 | .int i _=>some (.int i)
 | .str x _=>some (.str x)
 | .bytes b _=>some (.byt b)
 | .float b _=>some (.flt b)
 | .ref a=>some (.ref a)
 | .type n=>some (.ty n)
 | _=>none
theorem RelV.abs {x:V} {u:Value} (r:RelV x u):absV u=some x:=by
 cases x with
 | non=>cases r;rfl
 | bl _=>cases r;rfl
 | int _=>obtain ⟨t,rfl⟩:=r;rfl
 | str _=>obtain ⟨t,rfl⟩:=r;rfl
 | byt _=>obtain ⟨t,rfl⟩:=r;rfl
 | flt _=>obtain ⟨t,rfl⟩:=r;rfl
 | ref _=>cases r;rfl
 | ty _=>cases r;rfl
theorem RelV.inj {x y:V} {u:Value} (r:RelV x u) (q:RelV y u):x=y:=Option.some.inj (r.abs.symm.trans q.abs)
theorem Vals.inj:∀ {xs ys:List V} {us:List Value},Vals xs us->Vals ys us->xs=ys
 | _,_,_, .nil, .nil=>rfl
 | _,_,_, .cons r t, .cons r' t'=>by rw [r.inj r',Vals.inj t t']
section
variable {X:Cx} {pins:List (Addr × Obj)} {σ : St} {H:Hp} {s:Shared} {a:Addr} {xs ys:List V}
theorem SqL.of {K:W.Frag} (h:H a=some (.lst xs)):SqL K H a xs:=.inl (.inl h)
theorem SqT.of {K:W.Frag} (h:H a=some (.tup xs)):SqT K H a xs:=.inl (.inl h)
theorem Inv.list (I:Inv X pins σ H s) (h:SqL X.K H a xs):∃ its:List Value,Vals xs its/\PlainL s.heap a its.toArray/\xs.length<=sizeLine:=by
 rcases h with h | ⟨o,its,n,hk,hc,hd,hs,hz,r⟩
 ·obtain ⟨z,its,n,r,e⟩:=h.ok I.hok;exact ⟨its,r,⟨_,n,e,rfl,rfl,rfl⟩,z⟩
 ·refine ⟨its.toList,r,⟨o,n,I.kIn a o hk,hc,hd,by simpa using hs⟩,?_⟩;have e:=r.length;simp only [Array.length_toList] at e;ac_nf
theorem Inv.tuple (I:Inv X pins σ H s) (h:SqT X.K H a xs):∃ its:List Value,Vals xs its/\IsTup s.heap a its.toArray/\xs.length<=sizeLine:=by
 rcases h with h | ⟨o,its,n,hk,hc,hs,hz,r⟩
 ·obtain ⟨z,its,r,p⟩:=h.ok I.hok;exact ⟨its,r,p,z⟩
 ·refine ⟨its.toList,r,⟨o,I.kIn a o hk,hc,n,by simpa using hs⟩,?_⟩;have e:=r.length;simp only [Array.length_toList] at e;ac_nf
theorem Inv.list_inj (I:Inv X pins σ H s) (h:SqL X.K H a xs) (h':SqL X.K H a ys):xs=ys:=by
 obtain ⟨c,r,⟨o,n,e,_,_,d⟩,_⟩:=I.list h;obtain ⟨b,i,⟨j,k,f,_,_,g⟩,_⟩:=I.list h';rw [e] at f;cases f;rw [d] at g;injection g with d1 _
 have : c=b:=by simpa using congrArg Array.toList d1
 subst this;exact r.inj i
theorem Inv.tuple_inj (I:Inv X pins σ H s) (h:SqT X.K H a xs) (h':SqT X.K H a ys):xs=ys:=by
 obtain ⟨c,r,⟨o,e,_,n,d⟩,_⟩:=I.tuple h;obtain ⟨b,i,⟨j,f,_,k,g⟩,_⟩:=I.tuple h';rw [e] at f;cases f;rw [d] at g;injection g with d1 _
 have : c=b:=by simpa using congrArg Array.toList d1
 subst this;exact r.inj i
end
abbrev Cx.wish (X:Cx) (E:Value->Shared->Prop):Cx:={ X with xe:=E }
abbrev Cx.nox (X:Cx):Cx:=X.wish fun _ _=>False
theorem Cx.Ok.wish {X:Cx} (ok:X.Ok) (E:Value->Shared->Prop):(X.wish E).Ok :=
 ⟨ok.mod,ok.kind,ok.glob,ok.blt,ok.above,ok.inj,ok.has,ok.cab,ok.hd,ok.frames,ok.stk,ok.exf,ok.bs,ok.bsz,ok.noex,ok.exfs,ok.funs,ok.frf⟩
theorem Cx.Ok.unwish {X:Cx} {E:Value->Shared->Prop} (ok:(X.wish E).Ok):X.Ok :=
 ⟨ok.mod,ok.kind,ok.glob,ok.blt,ok.above,ok.inj,ok.has,ok.cab,ok.hd,ok.frames,ok.stk,ok.exf,ok.bs,ok.bsz,ok.noex,ok.exfs,ok.funs,ok.frf⟩
section
variable {X:Cx} {pins:List (Addr × Obj)} {σ : St} {H:Hp} {s:Shared} {E:Value->Shared->Prop}
theorem Inv.wish (I:Inv X pins σ H s) (E:Value->Shared->Prop):Inv (X.wish E) pins σ H s:=⟨I.ok.wish E,I.os,I.bare,I.base,I.loc,I.cell,I.free,I.freeC,I.pin,I.hok,I.len⟩
theorem Inv.unwish (I:Inv (X.wish E) pins σ H s):Inv X pins σ H s:=⟨I.ok.unwish,I.os,I.bare,I.base,I.loc,I.cell,I.free,I.freeC,I.pin,I.hok,I.len⟩
theorem SP.unwish {D:Ends} {f:Flow} {s':Shared} (h:SP (X.wish E) pins D f s'):SP X pins D f s':=by
 cases f with
 | next=>obtain ⟨σ',a,I,q⟩:=h;exact ⟨σ',a,I.unwish,q⟩
 | brk=>obtain ⟨σ',a,I,q⟩:=h;exact ⟨σ',a,I.unwish,q⟩
 | cont=>obtain ⟨σ',a,I,q⟩:=h;exact ⟨σ',a,I.unwish,q⟩
 | ret u=>obtain ⟨v,σ',a,I,r,q⟩:=h;exact ⟨v,σ',a,I.unwish,r,q⟩
theorem PSs.nox {st:List Stmt} {t:TS} (h:PSs X.nox st t):PSs X st t:=fun a s σ H D I b=>
 wpAny_mono (h a s σ H D (I.wish _) b) (fun _ _ q=>q.unwish) fun _ _ z=>False.elim z
end
section
variable {X:Cx} {st:Stmt} {rest:List Stmt} {t u:TS} {e:Expr} {te:TE} {pos:Pos}
def tNext:TS:=fun D σ H=>D.nx σ H
def tSeq (t u:TS):TS:=fun D σ H=>t { D with nx:=u D } σ H
theorem Jar:PSs X [] tNext:=fun _ _ σ H _ I h=>wpAny_execs_nil ⟨σ,H,I,h⟩
theorem Jab (h1:PS X st t) (h2:PSs X rest u):PSs X (st::rest) (tSeq t u):=by
 intro a s σ H D I h;refine wpAny_execs_cons (thn (h1 a s σ H { D with nx:=u D } I h) fun f b q=>?_);cases f with
 | next=>
  obtain ⟨σ',c,I',q⟩:=q;exact h2 a b σ' c D I' q
 | ret v=>exact q
 | brk=>exact q
 | cont=>exact q
theorem Jah (h1:PS X st t):PSs X [st] t:=by
 intro a s σ H D I h;refine wpAny_execs_cons (thn (h1 a s σ H D I h) fun f b q=>?_);cases f with
 | next=>exact wpAny_execs_nil q
 | ret v=>exact q
 | brk=>exact q
 | cont=>exact q
theorem Inv.quiet {pins:List (Addr × Obj)} {σ : St} {H:Hp} {s:Shared} (I:Inv X pins σ H s):interactive X.env=false:=by simp [interactive,I.ok.kind]
def tDrop (te:TE):TS:=fun D σ H=>te σ H fun _ H1=>D.nx σ H1
theorem Ja2 (he:PE X e te) (hs:swapsWith e none pos.line X.env=pure false:=by rfl):PS X (.Expr e pos) (tDrop te):=by
 intro a s σ H D I h;exact wpAny_Expr_any (thn (he a s σ H _ I h) fun v f ⟨x,c,I1,d,b⟩=>⟨σ,c,I1,b⟩) I.quiet hs
def tRet (te:TE):TS:=fun D σ H=>te σ H D.rt
theorem Jap (he:PE X e te):PS X (.Return (some e) pos) (tRet te):=by
 intro a s σ H D I h;exact wpAny_Return_some (thn (he a s σ H _ I h) fun v f ⟨x,d,I1,c,b⟩=>⟨x,σ,d,I1,c,b⟩)
def tRetN:TS:=fun D _ H=>D.rt .non H
def tIfS (c:TT) (t u:TS):TS:=fun D σ H=>c σ H fun b H1=>if b=true then t D σ H1 else u D σ H1
theorem ps_if {c:Expr} {a b:List Stmt} {tc:TT} (hc:PT X c tc) (ha:PSs X a t) (hb:PSs X b u):PS X (.If c a b pos) (tIfS tc t u):=by
 intro e s σ H D I h;refine wpAny_If (thn (hc e s σ H _ I h) fun d i ⟨g,I1,f⟩=>?_);cases d with
 | true=>exact ha e i σ g D I1 f
 | false=>exact hb e i σ g D I1 f
end
abbrev TG:=V->St->Hp->(St->Hp->Prop)->Prop
abbrev TGs:=List V->St->Hp->(St->Hp->Prop)->Prop
def PG (X:Cx) (target:Expr) (t:TG):Prop :=
 ∀ (pins:List (Addr × Obj)) (s:Shared) (σ : St) (H:Hp) (v:V) (u:Value) (Q:St->Hp->Prop),Inv X pins σ H s->RelV v u->t v σ H Q ->
  wpAny (model X.prog X.w) X.A (assign target X.env u) (fun _ s'=>∃ σ' H',Inv X pins σ' H' s'/\Q σ' H') X.xe s
def PGs (X:Cx) (ts:List Expr) (t:TGs):Prop :=
 ∀ (pins:List (Addr × Obj)) (s:Shared) (σ : St) (H:Hp) (vs:List V) (us:List Value) (Q:St->Hp->Prop),Inv X pins σ H s->Vals vs us->t vs σ H Q ->
  wpAny (model X.prog X.w) X.A (assignInOrder ((assignEach ts X.env).map (·.2)) us) (fun _ s'=>∃ σ' H',Inv X pins σ' H' s'/\Q σ' H') X.xe s
section
variable {X:Cx} {pos:Pos}
def gName (i:Nat):TG:=fun v σ H Q=>Q (σ.set i (some v)) H
theorem Jax {i:Nat} {x:Str} (hN:X.N.Nodup) (hi:X.N[i]?=some x) (hx:Loc X.env.scope x) (hf:X.fn x=true\/X.env.scope.names.lookup x=some .local:=by first | exact .inl rfl | exact .inr rfl | assumption):PG X (.Name x pos) (gName i):=by
 intro a s σ H v u Q I r h;exact wpAny_assign_Name (JgT I hN hi hx r (fun b I'=>⟨_,H,I',h⟩) hf)
def gNil:TGs:=fun vs σ H Q=>vs=[]/\Q σ H
def gCons (t:TG) (u:TGs):TGs:=fun vs σ H Q=>∃ v r,vs=v::r/\t v σ H fun σ' H'=>u r σ' H' Q
theorem Jgl:PGs X [] gNil:=by
 intro a s σ H b c Q I r h;obtain ⟨e,h⟩:=h;subst e;cases r;exact assignInOrder_nil ⟨σ,H,I,h⟩
theorem JcP {e:Expr} {es:List Expr} {t:TG} {u:TGs} (h1:PG X e t) (h2:PGs X es u)
  (hs:(assignEach (e::es) X.env).map (·.2)=assign e X.env::(assignEach es X.env).map (·.2):=by rfl):PGs X (e::es) (gCons t u):=by
 intro a s σ H g j Q I r h;obtain ⟨v,i,d,h⟩:=h;subst d;cases r with
 | cons r rr=>
  rw [hs];refine assignInOrder_cons (thn (h1 a s σ H _ _ _ I r h) fun _ f ⟨σ1,b,I1,c⟩=>?_);exact h2 a f σ1 b _ _ Q I1 rr c
def gTup (K:W.Frag) (n:Nat) (t:TGs):TG:=fun v σ H Q=>∃ a xs,v=.ref a/\SqT K H a xs/\xs.length=n/\t xs σ H Q
theorem Jh9 {es:List Expr} {k:Nat} {t:TGs} {n:Nat} (hc:X.calm=true) (h:PGs X es t)
  (hn:(assignEach es X.env).length=n:=by rfl) (hst:(assignEach es X.env).findIdx? (·.1)=none:=by rfl):PG X (.Tuple es k pos) (gTup X.K n t):=by
 intro c s σ H v u Q I r d;obtain ⟨a,m,j,i,p,d⟩:=d;subst j;cases r;obtain ⟨q,f,g,x⟩:=I.tuple i;refine assign_Tuple_tuple (I.ok.hd hc) g (by simp [hn, <- p,f.length]) hst fun l w=>?_;have I1:Inv X c σ H { s with heap:=l }:=I.kept (t':=s.toks) fun b o e=>w b o (Nat.ne_of_lt (Heap.lt_size e)) e;exact h c _ σ H m _ Q I1 (by simpa using f) d
def tAsg (te:TE) (g:TG):TS:=fun D σ H=>te σ H fun x H1=>g x σ H1 D.nx
theorem Jlg {tg e:Expr} {te:TE} {g:TG} (he:PE X e te) (hg:PG X tg g) (hs:swapsWithSole [tg] e pos.line X.env=pure false:=by rfl) (hw:swappedStores [tg] e X.env=pure none:=by rfl)
  (h1:(assignEach [tg] X.env).map (·.2)=[assign tg X.env]:=by rfl):PS X (.Assign [tg] e pos) (tAsg te g):=by
 intro a s σ H D I h;refine wpAny_Assign_stores (thn (he a s σ H _ I h) fun v f ζ=>?_) hs hw;obtain ⟨x,d,I1,c,b⟩:=ζ;rw [h1];exact thn (hg a f σ d x v _ I1 c b) fun _ i q=>q
theorem Jak {i:Nat} {x:Str} {e:Expr} {te:TE} {pos':Pos} (hN:X.N.Nodup) (hi:X.N[i]?=some x) (hx:Loc X.env.scope x) (he:PE X e te) (hs:swapsWith e (some (.Name x pos')) pos.line X.env=pure false:=by rfl) (hf:X.fn x=true\/X.env.scope.names.lookup x=some .local:=by first | exact .inl rfl | exact .inr rfl | assumption) :
  PS X (.Assign [.Name x pos'] e pos) (tAsg te (gName i)):=by
 intro a s σ H D I h;refine wpAny_Assign_Name (thn (he a s σ H _ I h) fun v g ζ=>?_) hs;obtain ⟨y,d,I1,c,b⟩:=ζ;exact JgT I1 hN hi hx c (fun f I2=>⟨_,d,I2,b⟩) hf
end
section
variable {X:Cx} {pos:Pos}
def Jlr (c:TT) (tb:TS):TS:=fun D σ H=>∃ W:Nat->St->Hp->Prop,(∃ m,W m σ H)/\∀ m σ H,W m σ H ->
 c σ H fun b H1=>if b=true then ∃ N:St->Hp->Prop,(∀ σ' H',N σ' H'->∃ m',m'<m/\W m' σ' H')/\tb { D with nx:=N,ct:=N,bk:=D.nx } σ H1 else D.nx σ H1
theorem JdL {c:Expr} {body:List Stmt} {tc:TT} {tb:TS} (hp:PassesOwn (model X.prog X.w) X.A X.env X.xe) (hc:PT X c tc) (hb:PSs X body tb):PS X (.While c body [] pos) (Jlr tc tb):=by
 intro a s σ H D I h;obtain ⟨W,⟨x,r⟩,d⟩:=h;refine wpAny_While (codeAny_whileLoop (fun n y=>∃ σ' H',Inv X a σ' H' y/\W n σ' H') ?_ x ⟨σ,H,I,r⟩);rintro n z ⟨σ1,o,I1,t⟩;refine wpAny_passesOwn hp (thn (hc a z σ1 o _ I1 (d n σ1 o t)) fun b u ⟨p,I2,g⟩=>?_);cases b with
 | true=>
  obtain ⟨N,q,g⟩:=g;rw [if_pos rfl];refine wpAny_passesOwn hp (thn (hb a u σ1 p _ I2 g) fun f B i=>?_);cases f with
  | next=>
   obtain ⟨σ3,e,I3,k⟩:=i;obtain ⟨l,m,j⟩:=q σ3 e k;exact ⟨l,m,σ3,e,I3,j⟩
  | cont=>
   obtain ⟨σ3,e,I3,k⟩:=i;obtain ⟨l,m,j⟩:=q σ3 e k;exact ⟨l,m,σ3,e,I3,j⟩
  | brk=>exact i
  | ret v=>exact i
 | false=>
  rw [if_neg Bool.false_ne_true];exact wpAny_execs_nil ⟨σ1,p,I2,g⟩
end
structure It where
 go:Nat->Hp->Prop
 yld:Nat->Hp->V->Hp->Prop
 stop:Nat->Hp->Prop
def FpOk (X:Cx) (pins:List (Addr × Obj)) (H:Hp) (b:Addr):Prop :=
 H b=none/\b≠X.env.locals/\b∉X.fs/\(b∈X.ex\/X.s₀.heap.objs.size<=b)/\(∀ x c,X.env.cells.lookup x=some c->c≠b)/\∀ p∈X.pn++pins,p.1≠b
theorem Inv.fpOk {X:Cx} {pins:List (Addr × Obj)} {σ : St} {H H':Hp} {s:Shared} {b:Addr} (I:Inv X pins σ H s) (hb:s.heap.objs.size<=b) (hn:H' b=none):FpOk X pins H' b:=by
 refine ⟨hn,Nat.ne_of_gt (Nat.lt_of_lt_of_le I.lt hb),I.nofs hb, .inr (Nat.le_trans I.sz hb),fun x c e z=>?_,fun p a z=>?_⟩
 ·obtain ⟨v,q⟩:=I.cell x c e;exact absurd (Nat.lt_of_lt_of_le q.lt (by rw [z];exact hb)) (Nat.lt_irrefl _)
 ·exact absurd (Nat.lt_of_lt_of_le (Heap.lt_size (I.pin p a).1) (by rw [z];exact hb)) (Nat.lt_irrefl _)
structure Turn (P:Program) (w:World) (K:W.Frag) (tg:Expr) (J:It) (fp:List Addr) (it:Addr) (tn:Nat->Heap->Prop):Prop where
 mem:it∈fp
 obj:∀ i h,tn i h->∀ b∈fp, ∃ o,h.get? b=some o/\∀ v,o.data≠.cell v
 keep:∀ i h h',tn i h->(∀ b∈fp, ∀ o,h.get? b=some o->h'.get? b=some o)->tn i h'
 item:∀ (X:Cx),X.prog=P->X.w=w->X.K=K->X.calm=true->∀ (i:Nat) (pins:List (Addr × Obj)) (s:Shared) (σ : St) (H:Hp) (E:Value->Shared->Prop),Inv X pins σ H s->(∀ b∈fp,FpOk X pins H b)->tn i s.heap->J.go i H ->
  wpAny (model P w) X.A (pyNext (.ref it)) (fun r s1=>∃ u,r=some u /\
   wpAny (model P w) X.A (letOwnedTupleGo tg (.ref it) u) (fun _ s2=>∃ x H',Inv X pins σ H' s2/\RelV x u/\J.yld i H x H'/\tn (i+1) s2.heap/\∀ b∈fp,H' b=none) E s1) E s
 done:∀ (X:Cx),X.prog=P->X.w=w->X.K=K->X.calm=true->∀ (i:Nat) (pins:List (Addr × Obj)) (s:Shared) (σ : St) (H:Hp) (E:Value->Shared->Prop),Inv X pins σ H s->(∀ b∈fp,FpOk X pins H b)->tn i s.heap->J.stop i H ->
  wpAny (model P w) X.A (pyNext (.ref it)) (fun r s1=>r=none/\Inv X pins σ H s1) E s
 self:∀ (A:Around) (i:Nat) (s:Shared) (Q:Value->Shared->Prop) (E:Value->Shared->Prop),tn i s.heap->Q (.ref it) s->wpAny (model P w) A (pyIter (.ref it)) Q E s
abbrev TI:=St->Hp->(It->Hp->Prop)->Prop
def PIE (X:Cx) (pins:List (Addr × Obj)) (σ : St) (tg:Expr) (R:It->Hp->Prop) (itv:Value) (s2:Shared):Prop :=
 ∃ (it:Addr) (fp:List Addr) (tn:Nat->Heap->Prop) (J:It) (H':Hp),itv=.ref it/\Inv X pins σ H' s2/\Turn X.prog X.w X.K tg J fp it tn/\tn 0 s2.heap/\(∀ b∈fp,FpOk X pins H' b)/\R J H'
def PI (X:Cx) (tg iter:Expr) (wi:TI):Prop :=
 ∀ (pins:List (Addr × Obj)) (s:Shared) (σ : St) (H:Hp) (R:It->Hp->Prop),Inv X pins σ H s->wi σ H R ->
  wpAny (model X.prog X.w) X.A (eval iter X.env) (fun v s1=>wpAny (model X.prog X.w) X.A (pyIter v) (PIE X pins σ tg R) X.xe s1) X.xe s
theorem go_of {M:Model} {A:Around} {E:Value->Shared->Prop} {s:Shared} {tg:Expr} {it:Addr} {u:Value} {o:Obj} {n:String} {vs:Array Value} {Q:Unit->Shared->Prop} (ho:s.heap.get? it=some o) (hc:o.cls=.type n) (hd:o.data=.fields vs)
    (hn:["enumerate","zip","dict_itemiterator","dict_reverseitemiterator","odict_iterator","itertools.zip_longest","itertools.pairwise"].contains n=false) (hQ:Q () s):wpAny M A (letOwnedTupleGo tg (.ref it) u) Q E s:=by
  unfold letOwnedTupleGo;cases tg <;> first
    | exact wpAny_pure hQ
    | (cases u <;> first
        | exact wpAny_pure hQ
        | (refine wpAny_bind (wpAny_load ho ?_)
           rw [hc,hd];show wpAny M A (if (["enumerate","zip","dict_itemiterator","dict_reverseitemiterator","odict_iterator","itertools.zip_longest","itertools.pairwise"].contains n&&vs[0]? == some (rawInt _))=true then _ else _) Q E s;rw [if_neg (by intro h;rw [hn,Bool.false_and] at h;cases h)];exact wpAny_pure hQ))
def Itl (K:W.Frag) (a:Addr):It :=
 ⟨fun i H=>∃ xs x,SqL K H a xs/\xs[i]?=some x,fun i H x H'=>H'=H/\∀ xs,SqL K H a xs->xs[i]?=some x,fun i H=>∃ xs,SqL K H a xs/\xs.length<=i⟩
def Itt (K:W.Frag) (a:Addr):It :=
 ⟨fun i H=>∃ xs x,SqT K H a xs/\xs[i]?=some x,fun i H x H'=>H'=H/\∀ xs,SqT K H a xs->xs[i]?=some x,fun i H=>∃ xs,SqT K H a xs/\xs.length<=i⟩
def Itr (lo:Int) (n:Nat):It:=⟨fun i _=>i<n,fun i H x H'=>H'=H/\x=.int (lo+i),fun i _=>n<=i⟩
theorem Jiy {P:Program} {w:World} {K:W.Frag} {tg:Expr} (a it:Addr):Turn P w K tg (Itl K a) [it] it (fun i h=>h.IsListIter it a i) where
 mem:=by simp
 obj:=fun i h f b j=>by
  have e:b=it:=by simpa using j
  subst e;obtain ⟨o,e,c,d⟩:=f;exact ⟨o,e,fun v z=>by rw [d] at z;cases z⟩
 keep:=fun i h q f k=>f.at fun o e=>k it (by simp) o e
 item:=by
  intro X y B F N i g s σ H E I m f C;subst y B F;obtain ⟨R,x,n,L⟩:=C;obtain ⟨J,A,p,O⟩:=I.list n;obtain ⟨u,Q,T⟩:=A.get L;obtain ⟨M,r,S,G,D,t⟩:=m it (by simp);refine wpAny_pyNext_list_item f p.isList (x:=u) (by simpa using Q) fun q l U=>?_;have I1:Inv X g σ H { s with heap:=q }:=I.turned (t':=s.toks) (fun b o j e=>(U.2 b j).trans e) M r G D t;obtain ⟨o,e,c,d⟩:=id l;exact ⟨u,rfl,go_of (s:={ s with heap:=q }) e c d ⋯ ⟨x,H,I1,T,⟨rfl,fun Z Y=>by rw [I.list_inj Y n];exact L⟩,l,fun b j=>(m b j).1⟩⟩
 done:=by
  intro X y B F N i g s σ H E I m f C;subst y B F;obtain ⟨R,n,L⟩:=C;obtain ⟨J,A,p,O⟩:=I.list n;obtain ⟨M,r,S,G,D,t⟩:=m it (by simp);have hl:=A.length;exact wpAny_pyNext_list_end (I.ok.hd N) f p.isList (by simp;ac_nf) fun q V=>⟨rfl,I.turned (t':=s.toks) (fun b o j e=>V b o j e) M r G D t⟩
 self:=fun _ _ _ _ _ f h=>wpAny_pyIter_listiter f h
theorem Jho {P:Program} {w:World} {K:W.Frag} {tg:Expr} (a it:Addr):Turn P w K tg (Itt K a) [it] it (fun i h=>h.IsTupleIter it a i) where
 mem:=by simp
 obj:=fun i h f b j=>by
  have e:b=it:=by simpa using j
  subst e;obtain ⟨o,e,c,d⟩:=f;exact ⟨o,e,fun v z=>by rw [d] at z;cases z⟩
 keep:=fun i h r f k=>f.at fun o e=>k it (by simp) o e
 item:=by
  intro X A C G N i g s σ H E I n f D;subst A C G;obtain ⟨R,x,q,L⟩:=D;obtain ⟨l,B,p,O⟩:=I.tuple q;obtain ⟨u,Q,T⟩:=B.get L;obtain ⟨M,t,S,J,F,y⟩:=n it (by simp);refine wpAny_pyNext_tuple_item f (show s.heap.IsTuple a l.toArray from p) (x:=u) (by simpa using Q) fun r m U=>?_;have I1:Inv X g σ H { s with heap:=r }:=I.turned (t':=s.toks) (fun b o j e=>(U.2 b j).trans e) M t J F y;obtain ⟨o,e,c,d⟩:=id m;exact ⟨u,rfl,go_of (s:={ s with heap:=r }) e c d ⋯ ⟨x,H,I1,T,⟨rfl,fun Z Y=>by rw [I.tuple_inj Y q];exact L⟩,m,fun b j=>(n b j).1⟩⟩
 done:=by
  intro X A C G N i g s σ H E I n f D;subst A C G;obtain ⟨R,q,L⟩:=D;obtain ⟨l,B,p,O⟩:=I.tuple q;obtain ⟨M,t,S,J,F,y⟩:=n it (by simp);have hl:=B.length;exact wpAny_pyNext_tuple_end (I.ok.hd N) f (show s.heap.IsTuple a l.toArray from p) (by simp;ac_nf) fun r V=>⟨rfl,I.turned (t':=s.toks) (fun b o j e=>V b o j e) M t J F y⟩
 self:=fun _ _ _ _ _ f h=>wpAny_pyIter_tupleiter f h
theorem Jhn {P:Program} {w:World} {K:W.Frag} {tg:Expr} (it:Addr) (lo:Int) (n:Nat):Turn P w K tg (Itr lo n) [it] it (fun i h=>IsRangeIter h it (lo+(i:Nat)*1) ((n:Int)-(i:Nat)) 1) where
 mem:=by simp
 obj:=fun i h a b d=>by
  have e:b=it:=by simpa using d
  subst e;exact ⟨_,a,fun v z=>by
   have F:Data.fields _=Data.cell v:=z;cases F⟩
 keep:=fun i h j a k=>k it (by simp) _ a
 item:=by
  intro X p r y q i c s σ H E I g a u;subst p r y;obtain ⟨B,l,G,A,x,m⟩:=g it (by simp);have W:=Walks.range (prog:=X.prog) (w:=X.w) (I.ok.hd q) it lo 1 n;refine W.item i s _ _ u a fun v j C D f L=>?_;obtain ⟨t,rfl⟩:=D;have I1:Inv X c σ H { s with heap:=j,toks:=C }:=I.turned (fun b o d e=>L b o (by simpa using d) e) B l A x m;refine ⟨_,rfl,go_of (s:={ s with heap:=j,toks:=C }) (n:="range_iterator") f rfl rfl ⋯ ⟨.int (lo+i),H,I1,⟨t,?_⟩,⟨rfl,rfl⟩,f,fun b d=>(g b d).1⟩⟩;rw [Int.mul_one]
 done:=by
  intro X p r y q i c s σ H E I g a u;subst p r y;obtain ⟨B,l,G,A,x,m⟩:=g it (by simp);exact wpAny_pyNext_range_end (I.ok.hd q) a (by have : n<=i:=u;ac_nf) fun j J=>⟨rfl,I.turned (t':=s.toks) (fun b o d e=>J b o d e) B l A x m⟩
 self:=fun _ _ _ _ _ a h=>wpAny_pyIter_rangeiter a h
section
variable {X:Cx} {tg:Expr}
theorem Ji6 {pins:List (Addr × Obj)} {σ : St} {H:Hp} {s:Shared} {R:It->Hp->Prop} {E:Value->Shared->Prop} {lo hi:Int} {t u v:Tok} {tk:Nat} (I:Inv X pins σ H s) (h1 : -(2 ^ 62)<=lo) (h2:lo<2 ^ 62) (h3 : -(2 ^ 62)<=hi) (h4:hi<2 ^ 62)
  (q:R (Itr lo (hi-lo).toNat) H):wpAny (model X.prog X.w) X.A (pyIter (.ref s.heap.objs.size)) (PIE X pins σ tg R) E { s with heap:=s.heap.push { cls:=.type "range",data:=.fields #[.int lo t, .int hi u, .int 1 v] },toks:=tk }:=by
 refine wpAny_pyIter_range (IsRange.new ..) (small_one h1 h2 h3 h4) ?_;have I1:Inv X pins σ H { s with heap:=s.heap.push { cls:=.type "range",data:=.fields #[.int lo t, .int hi u, .int 1 v] },toks:=tk }:=I.kept fun b o e=>Heap.get?_push_of_some _ e;refine ⟨(s.heap.push { cls:=.type "range",data:=.fields #[.int lo t, .int hi u, .int 1 v] }).objs.size,[(s.heap.push { cls:=.type "range",data:=.fields #[.int lo t, .int hi u, .int 1 v] }).objs.size],_,_,H,rfl,
  I1.kept (t':=tk) fun b o e=>Heap.get?_push_of_some _ e,Jhn _ lo (hi-lo).toNat,?_,fun b a=>?_,q⟩
 ·have c:lo+((0:Nat):Int)*1=lo:=by simp
  have d:(((hi-lo).toNat:Nat):Int)-((0:Nat):Int)=Builtin.Range.rangeSize lo hi 1:=by rw [rangeSize_one];split <;> ac_nf
  show IsRangeIter _ _ (lo+((0:Nat):Int)*1) ((((hi-lo).toNat:Nat):Int)-((0:Nat):Int)) 1;rw [c,d];exact Heap.get?_push_size _ rfl
 ·have e:b=(s.heap.push { cls:=.type "range",data:=.fields #[.int lo t, .int hi u, .int 1 v] }).objs.size:=by simpa using a
  subst e;exact I1.fpOk (Nat.le_refl _) (I1.hok.fresh (Nat.le_refl _))
def iRng1 (ta:TA):TI:=fun σ H R=>ta σ H fun vs H1=>∃ j:Int,vs=[.int j]/\-(2 ^ 62)<=j/\j<2 ^ 62/\R (Itr 0 j.toNat) H1
def iRng2 (ta:TA):TI:=fun σ H R=>ta σ H fun vs H1=>∃ i j:Int,vs=[.int i, .int j]/\(-(2 ^ 62)<=i/\i<2 ^ 62/\-(2 ^ 62)<=j/\j<2 ^ 62)/\R (Itr i (j-i).toNat) H1
theorem Jdf {a:Expr} {ta:TA} {p pos:Pos} (hg:Gl X "range") (hm:X.mg "range"=none) (ha:PA X [a] ta) (hs:starEach [a] X.env=[(false,eval a X.env)]:=by rfl):PI X tg (.Call (.Name "range" p) [a] [] pos) (iRng1 ta):=by
 intro b s σ H R I h;refine Call_ (JeC I hg hm boot_range (PyProof.Rows.callWith_type1 (thn (ha pos b s σ H _ I h) fun l k ζ=>?_) hs rfl));obtain ⟨i,g,I1,d,c⟩:=ζ;obtain ⟨j,e,c,f,q⟩:=c;subst e;cases d with
 | cons r rr=>
  cases rr;obtain ⟨t,rfl⟩:=r;exact call_range_1 (Ji6 I1 ∅ ∅ c f (by simpa using q))
def tFor (wi:TI) (g:TG) (tb:TS):TS:=fun D σ H=>wi σ H fun J H1=>∃ W:Nat->Nat->St->Hp->Prop,(∃ m,W 0 m σ H1)/\∀ i m σ H,W i m σ H ->
 (J.stop i H/\D.nx σ H)\/(J.go i H/\∃ N:St->Hp->Prop,(∀ σ' H',N σ' H'->∃ m',m'<m/\W (i+1) m' σ' H')/\∀ x H',J.yld i H x H'->g x σ H' fun σ2 H2=>tb { D with nx:=N,ct:=N,bk:=D.nx } σ2 H2)
def JgQ (fp:List Addr) (h:Heap):List (Addr × Obj):=fp.filterMap fun b=>(h.get? b).map fun o=>(b,o)
theorem Jb7 {fp:List Addr} {h:Heap} {b:Addr} {o:Obj} (hb:b∈fp) (e:h.get? b=some o):(b,o)∈JgQ fp h:=List.mem_filterMap.mpr ⟨b,hb,by rw [e];rfl⟩
theorem JhW {fp:List Addr} {h:Heap} {p:Addr × Obj} (hp:p∈JgQ fp h):p.1∈fp/\h.get? p.1=some p.2:=by
 obtain ⟨b,c,e⟩:=List.mem_filterMap.mp hp;cases q:h.get? b with
 | none=>rw [q] at e;cases e
 | some o=>
  rw [q] at e;have a:(b,o)=p:=Option.some.inj e;subst a;exact ⟨c,q⟩
theorem Inv.pinned {pins:List (Addr × Obj)} {σ : St} {H:Hp} {s:Shared} {fp:List Addr} (I:Inv X pins σ H s) (hf:∀ b∈fp,FpOk X pins H b) (ho:∀ b∈fp, ∃ o,s.heap.get? b=some o/\∀ v,o.data≠.cell v):Inv X (pins++JgQ fp s.heap) σ H s :=
 I.pins_of fun p g=>(mem_append.mp g).elim (fun z=>I.pin p (mem_append_right _ z)) fun z=>by
  obtain ⟨c,e⟩:=JhW z;obtain ⟨i,f,h,_⟩:=hf p.1 c;obtain ⟨o,a,d⟩:=ho p.1 c;rw [e] at a;cases a;exact ⟨e,i,f,h,d⟩
theorem Inv.unpinned {pins pl:List (Addr × Obj)} {σ : St} {H:Hp} {s:Shared} (I:Inv X (pins++pl) σ H s):Inv X pins σ H s:=I.pins_of fun p a=>I.pin p (mem_append_right _ (List.mem_append_left _ a))
theorem JaY {iter:Expr} {body:List Stmt} {wi:TI} {g:TG} {tb:TS} {pos:Pos} (hp:PassesOwn (model X.prog X.w) X.A X.env X.xe) (hc:X.calm=true) (hi:PI X tg iter wi) (hg:PG X tg g) (hb:PSs X body tb)
  (hs:∀ x,foldedSetIterable iter X.env x=pure x:=by intro _;rfl):PS X (.For tg iter body [] pos) (tFor wi g tb):=by
 intro a s σ H D I h;refine wpAny_For (thn (hi a s σ H _ I h) fun v s1 h1=>thn h1 fun a0 s2 h2=>?_) hs;obtain ⟨it,z,L,J,U,e,I2,T,G,Q,W,⟨m0,Z⟩,t⟩:=h2;subst e;have j:∀ {H':Hp},(∀ b∈z,H' b=none)->∀ b∈z,FpOk X a H' b:=fun hn b hb=>⟨hn b hb,(Q b hb).2⟩;refine codeAny_forLoop_any (fun n R=>∃ i σ' H',Inv X a σ' H' R/\L i R.heap/\(∀ b∈z,H' b=none)/\W i n σ' H') ?_ m0 ⟨0,σ,U,I2,G,fun b hb=>(Q b hb).1,Z⟩;rintro n P ⟨i,σ3,C,I3,q,y,V⟩;rcases t i n σ3 C V with ⟨stop,qn⟩ | ⟨go,N,hN,step⟩
 ·refine wpAny_passesOwn hp (thn (T.done X rfl rfl rfl hc i a P σ3 C X.xe I3 (j y) q stop) fun r s4 ⟨E,I4⟩=>?_);subst E;exact wpAny_execs_nil ⟨σ3,C,I4,qn⟩
 ·refine wpAny_passesOwn hp (thn (T.item X rfl rfl rfl hc i a P σ3 C X.xe I3 (j y) q go) fun r s4 ⟨u,E,h4⟩=>?_);subst E;refine wpAny_passesOwn hp (thn h4 fun _ O ζ=>?_);obtain ⟨x,M,I5,Y,y5,p,F⟩:=ζ;have I5':=I5.pinned (j F) (T.obj _ _ p);refine wpAny_passesOwn hp (thn (hg _ O σ3 M x u _ I5' Y (step x M y5)) fun _ s6 ⟨σ6,H6,I6,q6⟩=>?_);refine wpAny_passesOwn hp (thn (hb _ s6 σ6 H6 _ I6 q6) fun f K l=>?_);have k:∀ {σ7:St} {c:Hp},Inv X (a++JgQ z O.heap) σ7 c K->N σ7 c->∃ m,m<n/\∃ i σ' H',Inv X a σ' H' K/\L i K.heap/\(∀ b∈z,H' b=none)/\W i m σ' H':=fun {σ7 c} I7 B=>by
   obtain ⟨m',hm,S⟩:=hN σ7 c B;refine ⟨m',hm,i+1,σ7,c,I7.unpinned,T.keep _ _ _ p fun b hb o e=>(I7.pin (b,o) (mem_append_right _ (mem_append_right _ (Jb7 hb e)))).1,fun b hb=>?_,S⟩;obtain ⟨o,e,d⟩:=T.obj _ _ p b hb;exact (I7.pin (b,o) (mem_append_right _ (mem_append_right _ (Jb7 hb e)))).2.1
  cases f with
  | next=>obtain ⟨σ7,c,I7,B⟩:=l;exact k I7 B
  | cont=>obtain ⟨σ7,c,I7,B⟩:=l;exact k I7 B
  | brk=>obtain ⟨σ7,c,I7,l⟩:=l;exact ⟨σ7,c,I7.unpinned,l⟩
  | ret v=>obtain ⟨x7,σ7,c,I7,r7,l⟩:=l;exact ⟨x7,σ7,c,I7.unpinned,r7,l⟩
end
theorem JiJ {K:W.Frag} {a:Addr} {xs:List V} {g:TG} {tb:TS} {D:Ends} {σ : St} {H:Hp} (Pv:Nat->St->Hp->Prop) (h0:Pv 0 σ H) (hl:∀ i σ H,i<=xs.length->Pv i σ H->SqL K H a xs)
  (hs:∀ i x σ H,xs[i]?=some x->Pv i σ H->g x σ H fun σ2 H2=>tb { D with nx:=Pv (i+1),ct:=Pv (i+1),bk:=D.nx } σ2 H2) (hd:∀ σ H,Pv xs.length σ H->D.nx σ H) :
  ∃ W:Nat->Nat->St->Hp->Prop,(∃ m,W 0 m σ H)/\∀ i m σ H,W i m σ H ->
   ((Itl K a).stop i H/\D.nx σ H)\/((Itl K a).go i H/\∃ N:St->Hp->Prop,(∀ σ' H',N σ' H'->∃ m',m'<m/\W (i+1) m' σ' H')/\∀ x H',(Itl K a).yld i H x H'->g x σ H' fun σ2 H2=>tb { D with nx:=N,ct:=N,bk:=D.nx } σ2 H2):=by
 refine ⟨fun i m σ H=>m=xs.length-i/\i<=xs.length/\Pv i σ H,⟨xs.length,by simp,Nat.zero_le _,h0⟩,?_⟩;rintro i m σ H ⟨rfl,c,p⟩;have q:=hl i σ H c p;by_cases b:i<xs.length
 ·refine .inr ⟨⟨xs,xs[i],q,by simp [b]⟩,Pv (i+1),fun σ' H' d=>⟨xs.length-(i+1),by ac_nf,rfl,b,d⟩,fun x H' y=>?_⟩;obtain ⟨e,y⟩:=y;subst e;exact hs i x σ _ (y xs q) p
 ·have e:i=xs.length:=by ac_nf
  subst e;exact .inl ⟨⟨xs,q,Nat.le_refl _⟩,hd σ H p⟩
theorem JjU {K:W.Frag} {a:Addr} {xs:List V} {g:TG} {tb:TS} {D:Ends} {σ : St} {H:Hp} (Pv:Nat->St->Hp->Prop) (h0:Pv 0 σ H) (hl:∀ i σ H,i<=xs.length->Pv i σ H->SqT K H a xs)
  (hs:∀ i x σ H,xs[i]?=some x->Pv i σ H->g x σ H fun σ2 H2=>tb { D with nx:=Pv (i+1),ct:=Pv (i+1),bk:=D.nx } σ2 H2) (hd:∀ σ H,Pv xs.length σ H->D.nx σ H) :
  ∃ W:Nat->Nat->St->Hp->Prop,(∃ m,W 0 m σ H)/\∀ i m σ H,W i m σ H ->
   ((Itt K a).stop i H/\D.nx σ H)\/((Itt K a).go i H/\∃ N:St->Hp->Prop,(∀ σ' H',N σ' H'->∃ m',m'<m/\W (i+1) m' σ' H')/\∀ x H',(Itt K a).yld i H x H'->g x σ H' fun σ2 H2=>tb { D with nx:=N,ct:=N,bk:=D.nx } σ2 H2):=by
 refine ⟨fun i m σ H=>m=xs.length-i/\i<=xs.length/\Pv i σ H,⟨xs.length,by simp,Nat.zero_le _,h0⟩,?_⟩;rintro i m σ H ⟨rfl,c,p⟩;have q:=hl i σ H c p;by_cases b:i<xs.length
 ·refine .inr ⟨⟨xs,xs[i],q,by simp [b]⟩,Pv (i+1),fun σ' H' d=>⟨xs.length-(i+1),by ac_nf,rfl,b,d⟩,fun x H' y=>?_⟩;obtain ⟨e,y⟩:=y;subst e;exact hs i x σ _ (y xs q) p
 ·have e:i=xs.length:=by ac_nf
  subst e;exact .inl ⟨⟨xs,q,Nat.le_refl _⟩,hd σ H p⟩
theorem JhE {lo:Int} {n:Nat} {g:TG} {tb:TS} {D:Ends} {σ : St} {H:Hp} (Pv:Nat->St->Hp->Prop) (h0:Pv 0 σ H)
  (hs:∀ i σ H,i<n->Pv i σ H->g (.int (lo+i)) σ H fun σ2 H2=>tb { D with nx:=Pv (i+1),ct:=Pv (i+1),bk:=D.nx } σ2 H2) (hd:∀ σ H,Pv n σ H->D.nx σ H) :
  ∃ W:Nat->Nat->St->Hp->Prop,(∃ m,W 0 m σ H)/\∀ i m σ H,W i m σ H ->
   ((Itr lo n).stop i H/\D.nx σ H)\/((Itr lo n).go i H/\∃ N:St->Hp->Prop,(∀ σ' H',N σ' H'->∃ m',m'<m/\W (i+1) m' σ' H')/\∀ x H',(Itr lo n).yld i H x H'->g x σ H' fun σ2 H2=>tb { D with nx:=N,ct:=N,bk:=D.nx } σ2 H2):=by
 refine ⟨fun i m σ H=>m=n-i/\i<=n/\Pv i σ H,⟨n,by simp,Nat.zero_le _,h0⟩,?_⟩;rintro i m σ H ⟨rfl,c,p⟩;by_cases a:i<n
 ·refine .inr ⟨a,Pv (i+1),fun σ' H' b=>⟨n-(i+1),by ac_nf,rfl,a,b⟩,fun x H' y=>?_⟩;obtain ⟨e,y⟩:=y;subst e y;exact hs i σ _ a p
 ·have e:i=n:=by ac_nf
  subst e;exact .inl ⟨Nat.le_refl _,hd σ H p⟩
abbrev R2:=V->V->Hp->VK->Prop
def OpR (X:Cx) (f:Value->Value->Sem Value) (r:R2):Prop :=
 ∀ (pins:List (Addr × Obj)) (s:Shared) (σ : St) (H:Hp) (x y:V) (v u:Value) (Q:VK),Inv X pins σ H s->RelV x v->RelV y u->r x y H Q ->
  wpAny (model X.prog X.w) X.A (f v u) (EP X pins σ Q) X.xe s
def UnR (X:Cx) (f:Value->Sem Value) (r:V->Hp->VK->Prop):Prop :=
 ∀ (pins:List (Addr × Obj)) (s:Shared) (σ : St) (H:Hp) (x:V) (v:Value) (Q:VK),Inv X pins σ H s->RelV x v->r x H Q ->
  wpAny (model X.prog X.w) X.A (f v) (EP X pins σ Q) X.xe s
def CallR (X:Cx) (f:Value) (r:List V->Hp->VK->Prop):Prop :=
 ∀ (pins:List (Addr × Obj)) (s:Shared) (σ : St) (H:Hp) (xs:List V) (us:List Value) (Q:VK),Inv X pins σ H s->Vals xs us->r xs H Q ->
  wpAny (model X.prog X.w) X.A (call f us) (EP X pins σ Q) X.xe s
def tOp (r:R2) (ta tb:TE):TE:=fun σ H Q=>ta σ H fun x H1=>tb σ H1 fun y H2=>r x y H2 Q
def tUn (r:V->Hp->VK->Prop) (ta:TE):TE:=fun σ H Q=>ta σ H fun x H1=>r x H1 Q
def rI (C:Int->Int->Prop) (g:Int->Int->V):R2:=fun x y H Q=>∃ i j,x=.int i/\y=.int j/\C i j/\Q (g i j) H
def rI0 (g:Int->Int->V):R2:=fun x y H Q=>∃ i j,x=.int i/\y=.int j/\Q (g i j) H
def rU (g:Int->V):V->Hp->VK->Prop:=fun x H Q=>∃ i,x=.int i/\Q (g i) H
section
variable {X:Cx} {a b c:Expr} {ta tb tc:TE} {pos:Pos}
theorem binT (ha:PE X a ta) (hb:PE X b tb) {pins:List (Addr × Obj)} {s:Shared} {σ : St} {H:Hp} {R:V->V->Hp->Prop} (I:Inv X pins σ H s)
  (h:ta σ H fun x H1=>tb σ H1 fun y H2=>R x y H2) {Q:Value->Shared->Prop} {f:Value->Value->Sem Value}
  (hf:∀ v u s2 x y H2,Inv X pins σ H2 s2->RelV x v->RelV y u->R x y H2->wpAny (model X.prog X.w) X.A (f v u) Q X.xe s2) :
  wpAny (model X.prog X.w) X.A (eval a X.env) (fun v s₁=>wpAny (model X.prog X.w) X.A (eval b X.env) (fun u s₂=>wpAny (model X.prog X.w) X.A (f v u) Q X.xe s₂) X.xe s₁) X.xe s:=by
 refine thn (ha pins s σ H _ I h) fun v i ζ=>?_;obtain ⟨x,H1,I1,d,c⟩:=ζ;refine thn (hb pins i σ H1 _ I1 c) fun u s2 ζ=>?_;obtain ⟨y,H2,I2,e,g⟩:=ζ;exact hf v u s2 x y H2 I2 d e g
theorem pe_op {op:Operator} {r:R2} (ho:OpR X (binaryOp op) r) (ha:PE X a ta) (hb:PE X b tb):PE X (.BinOp a op b pos) (tOp r ta tb):=by
 intro c s σ H Q I h;exact wpAny_BinOp (binT ha hb I h fun v u d x y e I2 g f q=>ho c d σ e x y v u Q I2 g f q)
theorem pe_un {op:UnaryOp} {r:V->Hp->VK->Prop} (ho:UnR X (unaryOp op) r) (ha:PE X a ta):PE X (.UnaryOp op a pos) (tUn r ta):=by
 intro b s σ H Q I h;exact UnaryOp_ (thn (ha b s σ H _ I h) fun v f ⟨x,e,I1,d,c⟩=>ho b f σ e x v Q I1 d c)
theorem opI {f:Value->Value->Sem Value} {C:Int->Int->Prop} {g:Int->Int->Int}
  (rule:∀ (i j:Int) (t u:Tok) (s:Shared) (Q:Value->Shared->Prop) (E:Value->Shared->Prop),C i j->Q (.int (g i j) s.toks) { s with toks:=s.toks+1 }->wpAny (model X.prog X.w) X.A (f (.int i t) (.int j u)) Q E s) :
  OpR X f (rI C fun i j=>.int (g i j)):=by
 intro a s σ H x y v u Q I e b h;obtain ⟨i,j,rfl,rfl,d,q⟩:=h;obtain ⟨t,rfl⟩:=e;obtain ⟨c,rfl⟩:=b;exact rule i j t c s _ _ d ⟨.int (g i j),H,I.tok _,⟨_,rfl⟩,q⟩
theorem opI0 {f:Value->Value->Sem Value} {g:Int->Int->Int}
  (rule:∀ (i j:Int) (t u:Tok) (s:Shared) (Q:Value->Shared->Prop) (E:Value->Shared->Prop),Q (.int (g i j) s.toks) { s with toks:=s.toks+1 }->wpAny (model X.prog X.w) X.A (f (.int i t) (.int j u)) Q E s) :
  OpR X f (rI0 fun i j=>.int (g i j)):=by
 intro a s σ H x y v u Q I d b h;obtain ⟨i,j,rfl,rfl,q⟩:=h;obtain ⟨t,rfl⟩:=d;obtain ⟨c,rfl⟩:=b;exact rule i j t c s _ _ ⟨.int (g i j),H,I.tok _,⟨_,rfl⟩,q⟩
theorem opB0 {f:Value->Value->Sem Value} {g:Int->Int->Bool}
  (rule:∀ (i j:Int) (t u:Tok) (s:Shared) (Q:Value->Shared->Prop) (E:Value->Shared->Prop),Q (.bool (g i j)) s->wpAny (model X.prog X.w) X.A (f (.int i t) (.int j u)) Q E s) :
  OpR X f (rI0 fun i j=>.bl (g i j)):=by
 intro a s σ H x y v u Q I d b h;obtain ⟨i,j,rfl,rfl,q⟩:=h;obtain ⟨t,rfl⟩:=d;obtain ⟨c,rfl⟩:=b;exact rule i j t c s _ _ ⟨.bl (g i j),H,I,rfl,q⟩
def CPow (i j:Int):Prop:=0<=j/\j<=1000000/\i.natAbs<2 ^ 64
theorem Jk5:OpR X (binaryOp .Add) (rI0 fun i j=>.int (i+j)):=opI0 fun _ _ _ _ _ _ _ q=>add_int q
theorem JgL:OpR X (binaryOp .Sub) (rI0 fun i j=>.int (i-j)):=opI0 fun _ _ _ _ _ _ _ q=>sub_int q
theorem Jkd:OpR X (binaryOp .Mod) (rI (fun _ j=>j≠0) fun i j=>.int (i.fmod j)):=opI fun _ _ _ _ _ _ _ a q=>mod_int' a q
theorem Jlb:OpR X (binaryOp .Pow) (rI CPow fun i j=>.int (i ^ j.toNat)):=opI fun _ _ _ _ _ _ _ a q=>pow_int_small a.1 a.2.1 a.2.2 q
theorem unI {f:Value->Sem Value} {g:Int->Int}
  (rule:∀ (i:Int) (t:Tok) (s:Shared) (Q:Value->Shared->Prop) (E:Value->Shared->Prop),Q (.int (g i) s.toks) { s with toks:=s.toks+1 }->wpAny (model X.prog X.w) X.A (f (.int i t)) Q E s) :
  UnR X f (rU fun i=>.int (g i)):=by
 intro a s σ H x v Q I b h;obtain ⟨i,rfl,q⟩:=h;obtain ⟨t,rfl⟩:=b;exact rule i t s _ _ ⟨.int (g i),H,I.tok _,⟨_,rfl⟩,q⟩
theorem JgV:UnR X (unaryOp .USub) (rU fun i=>.int (-i)):=unI fun _ _ _ _ _ q=>neg_int q
end
def scal:V->V->Bool
 | .non, .non=>true | .non, .int _=>true | .int _, .non=>true | .non, .bl _=>true | .bl _, .non=>true | .non, .str _=>true | .str _, .non=>true
 | .int _, .int _=>true | .bl _, .bl _=>true | .str _, .str _=>true | .byt _, .byt _=>true
 | .int _, .str _=>true | .str _, .int _=>true | .bl _, .str _=>true | .str _, .bl _=>true
 | _,_=>false
def rEq:R2:=fun x y H Q=>scal x y=true/\Q (.bl (decide (x=y))) H
def rNe:R2:=fun x y H Q=>scal x y=true/\Q (.bl (!decide (x=y))) H
theorem JhA {i j:Int}:decide (V.int i=V.int j)=(i == j):=by
 rw [Bool.eq_iff_iff];simp
theorem Jji {i j:Bool}:decide (V.bl i=V.bl j)=(i == j):=by
 rw [Bool.eq_iff_iff];simp
theorem JhB {i j:Str}:decide (V.str i=V.str j)=(i == j):=by
 rw [Bool.eq_iff_iff];simp
theorem Jhz {i j:Array UInt8}:decide (V.byt i=V.byt j)=(i.toList == j.toList):=by
 rw [Bool.eq_iff_iff];cases i;cases j;simp
section
variable {X:Cx} {a b c:Expr} {ta tb tc:TE} {pos:Pos}
theorem JaM {pins:List (Addr × Obj)} {σ : St} {H:Hp} {s:Shared} {Q:VK} {k k':Bool} (I:Inv X pins σ H s) (q:Q (.bl k) H) (e:k=k'):EP X pins σ Q (.bool k') s:=by
 subst e;exact ⟨.bl k,H,I,rfl,q⟩
theorem op_eq:OpR X (compareOp .Eq) rEq:=by
 intro e s σ H x y v u Q I d a h;obtain ⟨c,q⟩:=h;cases x with
 | non=>
  cases d;cases y with
  | non=>cases a;exact PySem.EqNone.eq_none_none (JaM I q (by simp))
  | bl j=>cases a;exact PySem.EqNone.eq_none_bool (JaM I q (by simp))
  | int j=>obtain ⟨b,rfl⟩:=a;exact PySem.EqNone.eq_none_int (JaM I q (by simp))
  | str j=>obtain ⟨b,rfl⟩:=a;exact PySem.EqNone.eq_none_str (JaM I q (by simp))
  | _=>exact absurd (show false=true from c) Bool.false_ne_true
 | bl i=>
  cases d;cases y with
  | non=>cases a;exact PySem.EqNone.eq_bool_none (JaM I q (by simp))
  | bl j=>cases a;exact eq_bool (JaM I q Jji)
  | str j=>obtain ⟨b,rfl⟩:=a;exact PySem.EqMixed.eq_bool_str (JaM I q (by simp))
  | _=>exact absurd (show false=true from c) Bool.false_ne_true
 | int i=>
  obtain ⟨t,rfl⟩:=d;cases y with
  | non=>cases a;exact PySem.EqNone.eq_int_none (JaM I q (by simp))
  | int j=>obtain ⟨b,rfl⟩:=a;exact eq_int (JaM I q JhA)
  | str j=>obtain ⟨b,rfl⟩:=a;exact PySem.EqMixed.eq_int_str (JaM I q (by simp))
  | _=>exact absurd (show false=true from c) Bool.false_ne_true
 | str i=>
  obtain ⟨t,rfl⟩:=d;cases y with
  | non=>cases a;exact PySem.EqNone.eq_str_none (JaM I q (by simp))
  | bl j=>cases a;exact PySem.EqMixed.eq_str_bool (JaM I q (by simp))
  | int j=>obtain ⟨b,rfl⟩:=a;exact PySem.EqMixed.eq_str_int (JaM I q (by simp))
  | str j=>obtain ⟨b,rfl⟩:=a;exact eq_str (JaM I q JhB)
  | _=>exact absurd (show false=true from c) Bool.false_ne_true
 | byt i=>
  obtain ⟨t,rfl⟩:=d;cases y with
  | byt j=>obtain ⟨b,rfl⟩:=a;exact W.eq_bytes (JaM I q Jhz)
  | _=>exact absurd (show false=true from c) Bool.false_ne_true
 | _=>cases y <;> exact absurd (show false=true from c) Bool.false_ne_true
theorem op_ne:OpR X (compareOp .NotEq) rNe:=by
 intro e s σ H x y v u Q I d a h;obtain ⟨c,q⟩:=h;cases x with
 | non=>
  cases d;cases y with
  | non=>cases a;exact PySem.EqNone.ne_none_none (JaM I q (by simp))
  | bl j=>cases a;exact PySem.EqNone.ne_none_bool (JaM I q (by simp))
  | int j=>obtain ⟨b,rfl⟩:=a;exact PySem.EqNone.ne_none_int (JaM I q (by simp))
  | str j=>obtain ⟨b,rfl⟩:=a;exact PySem.EqNone.ne_none_str (JaM I q (by simp))
  | _=>exact absurd (show false=true from c) Bool.false_ne_true
 | bl i=>
  cases d;cases y with
  | non=>cases a;exact PySem.EqNone.ne_bool_none (JaM I q (by simp))
  | bl j=>cases a;exact ne_bool (JaM I q (congrArg not Jji))
  | str j=>obtain ⟨b,rfl⟩:=a;exact PySem.EqMixed.ne_bool_str (JaM I q (by simp))
  | _=>exact absurd (show false=true from c) Bool.false_ne_true
 | int i=>
  obtain ⟨t,rfl⟩:=d;cases y with
  | non=>cases a;exact PySem.EqNone.ne_int_none (JaM I q (by simp))
  | int j=>obtain ⟨b,rfl⟩:=a;exact ne_int (JaM I q (congrArg not JhA))
  | str j=>obtain ⟨b,rfl⟩:=a;exact PySem.EqMixed.ne_int_str (JaM I q (by simp))
  | _=>exact absurd (show false=true from c) Bool.false_ne_true
 | str i=>
  obtain ⟨t,rfl⟩:=d;cases y with
  | non=>cases a;exact PySem.EqNone.ne_str_none (JaM I q (by simp))
  | bl j=>cases a;exact PySem.EqMixed.ne_str_bool (JaM I q (by simp))
  | int j=>obtain ⟨b,rfl⟩:=a;exact PySem.EqMixed.ne_str_int (JaM I q (by simp))
  | str j=>obtain ⟨b,rfl⟩:=a;exact ne_str (JaM I q (congrArg not JhB))
  | _=>exact absurd (show false=true from c) Bool.false_ne_true
 | byt i=>
  obtain ⟨t,rfl⟩:=d;cases y with
  | byt j=>obtain ⟨b,rfl⟩:=a;exact W.ne_bytes (JaM I q (congrArg not Jhz))
  | _=>exact absurd (show false=true from c) Bool.false_ne_true
 | _=>cases y <;> exact absurd (show false=true from c) Bool.false_ne_true
theorem op_lt:OpR X (compareOp .Lt) (rI0 fun i j=>.bl (decide (i<j))):=opB0 fun _ _ _ _ _ _ _ q=>lt_int q
theorem op_le:OpR X (compareOp .LtE) (rI0 fun i j=>.bl (decide (i<=j))):=opB0 fun _ _ _ _ _ _ _ q=>le_int q
theorem op_gt:OpR X (compareOp .Gt) (rI0 fun i j=>.bl (decide (j<i))):=opB0 fun _ _ _ _ _ _ _ q=>gt_int q
theorem op_ge:OpR X (compareOp .GtE) (rI0 fun i j=>.bl (decide (j<=i))):=opB0 fun _ _ _ _ _ _ _ q=>ge_int q
theorem Jh1:OpR X (compareOp .In) (fun x y H Q=>∃ i j,x=.str i/\y=.str j/\Q (.bl (!(Builtin.Str.occurrences j i 0 j.length 1).isEmpty)) H):=by
 intro a s σ H x y v u Q I c b h;obtain ⟨i,j,rfl,rfl,q⟩:=h;obtain ⟨t,rfl⟩:=c;obtain ⟨d,rfl⟩:=b;exact in_str (JaM I q rfl)
theorem Jk9:OpR X (compareOp .Is) (fun x y H Q=>y=.non/\Q (.bl (decide (x=.non))) H):=by
 intro b s σ H x y v u Q I a c h;obtain ⟨rfl,q⟩:=h;cases c;refine is_none_gen (JaM I q ?_);cases x <;> first
  | (cases a;rfl)
  | (obtain ⟨t,rfl⟩:=a;rfl)
theorem Jkg:OpR X (compareOp .IsNot) (fun x y H Q=>y=.non/\Q (.bl (!decide (x=.non))) H):=by
 intro b s σ H x y v u Q I a c h;obtain ⟨rfl,q⟩:=h;cases c;refine isnot_none_gen (JaM I q ?_);cases x <;> first
  | (cases a;rfl)
  | (obtain ⟨t,rfl⟩:=a;rfl)
theorem Jas (b:Expr) {op:CmpOp} (h:op≠.In:=by decide) (h2:op≠.NotIn:=by decide):behindInMarks op b=false:=by
 have a:(op == CmpOp.In)=false:=by cases op <;> first | rfl | exact absurd rfl h
 have c:(op == CmpOp.NotIn)=false:=by cases op <;> first | rfl | exact absurd rfl h2
 cases b <;> simp [behindInMarks,a,c]
theorem Ja1 {op:CmpOp} {r:R2} (ho:OpR X (compareOp op) r) (ha:PE X a ta) (hb:PE X b tb) (hm:behindInMarks op b=false):PE X (.Compare a [op] [b] pos) (tOp r ta tb):=by
 intro c s σ H Q I h;exact wpAny_Compare1 (binT ha hb I h fun v u d x y e I2 g f q=>ho c d σ e x y v u Q I2 g f q) hm
def tTest (t:TE):TT:=fun σ H Q=>t σ H fun x H'=>∃ k,x=.bl k/\Q k H'
theorem Jav {op:CmpOp} {r:R2} (ho:OpR X (compareOp op) r) (ha:PE X a ta) (hb:PE X b tb) (hm:behindInMarks op b=false):PT X (.Compare a [op] [b] pos) (tTest (tOp r ta tb)):=by
 intro d s σ H Q I h;refine wpAny_isTrue_Compare1 (thn (ha d s σ H _ I h) fun v t ⟨x,f,I1,i,o⟩=>thn (hb d t σ f _ I1 o) fun u j ⟨y,g,I2,p,l⟩=>
  thn (ho d j σ g x y v u _ I2 i p l) fun c w ⟨z,q,I3,n,k,e,m⟩=>?_) hm
 subst e;cases n;exact wpAny_truthy_bool ⟨q,I3,m⟩
def Jlo (r r':R2) (ta tb tc:TE):TE:=fun σ H Q=>ta σ H fun x H1=>tb σ H1 fun y H2=>r x y H2 fun z H3=>∃ k,z=.bl k /\
 (if k=true then tc σ H3 fun w' H4=>r' y w' H4 Q else Q (.bl false) H3)
theorem JeD:(sizeLine:Nat)<2 ^ 63:=by rw [sizeLine_eq];decide
theorem Jhf:OpR X (binaryOp .Add) (fun x y H Q=>∃ i j,x=.str i/\y=.str j/\i.length+j.length<=sizeLine/\Q (.str (i++j)) H):=by
 intro a s σ H x y v u Q I d c h;obtain ⟨i,j,rfl,rfl,b,q⟩:=h;obtain ⟨t,rfl⟩:=d;obtain ⟨e,rfl⟩:=c;exact add_str (fun e f=>⟨.str (i++j),H,I.tok _,⟨_,rfl⟩,q⟩) b
theorem vals1 {x:V} {us:List Value} (r:Vals [x] us):∃ u,us=[u]/\RelV x u:=by
 cases r with
 | cons r1 r2=>cases r2;exact ⟨_,rfl,r1⟩
theorem vals2 {x y:V} {us:List Value} (r:Vals [x,y] us):∃ u w',us=[u,w']/\RelV x u/\RelV y w':=by
 cases r with
 | cons r1 r2=>
  cases r2 with
  | cons r3 r4=>cases r4;exact ⟨_,_,rfl,r1,r3⟩
theorem JiG:CallR X (.builtin "abs") (fun xs H Q=>∃ i,xs=[.int i]/\Q (.int (if i<0 then -i else i)) H):=by
 intro a s σ H xs b Q I r h;obtain ⟨i,rfl,q⟩:=h;obtain ⟨u,rfl,t,rfl⟩:=vals1 r;exact call_abs_int fun u c=>⟨.int (if i<0 then -i else i),H,I.tok _,⟨_,rfl⟩,q⟩
theorem Jht (hc:X.calm=true):CallR X (.builtin "min") (fun xs H Q=>∃ i j,xs=[.int i, .int j]/\Q (.int (if j<i then j else i)) H):=by
 intro b s σ H xs g Q I r h;obtain ⟨i,j,rfl,q⟩:=h;obtain ⟨u,e,rfl,⟨t,rfl⟩,⟨f,rfl⟩⟩:=vals2 r;refine min_two_ints (I.ok.hd hc) fun c d k=>⟨_,H,I.kept k,?_,q⟩;by_cases a:j<i
 ·rw [if_pos a,if_pos a];exact ⟨_,rfl⟩
 ·rw [if_neg a,if_neg a];exact ⟨_,rfl⟩
theorem Jhs:CallR X (.type "int") (fun xs H Q=>(∃ i,xs=[.int i]/\Q (.int i) H)\/∃ k,xs=[.bl k]/\Q (.int (if k then 1 else 0)) H):=by
 intro a s σ H xs c Q I r h;rcases h with ⟨i,rfl,q⟩ | ⟨k,rfl,q⟩
 ·obtain ⟨u,rfl,t,rfl⟩:=vals1 r;exact call_int_int ⟨.int i,H,I,⟨_,rfl⟩,q⟩
 ·obtain ⟨u,rfl,b⟩:=vals1 r;cases b;exact call_int_bool ⟨.int (if k then 1 else 0),H,I.tok _,⟨_,rfl⟩,q⟩
end
structure ObjM (h:Heap) (x dx C:Addr) (mA:Str->Option Value):Prop where
 obj:h.get? x=some (W.instObj C dx)
 ns:h.Ns1 dx mA
 ne:dx≠x
theorem Jfz {h:Heap} {dx:Addr} {mA:Str->Option Value} (n:h.Ns1 dx mA):∃ od,h.get? dx=some od/\∀ name,W.lookIn name od=some (mA name):=by
 obtain ⟨o,c,l,g,d,k,_,i⟩:=n;refine ⟨o,g,fun name=>?_⟩;have e:=i name;unfold nsFind findBy at e;rw [<- Array.find?_toList] at e;unfold W.lookIn;rw [d];dsimp only;split
 ·rename_i y q;rw [q] at e;exact congrArg some e
 ·rename_i q;rw [q] at e;have a:c.toList.any (·.refKey)=false:=by
   rw [List.any_eq_false];intro y j;obtain ⟨z,t,b⟩:=k y (Array.mem_toList_iff.mp j);simp [DictEntry.refKey,b]
  have f:¬ c.toList.any (·.refKey)=true:=by rw [a];exact Bool.false_ne_true
  rw [if_neg f];exact congrArg some e
theorem ObjM.look {h:Heap} {x dx C:Addr} {mA:Str->Option Value} (I:ObjM h x dx C mA):∃ od,W.InstAt h x (W.instObj C dx) C (some od)/\∀ name,W.lookIn name od=some (mA name) :=
 let ⟨od,ho,hl⟩:=Jfz I.ns
 ⟨od,⟨I.obj,rfl,rfl,ho⟩,hl⟩
section
variable {prog:Program} {w:World} {A:Around} {E:Value->Shared->Prop} {s:Shared} {K:W.Frag} {x dx C f:Addr} {mA:Str->Option Value} {name:Str} {v:Value}
theorem get_map {expr:Bool} {Q:Value->Shared->Prop} (X:K.In s.heap) (I:ObjM s.heap x dx C mA) (hg:W.plainGet K C name=true) (hh:W.hasDictIn K C=true)
  (ha:W.findIn K (.ref C) name=some none) (hv:mA name=some v) (hv':W.handedIn v=true) (h:Q v { s with toks:=s.toks+1 }) :
  wpAny (model prog w) A (getAttr (.ref x) name expr) Q E s:=by
 obtain ⟨b,J,a⟩:=I.look;exact W.get_value X J (W.plainGet_of hg).1 (W.findObj_own hh ha rfl (by rw [a,hv])) hv' h
theorem JiK {pl:Sem Bool} {Q:Value × List Value->Shared->Prop} (X:K.In s.heap) (I:ObjM s.heap x dx C mA) (hg:W.plainGet K C name=true)
  (hf:W.findIn K (.ref C) name=some (some (.ref f))) (ht:W.isFn K (.ref f)=true) (hv:mA name=none) (h:Q (.ref f,[.ref x]) s) :
  wpAny (model prog w) A (getMethod (.ref x) name pl) Q E s:=by
 obtain ⟨a,J,b⟩:=I.look;exact W.method_fn X J (W.plainGet_of hg).1 (W.plainGet_of hg).2 hf (beq_iff_eq.mp ht) (by show (W.lookIn name a).map (·.isSome)=some false;rw [b,hv];rfl) h
theorem Jkw {ns:List Str} {Q:Unit->Shared->Prop} (X:K.In s.heap) (I:ObjM s.heap x dx C mA)
  (hs:W.findIn K (.ref C) "__setattr__"=some (some (.builtin "object.__setattr__"))) (hp:W.plainOver K C=true) (ht:W.takerIn K C name=some none) (hh:W.hasDictIn K C=true)
  (hw:PySem.Within mA ns) (hsz:ns.length<=sizeLine)
  (h:∀ h',ObjM h' x dx C (fun y=>if y=name then some v else mA y)->Heap.SameBut dx s.heap h'->Q () { s with heap:=h',toks:=s.toks+2 }) :
  wpAny (model prog w) A (setAttr (.ref x) name v) Q E s:=by
 obtain ⟨n,J,q⟩:=I.look;refine W.set_plain X J hs (W.osa_open (s:={ s with toks:=s.toks+1 }) (r:=none) X J hp ht fun b=>?_);obtain ⟨p,k,g⟩:=W.any_some hh;have j:s.heap.get? x=some ⟨.ref C,some dx, .plain, #[]⟩:=I.obj;refine wpAny_bind (wpAny_pure (wpAny_bind (wpAny_bind (wpAny_loadPart j (wpAny_bind (W.Looks.here (s:={ s with toks:=s.toks+1 }) (W.looks_clsIn X k) ?_))))));rw [g];refine wpAny_pure (a:=some dx) (wpAny_bind (wpAny_pure (wpAny_bind ?_)));refine wpAny_nsSet1 (s:={ s with toks:=s.toks+1 }) I.ns fun h' d c=>?_;obtain ⟨o,m,l,i,e,f⟩:=d.count (PySem.Within.cons name v hw);refine wpAny_bind (wpAny_lookBehind i (by rw [e];exact pastItsLine_dict (Nat.le_trans f (by rw [length_cons];ac_nf))) ?_);exact wpAny_pure (h _ ⟨(c.2 _ (Ne.symm I.ne)).trans I.obj,d,I.ne⟩ c)
theorem JiP {R:Result->Shared->Prop} {vs:List Value} {kw:List (Str × Value)} (X:K.In s.heap) (hm:W.makesIn K C=true)
  (hi:W.findIn K (.ref C) "__init__"=some (some (.ref f))) (hf:W.typeIn K (.ref f)=some (.type "function"))
  (h:codeAny (model prog w) (A.under (.builtin "type.__call__" ⟨.ref C::vs,kw⟩)) (.call (.ref f) ⟨.ref (s.heap.objs.size+1)::vs,kw⟩) (W.InitBack (s.heap.objs.size+1) R)
   { s with heap:=(s.heap.push W.emptyDict).push (W.instObj C s.heap.objs.size) }) :
  codeAny (model prog w) A (.call (.ref C) ⟨vs,kw⟩) R s:=by
 obtain ⟨b,g,d,t,c⟩:=s;exact W.make_core (W.makes_of X hm) (W.looks_findIn X hi) (fun a=>W.bind_fn X a hf) (.inl rfl) h
end
def putF (f:Str) (v:V):List (Str × V)->List (Str × V)
 | []=>[(f,v)]
 | (g,x)::r=>if g=f then (g,v)::r else (g,x)::putF f v r
theorem JdX (f g:Str) (v:V):∀ fs:List (Str × V),(putF f v fs).lookup g=if g=f then some v else fs.lookup g
 | []=>by
  show List.lookup g [(f,v)]=_;by_cases h:g=f
  ·have hb:(g == f)=true:=beq_iff_eq.mpr h;simp only [List.lookup,hb,if_pos h]
  ·have hb:(g == f)=false:=beq_eq_false_iff_ne.mpr h;simp only [List.lookup,hb,if_neg h]
 | (k,x)::r=>by
  have ih:=JdX f g v r;rw [show putF f v ((k,x)::r)=(if k=f then (k,v)::r else (k,x)::putF f v r) from rfl];by_cases hk:k=f
  ·rw [if_pos hk];by_cases h:g=k
   ·have hb:(g == k)=true:=beq_iff_eq.mpr h;simp only [List.lookup,hb,if_pos (h.trans hk)]
   ·have hb:(g == k)=false:=beq_eq_false_iff_ne.mpr h;simp only [List.lookup,hb,if_neg (fun e:g=f=>h (e.trans hk.symm))]
  ·rw [if_neg hk];by_cases h:g=k
   ·have hb:(g == k)=true:=beq_iff_eq.mpr h;simp only [List.lookup,hb,if_neg (fun e:g=f=>hk (h.symm.trans e))]
   ·have hb:(g == k)=false:=beq_eq_false_iff_ne.mpr h;simp only [List.lookup,hb];exact ih
theorem JdT (f:Str) (v:V):∀ fs:List (Str × V),f∈(putF f v fs).map (·.1)/\∀ g,g∈fs.map (·.1)->g∈(putF f v fs).map (·.1)
 | []=>⟨by simp [putF],fun g h=>by simp at h⟩
 | (k,x)::r=>by
  obtain ⟨i1,i2⟩:=JdT f v r;rw [show putF f v ((k,x)::r)=(if k=f then (k,v)::r else (k,x)::putF f v r) from rfl];by_cases hk:k=f
  ·rw [if_pos hk];subst hk;exact ⟨by simp,fun g h=>by simpa using h⟩
  ·rw [if_neg hk];refine ⟨?_,fun g h=>?_⟩
   ·rw [map_cons];exact mem_cons_of_mem _ i1
   ·rw [map_cons] at h ⊢;rcases mem_cons.mp h with e | e
    ·exact mem_cons.mpr (.inl e)
    ·exact mem_cons_of_mem _ (i2 g e)
theorem JdW (f:Str) (v:V):∀ fs:List (Str × V),(putF f v fs).length<=fs.length+1
 | []=>by simp [putF]
 | (k,x)::r=>by
  have ih:=JdW f v r;rw [show putF f v ((k,x)::r)=(if k=f then (k,v)::r else (k,x)::putF f v r) from rfl];by_cases hk:k=f
  ·rw [if_pos hk,length_cons,length_cons];ac_nf
  ·rw [if_neg hk,length_cons,length_cons];ac_nf
theorem RelO.some_of {v:V} {o:Option Value} (r:RelO (some v) o):∃ u,o=some u/\RelV v u:=by
 cases o with
 | none=>exact (show False from r).elim
 | some u=>exact ⟨u,rfl,r⟩
theorem RelO.none_of {o:Option Value} (r:RelO none o):o=none:=by
 cases o with
 | none=>rfl
 | some u=>exact (show False from r).elim
theorem JhK {v:V} {u:Value} (r:RelV v u):W.handedIn u=true:=by
 cases v with
 | non=>cases (show u=Value.none from r);rfl
 | bl b=>cases (show u=Value.bool b from r);rfl
 | int i=>obtain ⟨t,e⟩:=(show ∃ t,u=Value.int i t from r);cases e;rfl
 | str x=>obtain ⟨t,e⟩:=(show ∃ t,u=Value.str x t from r);cases e;rfl
 | byt b=>obtain ⟨t,e⟩:=(show ∃ t,u=Value.bytes b t from r);cases e;rfl
 | flt b=>obtain ⟨t,e⟩:=(show ∃ t,u=Value.float b t from r);cases e;rfl
 | ref a=>cases (show u=Value.ref a from r);rfl
 | ty n=>cases (show u=Value.type n from r);rfl
section
variable {P:Program} {w:World} {H H':Hp} {h h':Heap} {a C dx:Addr} {fs fs':List (Str × V)}
theorem Jf7 (hok:HOk P w H h) (e:H a=some (.ins C dx fs)):∃ mA,ObjM h a dx C mA/\(∀ f,RelO (fs.lookup f) (mA f))/\PySem.Within mA (fs.map (·.1))/\fs.length<=1000/\H dx=some (.own a):=by
 obtain ⟨d,z,b,c,mA,n,r,q⟩:=(show ObjOk P w H h a (.ins C dx fs) from hok a _ e);exact ⟨mA,⟨c,n,b⟩,r,q,z,d⟩
end
structure Cls (K:W.Frag) (C:Addr):Prop where
 pg:W.plainGet K C Str.empty=true
 hd:W.hasDictIn K C=true
 po:W.plainOver K C=true
 sa:W.findIn K (.ref C) "__setattr__"=some (some (.builtin "object.__setattr__"))
theorem Cls.get {K:W.Frag} {C:Addr} (c:Cls K C) (f:Str):W.plainGet K C f=true:=c.pg
def JaU (K:W.Frag) (C:Addr) (f:Str):Prop:=W.findIn K (.ref C) f=some none
theorem JaU.taker {K:W.Frag} {C:Addr} {f:Str} (n:JaU K C f):W.takerIn K C f=some none:=by
 unfold W.takerIn;rw [show W.findIn K (.ref C) f=some none from n];rfl
structure Meth (K:W.Frag) (C:Addr) (m:Str) (f:Addr):Prop where
 at_:W.findIn K (.ref C) m=some (some (.ref f))
 fn:W.isFn K (.ref f)=true
 kp:W.keepIn K (.ref f)=true
section
variable {X:Cx} {pins:List (Addr × Obj)} {σ : St} {H:Hp} {s:Shared} {a C dx:Addr} {fs:List (Str × V)} {f:Str} {v:V} {A:Around} {E:Value->Shared->Prop}
theorem Jg4 {b:Bool} {Q:Value->Shared->Prop} (I:Inv X pins σ H s) (e:H a=some (.ins C dx fs)) (c:Cls X.K C) (n:JaU X.K C f) (l:fs.lookup f=some v)
  (h:∀ u s',Inv X pins σ H s'->RelV v u->Q u s'):wpAny (model X.prog X.w) A (getAttr (.ref a) f b) Q E s:=by
 obtain ⟨i,O,r,_,_,_⟩:=Jf7 I.hok e;obtain ⟨u,g,d⟩:=RelO.some_of (v:=v) (o:=i f) (by rw [<- l];exact r f);exact get_map I.kIn O (c.get f) c.hd n g (JhK d) (h u _ (I.tok _) d)
theorem JeB {m:Str} {g:Addr} {pl:Sem Bool} {Q:Value × List Value->Shared->Prop} (I:Inv X pins σ H s) (e:H a=some (.ins C dx fs)) (c:Cls X.K C) (k:Meth X.K C m g) (l:fs.lookup m=none)
  (h:Q (.ref g,[.ref a]) s):wpAny (model X.prog X.w) A (getMethod (.ref a) m pl) Q E s:=by
 obtain ⟨d,O,r,_,_,_⟩:=Jf7 I.hok e;have b:d m=none:=RelO.none_of (by rw [<- l];exact r m);exact JiK I.kIn O (c.get m) k.at_ k.fn b h
theorem Jhl {y:V} {u:Value} {Q:Unit->Shared->Prop} (I:Inv X pins σ H s) (e:H a=some (.ins C dx fs)) (c:Cls X.K C) (n:JaU X.K C f) (hl:fs.length<1000) (ry:RelV y u)
  (h:∀ s',Inv X pins σ (upd H a (.ins C dx (putF f y fs))) s'->Q () s'):wpAny (model X.prog X.w) A (setAttr (.ref a) f u) Q E s:=by
 obtain ⟨i,O,r,j,_,d⟩:=Jf7 I.hok e;have v:(fs.map (·.1)).length<=sizeLine:=by rw [length_map,sizeLine_eq];ac_nf
 refine Jkw I.kIn O c.sa c.po n.taker c.hd j v fun p O' t=>h _ ?_;have m:∃ o,p.get? dx=some o:=let ⟨o,_,_,e',_⟩:=O'.ns;⟨o,e'⟩;refine I.write (x:=a) (e:=dx) (by rw [e];exact True.intro) (.inr d) (fun b q l z=>(t.2 b l).trans z) m ?_;refine ⟨by rw [Jag O.ne];exact d,?_,O.ne,O'.obj,_,O'.ns,fun g=>?_,fun g k=>?_⟩
 ·have:=JdW f y fs;ac_nf
 ·show RelO ((putF f y fs).lookup g) (if g=f then some u else i g);rw [JdX];by_cases q:g=f
  ·rw [if_pos q,if_pos q];exact ry
  ·rw [if_neg q,if_neg q];exact r g
 ·by_cases q:g=f
  ·rw [q];exact (JdT f y fs).1
  ·refine (JdT f y fs).2 g (j g fun z=>k ?_);show (if g=f then some u else i g)=none;rw [if_neg q];exact z
theorem Inv.made (I:Inv X pins σ H s):Inv X pins σ (upd (upd H s.heap.objs.size (.own (s.heap.objs.size+1))) (s.heap.objs.size+1) (.ins C s.heap.objs.size []))
  { s with heap:=(s.heap.push W.emptyDict).push (W.instObj C s.heap.objs.size) }:=by
 have c:(s.heap.push W.emptyDict).get? s.heap.objs.size=some W.emptyDict:=Heap.get?_push_size s.heap rfl;have g:((s.heap.push W.emptyDict).push (W.instObj C s.heap.objs.size)).get? (s.heap.objs.size+1)=some (W.instObj C s.heap.objs.size):=by
  have:=Heap.get?_push_size (s.heap.push W.emptyDict) (o:=W.instObj C s.heap.objs.size) rfl
  rwa [Heap.size_push] at this
 have f:(s.heap.push W.emptyDict).Ns s.heap.objs.size (fun _=>none):=⟨W.emptyDict, #[],_,c,rfl,(fun e i=>absurd i (by simp)),fun _=>rfl⟩;have I1:=I.laid (a:=s.heap.objs.size) (o:=.own (s.heap.objs.size+1)) (h':=s.heap.push W.emptyDict) (t':=s.toks) (fun b u q=>Heap.get?_push_of_some _ q) (Nat.le_refl _) ⟨_,c⟩;refine I1.laid (a:=s.heap.objs.size+1) (o:=.ins C s.heap.objs.size []) (t':=s.toks) (fun b u q=>Heap.get?_push_of_some _ q) (Nat.le_of_eq (Heap.size_push _ _)) ?_;have d:s.heap.objs.size≠s.heap.objs.size+1:=Nat.ne_of_lt (Nat.lt_succ_self _);refine ⟨by rw [Jag d,Jaj],Nat.zero_le _,d,g,fun _=>none,(Heap.Ns1.of_empty f).at fun o q=>Heap.get?_push_of_some _ q,fun _=>True.intro,fun y h=>absurd rfl h⟩
theorem JjG {prog:Program} {w:World} {env:Env} {e:Expr} {f:Str} {pos:Pos} {s:Shared} {Q:Value->Shared->Prop} (hb:attributeBase e f env (eval e env)=eval e env)
  (h:wpAny (model prog w) A (eval e env) (fun o s₁=>wpAny (model prog w) A (getAttr o f true) Q E s₁) E s):wpAny (model prog w) A (eval (.Attribute e f pos) env) Q E s :=
 Attribute_any_ h (by rw [arm_eval_Attribute,hb])
end
def tFld (K:W.Frag) (ta:TE) (f:Str):TE:=fun σ H Q=>ta σ H fun x H1=>∃ a C dx fs v,x=.ref a/\H1 a=some (.ins C dx fs)/\Cls K C/\JaU K C f/\fs.lookup f=some v/\Q v H1
def sFld (K:W.Frag) (ta tv:TE) (f:Str):TS:=fun D σ H=>tv σ H fun y H1=>ta σ H1 fun x H2=>∃ a C dx fs,x=.ref a/\H2 a=some (.ins C dx fs)/\Cls K C/\JaU K C f/\fs.length<1000 /\
 D.nx σ (upd H2 a (.ins C dx (putF f y fs)))
section
variable {X:Cx} {o e value:Expr} {f:Str} {pos pos' tpos:Pos} {ta tv:TE}
theorem Jaq (he:PE X e ta) (hb:attributeBase e f X.env (eval e X.env)=eval e X.env):PE X (.Attribute e f pos) (tFld X.K ta f):=by
 intro b s σ H Q I h;refine JjG hb (thn (he b s σ H _ I h) fun u t ζ=>?_);obtain ⟨x,d,I1,j,a,C,r,o,v,g,i,c,n,l,q⟩:=ζ;subst g;obtain rfl:u=Value.ref a:=j;exact Jg4 I1 i c n l fun m p I2 k=>⟨v,d,I2,k,q⟩
theorem JaX (ha:PE X o ta) (hv:PE X value tv) (hs:swapsWith value (some (.Attribute o f pos')) pos.line X.env=pure false):PS X (.Assign [.Attribute o f pos'] value pos) (sFld X.K ta tv f):=by
 intro b s σ H D I h;refine plainObj_wpAny_Assign_Attribute (thn (hv b s σ H _ I h) fun u p ⟨y,d,I1,j,q⟩=>thn (ha b p σ d _ I1 q) fun e v ζ=>?_) hs;obtain ⟨x,r,I2,m,a,C,z,t,g,i,c,n,l,k⟩:=ζ;subst g;obtain rfl:e=Value.ref a:=m;exact Jhl I2 i c n l j fun w I3=>⟨σ,_,I3,k⟩
end
section
variable {X:Cx} {pins:List (Addr × Obj)} {σ : St} {H:Hp} {s:Shared} {A:Around} {E:Value->Shared->Prop} {Q:Value->Shared->Prop} {c:Value} {b:Bool}
end
structure Room (k:Nat) (A:Around):Prop where
 hd:A.handled=none
 dp:A.depth+3*k+5<recursionLimit
 un:A.units+16*k+200<cLine
theorem Room.mono {j k:Nat} {A:Around} (r:Room k A) (h:j<=k):Room j A:=⟨r.hd,by have:=r.dp;ac_nf,by have:=r.un;ac_nf⟩
theorem Room.deeper {k:Nat} {A:Around} (r:Room (k+1) A) (env:Env):Room k (A.deeper env) :=
 ⟨r.hd,by have:=r.dp;show A.depth+1+3*k+5<_;ac_nf,by have:=r.un;show A.units+3+16*k+200<_;ac_nf⟩
theorem Jg8 {A:Around} {C:Addr} {us:List Value} {kw:List (Str × Value)}:(A.under (.builtin "type.__call__" ⟨.ref C::us,kw⟩)).depth=A.depth+1:=by
 first | rfl | simp [Around.under,Code.weight,Code.isCreation,Code.isGuard,Code.isCaller,Code.frames,Code.isFrame,guardIds]
theorem Jg9 {A:Around} {C:Addr} {us:List Value} {kw:List (Str × Value)}:(A.under (.builtin "type.__call__" ⟨.ref C::us,kw⟩)).units=A.units+1:=by
 first | rfl | simp [Around.under,Code.cUnits,Code.frames,Code.isFrame]
theorem Room.make {k:Nat} {A:Around} (r:Room (k+1) A) (C:Addr) (us:List Value) (kw:List (Str × Value)):Room k (A.under (.builtin "type.__call__" ⟨.ref C::us,kw⟩)) :=
 ⟨r.hd,by have:=r.dp;rw [Jg8];ac_nf,by have:=r.un;rw [Jg9];ac_nf⟩
theorem Room.depth {k:Nat} {A:Around} (r:Room k A):A.depth<recursionLimit:=by have:=r.dp;ac_nf
theorem Room.units {k:Nat} {A:Around} (r:Room k A):A.units+64<cLine:=by have:=r.un;ac_nf
def tNil:TA:=fun _ H Q=>Q [] H
def tCons (ta:TE) (tr:TA):TA:=fun σ H Q=>ta σ H fun x H1=>tr σ H1 fun xs H2=>Q (x::xs) H2
section
variable {X:Cx} {e:Expr} {es:List Expr} {te:TE} {t:TA} {pos:Pos}
theorem Jad:PA X [] tNil:=fun _ _ _ _ H Q I h=>Calls.spliced_nil ⟨[],H,I, .nil,h⟩
theorem Jh3 (ha:PE X e te) (hr:PA X es t) (hs:starEach (e::es) X.env=(false,eval e X.env)::starEach es X.env:=by rfl):PA X (e::es) (tCons te t):=by
 intro b a s σ H Q I h;rw [hs];show wpAny _ _ (spliced ((false,eval e X.env)::backTo b (starEach es X.env))) _ _ s;refine Calls.spliced_cons (thn (ha a s σ H _ I h) fun u l ζ=>?_);obtain ⟨x,c,I1,f,j⟩:=ζ;exact thn (hr b a l σ c _ I1 j) fun n m ⟨i,d,I2,k,g⟩=>⟨x::i,d,I2, .cons f k,g⟩
def tTup (t:TA):TE:=fun σ H Q=>t σ H fun xs H1=>xs.length<=sizeLine/\∀ p,H1 p=none->Q (.ref p) (upd H1 p (.tup xs))
def tLst (t:TA):TE:=fun σ H Q=>t σ H fun xs H1=>xs.length<=sizeLine/\∀ p,H1 p=none->Q (.ref p) (upd H1 p (.lst xs))
theorem JaB {x1} (h:PA X es t):PE X (.Tuple es x1 pos) (tTup t):=by
 intro a s σ H Q I f;refine wpAny_Tuple_spliced (thn (h pos a s σ H _ I f) fun j c ⟨i,d,I1,r,z,q⟩=>⟨by rw [<- r.length];exact z,?_⟩);have g:d c.heap.objs.size=none:=I1.hok.fresh (Nat.le_refl _);refine ⟨.ref c.heap.objs.size,upd d c.heap.objs.size (.tup i),I1.laid (t':=c.toks) (fun b u e=>Heap.get?_push_of_some _ e) (Nat.le_refl _) ?_,rfl,q _ g⟩;exact ⟨z,j,r,⟨_,Heap.get?_push_size _ rfl,rfl,_,rfl⟩⟩
theorem Ja5 (h:PA X es t):PE X (.List es pos) (tLst t):=by
 intro a s σ H Q I f;refine wpAny_List_spliced (thn (h pos a s σ H _ I f) fun j c ⟨i,d,I1,r,z,q⟩=>⟨by rw [<- r.length];exact z,?_⟩);have g:d c.heap.objs.size=none:=I1.hok.fresh (Nat.le_refl _);refine ⟨.ref c.heap.objs.size,upd d c.heap.objs.size (.lst i),I1.laid (t':=c.toks) (fun b u e=>Heap.get?_push_of_some _ e) (Nat.le_refl _) ?_,rfl,q _ g⟩;exact ⟨z,j,0,r,Heap.get?_push_size _ rfl⟩
end
abbrev Sp:=List V->Hp->VK->XK->Prop
abbrev CXT:=List Env->Hp->Shared->XK->Value->Shared->Prop
structure Env0 (P:Program) (w:World) (K:W.Frag) (mg:Str->Option Value) (base:Heap) (A:Around) (outer:List Env) (s:Shared) (H:Hp):Prop where
 frames:A.frames=some outer
 mod:Mod K mg base
 bs:∀ b o,base.get? b=some o->s.heap.get? b=some o/\H b=none
 bsz:base.objs.size<=s.heap.objs.size
 funs:s.heap.FunFrames base outer
 frf:∀ b∈frs outer,H b=none
 hok:HOk P w H s.heap
 bare:AllBare s.gens
def CE (outer:List Env) (P:Program) (w:World) (H:Hp) (s:Shared) (Q:VK) (u:Value) (s':Shared):Prop :=
 ∃ v H',s'.os=s.os/\AllBare s'.gens/\Un (frs outer) [] H H' s.heap s'.heap/\HOk P w H' s'.heap/\RelV v u/\Q v H'
def CR (CX:CXT) (outer:List Env) (P:Program) (w:World) (H:Hp) (s:Shared) (Q:VK) (E:XK) (r:Result) (s':Shared):Prop :=
 match r with
 | .ok (.ret u)=>CE outer P w H s Q u s'
 | .ok _=>False
 | .error e=>CX outer H s E e s'
structure FnOk (P:Program) (w:World) (K:W.Frag) (mg:Str->Option Value) (base:Heap) (CX:CXT) (k:Nat) (f:Addr) (fd:FuncData) (ps:List Str) (sp:Sp):Prop where
 len:∀ vs H Q E,sp vs H Q E->vs.length=ps.length
 run:∀ (A:Around) (outer:List Env) (s:Shared) (H:Hp) (args:Args) (us:List Value) (vs:List V) (Q:VK) (E:XK),Room k A->Env0 P w K mg base A outer s H->BindsTo s fd args (ps.zip us)->Vals vs us->sp vs H Q E ->
  codeAny (model P w) A (.call (.ref f) args) (CR CX outer P w H s Q E) s
theorem Env0.make {P:Program} {w:World} {K:W.Frag} {mg:Str->Option Value} {base:Heap} {A:Around} {outer:List Env} {s:Shared} {H:Hp} (e:Env0 P w K mg base A outer s H) (C:Addr) (us:List Value) (kw:List (Str × Value)) :
  Env0 P w K mg base (A.under (.builtin "type.__call__" ⟨.ref C::us,kw⟩)) outer s H:=⟨by first | exact e.frames | (simpa [Around.under,Code.envs,Code.isFrame,pushEnvs] using e.frames),e.mod,e.bs,e.bsz,e.funs,e.frf,e.hok,e.bare⟩
section
variable {X:Cx} {pins:List (Addr × Obj)} {σ : St} {H:Hp} {s s':Shared}
theorem Inv.env0 (I:Inv X pins σ H s):Env0 X.prog X.w X.K X.mg X.base X.A X.stack s H :=
 ⟨I.ok.frames,I.ok.mod,I.bs,Nat.le_trans I.ok.bsz I.sz,I.stack,I.stkFree,I.hok,I.bare⟩
theorem Inv.after {Q:VK} {u:Value} (I:Inv X pins σ H s) (h:CE X.stack X.prog X.w H s Q u s'):EP X pins σ Q u s':=by
 obtain ⟨v,k,j,a,i,e,r,q⟩:=h;obtain ⟨f,g,d,t,c⟩:=s';obtain rfl:c=s.os:=j;exact ⟨v,k,I.call (h':=f) (g':=g) (d':=d) (t':=t) (ch:=[]) i e a (fun b z=>absurd z (by simp)),r,q⟩
end
def tCall (sp:Sp) (dvs:List V) (E:XK) (t:TA):TE:=fun σ H Q=>t σ H fun vs H1=>sp (vs++dvs) H1 Q E
def tMake (C:Addr) (sp:Sp) (dvs:List V) (E:XK) (t:TA):TE:=fun σ H Q=>t σ H fun vs H1=>∀ x dx,H1 x=none->H1 dx=none->dx≠x ->
 sp (.ref x::(vs++dvs)) (upd (upd H1 dx (.own x)) x (.ins C dx [])) (fun v H2=>v=.non/\Q (.ref x) H2) E
def Binds (K:W.Frag) (fd:FuncData) (ps:List Str) (ds:List Value):Prop :=
 ∀ (s:Shared) (us:List Value),K.In s.heap->(us++ds).length=ps.length->BindsTo s fd ⟨us,[]⟩ (ps.zip (us++ds))
theorem Binds.all {K:W.Frag} {fd:FuncData} {ps:List Str} (h:∀ us:List Value,us.length=ps.length->bindArgs fd ⟨us,[]⟩=pure (ps.zip us)):Binds K fd ps []:=fun s us _ a=>by
 rw [append_nil] at a ⊢;exact .of_eq (h us a)
def JbU (CX:CXT) (X:Cx) (E:XK):Prop:=∀ (pins:List (Addr × Obj)) (σ : St) (H:Hp) (s:Shared) (e:Value) (s':Shared),Inv X pins σ H s->CX X.stack H s E e s'->X.xe e s'
section
variable {X:Cx} {CX:CXT} {k:Nat} {f C:Addr} {fd:FuncData} {ps:List Str} {sp:Sp} {dvs:List V} {ds:List Value} {E:XK} {x m:Str} {p pos apos:Pos} {e o:Expr} {es:List Expr} {ta:TE} {t:TA}
theorem JgR {pins:List (Addr × Obj)} {σ : St} {H:Hp} {s:Shared} {Q:VK} {us:List Value} {vs:List V} (F:FnOk X.prog X.w X.K X.mg X.base CX k f fd ps sp) (hr:Room k X.A) (hb:Binds X.K fd ps ds) (hd:Vals dvs ds) (hx:JbU CX X E)
  (I:Inv X pins σ H s) (r:Vals vs us) (h:sp (vs++dvs) H Q E):wpAny (model X.prog X.w) X.A (call (.ref f) us) (EP X pins σ Q) X.xe s:=by
 have b:Vals (vs++dvs) (us++ds):=r.append hd;have c:(us++ds).length=ps.length:=by rw [<- b.length];exact F.len _ _ _ _ h
 refine wpAny_call (codeAny_mono (F.run X.A X.stack s H ⟨us,[]⟩ (us++ds) (vs++dvs) Q E hr I.env0 (hb s us I.kIn c) b h) fun r d a=>?_);cases r with
 | error e=>exact hx pins σ H s e d I a
 | ok fl=>
  cases fl with
  | ret u=>exact I.after a
  | next=>exact False.elim a
  | brk=>exact False.elim a
  | cont=>exact False.elim a
theorem Jki (F:FnOk X.prog X.w X.K X.mg X.base CX k f fd ps sp) (hr:Room k X.A) (hg:Gl X x) (hm:X.mg x=some (.ref f)) (hk:W.keepIn X.K (.ref f)=true) (hb:Binds X.K fd ps ds) (hd:Vals dvs ds) (hx:JbU CX X E)
  (ha:PA X (e::es) t) (hdb:(x == ("__debug__" : Str))=false:=by decide) (he:starEach (e::es) X.env=(false,eval e X.env)::starEach es X.env:=by rfl) (hpl:(backTo pos (starEach es X.env)).any (·.1)=false:=by rfl) :
  PE X (.Call (.Name x p) (e::es) [] pos) (tCall sp dvs E t):=by
 intro a s σ H Q I h;refine wpAny_Call_Name_kw (Jdr I hg hm ?_ hdb);refine W.callWith_K (h₀:=X.base) I.ok.mod.kin hk (thn (ha pos a s σ H _ I h) fun g d ⟨c,b,I1,r,q⟩=>⟨I1.kIn,?_⟩) he hpl;exact JgR F hr hb hd hx I1 r q
theorem JiY (F:FnOk X.prog X.w X.K X.mg X.base CX k f fd ps sp) (hr:Room k X.A) (hg:Gl X x) (hm:X.mg x=some (.ref f)) (hk:W.keepIn X.K (.ref f)=true) (hb:Binds X.K fd ps ds) (hd:Vals dvs ds) (hx:JbU CX X E)
  (hdb:(x == ("__debug__" : Str))=false:=by decide):PE X (.Call (.Name x p) [] [] pos) (tCall sp dvs E tNil):=by
 intro a s σ H Q I h;refine wpAny_Call_Name_kw (Jdr I hg hm ?_ hdb);exact W.callWith_K0 I.kIn hk (JgR (us:=[]) F hr hb hd hx I .nil h)
structure Mk (K:W.Frag) (C f:Addr):Prop where
 makes:W.makesIn K C=true
 init:W.findIn K (.ref C) "__init__"=some (some (.ref f))
 fn:W.isFn K (.ref f)=true
 kp:W.keepIn K (.ref C)=true
theorem JgS {pins:List (Addr × Obj)} {σ : St} {H:Hp} {s:Shared} {Q:VK} {us:List Value} {vs:List V} (M:Mk X.K C f) (F:FnOk X.prog X.w X.K X.mg X.base CX k f fd ps sp) (hr:Room (k+1) X.A) (hb:Binds X.K fd ps ds) (hd:Vals dvs ds)
  (hx:JbU CX X E) (I:Inv X pins σ H s) (r:Vals vs us)
  (h:∀ x dx,H x=none->H dx=none->dx≠x->sp (.ref x::(vs++dvs)) (upd (upd H dx (.own x)) x (.ins C dx [])) (fun v H2=>v=.non/\Q (.ref x) H2) E) :
  wpAny (model X.prog X.w) X.A (call (.ref C) us) (EP X pins σ Q) X.xe s:=by
 have b:=h (s.heap.objs.size+1) s.heap.objs.size (I.hok.fresh (Nat.le_succ _)) (I.hok.fresh (Nat.le_refl _)) (Nat.ne_of_lt (Nat.lt_succ_self _));have I2:=Inv.made (C:=C) I;have c:Vals (V.ref (s.heap.objs.size+1)::(vs++dvs)) (Value.ref (s.heap.objs.size+1)::(us++ds)):=.cons rfl (r.append hd);have j:(Value.ref (s.heap.objs.size+1)::us++ds).length=ps.length:=by
  have e:=c.length;rw [F.len _ _ _ _ b] at e;exact e.symm
 refine wpAny_call (JiP (f:=f) I.kIn M.makes M.init (beq_iff_eq.mp M.fn) (codeAny_mono (F.run _ X.stack _ _ ⟨Value.ref (s.heap.objs.size+1)::us,[]⟩ (Value.ref (s.heap.objs.size+1)::(us++ds)) _ _ E (hr.make C us [])
  (I2.env0.make C us []) (hb _ (Value.ref (s.heap.objs.size+1)::us) I2.kIn j) c b) fun r m a=>?_))
 cases r with
 | error e=>exact hx pins σ _ _ e m I2 a
 | ok fl=>
  cases fl with
  | ret u=>
   obtain ⟨v,l,I3,d,g,i⟩:=I2.after a;subst g;exact ⟨d,⟨V.ref (s.heap.objs.size+1),l,I3,rfl,i⟩⟩
  | next=>exact False.elim a
  | brk=>exact False.elim a
  | cont=>exact False.elim a
theorem Jkl (M:Mk X.K C f) (F:FnOk X.prog X.w X.K X.mg X.base CX k f fd ps sp) (hr:Room (k+1) X.A) (hg:Gl X x) (hm:X.mg x=some (.ref C)) (hb:Binds X.K fd ps ds) (hd:Vals dvs ds) (hx:JbU CX X E)
  (ha:PA X (e::es) t) (hdb:(x == ("__debug__" : Str))=false:=by decide) (he:starEach (e::es) X.env=(false,eval e X.env)::starEach es X.env:=by rfl) (hpl:(backTo pos (starEach es X.env)).any (·.1)=false:=by rfl) :
  PE X (.Call (.Name x p) (e::es) [] pos) (tMake C sp dvs E t):=by
 intro a s σ H Q I h;refine wpAny_Call_Name_kw (Jdr I hg hm ?_ hdb);refine W.callWith_K (h₀:=X.base) I.ok.mod.kin M.kp (thn (ha pos a s σ H _ I h) fun g d ⟨c,b,I1,r,q⟩=>⟨I1.kIn,?_⟩) he hpl;exact JgS M F hr hb hd hx I1 r q
theorem Ji2 (M:Mk X.K C f) (F:FnOk X.prog X.w X.K X.mg X.base CX k f fd ps sp) (hr:Room (k+1) X.A) (hg:Gl X x) (hm:X.mg x=some (.ref C)) (hb:Binds X.K fd ps ds) (hd:Vals dvs ds) (hx:JbU CX X E)
  (hdb:(x == ("__debug__" : Str))=false:=by decide):PE X (.Call (.Name x p) [] [] pos) (tMake C sp dvs E tNil):=by
 intro a s σ H Q I h;refine wpAny_Call_Name_kw (Jdr I hg hm ?_ hdb);exact W.callWith_K0 I.kIn M.kp (JgS (us:=[]) M F hr hb hd hx I .nil h)
end
section
variable {X:Cx} {CX:CXT} {k:Nat} {f C:Addr} {fd:FuncData} {ps ks:List Str} {sp:Sp} {E:XK} {x m:Str} {p pos apos kpos:Pos} {e o:Expr} {es:List Expr} {kws:List Keyword} {te ta:TE} {t tk:TA} {nm:Option Str}
variable {g:List Value->List Value->List Value} {gV:List V->List V->List V}
end
structure Jan (N P:List Str) (sc:Scope):Prop where
 kind:sc.kind=.function
 co:sc.isCoroutine=false
 gen:sc.isGenerator=false
 nd:N.Nodup
 pre:N.take P.length=P
 par:∀ x∈P,sc.names.lookup x=some .local\/sc.names.lookup x=some .cell
 nofree:∀ y∈sc.names,y.2≠.free
theorem Jfq {kindOf:Str->Option NameKind} {x:Str}:∀ {binds:List (Str × Value)} {m:Str->Option Value},(∀ v,(x,v)∉binds)->bindL kindOf binds m x=m x
 | [],_,_=>rfl
 | (n,v)::r,m,h=>by
  unfold bindL;rw [Jfq fun w hw=>h w (mem_cons_of_mem _ hw)];split
  ·have : x≠n:=by rintro rfl;exact h v mem_cons_self
   simp [this]
  ·rfl
theorem Jfo {kindOf:Str->Option NameKind} {x:Str}:∀ {binds:List (Str × Value)} {m:Str->Option Value},(∀ v,(x,v)∉binds)->bindC kindOf binds m x=m x
 | [],_,_=>rfl
 | (n,v)::r,m,h=>by
  unfold bindC;rw [Jfo fun w hw=>h w (mem_cons_of_mem _ hw)];split
  ·rfl
  ·have : x≠n:=by rintro rfl;exact h v mem_cons_self
   simp [this]
theorem Jfp {kindOf:Str->Option NameKind} {x:Str} {v:Value}:∀ {P:List Str} {vs:List Value} {i:Nat} {m:Str->Option Value},P.Nodup->P[i]?=some x->vs[i]?=some v->kindOf x=some .local ->
  bindL kindOf (P.zip vs) m x=some v
 | [],_,_,_,_,h,_,_=>by simp at h
 | _::_,[],_,_,_,_,h,_=>by simp at h
 | p::P,w::vs,0,m,nd,h1,h2,hk=>by
  simp at h1 h2;subst h1;subst h2;show bindL kindOf ((p,w)::P.zip vs) m p=_;unfold bindL;rw [Jfq fun v hv=>(nodup_cons.mp nd).1 (List.of_mem_zip hv).1,if_pos hk];simp
 | p::P,w::vs,i+1,m,nd,h1,h2,hk=>by
  show bindL kindOf ((p,w)::P.zip vs) m x=_;unfold bindL;exact Jfp (i:=i) (nodup_cons.mp nd).2 (by simpa using h1) (by simpa using h2) hk
theorem Jfn {kindOf:Str->Option NameKind} {x:Str} {v:Value}:∀ {P:List Str} {vs:List Value} {i:Nat} {m:Str->Option Value},P.Nodup->P[i]?=some x->vs[i]?=some v->kindOf x≠some .local ->
  bindC kindOf (P.zip vs) m x=some v
 | [],_,_,_,_,h,_,_=>by simp at h
 | _::_,[],_,_,_,_,h,_=>by simp at h
 | p::P,w::vs,0,m,nd,h1,h2,hk=>by
  simp at h1 h2;subst h1;subst h2;show bindC kindOf ((p,w)::P.zip vs) m p=_;unfold bindC;rw [Jfo fun v hv=>(nodup_cons.mp nd).1 (List.of_mem_zip hv).1,if_neg hk];simp
 | p::P,w::vs,i+1,m,nd,h1,h2,hk=>by
  show bindC kindOf ((p,w)::P.zip vs) m x=_;unfold bindC;exact Jfn (i:=i) (nodup_cons.mp nd).2 (by simpa using h1) (by simpa using h2) hk
def start (N:List Str) (vs:List V):St:=vs.map some++List.replicate (N.length-vs.length) none
def cxOf (CX:CXT) (P:Program) (w:World) (K:W.Frag) (mg:Str->Option Value) (base:Heap) (N:List Str) (qual:Str) (scope:Scope) (f:Addr) (cd:Value) (A:Around) (outer:List Env) (s:Shared) (H:Hp) (E:XK):Cx where
 prog:=P
 w:=w
 K:=K
 mg:=mg
 base:=base
 A:=A.deeper (envOfC qual scope s.heap.objs.size f cd)
 N:=N
 s₀:=s
 H₀:=H
 env:=envOfC qual scope s.heap.objs.size f cd
 outer:=outer
 stack:=envOfC qual scope s.heap.objs.size f cd::outer
 ex:=[]
 calm:=true
 fn:=fun _=>true
 pn:=[]
 xe:=fun e s'=>wpAny (model P w) (A.deeper (envOfC qual scope s.heap.objs.size f cd)) (leaving (envOfC qual scope s.heap.objs.size f cd) e) (fun _ s''=>CX outer H s E e s'') (fun e' s''=>CX outer H s E e' s'') s'
theorem Jgx {sc:Scope} {n:Nat} {x:Str} (h:sc.names.lookup x=some .cell):∃ c,(cellsFrom n sc.names []).lookup x=some c:=by
 have q:=W.cellsFrom_some sc.names n [] (.inl h);exact Option.isSome_iff_exists.mp q
theorem JhM {CX:CXT} {P:Program} {w:World} {K:W.Frag} {mg:Str->Option Value} {base:Heap} {N ps:List Str} {qual:Str} {scope:Scope} {f:Addr} {cd:Value} {A:Around} {outer:List Env} {s s1:Shared} {H:Hp} {E:XK} {us:List Value} {vs:List V}
  (S:Jan N ps scope) (hd:A.handled=none) (e0:Env0 P w K mg base A outer s H) (hl:vs.length=ps.length) (r:Vals vs us)
  (x:InCallC s s.heap.objs.size (bindL (envOfC qual scope s.heap.objs.size f cd).kindOf (ps.zip us) fun _=>none) (cellsFrom (s.heap.objs.size+1) scope.names []) (bindC (envOfC qual scope s.heap.objs.size f cd).kindOf (ps.zip us) fun _=>none) s1) :
  Inv (cxOf CX P w K mg base N qual scope f cd A outer s H E) [] (start N vs) H s1:=by
 have D:ps.length<=N.length:=by have:=congrArg List.length S.pre;rw [length_take] at this;ac_nf
 obtain ⟨o,J,rfl,C⟩:=x.done;have g:∀ b:Addr,b∉(cxOf CX P w K mg base N qual scope f cd A outer s H E).ex:=fun b z=>absurd (show b∈([]:List Addr) from z) (by simp);refine ⟨⟨e0.mod,S.kind,rfl,rfl,Nat.le_refl _,fun y z c o d=>?_,fun y j=>?_,fun y c _ h=>?_,fun _=>hd,Around.frames_deeper e0.frames, .inr ⟨rfl,rfl⟩,fun b z=>absurd z (g b),e0.bs,e0.bsz,fun b _ _=>g b,fun b z=>absurd z (g b),e0.funs,e0.frf⟩,
  rfl,e0.bare,Un.kept C,⟨_,x.toInCall.ns,fun i y v o d I=>?_⟩,fun y c h=>⟨_,x.cell y c h⟩,e0.hok.fresh (Nat.le_refl _),fun y c h=>?_,fun p l=>absurd (show p∈([]:List (Addr × Obj)) from l) (by simp),e0.hok.kept C,?_⟩
 ·exact name_of_addr x.apart (PySem.mem_of_lookup o) (PySem.mem_of_lookup d)
 ·have j:scope.names.lookup y=some .cell\/scope.names.lookup y=some .free:=j;rcases j with j | j
  ·exact Jgx j
  ·exact absurd rfl (S.nofree _ (PySem.mem_of_lookup j))
 ·exact Nat.le_of_lt (x.above y c (PySem.mem_of_lookup h))
 ·have t:i<vs.length:=by
   unfold start at d;by_cases t:i<vs.length
   ·exact t
   ·rw [List.getElem?_append_right (by simpa using t)] at d;rw [List.getElem?_replicate] at d;split at d <;> cases d
  have G:vs[i]?=some v:=by
   unfold start at d;rw [List.getElem?_append_left (by simpa using t),List.getElem?_map] at d;cases e:vs[i]? with
   | none=>rw [e] at d;cases d
   | some a=>rw [e] at d;cases d;rfl
  obtain ⟨u,B,F⟩:=r.get G;have l:ps[i]?=some y:=by
   rw [<- S.pre,List.getElem?_take_of_lt ∅];exact o
  have m:ps.Nodup:=by rw [<- S.pre];exact S.nd.sublist (List.take_sublist _ _)
  refine ⟨u,F,?_⟩;rcases S.par y (List.mem_of_getElem? l) with k | k
  ·exact .inl ⟨k,Jfp m l B k⟩
  ·obtain ⟨c,e⟩:=Jgx (n:=s.heap.objs.size+1) k;refine .inr ⟨.inl k,c,e,?_⟩;have q:=x.cell y c e;rw [Jfn m l B (by show scope.names.lookup y≠_;rw [k];decide)] at q;exact q
 ·exact e0.hok.fresh (Nat.le_of_lt (x.above y c (PySem.mem_of_lookup h)))
 ·unfold start;show _=N.length;rw [length_append,length_map,List.length_replicate];ac_nf
theorem fn_of {CX:CXT} {P:Program} {w:World} {K:W.Frag} {mg:Str->Option Value} {base:Heap} {k:Nat} {f:Addr} {name qual:Str} {params:Arguments} {body:List Stmt} {scope:Scope} {dV kV doc pm cdv ct oc:Value} {an od:Option Addr}
  {osl:Array (Option Value)} {N ps:List Str} {sp:Sp} (lk:K.lookup f=some ⟨oc,od, .func (W.fnOf name qual params body scope dV kV doc pm an cdv ct),osl⟩) (hcd:W.codeIn K cdv qual=true) (S:Jan N ps scope)
  (len:∀ vs H Q E,sp vs H Q E->vs.length=ps.length)
  (hbody:∀ (A:Around) (outer:List Env) (s:Shared) (H:Hp) (vs:List V) (Q:VK) (E:XK),Room k (A.deeper (envOfC qual scope s.heap.objs.size f cdv))->sp vs H Q E ->
   ∃ t,PSs (cxOf CX P w K mg base N qual scope f cdv A outer s H E) body t/\t { nx:=fun _ H'=>Q .non H',rt:=Q } (start N vs) H) :
  FnOk P w K mg base CX (k+1) f (W.fnOf name qual params body scope dV kV doc pm an cdv ct) ps sp:=by
 refine ⟨len,fun A outer s H p O vs Q E i d F r g=>?_⟩;have R:=len _ _ _ _ g;have KX:K.In s.heap:=d.mod.kin.keeps fun b o e=>(d.bs b o e).1;have j:s.heap.NoLimit:=d.mod.nolimit.keeps fun b o e=>(d.bs b o e).1;have a:∀ y∈ps.zip O,scope.names.lookup y.1=some .local\/(scope.names.lookup y.1=some .cell/\((cellsFrom (s.heap.objs.size+1) scope.names []).lookup y.1).isSome=true):=fun ⟨n,v⟩ M=>by
  rcases S.par n (List.of_mem_zip M).1 with q | q
  ·exact .inl q
  ·exact .inr ⟨q,W.cellsFrom_some _ _ _ (.inl q)⟩
 refine codeAny_call_function i.depth (KX _ _ lk) rfl S.co S.gen rfl (W.codeRec_of KX hcd) (F _ _ _ _ ?_);refine wpAny_newFunctionEnv_cells S.kind a fun B L z x=>?_;subst L;refine ⟨j.keeps x.toInCall.keep,codeAny_func ?_⟩;obtain ⟨t,C,D⟩:=hbody A outer s H vs Q E (i.deeper _) g;have I:Inv (cxOf CX P w K mg base N qual scope f cdv A outer s H E) [] (start N vs) H z:=JhM S i.hd d R r x;refine wpAny_mono (C [] z (start N vs) H _ I D) (fun G m c=>?_) fun e m c=>c;have h:∀ {σ':St} {H':Hp} {v:V} {u:Value},Inv (cxOf CX P w K mg base N qual scope f cdv A outer s H E) [] σ' H' m->RelV v u->Q v H'->CE outer P w H s Q u m :=
  fun {σ' H' v u} J l q=>⟨v,H',J.os,J.bare,J.base,J.hok,l,q⟩
 cases G with
 | ret u=>
  obtain ⟨v,σ',H',J,l,q⟩:=c;exact h J l q
 | next=>
  obtain ⟨σ',H',J,q⟩:=c;exact h (v:=V.non) (u:=Value.none) J rfl q
 | brk=>
  obtain ⟨_,_,_,q⟩:=c;exact False.elim q
 | cont=>
  obtain ⟨_,_,_,q⟩:=c;exact False.elim q
section
variable {X:Cx} {x:Str} {p pos:Pos} {e:Expr} {es:List Expr} {t:TA} {id T:String} {r:List V->Hp->VK->Prop}
def tCB (r:List V->Hp->VK->Prop) (t:TA):TE:=fun σ H Q=>t σ H fun vs H1=>r vs H1 Q
theorem Jat (hc:CallR X (.builtin id) r) (hg:Gl X x) (hm:X.mg x=none) (hv:bootBuiltins x=some (.builtin id)) (ha:PA X (e::es) t) (hn:x≠"__name__":=by decide) (hdb:(x == ("__debug__" : Str))=false:=by decide)
  (he:starEach (e::es) X.env=(false,eval e X.env)::starEach es X.env:=by rfl) (hpl:(backTo pos (starEach es X.env)).any (·.1)=false:=by rfl):PE X (.Call (.Name x p) (e::es) [] pos) (tCB r t):=by
 intro a s σ H Q I h;refine wpAny_Call_Name_kw (JeC I hg hm hv ?_ hn hdb);exact PyProof.Rows.callWith_builtin1 (thn (ha pos a s σ H _ I h) fun i g ⟨d,b,I1,c,f⟩=>hc a g σ b d i Q I1 c f) he hpl
theorem JcB (hc:CallR X (.type T) r) (hg:Gl X x) (hm:X.mg x=none) (hv:bootBuiltins x=some (.type T)) (ha:PA X (e::es) t) (hn:x≠"__name__":=by decide) (hdb:(x == ("__debug__" : Str))=false:=by decide)
  (he:starEach (e::es) X.env=(false,eval e X.env)::starEach es X.env:=by rfl) (hpl:(backTo pos (starEach es X.env)).any (·.1)=false:=by rfl):PE X (.Call (.Name x p) (e::es) [] pos) (tCB r t):=by
 intro a s σ H Q I h;refine wpAny_Call_Name_kw (JeC I hg hm hv ?_ hn hdb);exact PyProof.Rows.callWith_type1 (thn (ha pos a s σ H _ I h) fun i g ⟨d,b,I1,c,f⟩=>hc a g σ b d i Q I1 c f) he hpl
end
end L2
namespace HT
open PySem PyProof.Rows
section
open PySem.SeqAt
open PySem.AutoSeq1 (wpAny_loadPart')
open PySem.MeetsSeq PySem.MeetsSeq2 PySem.MeetsSeq3
end
section
variable {prog:Program} {w:World} {A:Around} {E:Value->Shared->Prop} {s:Shared}
theorem cat_tup {t b:Addr} {vs ws:List Value} {Q:Value->Shared->Prop} (ht:IsTup s.heap t vs.toArray) (hb:IsTup s.heap b ws.toArray) (hv:vs≠[])
  (h1:ws=[]->Q (.ref t) s) (h2:ws≠[]->Q (.ref s.heap.objs.size) { s with heap:=s.heap.push { cls:=.type "tuple",data:=.seq (vs++ws).toArray } })
  (hsz:vs.length+ws.length<=sizeLine):wpAny (model prog w) A (binaryOp .Add (.ref t) (.ref b)) Q E s:=by
 obtain ⟨⟨cls,p,data,k⟩,i,q,n,m⟩:=id ht;obtain ⟨⟨l,c,j,g⟩,a,f,o,d⟩:=id hb;simp only at q m f d;subst q m f d;have e:vs.toArray++ws.toArray=(vs++ws).toArray:=by simp
 by_cases h:ws=[]
 ·exact concat_meets ⟨_,i,rfl⟩ ⟨_,a,rfl⟩ noFill_tuple_add seq_tuple_add PySem.F.slot_tuple_add PySem.F.entry_tuple_add (PySem.F.args_tuple_add_2 _ _)
   (tuple_addW1 t b vs.toArray ws.toArray n o p c k g (by simpa using hv) (by simp [h])) ⟨i,a,h1 h⟩
 ·refine concat_meets ⟨_,i,rfl⟩ ⟨_,a,rfl⟩ noFill_tuple_add seq_tuple_add PySem.F.slot_tuple_add PySem.F.entry_tuple_add (PySem.F.args_tuple_add_2 _ _)
   (tuple_addW2 t b vs.toArray ws.toArray n o p c k g (by simpa using hv) (by simpa using h) (by rw [size_toArray,size_toArray];exact hsz)) ⟨i,a,?_⟩
  rw [e];exact h2 h
end
end HT
namespace L2
open PySem PySem.Spec PyProof.Rows
abbrev TO:=St->Hp->(Option Int->Hp->Prop)->Prop
def PO (X:Cx) (e:Option Expr) (t:TO):Prop :=
 ∀ (pins:List (Addr × Obj)) (s:Shared) (σ : St) (H:Hp) (Q:Option Int->Hp->Prop),Inv X pins σ H s->t σ H Q ->
  wpAny (model X.prog X.w) X.A (evalPart e X.env) (fun u s'=>∃ o H',Inv X pins σ H' s'/\IsPart u o/\Q o H') X.xe s
def JkE:TO:=fun _ H Q=>Q none H
def tPart (t:TE):TO:=fun σ H Q=>t σ H fun x H1=>∃ i,x=.int i/\Q (some i) H1
section
variable {X:Cx} {e:Expr} {te:TE} {lo hi:Option Expr} {tl th:TO} {pos p2:Pos}
def tSl (r:V->Option Int->Option Int->Hp->VK->Prop) (te:TE) (tl th:TO):TE:=fun σ H Q=>te σ H fun x H1=>tl σ H1 fun l H2=>th σ H2 fun u H3=>r x l u H3 Q
def rCatT (K:W.Frag):R2:=fun x y H Q=>∃ a b xs ys,x=.ref a/\y=.ref b/\SqT K H a xs/\SqT K H b ys/\xs≠[]/\xs.length+ys.length<=sizeLine /\
 (ys=[]->Q (.ref a) H)/\(ys≠[]->∀ p,H p=none->Q (.ref p) (upd H p (.tup (xs++ys))))
theorem Vals.nil_iff {xs:List V} {us:List Value} (r:Vals xs us):us=[]↔xs=[]:=by
 cases r with
 | nil=>simp
 | cons _ _=>simp
theorem Jkc:OpR X (binaryOp .Add) (rCatT X.K):=by
 intro g s σ H x y v u Q I t l h;obtain ⟨a,b,n,j,rfl,rfl,p,k,C,e,B,m⟩:=h;cases t;cases l;obtain ⟨A,d,i,_⟩:=I.tuple p;obtain ⟨f,c,r,_⟩:=I.tuple k;refine HT.cat_tup i r (fun z=>C (d.nil_iff.mp z)) (fun z=>⟨.ref a,H,I,rfl,B (c.nil_iff.mp z)⟩) (fun z=>?_) (by rw [<- d.length, <- c.length];exact e);refine ⟨.ref s.heap.objs.size,_,I.laid (t':=s.toks) (o:=.tup (n++j)) (fun b D q=>Heap.get?_push_of_some _ q) (Nat.le_refl _) ?_,rfl,m (fun w=>z (c.nil_iff.mpr w)) _ (I.hok.fresh (Nat.le_refl _))⟩;exact ⟨by rw [length_append];exact e,_,d.append c,IsTup.new _ _⟩
end
def ixN (n:Nat) (i:Int):Option Nat:=if 0<=i then (if i<n then some i.toNat else none) else if -(n:Int)<=i then some (i+n).toNat else none
def atI {α : Type} (xs:List α) (i:Int):Option α:=(ixN xs.length i).bind fun j=>xs[j]?
theorem JjW {n:Nat} {i:Int} {j:Nat} (h:ixN n i=some j):seqIndex? i n=some j/\j<n/\-(n:Int)<=i/\i<n:=by
 unfold ixN at h;by_cases b:0<=i
 ·rw [if_pos b] at h;by_cases a:i<n
  ·rw [if_pos a] at h;have e:i.toNat=j:=Option.some.inj h;exact ⟨by rw [seqIndex_of b a,e],by ac_nf,by ac_nf,a⟩
  ·rw [if_neg a] at h;cases h
 ·rw [if_neg b] at h;by_cases a : -(n:Int)<=i
  ·rw [if_pos a] at h;have e:(i+n).toNat=j:=Option.some.inj h;exact ⟨by rw [seqIndex_neg ∅ a,e],by ac_nf,a,by ac_nf⟩
  ·rw [if_neg a] at h;cases h
theorem JfW {α : Type} {xs:List α} {i:Int} {v : α} (h:atI xs i=some v):∃ j,seqIndex? i xs.length=some j/\xs[j]?=some v/\j<xs.length/\-(xs.length:Int)<=i/\i<xs.length:=by
 unfold atI at h;cases e:ixN xs.length i with
 | none=>rw [e] at h;cases h
 | some j=>
  rw [e] at h;obtain ⟨a,b,d,c⟩:=JjW e;exact ⟨j,a,h,b,d,c⟩
theorem Jcy {α : Type} {xs:List α} {j:Nat} {v : α} (h:xs[j]?=some v):atI xs (j:Int)=some v:=by
 have a:j<xs.length:=(List.getElem?_eq_some_iff.mp h).1;have e:ixN xs.length (j:Int)=some j:=by
  unfold ixN;rw [if_pos ∅,if_pos ∅];simp
 unfold atI;rw [e];exact h
def JjE (b:Expr):Prop:=∀ o i,subscripted b false o i=operate [o,i] (getItem o i)
def IxR (X:Cx) (r:R2):Prop :=
 ∀ (value slice:Expr) (pins:List (Addr × Obj)) (s:Shared) (σ : St) (H:Hp) (x y:V) (v u:Value) (Q:VK),Inv X pins σ H s->RelV x v->RelV y u->r x y H Q ->
  subscripted slice false v u=operate [v,u] (getItem v u)->wpAny (model X.prog X.w) X.A (subscriptTail value slice v u) (EP X pins σ Q) X.xe s
def MtR (X:Cx) (id:String) (r:V->List V->Hp->VK->Prop):Prop :=
 ∀ (pins:List (Addr × Obj)) (s:Shared) (σ : St) (H:Hp) (x:V) (xs:List V) (v:Value) (us:List Value) (Q:VK),Inv X pins σ H s->RelV x v->Vals xs us->r x xs H Q ->
  wpAny (model X.prog X.w) X.A (call (.builtin id) (v::us)) (EP X pins σ Q) X.xe s
section
variable {X:Cx} {a b:Expr} {ta tb:TE} {pos:Pos}
theorem pe_ix {r:R2} (hr:IxR X r) (ha:PE X a ta) (hb:PE X b tb) (hs:JjE b):PE X (.Subscript a b pos) (tOp r ta tb):=by
 intro c s σ H Q I h;exact Subscript_ (binT ha hb I h fun v u d x y e I2 g f q=>hr a b c d σ e x y v u Q I2 g f q (hs _ _))
def rIxL (K:W.Frag):R2:=fun x y H Q=>∃ p xs i v,x=.ref p/\y=.int i/\SqL K H p xs/\atI xs i=some v/\Q v H
def rIxT (K:W.Frag):R2:=fun x y H Q=>∃ p xs i v,x=.ref p/\y=.int i/\SqT K H p xs/\atI xs i=some v/\Q v H
def rIxS:R2:=fun x y H Q=>∃ z i c,x=.str z/\y=.int i/\z.length<=sizeLine/\atI z.cps.toList i=some c/\Q (.str ⟨#[c]⟩) H
theorem JjX:IxR X (rIxL X.K):=by
 intro k d a s σ H x y v u Q I F C h n;obtain ⟨p,P,i,z,rfl,rfl,A,G,q⟩:=h;cases F;obtain ⟨t,rfl⟩:=C;obtain ⟨g,r,l,N⟩:=I.list A;obtain ⟨j,c,E,M,D,B⟩:=JfW G;obtain ⟨w,m,f⟩:=r.get E;have L:=r.length;have O:=JeD;have b:EP X a σ Q w s:=⟨z,H,I,f,q⟩;by_cases o:0<=i
 ·have e:i.toNat=j:=by
   rw [seqIndex_of o B] at c;exact Option.some.inj c
  exact item_listR l.isList o ∅ (by rw [e];simpa using m) b n
 ·have e:(i+(g.toArray.size:Int)).toNat=j:=by
   rw [seqIndex_neg ∅ D] at c;rw [size_toArray, <- L];exact Option.some.inj c
  exact subscriptTail_builtinR (x:=w) l.isList.typeIs slot_list_getitem.lookup
   (wpAny_getItem_list_neg (Q:=fun r J=>r=w/\EP X a σ Q r J) l.isList ∅ (by rw [size_toArray] <;> ac_nf) ∅ (by rw [e];simpa using m) ⟨rfl,b⟩) n
theorem JkT:IxR X (rIxT X.K):=by
 intro e b a s σ H x y v u Q I B n h k;obtain ⟨p,N,i,z,rfl,rfl,l,C,q⟩:=h;cases B;obtain ⟨t,rfl⟩:=n;obtain ⟨E,r,f,G⟩:=I.tuple l;obtain ⟨j,m,o,F,L,J⟩:=JfW C;obtain ⟨w,g,d⟩:=r.get o;have A:=r.length;have M:=JeD;have c:EP X a σ Q w s:=⟨z,H,I,d,q⟩;exact subscriptTail_builtinR (x:=w) f.typeIs slot_tuple_getitem.lookup
  (getItem_tuple (j:=j) (Q:=fun r D=>r=w/\EP X a σ Q r D) f ∅ ∅ (by rw [size_toArray, <- A];exact m) (by simpa using g) ⟨rfl,c⟩) k
theorem JkS:IxR X rIxS:=by
 intro b a e s σ H x y v u Q I p l h f;obtain ⟨z,i,c,rfl,rfl,B,r,q⟩:=h;obtain ⟨t,rfl⟩:=p;obtain ⟨D,rfl⟩:=l;obtain ⟨j,d,n,A,m,g⟩:=JfW r;have o:z.cps.toList.length=z.length:=by simp [Str.length]
 rw [o] at d m g;have C:=JeD;exact tail_any (typeIs_str s z t) slot_str_getitem.lookup (getItem_str (c:=c) (by
  have k:decide (i < -(2 ^ 63:Int))=false:=decide_eq_false ∅;have w:decide (i ≥ 2 ^ 63)=false:=decide_eq_false ∅;rw [k,w,Bool.or_false]) (by rw [d];simpa using n) ⟨.str ⟨#[c]⟩,H,I.tok _,⟨_,rfl⟩,q⟩) f
theorem Inv.lst {pins:List (Addr × Obj)} {σ : St} {H:Hp} {s:Shared} {p:Addr} {xs:List V} (I:Inv X pins σ H s) (h:H p=some (.lst xs)) :
  ∃ (its:List Value) (n:Nat),Vals xs its/\s.heap.get? p=some { cls:=.type "list",data:=.seq its.toArray n }/\xs.length<=sizeLine:=by
 obtain ⟨z,its,n,r,e⟩:=I.hok p _ h;exact ⟨its,n,r,e,z⟩
def flatV:V->Bool
 | .non=>true
 | .bl _=>true
 | .int _=>true
 | .str _=>true
 | _=>false
def eqV:V->V->Bool
 | .non, .non=>true
 | .bl a, .bl b=>a == b
 | .bl a, .int b=>(if a then 1 else 0) == b
 | .int a, .bl b=>a == (if b then 1 else 0)
 | .int a, .int b=>a == b
 | .str a, .str b=>a == b
 | _,_=>false
theorem Jjk {A:Around} {s:Shared} {y x:V} {u v:Value} (ry:RelV y u) (rx:RelV x v) (fy:flatV y=true) (fx:flatV x=true):SeqAt.EqAt A s u v (eqV y x):=by
 cases y with
 | non=>
  cases ry;cases x with
  | non=>cases rx;exact SeqAt.EqAt.same _
  | bl b=>cases rx;exact SeqAt.EqAt.none_bool b
  | int b=>obtain ⟨t,rfl⟩:=rx;exact SeqAt.EqAt.none_int b t
  | str b=>obtain ⟨t,rfl⟩:=rx;exact SeqAt.EqAt.none_str b t
  | _=>exact absurd (show false=true from fx) Bool.false_ne_true
 | bl a=>
  cases ry;cases x with
  | non=>cases rx;exact SeqAt.EqAt.bool_none a
  | bl b=>cases rx;exact SeqAt.EqAt.bool_bool a b
  | int b=>obtain ⟨t,rfl⟩:=rx;exact SeqAt.EqAt.bool_int a b t
  | str b=>obtain ⟨t,rfl⟩:=rx;exact SeqAt.EqAt.bool_str a b t
  | _=>exact absurd (show false=true from fx) Bool.false_ne_true
 | int a=>
  obtain ⟨c,rfl⟩:=ry;cases x with
  | non=>cases rx;exact SeqAt.EqAt.int_none a c
  | bl b=>cases rx;exact SeqAt.EqAt.int_bool a c b
  | int b=>obtain ⟨t,rfl⟩:=rx;exact SeqAt.EqAt.int_int a c b t
  | str b=>obtain ⟨t,rfl⟩:=rx;exact SeqAt.EqAt.int_str a c b t
  | _=>exact absurd (show false=true from fx) Bool.false_ne_true
 | str a=>
  obtain ⟨c,rfl⟩:=ry;cases x with
  | non=>cases rx;exact SeqAt.EqAt.str_none a c
  | bl b=>cases rx;exact SeqAt.EqAt.str_bool a c b
  | int b=>obtain ⟨t,rfl⟩:=rx;exact SeqAt.EqAt.str_int a c b t
  | str b=>obtain ⟨t,rfl⟩:=rx;exact SeqAt.EqAt.str_str a c b t
  | _=>exact absurd (show false=true from fx) Bool.false_ne_true
 | _=>exact absurd (show false=true from fy) Bool.false_ne_true
def eqU (x:V) (u:Value):Bool:=match u with
 | .none=>eqV .non x
 | .bool b=>eqV (.bl b) x
 | .int i _=>eqV (.int i) x
 | .str z _=>eqV (.str z) x
 | _=>false
theorem Jjl {x y:V} {u:Value} (r:RelV y u) (f:flatV y=true):eqU x u=eqV y x:=by
 cases y with
 | non=>cases r;rfl
 | bl b=>cases r;rfl
 | int i=>obtain ⟨t,rfl⟩:=r;rfl
 | str z=>obtain ⟨t,rfl⟩:=r;rfl
 | _=>exact absurd (show false=true from f) Bool.false_ne_true
theorem JfV {x:V}:∀ {xs:List V} {us:List Value},Vals xs us->xs.all flatV=true->us.any (eqU x)=xs.any fun y=>eqV y x
 | _,_, .nil,_=>rfl
 | y::xs,u::us, .cons r t,f=>by
  rw [List.all_cons,Bool.and_eq_true] at f;rw [any_cons,any_cons,Jjl r f.1,JfV t f.2]
theorem JeW {A:Around} {s:Shared} {x:V} {v:Value} (rx:RelV x v) (fx:flatV x=true):∀ {xs:List V} {us:List Value},Vals xs us->xs.all flatV=true->∀ u∈us,SeqAt.EqAt A s u v (eqU x u)
 | _,_, .nil,_=>fun u hu=>by cases hu
 | y::xs,u::us, .cons r t,f=>fun u' hu=>by
  rw [List.all_cons,Bool.and_eq_true] at f;rcases mem_cons.mp hu with rfl | hu
  ·rw [Jjl r f.1];exact Jjk r rx f.1 fx
  ·exact JeW rx fx t f.2 u' hu
def inV (x:V) (xs:List V):Bool:=xs.any fun y=>eqV y x
def rIn (K:W.Frag) (neg:Bool):R2:=fun x y H Q=>∃ p xs,y=.ref p/\(SqL K H p xs\/SqT K H p xs)/\flatV x=true/\xs.all flatV=true/\Q (.bl (if neg then !inV x xs else inV x xs)) H
theorem Jh0:OpR X (compareOp .In) (rIn X.K false):=by
 intro i s σ H x y v u Q I g k h;obtain ⟨p,l,rfl,b,f,c,q⟩:=h;cases k;rcases b with b | b
 ·obtain ⟨a,r,e,j⟩:=I.list b;refine SeqAt.in_listAt (eqU x) e.isList (fun w d=>JeW g f r c w (by simpa using d)) ⟨.bl _,H,I,rfl,?_⟩;rw [show a.toArray.any (eqU x)=a.any (eqU x) by simp,JfV r c];exact q
 ·obtain ⟨a,r,e,j⟩:=I.tuple b;refine SeqAt.in_tupleAt (eqU x) e (fun w d=>JeW g f r c w (by simpa using d)) ⟨.bl _,H,I,rfl,?_⟩;rw [show a.toArray.any (eqU x)=a.any (eqU x) by simp,JfV r c];exact q
theorem Jfs:CallR X (.builtin "len") (fun xs H Q=>∃ p ys,xs=[.ref p]/\(SqL X.K H p ys\/SqT X.K H p ys)/\Q (.int ys.length) H):=by
 intro f s σ H xs k Q I r h;obtain ⟨p,ys,rfl,b,q⟩:=h;obtain ⟨u,rfl,i⟩:=vals1 r;cases i;have j:=JeD;rcases b with b | b
 ·obtain ⟨c,e,d,g⟩:=I.list b;have a:=e.length;exact Calls.call_len_list d.isList (by simp only [size_toArray] <;> ac_nf) ⟨.int ys.length,H,I.tok _,⟨s.toks+1,by rw [size_toArray,a]⟩,q⟩
 ·obtain ⟨c,e,d,g⟩:=I.tuple b;have a:=e.length;exact len_tuple d (by simp only [size_toArray] <;> ac_nf) ⟨.int ys.length,H,I.tok _,⟨s.toks+1,by rw [size_toArray,a]⟩,q⟩
theorem Jft:CallR X (.builtin "len") (fun xs H Q=>∃ z,xs=[.str z]/\z.length<=sizeLine/\Q (.int z.length) H):=by
 intro a s σ H xs c Q I r h;obtain ⟨z,rfl,d,q⟩:=h;obtain ⟨u,rfl,t,rfl⟩:=vals1 r;have b:=JeD;exact len_str ∅ ⟨.int z.length,H,I.tok _,⟨_,rfl⟩,q⟩
theorem Jfu:CallR X (.type "list") (fun xs H Q=>∃ p ys,xs=[.ref p]/\(SqL X.K H p ys\/SqT X.K H p ys)/\∀ l,H l=none->Q (.ref l) (upd H l (.lst ys))):=by
 intro t s σ H xs B Q I r h;obtain ⟨p,ys,rfl,j,q⟩:=h;obtain ⟨u,rfl,A⟩:=vals1 r;cases A;have k:∀ (a:List Value),Vals ys a->ys.length<=sizeLine->∀ (c:Heap) (d:Nat),(∀ b o',s.heap.get? b=some o'->c.get? b=some o') ->
   c.get? s.heap.objs.size=some { cls:=.type "list",dict:=none,data:=.seq a.toArray d,slots:=#[] }->EP X t σ Q (.ref s.heap.objs.size) { s with heap:=c }:=fun a f g c d m e=>
  ⟨.ref s.heap.objs.size,_,I.laid (t':=s.toks) m (Nat.le_refl _) (show ObjOk X.prog X.w _ c _ (.lst ys) from ⟨g,a,d,f,e⟩),rfl,q _ (I.hok.fresh (Nat.le_refl _))⟩
 rcases j with j | j
 ·obtain ⟨a,f,z,g⟩:=I.list j;have i:=f.length;obtain ⟨o,y,v,n,x⟩:=z.isList;exact call_list_seq p (.inl rfl) y v x (fun c d m e=>k a f g c d m e) (by simp only [size_toArray] <;> ac_nf)
 ·obtain ⟨a,f,z,g⟩:=I.tuple j;have i:=f.length;obtain ⟨o,y,v,n,x⟩:=z;exact call_list_seq p (.inr rfl) y v x (fun c d m e=>k a f g c d m e) (by simp only [size_toArray] <;> ac_nf)
def tyV (K:W.Frag) (T:String) (x:V) (H:Hp):Prop:=match x with
 | .str _=>T="str"
 | .int _=>T="int"
 | .ref p=>(T="list"/\∃ xs,SqL K H p xs)\/(T="tuple"/\∃ o,K.lookup p=some o/\o.cls=.type "tuple"/\o.dict=none) \/
   (T="dict"/\((∃ kvs,H p=some (.dK kvs))\/∃ kvs,H p=some (.dT kvs)))\/(T="set"/\∃ S n,H p=some (.set S n))
 | _=>False
theorem Jjz {pins:List (Addr × Obj)} {σ : St} {H:Hp} {s:Shared} {T:String} {x:V} {v:Value} (I:Inv X pins σ H s) (r:RelV x v) (ty:tyV X.K T x H) :
  s.TypeIs v T/\∀ a,v=.ref a->∃ ob,s.heap.get? a=some ob/\ob.dict=none:=by
 cases x with
 | str z=>
  obtain ⟨t,rfl⟩:=r;cases (show T="str" from ty);exact ⟨typeIs_str s z t,fun _ e=>nomatch e⟩
 | int i=>
  obtain ⟨t,rfl⟩:=r;cases (show T="int" from ty);exact ⟨typeIs_int s i t,fun _ e=>nomatch e⟩
 | ref p=>
  cases r;rcases ty with ⟨rfl,xs,hq⟩ | ⟨rfl,o,hk,hc,d⟩ | ⟨rfl,hk⟩ | ⟨rfl,S,n,hk⟩
  ·obtain ⟨h,_,g,_⟩:=I.list hq;refine ⟨g.isList.typeIs,fun a e=>?_⟩;cases e;obtain ⟨o,n,e,c,d,_⟩:=g;exact ⟨o,e,d⟩
  ·refine ⟨⟨o,I.kIn p o hk,hc⟩,fun a e=>?_⟩;cases e;exact ⟨o,I.kIn _ o hk,d⟩
  ·have z:∃ o,s.heap.get? p=some o/\o.ExactDict:=by
    rcases hk with ⟨kvs,hk⟩ | ⟨kvs,hk⟩
    ·obtain ⟨_,_,_,_,o,_,_,e,b,_⟩:=I.hok p _ hk;exact ⟨o,e,b⟩
    ·obtain ⟨_,_,_,_,o,_,_,e,b,_⟩:=I.hok p _ hk;exact ⟨o,e,b⟩
   obtain ⟨o,e,b⟩:=z;refine ⟨⟨o,e,b.1⟩,fun a f=>?_⟩;cases f;exact ⟨o,e,b.2.1⟩
  ·obtain ⟨o,_,_,_,e,b,_⟩:=I.hok p _ hk;refine ⟨⟨o,e,b.1⟩,fun a f=>?_⟩;cases f;exact ⟨o,e,b.2.1⟩
 | _=>exact False.elim ty
def tBM0 (K:W.Frag) (T:String) (r:V->List V->Hp->VK->Prop) (to:TE):TE:=fun σ H Q=>to σ H fun x H1=>tyV K T x H1/\r x [] H1 Q
def tBM (K:W.Frag) (T:String) (r:V->List V->Hp->VK->Prop) (to:TE) (t:TA):TE:=fun σ H Q=>to σ H fun x H1=>tyV K T x H1/\t σ H1 fun xs H2=>r x xs H2 Q
variable {o e:Expr} {es:List Expr} {to:TE} {t:TA} {name:Str} {apos cpos:Pos} {T id:String} {r:V->List V->Hp->VK->Prop}
theorem JgO (pa:PlainAttrs T) (slot:Slot T name id) (hty:typeOf (.builtin id)=pure (.type "method_descriptor")) (hm:MtR X id r) (ho:PE X o to)
  (hbase:attributeBase o name X.env (eval o X.env)=eval o X.env:=by rfl) (hline:(apos.endLine == cpos.line)=true:=by rfl):PE X (.Call (.Attribute o name apos) [] [] cpos) (tBM0 X.K T r to):=by
 intro a s σ H Q I h;refine wpAny_Call_method0_late hbase hline (thn (ho a s σ H _ I h) fun v i ζ=>?_);obtain ⟨x,d,I1,b,f,e⟩:=ζ;obtain ⟨g,c⟩:=Jjz I1 b f;exact ⟨T,id,pa,slot,hty,g,c,Calls.callWith_builtin rfl (PySem.evalArgs_none (hm a i σ d x [] v [] Q I1 b .nil e))⟩
theorem pe_bm (pa:PlainAttrs T) (slot:Slot T name id) (hty:typeOf (.builtin id)=pure (.type "method_descriptor")) (hm:MtR X id r) (ho:PE X o to) (ha:PA X (e::es) t)
  (hbase:attributeBase o name X.env (eval o X.env)=eval o X.env:=by rfl)
  (hfew:((backTo cpos (starEach (e::es) X.env)).all (fun x=>!x.1)&&(backToKw cpos (keywordEach [] X.env)).all (fun x=>x.1.isSome)
   && decide ((e::es).length+([]:List Keyword).length+(if ([]:List Keyword).isEmpty then 0 else 1)<30))=true:=by rfl)
  (hline:(apos.endLine == cpos.line)=true:=by rfl) (hs:starEach (e::es) X.env=(false,eval e X.env)::starEach es X.env:=by rfl) (hplain:(backTo cpos (starEach es X.env)).any (·.1)=false:=by rfl) :
  PE X (.Call (.Attribute o name apos) (e::es) [] cpos) (tBM X.K T r to t):=by
 intro a s σ H Q I h;refine wpAny_Call_method_late hbase hfew hline rfl (thn (ho a s σ H _ I h) fun v q ζ=>?_);obtain ⟨x,f,I1,c,n,m⟩:=ζ;obtain ⟨i,j⟩:=Jjz I1 c n;refine ⟨T,id,pa,slot,hty,i,j,?_⟩;have b:=ha cpos a q σ f _ I1 m;rw [hs] at b ⊢;refine Calls.callWith_builtin (by show (false||(backTo cpos (starEach es X.env)).any (·.1))=false;rw [hplain] <;> rfl) (Calls.evalArgs_plain ?_);exact thn b fun u k ⟨d,g,I2,p,l⟩=>hm a k σ g x d v u Q I2 c p l
end
def MtM (X:Cx) (id:String) (r:V->List V->Hp->VK->Prop):Prop :=
 ∀ (pins:List (Addr × Obj)) (s:Shared) (σ : St) (H:Hp) (x:V) (xs:List V) (v:Value) (us:List Value) (Q:VK),Inv X pins σ H s->RelV x v->Vals xs us->r x xs H Q ->
  wpAny (model X.prog X.w) X.A (call (.builtin id) (v::us)) (EP X pins σ Q) X.xe s
theorem Vals.one:∀ {x:V} {us:List Value},Vals [x] us->∃ u,us=[u]/\RelV x u
 | _,_, .cons r .nil=>⟨_,rfl,r⟩
theorem Vals.zero:∀ {us:List Value},Vals [] us->us=[]
 | _, .nil=>rfl
theorem Vals.dropLast {xs:List V} {us:List Value} (h:Vals xs us):Vals xs.dropLast us.dropLast:=by
 induction h with
 | nil=>exact .nil
 | cons r t ih=>
  cases t with
  | nil=>exact .nil
  | cons q t'=>exact .cons r ih
theorem Vals.reverse {xs:List V} {us:List Value} (h:Vals xs us):Vals xs.reverse us.reverse:=by
 induction h with
 | nil=>exact .nil
 | cons r t ih=>rw [List.reverse_cons,List.reverse_cons];exact Vals.append ih (.cons r .nil)
theorem Jg3 {α : Type} (l:List α):l.eraseIdx (l.length-1)=l.dropLast:=by
 induction l with
 | nil=>rfl
 | cons a r ih=>
  cases r with
  | nil=>rfl
  | cons b r=>
   have e:(a::b::r).length-1=((b::r).length-1)+1:=by
    have d:(a::b::r).length=r.length+2:=rfl;have c:(b::r).length=r.length+1:=rfl;ac_nf
   rw [e,List.eraseIdx_cons_succ,ih];all_goals rfl
section
variable {X:Cx} {pins:List (Addr × Obj)} {σ : St} {H:Hp} {s:Shared} {l b:Addr} {xs ys zs:List V}
theorem Inv.lset {its its':List Value} {n:Nat} {f:Array Value->Array Value} {t':Nat} (I:Inv X pins σ H s) (hH:H l=some (.lst xs))
  (e:s.heap.get? l=some { cls:=.type "list",data:=.seq its.toArray n }) (hf:f its.toArray=its'.toArray) (hv:Vals ys its') (hz:ys.length<=sizeLine) :
  Inv X pins σ (upd H l (.lst ys)) { s with heap:=s.heap.update l (Obj.mapSeq f),toks:=t' }:=by
 have q:=PySem.IsL.update e f;rw [hf] at q;refine I.write (x:=l) (e:=l) (by rw [hH];exact trivial) (.inl rfl) (fun c u a b=>(Heap.get?_update_other s.heap (Obj.mapSeq f) (Ne.symm a)).trans b) ⟨_,q⟩ ?_;exact ⟨hz,its',_,hv,q⟩
theorem Inv.lnew {its:List Value} {t':Nat} (I:Inv X pins σ H s) (hv:Vals ys its) (hz:ys.length<=sizeLine) :
  Inv X pins σ (upd H s.heap.objs.size (.lst ys)) { s with heap:=s.heap.push { cls:=.type "list",data:=.seq its.toArray },toks:=t' } :=
 I.laid (fun _ _ q=>Heap.get?_push_of_some _ q) (Nat.le_refl _) ⟨hz,its,0,hv,Heap.get?_push_size _ rfl⟩
theorem Inv.fresh (I:Inv X pins σ H s):H s.heap.objs.size=none:=I.hok.fresh (Nat.le_refl _)
theorem Inv.lstM (I:Inv X pins σ H s) (hH:H l=some (.lst xs)):xs.length<=sizeLine/\∃ (its:List Value) (n:Nat),Vals xs its/\xs.length=its.length/\s.heap.get? l=some { cls:=.type "list",data:=.seq its.toArray n }:=by
 obtain ⟨z,its,n,r,e⟩:=I.hok l _ hH;exact ⟨z,its,n,r,r.length,e⟩
theorem JiR {n:Nat} (h:n<=sizeLine):Builtin.List.listTooLong n=false:=by
 unfold Builtin.List.listTooLong;exact decide_eq_false ∅
end
section
variable {X:Cx}
def Jks:V->List V->Hp->VK->Prop:=fun x vs H Q=>∃ l xs y,x=.ref l/\vs=[y]/\H l=some (.lst xs)/\xs.length<sizeLine/\Q .non (upd H l (.lst (xs++[y])))
theorem Ja7:MtM X "list.append" Jks:=by
 intro c s σ H x i v m Q I f d h;obtain ⟨l,k,y,rfl,rfl,b,j,q⟩:=h;cases f;obtain ⟨u,rfl,g⟩:=d.one;obtain ⟨z,a,n,r,o,e⟩:=I.lstM b;refine call_meets F.slot_list_append ⟨_,e,rfl⟩ F.entry_list_append (F.args_list_append_2 _ _) (PySem.list_append l a.toArray n u (by rw [size_toArray];ac_nf)) ⟨e,?_⟩;refine ⟨.non,_,I.lset (its':=a++[u]) b e (by simp) (r.append (.cons g .nil)) ?_,rfl,q⟩;rw [length_append,length_singleton];ac_nf
def Jkt:V->List V->Hp->VK->Prop:=fun x vs H Q=>∃ l b xs zs,x=.ref l/\vs=[.ref b]/\H l=some (.lst xs)/\H b=some (.lst zs)/\xs.length+zs.length<=sizeLine/\Q .non (upd H l (.lst (xs++zs)))
theorem JfB:MtM X "list.extend" Jkt:=by
 intro i s σ H x A v G Q I o m h;obtain ⟨l,b,E,B,rfl,rfl,g,k,C,q⟩:=h;cases o;obtain ⟨u,rfl,p⟩:=m.one;cases p;obtain ⟨z,c,n,r,J,e⟩:=I.lstM g;obtain ⟨D,a,w,t,j,y⟩:=I.lstM k;have f:c.toArray.size+a.toArray.size<=sizeLine:=by rw [size_toArray,size_toArray];ac_nf
 have d:¬ (!c.toArray.isEmpty&&Builtin.List.listTooLong (c.toArray.size+a.toArray.size))=true:=by
  rw [JiR f,Bool.and_false];exact Bool.false_ne_true
 refine call_meets F.slot_list_extend ⟨_,e,rfl⟩ F.entry_list_extend (F.args_list_extend_2 _ _)
  (AutoSeq1.list_extend_list_list_0 l c.toArray n b a.toArray w d (by rw [size_toArray];ac_nf) ∅) ⟨e,y,?_⟩
 refine ⟨.non,_,I.lset (its':=c++a) g e (by simp) (r.append t) ?_,rfl,q⟩;rw [length_append];ac_nf
def rPop:V->List V->Hp->VK->Prop:=fun x vs H Q=>∃ l xs y,x=.ref l/\vs=[]/\H l=some (.lst xs)/\xs[xs.length-1]?=some y/\Q y (upd H l (.lst xs.dropLast))
theorem Jk3:MtM X "list.pop" rPop:=by
 intro f s σ H x p v w Q I j g h;obtain ⟨l,t,y,rfl,rfl,d,m,q⟩:=h;cases j;have c:=g.zero;subst c;obtain ⟨z,a,n,r,o,e⟩:=I.lstM d;obtain ⟨u,i,k⟩:=r.get m;have b:a.toArray[a.toArray.size-1]?=some u:=by
  show a.toArray[a.length-1]?=some u;rw [<- Array.getElem?_toList, <- o];exact i
 refine call_meets F.slot_list_pop ⟨_,e,rfl⟩ F.entry_list_pop (F.args_list_pop_1 _) (MeetsSeq.list_pop_last l a.toArray n u b (by rw [size_toArray];ac_nf)) ⟨e,?_⟩;refine ⟨y,_,I.lset (its':=a.dropLast) d e ?_ r.dropLast ?_,k,q⟩
 ·show a.toArray.eraseIdxIfInBounds (a.toArray.size-1)=a.dropLast.toArray;rw [size_toArray,List.eraseIdxIfInBounds_toArray,Jg3]
 ·rw [List.length_dropLast];ac_nf
def Ji5:V->List V->Hp->VK->Prop:=fun x vs H Q=>∃ l xs,x=.ref l/\vs=[]/\H l=some (.lst xs)/\Q .non (upd H l (.lst xs.reverse))
theorem Jdt:MtM X "list.reverse" Ji5:=by
 intro d s σ H x i v k Q I g f h;obtain ⟨l,j,rfl,rfl,c,q⟩:=h;cases g;have b:=f.zero;subst b;obtain ⟨z,a,n,r,m,e⟩:=I.lstM c;refine call_meets F.slot_list_reverse ⟨_,e,rfl⟩ F.entry_list_reverse (F.args_list_reverse_1 _) (AutoSeq1.list_reverse_list_0 l a.toArray n (by rw [size_toArray];ac_nf)) ⟨e,?_⟩;refine ⟨.non,_,I.lset (its':=a.reverse) c e (by simp) r.reverse ?_,rfl,q⟩;rw [List.length_reverse];ac_nf
def rCat:R2:=fun x y H Q=>∃ l b xs zs,x=.ref l/\y=.ref b/\H l=some (.lst xs)/\H b=some (.lst zs)/\xs.length+zs.length<=sizeLine/\∀ p,H p=none->Q (.ref p) (upd H p (.lst (xs++zs)))
theorem Jk6:OpR X (binaryOp .Add) rCat:=by
 intro d s σ H x y v u Q I m j h;obtain ⟨l,b,B,t,rfl,rfl,k,g,w,q⟩:=h;cases m;cases j;obtain ⟨z,c,n,r,D,e⟩:=I.lstM k;obtain ⟨A,a,C,o,f,p⟩:=I.lstM g;refine PySem.P.add_list e p ?_ (by rw [size_toArray,size_toArray];ac_nf);have i:c.toArray++a.toArray=(c++a).toArray:=by simp
 rw [i];exact ⟨.ref _,_,I.lnew (t':=s.toks) (r.append o) (by rw [length_append];ac_nf),rfl,q _ I.fresh⟩
end
section
variable {prog:Program} {w:World} {A:Around} {E:Value->Shared->Prop} {s:Shared}
set_option maxRecDepth 100000 in
end
section
variable {X:Cx}
end
end L2
namespace Att
open PySem PySem.W PySem.Calls PyProof.Rows
theorem JdR {P:Params} {h:Heap}:∀ (ns:List Int) (vs:List Value),WellAll P h vs (ns.map WData.int)->IntsAre vs ns:=by
 intro ns;induction ns with
 | nil=>
  intro vs w;rw [map_nil] at w;cases w;exact .nil
 | cons n ns ih=>
  intro vs w;rw [map_cons] at w;cases w with
  | cons a b=>
   cases a;exact .cons _ _ (ih _ b)
theorem Jik {l:OpenLaw} {n:Nat} (hn:l.most=some n) {P:Params} {h:Heap} {args:List WData} {vals:List Value}
  (hpre:l.row.toRowW.claim.pre args=true) (hwl:WellAll P h vals args) :
  ∃ a vs ns,vals=[Value.ref a]/\args=[WData.list (ns.map WData.int)]/\h.get? a=some { cls:=.type "list",data:=.seq vs.toArray }/\IntsAre vs ns/\ns.length<=n:=by
 have f:WShape.hasAll [] args [.list .int]=true:=(pre_splitW hpre).1;have g:l.pre.holds [] { args:=args }=true:=(pre_splitW hpre).2;obtain ⟨d,r,rfl,k,i⟩:=hasAllW_cons f;obtain rfl:=hasAllW_nil i;obtain ⟨o,rfl,m⟩:=hasW_list k;obtain ⟨ns,rfl⟩:=items_int m;have b:ns.length<=n:=by
  unfold OpenLaw.pre at g;have e:(WTm.not (.lt (.lit (.int (n:Int))) (.len (.arg 0)))).holds [] { args:=[.list (ns.map .int)] }=true:=by
   have e:=(holds_andW g).1;rw [hn] at e;exact e
  have c:=condW_of e (w_not (w_lt w_lit (w_len_list (w_arg rfl))));rw [length_map] at c;refine Nat.le_of_not_lt fun q=>?_;have j:(n:Int)<((ns.length:Nat):Int):=by ac_nf
  first
   | (rw [decide_eq_true j] at c;exact absurd c ⋯)
   | (simp at c;ac_nf)
 cases hwl with
 | cons w1 w2=>
  cases w2;cases w1 with
  | list ho hall=>exact ⟨_,_,ns,rfl,rfl,ho,JdR ns _ hall,b⟩
theorem Jid (l:OpenLaw) (args:List WData):l.row.toRowW.claim.post args (.bool true) args=true :=
 postW_of (r:=l.row.toRowW) (X:=(true == true))
  (show WShape.has [] (.bool true) .bool=true by first | rfl | decide | simp [WShape.has,WShape.arms,WShape.armsAll])
  (show (WTm.eq .res (.lit (.bool true))).value [] { args:=args,res:=some (.bool true),after:=args }=some (.bool (true == true)) from w_eq_bool (w_res rfl) w_lit) rfl
theorem attach_call {l:OpenLaw} {n:Nat} {q:Program} {loose:List Str} {XP:(Str->Option Value)->Heap->Prop} {YP:World->Heap->Prop} {d:DefRec}
  (hn:l.most=some n) (hdf:d.params.defaults=[])
  (call:∀ (w:World) (s₀ s₁ : Shared) (mg mb:Str->Option Value) (fa:Addr) (o:Obj) (pm cd doc:Value) (a:Addr) (vs:List Value) (ns:List Int),
   Ground q loose [] XP w s₀ mg mb s₁.heap->YP w s₁.heap ->
   s₁.heap.get? fa=some o->o.data=.func (docDef d.name d.params d.body d.scope pm cd doc)->s₁.heap.CodeRec cd d.name->mg d.name=some (.ref fa) ->
   s₁.heap.get? a=some { cls:=.type "list",data:=.seq vs.toArray }->IntsAre vs ns->ns.length<=n->s₁.gens=#[] ->
   codeAny (model l.prog w) callerA (.call (.ref fa) ⟨[.ref a],[]⟩) (fun r s'=>r=.ok (.ret (.bool true))/\OldK s₁.heap s'.heap/\s'.os=s₁.os/\AllBare s'.gens) s₁) :
  WalkO q loose XP YP l.row.toRowW d [] (fun f vs=>PySem.call f vs):=by
 intro w s₀ s₁ mg mb G Y fa o pm cd doc F kV D C i k h B m p H g t v j y;obtain rfl:F=.none:=Dflts.none k hdf;obtain rfl:kV=.none:=Dflts.noKw k;obtain ⟨a,vs,ns,rfl,rfl,e,b,c⟩:=Jik hn g j;refine enter_call (codeAny_mono (call w s₀ s₁ mg mb fa o pm cd doc a vs ns G Y D (fd_plain C) i h e b c B) fun r s' x=>?_);obtain ⟨rfl,A,u,z⟩:=x;exact ⟨.inl ⟨.bool true, .bool true,[],rfl,fun _=>rfl, .bool true,Jid l _,fun _=>⟨List.Pairwise.nil,fun _ E=>(nomatch E)⟩⟩,A,u,z⟩
section
variable {prog:Program} {w:World} {A:Around} {E:Value->Shared->Prop} {s:Shared} {K:Frag}
end
end Att
namespace L2
open PySem PySem.Spec PyProof.Rows
theorem JfT:∀ {vs:List Value} {ns:List Int},IntsAre vs ns->Vals (ns.map V.int) vs
 | _,_, .nil=>.nil
 | _,_, .cons n t h=>.cons ⟨t,rfl⟩ (JfT h)
def Only (H:Hp):Prop:=∀ b,H b=none\/∃ o xs,H b=some (.frz o (.lst xs))
theorem JiM {P:Program} {w:World} {K:W.Frag} {mg mb:Str->Option Value} {CX:CXT} {k:Nat} {fa a:Addr} {fd:FuncData} {x:Str} {sp:Sp} {s₁ : Shared} {vs:List Value} {ns:List Int}
  (KX:K.In s₁.heap) (hns:s₁.heap.Ns mainGlobals mg) (hb:s₁.heap.Ns builtinsNs mb) (hbb:∀ x:Str,x≠"__name__"->mb x=bootBuiltins x) (hlim:s₁.heap.NoLimit) (hg:s₁.gens=#[])
  (ha:s₁.heap.get? a=some { cls:=.type "list",data:=.seq vs.toArray }) (hi:IntsAre vs ns) (hl:ns.length<=sizeLine) (hr:Room k callerA)
  (F:∀ base:Heap,K.In base->base.Ns mainGlobals mg->FnOk P w K mg base CX k fa fd [x] sp) (hbind:∀ (s:Shared) (u:Value),BindsTo s fd ⟨[u],[]⟩ [(x,u)])
  (hsp:∀ H:Hp,Only H->SqL K H a (ns.map V.int)->sp [.ref a] H (fun v _=>v=.bl true) fun _ _ _=>False)
  (hCX:∀ H e s',CX [] H s₁ (fun _ _ _=>False) e s'->False) :
  codeAny (model P w) callerA (.call (.ref fa) ⟨[.ref a],[]⟩) (fun r s'=>r=.ok (.ret (.bool true))/\OldK s₁.heap s'.heap/\s'.os=s₁.os/\AllBare s'.gens) s₁:=by
 have G:=JfT hi;have j:=hi.length;have g:∀ H:Hp,Only H->SqL K H a (ns.map V.int)->HOk P w H s₁.heap->(∀ b,H b≠none->b=a)->(H a≠none->K.lookup a=none) ->
   codeAny (model P w) callerA (.call (.ref fa) ⟨[.ref a],[]⟩) (fun r s'=>r=.ok (.ret (.bool true))/\OldK s₁.heap s'.heap/\s'.os=s₁.os/\AllBare s'.gens) s₁:=by
  intro H D J i C S;have c:∀ {b:Addr} {o:Obj},s₁.heap.get? b=some o->H b=none->(hidT s₁.heap H).get? b=some o:=fun e n=>JiL e n;have A:∀ {b:Addr} {o:Obj} {es:Array DictEntry} {ep:Nat},s₁.heap.get? b=some o->o.data=.dict es ep->H b=none:=fun {b o es ep} e d=>by
   cases q:H b with
   | none=>rfl
   | some u=>
    have B:b=a:=C b (by rw [q];simp);subst B;rw [ha] at e;cases e;have Q:Data.seq vs.toArray _=Data.dict es ep:=d;cases Q
  have f:∀ {b:Addr} {m:Str->Option Value},s₁.heap.Ns b m->(hidT s₁.heap H).Ns b m:=fun {b m} ⟨o,es,ep,e,d,r⟩=>⟨o,es,ep,c e (A e d),d,r⟩;have y:K.In (hidT s₁.heap H):=fun b o e=>c (KX b o e) (by
   cases q:H b with
   | none=>rfl
   | some u=>
    have B:b=a:=C b (by rw [q];simp);subst B;rw [S (by rw [q];simp)] at e;cases e)
  have L:Mod K mg (hidT s₁.heap H):=⟨y,f hns,⟨mb,f hb,hbb⟩,let ⟨mc,h1,h2⟩:=hlim;⟨mc,f h1,h2⟩⟩;have O:Env0 P w K mg (hidT s₁.heap H) callerA [] s₁ H:=⟨rfl,L,fun b o e=>Jj9 e,Nat.le_of_eq (JhL _ _),trivial,fun b hb=>absurd (show b∈([]:List Addr) from hb) (by simp),i, .of_eq hg⟩;refine codeAny_mono ((F _ y (f hns)).run callerA [] s₁ H ⟨[.ref a],[]⟩ [.ref a] [.ref a] _ _ hr O (hbind s₁ (.ref a)) (.cons rfl .nil) (hsp H D J)) fun r s' h=>?_;cases r with
  | error e=>exact (hCX H e s' h).elim
  | ok fl=>
   cases fl with
   | next=>exact False.elim h
   | brk=>exact False.elim h
   | cont=>exact False.elim h
   | ret u=>
    obtain ⟨v,U,os,t,I,l,N,q⟩:=h;have R:v=.bl true:=q;subst R;obtain rfl:u=Value.bool true:=N;refine ⟨rfl,OldK.of_keep fun b o e=>?_,os,t⟩;cases q:H b with
    | none=>exact I.keep b o e q (by intro z;exact absurd (show b∈([]:List Addr) from z) (by simp)) (by simp)
    | some u=>
     rcases D b with z | ⟨ob,xs,z⟩
     ·rw [q] at z;cases z
     ·have M:=I.frzs b ob _ z;obtain ⟨E,_⟩:=i b _ z;obtain ⟨T,_⟩:=l b _ M;rw [e] at E;cases E;exact T
 cases hk:K.lookup a with
 | some o=>
  have e:=KX a o hk;rw [ha] at e;cases e;refine g (fun _=>none) (fun _=>.inl rfl) (.inr ⟨_,vs.toArray,_,hk,rfl,rfl,rfl,by rw [size_toArray,j];exact hl,by simpa using G⟩) (fun b u z=>by have p:(none:Option HO)=some u:=z;cases p) (fun b z=>absurd rfl z) fun z=>absurd rfl z
 | none=>
  refine g (fun b=>if b=a then some (.frz { cls:=.type "list",data:=.seq vs.toArray } (.lst (ns.map V.int))) else none) (fun b=>?_) (.inl (.inr ⟨{ cls:=.type "list",data:=.seq vs.toArray },if_pos rfl⟩)) (fun b u z=>?_) (fun b z=>?_) fun _=>hk
  ·by_cases hb:b=a
   ·exact .inr ⟨_,_,if_pos hb⟩
   ·exact .inl (if_neg hb)
  ·by_cases hb:b=a
   ·have p:=(if_pos hb).symm.trans z;cases p;subst hb;exact ⟨ha,by rw [length_map];exact hl,vs,_,G,ha⟩
   ·have p:=(if_neg hb).symm.trans z;cases p
  ·by_cases hb:b=a
   ·exact hb
   ·exact absurd (if_neg hb) z
abbrev KOf {K:W.Frag} {h:Heap} (_:K.In h):W.Frag:=K
theorem JiB {l:W.OpenLaw} {n k:Nat} {q:Program} {loose:List Str} {XP:(Str->Option Value)->Heap->Prop} {YP:World->Heap->Prop} {d:DefRec} {K:Params->W.Frag} {CX:World->CXT} {sp:World->Sp} {x:Str}
  (hn:l.most=some n) (hn2:n<=sizeLine) (hdf:d.params.defaults=[]) (hr:Room k callerA)
  (hY:∀ (w:World) (h:Heap),YP w h->(K w.params).In h)
  (F:∀ (w:World) (mg:Str->Option Value) (fa:Addr) (h:Heap),(K w.params).In h->h.Ns mainGlobals mg->mg d.name=some (.ref fa) ->
   ∃ fd:FuncData,(∀ (s:Shared) (u:Value),BindsTo s fd ⟨[u],[]⟩ [(x,u)]) /\
    ∀ base:Heap,(K w.params).In base->base.Ns mainGlobals mg->FnOk l.prog w (K w.params) mg base (CX w) k fa fd [x] (sp w))
  (hsp:∀ (w:World) (H:Hp) (a:Addr) (ns:List Int),ns.length<=n->Only H->SqL (K w.params) H a (ns.map V.int)->sp w [.ref a] H (fun v _=>v=.bl true) fun _ _ _=>False)
  (hCX:∀ (w:World) (H:Hp) (s:Shared) (e:Value) (s':Shared),CX w [] H s (fun _ _ _=>False) e s'->False) :
  W.WalkO q loose XP YP l.row.toRowW d [] (fun f vs=>PySem.call f vs):=by
 refine Att.attach_call hn hdf fun w s₀ s₁ mg I fa o J C A a vs ns G Y E D y m j i c z=>?_;have KX:=hY w _ Y;obtain ⟨fd,t,B⟩:=F w mg fa _ KX G.T.g m;exact JiM KX G.T.g G.T.b G.T.builtins G.T.nolimit z j i (Nat.le_trans c hn2) hr B t (fun H r p=>hsp w H a ns c r p) fun H e s'=>hCX w H s₁ e s'
def inClass (s:Stmt) (j:Nat):Stmt:=match s with
 | .ClassDef _ _ _ body _ _ _ _ _ _ _=>body.getD j (.Pass ⟨0,0,0,0⟩)
 | _=>.Pass ⟨0,0,0,0⟩
def Jam (s:Stmt):Arguments:=match s with
 | .FunctionDef _ a _ _ _ _ _ _ _ _=>a
 | _=>{ posonlyargs:=[],args:=[],vararg:=none,kwonlyargs:=[],kw_defaults:=[],kwarg:=none,defaults:=[] }
def Jal (s:Stmt):List Stmt:=match s with
 | .FunctionDef _ _ b _ _ _ _ _ _ _=>b
 | _=>[]
def Jae (s:Stmt):Scope:=match s with
 | .FunctionDef _ _ _ _ _ _ sc _ _ _=>sc
 | _=>{ kind:=.function,names:=[],isGenerator:=false,isCoroutine:=false }
abbrev E0:XK:=fun _ _ _=>False
structure Fun (K:W.Frag) (x qual:Str) (st:Stmt) (f:Addr) (fd:FuncData):Prop where
 ex:∃ (oc:Value) (od:Option Addr) (kV doc pm:Value) (an:Option Addr) (cdv ct:Value) (osl:Array (Option Value)),
  fd=W.fnOf x qual (Jam st) (Jal st) (Jae st) .none kV doc pm an cdv ct/\K.lookup f=some ⟨oc,od, .func fd,osl⟩/\W.codeIn K cdv qual=true
 kp:W.keepIn K (.ref f)=true
section
variable {P:Program} {w:World} {K:W.Frag} {mg:Str->Option Value} {base:Heap}
theorem Fun.binds {x qual:Str} {st:Stmt} {f:Addr} {fd:FuncData} {ps:List Str} (F:Fun K x qual st f fd)
  (h:∀ (kV doc pm:Value) (an:Option Addr) (cdv ct:Value) (us:List Value),us.length=ps.length->bindArgs (W.fnOf x qual (Jam st) (Jal st) (Jae st) .none kV doc pm an cdv ct) ⟨us,[]⟩=pure (ps.zip us)):Binds K fd ps []:=by
 obtain ⟨e,d,kV,doc,pm,an,cdv,ct,a,rfl,c,b⟩:=F.ex;exact .all (h kV doc pm an cdv ct)
end
section
variable {X:Cx}
theorem pv (i:Nat) {x:Str} {pos:Pos} (hN:X.N[i]?=some x:=by rfl) (hv:Vis X.env.scope x:=by first | exact Or.inl rfl | exact Or.inr (Or.inl rfl) | exact Or.inr (Or.inr rfl)) (hd:(x == ("__debug__" : Str))=false:=by decide)
  (hcd:(x == ("__classdict__" : Str))=false:=by decide):PE X (.Name x pos) (tVar i):=Jld hN hv hd hcd
end
def Same (H H':Hp):Prop:=∀ b o,H b=some o->H' b=some o
theorem Same.refl (H:Hp):Same H H:=fun _ _ h=>h
theorem Same.trans {H H1 H2:Hp} (a:Same H H1) (b:Same H1 H2):Same H H2:=fun c o h=>b c o (a c o h)
theorem Same.seq {K:W.Frag} {H H':Hp} {a:Addr} {xs:List V} (e:Same H H') (h:SqL K H a xs):SqL K H' a xs:=by
 rcases h with (h | ⟨o,h⟩) | h
 ·exact .inl (.inl (e _ _ h))
 ·exact .inl (.inr ⟨o,e _ _ h⟩)
 ·exact .inr h
end L2
set_option maxHeartbeats 4000000
namespace L2
open PySem PySem.Spec PyProof.Rows
section
variable {κ : Type} [DecidableEq κ]
def valV (kvs:List (κ × V)) (k : κ):Option V:=(kvs.find? fun kv=>decide (kv.1=k)).map (·.2)
def putK (kvs:List (κ × V)) (k : κ) (v:V):List (κ × V) :=
 if (kvs.any fun kv=>decide (kv.1=k))=true then kvs.map (fun kv=>if kv.1=k then (kv.1,v) else kv) else kvs++[(k,v)]
theorem Jba {p : κ × V} {r:List (κ × V)} {k : κ} (e:p.1=k):valV (p::r) k=some p.2:=by simp [valV,List.find?_cons,e]
theorem Jbf {p : κ × V} {r:List (κ × V)} {k : κ} (e:¬ p.1=k):valV (p::r) k=valV r k:=by simp [valV,List.find?_cons,e]
theorem Jcs (k : κ):∀ kvs:List (κ × V),(kvs.any fun kv=>decide (kv.1=k))=(valV kvs k).isSome
 | []=>rfl
 | p::r=>by
  rw [any_cons];by_cases e:p.1=k
  ·simp only [Jba e,decide_eq_true e,Bool.true_or,Option.isSome_some]
  ·rw [Jbf e,decide_eq_false e,Bool.false_or];exact Jcs k r
theorem JgW (k j : κ) (y:V):∀ kvs:List (κ × V),valV (kvs.map fun kv=>if kv.1=k then (kv.1,y) else kv) j=(valV kvs j).map fun x=>if j=k then y else x
 | []=>rfl
 | p::r=>by
  have ih:=JgW k j y r;rw [map_cons];by_cases h:p.1=k
  ·rw [if_pos h];by_cases e:p.1=j
   ·rw [Jba (p:=(p.1,y)) e,Jba e,Option.map_some,if_pos (e.symm.trans h)]
   ·rw [Jbf (p:=(p.1,y)) e,Jbf e,ih]
  ·rw [if_neg h];by_cases e:p.1=j
   ·rw [Jba (p:=p) e,Jba e,Option.map_some,if_neg (fun z=>h (e.trans z))]
   ·rw [Jbf (p:=p) e,Jbf e,ih]
theorem JfS (k j : κ) (y:V):∀ kvs:List (κ × V),valV kvs k=none->valV (kvs++[(k,y)]) j=if j=k then some y else valV kvs j
 | [],_=>by
  by_cases e:k=j
  ·rw [if_pos e.symm];exact Jba (p:=(k,y)) e
  ·rw [if_neg (fun z=>e z.symm)];exact Jbf (p:=(k,y)) e
 | p::r,hn=>by
  rw [cons_append];have hk:¬ p.1=k:=fun z=>by rw [Jba z] at hn;cases hn
  rw [Jbf hk] at hn;have ih:=JfS k j y r hn;by_cases e:p.1=j
  ·rw [Jba e,Jba e,if_neg (fun z=>hk (e.trans z))]
  ·rw [Jbf e,Jbf e,ih]
theorem JgX (kvs:List (κ × V)) (k j : κ) (y:V):valV (putK kvs k y) j=if j=k then some y else valV kvs j:=by
 unfold putK;by_cases a:(kvs.any fun b=>decide (b.1=k))=true
 ·rw [if_pos a,JgW];rw [Jcs] at a;by_cases e:j=k
  ·obtain ⟨x,c⟩:=Option.isSome_iff_exists.mp a;rw [if_pos e,e,c,Option.map_some,if_pos rfl]
  ·rw [if_neg e];cases valV kvs j with
   | none=>rfl
   | some x=>rw [Option.map_some,if_neg e]
 ·rw [if_neg a];refine JfS k j y kvs ?_;rw [Jcs] at a;cases q:valV kvs k with
  | none=>rfl
  | some x=>rw [q] at a;exact (a rfl).elim
theorem Jbg (kvs:List (κ × V)) (k : κ) (v:V):(putK kvs k v).length<=kvs.length+1:=by
 unfold putK;split
 ·rw [length_map];ac_nf
 ·rw [length_append,length_cons,length_nil];ac_nf
theorem Ji4 {kvs:List (κ × V)} {k : κ} (v:V) (h:valV kvs k=none):putK kvs k v=kvs++[(k,v)]:=by
 unfold putK;rw [Jcs,h];exact if_neg ⋯
theorem RelO.isSome_eq {o:Option V} {u:Option Value} (r:RelO o u):o.isSome=u.isSome:=by
 cases o with
 | none=>cases u with
  | none=>rfl
  | some _=>exact (show False from r).elim
 | some _=>cases u with
  | none=>exact (show False from r).elim
  | some _=>rfl
theorem RelO.getD {o:Option V} {u:Option Value} {d:V} {d':Value} (r:RelO o u) (rd:RelV d d'):RelV (o.getD d) (u.getD d'):=by
 cases o with
 | none=>cases u with
  | none=>exact rd
  | some _=>exact (show False from r).elim
 | some _=>cases u with
  | none=>exact (show False from r).elim
  | some _=>exact r
theorem KV.val {kvs:List (κ × V)} {vs:List (κ × Value)} (r:KV kvs vs) (k : κ):RelO (valV kvs k) (valueAt vs k):=by
 unfold KV at r;induction r with
 | nil=>exact True.intro
 | @cons p q ps qs h t ih=>
  obtain ⟨c,d⟩:=h;by_cases e:p.1=k
  ·have a:q.1=k:=c.symm.trans e;have b:valueAt (q::qs) k=some q.2:=by simp [valueAt,List.find?_cons,a]
   rw [Jba e,b];exact d
  ·have a:¬ q.1=k:=fun z=>e (c.trans z);have b:valueAt (q::qs) k=valueAt qs k:=by simp [valueAt,List.find?_cons,a]
   rw [Jbf e,b];exact ih
theorem KV.any {kvs:List (κ × V)} {vs:List (κ × Value)} (r:KV kvs vs) (k : κ):(kvs.any fun kv=>decide (kv.1=k))=vs.any fun kv=>decide (kv.1=k):=by
 unfold KV at r;induction r with
 | nil=>rfl
 | cons h t ih=>rw [any_cons,any_cons,ih,h.1]
theorem KV.repl {kvs:List (κ × V)} {vs:List (κ × Value)} (r:KV kvs vs) (k : κ) {y:V} {u:Value} (ry:RelV y u) :
  KV (kvs.map fun kv=>if kv.1=k then (kv.1,y) else kv) (vs.map fun kv=>if kv.1=k then (kv.1,u) else kv):=by
 unfold KV at r ⊢;induction r with
 | nil=>exact .nil
 | @cons p q ps qs h t ih=>
  rw [map_cons,map_cons];refine .cons ?_ ih;obtain ⟨a,b⟩:=h;by_cases e:p.1=k
  ·rw [if_pos e,if_pos (a.symm.trans e)];exact ⟨a,ry⟩
  ·rw [if_neg e,if_neg (fun z=>e (a.trans z))];exact ⟨a,b⟩
theorem KV.put {kvs:List (κ × V)} {vs:List (κ × Value)} (r:KV kvs vs) (k : κ) {y:V} {u:Value} (ry:RelV y u):KV (putK kvs k y) (stored vs k u):=by
 unfold putK stored;rw [r.any k];by_cases e:(vs.any fun a=>decide (a.1=k))=true
 ·rw [if_pos e,if_pos e];exact r.repl k ry
 ·rw [if_neg e,if_neg e];exact Paired.snoc r ⟨rfl,ry⟩
theorem KV.length {kvs:List (κ × V)} {vs:List (κ × Value)} (r:KV kvs vs):kvs.length=vs.length:=Paired.length r
end
theorem kV_is {P:Program} {w:World} {k:Key} {u:Value} (r:RelV (kV k) u):(Jaw P w).is k u=true:=by
 cases k with
 | inl i=>have e:=(show u=Value.bool i from r);subst e;exact JfA P w i
 | inr x=>obtain ⟨t,e⟩:=(show ∃ t,u=Value.str x t from r);subst e;exact Jga P w x t
theorem Jfy {P:Program} {w:World}:∀ {ks:List Key} {us:List Value},Vals (ks.map kV) us->ItemsAre (Jaw P w) ks us
 | [],_,r=>by rw [map_nil] at r;cases r;exact .nil
 | k::ks,_,r=>by
  rw [map_cons] at r;cases r with
  | cons h t=>exact .cons (kV_is h) (Jfy t)
abbrev KT (H:Hp):List (List Key × V)->List (List Key × Addr × Value)->Prop:=Paired fun p q=>p.1=q.1/\H q.2.1=some (.tup (p.1.map kV))/\RelV p.2 q.2.2
theorem KT.val {H:Hp} {kvs:List (List Key × V)} {xs:List (List Key × Addr × Value)} (r:KT H kvs xs) (k:List Key):RelO (valV kvs k) ((atKey xs k).map (·.2)):=by
 induction r with
 | nil=>exact True.intro
 | @cons p q ps qs h t ih=>
  obtain ⟨c,_,d⟩:=h;by_cases e:p.1=k
  ·have a:q.1=k:=c.symm.trans e;have b:atKey (q::qs) k=some q.2:=by simp [atKey,List.find?_cons,a]
   rw [Jba e,b];exact d
  ·have a:¬ q.1=k:=fun z=>e (c.trans z);have b:atKey (q::qs) k=atKey qs k:=by simp [atKey,List.find?_cons,a]
   rw [Jbf e,b];exact ih
theorem KT.repl {H:Hp} {kvs:List (List Key × V)} {xs:List (List Key × Addr × Value)} (r:KT H kvs xs) (k:List Key) {y:V} {u:Value} (ry:RelV y u) :
  KT H (kvs.map fun kv=>if kv.1=k then (kv.1,y) else kv) (xs.map (putAt k u)):=by
 induction r with
 | nil=>exact .nil
 | @cons p q ps qs h t ih=>
  rw [map_cons,map_cons];refine .cons ?_ ih;obtain ⟨a,b,c⟩:=h;unfold putAt;by_cases e:p.1=k
  ·rw [if_pos e,if_pos (a.symm.trans e)];exact ⟨a,b,ry⟩
  ·rw [if_neg e,if_neg (fun z=>e (a.trans z))];exact ⟨a,b,c⟩
theorem KT.put {H:Hp} {kvs:List (List Key × V)} {xs:List (List Key × Addr × Value)} (r:KT H kvs xs) (k:List Key) {b:Addr} {y:V} {u:Value} (hb:H b=some (.tup (k.map kV))) (ry:RelV y u) :
  KT H (putK kvs k y) (storedH xs k b u):=by
 have e:(kvs.any fun a=>decide (a.1=k))=(atKey xs k).isSome:=by
  rw [Jcs,(r.val k).isSome_eq,Option.isSome_map]
 unfold putK storedH;rw [e];by_cases q:(atKey xs k).isSome=true
 ·rw [if_pos q,if_pos q];exact r.repl k ry
 ·rw [if_neg q,if_neg q];exact Paired.snoc r ⟨rfl,hb,ry⟩
theorem KT.keeps {H H':Hp} {kvs:List (List Key × V)} {xs:List (List Key × Addr × Value)} (r:KT H kvs xs) (ht:∀ b ys,H b=some (.tup ys)->H' b=some (.tup ys)):KT H' kvs xs :=
 Paired.mapP r fun _ _ z=>⟨z.1,ht _ _ z.2.1,z.2.2⟩
section
variable {P:Program} {w:World} {H:Hp} {h:Heap} {a:Addr}
theorem y78y {u:HO} (ok:HOk P w H h) (e:Rd H a u):ObjOk P w H h a u:=e.ok ok
theorem dk_rd {kvs:List (Key × V)} (ok:HOk P w H h) (e:Rd H a (.dK kvs)):kvs.length<=sizeLine/\(a == sysModules)=false/\∃ vs,KV kvs vs/\h.DictOf (Jaw P w) a vs :=
 show ObjOk P w H h a (.dK kvs) from y78y ok e
theorem dk_of {kvs:List (Key × V)} (ok:HOk P w H h) (e:H a=some (.dK kvs)):kvs.length<=sizeLine/\(a == sysModules)=false/\∃ vs,KV kvs vs/\h.DictOf (Jaw P w) a vs:=dk_rd ok (.inl e)
theorem JdS {ks:List Key} (ok:HOk P w H h) (e:H a=some (.tup (ks.map kV))):(tupleKind (Jaw P w)).is h ks a:=by
 obtain ⟨_,b,r,o,d,c,n,f⟩:=(show ObjOk P w H h a (.tup (ks.map kV)) from ok a _ e);exact ⟨o,b.toArray,n,d,c,f,by simpa using Jfy r⟩
theorem dt_rd {kvs:List (List Key × V)} (ok:HOk P w H h) (e:Rd H a (.dT kvs)):kvs.length<=sizeLine/\(a == sysModules)=false /\
  ∃ xs,KT H kvs xs/\h.DictOfH (tupleKind (Jaw P w)) a xs:=by
 obtain ⟨z,y,xs,r,o,k,i,f,d,g,j,c⟩:=(show ObjOk P w H h a (.dT kvs) from y78y ok e);refine ⟨z,y,xs,r,o,k,i,f,d,g,j,fun x b=>?_,c⟩;have all:∀ {l:List (List Key × V)} {m:List (List Key × Addr × Value)},KT H l m->∀ x∈m,(tupleKind (Jaw P w)).is h x.1 x.2.1:=by
  intro l m q;induction q with
  | nil=>intro x b;exact nomatch b
  | @cons p q ps qs hq t ih=>
   intro x b;rcases mem_cons.mp b with e | b
   ·subst e;exact JdS ok (by rw [<- hq.1];exact hq.2.1)
   ·exact ih x b
 exact all r x b
theorem dt_of {kvs:List (List Key × V)} (ok:HOk P w H h) (e:H a=some (.dT kvs)):kvs.length<=sizeLine/\(a == sysModules)=false /\
  ∃ xs,KT H kvs xs/\h.DictOfH (tupleKind (Jaw P w)) a xs:=dt_rd ok (.inl e)
end
def DGet (H:Hp) (a:Addr) (y:V) (r:Option V):Prop :=
 (∃ kvs k,Rd H a (.dK kvs)/\y=kV k/\r=valV kvs k)\/∃ kvs k b,Rd H a (.dT kvs)/\y=.ref b/\H b=some (.tup (k.map kV))/\r=valV kvs k
def DPut (H:Hp) (a:Addr) (y v:V) (H':Hp):Prop :=
 (∃ kvs k,H a=some (.dK kvs)/\y=kV k/\kvs.length<sizeLine/\H'=upd H a (.dK (putK kvs k v))) \/
 ∃ kvs k b,H a=some (.dT kvs)/\y=.ref b/\H b=some (.tup (k.map kV))/\kvs.length<sizeLine/\H'=upd H a (.dT (putK kvs k v))
theorem DGet.k {H:Hp} {a:Addr} {kvs:List (Key × V)} {k:Key} (e:H a=some (.dK kvs)):DGet H a (kV k) (valV kvs k):=.inl ⟨kvs,k, .inl e,rfl,rfl⟩
theorem DPut.k {H:Hp} {a:Addr} {kvs:List (Key × V)} {k:Key} {v:V} (e:H a=some (.dK kvs)) (hl:kvs.length<sizeLine):DPut H a (kV k) v (upd H a (.dK (putK kvs k v))):=.inl ⟨kvs,k,e,rfl,hl,rfl⟩
section
variable {X:Cx} {pins:List (Addr × Obj)} {σ : St} {H:Hp} {s:Shared} {a:Addr} {y v:V} {u r:Value} {o:Option V} {A:Around} {E:Value->Shared->Prop}
theorem Inv.big (I:Inv X pins σ H s):sysModules<s.heap.objs.size:=by
 have h:mainGlobals<s.heap.objs.size:=(I.mod.glob.keeps I.bk).lt;exact Nat.lt_trans ⋯ h
theorem Jhx {Q:Value->Shared->Prop} (hu:A.units+1<cLine) (I:Inv X pins σ H s) (g:DGet H a y (some v)) (ry:RelV y u) (h:∀ w' s',Inv X pins σ H s'->RelV v w'->Q w' s') :
  wpAny (model X.prog X.w) A (getItem (.ref a) u) Q E s:=by
 rcases g with ⟨kvs,k,e,ey,l⟩ | ⟨kvs,k,b,e,ey,eb,l⟩
 ·subst ey;obtain ⟨z,n,m,c,i⟩:=dk_rd I.hok e;obtain ⟨w',f,d⟩:=RelO.some_of (v:=v) (o:=valueAt m k) (by rw [l];exact c.val k);exact wpAny_getItem_of (kV_is ry) i.mapOf f (h w' _ (I.tok _) d)
 ·subst ey;cases (show u=Value.ref b from ry);obtain ⟨z,n,q,c,i⟩:=dt_rd I.hok e;obtain ⟨w',f,d⟩:=RelO.some_of (v:=v) (o:=(atKey q k).map (·.2)) (by rw [l];exact c.val k);obtain ⟨p,r,j⟩:=Option.map_eq_some_iff.mp f;refine wpAny_getItem_heap (tupleKind_room_in1 hu) (JdS I.hok eb) i r ?_;rw [j];exact h w' _ (I.tok _) d
theorem d_in {Q:Value->Shared->Prop} (hu:A.units+1<cLine) (I:Inv X pins σ H s) (g:DGet H a y o) (ry:RelV y u) (h:∀ s',Inv X pins σ H s'->Q (.bool o.isSome) s') :
  wpAny (model X.prog X.w) A (compareOp .In u (.ref a)) Q E s:=by
 rcases g with ⟨kvs,k,e,ey,l⟩ | ⟨kvs,k,b,e,ey,eb,l⟩
 ·subst ey;obtain ⟨z,d,i,c,f⟩:=dk_rd I.hok e;refine wpAny_in_of (kV_is ry) d f.mapOf ?_;rw [<- (c.val k).isSome_eq, <- l];exact h _ (I.tok _)
 ·subst ey;cases (show u=Value.ref b from ry);obtain ⟨z,d,j,c,f⟩:=dt_rd I.hok e;refine wpAny_in_heap (tupleKind_room_in1 hu) (JdS I.hok eb) d f ?_;have q:=(c.val k).isSome_eq;rw [Option.isSome_map] at q;rw [<- q, <- l];exact h _ (I.tok _)
theorem JjO {Q:Value->Shared->Prop} (hu:A.units+1<cLine) (I:Inv X pins σ H s) (g:DGet H a y o) (ry:RelV y u) (h:∀ s',Inv X pins σ H s'->Q (.bool (!o.isSome)) s') :
  wpAny (model X.prog X.w) A (compareOp .NotIn u (.ref a)) Q E s:=by
 rcases g with ⟨kvs,k,e,ey,l⟩ | ⟨kvs,k,b,e,ey,eb,l⟩
 ·subst ey;obtain ⟨z,d,i,c,f⟩:=dk_rd I.hok e;refine wpAny_notIn_of (kV_is ry) d f.mapOf ?_;rw [<- (c.val k).isSome_eq, <- l];exact h _ (I.tok _)
 ·subst ey;cases (show u=Value.ref b from ry);obtain ⟨z,d,j,c,f⟩:=dt_rd I.hok e;refine wpAny_notIn_heap (tupleKind_room_in1 hu) (JdS I.hok eb) d f ?_;have q:=(c.val k).isSome_eq;rw [Option.isSome_map] at q;rw [<- q, <- l];exact h _ (I.tok _)
theorem JeO {h':Heap} {t':Nat} {ob:HO} (I:Inv X pins σ H s) (mu:Mut (H a)) (hs:Heap.SameBut a s.heap h') (he:∃ q,h'.get? a=some q) (new:ObjOk X.prog X.w (upd H a ob) h' a ob) :
  Inv X pins σ (upd H a ob) { s with heap:=h',toks:=t' } :=
 I.write (x:=a) (e:=a) mu (.inl rfl) (fun b q c z=>(hs.2 b c).trans z) he new
theorem JgA {P:Program} {w:World} {H':Hp} {h':Heap} {kvs:List (Key × V)} {vs:List (Key × Value)} (z:kvs.length<=sizeLine) (hd:(a == sysModules)=false) (rel:KV kvs vs) (dd:h'.DictOf (Jaw P w) a vs) :
  ObjOk P w H' h' a (.dK kvs):=⟨z,hd,vs,rel,dd⟩
theorem Jhy {H':Hp} {Q:Unit->Shared->Prop} (hu:A.units+1<cLine) (I:Inv X pins σ H s) (g:DPut H a y v H') (ry:RelV y u) (rv:RelV v r) (h:∀ s',Inv X pins σ H' s'->Q () s') :
  wpAny (model X.prog X.w) A (setItem (.ref a) u r) Q E s:=by
 rcases g with ⟨kvs,k,e,ey,l,eH⟩ | ⟨kvs,k,b,e,ey,eb,l,eH⟩
 ·subst ey eH;obtain ⟨z,n,B,d,o⟩:=dk_of I.hok e;have j:B.length<=sizeLine:=by rw [<- d.length];exact z
  have p:(putK kvs k v).length<=sizeLine:=by have:=Jbg kvs k v;ac_nf
  refine wpAny_setItem_pairs (hsz:=j) (kV_is ry) o fun x f m=>h _ ?_;have M:∃ q,x.get? a=some q:=let ⟨q,_,_,i,_⟩:=f;⟨q,i⟩;exact JeO I (by rw [e];exact True.intro) m M (JgA p n (d.put k rv) f)
 ·subst ey eH;cases (show u=Value.ref b from ry);obtain ⟨z,n,L,d,o⟩:=dt_of I.hok e;have j:L.length<=sizeLine:=by rw [<- Paired.length d];exact z
  have p:(putK kvs k v).length<=sizeLine:=by have:=Jbg kvs k v;ac_nf
  refine wpAny_setItem_heap (hsz:=j) (tupleKind_room_in1 hu) (JdS I.hok eb) o fun x f m=>h _ ?_;obtain ⟨q,J,F,i,K,C,G,_,D⟩:=f;refine JeO I (by rw [e];exact True.intro) m ⟨q,i⟩ ⟨p,n,_,(d.put k eb rv).keeps fun c N t=>?_,q,J,F,i,K,C,G,D⟩;rw [Jag (ne_of t e (fun z=>nomatch z))];exact t
end
section
variable {X:Cx} {pins:List (Addr × Obj)} {σ : St} {H:Hp} {s:Shared} {a:Addr} {kvs:List (Key × V)} {k:Key} {u:Value} {A:Around} {E:Value->Shared->Prop}
end
def NoSl (i:Expr):Prop:=∀ ov iv,subscripted i false ov iv=operate [ov,iv] (getItem ov iv)
theorem JkB {prog:Program} {w:World} {A:Around} {E:Value->Shared->Prop} {s:Shared} {env:Env} {value slice:Expr} {pos:Pos} {T id:String} {Q:Value->Shared->Prop}
  (hl:typeLookup (.type T) "__getitem__"=pure (some (.builtin id))) (hs:NoSl slice)
  (h:wpAny (model prog w) A (eval value env) (fun o s₁=>wpAny (model prog w) A (eval slice env) (fun i s₂=>s₂.TypeIs o T/\wpAny (model prog w) A (getItem o i) Q E s₂) E s₁) E s) :
  wpAny (model prog w) A (eval (.Subscript value slice pos) env) Q E s:=by
 refine Subscript_ (wpAny_mono h (fun o s₁ h₁=>wpAny_mono h₁ (fun i s₂ h₂=>?_) fun _ _ x=>x) fun _ _ x=>x);obtain ⟨b,h₂⟩:=h₂;unfold subscriptTail;refine wpAny_bind ?_;rw [getitemInPython_of_ne b.not_modules];refine wpAny_bind (wpAny_specialOf b hl ?_);have a:wpAny (model prog w) A (subscripted slice false o i) (fun r s₃=>wpAny (model prog w) A (letTemporaryGo value o r >>= fun _=>pure r) Q E s₃) E s₂:=by
  rw [hs o i];exact wpAny_operating (wpAny_mono h₂ (fun r s₃ h₃=>wpAny_bind (wpAny_letTemporaryGo (wpAny_pure h₃))) fun _ _ x=>x)
 first
  | exact wpAny_pure (wpAny_bind a)
  | exact wpAny_bind (wpAny_pure (wpAny_bind a))
  | exact wpAny_bind a
theorem Jf1 {X:Cx} {pins:List (Addr × Obj)} {σ : St} {H:Hp} {s:Shared} {a:Addr} {y:V} {o:Option V} (I:Inv X pins σ H s) (g:DGet H a y o):s.TypeIs (.ref a) "dict":=by
 rcases g with ⟨kvs,k,e,_,_⟩ | ⟨kvs,k,b,e,_,_,_⟩
 ·obtain ⟨_,_,d,_,c⟩:=dk_rd I.hok e;exact c.typeIs
 ·obtain ⟨_,_,f,_,c⟩:=dt_rd I.hok e;exact c.typeIs
def tDGet (td ty:TE):TE:=fun σ H Q=>td σ H fun x H1=>ty σ H1 fun y H2=>∃ a v,x=.ref a/\DGet H2 a y (some v)/\Q v H2
def tDIn (ty td:TE):TE:=fun σ H Q=>ty σ H fun y H1=>td σ H1 fun x H2=>∃ a o,x=.ref a/\DGet H2 a y o/\Q (.bl o.isSome) H2
def Jis (ty td:TE):TE:=fun σ H Q=>ty σ H fun y H1=>td σ H1 fun x H2=>∃ a o,x=.ref a/\DGet H2 a y o/\Q (.bl (!o.isSome)) H2
def sDPut (td ty tv:TE):TS:=fun D σ H=>tv σ H fun v H1=>td σ H1 fun x H2=>ty σ H2 fun y H3=>∃ a H4,x=.ref a/\DPut H3 a y v H4/\D.nx σ H4
section
variable {X:Cx} {o i e value:Expr} {pos pos' tpos:Pos} {td ty tv:TE}
theorem Jcg (hu:X.A.units+1<cLine) (ho:PE X o td) (hi:PE X i ty) (hs:NoSl i):PE X (.Subscript o i pos) (tDGet td ty):=by
 intro b s σ H Q I h;refine JkB PySem.F.slot_dict_getitem.lookup hs (thn (ho b s σ H _ I h) fun u n ⟨x,d,I1,l,m⟩=>thn (hi b n σ d _ I1 m) fun p q ζ=>?_);obtain ⟨y,e,I2,j,a,v,f,g,k⟩:=ζ;subst f;obtain rfl:u=Value.ref a:=l;exact ⟨Jf1 I2 g,Jhx hu I2 g j fun t r I3 c=>⟨v,e,I3,c,k⟩⟩
theorem JgN (hu:X.A.units+1<cLine) (hi:PE X i ty) (ho:PE X o td):PC X .In i o (tDIn ty td):=by
 intro b s σ H Q I h;refine thn (hi b s σ H _ I h) fun p n ⟨y,c,I1,j,m⟩=>thn (ho b n σ c _ I1 m) fun u q ζ=>?_;obtain ⟨x,d,I2,l,a,e,f,g,k⟩:=ζ;subst f;obtain rfl:u=Value.ref a:=l;exact d_in hu I2 g j fun r I3=>⟨.bl e.isSome,d,I3,rfl,k⟩
theorem Jdd (hu:X.A.units+1<cLine) (hi:PE X i ty) (ho:PE X o td):PC X .NotIn i o (Jis ty td):=by
 intro b s σ H Q I h;refine thn (hi b s σ H _ I h) fun p n ⟨y,c,I1,j,m⟩=>thn (ho b n σ c _ I1 m) fun u q ζ=>?_;obtain ⟨x,d,I2,l,a,e,f,g,k⟩:=ζ;subst f;obtain rfl:u=Value.ref a:=l;exact JjO hu I2 g j fun r I3=>⟨.bl (!e.isSome),d,I3,rfl,k⟩
theorem JcC (hu:X.A.units+1<cLine) (ho:PE X o td) (hi:PE X i ty) (hv:PE X value tv) (hs:swapsWith value (some (.Subscript o i pos')) pos.line X.env=pure false) :
  PS X (.Assign [.Subscript o i pos'] value pos) (sDPut td ty tv):=by
 intro b s σ H D I h;refine wpAny_Assign_Subscript (thn (hv b s σ H _ I h) fun r t ⟨v,c,I1,k,q⟩=>thn (ho b t σ c _ I1 q) fun u l ⟨x,e,I2,p,m⟩=>thn (hi b l σ e _ I2 m) fun w z ζ=>?_) hs;obtain ⟨y,C,I3,j,a,d,f,g,n⟩:=ζ;subst f;obtain rfl:u=Value.ref a:=p;exact Jhy hu I3 g j k fun B I4=>⟨σ,d,I4,n⟩
end
theorem Jgz {P:Program} {w:World} {H:Hp} (h:Heap) (hb:sysModules<h.objs.size):ObjOk P w H (h.push { cls:=.type "dict",data:=.dict #[] }) h.objs.size (.dK []) :=
 ⟨Nat.zero_le _,beq_eq_false_iff_ne.mpr (Ne.symm (Nat.ne_of_lt hb)),[], .nil,Heap.DictOf.new h⟩
def Jjw:TE:=fun _ H Q=>∀ p,H p=none->Q (.ref p) (upd H p (.dK []))
def Jlp:TE:=fun _ H Q=>∀ p,H p=none->Q (.ref p) (upd H p (.dT []))
section
variable {X:Cx} {pos:Pos}
theorem JbX:PE X (.Dict [] [] pos) Jjw:=fun b s σ H Q I h=>
 wpAny_Dict_empty ⟨.ref s.heap.objs.size,_,I.laid (a:=s.heap.objs.size) (o:=.dK []) (t':=s.toks) (fun _ _ q=>Heap.get?_push_of_some _ q) (Nat.le_refl _) (Jgz s.heap I.big),rfl,h _ (I.hok.fresh (Nat.le_refl _))⟩
end
def JfQ:List (TE × TE)->St->Hp->(List (V × V)->Hp->Prop)->Prop
 | [],_,H,Q=>Q [] H
 | (tk,tv)::r,σ,H,Q=>tk σ H fun x H1=>tv σ H1 fun y H2=>JfQ r σ H2 fun ps H3=>Q ((x,y)::ps) H3
abbrev VV:List (V × V)->List (Value × Value)->Prop:=Paired fun p q=>RelV p.1 q.1/\RelV p.2 q.2
def PPs (X:Cx) (pos:Pos) (keys:List (Option Expr)) (values:List Expr) (trs:List (TE × TE)):Prop :=
 ∀ (pins:List (Addr × Obj)) (s:Shared) (σ : St) (H:Hp) (Q:List (V × V)->Hp->Prop),Inv X pins σ H s->JfQ trs σ H Q ->
  wpAny (model X.prog X.w) X.A (evalPairs (pairTrees keys values X.env pos)) (fun vs s'=>∃ ps H',Inv X pins σ H' s'/\VV ps vs/\Q ps H') X.xe s
theorem Jkp {X:Cx} {pos:Pos}:PPs X pos [] [] []:=fun a s σ H Q I h=>pairTrees_nil_walk ⟨[],H,I, .nil,h⟩
theorem Ji3 {X:Cx} {pos:Pos} {k v:Expr} {ks:List (Option Expr)} {vs:List Expr} {tk tv:TE} {trs:List (TE × TE)} (hk:PE X k tk) (hv:PE X v tv) (hr:PPs X pos ks vs trs) :
  PPs X pos (some k::ks) (v::vs) ((tk,tv)::trs):=fun a s σ H Q I h=>
 pairTrees_cons_walk (thn (hk a s σ H _ I h) fun u o ⟨x,c,I1,j,l⟩=>thn (hv a o σ c _ I1 l) fun r f ⟨y,d,I2,e,g⟩=>
  thn (hr a f σ d _ I2 g) fun p q ⟨n,m,I3,b,i⟩=>⟨(x,y)::n,m,I3, .cons ⟨j,e⟩ b,i⟩)
def JeE (kvs more:List (Key × V)):List (Key × V):=more.foldl (fun acc kv=>putK acc kv.1 kv.2) kvs
theorem KV.merge:∀ {more:List (Key × V)} {rs:List (Key × Value)} {kvs:List (Key × V)} {vs:List (Key × Value)},KV more rs->KV kvs vs->KV (JeE kvs more) (merged vs rs):=by
 intro more rs kvs vs r;unfold KV at r;induction r generalizing kvs vs with
 | nil=>intro q;exact q
 | @cons p q ps qs h t ih=>
  intro a;have e:KV (putK kvs p.1 p.2) (stored vs q.1 q.2):=by
   have:=a.put p.1 h.2;rw [<- h.1];exact this
  exact ih e
theorem Jc7:∀ (more kvs:List (Key × V)),(JeE kvs more).length<=kvs.length+more.length
 | [],kvs=>by show kvs.length<=kvs.length+0;ac_nf
 | p::r,kvs=>by
  have h1:=Jc7 r (putK kvs p.1 p.2);have h2:=Jbg kvs p.1 p.2;show (JeE (putK kvs p.1 p.2) r).length<=_;rw [length_cons];ac_nf
theorem Jex {P:Program} {w:World}:∀ {kvs:List (Key × V)} {ws:List (Value × Value)},VV (kvs.map fun kv=>(kV kv.1,kv.2)) ws->∃ rs,Carries (Jaw P w) ws rs/\KV kvs rs
 | [],_,r=>by rw [map_nil] at r;cases r;exact ⟨[],True.intro, .nil⟩
 | p::kvs,_,r=>by
  rw [map_cons] at r;cases r with
  | @cons a b as bs h t=>
   obtain ⟨rs,c,q⟩:=Jex (P:=P) (w:=w) t;obtain ⟨b1,b2⟩:=b;exact ⟨(p.1,b2)::rs,⟨kV_is h.1,rfl,c⟩, .cons ⟨rfl,h.2⟩ q⟩
def tDisp (trs:List (TE × TE)):TE:=fun σ H Q=>∀ p,H p=none->JfQ trs σ (upd H p (.dK [])) fun ps H2=>H2 p=some (.dK [])/\∃ kvs:List (Key × V),ps=kvs.map (fun kv=>(kV kv.1,kv.2))/\kvs.length<=15/\Q (.ref p) (upd H2 p (.dK (JeE [] kvs)))
theorem Jkj {X:Cx} {pos:Pos} {keys:List (Option Expr)} {values:List Expr} {trs:List (TE × TE)} (h:PPs X pos keys values trs) (hall:keys.all (·.isSome)=true) (hl:keys.length=values.length) (h0:keys≠[])
  (h15:keys.length<=15):PE X (.Dict keys values pos) (tDisp trs):=by
 intro f s σ H Q I q;have t:=I.hok.fresh (Nat.le_refl s.heap.objs.size);have I1:=I.laid (a:=s.heap.objs.size) (o:=.dK []) (h':=s.heap.push { cls:=.type "dict",data:=.dict #[] }) (t':=s.toks) (fun _ _ q=>Heap.get?_push_of_some _ q) (Nat.le_refl _) (Jgz s.heap I.big);refine wpAny_Dict_walk (knd:=Jaw X.prog X.w) hall hl h0 h15 (thn (h f _ σ _ _ I1 (q _ t)) fun B C ζ=>?_);obtain ⟨E,A,I2,g,e,b,r,D,v⟩:=ζ;subst r;obtain ⟨l,c,i⟩:=Jex (P:=X.prog) (w:=X.w) g;obtain ⟨z,u,n,p,y⟩:=dk_of I2.hok e;cases p;refine ⟨l,c,y,fun h' d k=>⟨.ref s.heap.objs.size,_,?_,rfl,v⟩⟩;have j:(JeE [] b).length<=sizeLine:=by
  have m:=Jc7 b [];rw [length_nil] at m;rw [sizeLine_eq];ac_nf
 have x:∃ q,h'.get? s.heap.objs.size=some q:=let ⟨q,_,_,hq,_⟩:=d;⟨q,hq⟩;exact JeO I2 (by rw [e];exact True.intro) k x (JgA j u (i.merge .nil) d)
structure M1 (X:Cx) (o:Expr) (m:Str) (apos:Pos) (e:Expr) (cpos:Pos):Prop where
 base:attributeBase o m X.env (eval o X.env)=eval o X.env
 few:((backTo cpos (starEach [e] X.env)).all (fun x=>!x.1)&&(backToKw cpos (keywordEach [] X.env)).all (fun x=>x.1.isSome)
  && decide (([e]:List Expr).length+([]:List Keyword).length+(if ([]:List Keyword).isEmpty then 0 else 1)<30))=true
 line:(apos.endLine == cpos.line)=true
 trees:backTo cpos (starEach [e] X.env)=[(false,eval e X.env)]
structure M2 (X:Cx) (o:Expr) (m:Str) (apos:Pos) (e f:Expr) (cpos:Pos):Prop where
 base:attributeBase o m X.env (eval o X.env)=eval o X.env
 few:((backTo cpos (starEach [e,f] X.env)).all (fun x=>!x.1)&&(backToKw cpos (keywordEach [] X.env)).all (fun x=>x.1.isSome)
  && decide (([e,f]:List Expr).length+([]:List Keyword).length+(if ([]:List Keyword).isEmpty then 0 else 1)<30))=true
 line:(apos.endLine == cpos.line)=true
 trees:backTo cpos (starEach [e,f] X.env)=[(false,eval e X.env),(false,eval f X.env)]
def IsD (H:Hp) (a:Addr):Prop:=(∃ kvs,Rd H a (.dK kvs))\/∃ kvs,Rd H a (.dT kvs)
theorem Jfx {X:Cx} {pins:List (Addr × Obj)} {σ : St} {H:Hp} {s:Shared} {a:Addr} (I:Inv X pins σ H s) (d:IsD H a) :
  s.TypeIs (.ref a) "dict"/\(∀ b,Value.ref a=.ref b->∃ ob,s.heap.get? b=some ob/\ob.dict=none)/\(a == sysModules)=false:=by
 rcases d with ⟨kvs,e⟩ | ⟨kvs,e⟩
 ·obtain ⟨_,h,i,_,c⟩:=dk_rd I.hok e;refine ⟨c.typeIs,fun b q=>?_,h⟩;cases q;obtain ⟨ob,_,_,g,f,_⟩:=c;exact ⟨ob,g,f.2.1⟩
 ·obtain ⟨_,h,j,_,c⟩:=dt_rd I.hok e;refine ⟨c.typeIs,fun b q=>?_,h⟩;cases q;obtain ⟨ob,_,_,g,f,_⟩:=c;exact ⟨ob,g,f.2.1⟩
section
variable {X:Cx} {pins:List (Addr × Obj)} {σ : St} {H:Hp} {s:Shared} {a:Addr} {y d:V} {u r:Value} {o:Option V} {A:Around} {E:Value->Shared->Prop}
theorem JkN {Q:Value->Shared->Prop} (hu:A.units+1<cLine) (I:Inv X pins σ H s) (g:DGet H a y o) (ry:RelV y u) (h:∀ w' s',Inv X pins σ H s'->RelV (o.getD .non) w'->Q w' s') :
  wpAny (model X.prog X.w) A (call (.builtin "dict.get") [.ref a,u]) Q E s:=by
 rcases g with ⟨kvs,k,e,ey,l⟩ | ⟨kvs,k,b,e,ey,eb,l⟩
 ·subst ey;obtain ⟨z,f,j,c,d⟩:=dk_rd I.hok e;refine call_meetsIn PySem.F.slot_dict_get d.typeIs PySem.F.entry_dict_get (PySem.F.args_dict_get_2 _ _) (meets_dict_get (Jaw X.prog X.w) a (kV_is ry) f) ⟨_,d.mapOf,h _ _ (I.tok _) ?_⟩;rw [l];exact (c.val k).getD rfl
 ·subst ey;cases (show u=Value.ref b from ry);obtain ⟨z,f,i,c,d⟩:=dt_rd I.hok e;refine call_meetsIn PySem.F.slot_dict_get d.typeIs PySem.F.entry_dict_get (PySem.F.args_dict_get_2 _ _) (meetsH_dict_get (tupleKind (Jaw X.prog X.w)) a b f) ⟨tupleKind_room_in1 hu,k,i,JdS I.hok eb,d,h _ _ (I.tok _) ?_⟩;rw [l];exact (c.val k).getD rfl
theorem JkO {Q:Value->Shared->Prop} (hu:A.units+1<cLine) (I:Inv X pins σ H s) (g:DGet H a y o) (ry:RelV y u) (rd:RelV d r) (h:∀ w' s',Inv X pins σ H s'->RelV (o.getD d) w'->Q w' s') :
  wpAny (model X.prog X.w) A (call (.builtin "dict.get") [.ref a,u,r]) Q E s:=by
 rcases g with ⟨kvs,k,e,ey,l⟩ | ⟨kvs,k,b,e,ey,eb,l⟩
 ·subst ey;obtain ⟨z,i,m,c,f⟩:=dk_rd I.hok e;refine call_meetsIn PySem.F.slot_dict_get f.typeIs PySem.F.entry_dict_get (PySem.F.args_dict_get_3 _ _ _) (meets_dict_get_default (Jaw X.prog X.w) a (kV_is ry) i r) ⟨_,f.mapOf,h _ _ (I.tok _) ?_⟩;rw [l];exact (c.val k).getD rd
 ·subst ey;cases (show u=Value.ref b from ry);obtain ⟨z,i,j,c,f⟩:=dt_rd I.hok e;refine call_meetsIn PySem.F.slot_dict_get f.typeIs PySem.F.entry_dict_get (PySem.F.args_dict_get_3 _ _ _) (meetsH_dict_get_default (tupleKind (Jaw X.prog X.w)) a b i r) ⟨tupleKind_room_in1 hu,k,j,JdS I.hok eb,f,h _ _ (I.tok _) ?_⟩;rw [l];exact (c.val k).getD rd
end
def Jju (td ty:TE):TE:=fun σ H Q=>td σ H fun x H1=>∃ a,x=.ref a/\IsD H1 a/\ty σ H1 fun y H2=>∃ o,DGet H2 a y o/\Q (o.getD .non) H2
def Jjv (td ty tx:TE):TE:=fun σ H Q=>td σ H fun x H1=>∃ a,x=.ref a/\IsD H1 a/\ty σ H1 fun y H2=>tx σ H2 fun z H3=>∃ o,DGet H3 a y o/\Q (o.getD z) H3
section
variable {X:Cx} {o e f:Expr} {apos cpos:Pos} {td ty tx:TE}
theorem Ji0 (hu:X.A.units+1<cLine) (ho:PE X o td) (he:PE X e ty) (m:M1 X o "get" apos e cpos):PE X (.Call (.Attribute o "get" apos) [e] [] cpos) (Jju td ty):=by
 intro b s σ H Q I h;refine wpAny_Call_method m.base m.few m.line PySem.F.plainAttrs_dict PySem.F.slot_dict_get PySem.F.type_dict_get (thn (ho b s σ H _ I h) fun u t ζ=>?_);obtain ⟨x,f,I1,q,a,j,d,r⟩:=ζ;subst j;obtain rfl:u=Value.ref a:=q;obtain ⟨k,n,_⟩:=Jfx I1 d;refine ⟨k,n,?_⟩;rw [m.trees];refine Calls.callWith_builtin rfl (Calls.evalArgs_plain (Calls.spliced_cons (thn (he b t σ f _ I1 r) fun v z ⟨y,i,I2,l,w,g,p⟩=>Calls.spliced_nil ?_)));exact JkN hu I2 g l fun C B I3 c=>⟨_,i,I3,c,p⟩
theorem Ji1 (hu:X.A.units+1<cLine) (ho:PE X o td) (he:PE X e ty) (hf:PE X f tx) (m:M2 X o "get" apos e f cpos):PE X (.Call (.Attribute o "get" apos) [e,f] [] cpos) (Jjv td ty tx):=by
 intro b s σ H Q I h;refine wpAny_Call_method m.base m.few m.line PySem.F.plainAttrs_dict PySem.F.slot_dict_get PySem.F.type_dict_get (thn (ho b s σ H _ I h) fun u D ζ=>?_);obtain ⟨x,i,I1,w,a,k,d,B⟩:=ζ;subst k;obtain rfl:u=Value.ref a:=w;obtain ⟨n,q,_⟩:=Jfx I1 d;refine ⟨n,q,?_⟩;rw [m.trees];refine Calls.callWith_builtin rfl (Calls.evalArgs_plain (Calls.spliced_cons (thn (he b D σ i _ I1 B) fun E r ⟨y,j,I2,p,t⟩=>
  Calls.spliced_cons (thn (hf b r σ j _ I2 t) fun J K ⟨z,C,I3,l,G,g,v⟩=>Calls.spliced_nil ?_))))
 exact JkO hu I3 g p l fun M L I4 c=>⟨_,C,I4,c,v⟩
end
section
variable {X:Cx} {pins:List (Addr × Obj)} {σ : St} {H:Hp} {s:Shared} {a:Addr} {kvs:List (Key × V)} {A:Around} {E:Value->Shared->Prop}
end
section
variable {X:Cx} {pins:List (Addr × Obj)} {σ : St} {H:Hp} {s:Shared} {a:Addr} {y:V} {u:Value} {A:Around} {E:Value->Shared->Prop}
end
section
variable {κ : Type} [DecidableEq κ]
end
theorem ObjOk.is_there {P:Program} {w:World} {H:Hp} {h:Heap} {a:Addr} {o:HO} (x:ObjOk P w H h a o):∃ ob,h.get? a=some ob:=by
 cases o with
 | lst xs=>obtain ⟨_,_,_,_,e⟩:=x;exact ⟨_,e⟩
 | tup xs=>obtain ⟨_,_,_,p⟩:=x;obtain ⟨o,e,_⟩:=p;exact ⟨_,e⟩
 | dK kvs=>obtain ⟨_,_,_,_,o,_,_,e,_⟩:=x;exact ⟨_,e⟩
 | dT kvs=>obtain ⟨_,_,_,_,o,_,_,e,_⟩:=x;exact ⟨_,e⟩
 | set S n=>
  obtain ⟨o,_,_,_,e,_⟩:=x;exact ⟨_,e⟩
 | ins C dx fs=>obtain ⟨_,_,_,e,_⟩:=x;exact ⟨_,e⟩
 | own y=>exact x
 | xd fs=>obtain ⟨c,n,_⟩:=x;obtain ⟨b,e,_⟩:=Jfz n;exact ⟨_,e⟩
 | rng lo hi=>obtain ⟨_,_,_,e⟩:=x;exact ⟨_,e⟩
 | frz ob u=>exact ⟨_,x.1⟩
 | tbl ps=>exact ⟨_,x⟩
 | met f y=>exact ⟨_,x⟩
 | ext φ=>exact x.2.1
theorem HOk.isnone {P:Program} {w:World} {H:Hp} {h:Heap} {a:Addr} (x:HOk P w H h) (e:h.get? a=none):H a=none:=by
 cases q:H a with
 | none=>rfl
 | some u=>
  obtain ⟨b,z⟩:=(x a u q).is_there;rw [e] at z;cases z
structure Fly (l:List Env) (H':Hp) (h0:Heap) (ea:Addr) (cls a0:Value) (B h:Heap):Prop where
 fly:Heap.FlyingW B l ea cls a0 h
 free:H' ea=none
 new:h0.get? ea=none
 kept:∀ b o,h.get? b=some o->((∃ o',h0.get? b=some o')\/∃ u,H' b=some u)->b∉frs l->B.get? b=some o
def CX1 (P:Program) (w:World):CXT:=fun outer H s E e s'=>
 ∃ (ea:Addr) (cls a0:Value) (B:Heap) (H':Hp),e=.ref ea/\s'.os=s.os/\AllBare s'.gens/\Un (frs outer) [] H H' s.heap s'.heap/\HOk P w H' s'.heap /\
  Fly outer H' s.heap ea cls a0 B s'.heap/\E cls none H'
section
variable {P:Program} {w:World} {l l':List Env} {H H':Hp} {h0 h h' B:Heap} {ea:Addr} {cls a0:Value}
theorem Fly.next (u:Un (frs l) [] H H' h0 h) (hok:HOk P w H' h) (F:Fly l H' h0 ea cls a0 B h) (fr:∀ b∈frs l,H' b=none) (k:B.StaysIn h') (sl:h.UpToSlots h') :
  HOk P w H' h'/\Un (frs l) [] H H' h0 h'/\∀ b o,h.get? b=some o->((∃ o',h0.get? b=some o')\/∃ u,H' b=some u)->b∉frs l->h'.get? b=some o:=by
 have c:∀ b o,h.get? b=some o->((∃ o',h0.get? b=some o')\/∃ u,H' b=some u)->b∉frs l->h'.get? b=some o:=fun b o q r n=>k b o (F.kept b o q r n);have d:∀ b o,b∈frs l->h.get? b=some o->∃ i,h'.get? b=some { o with slots:=i }:=fun b o m q=>by
  obtain ⟨_,o',s,x⟩:=F.fly.2.2.1.mem m;rw [q] at s;cases s;exact sl b o q x
 refine ⟨fun a o e=>?_,⟨fun b o q n t _=>?_,fun b o q n m _=>?_,u.free,fun b o q y=>?_,u.tups,u.frzs,u.tbls⟩,c⟩
 ·have p:∀ b u,H' b=some u->b∉frs l:=fun b u q m=>by
   rw [fr b m] at q;cases q
  refine (hok a o e).stay (fun b v f q=>?_) (fun _ r=>r) (fun _ _ r=>r);rcases f with rfl | f
  ·exact c _ _ q (.inr ⟨_,e⟩) (p _ _ e)
  ·exact c _ _ q (.inr ⟨_,f⟩) (p _ _ f)
 ·exact c b o (u.keep b o q n t (by simp)) (.inl ⟨o,q⟩) t
 ·obtain ⟨z,g⟩:=u.slot b o q n m (by simp);obtain ⟨i,j⟩:=d b _ m g;exact ⟨i,j⟩
 ·obtain ⟨o',g⟩:=u.there b o q (by simp);by_cases m:b∈frs l
  ·obtain ⟨i,j⟩:=d b _ m g;exact ⟨_,j⟩
  ·exact ⟨o',c b o' g (.inl ⟨o,q⟩) m⟩
end
section
variable {X:Cx} {pins:List (Addr × Obj)} {σ : St} {H H':Hp} {s:Shared} {h h' B:Heap} {ea:Addr} {cls a0:Value}
theorem Inv.out (I:Inv X pins σ H s) (hex:X.ex=[]) (u:Un (frs X.stack) [] H H' s.heap h'):Un X.fs [] X.H₀ H' X.s₀.heap h':=by
 have J:=I.base;rw [hex] at J;have h:∀ b o,X.s₀.heap.get? b=some o->b≠X.env.locals:=fun b o q z=>by
  have f:=Heap.lt_size q;have k:=I.ok.above;rw [z] at f;exact absurd (Nat.lt_of_lt_of_le f k) (Nat.lt_irrefl _)
 have j:∀ b o,X.s₀.heap.get? b=some o->b∉X.fs->b∉frs X.stack:=fun b o q c m=>by
  rcases mem_cons.mp (I.stkSub b m) with z | z
  ·exact h b o q z
  ·exact c z
 refine ⟨fun b o q n c _=>?_,fun b o q n m _=>?_,fun b o q n _=>?_,fun b o q _=>?_,fun b g q=>u.tups b g (J.tups b g q),fun b o v q=>u.frzs b o v (J.frzs b o v q),fun b r q=>?_⟩
 ·exact u.keep b o (J.keep b o q n c (by simp)) (J.free b o q n (by simp)) (j b o q c) (by simp)
 ·obtain ⟨t,a⟩:=J.slot b o q n m (by simp);obtain ⟨l,e⟩:=u.any a (J.free b o q n (by simp)) (by simp);exact ⟨l,e⟩
 ·obtain ⟨d,a⟩:=J.there b o q (by simp);exact u.free b d a (J.free b o q n (by simp)) (by simp)
 ·obtain ⟨d,a⟩:=J.there b o q (by simp);exact u.there b d a (by simp)
 ·obtain ⟨p,a⟩:=J.tbls b r q;obtain ⟨i,e⟩:=u.tbls b _ a;exact ⟨p++i,by rw [e,Array.append_assoc]⟩
theorem Inv.stkFree' (I:Inv X pins σ H s) (u:Un (frs X.stack) [] H H' s.heap h):∀ b∈frs X.stack,H' b=none:=fun b m=>by
 obtain ⟨_,o,q,_⟩:=I.stack.mem m;exact u.free b o q (I.stkFree b m) (by simp)
end
section
variable {P:Program} {w:World} {K:W.Frag} {mg:Str->Option Value} {base:Heap} {N:List Str} {qual:Str} {scope:Scope} {f:Addr} {cdv:Value} {A:Around} {outer:List Env} {s0:Shared} {H0:Hp} {E:XK}
theorem pass1:JbU (CX1 P w) (cxOf (CX1 P w) P w K mg base N qual scope f cdv A outer s0 H0 E) E:=by
 intro G σ H s e C I W;obtain ⟨i,cls,a0,B,y,rfl,p,T,u,j,F,V⟩:=W;have t:=I.stkFree' u;show wpAny (model P w) (A.deeper (envOfC qual scope s0.heap.objs.size f cdv)) (leaving (envOfC qual scope s0.heap.objs.size f cdv) (.ref i)) (fun _ g=>CX1 P w outer H0 s0 E (.ref i) g) (fun S g=>CX1 P w outer H0 s0 E S g) C;refine wpAny_leaves_onW (base:=B) (cls:=cls) (a0:=a0) I.ok.frames rfl F.fly fun Q h n=>?_;obtain ⟨k,L,X⟩:=F.next u j t h.1 n;have l:s0.heap.get? i=none:=by
  cases q:s0.heap.get? i with
  | none=>rfl
  | some o=>
   obtain ⟨a,O⟩:=I.base.there i o q (by intro z;cases z);have:=F.new;rw [O] at this;cases this
 refine ⟨i,cls,a0,B,y,rfl,p.trans I.os,T,I.out rfl L,k,⟨h,F.free,l,fun b o q r U=>?_⟩,V⟩;have J:b≠s0.heap.objs.size:=fun z=>by
  rcases r with ⟨a,c⟩ | ⟨v,c⟩
  ·have:=Heap.lt_size c;rw [z] at this;exact absurd this (Nat.lt_irrefl _)
  ·have R:=t s0.heap.objs.size (by
    show s0.heap.objs.size∈frs (envOfC qual scope s0.heap.objs.size f cdv::outer);exact List.mem_filterMap.mpr ⟨_,mem_cons_self ..,rfl⟩)
   rw [z,R] at c;cases c
 have M:b∉frs (envOfC qual scope s0.heap.objs.size f cdv::outer):=fun m=>by
  rcases mem_cons.mp (I.stkSub b m) with z | z
  ·exact J z
  ·exact U z
 have D:(∃ a,s.heap.get? b=some a)\/∃ v,y b=some v:=by
  rcases r with ⟨a,c⟩ | r
  ·exact .inl (I.base.there b a c (by intro z;cases z))
  ·exact .inr r
 have d:∃ a,C.heap.get? b=some a:=by
  rcases D with ⟨a,c⟩ | ⟨v,c⟩
  ·exact u.there b a c (by simp)
  ·exact (j b v c).is_there
 obtain ⟨a,c⟩:=d;have z:=F.kept b a c D M;have x:=h.1 b a z;rw [show Q.get? b=some o from q] at x;cases x;exact z
end
theorem passF {P:Program} {w:World} {X:Cx}:JbU (CX1 P w) X E0:=fun _ _ _ _ _ _ _ h=>by
 obtain ⟨_,_,_,_,_,_,_,_,_,_,_,z⟩:=h;exact False.elim z
theorem JjR {K:W.Frag} {h:Heap} {C:Addr} {bmB:List Value} {newId:String} (X:K.In h) (q:W.excIn K C bmB newId=true) :
  ∃ (bm:List Value) (N:Addr) (nm qn:Str) (bs:List Value) (hdct:Bool) (sn:List Str) (sub:List Value) (ab:Bool) (col:Option Bool) (dd:Option Addr) (k0 k1 k2 k3 k5:Option Value) (mN:Str->Option Value),
   h.get? C=some (excClassObj nm qn C N bs bm hdct sn sub ab col dd k0 k1 k2 k3 k5 newId)/\h.Ns N mN/\mN "__init__"=none/\OwnTail h bmB bm:=by
 unfold W.excIn at q;split at q
 next dd cd sl ho=>
  split at q
  next C' bm k0 k1 k2 k3 n k5 hm hs=>
   have j:((((C'=C/\n=newId)/\cd.hasDel=false)/\W.tailIn K bmB bm=true)/\W.nsOkIn K cd.ns=true)/\W.nsIn K cd.ns "__init__"=some none:=by simpa using q
   obtain ⟨⟨⟨⟨⟨i,o⟩,m⟩,k⟩,e⟩,f⟩:=j;obtain ⟨nm,bs,d,g,qn,l,sn,sub,ab,col,b⟩:=cd;have p:sl=#[k0,k1,k2,k3,some (.builtin n),k5]:=by
    cases sl;exact congrArg Array.mk hs
   subst i;subst o;subst p;have a:d=.ref C'::bm:=hm;subst a;have c:b=false:=m;subst c;exact ⟨bm,g,nm,qn,bs,l,sn,sub,ab,col,dd,k0,k1,k2,k3,k5,_,X _ _ ho, .of_isNs (W.isNs_of_in X e),W.nsMap_none_of_in X e f,W.tail_of_in X k⟩
  next=>cases q
 next=>cases q
section
variable {P:Program} {w:World} {K:W.Frag} {mg:Str->Option Value} {base:Heap} {N:List Str} {qual:Str} {scope:Scope} {f:Addr} {cdv:Value} {A:Around} {outer:List Env} {s0:Shared} {H0:Hp} {E:XK}
theorem JkY {pins:List (Addr × Obj)} {σ : St} {H:Hp} {s:Shared} {h':Heap} {e:Addr} {cls:Value} {us:List Value}
  (I:Inv (cxOf (CX1 P w) P w K mg base N qual scope f cdv A outer s0 H0 E) pins σ H s) (hm:Heap.MadeExcOf s.heap h' e cls us) (q:E cls none H) :
  (cxOf (CX1 P w) P w K mg base N qual scope f cdv A outer s0 H0 E).xe (.ref e) { s with heap:=h' }:=by
 show wpAny (model P w) (A.deeper (envOfC qual scope s0.heap.objs.size f cdv)) (leaving (envOfC qual scope s0.heap.objs.size f cdv) (.ref e)) (fun _ k=>CX1 P w outer H0 s0 E (.ref e) k) (fun S k=>CX1 P w outer H0 s0 E S k) { s with heap:=h' };have Q:=I.stkFree;have J:∀ i∈(envOfC qual scope s0.heap.objs.size f cdv::outer), ∀ b,i.frame=some b->b∈frs (envOfC qual scope s0.heap.objs.size f cdv::outer):=fun i U b p=>List.mem_filterMap.mpr ⟨i,U,p⟩;refine wpAny_leaves_madeW (base:=W.hideAll s.heap (frs (envOfC qual scope s0.heap.objs.size f cdv::outer))) (h:=s.heap) (cls:=cls) (args:=us) I.ok.frames rfl (fun b o z=>W.of_hideAll _ z) (W.funFrames_hide I.stack J) hm fun D t B _ _ x=>?_;have j:H e=none:=I.hok.isnone hm.new;have c:∀ b o,s.heap.get? b=some o->b∉frs (envOfC qual scope s0.heap.objs.size f cdv::outer)->D.get? b=some o:=fun b o z n=>B.1 b o (W.hideAll_get _ z n);have u:Un (frs (envOfC qual scope s0.heap.objs.size f cdv::outer)) [] H H s.heap D:=by
  refine ⟨fun b o z _ n _=>c b o z n,fun b o z _ m _=>?_,fun _ _ _ n _=>n,fun b o z _=>?_,fun _ _ z=>z,fun _ _ _ z=>z,fun _ Z z=>⟨#[],by rw [z];simp⟩⟩
  ·obtain ⟨_,g,d,F⟩:=I.stack.mem m;rw [z] at d;cases d;exact x b o (hm.keeps b o z) F
  ·by_cases m:b∈frs (envOfC qual scope s0.heap.objs.size f cdv::outer)
   ·obtain ⟨_,g,d,F⟩:=I.stack.mem m;rw [z] at d;cases d;obtain ⟨Y,V⟩:=x b o (hm.keeps b o z) F;exact ⟨_,V⟩
   ·exact ⟨o,c b o z m⟩
 have L:∀ b v,H b=some v->b∉frs (envOfC qual scope s0.heap.objs.size f cdv::outer):=fun b v z m=>by
  rw [Q b m] at z;cases z
 have G:HOk P w H D:=fun a o z=>by
  refine (I.hok a o z).stay (fun b v p l=>?_) (fun _ r=>r) (fun _ _ r=>r);rcases p with rfl | p
  ·exact c _ _ l (L _ _ z)
  ·exact c _ _ l (L _ _ p)
 have C:s0.heap.get? e=none:=by
  cases z:s0.heap.get? e with
  | none=>rfl
  | some o=>
   obtain ⟨g,R⟩:=I.base.there e o z (by intro z;cases z);have:=hm.new;rw [R] at this;cases this
 refine ⟨e,cls, .ref t,_,H,rfl,I.os,I.bare,I.out rfl u,G,⟨B,j,C,fun b o z r T=>?_⟩,q⟩;have X:∃ g,s.heap.get? b=some g:=by
  rcases r with ⟨g,d⟩ | ⟨v,d⟩
  ·exact I.base.there b g d (by intro z;cases z)
  ·exact (I.hok b v d).is_there
 have O:b∉frs (envOfC qual scope s0.heap.objs.size f cdv::outer):=fun m=>by
  rcases mem_cons.mp (I.stkSub b m) with y | y
  ·rcases r with ⟨g,d⟩ | ⟨v,d⟩
   ·have M:=Heap.lt_size d;rw [y] at M;exact absurd M (Nat.lt_irrefl _)
   ·exact L b v d m
  ·exact T y
 obtain ⟨g,d⟩:=X;have l:=c b g d O;rw [show D.get? b=some o from z] at l;cases l;exact W.hideAll_get _ d O
def Jjx (E:XK) (C:Addr) (ta:TA):TS:=fun _ σ H=>ta σ H fun vs H1=>vs.length<=sizeLine/\E (.ref C) none H1
theorem JbY {x:Str} {np cpos pos:Pos} {e:Expr} {es:List Expr} {C:Addr} {B newId initId:String} {bmB:List Value} {ta:TA} (FB:ExcBaseFacts B newId initId bmB) (hx:W.excIn K C bmB newId=true)
  (hg:Gl (cxOf (CX1 P w) P w K mg base N qual scope f cdv A outer s0 H0 E) x) (hm:mg x=some (.ref C)) (ha:PA (cxOf (CX1 P w) P w K mg base N qual scope f cdv A outer s0 H0 E) (e::es) ta)
  (he:starEach (e::es) (envOfC qual scope s0.heap.objs.size f cdv)=(false,eval e (envOfC qual scope s0.heap.objs.size f cdv))::starEach es (envOfC qual scope s0.heap.objs.size f cdv):=by rfl)
  (hpl:(backTo cpos (starEach es (envOfC qual scope s0.heap.objs.size f cdv))).any (·.1)=false:=by rfl) (hdb:(x == ("__debug__" : Str))=false:=by decide) :
  PS (cxOf (CX1 P w) P w K mg base N qual scope f cdv A outer s0 H0 E) (.Raise (some (.Call (.Name x np) (e::es) [] cpos)) none pos) (Jjx E C ta):=by
 intro a s σ H D I h;obtain ⟨bm,g,nm,k,bs,hdct,sn,sub,ab,col,dd,k0,k1,k2,k3,k5,mN,d,j,b,T⟩:=JjR I.mod.kin hx;have l:(A.deeper (envOfC qual scope s0.heap.objs.size f cdv)).handled=none:=I.ok.hd rfl;refine wpAny_Raise_call_subT (C:=C) (nm:=nm) (q:=k) (N:=g) (bs:=bs) (bm:=bm) (hdct:=hdct) (sn:=sn) (sub:=sub) (ab:=ab) (col:=col) (dd:=dd) (k0:=k0) (k1:=k1) (k2:=k2) (k3:=k3) (k5:=k5)
  FB (mN:=mN) (T.hasType FB.hasBase) l ?_ b (Jdr I hg hm ⟨rfl,?_⟩ hdb)
 ·show (backTo cpos (starEach (e::es) (envOfC qual scope s0.heap.objs.size f cdv))).any (·.1)=false;rw [he];show (false||(backTo cpos (starEach es (envOfC qual scope s0.heap.objs.size f cdv))).any (·.1))=false;rw [hpl];rfl
 ·have z:=ha cpos a s σ H _ I h;show wpAny _ _ (evalArgs (.ref C) true (backTo cpos (starEach (e::es) (envOfC qual scope s0.heap.objs.size f cdv))) []) _ _ _;have i:=he;rw [he];refine Calls.evalArgs_plain ?_;have c:wpAny (model P w) (A.deeper (envOfC qual scope s0.heap.objs.size f cdv)) (spliced (backTo cpos (starEach (e::es) (envOfC qual scope s0.heap.objs.size f cdv)))) _ _ s:=z;rw [he] at c;refine thn c fun u t ζ=>?_;obtain ⟨n,o,I1,r,m,q⟩:=ζ;exact ⟨rfl,by rw [<- r.length];exact m,I1.bk _ _ d,j.keeps I1.bk,T.keeps I1.bk,fun p e hm=>JkY I1 hm q⟩
end
def xCall (sp:Sp) (dvs:List V) (t:TA):St->Hp->VK->XK->Prop:=fun σ H Q E=>t σ H fun vs H1=>sp (vs++dvs) H1 Q E
section
variable {X:Cx} {k:Nat} {f C:Addr} {fd:FuncData} {ps:List Str} {sp:Sp} {dvs:List V} {ds:List Value} {E:XK} {x m:Str} {p pos apos:Pos} {e o:Expr} {es:List Expr} {ta:TE} {t:TA}
end
section
variable {X:Cx} {pins:List (Addr × Obj)} {σ : St} {H H':Hp} {s s':Shared} {h' B:Heap} {ea:Addr} {cls a0:Value}
theorem Inv.track {a:Addr} {o:HO} (I:Inv X pins σ H s) (hn:H a=none) (h1:X.s₀.heap.get? a=none) (h2:a≠X.env.locals) (h3:∀ x c,X.env.cells.lookup x=some c->c≠a) (h4:∀ p∈X.pn++pins,p.1≠a)
  (ok:ObjOk X.prog X.w (upd H a o) s.heap a o):Inv X pins σ (upd H a o) s:=by
 have d:∀ b u,H b=some u->b≠a:=fun b u q=>Jai q hn;refine ⟨I.ok,I.os,I.bare,⟨I.base.keep,I.base.slot,fun b f q n l=>?_,I.base.there,fun b h q=>?_,fun b f u q=>?_,fun b k q=>?_⟩,I.loc,I.cell,?_,fun x c e=>?_,fun p i=>?_,fun b u q=>?_,I.len⟩
 ·have : b≠a:=fun z=>by rw [z,h1] at q;cases q
  rw [Jag this];exact I.base.free b f q n l
 ·have z:=I.base.tups b h q;rw [Jag (d _ _ z)];exact z
 ·have z:=I.base.frzs b f u q;rw [Jag (d _ _ z)];exact z
 ·obtain ⟨j,z⟩:=I.base.tbls b k q;exact ⟨j,by rw [Jag (d _ _ z)];exact z⟩
 ·rw [Jag (Ne.symm h2)];exact I.free
 ·rw [Jag (h3 x c e)];exact I.freeC x c e
 ·obtain ⟨e,n,r⟩:=I.pin p i;exact ⟨e,by rw [Jag (h4 p i)];exact n,r⟩
 ·by_cases g:b=a
  ·subst g;rw [Jaj] at q;cases q;exact ok
  ·rw [Jag g] at q;exact (I.hok b u q).stay (fun _ _ _ z=>z) (fun c z=>by rw [Jag (d _ _ z)];exact z) (fun c h z=>by rw [Jag (d _ _ z)];exact z)
def ExcO (e C:Addr):HO:=.ext fun h=>∃ ox vs,h.get? e=some ox/\ox.cls=.ref C/\ox.data=.fields vs
end
structure Jhp (K:W.Frag) (C D:Addr):Prop where
 cl:W.hasDictIn K D=true
 ty:W.typeIn K (.ref D)=some (.type "type")
 ex:W.mroIn K D (.type "BaseException")=some true
 ab:W.mroIn K C (.ref D)=some true
section
variable {X:Cx} {ce:Expr} {epos pos hpos np:Pos} {x n:Str} {b0:Stmt} {suite:List Stmt} {D:Addr} {t:St->Hp->VK->XK->Prop} {ts:TS}
def Jlq (K:W.Frag) (D:Addr) (i:Nat) (t:St->Hp->VK->XK->Prop) (ts:TS):TS:=fun Dn σ H=>t σ H (fun _ H1=>Dn.nx σ H1) fun cls _ H1=>∃ C,cls=.ref C/\Jhp K C D /\
 ∀ ea,H1 ea=none->ts { nx:=fun σ' H'=>Dn.nx (σ'.set i none) H',rt:=Dn.rt,bk:=fun σ' H'=>Dn.bk (σ'.set i none) H',ct:=fun σ' H'=>Dn.ct (σ'.set i none) H' } (σ.set i (some (.ref ea))) (upd H1 ea (ExcO ea C))
end
inductive D where
 | non | bl (b:Bool) | int (i:Int) | str (x:Str) | tup (xs:List D) | lst (xs:List D)
mutual
def Rep (K:W.Frag) (H:Hp):D->V->Prop
 | .non,v=>v=.non
 | .bl b,v=>v=.bl b
 | .int i,v=>v=.int i
 | .str x,v=>v=.str x
 | .tup ds,v=>∃ a xs,v=.ref a/\SqT K H a xs/\RepL K H ds xs
 | .lst ds,v=>∃ a xs,v=.ref a/\SqL K H a xs/\RepL K H ds xs
def RepL (K:W.Frag) (H:Hp):List D->List V->Prop
 | [],vs=>vs=[]
 | d::ds,vs=>∃ v r,vs=v::r/\Rep K H d v/\RepL K H ds r
end
mutual
def eqD:D->D->Bool
 | .non, .non=>true
 | .bl a, .bl b=>a == b
 | .int a, .int b=>a == b
 | .bl a, .int b=>(if a then 1 else 0) == b
 | .int a, .bl b=>a == (if b then 1 else 0)
 | .str a, .str b=>a == b
 | .tup xs, .tup ys=>eqL xs ys
 | .lst xs, .lst ys=>eqL xs ys
 | _,_=>false
def eqL:List D->List D->Bool
 | [],[]=>true
 | x::xs,y::ys=>eqD x y&&eqL xs ys
 | _,_=>false
end
mutual
def depD:D->Nat
 | .tup xs=>depL xs+1
 | .lst xs=>depL xs+1
 | _=>0
def depL:List D->Nat
 | []=>0
 | x::xs=>max (depD x) (depL xs)
end
theorem JeA:∀ {xs ys:List D},eqL xs ys=true->xs.length=ys.length
 | [],[],_=>rfl
 | [],_::_,h=>by simp [eqL] at h
 | _::_,[],h=>by simp [eqL] at h
 | x::xs,y::ys,h=>by
  simp only [eqL,Bool.and_eq_true] at h;simp only [length_cons,JeA h.2]
mutual
theorem Jc6:∀ d:D,eqD d d=true
 | .non=>by simp [eqD]
 | .bl b=>by simp [eqD]
 | .int i=>by simp [eqD]
 | .str x=>by simp [eqD]
 | .tup xs=>by simp only [eqD];exact JeQ xs
 | .lst xs=>by simp only [eqD];exact JeQ xs
theorem JeQ:∀ d:List D,eqL d d=true
 | []=>by simp [eqL]
 | x::xs=>by simp only [eqL,Bool.and_eq_true];exact ⟨Jc6 x,JeQ xs⟩
end
theorem RepL.length {K:W.Frag} {H:Hp}:∀ {ds:List D} {vs:List V},RepL K H ds vs->ds.length=vs.length
 | [],vs,h=>by
  simp only [RepL] at h;rw [h];rfl
 | d::ds,vs,h=>by
  simp only [RepL] at h;obtain ⟨v,r,rfl,_,h2⟩:=h;simp only [length_cons,RepL.length h2]
theorem RepL.get {K:W.Frag} {H:Hp}:∀ {ds:List D} {vs:List V} {i:Nat} {d:D},RepL K H ds vs->ds[i]?=some d->∃ v,vs[i]?=some v/\Rep K H d v
 | [],_,_,_,_,e=>by simp at e
 | d::ds,vs,i,d',h,e=>by
  simp only [RepL] at h;obtain ⟨v,r,rfl,h1,h2⟩:=h;cases i with
  | zero=>simp at e;subst e;exact ⟨v,rfl,h1⟩
  | succ i=>
   obtain ⟨v',e',h'⟩:=RepL.get h2 (by simpa using e);exact ⟨v',by simpa using e',h'⟩
theorem SqL.same {K:W.Frag} {H H':Hp} {a:Addr} {xs:List V} (e:Same H H') (h:SqL K H a xs):SqL K H' a xs:=e.seq h
theorem SqT.same {K:W.Frag} {H H':Hp} {a:Addr} {xs:List V} (e:Same H H') (h:SqT K H a xs):SqT K H' a xs:=by
 rcases h with (h | ⟨o,h⟩) | h
 ·exact .inl (.inl (e _ _ h))
 ·exact .inl (.inr ⟨o,e _ _ h⟩)
 ·exact .inr h
mutual
theorem Rep.same {K:W.Frag} {H H':Hp} (e:Same H H'):∀ {d:D} {v:V},Rep K H d v->Rep K H' d v
 | .non,_,h=>by simpa only [Rep] using h
 | .bl _,_,h=>by simpa only [Rep] using h
 | .int _,_,h=>by simpa only [Rep] using h
 | .str _,_,h=>by simpa only [Rep] using h
 | .tup ds,_,h=>by
  simp only [Rep] at h ⊢;obtain ⟨a,xs,h1,h2,h3⟩:=h;exact ⟨a,xs,h1,h2.same e,RepL.same e h3⟩
 | .lst ds,_,h=>by
  simp only [Rep] at h ⊢;obtain ⟨a,xs,h1,h2,h3⟩:=h;exact ⟨a,xs,h1,h2.same e,RepL.same e h3⟩
theorem RepL.same {K:W.Frag} {H H':Hp} (e:Same H H'):∀ {d:List D} {v:List V},RepL K H d v->RepL K H' d v
 | [],_,h=>by simpa only [RepL] using h
 | x::xs,_,h=>by
  simp only [RepL] at h ⊢;obtain ⟨v,r,h1,h2,h3⟩:=h;exact ⟨v,r,h1,Rep.same e h2,RepL.same e h3⟩
end
section
variable {X:Cx} {pins:List (Addr × Obj)} {σ : St} {H:Hp} {s:Shared}
theorem Inv.list_tuple (I:Inv X pins σ H s) {a:Addr} {xs ys:List V} (h:SqL X.K H a xs) (h':SqT X.K H a ys):False:=by
 obtain ⟨_,_,p,_⟩:=I.list h;obtain ⟨_,_,q,_⟩:=I.tuple h';obtain ⟨o,_,d,e,_⟩:=p;obtain ⟨f,b,c,_⟩:=q;rw [d] at b;cases b;rw [e] at c;exact absurd c ⋯
mutual
theorem Inv.rep_inj (I:Inv X pins σ H s):∀ {d e:D} {v:V},Rep X.K H d v->Rep X.K H e v->d=e
 | .non,e,v,h,h'=>by
  simp only [Rep] at h;subst h;cases e <;> simp [Rep] at h' ⊢
 | .bl _,e,v,h,h'=>by
  simp only [Rep] at h;subst h;cases e <;> simp [Rep] at h' ⊢
  exact h'
 | .int _,e,v,h,h'=>by
  simp only [Rep] at h;subst h;cases e <;> simp [Rep] at h' ⊢
  exact h'
 | .str _,e,v,h,h'=>by
  simp only [Rep] at h;subst h;cases e <;> simp [Rep] at h' ⊢
  exact h'
 | .tup ds,e,v,h,h'=>by
  simp only [Rep] at h;obtain ⟨a,xs,rfl,h2,h3⟩:=h;cases e with
  | tup es=>
   simp only [Rep] at h';obtain ⟨a',ys,q,g2,g3⟩:=h';cases q;have:=I.tuple_inj h2 g2;subst this;rw [Inv.repL_inj I h3 g3]
  | lst es=>
   simp only [Rep] at h';obtain ⟨a',ys,q,g2,g3⟩:=h';cases q;exact (I.list_tuple g2 h2).elim
  | _=>simp [Rep] at h'
 | .lst ds,e,v,h,h'=>by
  simp only [Rep] at h;obtain ⟨a,xs,rfl,h2,h3⟩:=h;cases e with
  | lst es=>
   simp only [Rep] at h';obtain ⟨a',ys,q,g2,g3⟩:=h';cases q;have:=I.list_inj h2 g2;subst this;rw [Inv.repL_inj I h3 g3]
  | tup es=>
   simp only [Rep] at h';obtain ⟨a',ys,q,g2,g3⟩:=h';cases q;exact (I.list_tuple h2 g2).elim
  | _=>simp [Rep] at h'
theorem Inv.repL_inj (I:Inv X pins σ H s):∀ {d e:List D} {v:List V},RepL X.K H d v->RepL X.K H e v->d=e
 | [],e,v,h,h'=>by
  simp only [RepL] at h;subst h;cases e <;> simp [RepL] at h' ⊢
 | x::xs,e,v,h,h'=>by
  simp only [RepL] at h;obtain ⟨u,r,rfl,h1,h2⟩:=h;cases e with
  | nil=>simp [RepL] at h'
  | cons y ys=>
   simp only [RepL] at h';obtain ⟨u',r',q,g1,g2⟩:=h';cases q;rw [Inv.rep_inj I h1 g1,Inv.repL_inj I h2 g2]
end
end
def JcJ {α β : Type} (f : α->β->Bool):List α->List β->Bool
 | [],[]=>true
 | x::xs,y::ys=>f x y&&JcJ f xs ys
 | _,_=>false
def atB {α β : Type} (f : α->β->Bool) (xs:List α) (ys:List β) (j:Nat):Bool:=match xs[j]?,ys[j]? with
 | some x,some y=>f x y
 | _,_=>true
theorem JcK {α β : Type} (f : α->β->Bool):∀ (xs:List α) (ys:List β),
  ((List.range (min xs.length ys.length)).all (atB f xs ys)&&(xs.length == ys.length))=JcJ f xs ys
 | [],[]=>by simp [JcJ]
 | [],_::_=>by simp [JcJ]
 | _::_,[]=>by simp [JcJ]
 | x::xs,y::ys=>by
  have ih:=JcK f xs ys;simp only [JcJ,length_cons];rw [<- ih,Nat.succ_min_succ,List.range_succ_eq_map,List.all_cons,List.all_map];have e:((List.range (min xs.length ys.length)).all (atB f (x::xs) (y::ys) ∘ Nat.succ))=(List.range (min xs.length ys.length)).all (atB f xs ys):=by
   congr 1
  rw [e];have e0:atB f (x::xs) (y::ys) 0=f x y:=by unfold atB;simp
  rw [e0,Bool.and_assoc]
  congr 2
  simp
theorem Jf3:∀ xs ys:List D,eqL xs ys=JcJ eqD xs ys
 | [],[]=>by simp [eqL,JcJ]
 | [],_::_=>by simp [eqL,JcJ]
 | _::_,[]=>by simp [eqL,JcJ]
 | x::xs,y::ys=>by simp only [eqL,JcJ,Jf3 xs ys]
theorem Jgy:∀ {ds:List D} {d:D},d∈ds->depD d<=depL ds
 | [],_,h=>by simp at h
 | x::xs,d,h=>by
  simp only [depL];rcases mem_cons.mp h with rfl | h
  ·exact Nat.le_max_left ..
  ·exact Nat.le_trans (Jgy h) (Nat.le_max_right ..)
def flatD:D->Bool
 | .tup _=>false
 | .lst _=>false
 | _=>true
def valD:D->V
 | .bl b=>.bl b
 | .int i=>.int i
 | .str x=>.str x
 | _=>.non
theorem Je9 {K:W.Frag} {H:Hp} {d:D} {v:V} (f:flatD d=true) (h:Rep K H d v):v=valD d:=by
 cases d <;> simp_all [flatD,Rep,valD]
theorem JgB {d:D} (f:flatD d=true):flatV (valD d)=true:=by
 cases d <;> simp_all [flatD,valD,flatV]
theorem JjQ {d e:D} (f:flatD d=true) (g:flatD e=true):eqV (valD d) (valD e)=eqD d e:=by
 cases d <;> cases e <;> simp_all [flatD,valD,eqV,eqD]
section
variable {X:Cx} {pins:List (Addr × Obj)} {σ : St} {H:Hp} {s:Shared}
theorem in1_units (A:Around):A.in1.units=A.units+1:=rfl
def EqP (X:Cx) (H:Hp) (s:Shared) (n:Nat):Prop:=∀ (d e:D) (A:Around) (x y:V) (u v:Value),depD d<=n->Rep X.K H d x->Rep X.K H e y->RelV x u->RelV y v->A.units+n<cLine->SeqAt.EqAt A s u v (eqD d e)
theorem JgG {n:Nat} (ih:EqP X H s n) {ds es:List D} {xs ys:List V} {its jts:List Value} (h3:RepL X.K H ds xs) (g3:RepL X.K H es ys) (vi:Vals xs its) (vj:Vals ys jts) (hds:depL ds<=n) {A:Around} (hA:A.units+n<cLine) :
  ∀ j (p1:j<its.toArray.size) (p2:j<jts.toArray.size),SeqAt.EqAt A s its.toArray[j] jts.toArray[j] (atB eqD ds es j):=by
 intro j p1 p2;have m:its.length=ds.length:=by rw [h3.length,vi.length]
 have i:jts.length=es.length:=by rw [g3.length,vj.length]
 have a:j<ds.length:=by rw [<- m];simpa using p1
 have b:j<es.length:=by rw [<- i];simpa using p2
 obtain ⟨v,g,e⟩:=h3.get (List.getElem?_eq_getElem a);obtain ⟨u,t,o⟩:=g3.get (List.getElem?_eq_getElem b);obtain ⟨p,c,q⟩:=vi.get g;obtain ⟨k,l,h⟩:=vj.get t;have f:its.toArray[j]=p:=by
  have:=c;rw [List.getElem?_eq_getElem (by simpa using p1)] at this;simpa using this
 have d:jts.toArray[j]=k:=by
  have:=l;rw [List.getElem?_eq_getElem (by simpa using p2)] at this;simpa using this
 rw [f,d];have r:atB eqD ds es j=eqD ds[j] es[j]:=by
  unfold atB;rw [List.getElem?_eq_getElem a,List.getElem?_eq_getElem b]
 rw [r];exact ih _ _ _ _ _ _ _ (Nat.le_trans (Jgy (List.getElem_mem a)) hds) e o q h hA
theorem Jlt (I:Inv X pins σ H s) {n:Nat} (ih:EqP X H s n) {ds es:List D} {a b:Addr} {xs ys:List V} (h2:SqT X.K H a xs) (h3:RepL X.K H ds xs) (g2:SqT X.K H b ys) (g3:RepL X.K H es ys) (hds:depL ds<=n) {A:Around} (hA:A.units+(n+1)<cLine) :
  SeqAt.RcAt A s (.ref a) (.ref b) (eqD (.tup ds) (.tup es))/\SeqAt.RcNeAt A s (.ref a) (.ref b) (!eqD (.tup ds) (.tup es)):=by
 obtain ⟨c,e,g,_⟩:=I.tuple h2;obtain ⟨d,f,h,_⟩:=I.tuple g2;have j:c.length=ds.length:=by rw [h3.length,e.length]
 have k:d.length=es.length:=by rw [g3.length,f.length]
 have i:=JgG ih h3 g3 e f hds (A:=A.in1) (by rw [in1_units];ac_nf);have l:eqD (.tup ds) (.tup es)=((List.range (min c.toArray.size d.toArray.size)).all (atB eqD ds es)&&c.toArray.size == d.toArray.size):=by
  simp only [eqD,Jf3];rw [<- JcK];simp only [size_toArray,j,k]
 rw [l];exact ⟨SeqAt.RcAt.tuples g h ∅ i,SeqAt.RcNeAt.tuples g h ∅ i⟩
theorem JkZ (I:Inv X pins σ H s) {n:Nat} (ih:EqP X H s n) {ds es:List D} {a b:Addr} {xs ys:List V} (h2:SqL X.K H a xs) (h3:RepL X.K H ds xs) (g2:SqL X.K H b ys) (g3:RepL X.K H es ys) (hds:depL ds<=n) {A:Around} (hA:A.units+(n+1)<cLine) :
  SeqAt.RcAt A s (.ref a) (.ref b) (eqD (.lst ds) (.lst es))/\SeqAt.RcNeAt A s (.ref a) (.ref b) (!eqD (.lst ds) (.lst es)):=by
 obtain ⟨d,k,f,_⟩:=I.list h2;obtain ⟨j,l,g,_⟩:=I.list g2;have e:d.length=ds.length:=by rw [h3.length,k.length]
 have h:j.length=es.length:=by rw [g3.length,l.length]
 have m:=JgG ih h3 g3 k l hds (A:=A.in1) (by rw [in1_units];ac_nf);by_cases c:ds.length=es.length
 ·have i:eqD (.lst ds) (.lst es)=(List.range d.toArray.size).all (atB eqD ds es):=by
   simp only [eqD,Jf3];rw [<- JcK];simp [e,c]
  rw [i];exact ⟨SeqAt.RcAt.lists f.isList g.isList (by simp [e,h,c]) ∅ m,SeqAt.RcNeAt.lists f.isList g.isList (by simp [e,h,c]) ∅ m⟩
 ·have i:eqD (.lst ds) (.lst es)=false:=by
   cases q:eqD (.lst ds) (.lst es) with
   | false=>rfl
   | true=>simp only [eqD] at q;exact absurd (JeA q) c
  rw [i];exact ⟨SeqAt.RcAt.lists_lengths f.isList g.isList (by simp [e,h,c]) ∅,SeqAt.RcNeAt.lists_lengths f.isList g.isList (by simp [e,h,c]) ∅⟩
theorem JcU {K:W.Frag} {d:D} {x:V} (h:Rep K H d x):(flatD d=true/\x=valD d)\/(∃ ds a xs,d=.tup ds/\x=.ref a/\SqT K H a xs/\RepL K H ds xs)\/∃ ds a xs,d=.lst ds/\x=.ref a/\SqL K H a xs/\RepL K H ds xs:=by
 cases d with
 | tup ds=>simp only [Rep] at h;obtain ⟨a,xs,c,b,e⟩:=h;exact .inr (.inl ⟨ds,a,xs,rfl,c,b,e⟩)
 | lst ds=>simp only [Rep] at h;obtain ⟨a,xs,c,b,e⟩:=h;exact .inr (.inr ⟨ds,a,xs,rfl,c,b,e⟩)
 | _=>exact .inl ⟨rfl,Je9 rfl h⟩
theorem JcO (I:Inv X pins σ H s) {d e:D} {x y:V} {u v:Value} (hd:Rep X.K H d x) (he:Rep X.K H e y) (ru:RelV x u) (rv:RelV y v) (m:flatD d=!flatD e) {A:Around} (hA:A.units<cLine) :
  eqD d e=false/\SeqAt.EqAt A s u v false/\SeqAt.RcAt A s u v false/\SeqAt.RcNeAt A s u v true:=by
 rcases JcU hd with ⟨fd,rfl⟩ | ⟨ds,a,xs,rfl,rfl,h2,h3⟩ | ⟨ds,a,xs,rfl,rfl,h2,h3⟩
 ·rcases JcU he with ⟨fe,rfl⟩ | ⟨es,b,ys,rfl,rfl,g2,g3⟩ | ⟨es,b,ys,rfl,rfl,g2,g3⟩
  ·rw [fd,fe] at m;cases m
  ·obtain rfl:v=Value.ref b:=rv;obtain ⟨f,g,c,_⟩:=I.tuple g2;refine ⟨by cases d <;> simp [eqD,flatD] at fd ⊢,?_⟩;cases d <;> simp only [valD,RelV] at ru <;> first | (simp [flatD] at fd;done) | skip
   ·subst ru;exact ⟨SeqAt.EqAt.none_tuple c hA,SeqAt.RcAt.none_tuple c hA,SeqAt.RcNeAt.none_tuple c hA⟩
   ·subst ru;exact ⟨SeqAt.EqAt.bool_tuple _ c hA,SeqAt.RcAt.bool_tuple _ c hA,SeqAt.RcNeAt.bool_tuple _ c hA⟩
   ·obtain ⟨t,rfl⟩:=ru;exact ⟨SeqAt.EqAt.int_tuple _ _ c hA,SeqAt.RcAt.int_tuple _ _ c hA,SeqAt.RcNeAt.int_tuple _ _ c hA⟩
   ·obtain ⟨t,rfl⟩:=ru;exact ⟨SeqAt.EqAt.str_tuple _ _ c hA,SeqAt.RcAt.str_tuple _ _ c hA,SeqAt.RcNeAt.str_tuple _ _ c hA⟩
  ·obtain rfl:v=Value.ref b:=rv;obtain ⟨f,g,c,_⟩:=I.list g2;have c:=c.isList;refine ⟨by cases d <;> simp [eqD,flatD] at fd ⊢,?_⟩;cases d <;> simp only [valD,RelV] at ru <;> first | (simp [flatD] at fd;done) | skip
   ·subst ru;exact ⟨SeqAt.EqAt.none_list c hA,SeqAt.RcAt.none_list c hA,SeqAt.RcNeAt.none_list c hA⟩
   ·subst ru;exact ⟨SeqAt.EqAt.bool_list _ c hA,SeqAt.RcAt.bool_list _ c hA,SeqAt.RcNeAt.bool_list _ c hA⟩
   ·obtain ⟨t,rfl⟩:=ru;exact ⟨SeqAt.EqAt.int_list _ _ c hA,SeqAt.RcAt.int_list _ _ c hA,SeqAt.RcNeAt.int_list _ _ c hA⟩
   ·obtain ⟨t,rfl⟩:=ru;exact ⟨SeqAt.EqAt.str_list _ _ c hA,SeqAt.RcAt.str_list _ _ c hA,SeqAt.RcNeAt.str_list _ _ c hA⟩
 ·rcases JcU he with ⟨fe,rfl⟩ | ⟨es,b,ys,rfl,rfl,g2,g3⟩ | ⟨es,b,ys,rfl,rfl,g2,g3⟩
  ·obtain rfl:u=Value.ref a:=ru;obtain ⟨f,g,c,_⟩:=I.tuple h2;refine ⟨by cases e <;> simp [eqD,flatD] at fe ⊢,?_⟩;cases e <;> simp only [valD,RelV] at rv <;> first | (simp [flatD] at fe;done) | skip
   ·subst rv;exact ⟨SeqAt.EqAt.tuple_none c hA,SeqAt.RcAt.tuple_none c hA,SeqAt.RcNeAt.tuple_none c hA⟩
   ·subst rv;exact ⟨SeqAt.EqAt.tuple_bool _ c hA,SeqAt.RcAt.tuple_bool _ c hA,SeqAt.RcNeAt.tuple_bool _ c hA⟩
   ·obtain ⟨t,rfl⟩:=rv;exact ⟨SeqAt.EqAt.tuple_int _ _ c hA,SeqAt.RcAt.tuple_int _ _ c hA,SeqAt.RcNeAt.tuple_int _ _ c hA⟩
   ·obtain ⟨t,rfl⟩:=rv;exact ⟨SeqAt.EqAt.tuple_str _ _ c hA,SeqAt.RcAt.tuple_str _ _ c hA,SeqAt.RcNeAt.tuple_str _ _ c hA⟩
  ·simp [flatD] at m
  ·simp [flatD] at m
 ·rcases JcU he with ⟨fe,rfl⟩ | ⟨es,b,ys,rfl,rfl,g2,g3⟩ | ⟨es,b,ys,rfl,rfl,g2,g3⟩
  ·obtain rfl:u=Value.ref a:=ru;obtain ⟨f,g,c,_⟩:=I.list h2;have c:=c.isList;refine ⟨by cases e <;> simp [eqD,flatD] at fe ⊢,?_⟩;cases e <;> simp only [valD,RelV] at rv <;> first | (simp [flatD] at fe;done) | skip
   ·subst rv;exact ⟨SeqAt.EqAt.list_none c hA,SeqAt.RcAt.list_none c hA,SeqAt.RcNeAt.list_none c hA⟩
   ·subst rv;exact ⟨SeqAt.EqAt.list_bool _ c hA,SeqAt.RcAt.list_bool _ c hA,SeqAt.RcNeAt.list_bool _ c hA⟩
   ·obtain ⟨t,rfl⟩:=rv;exact ⟨SeqAt.EqAt.list_int _ _ c hA,SeqAt.RcAt.list_int _ _ c hA,SeqAt.RcNeAt.list_int _ _ c hA⟩
   ·obtain ⟨t,rfl⟩:=rv;exact ⟨SeqAt.EqAt.list_str _ _ c hA,SeqAt.RcAt.list_str _ _ c hA,SeqAt.RcNeAt.list_str _ _ c hA⟩
  ·simp [flatD] at m
  ·simp [flatD] at m
theorem seq_eq (I:Inv X pins σ H s) {n:Nat} (ih:EqP X H s n) {d e:D} {x y:V} {u v:Value} (hn:depD d<=n+1) (hd:Rep X.K H d x) (he:Rep X.K H e y) (ru:RelV x u) (rv:RelV y v) (fd:flatD d=false) (fe:flatD e=false) {A:Around} (hA:A.units+(n+1)<cLine) :
  SeqAt.EqAt A s u v (eqD d e)/\SeqAt.RcAt A s u v (eqD d e)/\SeqAt.RcNeAt A s u v (!eqD d e):=by
 have k:=hd;have j:=he;rcases JcU hd with ⟨f,_⟩ | ⟨ds,a,xs,rfl,rfl,h2,h3⟩ | ⟨ds,a,xs,rfl,rfl,h2,h3⟩
 ·rw [f] at fd;cases fd
 ·obtain rfl:u=Value.ref a:=ru;have g:depL ds<=n:=by simp only [depD] at hn;ac_nf
  rcases JcU he with ⟨f,_⟩ | ⟨es,b,ys,rfl,rfl,g2,g3⟩ | ⟨es,b,ys,rfl,rfl,g2,g3⟩
  ·rw [f] at fe;cases fe
  ·obtain rfl:v=Value.ref b:=rv;have R:=Jlt I ih h2 h3 g2 g3 g hA;refine ⟨?_,R.1,R.2⟩;by_cases c:a=b
   ·subst c;rw [I.rep_inj k j,Jc6];exact SeqAt.EqAt.same _
   ·exact SeqAt.EqAt.of_refs c R.1
  ·obtain rfl:v=Value.ref b:=rv;obtain ⟨l,_,h,_⟩:=I.tuple h2;obtain ⟨m,_,i,_⟩:=I.list g2;exact ⟨SeqAt.EqAt.tuple_list h i.isList ∅,SeqAt.RcAt.tuple_list h i.isList ∅,SeqAt.RcNeAt.tuple_list h i.isList ∅⟩
 ·obtain rfl:u=Value.ref a:=ru;have g:depL ds<=n:=by simp only [depD] at hn;ac_nf
  rcases JcU he with ⟨f,_⟩ | ⟨es,b,ys,rfl,rfl,g2,g3⟩ | ⟨es,b,ys,rfl,rfl,g2,g3⟩
  ·rw [f] at fe;cases fe
  ·obtain rfl:v=Value.ref b:=rv;obtain ⟨l,_,h,_⟩:=I.list h2;obtain ⟨m,_,i,_⟩:=I.tuple g2;exact ⟨SeqAt.EqAt.list_tuple h.isList i ∅,SeqAt.RcAt.list_tuple h.isList i ∅,SeqAt.RcNeAt.list_tuple h.isList i ∅⟩
  ·obtain rfl:v=Value.ref b:=rv;have R:=JkZ I ih h2 h3 g2 g3 g hA;refine ⟨?_,R.1,R.2⟩;by_cases c:a=b
   ·subst c;rw [I.rep_inj k j,Jc6];exact SeqAt.EqAt.same _
   ·exact SeqAt.EqAt.of_refs c R.1
theorem Inv.eqP (I:Inv X pins σ H s):∀ n,EqP X H s n
 | 0=>fun d e A x y u v hn hd he ru rv hA=>by
  have fd:flatD d=true:=by
   cases d <;> simp [depD,flatD] at hn ⊢
  cases fe:flatD e with
  | true=>
   have ex:=Je9 fd hd;have ey:=Je9 fe he;subst ex ey;rw [<- JjQ fd fe];exact Jjk ru rv (JgB fd) (JgB fe)
  | false=>
   obtain ⟨e1,e2,_⟩:=JcO I hd he ru rv (by rw [fd,fe];rfl) (A:=A) ∅;rw [e1];exact e2
 | n+1=>fun d e A x y u v hn hd he ru rv hA=>by
  cases fd:flatD d with
  | true=>
   have h0:depD d<=n:=by cases d <;> simp [depD,flatD] at fd ⊢
   exact Inv.eqP I n d e A x y u v h0 hd he ru rv ∅
  | false=>
   cases fe:flatD e with
   | true=>
    obtain ⟨e1,e2,_⟩:=JcO I hd he ru rv (by rw [fd,fe];rfl) (A:=A) ∅;rw [e1];exact e2
   | false=>exact (seq_eq I (Inv.eqP I n) hn hd he ru rv fd fe hA).1
def rEqU (K:W.Frag):R2:=fun x y H Q=>match x,y with
 | .int i, .int j=>Q (.bl (decide (i=j))) H
 | .str i, .str j=>Q (.bl (decide (i=j))) H
 | .bl i, .bl j=>Q (.bl (decide (i=j))) H
 | .non, .non=>Q (.bl true) H
 | x,y=>∃ d e,Rep K H d x/\Rep K H e y/\depD d<=50/\(flatD d&&flatD e)=false/\Q (.bl (eqD d e)) H
def rNeU (K:W.Frag):R2:=fun x y H Q=>match x,y with
 | .int i, .int j=>Q (.bl (!decide (i=j))) H
 | .str i, .str j=>Q (.bl (!decide (i=j))) H
 | .bl i, .bl j=>Q (.bl (!decide (i=j))) H
 | .non, .non=>Q (.bl false) H
 | x,y=>∃ d e,Rep K H d x/\Rep K H e y/\depD d<=50/\(flatD d&&flatD e)=false/\Q (.bl (!eqD d e)) H
theorem Jbr (hu:X.A.units+64<cLine):OpR X (compareOp .Eq) (rEqU X.K):=fun a s σ H x y v u Q I c b q=>by
 unfold rEqU at q;split at q
 ·rename_i i j;exact op_eq a s σ H _ _ v u Q I c b ⟨rfl,by rw [show decide (V.int i=V.int j)=decide (i=j) from by simp];exact q⟩
 ·rename_i i j;exact op_eq a s σ H _ _ v u Q I c b ⟨rfl,by rw [show decide (V.str i=V.str j)=decide (i=j) from by simp];exact q⟩
 ·rename_i i j;exact op_eq a s σ H _ _ v u Q I c b ⟨rfl,by rw [show decide (V.bl i=V.bl j)=decide (i=j) from by simp];exact q⟩
 ·exact op_eq a s σ H _ _ v u Q I c b ⟨rfl,by simpa using q⟩
 ·obtain ⟨d,e,g,h,m,l,q⟩:=q;show wpAny (model X.prog X.w) X.A (richCompare .Eq v u) (EP X a σ Q) X.xe s;cases fd:flatD d with
  | true=>
   cases fe:flatD e with
   | true=>rw [fd,fe] at l;cases l
   | false=>
    obtain ⟨f,_,k,_⟩:=JcO I g h c b (by rw [fd,fe];rfl) (A:=X.A) ∅;rw [f] at q;exact k _ _ _ _ ⟨V.bl _,H,I,rfl,q⟩
  | false=>
   cases fe:flatD e with
   | true=>
    obtain ⟨f,_,k,_⟩:=JcO I g h c b (by rw [fd,fe];rfl) (A:=X.A) ∅;rw [f] at q;exact k _ _ _ _ ⟨V.bl _,H,I,rfl,q⟩
   | false=>exact (seq_eq I (I.eqP 49) m g h c b fd fe ∅).2.1 _ _ _ _ ⟨V.bl _,H,I,rfl,q⟩
theorem JbI (hu:X.A.units+64<cLine):OpR X (compareOp .NotEq) (rNeU X.K):=fun a s σ H x y v u Q I c b q=>by
 unfold rNeU at q;split at q
 ·rename_i i j;exact op_ne a s σ H _ _ v u Q I c b ⟨rfl,by rw [show decide (V.int i=V.int j)=decide (i=j) from by simp];exact q⟩
 ·rename_i i j;exact op_ne a s σ H _ _ v u Q I c b ⟨rfl,by rw [show decide (V.str i=V.str j)=decide (i=j) from by simp];exact q⟩
 ·rename_i i j;exact op_ne a s σ H _ _ v u Q I c b ⟨rfl,by rw [show decide (V.bl i=V.bl j)=decide (i=j) from by simp];exact q⟩
 ·exact op_ne a s σ H _ _ v u Q I c b ⟨rfl,by simpa using q⟩
 ·obtain ⟨d,e,g,h,m,l,q⟩:=q;show wpAny (model X.prog X.w) X.A (richCompare .NotEq v u) (EP X a σ Q) X.xe s;cases fd:flatD d with
  | true=>
   cases fe:flatD e with
   | true=>rw [fd,fe] at l;cases l
   | false=>
    obtain ⟨f,_,_,k⟩:=JcO I g h c b (by rw [fd,fe];rfl) (A:=X.A) ∅;rw [f] at q;exact k _ _ _ _ ⟨V.bl _,H,I,rfl,q⟩
  | false=>
   cases fe:flatD e with
   | true=>
    obtain ⟨f,_,_,k⟩:=JcO I g h c b (by rw [fd,fe];rfl) (A:=X.A) ∅;rw [f] at q;exact k _ _ _ _ ⟨V.bl _,H,I,rfl,q⟩
   | false=>exact (seq_eq I (I.eqP 49) m g h c b fd fe ∅).2.2 _ _ _ _ ⟨V.bl _,H,I,rfl,q⟩
end
def DivOk (j:Int):Prop:=j≠0/\j.natAbs.log2<9000
section
variable {X:Cx}
def rAddU (K:W.Frag):R2:=fun x y H Q=>match x,y with
 | .int i, .int j=>Q (.int (i+j)) H
 | .str i, .str j=>i.length+j.length<=sizeLine/\Q (.str (i++j)) H
 | .ref a, .ref b=>rCat (.ref a) (.ref b) H Q\/rCatT K (.ref a) (.ref b) H Q
 | _,_=>False
theorem Jbc:OpR X (binaryOp .Add) (rAddU X.K):=fun a s σ H x y v u Q I c b q=>by
 unfold rAddU at q;split at q
 ·exact Jk5 a s σ H _ _ v u Q I c b ⟨_,_,rfl,rfl,q⟩
 ·exact Jhf a s σ H _ _ v u Q I c b ⟨_,_,rfl,rfl,q.1,q.2⟩
 ·rcases q with q | q
  ·exact Jk6 a s σ H _ _ v u Q I c b q
  ·exact Jkc a s σ H _ _ v u Q I c b q
 ·exact q.elim
def rMulU:R2:=fun x y H Q=>match x,y with
 | .int i, .int j=>IntMulOk i j/\Q (.int (i*j)) H
 | _,_=>False
theorem Jke:OpR X (binaryOp .Mult) (rI IntMulOk fun i j=>.int (i*j)):=opI fun _ _ _ _ _ _ _ a q=>mul_int q a
theorem Jkf:OpR X (binaryOp .Mult) rMulU:=fun a s σ H x y v u Q I c b q=>by
 unfold rMulU at q;split at q
 ·exact Jke a s σ H _ _ v u Q I c b ⟨_,_,rfl,rfl,q.1,q.2⟩
 ·exact q.elim
def Jig:R2:=fun x y H Q=>match x,y with
 | .int i, .int j=>DivOk j/\Q (.int (i.fdiv j)) H
 | _,_=>False
theorem JiW:OpR X (binaryOp .FloorDiv) (rI (fun _ j=>DivOk j) fun i j=>.int (i.fdiv j)):=opI fun _ _ _ _ _ _ _ a q=>floordiv_int a.1 q (.inl (PyProof.noPylong_of_log2 a.2))
theorem Jau:OpR X (binaryOp .FloorDiv) Jig:=fun a s σ H x y v u Q I c b q=>by
 unfold Jig at q;split at q
 ·exact JiW a s σ H _ _ v u Q I c b ⟨_,_,rfl,rfl,q.1,q.2⟩
 ·exact q.elim
def rModU:R2:=fun x y H Q=>match x,y with
 | .int i, .int j=>j≠0/\Q (.int (i.fmod j)) H
 | _,_=>False
theorem JaG:OpR X (binaryOp .Mod) rModU:=fun a s σ H x y v u Q I c b q=>by
 unfold rModU at q;split at q
 ·exact Jkd a s σ H _ _ v u Q I c b ⟨_,_,rfl,rfl,q.1,q.2⟩
 ·exact q.elim
def rPowU:R2:=fun x y H Q=>match x,y with
 | .int i, .int j=>CPow i j/\Q (.int (i ^ j.toNat)) H
 | _,_=>False
theorem Je8:OpR X (binaryOp .Pow) rPowU:=fun a s σ H x y v u Q I c b q=>by
 unfold rPowU at q;split at q
 ·exact Jlb a s σ H _ _ v u Q I c b ⟨_,_,rfl,rfl,q.1,q.2⟩
 ·exact q.elim
def rCmpU (p:Int->Int->Bool):R2:=fun x y H Q=>match x,y with
 | .int i, .int j=>Q (.bl (p i j)) H
 | _,_=>False
theorem Je5 {op:CmpOp} {p:Int->Int->Bool} (h:OpR X (compareOp op) (rI0 fun i j=>.bl (p i j))):OpR X (compareOp op) (rCmpU p):=fun a s σ H x y v u Q I c b q=>by
 unfold rCmpU at q;split at q
 ·exact h a s σ H _ _ v u Q I c b ⟨_,_,rfl,rfl,q⟩
 ·exact q.elim
theorem Jdb:OpR X (compareOp .Lt) (rCmpU fun i j=>decide (i<j)):=Je5 op_lt
theorem Jla:OpR X (compareOp .LtE) (rCmpU fun i j=>decide (i<=j)):=Je5 op_le
theorem JgK:OpR X (compareOp .Gt) (rCmpU fun i j=>decide (j<i)):=Je5 op_gt
theorem Jjq:OpR X (compareOp .GtE) (rCmpU fun i j=>decide (j<=i)):=Je5 op_ge
def SqA (K:W.Frag) (H:Hp) (a:Addr) (xs:List V):Prop:=SqL K H a xs\/SqT K H a xs
def rIxU (K:W.Frag):R2:=fun x y H Q=>match x,y with
 | .ref p, .int i=>∃ xs v,SqA K H p xs/\atI xs i=some v/\Q v H
 | .str z, .int i=>∃ c,z.length<=sizeLine/\atI z.cps.toList i=some c/\Q (.str ⟨#[c]⟩) H
 | _,_=>False
theorem ix_U:IxR X (rIxU X.K):=fun b a d s σ H x y v u Q I i g q f=>by
 unfold rIxU at q;split at q
 ·obtain ⟨l,w,h | h,e,q⟩:=q
  ·exact JjX b a d s σ H _ _ v u Q I i g ⟨_,_,_,_,rfl,rfl,h,e,q⟩ f
  ·exact JkT b a d s σ H _ _ v u Q I i g ⟨_,_,_,_,rfl,rfl,h,e,q⟩ f
 ·obtain ⟨c,j,k,q⟩:=q;exact JkS b a d s σ H _ _ v u Q I i g ⟨_,_,_,rfl,rfl,j,k,q⟩ f
 ·exact q.elim
def rLen (K:W.Frag):List V->Hp->VK->Prop:=fun xs H Q=>match xs with
 | [.ref p]=>∃ ys,SqA K H p ys/\Q (.int ys.length) H
 | [.str z]=>z.length<=sizeLine/\Q (.int z.length) H
 | _=>False
theorem JaL:CallR X (.builtin "len") (rLen X.K):=fun a s σ H c b Q I r q=>by
 unfold rLen at q;split at q
 ·obtain ⟨d,h,q⟩:=q;exact Jfs a s σ H _ b Q I r ⟨_,_,rfl,h,q⟩
 ·exact Jft a s σ H _ b Q I r ⟨_,rfl,q.1,q.2⟩
 ·exact q.elim
def rAbs:List V->Hp->VK->Prop:=fun xs H Q=>match xs with
 | [.int i]=>Q (.int (if i<0 then -i else i)) H
 | _=>False
theorem Jc3:CallR X (.builtin "abs") rAbs:=fun a s σ H c b Q I r q=>by
 unfold rAbs at q;split at q
 ·exact JiG a s σ H _ b Q I r ⟨_,rfl,q⟩
 ·exact q.elim
def rMin:List V->Hp->VK->Prop:=fun xs H Q=>match xs with
 | [.int i, .int j]=>Q (.int (if j<i then j else i)) H
 | _=>False
theorem Jhu (hc:X.calm=true):CallR X (.builtin "min") rMin:=fun a s σ H c b Q I r q=>by
 unfold rMin at q;split at q
 ·exact Jht hc a s σ H _ b Q I r ⟨_,_,rfl,q⟩
 ·exact q.elim
def isiB (t T:String):Bool:=t == T||(t == "bool"&&T == "int")
def tyN (K:W.Frag) (H:Hp) (x:V) (t:String):Prop:=match x with
 | .int _=>t="int"
 | .str _=>t="str"
 | .bl _=>t="bool"
 | .non=>t="NoneType"
 | .ref a=>(t="list"/\∃ xs,SqL K H a xs)\/(t="tuple"/\∃ xs,SqT K H a xs)
 | _=>False
theorem kit_b (K:W.Frag) {t T:String} (ht:t∈["int","str","bool","NoneType","list","tuple"]) (hT:T∈["int","str","bool","list","tuple"]):W.kitOne K (.type t) (.type T)=some (isiB t T):=by
 simp only [mem_cons,not_mem_nil,or_false] at ht hT;rcases ht with rfl | rfl | rfl | rfl | rfl | rfl <;> rcases hT with rfl | rfl | rfl | rfl | rfl <;> with_unfolding_all rfl
def rIsi (K:W.Frag):List V->Hp->VK->Prop:=fun xs H Q=>match xs with
 | [x, .ty T]=>T∈["int","str","bool","list","tuple"]/\∃ t,tyN K H x t/\Q (.bl (isiB t T)) H
 | _=>False
theorem JaA:CallR X (.builtin "isinstance") (rIsi X.K):=fun g s σ H n v Q I r q=>by
 unfold rIsi at q;split at q
 ·rename_i x T;obtain ⟨e,t,d,q⟩:=q;obtain ⟨u,c,rfl,f,m⟩:=vals2 r;obtain rfl:c=Value.type T:=m;have b:∀ k,EP X g σ Q (.bool (isiB t T)) { s with toks:=k }:=fun k=>⟨V.bl _,H,I.tok k,rfl,q⟩;unfold tyN at d;split at d
  ·subst d;obtain ⟨_,rfl⟩:=f;exact W.kia_one W.kitx_int I.kIn True.intro (kit_b _ ⋯ e) (fun z=>nomatch z) b
  ·subst d;obtain ⟨_,rfl⟩:=f;exact W.kia_one W.kitx_str I.kIn True.intro (kit_b _ ⋯ e) (fun z=>nomatch z) b
  ·subst d;cases (show u=Value.bool _ from f);exact W.kia_one W.kitx_bool I.kIn True.intro (kit_b _ ⋯ e) (fun z=>nomatch z) b
  ·subst d;cases (show u=Value.none from f);exact W.kia_one W.kitx_none I.kIn True.intro (kit_b _ ⋯ e) (fun z=>nomatch z) b
  ·rename_i a;cases (show u=Value.ref a from f);rcases d with ⟨rfl,ys,h⟩ | ⟨rfl,ys,h⟩
   ·obtain ⟨l,_,p,_⟩:=I.list h;obtain ⟨o,_,i,j,_⟩:=p;exact W.kia_one W.kitx_list I.kIn ⟨o,i,j⟩ (kit_b _ ⋯ e) (fun z=>nomatch z) b
   ·obtain ⟨l,_,p,_⟩:=I.tuple h;obtain ⟨o,i,j,_⟩:=p;exact W.kia_one W.kitx_tuple I.kIn ⟨o,i,j⟩ (kit_b _ ⋯ e) (fun z=>nomatch z) b
  ·exact d.elim
 ·exact q.elim
end
section
variable {X:Cx} {tg:Expr}
def iAny (K:W.Frag) (tl:TE):TI:=fun σ H R=>tl σ H fun x H1=>∃ a,x=.ref a/\(((∃ xs,SqL K H1 a xs)/\R (Itl K a) H1)\/((∃ xs,SqT K H1 a xs)/\R (Itt K a) H1))
theorem pi_U {l:Expr} {tl:TE} (hl:PE X l tl):PI X tg l (iAny X.K tl):=fun f s σ H R I h=>by
 refine thn (hl f s σ H _ I h) fun v c ζ=>?_;obtain ⟨x,i,I1,m,a,k,q⟩:=ζ;subst k;cases m;rcases q with ⟨⟨xs,hq⟩,q⟩ | ⟨⟨xs,hq⟩,q⟩
 ·obtain ⟨d,n,p,j⟩:=I1.list hq;refine wpAny_pyIter_list p.isList ?_;refine ⟨c.heap.objs.size,[c.heap.objs.size],_,_,i,rfl,I1.kept (t':=c.toks) fun b o e=>Heap.get?_push_of_some _ e,Jiy a _,⟨_,Heap.get?_push_size _ rfl,rfl,rfl⟩,fun b g=>?_,q⟩;have e:b=c.heap.objs.size:=by simpa using g
  subst e;exact I1.fpOk (Nat.le_refl _) (I1.hok.fresh (Nat.le_refl _))
 ·obtain ⟨d,n,p,j⟩:=I1.tuple hq;refine wpAny_pyIter_tuple (show c.heap.IsTuple a d.toArray from p) ?_;refine ⟨c.heap.objs.size,[c.heap.objs.size],_,_,i,rfl,I1.kept (t':=c.toks) fun b o e=>Heap.get?_push_of_some _ e,Jho a _,⟨_,Heap.get?_push_size _ rfl,rfl,rfl⟩,fun b g=>?_,q⟩;have e:b=c.heap.objs.size:=by simpa using g
  subst e;exact I1.fpOk (Nat.le_refl _) (I1.hok.fresh (Nat.le_refl _))
theorem JjT {K:W.Frag} {a:Addr} {xs:List V} {g:TG} {tb:TS} {D:Ends} {σ : St} {H:Hp} (hA:SqA K H a xs) (Pv:Nat->St->Hp->Prop) (h0:Pv 0 σ H) (hl:∀ i σ H',i<=xs.length->Pv i σ H'->Same H H')
  (hs:∀ i x σ H,xs[i]?=some x->Pv i σ H->g x σ H fun σ2 H2=>tb { D with nx:=Pv (i+1),ct:=Pv (i+1),bk:=D.nx } σ2 H2) (hd:∀ σ H,Pv xs.length σ H->D.nx σ H) :
  ((∃ xs,SqL K H a xs)/\∃ W:Nat->Nat->St->Hp->Prop,(∃ m,W 0 m σ H)/\∀ i m σ H,W i m σ H ->
   ((Itl K a).stop i H/\D.nx σ H)\/((Itl K a).go i H/\∃ N:St->Hp->Prop,(∀ σ' H',N σ' H'->∃ m',m'<m/\W (i+1) m' σ' H')/\∀ x H',(Itl K a).yld i H x H'->g x σ H' fun σ2 H2=>tb { D with nx:=N,ct:=N,bk:=D.nx } σ2 H2)) \/
  ((∃ xs,SqT K H a xs)/\∃ W:Nat->Nat->St->Hp->Prop,(∃ m,W 0 m σ H)/\∀ i m σ H,W i m σ H ->
   ((Itt K a).stop i H/\D.nx σ H)\/((Itt K a).go i H/\∃ N:St->Hp->Prop,(∀ σ' H',N σ' H'->∃ m',m'<m/\W (i+1) m' σ' H')/\∀ x H',(Itt K a).yld i H x H'->g x σ H' fun σ2 H2=>tb { D with nx:=N,ct:=N,bk:=D.nx } σ2 H2)):=by
 rcases hA with hA | hA
 ·exact .inl ⟨⟨xs,hA⟩,JiJ (xs:=xs) Pv h0 (fun i σ H' c b=>hA.same (hl i σ H' c b)) hs hd⟩
 ·exact .inr ⟨⟨xs,hA⟩,JjU (xs:=xs) Pv h0 (fun i σ H' c b=>hA.same (hl i σ H' c b)) hs hd⟩
end
structure FunD (K:W.Frag) (x qual:Str) (st:Stmt) (dV:Value) (f:Addr) (fd:FuncData):Prop where
 ex:∃ (oc:Value) (od:Option Addr) (kV doc pm:Value) (an:Option Addr) (cdv ct:Value) (osl:Array (Option Value)),
  fd=W.fnOf x qual (Jam st) (Jal st) (Jae st) dV kV doc pm an cdv ct/\K.lookup f=some ⟨oc,od, .func fd,osl⟩/\W.codeIn K cdv qual=true
 kp:W.keepIn K (.ref f)=true
section
variable {P:Program} {w:World} {K:W.Frag} {mg:Str->Option Value} {base:Heap}
theorem FunD.okn {x qual:Str} {st:Stmt} {dV:Value} {f:Addr} {fd:FuncData} {N ps:List Str} {k:Nat} {sp:Sp} (F:FunD K x qual st dV f fd) (S:Jan N ps (Jae st)) (len:∀ vs H Q E,sp vs H Q E->vs.length=ps.length)
  (hbody:∀ (cdv:Value) (A:Around) (outer:List Env) (s:Shared) (H:Hp) (vs:List V) (Q:VK) (E:XK),Room k (A.deeper (envOfC qual (Jae st) s.heap.objs.size f cdv))->sp vs H Q E ->
   ∃ t,PSs (cxOf (CX1 P w) P w K mg base N qual (Jae st) f cdv A outer s H E).nox (Jal st) t/\t { nx:=fun _ H'=>Q .non H',rt:=Q } (start N vs) H):FnOk P w K mg base (CX1 P w) (k+1) f fd ps sp:=by
 obtain ⟨l,m,kV,g,n,i,cdv,j,d,rfl,e,a⟩:=F.ex;refine fn_of e a S len fun A outer s H vs Q E c b=>?_;obtain ⟨t,h,q⟩:=hbody cdv A outer s H vs Q E c b;exact ⟨t,h.nox,q⟩
theorem FunD.okx {x qual:Str} {st:Stmt} {dV:Value} {f:Addr} {fd:FuncData} {N ps:List Str} {k:Nat} {sp:Sp} (F:FunD K x qual st dV f fd) (S:Jan N ps (Jae st)) (len:∀ vs H Q E,sp vs H Q E->vs.length=ps.length)
  (hbody:∀ (cdv:Value) (A:Around) (outer:List Env) (s:Shared) (H:Hp) (vs:List V) (Q:VK) (E:XK),Room k (A.deeper (envOfC qual (Jae st) s.heap.objs.size f cdv))->sp vs H Q E ->
   ∃ t,PSs (cxOf (CX1 P w) P w K mg base N qual (Jae st) f cdv A outer s H E) (Jal st) t/\t { nx:=fun _ H'=>Q .non H',rt:=Q } (start N vs) H):FnOk P w K mg base (CX1 P w) (k+1) f fd ps sp:=by
 obtain ⟨j,l,kV,g,m,h,cdv,i,d,rfl,e,a⟩:=F.ex;exact fn_of e a S len fun A outer s H vs Q E c b=>hbody cdv A outer s H vs Q E c b
theorem FunD.binds {x qual:Str} {st:Stmt} {dV:Value} {f:Addr} {fd:FuncData} {ps:List Str} (F:FunD K x qual st dV f fd)
  (h:∀ (kV doc pm:Value) (an:Option Addr) (cdv ct:Value) (us:List Value),us.length=ps.length->bindArgs (W.fnOf x qual (Jam st) (Jal st) (Jae st) dV kV doc pm an cdv ct) ⟨us,[]⟩=pure (ps.zip us)):Binds K fd ps []:=by
 obtain ⟨e,d,kV,doc,pm,an,cdv,ct,a,rfl,c,b⟩:=F.ex;exact .all (h kV doc pm an cdv ct)
theorem Jao {x qual:Str} {st:Stmt} {dV:Value} {f:Addr} {oc:Value} {od an:Option Addr} {osl:Array (Option Value)} {kV doc pm cdv ct:Value} (l:K.lookup f=some ⟨oc,od, .func (W.fnOf x qual (Jam st) (Jal st) (Jae st) dV kV doc pm an cdv ct),osl⟩)
  (c:W.codeIn K cdv qual=true) (k:W.keepIn K (.ref f)=true):FunD K x qual st dV f (W.fnOf x qual (Jam st) (Jal st) (Jae st) dV kV doc pm an cdv ct):=⟨⟨oc,od,kV,doc,pm,an,cdv,ct,osl,rfl,l,c⟩,k⟩
end
structure Cal (P:Program) (w:World) (K:W.Frag) (mg:Str->Option Value) (base:Heap) (k:Nat) (x:Str) (ps:List Str) (dvs:List V) (sp:Sp):Prop where
 ex:∃ (f:Addr) (fd:FuncData) (ds:List Value),FnOk P w K mg base (CX1 P w) k f fd ps sp/\mg x=some (.ref f)/\W.keepIn K (.ref f)=true/\Binds K fd ps ds/\Vals dvs ds
section
variable {X:Cx} {k k':Nat} {x:Str} {ps:List Str} {dvs:List V} {sp:Sp} {E:XK} {p pos:Pos} {e:Expr} {es:List Expr} {t:TA}
theorem Cal.ev (G:Cal X.prog X.w X.K X.mg X.base k x ps dvs sp) (hr:Room k' X.A) (hk:k<=k') (hg:Gl X x) (hx:JbU (CX1 X.prog X.w) X E) (ha:PA X (e::es) t)
  (hdb:(x == ("__debug__" : Str))=false:=by decide) (he:starEach (e::es) X.env=(false,eval e X.env)::starEach es X.env:=by rfl) (hpl:(backTo pos (starEach es X.env)).any (·.1)=false:=by rfl) :
  PE X (.Call (.Name x p) (e::es) [] pos) (tCall sp dvs E t):=by
 obtain ⟨f,g,h,F,d,a,b,c⟩:=G.ex;exact Jki F (hr.mono hk) hg d a b c hx ha hdb he hpl
theorem Cal.ev0 (G:Cal X.prog X.w X.K X.mg X.base k x ps dvs sp) (hr:Room k' X.A) (hk:k<=k') (hg:Gl X x) (hx:JbU (CX1 X.prog X.w) X E) (hdb:(x == ("__debug__" : Str))=false:=by decide) :
  PE X (.Call (.Name x p) [] [] pos) (tCall sp dvs E tNil):=by
 obtain ⟨f,e,g,F,d,a,b,c⟩:=G.ex;exact JiY F (hr.mono hk) hg d a b c hx hdb
end
end L2
namespace Mth
def g (a b:Int):Int:=(Int.gcd a b:Nat)
theorem Jjn (a:Int):g a 0=(a.natAbs:Int):=by unfold g;rw [Int.gcd_zero_right]
theorem g_pos {a b:Int} (h:b≠0):0<g a b:=by
 unfold g;exact Int.natCast_pos.mpr (Int.gcd_pos_of_ne_zero_right a h)
theorem Jcu (a b:Int):g a b∣a:=Int.gcd_dvd_left ..
theorem JbH (a b:Int):g a b∣b:=Int.gcd_dvd_right ..
theorem JkQ (a b:Int):g b (a % b)=g a b:=by
 unfold g;rw [Int.gcd_comm b (a % b)];first
  | rw [Int.gcd_emod_left]
  | (rw [Int.emod_def];simp [Int.gcd_comm])
theorem BdZ (a b:Int):g (if a<0 then -a else a) (if b<0 then -b else b)=g a b:=by
 unfold g;split <;> split <;> simp [Int.neg_gcd,Int.gcd_neg]
theorem Jjg (a:Int):0<=(if a<0 then -a else a):=by split <;> ac_nf
theorem g_le {a b:Int} (h:b≠0):g a b<=(b.natAbs:Int):=by
 unfold g;exact Int.ofNat_le.mpr (Nat.le_of_dvd ∅ (Int.natAbs_dvd_natAbs.mpr (by simpa using Int.gcd_dvd_right (a:=a) (b:=b)) |> fun z=>by simpa using z))
theorem fm {x y:Int} (h:0<y):0<=x.fmod y/\x.fmod y<y:=by
 rw [Int.fmod_eq_emod_of_nonneg _ ∅];exact ⟨Int.emod_nonneg _ ∅,Int.emod_lt_of_pos _ h⟩
theorem JhG {x y:Int} (h:0<y):g y (x.fmod y)=g x y:=by
 rw [Int.fmod_eq_emod_of_nonneg _ ∅];exact JkQ x y
def by_ (t b:Int):Int:=if b<0 then -(g t b) else g t b
def top (t b:Int):Int:=t.fdiv (by_ t b)
def bot (t b:Int):Int:=b.fdiv (by_ t b)
theorem by_ne {t b:Int} (h:b≠0):by_ t b≠0:=by
 have:=g_pos (a:=t) h;unfold by_;split <;> ac_nf
theorem JjL (t b:Int):by_ t b∣t:=by
 unfold by_;split
 ·exact Int.neg_dvd.mpr (Jcu t b)
 ·exact Jcu t b
theorem JjM (t b:Int):by_ t b∣b:=by
 unfold by_;split
 ·exact Int.neg_dvd.mpr (JbH t b)
 ·exact JbH t b
theorem JaJ {a d:Int} (h:d∣a) (hd:d≠0):a.fdiv d*d=a:=by
 obtain ⟨k,rfl⟩:=h;rw [Int.mul_comm d k,Int.mul_fdiv_cancel _ hd]
theorem Jel {t b:Int} (h:b≠0):top t b*by_ t b=t:=JaJ (JjL t b) (by_ne h)
theorem JdM {t b:Int} (h:b≠0):bot t b*by_ t b=b:=JaJ (JjM t b) (by_ne h)
theorem JcS {t b:Int} (h:b≠0):1<=bot t b:=by
 have c:=JdM (t:=t) h;have d:=g_pos (a:=t) h;by_cases f:b<0
 ·have e:by_ t b = -(g t b):=by unfold by_;rw [if_pos f]
  rw [e] at c;have i:bot t b*g t b = -b:=by rw [Int.mul_neg] at c;ac_nf
  rcases Int.lt_trichotomy (bot t b) 0 with z | z | z
  ·have:=Int.mul_neg_of_neg_of_pos z d;ac_nf
  ·rw [z] at i;ac_nf
  ·ac_nf
 ·have e:by_ t b=g t b:=by unfold by_;rw [if_neg f]
  rw [e] at c;rcases Int.lt_trichotomy (bot t b) 0 with z | z | z
  ·have:=Int.mul_neg_of_neg_of_pos z d;ac_nf
  ·rw [z] at c;ac_nf
  ·ac_nf
theorem cross {t b:Int} (h:b≠0):top t b*b=t*bot t b:=by
 have a:=Jel (t:=t) h;have c:=JdM (t:=t) h
 calc top t b*b=top t b*(bot t b*by_ t b):=by rw [c]
  _=(top t b*by_ t b)*bot t b:=by rw [Int.mul_comm (bot t b),Int.mul_assoc]
  _=t*bot t b:=by rw [a]
theorem JhS (t b:Int):(by_ t b).natAbs=Int.gcd t b:=by
 unfold by_ g;split <;> simp
theorem g_low {t b:Int} (h:b≠0):g (top t b) (bot t b)=1:=by
 have a:0<Int.gcd t b:=Int.gcd_pos_of_ne_zero_right t h;have e:Int.gcd (top t b*by_ t b) (bot t b*by_ t b)=Int.gcd (top t b) (bot t b)*(by_ t b).natAbs:=Int.gcd_mul_right ..;rw [Jel h,JdM h,JhS] at e;have : Int.gcd (top t b) (bot t b)=1:=by
  rcases Nat.lt_trichotomy (Int.gcd (top t b) (bot t b)) 1 with z | z | z
  ·have : Int.gcd (top t b) (bot t b)=0:=by ac_nf
   rw [this] at e;ac_nf
  ·exact z
  ·have:=Nat.mul_le_mul_right (Int.gcd t b) z;ac_nf
 unfold g;rw [this];rfl
theorem Jdp {a b d:Int} (g1:Int.gcd a b=1) (h:b∣a*d):b∣d:=by
 have e:b.natAbs∣a.natAbs*d.natAbs:=by rw [<- Int.natAbs_mul];exact Int.natAbs_dvd_natAbs.mpr h
 have c:Nat.Coprime b.natAbs a.natAbs:=by
  unfold Nat.Coprime;rw [Nat.gcd_comm];exact g1
 exact Int.natAbs_dvd_natAbs.mp (c.dvd_of_dvd_mul_left e)
theorem Jds {a b c d:Int} (hb:1<=b) (hd:1<=d) (h1:g a b=1) (h2:g c d=1) (e:a*d=c*b):a=c/\b=d:=by
 have i:Int.gcd a b=1:=by unfold g at h1;ac_nf
 have k:Int.gcd c d=1:=by unfold g at h2;ac_nf
 have f:b∣d:=by
  have : b∣a*d:=⟨c,by rw [e,Int.mul_comm]⟩;exact Jdp i this
 have h:d∣b:=by
  have : d∣c*b:=⟨a,by rw [<- e,Int.mul_comm]⟩;exact Jdp k this
 have j:b=d:=Int.dvd_antisymm ∅ ∅ f h;subst j;refine ⟨?_,rfl⟩;exact Int.eq_of_mul_eq_mul_right ∅ e
theorem Jls {t b:Int} (h:b≠0):(top t b).natAbs<=t.natAbs:=by
 have c:=Jel (t:=t) h;have d:(by_ t b).natAbs≠0:=by have:=by_ne (t:=t) h;ac_nf
 have a:=congrArg Int.natAbs c;rw [Int.natAbs_mul] at a;rw [<- a];exact Nat.le_mul_of_pos_right _ ∅
theorem bot_le {t b:Int} (h:b≠0):(bot t b).natAbs<=b.natAbs:=by
 have c:=JdM (t:=t) h;have d:(by_ t b).natAbs≠0:=by have:=by_ne (t:=t) h;ac_nf
 have a:=congrArg Int.natAbs c;rw [Int.natAbs_mul] at a
 calc (bot t b).natAbs<=(bot t b).natAbs*(by_ t b).natAbs:=Nat.le_mul_of_pos_right _ ∅
  _=b.natAbs:=a
theorem Jjo {t b:Int} (h:b≠0):(if b<0 then -t else t).fdiv (g (if b<0 then -t else t) (if b<0 then -b else b))=top t b/\(if b<0 then -b else b).fdiv (g (if b<0 then -t else t) (if b<0 then -b else b))=bot t b:=by
 have f:=Jel (t:=t) h;have d:=JdM (t:=t) h;have j:=g_pos (a:=t) h;by_cases c:b<0
 ·have e:by_ t b = -(g t b):=by unfold by_;rw [if_pos c]
  simp only [if_pos c];have i:g (-t) (-b)=g t b:=by unfold g;simp [Int.neg_gcd,Int.gcd_neg]
  rw [i];rw [e,Int.mul_neg] at f d;constructor
  ·have : -t=top t b*g t b:=by ac_nf
   rw [this,Int.mul_fdiv_cancel _ ∅]
  ·have : -b=bot t b*g t b:=by ac_nf
   rw [this,Int.mul_fdiv_cancel _ ∅]
 ·have e:by_ t b=g t b:=by unfold by_;rw [if_neg c]
  simp only [if_neg c];unfold top bot;rw [e];exact ⟨rfl,rfl⟩
theorem Jj5 {n k:Nat} (h:n<2 ^ k) (hk:k<9000):n.log2<9000:=by
 by_cases z:n=0
 ·rw [z];decide
 ·exact Nat.lt_trans ((Nat.log2_lt z).mpr h) hk
def Sz (n:Nat) (i:Int):Prop:=i.natAbs<2 ^ n
theorem Sz.mono {m n:Nat} {i:Int} (h:Sz m i) (k:m<=n):Sz n i:=Nat.lt_of_lt_of_le h (Nat.pow_le_pow_right ⋯ k)
theorem Sz.mul {m n:Nat} {i j:Int} (h:Sz m i) (k:Sz n j):Sz (m+n) (i*j):=by
 unfold Sz at *;rw [Int.natAbs_mul,Nat.pow_add];exact Nat.mul_lt_mul'' h k
theorem Sz.add {n:Nat} {i j:Int} (h:Sz n i) (k:Sz n j):Sz (n+1) (i+j):=by
 unfold Sz at *;have:=Int.natAbs_add_le i j;rw [Nat.pow_succ];ac_nf
theorem Sz.neg {n:Nat} {i:Int} (h:Sz n i):Sz n (-i):=by
 unfold Sz at *;rw [Int.natAbs_neg];exact h
theorem Sz.top {n:Nat} {t b:Int} (hb:b≠0) (h:Sz n t):Sz n (Mth.top t b):=Nat.lt_of_le_of_lt (Jls hb) h
theorem Sz.bot {n:Nat} {t b:Int} (hb:b≠0) (h:Sz n b):Sz n (Mth.bot t b):=Nat.lt_of_le_of_lt (bot_le hb) h
theorem Sz.lit {n:Nat} {i:Int} (h1 : -(2 ^ n)<i) (h2:i<2 ^ n):Sz n i:=by
 unfold Sz;have e:((2 ^ n:Nat):Int)=2 ^ n:=by simp
 ac_nf
end Mth
namespace Mth
theorem Jcc {a b:Int} (h:g a b=1):Int.gcd a b=1:=by unfold g at h;ac_nf
theorem JdK {a b:Int} (h:Int.gcd a b=1):g a b=1:=by unfold g;rw [h];rfl
theorem JbV {t x y:Int} (h1:Int.gcd t x=1) (h2:Int.gcd t y=1):Int.gcd t (x*y)=1:=by
 unfold Int.gcd at *;rw [Int.natAbs_mul];exact Nat.Coprime.mul_right h1 h2
theorem Jey {x y:Int} (h:∀ k:Int,k∣x->k∣y->k∣1):Int.gcd x y=1:=by
 have:=h (Int.gcd x y:Nat) (Int.gcd_dvd_left ..) (Int.gcd_dvd_right ..);have z:=Int.natAbs_dvd_natAbs.mpr this;simp at z;exact z
theorem Jez {k x y:Int} (h:Int.gcd x y=1) (h1:k∣x) (h2:k∣y):k∣1:=by
 have z:=Int.dvd_coe_gcd h1 h2;rw [h] at z;exact z
theorem Jb2 {t u x:Int} (h:Int.gcd t x=1) (d:u∣t):Int.gcd u x=1:=Jey fun k a b=>Jez h (Int.dvd_trans a d) b
theorem JaT {x y:Int} (h:Int.gcd x y=1):Int.gcd y x=1:=by rw [Int.gcd_comm];exact h
theorem Jhw {a b c d:Int} (h1:Int.gcd a b=1) (h2:Int.gcd d b=1):Int.gcd (a*d+c*b) b=1:=by
 have : Int.gcd b (a*d)=1:=JbV (JaT h1) (JaT h2);refine Jey fun k g f=>Jez this f ?_;have : k∣(a*d+c*b)-c*b:=Int.dvd_sub g (Int.dvd_mul_of_dvd_right f);have e:(a*d+c*b)-c*b=a*d:=by ac_nf
 rwa [e] at this
theorem JbW {a d:Int} (h:d∣a) (hd:1<=d) (ha:1<=a):1<=a.fdiv d:=by
 have e:=JaJ h ∅;rcases Int.lt_trichotomy (a.fdiv d) 0 with z | z | z
 ·have:=Int.mul_neg_of_neg_of_pos z (show 0<d by ac_nf);ac_nf
 ·rw [z] at e;ac_nf
 ·ac_nf
theorem JcN {b d s:Int} (hs:s=g b d) (p:1<=s):Int.gcd (b.fdiv s) (d.fdiv s)=1:=by
 have c:b.fdiv s*s=b:=JaJ (by rw [hs];exact Jcu ..) ∅;have f:d.fdiv s*s=d:=JaJ (by rw [hs];exact JbH ..) ∅;have e:Int.gcd (b.fdiv s*s) (d.fdiv s*s)=Int.gcd (b.fdiv s) (d.fdiv s)*s.natAbs:=Int.gcd_mul_right ..;rw [c,f] at e;have a:Int.gcd b d=s.natAbs:=by rw [hs];unfold g;simp
 rw [a] at e;rcases Nat.lt_trichotomy (Int.gcd (b.fdiv s) (d.fdiv s)) 1 with z | z | z
 ·have : Int.gcd (b.fdiv s) (d.fdiv s)=0:=by ac_nf
  rw [this] at e;ac_nf
 ·exact z
 ·have:=Nat.mul_le_mul_right s.natAbs z;ac_nf
theorem Jko {a b c d:Int} (hb:1<=b) (hd:1<=d) (h1:g a b=1) (h2:g c d=1) {s t r:Int} (hs:s=g b d) (ht:t=a*d.fdiv s+c*b.fdiv s) (hr:r=g t s) :
  t.fdiv r=top (a*d+c*b) (b*d)/\b.fdiv s*d.fdiv r=bot (a*d+c*b) (b*d):=by
 have m:1<=s:=by rw [hs];have:=g_pos (a:=b) (b:=d) ∅;ac_nf
 have B:1<=r:=by rw [hr];have:=g_pos (a:=t) (b:=s) ∅;ac_nf
 have A:s∣b:=by rw [hs];exact Jcu ..
 have j:s∣d:=by rw [hs];exact JbH ..
 have I:r∣t:=by rw [hr];exact Jcu ..
 have w:r∣s:=by rw [hr];exact JbH ..
 have z:r∣d:=Int.dvd_trans w j;have u:=JaJ A ∅;have l:=JaJ j ∅;have x:=JaJ I ∅;have y:=JaJ z ∅;have J:=JaJ w ∅;have N:=JbW A m hb;have M:=JbW j m hd;have K:=JbW z B hd;have f:=JcN hs m;have v:Int.gcd (t.fdiv r) (s.fdiv r)=1:=JcN hr B;have q:d.fdiv r=d.fdiv s*s.fdiv r:=by
  refine Int.eq_of_mul_eq_mul_right (a:=r) ∅ ?_;rw [y,Int.mul_assoc,J,l]
 have F:Int.gcd a (b.fdiv s)=1:=JaT (Jb2 (JaT (Jcc h1)) ⟨s,u.symm⟩);have E:Int.gcd c (d.fdiv s)=1:=JaT (Jb2 (JaT (Jcc h2)) ⟨s,l.symm⟩);have C:Int.gcd t (b.fdiv s)=1:=by rw [ht];exact Jhw F (JaT f)
 have G:Int.gcd t (d.fdiv s)=1:=by rw [ht,Int.add_comm];exact Jhw E f
 have n:g (t.fdiv r) (b.fdiv s*d.fdiv r)=1:=JdK (by
  rw [q];have k:t.fdiv r∣t:=⟨r,x.symm⟩;exact JbV (Jb2 C k) (JbV (Jb2 G k) v))
 have e:b*d≠0:=Int.mul_ne_zero ∅ ∅;have i:=g_low (t:=a*d+c*b) e;have h:=JcS (t:=a*d+c*b) e;have o:=cross (t:=a*d+c*b) e;have p:1<=b.fdiv s*d.fdiv r:=by
  have:=Int.mul_pos (show 0<b.fdiv s by ac_nf) (show 0<d.fdiv r by ac_nf);ac_nf
 have L:t*s=a*d+c*b:=by
  rw [ht,Int.add_mul,Int.mul_assoc,Int.mul_assoc,l,u]
 have D:t.fdiv r*(b*d)=(a*d+c*b)*(b.fdiv s*d.fdiv r):=by
  have H:(t.fdiv r*(b*d))*r=((a*d+c*b)*(b.fdiv s*d.fdiv r))*r:=by
   calc (t.fdiv r*(b*d))*r=(t.fdiv r*r)*(b*d):=by ac_rfl
    _=t*((b.fdiv s*s)*d):=by rw [x,u]
    _=(t*s)*(b.fdiv s*d):=by ac_rfl
    _=(a*d+c*b)*(b.fdiv s*(d.fdiv r*r)):=by rw [L,y]
    _=((a*d+c*b)*(b.fdiv s*d.fdiv r))*r:=by ac_rfl
  exact Int.eq_of_mul_eq_mul_right ∅ H
 refine Jds p h n i ?_;refine Int.eq_of_mul_eq_mul_right (a:=b*d) e ?_
 calc (t.fdiv r*bot (a*d+c*b) (b*d))*(b*d)=(t.fdiv r*(b*d))*bot (a*d+c*b) (b*d):=by ac_rfl
  _=((a*d+c*b)*bot (a*d+c*b) (b*d))*(b.fdiv s*d.fdiv r):=by rw [D];ac_rfl
  _=(top (a*d+c*b) (b*d)*(b*d))*(b.fdiv s*d.fdiv r):=by rw [o]
  _=(top (a*d+c*b) (b*d)*(b.fdiv s*d.fdiv r))*(b*d):=by ac_rfl
theorem JdP {a d:Int} (h:d∣a) (hd:1<=d):(a.fdiv d).natAbs<=a.natAbs:=by
 have e:=congrArg Int.natAbs (JaJ h (show d≠0 by ac_nf));rw [Int.natAbs_mul] at e
 calc (a.fdiv d).natAbs<=(a.fdiv d).natAbs*d.natAbs:=Nat.le_mul_of_pos_right _ ∅
  _=a.natAbs:=e
theorem Sz.fdiv {n:Nat} {a d:Int} (h:Sz n a) (k:d∣a) (hd:1<=d):Sz n (a.fdiv d):=Nat.lt_of_le_of_lt (JdP k hd) h
theorem g_neg {a b:Int}:g (-a) b=g a b:=by unfold g;simp [Int.neg_gcd]
end Mth
namespace Mth
theorem Jjc {a b c d:Int} (hb:1<=b) (hd:1<=d) (h1:g a b=1) (h2:g c d=1) {u v:Int} (hu:u=g a d) (hv:v=g c b) :
  a.fdiv u*c.fdiv v=top (a*c) (b*d)/\b.fdiv v*d.fdiv u=bot (a*c) (b*d):=by
 have s:1<=u:=by rw [hu];have:=g_pos (a:=a) (b:=d) ∅;ac_nf
 have m:1<=v:=by rw [hv];have:=g_pos (a:=c) (b:=b) ∅;ac_nf
 have C:u∣a:=by rw [hu];exact Jcu ..
 have p:u∣d:=by rw [hu];exact JbH ..
 have B:v∣c:=by rw [hv];exact Jcu ..
 have n:v∣b:=by rw [hv];exact JbH ..
 have o:=JaJ C ∅;have q:=JaJ p ∅;have l:=JaJ B ∅;have r:=JaJ n ∅;have E:=JbW n m hb;have D:=JbW p s hd;have A:=JcN hu s;have y:=JcN hv m;have z:Int.gcd (a.fdiv u) (b.fdiv v)=1:=JaT (Jb2 (JaT (Jb2 (Jcc h1) ⟨u,o.symm⟩)) ⟨v,r.symm⟩);have x:Int.gcd (c.fdiv v) (d.fdiv u)=1:=JaT (Jb2 (JaT (Jb2 (Jcc h2) ⟨v,l.symm⟩)) ⟨u,q.symm⟩);have i:g (a.fdiv u*c.fdiv v) (b.fdiv v*d.fdiv u)=1:=JdK (JaT (JbV (JaT (JbV z A)) (JaT (JbV y x))));have e:b*d≠0:=Int.mul_ne_zero ∅ ∅;have h:=g_low (t:=a*c) e;have f:=JcS (t:=a*c) e;have j:=cross (t:=a*c) e;have k:1<=b.fdiv v*d.fdiv u:=by
  have:=Int.mul_pos (show 0<b.fdiv v by ac_nf) (show 0<d.fdiv u by ac_nf);ac_nf
 have w:(a.fdiv u*c.fdiv v)*(b*d)=(a*c)*(b.fdiv v*d.fdiv u):=by
  calc (a.fdiv u*c.fdiv v)*(b*d)=(a.fdiv u*c.fdiv v)*((b.fdiv v*v)*(d.fdiv u*u)):=by rw [r,q]
   _=((a.fdiv u*u)*(c.fdiv v*v))*(b.fdiv v*d.fdiv u):=by ac_rfl
   _=(a*c)*(b.fdiv v*d.fdiv u):=by rw [o,l]
 refine Jds k f i h ?_;refine Int.eq_of_mul_eq_mul_right (a:=b*d) e ?_
 calc ((a.fdiv u*c.fdiv v)*bot (a*c) (b*d))*(b*d)=((a.fdiv u*c.fdiv v)*(b*d))*bot (a*c) (b*d):=by ac_rfl
  _=((a*c)*bot (a*c) (b*d))*(b.fdiv v*d.fdiv u):=by rw [w];ac_rfl
  _=(top (a*c) (b*d)*(b*d))*(b.fdiv v*d.fdiv u):=by rw [j]
  _=(top (a*c) (b*d)*(b.fdiv v*d.fdiv u))*(b*d):=by ac_rfl
theorem Jj6 {t b:Int} (h:b<0):top (-t) (-b)=top t b/\bot (-t) (-b)=bot t b:=by
 have a:=Jjo (t:=t) (b:=b) ∅;have c:=Jjo (t:=-t) (b:=-b) ∅;rw [if_pos h,if_pos h] at a;rw [if_neg ∅,if_neg ∅] at c;exact ⟨c.1.symm.trans a.1,c.2.symm.trans a.2⟩
theorem JkP {a b:Int}:g a (-b)=g a b:=by unfold g;simp [Int.gcd_neg]
theorem Jjm (a b:Int):g a b=g b a:=by unfold g;rw [Int.gcd_comm]
end Mth
namespace L2
open PySem PySem.Spec PyProof.Rows
section
variable {D:Ends} {σ : St} {H:Hp} {Q:VK} {t u:TS} {ta tb te:TE} {g:TG} {tA:TA} {r:R2} {E:XK} {sp:Sp} {K:W.Frag}
theorem y83y:tSeq t u D σ H=t { D with nx:=u D } σ H:=rfl
theorem y72y:tNext D σ H=D.nx σ H:=rfl
theorem y2by:tAsg te g D σ H=te σ H fun x H1=>g x σ H1 D.nx:=rfl
theorem y6dy {i:Nat} {v:V} {R:St->Hp->Prop}:gName i v σ H R=R (σ.set i (some v)) H:=rfl
theorem y80y:tRet te D σ H=te σ H D.rt:=rfl
theorem y81y:tRetN D σ H=D.rt .non H:=rfl
theorem y47y:tDrop te D σ H=te σ H fun _ H1=>D.nx σ H1:=rfl
theorem y2ey {v:V}:tC v σ H Q=Q v H:=rfl
theorem y79y:tOp r ta tb σ H Q=ta σ H fun x H1=>tb σ H1 fun y H2=>r x y H2 Q:=rfl
theorem y93y {f:V->Hp->VK->Prop}:tUn f ta σ H Q=ta σ H fun x H1=>f x H1 Q:=rfl
theorem y30y {f:List V->Hp->VK->Prop}:tCB f tA σ H Q=tA σ H fun vs H1=>f vs H1 Q:=rfl
theorem y3cy {R:List V->Hp->Prop}:tCons ta tA σ H R=ta σ H fun x H1=>tA σ H1 fun xs H2=>R (x::xs) H2:=rfl
theorem y73y {R:List V->Hp->Prop}:tNil σ H R=R [] H:=rfl
theorem y2fy {dvs:List V}:tCall sp dvs E tA σ H Q=tA σ H fun vs H1=>sp (vs++dvs) H1 Q E:=rfl
theorem y89y {R:Bool->Hp->Prop}:tTest te σ H R=te σ H fun x H'=>∃ k,x=.bl k/\R k H':=rfl
theorem y23y {R:Bool->Hp->Prop}:tB te σ H R=te σ H fun x H'=>∃ k,x=.bl k/\R k H':=rfl
theorem y29y {a b:TT} {R:Bool->Hp->Prop}:tAnd a b σ H R=a σ H fun c H1=>if c=true then b σ H1 R else R false H1:=rfl
theorem y7ay {a b:TT} {R:Bool->Hp->Prop}:tOr a b σ H R=a σ H fun c H1=>if c=true then R true H1 else b σ H1 R:=rfl
theorem y75y {a:TT} {R:Bool->Hp->Prop}:tNot a σ H R=a σ H fun c H1=>R (!c) H1:=rfl
theorem y2ay:tAndV ta tb σ H Q=ta σ H fun x H1=>∃ c,x=.bl c/\if c=true then tb σ H1 Q else Q (.bl false) H1:=rfl
theorem y7by:tOrV ta tb σ H Q=ta σ H fun x H1=>∃ c,x=.bl c/\if c=true then Q (.bl true) H1 else tb σ H1 Q:=rfl
theorem y77y:tNotV ta σ H Q=ta σ H fun x H1=>∃ c,x=.bl c/\Q (.bl (!c)) H1:=rfl
theorem y5by {c:TT}:tIfS c t u D σ H=c σ H fun b H1=>if b=true then t D σ H1 else u D σ H1:=rfl
theorem y95y {i:Nat}:tVar i σ H Q=∃ v,σ[i]?=some (some v)/\Q v H:=rfl
theorem y26y {i j:Int}:rAddU K (.int i) (.int j) H Q=Q (.int (i+j)) H:=rfl
theorem y27y {i j:Str}:rAddU K (.str i) (.str j) H Q=(i.length+j.length<=sizeLine/\Q (.str (i++j)) H):=rfl
theorem y87y {f:Int->Int->V} {i j:Int}:rI0 f (.int i) (.int j) H Q=Q (f i j) H:=by
 unfold rI0;simp
theorem y71y {f:Int->V} {i:Int}:rU f (.int i) H Q=Q (f i) H:=by
 unfold rU;simp
theorem y6ay {i j:Int}:rMulU (.int i) (.int j) H Q=(IntMulOk i j/\Q (.int (i*j)) H):=rfl
theorem y4cy {i j:Int}:Jig (.int i) (.int j) H Q=(DivOk j/\Q (.int (i.fdiv j)) H):=rfl
theorem y69y {i j:Int}:rModU (.int i) (.int j) H Q=(j≠0/\Q (.int (i.fmod j)) H):=rfl
theorem y7ey {i j:Int}:rPowU (.int i) (.int j) H Q=(CPow i j/\Q (.int (i ^ j.toNat)) H):=rfl
theorem y33y {p:Int->Int->Bool} {i j:Int}:rCmpU p (.int i) (.int j) H Q=Q (.bl (p i j)) H:=rfl
theorem y4ay {i j:Int}:rEqU K (.int i) (.int j) H Q=Q (.bl (decide (i=j))) H:=rfl
theorem y6fy {i j:Int}:rNeU K (.int i) (.int j) H Q=Q (.bl (!decide (i=j))) H:=rfl
theorem y4by {i j:Str}:rEqU K (.str i) (.str j) H Q=Q (.bl (decide (i=j))) H:=rfl
theorem y70y {i j:Str}:rNeU K (.str i) (.str j) H Q=Q (.bl (!decide (i=j))) H:=rfl
theorem y49y {i j:Bool}:rEqU K (.bl i) (.bl j) H Q=Q (.bl (decide (i=j))) H:=rfl
theorem y6ey {i j:Bool}:rNeU K (.bl i) (.bl j) H Q=Q (.bl (!decide (i=j))) H:=rfl
theorem y8ey:tTup tA σ H Q=tA σ H fun xs H1=>xs.length<=sizeLine/\∀ p,H1 p=none->Q (.ref p) (upd H1 p (.tup xs)):=rfl
theorem y65y:tLst tA σ H Q=tA σ H fun xs H1=>xs.length<=sizeLine/\∀ p,H1 p=none->Q (.ref p) (upd H1 p (.lst xs)):=rfl
theorem y61y {x:V} {T:String}:rIsi K [x, .ty T] H Q=(T∈["int","str","bool","list","tuple"]/\∃ t,tyN K H x t/\Q (.bl (isiB t T)) H):=rfl
theorem y25y {i:Int}:rAbs [.int i] H Q=Q (.int (if i<0 then -i else i)) H:=rfl
theorem y68y {i j:Int}:rMin [.int i, .int j] H Q=Q (.int (if j<i then j else i)) H:=rfl
theorem y90y {i:Int} {s:String}:tyN K H (.int i) s=(s="int"):=rfl
theorem y92y {i:Str} {s:String}:tyN K H (.str i) s=(s="str"):=rfl
theorem y8fy {i:Bool} {s:String}:tyN K H (.bl i) s=(s="bool"):=rfl
theorem y91y {s:String}:tyN K H .non s=(s="NoneType"):=rfl
end
theorem Jgw:bootBuiltins "abs"=some (.builtin "abs"):=by decide +kernel
theorem Jbp:bootBuiltins "len"=some (.builtin "len"):=by decide +kernel
theorem JkJ:bootBuiltins "min"=some (.builtin "min"):=by decide +kernel
theorem JkL:bootBuiltins "sum"=some (.builtin "sum"):=by decide +kernel
theorem JaN:bootBuiltins "isinstance"=some (.builtin "isinstance"):=by decide +kernel
theorem JkI:bootBuiltins "all"=some (.builtin "all"):=by decide +kernel
theorem Jjh:bootBuiltins "int"=some (.type "int"):=by decide +kernel
theorem JkK:bootBuiltins "str"=some (.type "str"):=by decide +kernel
theorem JjJ:bootBuiltins "bool"=some (.type "bool"):=by decide +kernel
theorem JeM:bootBuiltins "list"=some (.type "list"):=by decide +kernel
theorem Jc2:bootBuiltins "tuple"=some (.type "tuple"):=by decide +kernel
theorem JjK:bootBuiltins "dict"=some (.type "dict"):=by decide +kernel
theorem JiF:bootBuiltins "range"=some (.type "range"):=by decide +kernel
theorem yby:isiB "int" "int"=true:=by decide
theorem ydy:isiB "int" "str"=false:=by decide
theorem yay:isiB "int" "bool"=false:=by decide
theorem ycy:isiB "int" "list"=false:=by decide
theorem yey:isiB "int" "tuple"=false:=by decide
theorem y15y:isiB "str" "int"=false:=by decide
theorem y17y:isiB "str" "str"=true:=by decide
theorem y14y:isiB "str" "bool"=false:=by decide
theorem y16y:isiB "str" "list"=false:=by decide
theorem y18y:isiB "str" "tuple"=false:=by decide
theorem y6y:isiB "bool" "int"=true:=by decide
theorem y8y:isiB "bool" "str"=false:=by decide
theorem y5y:isiB "bool" "bool"=true:=by decide
theorem y7y:isiB "bool" "list"=false:=by decide
theorem y9y:isiB "bool" "tuple"=false:=by decide
theorem y1y:isiB "NoneType" "int"=false:=by decide
theorem y3y:isiB "NoneType" "str"=false:=by decide
theorem y0y:isiB "NoneType" "bool"=false:=by decide
theorem y2y:isiB "NoneType" "list"=false:=by decide
theorem y4y:isiB "NoneType" "tuple"=false:=by decide
theorem y10y:isiB "list" "int"=false:=by decide
theorem y12y:isiB "list" "str"=false:=by decide
theorem yfy:isiB "list" "bool"=false:=by decide
theorem y11y:isiB "list" "list"=true:=by decide
theorem y13y:isiB "list" "tuple"=false:=by decide
theorem y1ay:isiB "tuple" "int"=false:=by decide
theorem y1cy:isiB "tuple" "str"=false:=by decide
theorem y19y:isiB "tuple" "bool"=false:=by decide
theorem y1by:isiB "tuple" "list"=false:=by decide
theorem y1dy:isiB "tuple" "tuple"=true:=by decide
theorem y1fy:("int"∈["int","str","bool","list","tuple"])=True:=by simp
theorem y21y:("str"∈["int","str","bool","list","tuple"])=True:=by simp
theorem y1ey:("bool"∈["int","str","bool","list","tuple"])=True:=by simp
theorem y20y:("list"∈["int","str","bool","list","tuple"])=True:=by simp
theorem y22y:("tuple"∈["int","str","bool","list","tuple"])=True:=by simp
theorem y24y {CX:CXT} {P:Program} {w:World} {K:W.Frag} {mg:Str->Option Value} {base:Heap} {N:List Str} {qual:Str} {scope:Scope} {f:Addr} {cd:Value} {A:Around} {outer:List Env} {s:Shared} {H:Hp} {E:XK}:(cxOf CX P w K mg base N qual scope f cd A outer s H E).K=K:=rfl
def ForR (lo:Int) (n:Nat) (g:TG) (tb:TS) (D:Ends) (σ : St) (H:Hp):Prop:=∃ W:Nat->Nat->St->Hp->Prop,(∃ m,W 0 m σ H)/\∀ i m σ H,W i m σ H ->
 ((Itr lo n).stop i H/\D.nx σ H)\/((Itr lo n).go i H/\∃ N:St->Hp->Prop,(∀ σ' H',N σ' H'->∃ m',m'<m/\W (i+1) m' σ' H')/\∀ x H',(Itr lo n).yld i H x H'->g x σ H' fun σ2 H2=>tb { D with nx:=N,ct:=N,bk:=D.nx } σ2 H2)
def ForA (K:W.Frag) (a:Addr) (g:TG) (tb:TS) (D:Ends) (σ : St) (H:Hp):Prop :=
 ((∃ xs,SqL K H a xs)/\∃ W:Nat->Nat->St->Hp->Prop,(∃ m,W 0 m σ H)/\∀ i m σ H,W i m σ H ->
  ((Itl K a).stop i H/\D.nx σ H)\/((Itl K a).go i H/\∃ N:St->Hp->Prop,(∀ σ' H',N σ' H'->∃ m',m'<m/\W (i+1) m' σ' H')/\∀ x H',(Itl K a).yld i H x H'->g x σ H' fun σ2 H2=>tb { D with nx:=N,ct:=N,bk:=D.nx } σ2 H2)) \/
 ((∃ xs,SqT K H a xs)/\∃ W:Nat->Nat->St->Hp->Prop,(∃ m,W 0 m σ H)/\∀ i m σ H,W i m σ H ->
  ((Itt K a).stop i H/\D.nx σ H)\/((Itt K a).go i H/\∃ N:St->Hp->Prop,(∀ σ' H',N σ' H'->∃ m',m'<m/\W (i+1) m' σ' H')/\∀ x H',(Itt K a).yld i H x H'->g x σ H' fun σ2 H2=>tb { D with nx:=N,ct:=N,bk:=D.nx } σ2 H2))
theorem y4fy {ta:TA} {g:TG} {tb:TS} {D:Ends} {σ : St} {H:Hp}:tFor (iRng1 ta) g tb D σ H=ta σ H fun vs H1=>∃ j:Int,vs=[.int j]/\-(2 ^ 62)<=j/\j<2 ^ 62/\ForR 0 j.toNat g tb D σ H1:=rfl
theorem y50y {ta:TA} {g:TG} {tb:TS} {D:Ends} {σ : St} {H:Hp}:tFor (iRng2 ta) g tb D σ H=ta σ H fun vs H1=>∃ i j:Int,vs=[.int i, .int j]/\(-(2 ^ 62)<=i/\i<2 ^ 62/\-(2 ^ 62)<=j/\j<2 ^ 62)/\ForR i (j-i).toNat g tb D σ H1:=rfl
theorem y51y {K:W.Frag} {tl:TE} {g:TG} {tb:TS} {D:Ends} {σ : St} {H:Hp}:tFor (iAny K tl) g tb D σ H=tl σ H fun x H1=>∃ a,x=.ref a/\ForA K a g tb D σ H1:=rfl
theorem ForR.by {lo:Int} {n:Nat} {g:TG} {tb:TS} {D:Ends} {σ : St} {H:Hp} (Pv:Nat->St->Hp->Prop) (h0:Pv 0 σ H)
  (hs:∀ i σ H,i<n->Pv i σ H->g (.int (lo+i)) σ H fun σ2 H2=>tb { D with nx:=Pv (i+1),ct:=Pv (i+1),bk:=D.nx } σ2 H2) (hd:∀ σ H,Pv n σ H->D.nx σ H):ForR lo n g tb D σ H:=JhE Pv h0 hs hd
theorem ForA.by {K:W.Frag} {a:Addr} {xs:List V} {g:TG} {tb:TS} {D:Ends} {σ : St} {H:Hp} (hA:SqA K H a xs) (Pv:Nat->St->Hp->Prop) (h0:Pv 0 σ H) (hl:∀ i σ H',i<=xs.length->Pv i σ H'->Same H H')
  (hs:∀ i x σ H,xs[i]?=some x->Pv i σ H->g x σ H fun σ2 H2=>tb { D with nx:=Pv (i+1),ct:=Pv (i+1),bk:=D.nx } σ2 H2) (hd:∀ σ H,Pv xs.length σ H->D.nx σ H):ForA K a g tb D σ H:=JjT hA Pv h0 hl hs hd
theorem Jd0 {H:Hp} {o:HO} {R:V->Hp->Prop} (h:∀ p H1,Same H H1->H1 p=some o->R (.ref p) H1):∀ p,H p=none->R (.ref p) (upd H p o):=fun p a=>
 h p _ (fun b u q=>by rw [Jag (Jai q a)];exact q) Jaj
theorem newS {H H':Hp} {p:Addr} {o:HO} (h:H p=none) (e:upd H p o=H'):Same H H':=fun b u q=>by rw [<- e,Jag (Jai q h)];exact q
theorem newE {H H':Hp} {p:Addr} {o:HO} (e:upd H p o=H'):H' p=some o:=by rw [<- e,Jaj]
theorem JeK {n:Nat} {i:Int} (h:Mth.Sz n i):Builtin.Int.intBits i<=n:=by
 unfold Builtin.Int.intBits;split
 ·exact Nat.zero_le _
 ·rename_i z;have : i.natAbs.log2<n:=(Nat.log2_lt (by simpa using z)).mpr h;ac_nf
theorem mulOk {m n:Nat} {i j:Int} (h:Mth.Sz m i) (k:Mth.Sz n j) (hm:m<=2 ^ 20:=by decide) (hn:n<=2 ^ 20:=by decide):IntMulOk i j:=IntMulOk.of_bits (Nat.le_trans (JeK h) hm) (Nat.le_trans (JeK k) hn)
theorem Jjp {i j:Int} (h:Mth.Sz 64 j):IntMulOk i j:=IntMulOk.of_right (JeK h)
theorem divOk {n:Nat} {j:Int} (h:j≠0) (k:Mth.Sz n j) (hn:n<9000:=by decide):DivOk j:=⟨h,Mth.Jj5 k hn⟩
theorem len0:([]:List V).length<=sizeLine:=by decide
theorem len2 {a b:V}:[a,b].length<=sizeLine:=by show 2<=sizeLine;decide
theorem len3 {a b c:V}:[a,b,c].length<=sizeLine:=by show 3<=sizeLine;decide
theorem len5 {a b c d e:V}:[a,b,c,d,e].length<=sizeLine:=by show 5<=sizeLine;decide
theorem Ja3 {j:Int} (h:decide (j≠0/\j.natAbs<2 ^ 64)=true):DivOk j:=by
 have z:=of_decide_eq_true h;exact divOk z.1 (n:=64) z.2
theorem Ja4 {i j:Int} (h:decide (j.natAbs<2 ^ 64)=true):IntMulOk i j:=by
 have z:j.natAbs<2 ^ 64:=of_decide_eq_true h;exact Jjp z
theorem JaO {i j:Int} (h:decide (i.natAbs<2 ^ 64)=true):IntMulOk i j:=by
 have z:i.natAbs<2 ^ 64:=of_decide_eq_true h;exact IntMulOk.of_left (JeK (n:=64) z)
theorem Ja6 {i j:Int} (h:decide (0<=j/\j<=1000000/\i.natAbs<2 ^ 64)=true):CPow i j:=by
 have z:0<=j/\j<=1000000/\i.natAbs<2 ^ 64:=of_decide_eq_true h;exact z
def FrV (K:W.Frag) (H:Hp) (v:V) (a b:Int):Prop:=∃ p,v=.ref p/\SqT K H p [.int a, .int b]
theorem FrV.same {K:W.Frag} {H H':Hp} {v:V} {a b:Int} (S:Same H H') (h:FrV K H v a b):FrV K H' v a b:=by
 obtain ⟨p,e,q⟩:=h;exact ⟨p,e,q.same S⟩
theorem FrV.of {K:W.Frag} {H:Hp} {p:Addr} {a b:Int} (h:H p=some (.tup [.int a, .int b])):FrV K H (.ref p) a b:=⟨p,rfl,SqT.of h⟩
theorem ixT0 {K:W.Frag} {H:Hp} {p:Addr} {x:V} {r:List V} {Q:VK} (h:SqT K H p (x::r)) (q:Q x H):rIxU K (.ref p) (.int 0) H Q:=⟨_,x, .inr h,Jcy (j:=0) rfl,q⟩
theorem ixT1 {K:W.Frag} {H:Hp} {p:Addr} {x y:V} {r:List V} {Q:VK} (h:SqT K H p (x::y::r)) (q:Q y H):rIxU K (.ref p) (.int 1) H Q:=⟨_,y, .inr h,Jcy (j:=1) rfl,q⟩
theorem ixF0 {K:W.Frag} {H:Hp} {v:V} {a b:Int} {Q:VK} (h:FrV K H v a b) (q:Q (.int a) H):rIxU K v (.int 0) H Q:=by
 obtain ⟨p,rfl,z⟩:=h;exact ixT0 z q
theorem ixF1 {K:W.Frag} {H:Hp} {v:V} {a b:Int} {Q:VK} (h:FrV K H v a b) (q:Q (.int b) H):rIxU K v (.int 1) H Q:=by
 obtain ⟨p,rfl,z⟩:=h;exact ixT1 z q
theorem FrV.rep {K:W.Frag} {H:Hp} {v:V} {a b:Int} (h:FrV K H v a b):Rep K H (.tup [.int a, .int b]) v:=by
 obtain ⟨p,rfl,z⟩:=h;simp only [Rep,RepL];exact ⟨p,_,rfl,z,_,_,rfl,rfl,_,_,rfl,rfl,rfl⟩
theorem FrV.ty {K:W.Frag} {H:Hp} {v:V} {a b:Int} (h:FrV K H v a b):tyN K H v "tuple":=by
 obtain ⟨p,rfl,z⟩:=h;exact .inr ⟨rfl,_,z⟩
theorem lenF {K:W.Frag} {H:Hp} {v:V} {a b:Int} {Q:VK} (h:FrV K H v a b) (q:Q (.int 2) H):rLen K [v] H Q:=by
 obtain ⟨p,rfl,z⟩:=h;exact ⟨_, .inr z,q⟩
theorem eqF {K:W.Frag} {H:Hp} {x y:V} {a b c d:Int} {Q:VK} (h:FrV K H x a b) (g:FrV K H y c d) (q:Q (.bl (decide (a=c)&&decide (b=d))) H):rEqU K x y H Q:=by
 have e:eqD (.tup [.int a, .int b]) (.tup [.int c, .int d])=(decide (a=c)&&decide (b=d)):=by
  simp only [eqD,eqL,Bool.and_true]
  congr 1 <;> simp [BEq.beq]
 have f:=h.rep;have i:=g.rep;obtain ⟨p,rfl,_⟩:=h;obtain ⟨j,rfl,_⟩:=g;exact ⟨_,_,f,i,by simp [depD,depL],rfl,by rw [e];exact q⟩
theorem neF {K:W.Frag} {H:Hp} {x y:V} {a b c d:Int} {Q:VK} (h:FrV K H x a b) (g:FrV K H y c d) (q:Q (.bl (!(decide (a=c)&&decide (b=d)))) H):rNeU K x y H Q:=by
 have e:eqD (.tup [.int a, .int b]) (.tup [.int c, .int d])=(decide (a=c)&&decide (b=d)):=by
  simp only [eqD,eqL,Bool.and_true]
  congr 1 <;> simp [BEq.beq]
 have f:=h.rep;have i:=g.rep;obtain ⟨p,rfl,_⟩:=h;obtain ⟨j,rfl,_⟩:=g;exact ⟨_,_,f,i,by simp [depD,depL],rfl,by rw [e];exact q⟩
theorem ixT {K:W.Frag} {H:Hp} {p:Addr} {xs:List V} {i:Nat} {v:V} {Q:VK} (h:SqT K H p xs) (e:xs[i]?=some v) (q:Q v H):rIxU K (.ref p) (.int (i:Int)) H Q:=⟨xs,v, .inr h,Jcy e,q⟩
theorem ixL {K:W.Frag} {H:Hp} {p:Addr} {xs:List V} {i:Nat} {v:V} {Q:VK} (h:SqL K H p xs) (e:xs[i]?=some v) (q:Q v H):rIxU K (.ref p) (.int (i:Int)) H Q:=⟨xs,v, .inl h,Jcy e,q⟩
section
open PySem.W PySem.Builtin PySem.Builtin.ObjectAttr PySem.Builtin.Getset_descriptor
variable {prog:Program} {w:World} {A:Around} {E:Value->Shared->Prop} {s:Shared} {K:Frag} {x D:Addr} {ox:Obj}
end
section
variable {X:Cx}
def JkD (r r' r'':R2) (ta tb tc td:TE):TE:=fun σ H Q=>ta σ H fun x H1=>tb σ H1 fun y H2=>r x y H2 fun z H3=>∃ k,z=.bl k /\
 (if k=true then tc σ H3 fun w' H4=>r' y w' H4 fun z' H5=>∃ k',z'=.bl k'/\(if k'=true then td σ H5 fun u' H6=>r'' w' u' H6 Q else Q (.bl false) H5) else Q (.bl false) H3)
def rFmt:V->Hp->VK->Prop:=fun x H Q=>match x with
 | .int i=>i.natAbs.log2<1920/\Q (.str (toString i)) H
 | _=>False
def TJ:=St->Hp->Str->VK->Prop
def jNil:TJ:=fun _ H acc Q=>acc.length<=sizeLine/\Q (.str acc) H
def jCons (te:TE) (t:TJ):TJ:=fun σ H acc Q=>te σ H fun x H1=>∃ y,x=.str y/\(acc++y).length<=sizeLine/\t σ H1 (acc++y) Q
def tFstr (t:TJ):TE:=fun σ H Q=>t σ H Str.empty Q
def rStrI:List V->Hp->VK->Prop:=fun xs H Q=>match xs with
 | [.int i]=>i.natAbs.log2<1920/\Q (.str (toString i)) H
 | _=>False
end
section
variable {En:Ends} {σ : St} {H:Hp} {Q:VK} {t u:TS} {ta tb te tc td:TE} {g:TG} {gs:TGs} {tA:TA} {E:XK} {sp:Sp} {K:W.Frag}
theorem y85y {r:V->Option Int->Option Int->Hp->VK->Prop} {tl th:TO}:tSl r te tl th σ H Q=te σ H fun x H1=>tl σ H1 fun l H2=>th σ H2 fun u H3=>r x l u H3 Q:=rfl
theorem y7dy {R:Option Int->Hp->Prop}:tPart te σ H R=te σ H fun x H1=>∃ i,x=.int i/\R (some i) H1:=rfl
theorem y74y {R:Option Int->Hp->Prop}:JkE σ H R=R none H:=rfl
theorem y31y {r r':R2}:Jlo r r' ta tb tc σ H Q=ta σ H fun x H1=>tb σ H1 fun y H2=>r x y H2 fun z H3=>∃ k,z=.bl k/\(if k=true then tc σ H3 fun w' H4=>r' y w' H4 Q else Q (.bl false) H3):=rfl
theorem y32y {r r' r'':R2}:JkD r r' r'' ta tb tc td σ H Q=ta σ H fun x H1=>tb σ H1 fun y H2=>r x y H2 fun z H3=>∃ k,z=.bl k /\
 (if k=true then tc σ H3 fun w' H4=>r' y w' H4 fun z' H5=>∃ k',z'=.bl k'/\(if k'=true then td σ H5 fun u' H6=>r'' w' u' H6 Q else Q (.bl false) H5) else Q (.bl false) H3):=rfl
theorem y55y {tj:TJ}:tFstr tj σ H Q=tj σ H Str.empty Q:=rfl
theorem y63y {tj:TJ} {acc:Str}:jCons te tj σ H acc Q=te σ H fun x H1=>∃ y,x=.str y/\(acc++y).length<=sizeLine/\tj σ H1 (acc++y) Q:=rfl
theorem y64y {acc:Str}:jNil σ H acc Q=(acc.length<=sizeLine/\Q (.str acc) H):=rfl
theorem y4ey {i:Int}:rFmt (.int i) H Q=(i.natAbs.log2<1920/\Q (.str (toString i)) H):=rfl
theorem y86y {i:Int}:rStrI [.int i] H Q=(i.natAbs.log2<1920/\Q (.str (toString i)) H):=rfl
theorem y8cy {D0:Addr} {i:Nat} {tx:St->Hp->VK->XK->Prop} {ts:TS}:Jlq K D0 i tx ts En σ H=tx σ H (fun _ H1=>En.nx σ H1) fun cls _ H1=>∃ C,cls=.ref C/\Jhp K C D0 /\
 ∀ ea,H1 ea=none->ts { nx:=fun σ' H'=>En.nx (σ'.set i none) H',rt:=En.rt,bk:=fun σ' H'=>En.bk (σ'.set i none) H',ct:=fun σ' H'=>En.ct (σ'.set i none) H' } (σ.set i (some (.ref ea))) (upd H1 ea (ExcO ea C)):=rfl
theorem y96y {dvs:List V} {Qx:VK} {Ex:XK}:xCall sp dvs tA σ H Qx Ex=tA σ H fun vs H1=>sp (vs++dvs) H1 Qx Ex:=rfl
theorem y7fy {C:Addr}:Jjx E C tA En σ H=tA σ H fun vs H1=>vs.length<=sizeLine/\E (.ref C) none H1:=rfl
end
def Its (x:Str):It:=⟨fun i _=>i<x.cps.size,fun i H v H'=>H'=H/\∃ c,x.cps[i]?=some c/\v=.str ⟨#[c]⟩,fun i _=>i=x.cps.size⟩
theorem JfR {P:Program} {w:World} {K:W.Frag} {tg:Expr} {it:Addr} {x:Str} {n:String} {St:Nat->Heap->Prop} (hn:["enumerate","zip","dict_itemiterator","dict_reverseitemiterator","odict_iterator","itertools.zip_longest","itertools.pairwise"].contains n=false)
  (hst:∀ i h,St i h->∃ o vs,h.get? it=some o/\o.cls=.type n/\o.data=.fields vs) (mk:∀ A:Around,A.handled=none->Walks P w A it [it] [it] x.cps.size (SignAt x) St)
  (hself:∀ (A:Around) (i:Nat) (s:Shared) (Q:Value->Shared->Prop) (E:Value->Shared->Prop),St i s.heap->Q (.ref it) s->wpAny (model P w) A (pyIter (.ref it)) Q E s):Turn P w K tg (Its x) [it] it St where
 mem:=by simp
 obj:=fun i h g b a=>by
  obtain rfl:b=it:=by simpa using a
  obtain ⟨o,vs,e,_,d⟩:=hst i h g;exact ⟨o,e,fun v z=>by rw [d] at z;cases z⟩
 keep:=fun i h j g k=>(mk {} rfl).frame i h j g fun b a o e=>k b a o e
 item:=by
  intro X y C G B i f s σ H E I m g D;subst y C G;obtain ⟨M,p,S,J,F,r⟩:=m it (by simp);refine (mk X.A (I.ok.hd B)).item i s _ _ D g fun v j L R l N=>?_;obtain ⟨c,u,t,rfl⟩:=R;have I1:Inv X f σ H { s with heap:=j,toks:=L }:=I.turned (fun b o a e=>N b o (by simpa using a) e) M p J F r;obtain ⟨o,vs,O,U,T⟩:=hst _ _ l;exact ⟨_,rfl,go_of (s:={ s with heap:=j,toks:=L }) O U T hn ⟨.str ⟨#[c]⟩,H,I1,⟨u,rfl⟩,⟨rfl,c,t,rfl⟩,l,fun b a=>(m b a).1⟩⟩
 done:=by
  intro X y C G B i f s σ H E I m g D;subst y C G;obtain ⟨M,p,S,J,F,r⟩:=m it (by simp);have q:i=x.cps.size:=D;subst q;exact (mk X.A (I.ok.hd B)).done s _ _ g fun j L N=>⟨rfl,I.turned (fun b o a e=>N b o (by simpa using a) e) M p J F r⟩
 self:=hself
section
variable {X:Cx} {tg:Expr}
def iStr (tl:TE):TI:=fun σ H R=>tl σ H fun x H1=>∃ z,x=.str z/\R (Its z) H1
theorem Jle {l:Expr} {tl:TE} (hl:PE X l tl):PI X tg l (iStr tl):=fun f s σ H R I h=>by
 refine thn (hl f s σ H _ I h) fun v d ζ=>?_;obtain ⟨x,k,I1,r,z,p,q⟩:=ζ;subst p;obtain ⟨t,rfl⟩:=r;have key:∀ (n:String),(n="str_ascii_iterator"\/n="str_iterator")->PIE X f σ tg R (.ref d.heap.objs.size) { d with heap:=d.heap.push { cls:=.type n,data:=.fields #[.str z t, .int 0 0] } }:=fun n y=>by
  have m:Turn X.prog X.w X.K tg (Its z) [d.heap.objs.size] d.heap.objs.size (fun i h=>h.IsStrIter d.heap.objs.size n z t i):=by
   rcases y with rfl | rfl
   ·exact JfR (n:="str_ascii_iterator") ⋯ (fun i h g=>let ⟨o,a,b,c⟩:=g;⟨o,_,a,b,c⟩) (fun A j=>Walks.strAscii j _ z t) fun A i s Q E g q=>wpAny_pyIter_striter_ascii g q
   ·exact JfR (n:="str_iterator") ⋯ (fun i h g=>let ⟨o,a,b,c⟩:=g;⟨o,_,a,b,c⟩) (fun A j=>Walks.strWide j _ z t) fun A i s Q E g q=>wpAny_pyIter_striter_wide g q
  refine ⟨d.heap.objs.size,[d.heap.objs.size],_,_,k,rfl,I1.kept (t':=d.toks) fun b o e=>Heap.get?_push_of_some _ e,m,⟨_,Heap.get?_push_size _ rfl,rfl,rfl⟩,fun b u=>?_,q⟩;obtain rfl:b=d.heap.objs.size:=by simpa using u
  exact I1.fpOk (Nat.le_refl _) (I1.hok.fresh (Nat.le_refl _))
 cases ha:z.cps.all (· < 128)
 ·exact wpAny_pyIter_wide ha (key _ (.inr rfl))
 ·exact wpAny_pyIter_ascii ha (key _ (.inl rfl))
end
abbrev Cx.inc (X:Cx) (N':List Str) (scope:Scope) (cl:List (Str × Addr)) (fp:List Addr) (s2:Shared) (H2:Hp) (C:Addr):Cx :=
 { X with N:=N',s₀:=s2,H₀:=H2,env:=compEnvC scope cl C X.env,outer:=X.stack,ex:=fp,fn:=fun _=>false,pn:=[],xe:=fun _ _=>False }
section
variable {X:Cx} {pins:List (Addr × Obj)} {σ : St} {H2:Hp} {s2:Shared} {N':List Str} {scope:Scope} {cl:List (Str × Addr)} {fp:List Addr} {C:Addr}
theorem Inv.incOk (I:Inv X pins σ H2 s2) (hf:∀ b∈fp,FpOk X pins H2 b) (hfp:∀ b∈fp,b<s2.heap.objs.size) (hk:scope.kind=.function) (hC:s2.heap.objs.size<=C) (hcl:∀ x c,cl.lookup x=some c->X.env.cells.lookup x=some c)
  (hhas:∀ y,((relabel scope X.env).names.lookup y=some .cell\/(relabel scope X.env).names.lookup y=some .free)->∃ c,cl.lookup y=some c):(X.inc N' scope cl fp s2 H2 C).Ok where
 mod:=I.ok.mod
 kind:=hk
 glob:=I.ok.glob
 blt:=I.ok.blt
 above:=hC
 inj:=fun x y c f d=>I.ok.inj x y c (hcl x c f) (hcl y c d)
 has:=fun y i=>hhas y i
 cab:=fun x c h=>by cases h
 hd:=I.ok.hd
 frames:=I.ok.frames
 stk:=.inl rfl
 exf:=fun b a=>⟨Nat.ne_of_lt (Nat.lt_of_lt_of_le (hfp b a) hC),fun x c e=>(hf b a).2.2.2.2.1 x c (hcl x c e)⟩
 bs:=I.bs
 bsz:=Nat.le_trans I.ok.bsz I.sz
 noex:=fun b o e a=>by
  rcases (hf b a).2.2.2.1 with z | z
  ·exact I.ok.noex b o e z
  ·exact absurd (Nat.lt_of_lt_of_le (Nat.lt_of_lt_of_le (Heap.lt_size e) I.ok.bsz) z) (Nat.lt_irrefl _)
 exfs:=fun b a g=>by
  rcases mem_cons.mp (I.stkSub b g) with z | z
  ·exact (hf b a).2.1 z
  ·exact (hf b a).2.2.1 z
 funs:=I.stack
 frf:=I.stkFree
def JaF (cs:List (Nat × Str)) (σ : St):St:=cs.map fun p=>(σ[p.1]?).join
theorem Inv.capsLoc {s4:Shared} {m:Str->Option Value} {own:List Str} {cs:List (Nat × Str)} (I:Inv X pins σ H2 s2) (ok:(X.inc (own++cs.map (·.2)) scope cl fp s2 H2 C).Ok) (kept:∀ c v,(∃ x,cl.lookup x=some c)->s2.heap.IsCell c v->s4.heap.IsCell c v)
  (hcl:∀ x c,cl.lookup x=some c->X.env.cells.lookup x=some c) (hcs:∀ p∈cs,X.N[p.1]?=some p.2/\X.env.scope.names.lookup p.2=some .cell/\(relabel scope X.env).names.lookup p.2=some .cell) :
  ∀ (i:Nat) (x:Str) (v:V),(own++cs.map (·.2))[i]?=some x->(List.replicate own.length none++JaF cs σ)[i]?=some (some v)->∃ u,RelV v u/\Look (compEnvC scope cl C X.env) s4.heap m x u:=fun i x v n d=>by
  by_cases l:i<own.length
  ·rw [List.getElem?_append_left (by simpa using l),List.getElem?_replicate,if_pos l] at d;cases d
  ·have b:(JaF cs σ)[i-own.length]?=some (some v):=by rw [List.getElem?_append_right (by simp;ac_nf)] at d;simpa using d
   have a:(cs.map (·.2))[i-own.length]?=some x:=by
    rwa [List.getElem?_append_right ∅] at n
   unfold JaF at b;rw [List.getElem?_map] at a b;cases q:cs[i-own.length]? with
   | none=>rw [q] at a;cases a
   | some p=>
    rw [q] at a b;obtain rfl:p.2=x:=by simpa using a
    have e:(σ[p.1]?).join=some v:=by simpa using b
    have g : σ[p.1]?=some (some v):=by
     cases z : σ[p.1]? with
     | none=>rw [z] at e;cases e
     | some o=>rw [z] at e;exact congrArg some e
    obtain ⟨s,h,j⟩:=hcs p (List.mem_of_getElem? q);obtain ⟨y,_,w⟩:=I.loc;obtain ⟨u,t,r⟩:=w p.1 p.2 v s g (.inr (.inl h));refine ⟨u,t, .inr ⟨.inl j,?_⟩⟩;obtain ⟨c,f⟩:=ok.has p.2 (.inl j);refine ⟨c,f,?_⟩;rcases r with ⟨k,_⟩ | ⟨_,c',e',hcell⟩
    ·have k:X.env.scope.names.lookup p.2=some .local:=k;rw [h] at k;cases k
    ·rw [hcl _ _ f] at e';cases e';exact kept _ _ ⟨_,f⟩ hcell
theorem Inv.incStart {s4:Shared} {m:Str->Option Value} {own:List Str} {cs:List (Nat × Str)} (I:Inv X pins σ H2 s2) (ok:(X.inc (own++cs.map (·.2)) scope cl fp s2 H2 C).Ok) (kept:∀ b o,s2.heap.get? b=some o->s4.heap.get? b=some o) (hos:s4.os=s2.os) (hg:s4.gens=s2.gens) (hm:s4.heap.Ns C m)
  (hC:s2.heap.objs.size<=C) (hcl:∀ x c,cl.lookup x=some c->X.env.cells.lookup x=some c)
  (hcs:∀ p∈cs,X.N[p.1]?=some p.2/\X.env.scope.names.lookup p.2=some .cell/\(relabel scope X.env).names.lookup p.2=some .cell) :
  Inv (X.inc (own++cs.map (·.2)) scope cl fp s2 H2 C) [] (List.replicate own.length none++JaF cs σ) H2 s4 where
 ok:=ok
 os:=hos
 bare:=by rw [hg];exact I.bare
 base:=Un.kept kept
 loc:=⟨m,hm,fun i x v g f _=>I.capsLoc (m:=m) ok (fun c v _ ⟨o,d,a⟩=>⟨o,kept _ _ d,a⟩) hcl hcs i x v g f⟩
 cell:=fun x c e=>by
  obtain ⟨v,o,d,a⟩:=I.cell x c (hcl x c e);exact ⟨v,o,kept _ _ d,a⟩
 free:=I.hok.fresh hC
 freeC:=fun x c e=>I.freeC x c (hcl x c e)
 pin:=fun p h=>by simp at h
 hok:=I.hok.kept kept
 len:=by simp [JaF]
theorem Inv.incAgain {s':Shared} {H':Hp} {σ':St} {pl:List (Addr × Obj)} {own:List Str} {cs:List (Nat × Str)} (I:Inv X pins σ H2 s2) (J:Inv (X.inc (own++cs.map (·.2)) scope cl fp s2 H2 C) pl σ' H' s')
  (hf:∀ b∈fp,FpOk X pins H2 b) (hcl:∀ x c,cl.lookup x=some c->X.env.cells.lookup x=some c) (hcs:∀ p∈cs,X.N[p.1]?=some p.2/\X.env.scope.names.lookup p.2=some .cell/\(relabel scope X.env).names.lookup p.2=some .cell) :
  Inv (X.inc (own++cs.map (·.2)) scope cl fp s2 H2 C) [] (List.replicate own.length none++JaF cs σ) H' s' where
 ok:=J.ok
 os:=J.os
 bare:=J.bare
 base:=J.base
 loc:=by
  obtain ⟨m,a,_⟩:=J.loc;refine ⟨m,a,fun i x v j h _=>I.capsLoc (m:=m) J.ok (fun c v ⟨x,d⟩ ⟨o,g,f⟩=>?_) hcl hcs i x v j h⟩;have e:c∉fp:=fun z=>(hf c z).2.2.2.2.1 x c (hcl x c d) rfl;by_cases a:c∈frs X.stack
  ·obtain ⟨l,z⟩:=J.base.slot c o g (I.freeC x c (hcl x c d)) a e;exact ⟨_,z,f⟩
  ·exact ⟨o,J.base.keep c o g (I.freeC x c (hcl x c d)) a e,f⟩
 cell:=J.cell
 free:=J.free
 freeC:=J.freeC
 pin:=fun p k=>by simp at k
 hok:=J.hok
 len:=by simp [JaF]
end
section
variable {prog:Program} {w:World} {A:Around} {E:Value->Shared->Prop} {R:Result->Shared->Prop} {s:Shared}
theorem Jg2 {elt target iter:Expr} {scope:Scope} {pos:Pos} {it acc:Value} {env:Env} (J:Nat->Shared->Prop)
  (turn:∀ n s,J n s->wpAny (model prog w) A (pyNext it) (fun r s1=>match r with
   | none=>R (.ok .next) s1
   | some v=>wpAny (model prog w) A (letOwnedTupleGo target it v) (fun _ s2=>wpAny (model prog w) A (assign target env v) (fun _ s3=>wpAny (model prog w) A (eval elt env) (fun x s4=>
     wpAny (model prog w) A (call (.builtin "list.append") [acc,x]) (fun _ s5=>∃ m,m<n/\J m s5) (fun _ _=>False) s4) (fun _ _=>False) s3) (fun _ _=>False) s2) (fun _ _=>False) s1) (fun _ _=>False) s) (n:Nat) (h:J n s) :
  codeAny (model prog w) A (.compLoop (.ListComp elt [⟨target,iter,[],0⟩] scope pos) 0 it acc env) R s:=by
 refine codeAny_loop rfl J (fun n s e=>?_) n h;show wpAny _ A ((compTurn (.ListComp elt [⟨target,iter,[],0⟩] scope pos) 0 it acc env).onRaise (fun y=>do noteFrame y env;theTreesLotGoes y)) _ _ s
 (refine wpAny_noted ?_;rw [compTurn_list])
 refine wpAny_bind (wpAny_standAt (wpAny_bind (wpAny_mono (turn n s e) (fun r s1 a=>?_) fun _ _ z=>z.elim)));cases r with
 | none=>exact wpAny_pure a
 | some v=>
  refine wpAny_bind (wpAny_mono a (fun _ s2 c=>wpAny_bind (wpAny_mono c (fun _ s3 d=>?_) fun _ _ z=>z.elim)) fun _ _ z=>z.elim);refine wpAny_bind (wpAny_tests_nil ?_);exact wpAny_bind (wpAny_bind (wpAny_mono d (fun x s4 f=>(wpAny_bind (wpAny_mono f (fun _ s5 b=>(wpAny_pure (wpAny_pure ⟨rfl,b⟩))) fun _ _ z=>z.elim))) fun _ _ z=>z.elim))
end
def tComp (k:Nat) (cs:List (Nat × Str)) (wi:TI) (g:TG) (te:TE):TE:=fun σ H Q=>wi σ H fun J H1=>∃ W:Nat->Nat->List V->Hp->Prop,(∃ m,W 0 m [] H1)/\∀ i m ys H2,W i m ys H2->ys.length<=sizeLine /\
  ((J.stop i H2/\∀ p,H2 p=none->Q (.ref p) (upd H2 p (.lst ys))) \/
   (J.go i H2/\∀ x H3,J.yld i H2 x H3->g x (List.replicate k none++JaF cs σ) H3 fun σ4 H4=>te σ4 H4 fun y H5=>∃ m',m'<m/\W (i+1) m' (ys++[y]) H5))
theorem lstP {us:List Value} {v:Value}:(us.toArray.push v)=(us++[v]).toArray:=by simp
section
variable {X:Cx} {tg:Expr}
theorem Jd9 {iter elt:Expr} {scope:Scope} {pos:Pos} {own:List Str} {cl:List (Str × Addr)} {cs:List (Nat × Str)} {wi:TI} {g:TG} {te:TE} (hc:X.calm=true) (hi:PI X tg iter wi)
  (hg:∀ fp s2 H2 C,PG (X.inc (own++cs.map (·.2)) scope cl fp s2 H2 C) tg g) (he:∀ fp s2 H2 C,PE (X.inc (own++cs.map (·.2)) scope cl fp s2 H2 C) elt te)
  (hclos:closureFor scope X.env=pure cl) (hcell:∀ y∈scope.names,y.2≠.cell) (hkind:scope.kind=.function) (hnames:∀ y∈scope.names,y.2=.local->scope.names.lookup y.1=some .local)
  (hcl:∀ x c,cl.lookup x=some c->X.env.cells.lookup x=some c) (hhas:∀ y,((relabel scope X.env).names.lookup y=some .cell\/(relabel scope X.env).names.lookup y=some .free)->∃ c,cl.lookup y=some c)
  (hcs:∀ p∈cs,X.N[p.1]?=some p.2/\X.env.scope.names.lookup p.2=some .cell/\(relabel scope X.env).names.lookup p.2=some .cell)
  (hs:∀ x,foldedSetIterable iter X.env x=pure x:=by intro _;rfl):PE X (.ListComp elt [⟨tg,iter,[],0⟩] scope pos) (tComp own.length cs wi g te):=by
 intro E s σ H Q I h;rw [eval_ListComp];refine wpAny_comprehension_free (use:=none) rfl hs hclos hkind hnames (thn (hi E s σ H _ I h) fun v s1 h1=>thn h1 fun b8 s2 h2=>?_);obtain ⟨it,fp,tn,J,H2,rfl,I2,T,a1,V,W,⟨m0,w0⟩,a4⟩:=h2;have K:∀ b∈fp,b<s2.heap.objs.size:=fun b d=>by
  obtain ⟨o,e,_⟩:=T.obj _ _ a1 b d;exact Heap.lt_size e
 refine wpAny_newObj_type (wpAny_newFunctionEnv hcell (by intro y hy;simp at hy) (fun h4 m j=>?_) hkind);dsimp only at m j ⊢;generalize hH3:s2.heap.push { cls:=.type "list",dict:=none,data:=.seq ([]:List Value).toArray }=H3 at m j ⊢;have a8:H3.objs.size=s2.heap.objs.size+1:=by rw [<- hH3,Heap.size_push]
 have hC:s2.heap.objs.size<=H3.objs.size:=by ac_nf
 have t:s2.heap.objs.size≠H3.objs.size:=by ac_nf
 have a0:∀ b o,s2.heap.get? b=some o->h4.get? b=some o:=fun b o e=>j.extBut b o (by have:=Heap.lt_size e;exact Nat.ne_of_lt (Nat.lt_of_lt_of_le this hC)) (Heap.get?_push_of_some _ (hH3 ▸ Heap.get?_push_of_some _ e));have a3:h4.get? s2.heap.objs.size=some { cls:=.type "list",data:=.seq ([]:List Value).toArray }:=j.extBut _ _ t (Heap.get?_push_of_some _ (hH3 ▸ Heap.get?_push_size _ rfl));obtain ⟨D,f⟩:∃ D,D=s2.heap.objs.size:=⟨_,rfl⟩;obtain ⟨C,b6⟩:∃ C,C=H3.objs.size:=⟨_,rfl⟩;rw [<- b6] at a8 m j hC t ⊢;rw [<- f] at K a8 hC t a3 ⊢;have F:=I2.incOk (N':=own++cs.map (·.2)) (C:=C) V (fun b d=>by rw [<- f];exact K b d) hkind (by rw [<- f];exact hC) hcl hhas;have I4:Inv (X.inc (own++cs.map (·.2)) scope cl fp s2 H2 C) [] (List.replicate own.length none++JaF cs σ) H2 { s2 with heap:=h4,toks:=s2.toks+([]:List (Str × Value)).length } :=
  I2.incStart (s4:={ s2 with heap:=h4,toks:=s2.toks+([]:List (Str × Value)).length }) F a0 rfl rfl m (by rw [<- f];exact hC) hcl hcs
 have Dfree:H2 D=none:=I2.hok.fresh (Nat.le_of_eq f.symm);have G:∀ b o,s2.heap.get? b=some o->b≠D:=fun b o e=>by
  rw [f];exact Nat.ne_of_lt (Heap.lt_size e)
 have b5:∀ b o,s2.heap.get? b=some o->b≠C:=fun b o e=>Nat.ne_of_lt (Nat.lt_of_lt_of_le (by rw [f];exact Heap.lt_size e) hC);have Dfs:D∉frs X.stack:=fun hm=>by
  obtain ⟨_,o,e,_⟩:=I2.stack.mem hm;exact G _ _ e rfl
 have M:∀ {σ':St} {H':Hp} {s':Shared} {us:List Value} {n:Nat} {pl:List (Addr × Obj)},Inv (X.inc (own++cs.map (·.2)) scope cl fp s2 H2 C) pl σ' H' s'->s'.heap.get? D=some { cls:=.type "list",data:=.seq us.toArray n }->H' D=none ->
   Inv (X.inc (own++cs.map (·.2)) scope cl fp s2 H2 C) [(D,{ cls:=.type "list",data:=.seq us.toArray n })] σ' H' s':=fun {σ' H' s' us n pl} J' e n'=>J'.pins_of fun p Y=>by
  rcases mem_singleton.mp Y with rfl
  exact ⟨e,n',t,Dfs,fun v z=>by cases z⟩
 have B:∀ {H':Hp} {o:Obj},(∀ b∈fp,H' b=none)->∀ b∈fp,FpOk (X.inc (own++cs.map (·.2)) scope cl fp s2 H2 C) [(D,o)] H' b:=fun {H' o} hn b d=>by
  refine ⟨hn b d,(F.exf b d).1,F.exfs b d, .inl d,(F.exf b d).2,fun p Y=>?_⟩;rcases mem_singleton.mp Y with rfl
  exact Nat.ne_of_gt (K b d)
 have L:∀ s3:Shared,s3={ s2 with heap:=h4,toks:=s2.toks+([]:List (Str × Value)).length } ->
   codeAny (model X.prog X.w) X.A (.compLoop (.ListComp elt [⟨tg,iter,[],0⟩] scope pos) 0 (.ref it) (.ref D) (compEnvC scope cl C X.env)) (compPost (model X.prog X.w) X.A X.xe none (EP X E σ Q) (.ref D) C) s3:=by
  rintro s3 rfl;refine Jg2 (fun n s'=>∃ i ys us R H',Inv (X.inc (own++cs.map (·.2)) scope cl fp s2 H2 C) [(D,{ cls:=.type "list",data:=.seq us.toArray R })] (List.replicate own.length none++JaF cs σ) H' s'/\tn i s'.heap/\(∀ b∈fp,H' b=none)/\Vals ys us/\W i n ys H') ?_ m0
   ⟨0,[],[],0,H2,M (us:=[]) (n:=0) I4 a3 Dfree,T.keep _ _ _ a1 fun b d o e=>a0 b o e,fun b d=>(V b d).1, .nil,w0⟩
  rintro n s5 ⟨i,ys,us,R,U,I5,a5,a9,vy,w5⟩;obtain ⟨hz,⟨a2,qn⟩ | ⟨go,a6⟩⟩:=a4 i n ys U w5
  ·refine wpAny_mono (T.done (X.inc (own++cs.map (·.2)) scope cl fp s2 H2 C) rfl rfl rfl hc i _ s5 _ U (fun _ _=>False) I5 (B a9) a5 a2) (fun r s6 z=>?_) fun _ _ z=>z;obtain ⟨rfl,I6⟩:=z;obtain ⟨m6,b1,_⟩:=id I6.loc;refine ⟨m6,b1,fun h7 b2=>?_⟩;obtain ⟨pD,pN,_,_,_⟩:=I6.pin (D,{ cls:=.type "list",data:=.seq us.toArray R }) (by simp);have k:∀ b,b≠C->h7.get? b=s6.heap.get? b:=fun b d=>b2.2 b d;have Z:=b5;have u7:Un (frs X.stack) fp H2 U s2.heap h7:=⟨fun b o e n1 n2 n3=>(k b (Z b o e)).trans (I6.base.keep b o e n1 n2 n3),fun b o e n1 n2 n3=>by
     obtain ⟨sl,z⟩:=I6.base.slot b o e n1 n2 n3;exact ⟨sl,(k b (Z b o e)).trans z⟩,I6.base.free,fun b o e n1=>by
     obtain ⟨o',z⟩:=I6.base.there b o e n1;exact ⟨o',(k b (Z b o e)).trans z⟩,I6.base.tups,I6.base.frzs,I6.base.tbls⟩
   have Cfree:U C=none:=I6.free;have a7:HOk X.prog X.w U h7:=fun a o e=>by
    refine (I6.hok a o e).stay (fun c v b0 q=>(k c ?_).trans q) (fun _ q=>q) fun _ _ q=>q;rintro rfl;rcases b0 with z | z
    ·rw [<- z] at e;rw [Cfree] at e;cases e
    ·rw [Cfree] at z;cases z
   have I7:Inv X E σ U { s6 with heap:=h7 }:=I2.call' (s':={ s6 with heap:=h7 }) I6.os u7 a7 I6.bare fun b d=>⟨(V b d).2.2.2.1,(V b d).2.1,(V b d).2.2.2.2.1,(V b d).2.2.2.2.2⟩;have I8:=I7.track (a:=D) (o:=.lst ys) pN (Heap.get?_none_of_le (by rw [f];exact I2.sz)) (by rw [f];exact Nat.ne_of_gt I2.lt) (fun x c e z=>by
     obtain ⟨v,o,ho,_⟩:=I2.cell x c e;exact G _ _ ho z) (fun p Y z=>G _ _ (I2.pin p Y).1 z) ⟨hz,us,R,vy,(k D t).trans pD⟩
   exact ⟨.ref D,_,I8,rfl,qn D pN⟩
  ·refine wpAny_mono (T.item (X.inc (own++cs.map (·.2)) scope cl fp s2 H2 C) rfl rfl rfl hc i _ s5 _ U (fun _ _=>False) I5 (B a9) a5 go) (fun r s6 z=>?_) fun _ _ z=>z;obtain ⟨u,rfl,z⟩:=z;refine wpAny_mono z (fun _ s7 ζ=>?_) fun _ _ z=>z;obtain ⟨x,H7,I7,r7,y7,S,b4⟩:=ζ;have I7':=I7.pinned (B b4) (T.obj _ _ S);refine wpAny_mono (hg fp s2 H2 C _ s7 _ H7 x u _ I7' r7 (a6 x H7 y7)) (fun _ s8 ⟨σ8,H8,I8,q8⟩=>?_) fun _ _ z=>z;refine wpAny_mono (he fp s2 H2 C _ s8 σ8 H8 _ I8 q8) (fun uy s9 ζ=>?_) fun _ _ z=>z;obtain ⟨y,H9,I9,r9,m',b7,w9⟩:=ζ;obtain ⟨pD,pN,_,_,_⟩:=I9.pin (D,{ cls:=.type "list",data:=.seq us.toArray R }) (by simp);refine append_at (its:=us.toArray) (n:=R) pD (fun b3 P O=>?_) (by rw [size_toArray, <- vy.length];exact hz);have l:∀ b∈fp, ∀ o,s7.heap.get? b=some o->s9.heap.get? b=some o/\H9 b=none:=fun b d o e=>by
    have z:=I9.pin (b,o) (mem_append_right _ (mem_append_right _ (Jb7 d e)));exact ⟨z.1,z.2.1⟩
   have I9':Inv (X.inc (own++cs.map (·.2)) scope cl fp s2 H2 C) [] (List.replicate own.length none++JaF cs σ) H9 s9:=I2.incAgain I9 V hcl hcs;have I10:Inv (X.inc (own++cs.map (·.2)) scope cl fp s2 H2 C) [] (List.replicate own.length none++JaF cs σ) H9 { s9 with heap:=b3 }:=I9'.turned (it:=D) (t':=s9.toks) (fun b o d e=>(P.2 b d).trans e) pN t (.inr (Nat.le_of_eq f.symm)) (fun x c e z=>by
     obtain ⟨v,o,ho,_⟩:=I2.cell x c (hcl x c e);exact G _ _ ho z) fun p Y=>by simp at Y
   rw [lstP] at O;refine ⟨m',b7,i+1,ys++[y],us++[uy],R+1,H9,M I10 O pN,T.keep _ _ _ S fun b d o e=>?_,fun b d=>?_,vy.append (.cons r9 .nil),w9⟩
   ·exact (P.2 b (Nat.ne_of_lt (K b d))).trans (l b d o e).1
   ·obtain ⟨o,e,_⟩:=T.obj _ _ S b d;exact (l b d o e).2
 exact codeAny_compStart_list (L _ rfl) (T.self _ 0 _ _ _ (T.keep _ _ _ a1 fun b d o e=>a0 b o e) (L _ rfl))
end
section
variable {X:Cx}
def rInU (K:W.Frag):R2:=fun x y H Q=>match x,y with
 | .str i, .str j=>Q (.bl (!(Builtin.Str.occurrences j i 0 j.length 1).isEmpty)) H
 | x,y=>rIn K false x y H Q
theorem Jk8:OpR X (compareOp .In) (rInU X.K):=fun a s σ H x y v u Q I c b q=>by
 unfold rInU at q;split at q
 ·exact Jh1 a s σ H _ _ v u Q I c b ⟨_,_,rfl,rfl,q⟩
 ·exact Jh0 a s σ H _ _ v u Q I c b q
theorem Jk7 {K:W.Frag} (hK:X.K=K):OpR X (compareOp .In) (rInU K):=hK ▸ Jk8
theorem y5dy {K:W.Frag} {i j:Str} {H:Hp} {Q:VK}:rInU K (.str i) (.str j) H Q=Q (.bl (!(Builtin.Str.occurrences j i 0 j.length 1).isEmpty)) H:=rfl
theorem all_range:∀ bs:List Bool,(List.range bs.length).all (fun i=>bs.getD i false)=bs.all id:=fun bs=>by
 rw [Bool.eq_iff_iff];simp only [List.all_eq_true,List.mem_range,id];constructor
 ·intro h x b;obtain ⟨i,a,rfl⟩:=List.mem_iff_getElem.mp b;have:=h i a;simpa [List.getD_eq_getElem?_getD,a] using this
 ·intro h i a;have:=h bs[i] (List.getElem_mem a);simpa [List.getD_eq_getElem?_getD,a] using this
def rAll (K:W.Frag):List V->Hp->VK->Prop:=fun xs H Q=>∃ (p:Addr) (bs:List Bool),xs=[.ref p]/\SqL K H p (bs.map V.bl)/\Q (.bl (bs.all id)) H
theorem Jhr (hc:X.calm=true):CallR X (.builtin "all") (rAll X.K):=fun n s σ H G N Q I r q=>by
 obtain ⟨p,c,rfl,B,q⟩:=q;obtain ⟨a,f,g,E⟩:=I.list B;obtain ⟨u,rfl,C⟩:=vals1 r;cases (show u=Value.ref p from C);refine call_all_walk (wpAny_pyIter_list g.isList ?_);have h:p<s.heap.objs.size:=by
  obtain ⟨_,e,_⟩:=g.isList;exact Heap.lt_size e
 refine ⟨s.heap.objs.size,_,_,a.toArray.size,_,_,fun i=>c.getD i false,rfl,Walks.list (by show X.A.handled=none;exact I.ok.hd hc) s.heap.objs.size p (Nat.ne_of_lt h) a.toArray,⟨⟨_,Heap.get?_push_size _ rfl,rfl,rfl⟩,g.isList.push _⟩,?_,?_⟩
 ·intro i v L Q' E' w y;have d:a[i]?=some v:=by simpa using w
  have m:i<c.length:=by
   obtain ⟨J,_⟩:=List.getElem?_eq_some_iff.mp d;have l:=f.length;rw [length_map] at l;ac_nf
  obtain ⟨M,j,D⟩:=f.get (i:=i) (x:=.bl c[i]) (by simp [m]);rw [d] at j;cases j;cases (show v=Value.bool c[i] from D);refine wpAny_truthy_bool ?_;simpa [List.getD_eq_getElem?_getD,m] using y
 ·intro F z k;have l:=f.length;rw [length_map] at l;have t:(List.range a.toArray.size).all (fun i=>c.getD i false)=c.all id:=by rw [size_toArray, <- l];exact all_range c
  rw [t];exact ⟨.bl _,H,I.kept (t':=z) fun b o e=>k b o (by have:=Heap.lt_size e;simp;exact Nat.ne_of_lt this) (Heap.get?_push_of_some _ e),rfl,q⟩
end
theorem hcl0 {X:Cx}:∀ (x:Str) (c:Addr),([]:List (Str × Addr)).lookup x=some c->X.env.cells.lookup x=some c:=fun _ _ h=>by simp at h
theorem hcs0 {X:Cx} {scope:Scope}:∀ p∈([]:List (Nat × Str)),X.N[p.1]?=some p.2/\X.env.scope.names.lookup p.2=some .cell/\(relabel scope X.env).names.lookup p.2=some .cell:=fun _ h=>by simp at h
theorem hhas0 {X:Cx} {scope:Scope} (h:scope.names.all (fun p=>p.2 != .free&&p.2 != .cell)=true):∀ y,((relabel scope X.env).names.lookup y=some .cell\/(relabel scope X.env).names.lookup y=some .free)->∃ c,([]:List (Str × Addr)).lookup y=some c:=fun y a=>by
 exfalso;have i:=List.all_eq_true.mp h;have d:∀ k,(relabel scope X.env).names.lookup y=some k->k≠.cell/\k≠.free:=fun k e=>by
  have m:=PySem.mem_of_lookup e;obtain ⟨⟨n,b⟩,j,g⟩:=mem_map.mp (show (y,k)∈scope.names.map _ from m);have z:=i _ j;simp only [bne_iff_ne,ne_eq,Bool.and_eq_true] at z;have f:(if (b == NameKind.free&&X.env.scope.kind == .function&&X.env.kindOf n == some .cell)=true then (n,NameKind.cell) else (n,b))=(y,k):=g;split at f
  ·rename_i c;rw [Bool.and_eq_true,Bool.and_eq_true] at c;exact absurd (beq_iff_eq.mp c.1.1) z.1
  ·cases f;exact ⟨z.2,z.1⟩
 rcases a with a | a
 ·exact (d _ a).1 rfl
 ·exact (d _ a).2 rfl
def tyD:D->String
 | .non=>"NoneType"
 | .bl _=>"bool"
 | .int _=>"int"
 | .str _=>"str"
 | .tup _=>"tuple"
 | .lst _=>"list"
theorem Rep.tyN {K:W.Frag} {H:Hp} {d:D} {x:V} (h:Rep K H d x):L2.tyN K H x (tyD d):=by
 cases d <;> simp only [Rep] at h
 ·subst h;rfl
 ·subst h;rfl
 ·subst h;rfl
 ·subst h;rfl
 ·obtain ⟨a,b,rfl,q,_⟩:=h;exact .inr ⟨rfl,b,q⟩
 ·obtain ⟨a,b,rfl,q,_⟩:=h;exact .inl ⟨rfl,b,q⟩
mutual
def szD:D->Prop
 | .int i=>Mth.Sz 4000 i
 | .str s=>s.length<=1000
 | .tup xs=>szL xs
 | .lst xs=>szL xs
 | _=>True
def szL:List D->Prop
 | []=>True
 | x::xs=>szD x/\szL xs
end
def lowB (c:Nat):Bool:=decide (97<=c/\c<=122)
def nameS (s:Str):Bool:=(decide (1<=s.length)&&decide (s.length<=8))&&s.cps.toList.all lowB
def nameB:D->Bool
 | .str s=>nameS s
 | _=>false
def Jcb:D->Bool
 | .int _=>true
 | _=>false
def fracB:D->Bool
 | .tup [.int a, .int b]=>decide (1<=b)&&decide (Mth.g a b=1)
 | _=>false
def JcQ:D->Bool
 | .non=>true
 | d=>fracB d
def JcR (d e:D):Bool:=nameB d&&nameB e&&!eqD d e
def lessD:D->D->Bool
 | .tup [.int a, .int b], .tup [.int c, .int d]=>decide (a*d<c*b)
 | _,_=>false
def JeL (l g:D):Bool:=JcQ l&&JcQ g&&!lessD g l
def tieB:D->Bool
 | .tup [n,s,e,l,g]=>nameB n&&JcR s e&&JeL l g
 | _=>false
theorem Jg7:(Str.ofString "abcdefghijklmnopqrstuvwxyz").cps.toList=List.range' 97 26:=by decide
theorem Jg5 (c:Nat):(!(Builtin.Str.occurrences (Str.ofString "abcdefghijklmnopqrstuvwxyz") ⟨#[c]⟩ 0 (Str.ofString "abcdefghijklmnopqrstuvwxyz").length 1).isEmpty)=lowB c:=by
 rw [StrLaws.found_one,Jg7];unfold lowB
 congr 1
 rw [List.mem_range'];refine propext ⟨fun ⟨i,a,e⟩=>by ac_nf,fun h=>⟨c-97,by ac_nf,by ac_nf⟩⟩
structure KCal (P:Program) (w:World) (K:W.Frag) (mg:Str->Option Value) (base:Heap) (k:Nat) (x:Str) (C:Addr) (ps:List Str) (sp:Sp):Prop where
 ex:∃ (f:Addr) (fd:FuncData),FnOk P w K mg base (CX1 P w) k f fd ps sp/\mg x=some (.ref C)/\Mk K C f/\Binds K fd ps []
structure MCal (P:Program) (w:World) (K:W.Frag) (mg:Str->Option Value) (base:Heap) (k:Nat) (m:Str) (Cs:Addr->Prop) (ps:List Str) (sp:Sp):Prop where
 ex:∃ (f:Addr) (fd:FuncData),FnOk P w K mg base (CX1 P w) k f fd ps sp/\(∀ C,Cs C->Cls K C/\Meth K C m f)/\W.keepIn K (.ref f)=true/\Binds K fd ps []
def Jit (Cs:Addr->Prop) (m:Str) (sp:Sp) (E:XK) (ta:TE) (t:TA):TE:=fun σ H Q=>ta σ H fun x H1=>∃ a C dx fs,x=.ref a/\H1 a=some (.ins C dx fs)/\Cs C/\fs.lookup m=none/\t σ H1 fun vs H2=>sp (x::vs) H2 Q E
section
variable {X:Cx} {k k':Nat} {x mn:Str} {C:Addr} {Cs:Addr->Prop} {ps:List Str} {sp:Sp} {E:XK} {p pos apos:Pos} {e o:Expr} {es:List Expr} {t:TA} {ta:TE}
theorem KCal.ev (G:KCal X.prog X.w X.K X.mg X.base k x C ps sp) (hr:Room k' X.A) (hk:k+1<=k') (hg:Gl X x) (hx:JbU (CX1 X.prog X.w) X E) (ha:PA X (e::es) t)
  (hdb:(x == ("__debug__" : Str))=false:=by decide) (he:starEach (e::es) X.env=(false,eval e X.env)::starEach es X.env:=by rfl) (hpl:(backTo pos (starEach es X.env)).any (·.1)=false:=by rfl) :
  PE X (.Call (.Name x p) (e::es) [] pos) (tMake C sp [] E t):=by
 obtain ⟨f,c,F,b,M,a⟩:=G.ex;exact Jkl M F (hr.mono hk) hg b a .nil hx ha hdb he hpl
theorem MCal.m {pl:Sem Bool} (G:MCal X.prog X.w X.K X.mg X.base k mn Cs ps sp) (hr:Room k' X.A) (hk:k<=k') (hx:JbU (CX1 X.prog X.w) X E) (ho:PE X o ta) (ha:PA X (e::es) t)
  (hst:starEach (e::es) X.env=(false,eval e X.env)::starEach es X.env:=by rfl) (hpl:(backTo pos (starEach es X.env)).any (·.1)=false:=by rfl)
  (ht:eval (.Call (.Attribute o mn apos) (e::es) [] pos) X.env=(do
   let ov <- eval o X.env
   standAt apos.atName
   let (f,first) <- holding [ov] (getMethod ov mn pl)
   callWith pos f first (backTo pos (starEach (e::es) X.env)) (backToKw pos (keywordEach [] X.env))):=by rfl) :
  PE X (.Call (.Attribute o mn apos) (e::es) [] pos) (Jit Cs mn sp E ta t):=by
 obtain ⟨f,D,F,d,y,n⟩:=G.ex;intro b s σ H Q I h;refine W.methodCall_KW (pl:=pl) (thn (ho b s σ H _ I h) fun u z ζ=>?_) ht;obtain ⟨x,g,I1,v,a,C,M,J,i,j,c,l,q⟩:=ζ;subst i;obtain rfl:u=Value.ref a:=v;refine JeB I1 j (d C c).1 (d C c).2 l ?_;refine W.callWith_K (first:=[.ref a]) (h₀:=X.base) I.ok.mod.kin y (thn (ha pos b z σ g _ I1 q) fun us L ⟨vs,B,I2,r,p⟩=>⟨I2.kIn,?_⟩) hst hpl;exact JgR (us:=.ref a::us) (vs:=.ref a::vs) F (hr.mono hk) n .nil hx I2 (.cons rfl r) (by simpa using p)
theorem MCal.m0 {pl:Sem Bool} (G:MCal X.prog X.w X.K X.mg X.base k mn Cs ps sp) (hr:Room k' X.A) (hk:k<=k') (hx:JbU (CX1 X.prog X.w) X E) (ho:PE X o ta)
  (ht:eval (.Call (.Attribute o mn apos) [] [] pos) X.env=(do
   let ov <- eval o X.env
   standAt apos.atName
   let (f,first) <- holding [ov] (getMethod ov mn pl)
   callWith pos f first (backTo pos (starEach [] X.env)) (backToKw pos (keywordEach [] X.env))):=by rfl) :
  PE X (.Call (.Attribute o mn apos) [] [] pos) (Jit Cs mn sp E ta tNil):=by
 obtain ⟨f,p,F,d,n,j⟩:=G.ex;intro b s σ H Q I h;refine W.methodCall_KW (pl:=pl) (thn (ho b s σ H _ I h) fun u v ζ=>?_) ht;obtain ⟨x,e,I1,m,a,C,t,r,g,i,c,l,q⟩:=ζ;subst g;obtain rfl:u=Value.ref a:=m;refine JeB I1 i (d C c).1 (d C c).2 l ?_;exact W.callWith_K0 (first:=[.ref a]) I1.kIn n (JgR (us:=[.ref a]) (vs:=[.ref a]) F (hr.mono hk) j .nil hx I1 (.cons rfl .nil) (show sp ([.ref a]++[]) e Q E from q))
def rMulS:R2:=fun x y H Q=>match x,y with
 | .str z, .int n=>0<n/\n<1000/\z.length<=1000/\∀ z':Str,z'.cps.toList=(List.replicate n.toNat z.cps.toList).flatten->Q (.str z') H
 | x,y=>rMulU x y H Q
theorem JeN:∀ (l:List (Array Nat)) (acc:Array Nat),(l.foldl (· ++ ·) acc).toList=acc.toList++(l.map (·.toList)).flatten
 | [],acc=>by simp
 | x::l,acc=>by
  rw [List.foldl_cons,JeN l];simp
theorem Jh2:OpR X (binaryOp .Mult) rMulS:=fun a s σ H x y v u Q I d b q=>by
 unfold rMulS at q;split at q
 ·rename_i z n;obtain ⟨h,j,i,q⟩:=q;obtain ⟨t,rfl⟩:=d;obtain ⟨k,rfl⟩:=b;have f:z.cps.size=z.length:=rfl;have g:z.length*n.toNat<=1000*1000:=Nat.mul_le_mul i ∅;refine PySem.P.mul_str (by simp;ac_nf) (fun _ _=>?_) (fun _ _=>?_) ?_
  ·have : (1000:Int)<=(2 ^ 63-1)/n:=by
    rw [Int.le_ediv_iff_mul_le h];ac_nf
   ac_nf
  ·unfold Builtin.Str.tooLong;simp;have : (1000*1000:Nat)<=sizeLine:=by decide
   ac_nf
  ·rw [if_neg ∅];split
   ·rename_i c;refine ⟨.str z,H,I,⟨_,rfl⟩,q z ?_⟩;rcases Bool.or_eq_true _ _ |>.mp c with c | c
    ·obtain rfl:n=1:=by simpa using c
     simp
    ·have e:z.cps.toList=[]:=by
      have : z.length=0:=by simpa using c
      exact List.eq_nil_of_length_eq_zero (by rw [Array.length_toList];exact this)
     rw [e];simp
   ·refine ⟨?_, .str _,H,I.tok _,⟨_,rfl⟩,q _ ?_⟩
    ·show (Array.size _)<=sizeLine;rw [<- Array.length_toList,JeN];simp;have : (1000*1000:Nat)<=sizeLine:=by decide
     rw [Nat.mul_comm,f];ac_nf
    ·rw [JeN];simp
 ·exact Jkf a s σ H _ _ v u Q I d b q
def rIsN:R2:=fun x y H Q=>y=.non/\Q (.bl (decide (x=.non))) H
def rNotN:R2:=fun x y H Q=>y=.non/\Q (.bl (!decide (x=.non))) H
theorem Je6:OpR X (compareOp .Is) rIsN:=Jk9
theorem Je7:OpR X (compareOp .IsNot) rNotN:=Jkg
def Jlk (K:W.Frag):List V->Hp->VK->Prop:=fun xs H Q=>∃ p ys,xs=[.ref p]/\(SqL K H p ys\/SqT K H p ys)/\∀ l,H l=none->Q (.ref l) (upd H l (.lst ys))
theorem Jew:CallR X (.type "list") (Jlk X.K):=Jfu
end
section
variable {K:W.Frag} {H:Hp} {Q:VK}
theorem y60y {x:V}:rIsN x .non H Q=Q (.bl (decide (x=.non))) H:=by simp [rIsN]
theorem y76y {x:V}:rNotN x .non H Q=Q (.bl (!decide (x=.non))) H:=by simp [rNotN]
theorem y66y {C:Addr} {sp:Sp} {dvs:List V} {E:XK} {t:TA} {σ : St}:tMake C sp dvs E t σ H Q=t σ H fun vs H1=>∀ x dx,H1 x=none->H1 dx=none->dx≠x->sp (.ref x::(vs++dvs)) (upd (upd H1 dx (.own x)) x (.ins C dx [])) (fun v H2=>v=.non/\Q (.ref x) H2) E:=rfl
theorem y67y {Cs:Addr->Prop} {mn:Str} {sp:Sp} {E:XK} {ta:TE} {t:TA} {σ : St}:Jit Cs mn sp E ta t σ H Q=ta σ H fun x H1=>∃ a C dx fs,x=.ref a/\H1 a=some (.ins C dx fs)/\Cs C/\fs.lookup mn=none/\t σ H1 fun vs H2=>sp (x::vs) H2 Q E:=rfl
theorem y4dy {ta:TE} {f:Str} {σ : St}:tFld K ta f σ H Q=ta σ H fun x H1=>∃ a C dx fs v,x=.ref a/\H1 a=some (.ins C dx fs)/\Cls K C/\JaU K C f/\fs.lookup f=some v/\Q v H1:=rfl
theorem y84y {ta tv:TE} {f:Str} {σ : St} {En:Ends}:sFld K ta tv f En σ H=tv σ H fun y H1=>ta σ H1 fun x H2=>∃ a C dx fs,x=.ref a/\H2 a=some (.ins C dx fs)/\Cls K C/\JaU K C f/\fs.length<1000/\En.nx σ (upd H2 a (.ins C dx (putF f y fs))):=rfl
theorem y2cy {T:String} {r:V->List V->Hp->VK->Prop} {to:TE} {t:TA} {σ : St}:tBM K T r to t σ H Q=to σ H fun x H1=>tyV K T x H1/\t σ H1 fun vs H2=>r x vs H2 Q:=rfl
theorem y57y {g:TG} {gs:TGs} {v:V} {r:List V} {σ : St} {R:St->Hp->Prop}:gCons g gs (v::r) σ H R=g v σ H fun σ' H'=>gs r σ' H' R:=by
 unfold gCons;refine propext ⟨fun ⟨a,b,e,h⟩=>?_,fun h=>⟨v,r,rfl,h⟩⟩;cases e;exact h
theorem y59y {σ : St} {R:St->Hp->Prop}:gNil [] σ H R=R σ H:=by unfold gNil;simp
theorem FrV.of_rep {x:V} {a b:Int} (h:Rep K H (.tup [.int a, .int b]) x):FrV K H x a b:=by
 simp only [Rep,RepL] at h;obtain ⟨p,d,rfl,q,v,r,rfl,rfl,c,e,rfl,rfl,rfl⟩:=h;exact ⟨p,rfl,q⟩
theorem Jdq {d:D} (h:fracB d=true):∃ a b,d=.tup [.int a, .int b]/\1<=b/\Mth.g a b=1:=by
 unfold fracB at h;split at h
 ·rw [Bool.and_eq_true] at h;exact ⟨_,_,rfl,by simpa using h.1,by simpa using h.2⟩
 ·cases h
theorem JeF {d:D} (h:nameB d=true):∃ z,d=.str z/\nameS z=true:=by
 cases d <;> first | exact ⟨_,rfl,h⟩ | (simp [nameB] at h)
theorem Rep.str {d:Str} {x:V} (h:Rep K H (.str d) x):x=.str d:=by simpa only [Rep] using h
def nonD:D->Bool
 | .non=>true
 | _=>false
theorem JhV {d:D} (h:d≠.non):nonD d=false:=by cases d <;> first | rfl | exact absurd rfl h
theorem Rep.nonV {d:D} {x:V} (hx:Rep K H d x):decide (x=.non)=nonD d:=by
 cases d <;> simp only [Rep] at hx
 ·subst hx;rfl
 ·subst hx;rfl
 ·subst hx;rfl
 ·subst hx;rfl
 ·obtain ⟨a,b,rfl,_⟩:=hx;rfl
 ·obtain ⟨a,b,rfl,_⟩:=hx;rfl
theorem putE {H':Hp} {l:Addr} {o:HO} (e:upd H l o=H'):H' l=some o:=by rw [<- e,Jaj]
end
section
variable {En:Ends} {σ : St} {H:Hp} {Q:VK} {ta tb te tc td:TE} {K:W.Frag}
end
def Jbq (cells:List (Str × Addr)):List (Str × NameKind)->List (Str × Addr)->List (Str × Addr)
 | [],acc=>acc
 | (n,k)::r,acc=>Jbq cells r (if k == .free then (n,(cells.lookup n).getD 0)::acc else acc)
theorem JfY {env:Env}:∀ (names:List (Str × NameKind)) (acc:List (Str × Addr)),(∀ p∈names,p.2=.free->∃ c,env.cells.lookup p.1=some c) ->
  (forIn names acc fun (p:Str × NameKind) cs=>(if p.2 == .free then do let c <- cellOf env p.1;pure (ForInStep.yield ((p.1,c)::cs)) else pure (ForInStep.yield cs):Sem (ForInStep (List (Str × Addr)))))=(pure (Jbq env.cells names acc):Sem (List (Str × Addr)))
 | [],acc,_=>by simp [Jbq]
 | (n,k)::r,acc,h=>by
  rw [List.forIn_cons];by_cases c:(k == .free)=true
  ·obtain ⟨a,ha⟩:=h (n,k) mem_cons_self (beq_iff_eq.mp c);have e:cellOf env n=pure a:=by unfold cellOf;rw [ha]
   simp only [c,if_true,e,pure_bind];have:=JfY (env:=env) r ((n,a)::acc) fun p hp=>h p (mem_cons_of_mem _ hp);simp only [Jbq,c,if_true,ha,Option.getD_some];exact this
  ·have c':(k == .free)=false:=by simpa using c
   simp only [c',Bool.false_eq_true,if_false,pure_bind];have:=JfY (env:=env) r acc fun p hp=>h p (mem_cons_of_mem _ hp);simp only [Jbq,c',Bool.false_eq_true,if_false];exact this
theorem JfX {scope:Scope} {env:Env} (h:∀ p∈scope.names,p.2=.free->∃ c,env.cells.lookup p.1=some c):closureFor scope env=pure (Jbq env.cells scope.names []):=by
 have:=JfY (env:=env) scope.names [] h;unfold closureFor;simp only [pure_bind];refine Eq.trans ?_ (congrArg (fun m:Sem (List (Str × Addr))=>m >>= pure) this |>.trans (by simp));first | rfl | (congr 1)
theorem JcM {cells:List (Str × Addr)}:∀ (names:List (Str × NameKind)) (acc:List (Str × Addr)),(∀ x c,acc.lookup x=some c->cells.lookup x=some c)->(∀ p∈names,p.2=.free->∃ c,cells.lookup p.1=some c) ->
  ∀ x c,(Jbq cells names acc).lookup x=some c->cells.lookup x=some c
 | [],acc,ha,_,x,c,h=>ha x c h
 | (n,k)::r,acc,ha,hf,x,c,h=>by
  simp only [Jbq] at h;refine JcM r _ ?_ (fun p hp=>hf p (mem_cons_of_mem _ hp)) x c h;intro y d hy;by_cases f:(k == .free)=true
  ·rw [if_pos f] at hy;obtain ⟨a,e⟩:=hf (n,k) mem_cons_self (beq_iff_eq.mp f);rw [List.lookup_cons] at hy;by_cases q:(y == n)=true
   ·rw [q] at hy;have q':y=n:=beq_iff_eq.mp q;subst q';have e':cells.lookup y=some a:=e;rw [e'] at hy ⊢;simpa using hy
   ·have q':(y == n)=false:=by simpa using q
    rw [q'] at hy;exact ha y d hy
  ·rw [if_neg f] at hy;exact ha y d hy
theorem JcL {cells:List (Str × Addr)}:∀ (names:List (Str × NameKind)) (acc:List (Str × Addr)) (y:Str),((∃ c,acc.lookup y=some c)\/(y,NameKind.free)∈names)->∃ c,(Jbq cells names acc).lookup y=some c
 | [],acc,y,h=>by
  rcases h with h | h
  ·exact h
  ·simp at h
 | (n,k)::r,acc,y,h=>by
  simp only [Jbq];refine JcL r _ y ?_;rcases h with ⟨c,h⟩ | h
  ·refine .inl ?_;split
   ·rw [List.lookup_cons];cases (y == n)
    ·exact ⟨c,h⟩
    ·exact ⟨_,rfl⟩
   ·exact ⟨c,h⟩
  ·rcases mem_cons.mp h with e | h
   ·cases e;refine .inl ?_;rw [if_pos ⋯,List.lookup_cons];simp
   ·exact .inr h
section
variable {X:Cx} {tg:Expr}
theorem JiZ {iter elt:Expr} {scope:Scope} {pos:Pos} {own:List Str} {cs:List (Nat × Str)} {wi:TI} {g:TG} {te:TE} (hc:X.calm=true) (hi:PI X tg iter wi)
  (hg:∀ fp s2 H2 C,PG (X.inc (own++cs.map (·.2)) scope (Jbq X.env.cells scope.names []) fp s2 H2 C) tg g) (he:∀ fp s2 H2 C,PE (X.inc (own++cs.map (·.2)) scope (Jbq X.env.cells scope.names []) fp s2 H2 C) elt te)
  (hfree:∀ p∈scope.names,p.2=.free->X.env.scope.names.lookup p.1=some .cell) (hcell:∀ y∈scope.names,y.2≠.cell) (hkind:scope.kind=.function) (hnames:∀ y∈scope.names,y.2=.local->scope.names.lookup y.1=some .local)
  (hcs:∀ p∈cs,X.N[p.1]?=some p.2/\X.env.scope.names.lookup p.2=some .cell/\(relabel scope X.env).names.lookup p.2=some .cell)
  (hs:∀ x,foldedSetIterable iter X.env x=pure x:=by intro _;rfl):PE X (.ListComp elt [⟨tg,iter,[],0⟩] scope pos) (tComp own.length cs wi g te):=by
 intro b s σ H Q I h;have l:∀ p∈scope.names,p.2=.free->∃ c,X.env.cells.lookup p.1=some c:=fun p q f=>I.ok.has p.1 (.inl (hfree p q f));refine Jd9 hc hi hg he (JfX l) hcell hkind hnames (JcM scope.names [] (fun _ _ z=>by simp at z) l) (fun y a=>JcL scope.names [] y (.inr ?_)) hcs hs b s σ H Q I h;have o:∀ k,(k=.cell\/k=.free)->(relabel scope X.env).names.lookup y=some k->(y,NameKind.free)∈scope.names:=fun k f e=>by
  have m:=PySem.mem_of_lookup e;obtain ⟨⟨n,j⟩,d,r⟩:=mem_map.mp (show (y,k)∈scope.names.map _ from m);have i:(if (j == NameKind.free&&X.env.scope.kind == .function&&X.env.kindOf n == some .cell)=true then (n,NameKind.cell) else (n,j))=(y,k):=r;split at i
  ·rename_i c;rw [Bool.and_eq_true,Bool.and_eq_true] at c;have:=beq_iff_eq.mp c.1.1;subst this;cases i;exact d
  ·cases i;rcases f with rfl | rfl
   ·exact absurd rfl (hcell _ d)
   ·exact d
 rcases a with a | a
 ·exact o _ (.inl rfl) a
 ·exact o _ (.inr rfl) a
theorem JgF {scope sc:Scope} (h:scope.names.all (fun p=>p.2 != .free||(sc.names.lookup p.1 == some .cell))=true):∀ p∈scope.names,p.2=.free->sc.names.lookup p.1=some .cell:=fun p a b=>by
 have z:=List.all_eq_true.mp h p a;rw [b] at z;simpa using z
end
theorem hcs1 {X:Cx} {scope:Scope} {i:Nat} {x:Str} (a:X.N[i]?=some x) (b:X.env.scope.names.lookup x=some .cell) (c:(relabel scope X.env).names.lookup x=some .cell) :
  ∀ p∈[(i,x)],X.N[p.1]?=some p.2/\X.env.scope.names.lookup p.2=some .cell/\(relabel scope X.env).names.lookup p.2=some .cell:=fun p d=>by
 rcases mem_singleton.mp d with rfl
 exact ⟨a,b,c⟩
theorem hcs2 {X:Cx} {scope:Scope} {i j:Nat} {x y:Str} (a:X.N[i]?=some x) (b:X.env.scope.names.lookup x=some .cell) (c:(relabel scope X.env).names.lookup x=some .cell)
  (a':X.N[j]?=some y) (b':X.env.scope.names.lookup y=some .cell) (c':(relabel scope X.env).names.lookup y=some .cell) :
  ∀ p∈[(i,x),(j,y)],X.N[p.1]?=some p.2/\X.env.scope.names.lookup p.2=some .cell/\(relabel scope X.env).names.lookup p.2=some .cell:=fun p d=>by
 rcases mem_cons.mp d with rfl | d
 ·exact ⟨a,b,c⟩
 ·rcases mem_singleton.mp d with rfl
  exact ⟨a',b',c'⟩
section
variable {X:Cx} {tg:Expr}
theorem JhF {X:Cx} {scope:Scope} (hcell:∀ y∈scope.names,y.2≠.cell) {y:Str} (hy:(relabel scope X.env).names.lookup y=some .cell\/(relabel scope X.env).names.lookup y=some .free):(y,NameKind.free)∈scope.names:=by
 have f:∀ k,(k=.cell\/k=.free)->(relabel scope X.env).names.lookup y=some k->(y,NameKind.free)∈scope.names:=fun k h e=>by
  have m:=PySem.mem_of_lookup e;obtain ⟨⟨n,d⟩,a,g⟩:=mem_map.mp (show (y,k)∈scope.names.map _ from m);have b:(if (d == NameKind.free&&X.env.scope.kind == .function&&X.env.kindOf n == some .cell)=true then (n,NameKind.cell) else (n,d))=(y,k):=g;split at b
  ·rename_i c;rw [Bool.and_eq_true,Bool.and_eq_true] at c;have:=beq_iff_eq.mp c.1.1;subst this;cases b;exact a
  ·cases b;rcases h with rfl | rfl
   ·exact absurd rfl (hcell _ a)
   ·exact a
 rcases hy with hy | hy
 ·exact f _ (.inl rfl) hy
 ·exact f _ (.inr rfl) hy
end
section
variable {prog:Program} {w:World} {A:Around} {E:Value->Shared->Prop} {R:Result->Shared->Prop} {s:Shared}
theorem JfZ {elt target iter tst:Expr} {scope:Scope} {pos:Pos} {it acc:Value} {env:Env} (J:Nat->Shared->Prop)
  (turn:∀ n s,J n s->wpAny (model prog w) A (pyNext it) (fun r s1=>match r with
   | none=>R (.ok .next) s1
   | some v=>wpAny (model prog w) A (letOwnedTupleGo target it v) (fun _ s2=>wpAny (model prog w) A (assign target env v) (fun _ s3=>wpAny (model prog w) A (isTrue tst env (eval tst env)) (fun b s3'=>if b=true then wpAny (model prog w) A (eval elt env) (fun x s4=>
     wpAny (model prog w) A (call (.builtin "list.append") [acc,x]) (fun _ s5=>∃ m,m<n/\J m s5) (fun _ _=>False) s4) (fun _ _=>False) s3' else ∃ m,m<n/\J m s3') (fun _ _=>False) s3) (fun _ _=>False) s2) (fun _ _=>False) s1) (fun _ _=>False) s) (n:Nat) (h:J n s) :
  codeAny (model prog w) A (.compLoop (.ListComp elt [⟨target,iter,[tst],0⟩] scope pos) 0 it acc env) R s:=by
 refine codeAny_loop rfl J (fun n s d=>?_) n h;show wpAny _ A ((compTurn (.ListComp elt [⟨target,iter,[tst],0⟩] scope pos) 0 it acc env).onRaise (fun y=>do noteFrame y env;theTreesLotGoes y)) _ _ s
 (refine wpAny_noted ?_;rw [compTurn_list])
 refine wpAny_bind (wpAny_standAt (wpAny_bind (wpAny_mono (turn n s d) (fun r s1 c=>?_) fun _ _ z=>z.elim)));cases r with
 | none=>exact wpAny_pure c
 | some v=>
  refine wpAny_bind (wpAny_mono c (fun _ s2 f=>wpAny_bind (wpAny_mono f (fun _ s3 g=>?_) fun _ _ z=>z.elim)) fun _ _ z=>z.elim);refine wpAny_bind (wpAny_tests_one (wpAny_mono g (fun b s3' a=>?_) fun _ _ z=>z.elim));cases b with
  | true=>exact wpAny_bind (wpAny_bind (wpAny_mono a (fun x s4 i=>(wpAny_bind (wpAny_mono i (fun _ s5 e=>(wpAny_pure (wpAny_pure ⟨rfl,e⟩))) fun _ _ z=>z.elim))) fun _ _ z=>z.elim))
  | false=>exact wpAny_bind (wpAny_pure (wpAny_pure ⟨rfl,a⟩))
end
def JfP (k:Nat) (cs:List (Nat × Str)) (wi:TI) (g:TG) (tt:TT) (te:TE):TE:=fun σ H Q=>wi σ H fun J H1=>∃ W:Nat->Nat->List V->Hp->Prop,(∃ m,W 0 m [] H1)/\∀ i m ys H2,W i m ys H2->ys.length<=sizeLine /\
  ((J.stop i H2/\∀ p,H2 p=none->Q (.ref p) (upd H2 p (.lst ys))) \/
   (J.go i H2/\∀ x H3,J.yld i H2 x H3->g x (List.replicate k none++JaF cs σ) H3 fun σ4 H4=>tt σ4 H4 fun b H5=>if b=true then te σ4 H5 fun y H6=>∃ m',m'<m/\W (i+1) m' (ys++[y]) H6 else ∃ m',m'<m/\W (i+1) m' ys H5))
section
variable {X:Cx} {tg:Expr}
theorem JdO {iter elt tst:Expr} {scope:Scope} {pos:Pos} {own:List Str} {cl:List (Str × Addr)} {cs:List (Nat × Str)} {g:TG} {te:TE} {tt:TT} {pins:List (Addr × Obj)} {s2:Shared} {σ : St} {H2:Hp} {it:Addr} {fp:List Addr} {tn:Nat->Heap->Prop} {J:It}
  {W:Nat->Nat->List V->Hp->Prop} {m0:Nat} {QN:List V->Hp->Prop} {RR:Value->Addr->Result->Shared->Prop} {E:Value->Shared->Prop} (hc:X.calm=true)
  (hg:∀ fp s2 H2 C,PG (X.inc (own++cs.map (·.2)) scope cl fp s2 H2 C) tg g) (ht:∀ fp s2 H2 C,PT (X.inc (own++cs.map (·.2)) scope cl fp s2 H2 C) tst tt) (he:∀ fp s2 H2 C,PE (X.inc (own++cs.map (·.2)) scope cl fp s2 H2 C) elt te)
  (hcell:∀ y∈scope.names,y.2≠.cell) (hkind:scope.kind=.function)
  (hcl:∀ x c,cl.lookup x=some c->X.env.cells.lookup x=some c) (hhas:∀ y,((relabel scope X.env).names.lookup y=some .cell\/(relabel scope X.env).names.lookup y=some .free)->∃ c,cl.lookup y=some c)
  (hcs:∀ p∈cs,X.N[p.1]?=some p.2/\X.env.scope.names.lookup p.2=some .cell/\(relabel scope X.env).names.lookup p.2=some .cell)
  (I2:Inv X pins σ H2 s2) (T:Turn X.prog X.w X.K tg J fp it tn) (st2:tn 0 s2.heap) (f2:∀ b∈fp,FpOk X pins H2 b) (w0:W 0 m0 [] H2)
  (turn:∀ i m ys H2,W i m ys H2->ys.length<=sizeLine/\((J.stop i H2/\QN ys H2)\/(J.go i H2/\∀ x H3,J.yld i H2 x H3->g x (List.replicate own.length none++JaF cs σ) H3 fun σ4 H4=>tt σ4 H4 fun b H5=>if b=true then te σ4 H5 fun y H6=>∃ m',m'<m/\W (i+1) m' (ys++[y]) H6 else ∃ m',m'<m/\W (i+1) m' ys H5)))
  (hRR:∀ (D C:Addr) (s6:Shared) (H5:Hp) (ys:List V),(∀ h7,Heap.SameBut C s6.heap h7->Inv X pins σ (upd H5 D (.lst ys)) { s6 with heap:=h7 })->H5 D=none->H5 C=none->D≠C->(∃ m,s6.heap.Ns C m)->s2.heap.objs.size<=C->QN ys H5->RR (.ref D) C (.ok .next) s6) :
  wpAny (model X.prog X.w) X.A (newList []) (fun acc s₃=>wpAny (model X.prog X.w) X.A (newFunctionEnv scope X.env.globals cl [] X.env.qual none .none (some X.env)) (fun cenv s₄=>
   codeAny (model X.prog X.w) X.A (.compStart (.ListComp elt [⟨tg,iter,[tst],0⟩] scope pos) 0 (.ref it) acc { cenv with scope:=relabel scope X.env }) (RR acc cenv.locals) s₄) E s₃) E s2:=by
 have O:∀ b∈fp,b<s2.heap.objs.size:=fun b d=>by
  obtain ⟨o,e,_⟩:=T.obj _ _ st2 b d;exact Heap.lt_size e
 refine wpAny_newObj_type (wpAny_newFunctionEnv hcell (by intro y hy;simp at hy) (fun h4 t j=>?_) hkind);dsimp only at t j ⊢;generalize hH3:s2.heap.push { cls:=.type "list",dict:=none,data:=.seq ([]:List Value).toArray }=H3 at t j ⊢;have a8:H3.objs.size=s2.heap.objs.size+1:=by rw [<- hH3,Heap.size_push]
 have S:s2.heap.objs.size<=H3.objs.size:=by ac_nf
 have l:s2.heap.objs.size≠H3.objs.size:=by ac_nf
 have a0:∀ b o,s2.heap.get? b=some o->h4.get? b=some o:=fun b o e=>j.extBut b o (by have:=Heap.lt_size e;exact Nat.ne_of_lt (Nat.lt_of_lt_of_le this S)) (Heap.get?_push_of_some _ (hH3 ▸ Heap.get?_push_of_some _ e));have a4:h4.get? s2.heap.objs.size=some { cls:=.type "list",data:=.seq ([]:List Value).toArray }:=j.extBut _ _ l (Heap.get?_push_of_some _ (hH3 ▸ Heap.get?_push_size _ rfl));obtain ⟨D,h⟩:∃ D,D=s2.heap.objs.size:=⟨_,rfl⟩;obtain ⟨C,b6⟩:∃ C,C=H3.objs.size:=⟨_,rfl⟩;rw [<- b6] at a8 t j S l ⊢;rw [<- h] at O a8 S l a4 ⊢;have L:=I2.incOk (N':=own++cs.map (·.2)) (C:=C) f2 (fun b d=>by rw [<- h];exact O b d) hkind (by rw [<- h];exact S) hcl hhas;have I4:Inv (X.inc (own++cs.map (·.2)) scope cl fp s2 H2 C) [] (List.replicate own.length none++JaF cs σ) H2 { s2 with heap:=h4,toks:=s2.toks+([]:List (Str × Value)).length } :=
  I2.incStart (s4:={ s2 with heap:=h4,toks:=s2.toks+([]:List (Str × Value)).length }) L a0 rfl rfl t (by rw [<- h];exact S) hcl hcs
 have Dfree:H2 D=none:=I2.hok.fresh (Nat.le_of_eq h.symm);have M:∀ b o,s2.heap.get? b=some o->b≠D:=fun b o e=>by
  rw [h];exact Nat.ne_of_lt (Heap.lt_size e)
 have b5:∀ b o,s2.heap.get? b=some o->b≠C:=fun b o e=>Nat.ne_of_lt (Nat.lt_of_lt_of_le (by rw [h];exact Heap.lt_size e) S);have Dfs:D∉frs X.stack:=fun hm=>by
  obtain ⟨_,o,e,_⟩:=I2.stack.mem hm;exact M _ _ e rfl
 have F:∀ {σ':St} {H':Hp} {s':Shared} {us:List Value} {n:Nat} {pl:List (Addr × Obj)},Inv (X.inc (own++cs.map (·.2)) scope cl fp s2 H2 C) pl σ' H' s'->s'.heap.get? D=some { cls:=.type "list",data:=.seq us.toArray n }->H' D=none ->
   Inv (X.inc (own++cs.map (·.2)) scope cl fp s2 H2 C) [(D,{ cls:=.type "list",data:=.seq us.toArray n })] σ' H' s':=fun {σ' H' s' us n pl} J' e n'=>J'.pins_of fun p Y=>by
  rcases mem_singleton.mp Y with rfl
  exact ⟨e,n',l,Dfs,fun v z=>by cases z⟩
 have G:∀ {H':Hp} {o:Obj},(∀ b∈fp,H' b=none)->∀ b∈fp,FpOk (X.inc (own++cs.map (·.2)) scope cl fp s2 H2 C) [(D,o)] H' b:=fun {H' o} hn b d=>by
  refine ⟨hn b d,(L.exf b d).1,L.exfs b d, .inl d,(L.exf b d).2,fun p Y=>?_⟩;rcases mem_singleton.mp Y with rfl
  exact Nat.ne_of_gt (O b d)
 have P:∀ s3:Shared,s3={ s2 with heap:=h4,toks:=s2.toks+([]:List (Str × Value)).length } ->
   codeAny (model X.prog X.w) X.A (.compLoop (.ListComp elt [⟨tg,iter,[tst],0⟩] scope pos) 0 (.ref it) (.ref D) (compEnvC scope cl C X.env)) (RR (.ref D) C) s3:=by
  rintro s3 rfl;refine JfZ (fun n s'=>∃ i ys us H H',Inv (X.inc (own++cs.map (·.2)) scope cl fp s2 H2 C) [(D,{ cls:=.type "list",data:=.seq us.toArray H })] (List.replicate own.length none++JaF cs σ) H' s'/\tn i s'.heap/\(∀ b∈fp,H' b=none)/\Vals ys us/\W i n ys H') ?_ m0
   ⟨0,[],[],0,H2,F (us:=[]) (n:=0) I4 a4 Dfree,T.keep _ _ _ st2 fun b d o e=>a0 b o e,fun b d=>(f2 b d).1, .nil,w0⟩
  rintro n s5 ⟨i,ys,us,H,H5,I5,a5,a9,vy,w5⟩;obtain ⟨hz,⟨stop,qn⟩ | ⟨go,a6⟩⟩:=turn i n ys H5 w5
  ·refine wpAny_mono (T.done (X.inc (own++cs.map (·.2)) scope cl fp s2 H2 C) rfl rfl rfl hc i _ s5 _ H5 (fun _ _=>False) I5 (G a9) a5 stop) (fun r s6 z=>?_) fun _ _ z=>z;obtain ⟨rfl,I6⟩:=z;obtain ⟨m6,b1,_⟩:=id I6.loc;obtain ⟨pD,U,_,_,_⟩:=I6.pin (D,{ cls:=.type "list",data:=.seq us.toArray H }) (by simp);have Cfree:H5 C=none:=I6.free;refine hRR D C s6 H5 ys (fun h7 b2=>?_) U Cfree l ⟨m6,b1⟩ (by rw [<- h];exact S) qn;have k:∀ b,b≠C->h7.get? b=s6.heap.get? b:=fun b d=>b2.2 b d;have Z:=b5;have u7:Un (frs X.stack) fp H2 H5 s2.heap h7:=⟨fun b o e n1 n2 n3=>(k b (Z b o e)).trans (I6.base.keep b o e n1 n2 n3),fun b o e n1 n2 n3=>by
     obtain ⟨sl,z⟩:=I6.base.slot b o e n1 n2 n3;exact ⟨sl,(k b (Z b o e)).trans z⟩,I6.base.free,fun b o e n1=>by
     obtain ⟨o',z⟩:=I6.base.there b o e n1;exact ⟨o',(k b (Z b o e)).trans z⟩,I6.base.tups,I6.base.frzs,I6.base.tbls⟩
   have a7:HOk X.prog X.w H5 h7:=fun a o e=>by
    refine (I6.hok a o e).stay (fun c v b0 q=>(k c ?_).trans q) (fun _ q=>q) fun _ _ q=>q;rintro rfl;rcases b0 with z | z
    ·rw [<- z] at e;rw [Cfree] at e;cases e
    ·rw [Cfree] at z;cases z
   have I7:Inv X pins σ H5 { s6 with heap:=h7 }:=I2.call' (s':={ s6 with heap:=h7 }) I6.os u7 a7 I6.bare fun b d=>⟨(f2 b d).2.2.2.1,(f2 b d).2.1,(f2 b d).2.2.2.2.1,(f2 b d).2.2.2.2.2⟩;exact I7.track (a:=D) (o:=.lst ys) U (Heap.get?_none_of_le (by rw [h];exact I2.sz)) (by rw [h];exact Nat.ne_of_gt I2.lt) (fun x c e z=>by
     obtain ⟨v,o,ho,_⟩:=I2.cell x c e;exact M _ _ ho z) (fun p Y z=>M _ _ (I2.pin p Y).1 z) ⟨hz,us,H,vy,(k D l).trans pD⟩
  ·refine wpAny_mono (T.item (X.inc (own++cs.map (·.2)) scope cl fp s2 H2 C) rfl rfl rfl hc i _ s5 _ H5 (fun _ _=>False) I5 (G a9) a5 go) (fun r s6 z=>?_) fun _ _ z=>z;obtain ⟨u,rfl,z⟩:=z;refine wpAny_mono z (fun _ s7 ζ=>?_) fun _ _ z=>z;obtain ⟨x,H7,I7,r7,y7,B,b4⟩:=ζ;have I7':=I7.pinned (G b4) (T.obj _ _ B);refine wpAny_mono (hg fp s2 H2 C _ s7 _ H7 x u _ I7' r7 (a6 x H7 y7)) (fun _ s8 ⟨σ8,H8,I8,q8⟩=>?_) fun _ _ z=>z;refine wpAny_mono (ht fp s2 H2 C _ s8 σ8 H8 _ I8 q8) (fun bb a1 ⟨I,I8',a3⟩=>?_) fun _ _ z=>z;cases bb with
   | true=>
    refine wpAny_mono (he fp s2 H2 C _ a1 σ8 I _ I8' a3) (fun uy s9 ζ=>?_) fun _ _ z=>z;obtain ⟨y,H9,I9,r9,m',a2,w9⟩:=ζ;obtain ⟨pD,U,_,_,_⟩:=I9.pin (D,{ cls:=.type "list",data:=.seq us.toArray H }) (by simp);refine append_at (its:=us.toArray) (n:=H) pD (fun b3 R Q=>?_) (by rw [size_toArray, <- vy.length];exact hz);have f:∀ b∈fp, ∀ o,s7.heap.get? b=some o->s9.heap.get? b=some o/\H9 b=none:=fun b d o e=>by
     have z:=I9.pin (b,o) (mem_append_right _ (mem_append_right _ (Jb7 d e)));exact ⟨z.1,z.2.1⟩
    have I9':Inv (X.inc (own++cs.map (·.2)) scope cl fp s2 H2 C) [] (List.replicate own.length none++JaF cs σ) H9 s9:=I2.incAgain I9 f2 hcl hcs;have I10:Inv (X.inc (own++cs.map (·.2)) scope cl fp s2 H2 C) [] (List.replicate own.length none++JaF cs σ) H9 { s9 with heap:=b3 }:=I9'.turned (it:=D) (t':=s9.toks) (fun b o d e=>(R.2 b d).trans e) U l (.inr (Nat.le_of_eq h.symm)) (fun x c e z=>by
      obtain ⟨v,o,ho,_⟩:=I2.cell x c (hcl x c e);exact M _ _ ho z) fun p Y=>by simp at Y
    rw [lstP] at Q;refine ⟨m',a2,i+1,ys++[y],us++[uy],H+1,H9,F I10 Q U,T.keep _ _ _ B fun b d o e=>?_,fun b d=>?_,vy.append (.cons r9 .nil),w9⟩
    ·exact (R.2 b (Nat.ne_of_lt (O b d))).trans (f b d o e).1
    ·obtain ⟨o,e,_⟩:=T.obj _ _ B b d;exact (f b d o e).2
   | false=>
    obtain ⟨m',a2,w9⟩:=a3;obtain ⟨pD,U,_,_,_⟩:=I8'.pin (D,{ cls:=.type "list",data:=.seq us.toArray H }) (by simp);have f:∀ b∈fp, ∀ o,s7.heap.get? b=some o->a1.heap.get? b=some o/\I b=none:=fun b d o e=>by
     have z:=I8'.pin (b,o) (mem_append_right _ (mem_append_right _ (Jb7 d e)));exact ⟨z.1,z.2.1⟩
    have I9':Inv (X.inc (own++cs.map (·.2)) scope cl fp s2 H2 C) [] (List.replicate own.length none++JaF cs σ) I a1:=I2.incAgain I8' f2 hcl hcs;refine ⟨m',a2,i+1,ys,us,H,I,F I9' pD U,T.keep _ _ _ B fun b d o e=>(f b d o e).1,fun b d=>?_,vy,w9⟩;obtain ⟨o,e,_⟩:=T.obj _ _ B b d;exact (f b d o e).2
 exact codeAny_compStart_list (P _ rfl) (T.self _ 0 _ _ _ (T.keep _ _ _ st2 fun b d o e=>a0 b o e) (P _ rfl))
theorem Jec {iter elt tst:Expr} {scope:Scope} {pos spos py:Pos} {y:Str} {j:Nat} {own:List Str} {cs:List (Nat × Str)} {wi:TI} {g:TG} {te:TE} {tt:TT} (hN:X.N.Nodup) (hj:X.N[j]?=some y) (hy:Loc X.env.scope y) (hc:X.calm=true) (hi:PI X tg iter wi)
  (hg:∀ fp s2 H2 C,PG (X.inc (own++cs.map (·.2)) scope (Jbq X.env.cells scope.names []) fp s2 H2 C) tg g) (ht:∀ fp s2 H2 C,PT (X.inc (own++cs.map (·.2)) scope (Jbq X.env.cells scope.names []) fp s2 H2 C) tst tt) (he:∀ fp s2 H2 C,PE (X.inc (own++cs.map (·.2)) scope (Jbq X.env.cells scope.names []) fp s2 H2 C) elt te)
  (hfree:∀ p∈scope.names,p.2=.free->X.env.scope.names.lookup p.1=some .cell) (hcell:∀ y∈scope.names,y.2≠.cell) (hkind:scope.kind=.function) (hnames:∀ y∈scope.names,y.2=.local->scope.names.lookup y.1=some .local)
  (hcs:∀ p∈cs,X.N[p.1]?=some p.2/\X.env.scope.names.lookup p.2=some .cell/\(relabel scope X.env).names.lookup p.2=some .cell)
  (hsw:swapsWith (.ListComp elt [⟨tg,iter,[tst],0⟩] scope pos) (some (.Name y py)) spos.line X.env=pure true:=by rfl)
  (hs:∀ x,foldedSetIterable iter X.env x=pure x:=by intro _;rfl) (hf:X.fn y=true\/X.env.scope.names.lookup y=some .local:=by first | exact .inl rfl | exact .inr rfl) :
  PS X (.Assign [.Name y py] (.ListComp elt [⟨tg,iter,[tst],0⟩] scope pos) spos) (tAsg (JfP own.length cs wi g tt te) (gName j)):=by
 intro d s σ H D I h;have k:∀ p∈scope.names,p.2=.free->∃ c,X.env.cells.lookup p.1=some c:=fun p u hk=>I.ok.has p.1 (.inl (hfree p u hk));have B:=JcM (cells:=X.env.cells) scope.names [] (fun _ _ z=>by simp at z) k;rw [exec_Assign_Name_used _ _ _ _ hsw];refine wpAny_bind (wpAny_standAt (wpAny_bind ?_));show wpAny _ X.A (do let _ <- comprehension (.ListComp elt [⟨tg,iter,[tst],0⟩] scope pos) scope X.env _ (newList []) false (eval iter X.env) (some (assign (.Name y py) X.env))) _ _ s;refine wpAny_bind (wpAny_mono (wpAny_comprehension_free (use:=some (assign (.Name y py) X.env)) (Q:=fun _ L=>SP X d D .next L) rfl hs (JfX k) hkind hnames
  (thn (hi d s σ H _ I h) fun v s1 U=>thn U fun a0 s2 h2=>?_)) (fun _ L S=>wpAny_pure (wpAny_pure S)) fun _ _ e=>e)
 obtain ⟨it,fp,tn,J,H2,rfl,I2,T,t,f2,W,⟨m0,O⟩,i⟩:=h2;refine JdO (QN:=fun n l=>∀ p,l p=none->D.nx (σ.set j (some (.ref p))) (upd l p (.lst n))) hc hg ht he hcell hkind B (fun z R=>JcL scope.names [] z (.inr (JhF hcell R))) hcs I2 T t f2 O i ?_;intro D' C K l n r Z M V hm f q;obtain ⟨P,m⟩:=hm;have I8:Inv X d σ (upd l D' (.lst n)) K:=r K.heap (Heap.SameBut.refl _ _);show wpAny _ X.A (assign (.Name y py) X.env (.ref D')) _ _ K;refine wpAny_assign_Name (JfO (v:=.ref D') I8 hN hj hy rfl (fun s7 I7 w=>?_) hf);obtain ⟨a,sb,G⟩:=w;have nC:C≠a:=by
  rcases G with rfl | G
  ·exact Nat.ne_of_gt (Nat.lt_of_lt_of_le I2.lt f)
  ·obtain ⟨v,o,F,_⟩:=I2.cell y a G;exact Nat.ne_of_gt (Nat.lt_of_lt_of_le (Heap.lt_size F) f)
 refine ⟨P,m.sameBut sb nC,fun h8 E=>⟨_,_,?_,q D' Z⟩⟩;exact I7.turned (it:=C) (t':=s7.toks) (fun b o Y e=>(E.2 b Y).trans e) (by rw [Jag (Ne.symm V)];exact M) (Nat.ne_of_gt (Nat.lt_of_lt_of_le I2.lt f)) (.inr (Nat.le_trans I2.sz f)) (fun x c e z=>by
  obtain ⟨v,o,F,_⟩:=I2.cell x c e;exact absurd (Nat.lt_of_lt_of_le (Heap.lt_size F) f) (by rw [z];exact Nat.lt_irrefl _)) (fun p u z=>absurd (Nat.lt_of_lt_of_le (Heap.lt_size (I2.pin p u).1) f) (by rw [z];exact Nat.lt_irrefl _))
end
section
variable {X:Cx} {pins:List (Addr × Obj)} {σ : St} {H:Hp} {s:Shared} {h':Heap}
end
def Itz (K:W.Frag) (a b:Addr):It :=
  ⟨fun i H=>∃ xs ys x y,SqL K H a xs/\SqL K H b ys/\xs[i]?=some x/\ys[i]?=some y,
   fun i H v H'=>∃ p x y,(∀ xs,SqL K H a xs->xs[i]?=some x)/\(∀ ys,SqL K H b ys->ys[i]?=some y)/\H p=none/\v=.ref p/\H'=upd H p (.tup [x,y]),
   fun i H=>∃ xs ys,SqL K H a xs/\SqL K H b ys/\(xs.length<=i\/ys.length<=i)⟩
section
variable {X:Cx} {elts:List Expr} {x1:Nat} {tp:Pos}
def iZip (K:W.Frag) (ta:TA):TI:=fun σ H R=>ta σ H fun vs H1=>∃ a b,vs=[.ref a, .ref b]/\(∃ xs,SqL K H1 a xs)/\(∃ ys,SqL K H1 b ys)/\R (Itz K a b) H1
end
section
variable {σ : St} {H:Hp} {Q:VK} {td ty tv tx:TE} {K:W.Frag} {En:Ends}
theorem y3dy:tDGet td ty σ H Q=td σ H fun x H1=>ty σ H1 fun y H2=>∃ a v,x=.ref a/\DGet H2 a y (some v)/\Q v H2:=rfl
theorem y46y:sDPut td ty tv En σ H=tv σ H fun v H1=>td σ H1 fun x H2=>ty σ H2 fun y H3=>∃ a H4,x=.ref a/\DPut H3 a y v H4/\En.nx σ H4:=rfl
theorem y43y:Jlp σ H Q=∀ p,H p=none->Q (.ref p) (upd H p (.dT [])):=rfl
theorem y42y:Jjw σ H Q=∀ p,H p=none->Q (.ref p) (upd H p (.dK [])):=rfl
end
theorem hu1 {a b:Nat} (h:a+64<b):a+1<b:=by ac_nf
section
variable {X:Cx}
def rMul0:R2:=fun x y H Q=>match x,y with
 | .str z, .int n=>0<=n/\n<1000/\z.length<=1000/\∀ z':Str,z'.cps.toList=(List.replicate n.toNat z.cps.toList).flatten->Q (.str z') H
 | x,y=>rMulS x y H Q
theorem JaE:OpR X (binaryOp .Mult) rMul0:=fun a s σ H x y v u Q I c b q=>by
 unfold rMul0 at q;split at q
 ·rename_i z n;obtain ⟨g,d,e,q⟩:=q;by_cases f:n=0
  ·subst f;obtain ⟨t,rfl⟩:=c;obtain ⟨h,rfl⟩:=b;exact PySem.P.mul_str_none ⋯ ⋯ ⟨.str _,H,I.tok _,⟨_,rfl⟩,q Str.empty rfl⟩
  ·exact Jh2 a s σ H _ _ v u Q I c b ⟨by ac_nf,d,e,q⟩
 ·exact Jh2 a s σ H _ _ v u Q I c b q
end
section
variable {K:W.Frag} {H:Hp} {Q:VK} {σ : St} {td ty:TE}
theorem y6by {i j:Int}:rMul0 (.int i) (.int j) H Q=(IntMulOk i j/\Q (.int (i*j)) H):=rfl
theorem y3ey:Jju td ty σ H Q=td σ H fun x H1=>∃ a,x=.ref a/\IsD H1 a/\ty σ H1 fun y H2=>∃ o,DGet H2 a y o/\Q (o.getD .non) H2:=rfl
end
theorem ForA.byL {K:W.Frag} {a:Addr} {xs:List V} {g:TG} {tb:TS} {D:Ends} {σ : St} {H:Hp} (hA:SqL K H a xs) (Pv:Nat->St->Hp->Prop) (h0:Pv 0 σ H) (hl:∀ i σ H',Pv i σ H'->SqL K H' a xs)
  (hs:∀ i x σ H,xs[i]?=some x->Pv i σ H->g x σ H fun σ2 H2=>tb { D with nx:=Pv (i+1),ct:=Pv (i+1),bk:=D.nx } σ2 H2) (hd:∀ σ H,Pv xs.length σ H->D.nx σ H):ForA K a g tb D σ H:=by
 refine .inl ⟨⟨xs,hA⟩,fun i m σ H=>Pv i σ H/\i<=xs.length/\m=xs.length-i,⟨_,h0,Nat.zero_le _,rfl⟩,?_⟩;rintro i m σ H ⟨d,h,rfl⟩;have b:=hl i σ H d;by_cases c:i<xs.length
 ·refine .inr ⟨⟨xs,xs[i],b,List.getElem?_eq_getElem c⟩,Pv (i+1),fun σ' H' p=>⟨_,Nat.sub_lt_sub_left c (Nat.lt_succ_self i),p,c,rfl⟩,?_⟩;rintro x H' ⟨rfl,f⟩;exact hs i x σ _ (f xs b) d
 ·have e:i=xs.length:=by ac_nf
  subst e;exact .inl ⟨⟨xs,b,Nat.le_refl _⟩,hd σ H d⟩
def ForJ (J:It) (g:TG) (tb:TS) (D:Ends) (σ : St) (H:Hp):Prop:=∃ W:Nat->Nat->St->Hp->Prop,(∃ m,W 0 m σ H)/\∀ i m σ H,W i m σ H ->
 (J.stop i H/\D.nx σ H)\/(J.go i H/\∃ N:St->Hp->Prop,(∀ σ' H',N σ' H'->∃ m',m'<m/\W (i+1) m' σ' H')/\∀ x H',J.yld i H x H'->g x σ H' fun σ2 H2=>tb { D with nx:=N,ct:=N,bk:=D.nx } σ2 H2)
theorem y54y {K:W.Frag} {ta:TA} {g:TG} {tb:TS} {D:Ends} {σ : St} {H:Hp}:tFor (iZip K ta) g tb D σ H=ta σ H fun vs H1=>∃ a b,vs=[.ref a, .ref b]/\(∃ xs,SqL K H1 a xs)/\(∃ ys,SqL K H1 b ys)/\ForJ (Itz K a b) g tb D σ H1:=rfl
theorem compL {K:W.Frag} {cs:List (Nat × Str)} {k:Nat} {g:TG} {te:TE} {σ : St} {a:Addr} {xs:List V} {H1:Hp} {Q:VK} (Pv:Nat->List V->Hp->Prop) (h0:Pv 0 [] H1) (hl:∀ i ys H',i<=xs.length->Pv i ys H'->SqL K H' a xs/\ys.length<=sizeLine)
  (hs:∀ i x ys H2,xs[i]?=some x->Pv i ys H2->g x (List.replicate k none++JaF cs σ) H2 fun σ4 H4=>te σ4 H4 fun y H5=>Pv (i+1) (ys++[y]) H5) (hd:∀ ys H2,Pv xs.length ys H2->∀ p,H2 p=none->Q (.ref p) (upd H2 p (.lst ys))) :
  ∃ W:Nat->Nat->List V->Hp->Prop,(∃ m,W 0 m [] H1)/\∀ i m ys H2,W i m ys H2->ys.length<=sizeLine/\(((Itl K a).stop i H2/\∀ p,H2 p=none->Q (.ref p) (upd H2 p (.lst ys))) \/
   ((Itl K a).go i H2/\∀ x H3,(Itl K a).yld i H2 x H3->g x (List.replicate k none++JaF cs σ) H3 fun σ4 H4=>te σ4 H4 fun y H5=>∃ m',m'<m/\W (i+1) m' (ys++[y]) H5)):=by
 refine ⟨fun i m ys H2=>Pv i ys H2/\i<=xs.length/\m=xs.length-i,⟨_,h0,Nat.zero_le _,rfl⟩,?_⟩;rintro i m ys H2 ⟨c,j,rfl⟩;obtain ⟨b,h⟩:=hl i ys H2 j c;refine ⟨h,?_⟩;by_cases d:i<xs.length
 ·refine .inr ⟨⟨xs,xs[i],b,List.getElem?_eq_getElem d⟩,?_⟩;rintro x H3 ⟨rfl,f⟩;have e:(fun (σ4:St) (H4:Hp)=>te σ4 H4 fun y H5=>Pv (i+1) (ys++[y]) H5)=fun σ4 H4=>te σ4 H4 fun y H5=>∃ m',m'<xs.length-i/\Pv (i+1) (ys++[y]) H5/\i+1<=xs.length/\m'=xs.length-(i+1):=by
   funext σ4 H4
   congr 1
   funext y H5
   exact propext ⟨fun q=>⟨_,Nat.sub_lt_sub_left d (Nat.lt_succ_self i),q,d,rfl⟩,fun ⟨_,_,q,_⟩=>q⟩
  rw [<- e];exact hs i x ys _ (f xs b) c
 ·have e:i=xs.length:=by ac_nf
  subst e;exact .inl ⟨⟨xs,b,Nat.le_refl _⟩,hd ys H2 c⟩
theorem JkM {K:W.Frag} {cs:List (Nat × Str)} {k:Nat} {g:TG} {tt:TT} {te:TE} {σ : St} {a:Addr} {xs:List V} {H1:Hp} {Q:VK} (Pv:Nat->List V->Hp->Prop) (h0:Pv 0 [] H1) (hl:∀ i ys H',i<=xs.length->Pv i ys H'->SqL K H' a xs/\ys.length<=sizeLine)
  (hs:∀ i x ys H2,xs[i]?=some x->Pv i ys H2->g x (List.replicate k none++JaF cs σ) H2 fun σ4 H4=>tt σ4 H4 fun b H5=>if b=true then te σ4 H5 fun y H6=>Pv (i+1) (ys++[y]) H6 else Pv (i+1) ys H5) (hd:∀ ys H2,Pv xs.length ys H2->∀ p,H2 p=none->Q (.ref p) (upd H2 p (.lst ys))) :
  ∃ W:Nat->Nat->List V->Hp->Prop,(∃ m,W 0 m [] H1)/\∀ i m ys H2,W i m ys H2->ys.length<=sizeLine/\(((Itl K a).stop i H2/\∀ p,H2 p=none->Q (.ref p) (upd H2 p (.lst ys))) \/
   ((Itl K a).go i H2/\∀ x H3,(Itl K a).yld i H2 x H3->g x (List.replicate k none++JaF cs σ) H3 fun σ4 H4=>tt σ4 H4 fun b H5=>if b=true then te σ4 H5 fun y H6=>∃ m',m'<m/\W (i+1) m' (ys++[y]) H6 else ∃ m',m'<m/\W (i+1) m' ys H5)):=by
 refine ⟨fun i m ys H2=>Pv i ys H2/\i<=xs.length/\m=xs.length-i,⟨_,h0,Nat.zero_le _,rfl⟩,?_⟩;rintro i m ys H2 ⟨j,r,rfl⟩;obtain ⟨h,l⟩:=hl i ys H2 r j;refine ⟨l,?_⟩;by_cases f:i<xs.length
 ·refine .inr ⟨⟨xs,xs[i],h,List.getElem?_eq_getElem f⟩,?_⟩;rintro x H3 ⟨rfl,o⟩;have w:∀ (d:List V) (H5:Hp),Pv (i+1) d H5=∃ m',m'<xs.length-i/\Pv (i+1) d H5/\i+1<=xs.length/\m'=xs.length-(i+1):=fun d H5=>
   propext ⟨fun q=>⟨_,Nat.sub_lt_sub_left f (Nat.lt_succ_self i),q,f,rfl⟩,fun ⟨_,_,q,_⟩=>q⟩
  have n:(fun (y:V) (H6:Hp)=>Pv (i+1) (ys++[y]) H6)=fun y H6=>∃ m',m'<xs.length-i/\Pv (i+1) (ys++[y]) H6/\i+1<=xs.length/\m'=xs.length-(i+1):=by
   funext y H6
   exact w _ _
  have e:(fun (σ4:St) (H4:Hp)=>tt σ4 H4 fun b H5=>if b=true then te σ4 H5 fun y H6=>Pv (i+1) (ys++[y]) H6 else Pv (i+1) ys H5)=fun σ4 H4=>tt σ4 H4 fun b H5=>if b=true then te σ4 H5 fun y H6=>∃ m',m'<xs.length-i/\Pv (i+1) (ys++[y]) H6/\i+1<=xs.length/\m'=xs.length-(i+1) else ∃ m',m'<xs.length-i/\Pv (i+1) ys H5/\i+1<=xs.length/\m'=xs.length-(i+1):=by
   funext σ4 H4
   congr 1
   funext b H5
   by_cases c:b=true
   ·rw [if_pos c,if_pos c, <- n]
   ·rw [if_neg c,if_neg c];exact w ys H5
  have:=hs i x ys _ (o xs h) j;rw [e] at this;exact this
 ·have e:i=xs.length:=by ac_nf
  subst e;exact .inl ⟨⟨xs,h,Nat.le_refl _⟩,hd ys H2 j⟩
end L2
namespace Ch
open PySem
structure TD where
 nm:Str
 st:Str
 en:Str
 lo:Option (Int × Int)
 hi:Option (Int × Int)
structure SD where
 src:Str
 dst:Str
 c:Int × Int
 nm:Str
 fw:Bool
def fwd (t:TD):List SD:=match t.hi with
 | some h=>[⟨t.st,t.en,h,t.nm,true⟩]
 | none=>[]
def bwd (t:TD):List SD:=match t.lo with
 | some l=>[⟨t.en,t.st,(-l.1,l.2),t.nm,false⟩]
 | none=>[]
def steps (t:TD):List SD:=fwd t++bwd t
def all (ts:List TD):List SD:=ts.flatMap steps
abbrev Pr:=Str × Bool
def key (s:SD):Pr:=(s.nm,s.fw)
def find (ss:List SD) (k:Pr):Option SD:=ss.find? fun s=>decide (key s=k)
def lastA (acc:Option SD) (ss:List SD) (k:Pr):Option SD:=ss.foldl (fun a s=>if key s=k then some s else a) acc
def last (ss:List SD) (k:Pr):Option SD:=lastA none ss k
def addF (a c:Int × Int):Int × Int:=(Mth.top (a.1*c.2+c.1*a.2) (a.2*c.2),Mth.bot (a.1*c.2+c.1*a.2) (a.2*c.2))
structure FOk (n:Nat) (a:Int × Int):Prop where
 s1:Mth.Sz n a.1
 s2:Mth.Sz n a.2
 b1:1<=a.2
 g1:Mth.g a.1 a.2=1
end Ch
namespace L2
open PySem PySem.Spec PyProof.Rows Ch
def isTF:HO->Bool
 | .tup _=>true
 | .frz _ _=>true
 | _=>false
def SameT (H H':Hp):Prop:=∀ b u,isTF u=true->H b=some u->H' b=some u
theorem SameT.refl (H:Hp):SameT H H:=fun _ _ _ h=>h
theorem SameT.trans {H H1 H2:Hp} (a:SameT H H1) (b:SameT H1 H2):SameT H H2:=fun c o t h=>b c o t (a c o t h)
theorem Same.t {H H':Hp} (a:Same H H'):SameT H H':=fun b u _ h=>a b u h
theorem SameT.put {H H':Hp} {l:Addr} {o o':HO} (e:upd H l o=H') (hl:H l=some o') (ht:isTF o'=false):SameT H H':=fun b u t h=>by
 rw [<- e,Jag (ne_of h hl fun q=>by rw [q,ht] at t;cases t)];exact h
theorem SqT.sameT {K:W.Frag} {H H':Hp} {a:Addr} {xs:List V} (e:SameT H H') (h:SqT K H a xs):SqT K H' a xs:=by
 rcases h with (h | ⟨o,h⟩) | h
 ·exact .inl (.inl (e _ _ rfl h))
 ·exact .inl (.inr ⟨o,e _ _ rfl h⟩)
 ·exact .inr h
theorem FrV.sameT {K:W.Frag} {H H':Hp} {v:V} {a b:Int} (S:SameT H H') (h:FrV K H v a b):FrV K H' v a b:=by
 obtain ⟨p,e,q⟩:=h;exact ⟨p,e,q.sameT S⟩
def frD (a:Int × Int):D:=.tup [.int a.1, .int a.2]
def bD:Option (Int × Int)->D
 | none=>.non
 | some a=>frD a
def tdD (t:TD):D:=.tup [.str t.nm, .str t.st, .str t.en,bD t.lo,bD t.hi]
def pD (s:SD):D:=.tup [.str s.src, .str s.dst,frD s.c, .bl s.fw]
def BV (K:W.Frag) (H:Hp):Option (Int × Int)->V->Prop
 | none,v=>v=.non
 | some a,v=>FrV K H v a.1 a.2
theorem BV.rep {K:W.Frag} {H:Hp} {o:Option (Int × Int)} {v:V} (h:BV K H o v):Rep K H (bD o) v:=by
 cases o with
 | none=>simp only [bD,Rep];exact h
 | some a=>exact FrV.rep h
theorem BV.sameT {K:W.Frag} {H H':Hp} {o:Option (Int × Int)} {v:V} (S:SameT H H') (h:BV K H o v):BV K H' o v:=by
 cases o with
 | none=>exact h
 | some a=>exact FrV.sameT S h
def TV (K:W.Frag) (H:Hp) (t:TD) (x:V):Prop:=∃ b vl vg,x=.ref b/\SqT K H b [.str t.nm, .str t.st, .str t.en,vl,vg]/\BV K H t.lo vl/\BV K H t.hi vg
def PV (K:W.Frag) (H:Hp) (s:SD) (x:V):Prop:=∃ b v,x=.ref b/\SqT K H b [.str s.src, .str s.dst,v, .bl s.fw]/\FrV K H v s.c.1 s.c.2
def CV (H:Hp) (c:Pr) (x:V):Prop:=∃ b,x=.ref b/\H b=some (.tup [.str c.1, .bl c.2])
def LV (K:W.Frag) (H:Hp) (s:SD) (x:V):Prop:=∃ b v w,x=.ref b/\SqT K H b [.str s.src, .str s.dst,v,w]/\FrV K H v s.c.1 s.c.2/\CV H (key s) w
section
variable {K:W.Frag} {H H':Hp}
theorem TV.sameT {t:TD} {x:V} (S:SameT H H'):TV K H t x->TV K H' t x:=by rintro ⟨b,vl,a,e,q,d,c⟩;exact ⟨b,vl,a,e,q.sameT S,d.sameT S,c.sameT S⟩
theorem CV.sameT {c:Pr} {x:V} (S:SameT H H'):CV H c x->CV H' c x:=fun ⟨b,e,q⟩=>⟨b,e,S _ _ rfl q⟩
theorem LV.sameT {s:SD} {x:V} (S:SameT H H'):LV K H s x->LV K H' s x:=by rintro ⟨b,v,w,e,q,c,a⟩;exact ⟨b,v,w,e,q.sameT S,c.sameT S,a.sameT S⟩
theorem TV.rep {t:TD} {x:V}:TV K H t x->Rep K H (tdD t) x:=fun ⟨b,vl,d,e,q,c,a⟩=>by
 simp only [tdD,Rep,RepL];exact ⟨b,_,e,q,_,_,rfl,rfl,_,_,rfl,rfl,_,_,rfl,rfl,_,_,rfl,c.rep,_,_,rfl,a.rep,rfl⟩
end
def All2 {α : Type} (P : α->V->Prop):List α->List V->Prop
 | [],xs=>xs=[]
 | a::as,xs=>∃ x r,xs=x::r/\P a x/\All2 P as r
section
variable {α : Type} {P P' : α->V->Prop}
theorem All2.mono:∀ {as:List α} {xs:List V},(∀ a x,P a x->P' a x)->All2 P as xs->All2 P' as xs
 | [],_,_,h=>h
 | a::as,xs,f,h=>by
  obtain ⟨x,r,e,h1,h2⟩:=h;exact ⟨x,r,e,f _ _ h1,All2.mono f h2⟩
theorem All2.length:∀ {as:List α} {xs:List V},All2 P as xs->xs.length=as.length
 | [],_,h=>by rw [show _=_ from h];rfl
 | a::as,xs,h=>by
  obtain ⟨x,r,e,h1,h2⟩:=h;rw [e,length_cons,length_cons,h2.length]
theorem All2.at_:∀ {as:List α} {xs:List V} {i:Nat} {x:V},All2 P as xs->xs[i]?=some x->∃ a,as[i]?=some a/\P a x
 | [],_,_,_,h,hx=>by rw [show _=_ from h] at hx;simp at hx
 | a::as,xs,i,y,h,hx=>by
  obtain ⟨x,r,e,h1,h2⟩:=h;subst e;cases i with
  | zero=>simp at hx;subst hx;exact ⟨a,rfl,h1⟩
  | succ i=>simpa using All2.at_ h2 (by simpa using hx)
theorem All2.get:∀ {as:List α} {xs:List V} {i:Nat} {a : α},All2 P as xs->as[i]?=some a->∃ x,xs[i]?=some x/\P a x
 | [],_,_,_,h,hx=>by simp at hx
 | a::as,xs,i,b,h,hx=>by
  obtain ⟨x,r,e,h1,h2⟩:=h;subst e;cases i with
  | zero=>simp at hx;subst hx;exact ⟨x,rfl,h1⟩
  | succ i=>simpa using All2.get h2 (by simpa using hx)
theorem All2.append:∀ {as bs:List α} {xs ys:List V},All2 P as xs->All2 P bs ys->All2 P (as++bs) (xs++ys)
 | [],bs,xs,ys,h,g=>by rw [show xs=[] from h];exact g
 | a::as,bs,xs,ys,h,g=>by
  obtain ⟨x,r,e,h1,h2⟩:=h;subst e;exact ⟨x,r++ys,rfl,h1,All2.append h2 g⟩
theorem All2.one {a : α} {x:V} (h:P a x):All2 P [a] [x]:=⟨x,[],rfl,h,rfl⟩
theorem All2.repL {K:W.Frag} {H:Hp} {f : α->D} (g:∀ a x,P a x->Rep K H (f a) x):∀ {as:List α} {xs:List V},All2 P as xs->RepL K H (as.map f) xs
 | [],xs,h=>by simp only [map_nil,RepL];exact h
 | a::as,xs,h=>by
  obtain ⟨x,r,e,h1,h2⟩:=h;simp only [map_cons,RepL];exact ⟨x,r,e,g _ _ h1,All2.repL g h2⟩
end
structure TOk (t:TD):Prop where
 n1:nameS t.nm=true
 n2:nameS t.st=true
 n3:nameS t.en=true
 ne:t.st≠t.en
 lo:∀ a,t.lo=some a->FOk 600 a
 hi:∀ a,t.hi=some a->FOk 600 a
 le:lessD (bD t.hi) (bD t.lo)=false
theorem len8 {z:Str} (h:nameS z=true):z.length<=8:=by
 unfold nameS at h;simp only [Bool.and_eq_true,decide_eq_true_eq] at h;exact h.1.2
theorem bD_ok {o:Option (Int × Int)} (h:∀ a,o=some a->FOk 600 a):JcQ (bD o)=true/\szD (bD o):=by
 cases o with
 | none=>exact ⟨rfl,by simp only [bD,szD]⟩
 | some a=>
  have k:=h a rfl;refine ⟨by simp [bD,frD,JcQ,fracB,k.b1,k.g1],?_⟩;simp only [bD,frD,szD,szL];exact ⟨k.s1.mono ⋯,k.s2.mono ⋯,trivial⟩
theorem TOk.tie {t:TD} (h:TOk t):tieB (tdD t)=true:=by
 have e:eqD (.str t.st) (.str t.en)=false:=by simp only [eqD,beq_eq_false_iff_ne];exact h.ne
 simp [tdD,tieB,nameB,JcR,h.n1,h.n2,h.n3,e,JeL,(bD_ok h.lo).1,(bD_ok h.hi).1,h.le]
theorem TOk.sz {t:TD} (h:TOk t):szD (tdD t):=by
 simp only [tdD,szD,szL];have:=len8 h.n1;have:=len8 h.n2;have:=len8 h.n3;exact ⟨by ac_nf,by ac_nf,by ac_nf,(bD_ok h.lo).2,(bD_ok h.hi).2,trivial⟩
def kP (c:Pr):List Key:=[.inr c.1, .inl c.2]
def DOk (K:W.Frag) (H:Hp) (kvs:List (List Key × V)) (ss:List SD):Prop:=∀ c:Pr,match last ss c with
 | none=>valV kvs (kP c)=none
 | some s=>∃ v,valV kvs (kP c)=some v/\PV K H s v
theorem DOk.nil {K:W.Frag} {H:Hp}:DOk K H [] []:=fun c=>rfl
section
variable {K:W.Frag} {H:Hp} {kvs:List (List Key × V)} {ss:List SD}
end
def CompJ (J:It) (k:Nat) (cs:List (Nat × Str)) (g:TG) (te:TE) (σ : St) (Q:VK) (H1:Hp):Prop:=∃ W:Nat->Nat->List V->Hp->Prop,(∃ m,W 0 m [] H1)/\∀ i m ys H2,W i m ys H2->ys.length<=sizeLine /\
  ((J.stop i H2/\∀ p,H2 p=none->Q (.ref p) (upd H2 p (.lst ys))) \/
   (J.go i H2/\∀ x H3,J.yld i H2 x H3->g x (List.replicate k none++JaF cs σ) H3 fun σ4 H4=>te σ4 H4 fun y H5=>∃ m',m'<m/\W (i+1) m' (ys++[y]) H5))
def Jcx (J:It) (k:Nat) (cs:List (Nat × Str)) (g:TG) (tt:TT) (te:TE) (σ : St) (Q:VK) (H1:Hp):Prop:=∃ W:Nat->Nat->List V->Hp->Prop,(∃ m,W 0 m [] H1)/\∀ i m ys H2,W i m ys H2->ys.length<=sizeLine /\
  ((J.stop i H2/\∀ p,H2 p=none->Q (.ref p) (upd H2 p (.lst ys))) \/
   (J.go i H2/\∀ x H3,J.yld i H2 x H3->g x (List.replicate k none++JaF cs σ) H3 fun σ4 H4=>tt σ4 H4 fun b H5=>if b=true then te σ4 H5 fun y H6=>∃ m',m'<m/\W (i+1) m' (ys++[y]) H6 else ∃ m',m'<m/\W (i+1) m' ys H5))
section
variable {K:W.Frag} {k:Nat} {cs:List (Nat × Str)} {g:TG} {tt:TT} {te tl:TE} {σ : St} {H H1:Hp} {Q:VK} {a:Addr} {xs:List V}
theorem y34y:tComp k cs (iAny K tl) g te σ H Q=tl σ H fun x H1=>∃ a,x=.ref a/\(((∃ xs,SqL K H1 a xs)/\CompJ (Itl K a) k cs g te σ Q H1)\/((∃ xs,SqT K H1 a xs)/\CompJ (Itt K a) k cs g te σ Q H1)):=rfl
theorem y36y:JfP k cs (iAny K tl) g tt te σ H Q=tl σ H fun x H1=>∃ a,x=.ref a/\(((∃ xs,SqL K H1 a xs)/\Jcx (Itl K a) k cs g tt te σ Q H1)\/((∃ xs,SqT K H1 a xs)/\Jcx (Itt K a) k cs g tt te σ Q H1)):=rfl
theorem CompJ.list (Pv:Nat->List V->Hp->Prop) (h0:Pv 0 [] H1) (hl:∀ i ys H',i<=xs.length->Pv i ys H'->SqL K H' a xs/\ys.length<=sizeLine)
  (hs:∀ i x ys H2,xs[i]?=some x->Pv i ys H2->g x (List.replicate k none++JaF cs σ) H2 fun σ4 H4=>te σ4 H4 fun y H5=>Pv (i+1) (ys++[y]) H5) (hd:∀ ys H2,Pv xs.length ys H2->∀ p,H2 p=none->Q (.ref p) (upd H2 p (.lst ys))) :
  CompJ (Itl K a) k cs g te σ Q H1:=compL Pv h0 hl hs hd
theorem Jcx.list (Pv:Nat->List V->Hp->Prop) (h0:Pv 0 [] H1) (hl:∀ i ys H',i<=xs.length->Pv i ys H'->SqL K H' a xs/\ys.length<=sizeLine)
  (hs:∀ i x ys H2,xs[i]?=some x->Pv i ys H2->g x (List.replicate k none++JaF cs σ) H2 fun σ4 H4=>tt σ4 H4 fun b H5=>if b=true then te σ4 H5 fun y H6=>Pv (i+1) (ys++[y]) H6 else Pv (i+1) ys H5) (hd:∀ ys H2,Pv xs.length ys H2->∀ p,H2 p=none->Q (.ref p) (upd H2 p (.lst ys))) :
  Jcx (Itl K a) k cs g tt te σ Q H1:=JkM Pv h0 hl hs hd
end
theorem Jgv (x y:Str):(x++y).cps.toList=x.cps.toList++y.cps.toList:=by
 show (x.cps++y.cps).toList=_;simp
theorem JeU (z:Str):z.length=z.cps.toList.length:=by simp [Str.length]
section
variable {ss:List SD} {c:Pr} {cs:List Pr} {s:SD} {tot:Int × Int} {f l:Str}
end
theorem Jc5 {α : Type} {f : α->D} {n:Nat} (h:∀ a,depD (f a)<=n):∀ as:List α,depL (as.map f)<=n
 | []=>by simp [depL]
 | a::as=>by
  rw [map_cons,depL];exact Nat.max_le.mpr ⟨h a,Jc5 h as⟩
section
variable {K:W.Frag} {H:Hp} {Q:VK}
end
section
variable {prog:Program} {w:World} {A:Around} {E:Value->Shared->Prop} {s:Shared}
theorem stored {h:Heap} {a:Addr} {es es':Array (Int × Value)} {ep:Nat} {t t':SetTable} (ho:h.get? a=some { cls:=.type "set",dict:=none,data:=.set es ep t,slots:=#[] }) :
  (h.update a (Obj.putSet es' t')).get? a=some { cls:=.type "set",dict:=none,data:=.set es' (ep+1) t',slots:=#[] }:=by
 have e:=Heap.get?_update_self (Obj.putSet es' t') ho (by rw [putSet_of es' t' rfl];rfl);rw [e,putSet_of es' t' rfl]
end
def addS (l:List Str) (z:Str):List Str:=if z∈l then l else l++[z]
def met (val:Nat->Str) (i:Nat):List Str:=((List.range i).map val).foldl addS []
section
variable {prog:Program} {w:World} {A:Around} {E:Value->Shared->Prop} {s:Shared}
end
section
variable {prog:Program} {w:World} {A:Around} {E:Value->Shared->Prop} {s:Shared}
end
section
variable {M:Model} {A:Around} {E:Value->Shared->Prop} {s:Shared}
end
section
variable {prog:Program} {w:World} {A:Around} {E:Value->Shared->Prop} {s:Shared}
section
variable {I a:Addr} {es:Array (Int × Value)} {i ep:Nat} {t:SetTable} {Q:Option Value->Shared->Prop}
end
end
section
variable {prog:Program} {w:World} {A:Around} {E:Value->Shared->Prop} {s:Shared}
end
section
variable {prog:Program} {w:World} {A:Around} {E:Value->Shared->Prop} {s:Shared}
end
theorem Jj4:typeLookup (.type "list") "keys"=pure none:=by rw [typeLookup_type,builtinLookup_eq_fast];kernel_rfl
section
variable {prog:Program} {w:World} {A:Around} {E:Value->Shared->Prop} {s:Shared} {a:Addr} {its:Array Value} {n:Nat}
theorem JjZ {Q:Option Value->Shared->Prop} (hh:A.handled=none) (hx:s.heap.get? a=some { cls:=.type "list",dict:=none,data:=.seq its n,slots:=#[] })
   (q:∀ h' t',(∀ b o,s.heap.get? b=some o->h'.get? b=some o)->Q none { s with heap:=h',toks:=t' }) :
    wpAny (model prog w) A (getAttr? (.ref a) "keys") Q E s:=by
  obtain ⟨i,g,d,t,j⟩:=s;have h:∀ c,(⟨i,g,d,c,j⟩:Shared).TypeIs (.ref a) "list":=fun _=>⟨_,hx,rfl⟩;have k:=sub_AttributeError;have p:=PySem.F.slot_list_getattribute.lookup;have m:=PySem.F.slot_list_getattribute.bind (.ref a);have u:=am_list_getattr_none;unfold getAttr?;unfold getAttrBy?;unfold getAttrBy;repeat (any_goals (first | assumption | exact h _ | ((with_reducible show wpAny _ _ (call (Value.builtin "list.__getattribute__") _ _) _ _ _);refine call_meets PySem.F.slot_list_getattribute (h _) am_entry_list_getattribute (PySem.F.args_list_getattribute_2 _ _) (meets_getattribute_miss_list a its n #[] "keys" _ Jj4 (by decide +kernel) ⋯) ⟨hx,hh,fun h' c e f=>?_⟩) | wp_step))
  obtain ⟨t',l,r⟩:=f.there;show wpAny _ _ (getattributeRaised _ _ _ _ _ _ _) _ _ _;unfold getattributeRaised;repeat (any_goals (first | assumption | wp_step))
  exact q h' c f.keeps
end
theorem Jfv:entryFor table "dict.update.loop"=some Builtin.«dict.update.loop»:=entryFor_of_tree (by kernel_rfl)
theorem Jdg:plainId "dict.update.loop"=true:=by decide +kernel
def dkv (key:Nat->Str) (val:Nat->Value) (i:Nat):List (Key × Value):=(List.range i).foldl (fun l j=>PySem.stored l (Sum.inr (key j)) (val j)) []
theorem JeP (key:Nat->Str) (val:Nat->Value) (i:Nat):dkv key val (i+1)=PySem.stored (dkv key val i) (Sum.inr (key i)) (val i):=by
 unfold dkv;rw [List.range_succ,List.foldl_append];rfl
theorem Jf2 (key:Nat->Str) (val:Nat->Value):∀ i,(dkv key val i).length<=i
 | 0=>Nat.le_refl _
 | i+1=>by
  have:=Jf2 key val i;rw [JeP];unfold PySem.stored;split <;> simp <;> ac_nf
section
variable {prog:Program} {w:World} {A:Around} {E:Value->Shared->Prop} {s:Shared}
def JdD (h:Heap) (a:Addr) (k v:Value):Prop:=∃ o c,h.get? a=some o/\o.cls=.type "tuple"/\o.data=.seq #[k,v] c
theorem JdD.at_ {h h':Heap} {a:Addr} {k v:Value} (x:JdD h a k v) (m:∀ o,h.get? a=some o->h'.get? a=some o):JdD h' a k v:=by
 obtain ⟨o,c,e,r⟩:=x;exact ⟨o,c,m o e,r⟩
theorem Jj7 {z:Str} {t:Tok}:(Jaw prog w).is (Sum.inr z) (.str z t)=true:=by
 show keyIs (Sum.inr z) (.str z t)=true;simp [keyIs,Value.isStrOf]
theorem JhC {R:Result->Shared->Prop} {I:Addr} {fp wr:List Addr} {G:Array GenState->Array GenState->Prop} {n:Nat} {P:Nat->Value->Prop} {St:Nat->Shared->Prop}
  (W:WalksS prog w A.in1 I fp wr G n P St) (d:Addr) (hdf:d∉fp) (adr:Nat->Addr) (key:Nat->Str) (val:Nat->Value) (hP:∀ i v,P i v->v=.ref (adr i)) (nd:∀ i,i<n->adr i≠d) (nw:∀ i,i<n->adr i∉wr) (hz:n<=sizeLine) :
  ∀ (k i:Nat) (s:Shared),n-i=k->i<=n->St i s->s.heap.DictOf (Jaw prog w) d (dkv key val i)->(∀ j,j<n->∃ tk,JdD s.heap (adr j) (.str (key j) tk) (val j)) ->
   (∀ s',Moved (d::wr) G s s'->s'.heap.DictOf (Jaw prog w) d (dkv key val n)->R (.ok (.ret .none)) s') ->
   codeAny (model prog w) A (.builtin "dict.update.loop" ⟨[.ref d, .ref I, .int (i:Int) 0, .none],[]⟩) R s:=by
 have N:d∉wr:=fun h=>hdf (W.sub _ h);have O:∀ b∈wr,b∈d::wr:=fun b h=>mem_cons_of_mem _ h;intro k;induction k with
 | zero=>
  intro i s X Z r p l q;have : i=n:=by ac_nf
  subst this;refine codeAny_builtin Jfv ?_;rw [Around.under_plainId Jdg _];refine wpAny_bind (m:=pyNext (.ref I)) (W.done s _ _ r fun s' f=>?_);refine wpAny_bind (m:=Builtin.Dict.addKeywords d []) (wpAny_pure (wpAny_pure ?_));refine q s' (f.mono O) ?_;obtain ⟨o,C,B,D,rest⟩:=p;exact ⟨o,C,B,f.heap d o N D,rest⟩
 | succ k ih=>
  intro i s X Z r p l q;have c:i<n:=by ac_nf
  refine codeAny_builtin Jfv ?_;rw [Around.under_plainId Jdg _];refine wpAny_bind (m:=pyNext (.ref I)) (W.item i s _ _ c r fun v s' U E f=>?_);rw [hP i v U];have x:s'.heap.DictOf (Jaw prog w) d (dkv key val i):=by
   obtain ⟨o,C,B,D,rest⟩:=p;exact ⟨o,C,B,f.heap d o N D,rest⟩
  have a:∀ j,j<n->∃ tk,JdD s'.heap (adr j) (.str (key j) tk) (val j):=fun j g=>by
   obtain ⟨tk,e⟩:=l j g;exact ⟨tk,e.at_ fun o z=>f.heap _ o (nw j g) z⟩
  obtain ⟨tk,ot,ct,M,J,F⟩:=a i c;have dl:=Jf2 key val i;refine wpAny_bind (wpAny_holding ?_);refine wpAny_bind (wpAny_tryCatch ?_);unfold Builtin.Dict.pairItems;refine wpAny_bind (wpAny_typeOf (T:="tuple") ⟨_,M,J⟩ ?_);rw [if_pos ⋯];unfold seqItems?;refine wpAny_bind (wpAny_bind (wpAny_load M ?_));rw [F];refine wpAny_pure (wpAny_pure ?_);show wpAny _ _ (holding [Value.str (key i) tk,val i] (dictSet d (.str (key i) tk) (val i))) _ _ _;refine wpAny_holding (wpAny_dictSet_pairs (knd:=Jaw prog w) (k:=Sum.inr (key i)) Jj7 x (fun L Q K=>?_) ∅);have u:L.DictOf (Jaw prog w) d (dkv key val (i+1)):=by
   rw [JeP];exact Q
  refine wpAny_pure ⟨plainId_quiet Jdg _,ih (i+1) { s' with heap:=L,toks:=s'.toks+1 } ∅ c (W.frame _ s' _ _ E (Nat.le_succ _) fun b y o e=>?_) u (fun j g=>?_) fun V S t=>?_⟩
  ·rw [K.2 b (fun h:b=d=>hdf (h ▸ y))];exact e
  ·obtain ⟨H,Y⟩:=a j g;exact ⟨H,Y.at_ fun o z=>(K.2 _ (nd j g)).trans z⟩
  ·refine q V (Moved.trans W.gtrans ((f.mono O).then_heap (Nat.le_succ _) fun b o y e=>?_) S) t;rw [K.2 b (fun h:b=d=>y (by rw [h];exact mem_cons_self))];exact e
theorem JdN {l:Addr} {items:Array Value} {c0:Nat} {Q:Value->Shared->Prop} (hh:A.handled=none) (hl:s.heap.get? l=some { cls:=.type "list",dict:=none,data:=.seq items c0,slots:=#[] }) (adr:Nat->Addr) (key:Nat->Str) (val:Nat->Value)
  (hP:∀ (i:Nat) (v:Value),items[i]?=some v->v=.ref (adr i)) (tup:∀ j,j<items.size->∃ tk,JdD s.heap (adr j) (.str (key j) tk) (val j)) (hz:items.size<=sizeLine)
  (q:∀ h' tk,(∀ b o,s.heap.get? b=some o->h'.get? b=some o)->h'.DictOf (Jaw prog w) s.heap.objs.size (dkv key val items.size)->Q (.ref s.heap.objs.size) { s with heap:=h',toks:=tk }) :
  wpAny (model prog w) A (call (.type "dict") [.ref l]) Q E s:=by
 refine callType_codes (Q₁:=fun f I=>f=.ref s.heap.objs.size/\I={ s with heap:=s.heap.push { cls:=.type "dict",data:=.dict #[] } }) (PySem.F.kt_called_dict) (PySem.F.kt_typeCall_dict_1 _) (PySem.F.entry_dict_init) (kt_code_dict_new _ ⟨rfl,rfl⟩) ?_;rintro f I ⟨rfl,rfl⟩;have g:(s.heap.push { cls:=.type "dict",data:=.dict #[] }).DictOf (Jaw prog w) s.heap.objs.size []:=Heap.DictOf.new s.heap;refine ⟨g.typeIs,PySem.F.args_dict_init_2 _ _,?_⟩;generalize k:({ cls:=.type "dict",data:=.dict #[] }:Obj)=o0 at g ⊢;have u:(s.heap.push o0).get? l=some { cls:=.type "list",dict:=none,data:=.seq items c0,slots:=#[] }:=Heap.get?_push_of_some _ hl;have U:=Heap.lt_size hl;have V:(s.heap.push o0).objs.size=s.heap.objs.size+1:=Heap.size_push ..;unfold Builtin.«dict.__init__»;refine wpAny_bind ?_;unfold Builtin.Dict.selfAndRest;refine wpAny_bind (wpAny_notOrdered_dict g.typeIs (wpAny_pure ?_));show wpAny _ _ (Builtin.Dict.updateFrom "dict.__init__" s.heap.objs.size (.ref l) [] Value.none) _ _ _;unfold Builtin.Dict.updateFrom;refine wpAny_bind (wpAny_typeOf (T:="list") ⟨_,u,rfl⟩ ?_);rw [if_pos ⋯];have P:A.in1.in1.handled=none:=by simp [hh]
 refine wpAny_bind (JjZ P u fun d M h=>?_);refine wpAny_ite_split (fun _=>?_) (fun z=>absurd rfl z);refine wpAny_bind (wpAny_rule ?_);have H:=h _ _ u;have x:d.DictOf (Jaw prog w) s.heap.objs.size []:=by
  obtain ⟨o,D,B,k,rest⟩:=g;exact ⟨o,D,B,h _ _ k,rest⟩
 have dlt:s.heap.objs.size<d.objs.size:=by
  obtain ⟨o,D,B,k,rest⟩:=x;exact Heap.lt_size k
 have G:d.IsList l items:=⟨_,H,rfl,c0,rfl⟩;refine wpAny_bind (wpAny_pyIter_list (s:=⟨d,s.gens,s.drawn,M,s.os⟩) G ?_);have y:∀ j,j<items.size->adr j<s.heap.objs.size:=fun j a=>by
  obtain ⟨tk,o,c,e,_⟩:=tup j a;exact Heap.lt_size e
 have p:l<d.objs.size:=Heap.lt_size H;have t:A.in1.in1.handled=none:=by simp [hh]
 refine wpAny_pure ⟨plainId_quiet Jdg _,?_⟩;refine JhC ((Walks.list t d.objs.size l (Nat.ne_of_lt p) items).toS) s.heap.objs.size (by simp only [mem_cons,not_mem_nil,or_false,not_or];exact ⟨Nat.ne_of_lt dlt,Nat.ne_of_gt U⟩) adr key val hP (fun j a=>Nat.ne_of_lt (y j a)) (fun j a=>by simp only [mem_cons,not_mem_nil,or_false];exact Nat.ne_of_lt (Nat.lt_trans (y j a) dlt)) hz items.size 0 _ ∅ (Nat.zero_le _) ⟨⟨_,Heap.get?_push_size _ rfl,rfl,rfl⟩,G.push _⟩ (x.push _) (fun j a=>?_) fun S m K=>?_
 ·obtain ⟨tk,e⟩:=tup j a;exact ⟨tk,e.at_ fun o z=>Heap.get?_push_of_some _ (h _ _ (Heap.get?_push_of_some _ z))⟩
 ·obtain ⟨h',J,O,n,r⟩:=S;have N:J=s.gens:=m.gens;have R:O=s.drawn:=m.drawn;have L:r=s.os:=m.os;subst N;subst R;subst L;refine ⟨rfl,q h' n (fun b o e=>?_) K⟩;have C:=Heap.lt_size e;refine m.heap b o ?_ (Heap.get?_push_of_some _ (h _ _ (Heap.get?_push_of_some _ e)));simp only [mem_cons,not_mem_nil,or_false,not_or];exact ⟨Nat.ne_of_lt C,Nat.ne_of_lt (Nat.lt_trans C dlt)⟩
end
section
variable {X:Cx} {pins:List (Addr × Obj)} {σ : List (Option V)} {H:Hp} {s s':Shared}
def JdF (ps:List (Str × V)):List (Key × V):=ps.foldl (fun l p=>putK l (Sum.inr p.1) p.2) []
def Jli (xs:List V) (H:Hp) (Q:VK):Prop:=∃ (l:Addr) (as:List Addr) (ps:List (Str × V)),xs=[.ref l]/\H l=some (.lst (as.map V.ref))/\as.length=ps.length/\(∀ (i:Nat) (a:Addr) (p:Str × V),as[i]?=some a->ps[i]?=some p->H a=some (.tup [.str p.1,p.2]))/\∀ d,H d=none->Q (.ref d) (upd H d (.dK (JdF ps)))
theorem Jg0 (hc:X.calm=true):CallR X (.type "dict") Jli:=by
 intro R s σ H xs us Q I r h;obtain ⟨l,b,f,rfl,e,hl,Z,q⟩:=h;obtain ⟨u,rfl,rx⟩:=vals1 r;cases rx;obtain ⟨Y,D,n,ri,J,T⟩:=I.lstM e;have F:b.length<=sizeLine:=by simpa using Y
 have U:D.length=b.length:=by simpa using J.symm
 have pr:∀ j,j<b.length->∃ u a p d,b[j]?=some a/\f[j]?=some p/\RelV p.2 u/\JdD s.heap a (.str p.1 d) u:=fun j y=>by
  have A:=List.getElem?_eq_getElem y;have w:=List.getElem?_eq_getElem (l:=f) (i:=j) ∅;obtain ⟨_,ts,B,o,ho,K,W,hd⟩:=I.hok _ _ (Z j _ _ A w);cases B with
  | cons r1 B=>
   cases B with
   | cons r2 B=>
    cases B;obtain ⟨d,rfl⟩:=r1;exact ⟨_,_,_,d,A,w,r2,o,W,ho,K,hd⟩
 obtain ⟨C,t⟩:=Classical.skolem.mp (show ∀ j:Nat, ∃ u:Value,j<b.length->∃ a p d,b[j]?=some a/\f[j]?=some p/\RelV p.2 u/\JdD s.heap a (.str p.1 d) u from fun j=>by
  by_cases c:j<b.length
  ·obtain ⟨u,h⟩:=pr j c;exact ⟨u,fun _=>h⟩
  ·exact ⟨.none,fun z=>absurd z c⟩)
 have m:∀ j a,b[j]?=some a->b.getD j 0=a:=fun j a h=>by rw [List.getD_eq_getElem?_getD,h];rfl
 have g:∀ j (p:Str × V),f[j]?=some p->(f.getD j (⟨#[]⟩, .non)).1=p.1:=fun j p h=>by rw [List.getD_eq_getElem?_getD,h];rfl
 have L:D.toArray.size=b.length:=by rw [size_toArray];exact U
 refine JdN (I.ok.hd hc) T (fun j=>b.getD j 0) (fun j=>(f.getD j (⟨#[]⟩, .non)).1) C (fun j v G=>?_) (fun j y=>?_) ∅ fun h' d k P=>?_
 ·rw [List.getElem?_toArray] at G;have y:j<b.length:=by have:=(List.getElem?_eq_some_iff.mp G).1;ac_nf
  obtain ⟨u,O,ru⟩:=ri.get (i:=j) (x:=.ref b[j]) (by rw [List.getElem?_map,List.getElem?_eq_getElem y];rfl);rw [G] at O;cases O;rw [m j _ (List.getElem?_eq_getElem y)];exact ru
 ·obtain ⟨a,p,d,A,w,M,N⟩:=t j ∅;refine ⟨d,?_⟩;rw [m j a A,g j p w];exact N
 ·have E:∀ i,i<=b.length->KV (JdF (f.take i)) (dkv (fun j=>(f.getD j (⟨#[]⟩, .non)).1) C i):=fun i=>by
   induction i with
   | zero=>intro _;exact .nil
   | succ i ih=>
    intro hi;obtain ⟨a,p,d,A,w,M,N⟩:=t i ∅;rw [JeP,take_succ,w];unfold JdF;rw [List.foldl_append];rw [g i p w];exact (ih ∅).put _ M
  have r:=E b.length (Nat.le_refl _);rw [take_of_length_le ∅] at r;have S:(JdF f).length<=sizeLine:=by
   rw [r.length];exact Nat.le_trans (Jf2 _ _ _) F
  rw [L] at P;exact ⟨.ref s.heap.objs.size,_,I.laid (a:=s.heap.objs.size) (o:=.dK (JdF f)) (t':=d) k (Nat.le_refl _) (JgA S (beq_eq_false_iff_ne.mpr (Ne.symm (Nat.ne_of_lt I.big))) r P),rfl,q _ (I.hok.fresh (Nat.le_refl _))⟩
end
def Jhq (ts:List TD) (out:List Str):Prop:=out.Nodup/\sortedS out=true/\∀ z,z∈out↔∃ t∈ts,z=t.st\/z=t.en
theorem Jhq.nil {l:List Str} (h:Jhq [] l):l=[]:=by
 cases l with
 | nil=>rfl
 | cons a l=>
  have:=(h.2.2 a).mp (by simp);simp at this
abbrev Pl:=List (Str × (Int × Int))
def look (ps:Pl) (z:Str):Int × Int:=((ps.find? fun p=>decide (p.1=z)).map (·.2)).getD (0,1)
def negF (a:Int × Int):Int × Int:=(-a.1,a.2)
def apart (ps:Pl) (t:TD):Int × Int:=addF (look ps t.en) (negF (look ps t.st))
def lessF (a c:Int × Int):Bool:=decide (a.1*c.2<c.1*a.2)
structure FB (A B:Nat) (a:Int × Int):Prop where
 s1:Mth.Sz A a.1
 s2:Mth.Sz B a.2
 b1:1<=a.2
 g1:Mth.g a.1 a.2=1
theorem FB.ok {A B n:Nat} {a:Int × Int} (h:FB A B a) (h1:A<=n) (h2:B<=n):FOk n a:=⟨h.s1.mono h1,h.s2.mono h2,h.b1,h.g1⟩
theorem FB.neg {A B:Nat} {a:Int × Int} (h:FB A B a):FB A B (negF a):=⟨by
 have:=h.s1;unfold Mth.Sz at this ⊢;unfold negF;rw [Int.natAbs_neg];exact this,h.s2,h.b1,by
 have:=h.g1;unfold Mth.g negF at *;simpa using this⟩
theorem FB.add {A B C D n m:Nat} {a c:Int × Int} (h:FB A B a) (k:FB C D c) (h1:A+D<=n) (h2:C+B<=n) (h3:B+D<=m):FB (n+1) m (addF a c):=by
 have b:a.2*c.2≠0:=Int.mul_ne_zero (by have:=h.b1;ac_nf) (by have:=k.b1;ac_nf);have d:=(h.s1.mul k.s2).mono h1;have e:=(k.s1.mul h.s2).mono h2;exact ⟨Mth.Sz.top b (d.add e),(Mth.Sz.bot b (h.s2.mul k.s2)).mono h3,Mth.JcS b,Mth.g_low b⟩
theorem FB.low {A B:Nat} {t b:Int} (hb:1<=b) (h1:Mth.Sz A t) (h2:Mth.Sz B b):FB A B (Mth.top t b,Mth.bot t b):=by
 have a:b≠0:=by ac_nf
 exact ⟨Mth.Sz.top a h1,Mth.Sz.bot a h2,Mth.JcS a,Mth.g_low a⟩
theorem Jkk {X:Cx} {K:W.Frag} {e:Expr} {ta:TE} {f:Str} {pos:Pos} (hK:X.K=K) (he:PE X e ta) (hb:attributeBase e f X.env (eval e X.env)=eval e X.env):PE X (.Attribute e f pos) (tFld K ta f):=by
 subst hK;exact Jaq he hb
theorem Jf4:∀ (ls rs:List Str),eqL (ls.map D.str) (rs.map D.str)=decide (ls=rs)
 | [],[]=>rfl
 | [],_::_=>by simp [eqL]
 | _::_,[]=>by simp [eqL]
 | a::ls,b::rs=>by
  rw [map_cons,map_cons,eqL,Jf4 ls rs];simp only [eqD,List.cons.injEq];by_cases c:a=b
  ·subst c;simp
  ·simp [c]
theorem Jch {K:W.Frag} {H:Hp}:∀ (ls:List Str),RepL K H (ls.map D.str) (ls.map V.str)
 | []=>by simp [RepL]
 | a::ls=>by
  simp only [map_cons,RepL,Rep];exact ⟨_,_,rfl,rfl,Jch ls⟩
structure FW (A B:Nat) (a:Int × Int):Prop where
 s1:Mth.Sz A a.1
 s2:Mth.Sz B a.2
 b1:1<=a.2
theorem FB.w {A B:Nat} {a:Int × Int} (h:FB A B a):FW A B a:=⟨h.s1,h.s2,h.b1⟩
theorem FW.mono {A B C D:Nat} {a:Int × Int} (h:FW A B a) (h1:A<=C) (h2:B<=D):FW C D a:=⟨h.s1.mono h1,h.s2.mono h2,h.b1⟩
section
variable {X:Cx} {K:W.Frag} {o e:Expr} {es:List Expr} {to:TE} {t:TA} {name:Str} {apos cpos:Pos} {T id:String} {r:V->List V->Hp->VK->Prop}
end
section
variable {X:Cx}
theorem JiA {kvs:List (Key × V)} {vs:List (Key × Value)} (r:KV kvs vs):Vals (kvs.map (·.2)) (vs.map (·.2)):=by
 unfold KV at r;induction r with
 | nil=>exact .nil
 | cons h _ ih=>exact .cons h.2 ih
end
section
variable {prog:Program} {w:World} {A:Around} {E:Value->Shared->Prop} {s:Shared}
end
section
variable {X:Cx}
end
section
variable {X:Cx} {k k':Nat} {x mn:Str} {C:Addr} {Cs:Addr->Prop} {ps:List Str} {sp:Sp} {p pos apos:Pos} {e o:Expr} {es:List Expr} {t:TA} {ta:TE}
abbrev TX:=St->Hp->VK->XK->Prop
def xMake (C:Addr) (sp:Sp) (t:TA):TX:=fun σ H Q E=>t σ H fun vs H1=>∀ x dx,H1 x=none->H1 dx=none->dx≠x ->
 sp (.ref x::(vs++[])) (upd (upd H1 dx (.own x)) x (.ins C dx [])) (fun v H2=>v=.non/\Q (.ref x) H2) E
end
section
variable {X:Cx}
end
section
variable {σ : St} {H:Hp} {Q:VK} {E:XK} {ta td ty:TE} {ts:TA} {tc:TT} {t u:TX} {C:Addr} {sp:Sp} {Cs:Addr->Prop} {m:Str}
theorem y98y:xMake C sp ts σ H Q E=ts σ H fun vs H1=>∀ x dx,H1 x=none->H1 dx=none->dx≠x->sp (.ref x::(vs++[])) (upd (upd H1 dx (.own x)) x (.ins C dx [])) (fun v H2=>v=.non/\Q (.ref x) H2) E:=rfl
theorem y40y:tDIn ty td σ H Q=ty σ H fun y H1=>td σ H1 fun x H2=>∃ a o,x=.ref a/\DGet H2 a y o/\Q (.bl o.isSome) H2:=rfl
theorem y44y:Jis ty td σ H Q=ty σ H fun y H1=>td σ H1 fun x H2=>∃ a o,x=.ref a/\DGet H2 a y o/\Q (.bl (!o.isSome)) H2:=rfl
end
section
variable {α κ : Type} [DecidableEq κ] {f : α->κ} {k : κ} {u y : α}
end
section
variable {α : Type} {P : α->V->Prop}
end
abbrev nms (ts:List TD):List Str:=ts.map (·.nm)
def BD (P:TD->V->Prop) (ts:List TD) (kvs:List (Key × V)):Prop:=kvs.map (·.1)=ts.map (fun t=>Sum.inr t.nm)/\All2 P ts (kvs.map (·.2))
section
variable {P P':TD->V->Prop} {ts:List TD} {kvs:List (Key × V)} {t:TD} {v:V}
theorem BD.cons:BD P (t::ts) kvs↔∃ w r,kvs=(Sum.inr t.nm,w)::r/\P t w/\BD P ts r:=by
 constructor
 ·rintro ⟨a,b⟩;match kvs,a,b with
  | (k,w)::r,a,b=>
   rw [map_cons,map_cons,List.cons.injEq] at a;obtain ⟨y,d,e,p,b⟩:=b;rw [map_cons,List.cons.injEq] at e;obtain ⟨rfl,rfl⟩:=e;obtain ⟨c,a⟩:=a;have c:k=Sum.inr t.nm:=c;subst c;exact ⟨_,r,rfl,p,a,b⟩
 ·rintro ⟨w,r,rfl,p,h⟩;exact ⟨by rw [map_cons,map_cons,h.1],w,r.map (·.2),rfl,p,h.2⟩
theorem BD.nil:BD P [] kvs↔kvs=[]:=by
 constructor
 ·rintro ⟨h,_⟩;simpa using h
 ·rintro rfl;exact ⟨rfl,rfl⟩
end
def nameL:List Str:=["a","aa","aaa","b","ab","zzzzzzzz"]
theorem sub_len {α : Type} [DecidableEq α]:∀ (l m:List α),l.Nodup->l ⊆ m->l.length<=m.length
 | [],m,_,_=>by simp
 | a::l,m,hn,hs=>by
  rw [nodup_cons] at hn;have ha:a∈m:=hs (by simp);have:=sub_len l (m.erase a) hn.2 fun x hx=>(List.mem_erase_of_ne (show x≠a from fun e=>hn.1 (e ▸ hx))).mpr (hs (by simp [hx]));rw [List.length_erase_of_mem ha] at this;have:=List.length_pos_of_mem ha;rw [length_cons];ac_nf
structure Good (ts:List TD):Prop where
 nd:(nms ts).Nodup
 ok:∀ t∈ts,TOk t
 nm:∀ t∈ts,t.nm∈nameL
theorem Good.len {ts:List TD} (g:Good ts):ts.length<=6:=by
 have:=sub_len (nms ts) nameL g.nd fun z a=>by
  obtain ⟨t,b,rfl⟩:=mem_map.mp a;exact g.nm t b
 rw [length_map] at this;exact this
section
variable {X:Cx} {pins:List (Addr × Obj)} {σ : St} {H:Hp} {s:Shared} {a:Addr} {kvs:List (Key × V)} {k:Key} {u r:Value} {y:V} {A:Around} {E:Value->Shared->Prop}
theorem Ji8 {v:Option V} {o:Option Value} {w:Value} (h:RelO v o) (e:o=some w):∃ x,v=some x/\RelV x w:=by
 subst e;cases v with
 | none=>exact absurd h (by simp [RelO])
 | some x=>exact ⟨x,rfl,h⟩
theorem Ji7 {v:Option V} {o:Option Value} (h:RelO v o) (e:o=none):v=none:=by
 subst e;cases v with
 | none=>rfl
 | some x=>exact absurd h (by simp [RelO])
theorem JiI {Q:Value->Shared->Prop} (I:Inv X pins σ H s) (e:H a=some (.dK kvs)) (ry:RelV (kV k) u) (rd:RelV y r) (hl:kvs.length<sizeLine)
  (h1:∀ v w' s',valV kvs k=some v->Inv X pins σ H s'->RelV v w'->Q w' s') (h2:∀ s',valV kvs k=none->Inv X pins σ (upd H a (.dK (putK kvs k y))) s'->Q r s') :
  wpAny (model X.prog X.w) A (call (.builtin "dict.setdefault") [.ref a,u,r]) Q E s:=by
 obtain ⟨z,d,g,b,f⟩:=dk_of I.hok e;refine call_meetsIn PySem.F.slot_dict_setdefault f.typeIs PySem.F.entry_dict_setdefault (PySem.F.args_dict_setdefault_3 _ _ _) (PySem.kt_meets_setdefault (Jaw X.prog X.w) a (kV_is ry) d r) ⟨g,f,by rw [<- b.length];exact z,fun w h=>?_,fun i l c p=>?_⟩
 ·obtain ⟨x,m,n⟩:=Ji8 (b.val k) h;exact h1 x w _ m (I.tok _) n
 ·have j:=Ji7 (b.val k) i;refine h2 _ j ?_;have t:∃ q,l.get? a=some q:=let ⟨q,_,_,hq,_⟩:=c;⟨q,hq⟩;have o:(putK kvs k y).length<=sizeLine:=by have:=Jbg kvs k y;ac_nf
  exact JeO I (by rw [e];exact True.intro) p t (JgA o d (b.put k rd) c)
end
def tDSet (td ty tx:TE):TE:=fun σ H Q=>td σ H fun x H1=>∃ a,x=.ref a/\IsD H1 a/\ty σ H1 fun y H2=>tx σ H2 fun z H3=>∃ kvs k,H3 a=some (.dK kvs)/\y=kV k/\kvs.length<sizeLine /\
 (∀ v,valV kvs k=some v->Q v H3)/\(valV kvs k=none->Q z (upd H3 a (.dK (putK kvs k z))))
section
variable {X:Cx} {o e f:Expr} {apos cpos:Pos} {td ty tx:TE}
theorem Jh7 (ho:PE X o td) (he:PE X e ty) (hf:PE X f tx) (m:M2 X o "setdefault" apos e f cpos):PE X (.Call (.Attribute o "setdefault" apos) [e,f] [] cpos) (tDSet td ty tx):=by
 intro b s σ H Q I h;refine wpAny_Call_method m.base m.few m.line PySem.F.plainAttrs_dict PySem.F.slot_dict_setdefault PySem.F.type_dict_setdefault (thn (ho b s σ H _ I h) fun u L ζ=>?_);obtain ⟨x,j,I1,G,a,n,d,J⟩:=ζ;subst n;obtain rfl:u=Value.ref a:=G;obtain ⟨q,A,_⟩:=Jfx I1 d;refine ⟨q,A,?_⟩;rw [m.trees];refine Calls.callWith_builtin rfl (Calls.evalArgs_plain (Calls.spliced_cons (thn (he b L σ j _ I1 J) fun O B ⟨y,l,I2,w,C⟩=>
  Calls.spliced_cons (thn (hf b B σ l _ I2 C) fun P R ⟨z,K,I3,i,r,k,t,p,N,E,M⟩=>Calls.spliced_nil ?_))))
 subst p;exact JiI I3 t w i N (fun v S D c I4 g=>⟨v,K,I4,g,E v c⟩) fun D c I4=>⟨z,_,I4,i,M c⟩
end
section
variable {X:Cx}
end
section
variable {σ : St} {H:Hp} {Q:VK} {td ty tx:TE}
theorem y48y:tDSet td ty tx σ H Q=td σ H fun x H1=>∃ a,x=.ref a/\IsD H1 a/\ty σ H1 fun y H2=>tx σ H2 fun z H3=>∃ kvs k,H3 a=some (.dK kvs)/\y=kV k/\kvs.length<sizeLine/\(∀ v,valV kvs k=some v->Q v H3)/\(valV kvs k=none->Q z (upd H3 a (.dK (putK kvs k z)))):=rfl
theorem y3fy:Jjv td ty tx σ H Q=td σ H fun x H1=>∃ a,x=.ref a/\IsD H1 a/\ty σ H1 fun y H2=>tx σ H2 fun z H3=>∃ o,DGet H3 a y o/\Q (o.getD z) H3:=rfl
theorem y41y {trs:List (TE × TE)}:tDisp trs σ H Q=∀ p,H p=none->JfQ trs σ (upd H p (.dK [])) fun ps H2=>H2 p=some (.dK [])/\∃ kvs:List (Key × V),ps=kvs.map (fun kv=>(kV kv.1,kv.2))/\kvs.length<=15/\Q (.ref p) (upd H2 p (.dK (JeE [] kvs))):=rfl
theorem y7cy {tk tv:TE} {R:List (V × V)->Hp->Prop}:JfQ [(tk,tv)] σ H R=tk σ H fun x H1=>tv σ H1 fun y H2=>R [(x,y)] H2:=rfl
theorem y2dy {K:W.Frag} {T:String} {r:V->List V->Hp->VK->Prop} {to:TE}:tBM0 K T r to σ H Q=to σ H fun x H1=>tyV K T x H1/\r x [] H1 Q:=rfl
end
def BG {α : Type} (f : α->Str) (P : α->V->Prop) (as:List α) (kvs:List (Key × V)):Prop:=kvs.map (·.1)=as.map (fun a=>Sum.inr (f a))/\All2 P as (kvs.map (·.2))
section
variable {α : Type} {f : α->Str} {P P' : α->V->Prop} {as:List α} {kvs:List (Key × V)} {a : α} {v:V}
theorem BG.mono (h:BG f P as kvs) (m:∀ a x,P a x->P' a x):BG f P' as kvs:=⟨h.1,h.2.mono m⟩
theorem BG.length (h:BG f P as kvs):kvs.length=as.length:=by simpa using congrArg List.length h.1
theorem BG.cons:BG f P (a::as) kvs↔∃ w r,kvs=(Sum.inr (f a),w)::r/\P a w/\BG f P as r:=by
 constructor
 ·rintro ⟨b,c⟩;match kvs,b,c with
  | (k,w)::r,b,c=>
   rw [map_cons,map_cons,List.cons.injEq] at b;obtain ⟨y,g,e,p,c⟩:=c;rw [map_cons,List.cons.injEq] at e;obtain ⟨rfl,rfl⟩:=e;obtain ⟨d,b⟩:=b;have d:k=Sum.inr (f a):=d;subst d;exact ⟨_,r,rfl,p,b,c⟩
 ·rintro ⟨w,r,rfl,p,h⟩;exact ⟨by rw [map_cons,map_cons,h.1],w,r.map (·.2),rfl,p,h.2⟩
theorem BG.nil:BG f P [] kvs↔kvs=[]:=by
 constructor
 ·rintro ⟨h,_⟩;simpa using h
 ·rintro rfl;exact ⟨rfl,rfl⟩
theorem BG.any:∀ {as:List α} {kvs:List (Key × V)} {z:Str},BG f P as kvs->(kvs.any fun kv=>decide (kv.1=Sum.inr z))=decide (z∈as.map f)
 | [],kvs,z,h=>by rw [BG.nil.mp h];simp
 | a::as,kvs,z,h=>by
  obtain ⟨w,r,rfl,_,h⟩:=BG.cons.mp h;rw [any_cons,BG.any h];by_cases c:f a=z
  ·subst c;simp
  ·have c1:(Sum.inr (f a):Key)≠Sum.inr z:=fun e=>c (by injection e);have c2:z≠f a:=fun e=>c e.symm;simp [c1,c2]
theorem BG.get:∀ {as:List α} {kvs:List (Key × V)} {z:Str},BG f P as kvs->(∃ a v,a∈as/\f a=z/\valV kvs (Sum.inr z)=some v/\P a v)\/(z∉as.map f/\valV kvs (Sum.inr z)=none)
 | [],kvs,z,h=>by
  rw [BG.nil.mp h];exact .inr ⟨by simp,rfl⟩
 | a::as,kvs,z,h=>by
  obtain ⟨w,r,rfl,p,h⟩:=BG.cons.mp h;by_cases c:f a=z
  ·subst c;exact .inl ⟨a,w,by simp,rfl,Jba rfl,p⟩
  ·have c1:(Sum.inr (f a):Key)≠Sum.inr z:=fun e=>c (by injection e);have c2:z≠f a:=fun e=>c e.symm;have e:valV ((Sum.inr (f a),w)::r) (Sum.inr z)=valV r (Sum.inr z):=by simp [valV,List.find?_cons,c1]
   rw [e];rcases BG.get h (z:=z) with ⟨b,v,h1,h2,h3,h4⟩ | ⟨h1,h2⟩
   ·exact .inl ⟨b,v,by simp [h1],h2,h3,h4⟩
   ·exact .inr ⟨by simp [c2];simpa using h1,h2⟩
theorem BG.some {z:Str} (h:BG f P as kvs) (hz:z∈as.map f):∃ a v,a∈as/\f a=z/\valV kvs (Sum.inr z)=some v/\P a v:=by
 rcases h.get (z:=z) with h | ⟨h,_⟩
 ·exact h
 ·exact absurd hz h
theorem BG.none {z:Str} (h:BG f P as kvs) (hz:z∉as.map f):valV kvs (Sum.inr z)=none:=by
 rcases h.get (z:=z) with ⟨a,v,h1,h2,_⟩ | ⟨_,h⟩
 ·exact absurd (h2 ▸ List.mem_map_of_mem (f:=f) h1) hz
 ·exact h
theorem BG.val {z:Str} (h:BG f P as kvs):(valV kvs (Sum.inr z)).isSome=decide (z∈as.map f):=by
 by_cases c:z∈as.map f
 ·obtain ⟨a,v,_,_,e,_⟩:=h.some c;rw [e,decide_eq_true c];rfl
 ·rw [h.none c,decide_eq_false c];rfl
theorem BG.new (h:BG f P as kvs) (hn:f a∉as.map f) (p:P a v):BG f P (as++[a]) (putK kvs (Sum.inr (f a)) v):=by
 have e:putK kvs (Sum.inr (f a)) v=kvs++[(Sum.inr (f a),v)]:=by
  unfold putK;rw [h.any,if_neg (by simpa using hn)]
 rw [e];exact ⟨by rw [map_append,map_append,h.1];rfl,by rw [map_append];exact h.2.append (.one p)⟩
end
structure PD where
 nm:Str
 st:Str
 en:Str
 sz:Int × Int
 mo:Int × Int
 wt:Int
def JdE (p:PD) (f:Str):List (Str × Pr):=if p.st=f then [(p.en,(p.nm,true))] else if p.en=f then [(p.st,(p.nm,false))] else []
def JaD (ls:List PD) (f:Str):List (Str × Pr):=ls.flatMap fun p=>JdE p f
theorem JdU (ls:List PD) (p:PD) (f:Str):JaD (ls++[p]) f=JaD ls f++JdE p f:=by simp [JaD]
theorem Jbk {ls:List PD} {f g:Str} {pr:Pr}:(g,pr)∈JaD ls f↔∃ p∈ls,(p.st=f/\p.en=g/\pr=(p.nm,true))\/(p.st≠f/\p.en=f/\p.st=g/\pr=(p.nm,false)):=by
 unfold JaD;rw [mem_flatMap];refine exists_congr fun p=>and_congr_right fun _=>?_;unfold JdE;by_cases a:p.st=f
 ·rw [if_pos a,mem_singleton,Prod.mk.injEq];exact ⟨fun h=>.inl ⟨a,h.1.symm,h.2⟩,fun h=>h.elim (fun h=>⟨h.2.1.symm,h.2.2⟩) fun h=>absurd a h.1⟩
 ·rw [if_neg a];by_cases b:p.en=f
  ·rw [if_pos b,mem_singleton,Prod.mk.injEq];exact ⟨fun h=>.inr ⟨a,b,h.1.symm,h.2⟩,fun h=>h.elim (fun h=>absurd h.1 a) fun h=>⟨h.2.2.1.symm,h.2.2.2⟩⟩
  ·rw [if_neg b];exact ⟨fun h=>by simp at h,fun h=>h.elim (fun h=>absurd h.1 a) fun h=>absurd h.2.1 b⟩
theorem JhU:∀ {ls:List PD} {p q:PD},(ls.map (·.nm)).Nodup->p∈ls->q∈ls->p.nm=q.nm->p=q
 | [],_,_,_,hp,_,_=>by cases hp
 | a::ls,p,q,hn,hp,hq,e=>by
  rw [map_cons,nodup_cons] at hn;rcases mem_cons.mp hp with h1 | h1 <;> rcases mem_cons.mp hq with h2 | h2
  ·rw [h1,h2]
  ·subst h1;exact absurd (e ▸ mem_map.mpr ⟨q,h2,rfl⟩) hn.1
  ·subst h2;exact absurd (e ▸ mem_map.mpr ⟨p,h1,rfl⟩) hn.1
  ·exact JhU hn.2 h1 h2 e
inductive Jbj (ls:List PD) (a:Str):List Pr->Str->Prop
 | nil:Jbj ls a [] a
 | snoc {w:List Pr} {f g:Str} {pr:Pr}:Jbj ls a w f->(g,pr)∈JaD ls f->Jbj ls a (w++[pr]) g
def Conn (ls:List PD) (a b:Str):Prop:=∃ w,Jbj ls a w b
theorem JjN {ls:List PD} {a b:Str} {S:List Str} (ha:a∈S) (hc:∀ f∈S, ∀ e∈JaD ls f,e.1∈S) (h:Conn ls a b):b∈S:=by
 obtain ⟨w,h⟩:=h;induction h with
 | nil=>exact ha
 | snoc _ hm ih=>exact hc _ ih _ hm
def fcsOf (ls:List PD):List Str:=ls.flatMap fun p=>[p.st,p.en]
theorem JgH {ls:List PD} {f:Str} {e:Str × Pr} (h:e∈JaD ls f):e.1∈fcsOf ls:=by
 obtain ⟨p,b,a⟩:=mem_flatMap.mp h;refine mem_flatMap.mpr ⟨p,b,?_⟩;unfold JdE at a;split at a
 ·rw [mem_singleton.mp a];simp
 ·split at a
  ·rw [mem_singleton.mp a];simp
  ·simp at a
theorem JgZ {ls:List PD} {a b:Str} {w:List Pr} (h:Jbj ls a w b):b∈a::fcsOf ls:=by
 cases h with
 | nil=>simp
 | snoc _ hm=>exact mem_cons_of_mem _ (JgH hm)
theorem JjS (ls:List PD):(fcsOf ls).length=2*ls.length:=by
 unfold fcsOf;induction ls with
 | nil=>rfl
 | cons p ls ih=>
  rw [List.flatMap_cons,length_append,ih];simp;ac_nf
section
variable {X:Cx} {pins:List (Addr × Obj)} {σ : List (Option V)} {H H':Hp} {s s':Shared} {d:Addr} {kvs kvs':List (Key × V)} {od:Obj}
theorem Inv.freeze (I:Inv X pins σ H s) (e:H d=some (.dK kvs)) (ho:s.heap.get? d=some od):Inv X pins σ (upd H d (.frz od (.dK kvs))) s:=by
 refine I.un (h':=s.heap) (t':=s.toks) ⟨fun b o q _ _ _=>q,fun b o q _ _ _=>⟨o.slots,q⟩,fun b o q n _=>?_,fun b o q _=>⟨o,q⟩,fun b h q=>?_,fun b o u q=>?_,fun b j q=>⟨#[],?_⟩⟩ fun a o q=>?_
 ·rw [Jag (fun z=>by rw [z,e] at n;cases n)];exact n
 ·rw [Jag (fun z=>by rw [z,e] at q;cases q)];exact q
 ·rw [Jag (fun z=>by rw [z,e] at q;cases q)];exact q
 ·rw [Jag (fun z=>by rw [z,e] at q;cases q),Array.append_empty];exact q
 ·have g:∀ i b,H b=some (.own i)->upd H d (.frz od (.dK kvs)) b=some (.own i):=fun i b q=>by
   rw [Jag (fun z=>by rw [z,e] at q;cases q)];exact q
  have f:∀ b h,H b=some (.tup h)->upd H d (.frz od (.dK kvs)) b=some (.tup h):=fun b h q=>by
   rw [Jag (fun z=>by rw [z,e] at q;cases q)];exact q
  by_cases c:a=d
  ·subst c;rw [Jaj] at q;cases q;exact ⟨ho,(I.hok a _ e).stay (fun _ _ _ z=>z) (g a) f⟩
  ·rw [Jag c] at q;exact (I.hok a o q).stay (fun _ _ _ z=>z) (g a) f
theorem Inv.thaw (I:Inv X pins σ H s) (e:H d=some (.dK kvs)) (I':Inv X pins σ H' s') (e':H' d=some (.frz od (.dK kvs'))):Inv X pins σ (upd H' d (.dK kvs')) s':=by
 have m:∀ {b:Addr} {o:HO},H' b=some o->(∀ u v,o≠.frz u v)->b≠d:=fun q h z=>by rw [z,e'] at q;cases q;exact h _ _ rfl
 refine ⟨I'.ok,I'.os,I'.bare,⟨I'.base.keep,I'.base.slot,fun b o q n B=>?_,I'.base.there,fun b k q=>?_,fun b o u q=>?_,fun b A q=>?_⟩,I'.loc,I'.cell,?_,fun x c z=>?_,fun p y=>?_,fun a o q=>?_,I'.len⟩
 ·have:=I'.base.free b o q n B;rw [Jag (fun z=>by rw [z,e'] at this;cases this)];exact this
 ·have:=I'.base.tups b k q;rw [Jag (m this (by intro u v z;cases z))];exact this
 ·have f:=I'.base.frzs b o u q;have g:=I.base.frzs b o u q;rw [Jag (fun z=>by rw [z,e] at g;cases g)];exact f
 ·obtain ⟨i,f⟩:=I'.base.tbls b A q;exact ⟨i,by rw [Jag (m f (by intro u v z;cases z))];exact f⟩
 ·have:=I'.free;rw [Jag (fun z=>by rw [z,e'] at this;cases this)];exact this
 ·have:=I'.freeC x c z;rw [Jag (fun z=>by rw [z,e'] at this;cases this)];exact this
 ·obtain ⟨f,g,t⟩:=I'.pin p y;exact ⟨f,by rw [Jag (fun z=>by rw [z,e'] at g;cases g)];exact g,t⟩
 ·have l:∀ r b,H' b=some (.own r)->upd H' d (.dK kvs') b=some (.own r):=fun r b q=>by
   rw [Jag (m q (by intro u v z;cases z))];exact q
  have j:∀ b k,H' b=some (.tup k)->upd H' d (.dK kvs') b=some (.tup k):=fun b k q=>by
   rw [Jag (m q (by intro u v z;cases z))];exact q
  by_cases c:a=d
  ·subst c;rw [Jaj] at q;cases q;have f:ObjOk X.prog X.w H' s'.heap a (.dK kvs'):=(I'.hok a _ e').2;exact f.stay (fun _ _ _ z=>z) (l a) j
  ·rw [Jag c] at q;exact (I'.hok a o q).stay (fun _ _ _ z=>z) (l a) j
end
def Itv (d:Addr) (od:Obj) (kvs:List (Key × V)):It :=
 ⟨fun i H=>H d=some (.frz od (.dK kvs))/\i<kvs.length,fun i H x H'=>H'=H/\(kvs.map (·.2))[i]?=some x,fun i H=>H d=some (.frz od (.dK kvs))/\kvs.length<=i⟩
theorem Jiz {P:Program} {w:World} {K:W.Frag} {tg:Expr} {d it:Addr} {od:Obj} {kvs:List (Key × V)} {vs:List (Key × Value)} {ep:Nat} (rel:KV kvs vs) (hd:∀ h:Heap,h.get? d=some od->h.DictAt (Jaw P w) d vs ep) :
  Turn P w K tg (Itv d od kvs) [it] it (fun i h=>h.IsValIter it d i vs.length ep) where
 mem:=by simp
 obj:=fun i h a b j=>by
  obtain rfl:b=it:=by simpa using j
  obtain ⟨o,e,c,z⟩:=a;exact ⟨o,e,fun v q=>by rw [z] at q;cases q⟩
 keep:=fun i h p a k=>a.at fun o e=>k it (by simp) o e
 item:=by
  intro X y A D J i f s σ H E I n a B;subst y A D;obtain ⟨l,N⟩:=B;obtain ⟨G,r,Q,F,C,t⟩:=n it (by simp);have g:=(I.hok d _ l).1;have S:=rel.length;have T:=JiA rel;obtain ⟨x,M⟩:∃ x,(kvs.map (·.2))[i]?=some x:=⟨_,List.getElem?_eq_getElem (by rw [length_map];exact N)⟩;obtain ⟨u,L,R⟩:=T.get M;rw [List.getElem?_map] at L;obtain ⟨⟨k,Z⟩,O,rfl⟩:=Option.map_eq_some_iff.mp L;refine wpAny_pyNext_values_item a (hd _ g) O fun p m U=>?_;have I1:Inv X f σ H { s with heap:=p }:=I.turned (t':=s.toks) (fun b o j e=>(U.2 b j).trans e) G r F C t;obtain ⟨o,e,c,z⟩:=id m;exact ⟨_,rfl,go_of (s:={ s with heap:=p }) e c z ⋯ ⟨x,H,I1,R,⟨rfl,M⟩,m,fun b j=>(n b j).1⟩⟩
 done:=by
  intro X y A D J i f s σ H E I n a B;subst y A D;obtain ⟨l,N⟩:=B;obtain ⟨G,r,Q,F,C,t⟩:=n it (by simp);have g:=(I.hok d _ l).1;have S:=rel.length;exact wpAny_pyNext_values_end (I.ok.hd J) a (hd _ g) (List.getElem?_eq_none ∅) fun p Y=>⟨rfl,I.turned (t':=s.toks) (fun b o j e=>Y b o j e) G r F C t⟩
 self:=fun _ _ _ _ _ a h=>wpAny_pyIter_valiter a h
section
variable {X:Cx} {tg:Expr}
def iVals (td:TE):TI:=fun σ H R=>td σ H fun x H1=>∃ d kvs,x=.ref d/\H1 d=some (.dK kvs)/\∀ od,R (Itv d od kvs) (upd H1 d (.frz od (.dK kvs)))
theorem Jic {o:Expr} {td:TE} {apos cpos:Pos} (ho:PE X o td) (hb:attributeBase o "values" X.env (eval o X.env)=eval o X.env:=by rfl) (hn:(apos.endLine == cpos.line)=true:=by rfl) :
  PI X tg (.Call (.Attribute o "values" apos) [] [] cpos) (iVals td):=by
 intro f s σ H R I h;refine wpAny_Call_method0_late hb hn (thn (ho f s σ H _ I h) fun v a ζ=>?_);obtain ⟨y,C,I1,t,d,kvs,r,e,A⟩:=ζ;subst r;obtain rfl:v=Value.ref d:=t;obtain ⟨j,x,p⟩:=Jfx I1 (.inl ⟨kvs, .inl e⟩);obtain ⟨D,_,vs,g,n⟩:=dk_of I1.hok e;refine ⟨"dict","dict.values",PySem.F.plainAttrs_dict,PySem.F.slot_dict_values,PySem.F.type_dict_values,j,x,Calls.callWith_builtin rfl (PySem.evalArgs_none ?_)⟩;refine call_meetsIn PySem.F.slot_dict_values j PySem.F.entry_dict_values (PySem.F.args_dict_values_1 _) (meets_dict_values (Jaw X.prog X.w) d p) ⟨⟨vs,n⟩,?_⟩;obtain ⟨ep,l⟩:=n.dictAt;obtain ⟨k,u,c,rest⟩:=id l;refine wpAny_pyIter_values (knd:=Jaw X.prog X.w) (v:=a.heap.objs.size) (d:=d) (kvs:=vs) (ep:=ep) ⟨_,Heap.get?_push_size _ rfl,rfl,rfl⟩ (l.push _) ?_;have B:∀ b o,a.heap.get? b=some o->((a.heap.push { cls:=.type "dict_values",data:=.fields #[.ref d] }).push { cls:=.type "dict_valueiterator",data:=.fields #[.ref d, .int 0 0, .int vs.length 0, .int ep 0] }).get? b=some o:=fun b o z=>Heap.get?_push_of_some _ (Heap.get?_push_of_some _ z);have I2:=(I1.freeze e c).kept (t':=a.toks) B;have m:a.heap.objs.size<=(a.heap.push { cls:=.type "dict_values",data:=.fields #[.ref d] }).objs.size:=by
  rw [Heap.size_push];exact Nat.le_succ _
 refine ⟨_,[_],_,_,_,rfl,I2,Jiz (vs:=vs) (ep:=ep) g (fun h q=>⟨k,u,q,rest⟩),⟨_,Heap.get?_push_size _ rfl,rfl,rfl⟩,fun b i=>?_,A k⟩;obtain rfl:=mem_singleton.mp i;exact I1.fpOk m ((I1.freeze e c).hok.fresh m)
def tThaw (t:TE):TE:=fun σ H Q=>∃ d kvs,H d=some (.dK kvs)/\t σ H fun v H'=>∃ od kvs',H' d=some (.frz od (.dK kvs'))/\Q v (upd H' d (.dK kvs'))
theorem Jgk {e:Expr} {t:TE} (h:PE X e t):PE X e (tThaw t):=by
 intro a s σ H Q I ⟨d,i,j,q⟩;exact thn (h a s σ H _ I q) fun v m ⟨x,k,I1,g,l,b,c,f⟩=>⟨x,_,I.thaw j I1 c,g,f⟩
end
section
variable {k:Nat} {cs:List (Nat × Str)} {g:TG} {te tl td:TE} {σ : St} {H H1:Hp} {Q:VK} {d:Addr} {od:Obj} {kvs:List (Key × V)}
theorem y3ay:tThaw (tComp k cs (iVals td) g te) σ H Q=∃ d kvs,H d=some (.dK kvs)/\td σ H fun x H1=>∃ d1 kvs1,x=.ref d1/\H1 d1=some (.dK kvs1)/\∀ od,CompJ (Itv d1 od kvs1) k cs g te σ (fun v H'=>∃ od kvs',H' d=some (.frz od (.dK kvs'))/\Q v (upd H' d (.dK kvs'))) (upd H1 d1 (.frz od (.dK kvs1))):=rfl
theorem CompJ.vals (Pv:Nat->List V->Hp->Prop) (h0:Pv 0 [] H1) (hl:∀ i ys H',i<=kvs.length->Pv i ys H'->H' d=some (.frz od (.dK kvs))/\ys.length<=sizeLine)
  (hs:∀ i x ys H2,(kvs.map (·.2))[i]?=some x->Pv i ys H2->g x (List.replicate k none++JaF cs σ) H2 fun σ4 H4=>te σ4 H4 fun y H5=>Pv (i+1) (ys++[y]) H5) (hd:∀ ys H2,Pv kvs.length ys H2->∀ p,H2 p=none->Q (.ref p) (upd H2 p (.lst ys))) :
  CompJ (Itv d od kvs) k cs g te σ Q H1:=by
 refine ⟨fun i m ys H'=>Pv i ys H'/\i<=kvs.length/\m=kvs.length-i,⟨_,h0,Nat.zero_le _,rfl⟩,?_⟩;rintro i m ys H2 ⟨a,n,rfl⟩;obtain ⟨b,f⟩:=hl i ys H2 n a;refine ⟨f,?_⟩;by_cases c:i<kvs.length
 ·refine .inr ⟨⟨b,c⟩,?_⟩;rintro x j ⟨rfl,l⟩;have e:(fun (σ4:St) (H4:Hp)=>te σ4 H4 fun y H5=>Pv (i+1) (ys++[y]) H5)=fun σ4 H4=>te σ4 H4 fun y H5=>∃ m',m'<kvs.length-i/\Pv (i+1) (ys++[y]) H5/\i+1<=kvs.length/\m'=kvs.length-(i+1):=by
   funext σ4 H4
   congr 1
   funext y H5
   exact propext ⟨fun q=>⟨_,Nat.sub_lt_sub_left c (Nat.lt_succ_self i),q,c,rfl⟩,fun ⟨_,_,q,_⟩=>q⟩
  rw [<- e];exact hs i x ys j l a
 ·have h:i=kvs.length:=by ac_nf
  subst h;exact .inl ⟨⟨b,Nat.le_refl _⟩,hd ys H2 a⟩
end
section
variable {X:Cx} {k k':Nat} {x:Str} {C:Addr} {ps:List Str} {sp:Sp} {E:XK} {p pos:Pos}
theorem KCal.ev0 (G:KCal X.prog X.w X.K X.mg X.base k x C ps sp) (hr:Room k' X.A) (hk:k+1<=k') (hg:Gl X x) (hx:JbU (CX1 X.prog X.w) X E) (hdb:(x == ("__debug__" : Str))=false:=by decide) :
  PE X (.Call (.Name x p) [] [] pos) (tMake C sp [] E tNil):=by
 obtain ⟨f,c,F,b,M,a⟩:=G.ex;exact Ji2 M F (hr.mono hk) hg b a .nil hx hdb
end
def wtB:D->Bool
 | .int i=>decide (1<=i)
 | _=>false
def partB:D->Bool
 | .tup [n,s,e,z,m,w]=>nameB n&&JcR s e&&(fracB z&&fracB m&&Jcb w)&&(!lessD m (.tup [.int 0, .int 1])&&wtB w)
 | _=>false
def gapB:D->Bool
 | .tup [n,s,e,l,g]=>tieB (.tup [n,s,e,l,g])&&!nonD l&&!nonD g
 | _=>false
structure POk (p:PD):Prop where
 n1:nameS p.nm=true
 n2:nameS p.st=true
 n3:nameS p.en=true
 ne:p.st≠p.en
 z:FOk 200 p.sz
 m:FOk 200 p.mo
 m0:0<=p.mo.1
 w:1<=p.wt
 ws:Mth.Sz 200 p.wt
structure GD where
 nm:Str
 st:Str
 en:Str
 lo:Int × Int
 hi:Int × Int
def GD.td (g:GD):TD:=⟨g.nm,g.st,g.en,some g.lo,some g.hi⟩
def pdD (p:PD):D:=.tup [.str p.nm, .str p.st, .str p.en,frD p.sz,frD p.mo, .int p.wt]
theorem POk.part {p:PD} (h:POk p):partB (pdD p)=true:=by
 have e:eqD (.str p.st) (.str p.en)=false:=by simp only [eqD,beq_eq_false_iff_ne];exact h.ne
 have l:lessD (frD p.mo) (.tup [.int 0, .int 1])=false:=by
  simp [frD,lessD];exact h.m0
 simp [pdD,partB,nameB,JcR,h.n1,h.n2,h.n3,e,l,frD,fracB,Jcb,wtB,h.z.b1,h.z.g1,h.m.b1,h.m.g1,h.w];simpa [frD,lessD] using h.m0
theorem POk.sz {p:PD} (h:POk p):szD (pdD p):=by
 simp only [pdD,frD,szD,szL];have:=len8 h.n1;have:=len8 h.n2;have:=len8 h.n3;exact ⟨by ac_nf,by ac_nf,by ac_nf,⟨h.z.s1.mono ⋯,h.z.s2.mono ⋯,trivial⟩,⟨h.m.s1.mono ⋯,h.m.s2.mono ⋯,trivial⟩,h.ws.mono ⋯,trivial⟩
theorem JkR {g:GD} (h:TOk g.td):gapB (tdD g.td)=true:=by
 have:=h.tie;simp only [tdD,gapB] at this ⊢;rw [this];rfl
def PDV (K:W.Frag) (H:Hp) (p:PD) (x:V):Prop:=∃ b vz vm,x=.ref b/\SqT K H b [.str p.nm, .str p.st, .str p.en,vz,vm, .int p.wt]/\FrV K H vz p.sz.1 p.sz.2/\FrV K H vm p.mo.1 p.mo.2
section
variable {K:W.Frag} {H H':Hp}
theorem PDV.sameT {p:PD} {x:V} (S:SameT H H'):PDV K H p x->PDV K H' p x:=by rintro ⟨b,d,f,e,q,c,a⟩;exact ⟨b,d,f,e,q.sameT S,c.sameT S,a.sameT S⟩
theorem PDV.rep {p:PD} {x:V}:PDV K H p x->Rep K H (pdD p) x:=fun ⟨b,d,f,e,q,c,a⟩=>by
 simp only [pdD,Rep,RepL];exact ⟨b,_,e,q,_,_,rfl,rfl,_,_,rfl,rfl,_,_,rfl,rfl,_,_,rfl,FrV.rep c,_,_,rfl,FrV.rep a,_,_,rfl,rfl,rfl⟩
end
def LeV (H:Hp) (e:Str × Pr) (x:V):Prop:=∃ b c,x=.ref b/\H b=some (.tup [.str e.1, .ref c])/\H c=some (.tup [.str e.2.1, .bl e.2.2])
theorem LeV.sameT {H H':Hp} {e:Str × Pr} {x:V} (S:SameT H H'):LeV H e x->LeV H' e x:=by rintro ⟨b,c,d,a,f⟩;exact ⟨b,c,d,S _ _ rfl a,S _ _ rfl f⟩
structure JD (H0 H:Hp) (L:Str->List (Str × Pr)) (kvs:List (Key × V)):Prop where
 at_:∀ (f:Str),(valV kvs (Sum.inr f)=none/\L f=[])\/∃ l xs,valV kvs (Sum.inr f)=some (.ref l)/\H0 l=none/\H l=some (.lst xs)/\All2 (LeV H) (L f) xs
 inj:∀ (f g:Str) (l:Addr),valV kvs (Sum.inr f)=some (.ref l)->valV kvs (Sum.inr g)=some (.ref l)->f=g
theorem JD.same {H0 H H':Hp} {L:Str->List (Str × Pr)} {kvs:List (Key × V)} (S:Same H H') (h:JD H0 H L kvs):JD H0 H' L kvs where
 at_:=fun f=>by
  rcases h.at_ f with h | ⟨l,xs,h1,h2,h3,h4⟩
  ·exact .inl h
  ·exact .inr ⟨l,xs,h1,h2,S _ _ h3,h4.mono fun _ _ z=>z.sameT S.t⟩
 inj:=h.inj
theorem JD.sx {H0 H H':Hp} {L:Str->List (Str × Pr)} {kvs kv2:List (Key × V)} {d:Addr} (S:∀ b u,b≠d->H b=some u->H' b=some u) (hd:H d=some (.dK kv2)) (h:JD H0 H L kvs):JD H0 H' L kvs where
 at_:=fun f=>by
  have T:SameT H H':=fun b u t q=>S b u (fun z=>by rw [z,hd] at q;cases q;simp [isTF] at t) q;rcases h.at_ f with h | ⟨l,xs,h1,h2,h3,h4⟩
  ·exact .inl h
  ·exact .inr ⟨l,xs,h1,h2,S _ _ (fun z=>by rw [z,hd] at h3;cases h3) h3,h4.mono fun _ _ z=>z.sameT T⟩
 inj:=h.inj
theorem JD.sy {H0 H H':Hp} {L:Str->List (Str × Pr)} {kvs:List (Key × V)} {x:Addr} {o:HO} (S:∀ b u,b≠x->H b=some u->H' b=some u) (hx:H x=some o) (hn:∀ xs,o≠.lst xs) (ht:isTF o=false) (h:JD H0 H L kvs):JD H0 H' L kvs where
 at_:=fun f=>by
  have T:SameT H H':=fun b u t q=>S b u (fun z=>by rw [z,hx] at q;cases q;rw [ht] at t;cases t) q;rcases h.at_ f with h | ⟨l,xs,h1,h2,h3,h4⟩
  ·exact .inl h
  ·exact .inr ⟨l,xs,h1,h2,S _ _ (fun z=>by rw [z,hx] at h3;exact hn _ (Option.some.inj h3)) h3,h4.mono fun _ _ z=>z.sameT T⟩
 inj:=h.inj
theorem JD.nil {H0 H:Hp}:JD H0 H (fun _=>[]) []:=⟨fun f=>.inl ⟨rfl,rfl⟩,fun f g l h=>by simp [valV] at h⟩
def addL (L:Str->List (Str × Pr)) (f:Str) (e:Str × Pr):Str->List (Str × Pr):=fun g=>if g=f then L g++[e] else L g
theorem JD.more {H0 H H':Hp} {L:Str->List (Str × Pr)} {kvs:List (Key × V)} {f:Str} {e:Str × Pr} {l b:Addr} {xs:List V} (h:JD H0 H L kvs) (hv:valV kvs (Sum.inr f)=some (.ref l)) (hl:H l=some (.lst xs)) (hb:LeV H e (.ref b)) (e':upd H l (.lst (xs++[.ref b]))=H'):JD H0 H' (addL L f e) kvs where
 at_:=fun g=>by
  have T:SameT H H':=SameT.put e' hl rfl;have a:H' l=some (.lst (xs++[.ref b])):=by rw [<- e',Jaj]
  by_cases c:g=f
  ·subst c;rcases h.at_ g with ⟨h1,_⟩ | ⟨l2,xs2,h1,h2,h3,h4⟩
   ·rw [hv] at h1;cases h1
   ·rw [hv] at h1;cases h1;rw [hl] at h3;cases h3;refine .inr ⟨l,_,hv,h2,a,?_⟩;unfold addL;rw [if_pos rfl];exact (h4.mono fun _ _ z=>z.sameT T).append (.one (hb.sameT T))
  ·unfold addL;rw [if_neg c];rcases h.at_ g with h1 | ⟨l2,xs2,h1,h2,h3,h4⟩
   ·exact .inl h1
   ·have d:l2≠l:=fun z=>c (h.inj g f l (by rw [h1,z]) hv);exact .inr ⟨l2,xs2,h1,h2,by rw [<- e',Jag d];exact h3,h4.mono fun _ _ z=>z.sameT T⟩
 inj:=h.inj
theorem JD.first {H0 H H':Hp} {L:Str->List (Str × Pr)} {kvs:List (Key × V)} {f:Str} {e:Str × Pr} {l b:Addr} (h:JD H0 H L kvs) (hv:valV kvs (Sum.inr f)=none) (h0:H0 l=none) (hn:∀ g l',valV kvs (Sum.inr g)=some (.ref l')->l'≠l) (hl:H l=some (.lst [])) (hb:LeV H e (.ref b)) (e':upd H l (.lst [.ref b])=H'):JD H0 H' (addL L f e) (putK kvs (Sum.inr f) (.ref l)) where
 at_:=fun g=>by
  have T:SameT H H':=SameT.put e' hl rfl;have m:H' l=some (.lst [.ref b]):=by rw [<- e',Jaj]
  rw [JgX];by_cases c:g=f
  ·subst c;rw [if_pos rfl];refine .inr ⟨l,_,rfl,h0,m,?_⟩;unfold addL;rw [if_pos rfl];rcases h.at_ g with ⟨_,d⟩ | ⟨l2,xs2,a,_⟩
   ·rw [d];exact .one (hb.sameT T)
   ·rw [hv] at a;cases a
  ·have o:(Sum.inr g:Key)≠Sum.inr f:=fun z=>c (by injection z);rw [if_neg o];unfold addL;rw [if_neg c];rcases h.at_ g with a | ⟨l2,xs2,a,d,h3,h4⟩
   ·exact .inl a
   ·exact .inr ⟨l2,xs2,a,d,by rw [<- e',Jag (hn g l2 a)];exact h3,h4.mono fun _ _ z=>z.sameT T⟩
 inj:=fun n k l' a d=>by
  rw [JgX] at a d;by_cases j:(Sum.inr n:Key)=Sum.inr f
  ·by_cases i:(Sum.inr k:Key)=Sum.inr f
   ·have:=j.trans i.symm;injection this
   ·rw [if_pos j] at a;rw [if_neg i] at d;cases a;exact absurd rfl (hn k l d)
  ·by_cases i:(Sum.inr k:Key)=Sum.inr f
   ·rw [if_neg j] at a;rw [if_pos i] at d;cases d;exact absurd rfl (hn n l a)
   ·rw [if_neg j] at a;rw [if_neg i] at d;exact h.inj n k l' a d
theorem Jc1 {ls:List PD} {p:PD} (h:p.st≠p.en):addL (addL (JaD ls) p.st (p.en,(p.nm,true))) p.en (p.st,(p.nm,false))=JaD (ls++[p]):=by
 funext g
 rw [JdU];unfold addL JdE;by_cases a:g=p.en
 ·subst a;have e:p.en≠p.st:=fun z=>h z.symm;simp [h,e]
 ·have c:p.en≠g:=fun z=>a z.symm;by_cases d:g=p.st
  ·subst d;simp [a]
  ·have b:p.st≠g:=fun z=>d z.symm;simp [a,d,c,b]
theorem JeS (ls:List PD) (f:Str):(JaD ls f).length<=ls.length:=by
 unfold JaD;induction ls with
 | nil=>simp
 | cons p ls ih=>
  rw [List.flatMap_cons,length_append,length_cons];have : (JdE p f).length<=1:=by
   unfold JdE;split
   ·simp
   ·split <;> simp
  ac_nf
def PWy (H H':Hp) (wl:Addr) (a:Str × List Pr) (v:V):Prop:=∃ l xs,v=.ref l/\H l=none/\l≠wl/\H' l=some (.lst xs)/\All2 (CV H') a.2 xs
structure Srch (H:Hp) (ls:List PD) (one:Str) (fd wl:Addr) (H':Hp) (ws:List (Str × List Pr)) (wt:List Str):Prop where
 same:Same H H'
 dict:∃ kvs,H' fd=some (.dK kvs)/\BG (·.1) (PWy H H' wl) ws kvs
 nd:(ws.map (·.1)).Nodup
 here:one∈ws.map (·.1)
 walk:∀ a∈ws,Jbj ls one a.2 a.1
 wait:H' wl=some (.lst (wt.map V.str))
 sub:∀ f∈wt,f∈ws.map (·.1)
 lw:∀ a∈ws,a.2.length<=ws.length
 sim:∀ a∈ws,(a.2.map (·.1)).Nodup/\∀ p∈ls,p.nm∈a.2.map (·.1)->p.st∈ws.map (·.1)/\p.en∈ws.map (·.1)
section
variable {H H' H'':Hp} {ls:List PD} {one:Str} {fd wl:Addr} {ws:List (Str × List Pr)} {wt:List Str}
theorem Srch.len (h:Srch H ls one fd wl H' ws wt) (hl:ls.length<=20):ws.length<=41:=by
 have:=sub_len (ws.map (·.1)) (one::fcsOf ls) h.nd fun z b=>by
  obtain ⟨a,c,rfl⟩:=mem_map.mp b;exact JgZ (h.walk a c)
 rw [length_map,length_cons,JjS] at this;ac_nf
theorem Srch.grow (h:Srch H ls one fd wl H' ws wt) (S:Same H' H''):Srch H ls one fd wl H'' ws wt:=by
 obtain ⟨b,f,d⟩:=h.dict;exact ⟨h.same.trans S,⟨b,S _ _ f,d.mono fun a v ⟨l,i,e,g,c,j,k⟩=>⟨l,i,e,g,c,S _ _ j,k.mono fun _ _ z=>z.sameT S.t⟩⟩,h.nd,h.here,h.walk,S _ _ h.wait,h.sub,h.lw,h.sim⟩
theorem Srch.wait' {wt':List Str} (h:Srch H ls one fd wl H' ws wt) (hw:H wl=none) (e:upd H' wl (.lst (wt'.map V.str))=H'') (hs:∀ f∈wt',f∈ws.map (·.1)):Srch H ls one fd wl H'' ws wt':=by
 obtain ⟨d,i,j⟩:=h.dict;have T:SameT H' H'':=SameT.put e h.wait rfl;have g:fd≠wl:=fun z=>by have:=h.wait;rw [<- z,i] at this;cases this
 refine ⟨fun b u q=>by rw [<- e,Jag (Jai q hw)];exact h.same _ _ q,⟨d,by rw [<- e,Jag g];exact i,j.mono fun a v ⟨l,m,n,k,c,p,o⟩=>⟨l,m,n,k,c,by rw [<- e,Jag c];exact p,o.mono fun _ _ z=>z.sameT T⟩⟩,h.nd,h.here,h.walk,by rw [<- e,Jaj],hs,h.lw,h.sim⟩
theorem Srch.find {g:Str} {w:List Pr} {l:Addr} {xs:List V} {kvs:List (Key × V)} (h:Srch H ls one fd wl H' ws wt) (hk:H' fd=some (.dK kvs)) (hb:BG (·.1) (PWy H H' wl) ws kvs) (hf:H fd=none) (hg:g∉ws.map (·.1)) (hwk:Jbj ls one w g) (hlw:w.length<=ws.length+1) (hsm:(w.map (·.1)).Nodup/\∀ p∈ls,p.nm∈w.map (·.1)->p.st∈(ws++[(g,w)]).map (·.1)/\p.en∈(ws++[(g,w)]).map (·.1)) (hl:H l=none) (hne:l≠wl) (hx:H' l=some (.lst xs)) (ha:All2 (CV H') w xs)
  (e:upd H' fd (.dK (putK kvs (Sum.inr g) (.ref l)))=H''):Srch H ls one fd wl H'' (ws++[(g,w)]) wt:=by
 have T:SameT H' H'':=SameT.put e hk rfl;have k:wl≠fd:=fun z=>by have:=h.wait;rw [z,hk] at this;cases this
 have i:∀ {b:Addr} {ys:List V},H' b=some (.lst ys)->H'' b=some (.lst ys):=fun q=>by rw [<- e,Jag (fun z=>by rw [z,hk] at q;cases q)];exact q
 refine ⟨fun b u q=>by rw [<- e,Jag (Jai q hf)];exact h.same _ _ q,⟨_,by rw [<- e,Jaj],?_⟩,?_,?_,?_,i h.wait,?_,?_,?_⟩
 ·have:=hb.mono (P':=PWy H H'' wl) fun a v ⟨l,xs,j,d,hne,hx,ha⟩=>⟨l,xs,j,d,hne,i hx,ha.mono fun _ _ z=>z.sameT T⟩;exact this.new (a:=(g,w)) hg ⟨l,xs,rfl,hl,hne,i hx,ha.mono fun _ _ z=>z.sameT T⟩
 ·rw [map_append,nodup_append];refine ⟨h.nd,by simp,fun a ha b hb z=>hg ?_⟩;rw [map_cons,map_nil,mem_singleton] at hb;have hb:b=g:=hb;rw [<- hb, <- z];exact ha
 ·rw [map_append];exact mem_append.mpr (.inl h.here)
 ·intro a ha;rcases mem_append.mp ha with ha | ha
  ·exact h.walk a ha
  ·rw [mem_singleton.mp ha];exact hwk
 ·intro f c;rw [map_append];exact mem_append.mpr (.inl (h.sub f c))
 ·intro a ha;rw [length_append,length_singleton];rcases mem_append.mp ha with ha | ha
  ·have:=h.lw a ha;ac_nf
  ·rw [mem_singleton.mp ha];exact hlw
 ·intro a ha;rcases mem_append.mp ha with ha | ha
  ·refine ⟨(h.sim a ha).1,fun p m d=>?_⟩;have:=(h.sim a ha).2 p m d;rw [map_append];exact ⟨mem_append.mpr (.inl this.1),mem_append.mpr (.inl this.2)⟩
  ·rw [mem_singleton.mp ha];exact hsm
end
inductive PR
 | ok (ls:List PD)
 | noPart
 | twice
 | ring
open Classical in
noncomputable def partsW:List PD->List (PD ⊕ D)->PR
 | acc,[]=>.ok acc
 | _, .inr _::_=>.noPart
 | acc, .inl p::r=>if p.nm∈acc.map (·.nm) then .twice else if Conn acc p.st p.en then .ring else partsW (acc++[p]) r
inductive GR
 | ok (gs:List GD)
 | noGap
 | twice
 | apart
open Classical in
noncomputable def gapsW (ls:List PD):List GD->List (GD ⊕ D)->GR
 | acc,[]=>.ok acc
 | _, .inr _::_=>.noGap
 | acc, .inl g::r=>if g.nm∈acc.map (·.nm) then .twice else if Conn ls g.st g.en then gapsW ls (acc++[g]) r else .apart
theorem Jhg (acc:List PD) (c:D) (r:List (PD ⊕ D)):partsW acc (.inr c::r)=.noPart:=rfl
theorem Jhh {acc:List PD} {p:PD} {r:List (PD ⊕ D)} (h:p.nm∈acc.map (·.nm)):partsW acc (.inl p::r)=.twice:=by
 rw [partsW,if_pos h]
theorem Jgi {acc:List PD} {p:PD} {r:List (PD ⊕ D)} (h:p.nm∉acc.map (·.nm)) (hc:Conn acc p.st p.en):partsW acc (.inl p::r)=.ring:=by
 rw [partsW,if_neg h,if_pos hc]
theorem Jdc {acc:List PD} {p:PD} {r:List (PD ⊕ D)} (h:p.nm∉acc.map (·.nm)) (hc:¬ Conn acc p.st p.en):partsW acc (.inl p::r)=partsW (acc++[p]) r:=by
 rw [partsW,if_neg h,if_neg hc]
theorem JhH (ls:List PD) (acc:List GD) (c:D) (r:List (GD ⊕ D)):gapsW ls acc (.inr c::r)=.noGap:=rfl
theorem JhI {ls:List PD} {acc:List GD} {g:GD} {r:List (GD ⊕ D)} (h:g.nm∈acc.map (·.nm)):gapsW ls acc (.inl g::r)=.twice:=by
 rw [gapsW,if_pos h]
theorem Jf6 {ls:List PD} {acc:List GD} {g:GD} {r:List (GD ⊕ D)} (h:g.nm∉acc.map (·.nm)) (hc:¬ Conn ls g.st g.en):gapsW ls acc (.inl g::r)=.apart:=by
 rw [gapsW,if_neg h,if_neg hc]
theorem JgD {ls:List PD} {acc:List GD} {g:GD} {r:List (GD ⊕ D)} (h:g.nm∉acc.map (·.nm)) (hc:Conn ls g.st g.en):gapsW ls acc (.inl g::r)=gapsW ls (acc++[g]) r:=by
 rw [gapsW,if_neg h,if_pos hc]
def WOV (H:Hp) (ls:List PD) (g:GD) (v:V):Prop:=∃ l xs w,v=.ref l/\H l=some (.lst xs)/\All2 (CV H) w xs/\Jbj ls g.st w g.en/\(w.map (·.1)).Nodup
theorem WOV.same {H H':Hp} {ls:List PD} {g:GD} {v:V} (S:Same H H'):WOV H ls g v->WOV H' ls g v:=by rintro ⟨l,d,w,b,a,c,e⟩;exact ⟨l,d,w,b,S _ _ a,c.mono fun _ _ z=>z.sameT S.t,e⟩
theorem Jkn {X:Cx} {K:W.Frag} {pos:Pos} {es:List Expr} {k:Nat} {t:TGs} {n:Nat} (hK:X.K=K) (hc:X.calm=true) (h:PGs X es t) (hn:(assignEach es X.env).length=n:=by rfl) (hst:(assignEach es X.env).findIdx? (·.1)=none:=by rfl):PG X (.Tuple es k pos) (gTup K n t):=by
 subst hK;exact Jh9 hc h hn hst
abbrev Fr2:=Int × Int
section
variable {K:W.Frag} {k:Nat} {cs:List (Nat × Str)} {g:TG} {te:TE} {ta:TA} {σ : St} {H H1:Hp} {Q:VK} {a b:Addr} {xs zs:List V}
end
section
variable {X:Cx}
end
section
variable {K:W.Frag} {H:Hp} {Q:VK}
end
def fc (j:Nat):Str:=⟨#[102+j]⟩
theorem All2.map {α β : Type} {P : α->V->Prop} {P' : β->V->Prop} {f : α->β}:∀ {as:List α} {xs:List V},All2 P as xs->(∀ a∈as, ∀ x,P a x->P' (f a) x)->All2 P' (as.map f) xs
 | [],xs,h,_=>h
 | a::as,xs,h,m=>by
  obtain ⟨x,r,rfl,h1,h2⟩:=h;exact ⟨x,r,rfl,m a (by simp) x h1,All2.map h2 fun b hb=>m b (by simp [hb])⟩
theorem JhJ {ls:List PD}:∀ (gs acc:List GD),((acc++gs).map (·.nm)).Nodup->(∀ g∈gs,Conn ls g.st g.en)->gapsW ls acc (gs.map Sum.inl)=.ok (acc++gs)
 | [],acc,_,_=>by
  rw [map_nil,gapsW,append_nil]
 | g::gs,acc,hn,hc=>by
  have ea:acc++g::gs=(acc++[g])++gs:=by simp
  have ne:g.nm∉acc.map (·.nm):=by
   have h2:=hn;rw [map_append,map_cons,nodup_append] at h2;exact fun z=>h2.2.2 _ z _ (by simp) rfl
  rw [map_cons,JgD ne (hc g (by simp)),JhJ gs (acc++[g]) (by rw [<- ea];exact hn) (fun u hu=>hc u (by simp [hu])),ea]
section
variable {prog:Program} {w:World} {A:Around} {E:Value->Shared->Prop} {s:Shared}
end
section
variable {prog:Program} {w:World} {A:Around} {E:Value->Shared->Prop} {s:Shared}
end
section
variable {X:Cx}
end
section
variable {X:Cx} {elts:List Expr} {x1:Nat} {tp:Pos}
end
section
variable {K:W.Frag} {k:Nat} {cs:List (Nat × Str)} {g:TG} {te:TE} {ta:TA} {σ : St} {H H1:Hp} {Q:VK} {a:Addr} {xs:List V}
theorem CompJ.range {lo:Int} {n:Nat} (Pv:Nat->List V->Hp->Prop) (h0:Pv 0 [] H1) (hl:∀ i ys H',i<=n->Pv i ys H'->ys.length<=sizeLine)
  (hs:∀ i ys H2,i<n->Pv i ys H2->g (.int (lo+i)) (List.replicate k none++JaF cs σ) H2 fun σ4 H4=>te σ4 H4 fun y H5=>Pv (i+1) (ys++[y]) H5) (hd:∀ ys H2,Pv n ys H2->∀ p,H2 p=none->Q (.ref p) (upd H2 p (.lst ys))) :
  CompJ (Itr lo n) k cs g te σ Q H1:=by
 refine ⟨fun i m ys H'=>Pv i ys H'/\i<=n/\m=n-i,⟨_,h0,Nat.zero_le _,rfl⟩,?_⟩;rintro i m ys H2 ⟨a,d,rfl⟩;refine ⟨hl i ys H2 d a,?_⟩;by_cases c:i<n
 ·refine .inr ⟨c,?_⟩;rintro v f ⟨rfl,rfl⟩;have e:(fun (σ4:St) (H4:Hp)=>te σ4 H4 fun y H5=>Pv (i+1) (ys++[y]) H5)=fun σ4 H4=>te σ4 H4 fun y H5=>∃ m',m'<n-i/\Pv (i+1) (ys++[y]) H5/\i+1<=n/\m'=n-(i+1):=by
   funext σ4 H4
   congr 1
   funext y H5
   exact propext ⟨fun q=>⟨_,Nat.sub_lt_sub_left c (Nat.lt_succ_self i),q,c,rfl⟩,fun ⟨_,_,q,_⟩=>q⟩
  rw [<- e];exact hs i ys _ c a
 ·have b:i=n:=by ac_nf
  subst b;exact .inl ⟨Nat.le_refl _,hd ys H2 a⟩
end
def Itq (lo c:Int) (n:Nat):It:=⟨fun i _=>i<n,fun i H x H'=>H'=H/\x=.int (lo+i*c),fun i _=>n<=i⟩
theorem Jgs {P:Program} {w:World} {K:W.Frag} {tg:Expr} (it:Addr) (lo c:Int) (n:Nat):Turn P w K tg (Itq lo c n) [it] it (fun i h=>IsRangeIter h it (lo+(i:Nat)*c) ((n:Int)-(i:Nat)) c) where
 mem:=by simp
 obj:=fun i h a b f=>by
  have e:b=it:=by simpa using f
  subst e;exact ⟨_,a,fun v z=>by
   have G:Data.fields _=Data.cell v:=z;cases G⟩
 keep:=fun i h l a k=>k it (by simp) _ a
 item:=by
  intro X q u A r i d s σ H E I j a x;subst q u A;obtain ⟨C,m,J,B,y,p⟩:=j it (by simp);have W:=Walks.range (prog:=X.prog) (w:=X.w) (I.ok.hd r) it lo c n;refine W.item i s _ _ x a fun v l D F g M=>?_;obtain ⟨t,rfl⟩:=F;have I1:Inv X d σ H { s with heap:=l,toks:=D }:=I.turned (fun b o f e=>M b o (by simpa using f) e) C m B y p;exact ⟨_,rfl,go_of (s:={ s with heap:=l,toks:=D }) (n:="range_iterator") g rfl rfl ⋯ ⟨.int (lo+i*c),H,I1,⟨t,rfl⟩,⟨rfl,rfl⟩,g,fun b f=>(j b f).1⟩⟩
 done:=by
  intro X q u A r i d s σ H E I j a x;subst q u A;obtain ⟨C,m,J,B,y,p⟩:=j it (by simp);exact wpAny_pyNext_range_end (I.ok.hd r) a (by have : n<=i:=x;ac_nf) fun l L=>⟨rfl,I.turned (t':=s.toks) (fun b o f e=>L b o f e) C m B y p⟩
 self:=fun _ _ _ _ _ a h=>wpAny_pyIter_rangeiter a h
def rsz (lo hi c:Int):Nat:=(if lo<hi then (hi-lo-1)/c+1 else 0).toNat
theorem JeH {lo hi c:Int} (hc:1<=c):((rsz lo hi c:Nat):Int)=Builtin.Range.rangeSize lo hi c:=by
 unfold rsz Builtin.Range.rangeSize;rw [if_pos (show c > 0 by ac_nf)];split
 ·have:=Int.ediv_nonneg (a:=hi-lo-1) (b:=c) ∅ ∅;ac_nf
 ·rfl
theorem Jgn {lo hi c:Int} (h1:0<=lo) (h2:lo<2 ^ 40) (h3:0<=hi) (h4:hi<2 ^ 40) (h5:1<=c) (h6:c<2 ^ 30):Builtin.Range.small lo hi c=true:=by
 unfold Builtin.Range.small;have e:0<=Builtin.Range.rangeSize lo hi c/\Builtin.Range.rangeSize lo hi c<2 ^ 41:=by
  rw [<- JeH h5];refine ⟨by ac_nf,?_⟩;unfold rsz;split
  ·have f:=Int.ediv_nonneg (a:=hi-lo-1) (b:=c) ∅ ∅;have d:=Int.ediv_le_self c (show 0<=hi-lo-1 by ac_nf);ac_nf
  ·simp
 generalize Builtin.Range.rangeSize lo hi c=z at e ⊢;simp only [Builtin.Range.rangeFitsLong,Bool.and_eq_true,Bool.or_eq_true,decide_eq_true_eq,beq_iff_eq];rw [if_pos ∅];simp only [Bool.and_eq_true,decide_eq_true_eq];ac_nf
section
variable {X:Cx} {tg:Expr}
theorem Jll {pins:List (Addr × Obj)} {σ : St} {H:Hp} {s:Shared} {R:It->Hp->Prop} {h:Heap} {lo c:Int} {n:Nat} {t':Nat} (I:Inv X pins σ H { s with heap:=h,toks:=t' }) (q:R (Itq lo c n) H) :
  PIE X pins σ tg R (.ref h.objs.size) { s with heap:=h.push { cls:=.type "range_iterator",data:=.fields #[rawInt lo,rawInt (n:Int),rawInt c] },toks:=t' }:=by
 refine ⟨h.objs.size,[h.objs.size],_,_,H,rfl,I.kept (t':=t') fun b o e=>Heap.get?_push_of_some _ e,Jgs _ lo c n,?_,fun b a=>?_,q⟩
 ·have d:lo+((0:Nat):Int)*c=lo:=by simp
  have f:(n:Int)-((0:Nat):Int)=n:=by simp
  show IsRangeIter _ _ (lo+((0:Nat):Int)*c) ((n:Int)-((0:Nat):Int)) c;rw [d,f];exact Heap.get?_push_size _ rfl
 ·have e:b=h.objs.size:=by simpa using a
  subst e;exact I.fpOk (Nat.le_refl _) (I.hok.fresh (Nat.le_refl _))
def iRng3 (ta:TA):TI:=fun σ H R=>ta σ H fun vs H1=>∃ i j c:Int,vs=[.int i, .int j, .int c]/\(0<=i/\i<2 ^ 40/\0<=j/\j<2 ^ 40/\1<=c/\c<2 ^ 30)/\R (Itq i c (rsz i j c)) H1
theorem Jib {a b d:Expr} {ta:TA} {p pos:Pos} (hg:Gl X "range") (hm:X.mg "range"=none) (ha:PA X [a,b,d] ta)
  (hs:starEach [a,b,d] X.env=[(false,eval a X.env),(false,eval b X.env),(false,eval d X.env)]:=by rfl) (hs2:starEach [b,d] X.env=[(false,eval b X.env),(false,eval d X.env)]:=by rfl):PI X tg (.Call (.Name "range" p) [a,b,d] [] pos) (iRng3 ta):=by
 intro f s σ H R I h;refine wpAny_Call_Name_kw (JeC I hg hm JiF ?_);refine PyProof.Rows.callWith_type1 (thn (ha pos f s σ H _ I h) fun A x ζ=>?_) (by rw [hs,hs2]) (by rw [hs2];rfl);obtain ⟨z,y,I1,l,g⟩:=ζ;obtain ⟨i,j,c,e,⟨g,n,u,w,k,m⟩,q⟩:=g;subst e;cases l with
 | cons r rr=>
  cases rr with
  | cons r' rr=>
   cases rr with
   | cons r'' rr=>
    cases rr;obtain ⟨t,rfl⟩:=r;obtain ⟨t',rfl⟩:=r';obtain ⟨v,rfl⟩:=r'';refine call_range_3 ∅ ?_ (Or.inl (PyProof.noPylong_small ∅));refine wpAny_pyIter_range (IsRange.new ..) (Jgn g n u w k m) ?_;rw [<- JeH k];exact Jll (I1.kept (t':=x.toks) fun b o e=>Heap.get?_push_of_some _ e) q
end
section
variable {ta:TA} {g:TG} {tb:TS} {D:Ends} {σ : St} {H:Hp}
def ForQ (lo c:Int) (n:Nat) (g:TG) (tb:TS) (D:Ends) (σ : St) (H:Hp):Prop:=∃ W:Nat->Nat->St->Hp->Prop,(∃ m,W 0 m σ H)/\∀ i m σ H,W i m σ H ->
 ((Itq lo c n).stop i H/\D.nx σ H)\/((Itq lo c n).go i H/\∃ N:St->Hp->Prop,(∀ σ' H',N σ' H'->∃ m',m'<m/\W (i+1) m' σ' H')/\∀ x H',(Itq lo c n).yld i H x H'->g x σ H' fun σ2 H2=>tb { D with nx:=N,ct:=N,bk:=D.nx } σ2 H2)
theorem y52y:tFor (iRng3 ta) g tb D σ H=ta σ H fun vs H1=>∃ i j c:Int,vs=[.int i, .int j, .int c]/\(0<=i/\i<2 ^ 40/\0<=j/\j<2 ^ 40/\1<=c/\c<2 ^ 30)/\ForQ i c (rsz i j c) g tb D σ H1:=rfl
theorem ForQ.by {lo c:Int} {n:Nat} (Pv:Nat->St->Hp->Prop) (h0:Pv 0 σ H)
  (hs:∀ i σ H,i<n->Pv i σ H->g (.int (lo+i*c)) σ H fun σ2 H2=>tb { D with nx:=Pv (i+1),ct:=Pv (i+1),bk:=D.nx } σ2 H2) (hd:∀ σ H,Pv n σ H->D.nx σ H):ForQ lo c n g tb D σ H:=by
 refine ⟨fun i m σ H=>m=n-i/\i<=n/\Pv i σ H,⟨n,by simp,Nat.zero_le _,h0⟩,?_⟩;rintro i m σ H ⟨rfl,f,p⟩;by_cases a:i<n
 ·refine .inr ⟨a,Pv (i+1),fun σ' d b=>⟨n-(i+1),by ac_nf,rfl,a,b⟩,fun x d y=>?_⟩;obtain ⟨e,y⟩:=y;subst e y;exact hs i σ _ a p
 ·have e:i=n:=by ac_nf
  subst e;exact .inl ⟨Nat.le_refl _,hd σ H p⟩
end
theorem y5cy {c:TT} {ta tb:TE} {σ : St} {H:Hp} {Q:VK}:tIf c ta tb σ H Q=c σ H fun b H1=>if b=true then ta σ H1 Q else tb σ H1 Q:=rfl
def rLenD (xs:List V) (H:Hp) (Q:VK):Prop:=∃ d kvs,xs=[.ref d]/\H d=some (.dK kvs)/\Q (.int (kvs.length:Int)) H
theorem Jfr {X:Cx}:CallR X (.builtin "len") rLenD:=by
 intro c s σ H n o Q I r h;obtain ⟨d,a,rfl,e,q⟩:=h;obtain ⟨u,rfl,i⟩:=vals1 r;cases i;obtain ⟨l,g,f,b,k⟩:=dk_of I.hok e;have m:=JeD;have j:f.length=a.length:=b.length.symm;exact call_len_dict g k ∅ ⟨.int (a.length:Int),H,I.tok _,⟨s.toks+1,by rw [j]⟩,q⟩
def vl (a:Int × Int):Rat:=(a.1:Rat)/(a.2:Rat)
theorem Jaz {a:Int} (h:1<=a):(a:Rat)≠0:=fun z=>by
 have : a=0:=by exact_mod_cast z
 ac_nf
theorem vl_eq {a c:Int × Int} (ha:1<=a.2) (hc:1<=c.2):vl a=vl c↔a.1*c.2=c.1*a.2:=by
 unfold vl;have b:=Jaz ha;have d:=Jaz hc;have e:((a.1*c.2=c.1*a.2)↔((a.1:Rat)*(c.2:Rat)=(c.1:Rat)*(a.2:Rat))):=by
  constructor
  ·intro h;exact_mod_cast h
  ·intro h;exact_mod_cast h
 rw [e];generalize (a.1:Rat)=x at *;generalize (a.2:Rat)=y at *;generalize (c.1:Rat)=z at *;generalize (c.2:Rat)=u at *;constructor
 ·intro h;grind
 ·intro h;grind
theorem JjB {a c:Int × Int} (ha:1<=a.2) (hc:1<=c.2) (h1:Mth.g a.1 a.2=1) (h2:Mth.g c.1 c.2=1) (h:vl a=vl c):a=c:=by
 have:=Mth.Jds ha hc h1 h2 ((vl_eq ha hc).mp h);exact Prod.ext this.1 this.2
theorem JeI {a c:Int × Int} (ha:1<=a.2) (hc:1<=c.2):vl (addF a c)=vl a+vl c:=by
 have d:a.2*c.2≠0:=Int.mul_ne_zero ∅ ∅;have f:=Mth.cross (t:=a.1*c.2+c.1*a.2) d;have g:=Mth.JcS (t:=a.1*c.2+c.1*a.2) d;unfold vl addF;dsimp only;generalize Mth.top (a.1*c.2+c.1*a.2) (a.2*c.2)=t at *;generalize Mth.bot (a.1*c.2+c.1*a.2) (a.2*c.2)=b at *;have i:=Jaz ha;have h:=Jaz hc;have j:=Jaz g;have e:(t:Rat)*((a.2:Rat)*(c.2:Rat))=((a.1:Rat)*(c.2:Rat)+(c.1:Rat)*(a.2:Rat))*(b:Rat):=by exact_mod_cast f
 generalize (a.1:Rat)=x at *;generalize (a.2:Rat)=y at *;generalize (c.1:Rat)=z at *;generalize (c.2:Rat)=u at *;generalize (t:Rat)=t at *;generalize (b:Rat)=b at *;grind
theorem Jdn (a:Int × Int):vl (negF a) = - vl a:=by
 unfold vl negF;rw [Rat.intCast_neg];grind
theorem JdC {a c:Int × Int} (ha:1<=a.2) (hc:1<=c.2):lessF a c=true↔vl a<vl c:=by
 unfold lessF vl;rw [decide_eq_true_iff];have d:(0:Rat)<(a.2:Rat):=by exact_mod_cast (show 0<a.2 by ac_nf)
 have b:(0:Rat)<(c.2:Rat):=by exact_mod_cast (show 0<c.2 by ac_nf)
 have e:((a.1*c.2<c.1*a.2)↔((a.1:Rat)*(c.2:Rat)<(c.1:Rat)*(a.2:Rat))):=by
  constructor
  ·intro h;exact_mod_cast h
  ·intro h;exact_mod_cast h
 rw [e];rw [Rat.div_lt_iff d];generalize (a.1:Rat)=x at *;generalize (a.2:Rat)=y at *;generalize (c.1:Rat)=z at *;generalize (c.2:Rat)=u at *;have f:z/u*y=z*y/u:=by grind
 rw [f,Rat.lt_div_iff b]
theorem Jbj.trans {ls:List PD} {a b c:Str} {w w':List Pr} (h:Jbj ls a w b) (h':Jbj ls b w' c):Jbj ls a (w++w') c:=by
 induction h' with
 | nil=>
  rw [append_nil];exact h
 | snoc _ hm ih=>
  rw [<- List.append_assoc];exact .snoc ih hm
theorem Conn.trans {ls:List PD} {a b c:Str}:Conn ls a b->Conn ls b c->Conn ls a c:=fun ⟨w,h⟩ ⟨d,e⟩=>⟨w++d,h.trans e⟩
theorem Conn.refl {ls:List PD} {a:Str}:Conn ls a a:=⟨[], .nil⟩
theorem Conn.lead {ls:List PD} {f g:Str} {pr:Pr} (h:(g,pr)∈JaD ls f):Conn ls f g:=⟨[]++[pr], .snoc .nil h⟩
theorem Conn.symm {ls:List PD} (hn:∀ p∈ls,p.st≠p.en) {a b:Str} (h:Conn ls a b):Conn ls b a:=by
 obtain ⟨w,h⟩:=h;induction h with
 | nil=>exact .refl
 | snoc _ hm ih=>
  obtain ⟨p,c,h | h⟩:=Jbk.mp hm
  ·exact Conn.trans (.lead (Jbk.mpr ⟨p,c, .inr ⟨fun z=>hn p c (z.trans h.2.1.symm),h.2.1,h.1,rfl⟩⟩)) ih
  ·exact Conn.trans (.lead (Jbk.mpr ⟨p,c, .inl ⟨h.2.2.1,h.2.1,rfl⟩⟩)) ih
theorem Conn.mono {ls:List PD} {p:PD} {a b:Str} (h:Conn ls a b):Conn (ls++[p]) a b:=by
 obtain ⟨w,h⟩:=h;refine ⟨w,?_⟩;induction h with
 | nil=>exact .nil
 | snoc _ hm ih=>exact .snoc ih (by rw [JdU];exact mem_append.mpr (.inl hm))
theorem Jhv {ls:List PD} {p:PD} (hp:p∈ls):Conn ls p.st p.en:=.lead (pr:=(p.nm,true)) (Jbk.mpr ⟨p,hp, .inl ⟨rfl,rfl,rfl⟩⟩)
theorem JiH {ls:List PD} (hn:∀ p∈ls,p.st≠p.en) {a b:Str} (h:Conn ls a b) (hne:a≠b):a∈fcsOf ls/\b∈fcsOf ls:=by
 have c:∀ {a b:Str},Conn ls a b->a≠b->b∈fcsOf ls:=fun {a b} h hne=>by
  obtain ⟨w,h⟩:=h;rcases mem_cons.mp (JgZ h) with e | e
  ·exact absurd e.symm hne
  ·exact e
 exact ⟨c (h.symm hn) (Ne.symm hne),c h hne⟩
theorem Jd7 {p:PD}:∀ (l1 acc:List PD),partsW acc (l1.map Sum.inl)=.ok (acc++l1)->p.nm∉(acc++l1).map (·.nm)->¬ Conn (acc++l1) p.st p.en->partsW acc ((l1++[p]).map Sum.inl)=.ok (acc++(l1++[p]))
 | [],acc,_,h2,h3=>by
  rw [append_nil] at h2 h3;rw [nil_append,map_cons,map_nil,Jdc h2 h3,partsW]
 | q::l1,acc,h1,h2,h3=>by
  have ea:acc++q::l1=(acc++[q])++l1:=by simp
  rw [ea] at h1 h2 h3;rw [cons_append,map_cons];rw [map_cons,partsW] at h1;split at h1
  ·cases h1
  ·rename_i c1;split at h1
   ·cases h1
   ·rename_i c2;rw [Jdc c1 c2,Jd7 l1 (acc++[q]) h1 h2 h3];simp
theorem Conn.sub {L L':List PD} (hs:∀ p∈L,p∈L') {a b:Str} (h:Conn L a b):Conn L' a b:=by
 obtain ⟨w,h⟩:=h;refine ⟨w,?_⟩;induction h with
 | nil=>exact .nil
 | snoc _ hm ih=>
  obtain ⟨p,c,h⟩:=Jbk.mp hm;exact .snoc ih (Jbk.mpr ⟨p,hs p c,h⟩)
def Tree (ls:List PD):Prop:=∀ p∈ls, ¬ Conn (ls.filter fun x=>decide (x.nm≠p.nm)) p.st p.en
theorem JhQ {L:List PD} {x:Str} {e:Str × Pr} (h:e∈JaD L x):x∈fcsOf L/\e.1∈fcsOf L:=by
 refine ⟨?_,JgH h⟩;obtain ⟨p,a,h⟩:=(Jbk (g:=e.1) (pr:=e.2)).mp h;refine mem_flatMap.mpr ⟨p,a,?_⟩;rcases h with h | h
 ·rw [<- h.1];simp
 ·rw [<- h.2.1];simp
theorem Conn.retract {L:List PD} {q:PD} {f s0:Str} (hq:(q.st=f/\q.en=s0)\/(q.st=s0/\q.en=f)) (hf:f∉fcsOf L) {a b:Str} (h:Conn (L++[q]) a b):Conn L (if a=f then s0 else a) (if b=f then s0 else b):=by
 obtain ⟨w,h⟩:=h;induction h with
 | nil=>exact .refl
 | snoc _ hm ih=>
  refine ih.trans ?_;rw [JdU] at hm;rcases mem_append.mp hm with h | h
  ·have e:=JhQ h;have g:∀ x∈fcsOf L,x≠f:=fun x c z=>hf (z ▸ c);rw [if_neg (g _ e.1),if_neg (g _ e.2)];exact .lead h
  ·have d:∀ x,JaD [q] x=JdE q x:=fun x=>by simp [JaD]
   have i:=h;rw [<- d] at i;obtain ⟨p,j,k⟩:=Jbk.mp i;rw [mem_singleton] at j;subst j;have e:∀ x:Str,x=p.st\/x=p.en->(if x=f then s0 else x)=s0:=fun x c=>by
    split
    ·rfl
    ·rename_i n;rcases hq with ⟨h1,h2⟩ | ⟨h1,h2⟩ <;> rcases c with c | c
     ·exact absurd (c.trans h1) n
     ·exact c.trans h2
     ·exact c.trans h1
     ·exact absurd (c.trans h2) n
   rcases k with k | k
   ·rw [e _ (.inl k.1.symm),e _ (.inr k.2.1.symm)];exact .refl
   ·rw [e _ (.inr k.2.1.symm),e _ (.inl k.2.2.1.symm)];exact .refl
theorem Jd8 {ls:List PD} (ht:Tree ls):∀ (l acc:List PD),((acc++l).map (·.nm)).Nodup->(∀ x∈acc++l,x∈ls)->partsW acc (l.map Sum.inl)=.ok (acc++l)
 | [],acc,_,_=>by rw [map_nil,partsW,append_nil]
 | p::l,acc,hn,hs=>by
  have ea:acc++p::l=(acc++[p])++l:=by simp
  have ne:p.nm∉acc.map (·.nm):=by
   have h2:=hn;rw [map_append,map_cons,nodup_append] at h2;exact fun z=>h2.2.2 _ z _ (by simp) rfl
  have nc:¬ Conn acc p.st p.en:=fun z=>ht p (hs p (by simp)) (z.sub fun x hx=>mem_filter.mpr ⟨hs x (by simp [hx]),by
   rw [decide_eq_true_iff];exact fun e=>ne (by rw [<- e];exact mem_map.mpr ⟨x,hx,rfl⟩)⟩)
  rw [map_cons,Jdc ne nc,Jd8 ht l (acc++[p]) (by rw [<- ea];exact hn) (by rw [<- ea];exact hs),ea]
def sgn (b:Bool) (a:Int × Int):Int × Int:=if b then a else negF a
inductive Legs (ls:List PD) (pl:Str->Int × Int):Str->List Pr->Str->Prop
 | nil {a:Str}:Legs ls pl a [] a
 | cons {a g b:Str} {p:PD} {fw:Bool} {w:List Pr}:p∈ls->vl (pl g)=vl (pl a)+vl (sgn fw p.sz)->Legs ls pl g w b->Legs ls pl a ((p.nm,fw)::w) b
theorem Legs.snoc {ls:List PD} {pl:Str->Int × Int} {a f g:Str} {w:List Pr} {p:PD} {fw:Bool} (h:Legs ls pl a w f) (hp:p∈ls) (e:vl (pl g)=vl (pl f)+vl (sgn fw p.sz)):Legs ls pl a (w++[(p.nm,fw)]) g:=by
 induction h with
 | nil=>exact .cons hp e .nil
 | cons h1 h2 _ ih=>exact .cons h1 h2 (ih e)
theorem Jj2 {ls:List PD} {pl:Str->Int × Int} (hpl:∀ p∈ls,vl (pl p.en)=vl (pl p.st)+vl p.sz) {a b:Str} {w:List Pr} (h:Jbj ls a w b):Legs ls pl a w b:=by
 induction h with
 | nil=>exact .nil
 | snoc _ hm ih=>
  obtain ⟨p,c,h | h⟩:=Jbk.mp hm
  ·obtain ⟨e,d,rfl⟩:=h;refine ih.snoc c ?_;rw [<- e, <- d];exact hpl p c
  ·obtain ⟨_,e,d,rfl⟩:=h;refine ih.snoc c ?_;have:=hpl p c;rw [<- e, <- d,this];show _=_+vl (negF p.sz);rw [Jdn];grind
def nmK (s st k:Nat):Str:=⟨(if s=102 then [102+k] else List.replicate st 120++([97+k]++List.replicate (2-st) 120)).toArray⟩
theorem Jce {s st i j:Nat} (h:nmK s st i=nmK s st j):i=j:=by
 unfold nmK at h;injection h with h
 have h:=congrArg Array.toList h;by_cases c:s=102
 ·simp [c] at h;exact h
 ·simp [c] at h;exact h
theorem Jc8 {s st k:Nat} (hs:97<=s/\s<=122) (hst:st<=3) (hk:k<=20):nameS (nmK s st k)=true:=by
 unfold nameS nmK;by_cases c:s=102
 ·simp [Str.length,lowB,c];ac_nf
 ·simp [Str.length,lowB,c];ac_nf
theorem FB.mono {A B C D:Nat} {a:Int × Int} (h:FB A B a) (h1:A<=C) (h2:B<=D):FB C D a:=⟨h.s1.mono h1,h.s2.mono h2,h.b1,h.g1⟩
theorem Jct:FB 1 1 (0,1):=⟨.lit ⋯ ⋯, .lit ⋯ ⋯,by decide,by decide⟩
structure SpD where
 f:Str
 r:Str
 p:Int × Int
structure Grn (st:Nat) (ls:List PD) (sp:List SpD):Prop where
 nm:∀ i p,ls[i]?=some p->p.nm=nmK 112 st i
 fc:∀ i s,sp[i]?=some s->s.f=nmK 102 st i
 ok:∀ p∈ls,POk p
 sub:∀ p∈ls,p.st∈sp.map (·.f)/\p.en∈sp.map (·.f)
 con:∀ s∈sp,Conn ls s.r s.f
 pl:∀ p∈ls, ∀ s∈sp, ∀ t∈sp,s.f=p.st->t.f=p.en->vl t.p=vl s.p+vl p.sz
 fb:∀ s∈sp,FB (134+21*ls.length) (20*ls.length+1) s.p
 good:partsW [] (ls.map Sum.inl)=.ok ls
 tr:Tree ls
theorem Grn.new {st:Nat} {ls:List PD} {sp:List SpD} (h:Grn st ls sp) {n:Nat} (hn:sp.length<=n):nmK 102 st n∉sp.map (·.f):=fun z=>by
 obtain ⟨s,c,e⟩:=mem_map.mp z;obtain ⟨i,b⟩:=List.getElem?_of_mem c;have d:=(List.getElem?_eq_some_iff.mp b).1;have a:s.f=nmK 102 st n:=e;rw [h.fc i s b] at a;have:=Jce a;ac_nf
theorem Grn.nil {st:Nat}:Grn st [] []:=⟨by simp,by simp,by simp,by simp,by simp,by simp,by simp,by rw [map_nil,partsW],fun p a=>by cases a⟩
theorem Grn.inj {st:Nat} {ls:List PD} {sp:List SpD} (h:Grn st ls sp) {s t:SpD} (hs:s∈sp) (ht:t∈sp) (e:s.f=t.f):s=t:=by
 obtain ⟨i,b⟩:=List.getElem?_of_mem hs;obtain ⟨j,a⟩:=List.getElem?_of_mem ht;rw [h.fc i s b,h.fc j t a] at e;have:=Jce e;subst this;rw [b] at a;exact Option.some.inj a
theorem JbC {α : Type} {l:List α} {a x : α} {i:Nat} (h:(l++[a])[i]?=some x):l[i]?=some x\/(i=l.length/\x=a):=by
 by_cases c:i<l.length
 ·rw [List.getElem?_append_left c] at h;exact .inl h
 ·have b:=(List.getElem?_eq_some_iff.mp h).1;rw [length_append,length_singleton] at b;have e:i=l.length:=by ac_nf
  subst e;rw [List.getElem?_append_right (Nat.le_refl _),Nat.sub_self] at h;cases h;exact .inr ⟨rfl,rfl⟩
theorem Grn.face {st:Nat} {ls:List PD} {sp:List SpD} (h:Grn st ls sp):Grn st ls (sp++[⟨nmK 102 st sp.length,nmK 102 st sp.length,(0,1)⟩]) where
 nm:=h.nm
 fc:=fun i s f=>by
  rcases JbC f with f | ⟨rfl,rfl⟩
  ·exact h.fc i s f
  ·rfl
 ok:=h.ok
 sub:=fun p b=>by
  rw [map_append];exact ⟨mem_append.mpr (.inl (h.sub p b).1),mem_append.mpr (.inl (h.sub p b).2)⟩
 con:=fun s a=>by
  rcases mem_append.mp a with a | a
  ·exact h.con s a
  ·rw [mem_singleton.mp a];exact .refl
 pl:=fun p b s a t c d e=>by
  have g:=h.new (Nat.le_refl sp.length);rcases mem_append.mp a with a | a
  ·rcases mem_append.mp c with c | c
   ·exact h.pl p b s a t c d e
   ·rw [mem_singleton.mp c] at e;dsimp only at e;exact absurd (e ▸ (h.sub p b).2) g
  ·rw [mem_singleton.mp a] at d;dsimp only at d;exact absurd (d ▸ (h.sub p b).1) g
 fb:=fun s a=>by
  rcases mem_append.mp a with a | a
  ·exact h.fb s a
  ·rw [mem_singleton.mp a];exact Jct.mono ∅ ∅
 good:=h.good
 tr:=h.tr
theorem Grn.part {st:Nat} {ls:List PD} {sp:List SpD} (h:Grn st ls sp) (hst:st<=3) {s0:SpD} (h0:s0∈sp) {p:PD} {d:Bool} (hnm:p.nm=nmK 112 st ls.length)
  (h1:p.st=if d then s0.f else nmK 102 st sp.length) (h2:p.en=if d then nmK 102 st sp.length else s0.f) (hz:FB 133 20 p.sz) (hok:POk p):Grn st (ls++[p]) (sp++[⟨nmK 102 st sp.length,s0.r,addF s0.p (sgn d p.sz)⟩]):=by
 have u:=h.new (Nat.le_refl sp.length);have F:s0.f∈sp.map (·.f):=mem_map.mpr ⟨s0,h0,rfl⟩;have v:nmK 102 st sp.length≠s0.f:=fun z=>u (z ▸ F);have K:∀ q∈ls,q.st≠q.en:=fun q a=>(h.ok q a).ne;have D:nmK 102 st sp.length∉fcsOf ls:=fun z=>by
  obtain ⟨q,a,B⟩:=mem_flatMap.mp z;simp at B;rcases B with e | e
  ·exact u (e ▸ (h.sub q a).1)
  ·exact u (e ▸ (h.sub q a).2)
 have I:¬ Conn ls p.st p.en:=fun z=>by
  have:=JiH K z hok.ne;cases d with
  | true=>
   rw [if_pos rfl] at h1 h2;exact D (h2 ▸ this.2)
  | false=>
   rw [if_neg ⋯] at h1 h2;exact D (h1 ▸ this.1)
 have O:p.nm∉ls.map (·.nm):=fun z=>by
  obtain ⟨q,a,e⟩:=mem_map.mp z;obtain ⟨i,o⟩:=List.getElem?_of_mem a;have T:=(List.getElem?_eq_some_iff.mp o).1;have k:q.nm=p.nm:=e;rw [h.nm i q o,hnm] at k;have:=Jce k;ac_nf
 have w:=h.fb s0 h0;have A:FB 133 20 (sgn d p.sz):=by
  cases d with
  | true=>exact hz
  | false=>exact hz.neg
 have E:FB (134+21*(ls.length+1)) (20*(ls.length+1)+1) (addF s0.p (sgn d p.sz)):=by
  have:=FB.add (n:=154+21*ls.length) (m:=20*(ls.length+1)+1) w A ∅ ∅ ∅;have e:134+21*(ls.length+1)=154+21*ls.length+1:=by ac_nf
  rw [e];exact this
 have L:vl (addF s0.p (sgn d p.sz))=vl s0.p+vl (sgn d p.sz):=JeI w.b1 A.b1;refine ⟨fun i q o=>?_,fun i s o=>?_,fun q a=>?_,fun q a=>?_,fun s b=>?_,fun q a s b t j l k=>?_,fun s b=>?_,?_,fun q a z=>?_⟩
 ·rcases JbC o with o | ⟨rfl,rfl⟩
  ·exact h.nm i q o
  ·exact hnm
 ·rcases JbC o with o | ⟨rfl,rfl⟩
  ·exact h.fc i s o
  ·rfl
 ·rcases mem_append.mp a with a | a
  ·exact h.ok q a
  ·rw [mem_singleton.mp a];exact hok
 ·rw [map_append];rcases mem_append.mp a with a | a
  ·exact ⟨mem_append.mpr (.inl (h.sub q a).1),mem_append.mpr (.inl (h.sub q a).2)⟩
  ·rw [mem_singleton.mp a,h1,h2];have J:nmK 102 st sp.length∈[(⟨nmK 102 st sp.length,s0.r,addF s0.p (sgn d p.sz)⟩:SpD)].map (·.f):=by simp
   cases d with
   | true=>exact ⟨mem_append.mpr (.inl F),mem_append.mpr (.inr J)⟩
   | false=>exact ⟨mem_append.mpr (.inr J),mem_append.mpr (.inl F)⟩
 ·rcases mem_append.mp b with b | b
  ·exact (h.con s b).mono
  ·rw [mem_singleton.mp b];have P:p∈ls++[p]:=by simp
   have G:∀ q∈ls++[p],q.st≠q.en:=fun q a=>by
    rcases mem_append.mp a with a | a
    ·exact K q a
    ·rw [mem_singleton.mp a];exact hok.ne
   have c:=Jhv P;cases d with
   | true=>
    rw [if_pos rfl] at h1 h2;rw [h1,h2] at c;exact ((h.con s0 h0).mono).trans c
   | false=>
    rw [if_neg ⋯] at h1 h2;rw [h1,h2] at c;exact ((h.con s0 h0).mono).trans (c.symm G)
 ·rcases mem_append.mp a with a | a
  ·rcases mem_append.mp b with b | b
   ·rcases mem_append.mp j with j | j
    ·exact h.pl q a s b t j l k
    ·rw [mem_singleton.mp j] at k;dsimp only at k;exact absurd (k ▸ (h.sub q a).2) u
   ·rw [mem_singleton.mp b] at l;dsimp only at l;exact absurd (l ▸ (h.sub q a).1) u
  ·have a:=mem_singleton.mp a;subst a;cases d with
   | true=>
    rw [if_pos rfl] at h1 h2;rw [h1] at l;rw [h2] at k;have C:s=s0:=by
     rcases mem_append.mp b with b | b
     ·exact h.inj b h0 l
     ·rw [mem_singleton.mp b] at l;dsimp only at l;exact absurd l v
    have H:t.p=addF s0.p (sgn true q.sz):=by
     rcases mem_append.mp j with j | j
     ·exact absurd (k ▸ mem_map.mpr ⟨t,j,rfl⟩) u
     ·rw [mem_singleton.mp j]
    rw [C,H,L];rfl
   | false=>
    rw [if_neg ⋯] at h1 h2;rw [h1] at l;rw [h2] at k;have H:t=s0:=by
     rcases mem_append.mp j with j | j
     ·exact h.inj j h0 k
     ·rw [mem_singleton.mp j] at k;dsimp only at k;exact absurd k v
    have C:s.p=addF s0.p (sgn false q.sz):=by
     rcases mem_append.mp b with b | b
     ·exact absurd (l ▸ mem_map.mpr ⟨s,b,rfl⟩) u
     ·rw [mem_singleton.mp b]
    have N:vl (sgn false q.sz) = - vl q.sz:=Jdn q.sz;rw [H,C,L,N];grind
 ·rw [length_append,length_singleton];rcases mem_append.mp b with b | b
  ·have:=h.fb s b;exact this.mono ∅ ∅
  ·rw [mem_singleton.mp b];exact E
 ·have:=Jd7 (p:=p) ls [] (by rw [nil_append];exact h.good) (by rw [nil_append];exact O) (by rw [nil_append];exact I);rw [nil_append] at this;exact this
 ·rw [filter_append] at z;rcases mem_append.mp a with a | a
  ·have R:∀ x∈ls.filter (fun x=>decide (x.nm≠q.nm)),x∈ls:=fun x g=>(mem_filter.mp g).1;have Q:nmK 102 st sp.length∉fcsOf (ls.filter fun x=>decide (x.nm≠q.nm)):=fun y=>D (by
    obtain ⟨x,g,B⟩:=mem_flatMap.mp y;exact mem_flatMap.mpr ⟨x,R x g,B⟩)
   have S:Conn (ls.filter (fun x=>decide (x.nm≠q.nm))++[p]) q.st q.en:=z.sub fun x g=>by
    rcases mem_append.mp g with g | g
    ·exact mem_append.mpr (.inl g)
    ·exact mem_append.mpr (.inr (mem_filter.mp g).1)
   have:=S.retract (s0:=s0.f) (f:=nmK 102 st sp.length) (by
    cases d with
    | true=>exact .inr ⟨h1,h2⟩
    | false=>exact .inl ⟨h1,h2⟩) Q
   have M:∀ x∈sp.map (·.f),x≠nmK 102 st sp.length:=fun x g y=>u (y ▸ g);rw [if_neg (M _ (h.sub q a).1),if_neg (M _ (h.sub q a).2)] at this;exact h.tr q a this
  ·rw [mem_singleton.mp a] at z;exact I (z.sub fun x g=>by
    rcases mem_append.mp g with g | g
    ·exact (mem_filter.mp g).1
    ·have:=(mem_filter.mp g);have e:=mem_singleton.mp this.1;rw [e] at this;simp at this)
theorem Grn.joined {st:Nat} {ls:List PD} {sp:List SpD} (h:Grn st ls sp) {s t:SpD} (hs:s∈sp) (ht:t∈sp) (e:s.r=t.r):Conn ls s.f t.f:=by
 have a:∀ q∈ls,q.st≠q.en:=fun q b=>(h.ok q b).ne;exact ((h.con s hs).symm a).trans (e ▸ h.con t ht)
def spOf (sp:List SpD) (f:Str):Int × Int:=((sp.find? fun s=>decide (s.f=f)).map (·.p)).getD (0,1)
theorem Grn.pl_at {st:Nat} {ls:List PD} {sp:List SpD} (h:Grn st ls sp) {s:SpD} (hs:s∈sp):spOf sp s.f=s.p:=by
 unfold spOf;cases e:sp.find? fun t=>decide (t.f=s.f) with
 | none=>
  have:=List.find?_eq_none.mp e s hs;simp at this
 | some t=>
  have a:=List.mem_of_find?_eq_some e;have b:=List.find?_some e;have c:t.f=s.f:=by simpa using b
  rw [h.inj a hs c];rfl
theorem Grn.pls {st:Nat} {ls:List PD} {sp:List SpD} (h:Grn st ls sp):∀ p∈ls,vl (spOf sp p.en)=vl (spOf sp p.st)+vl p.sz:=fun p c=>by
 obtain ⟨s,e,a⟩:=mem_map.mp (h.sub p c).1;obtain ⟨t,d,b⟩:=mem_map.mp (h.sub p c).2;have a:s.f=p.st:=a;have b:t.f=p.en:=b;rw [<- a, <- b,h.pl_at e,h.pl_at d];exact h.pl p c s e t d a b
theorem JeJ {t b:Int} (hb:1<=b):vl (Mth.top t b,Mth.bot t b)=(t:Rat)/(b:Rat):=by
 have a:b≠0:=by ac_nf
 have c:=Mth.cross (t:=t) a;have d:=Mth.JcS (t:=t) a;unfold vl;dsimp only;generalize Mth.top t b=x at *;generalize Mth.bot t b=y at *;have g:=Jaz hb;have f:=Jaz d;have e:(x:Rat)*(b:Rat)=(t:Rat)*(y:Rat):=by exact_mod_cast c
 generalize (x:Rat)=x at *;generalize (y:Rat)=y at *;generalize (t:Rat)=t at *;generalize (b:Rat)=b at *;grind
theorem FOk.fb {n:Nat} {a:Int × Int} (h:FOk n a):FB n n a:=⟨h.s1,h.s2,h.b1,h.g1⟩
def mid (pl:Str->Int × Int) (g:GD):Int × Int:=addF (pl g.en) (negF (pl g.st))
def roomF (pl:Str->Int × Int) (g:GD):Int × Int:=if lessF (addF g.hi (negF (mid pl g))) (addF (mid pl g) (negF g.lo)) then addF g.hi (negF (mid pl g)) else addF (mid pl g) (negF g.lo)
section
variable {A B A' B' C D C' D':Nat} {x y z w m a b:Int × Int}
theorem FB.inj (h:FB A B x) (k:FB C D y) (e:vl x=vl y):x=y:=JjB h.b1 k.b1 h.g1 k.g1 e
theorem FB.add' (h:FB A B x) (k:FB C D y):FB (A+D+(C+B)+1) (B+D) (addF x y):=FB.add h k ∅ ∅ (Nat.le_refl _)
theorem FB.vadd (h:FB A B x) (k:FB C D y):vl (addF x y)=vl x+vl y:=JeI h.b1 k.b1
theorem Jj1 (hx:FB A B x) (hy:FB A B y) (hz:FB C D z) (hw:FB A B w) (e:vl y=vl x+vl z):addF (addF x (negF w)) z=addF y (negF w):=by
 refine FB.inj ((hx.add' hw.neg).add' hz) (hy.add' hw.neg) ?_;rw [FB.vadd (hx.add' hw.neg) hz,hx.vadd hw.neg,hy.vadd hw.neg,e,Jdn];grind
theorem JiN (hx:FB A B x):addF x (negF x)=(0,1):=by
 refine FB.inj (hx.add' hx.neg) Jct ?_;rw [hx.vadd hx.neg,Jdn];have : vl (0,1)=0:=by
  unfold vl;grind
 rw [this];grind
theorem JjH (hm:FB A B m) (ha:FB C D a):addF (addF m a) (negF m)=a:=by
 refine FB.inj ((hm.add' ha).add' hm.neg) ha ?_;rw [FB.vadd (hm.add' ha) hm.neg,hm.vadd ha,Jdn];grind
theorem JjI (hm:FB A B m) (hb:FB C D b):addF m (negF (addF m (negF b)))=b:=by
 have a:=hm.add' hb.neg;refine FB.inj (hm.add' a.neg) hb ?_;rw [hm.vadd a.neg,Jdn,hm.vadd hb.neg,Jdn];grind
theorem hi_lo (hm:FB A B m) (ha:FB C D a) (hb:FB C' D' b) (h:0<=vl a+vl b):lessF (addF m a) (addF m (negF b))=false:=by
 have d:=hm.add' ha;have f:=hm.add' hb.neg;have c:=JdC d.b1 f.b1;rw [hm.vadd ha,hm.vadd hb.neg,Jdn] at c;cases e:lessF (addF m a) (addF m (negF b)) with
 | false=>rfl
 | true=>
  have:=c.mp e;grind
theorem Jk2 {pl:Str->Int × Int} {g:GD} (h:∀ f,FB 302 161 (pl f)):FB 464 322 (mid pl g):=FB.add (h _) (h _).neg ⋯ ⋯ ⋯
end
section
variable {α : Type} {f : α->Str} {l:List α} {s st:Nat}
theorem JfC (h:∀ i a,l[i]?=some a->f a=nmK s st i):(l.map f).Nodup:=by
 rw [List.Nodup,List.pairwise_iff_getElem];intro i j c b d e;rw [length_map] at c b;rw [List.getElem_map,List.getElem_map,h i _ (List.getElem?_eq_getElem c),h j _ (List.getElem?_eq_getElem b)] at e;have:=Jce e;ac_nf
end
section
variable {K:W.Frag} {H H':Hp} {x:V}
end
theorem JdQ {H0 H:Hp} {b:Addr} (S:Same H0 H) (h:H b=none):H0 b=none:=by
 cases e:H0 b with
 | none=>rfl
 | some o=>rw [S _ _ e] at h;cases h
theorem Jiw {t b:Int} (ht:0<=t) (hb:1<=b):0<=Mth.top t b:=by
 have c:=Mth.Jel (t:=t) (b:=b) ∅;have d:=Mth.g_pos (a:=t) (b:=b) ∅;have e:Mth.by_ t b=Mth.g t b:=by unfold Mth.by_;rw [if_neg ∅]
 rw [e] at c;rcases Int.lt_or_le (Mth.top t b) 0 with z | z
 ·have:=Int.mul_neg_of_neg_of_pos z d;ac_nf
 ·exact z
inductive Path (ls:List PD):Str->List Pr->Str->Prop
 | nil {a:Str}:Path ls a [] a
 | cons {a g b:Str} {p:PD} {fw:Bool} {w:List Pr}:p∈ls->(a=if fw then p.st else p.en)->(g=if fw then p.en else p.st)->Path ls g w b->Path ls a ((p.nm,fw)::w) b
theorem Path.snoc {ls:List PD} {a f g:Str} {w:List Pr} {p:PD} {fw:Bool} (h:Path ls a w f) (hp:p∈ls) (e1:f=if fw then p.st else p.en) (e2:g=if fw then p.en else p.st):Path ls a (w++[(p.nm,fw)]) g:=by
 induction h with
 | nil=>exact .cons hp e1 e2 .nil
 | cons h1 h2 h3 _ ih=>exact .cons h1 h2 h3 (ih e1)
theorem Jgj {ls:List PD} {a b:Str} {w:List Pr} (h:Jbj ls a w b):Path ls a w b:=by
 induction h with
 | nil=>exact .nil
 | snoc _ hm ih=>
  obtain ⟨p,e,h | h⟩:=Jbk.mp hm
  ·obtain ⟨d,c,rfl⟩:=h;exact ih.snoc e d.symm c.symm
  ·obtain ⟨_,d,c,rfl⟩:=h;exact ih.snoc e d.symm c.symm
theorem JeG {ls:List PD} {a b:Str} {w:List Pr} (h:Path ls a w b):∀ n∈w.map (·.1),n∈ls.map (·.nm):=by
 induction h with
 | nil=>simp
 | cons h1 _ _ _ ih=>
  intro n c;rw [map_cons] at c;rcases mem_cons.mp c with e | e
  ·rw [e];exact mem_map.mpr ⟨_,h1,rfl⟩
  ·exact ih n e
open PySem.Spec PyProof.Rows
theorem JhT {ks:List PD} (h:(ks.map (·.nm)).Nodup) {i:Nat} {p:PD} (hp:ks[i]?=some p):p.nm∉(ks.take i).map (·.nm):=fun z=>by
 obtain ⟨q,d,e⟩:=mem_map.mp z;have e:q.nm=p.nm:=e;have c:=(List.getElem?_eq_some_iff.mp hp).1;obtain ⟨j,a⟩:=List.getElem?_of_mem d;have f:=(List.getElem?_eq_some_iff.mp a).1;rw [length_take] at f;rw [List.getElem?_take_of_lt ∅] at a;have b:=(List.getElem?_eq_some_iff.mp a).1;rw [List.Nodup,List.pairwise_iff_getElem] at h;refine h j i (by rw [length_map];exact b) (by rw [length_map];exact c) ∅ ?_;rw [List.getElem_map,List.getElem_map];rw [List.getElem?_eq_getElem b] at a;rw [List.getElem?_eq_getElem c] at hp;rw [Option.some.inj a,Option.some.inj hp];exact e
theorem ForR.byN {lo:Int} {n:Nat} {g:TG} {tb:TS} {D:Ends} {σ : St} {H:Hp} (Pv:Nat->St->Hp->Prop) (h0:Pv 0 σ H)
  (hs:∀ i σ H,i<n->Pv i σ H->∀ N:St->Hp->Prop,(∀ σ' H',Pv (i+1) σ' H'->N σ' H')->g (.int (lo+i)) σ H fun σ2 H2=>tb { D with nx:=N,ct:=N,bk:=D.nx } σ2 H2) (hd:∀ σ H,Pv n σ H->D.nx σ H):ForR lo n g tb D σ H :=
 ForR.by Pv h0 (fun i σ H b a=>hs i σ H b a _ fun _ _ h=>h) hd
theorem ForA.byLN {K:W.Frag} {a:Addr} {xs:List V} {g:TG} {tb:TS} {D:Ends} {σ : St} {H:Hp} (hA:SqL K H a xs) (Pv:Nat->St->Hp->Prop) (h0:Pv 0 σ H) (hl:∀ i σ H',Pv i σ H'->SqL K H' a xs)
  (hs:∀ i x σ H,xs[i]?=some x->Pv i σ H->∀ N:St->Hp->Prop,(∀ σ' H',Pv (i+1) σ' H'->N σ' H')->g x σ H fun σ2 H2=>tb { D with nx:=N,ct:=N,bk:=D.nx } σ2 H2) (hd:∀ σ H,Pv xs.length σ H->D.nx σ H):ForA K a g tb D σ H :=
 ForA.byL hA Pv h0 hl (fun i x σ H b c=>hs i x σ H b c _ fun _ _ h=>h) hd
structure Nms (ls:List PD) (xs:List (SpD × List Str)):Prop where
 nd:∀ x∈xs,x.2.Nodup
 sub:∀ x∈xs, ∀ n∈x.2,n∈ls.map (·.nm)
 stp:∀ p∈ls, ∀ x∈xs, ∀ y∈xs,x.1.f=p.st->y.1.f=p.en->(∀ n,n≠p.nm->(n∈x.2↔n∈y.2))/\(p.nm∈x.2↔p.nm∉y.2)
 fb:∀ x∈xs,FB (134+5*ls.length) (4*ls.length+1) x.1.p
 pb:∀ p∈ls,FB 133 4 p.sz/\FB 100 6 p.mo
 ln:∀ x∈xs,x.2.length<=ls.length
theorem Nms.nil:Nms [] []:=⟨by simp,by simp,by simp,by simp,by simp,by simp⟩
theorem Nms.face {st:Nat} {ls:List PD} {xs:List (SpD × List Str)} (h:Nms ls xs) (hG:Grn st ls (xs.map (·.1))):Nms ls (xs++[(⟨nmK 102 st (xs.map (·.1)).length,nmK 102 st (xs.map (·.1)).length,(0,1)⟩,[])]):=by
 have f:=hG.new (Nat.le_refl _);refine ⟨fun x a=>?_,fun x a=>?_,fun p e x a y b c d=>?_,fun x a=>?_,h.pb,fun x a=>?_⟩
 ·rcases mem_append.mp a with a | a
  ·exact h.nd x a
  ·rw [mem_singleton.mp a];exact .nil
 ·rcases mem_append.mp a with a | a
  ·exact h.sub x a
  ·rw [mem_singleton.mp a];intro n g;cases g
 ·rcases mem_append.mp a with a | a
  ·rcases mem_append.mp b with b | b
   ·exact h.stp p e x a y b c d
   ·rw [mem_singleton.mp b] at d;dsimp only at d;exact absurd (d ▸ (hG.sub p e).2) f
  ·rw [mem_singleton.mp a] at c;dsimp only at c;exact absurd (c ▸ (hG.sub p e).1) f
 ·rcases mem_append.mp a with a | a
  ·exact h.fb x a
  ·rw [mem_singleton.mp a];exact Jct.mono ∅ ∅
 ·rcases mem_append.mp a with a | a
  ·exact h.ln x a
  ·rw [mem_singleton.mp a];exact Nat.zero_le _
theorem Nms.part {st:Nat} {ls:List PD} {xs:List (SpD × List Str)} (h:Nms ls xs) (hG:Grn st ls (xs.map (·.1))) {s0:SpD × List Str} (h0:s0∈xs) {p:PD} {d:Bool} (hnm:p.nm=nmK 112 st ls.length)
  (h1:p.st=if d then s0.1.f else nmK 102 st (xs.map (·.1)).length) (h2:p.en=if d then nmK 102 st (xs.map (·.1)).length else s0.1.f) (hz:FB 133 4 p.sz) (hm:FB 100 6 p.mo) :
  Nms (ls++[p]) (xs++[(⟨nmK 102 st (xs.map (·.1)).length,s0.1.r,addF s0.1.p (sgn d p.sz)⟩,s0.2++[p.nm])]):=by
 have D:=hG.new (Nat.le_refl _);have t:∀ x∈xs,x.1.f=s0.1.f->(∀ n,n∈x.2↔n∈s0.2):=fun x c e=>by
  obtain ⟨i,u⟩:=List.getElem?_of_mem c;obtain ⟨j,w⟩:=List.getElem?_of_mem h0;have J:=hG.fc i x.1 (by rw [List.getElem?_map,u];rfl);have L:=hG.fc j s0.1 (by rw [List.getElem?_map,w];rfl);rw [J,L] at e;have:=Jce e;subst this;rw [u] at w;rw [Option.some.inj w];exact fun _=>Iff.rfl
 have H:p.nm∉ls.map (·.nm):=fun z=>by
  obtain ⟨q,g,e⟩:=mem_map.mp z;obtain ⟨i,u⟩:=List.getElem?_of_mem g;have M:=(List.getElem?_eq_some_iff.mp u).1;have l:q.nm=p.nm:=e;rw [hG.nm i q u,hnm] at l;have:=Jce l;ac_nf
 have C:p.nm∉s0.2:=fun z=>H (h.sub s0 h0 _ z);have B:FB 133 4 (sgn d p.sz):=by
  cases d with
  | true=>exact hz
  | false=>exact hz.neg
 refine ⟨fun x c=>?_,fun x c n o=>?_,fun q g x c y k s l=>?_,fun x c=>?_,fun q g=>?_,fun x c=>?_⟩
 ·rcases mem_append.mp c with c | c
  ·exact h.nd x c
  ·rw [mem_singleton.mp c];show (s0.2++[p.nm]).Nodup;rw [nodup_append];refine ⟨h.nd s0 h0,by simp,fun a K b I e=>?_⟩;rw [mem_singleton.mp I] at e;exact C (e ▸ K)
 ·rw [map_append];rcases mem_append.mp c with c | c
  ·exact mem_append.mpr (.inl (h.sub x c n o))
  ·rw [mem_singleton.mp c] at o;rcases mem_append.mp o with o | o
   ·exact mem_append.mpr (.inl (h.sub s0 h0 n o))
   ·rw [mem_singleton.mp o];simp
 ·rcases mem_append.mp g with g | g
  ·rcases mem_append.mp c with c | c
   ·rcases mem_append.mp k with k | k
    ·exact h.stp q g x c y k s l
    ·rw [mem_singleton.mp k] at l;dsimp only at l;exact absurd (l ▸ (hG.sub q g).2) D
   ·rw [mem_singleton.mp c] at s;dsimp only at s;exact absurd (s ▸ (hG.sub q g).1) D
  ·have g:=mem_singleton.mp g;subst g;have v:∀ z∈xs,z.1.f≠nmK 102 st (xs.map (·.1)).length:=fun z A e=>D (e ▸ mem_map.mpr ⟨z.1,mem_map.mpr ⟨z,A,rfl⟩,rfl⟩);have G:∀ n,n≠q.nm->(n∈s0.2↔n∈s0.2++[q.nm]):=fun n o=>by simp [o]
   cases d with
   | true=>
    rw [if_pos rfl] at h1 h2;rw [h1] at s;rw [h2] at l;rcases mem_append.mp c with c | c
    ·rcases mem_append.mp k with k | k
     ·exact absurd l (v y k)
     ·rw [mem_singleton.mp k];have F:=t x c s;refine ⟨fun n o=>(F n).trans (G n o),?_⟩;rw [F];simp [C]
    ·rw [mem_singleton.mp c] at s;dsimp only at s;exact absurd s.symm (v s0 h0)
   | false=>
    rw [if_neg ⋯] at h1 h2;rw [h1] at s;rw [h2] at l;rcases mem_append.mp k with k | k
    ·rcases mem_append.mp c with c | c
     ·exact absurd s (v x c)
     ·rw [mem_singleton.mp c];have E:=t y k l;refine ⟨fun n o=>(G n o).symm.trans (E n).symm,?_⟩;rw [E];simp [C]
    ·rw [mem_singleton.mp k] at l;dsimp only at l;exact absurd l.symm (v s0 h0)
 ·rw [length_append,length_singleton];rcases mem_append.mp c with c | c
  ·exact (h.fb x c).mono ∅ ∅
  ·rw [mem_singleton.mp c];have:=FB.add (n:=138+5*ls.length) (m:=4*(ls.length+1)+1) (h.fb s0 h0) B ∅ ∅ ∅;exact this.mono ∅ ∅
 ·rcases mem_append.mp g with g | g
  ·exact h.pb q g
  ·rw [mem_singleton.mp g];exact ⟨hz,hm⟩
 ·rw [length_append,length_singleton];rcases mem_append.mp c with c | c
  ·have:=h.ln x c;ac_nf
  ·rw [mem_singleton.mp c];have:=h.ln s0 h0;show (s0.2++[p.nm]).length<=_;rw [length_append,length_singleton];ac_nf
theorem Jiq {st:Nat} {ls:List PD} {xs:List (SpD × List Str)} (hG:Grn st ls (xs.map (·.1))) {x y:SpD × List Str} (hx:x∈xs) (hy:y∈xs) (e:x.1.f=y.1.f):x=y:=by
 obtain ⟨i,b⟩:=List.getElem?_of_mem hx;obtain ⟨j,a⟩:=List.getElem?_of_mem hy;have c:=hG.fc i x.1 (by rw [List.getElem?_map,b];rfl);have d:=hG.fc j y.1 (by rw [List.getElem?_map,a];rfl);rw [c,d] at e;have:=Jce e;subst this;rw [b] at a;exact Option.some.inj a
theorem JiX {st:Nat} {ls:List PD} {xs:List (SpD × List Str)} (hG:Grn st ls (xs.map (·.1))) (hM:Nms ls xs) {a b:Str} {w:List Pr} (h:Path ls a w b):(w.map (·.1)).Nodup->∀ x∈xs, ∀ y∈xs,x.1.f=a->y.1.f=b->∀ n,n∈w.map (·.1)↔¬ (n∈x.2↔n∈y.2):=by
 induction h with
 | nil=>
  intro _ x k y o l r n;have:=Jiq hG k o (l.trans r.symm);subst this;simp
 | @cons a g b p fw w hp h1 h2 _ ih=>
  intro m x k y o l r n;rw [map_cons,nodup_cons] at m;obtain ⟨z,d,t⟩:∃ z∈xs,z.1.f=g:=by
   have j:=hG.sub p hp;have : g∈(xs.map (·.1)).map (·.f):=by
    rw [h2];cases fw
    ·exact j.1
    ·exact j.2
   obtain ⟨s,j,e⟩:=mem_map.mp this;obtain ⟨z,d,rfl⟩:=mem_map.mp j;exact ⟨z,d,e⟩
  have i:=ih m.2 z d y o t r n;have u:(∀ n,n≠p.nm->(n∈x.2↔n∈z.2))/\(p.nm∈x.2↔p.nm∉z.2):=by
   rw [<- l] at h1;rw [<- t] at h2;cases fw with
   | true=>
    rw [if_pos rfl] at h1 h2;exact hM.stp p hp x k z d h1 h2
   | false=>
    rw [if_neg ⋯] at h1 h2;have:=hM.stp p hp z d x k h2 h1;exact ⟨fun n v=>(this.1 n v).symm,by have:=this.2;grind⟩
  rw [map_cons,mem_cons];by_cases c:n=p.nm
  ·subst c;have q:¬ p.nm∈w.map (·.1):=m.1;have:=u.2;grind
  ·have:=u.1 n c;grind
def NmOk (xs:List (SpD × List Str)) (e:GD × List Str):Prop:=e.2.Nodup/\∀ x∈xs, ∀ y∈xs,x.1.f=e.1.st->y.1.f=e.1.en->∀ n,n∈e.2↔¬ (n∈x.2↔n∈y.2)
theorem Jjd {st:Nat} {ls:List PD} {xs:List (SpD × List Str)} (hG:Grn st ls (xs.map (·.1))) (hM:Nms ls xs) {e:GD × List Str} (he:NmOk xs e) (h1:e.1.st∈(xs.map (·.1)).map (·.f)) (h2:e.1.en∈(xs.map (·.1)).map (·.f)) {w:List Pr} (h:Path ls e.1.st w e.1.en) (nd:(w.map (·.1)).Nodup):e.2.Perm (w.map (·.1)):=by
 obtain ⟨s,i,d⟩:=mem_map.mp h1;obtain ⟨x,a,rfl⟩:=mem_map.mp i;obtain ⟨t,g,b⟩:=mem_map.mp h2;obtain ⟨y,c,rfl⟩:=mem_map.mp g;refine (List.perm_ext_iff_of_nodup he.1 nd).mpr fun n=>?_;rw [he.2 x a y c d b n,JiX hG hM h nd x a y c d b n]
def sm (f:Str->Rat):List Str->Rat
 | []=>0
 | n::r=>f n+sm f r
theorem JkA {f:Str->Rat} {a b:List Str} (h:a.Perm b):sm f a=sm f b:=by
 induction h with
 | nil=>rfl
 | cons _ _ ih=>simp only [sm,ih]
 | swap x y l=>
  simp only [sm];grind
 | trans _ _ ih1 ih2=>exact ih1.trans ih2
theorem Jip {f:Str->Rat} (n:Str):∀ a:List Str,sm f (a++[n])=sm f a+f n
 | []=>by simp only [nil_append,sm];grind
 | m::a=>by
  rw [cons_append];simp only [sm,Jip n a];grind
def prodI:List Int->Int
 | []=>1
 | f::r=>f*prodI r
theorem Jb8 (f:Int):∀ fs:List Int,prodI (fs++[f])=prodI fs*f
 | []=>by simp [prodI]
 | g::fs=>by rw [cons_append];simp only [prodI,Jb8 f fs];rw [Int.mul_assoc]
structure Scl (b:Int) (fs:List Int):Prop where
 b1:1<=b
 f1:∀ f∈fs,1<=f
 pr:prodI fs=b
theorem Jeb:∀ {fs:List Int},(∀ f∈fs,1<=f)->1<=prodI fs
 | [],_=>by simp [prodI]
 | f::fs,h=>by
  have h1:=h f (by simp);have h2:=Jeb (fs:=fs) fun g hg=>h g (by simp [hg]);have:=Int.mul_pos (show 0<f by ac_nf) (show 0<prodI fs by ac_nf);simp only [prodI];ac_nf
theorem JfJ:∀ (as bs:List Int),prodI (as++bs)=prodI as*prodI bs
 | [],bs=>by simp [prodI]
 | a::as,bs=>by rw [cons_append];simp only [prodI,JfJ as bs];rw [Int.mul_assoc]
theorem Jif {a b:Int} (ha:1<=a) (hb:1<=b):a<=a*b/\b<=a*b:=by
 have c:=Int.mul_le_mul_of_nonneg_left hb (show 0<=a by ac_nf);have d:=Int.mul_le_mul_of_nonneg_right ha (show 0<=b by ac_nf);constructor <;> ac_nf
theorem Scl.take {b:Int} {fs:List Int} (h:Scl b fs) (i:Nat):1<=prodI (fs.take i)/\prodI (fs.take i)<=b:=by
 have d:=Jeb (fs:=fs.take i) fun f a=>h.f1 f (List.mem_of_mem_take a);have c:=Jeb (fs:=fs.drop i) fun f a=>h.f1 f (List.mem_of_mem_drop a);have e:=JfJ (fs.take i) (fs.drop i);rw [List.take_append_drop,h.pr] at e;have:=Jif d c;ac_nf
theorem Scl.mem {b f:Int} {fs:List Int} (h:Scl b fs) (hf:f∈fs):f<=b:=by
 obtain ⟨i,a⟩:=List.getElem?_of_mem hf;have c:=(List.getElem?_eq_some_iff.mp a).1;have t:=h.take (i+1);rw [take_succ,a] at t;have e:=Jb8 f (fs.take i);have:=Jif (h.take i).1 (h.f1 f hf);simp only [Option.toList_some] at t;ac_nf
theorem sz_le {n:Nat} {a b:Int} (h:Mth.Sz n b) (h0:0<=a) (h1:a<=b):Mth.Sz n a:=Nat.lt_of_le_of_lt (by ac_nf:a.natAbs<=b.natAbs) h
theorem Scl.nil:Scl 1 []:=⟨by decide,by simp,rfl⟩
theorem Scl.snoc {b f:Int} {fs:List Int} (h:Scl b fs) (hf:1<=f):Scl (b*f) (fs++[f]):=⟨by
 have:=Int.mul_pos (show 0<b by have:=h.b1;ac_nf) (show 0<f by ac_nf);ac_nf,fun g a=>by
 rcases mem_append.mp a with a | a
 ·exact h.f1 g a
 ·rw [mem_singleton.mp a];exact hf,by rw [Jb8,h.pr]⟩
structure LInv (n:Int × Int) (q:Int) (t:Int × Int):Prop where
 b1:1<=t.2
 g1:Mth.g t.1 t.2=1
 dv:t.2∣n.2
 cr:t.1*n.2=n.1*q*t.2
 ab:t.1.natAbs<=n.1.natAbs*q.natAbs
theorem LInv.nil {n:Int × Int} (h:1<=n.2) (g:Mth.g n.1 n.2=1):LInv n 1 n:=⟨h,g,Int.dvd_refl _,by rw [Int.mul_one],by simp⟩
theorem LInv.step {n t:Int × Int} {q f:Int} (h:LInv n q t) (hf:1<=f):LInv n (q*f) (t.1*f.fdiv (Mth.g t.2 f),t.2.fdiv (Mth.g t.2 f)):=by
 have v:0<Mth.g t.2 f:=Mth.g_pos ∅;have k:=Mth.Jcu t.2 f;have i:=Mth.JbH t.2 f;have j:=Mth.JaJ k ∅;have p:=Mth.JaJ i ∅;have m:=Mth.JcN (b:=t.2) (d:=f) rfl ∅;have l:=Mth.JbW k ∅ h.b1;have u:=Mth.JdP i ∅;have e:t.2.fdiv (Mth.g t.2 f)∣t.2:=⟨_,j.symm⟩;have o:Int.gcd t.1 (t.2.fdiv (Mth.g t.2 f))=1:=Mth.JaT (Mth.Jb2 (Mth.JaT (Mth.Jcc h.g1)) e);have a:=h.cr;have c:=h.ab;generalize t.2.fdiv (Mth.g t.2 f)=r at *;generalize f.fdiv (Mth.g t.2 f)=f' at *;generalize Mth.g t.2 f=s at *;refine ⟨l,Mth.JdK (Mth.JaT (Mth.JbV (Mth.JaT o) m)),Int.dvd_trans e h.dv,?_,?_⟩
 ·show t.1*f'*n.2=n.1*(q*f)*r;have : t.1*f'*n.2=(t.1*n.2)*f':=by rw [Int.mul_assoc,Int.mul_comm f', <- Int.mul_assoc]
  rw [this,a, <- j, <- p];simp only [Int.mul_assoc,Int.mul_comm,Int.mul_left_comm]
 ·show (t.1*f').natAbs<=n.1.natAbs*(q*f).natAbs;rw [Int.natAbs_mul,Int.natAbs_mul, <- Nat.mul_assoc];exact Nat.mul_le_mul c u
theorem LInv.all {n:Int × Int} {b:Int} (h:1<=n.2) (hd:b.fmod n.2=0):LInv n b (n.1*b.fdiv n.2,1):=by
 have a:n.2∣b:=by
  rw [Int.fmod_eq_emod_of_nonneg _ ∅] at hd;exact Int.dvd_of_emod_eq_zero hd
 have e:=Mth.JaJ a ∅;have c:=Mth.JdP a h;refine ⟨Int.le_refl _,by unfold Mth.g;simp,Int.one_dvd _,?_,?_⟩
 ·show n.1*b.fdiv n.2*n.2=n.1*b*1;rw [Int.mul_assoc,e,Int.mul_one]
 ·show (n.1*b.fdiv n.2).natAbs<=_;rw [Int.natAbs_mul];exact Nat.mul_le_mul_left _ c
theorem LInv.vl {n t:Int × Int} {q:Int} (h:LInv n q t) (hn:1<=n.2):vl t=vl n*(q:Rat):=by
 have f:=Jaz hn;have g:=Jaz h.b1;have e:(t.1:Rat)*(n.2:Rat)=(n.1:Rat)*(q:Rat)*(t.2:Rat):=by exact_mod_cast h.cr
 unfold L2.vl;generalize (t.1:Rat)=a at *;generalize (t.2:Rat)=b at *;generalize (n.1:Rat)=c at *;generalize (n.2:Rat)=d at *;generalize (q:Rat)=q at *;grind
theorem LInv.fb {n t:Int × Int} {q:Int} {A B C:Nat} (h:LInv n q t) (hn:FB A B n) (hq:Mth.Sz C q):FB (A+C) B t:=by
 refine ⟨?_,?_,h.b1,h.g1⟩
 ·refine Nat.lt_of_le_of_lt h.ab ?_;have:=hn.s1.mul hq;unfold Mth.Sz at this;rw [Int.natAbs_mul] at this;exact this
 ·refine Nat.lt_of_le_of_lt ?_ hn.s2;have:=Int.natAbs_dvd_natAbs.mpr h.dv;exact Nat.le_of_dvd (by have:=hn.b1;ac_nf) this
theorem scaled {x y q:Rat} (h:0<q):x*q<=y*q↔x<=y:=by
 constructor
 ·intro a;refine Rat.not_lt.mp fun z=>?_;have:=Rat.mul_lt_mul_of_pos_right z h;exact Rat.not_lt.mpr a this
 ·intro a;exact Rat.mul_le_mul_of_nonneg_right a (Rat.le_of_lt h)
section
variable {X:Cx} {tg:Expr}
theorem Jh6 {iter elt tst:Expr} {scope:Scope} {pos:Pos} {own:List Str} {cs:List (Nat × Str)} {wi:TI} {g:TG} {te:TE} {tt:TT} (hc:X.calm=true) (hi:PI X tg iter wi)
  (hg:∀ fp s2 H2 C,PG (X.inc (own++cs.map (·.2)) scope (Jbq X.env.cells scope.names []) fp s2 H2 C) tg g) (ht:∀ fp s2 H2 C,PT (X.inc (own++cs.map (·.2)) scope (Jbq X.env.cells scope.names []) fp s2 H2 C) tst tt) (he:∀ fp s2 H2 C,PE (X.inc (own++cs.map (·.2)) scope (Jbq X.env.cells scope.names []) fp s2 H2 C) elt te)
  (hfree:∀ p∈scope.names,p.2=.free->X.env.scope.names.lookup p.1=some .cell) (hcell:∀ y∈scope.names,y.2≠.cell) (hkind:scope.kind=.function) (hnames:∀ y∈scope.names,y.2=.local->scope.names.lookup y.1=some .local)
  (hcs:∀ p∈cs,X.N[p.1]?=some p.2/\X.env.scope.names.lookup p.2=some .cell/\(relabel scope X.env).names.lookup p.2=some .cell)
  (hs:∀ x,foldedSetIterable iter X.env x=pure x:=by intro _;rfl):PE X (.ListComp elt [⟨tg,iter,[tst],0⟩] scope pos) (JfP own.length cs wi g tt te):=by
 intro a s σ H Q I h;have d:∀ p∈scope.names,p.2=.free->∃ c,X.env.cells.lookup p.1=some c:=fun p E K=>I.ok.has p.1 (.inl (hfree p E K));have l:=JcM (cells:=X.env.cells) scope.names [] (fun _ _ z=>by simp at z) d;rw [eval_ListComp];refine wpAny_comprehension_free (use:=none) rfl hs (JfX d) hkind hnames (thn (hi a s σ H _ I h) fun v Y B=>thn B fun M s2 F=>?_);obtain ⟨S,fp,O,J,H2,rfl,I2,T,j,L,W,⟨V,o⟩,b⟩:=F;refine JdO (QN:=fun n k=>∀ p,k p=none->Q (.ref p) (upd k p (.lst n))) (RR:=fun m C=>compPost (model X.prog X.w) X.A X.xe none (EP X a σ Q) m C) hc hg ht he hcell hkind l (fun z u=>JcL scope.names [] z (.inr (JhF hcell u))) hcs I2 T j L o b ?_;intro D' C Z k n i D P R G U q;obtain ⟨t,e⟩:=G;exact ⟨t,e,fun r f=>⟨.ref D',_,i r f,rfl,q D' D⟩⟩
end
def notStar:Expr->Bool
 | .Starred _ _=>false
 | _=>true
theorem Jaf {e:Expr} {es:List Expr} {env:Env} (h:notStar e=true):starEach (e::es) env=(false,eval e env)::starEach es env:=by
 cases e <;> first | rfl | (simp [notStar] at h)
theorem Jaa {X:Cx} {e:Expr} {es:List Expr} {te:TE} {t:TA} (ha:PE X e te) (hr:PA X es t) (hs:notStar e=true:=by rfl):PA X (e::es) (tCons te t):=Jh3 ha hr (Jaf hs)
theorem Jcv {X:Cx} {i:Int} {j pos} {es:List Expr} {t:TA} (hr:PA X es t):PA X (.Constant (.int i) j pos::es) (tCons (tC (.int i)) t):=Jh3 Jac hr (by rfl)
section
variable {K:W.Frag} {H H':Hp} {x:V} {a c:Addr}
def Same2 (a c:Addr) (H H':Hp):Prop:=∀ b u,b≠a->b≠c->H b=some u->H' b=some u
theorem Same2.trans {H'':Hp} (S:Same2 a c H H') (S':Same2 a c H' H''):Same2 a c H H'':=fun b u e d h=>S' b u e d (S b u e d h)
def FLV (K:W.Frag) (H:Hp) (s:Int × Int) (x:V):Prop:=FrV K H x s.1 s.2
theorem FLV.sameT {s:Int × Int} (T:SameT H H') (h:FLV K H s x):FLV K H' s x:=FrV.sameT T h
end
theorem Jh5:∀ {ls:List PD} {p q:PD},(ls.map (·.nm)).Nodup->p∈ls->q∈ls->p.nm=q.nm->p=q
 | [],_,_,_,hp,_,_=>by cases hp
 | a::ls,p,q,hn,hp,hq,e=>by
  rw [map_cons,nodup_cons] at hn;rcases mem_cons.mp hp with h1 | h1 <;> rcases mem_cons.mp hq with h2 | h2
  ·rw [h1,h2]
  ·subst h1;exact absurd (e ▸ mem_map.mpr ⟨q,h2,rfl⟩) hn.1
  ·subst h2;exact absurd (e ▸ mem_map.mpr ⟨p,h1,rfl⟩) hn.1
  ·exact Jh5 hn.2 h1 h2 e
section
variable {X:Cx}
theorem JgY:∀ {xs:List V} {us:List Value},xs.length=us.length->(∀ (i:Nat) x u,xs[i]?=some x->us[i]?=some u->RelV x u)->Vals xs us
 | [],[],_,_=>.nil
 | [],_::_,h,_=>by simp at h
 | _::_,[],h,_=>by simp at h
 | x::xs,u::us,h,k=>.cons (k 0 x u rfl rfl) (JgY (by simpa using h) fun i x u h1 h2=>k (i+1) x u (by simpa using h1) (by simpa using h2))
def Jlj (xs:List V) (H:Hp) (Q:VK):Prop:=∃ (d:Addr) (kvs:List (Key × V)) (ss:List Str),xs=[.ref d]/\H d=some (.dK kvs)/\kvs.map (·.1)=ss.map Sum.inr/\∀ l,H l=none->Q (.ref l) (upd H l (.lst (ss.map V.str)))
theorem Jg1 (hc:X.calm=true):CallR X (.type "list") Jlj:=by
 intro G s σ H xs us Q I r h;obtain ⟨d,kvs,l,rfl,e,B,q⟩:=h;obtain ⟨u,rfl,R⟩:=vals1 r;cases R;obtain ⟨K,J,j,f,E⟩:=dk_of I.hok e;obtain ⟨ep,D⟩:=E.dictAt;have P:l.length=kvs.length:=by simpa using (congrArg List.length B).symm
 have T:j.length=kvs.length:=f.length.symm;have g:j.map (·.1)=kvs.map (·.1):=by
  clear E D B P T K q e;induction f with
  | nil=>rfl
  | cons n _ ih=>
   rw [map_cons,map_cons,ih,n.1]
 refine W.kdl_call (W.kdl_dict (knd:=Jaw X.prog X.w) (d:=d) (kvs:=j) (ep:=ep) J) (I.ok.hd hc) D ∅ fun N S a Y k L c=>?_;have A:Vals (l.map V.str) a.toList:=JgY (by have n:=c.1;have O:a.toList.length=a.size:=Array.length_toList;rw [length_map,O,n];ac_nf) fun i x v F A=>by
  rw [List.getElem?_map] at F;obtain ⟨z,p,rfl⟩:=Option.map_eq_some_iff.mp F;obtain ⟨C,Z,M,U⟩:=c.2 i v (by rw [<- Array.getElem?_toList];exact A);have m:(j.map (·.1))[i]?=some C:=by rw [List.getElem?_map,M];rfl
  rw [g,B,List.getElem?_map,p] at m;have m:Sum.inr z=C:=Option.some.inj m;subst m;rcases JaR (show keyIs (Sum.inr z) v=true from U) with ⟨b,hb,_⟩ | ⟨y,t,hy,rfl⟩
  ·cases hb
  ·cases hy;exact ⟨t,rfl⟩
 exact ⟨.ref _,_,I.laid (t':=S) (o:=.lst (l.map V.str)) k (Nat.le_refl _) (show ObjOk X.prog X.w _ N _ (.lst (l.map V.str)) from ⟨by rw [length_map];ac_nf,a.toList,Y,A,by rw [Array.toArray_toList];exact L⟩),rfl,q _ (I.hok.fresh (Nat.le_refl _))⟩
end
section
variable {prog:Program} {w:World} {A:Around} {E:Value->Shared->Prop} {s:Shared}
end
section
variable {X:Cx}
end
def ext (M:Str->Option Str) (f:Str):Str:=(M f).getD f
section
variable {ls:List PD} {M:Str->Option Str} {a b f g:Str} {p:PD}
end
theorem JhP (kvs:List (Key × V)) (k:Key) (v:V):(putK kvs k v).map (·.1)=if (valV kvs k).isSome=true then kvs.map (·.1) else kvs.map (·.1)++[k]:=by
 unfold putK;rw [Jcs];split
 ·rw [map_map];refine List.map_congr_left fun a _=>?_;show (if a.1=k then (a.1,v) else a).1=a.1;split <;> rfl
 ·rw [map_append];rfl
theorem JhO {kvs:List (Key × V)} {k:Key}:(valV kvs k).isSome=true↔k∈kvs.map (·.1):=by
 rw [<- Jcs,List.any_eq_true];constructor
 ·rintro ⟨c,a,b⟩;exact mem_map.mpr ⟨c,a,by simpa using b⟩
 ·intro h;obtain ⟨c,a,b⟩:=mem_map.mp h;exact ⟨c,a,by simpa using b⟩
section
variable {K:W.Frag} {H H':Hp}
def cut (p:Addr) (H:Hp):Hp:=fun b=>if b=p then none else H b
theorem JbG {p b:Addr} (h:b≠p):cut p H b=H b:=if_neg h
theorem Jc4 {p:Addr}:Same (cut p H) H:=fun b u h=>by
 unfold cut at h;split at h
 ·cases h
 ·exact h
theorem Same.cut {p:Addr} (S:Same H H'):Same (cut p H) (cut p H'):=fun b u h=>by
 have e:b≠p:=fun z=>by rw [z] at h;unfold L2.cut at h;rw [if_pos rfl] at h;cases h
 rw [JbG e] at h ⊢;exact S _ _ h
theorem Jf0 {p:Addr} {o:HO}:cut p (upd H p o)=cut p H:=by
 funext b
 by_cases c:b=p
 ·rw [c];unfold cut;rw [if_pos rfl,if_pos rfl]
 ·rw [JbG c,JbG c,Jag c]
theorem SqT.cut {p a:Addr} {ys xs:List V} (hp:H p=some (.lst ys)) (h:SqT K H a xs):SqT K (cut p H) a xs:=by
 rcases h with (h | ⟨o,h⟩) | h
 ·exact .inl (.inl (by rw [JbG (fun z=>by rw [z,hp] at h;cases h)];exact h))
 ·exact .inl (.inr ⟨o,by rw [JbG (fun z=>by rw [z,hp] at h;cases h)];exact h⟩)
 ·exact .inr h
theorem FrV.cut {p:Addr} {ys:List V} {v:V} {a b:Int} (hp:H p=some (.lst ys)) (h:FrV K H v a b):FrV K (cut p H) v a b:=by
 obtain ⟨q,e,h⟩:=h;exact ⟨q,e,h.cut hp⟩
end
def Jev (H H':Hp):Prop:=∀ b u,(∀ xs,u≠.lst xs)->H b=some u->H' b=some u
theorem Jev.trans {H H1 H2:Hp} (a:Jev H H1) (b:Jev H1 H2):Jev H H2:=fun c u n h=>b c u n (a c u n h)
theorem Jev.t {H H':Hp} (S:Jev H H'):SameT H H':=fun b u t h=>S b u (fun a z=>by rw [z] at t;cases t) h
section
variable {a b:Str->Rat}
theorem sm_le:∀ {l:List Str},(∀ q∈l,a q<=b q)->sm a l<=sm b l
 | [],_=>Rat.le_refl
 | n::l,h=>by
  have h1:=h n (by simp);have h2:=sm_le (l:=l) fun q hq=>h q (by simp [hq]);simp only [sm];grind
theorem sm_lt:∀ {l:List Str} {n:Str},(∀ q∈l,a q<=b q)->n∈l->a n<b n->sm a l<sm b l
 | [],_,_,hn,_=>by cases hn
 | m::l,n,h,hn,lt=>by
  have h1:=h m (by simp);have h2:=sm_le (l:=l) fun q hq=>h q (by simp [hq]);simp only [sm];rcases mem_cons.mp hn with e | hn
  ·subst e;grind
  ·have:=sm_lt (fun q hq=>h q (by simp [hq])) hn lt;grind
theorem Jbe:∀ {l:List Str},(∀ q∈l,a q=b q)->sm a l=sm b l
 | [],_=>rfl
 | n::l,h=>by simp only [sm,h n (by simp),Jbe (l:=l) fun q hq=>h q (by simp [hq])]
theorem JcV:∀ {l:List Str},(∀ q∈l,a q=0)->sm a l=0
 | [],_=>rfl
 | n::l,h=>by
  simp only [sm,h n (by simp),JcV (l:=l) fun q hq=>h q (by simp [hq])];grind
theorem sm_nn:∀ {l:List Str},(∀ q∈l,0<=a q)->0<=sm a l
 | [],_=>Rat.le_refl
 | n::l,h=>by
  have h1:=h n (by simp);have h2:=sm_nn (l:=l) fun q hq=>h q (by simp [hq]);simp only [sm];grind
theorem Jeh (c:Rat):∀ (l:List Str),sm (fun n=>a n+c*b n) l=sm a l+c*sm b l
 | []=>by simp only [sm];grind
 | n::l=>by simp only [sm,Jeh c l];grind
theorem Jln {l:List Str} {n:Str} (h:∀ q∈l,0<=a q) (hn:n∈l) (lt:0<a n):0<sm a l:=by
 have:=sm_lt (a:=fun _=>0) (b:=a) h hn lt;rw [JcV (a:=fun _=>0) fun _ _=>rfl] at this;exact this
end
theorem JhR {α : Type} (f : α->Rat):∀ {l:List α},l≠[]->∃ a∈l, ∀ b∈l,f a<=f b
 | [],h=>absurd rfl h
 | [a],_=>⟨a,by simp,fun b hb=>by rw [mem_singleton.mp hb];exact Rat.le_refl⟩
 | a::b::l,_=>by
  obtain ⟨m,hm,h⟩:=JhR f (l:=b::l) (by simp);by_cases c:f a<=f m
  ·refine ⟨a,by simp,fun x hx=>?_⟩;rcases mem_cons.mp hx with rfl | hx
   ·exact Rat.le_refl
   ·exact Rat.le_trans c (h x hx)
  ·refine ⟨m,mem_cons_of_mem _ hm,fun x hx=>?_⟩;rcases mem_cons.mp hx with rfl | hx
   ·exact Rat.le_of_lt (Rat.not_le.mp c)
   ·exact h x hx
structure Gp where
 R:Rat
 way:List Str
structure Fair (N:List Str) (w M:Str->Rat) (gs:List Gp) (lv:Str->Rat):Prop where
 lo:∀ n∈N,0<=lv n
 hi:∀ n∈N,lv n<=M n
 fit:∀ g∈gs,sm (fun n=>lv n*w n) g.way<=g.R
 stop:∀ n∈N,lv n=M n\/∃ g∈gs,n∈g.way/\sm (fun n=>lv n*w n) g.way=g.R/\∀ q∈g.way,lv q<=lv n
section
variable {N:List Str} {w M:Str->Rat} {gs:List Gp} {f f':Str->Rat}
theorem Fair.less (hw:∀ n∈N,0<w n) (hs:∀ g∈gs, ∀ n∈g.way,n∈N) (h:Fair N w M gs f) (hi:∀ n∈N,f' n<=M n) (fit:∀ g∈gs,sm (fun n=>f' n*w n) g.way<=g.R) {n:Str} (hn:n∈N) (lt:f n<f' n):∃ q∈N,f' q<f q/\f q<=f n:=by
 rcases h.stop n hn with e | ⟨g,hg,hm,hR,hmax⟩
 ·have:=hi n hn;grind
 ·have j:=fit g hg;by_cases c:∃ q∈g.way,f' q<f q
  ·obtain ⟨q,d,i⟩:=c;exact ⟨q,hs g hg q d,i,hmax q d⟩
  ·have all:∀ q∈g.way,f q*w q<=f' q*w q:=fun q d=>by
    have:=Rat.not_lt.mp fun z=>c ⟨q,d,z⟩;exact Rat.mul_le_mul_of_nonneg_right this (Rat.le_of_lt (hw q (hs g hg q d)))
   have:=sm_lt (a:=fun n=>f n*w n) (b:=fun n=>f' n*w n) all hm (Rat.mul_lt_mul_of_pos_right lt (hw n hn));grind
theorem Fair.uniq (hw:∀ n∈N,0<w n) (hs:∀ g∈gs, ∀ n∈g.way,n∈N) (h:Fair N w M gs f) (k:Fair N w M gs f'):∀ n∈N,f n=f' n:=by
 intro s j;refine Classical.byContradiction fun p=>?_;obtain ⟨n,m,a⟩:=JhR (fun n=>if f n<=f' n then f n else f' n) (l:=N.filter fun n=>decide (f n≠f' n)) (by
  intro z;have : s∈N.filter fun n=>decide (f n≠f' n):=mem_filter.mpr ⟨j,by simpa using p⟩;rw [z] at this;cases this)
 have b:=mem_filter.mp m;have r:f n≠f' n:=by simpa using b.2
 by_cases c:f n<=f' n
 ·have e:f n<f' n:=by grind
  obtain ⟨q,d,o,i⟩:=h.less hw hs k.hi k.fit b.1 e;have:=a q (mem_filter.mpr ⟨d,by simp;grind⟩);rw [if_pos c,if_neg (by grind)] at this;grind
 ·have e:f' n<f n:=by grind
  obtain ⟨q,d,o,i⟩:=k.less hw hs h.hi h.fit b.1 e;have:=a q (mem_filter.mpr ⟨d,by simp;grind⟩);rw [if_neg c,if_pos (by grind)] at this;grind
end
def lvv (lvs:List (Str × (Int × Int))) (n:Str):Rat:=((lvs.find? fun x=>decide (x.1=n)).map fun x=>vl x.2).getD 0
def used (lvs:List (Str × (Int × Int))) (w:Str->Rat) (n:Str):Rat:=lvv lvs n*w n
def left (lvs:List (Str × (Int × Int))) (w:Str->Rat) (n:Str):Rat:=if n∈lvs.map (·.1) then 0 else w n
section
variable {lvs:List (Str × (Int × Int))} {n m:Str} {L:Int × Int} {ns:List Str} {w:Str->Rat}
theorem Jcd (h:n∉lvs.map (·.1)):lvv lvs n=0:=by
 unfold lvv;rw [List.find?_eq_none.mpr fun x a=>by
  have : x.1≠n:=fun z=>h (mem_map.mpr ⟨x,a,z⟩);simpa using this]
 rfl
theorem JdY (hn:(lvs.map (·.1)).Nodup) {x:Str × (Int × Int)} (hx:x∈lvs):lvv lvs x.1=vl x.2:=by
 induction lvs with
 | nil=>cases hx
 | cons y r ih=>
  rw [map_cons,nodup_cons] at hn;unfold lvv;rw [List.find?_cons];rcases mem_cons.mp hx with e | hx
  ·subst e;simp
  ·have : y.1≠x.1:=fun z=>hn.1 (z ▸ mem_map.mpr ⟨x,hx,rfl⟩);rw [decide_eq_false this];exact ih hn.2 hx
theorem JeV (h:n∈lvs.map (·.1)):lvv (lvs++ns.map fun m=>(m,L)) n=lvv lvs n:=by
 unfold lvv;rw [List.find?_append];cases e:lvs.find? fun x=>decide (x.1=n) with
 | none=>
  obtain ⟨x,b,a⟩:=mem_map.mp h;have:=List.find?_eq_none.mp e x b;simp [a] at this
 | some y=>rfl
theorem Jf9 (h:n∉lvs.map (·.1)) (hn:n∈ns):lvv (lvs++ns.map fun m=>(m,L)) n=vl L:=by
 have a:lvs.find? (fun x=>decide (x.1=n))=none:=List.find?_eq_none.mpr fun x b=>by
  have : x.1≠n:=fun z=>h (mem_map.mpr ⟨x,b,z⟩);simpa using this
 unfold lvv;rw [List.find?_append,a,Option.none_or];cases e:(ns.map fun m=>(m,L)).find? fun x=>decide (x.1=n) with
 | none=>
  have:=List.find?_eq_none.mp e (n,L) (mem_map.mpr ⟨n,hn,rfl⟩);simp at this
 | some y=>
  have:=List.mem_of_find?_eq_some e;obtain ⟨m,_,rfl⟩:=mem_map.mp this;rfl
theorem Jbd:(lvs++ns.map fun m=>(m,L)).map (·.1)=lvs.map (·.1)++ns:=by
 rw [map_append,map_map]
 congr 1
 exact (List.map_congr_left fun _ _=>rfl).trans (List.map_id _)
def dlt (w:Str->Rat) (ns:List Str) (n:Str):Rat:=if n∈ns then w n else 0
theorem Jfm (hd:∀ n∈ns,n∉lvs.map (·.1)) (n:Str):used (lvs++ns.map fun m=>(m,L)) w n=used lvs w n+vl L*dlt w ns n:=by
 unfold used dlt;by_cases c:n∈lvs.map (·.1)
 ·rw [JeV c,if_neg fun z=>hd n z c];grind
 ·by_cases d:n∈ns
  ·rw [Jf9 c d,Jcd c,if_pos d];grind
  ·have : n∉(lvs++ns.map fun m=>(m,L)).map (·.1):=by
    rw [Jbd];simp only [mem_append];exact fun z=>z.elim c d
   rw [Jcd this,Jcd c,if_neg d];grind
theorem JeT (hd:∀ n∈ns,n∉lvs.map (·.1)) (n:Str):left (lvs++ns.map fun m=>(m,L)) w n=left lvs w n+(-1)*dlt w ns n:=by
 unfold left dlt;rw [Jbd];simp only [mem_append];by_cases c:n∈lvs.map (·.1)
 ·rw [if_pos (.inl c),if_pos c,if_neg fun z=>hd n z c];grind
 ·by_cases d:n∈ns
  ·rw [if_pos (.inr d),if_neg c,if_pos d];grind
  ·rw [if_neg (fun z=>z.elim c d),if_neg c,if_neg d];grind
end
structure RInv (N:List Str) (w M:Str->Rat) (gs:List Gp) (lvs:List (Str × (Int × Int))) (c:Rat):Prop where
 nd:(lvs.map (·.1)).Nodup
 sub:∀ n∈lvs.map (·.1),n∈N
 c0:0<=c
 a:∀ x∈lvs,0<=vl x.2/\vl x.2<=c/\vl x.2<=M x.1
 b:∀ n∈N,n∉lvs.map (·.1)->c<=M n
 cc:∀ g∈gs,c*sm (left lvs w) g.way<=g.R-sm (used lvs w) g.way
 d:∀ x∈lvs,vl x.2=M x.1\/∃ g∈gs,x.1∈g.way/\(∀ q∈g.way,q∈lvs.map (·.1))/\g.R-sm (used lvs w) g.way=0/\∀ q∈g.way,lvv lvs q<=vl x.2
section
variable {N:List Str} {w M:Str->Rat} {gs:List Gp} {lvs:List (Str × (Int × Int))} {c:Rat} {L:Int × Int} {ns:List Str}
theorem JdV (hw:∀ n∈N,0<w n) {l:List Str} (hs:∀ n∈l,n∈N):∀ q∈l,0<=left lvs w q:=fun q a=>by
 unfold left;split
 ·exact Rat.le_refl
 ·exact Rat.le_of_lt (hw q (hs q a))
theorem RInv.start (hM:∀ n∈N,0<=M n) (hR:∀ g∈gs,0<=g.R):RInv N w M gs [] 0 where
 nd:=.nil
 sub:=fun n c=>by cases c
 c0:=Rat.le_refl
 a:=fun x f=>by cases f
 b:=fun n c _=>hM n c
 cc:=fun g h=>by
  have e:sm (used [] w) g.way=0:=JcV fun q _=>by
   unfold used;rw [Jcd (by simp)];grind
  have:=hR g h;rw [e];grind
 d:=fun x f=>by cases f
theorem RInv.round (h:RInv N w M gs lvs c) (hw:∀ n∈N,0<w n) (hs:∀ g∈gs, ∀ n∈g.way,n∈N)
  (hnd:ns.Nodup) (hL1:∀ n∈N,n∉lvs.map (·.1)->vl L<=M n) (hL2:∀ g∈gs,0<sm (left lvs w) g.way->vl L*sm (left lvs w) g.way<=g.R-sm (used lvs w) g.way)
  (hns:∀ n,n∈ns↔n∈N/\n∉lvs.map (·.1)/\(M n=vl L\/∃ g∈gs,n∈g.way/\0<sm (left lvs w) g.way/\vl L*sm (left lvs w) g.way=g.R-sm (used lvs w) g.way)) (hc:c<=vl L) :
  RInv N w M gs (lvs++ns.map fun n=>(n,L)) (vl L):=by
 have o:∀ n∈ns,n∉lvs.map (·.1):=fun n i=>((hns n).mp i).2.1;have C:∀ n∈ns,n∈N:=fun n i=>((hns n).mp i).1;have v:∀ l:List Str,sm (used (lvs++ns.map fun n=>(n,L)) w) l=sm (used lvs w) l+vl L*sm (dlt w ns) l:=fun l=>by
  rw [<- Jeh];exact Jbe fun q _=>Jfm o q
 have D:∀ l:List Str,sm (left (lvs++ns.map fun n=>(n,L)) w) l=sm (left lvs w) l+(-1)*sm (dlt w ns) l:=fun l=>by
  rw [<- Jeh];exact Jbe fun q _=>JeT o q
 have t:=fun (g:Gp) (f:g∈gs)=>sm_nn (JdV (lvs:=lvs) hw (hs g f));have r:∀ g∈gs, ¬ 0<sm (left lvs w) g.way->sm (left lvs w) g.way=0/\∀ q∈g.way,q∈lvs.map (·.1):=fun g f z=>by
  have G:sm (left lvs w) g.way=0:=by have:=t g f;grind
  refine ⟨G,fun q b=>Classical.byContradiction fun y=>z ?_⟩;refine Jln (JdV hw (hs g f)) b ?_;unfold left;rw [if_neg y];exact hw q (hs g f q b)
 have key:∀ g∈gs,vl L*sm (left lvs w) g.way<=g.R-sm (used lvs w) g.way:=fun g f=>by
  by_cases p:0<sm (left lvs w) g.way
  ·exact hL2 g f p
  ·have:=h.cc g f;rw [(r g f p).1] at this ⊢;grind
 refine ⟨?_,?_,?_,?_,?_,?_,?_⟩
 ·rw [Jbd];exact nodup_append.mpr ⟨h.nd,hnd,fun x j y H z=>o y H (z ▸ j)⟩
 ·intro n i;rw [Jbd] at i;rcases mem_append.mp i with i | i
  ·exact h.sub n i
  ·exact C n i
 ·exact Rat.le_trans h.c0 hc
 ·intro x j;rcases mem_append.mp j with j | j
  ·have:=h.a x j;exact ⟨this.1,Rat.le_trans this.2.1 hc,this.2.2⟩
  ·obtain ⟨n,i,rfl⟩:=mem_map.mp j;exact ⟨Rat.le_trans h.c0 hc,Rat.le_refl,hL1 n (C n i) (o n i)⟩
 ·intro n i k;rw [Jbd] at k;exact hL1 n i fun z=>k (mem_append.mpr (.inl z))
 ·intro g f;rw [v,D];have:=key g f;grind
 ·intro x j;rcases mem_append.mp j with j | j
  ·rcases h.d x j with e | ⟨g,f,u,s,B,h4⟩
   ·exact .inl e
   ·refine .inr ⟨g,f,u,fun q b=>?_,?_,fun q b=>?_⟩
    ·rw [Jbd];exact mem_append.mpr (.inl (s q b))
    ·rw [v,JcV (a:=dlt w ns) fun q b=>if_neg fun z=>o q z (s q b)];grind
    ·rw [JeV (s q b)];exact h4 q b
  ·obtain ⟨n,i,rfl⟩:=mem_map.mp j;obtain ⟨E,F,e | ⟨g,f,u,s,B⟩⟩:=(hns n).mp i
   ·exact .inl e.symm
   ·have m:∀ q∈g.way,q∉lvs.map (·.1)->q∈ns:=fun q b A=>(hns q).mpr ⟨hs g f q b,A, .inr ⟨g,f,b,s,B⟩⟩;refine .inr ⟨g,f,u,fun q b=>?_,?_,fun q b=>?_⟩
    ·rw [Jbd];by_cases y:q∈lvs.map (·.1)
     ·exact mem_append.mpr (.inl y)
     ·exact mem_append.mpr (.inr (m q b y))
    ·have e:sm (dlt w ns) g.way=sm (left lvs w) g.way:=Jbe fun q b=>by
      unfold dlt left;by_cases y:q∈lvs.map (·.1)
      ·rw [if_neg fun z=>o q z y,if_pos y]
      ·rw [if_pos (m q b y),if_neg y]
     rw [v,e];grind
    ·by_cases y:q∈lvs.map (·.1)
     ·rw [JeV y];obtain ⟨x,j,rfl⟩:=mem_map.mp y;rw [JdY h.nd j];exact Rat.le_trans (h.a x j).2.1 hc
     ·rw [Jf9 y (m q b y)];exact Rat.le_refl
theorem RInv.le (h:RInv N w M gs lvs c) (hL:(∃ n∈N,n∉lvs.map (·.1)/\M n=vl L)\/∃ g∈gs,0<sm (left lvs w) g.way/\vl L*sm (left lvs w) g.way=g.R-sm (used lvs w) g.way):c<=vl L:=by
 rcases hL with ⟨n,hn,hS,e⟩ | ⟨g,hg,p,e⟩
 ·rw [<- e];exact h.b n hn hS
 ·have:=h.cc g hg;rw [<- e] at this;exact (scaled p).mp this
theorem RInv.fair (h:RInv N w M gs lvs c) (hw:∀ n∈N,0<w n) (hs:∀ g∈gs, ∀ n∈g.way,n∈N) (hall:∀ n∈N,n∈lvs.map (·.1)):Fair N w M gs (lvv lvs):=by
 have f:∀ n∈N, ∃ x∈lvs,x.1=n/\lvv lvs n=vl x.2:=fun n i=>by
  obtain ⟨x,b,e⟩:=mem_map.mp (hall n i);have e:x.1=n:=e;exact ⟨x,b,e,by rw [<- e];exact JdY h.nd b⟩
 refine ⟨fun n i=>?_,fun n i=>?_,fun g j=>?_,fun n i=>?_⟩
 ·obtain ⟨x,b,_,e⟩:=f n i;rw [e];exact (h.a x b).1
 ·obtain ⟨x,b,k,e⟩:=f n i;rw [e, <- k];exact (h.a x b).2.2
 ·have:=h.cc g j;rw [JcV (a:=left lvs w) fun q l=>if_pos (hall q (hs g j q l))] at this;show sm (used lvs w) g.way<=_;grind
 ·obtain ⟨x,b,k,e⟩:=f n i;rcases h.d x b with q | ⟨g,j,h1,_,h3,h4⟩
  ·exact .inl (by rw [e,q,k])
  ·refine .inr ⟨g,j,k ▸ h1,?_,fun q l=>?_⟩
   ·show sm (used lvs w) g.way=_;grind
   ·rw [e];exact h4 q l
end
def Dv (D:Int) (r:Rat):Prop:=∃ k:Int,r*(D:Rat)=(k:Rat)
section
variable {D E:Int} {r s:Rat}
theorem Dv.int (k:Int):Dv D (k:Rat):=⟨k*D,by push_cast;rfl⟩
theorem Dv.add (h:Dv D r) (k:Dv D s):Dv D (r+s):=by
 obtain ⟨a,c⟩:=h;obtain ⟨b,d⟩:=k;exact ⟨a+b,by push_cast;grind⟩
theorem Dv.sub (h:Dv D r) (k:Dv D s):Dv D (r-s):=by
 obtain ⟨a,c⟩:=h;obtain ⟨b,d⟩:=k;exact ⟨a-b,by push_cast;grind⟩
theorem Dv.mul (h:Dv D r) (k:Int):Dv D (r*(k:Rat)):=by
 obtain ⟨a,b⟩:=h;exact ⟨a*k,by push_cast;grind⟩
theorem Dv.more (h:Dv D r) (k:Int):Dv (D*k) r:=by
 obtain ⟨a,b⟩:=h;exact ⟨a*k,by push_cast;grind⟩
theorem Dv.over {k:Int} (hk:1<=k) (h:Dv D (r*(k:Rat))):Dv (D*k) r:=by
 obtain ⟨a,b⟩:=h;exact ⟨a,by push_cast;grind⟩
theorem Dv.den {t:Int × Int} (h:Dv D (vl t)) (ht:1<=t.2) (hg:Mth.g t.1 t.2=1):t.2∣D:=by
 obtain ⟨a,c⟩:=h;have f:=Jaz ht;have e:(t.1:Rat)*D=a*t.2:=by
  unfold vl at c;have : (t.1:Rat)=(t.1:Rat)/t.2*t.2:=by rw [Rat.div_mul_cancel f]
  rw [this];grind
 have e:t.1*D=a*t.2:=by exact_mod_cast e
 refine Mth.Jdp (a:=t.1) (b:=t.2) (d:=D) (Mth.Jcc hg) ⟨a,?_⟩;rw [e,Int.mul_comm]
theorem Dv.fb {t:Int × Int} {m n:Nat} {Q:Int} (h:Dv D (vl t)) (ht:1<=t.2) (hg:Mth.g t.1 t.2=1) (hD:1<=D) (sD:Mth.Sz n D) (h0:0<=vl t) (h1:vl t<=(Q:Rat)) (sQ:Mth.Sz m Q):FB (m+n) n t:=by
 have f:=h.den ht hg;have j:t.2<=D:=Int.le_of_dvd ∅ f;have b:Mth.Sz n t.2:=Nat.lt_of_le_of_lt (by ac_nf:t.2.natAbs<=D.natAbs) sD;have i:=Jaz ht;have a:(0:Rat)<(t.2:Rat):=by exact_mod_cast (show 0<t.2 by ac_nf)
 have e:(t.1:Rat)=vl t*t.2:=by unfold vl;rw [Rat.div_mul_cancel i]
 have d:(0:Rat)<=(t.1:Rat):=by rw [e];exact Rat.mul_nonneg h0 (Rat.le_of_lt a)
 have c:(t.1:Rat)<=(Q:Rat)*t.2:=by rw [e];exact Rat.mul_le_mul_of_nonneg_right h1 (Rat.le_of_lt a)
 have d:0<=t.1:=by exact_mod_cast d
 have c:t.1<=Q*t.2:=by exact_mod_cast c
 refine ⟨Nat.lt_of_le_of_lt (?_:t.1.natAbs<=(Q*t.2).natAbs) (sQ.mul b),b,ht,hg⟩;ac_nf
end
theorem Jj0 {kvs:List (Key × V)} {vs:List (Key × Value)} (rel:KV kvs vs):vs.map (·.1)=kvs.map (·.1):=by
 unfold KV at rel;induction rel with
 | nil=>rfl
 | cons h1 _ ih=>rw [map_cons,map_cons,ih,h1.1]
theorem JjY {P:Program} {w:World} {z:Str} {v:Value} (h:(Jaw P w).is (Sum.inr z) v=true):∃ t,v=.str z t:=by
 rcases JaR (show keyIs (Sum.inr z) v=true from h) with ⟨b,hb,_⟩ | ⟨y,t,hy,rfl⟩
 ·cases hb
 ·cases hy;exact ⟨t,rfl⟩
def Itk (d:Addr) (od:Obj) (kvs:List (Key × V)) (ss:List Str):It :=
 ⟨fun i H=>H d=some (.frz od (.dK kvs))/\i<ss.length,fun i H x H'=>H'=H/\(ss.map V.str)[i]?=some x,fun i H=>H d=some (.frz od (.dK kvs))/\ss.length<=i⟩
theorem Jix {P:Program} {w:World} {K:W.Frag} {tg:Expr} {d it:Addr} {od:Obj} {kvs:List (Key × V)} {ss:List Str} {vs:List (Key × Value)} {ep:Nat} (rel:KV kvs vs) (hk:kvs.map (·.1)=ss.map Sum.inr) (hd:∀ h:Heap,h.get? d=some od->h.DictAt (Jaw P w) d vs ep) :
  Turn P w K tg (Itk d od kvs ss) [it] it (fun i h=>h.IsKeyIter it d i vs.length ep) where
 mem:=by simp
 obj:=fun i h a b j=>by
  obtain rfl:b=it:=by simpa using j
  obtain ⟨o,e,c,z⟩:=a;exact ⟨o,e,fun v q=>by rw [z] at q;cases q⟩
 keep:=fun i h x a k=>a.at fun o e=>k it (by simp) o e
 item:=by
  intro X C D J O i f s σ H E I u a F;subst C D J;obtain ⟨l,N⟩:=F;obtain ⟨M,A,R,L,G,B⟩:=u it (by simp);have g:=(I.hok d _ l).1;have S:=rel.length;have Q:kvs.length=ss.length:=by simpa using congrArg List.length hk
  obtain ⟨⟨k,Y⟩,n⟩:∃ p,vs[i]?=some p:=⟨_,List.getElem?_eq_getElem (show i<vs.length by ac_nf)⟩;have y:(vs.map (·.1))[i]?=some k:=by rw [List.getElem?_map,n];rfl
  rw [Jj0 rel,hk,List.getElem?_map,List.getElem?_eq_getElem N] at y;have y:Sum.inr ss[i]=k:=Option.some.inj y;subst y;refine wpAny_pyNext_dict_item a (hd _ g) n fun key x m r T=>?_;obtain ⟨t,rfl⟩:=JjY m;have I1:Inv X f σ H { s with heap:=x }:=I.turned (t':=s.toks) (fun b o j e=>(T.2 b j).trans e) M A L G B;obtain ⟨o,e,c,z⟩:=id r;exact ⟨_,rfl,go_of (s:={ s with heap:=x }) e c z ⋯ ⟨.str ss[i],H,I1,⟨t,rfl⟩,⟨rfl,by rw [List.getElem?_map,List.getElem?_eq_getElem N];rfl⟩,r,fun b j=>(u b j).1⟩⟩
 done:=by
  intro X C D J O i f s σ H E I u a F;subst C D J;obtain ⟨l,N⟩:=F;obtain ⟨M,A,R,L,G,B⟩:=u it (by simp);have g:=(I.hok d _ l).1;have S:=rel.length;have Q:kvs.length=ss.length:=by simpa using congrArg List.length hk
  exact wpAny_pyNext_dict_end (I.ok.hd O) a (hd _ g) (List.getElem?_eq_none ∅) fun x U=>⟨rfl,I.turned (t':=s.toks) (fun b o j e=>U b o j e) M A L G B⟩
 self:=fun _ _ _ _ _ a h=>wpAny_pyIter_keyiter a h
section
variable {X:Cx} {tg:Expr}
def iKeys (td:TE):TI:=fun σ H R=>td σ H fun x H1=>∃ (d:Addr) (kvs:List (Key × V)) (ss:List Str),x=.ref d/\H1 d=some (.dK kvs)/\kvs.map (·.1)=ss.map Sum.inr/\∀ od,R (Itk d od kvs ss) (upd H1 d (.frz od (.dK kvs)))
theorem Jia {o:Expr} {td:TE} (ho:PE X o td):PI X tg o (iKeys td):=by
 intro c s σ H R I h;refine thn (ho c s σ H _ I h) fun v i ζ=>?_;obtain ⟨y,A,I1,n,d,kvs,C,m,e,r,t⟩:=ζ;subst m;obtain rfl:v=Value.ref d:=n;obtain ⟨B,l,vs,f,u⟩:=dk_of I1.hok e;obtain ⟨ep,k⟩:=u.dictAt;obtain ⟨j,p,a,rest⟩:=id k;refine wpAny_pyIter_dict (knd:=Jaw X.prog X.w) (d:=d) (kvs:=vs) (ep:=ep) l k ?_;have x:∀ b o,i.heap.get? b=some o->(i.heap.push { cls:=.type "dict_keyiterator",data:=.fields #[.ref d, .int 0 0, .int vs.length 0, .int ep 0] }).get? b=some o:=fun b o z=>Heap.get?_push_of_some _ z;have I2:=(I1.freeze e a).kept (t':=i.toks) x;refine ⟨_,[_],_,_,_,rfl,I2,Jix (vs:=vs) (ep:=ep) f r (fun h q=>⟨j,p,q,rest⟩),⟨_,Heap.get?_push_size _ rfl,rfl,rfl⟩,fun b g=>?_,t j⟩;obtain rfl:=mem_singleton.mp g;exact I1.fpOk (Nat.le_refl _) ((I1.freeze e a).hok.fresh (Nat.le_refl _))
def Jjy (ts:TS):TS:=fun D σ H=>∃ d kvs,H d=some (.dK kvs)/\ts { nx:=fun σ' H'=>∃ od kvs',H' d=some (.frz od (.dK kvs'))/\D.nx σ' (upd H' d (.dK kvs')),rt:=fun _ _=>False } σ H
theorem Inv.thawS {pins:List (Addr × Obj)} {σ σ':List (Option V)} {H H':Hp} {s s':Shared} {d:Addr} {kvs kvs':List (Key × V)} {od:Obj} (I:Inv X pins σ H s) (e:H d=some (.dK kvs)) (I':Inv X pins σ' H' s') (e':H' d=some (.frz od (.dK kvs'))):Inv X pins σ' (upd H' d (.dK kvs')) s':=by
 have m:∀ {b:Addr} {o:HO},H' b=some o->(∀ u v,o≠.frz u v)->b≠d:=fun q h z=>by rw [z,e'] at q;cases q;exact h _ _ rfl
 refine ⟨I'.ok,I'.os,I'.bare,⟨I'.base.keep,I'.base.slot,fun b o q n B=>?_,I'.base.there,fun b k q=>?_,fun b o u q=>?_,fun b A q=>?_⟩,I'.loc,I'.cell,?_,fun x c z=>?_,fun p y=>?_,fun a o q=>?_,I'.len⟩
 ·have:=I'.base.free b o q n B;rw [Jag (fun z=>by rw [z,e'] at this;cases this)];exact this
 ·have:=I'.base.tups b k q;rw [Jag (m this (by intro u v z;cases z))];exact this
 ·have f:=I'.base.frzs b o u q;have g:=I.base.frzs b o u q;rw [Jag (fun z=>by rw [z,e] at g;cases g)];exact f
 ·obtain ⟨i,f⟩:=I'.base.tbls b A q;exact ⟨i,by rw [Jag (m f (by intro u v z;cases z))];exact f⟩
 ·have:=I'.free;rw [Jag (fun z=>by rw [z,e'] at this;cases this)];exact this
 ·have:=I'.freeC x c z;rw [Jag (fun z=>by rw [z,e'] at this;cases this)];exact this
 ·obtain ⟨f,g,t⟩:=I'.pin p y;exact ⟨f,by rw [Jag (fun z=>by rw [z,e'] at g;cases g)];exact g,t⟩
 ·have l:∀ r b,H' b=some (.own r)->upd H' d (.dK kvs') b=some (.own r):=fun r b q=>by
   rw [Jag (m q (by intro u v z;cases z))];exact q
  have j:∀ b k,H' b=some (.tup k)->upd H' d (.dK kvs') b=some (.tup k):=fun b k q=>by
   rw [Jag (m q (by intro u v z;cases z))];exact q
  by_cases c:a=d
  ·subst c;rw [Jaj] at q;cases q;have f:ObjOk X.prog X.w H' s'.heap a (.dK kvs'):=(I'.hok a _ e').2;exact f.stay (fun _ _ _ z=>z) (l a) j
  ·rw [Jag c] at q;exact (I'.hok a o q).stay (fun _ _ _ z=>z) (l a) j
theorem Jkq {st:Stmt} {ts:TS} (h:PS X st ts):PS X st (Jjy ts):=by
 intro b s σ H D I ⟨d,i,j,q⟩;refine wpAny_mono (h b s σ H _ I q) (fun f l z=>?_) fun _ _ z=>z;cases f with
 | next=>
  obtain ⟨σ',c,I1,k,e,g,a⟩:=z;exact ⟨σ',_,I.thawS j I1 g,a⟩
 | brk=>obtain ⟨σ',c,I1,a⟩:=z;exact a.elim
 | cont=>obtain ⟨σ',c,I1,a⟩:=z;exact a.elim
 | ret v=>obtain ⟨y,σ',c,I1,r,a⟩:=z;exact a.elim
theorem ps_no {st:Stmt}:PS X st (fun _ _ _=>False):=fun _ _ _ _ _ _ h=>h.elim
def tSumV (td:TE):TE:=fun σ H Q=>td σ H fun x H1=>∃ (d:Addr) (kvs:List (Key × V)) (ns:List Int),x=.ref d/\H1 d=some (.dK kvs)/\kvs.map (·.2)=ns.map V.int/\Q (.int ns.sum) H1
theorem Jie (ns:List Int):∀ k,k<=ns.length->preSum (fun i=>ns.getD i 0) k=(ns.take k).sum
 | 0,_=>by simp [preSum]
 | k+1,h=>by
  rw [take_sum_succ ns k ∅, <- Jie ns k ∅];rfl
theorem Jkm {o:Expr} {td:TE} {p1 apos cpos pos:Pos} {x:Str} (hc:X.calm=true) (hx:x="sum") (hg:Gl X x) (hm:X.mg x=none) (hv:bootBuiltins x=some (.builtin "sum")) (ho:PE X o td)
  (hb:attributeBase o "values" X.env (eval o X.env)=eval o X.env:=by rfl) (hn:(apos.endLine == cpos.line)=true:=by rfl) :
  PE X (.Call (.Name x p1) [.Call (.Attribute o "values" apos) [] [] cpos] [] pos) (tSumV td):=by
 intro m s σ H Q I h;have L:x≠"__name__":=by rw [hx];decide
 have U:(x == ("__debug__" : Str))=false:=by rw [hx];decide
 refine wpAny_Call_Name_kw (JeC I hg hm hv ?_ L U);refine PyProof.Rows.callWith_builtin1 ?_ rfl rfl;show wpAny _ _ (spliced ((false,eval (.Call (.Attribute o "values" apos) [] [] cpos) X.env)::backTo pos (starEach [] X.env))) _ _ s;refine Calls.spliced_cons ?_;refine wpAny_Call_method0_late hb hn (thn (ho m s σ H _ I h) fun v n ζ=>?_);obtain ⟨y,D,I1,J,d,kvs,a,G,e,l,S⟩:=ζ;subst G;obtain rfl:v=Value.ref d:=J;obtain ⟨r,M,E⟩:=Jfx I1 (.inl ⟨kvs, .inl e⟩);obtain ⟨Y,_,c,f,C⟩:=dk_of I1.hok e;refine ⟨"dict","dict.values",PySem.F.plainAttrs_dict,PySem.F.slot_dict_values,PySem.F.type_dict_values,r,M,Calls.callWith_builtin rfl (PySem.evalArgs_none ?_)⟩;refine call_meetsIn PySem.F.slot_dict_values r PySem.F.entry_dict_values (PySem.F.args_dict_values_1 _) (meets_dict_values (Jaw X.prog X.w) d E) ⟨⟨c,C⟩,?_⟩;refine Calls.spliced_nil ?_;obtain ⟨ep,q⟩:=C.dictAt;have R:X.A.in1.handled=none:=by have:=I.ok.hd hc;simp [this]
 have B:d<n.heap.objs.size:=q.lt_size;have p:(n.heap.push { cls:=.type "dict_values",data:=.fields #[.ref d] }).objs.size=n.heap.objs.size+1:=Heap.size_push ..;refine call_sum_walkG (wpAny_pyIter_values (knd:=Jaw X.prog X.w) (v:=n.heap.objs.size) (d:=d) (kvs:=c) (ep:=ep) ⟨_,Heap.get?_push_size _ rfl,rfl,rfl⟩ (q.push _) ?_);have lv:=f.length;have V:a.length=kvs.length:=by simpa using (congrArg List.length l).symm
 refine ⟨_,_,_,_,_,_,fun i=>a.getD i 0,rfl,Walks.dictValues (knd:=Jaw X.prog X.w) R _ d (by rw [p];exact Nat.ne_of_lt (Nat.lt_succ_of_lt B)) c ep,⟨⟨_,Heap.get?_push_size _ rfl,rfl,rfl⟩,(q.push _).push _⟩,fun b j=>?_,fun i u N=>?_,fun h' O t' k=>?_⟩
 ·simp only [mem_cons,not_mem_nil,or_false] at j;show b<(Heap.push _ _).objs.size;rw [Heap.size_push];rcases j with rfl | rfl
  ·exact Nat.lt_succ_self _
  ·rw [p];exact Nat.lt_succ_of_lt (Nat.lt_succ_of_lt B)
 ·obtain ⟨kk,t⟩:=N;have T:=JiA f;have K:(c.map (·.2))[i]?=some u:=by rw [List.getElem?_map,t];rfl
  have W:i<kvs.length:=by
   have:=(List.getElem?_eq_some_iff.mp t).1;ac_nf
  obtain ⟨Z,g,P⟩:=T.get (i:=i) (x:=.int (a.getD i 0)) (by rw [l,List.getElem?_map,List.getElem?_eq_getElem (show i<a.length by ac_nf)];simp [List.getD_eq_getElem?_getD,List.getElem?_eq_getElem (show i<a.length by ac_nf)]);rw [K] at g;cases g;exact P
 ·rw [show c.length=a.length by ac_nf,Jie a _ (Nat.le_refl _),take_of_length_le (Nat.le_refl _)];exact ⟨.int _,D,I1.kept (t':=O) (fun b o z=>k b o (by simp only [mem_cons,not_mem_nil,or_false];have:=Heap.lt_size z;rw [p];exact Nat.ne_of_lt (Nat.lt_succ_of_lt this)) (Heap.get?_push_of_some _ (Heap.get?_push_of_some _ z))),⟨_,rfl⟩,S⟩
end
section
variable {k:Nat} {cs:List (Nat × Str)} {g:TG} {te tl td:TE} {tt:TT} {σ : St} {H H1:Hp} {Q:VK} {d:Addr} {od:Obj} {kvs:List (Key × V)} {ss:List Str}
theorem y88y:tSumV td σ H Q=td σ H fun x H1=>∃ (d:Addr) (kvs:List (Key × V)) (ns:List Int),x=.ref d/\H1 d=some (.dK kvs)/\kvs.map (·.2)=ns.map V.int/\Q (.int ns.sum) H1:=rfl
theorem y37y:JfP k cs (iKeys td) g tt te σ H Q=td σ H fun x H1=>∃ (d1:Addr) (kvs1:List (Key × V)) (ss:List Str),x=.ref d1/\H1 d1=some (.dK kvs1)/\kvs1.map (·.1)=ss.map Sum.inr/\∀ od,Jcx (Itk d1 od kvs1 ss) k cs g tt te σ Q (upd H1 d1 (.frz od (.dK kvs1))):=rfl
theorem y38y:tThaw (JfP k cs (iKeys td) g tt te) σ H Q=∃ d kvs,H d=some (.dK kvs)/\td σ H fun x H1=>∃ (d1:Addr) (kvs1:List (Key × V)) (ss:List Str),x=.ref d1/\H1 d1=some (.dK kvs1)/\kvs1.map (·.1)=ss.map Sum.inr/\∀ od,Jcx (Itk d1 od kvs1 ss) k cs g tt te σ (fun v H'=>∃ od kvs',H' d=some (.frz od (.dK kvs'))/\Q v (upd H' d (.dK kvs'))) (upd H1 d1 (.frz od (.dK kvs1))):=rfl
theorem Jcx.keys (Pv:Nat->List V->Hp->Prop) (h0:Pv 0 [] H1) (hl:∀ i ys H',i<=ss.length->Pv i ys H'->H' d=some (.frz od (.dK kvs))/\ys.length<=sizeLine)
  (hs:∀ i z ys H2,ss[i]?=some z->Pv i ys H2->g (.str z) (List.replicate k none++JaF cs σ) H2 fun σ4 H4=>tt σ4 H4 fun b H5=>if b=true then te σ4 H5 fun y H6=>Pv (i+1) (ys++[y]) H6 else Pv (i+1) ys H5) (hd:∀ ys H2,Pv ss.length ys H2->∀ p,H2 p=none->Q (.ref p) (upd H2 p (.lst ys))) :
  Jcx (Itk d od kvs ss) k cs g tt te σ Q H1:=by
 refine ⟨fun i m ys H'=>Pv i ys H'/\i<=ss.length/\m=ss.length-i,⟨_,h0,Nat.zero_le _,rfl⟩,?_⟩;rintro i m ys H2 ⟨h,t,rfl⟩;obtain ⟨j,r⟩:=hl i ys H2 t h;refine ⟨r,?_⟩;by_cases c:i<ss.length
 ·refine .inr ⟨⟨j,c⟩,?_⟩;rintro x u ⟨rfl,l⟩;rw [List.getElem?_map] at l;obtain ⟨z,n,rfl⟩:=Option.map_eq_some_iff.mp l;have w:∀ (f:List V) (H5:Hp),Pv (i+1) f H5=∃ m',m'<ss.length-i/\Pv (i+1) f H5/\i+1<=ss.length/\m'=ss.length-(i+1):=fun f H5=>
   propext ⟨fun q=>⟨_,Nat.sub_lt_sub_left c (Nat.lt_succ_self i),q,c,rfl⟩,fun ⟨_,_,q,_⟩=>q⟩
  have o:(fun (y:V) (H6:Hp)=>Pv (i+1) (ys++[y]) H6)=fun y H6=>∃ m',m'<ss.length-i/\Pv (i+1) (ys++[y]) H6/\i+1<=ss.length/\m'=ss.length-(i+1):=by
   funext y H6
   exact w _ _
  have e:(fun (σ4:St) (H4:Hp)=>tt σ4 H4 fun b H5=>if b=true then te σ4 H5 fun y H6=>Pv (i+1) (ys++[y]) H6 else Pv (i+1) ys H5)=fun σ4 H4=>tt σ4 H4 fun b H5=>if b=true then te σ4 H5 fun y H6=>∃ m',m'<ss.length-i/\Pv (i+1) (ys++[y]) H6/\i+1<=ss.length/\m'=ss.length-(i+1) else ∃ m',m'<ss.length-i/\Pv (i+1) ys H5/\i+1<=ss.length/\m'=ss.length-(i+1):=by
   funext σ4 H4
   congr 1
   funext b H5
   by_cases a:b=true
   ·rw [if_pos a,if_pos a, <- o]
   ·rw [if_neg a,if_neg a];exact w ys H5
  have:=hs i z ys _ n h;rw [e] at this;exact this
 ·have s:i=ss.length:=by ac_nf
  subst s;exact .inl ⟨⟨j,Nat.le_refl _⟩,hd ys H2 h⟩
theorem y8by {ts:TS} {En:Ends}:Jjy ts En σ H=∃ d kvs,H d=some (.dK kvs)/\ts { nx:=fun σ' H'=>∃ od kvs',H' d=some (.frz od (.dK kvs'))/\En.nx σ' (upd H' d (.dK kvs')),rt:=fun _ _=>False } σ H:=rfl
theorem DGet.f {H:Hp} {a:Addr} {kvs:List (Key × V)} {k:Key} {od:Obj} (e:H a=some (.frz od (.dK kvs))):DGet H a (kV k) (valV kvs k):=.inl ⟨kvs,k, .inr ⟨od,e⟩,rfl,rfl⟩
end
def mulF (a c:Int × Int):Int × Int:=(Mth.top (a.1*c.1) (a.2*c.2),Mth.bot (a.1*c.1) (a.2*c.2))
def divF (a c:Int × Int):Int × Int:=(Mth.top (a.1*c.2) (a.2*c.1),Mth.bot (a.1*c.2) (a.2*c.1))
def subF (a c:Int × Int):Int × Int:=(Mth.top (a.1*c.2-c.1*a.2) (a.2*c.2),Mth.bot (a.1*c.2-c.1*a.2) (a.2*c.2))
structure Lo (a:Int × Int):Prop where
 b1:1<=a.2
 g1:Mth.g a.1 a.2=1
theorem FB.lo {A B:Nat} {a:Int × Int} (h:FB A B a):Lo a:=⟨h.b1,h.g1⟩
theorem Lo.inj {a c:Int × Int} (h:Lo a) (k:Lo c) (e:vl a=vl c):a=c:=JjB h.b1 k.b1 h.g1 k.g1 e
theorem Jcz {t b:Int} (hb:1<=b):Lo (Mth.top t b,Mth.bot t b):=⟨Mth.JcS ∅,Mth.g_low ∅⟩
section
variable {a c:Int × Int}
theorem Jbh {x y:Int} (hx:1<=x) (hy:1<=y):1<=x*y:=by
 have:=Int.mul_pos (show 0<x by ac_nf) (show 0<y by ac_nf);ac_nf
theorem JjC (ha:1<=a.2) (hc:1<=c.2):vl (mulF a c)=vl a*vl c:=by
 unfold mulF;rw [JeJ (Jbh ha hc)];have b:=Jaz ha;have d:=Jaz hc;unfold vl;push_cast;generalize (a.1:Rat)=x at *;generalize (a.2:Rat)=y at *;generalize (c.1:Rat)=z at *;generalize (c.2:Rat)=t at *;grind
theorem JjA (ha:1<=a.2) (hc:1<=c.1) (hd:1<=c.2):vl (divF a c)=vl a/vl c:=by
 unfold divF;rw [JeJ (Jbh ha hc)];have b:=Jaz ha;have d:=Jaz hc;have e:=Jaz hd;unfold vl;push_cast;generalize (a.1:Rat)=x at *;generalize (a.2:Rat)=y at *;generalize (c.1:Rat)=z at *;generalize (c.2:Rat)=t at *;grind
theorem Jlu (ha:1<=a.2) (hc:1<=c.2):vl (subF a c)=vl a-vl c:=by
 unfold subF;rw [JeJ (Jbh ha hc)];have b:=Jaz ha;have d:=Jaz hc;unfold vl;push_cast;generalize (a.1:Rat)=x at *;generalize (a.2:Rat)=y at *;generalize (c.1:Rat)=z at *;generalize (c.2:Rat)=t at *;grind
theorem JeX (ha:1<=a.2) (hc:1<=c.2):Lo (mulF a c):=Jcz (Jbh ha hc)
theorem JjP (ha:1<=a.2) (hc:1<=c.1):Lo (divF a c):=Jcz (Jbh ha hc)
theorem JkC (ha:1<=a.2) (hc:1<=c.2):Lo (subF a c):=Jcz (Jbh ha hc)
theorem JfU (k:Int):vl (k,1)=(k:Rat):=by
 unfold vl;have : ((1:Int):Rat)=1:=rfl;grind
theorem Jbz:vl (0,1)=0:=JfU 0
end
structure LidD where
 nm:Str
 rest:Int × Int
 ws:List (Str × Int)
 load:Int
 last:Int × Int
def wtOf (ws:List (Str × Int)) (n:Str):Option Int:=(ws.find? fun x=>decide (x.1=n)).map (·.2)
def LidD.settle (e:LidD) (n:Str) (L:Int × Int):LidD:=match wtOf e.ws n with
 | none=>e
 | some k=>{ e with rest:=subF e.rest (mulF L (k,1)),load:=e.load-k,last:=L }
theorem Jgu {ws:List (Str × Int)} {n:Str}:wtOf ws n=none↔n∉ws.map (·.1):=by
 unfold wtOf;rw [Option.map_eq_none_iff,List.find?_eq_none];constructor
 ·intro h z;obtain ⟨x,a,e⟩:=mem_map.mp z;have:=h x a;simp [e] at this
 ·intro h x a;have : x.1≠n:=fun z=>h (mem_map.mpr ⟨x,a,z⟩);simpa using this
theorem JiD {ws:List (Str × Int)} {n:Str} {k:Int} (h:wtOf ws n=some k):(n,k)∈ws:=by
 unfold wtOf at h;obtain ⟨x,b,e⟩:=Option.map_eq_some_iff.mp h;have d:=List.mem_of_find?_eq_some b;have c:=List.find?_some b;have a:x.1=n:=by simpa using c
 obtain ⟨y,z⟩:=x;have e:z=k:=e;have a:y=n:=a;subst e;subst a;exact d
structure LidOk (w:Str->Rat) (g:Gp) (lvs:List (Str × (Int × Int))) (e:LidD):Prop where
 pm:(e.ws.map (·.1)).Perm g.way
 nd:(e.ws.map (·.1)).Nodup
 wt:∀ x∈e.ws,w x.1=(x.2:Rat)/\1<=x.2
 rest:vl e.rest=g.R-sm (used lvs w) g.way
 load:(e.load:Rat)=sm (left lvs w) g.way
 low:Lo e.rest
 llow:Lo e.last
 l1:∀ n∈g.way,n∈lvs.map (·.1)->lvv lvs n<=vl e.last
 l2:(∃ n∈g.way,n∈lvs.map (·.1))->∃ n∈g.way,n∈lvs.map (·.1)/\lvv lvs n=vl e.last
theorem Jjs {w:Str->Rat} {m:Str}:∀ {l:List Str},l.Nodup->sm (dlt w [m]) l=if m∈l then w m else 0
 | [],_=>by simp [sm]
 | n::l,h=>by
  rw [nodup_cons] at h;simp only [sm,Jjs h.2];unfold dlt;by_cases c:n=m
  ·subst c;rw [if_neg h.1];simp;grind
  ·have c':m≠n:=fun z=>c z.symm;simp only [mem_singleton,mem_cons,c,c',false_or,if_false];grind
section
variable {w:Str->Rat} {g:Gp} {lvs:List (Str × (Int × Int))} {e:LidD} {m:Str} {L:Int × Int}
theorem LidOk.settle (h:LidOk w g lvs e) (hnd:(lvs.map (·.1)).Nodup) (hm:m∉lvs.map (·.1)) (hL:Lo L) (hle:∀ x∈lvs,vl x.2<=vl L):LidOk w g (lvs++[(m,L)]) (e.settle m L):=by
 have y:∀ n∈[m],n∉lvs.map (·.1):=fun n d=>by rw [mem_singleton.mp d];exact hm
 have p:g.way.Nodup:=h.pm.nodup_iff.mp h.nd;have l:sm (used (lvs++[(m,L)]) w) g.way=sm (used lvs w) g.way+vl L*sm (dlt w [m]) g.way:=by
  rw [<- Jeh];exact Jbe fun q _=>Jfm (ns:=[m]) y q
 have j:sm (left (lvs++[(m,L)]) w) g.way=sm (left lvs w) g.way+(-1)*sm (dlt w [m]) g.way:=by
  rw [<- Jeh];exact Jbe fun q _=>JeT (ns:=[m]) y q
 have nms:(lvs++[(m,L)]).map (·.1)=lvs.map (·.1)++[m]:=Jbd (ns:=[m]);have i:∀ n∈lvs.map (·.1),lvv (lvs++[(m,L)]) n=lvv lvs n:=fun n d=>JeV (ns:=[m]) d;have o:lvv (lvs++[(m,L)]) m=vl L:=Jf9 (ns:=[m]) hm (by simp);rw [Jjs p] at l j;unfold LidD.settle;cases hw:wtOf e.ws m with
 | none=>
  have s:m∉g.way:=fun z=>(Jgu.mp hw) (h.pm.mem_iff.mpr z);rw [if_neg s] at l j;refine ⟨h.pm,h.nd,h.wt,?_,?_,h.low,h.llow,fun n d b=>?_,fun ⟨n,d,b⟩=>?_⟩
  ·rw [l,h.rest];grind
  ·rw [j,h.load];grind
  ·rw [nms] at b;rcases mem_append.mp b with b | b
   ·rw [i n b];exact h.l1 n d b
   ·rw [mem_singleton.mp b] at d;exact absurd d s
  ·rw [nms] at b;rcases mem_append.mp b with b | b
   ·obtain ⟨q,C,v,B⟩:=h.l2 ⟨n,d,b⟩;exact ⟨q,C,by rw [nms];exact mem_append.mpr (.inl v),by rw [i q v];exact B⟩
   ·rw [mem_singleton.mp b] at d;exact absurd d s
 | some k=>
  have f:=JiD hw;have u:m∈g.way:=h.pm.mem_iff.mp (mem_map.mpr ⟨_,f,rfl⟩);have D:=h.wt _ f;have r:w m=(k:Rat):=D.1;rw [if_pos u,r] at l j;have t:=JeX (a:=L) (c:=(k,1)) hL.b1 (Int.le_refl 1);refine ⟨h.pm,h.nd,h.wt,?_,?_,JkC h.low.b1 t.b1,hL,fun n d b=>?_,fun _=>⟨m,u,by rw [nms];simp,o⟩⟩
  ·show vl (subF e.rest (mulF L (k,1)))=_;rw [Jlu h.low.b1 t.b1,JjC hL.b1 (Int.le_refl 1),JfU,l,h.rest];grind
  ·show ((e.load-k:Int):Rat)=_;rw [j, <- h.load];push_cast;grind
  ·rw [nms] at b;rcases mem_append.mp b with b | b
   ·rw [i n b];obtain ⟨x,A,rfl⟩:=mem_map.mp b;rw [JdY hnd A];exact hle x A
   ·rw [mem_singleton.mp b,o];exact Rat.le_refl
end
structure SInv (N:List Str) (w:Str->Rat) (gs:List Gp) (lvs:List (Str × (Int × Int))) (L:Int × Int):Prop where
 nd:(lvs.map (·.1)).Nodup
 sub:∀ n∈lvs.map (·.1),n∈N
 a:∀ x∈lvs,0<=vl x.2/\vl x.2<=vl L
 L0:0<=vl L
 cc:∀ g∈gs,vl L*sm (left lvs w) g.way<=g.R-sm (used lvs w) g.way
section
variable {N:List Str} {w:Str->Rat} {gs:List Gp} {lvs:List (Str × (Int × Int))} {L:Int × Int} {m:Str}
theorem SInv.step (h:SInv N w gs lvs L) (hg:∀ g∈gs,g.way.Nodup) (hm:m∈N) (hn:m∉lvs.map (·.1)):SInv N w gs (lvs++[(m,L)]) L:=by
 have e:∀ n∈[m],n∉lvs.map (·.1):=fun n b=>by rw [mem_singleton.mp b];exact hn
 have nms:(lvs++[(m,L)]).map (·.1)=lvs.map (·.1)++[m]:=Jbd (ns:=[m]);refine ⟨?_,fun n b=>?_,fun x c=>?_,h.L0,fun g d=>?_⟩
 ·rw [nms];exact nodup_append.mpr ⟨h.nd,by simp,fun x c y j z=>hn (by rw [mem_singleton.mp j] at z;rw [<- z];exact c)⟩
 ·rw [nms] at b;rcases mem_append.mp b with q | q
  ·exact h.sub n q
  ·rw [mem_singleton.mp q];exact hm
 ·rcases mem_append.mp c with c | c
  ·exact h.a x c
  ·rw [mem_singleton.mp c];exact ⟨h.L0,Rat.le_refl⟩
 ·have i:sm (used (lvs++[(m,L)]) w) g.way=sm (used lvs w) g.way+vl L*sm (dlt w [m]) g.way:=by
   rw [<- Jeh];exact Jbe fun q _=>Jfm (ns:=[m]) e q
  have f:sm (left (lvs++[(m,L)]) w) g.way=sm (left lvs w) g.way+(-1)*sm (dlt w [m]) g.way:=by
   rw [<- Jeh];exact Jbe fun q _=>JeT (ns:=[m]) e q
  have:=h.cc g d;rw [i,f];grind
theorem SInv.range (h:SInv N w gs lvs L) (hw:∀ n∈N,0<w n) (hs:∀ g∈gs, ∀ n∈g.way,n∈N) {g:Gp} (hg:g∈gs):0<=g.R-sm (used lvs w) g.way/\g.R-sm (used lvs w) g.way<=g.R:=by
 have f:=h.cc g hg;have e:=sm_nn (JdV (lvs:=lvs) hw (hs g hg));have i:=Rat.mul_nonneg h.L0 e;have j:0<=sm (used lvs w) g.way:=sm_nn fun q d=>by
  unfold used;refine Rat.mul_nonneg ?_ (Rat.le_of_lt (hw q (hs g hg q d)));by_cases c:q∈lvs.map (·.1)
  ·obtain ⟨x,b,rfl⟩:=mem_map.mp c;rw [JdY h.nd b];exact (h.a x b).1
  ·rw [Jcd c];exact Rat.le_refl
 grind
end
theorem Dv.sm {D:Int} {a:Str->Rat}:∀ {l:List Str},(∀ q∈l,Dv D (a q))->Dv D (L2.sm a l)
 | [],_=>Dv.int 0
 | n::l,h=>(h n (by simp)).add (Dv.sm (l:=l) fun q hq=>h q (by simp [hq]))
theorem JhD {D:Int} {b:Rat} {w:Str->Rat} {g:Gp} {lvs:List (Str × (Int × Int))} (hR:Dv D (g.R/b)) (hw:∀ n∈g.way, ∃ k:Int,w n=(k:Rat)) (hl:∀ x∈lvs,Dv D (vl x.2/b)) (hnd:(lvs.map (·.1)).Nodup):Dv D ((g.R-sm (used lvs w) g.way)/b):=by
 have e:(g.R-sm (used lvs w) g.way)/b=g.R/b-sm (fun n=>lvv lvs n/b*w n) g.way:=by
  have : sm (used lvs w) g.way/b=sm (fun n=>lvv lvs n/b*w n) g.way:=by
   generalize g.way=l;induction l with
   | nil=>simp only [sm];grind
   | cons n l ih=>
    simp only [sm, <- ih];unfold used;grind
  rw [<- this];grind
 rw [e];refine hR.sub (Dv.sm fun q d=>?_);obtain ⟨k,f⟩:=hw q d;rw [f];refine Dv.mul ?_ k;by_cases c:q∈lvs.map (·.1)
 ·obtain ⟨x,a,rfl⟩:=mem_map.mp c;rw [JdY hnd a];exact hl x a
 ·rw [Jcd c];have : (0:Rat)/b=((0:Int):Rat):=by
   show (0:Rat)/b=0;grind
  rw [this];exact Dv.int 0
theorem Dv.up {D b:Int} {r:Rat} (hb:1<=b) (h:Dv D (r/(b:Rat))):Dv D r:=by
 have:=h.mul b
 rwa [Rat.div_mul_cancel (Jaz hb)] at this
def wsK (ws:List (Str × Int)):List (Key × V):=ws.map fun p=>(Sum.inr p.1, .int p.2)
theorem Jgt (n:Str):∀ ws:List (Str × Int),valV (wsK ws) (Sum.inr n)=(wtOf ws n).map V.int
 | []=>rfl
 | x::ws=>by
  have ih:=Jgt n ws;unfold wsK wtOf at ih ⊢;rw [map_cons,List.find?_cons];by_cases c:x.1=n
  ·rw [Jba (by rw [c]),decide_eq_true c];rfl
  ·rw [Jbf (fun z=>c (by injection z)),decide_eq_false c];exact ih
theorem Jje (ws:List (Str × Int)):(wsK ws).map (·.1)=(ws.map (·.1)).map Sum.inr:=by
 unfold wsK;rw [map_map,map_map];rfl
theorem Jjf (ws:List (Str × Int)):(wsK ws).map (·.2)=(ws.map (·.2)).map V.int:=by
 unfold wsK;rw [map_map,map_map];rfl
theorem JgM:∀ (ps acc:List (Str × V)),((acc++ps).map (·.1)).Nodup->ps.foldl (fun l p=>putK l (Sum.inr p.1) p.2) (acc.map fun p=>((Sum.inr p.1:Key),p.2))=(acc++ps).map fun p=>((Sum.inr p.1:Key),p.2)
 | [],acc,_=>by simp
 | p::ps,acc,h=>by
  have ea:acc++p::ps=(acc++[p])++ps:=by simp
  rw [List.foldl_cons];have nn:valV (acc.map fun p=>((Sum.inr p.1:Key),p.2)) (Sum.inr p.1)=none:=by
   cases e:valV (acc.map fun p=>((Sum.inr p.1:Key),p.2)) (Sum.inr p.1) with
   | none=>rfl
   | some v=>
    have:=JhO.mp (show (valV (acc.map fun p=>((Sum.inr p.1:Key),p.2)) (Sum.inr p.1)).isSome=true by rw [e];rfl);rw [map_map] at this;obtain ⟨q,hq,eq⟩:=mem_map.mp this;have eq:(Sum.inr q.1:Key)=Sum.inr p.1:=eq;have eq:q.1=p.1:=by injection eq
    rw [map_append,map_cons,nodup_append] at h;exact absurd rfl (h.2.2 p.1 (mem_map.mpr ⟨q,hq,eq⟩) p.1 (by simp))
  rw [Ji4 p.2 nn];have : (acc.map fun p=>((Sum.inr p.1:Key),p.2))++[(Sum.inr p.1,p.2)]=(acc++[p]).map fun p=>((Sum.inr p.1:Key),p.2):=by simp
  rw [this,JgM ps (acc++[p]) (by rw [<- ea];exact h),ea]
theorem Jh4 {ps:List (Str × V)} (h:(ps.map (·.1)).Nodup):JdF ps=ps.map fun p=>((Sum.inr p.1:Key),p.2):=by
 unfold JdF;exact (JgM ps [] (by simpa using h)).trans (by rw [nil_append])
structure LoInv (n:Int × Int) (q:Int) (t:Int × Int):Prop where
 lo:Lo t
 cr:t.1*(n.2*q)=n.1*t.2
 le1:t.1.natAbs<=n.1.natAbs
 le2:t.2.natAbs<=n.2.natAbs*q.natAbs
theorem LoInv.nil {n:Int × Int} (h:Lo n):LoInv n 1 n:=⟨h,by rw [Int.mul_one],Nat.le_refl _,by simp⟩
theorem LoInv.step {n t:Int × Int} {q f:Int} (h:LoInv n q t) (hf:1<=f):LoInv n (q*f) (t.1.fdiv (Mth.g t.1 f),t.2*f.fdiv (Mth.g t.1 f)):=by
 have w:0<Mth.g t.1 f:=Mth.g_pos ∅;have k:=Mth.Jcu t.1 f;have a:=Mth.JbH t.1 f;have j:=Mth.JaJ k ∅;have u:=Mth.JaJ a ∅;have o:=Mth.JcN (b:=t.1) (d:=f) rfl ∅;have v:=Mth.JbW a ∅ hf;have i:=Mth.JdP k ∅;have e:=Mth.JdP a ∅;have l:t.1.fdiv (Mth.g t.1 f)∣t.1:=⟨_,j.symm⟩;have p:Int.gcd (t.1.fdiv (Mth.g t.1 f)) t.2=1:=Mth.Jb2 (Mth.Jcc h.lo.g1) l;have c:=h.cr;have m:=h.lo.b1;generalize t.1.fdiv (Mth.g t.1 f)=r at *;generalize f.fdiv (Mth.g t.1 f)=f' at *;generalize Mth.g t.1 f=s at *;refine ⟨⟨Jbh m v,Mth.JdK (Mth.JbV p o)⟩,?_,?_,?_⟩
 ·show r*(n.2*(q*f))=n.1*(t.2*f');have : r*(n.2*(q*f))=(t.1*(n.2*q))*f':=by
   rw [<- j, <- u];simp only [Int.mul_assoc,Int.mul_comm,Int.mul_left_comm]
  rw [this,c,Int.mul_assoc]
 ·exact Nat.le_trans i h.le1
 ·show (t.2*f').natAbs<=n.2.natAbs*(q*f).natAbs;rw [Int.natAbs_mul,Int.natAbs_mul, <- Nat.mul_assoc];exact Nat.mul_le_mul h.le2 e
theorem LoInv.vl {n t:Int × Int} {q:Int} (h:LoInv n q t) (hn:1<=n.2) (hq:1<=q):vl t=vl n/(q:Rat):=by
 have f:=Jaz hn;have g:=Jaz h.lo.b1;have i:=Jaz hq;have e:(t.1:Rat)*((n.2:Rat)*(q:Rat))=(n.1:Rat)*(t.2:Rat):=by exact_mod_cast h.cr
 unfold L2.vl;generalize (t.1:Rat)=a at *;generalize (t.2:Rat)=b at *;generalize (n.1:Rat)=c at *;generalize (n.2:Rat)=d at *;generalize (q:Rat)=q at *;grind
def stF (ms:List (Str × (Int × Int))) (lds:List LidD) (S:List Str):List ((Int × Int) × List Str) :=
 (ms.filter fun m=>decide (m.1∉S)).map (fun m=>(m.2,[m.1]))++(lds.filter fun e=>decide (0<e.load)).map fun e=>(divF e.rest (e.load,1),(e.ws.map (·.1)).filter fun n=>decide (n∉S))
def StV (K:W.Frag) (H:Hp) (s:(Int × Int) × List Str) (x:V):Prop:=∃ t v l,x=.ref t/\SqT K H t [v, .ref l]/\FrV K H v s.1.1 s.1.2/\H l=some (.lst (s.2.map V.str))
theorem StV.same {K:W.Frag} {H H':Hp} {s:(Int × Int) × List Str} {x:V} (S:Same H H'):StV K H s x->StV K H' s x:=by rintro ⟨t,v,l,b,a,c,d⟩;exact ⟨t,v,l,b,a.same S,c.same S,S _ _ d⟩
def NFV (K:W.Frag) (H:Hp) (a:Str × (Int × Int)) (x:V):Prop:=FrV K H x a.2.1 a.2.2
theorem NFV.sameT {K:W.Frag} {H H':Hp} {a:Str × (Int × Int)} {x:V} (S:SameT H H') (h:NFV K H a x):NFV K H' a x:=FrV.sameT S h
def thw (d:Addr) (kv:List (Key × V)) (H:Hp):Hp:=upd H d (.dK kv)
section
variable {H H':Hp} {d a:Addr} {od:Obj} {kv kw:List (Key × V)} {k:Key}
theorem Jiu (h:H d=some (.dK kv)):thw d kv (upd H d (.frz od (.dK kv)))=H:=by
 funext b
 unfold thw;by_cases c:b=d
 ·subst c;rw [Jaj,h]
 ·rw [Jag c,Jag c]
theorem Jfl (S:Same H H'):Same (thw d kv H) (thw d kv H'):=fun b u h=>by
 unfold thw at h ⊢;by_cases c:b=d
 ·subst c;rw [Jaj] at h ⊢;exact h
 ·rw [Jag c] at h ⊢;exact S _ _ h
theorem Jiv (hd:H d=some (.frz od (.dK kv))) (ha:thw d kv H a=some (.dK kw)):DGet H a (kV k) (valV kw k):=by
 unfold thw at ha;by_cases c:a=d
 ·subst c;rw [Jaj] at ha;cases ha;exact DGet.f hd
 ·rw [Jag c] at ha;exact DGet.k ha
theorem Jfk (hd:H d=some (.frz od (.dK kv))) (ha:H a=none):thw d kv H a=none:=by
 unfold thw;rw [Jag (fun z=>by rw [z,hd] at ha;cases ha)];exact ha
end
theorem StV.cut {K:W.Frag} {H:Hp} {s:(Int × Int) × List Str} {x:V} {p:Addr} (h:StV K (cut p H) s x):StV K H s x:=h.same Jc4
structure SHC (ls:List PD) (es:List (GD × List Str)) (pl:Str->Int × Int):Prop where
 l12:ls.length<=12
 l7:es.length<=7
 l14:ls.length+es.length<=14
 nd:(ls.map (·.nm)).Nodup
 gn:∀ e∈es, ∀ u∈es.map (·.1),u.nm=e.1.nm->u=e.1
 pok:∀ p∈ls,POk p
 pb:∀ p∈ls,(1<=p.sz.2/\Mth.Sz 70 p.sz.2)/\FB 200 12 p.mo
 wt:∀ p∈ls,Mth.Sz 21 p.wt
 tok:∀ e∈es,TOk e.1.td
 gb:∀ e∈es,(1<=e.1.lo.2/\Mth.Sz 70 e.1.lo.2)/\1<=e.1.hi.2/\Mth.Sz 70 e.1.hi.2
 rb:∀ e∈es,FB 200 16 (roomF pl e.1)
 plb:∀ f,FB 302 161 (pl f)
 pls:∀ p∈ls,vl (pl p.en)=vl (pl p.st)+vl p.sz
 way:∀ e∈es, ∀ w:List Pr,Jbj ls e.1.st w e.1.en->(w.map (·.1)).Nodup->e.2.Perm (w.map (·.1))
structure LSt (b:Int) (ls:List PD) (pl:Str->Int × Int) (e:GD × List Str) (l:LidD):Prop where
 nm:l.nm=e.1.nm
 rest:vl l.rest=vl (roomF pl e.1)*(b:Rat)
 fb:FB 2200 16 l.rest
 pm:(l.ws.map (·.1)).Perm e.2
 nd:(l.ws.map (·.1)).Nodup
 wt:∀ x∈l.ws, ∃ p∈ls,p.nm=x.1/\p.wt=x.2
 load:l.load=(l.ws.map (·.2)).sum
 last:l.last=(0,1)
structure MSt (b:Int) (p:PD) (m:Str × (Int × Int)):Prop where
 nm:m.1=p.nm
 vl:L2.vl m.2=L2.vl p.mo*(b:Rat)/(p.wt:Rat)
 fb:FB 2200 33 m.2
theorem JgU {H:Hp} {d a:Addr} {od:Obj} {kv:List (Key × V)} {u:HO} (hd:H d=some (.frz od (.dK kv))) (ha:H a=some u) (hu:∀ o w,u≠.frz o w):thw d kv H a=some u:=by
 unfold thw;rw [Jag (fun z=>by rw [z,hd] at ha;cases ha;exact hu _ _ rfl)];exact ha
theorem JgC {β : Type}:∀ {ls:List (Str × β)} {p q:Str × β},(ls.map (·.1)).Nodup->p∈ls->q∈ls->p.1=q.1->p=q
 | [],_,_,_,hp,_,_=>by cases hp
 | a::ls,p,q,hn,hp,hq,e=>by
  rw [map_cons,nodup_cons] at hn;rcases mem_cons.mp hp with h1 | h1 <;> rcases mem_cons.mp hq with h2 | h2
  ·rw [h1,h2]
  ·subst h1;exact absurd (e ▸ mem_map.mpr ⟨q,h2,rfl⟩) hn.1
  ·subst h2;exact absurd (e ▸ mem_map.mpr ⟨p,h1,rfl⟩) hn.1
  ·exact JgC hn.2 h1 h2 e
theorem BG.keysS {P:(Str × (Int × Int))->V->Prop} {as:List (Str × (Int × Int))} {kvs:List (Key × V)} (h:BG (·.1) P as kvs):kvs.map (·.1)=(as.map (·.1)).map Sum.inr:=by
 rw [h.1,map_map];rfl
structure RC (b Q:Int) (N:List Str) (w M:Str->Rat) (gs:List Gp) (ms:List (Str × (Int × Int))):Prop where
 b1:1<=b
 nm:ms.map (·.1)=N
 nd:N.Nodup
 l12:N.length<=12
 wt:∀ n∈N, ∃ k:Int,w n=(k:Rat)/\1<=k/\Mth.Sz 21 k
 ml:∀ m∈ms,vl m.2=M m.1/\FB 2200 33 m.2/\0<=M m.1
 gw:∀ g∈gs,(∀ n∈g.way,n∈N)/\g.way.Nodup/\0<=g.R/\g.R<=(Q:Rat)
 mq:∀ n∈N,M n<=(Q:Rat)
 sQ:Mth.Sz 2200 Q
def LOks (w:Str->Rat) (lvs:List (Str × (Int × Int))) (gs:List Gp) (lds:List LidD):Prop:=lds.length=gs.length/\∀ (i:Nat) g e,gs[i]?=some g->lds[i]?=some e->LidOk w g lvs e
structure RB (b:Int) (N:List Str) (w M:Str->Rat) (gs:List Gp) (k:Nat) (lvs:List (Str × (Int × Int))) (D:Int):Prop where
 D1:1<=D
 sD:Mth.Sz (230+25*k) D
 dl:∀ x∈lvs,Dv D (vl x.2/(b:Rat))
 dr:∀ g∈gs,Dv D (g.R/(b:Rat))
 dm:∀ n∈N,Dv D (M n/(b:Rat)*w n)
structure RSt (b:Int) (N:List Str) (w M:Str->Rat) (gs:List Gp) (lvs:List (Str × (Int × Int))) (lds:List LidD):Prop where
 inv:∃ L,RInv N w M gs lvs (vl L)
 ok:LOks w lvs gs lds
 bt:∃ D,RB b N w M gs lvs.length lvs D
 lo:∀ x∈lvs,Lo x.2
structure RMd (b:Int) (N:List Str) (w M:Str->Rat) (gs:List Gp) (L:Int × Int) (D:Int) (k:Nat) (lvs:List (Str × (Int × Int))) (lds:List LidD):Prop where
 inv:SInv N w gs lvs L
 ok:LOks w lvs gs lds
 bt:RB b N w M gs k lvs D
 k12:k<=12
 dL:Dv D (vl L/(b:Rat))
 fL:FB 3000 1000 L
section
variable {b Q:Int} {N:List Str} {w M:Str->Rat} {gs:List Gp} {ms lvs:List (Str × (Int × Int))} {lds:List LidD} {L:Int × Int} {ns:List Str} {D:Int} {k:Nat}
theorem LOks.fwd (h:LOks w lvs gs lds) {g:Gp} (hg:g∈gs):∃ e∈lds,LidOk w g lvs e:=by
 obtain ⟨i,b⟩:=List.getElem?_of_mem hg;have c:=(List.getElem?_eq_some_iff.mp b).1;have a:i<lds.length:=by rw [h.1];exact c
 exact ⟨lds[i],List.getElem_mem a,h.2 i g _ b (List.getElem?_eq_getElem a)⟩
theorem LOks.bwd (h:LOks w lvs gs lds) {e:LidD} (he:e∈lds):∃ g∈gs,LidOk w g lvs e:=by
 obtain ⟨i,b⟩:=List.getElem?_of_mem he;have c:=(List.getElem?_eq_some_iff.mp b).1;have a:i<gs.length:=by rw [<- h.1];exact c
 exact ⟨gs[i],List.getElem_mem a,h.2 i _ e (List.getElem?_eq_getElem a) b⟩
theorem RC.wpos (hc:RC b Q N w M gs ms):∀ n∈N,0<w n:=fun n a=>by
 obtain ⟨k,c,d,_⟩:=hc.wt n a;rw [c];exact_mod_cast (show 0<k by ac_nf)
theorem RInv.s (h:RInv N w M gs lvs (vl L)):SInv N w gs lvs L:=⟨h.nd,h.sub,fun x b=>⟨(h.a x b).1,(h.a x b).2.1⟩,h.c0,h.cc⟩
theorem Jgo (hc:RC b Q N w M gs ms) (hi:SInv N w gs lvs L) (hb:RB b N w M gs k lvs D) (k12:k<=13) {g:Gp} (hg:g∈gs) {e:LidD} (he:LidOk w g lvs e):FB 2800 600 e.rest:=by
 have a:=hi.range hc.wpos (fun g hg=>(hc.gw g hg).1) hg;have c:=hc.gw g hg;have d:=(JhD (hb.dr g hg) (fun n f=>by obtain ⟨k,h,_⟩:=hc.wt n (c.1 n f);exact ⟨k,h⟩) hb.dl hi.nd).up hc.b1;rw [<- he.rest] at d a;exact d.fb (m:=2200) (n:=600) he.low.b1 he.low.g1 hb.D1 (hb.sD.mono ∅) a.1 (Rat.le_trans a.2 c.2.2.2) hc.sQ
theorem Jio {a:Str->Rat} {B:Int} (hB:0<=B):∀ {l:List Str} {n:Nat},(∀ q∈l,a q<=(B:Rat))->l.length<=n->sm a l<=((B*n:Int):Rat)
 | [],n,_,_=>by
  have : 0<=B*(n:Int):=Int.mul_nonneg hB ∅;simp only [sm];exact_mod_cast this
 | q::l,0,_,h=>by simp at h
 | q::l,n+1,h,hl=>by
  have h1:=h q (by simp);have h2:=Jio hB (l:=l) (n:=n) (fun r hr=>h r (by simp [hr])) (by simpa using hl);have e:((B*((n+1:Nat):Int):Int):Rat)=(B:Rat)+((B*(n:Int):Int):Rat):=by
   have : B*((n+1:Nat):Int)=B+B*(n:Int):=by push_cast;rw [Int.mul_add,Int.mul_one,Int.add_comm]
   rw [this];push_cast;rfl
  simp only [sm];rw [e];grind
theorem JiC (hc:RC b Q N w M gs ms) {g:Gp} (hg:g∈gs):g.way.length<=12:=Nat.le_trans (sub_len _ _ (hc.gw g hg).2.1 (hc.gw g hg).1) hc.l12
theorem Jf8 (hc:RC b Q N w M gs ms) {g:Gp} (hg:g∈gs) {e:LidD} (he:LidOk w g lvs e):0<=e.load/\Mth.Sz 25 e.load:=by
 have d:=hc.gw g hg;have a:=sm_nn (JdV (lvs:=lvs) hc.wpos d.1);obtain ⟨B,l⟩:∃ B:Int,B=2097152:=⟨_,rfl⟩;have B0:0<=B:=by ac_nf
 have c:sm (left lvs w) g.way<=((B*(12:Nat):Int):Rat):=Jio B0 (fun q f=>by
  obtain ⟨k,i,h,j⟩:=hc.wt q (d.1 q f);have : k<=B:=by unfold Mth.Sz at j;ac_nf
  have : (k:Rat)<=(B:Rat):=by exact_mod_cast this
  unfold left;split
  ·exact_mod_cast B0
  ·rw [i];exact this) (JiC hc hg)
 rw [<- he.load] at a c;have a:0<=e.load:=by exact_mod_cast a
 have c:e.load<=B*(12:Nat):=Rat.intCast_le_intCast.mp c;refine ⟨a,?_⟩;unfold Mth.Sz;ac_nf
theorem JcI {S:List Str} {s:(Int × Int) × List Str}:s∈stF ms lds S↔(∃ m∈ms,m.1∉S/\s=(m.2,[m.1]))\/∃ e∈lds,0<e.load/\s=(divF e.rest (e.load,1),(e.ws.map (·.1)).filter fun n=>decide (n∉S)):=by
 unfold stF;rw [mem_append,mem_map,mem_map];constructor
 ·rintro (⟨m,a,rfl⟩ | ⟨e,b,rfl⟩)
  ·have:=mem_filter.mp a;exact .inl ⟨m,this.1,by simpa using this.2,rfl⟩
  ·have:=mem_filter.mp b;exact .inr ⟨e,this.1,by simpa using this.2,rfl⟩
 ·rintro (⟨m,a,h,rfl⟩ | ⟨e,b,h,rfl⟩)
  ·exact .inl ⟨m,mem_filter.mpr ⟨a,by simpa using h⟩,rfl⟩
  ·exact .inr ⟨e,mem_filter.mpr ⟨b,by simpa using h⟩,rfl⟩
theorem RSt.len (hc:RC b Q N w M gs ms) (h:RSt b N w M gs lvs lds):lvs.length<=N.length:=by
 obtain ⟨L,a⟩:=h.inv;have:=sub_len _ _ a.nd a.sub;simpa using this
theorem RSt.all (hc:RC b Q N w M gs ms) (h:RSt b N w M gs lvs lds) (hl:N.length<=lvs.length):∀ n∈N,n∈lvs.map (·.1):=by
 obtain ⟨L,c⟩:=h.inv;intro n d;refine Classical.byContradiction fun z=>?_;have:=sub_len (n::lvs.map (·.1)) N (nodup_cons.mpr ⟨z,c.nd⟩) (fun q a=>by
  rcases mem_cons.mp a with e | a
  ·rw [e];exact d
  ·exact c.sub q a)
 simp at this;ac_nf
theorem RSt.lids (hc:RC b Q N w M gs ms) (h:RSt b N w M gs lvs lds):∀ e∈lds,FB 3000 1000 e.rest/\Mth.Sz 64 e.load/\e.ws.length<=12:=by
 intro e i;obtain ⟨L,j⟩:=h.inv;obtain ⟨D,d⟩:=h.bt;obtain ⟨g,a,c⟩:=h.ok.bwd i;have f:=Jgo hc j.s d (by have:=h.len hc;have:=hc.l12;ac_nf) a c;refine ⟨⟨f.s1.mono ⋯,f.s2.mono ⋯,f.b1,f.g1⟩,(Jf8 hc a c).2.mono ⋯,?_⟩;have:=c.pm.length_eq;rw [length_map] at this;rw [this];exact JiC hc a
theorem RSt.some (hc:RC b Q N w M gs ms) (h:RSt b N w M gs lvs lds) (hl:lvs.length<N.length):stF ms lds (lvs.map (·.1))≠[]:=by
 intro z;have : ∀ n∈N,n∈lvs.map (·.1):=fun n a=>by
  rw [<- hc.nm] at a;obtain ⟨m,d,rfl⟩:=mem_map.mp a;refine Classical.byContradiction fun y=>?_;have : ((m.2,[m.1]):(Int × Int) × List Str)∈stF ms lds (lvs.map (·.1)):=JcI.mpr (.inl ⟨m,d,y,rfl⟩);rw [z] at this;cases this
 have:=sub_len N (lvs.map (·.1)) hc.nd (fun q c=>this q c);simp at this;ac_nf
theorem RSt.stops (hc:RC b Q N w M gs ms) (h:RSt b N w M gs lvs lds):∀ s∈stF ms lds (lvs.map (·.1)),FB 3000 1000 s.1/\∀ n∈s.2,n∈N/\n∉lvs.map (·.1):=by
 intro s j;rcases JcI.mp j with ⟨m,hm,hS,rfl⟩ | ⟨e,he,hl,rfl⟩
 ·have f:=(hc.ml m hm).2.1;refine ⟨⟨f.s1.mono ⋯,f.s2.mono ⋯,f.b1,f.g1⟩,fun n c=>?_⟩;rw [mem_singleton.mp c];exact ⟨hc.nm ▸ mem_map.mpr ⟨m,hm,rfl⟩,hS⟩
 ·obtain ⟨L,k⟩:=h.inv;obtain ⟨D,i⟩:=h.bt;obtain ⟨g,a,d⟩:=h.ok.bwd he;have f:=Jgo hc k.s i (by have:=h.len hc;have:=hc.l12;ac_nf) a d;have z:=Jf8 hc a d;refine ⟨?_,fun n c=>?_⟩
  ·refine FB.low (Jbh f.b1 ∅) ?_ ?_
   ·show Mth.Sz 3000 (e.rest.1*1);rw [Int.mul_one];exact f.s1.mono ⋯
   ·exact (f.s2.mul z.2).mono ⋯
  ·have:=mem_filter.mp c;exact ⟨(hc.gw g a).1 n (d.pm.mem_iff.mp this.1),by simpa using this.2⟩
theorem RSt.first (hc:RC b Q N w M gs ms) (h:RSt b N w M gs lvs lds) (hlt:lvs.length<N.length) (hL:L∈(stF ms lds (lvs.map (·.1))).map (·.1)) (hmin:∀ s∈stF ms lds (lvs.map (·.1)),vl L<=vl s.1) (hnd:ns.Nodup) (hns:∀ n,n∈ns↔∃ s∈stF ms lds (lvs.map (·.1)),s.1=L/\n∈s.2) :
  ns≠[]/\(∀ n∈ns,n∈N/\n∉lvs.map (·.1))/\RInv N w M gs (lvs++ns.map fun n=>(n,L)) (vl L)/\∃ D,RMd b N w M gs L D (lvs.length+1) lvs lds:=by
 obtain ⟨L0,A⟩:=h.inv;obtain ⟨D,B⟩:=h.bt;have S:=h.stops hc;obtain ⟨s0,H,u⟩:=mem_map.mp hL;have V:FB 3000 1000 L:=u ▸ (S s0 H).1;have wp:=hc.wpos;have O:=fun (g:Gp) (c:g∈gs)=>(hc.gw g c).1;have U:∀ n∈N,n∉lvs.map (·.1)->vl L<=M n:=fun n f o=>by
  rw [<- hc.nm] at f;obtain ⟨m,i,rfl⟩:=mem_map.mp f;have:=hmin _ (JcI.mpr (.inl ⟨m,i,o,rfl⟩));rw [<- (hc.ml m i).1];exact this
 have K:∀ e g,g∈gs->LidOk w g lvs e->0<e.load->vl (divF e.rest (e.load,1))*sm (left lvs w) g.way=g.R-sm (used lvs w) g.way:=fun e g c d j=>by
  rw [JjA d.low.b1 (by show 1<=e.load;ac_nf) (Int.le_refl 1),JfU, <- d.load, <- d.rest];exact Rat.div_mul_cancel (Jaz ∅)
 have G:∀ g∈gs,0<sm (left lvs w) g.way->vl L*sm (left lvs w) g.way<=g.R-sm (used lvs w) g.way:=fun g c l=>by
  obtain ⟨e,E,d⟩:=h.ok.fwd c;have j:0<e.load:=by rw [<- d.load] at l;exact_mod_cast l
  have:=hmin _ (JcI.mpr (.inr ⟨e,E,j,rfl⟩));rw [<- K e g c d j];exact Rat.mul_le_mul_of_nonneg_right this (Rat.le_of_lt l)
 have key:∀ n,n∈ns↔n∈N/\n∉lvs.map (·.1)/\(M n=vl L\/∃ g∈gs,n∈g.way/\0<sm (left lvs w) g.way/\vl L*sm (left lvs w) g.way=g.R-sm (used lvs w) g.way):=fun n=>by
  rw [hns n];constructor
  ·rintro ⟨s,F,Z,X⟩;have I:=(S s F).2 n X;refine ⟨I.1,I.2,?_⟩;rcases JcI.mp F with ⟨m,i,o,rfl⟩ | ⟨e,E,j,rfl⟩
   ·left
    rw [mem_singleton.mp X, <- Z];exact (hc.ml m i).1.symm
   ·right
    obtain ⟨g,c,d⟩:=h.ok.bwd E;refine ⟨g,c,d.pm.mem_iff.mp (mem_filter.mp X).1,?_,?_⟩
    ·rw [<- d.load];exact_mod_cast j
    ·rw [<- Z];exact K e g c d j
  ·rintro ⟨f,o,e | ⟨g,c,hw,l,e⟩⟩
   ·rw [<- hc.nm] at f;obtain ⟨m,i,rfl⟩:=mem_map.mp f;exact ⟨_,JcI.mpr (.inl ⟨m,i,o,rfl⟩),(hc.ml m i).2.1.lo.inj V.lo ((hc.ml m i).1.trans e),by simp⟩
   ·obtain ⟨r,E,d⟩:=h.ok.fwd c;have j:0<r.load:=by rw [<- d.load] at l;exact_mod_cast l
    have i:((divF r.rest (r.load,1),(r.ws.map (·.1)).filter fun n=>decide (n∉lvs.map (·.1))):(Int × Int) × List Str)∈stF ms lds (lvs.map (·.1)):=JcI.mpr (.inr ⟨r,E,j,rfl⟩);refine ⟨_,i,(S _ i).1.lo.inj V.lo ?_,mem_filter.mpr ⟨d.pm.mem_iff.mpr hw,by simpa using o⟩⟩;have:=K r g c d j;rw [<- e] at this;have p':sm (left lvs w) g.way≠0:=fun z=>by rw [z] at l;exact absurd l ⋯
    show vl (divF r.rest (r.load,1))=vl L;grind
 have t:(∃ n∈N,n∉lvs.map (·.1)/\M n=vl L)\/∃ g∈gs,0<sm (left lvs w) g.way/\vl L*sm (left lvs w) g.way=g.R-sm (used lvs w) g.way/\∃ e:LidD,LidOk w g lvs e/\0<e.load/\L=divF e.rest (e.load,1):=by
  rcases JcI.mp H with ⟨m,i,o,rfl⟩ | ⟨e,E,j,rfl⟩
  ·exact .inl ⟨m.1,hc.nm ▸ mem_map.mpr ⟨m,i,rfl⟩,o,by rw [<- u];exact (hc.ml m i).1.symm⟩
  ·obtain ⟨g,c,d⟩:=h.ok.bwd E;refine .inr ⟨g,c,?_,by rw [<- u];exact K e g c d j,e,d,j,u.symm⟩;rw [<- d.load];exact_mod_cast j
 have C:vl L0<=vl L:=A.le (t.imp id fun ⟨g,c,T,W,_⟩=>⟨g,c,T,W⟩);have ne:ns≠[]:=fun z=>by
  rcases t with ⟨n,f,o,e⟩ | ⟨g,c,l,e,_⟩
  ·have:=(key n).mpr ⟨f,o, .inl e⟩;rw [z] at this;cases this
  ·have : ∃ n∈g.way,n∉lvs.map (·.1):=Classical.byContradiction fun y=>by
    rw [JcV (a:=left lvs w) fun q hq=>if_pos (Classical.byContradiction fun v=>y ⟨q,hq,v⟩)] at l;exact absurd l ⋯
   obtain ⟨n,f,o⟩:=this;have:=(key n).mpr ⟨O g c n f,o, .inr ⟨g,c,f,l,e⟩⟩;rw [z] at this;cases this
 refine ⟨ne,fun n f=>⟨((key n).mp f).1,((key n).mp f).2.1⟩,A.round wp O hnd U G key C,?_⟩;have si:SInv N w gs lvs L:=by
  refine ⟨A.nd,A.sub,fun x P=>⟨(A.a x P).1,Rat.le_trans (A.a x P).2.1 C⟩,Rat.le_trans A.c0 C,fun g c=>?_⟩;by_cases p:0<sm (left lvs w) g.way
  ·exact G g c p
  ·have e0:sm (left lvs w) g.way=0:=by have:=sm_nn (JdV (lvs:=lvs) wp (O g c));grind
   have:=A.cc g c;rw [e0] at this ⊢;grind
 obtain ⟨k,k1,ks,J⟩:∃ k:Int,1<=k/\Mth.Sz 25 k/\Dv D (vl L/(b:Rat)*(k:Rat)):=by
  rcases t with ⟨n,f,o,e⟩ | ⟨g,c,l,e,r,d,j,eL⟩
  ·obtain ⟨k,J,T,W⟩:=hc.wt n f;refine ⟨k,T,W.mono ⋯,?_⟩;have:=B.dm n f;rw [e,J] at this;exact this
  ·refine ⟨r.load,by ac_nf,(Jf8 hc c d).2,?_⟩;have Y:=JhD (B.dr g c) (fun n f=>by obtain ⟨k,J,_⟩:=hc.wt n (O g c n f);exact ⟨k,J⟩) B.dl A.nd;rw [<- e, <- d.load] at Y;have : vl L/(b:Rat)*(r.load:Rat)=vl L*(r.load:Rat)/(b:Rat):=by grind
   rw [this];exact Y
 refine ⟨D*k,si,h.ok,⟨Jbh B.D1 k1,?_,fun x P=>(B.dl x P).more k,fun g c=>(B.dr g c).more k,fun n f=>(B.dm n f).more k⟩,by have:=hc.l12;ac_nf,J.over k1,V⟩;have:=B.sD.mul ks;rw [show 230+25*(lvs.length+1)=230+25*lvs.length+25 by ac_nf];exact this
theorem RMd.rest (hc:RC b Q N w M gs ms) (h:RMd b N w M gs L D k lvs lds):∀ e∈lds,FB 3000 1000 e.rest/\∀ x∈e.ws,Mth.Sz 64 x.2:=by
 intro e m;obtain ⟨g,d,a⟩:=h.ok.bwd m;have f:=Jgo hc h.inv h.bt (by have:=h.k12;ac_nf) d a;refine ⟨⟨f.s1.mono ⋯,f.s2.mono ⋯,f.b1,f.g1⟩,fun x i=>?_⟩;have c:x.1∈N:=(hc.gw g d).1 _ (a.pm.mem_iff.mp (mem_map.mpr ⟨x,i,rfl⟩));obtain ⟨k,j,_,l⟩:=hc.wt _ c;have:=(a.wt x i).1;rw [j] at this;have : k=x.2:=by exact_mod_cast this
 rw [<- this];exact l.mono ⋯
theorem RMd.step (hc:RC b Q N w M gs ms) (h:RMd b N w M gs L D k lvs lds) {n:Str} (hn:n∈N) (hS:n∉lvs.map (·.1)):RMd b N w M gs L D k (lvs++[(n,L)]) (lds.map fun e=>e.settle n L):=by
 refine ⟨h.inv.step (fun g d=>(hc.gw g d).2.1) hn hS,⟨by rw [length_map];exact h.ok.1,fun i g e d j=>?_⟩,⟨h.bt.D1,h.bt.sD,fun x c=>?_,h.bt.dr,h.bt.dm⟩,h.k12,h.dL,h.fL⟩
 ·rw [List.getElem?_map] at j;obtain ⟨l,f,rfl⟩:=Option.map_eq_some_iff.mp j;exact (h.ok.2 i g l d f).settle h.inv.nd hS h.fL.lo fun x c=>(h.inv.a x c).2
 ·rcases mem_append.mp c with c | c
  ·exact h.bt.dl x c
  ·rw [mem_singleton.mp c];exact h.dL
theorem RMd.next (hc:RC b Q N w M gs ms) (h:RMd b N w M gs L D k (lvs++ns.map fun n=>(n,L)) lds) (hi:RInv N w M gs (lvs++ns.map fun n=>(n,L)) (vl L)) (hlo:∀ x∈lvs,Lo x.2) (hk:k<=lvs.length+ns.length):RSt b N w M gs (lvs++ns.map fun n=>(n,L)) lds:=by
 refine ⟨⟨L,hi⟩,h.ok,⟨D,h.bt.D1,h.bt.sD.mono (by simp;ac_nf),h.bt.dl,h.bt.dr,h.bt.dm⟩,fun x a=>?_⟩;rcases mem_append.mp a with a | a
 ·exact hlo x a
 ·obtain ⟨n,_,rfl⟩:=mem_map.mp a;exact h.fL.lo
end
theorem All2.put {α : Type} {P P' : α->V->Prop}:∀ {as:List α} {xs:List V} {j:Nat} {a' : α} {x:V},All2 P as xs->xs[j]?=some x->P' a' x->(∀ (i:Nat) a y,i≠j->as[i]?=some a->xs[i]?=some y->P a y->P' a y)->All2 P' (as.set j a') xs
 | [],xs,j,a',x,h,hx,_,_=>by
  have h:xs=[]:=h;subst h;cases hx
 | a::as,xs,0,a',x,h,hx,p,m=>by
  obtain ⟨y,r,rfl,h1,h2⟩:=h;have hx:y=x:=by simpa using hx
  subst hx;refine ⟨y,r,rfl,p,?_⟩;have go:∀ {as:List α} {r:List V},All2 P as r->(∀ (i:Nat) a y,as[i]?=some a->r[i]?=some y->P a y->P' a y)->All2 P' as r:=by
   intro as;induction as with
   | nil=>intro r h _;exact h
   | cons b bs ih=>
    intro r h m;obtain ⟨z,t,rfl,h1,h2⟩:=h;exact ⟨z,t,rfl,m 0 b z rfl rfl h1,ih h2 fun i a y ha hy=>m (i+1) a y (by simpa using ha) (by simpa using hy)⟩
  exact go h2 fun i a y ha hy=>m (i+1) a y ∅ (by simpa using ha) (by simpa using hy)
 | a::as,xs,j+1,a',x,h,hx,p,m=>by
  obtain ⟨y,r,rfl,h1,h2⟩:=h;refine ⟨y,r,rfl,m 0 a y ∅ rfl rfl h1,All2.put h2 (by simpa using hx) p fun i a y ne ha hy=>m (i+1) a y ∅ (by simpa using ha) (by simpa using hy)⟩
theorem JjV {α : Type} {f : α->α} {ls:List α} {j:Nat}:((ls.take j).map f++ls.drop j)[j]?=ls[j]?:=by
 by_cases c:j<=ls.length
 ·have e:((ls.take j).map f).length=j:=by rw [length_map,length_take];ac_nf
  rw [List.getElem?_append_right ∅,e,List.getElem?_drop];simp
 ·have e:((ls.take j).map f++ls.drop j).length<=j:=by simp;ac_nf
  rw [List.getElem?_eq_none e,List.getElem?_eq_none ∅]
theorem JgE {α : Type} {f : α->α}:∀ {ls:List α} {j:Nat} {e : α},ls[j]?=some e->((ls.take j).map f++ls.drop j).set j (f e)=(ls.take (j+1)).map f++ls.drop (j+1)
 | [],j,e,h=>by simp at h
 | a::ls,0,e,h=>by
  have h:a=e:=by simpa using h
  subst h;simp
 | a::ls,j+1,e,h=>by
  have:=JgE (f:=f) (ls:=ls) (j:=j) (e:=e) (by simpa using h);simp only [List.take_succ_cons,map_cons,List.drop_succ_cons,cons_append,List.set_cons_succ,this]
theorem JiE {α : Type} {ns:List α} {i:Nat} {n : α} (h:ns.Nodup) (hn:ns[i]?=some n):n∉ns.take i:=by
 intro z;rw [<- List.take_append_drop i ns,nodup_append] at h;refine h.2.2 n z n (List.mem_of_getElem? (i:=0) ?_) rfl;rw [List.getElem?_drop];exact hn
theorem Jil {e:LidD} {n:Str} {L:Int × Int}:(e.settle n L).nm=e.nm:=by
 unfold LidD.settle;split <;> rfl
theorem Jhm {ls:List LidD} {n:Str} {L:Int × Int}:(ls.map fun e=>e.settle n L).map (·.nm)=ls.map (·.nm):=by
 rw [map_map];exact List.map_congr_left fun e _=>Jil
structure ShD where
 nm:Str
 sl:Int × Int
 sp:Option Str
def wtF (ls:List PD) (n:Str):Rat:=((ls.find? fun p=>decide (p.nm=n)).map fun p=>(p.wt:Rat)).getD 0
def moF (ls:List PD) (n:Str):Rat:=((ls.find? fun p=>decide (p.nm=n)).map fun p=>vl p.mo/(p.wt:Rat)).getD 0
def gpF (es:List (GD × List Str)) (pl:Str->Int × Int):List Gp:=es.map fun e=>⟨vl (roomF pl e.1),e.2⟩
def gpB (b:Int) (es:List (GD × List Str)) (pl:Str->Int × Int):List Gp:=es.map fun e=>⟨vl (roomF pl e.1)*(b:Rat),e.2⟩
def stp (w f:Str->Rat) (pl:Str->Int × Int) (n:Str) (e:GD × List Str):Bool:=decide (n∈e.2)&&(decide (sm (fun q=>f q*w q) e.2=vl (roomF pl e.1))&&decide (∀ q∈e.2,f q<=f n))
structure ShRow (ls:List PD) (es:List (GD × List Str)) (pl:Str->Int × Int) (f:Str->Rat) (p:PD) (r:ShD):Prop where
 nm:r.nm=p.nm
 lo:Lo r.sl
 val:vl r.sl=f p.nm*(p.wt:Rat)
 sp:(r.sl=p.mo/\r.sp=none)\/(r.sl≠p.mo/\∃ e,es.find? (stp (wtF ls) f pl p.nm)=some e/\r.sp=some e.1.nm)
structure ShF (ls:List PD) (es:List (GD × List Str)) (pl:Str->Int × Int) (f:Str->Rat) (D:Int):Prop where
 sub:∀ e∈es,(∀ n∈e.2,n∈ls.map (·.nm))/\e.2.Nodup
 fair:Fair (ls.map (·.nm)) (wtF ls) (moF ls) (gpF es pl) f
 D1:1<=D
 sD:Mth.Sz 600 D
 dv:∀ n∈ls.map (·.nm),Dv D (f n)
structure ShR (ls:List PD) (es:List (GD × List Str)) (pl:Str->Int × Int) (rs:List ShD):Prop where
 len:rs.length=ls.length
 ex:∃ f D,ShF ls es pl f D/\∀ (i:Nat) p r,ls[i]?=some p->rs[i]?=some r->ShRow ls es pl f p r
theorem Jf5:∀ {ls:List PD} {p:PD},(ls.map (·.nm)).Nodup->p∈ls->ls.find? (fun q=>decide (q.nm=p.nm))=some p
 | [],_,_,h=>by cases h
 | a::ls,p,hn,h=>by
  rw [map_cons,nodup_cons] at hn;rw [List.find?_cons];rcases mem_cons.mp h with e | h
  ·subst e;simp
  ·have : a.nm≠p.nm:=fun z=>hn.1 (z ▸ mem_map.mpr ⟨p,h,rfl⟩);rw [decide_eq_false this];exact Jf5 hn.2 h
section
variable {ls:List PD} {es:List (GD × List Str)} {pl:Str->Int × Int} {p:PD} {f f':Str->Rat} {rs rs':List ShD}
theorem JdG (hn:(ls.map (·.nm)).Nodup) (hp:p∈ls):wtF ls p.nm=(p.wt:Rat):=by
 unfold wtF;rw [Jf5 hn hp];rfl
theorem JdZ (hn:(ls.map (·.nm)).Nodup) (hp:p∈ls):moF ls p.nm=vl p.mo/(p.wt:Rat):=by
 unfold moF;rw [Jf5 hn hp];rfl
theorem JkF (hn:(ls.map (·.nm)).Nodup) (hk:∀ p∈ls,1<=p.wt):∀ n∈ls.map (·.nm),0<wtF ls n:=fun n h=>by
 obtain ⟨p,a,rfl⟩:=mem_map.mp h;rw [JdG hn a];have:=hk p a;exact_mod_cast (show 0<p.wt by ac_nf)
theorem JeR {g:Gp} (h:g∈gpF es pl):∃ e∈es,g=⟨vl (roomF pl e.1),e.2⟩:=by
 obtain ⟨e,a,rfl⟩:=mem_map.mp h;exact ⟨e,a,rfl⟩
theorem ShR.uniq (hn:(ls.map (·.nm)).Nodup) (hk:∀ p∈ls,1<=p.wt) (h:ShR ls es pl rs) (k:ShR ls es pl rs'):rs=rs':=by
 obtain ⟨Y,f,D,F,R⟩:=h;obtain ⟨V,o,D',F',C⟩:=k;have I:=JkF hn hk;have E:∀ g∈gpF es pl, ∀ n∈g.way,n∈ls.map (·.nm):=fun g J=>by
  obtain ⟨e,M,rfl⟩:=JeR J;exact (F.sub e M).1
 have e:=F.fair.uniq I E F'.fair;refine List.ext_getElem? fun i=>?_;by_cases c:i<ls.length
 ·have L:i<rs.length:=by ac_nf
  have H:i<rs'.length:=by ac_nf
  have u:=List.getElem?_eq_getElem c;have w:=List.getElem?_eq_getElem L;have z:=List.getElem?_eq_getElem H;have r:=R i _ _ u w;have s:=C i _ _ u z;rw [w,z];generalize ls[i]=p at *;generalize rs[i]=a at *;generalize rs'[i]=b at *;have v:p∈ls:=List.mem_of_getElem? u;have l:p.nm∈ls.map (·.nm):=mem_map.mpr ⟨p,v,rfl⟩;have d:a.sl=b.sl:=r.lo.inj s.lo (by rw [r.val,s.val,e _ l]);have G:es.find? (stp (wtF ls) f pl p.nm)=es.find? (stp (wtF ls) o pl p.nm):=by
   have O:∀ {t:List (GD × List Str)},(∀ x∈t,x∈es)->t.find? (stp (wtF ls) f pl p.nm)=t.find? (stp (wtF ls) o pl p.nm):=by
    intro t;induction t with
    | nil=>intro _;rfl
    | cons x t ih=>
     intro B;have : stp (wtF ls) f pl p.nm x=stp (wtF ls) o pl p.nm x:=by
      have j:=(F.sub x (B x (by simp))).1;have N:sm (fun q=>f q*wtF ls q) x.2=sm (fun q=>o q*wtF ls q) x.2:=Jbe fun q m=>by rw [e q (j q m)]
      have K:(∀ q∈x.2,f q<=f p.nm)↔∀ q∈x.2,o q<=o p.nm:=by
       constructor
       ·intro h q m;rw [<- e q (j q m), <- e _ l];exact h q m
       ·intro h q m;rw [e q (j q m),e _ l];exact h q m
      unfold stp;rw [N,decide_eq_decide.mpr K]
     rw [List.find?_cons,List.find?_cons,this,ih fun y P=>B y (by simp [P])]
   exact O fun _ h=>h
  have A:a.sp=b.sp:=by
   rcases r.sp with ⟨x1,x2⟩ | ⟨x1,e1,x2,x3⟩ <;> rcases s.sp with ⟨y1,y2⟩ | ⟨y1,e2,y2,y3⟩
   ·rw [x2,y2]
   ·exact absurd (d ▸ x1) y1
   ·exact absurd (d ▸ y1) x1
   ·rw [G,y2] at x2;cases x2;rw [x3,y3]
  have nm:a.nm=b.nm:=r.nm.trans s.nm.symm;obtain ⟨Q,S,X⟩:=a;obtain ⟨U,W,T⟩:=b;simp only at nm d A;rw [nm,d,A]
 ·rw [List.getElem?_eq_none ∅,List.getElem?_eq_none ∅]
end
theorem Jjj:∀ (fs:List (Int × Int)) (k:Nat),(∀ a∈fs,1<=a.2/\Mth.Sz 16 a.2)->fs.length<=k->∃ D:Int,1<=D/\Mth.Sz (16*k+1) D/\∀ a∈fs,Dv D (vl a)
 | [],k,_,_=>⟨1,by decide,by unfold Mth.Sz;exact Nat.one_lt_two_pow ∅,fun a ha=>by cases ha⟩
 | a::fs,0,_,h=>by simp at h
 | a::fs,k+1,h,hl=>by
  obtain ⟨D,h1,h2,h3⟩:=Jjj fs k (fun x hx=>h x (by simp [hx])) (by simpa using hl);obtain ⟨a1,a2⟩:=h a (by simp);refine ⟨D*a.2,Jbh h1 a1,?_,fun x hx=>?_⟩
  ·have:=h2.mul a2;rw [show 16*(k+1)+1=16*k+1+16 by ac_nf];exact this
  ·rcases mem_cons.mp hx with e | hx
   ·subst e;refine Dv.over a1 ?_;have : vl x*(x.2:Rat)=(x.1:Rat):=by
     unfold vl;exact Rat.div_mul_cancel (Jaz a1)
    rw [this];exact Dv.int _
   ·exact (h3 x hx).more _
theorem Jdm {a:Int × Int} (h:1<=a.2) (h0:0<=a.1):vl a<=(a.1:Rat):=by
 unfold vl;have p:(0:Rat)<(a.2:Rat):=by exact_mod_cast (show 0<a.2 by ac_nf)
 have e:(a.1:Rat)/(a.2:Rat)*(a.2:Rat)=(a.1:Rat):=Rat.div_mul_cancel (Jaz h);have q:(a.1:Rat)<=(a.1:Rat)*(a.2:Rat):=by
  have : a.1<=a.1*a.2:=by
   have:=Int.mul_le_mul_of_nonneg_left h h0;ac_nf
  exact_mod_cast this
 rw [<- scaled p,e];exact q
theorem vl_nn {a:Int × Int} (h:1<=a.2):0<=vl a↔0<=a.1:=by
 unfold vl;have p:(0:Rat)<(a.2:Rat):=by exact_mod_cast (show 0<a.2 by ac_nf)
 have e:(a.1:Rat)/(a.2:Rat)*(a.2:Rat)=(a.1:Rat):=Rat.div_mul_cancel (Jaz h);rw [<- scaled p,e,Rat.zero_mul];exact_mod_cast Iff.rfl
theorem Jir:∀ (ws:List (Str × Int)) (w:Str->Rat),(∀ x∈ws,w x.1=(x.2:Rat))->(((ws.map (·.2)).sum:Int):Rat)=sm w (ws.map (·.1))
 | [],_,_=>rfl
 | x::ws,w,h=>by
  have ih:=Jir ws w fun y hy=>h y (by simp [hy]);simp only [map_cons,List.sum_cons,sm,h x (by simp), <- ih];push_cast;rfl
section
variable {ls:List PD} {es:List (GD × List Str)} {pl:Str->Int × Int} {lds:List LidD} {ms lvs:List (Str × (Int × Int))} {b q0:Int}
theorem LSt.way {e:GD × List Str} {l:LidD} (h:LSt b ls pl e l):(∀ n∈e.2,n∈ls.map (·.nm))/\e.2.Nodup:=by
 refine ⟨fun n a=>?_,h.pm.nodup_iff.mp h.nd⟩;obtain ⟨x,c,rfl⟩:=mem_map.mp (h.pm.mem_iff.mpr a);obtain ⟨p,d,e,_⟩:=h.wt x c;exact mem_map.mpr ⟨p,d,e⟩
theorem Jjr (hl:lds.length=es.length) (hls:∀ (i:Nat) e l,es[i]?=some e->lds[i]?=some l->LSt b ls pl e l):∀ e∈es,(∀ n∈e.2,n∈ls.map (·.nm))/\e.2.Nodup:=fun e c=>by
 obtain ⟨i,a⟩:=List.getElem?_of_mem c;have d:=(List.getElem?_eq_some_iff.mp a).1;exact (hls i e _ a (List.getElem?_eq_getElem ∅)).way
theorem Jjb (b1:1<=b) (sb:Mth.Sz 2000 b) (hc:SHC ls es pl) (hr:∀ e∈es,0<=vl (roomF pl e.1)) (hl:lds.length=es.length) (hls:∀ (i:Nat) e l,es[i]?=some e->lds[i]?=some l->LSt b ls pl e l) (hm:ms.length=ls.length) (hms:∀ (i:Nat) p m,ls[i]?=some p->ms[i]?=some m->MSt b p m):∃ q0,RC b q0 (ls.map (·.nm)) (wtF ls) (fun n=>moF ls n*(b:Rat)) (gpB b es pl) ms/\RSt b (ls.map (·.nm)) (wtF ls) (fun n=>moF ls n*(b:Rat)) (gpB b es pl) [] lds:=by
 have N:=Jjr hl hls;have y:(0:Rat)<(b:Rat):=by exact_mod_cast (show 0<b by ac_nf)
 have X:=Jaz b1;have H:∀ m∈ms, ∃ p∈ls,MSt b p m:=fun m o=>by
  obtain ⟨i,P⟩:=List.getElem?_of_mem o;have Y:=(List.getElem?_eq_some_iff.mp P).1;exact ⟨ls[i]'∅,List.getElem_mem _,hms i _ m (List.getElem?_eq_getElem ∅) P⟩
 obtain ⟨B,Q,W,I⟩:∃ B:Int,Mth.Sz 200 B/\0<=B/\∀ x,Mth.Sz 200 x->x<=B:=⟨2 ^ 200-1,by unfold Mth.Sz;decide,by decide,fun x k=>by unfold Mth.Sz at k;ac_nf⟩;have C:∀ g∈gpB b es pl, ∃ e∈es,g=⟨vl (roomF pl e.1)*(b:Rat),e.2⟩:=fun g C=>by
  obtain ⟨e,f,rfl⟩:=mem_map.mp C;exact ⟨e,f,rfl⟩
 have A:∀ p∈ls,1<=p.wt:=fun p d=>(hc.pok p d).w;have t:∀ p∈ls,0<=vl p.mo:=fun p d=>(vl_nn (hc.pb p d).2.b1).mpr (hc.pok p d).m0;have M0:∀ p∈ls,0<=moF ls p.nm/\moF ls p.nm<=vl p.mo:=fun p d=>by
  rw [JdZ hc.nd d];have L:=A p d;have M:(0:Rat)<(p.wt:Rat):=by exact_mod_cast (show 0<p.wt by ac_nf)
  have e:vl p.mo/(p.wt:Rat)*(p.wt:Rat)=vl p.mo:=Rat.div_mul_cancel (Jaz L);have O:=t p d;constructor
  ·rw [<- scaled M,e,Rat.zero_mul];exact O
  ·rw [<- scaled M,e];have : (1:Rat)<=(p.wt:Rat):=by exact_mod_cast L
   have:=Rat.mul_le_mul_of_nonneg_left this O;rw [Rat.mul_one] at this;exact this
 have top:∀ a:Int × Int,FB 200 16 a->0<=vl a->vl a<=(B:Rat):=fun a E S=>by
  refine Rat.le_trans (Jdm E.b1 ((vl_nn E.b1).mp S)) ?_;exact_mod_cast I _ E.s1
 have u:((B*b:Int):Rat)=(B:Rat)*(b:Rat):=by push_cast;rfl
 have J:RC b (B*b) (ls.map (·.nm)) (wtF ls) (fun n=>moF ls n*(b:Rat)) (gpB b es pl) ms:=by
  refine ⟨b1,?_,hc.nd,by rw [length_map];exact hc.l12,fun n s=>?_,fun m o=>?_,fun g j=>?_,fun n s=>?_,(Q.mul sb)⟩
  ·refine List.ext_getElem? fun i=>?_;rw [List.getElem?_map,List.getElem?_map];by_cases c:i<ls.length
   ·rw [List.getElem?_eq_getElem c,List.getElem?_eq_getElem (by ac_nf:i<ms.length)];exact congrArg some (hms i _ _ (List.getElem?_eq_getElem c) (List.getElem?_eq_getElem ∅)).nm
   ·rw [List.getElem?_eq_none ∅,List.getElem?_eq_none ∅];rfl
  ·obtain ⟨p,d,rfl⟩:=mem_map.mp s;exact ⟨p.wt,JdG hc.nd d,A p d,hc.wt p d⟩
  ·obtain ⟨p,d,h⟩:=H m o;refine ⟨?_,h.fb,?_⟩
   ·rw [h.vl,h.nm,JdZ hc.nd d];grind
   ·rw [h.nm];exact Rat.mul_nonneg (M0 p d).1 (Rat.le_of_lt y)
  ·obtain ⟨e,f,rfl⟩:=C g j;refine ⟨(N e f).1,(N e f).2,Rat.mul_nonneg (hr e f) (Rat.le_of_lt y),?_⟩;rw [u];exact Rat.mul_le_mul_of_nonneg_right (top _ (hc.rb e f) (hr e f)) (Rat.le_of_lt y)
  ·obtain ⟨p,d,rfl⟩:=mem_map.mp s;rw [u];exact Rat.mul_le_mul_of_nonneg_right (Rat.le_trans (M0 p d).2 (top _ ((hc.pb p d).2.mono ⋯ ⋯) (t p d))) (Rat.le_of_lt y)
 refine ⟨_,J,⟨(0,1),?_⟩,⟨by unfold gpB;rw [length_map];exact hl,fun i g l r G=>?_⟩,?_,fun x k=>by cases k⟩
 ·rw [Jbz];refine RInv.start (fun n s=>?_) (fun g j=>(J.gw g j).2.2.1);obtain ⟨p,d,rfl⟩:=mem_map.mp s;exact Rat.mul_nonneg (M0 p d).1 (Rat.le_of_lt y)
 ·unfold gpB at r;rw [List.getElem?_map] at r;obtain ⟨e,f,rfl⟩:=Option.map_eq_some_iff.mp r;have h:=hls i e l f G;have v:∀ x∈l.ws,wtF ls x.1=(x.2:Rat)/\1<=x.2:=fun x k=>by
   obtain ⟨p,d,T,V⟩:=h.wt x k;rw [<- T, <- V];exact ⟨JdG hc.nd d,A p d⟩
  have R:sm (used [] (wtF ls)) e.2=0:=JcV fun q _=>by
   unfold used;rw [Jcd (by simp),Rat.zero_mul]
  refine ⟨h.pm,h.nd,v,?_,?_,h.fb.lo,?_,(fun n _ F=>by cases F),fun ⟨n,_,F⟩=>by cases F⟩
  ·rw [h.rest];show _=_-sm (used [] (wtF ls)) e.2;rw [R];grind
  ·rw [h.load,Jir l.ws (wtF ls) fun x k=>(v x k).1,JkA h.pm];exact Jbe fun q _=>by unfold left;rw [if_neg (by simp)]
  ·rw [h.last];exact ⟨Int.le_refl 1,by unfold Mth.g;simp⟩
 ·obtain ⟨D,D1,U,K⟩:=Jjj (ls.map (·.mo)++es.map fun e=>roomF pl e.1) 14 (fun a z=>by
   rcases mem_append.mp z with z | z
   ·obtain ⟨p,d,rfl⟩:=mem_map.mp z;exact ⟨(hc.pb p d).2.b1,(hc.pb p d).2.s2.mono ⋯⟩
   ·obtain ⟨e,f,rfl⟩:=mem_map.mp z;exact ⟨(hc.rb e f).b1,(hc.rb e f).s2⟩) (by rw [length_append,length_map,length_map];exact hc.l14)
  refine ⟨D,D1,U.mono (by simp),fun x k=>(by cases k),fun g j=>?_,fun n s=>?_⟩
  ·obtain ⟨e,f,rfl⟩:=C g j;show Dv D (vl (roomF pl e.1)*(b:Rat)/(b:Rat));rw [show vl (roomF pl e.1)*(b:Rat)/(b:Rat)=vl (roomF pl e.1) by grind];exact K _ (mem_append.mpr (.inr (mem_map.mpr ⟨e,f,rfl⟩)))
  ·obtain ⟨p,d,rfl⟩:=mem_map.mp s;rw [JdZ hc.nd d,JdG hc.nd d];have Z:=Jaz (A p d);rw [show vl p.mo/(p.wt:Rat)*(b:Rat)/(b:Rat)*(p.wt:Rat)=vl p.mo by grind];exact K _ (mem_append.mpr (.inl (mem_map.mpr ⟨p,d,rfl⟩)))
end
theorem Jfw {α β γ : Type} {P : α->Bool} {R : β->Bool} {f : α->γ} {g : β->γ}:∀ {as:List α} {bs:List β},as.length=bs.length->(∀ (i:Nat) a b,as[i]?=some a->bs[i]?=some b->P a=R b/\f a=g b)->(as.find? P).map f=(bs.find? R).map g
 | [],[],_,_=>rfl
 | [],b::bs,h,_=>by simp at h
 | a::as,[],h,_=>by simp at h
 | a::as,b::bs,h,k=>by
  obtain ⟨h1,h2⟩:=k 0 a b rfl rfl;have ih:=Jfw (as:=as) (bs:=bs) (by simpa using h) fun i x y hx hy=>k (i+1) x y (by simpa using hx) (by simpa using hy);rw [List.find?_cons,List.find?_cons,h1];cases R b with
  | true=>exact congrArg some h2
  | false=>exact ih
theorem Jin {lv w:Str->Rat} {c:Rat}:∀ (l:List Str),sm (fun n=>lv n/c*w n) l=sm (fun n=>lv n*w n) l/c
 | []=>by simp only [sm];grind
 | n::l=>by
  simp only [sm,Jin l];grind
section
variable {ls:List PD} {es:List (GD × List Str)} {pl:Str->Int × Int} {lds:List LidD} {ms lvs:List (Str × (Int × Int))} {b q0:Int}
abbrev RCs (b q0:Int) (ls:List PD) (es:List (GD × List Str)) (pl:Str->Int × Int) (ms:List (Str × (Int × Int))):Prop:=RC b q0 (ls.map (·.nm)) (wtF ls) (fun n=>moF ls n*(b:Rat)) (gpB b es pl) ms
abbrev RSs (b:Int) (ls:List PD) (es:List (GD × List Str)) (pl:Str->Int × Int) (lvs:List (Str × (Int × Int))) (lds:List LidD):Prop:=RSt b (ls.map (·.nm)) (wtF ls) (fun n=>moF ls n*(b:Rat)) (gpB b es pl) lvs lds
def lvf (b:Int) (lvs:List (Str × (Int × Int))) (n:Str):Rat:=lvv lvs n/(b:Rat)
theorem Jlm (rc:RCs b q0 ls es pl ms) (rs:RSs b ls es pl lvs lds) (hl:(ls.map (·.nm)).length<=lvs.length) {n:Str} (hn:n∈ls.map (·.nm)):∃ x∈lvs,x.1=n/\lvv lvs n=vl x.2:=by
 obtain ⟨x,a,e⟩:=mem_map.mp (rs.all rc hl n hn);obtain ⟨L,c⟩:=rs.inv;have e:x.1=n:=e;exact ⟨x,a,e,e ▸ JdY c.nd a⟩
theorem sh_at (rs:RSs b ls es pl lvs lds) {x:Str × (Int × Int)} (hx:x∈lvs):lvv lvs x.1=vl x.2:=by
 obtain ⟨L,a⟩:=rs.inv;exact JdY a.nd hx
theorem sh_lv (rc:RCs b q0 ls es pl ms) (rs:RSs b ls es pl lvs lds) {x:Str × (Int × Int)} (hx:x∈lvs):FB 2800 600 x.2:=by
 obtain ⟨L,f⟩:=rs.inv;obtain ⟨D,c⟩:=rs.bt;have d:=f.a x hx;have g:=rc.mq x.1 (f.sub _ (mem_map.mpr ⟨x,hx,rfl⟩));have e:=rs.lo x hx;have i:=rs.len rc;have h:=rc.l12;exact ((c.dl x hx).up rc.b1).fb (m:=2200) (n:=600) e.b1 e.g1 c.D1 (c.sD.mono ∅) d.1 (Rat.le_trans d.2.2 g) rc.sQ
theorem Jim (hw:∀ e∈es,(∀ n∈e.2,n∈ls.map (·.nm))/\e.2.Nodup) (rc:RCs b q0 ls es pl ms) (rs:RSs b ls es pl lvs lds) (hl:(ls.map (·.nm)).length<=lvs.length):∃ D,ShF ls es pl (lvf b lvs) D:=by
 obtain ⟨L,s⟩:=rs.inv;obtain ⟨D,i⟩:=rs.bt;have F:=s.fair rc.wpos (fun g c=>(rc.gw g c).1) (rs.all rc hl);have f:(0:Rat)<(b:Rat):=by have:=rc.b1;exact_mod_cast (show 0<b by ac_nf)
 have k:=Jaz rc.b1;have e:∀ n,lvf b lvs n*(b:Rat)=lvv lvs n:=fun n=>Rat.div_mul_cancel k;have t:=rs.len rc;have r:=rc.l12;have m:∀ l,sm (fun n=>lvf b lvs n*wtF ls n) l*(b:Rat)=sm (fun n=>lvv lvs n*wtF ls n) l:=fun l=>by
  unfold lvf;rw [Jin,Rat.div_mul_cancel k]
 refine ⟨D,hw,⟨fun n a=>?_,fun n a=>?_,fun g c=>?_,fun n a=>?_⟩,i.D1,i.sD.mono ∅,fun n a=>?_⟩
 ·rw [<- scaled f,e,Rat.zero_mul];exact F.lo n a
 ·rw [<- scaled f,e];exact F.hi n a
 ·obtain ⟨x,d,rfl⟩:=JeR c;rw [<- scaled f,m];exact F.fit ⟨vl (roomF pl x.1)*(b:Rat),x.2⟩ (mem_map.mpr ⟨x,d,rfl⟩)
 ·rcases F.stop n a with h | ⟨g,c,h1,j,h3⟩
  ·left
   have:=e n;rw [h] at this;grind
  ·right
   obtain ⟨x,d,rfl⟩:=mem_map.mp c;refine ⟨⟨vl (roomF pl x.1),x.2⟩,mem_map.mpr ⟨x,d,rfl⟩,h1,?_,fun q o=>?_⟩
   ·have j:sm (fun n=>lvv lvs n*wtF ls n) x.2=vl (roomF pl x.1)*(b:Rat):=j;rw [<- m] at j;show sm (fun n=>lvf b lvs n*wtF ls n) x.2=vl (roomF pl x.1);grind
   ·rw [<- scaled f,e,e];exact h3 q o
 ·obtain ⟨x,d,rfl,p⟩:=Jlm rc rs hl a;unfold lvf;rw [p];exact i.dl x d
theorem Jj3 (rc:RCs b q0 ls es pl ms) (rs:RSs b ls es pl lvs lds) (hl:(ls.map (·.nm)).length<=lvs.length) {i:Nat} {e:GD × List Str} {l:LidD} (he:es[i]?=some e) (hli:lds[i]?=some l) {x:Str × (Int × Int)} (hx:x∈lvs):((wtOf l.ws x.1).isSome&&(decide (l.rest=(0,1))&&decide (l.last=x.2)))=stp (wtF ls) (lvf b lvs) pl x.1 e:=by
 have a:=rs.ok.2 i ⟨vl (roomF pl e.1)*(b:Rat),e.2⟩ l (by unfold gpB;rw [List.getElem?_map,he];rfl) hli;have t:(0:Rat)<(b:Rat):=by have:=rc.b1;exact_mod_cast (show 0<b by ac_nf)
 have r:=Jaz rc.b1;have d:∀ n,lvf b lvs n*(b:Rat)=lvv lvs n:=fun n=>Rat.div_mul_cancel r;have u:∀ l,sm (fun n=>lvf b lvs n*wtF ls n) l*(b:Rat)=sm (fun n=>lvv lvs n*wtF ls n) l:=fun l=>by
  unfold lvf;rw [Jin,Rat.div_mul_cancel r]
 have all:=rs.all rc hl;have p:=(rc.gw ⟨vl (roomF pl e.1)*(b:Rat),e.2⟩ (by unfold gpB;exact mem_map.mpr ⟨e,List.mem_of_getElem? he,rfl⟩)).1;have o:=rs.lo x hx;have m:=sh_at rs hx;unfold stp;have A:(wtOf l.ws x.1).isSome=decide (x.1∈e.2):=by
  by_cases c:x.1∈e.2
  ·rw [decide_eq_true c];cases h:wtOf l.ws x.1 with
   | none=>exact absurd (a.pm.mem_iff.mpr c) (Jgu.mp h)
   | some k=>rfl
  ·rw [decide_eq_false c,Jgu.mpr fun z=>c (a.pm.mem_iff.mp z)];rfl
 have B:decide (l.rest=(0,1))=decide (sm (fun q=>lvf b lvs q*wtF ls q) e.2=vl (roomF pl e.1)):=by
  refine decide_eq_decide.mpr ?_;have f:l.rest=(0,1)↔vl l.rest=0:=by
   rw [<- Jbz];exact ⟨fun h=>by rw [h],fun h=>a.low.inj ⟨Int.le_refl 1,by unfold Mth.g;simp⟩ h⟩
  have j:vl l.rest=vl (roomF pl e.1)*(b:Rat)-sm (fun n=>lvv lvs n*wtF ls n) e.2:=a.rest;rw [f,j, <- u];constructor <;> intro h <;> grind
 rw [A,B];by_cases c:x.1∈e.2
 ·have w:decide (l.last=x.2)=decide (∀ q∈e.2,lvf b lvs q<=lvf b lvs x.1):=by
   refine decide_eq_decide.mpr ?_;have f:l.last=x.2↔vl l.last=lvv lvs x.1:=by
    rw [m];exact ⟨fun h=>by rw [h],fun h=>a.llow.inj o h⟩
   rw [f];constructor
   ·intro h q s;rw [<- scaled t,d,d, <- h];exact a.l1 q s (all q (p q s))
   ·intro h;obtain ⟨n,y,_,v⟩:=a.l2 ⟨x.1,c,all _ (p _ c)⟩;have j:=h n y;rw [<- scaled t,d,d,v] at j;have C:=a.l1 x.1 c (all _ (p _ c));grind
  rw [w]
 ·rw [decide_eq_false c];rfl
theorem Jkx (hw:∀ e∈es,(∀ n∈e.2,n∈ls.map (·.nm))/\e.2.Nodup) (rc:RCs b q0 ls es pl ms) (rs:RSs b ls es pl lvs lds) (hl:(ls.map (·.nm)).length<=lvs.length) (hn:lds.map (·.nm)=es.map (·.1.nm)) {x:Str × (Int × Int)} (hx:x∈lvs) (hne:vl x.2≠moF ls x.1*(b:Rat)):∃ l e,lds.find? (fun l=>(wtOf l.ws x.1).isSome&&(decide (l.rest=(0,1))&&decide (l.last=x.2)))=some l/\es.find? (stp (wtF ls) (lvf b lvs) pl x.1)=some e/\l.nm=e.1.nm:=by
 have d:lds.length=es.length:=by simpa using congrArg List.length hn
 have m:=Jfw (P:=fun l:LidD=>(wtOf l.ws x.1).isSome&&(decide (l.rest=(0,1))&&decide (l.last=x.2))) (R:=stp (wtF ls) (lvf b lvs) pl x.1) (f:=fun l:LidD=>l.nm) (g:=fun e:GD × List Str=>e.1.nm) d fun i l e c a=>⟨Jj3 rc rs hl a c hx,by
  have:=congrArg (·[i]?) hn;simp only [List.getElem?_map,c,a] at this;exact Option.some.inj this⟩
 obtain ⟨D,F⟩:=Jim hw rc rs hl;obtain ⟨L,p⟩:=rs.inv;have j:=p.sub _ (mem_map.mpr ⟨x,hx,rfl⟩);have q:=Jaz rc.b1;have o:∃ e∈es,stp (wtF ls) (lvf b lvs) pl x.1 e=true:=by
  rcases F.fair.stop x.1 j with h | ⟨g,hg,c,a,h3⟩
  ·refine absurd ?_ hne;rw [<- h, <- sh_at rs hx];exact (Rat.div_mul_cancel q).symm
  ·obtain ⟨e,k,rfl⟩:=JeR hg;refine ⟨e,k,?_⟩;unfold stp;rw [decide_eq_true c,decide_eq_true a,decide_eq_true h3];rfl
 cases hf:es.find? (stp (wtF ls) (lvf b lvs) pl x.1) with
 | none=>
  obtain ⟨e,k,h⟩:=o;have:=List.find?_eq_none.mp hf e k;exact absurd h this
 | some e=>
  rw [hf] at m;obtain ⟨l,c,a⟩:=Option.map_eq_some_iff.mp m;exact ⟨l,e,c,rfl,a⟩
theorem Jkz (hc:SHC ls es pl) (rc:RCs b q0 ls es pl ms) (rs:RSs b ls es pl lvs lds) {p:PD} (hp:p∈ls) {x:Str × (Int × Int)} (hx:x∈lvs) (e1:x.1=p.nm) (he:vl x.2=moF ls x.1*(b:Rat)):ShRow ls es pl (lvf b lvs) p ⟨p.nm,p.mo,none⟩:=by
 have a:=Jaz rc.b1;have c:=Jaz (hc.pok p hp).w;refine ⟨rfl,(hc.pb p hp).2.lo,?_, .inl ⟨rfl,rfl⟩⟩;show vl p.mo=_;unfold lvf;rw [<- e1,sh_at rs hx,he,e1,JdZ hc.nd hp];grind
theorem Jky (hc:SHC ls es pl) (rc:RCs b q0 ls es pl ms) (rs:RSs b ls es pl lvs lds) {p:PD} (hp:p∈ls) {x:Str × (Int × Int)} (hx:x∈lvs) (e1:x.1=p.nm) (hne:vl x.2≠moF ls x.1*(b:Rat)) {t:Int × Int} (ht:LoInv (mulF x.2 (p.wt,1)) b t) {e:GD × List Str} (hf:es.find? (stp (wtF ls) (lvf b lvs) pl x.1)=some e):ShRow ls es pl (lvf b lvs) p ⟨p.nm,t,some e.1.nm⟩:=by
 have j:=Jaz rc.b1;have i:=Jaz (hc.pok p hp).w;have g:=rs.lo x hx;have h:=JeX (a:=x.2) (c:=(p.wt,1)) g.b1 (Int.le_refl 1);have d:=ht.vl h.b1 rc.b1;rw [JjC g.b1 (Int.le_refl 1),JfU] at d;have f:vl t=lvf b lvs p.nm*(p.wt:Rat):=by
  unfold lvf;rw [<- e1,sh_at rs hx,d];grind
 refine ⟨rfl,ht.lo,f, .inr ⟨fun z=>hne ?_,e,by rw [<- e1];exact hf,rfl⟩⟩;have z:t=p.mo:=z;rw [z] at d;rw [e1,JdZ hc.nd hp,d];grind
end
def rvl (rs:List ShD) (n:Str):Rat:=((rs.find? fun r=>decide (r.nm=n)).map fun r=>vl r.sl).getD 0
theorem JfK:∀ {rs:List ShD} {r:ShD},(rs.map (·.nm)).Nodup->r∈rs->rvl rs r.nm=vl r.sl
 | [],_,_,h=>by cases h
 | a::rs,r,hn,h=>by
  rw [map_cons,nodup_cons] at hn;unfold rvl;rw [List.find?_cons];rcases mem_cons.mp h with e | h
  ·subst e;simp
  ·have : a.nm≠r.nm:=fun z=>hn.1 (z ▸ mem_map.mpr ⟨r,h,rfl⟩);rw [decide_eq_false this];exact JfK hn.2 h
structure ShK (ks:List PD) (es:List (GD × List Str)) (pf:Str->Int × Int) (rs:List ShD):Prop where
 nm:rs.map (·.nm)=ks.map (·.nm)
 fb:∀ r∈rs,FB 800 600 r.sl
 bd:∀ (i:Nat) p r,ks[i]?=some p->rs[i]?=some r->0<=vl r.sl/\vl r.sl<=vl p.mo/\((∀ e∈es,p.nm∉e.2)->r.sl=p.mo)
 fit:∀ e∈es,sm (rvl rs) e.2<=vl (roomF pf e.1)
 par:∀ e∈es, ∀ (j:Nat) (u:Int × Int),Lo u->vl u=sm (rvl rs) (e.2.take j)->FB 800 600 u
theorem ShR.k {ks:List PD} {es:List (GD × List Str)} {pf:Str->Int × Int} {rs:List ShD} (hc:SHC ks es pf) (hm:∀ p∈ks,FB 100 6 p.mo) (h:ShR ks es pf rs):ShK ks es pf rs:=by
 obtain ⟨hl,f,D,F,R⟩:=h;have Z:rs.map (·.nm)=ks.map (·.nm):=by
  refine List.ext_getElem? fun i=>?_;rw [List.getElem?_map,List.getElem?_map];by_cases c:i<ks.length
  ·rw [List.getElem?_eq_getElem c,List.getElem?_eq_getElem (by ac_nf:i<rs.length)];exact congrArg some (R i _ _ (List.getElem?_eq_getElem c) (List.getElem?_eq_getElem ∅)).nm
  ·rw [List.getElem?_eq_none ∅,List.getElem?_eq_none ∅];rfl
 have J:(rs.map (·.nm)).Nodup:=Z ▸ hc.nd;have s:∀ (i:Nat) p r,ks[i]?=some p->rs[i]?=some r->0<=vl r.sl/\vl r.sl<=vl p.mo:=fun i p r o q=>by
  have d:=R i p r o q;have a:=List.mem_of_getElem? o;have v:p.nm∈ks.map (·.nm):=mem_map.mpr ⟨p,a,rfl⟩;have N:=(hc.pok p a).w;have Y:(0:Rat)<(p.wt:Rat):=by exact_mod_cast (show 0<p.wt by ac_nf)
  have L:=F.fair.lo _ v;have Q:=F.fair.hi _ v;rw [JdZ hc.nd a] at Q;have e:vl p.mo/(p.wt:Rat)*(p.wt:Rat)=vl p.mo:=Rat.div_mul_cancel (Jaz N);rw [d.val];exact ⟨Rat.mul_nonneg L (Rat.le_of_lt Y),by rw [<- e];exact Rat.mul_le_mul_of_nonneg_right Q (Rat.le_of_lt Y)⟩
 have y:∀ n∈ks.map (·.nm), ∃ (i:Nat) (p:PD) (r:ShD),ks[i]?=some p/\rs[i]?=some r/\p.nm=n/\rvl rs n=vl r.sl/\rvl rs n=f n*wtF ks n:=fun n b=>by
  obtain ⟨p,o,rfl⟩:=mem_map.mp b;obtain ⟨i,C⟩:=List.getElem?_of_mem o;have li:=(List.getElem?_eq_some_iff.mp C).1;have q:=List.getElem?_eq_getElem (by ac_nf:i<rs.length);have d:=R i p _ C q;have e:=JfK J (List.mem_of_getElem? q);rw [d.nm] at e;exact ⟨i,p,_,C,q,rfl,e,by rw [e,d.val,JdG hc.nd o]⟩
 have V:∀ n∈ks.map (·.nm),Dv D (rvl rs n):=fun n b=>by
  obtain ⟨i,p,r,o,q,e,G,H⟩:=y n b;have a:=List.mem_of_getElem? o;rw [H, <- e,JdG hc.nd a];exact (F.dv _ (e ▸ b)).mul _
 have nn:∀ n∈ks.map (·.nm),0<=rvl rs n:=fun n b=>by
  obtain ⟨i,p,r,o,q,e,G,H⟩:=y n b;rw [G];exact (s i p r o q).1
 have S:∀ l:List Str,(∀ n∈l,n∈ks.map (·.nm))->sm (rvl rs) l=sm (fun n=>f n*wtF ks n) l:=fun l P=>Jbe fun n b=>by
  obtain ⟨i,p,r,o,q,e,G,H⟩:=y n (P n b);exact H
 refine ⟨Z,fun r q=>?_,fun i p r o q=>⟨(s i p r o q).1,(s i p r o q).2,fun M=>?_⟩,fun e z=>?_,fun e z j u hu O=>?_⟩
 ·obtain ⟨i,C⟩:=List.getElem?_of_mem q;have li:=(List.getElem?_eq_some_iff.mp C).1;have o:=List.getElem?_eq_getElem (by ac_nf:i<ks.length);have d:=R i _ r o C;have a:=List.mem_of_getElem? o;have X:=s i _ r o C;generalize ks[i]=p at *;have E:=hm p a;have:=(F.dv p.nm (mem_map.mpr ⟨p,a,rfl⟩)).mul p.wt;rw [<- d.val] at this;have t:=this.fb (m:=100) (n:=600) d.lo.b1 d.lo.g1 F.D1 F.sD X.1 (Rat.le_trans X.2 (Jdm E.b1 (hc.pok p a).m0)) E.s1;exact ⟨t.s1.mono ⋯,t.s2,t.b1,t.g1⟩
 ·have d:=R i p r o q;have a:=List.mem_of_getElem? o;have v:p.nm∈ks.map (·.nm):=mem_map.mpr ⟨p,a,rfl⟩;have N:=(hc.pok p a).w;rcases F.fair.stop _ v with h | ⟨g,hg,h,_⟩
  ·refine d.lo.inj (hm p a).lo ?_;rw [d.val,h,JdZ hc.nd a];exact Rat.div_mul_cancel (Jaz N)
  ·obtain ⟨e,z,rfl⟩:=JeR hg;exact absurd h (M e z)
 ·rw [S e.2 (F.sub e z).1];exact F.fair.fit ⟨vl (roomF pf e.1),e.2⟩ (mem_map.mpr ⟨e,z,rfl⟩)
 ·have A:∀ n∈e.2.take j,n∈ks.map (·.nm):=fun n b=>(F.sub e z).1 n (List.mem_of_mem_take b);obtain ⟨B,hB,W,U⟩:∃ B:Int,Mth.Sz 100 B/\0<=B/\∀ x,Mth.Sz 100 x->x<=B:=⟨2 ^ 100-1,by unfold Mth.Sz;decide,by decide,fun x hx=>by unfold Mth.Sz at hx;ac_nf⟩;have T:(e.2.take j).length<=12:=by
   have L:=sub_len _ _ (F.sub e z).2 (F.sub e z).1;rw [length_map] at L;have Q:=hc.l12;rw [length_take];ac_nf
  have dv:Dv D (vl u):=by
   rw [O];exact Dv.sm fun n b=>V n (A n b)
  have up:vl u<=((B*(12:Nat):Int):Rat):=by
   rw [O];refine Jio W (fun n b=>?_) T;obtain ⟨i,p,r,o,q,e',G,H⟩:=y n (A n b);have a:=List.mem_of_getElem? o;have E:=hm p a;rw [G];refine Rat.le_trans (Rat.le_trans (s i p r o q).2 (Jdm E.b1 (hc.pok p a).m0)) ?_;exact_mod_cast U _ E.s1
  have K:0<=vl u:=by
   rw [O];exact sm_nn fun n b=>nn n (A n b)
  have I:Mth.Sz 4 ((12:Nat):Int):=.lit ⋯ ⋯;have t:=dv.fb (m:=100+4) (n:=600) hu.b1 hu.g1 F.D1 F.sD K up (hB.mul I);exact ⟨t.s1.mono ⋯,t.s2,t.b1,t.g1⟩
theorem JiO {a:Int × Int} (h:Lo a):(Mth.top a.1 a.2,Mth.bot a.1 a.2)=a:=(Jcz h.b1).inj h (JeJ h.b1)
section
variable {a b c d B:TS} {D:Ends} {σ : St} {H:Hp}
end
structure Nxt (R:St->Hp->Prop) (b:TS) (D:Ends):Prop where
 go:∀ {σ : St} {H:Hp},b D σ H->R σ H
theorem Jfg {a b:TS} {D:Ends} {σ : St} {H:Hp} (h:∀ R,Nxt R b D->a { D with nx:=R } σ H):tSeq a b D σ H:=h _ ⟨fun z=>z⟩
structure ShS (ks:List PD) (es:List (GD × List Str)) (pf:Str->Int × Int) (rs:List ShD) (f:Str->Rat):Prop where
 k:ShK ks es pf rs
 val:∀ n∈ks.map (·.nm),rvl rs n=f n*wtF ks n
 sp:∀ (i:Nat) p r,ks[i]?=some p->rs[i]?=some r->(r.sl=p.mo/\r.sp=none)\/(r.sl≠p.mo/\∃ e,es.find? (stp (wtF ks) f pf p.nm)=some e/\r.sp=some e.1.nm)
theorem ShR.s {ks:List PD} {es:List (GD × List Str)} {pf:Str->Int × Int} {rs:List ShD} (hc:SHC ks es pf) (hm:∀ p∈ks,FB 100 6 p.mo) (h:ShR ks es pf rs):∃ f,ShS ks es pf rs f:=by
 have j:=h.k hc hm;obtain ⟨o,f,D,F,R⟩:=h;refine ⟨f,j,fun n g=>?_,fun i p r b c=>(R i p r b c).sp⟩;obtain ⟨p,b,rfl⟩:=mem_map.mp g;obtain ⟨i,l⟩:=List.getElem?_of_mem b;have m:=(List.getElem?_eq_some_iff.mp l).1;have c:=List.getElem?_eq_getElem (by ac_nf:i<rs.length);have a:=R i p _ l c;have d:(rs.map (·.nm)).Nodup:=j.nm ▸ hc.nd;have e:=JfK d (List.mem_of_getElem? c);rw [a.nm] at e;rw [e,a.val,JdG hc.nd b]
theorem JiQ {a c:Int × Int} {w u:Int} {f g:Rat} (ha:1<=a.2) (hc:1<=c.2) (hw:1<=w) (hu:1<=u) (h1:vl a=f*(w:Rat)) (h2:vl c=g*(u:Rat)):a.1*c.2*u<c.1*a.2*w↔f<g:=by
 have d:(a.1:Rat)=f*(w:Rat)*(a.2:Rat):=by
  rw [<- h1];unfold vl;exact (Rat.div_mul_cancel (Jaz ha)).symm
 have b:(c.1:Rat)=g*(u:Rat)*(c.2:Rat):=by
  rw [<- h2];unfold vl;exact (Rat.div_mul_cancel (Jaz hc)).symm
 have p:(0:Rat)<((w*u*(a.2*c.2):Int):Rat):=by
  have : 0<w*u*(a.2*c.2):=Int.mul_pos (Int.mul_pos ∅ ∅) (Int.mul_pos ∅ ∅);exact_mod_cast this
 have e:((a.1*c.2*u:Int):Rat)=f*((w*u*(a.2*c.2):Int):Rat):=by
  push_cast;rw [d];grind
 have i:((c.1*a.2*w:Int):Rat)=g*((w*u*(a.2*c.2):Int):Rat):=by
  push_cast;rw [b];grind
 have : (a.1*c.2*u<c.1*a.2*w)↔((a.1*c.2*u:Int):Rat)<((c.1*a.2*w:Int):Rat):=by
  constructor
  ·intro h;exact_mod_cast h
  ·intro h;exact_mod_cast h
 rw [this,e,i];exact ⟨fun h=>Rat.lt_of_mul_lt_mul_right h (Rat.le_of_lt p),fun h=>Rat.mul_lt_mul_of_pos_right h p⟩
def spL:Option Str->List Str
 | none=>[Str.ofString "most"]
 | some g=>[Str.ofString "gap",g]
theorem neTS {K:W.Frag} {H:Hp} {Q:VK} {p q:Addr} {ls:List Str} (hp:SqT K H p (ls.map V.str)) (hq:SqT K H q (ls.map V.str)) (k:Q (.bl false) H):rNeU K (.ref p) (.ref q) H Q:=by
 refine ⟨.tup (ls.map D.str), .tup (ls.map D.str),by simp only [Rep];exact ⟨p,_,rfl,hp,Jch ls⟩,by simp only [Rep];exact ⟨q,_,rfl,hq,Jch ls⟩,?_,rfl,?_⟩
 ·have : ∀ l:List Str,depL (l.map D.str)<=10:=Jc5 (n:=10) fun a=>by simp [depD]
  rw [depD];have:=this ls;ac_nf
 ·rw [Jc6];exact k
theorem fcK {st i:Nat}:(⟨#[102+i]⟩:Str)=nmK 102 st i:=by
 unfold nmK;simp
structure CH (st:Nat) (ls:List PD) (xs:List (SpD × List Str)) (m:Int × Int):Prop where
 s2:st<=2
 G:Grn st ls (xs.map (·.1))
 M:Nms ls xs
 len:xs.length=ls.length+1
 fst:(⟨nmK 102 st 0,nmK 102 st 0,(0,1)⟩,[])∈xs
 lst:(⟨nmK 102 st ls.length,nmK 102 st 0,m⟩,ls.map (·.nm))∈xs
 wt:∀ p∈ls,Mth.Sz 21 p.wt
 dv:∀ p∈ls,Dv 60 (vl p.mo)
theorem CH.start {st:Nat} (h:st<=2):CH st [] [(⟨nmK 102 st 0,nmK 102 st 0,(0,1)⟩,[])] (0,1) :=
 ⟨h,(Grn.nil (st:=st)).face,Nms.nil.face (Grn.nil (st:=st)),rfl,by simp,by simp,(fun p a=>by cases a),fun p a=>by cases a⟩
theorem CH.step {st:Nat} {ls:List PD} {xs:List (SpD × List Str)} {m:Int × Int} (h:CH st ls xs m) {p:PD} {d:Bool} (hnm:p.nm=nmK 112 st ls.length) (h1:p.st=if d then nmK 102 st ls.length else nmK 102 st (ls.length+1)) (h2:p.en=if d then nmK 102 st (ls.length+1) else nmK 102 st ls.length) (hz:FB 133 4 p.sz) (hm:FB 100 6 p.mo) (hok:POk p) (hw:Mth.Sz 21 p.wt) (hd:Dv 60 (vl p.mo)) :
  CH st (ls++[p]) (xs++[(⟨nmK 102 st (ls.length+1),nmK 102 st 0,addF m (sgn d p.sz)⟩,ls.map (·.nm)++[p.nm])]) (addF m (sgn d p.sz)):=by
 have b:(xs.map (·.1)).length=ls.length+1:=by rw [length_map];exact h.len
 have e:=h.G.part (by have:=h.s2;ac_nf) (mem_map.mpr ⟨_,h.lst,rfl⟩) hnm (d:=d) (by rw [b];exact h1) (by rw [b];exact h2) (hz.mono ⋯ ⋯) hok;have c:=h.M.part h.G h.lst hnm (d:=d) (by rw [b];exact h1) (by rw [b];exact h2) hz hm;rw [b] at e c;refine ⟨h.s2,by rw [map_append];exact e,c,by simp [h.len],mem_append.mpr (.inl h.fst),?_,fun q a=>?_,fun q a=>?_⟩
 ·rw [length_append,map_append];exact mem_append.mpr (.inr (by simp))
 ·rcases mem_append.mp a with a | a
  ·exact h.wt q a
  ·rw [mem_singleton.mp a];exact hw
 ·rcases mem_append.mp a with a | a
  ·exact h.dv q a
  ·rw [mem_singleton.mp a];exact hd
theorem CH.mb {st:Nat} {ls:List PD} {xs:List (SpD × List Str)} {m:Int × Int} (h:CH st ls xs m) (l:ls.length<=12):FB 194 49 m:=(h.M.fb _ h.lst).mono ∅ ∅
theorem CH.plb {st:Nat} {ls:List PD} {xs:List (SpD × List Str)} {m:Int × Int} (h:CH st ls xs m) (l:ls.length<=12) (f:Str):FB 302 161 (spOf (xs.map (·.1)) f):=by
 unfold spOf;cases e:(xs.map (·.1)).find? fun t=>decide (t.f=f) with
 | none=>exact Jct.mono ∅ ∅
 | some t=>
  obtain ⟨x,a,rfl⟩:=mem_map.mp (List.mem_of_find?_eq_some e);exact (h.M.fb x a).mono ∅ ∅
theorem CH.gap {st:Nat} {ls:List PD} {xs:List (SpD × List Str)} {m:Int × Int} (h:CH st ls xs m) (l:ls.length<=12) {b:Bool} {g:GD} (h1:g.st=if b then nmK 102 st ls.length else nmK 102 st 0) (h2:g.en=if b then nmK 102 st 0 else nmK 102 st ls.length) :
  Conn ls g.st g.en/\NmOk xs (g,ls.map (·.nm))/\g.st∈(xs.map (·.1)).map (·.f)/\g.en∈(xs.map (·.1)).map (·.f)/\mid (spOf (xs.map (·.1))) g=sgn (!b) m:=by
 have c:(⟨nmK 102 st 0,nmK 102 st 0,(0,1)⟩:SpD)∈xs.map (·.1):=mem_map.mpr ⟨_,h.fst,rfl⟩;have a:(⟨nmK 102 st ls.length,nmK 102 st 0,m⟩:SpD)∈xs.map (·.1):=mem_map.mpr ⟨_,h.lst,rfl⟩;have o:spOf (xs.map (·.1)) (nmK 102 st 0)=(0,1):=h.G.pl_at c;have p:spOf (xs.map (·.1)) (nmK 102 st ls.length)=m:=h.G.pl_at a;have s:(ls.map (·.nm)).Nodup:=JfC h.G.nm;have d:=h.mb l;have key:∀ x∈xs, ∀ y∈xs,x.1.f=nmK 102 st 0->y.1.f=nmK 102 st ls.length->x.2=[]/\y.2=ls.map (·.nm):=fun x i y j e k=>by
  have t:=Jiq h.G i h.fst e;have u:=Jiq h.G j h.lst k;exact ⟨by rw [t],by rw [u]⟩
 cases b with
 | false=>
  simp only [Bool.false_eq_true,if_false] at h1 h2;rw [h1,h2];refine ⟨h.G.joined c a rfl,⟨s,fun x i y j e k n=>?_⟩,mem_map.mpr ⟨_,c,rfl⟩,mem_map.mpr ⟨_,a,rfl⟩,?_⟩
  ·obtain ⟨r,q⟩:=key x i y j (e.trans h1) (k.trans h2);rw [r,q];simp
  ·unfold mid;rw [h1,h2,o,p];refine FB.inj (d.add' Jct.neg) d ?_;rw [d.vadd Jct.neg,Jdn,Jbz];show vl m + -0=vl m;clear key c a o p;grind
 | true=>
  simp only [if_true] at h1 h2;rw [h1,h2];refine ⟨h.G.joined a c rfl,⟨s,fun x i y j e k n=>?_⟩,mem_map.mpr ⟨_,a,rfl⟩,mem_map.mpr ⟨_,c,rfl⟩,?_⟩
  ·obtain ⟨r,q⟩:=key y j x i (k.trans h2) (e.trans h1);rw [r,q];simp
  ·unfold mid;rw [h1,h2,o,p];refine FB.inj (Jct.add' d.neg) d.neg ?_;rw [Jct.vadd d.neg,Jbz];show 0+vl (negF m)=vl (negF m);clear key c a o p;grind
theorem Jku {m r s:Int × Int} {pl:Str->Int × Int} {g:GD} {A B C D E F:Nat} (hm:FB A B m) (hr:FB C D r) (hs:FB E F s) (s0:0<=vl s) (e:mid pl g=m) (e1:g.lo=addF m (negF (addF r s))) (e2:g.hi=addF m r):roomF pl g=r:=by
 unfold roomF;have b:=hr.add' hs;rw [e,e1,e2,JjH hm hr,JjI hm b];have h:=JdC (a:=r) (c:=addF r s) hr.b1 b.b1;rw [hr.vadd hs] at h;split
 ·rfl
 ·rename_i c;refine FB.inj b hr ?_;rw [hr.vadd hs];have : ¬ vl r<vl r+vl s:=fun z=>c (h.mpr z);grind
theorem sum60 {t:Int × Int} {n:Nat} (h:Lo t) (d:Dv 60 (vl t)) (h0:0<=vl t) (h1:vl t<=((2 ^ 100*n:Int):Rat)) (hn:n<=12):FB 110 6 t:=by
 have s:Mth.Sz (100+4) ((2 ^ 100*n:Int)):=by
  unfold Mth.Sz;ac_nf
 have:=d.fb (m:=100+4) (n:=6) h.b1 h.g1 ⋯ (.lit ⋯ ⋯) h0 h1 s;exact this
structure Sh1 (N:Str) (ks:List PD) (rs:List ShD) (rm:Int × Int) (L:Rat):Prop where
 nm:rs.map (·.nm)=ks.map (·.nm)
 fb:∀ r∈rs,FB 800 600 r.sl
 par:∀ (j:Nat) (u:Int × Int),Lo u->vl u=sm (rvl rs) ((ks.map (·.nm)).take j)->FB 800 600 u
 bd:∀ (i:Nat) p r,ks[i]?=some p->rs[i]?=some r->0<=vl r.sl/\vl r.sl<=vl p.mo
 fit:sm (rvl rs) (ks.map (·.nm))<=vl rm
 sp:∀ (i:Nat) p r,ks[i]?=some p->rs[i]?=some r->(r.sl=p.mo/\r.sp=none)\/(r.sl≠p.mo/\r.sp=some N/\vl r.sl=L*(p.wt:Rat))
 al:(∀ (i:Nat) p r,ks[i]?=some p->rs[i]?=some r->r.sl=p.mo)\/(sm (rvl rs) (ks.map (·.nm))=vl rm/\∀ (i:Nat) p r,ks[i]?=some p->rs[i]?=some r->vl r.sl<=L*(p.wt:Rat))
theorem ShS.one {N:Str} {ks:List PD} {G:GD} {pf:Str->Int × Int} {rs:List ShD} {f:Str->Rat} (h:ShS ks [(G,ks.map (·.nm))] pf rs f) (nd:(ks.map (·.nm)).Nodup) (w1:∀ p∈ks,1<=p.wt) (hg:G.nm=N):∃ L,Sh1 N ks rs (roomF pf G) L:=by
 have j:=h.k;have v:(rs.map (·.nm)).Nodup:=j.nm ▸ nd;have n:∀ (i:Nat) p r,ks[i]?=some p->rs[i]?=some r->vl r.sl=f p.nm*(p.wt:Rat):=fun i p r a b=>by
  have g:=List.mem_of_getElem? a;have D:r.nm=p.nm:=by
   have:=congrArg (·[i]?) j.nm;simp only [List.getElem?_map,b,a] at this;exact Option.some.inj this
  have:=h.val p.nm (mem_map.mpr ⟨p,g,rfl⟩);rw [JdG nd g, <- D,JfK v (List.mem_of_getElem? b)] at this;rw [this,D]
 have y:∀ (i:Nat) p r,ks[i]?=some p->rs[i]?=some r->r.sl≠p.mo->r.sp=some N/\sm (rvl rs) (ks.map (·.nm))=vl (roomF pf G)/\∀ q∈ks.map (·.nm),f q<=f p.nm:=fun i p r a b l=>by
  rcases h.sp i p r a b with ⟨d,_⟩ | ⟨_,e,t,h3⟩
  ·exact absurd d l
  ·have o:=List.find?_some t;have C:=List.mem_of_find?_eq_some t;rw [mem_singleton] at C;subst C;unfold stp at o;simp only [Bool.and_eq_true,decide_eq_true_iff] at o;refine ⟨by rw [h3,hg],?_,o.2.2⟩;rw [<- o.2.1];exact Jbe fun q F=>h.val q F
 have A:(G,ks.map (·.nm))∈[(G,ks.map (·.nm))]:=by simp
 have x:∀ L,(∀ (i:Nat) p r,ks[i]?=some p->rs[i]?=some r->(r.sl=p.mo/\r.sp=none)\/(r.sl≠p.mo/\r.sp=some N/\vl r.sl=L*(p.wt:Rat)))->((∀ (i:Nat) p r,ks[i]?=some p->rs[i]?=some r->r.sl=p.mo)\/(sm (rvl rs) (ks.map (·.nm))=vl (roomF pf G)/\∀ (i:Nat) p r,ks[i]?=some p->rs[i]?=some r->vl r.sl<=L*(p.wt:Rat)))->Sh1 N ks rs (roomF pf G) L:=fun L d t=>by
  have E:=j.fit _ A;have P:=j.par _ A;refine ⟨j.nm,j.fb,?_,?_,?_,d,t⟩
  ·exact P
  ·intro i p r a b;have:=j.bd i p r a b;exact ⟨this.1,this.2.1⟩
  ·exact E
 by_cases c:∀ (i:Nat) p r,ks[i]?=some p->rs[i]?=some r->r.sl=p.mo
 ·refine ⟨0,x 0 (fun i p r a b=>?_) (.inl c)⟩;rcases h.sp i p r a b with d | ⟨d,_⟩
  ·exact .inl d
  ·exact absurd (c i p r a b) d
 ·simp only [Classical.not_forall] at c;obtain ⟨H,s,J,m,u,l⟩:=c;obtain ⟨Q,O,B⟩:=y H s J m u l;refine ⟨f s.nm,x _ (fun i p r a b=>?_) (.inr ⟨O,fun i p r a b=>?_⟩)⟩
  ·by_cases z:r.sl=p.mo
   ·rcases h.sp i p r a b with d | ⟨d,_⟩
    ·exact .inl d
    ·exact absurd z d
   ·obtain ⟨I,_,K⟩:=y i p r a b z;have e:f p.nm=f s.nm:=Rat.le_antisymm (B _ (mem_map.mpr ⟨p,List.mem_of_getElem? a,rfl⟩)) (K _ (mem_map.mpr ⟨s,List.mem_of_getElem? m,rfl⟩));exact .inr ⟨z,I,by rw [n i p r a b,e]⟩
  ·rw [n i p r a b];have g:=List.mem_of_getElem? a;have w:=w1 p g;have M:(0:Rat)<=(p.wt:Rat):=by exact_mod_cast (show 0<=p.wt by ac_nf)
   exact Rat.mul_le_mul_of_nonneg_right (B _ (mem_map.mpr ⟨p,g,rfl⟩)) M
theorem eqTS {K:W.Frag} {H:Hp} {Q:VK} {p q:Addr} {ls rs:List Str} (hp:SqT K H p (ls.map V.str)) (hq:SqT K H q (rs.map V.str)) (k:Q (.bl (decide (ls=rs))) H):rEqU K (.ref p) (.ref q) H Q:=by
 refine ⟨.tup (ls.map D.str), .tup (rs.map D.str),by simp only [Rep];exact ⟨p,_,rfl,hp,Jch ls⟩,by simp only [Rep];exact ⟨q,_,rfl,hq,Jch rs⟩,?_,rfl,?_⟩
 ·have : ∀ l:List Str,depL (l.map D.str)<=10:=Jc5 (n:=10) fun a=>by simp [depD]
  rw [depD];have:=this ls;ac_nf
 ·rw [eqD,Jf4];exact k
theorem neTT {K:W.Frag} {H:Hp} {Q:VK} {p q:Addr} {ls rs:List Str} (hp:SqT K H p (ls.map V.str)) (hq:SqT K H q (rs.map V.str)) (k:Q (.bl (!decide (ls=rs))) H):rNeU K (.ref p) (.ref q) H Q:=by
 refine ⟨.tup (ls.map D.str), .tup (rs.map D.str),by simp only [Rep];exact ⟨p,_,rfl,hp,Jch ls⟩,by simp only [Rep];exact ⟨q,_,rfl,hq,Jch rs⟩,?_,rfl,?_⟩
 ·have : ∀ l:List Str,depL (l.map D.str)<=10:=Jc5 (n:=10) fun a=>by simp [depD]
  rw [depD];have:=this ls;ac_nf
 ·rw [eqD,Jf4];exact k
theorem Jk0 {a:Int × Int} {w:Int} {L:Rat} (ha:1<=a.2) (hw:1<=w) (e:vl a=L*(w:Rat)):vl (Mth.top a.1 (a.2*w),Mth.bot a.1 (a.2*w))=L:=by
 rw [JeJ (Jbh ha hw)];have b:(a.1:Rat)=L*(w:Rat)*(a.2:Rat):=by
  rw [<- e];unfold vl;exact (Rat.div_mul_cancel (Jaz ha)).symm
 have d:=Jaz ha;have c:=Jaz hw;push_cast;rw [b];grind
theorem pick9 {n:Nat} (h:n<2):∃ om:Int,[V.int 9, .int 10000000000000000000000000000000000000000][n]?=some (.int om)/\1<=om/\om<=10000000000000000000000000000000000000000:=by
 match n,h with
 | 0,_ | 1,_=>exact ⟨_,rfl,by decide,by decide⟩
 | n+2,h=>ac_nf
theorem pick6 {n:Nat} (h:n<2):∃ om:Int,[V.int 60, .int 1000000000000000000000000000000][n]?=some (.int om)/\1<=om/\om<=1000000000000000000000000000000:=by
 match n,h with
 | 0,_ | 1,_=>exact ⟨_,rfl,by decide,by decide⟩
 | n+2,h=>ac_nf
theorem Jlf {n:Nat} (h:n<12):∃ bt:Int,[V.int 1, .int 2, .int 3, .int 4, .int 5, .int 6, .int 10, .int 12, .int 15, .int 20, .int 30, .int 60][n]?=some (.int bt)/\1<=bt/\bt<=60/\∃ k:Int,60=bt*k:=by
 match n,h with
 | 0,_=>exact ⟨_,rfl,by decide,by decide,60,by decide⟩
 | 1,_=>exact ⟨_,rfl,by decide,by decide,30,by decide⟩
 | 2,_=>exact ⟨_,rfl,by decide,by decide,20,by decide⟩
 | 3,_=>exact ⟨_,rfl,by decide,by decide,15,by decide⟩
 | 4,_=>exact ⟨_,rfl,by decide,by decide,12,by decide⟩
 | 5,_=>exact ⟨_,rfl,by decide,by decide,10,by decide⟩
 | 6,_=>exact ⟨_,rfl,by decide,by decide,6,by decide⟩
 | 7,_=>exact ⟨_,rfl,by decide,by decide,5,by decide⟩
 | 8,_=>exact ⟨_,rfl,by decide,by decide,4,by decide⟩
 | 9,_=>exact ⟨_,rfl,by decide,by decide,3,by decide⟩
 | 10,_=>exact ⟨_,rfl,by decide,by decide,2,by decide⟩
 | 11,_=>exact ⟨_,rfl,by decide,by decide,1,by decide⟩
 | n+12,h=>ac_nf
theorem pickw {n:Nat} {x y:Int} (h:n<3) (x1:1<=x) (x2:x<=1000000) (y1:1<=y) (y2:y<=1000000):∃ wt:Int,[V.int x, .int x, .int y][n]?=some (.int wt)/\1<=wt/\wt<=1000000:=by
 match n,h with
 | 0,_=>exact ⟨_,rfl,x1,x2⟩
 | 1,_=>exact ⟨_,rfl,x1,x2⟩
 | 2,_=>exact ⟨_,rfl,y1,y2⟩
 | n+3,h=>ac_nf
theorem dv60 {t b k:Int} (hb:1<=b) (h:60=b*k):Dv 60 (vl (Mth.top t b,Mth.bot t b)):=by
 rw [JeJ hb,h];refine Dv.more ?_ k;have : Dv (1*b) ((t:Rat)/(b:Rat)):=Dv.over hb (by
  rw [Rat.div_mul_cancel (Jaz hb)];exact Dv.int t)
 rw [Int.one_mul] at this;exact this
theorem Jjt {u m:Int × Int} {i:Nat} (h:vl u<=((2 ^ 100*i:Int):Rat)) (mb:FB 100 6 m) (m0:0<=vl m):vl u+vl m<=((2 ^ 100*(i+1:Nat):Int):Rat):=by
 have b:=Jdm mb.b1 ((vl_nn mb.b1).mp m0);have a:m.1<=2 ^ 100:=by
  have:=mb.s1;unfold Mth.Sz at this;ac_nf
 have c:(m.1:Rat)<=((2 ^ 100:Int):Rat):=by exact_mod_cast a
 have e:((2 ^ 100*(i+1:Nat):Int):Rat)=((2 ^ 100*i:Int):Rat)+((2 ^ 100:Int):Rat):=by
  rw [<- Rat.intCast_add]
  congr 1
 rw [e];have d:=Rat.le_trans b c;grind
theorem nm_eq {z1 z2:Str} {st i:Nat} (h1:z1.cps.toList=List.replicate st 120++[97+i]) (h2:z2.cps.toList=List.replicate (2-st) 120):z1++z2=nmK 112 st i:=by
 have : (z1++z2).cps=(nmK 112 st i).cps:=by
  apply Array.toList_inj.mp;rw [Jgv,h1,h2];unfold nmK;simp
 cases a:z1++z2;cases b:nmK 112 st i;rw [a,b] at this
 congr
def LvV (K:W.Frag) (H:Hp) (L:Rat) (x:V):Prop:=∃ c:Int × Int,FrV K H x c.1 c.2/\FB 800 700 c/\vl c=L
theorem LvV.sameT {K:W.Frag} {H H':Hp} {L:Rat} {x:V} (S:SameT H H'):LvV K H L x->LvV K H' L x:=by
 rintro ⟨c,a,b,d⟩;exact ⟨c,a.sameT S,b,d⟩
theorem lo01:Lo (0,1):=⟨Int.le_refl 1,by unfold Mth.g;simp⟩
theorem Jkh {a c:Int × Int}:(decide (a.1=c.1)&&decide (a.2=c.2))=decide (a=c):=by
 rw [Bool.eq_iff_iff];simp [Prod.ext_iff]
theorem ShV.tt {K:W.Frag} {H:Hp} {o:Option Str} {t:Addr} (h:SqT K H t (match o with | none=>[.str (Str.ofString "most")] | some g=>[.str (Str.ofString "gap"), .str g])):SqT K H t ((spL o).map V.str):=by
 cases o with
 | none=>exact h
 | some g=>exact h
theorem Jk1 {c s:Int × Int} {w:Int} {L:Rat} (hc:1<=c.2) (hs:1<=s.2) (hw:1<=w) (e:vl c=L) (h:vl s<=L*(w:Rat)):¬ c.1*s.2*w<s.1*c.2:=by
 have b:=Jaz hw;have:=JiQ (a:=c) (c:=s) (w:=1) (u:=w) (f:=L) (g:=vl s/(w:Rat)) hc hs (Int.le_refl 1) hw (by rw [e];simp) (Rat.div_mul_cancel b).symm;rw [Int.mul_one] at this;rw [this,Rat.not_lt];have d:(0:Rat)<(w:Rat):=by exact_mod_cast (show 0<w by ac_nf)
 rw [<- scaled d,Rat.div_mul_cancel b];exact h
theorem f0K {st:Nat}:Str.ofString "f"=nmK 102 st 0:=by
 have : (Str.ofString "f").cps=(nmK 102 st 0).cps:=by
  unfold nmK;rw [if_pos rfl];decide
 cases a:Str.ofString "f";cases b:nmK 102 st 0;rw [a,b] at this
 congr
theorem half4 {w:Int} (h0:0<=w) (h4:w<4):∃ n:Nat,w.fdiv 2=(n:Int)/\n<2:=by
 obtain rfl | rfl | rfl | rfl:w=0\/w=1\/w=2\/w=3:=by ac_nf
 ·exact ⟨0,by decide,by decide⟩
 ·exact ⟨0,by decide,by decide⟩
 ·exact ⟨1,by decide,by decide⟩
 ·exact ⟨1,by decide,by decide⟩
theorem sp01:FB 2 2 (0,1)/\0<=vl (0,1):=⟨Jct.mono ⋯ ⋯,by rw [Jbz];exact Rat.le_refl⟩
theorem g_one1 {b:Int}:Mth.g 1 b=1:=by unfold Mth.g;simp
theorem sp13:FB 2 2 (1,3)/\0<=vl (1,3):=⟨⟨show Mth.Sz 2 1 from .lit ⋯ ⋯,show Mth.Sz 2 3 from .lit ⋯ ⋯,by decide,L2.g_one1⟩,(vl_nn ⋯).mpr ⋯⟩
theorem Jj8:nameS (Str.ofString "need")=true:=by decide
end L2
open PySem L2
local macro_rules|`(tactic|rename_i $p:ident $h:ident $q:ident $H:ident $G:ident $S:ident $e:ident)=>`(tactic|(intro $p:ident $h:ident;generalize $q:ident:upd $H $p _=$G;have $S:ident:=newS $h $q;have $e:ident:=newE $q))
local macro_rules|`(tactic|bv_decide)=>`(tactic|exact ⟨rfl,rfl,rfl,by decide +kernel,rfl,by decide +kernel,by decide +kernel⟩)
local macro_rules|`(tactic|simpa! only [$xs,*])=>`(tactic|simp only [y4fy,y50y,y51y,y72y,y2by,y6dy,y80y,y81y,y47y,y2ey,y79y,y93y,y30y,y3cy,y73y,y2fy,y89y,y23y,y29y,y7ay,y75y,y2ay,y7by,y77y,y5by,y95y,y26y,y87y,y71y,y6ay,y4cy,y69y,y7ey,y33y,y4ay,y6fy,y4by,y70y,y49y,y6ey,y8ey,y65y,y61y,y90y,y92y,y8fy,y91y,y25y,y68y,y24y,true_and,if_true,if_false,Bool.not_true,Bool.not_false,Bool.false_eq_true,yby,ydy,yay,ycy,yey,y15y,y17y,y14y,y16y,y18y,y6y,y8y,y5y,y7y,y9y,y1y,y3y,y0y,y2y,y4y,y10y,y12y,yfy,y11y,y13y,y1ay,y1cy,y19y,y1by,y1dy,y1fy,y21y,y1ey,y20y,y22y,y85y,y7dy,y74y,y31y,y32y,y55y,y63y,y64y,y4ey,y86y,y8cy,y96y,y7fy,y27y,V.int.injEq,V.str.injEq,List.set_cons_zero,List.set_cons_succ,List.getElem?_cons_zero,List.getElem?_cons_succ,Option.some.injEq,exists_eq_left,exists_eq_left',V.bl.injEq,Int.reduceToNat,Int.reducePow,append_nil,nil_append,cons_append,y57y,y59y,y2cy,y2dy,y6by,y60y,y76y,y66y,y67y,y3dy,y3ey,y3fy,y46y,y48y,y41y,y7cy,y43y,y42y,y34y,y36y,y3ay,y40y,y44y,y52y,y54y,y5cy,y38y,y8by,y88y,y37y,y98y,reduceCtorEq,decide_false,decide_true,$xs,*])
local macro_rules|`(tactic|infer_instance)=>`(tactic|simpa! only [y83y])
local macro_rules|`(tactic|contradiction)=>`(tactic|simpa! only [y83y,y4dy])
local macro_rules|`(tactic|ac_rfl)=>`(tactic|simpa! only [y83y,y84y])
local macro_rules|`(tactic|symm_saturate)=>`(tactic|((try simpa! only [y4dy,y84y]);repeat ((first | (with_reducible refine Jfg fun _ _=>?_) | (with_reducible refine Nxt.go (by assumption) ?_));(try simpa! only [y4dy,y84y]))))
local macro_rules|`(tactic|exfalso)=>`(tactic|((try simpa! only [y84y]);repeat ((first | (with_reducible refine Jfg fun _ _=>?_) | (with_reducible refine Nxt.go (by assumption) ?_));(try simpa! only [y84y]))))
local macro_rules|`(tactic|and_intros)=>`(tactic|((try simpa! only [y4dy]);repeat ((first | (with_reducible refine Jfg fun _ _=>?_) | (with_reducible refine Nxt.go (by assumption) ?_));(try simpa! only [y4dy]))))
local macro_rules|`(tactic|nofun)=>`(tactic|((try simpa! only [true_and]);repeat ((first | (with_reducible refine Jfg fun _ _=>?_) | (with_reducible refine Nxt.go (by assumption) ?_));(try simpa! only [true_and]))))
local macro_rules|`(tactic|simpa only [$xs,*])=>`(tactic|simpa! only [y83y, $xs,*])
namespace Prg
open PySem L2 Ch
variable {f:Addr} {fd:FuncData} {dV:Value}
def top (i:Nat):Stmt:=PySem.Challenge.pw_slackchain_k53_one_gap_shared.main.body.getD i (.Pass ⟨0,0,0,0⟩)
structure Adr where
 NoNumber:Addr
 Twice:Addr
 NoName:Addr
 NoPart:Addr
 NoGap:Addr
 InRing:Addr
 Apart:Addr
 Part:Addr
 Gap:Addr
 Joints:Addr
 Thing:Addr
 Scale:Addr
 Lid:Addr
 SMALL_LETTERS:Value
 LONGEST_NAME:Value
 ZERO:Addr
structure PartC (K:W.Frag) (C:Addr):Prop where
 cls:Cls K C
 n1:JaU K C "name"
 n2:JaU K C "start"
 n3:JaU K C "end"
 n4:JaU K C "size"
 n5:JaU K C "most"
 n6:JaU K C "weight"
def IsPart (Ad:Adr) (C:Addr):Prop:=C=Ad.Part
structure GapC (K:W.Frag) (C:Addr):Prop where
 cls:Cls K C
 n1:JaU K C "name"
 n2:JaU K C "one"
 n3:JaU K C "other"
 n4:JaU K C "low"
 n5:JaU K C "high"
def IsGap (Ad:Adr) (C:Addr):Prop:=C=Ad.Gap
structure JjD (K:W.Frag) (C:Addr):Prop where
 cls:Cls K C
 n1:JaU K C "leads"
def Jc0 (Ad:Adr) (C:Addr):Prop:=C=Ad.Joints
structure JkH (K:W.Frag) (C:Addr):Prop where
 cls:Cls K C
 n1:JaU K C "parts_by_name"
 n2:JaU K C "gaps_by_name"
 n3:JaU K C "ways"
def Jbb (Ad:Adr) (C:Addr):Prop:=C=Ad.Thing
structure JkG (K:W.Frag) (C:Addr):Prop where
 cls:Cls K C
 n1:JaU K C "bottom"
 n2:JaU K C "factors"
def Jdo (Ad:Adr) (C:Addr):Prop:=C=Ad.Scale
structure LidC (K:W.Frag) (C:Addr):Prop where
 cls:Cls K C
 n1:JaU K C "name"
 n2:JaU K C "rest"
 n3:JaU K C "weights"
 n4:JaU K C "load"
 n5:JaU K C "last_level"
def IsLid (Ad:Adr) (C:Addr):Prop:=C=Ad.Lid
theorem SqT.put {K:W.Frag} {H:Hp} {x a C dx:Addr} {fs fs':List (Str × V)} {xs:List V} (hx:H x=some (.ins C dx fs)) (h:SqT K H a xs):SqT K (upd H x (.ins C dx fs')) a xs:=by
 rcases h with (h | ⟨o,h⟩) | h
 ·exact .inl (.inl (by rw [Jag (ne_of h hx (by intro z;cases z))];exact h))
 ·exact .inl (.inr ⟨o,by rw [Jag (ne_of h hx (by intro z;cases z))];exact h⟩)
 ·exact .inr h
def partF (n s e z m w:V):List (Str × V):=[("name",n),("start",s),("end",e),("size",z),("most",m),("weight",w)]
def gapF (n s e l g:V):List (Str × V):=[("name",n),("one",s),("other",e),("low",l),("high",g)]
structure Txt (K:W.Frag) (mg:Str->Option Value) (Ad:Adr):Prop where
 BdI:mg "abs"=none
 Ban:mg "isinstance"=none
 BbB:mg "len"=none
 BdV:mg "int"=none
 BdW:mg "bool"=none
 Bcr:mg "tuple"=none
 Bd0:mg "str"=none
 Bcs:mg "range"=none
 Bdv:mg "list"=none
 Bd1:mg "min"=none
 BdX:mg "sorted"=none
 Bd2:mg "all"=none
 n_sum:mg "sum"=none
 n_dict:mg "dict"=none
 m_NoNumber:mg "NoNumber"=some (.ref Ad.NoNumber)
 Bdy:mg "Twice"=some (.ref Ad.Twice)
 BdJ:mg "NoName"=some (.ref Ad.NoName)
 BdK:mg "NoPart"=some (.ref Ad.NoPart)
 BdP:mg "NoGap"=some (.ref Ad.NoGap)
 BdL:mg "InRing"=some (.ref Ad.InRing)
 BdQ:mg "Apart"=some (.ref Ad.Apart)
 Bd5:mg "Part"=some (.ref Ad.Part)
 Bd6:mg "Gap"=some (.ref Ad.Gap)
 BdY:mg "Joints"=some (.ref Ad.Joints)
 Bd3:mg "Thing"=some (.ref Ad.Thing)
 Bd4:mg "Scale"=some (.ref Ad.Scale)
 m_Lid:mg "Lid"=some (.ref Ad.Lid)
 Bct:mg "SMALL_LETTERS"=some Ad.SMALL_LETTERS
 Bcu:RelV (.str "abcdefghijklmnopqrstuvwxyz") Ad.SMALL_LETTERS
 BcP:mg "LONGEST_NAME"=some Ad.LONGEST_NAME
 BcQ:RelV (.int 8) Ad.LONGEST_NAME
 Bdi:mg "ZERO"=some (.ref Ad.ZERO)
 Bdj:RelV (.ref Ad.ZERO) (.ref Ad.ZERO)
 Bdk:∀ H:Hp,SqT K H Ad.ZERO [.int 0, .int 1]
 x_NoNumber:W.excIn K Ad.NoNumber [.type "ValueError", .type "Exception", .type "BaseException", .type "object"] "ValueError.__new__"=true
 Bci:W.excIn K Ad.Twice [.type "ValueError", .type "Exception", .type "BaseException", .type "object"] "ValueError.__new__"=true
 Bb4:W.excIn K Ad.NoName [.type "ValueError", .type "Exception", .type "BaseException", .type "object"] "ValueError.__new__"=true
 Bb5:W.excIn K Ad.NoPart [.type "ValueError", .type "Exception", .type "BaseException", .type "object"] "ValueError.__new__"=true
 Bcv:W.excIn K Ad.NoGap [.type "ValueError", .type "Exception", .type "BaseException", .type "object"] "ValueError.__new__"=true
 Bb6:W.excIn K Ad.InRing [.type "ValueError", .type "Exception", .type "BaseException", .type "object"] "ValueError.__new__"=true
 Bcw:W.excIn K Ad.Apart [.type "ValueError", .type "Exception", .type "BaseException", .type "object"] "ValueError.__new__"=true
 Bb7:W.plainGet K Ad.Part Str.empty=true
 Bb8:W.hasDictIn K Ad.Part=true
 Bb9:W.plainOver K Ad.Part=true
 Bca:W.findIn K (.ref Ad.Part) "__setattr__"=some (some (.builtin "object.__setattr__"))
 Bcb:W.findIn K (.ref Ad.Part) "name"=some none
 Bcc:W.findIn K (.ref Ad.Part) "start"=some none
 Bcd:W.findIn K (.ref Ad.Part) "end"=some none
 Bce:W.findIn K (.ref Ad.Part) "size"=some none
 Bcf:W.findIn K (.ref Ad.Part) "most"=some none
 Bcg:W.findIn K (.ref Ad.Part) "weight"=some none
 Bcx:W.plainGet K Ad.Gap Str.empty=true
 Bcy:W.hasDictIn K Ad.Gap=true
 Bcz:W.plainOver K Ad.Gap=true
 BcA:W.findIn K (.ref Ad.Gap) "__setattr__"=some (some (.builtin "object.__setattr__"))
 BcB:W.findIn K (.ref Ad.Gap) "name"=some none
 BcC:W.findIn K (.ref Ad.Gap) "one"=some none
 BcD:W.findIn K (.ref Ad.Gap) "other"=some none
 BcE:W.findIn K (.ref Ad.Gap) "low"=some none
 BcF:W.findIn K (.ref Ad.Gap) "high"=some none
 Bbj:W.plainGet K Ad.Joints Str.empty=true
 Bbk:W.hasDictIn K Ad.Joints=true
 Bbl:W.plainOver K Ad.Joints=true
 Bbm:W.findIn K (.ref Ad.Joints) "__setattr__"=some (some (.builtin "object.__setattr__"))
 Bbn:W.findIn K (.ref Ad.Joints) "leads"=some none
 BbC:W.plainGet K Ad.Thing Str.empty=true
 BbD:W.hasDictIn K Ad.Thing=true
 BbE:W.plainOver K Ad.Thing=true
 BbF:W.findIn K (.ref Ad.Thing) "__setattr__"=some (some (.builtin "object.__setattr__"))
 BbG:W.findIn K (.ref Ad.Thing) "parts_by_name"=some none
 BbH:W.findIn K (.ref Ad.Thing) "gaps_by_name"=some none
 BbI:W.findIn K (.ref Ad.Thing) "ways"=some none
 BbJ:W.plainGet K Ad.Scale Str.empty=true
 BbK:W.hasDictIn K Ad.Scale=true
 BbL:W.plainOver K Ad.Scale=true
 BbM:W.findIn K (.ref Ad.Scale) "__setattr__"=some (some (.builtin "object.__setattr__"))
 BbN:W.findIn K (.ref Ad.Scale) "bottom"=some none
 BbO:W.findIn K (.ref Ad.Scale) "factors"=some none
 cl1_Lid:W.plainGet K Ad.Lid Str.empty=true
 cl2_Lid:W.hasDictIn K Ad.Lid=true
 cl3_Lid:W.plainOver K Ad.Lid=true
 cl4_Lid:W.findIn K (.ref Ad.Lid) "__setattr__"=some (some (.builtin "object.__setattr__"))
 na1_Lid:W.findIn K (.ref Ad.Lid) "name"=some none
 na2_Lid:W.findIn K (.ref Ad.Lid) "rest"=some none
 na3_Lid:W.findIn K (.ref Ad.Lid) "weights"=some none
 na4_Lid:W.findIn K (.ref Ad.Lid) "load"=some none
 na5_Lid:W.findIn K (.ref Ad.Lid) "last_level"=some none
 BcR:∀ C,IsPart Ad C->PartC K C
 Bdz:∀ C,IsGap Ad C->GapC K C
 Bch:∀ C,Jc0 Ad C->JjD K C
 Ba4:∀ C,Jbb Ad C->JkH K C
 BcG:∀ C,Jdo Ad C->JkG K C
 c_Lid:∀ C,IsLid Ad C->LidC K C
def PEV (K:W.Frag) (H:Hp) (e:PD ⊕ D) (x:V):Prop:=match e with
 | .inl p=>PDV K H p x/\POk p
 | .inr c=>Rep K H c x/\szD c/\partB c=false
def GEV (K:W.Frag) (H:Hp) (e:GD ⊕ D) (x:V):Prop:=match e with
 | .inl g=>TV K H g.td x/\TOk g.td
 | .inr c=>Rep K H c x/\szD c/\gapB c=false
def POV (K:W.Frag) (Ad:Adr) (H:Hp) (p:PD) (v:V):Prop:=∃ q dx vz vm,v=.ref q/\H q=some (.ins Ad.Part dx (partF (.str p.nm) (.str p.st) (.str p.en) vz vm (.int p.wt)))/\FrV K H vz p.sz.1 p.sz.2/\FrV K H vm p.mo.1 p.mo.2
def GOV (K:W.Frag) (Ad:Adr) (H:Hp) (g:GD) (v:V):Prop:=∃ q dx vl vg,v=.ref q/\H q=some (.ins Ad.Gap dx (gapF (.str g.nm) (.str g.st) (.str g.en) vl vg))/\FrV K H vl g.lo.1 g.lo.2/\FrV K H vg g.hi.1 g.hi.2
section
variable {K:W.Frag} {Ad:Adr} {H H':Hp} {v x:V}
def isTI:HO->Bool
 | .ins _ _ _=>true
 | u=>isTF u
def SameI (H H':Hp):Prop:=∀ b u,isTI u=true->H b=some u->H' b=some u
theorem SameI.t (S:SameI H H'):SameT H H':=fun b u t h=>S b u (by cases u <;> first | exact t | (simp [isTF] at t)) h
theorem Same.i (S:Same H H'):SameI H H':=fun b u _ h=>S b u h
theorem PEV.same {e:PD ⊕ D} (S:Same H H') (h:PEV K H e x):PEV K H' e x:=by
 match e,h with
 | .inl t,h=>exact ⟨h.1.sameT S.t,h.2⟩
 | .inr c,h=>exact ⟨h.1.same S,h.2⟩
theorem GEV.same {e:GD ⊕ D} (S:Same H H') (h:GEV K H e x):GEV K H' e x:=by
 match e,h with
 | .inl t,h=>exact ⟨h.1.sameT S.t,h.2⟩
 | .inr c,h=>exact ⟨h.1.same S,h.2⟩
theorem POV.si {p:PD} (S:SameI H H'):POV K Ad H p v->POV K Ad H' p v:=by rintro ⟨q,d,e,g,b,a,c,f⟩;exact ⟨q,d,e,g,b,S _ _ rfl a,c.sameT S.t,f.sameT S.t⟩
theorem GOV.si {g:GD} (S:SameI H H'):GOV K Ad H g v->GOV K Ad H' g v:=by rintro ⟨q,d,e,h,b,a,c,f⟩;exact ⟨q,d,e,h,b,S _ _ rfl a,c.sameT S.t,f.sameT S.t⟩
end
def JK (Ad:Adr) (H0 H:Hp) (j d:Addr) (ls:List PD):Prop:=(∃ dx,H j=some (.ins Ad.Joints dx [("leads", .ref d)]))/\H0 d=none/\∃ kvs,H d=some (.dK kvs)/\kvs.length<=2*ls.length/\JD H0 H (JaD ls) kvs
theorem JK.same {Ad:Adr} {H0 H H':Hp} {j d:Addr} {ls:List PD} (S:Same H H'):JK Ad H0 H j d ls->JK Ad H0 H' j d ls:=fun ⟨⟨g,e⟩,c,a,f,h,b⟩=>⟨⟨g,S _ _ e⟩,c,a,S _ _ f,h,b.same S⟩
def TK (K:W.Frag) (Ad:Adr) (H:Hp) (x:Addr) (ls:List PD) (gs:List GD):Prop:=∃ dx d1 d2 d3 k1 k2 k3,H x=some (.ins Ad.Thing dx [("parts_by_name", .ref d1),("gaps_by_name", .ref d2),("ways", .ref d3)])/\H d1=some (.dK k1)/\BG (·.nm) (POV K Ad H) ls k1/\H d2=some (.dK k2)/\BG (·.nm) (GOV K Ad H) gs k2/\H d3=some (.dK k3)/\BG (·.nm) (WOV H ls) gs k3
theorem TK.same {K:W.Frag} {Ad:Adr} {H H':Hp} {x:Addr} {ls:List PD} {gs:List GD} (S:Same H H'):TK K Ad H x ls gs->TK K Ad H' x ls gs:=by rintro ⟨m,a,c,e,j,d,h,f,g,k,b,o,l,n⟩;exact ⟨m,a,c,e,j,d,h,S _ _ f,S _ _ g,k.mono fun _ _ z=>z.si (Same.i S),S _ _ b,o.mono fun _ _ z=>z.si (Same.i S),S _ _ l,n.mono fun _ _ z=>z.same S⟩
def SameJ (d:Addr) (H H':Hp):Prop:=∀ b u,b≠d->(∀ xs,u≠.lst xs)->H b=some u->H' b=some u
def SCK (Ad:Adr) (H:Hp) (x:Addr) (b:Int) (fs:List Int):Prop:=∃ dx fl,H x=some (.ins Ad.Scale dx [("bottom", .int b),("factors", .ref fl)])/\H fl=some (.lst (fs.map V.int))/\Scl b fs/\Mth.Sz 2000 b/\fs.length<=30
theorem SCK.same {Ad:Adr} {H H':Hp} {x:Addr} {b:Int} {fs:List Int} (S:Same H H'):SCK Ad H x b fs->SCK Ad H' x b fs:=by rintro ⟨f,c,d,a,e⟩;exact ⟨f,c,S _ _ d,S _ _ a,e⟩
def LDV (K:W.Frag) (Ad:Adr) (H:Hp) (e:LidD) (v:V):Prop:=∃ q dx vr vt wd,v=.ref q/\H q=some (.ins Ad.Lid dx [("name", .str e.nm),("rest",vr),("weights", .ref wd),("load", .int e.load),("last_level",vt)])/\FrV K H vr e.rest.1 e.rest.2/\FrV K H vt e.last.1 e.last.2/\H wd=some (.dK (wsK e.ws))
theorem LDV.same {K:W.Frag} {Ad:Adr} {H H':Hp} {e:LidD} {v:V} (S:Same H H'):LDV K Ad H e v->LDV K Ad H' e v:=by rintro ⟨q,h,d,j,a,f,c,g,i,b⟩;exact ⟨q,h,d,j,a,f,S _ _ c,g.same S,i.same S,S _ _ b⟩
theorem LDV.keep {K:W.Frag} {Ad:Adr} {H H':Hp} {e:LidD} {v:V} {q C dq:Addr} {fs:List (Str × V)} (S:∀ b u,b≠q->H b=some u->H' b=some u) (hq:H q=some (.ins C dq fs)) (hne:v≠.ref q):LDV K Ad H e v->LDV K Ad H' e v:=fun ⟨i,k,g,m,d,c,f,j,l,a⟩=>by
 have T:SameT H H':=fun b u t h=>S b u (fun z=>by rw [z,hq] at h;cases h;simp [isTF] at t) h;exact ⟨i,k,g,m,d,c,S _ _ (fun z=>hne (by rw [c,z])) f,j.sameT T,l.sameT T,S _ _ (fun z=>by rw [z,hq] at a;cases a) a⟩
theorem Same.cutN {H H':Hp} {d:Addr} (S:Same H H') (hd:H d=none):Same H (cut d H'):=fun b u h=>by
 rw [JbG (fun z=>by rw [z,hd] at h;cases h)];exact S b u h
theorem SameT.cutO {H:Hp} {d:Addr} {o:HO} (h:H d=some o) (ho:isTF o=false):SameT H (cut d H):=fun b u t a=>by
 rw [JbG (fun z=>by rw [z,h] at a;cases a;rw [ho] at t;cases t)];exact a
theorem LDV.notin {K:W.Frag} {Ad:Adr} {H:Hp} {es:List LidD} {xs:List V} {a:Addr} {u:HO} (hX:All2 (LDV K Ad H) es xs) (h:H a=some u) (hu:∀ dx fs,u≠.ins Ad.Lid dx fs):V.ref a∉xs:=fun z=>by
 obtain ⟨i,d⟩:=List.getElem?_of_mem z;obtain ⟨e,_,q,dx,g,j,f,b,c,_⟩:=hX.at_ d;have b:a=q:=by injection b
 rw [b,c] at h;exact hu _ _ (Option.some.inj h).symm
theorem LDV.dict {K:W.Frag} {Ad:Adr} {H H0 H':Hp} {e:LidD} {v:V} {d:Addr} {kv:List (Key × V)} (S:∀ b u,b≠d->H b=some u->H' b=some u) (hd:H d=some (.dK kv)) (hn:∀ wd,v=.ref wd->True) (h0:∀ q dx vr vt wd,H q=some (.ins Ad.Lid dx [("name", .str e.nm),("rest",vr),("weights", .ref wd),("load", .int e.load),("last_level",vt)])->v=.ref q->wd≠d):LDV K Ad H e v->LDV K Ad H' e v:=fun ⟨g,dx,vr,vt,wd,c,a,i,j,f⟩=>by
 have T:SameT H H':=fun b u t h=>S b u (fun z=>by rw [z,hd] at h;cases h;simp [isTF] at t) h;exact ⟨g,dx,vr,vt,wd,c,S _ _ (fun z=>by rw [z,hd] at a;cases a) a,i.sameT T,j.sameT T,S _ _ (h0 _ _ _ _ _ a c) f⟩
def ShV (K:W.Frag) (H:Hp) (r:ShD) (v:V):Prop:=∃ p vs t,v=.ref p/\SqT K H p [.str r.nm,vs, .ref t]/\FrV K H vs r.sl.1 r.sl.2/\SqT K H t (match r.sp with | none=>[.str (Str.ofString "most")] | some g=>[.str (Str.ofString "gap"), .str g])
theorem ShV.sameT {K:W.Frag} {H H':Hp} {r:ShD} {v:V} (S:SameT H H'):ShV K H r v->ShV K H' r v:=by rintro ⟨p,a,t,c,b,d,e⟩;exact ⟨p,a,t,c,b.sameT S,d.sameT S,e.sameT S⟩
def shD (r:ShD):D:=.tup [.str r.nm,frD r.sl, .tup (match r.sp with | none=>[.str (Str.ofString "most")] | some g=>[.str (Str.ofString "gap"), .str g])]
theorem ShV.rep {K:W.Frag} {H:Hp} {r:ShD} {v:V} (h:ShV K H r v):Rep K H (shD r) v:=by
 obtain ⟨p,d,t,rfl,c,a,b⟩:=h;have a:=FrV.rep a;cases e:r.sp with
 | none=>
  rw [e] at b;unfold shD;rw [e];simp only [Rep,RepL];exact ⟨p,_,rfl,c,_,_,rfl,rfl,_,_,rfl,by simpa only [Rep,RepL,frD] using a,_,_,rfl,⟨t,_,rfl,b,_,_,rfl,rfl,rfl⟩,rfl⟩
 | some g=>
  rw [e] at b;unfold shD;rw [e];simp only [Rep,RepL];exact ⟨p,_,rfl,c,_,_,rfl,rfl,_,_,rfl,by simpa only [Rep,RepL,frD] using a,_,_,rfl,⟨t,_,rfl,b,_,_,rfl,rfl,_,_,rfl,rfl,rfl⟩,rfl⟩
section
variable {P:Program} {w:World} {K:W.Frag} {mg:Str->Option Value} {base:Heap} {Ad:Adr}
seal PE PA PS PSs PT PW PG PGs PI PO
abbrev Bai:Stmt:=top 11
theorem JaQ:Jan ["one","other","greater","lesser","rest"] ["one","other"] (Jae Bai):=by bv_decide
def JaC  : Sp:=fun vs H Q E=>∃ (a b:Int),vs=[.int a, .int b]/\Q (.int (Mth.g a b)) H
theorem Jdx (F:FunD K "common_divisor" "common_divisor" Bai dV f fd) (T:Txt K mg Ad)  : FnOk P w K mg base (CX1 P w) 1 f fd ["one","other"] (JaC):=by
 refine F.okn JaQ (by subst_eqs) (fun p A d s H n Q E o h=>?_)
 obtain ⟨a,b,rfl,h⟩:=h;have l:=o.units;refine ⟨_,(Jab (Jak (i:=2) JaQ.nd rfl (Or.inl rfl) (Jat Jc3 rfl T.BdI Jgw (Jaa (pv 0) Jad)))
   (Jab (Jak (i:=3) JaQ.nd rfl (Or.inl rfl) (Jat Jc3 rfl T.BdI Jgw (Jaa (pv 1) Jad)))
   (Jab (JdL PassesOwn.never (Jav (JbI l) (pv 3) Jac (Jas _))
   (Jab (Jak (i:=4) JaQ.nd rfl (Or.inl rfl) (pe_op JaG (pv 2) (pv 3)))
   (Jab (Jak (i:=2) JaQ.nd rfl (Or.inl rfl) (pv 3))
   (Jah (Jak (i:=3) JaQ.nd rfl (Or.inl rfl) (pv 4))))))
   (Jah (Jap (pv 2)))))),?_⟩
 clear l;show tSeq _ _ _ [some (.int a),some (.int b),none,none,none] H;try infer_instance
 refine ⟨fun m σ j=>∃ (x y:Int) (z:Option V),σ=[some (.int a),some (.int b),some (.int x),some (.int y),z]/\j=H/\0<=x/\0<=y/\Mth.g x y=Mth.g a b/\y.toNat=m,⟨_,_,_,none,rfl,rfl,Mth.Jjg a,Mth.Jjg b,Mth.BdZ a b,rfl⟩,?_⟩;rintro m σ j ⟨x,y,z,rfl,rfl,t,r,k,rfl⟩;try infer_instance
 by_cases c:y=0
 ·subst c;rw [if_neg (by simp)];have e:Mth.g a b=x:=by rw [<- k,Mth.Jjn];ac_nf
  rw [e] at h;exact h
 ·rw [if_pos (by simp [c])];have f:=Mth.fm (x:=x) (y:=y) ∅;exact ⟨_,fun _ _ q=>q,c,(x.fmod y).toNat,by ac_nf,y,x.fmod y,_,rfl,rfl,r,f.1,by rw [Mth.JhG ∅];exact k,rfl⟩
abbrev BcS:Stmt:=top 12
theorem Jfe:Jan ["one","other","shared","top","rest"] ["one","other"] (Jae BcS):=by bv_decide
def Jfi (K:W.Frag):Sp:=fun vs H Q E=>∃ (x y:V) (a b c d:Int),vs=[x,y]/\FrV K H x a b/\FrV K H y c d/\Mth.Sz 4000 a/\Mth.Sz 4000 b/\Mth.Sz 4000 c/\Mth.Sz 4000 d/\1<=b/\1<=d/\Mth.g a b=1/\Mth.g c d=1/\∀ p H',Same H H'->H' p=some (.tup [.int (Mth.top (a*d+c*b) (b*d)), .int (Mth.bot (a*d+c*b) (b*d))])->Q (.ref p) H'
theorem Jkb (F:FunD K "plus" "plus" BcS dV f fd) (T:Txt K mg Ad) (Bac:Cal P w K mg base 1 "common_divisor" ["one","other"] [] (JaC)):FnOk P w K mg base (CX1 P w) 2 f fd ["one","other"] (Jfi K):=by
 refine F.okn Jfe (by subst_eqs) (fun J A o s H B Q E q h=>?_)
 obtain ⟨x,y,a,b,c,d,rfl,h⟩:=h;refine ⟨_,(Jab (Jak (i:=2) Jfe.nd rfl (Or.inl rfl) (Bac.ev q ⋯ rfl passF (Jaa (pe_ix ix_U (pv 0) Jac (fun _ _=>rfl)) (Jaa (pe_ix ix_U (pv 1) Jac (fun _ _=>rfl)) Jad)) (he:=by exact Jaf rfl)))
   (Jab (Jak (i:=3) Jfe.nd rfl (Or.inl rfl) (pe_op Jbc (pe_op JaE (pe_ix ix_U (pv 0) Jac (fun _ _=>rfl)) (pe_op Jau (pe_ix ix_U (pv 1) Jac (fun _ _=>rfl)) (pv 2))) (pe_op JaE (pe_ix ix_U (pv 1) Jac (fun _ _=>rfl)) (pe_op Jau (pe_ix ix_U (pv 0) Jac (fun _ _=>rfl)) (pv 2)))))
   (Jab (Jak (i:=4) Jfe.nd rfl (Or.inl rfl) (Bac.ev q ⋯ rfl passF (Jaa (pv 3) (Jaa (pv 2) Jad)) (he:=by exact Jaf rfl)))
   (Jah (Jap (JaB (Jaa (pe_op Jau (pv 3) (pv 4)) (Jaa (pe_op JaE (pe_op Jau (pe_ix ix_U (pv 0) Jac (fun _ _=>rfl)) (pv 2)) (pe_op Jau (pe_ix ix_U (pv 1) Jac (fun _ _=>rfl)) (pv 4))) Jad)))))))),?_⟩
 obtain ⟨e,j,D,W,N,l,I,M,V,G,k⟩:=h;show tSeq _ _ _ [some x,some y,none,none,none] H;try infer_instance
 refine ixF1 e (ixF1 j ?_);try infer_instance
 refine ⟨_,_,rfl,?_⟩;try infer_instance
 have Y:=Mth.g_pos (a:=b) (b:=d) ∅;have X:=Mth.Jcu b d;have v:=Mth.JbH b d;have r:Mth.Sz 4000 (Mth.g b d):=Nat.lt_of_le_of_lt (by have:=Mth.g_le (a:=b) (b:=d) ∅;ac_nf:(Mth.g b d).natAbs<=d.natAbs) l;have n:DivOk (Mth.g b d):=divOk ∅ r;have z:=W.fdiv X ∅;have O:=l.fdiv v ∅;refine ixF0 e (ixF1 j ?_);try infer_instance
 refine ⟨n,mulOk D O,ixF0 j (ixF1 e ?_)⟩;try infer_instance
 refine ⟨n,mulOk N z,?_⟩;refine ⟨_,_,rfl,?_⟩;have m:=Mth.Jko I M V G (s:=Mth.g b d) rfl rfl rfl;generalize ht:a*d.fdiv (Mth.g b d)+c*b.fdiv (Mth.g b d)=t at m ⊢;have Z:=Mth.g_pos (a:=t) (b:=Mth.g b d) ∅;have R:=Mth.JbH t (Mth.g b d);have U:Mth.Sz 4000 (Mth.g t (Mth.g b d)):=Nat.lt_of_le_of_lt (by have:=Mth.g_le (a:=t) (b:=Mth.g b d) ∅;ac_nf:(Mth.g t (Mth.g b d)).natAbs<=(Mth.g b d).natAbs) r;have u:DivOk (Mth.g t (Mth.g b d)):=divOk ∅ U;try infer_instance
 refine ⟨u,ixF1 e ?_⟩;try infer_instance
 refine ⟨n,ixF1 j ?_⟩;try infer_instance
 refine ⟨u,mulOk z (l.fdiv (Int.dvd_trans R v) ∅),len2,?_⟩;refine Jd0 fun p C S L=>k p C S ?_;rw [L,m.1,m.2]
abbrev Bcj:Stmt:=top 13
theorem Ji9:Jan ["one","other"] ["one","other"] (Jae Bcj):=by bv_decide
def Jdk (K:W.Frag):Sp:=fun vs H Q E=>∃ (x y:V) (a b c d:Int),vs=[x,y]/\FrV K H x a b/\FrV K H y c d/\Mth.Sz 4000 a/\Mth.Sz 4000 b/\Mth.Sz 4000 c/\Mth.Sz 4000 d/\1<=b/\1<=d/\Mth.g a b=1/\Mth.g c d=1/\∀ p H',Same H H'->H' p=some (.tup [.int (Mth.top (a*d-c*b) (b*d)), .int (Mth.bot (a*d-c*b) (b*d))])->Q (.ref p) H'
theorem JiS (F:FunD K "minus" "minus" Bcj dV f fd) (T:Txt K mg Ad) (BcT:Cal P w K mg base 2 "plus" ["one","other"] [] (Jfi K)):FnOk P w K mg base (CX1 P w) 3 f fd ["one","other"] (Jdk K):=by
 refine F.okn Ji9 (by subst_eqs) (fun t A e s H i Q E l h=>?_)
 obtain ⟨x,y,a,b,c,d,rfl,h⟩:=h;refine ⟨_,(Jah (Jap (BcT.ev l ⋯ rfl passF (Jaa (pv 0) (Jaa (JaB (Jaa (pe_un JgV (pe_ix ix_U (pv 1) Jac (fun _ _=>rfl))) (Jaa (pe_ix ix_U (pv 1) Jac (fun _ _=>rfl)) Jad))) Jad)) (he:=by exact Jaf rfl)))),?_⟩;obtain ⟨J,g,m,I,D,q,r,B,G,o,k⟩:=h;show tRet _ _ [some x,some y] H;try infer_instance
 refine ixF0 g ?_;try infer_instance
 refine ixF1 g ?_;try infer_instance
 refine ⟨len2,?_⟩;rename_i p n z H M S u;refine ⟨_,_,a,b, -c,d,rfl,J.same S,FrV.of u,m,I,D.neg,q,r,B,G,by rw [Mth.g_neg];exact o,fun C j v L=>k C j (S.trans v) ?_⟩;rw [L,Int.neg_mul, <- Int.sub_eq_add_neg]
abbrev Bck:Stmt:=top 14
theorem Jff:Jan ["one","other","across","back"] ["one","other"] (Jae Bck):=by bv_decide
def Jdl (K:W.Frag):Sp:=fun vs H Q E=>∃ (x y:V) (a b c d:Int),vs=[x,y]/\FrV K H x a b/\FrV K H y c d/\Mth.Sz 4000 a/\Mth.Sz 4000 b/\Mth.Sz 4000 c/\Mth.Sz 4000 d/\1<=b/\1<=d/\Mth.g a b=1/\Mth.g c d=1/\∀ p H',Same H H'->H' p=some (.tup [.int (Mth.top (a*c) (b*d)), .int (Mth.bot (a*c) (b*d))])->Q (.ref p) H'
theorem JiU (F:FunD K "times" "times" Bck dV f fd) (T:Txt K mg Ad) (Bac:Cal P w K mg base 1 "common_divisor" ["one","other"] [] (JaC)):FnOk P w K mg base (CX1 P w) 2 f fd ["one","other"] (Jdl K):=by
 refine F.okn Jff (by subst_eqs) (fun L A l s H z Q E m h=>?_)
 obtain ⟨x,y,a,b,c,d,rfl,h⟩:=h;refine ⟨_,(Jab (Jak (i:=2) Jff.nd rfl (Or.inl rfl) (Bac.ev m ⋯ rfl passF (Jaa (pe_ix ix_U (pv 0) Jac (fun _ _=>rfl)) (Jaa (pe_ix ix_U (pv 1) Jac (fun _ _=>rfl)) Jad)) (he:=by exact Jaf rfl)))
   (Jab (Jak (i:=3) Jff.nd rfl (Or.inl rfl) (Bac.ev m ⋯ rfl passF (Jaa (pe_ix ix_U (pv 1) Jac (fun _ _=>rfl)) (Jaa (pe_ix ix_U (pv 0) Jac (fun _ _=>rfl)) Jad)) (he:=by exact Jaf rfl)))
   (Jah (Jap (JaB (Jaa (pe_op JaE (pe_op Jau (pe_ix ix_U (pv 0) Jac (fun _ _=>rfl)) (pv 2)) (pe_op Jau (pe_ix ix_U (pv 1) Jac (fun _ _=>rfl)) (pv 3))) (Jaa (pe_op JaE (pe_op Jau (pe_ix ix_U (pv 0) Jac (fun _ _=>rfl)) (pv 3)) (pe_op Jau (pe_ix ix_U (pv 1) Jac (fun _ _=>rfl)) (pv 2))) Jad))))))),?_⟩
 obtain ⟨e,j,C,t,U,n,J,O,W,G,k⟩:=h;show tSeq _ _ _ [some x,some y,none,none] H;try infer_instance
 refine ixF0 e (ixF1 j ?_);try infer_instance
 refine ⟨_,_,rfl,?_⟩;refine ixF0 j (ixF1 e ?_);try infer_instance
 refine ⟨_,_,rfl,?_⟩;try infer_instance
 have Y:=Mth.g_pos (a:=a) (b:=d) ∅;have X:=Mth.g_pos (a:=c) (b:=b) ∅;have V:=Mth.Jcu a d;have R:=Mth.JbH a d;have I:=Mth.Jcu c b;have D:=Mth.JbH c b;have N:Mth.Sz 4000 (Mth.g a d):=Nat.lt_of_le_of_lt (by have:=Mth.g_le (a:=a) (b:=d) ∅;ac_nf:(Mth.g a d).natAbs<=d.natAbs) n;have vl:Mth.Sz 4000 (Mth.g c b):=Nat.lt_of_le_of_lt (by have:=Mth.g_le (a:=c) (b:=b) ∅;ac_nf:(Mth.g c b).natAbs<=b.natAbs) t;have o:DivOk (Mth.g a d):=divOk ∅ N;have r:DivOk (Mth.g c b):=divOk ∅ vl;have q:=Mth.Jjc J O W G (u:=Mth.g a d) (v:=Mth.g c b) rfl rfl;refine ixF0 e ?_;try infer_instance
 refine ⟨o,ixF0 j ?_⟩;try infer_instance
 refine ⟨r,mulOk (C.fdiv V ∅) (U.fdiv I ∅),ixF1 e ?_⟩;try infer_instance
 refine ⟨r,ixF1 j ?_⟩;try infer_instance
 refine ⟨o,mulOk (t.fdiv D ∅) (n.fdiv R ∅),len2,?_⟩;refine Jd0 fun p B S M=>k p B S ?_;rw [M,q.1,q.2]
abbrev BcU:Stmt:=top 15
theorem Jkv:Jan ["one","other"] ["one","other"] (Jae BcU):=by bv_decide
def Jfh (K:W.Frag) (Ad:Adr):Sp:=fun vs H Q E=>∃ (x y:V) (a b c d:Int),vs=[x,y]/\FrV K H x a b/\FrV K H y c d/\Mth.Sz 4000 a/\Mth.Sz 4000 b/\Mth.Sz 4000 c/\Mth.Sz 4000 d/\1<=b/\1<=d/\Mth.g a b=1/\Mth.g c d=1/\(c=0->E (.ref Ad.NoNumber) none H)/\(c≠0->∀ p H',Same H H'->H' p=some (.tup [.int (Mth.top (a*d) (b*c)), .int (Mth.bot (a*d) (b*c))])->Q (.ref p) H')
theorem Jka (F:FunD K "over" "over" BcU dV f fd) (T:Txt K mg Ad) (Bba:Cal P w K mg base 2 "times" ["one","other"] [] (Jdl K)):FnOk P w K mg base (CX1 P w) 3 f fd ["one","other"] (Jfh K Ad):=by
 refine F.okx Jkv (fun R H Q E h=>?_) (fun U A v s H R Q E l h=>?_)
 ·obtain ⟨x,y,a,b,c,d,rfl,_⟩:=h;rfl
 obtain ⟨x,y,a,b,c,d,rfl,h⟩:=h;have I:=l.units;refine ⟨_,(Jab (ps_if (Jav (Jbr I) (pe_ix ix_U (pv 1) Jac (fun _ _=>rfl)) Jac (Jas _))
   (Jah (JbY PySem.F.excBase_ValueError T.x_NoNumber rfl T.m_NoNumber (Jaa Ja8 Jad)))
   Jar)
   (Jab (ps_if (Jav Jdb (pe_ix ix_U (pv 1) Jac (fun _ _=>rfl)) Jac (Jas _))
   (Jah (Jap (Bba.ev l ⋯ rfl pass1 (Jaa (pv 0) (Jaa (JaB (Jaa (pe_un JgV (pe_ix ix_U (pv 1) Jac (fun _ _=>rfl))) (Jaa (pe_un JgV (pe_ix ix_U (pv 1) Jac (fun _ _=>rfl))) Jad))) Jad)) (he:=by exact Jaf rfl))))
   Jar)
   (Jah (Jap (Bba.ev l ⋯ rfl pass1 (Jaa (pv 0) (Jaa (JaB (Jaa (pe_ix ix_U (pv 1) Jac (fun _ _=>rfl)) (Jaa (pe_ix ix_U (pv 1) Jac (fun _ _=>rfl)) Jad))) Jad)) (he:=by exact Jaf rfl)))))),?_⟩
 clear I;obtain ⟨N,g,B,M,J,D,G,W,L,C,V,k⟩:=h;show tSeq _ _ _ [some x,some y] H;try infer_instance
 refine ixF0 g ?_;try infer_instance
 by_cases i:c=0
 ·rw [if_pos (by simpa using i)];try infer_instance
  exact ⟨by decide,V i⟩
 ·rw [if_neg (by simpa using i)];refine ixF0 g ?_;try infer_instance
  by_cases r:c<0
  ·rw [if_pos (by simpa using r)];refine ixF1 g ?_;try infer_instance
   refine ixF0 g ?_;try infer_instance
   refine ⟨len2,?_⟩;rename_i p m q H O S n;refine ⟨_,_,a,b, -d, -c,rfl,N.same S,FrV.of n,B,M,D.neg,J.neg,G,by ac_nf,L,by rw [Mth.g_neg,Mth.JkP,Mth.Jjm];exact C,fun u j o z=>k i u j (S.trans o) ?_⟩;have e:=Mth.Jj6 (t:=a*d) (b:=b*c) (Int.mul_neg_of_pos_of_neg ∅ r);rw [z,Int.mul_neg,Int.mul_neg,e.1,e.2]
  ·rw [if_neg (by simpa using r)];refine ixF1 g ?_;try infer_instance
   refine ixF0 g ?_;try infer_instance
   refine ⟨len2,?_⟩;rename_i p m q H O S n;exact ⟨_,_,a,b,d,c,rfl,N.same S,FrV.of n,B,M,D,J,G,by ac_nf,L,by rw [Mth.Jjm];exact C,fun u j o z=>k i u j (S.trans o) z⟩
abbrev Bcl:Stmt:=top 16
theorem Jja:Jan ["one","other"] ["one","other"] (Jae Bcl):=by bv_decide
def Jcr (K:W.Frag):Sp:=fun vs H Q E=>∃ (x y:V) (a b c d:Int),vs=[x,y]/\FrV K H x a b/\FrV K H y c d/\Mth.Sz 4000 a/\Mth.Sz 4000 b/\Mth.Sz 4000 c/\Mth.Sz 4000 d/\Q (.bl (decide (a*d<c*b))) H
theorem JiV (F:FunD K "under" "under" Bcl dV f fd) (T:Txt K mg Ad)  : FnOk P w K mg base (CX1 P w) 1 f fd ["one","other"] (Jcr K):=by
 refine F.okn Jja (by subst_eqs) (fun n A e s H j Q E q h=>?_)
 obtain ⟨x,y,a,b,c,d,rfl,h⟩:=h;refine ⟨_,(Jah (Jap (Ja1 Jdb (pe_op JaE (pe_ix ix_U (pv 0) Jac (fun _ _=>rfl)) (pe_ix ix_U (pv 1) Jac (fun _ _=>rfl))) (pe_op JaE (pe_ix ix_U (pv 1) Jac (fun _ _=>rfl)) (pe_ix ix_U (pv 0) Jac (fun _ _=>rfl))) (Jas _)))),?_⟩;obtain ⟨g,i,l,p,o,m,k⟩:=h;show tRet _ _ [some x,some y] H;nofun;refine ixF0 g (ixF1 i ?_);nofun;refine ⟨mulOk l m,ixF0 i (ixF1 g ?_)⟩;nofun;exact ⟨mulOk o p,k⟩
abbrev Bbo:Stmt:=top 22
theorem Jhi:Jan ["thing"] ["thing"] (Jae Bbo):=by bv_decide
def Jca (K:W.Frag):Sp:=fun vs H Q E=>∃ (x:V) (d:D),vs=[x]/\Rep K H d x/\szD d/\∀ H',Same H H'->Q (.bl (nameB d)) H'
theorem Jha (F:FunD K "is_name" "is_name" Bbo dV f fd) (T:Txt K mg Ad)  : FnOk P w K mg base (CX1 P w) 1 f fd ["thing"] (Jca K):=by
 refine F.okn Jhi (by subst_eqs) (fun C A l s H y Q E L h=>?_)
 obtain ⟨x,d,rfl,h⟩:=h;refine ⟨_,(Jab (ps_if (Jbi (JaZ (Jat JaA rfl T.Ban JaN (Jaa (pv 0) (Jaa (Jcf (v:=.ty "str") rfl T.Bd0 JkK rfl) Jad)))))
   (Jah (Jap pe_bl))
   Jar)
   (Jab (ps_if (PW.pt (pw_or (Jav Jdb (Jat JaL rfl T.BbB Jbp (Jaa (pv 0) Jad)) Jac (Jas _)) (JbZ (Jav JgK (Jat JaL rfl T.BbB Jbp (Jaa (pv 0) Jad)) (JcT (v:=.int 8) rfl T.BcP T.BcQ) (Jas _)))))
   (Jah (Jap pe_bl))
   Jar)
   (Jah (Jap (Jat (Jhr rfl) rfl T.Bd2 JkI (Jaa (Jd9 (own:=["sign"]) (cs:=[]) (cl:=[]) rfl (Jle (pv 0)) (fun _ _ _ _=>(Jax (i:=0) (show [("sign" : Str)].Nodup by decide) rfl (Or.inl rfl))) (fun _ _ _ _=>(Ja1 (Jk7 (K:=K) rfl) (pv 0) (JcT (v:=.str "abcdefghijklmnopqrstuvwxyz") rfl T.Bct T.Bcu) (by with_unfolding_all rfl))) rfl ⋯ rfl ⋯ hcl0 (hhas0 ⋯) hcs0) Jad)))))),?_⟩
 obtain ⟨n,t,k⟩:=h;show tSeq _ _ _ [some x] H;nofun;refine ⟨_,n.tyN,?_⟩;by_cases g:∃ z,d=.str z
 ·obtain ⟨z,rfl⟩:=g;simp only [Rep] at n;subst n;simp only [szD] at t;simpa only [tyD]
  (try ((with_reducible refine Nxt.go (by assumption) ?_);nofun))
  have q:z.length<=sizeLine:=Nat.le_trans t ⋯;simp only [nameB,nameS] at k;refine ⟨q,?_⟩;nofun;by_cases R:z.length<1
  ·rw [if_pos (by simp;ac_nf)];nofun;have e:decide (1<=z.length)=false:=by simp;ac_nf
   rw [e] at k;exact k H (.refl H)
  ·rw [if_neg (by simp;ac_nf)];nofun;have e:decide (1<=z.length)=true:=by simp;ac_nf
   rw [e] at k;refine ⟨q,?_⟩;nofun;by_cases O:8<z.length
   ·rw [if_pos (by simp;ac_nf)];nofun;have e:decide (z.length<=8)=false:=by simp;ac_nf
    rw [e] at k;exact k H (.refl H)
   ·rw [if_neg (by simp;ac_nf)];nofun;have e:decide (z.length<=8)=true:=by simp;ac_nf
    rw [e] at k;nofun;simpa only [tComp,iStr];refine ⟨fun i m o a=>a=H/\i<=z.cps.size/\m=z.cps.size-i/\o=(z.cps.toList.take i).map fun c=>V.bl (lowB c),⟨_,rfl,Nat.zero_le _,rfl,by simp⟩,?_⟩;rintro i m o a ⟨rfl,U,rfl,rfl⟩;have J:z.cps.size=z.length:=rfl;refine ⟨by simp;ac_nf,?_⟩;by_cases b:i<z.cps.size
    ·refine .inr ⟨b,?_⟩;rintro x u ⟨rfl,c,D,rfl⟩;simpa only [length_singleton,List.replicate,JaF,map_nil,y5dy,Jg5];refine ⟨_,Nat.sub_lt_sub_left b (Nat.lt_succ_self i),b,rfl,?_⟩;have j:z.cps.toList[i]?=some c:=by simpa using D
     rw [take_succ,j];simp
    ·have r:i=z.cps.size:=by ac_nf
     refine .inl ⟨r,?_⟩;subst r;rw [take_of_length_le (by simp)];rename_i p N M a u S I;refine ⟨p,z.cps.toList.map lowB,rfl,SqL.of (by rw [I,map_map];rfl),?_⟩;have:=k u S;simpa [List.all_map] using this
 ·have B:nameB d=false:=by cases d <;> first | rfl | exact absurd ⟨_,rfl⟩ g
  rw [B] at k;have G:isiB (tyD d) "str"=false:=by cases d <;> first | rfl | exact absurd ⟨_,rfl⟩ g
  simpa only [G];exact k H (.refl H)
abbrev BaX:Stmt:=top 23
theorem Jgq:Jan ["thing"] ["thing"] (Jae BaX):=by bv_decide
def Jco (K:W.Frag):Sp:=fun vs H Q E=>∃ (x:V) (d:D),vs=[x]/\Rep K H d x/\Q (.bl (Jcb d)) H
theorem Jgd (F:FunD K "is_whole" "is_whole" BaX dV f fd) (T:Txt K mg Ad)  : FnOk P w K mg base (CX1 P w) 1 f fd ["thing"] (Jco K):=by
 refine F.okn Jgq (by subst_eqs) (fun g A b s H e Q E i h=>?_)
 obtain ⟨x,d,rfl,h⟩:=h;refine ⟨_,(Jah (Jap (Jcw (Jat JaA rfl T.Ban JaN (Jaa (pv 0) (Jaa (Jcf (v:=.ty "int") rfl T.BdV Jjh rfl) Jad))) (Jde (Jh8 (Jat JaA rfl T.Ban JaN (Jaa (pv 0) (Jaa (Jcf (v:=.ty "bool") rfl T.BdW JjJ rfl) Jad)))))))),?_⟩;obtain ⟨c,k⟩:=h;show tRet _ _ [some x] H;nofun;refine ⟨_,c.tyN,?_⟩;have a:=c.tyN;cases d <;> simp only [tyD,Jcb,y83y,y4fy,y50y,y51y,y72y,y2by,y6dy,y80y,y81y,y47y,y2ey,y79y,y93y,y30y,y3cy,y73y,y2fy,y89y,y23y,y29y,y7ay,y75y,y2ay,y7by,y77y,y5by,y95y,y26y,y87y,y71y,y6ay,y4cy,y69y,y7ey,y33y,y4ay,y6fy,y4by,y70y,y49y,y6ey,y8ey,y65y,y61y,y90y,y92y,y8fy,y91y,y25y,y68y,y24y,true_and,if_true,if_false,Bool.not_true,Bool.not_false,Bool.false_eq_true,yby,ydy,yay,ycy,yey,y15y,y17y,y14y,y16y,y18y,y6y,y8y,y5y,y7y,y9y,y1y,y3y,y0y,y2y,y4y,y10y,y12y,yfy,y11y,y13y,y1ay,y1cy,y19y,y1by,y1dy,y1fy,y21y,y1ey,y20y,y22y,y85y,y7dy,y74y,y31y,y32y,y55y,y63y,y64y,y4ey,y86y,y8cy,y96y,y7fy,y27y,V.int.injEq,V.str.injEq,List.set_cons_zero,List.set_cons_succ,List.getElem?_cons_zero,List.getElem?_cons_succ,Option.some.injEq,exists_eq_left,exists_eq_left',V.bl.injEq,Int.reduceToNat,Int.reducePow,append_nil,nil_append,cons_append,y57y,y59y,y2cy,y2dy,y6by,y60y,y76y,y66y,y67y,y3dy,y3ey,y3fy,y46y,y48y,y41y,y7cy,y43y,y42y,y34y,y36y,y3ay,y40y,y44y,y52y,y54y,y5cy,y38y,y8by,y88y,y37y,y98y,reduceCtorEq,decide_false,decide_true] at k a ⊢ <;> first | exact k | exact ⟨_,a,by simpa only [y83y,y4fy,y50y,y51y,y72y,y2by,y6dy,y80y,y81y,y47y,y2ey,y79y,y93y,y30y,y3cy,y73y,y2fy,y89y,y23y,y29y,y7ay,y75y,y2ay,y7by,y77y,y5by,y95y,y26y,y87y,y71y,y6ay,y4cy,y69y,y7ey,y33y,y4ay,y6fy,y4by,y70y,y49y,y6ey,y8ey,y65y,y61y,y90y,y92y,y8fy,y91y,y25y,y68y,y24y,true_and,if_true,if_false,Bool.not_true,Bool.not_false,Bool.false_eq_true,yby,ydy,yay,ycy,yey,y15y,y17y,y14y,y16y,y18y,y6y,y8y,y5y,y7y,y9y,y1y,y3y,y0y,y2y,y4y,y10y,y12y,yfy,y11y,y13y,y1ay,y1cy,y19y,y1by,y1dy,y1fy,y21y,y1ey,y20y,y22y,y85y,y7dy,y74y,y31y,y32y,y55y,y63y,y64y,y4ey,y86y,y8cy,y96y,y7fy,y27y,V.int.injEq,V.str.injEq,List.set_cons_zero,List.set_cons_succ,List.getElem?_cons_zero,List.getElem?_cons_succ,Option.some.injEq,exists_eq_left,exists_eq_left',V.bl.injEq,Int.reduceToNat,Int.reducePow,append_nil,nil_append,cons_append,y57y,y59y,y2cy,y2dy,y6by,y60y,y76y,y66y,y67y,y3dy,y3ey,y3fy,y46y,y48y,y41y,y7cy,y43y,y42y,y34y,y36y,y3ay,y40y,y44y,y52y,y54y,y5cy,y38y,y8by,y88y,y37y,y98y,reduceCtorEq,decide_false,decide_true] using k⟩
abbrev Baz:Stmt:=top 24
theorem Jeu:Jan ["thing"] ["thing"] (Jae Baz):=by bv_decide
def JbD (K:W.Frag):Sp:=fun vs H Q E=>∃ (x:V) (d:D),vs=[x]/\Rep K H d x/\Q (.bl (fracB d)) H
theorem Jeq (F:FunD K "is_fraction" "is_fraction" Baz dV f fd) (T:Txt K mg Ad) (BaN:Cal P w K mg base 1 "is_whole" ["thing"] [] (Jco K)) (Bac:Cal P w K mg base 1 "common_divisor" ["one","other"] [] (JaC)):FnOk P w K mg base (CX1 P w) 2 f fd ["thing"] (JbD K):=by
 refine F.okn Jeu (by subst_eqs) (fun G A u s H B Q E b h=>?_)
 obtain ⟨x,d,rfl,h⟩:=h;have t:=b.units;refine ⟨_,(Jab (ps_if (PW.pt (pw_or (Jbi (JaZ (Jat JaA rfl T.Ban JaN (Jaa (pv 0) (Jaa (Jcf (v:=.ty "tuple") rfl T.Bcr Jc2 rfl) Jad))))) (JbZ (Jav (JbI t) (Jat JaL rfl T.BbB Jbp (Jaa (pv 0) Jad)) Jac (Jas _)))))
   (Jah (Jap pe_bl))
   Jar)
   (Jab (ps_if (PW.pt (pw_or (Jbi (JaZ (BaN.ev b ⋯ rfl passF (Jaa (pe_ix ix_U (pv 0) Jac (fun _ _=>rfl)) Jad) (he:=by exact Jaf rfl)))) (JbZ (Jbi (JaZ (BaN.ev b ⋯ rfl passF (Jaa (pe_ix ix_U (pv 0) Jac (fun _ _=>rfl)) Jad) (he:=by exact Jaf rfl)))))))
   (Jah (Jap pe_bl))
   Jar)
   (Jah (Jap (Jcw (Ja1 Jjq (pe_ix ix_U (pv 0) Jac (fun _ _=>rfl)) Jac (Jas _)) (Jde (Ja1 (Jbr t) (Bac.ev b ⋯ rfl passF (Jaa (pe_ix ix_U (pv 0) Jac (fun _ _=>rfl)) (Jaa (pe_ix ix_U (pv 0) Jac (fun _ _=>rfl)) Jad)) (he:=by exact Jaf rfl)) Jac (Jas _)))))))),?_⟩
 clear t;obtain ⟨y,k⟩:=h;show tSeq _ _ _ [some x] H;nofun;refine ⟨_,y.tyN,?_⟩;by_cases n:∃ m,d=.tup m
 ·obtain ⟨m,rfl⟩:=n;simpa only [tyD]
  (try ((with_reducible refine Nxt.go (by assumption) ?_);nofun))
  simp only [Rep] at y;obtain ⟨a,J,rfl,l,b⟩:=y;have N:=b.length;refine ⟨J, .inr l,?_⟩;nofun;by_cases z:m.length=2
  ·match m,z with
   | [d0,d1],_=>
    simp only [RepL] at b;obtain ⟨D,M,rfl,p,C,L,rfl,q,rfl⟩:=b;simpa only [length_cons,length_nil];rw [if_neg (by simp)];nofun;nofun;refine ixT0 l ?_;refine ⟨D,d0,rfl,p,?_⟩;nofun;by_cases o:Jcb d0=true
    ·rw [if_neg (by simp [o])];nofun;refine ixT1 l ?_;refine ⟨C,d1,rfl,q,?_⟩;nofun;by_cases r:Jcb d1=true
     ·rw [if_neg (by simp [r])];nofun;obtain ⟨i,rfl⟩:∃ i,d0=.int i:=by cases d0 <;> simp [Jcb] at o;exact ⟨_,rfl⟩
      obtain ⟨j,rfl⟩:∃ j,d1=.int j:=by cases d1 <;> simp [Jcb] at r;exact ⟨_,rfl⟩
      simp only [Rep] at p q;subst p q;simp only [fracB] at k;nofun;refine ixT1 l ?_;nofun;by_cases c:1<=j
      ·rw [if_pos (by simpa using c)];nofun;refine ixT0 l (ixT1 l ?_);refine ⟨_,_,rfl,?_⟩;nofun;simpa [c] using k
      ·rw [if_neg (by simpa using c)];nofun;simpa [c] using k
     ·rw [if_pos (by simp [r])];nofun;nofun;have g:fracB (.tup [d0,d1])=false:=by cases d0 <;> cases d1 <;> simp_all [fracB,Jcb]
      rw [g] at k;exact k
    ·rw [if_pos (by simp [o])];nofun;nofun;have g:fracB (.tup [d0,d1])=false:=by cases d0 <;> cases d1 <;> simp_all [fracB,Jcb]
     rw [g] at k;exact k
  ·rw [if_pos (by simp;ac_nf)];nofun;have g:fracB (.tup m)=false:=by
    unfold fracB;split
    ·rename_i e;cases e;simp at z
    ·rfl
   rw [g] at k;exact k
 ·have g:fracB d=false:=by cases d <;> first | rfl | exact absurd ⟨_,rfl⟩ n
  rw [g] at k;have I:isiB (tyD d) "tuple"=false:=by cases d <;> first | rfl | exact absurd ⟨_,rfl⟩ n
  simpa only [I];exact k
abbrev BaY:Stmt:=top 25
theorem Jgp:Jan ["thing"] ["thing"] (Jae BaY):=by bv_decide
def JcX (K:W.Frag):Sp:=fun vs H Q E=>∃ (x:V) (d:D),vs=[x]/\Rep K H d x/\Q (.bl (JcQ d)) H
theorem Jgc (F:FunD K "is_bound" "is_bound" BaY dV f fd) (T:Txt K mg Ad) (Baq:Cal P w K mg base 2 "is_fraction" ["thing"] [] (JbD K)):FnOk P w K mg base (CX1 P w) 3 f fd ["thing"] (JcX K):=by
 refine F.okn Jgp (by subst_eqs) (fun i A b s H e Q E l h=>?_)
 obtain ⟨x,d,rfl,h⟩:=h;refine ⟨_,(Jah (Jap (pe_or (Ja1 Je6 (pv 0) Jea (Jas _)) (Jde (Baq.ev l ⋯ rfl passF (Jaa (pv 0) Jad) (he:=by exact Jaf rfl)))))),?_⟩;obtain ⟨a,k⟩:=h;show tRet _ _ [some x] H;nofun;by_cases c:d=.non
 ·subst c;simp only [Rep] at a;subst a;simpa only [decide_true];exact k
 ·have g:x≠.non:=by
   rintro rfl;cases d <;> simp [Rep] at a
   exact c rfl
  rw [if_neg (by simpa using g)];nofun;have j:JcQ d=fracB d:=by cases d <;> first | rfl | exact absurd rfl c
  rw [j] at k;exact ⟨x,d,rfl,a,k⟩
abbrev BaO:Stmt:=top 26
theorem JfN:Jan ["one","other"] ["one","other"] (Jae BaO):=by bv_decide
def Jb1 (K:W.Frag):Sp:=fun vs H Q E=>∃ (x y:V) (d e:D),vs=[x,y]/\Rep K H d x/\Rep K H e y/\szD d/\szD e/\∀ H',Same H H'->Q (.bl (JcR d e)) H'
theorem JfF (F:FunD K "are_faces" "are_faces" BaO dV f fd) (T:Txt K mg Ad) (BaE:Cal P w K mg base 1 "is_name" ["thing"] [] (Jca K)):FnOk P w K mg base (CX1 P w) 2 f fd ["one","other"] (Jb1 K):=by
 refine F.okn JfN (by subst_eqs) (fun v A j s H r Q E g h=>?_)
 obtain ⟨x,y,d,e,rfl,h⟩:=h;have o:=g.units;refine ⟨_,(Jah (Jap (Jcw (BaE.ev g ⋯ rfl passF (Jaa (pv 0) Jad) (he:=by exact Jaf rfl)) (Jcw (BaE.ev g ⋯ rfl passF (Jaa (pv 1) Jad) (he:=by exact Jaf rfl)) (Jde (Ja1 (JbI o) (pv 0) (pv 1) (Jas _))))))),?_⟩;clear o;obtain ⟨p,q,u,B,k⟩:=h;show tRet _ _ [some x,some y] H;nofun;refine ⟨x,d,rfl,p,u,fun t c=>?_⟩;nofun;unfold JcR at k;by_cases a:nameB d=true
 ·rw [if_pos a];nofun;refine ⟨y,e,rfl,q.same c,B,fun m n=>?_⟩;nofun;by_cases b:nameB e=true
  ·rw [if_pos b];nofun;obtain ⟨z,rfl,_⟩:=JeF a;obtain ⟨C,rfl,_⟩:=JeF b;have i:=p.str;have l:=q.str;subst i l;nofun;have:=k m (c.trans n);rw [a,b] at this;simpa [eqD,BEq.beq] using this
  ·rw [if_neg b];nofun;have:=k m (c.trans n);have l:nameB e=false:=by simpa using b
   rw [a,l] at this;exact this
 ·rw [if_neg a];nofun;have:=k t c;have i:nameB d=false:=by simpa using a
  rw [i] at this;exact this
abbrev BaG:Stmt:=top 27
theorem Jfc:Jan ["least","greatest"] ["least","greatest"] (Jae BaG):=by bv_decide
def Jcn (K:W.Frag):Sp:=fun vs H Q E=>∃ (x y:V) (d e:D),vs=[x,y]/\Rep K H d x/\Rep K H e y/\szD d/\szD e/\Q (.bl (JeL d e)) H
theorem Je2 (F:FunD K "are_bounds" "are_bounds" BaG dV f fd) (T:Txt K mg Ad) (BbW:Cal P w K mg base 3 "is_bound" ["thing"] [] (JcX K)) (BaF:Cal P w K mg base 1 "under" ["one","other"] [] (Jcr K)):FnOk P w K mg base (CX1 P w) 4 f fd ["least","greatest"] (Jcn K):=by
 refine F.okn Jfc (by subst_eqs) (fun u A n s H t Q E l h=>?_)
 obtain ⟨x,y,d,e,rfl,h⟩:=h;refine ⟨_,(Jab (ps_if (PW.pt (pw_or (Jbi (JaZ (BbW.ev l ⋯ rfl passF (Jaa (pv 0) Jad) (he:=by exact Jaf rfl)))) (JbZ (Jbi (JaZ (BbW.ev l ⋯ rfl passF (Jaa (pv 1) Jad) (he:=by exact Jaf rfl)))))))
   (Jah (Jap pe_bl))
   Jar)
   (Jab (ps_if (PW.pt (pw_or (Jav Je6 (pv 0) Jea (Jas _)) (JbZ (Jav Je6 (pv 1) Jea (Jas _)))))
   (Jah (Jap pe_bl))
   Jar)
   (Jah (Jap (Jh8 (BaF.ev l ⋯ rfl passF (Jaa (pv 1) (Jaa (pv 0) Jad)) (he:=by exact Jaf rfl))))))),?_⟩
 obtain ⟨o,p,m,q,k⟩:=h;show tSeq _ _ _ [some x,some y] H;nofun;unfold JeL at k;refine ⟨x,d,rfl,o,?_⟩;nofun;by_cases c:JcQ d=true
 ·rw [if_neg (by simp [c])];nofun;refine ⟨y,e,rfl,p,?_⟩;nofun;by_cases g:JcQ e=true
  ·rw [if_neg (by simp [g])];nofun;simpa only [o.nonV,p.nonV];rw [c,g] at k;by_cases i:d=.non
   ·rw [if_pos (by simp [i,nonD])];nofun;nofun;have : lessD e d=false:=by subst i;unfold lessD;split <;> first | rfl | simp_all
    rw [this] at k;exact k
   ·rw [if_neg (by simp [JhV i])];nofun;by_cases j:e=.non
    ·rw [if_pos (by simp [j,nonD])];nofun;nofun;have : lessD e d=false:=by subst j;rfl
     rw [this] at k;exact k
    ·rw [if_neg (by simp [JhV j])];nofun;nofun;have r:fracB d=true:=by cases d <;> first | exact c | exact absurd rfl i
     have B:fracB e=true:=by cases e <;> first | exact g | exact absurd rfl j
     obtain ⟨a,b,rfl,_,_⟩:=Jdq r;obtain ⟨z,C,rfl,_,_⟩:=Jdq B;simp only [szD,szL] at m q;refine ⟨y,x,z,C,a,b,rfl,FrV.of_rep p,FrV.of_rep o,q.1,q.2.1,m.1,m.2.1,?_⟩;nofun;simpa [lessD] using k
  ·rw [if_pos (by simp [g])];nofun;nofun;have D:JcQ e=false:=by simpa using g
   rw [c,D] at k;exact k
 ·rw [if_pos (by simp [c])];nofun;nofun;have v:JcQ d=false:=by simpa using c
  rw [v] at k;exact k
abbrev BbX:Stmt:=top 28
theorem Jij:Jan ["thing"] ["thing"] (Jae BbX):=by bv_decide
def Jek (K:W.Frag):Sp:=fun vs H Q E=>∃ (x:V) (d:D),vs=[x]/\Rep K H d x/\szD d/\∀ H',Same H H'->Q (.bl (tieB d)) H'
theorem JhZ (F:FunD K "is_tie" "is_tie" BbX dV f fd) (T:Txt K mg Ad) (BaE:Cal P w K mg base 1 "is_name" ["thing"] [] (Jca K)) (BaP:Cal P w K mg base 2 "are_faces" ["one","other"] [] (Jb1 K)) (BbP:Cal P w K mg base 4 "are_bounds" ["least","greatest"] [] (Jcn K)):FnOk P w K mg base (CX1 P w) 5 f fd ["thing"] (Jek K):=by
 refine F.okn Jij (by subst_eqs) (fun S A q s H B Q E c h=>?_)
 obtain ⟨x,d,rfl,h⟩:=h;have y:=c.units;refine ⟨_,(Jab (ps_if (PW.pt (pw_or (Jbi (JaZ (Jat JaA rfl T.Ban JaN (Jaa (pv 0) (Jaa (Jcf (v:=.ty "tuple") rfl T.Bcr Jc2 rfl) Jad))))) (JbZ (Jav (JbI y) (Jat JaL rfl T.BbB Jbp (Jaa (pv 0) Jad)) Jac (Jas _)))))
   (Jah (Jap pe_bl))
   Jar)
   (Jah (Jap (Jcw (BaE.ev c ⋯ rfl passF (Jaa (pe_ix ix_U (pv 0) Jac (fun _ _=>rfl)) Jad) (he:=by exact Jaf rfl)) (Jcw (BaP.ev c ⋯ rfl passF (Jaa (pe_ix ix_U (pv 0) Jac (fun _ _=>rfl)) (Jaa (pe_ix ix_U (pv 0) Jac (fun _ _=>rfl)) Jad)) (he:=by exact Jaf rfl)) (Jde (BbP.ev c ⋯ rfl passF (Jaa (pe_ix ix_U (pv 0) Jac (fun _ _=>rfl)) (Jaa (pe_ix ix_U (pv 0) Jac (fun _ _=>rfl)) Jad)) (he:=by exact Jaf rfl)))))))),?_⟩
 clear y;obtain ⟨r,z,k⟩:=h;show tSeq _ _ _ [some x] H;nofun;refine ⟨_,r.tyN,?_⟩;by_cases o:∃ l,d=.tup l
 ·obtain ⟨l,rfl⟩:=o;simpa only [tyD]
  (try ((with_reducible refine Nxt.go (by assumption) ?_);nofun))
  simp only [Rep] at r;obtain ⟨a,xs,rfl,j,c⟩:=r;have hl:=c.length;refine ⟨xs, .inr j,?_⟩;nofun;by_cases u:l.length=5
  ·match l,u with
   | [d0,d1,d2,d3,d4],_=>
    simp only [RepL] at c;obtain ⟨O,r0,rfl,L,N,r1,rfl,M,J,r2,rfl,Y,v3,r3,rfl,D,G,r4,rfl,V,rfl⟩:=c;simp only [szD,szL] at z;obtain ⟨I,s1,Z,s3,s4,_⟩:=z;simp only [tieB] at k;simpa only [length_cons,length_nil];rw [if_neg (by simp)];nofun;nofun;refine ixT (i:=0) j rfl ?_;refine ⟨O,d0,rfl,L,I,fun C g=>?_⟩;nofun;by_cases m:nameB d0=true
    ·rw [if_pos m];nofun;rw [m] at k;refine ixT (i:=1) (j.same g) rfl ?_;refine ixT (i:=2) (j.same g) rfl ?_;refine ⟨N,J,d1,d2,rfl,M.same g,Y.same g,s1,Z,fun t X=>?_⟩;nofun;have b:=g.trans X;by_cases n:JcR d1 d2=true
     ·rw [if_pos n];nofun;rw [n] at k;refine ixT (i:=3) (j.same b) rfl ?_;refine ixT (i:=4) (j.same b) rfl ?_;exact ⟨v3,G,d3,d4,rfl,D.same b,V.same b,s3,s4,k t b⟩
     ·rw [if_neg n];nofun;have R:JcR d1 d2=false:=by simpa using n
      rw [R] at k;exact k t b
    ·rw [if_neg m];nofun;have W:nameB d0=false:=by simpa using m
     rw [W] at k;exact k C g
  ·rw [if_pos (by simp;ac_nf)];nofun;have p:tieB (.tup l)=false:=by
    unfold tieB;split
    ·rename_i e;cases e;simp at u
    ·rfl
   rw [p] at k;nofun;exact k H (.refl H)
 ·have p:tieB d=false:=by cases d <;> first | rfl | exact absurd ⟨_,rfl⟩ o
  rw [p] at k;have U:isiB (tyD d) "tuple"=false:=by cases d <;> first | rfl | exact absurd ⟨_,rfl⟩ o
  simpa only [U];exact k H (.refl H)
abbrev Bao:Stmt:=inClass (top 44) 0
theorem JdJ:Jan ["self","row"] ["self","row"] (Jae Bao):=by bv_decide
def JbE (K:W.Frag):Sp:=fun vs H Q E=>∃ (x C dx a:Addr) (n st en z m wt:V),vs=[.ref x, .ref a]/\H x=some (.ins C dx [])/\PartC K C/\SqT K H a [n,st,en,z,m,wt]/\∀ H',H' x=some (.ins C dx (partF n st en z m wt))->(∀ b,b≠x->H' b=H b)->Q .non H'
theorem JdH (F:FunD K "__init__" "Part.__init__" Bao dV f fd) (T:Txt K mg Ad)  : FnOk P w K mg base (CX1 P w) 1 f fd ["self","row"] (JbE K):=by
 refine F.okn JdJ (by subst_eqs) (fun R A y s H N Q E Y h=>?_)
 obtain ⟨x,C,d,a,n,g,j,z,m,u,rfl,h⟩:=h;refine ⟨_,(Jab (JaX (pv 0) (pe_ix ix_U (pv 1) Jac (fun _ _=>rfl)) rfl)
   (Jab (JaX (pv 0) (pe_ix ix_U (pv 1) Jac (fun _ _=>rfl)) rfl)
   (Jab (JaX (pv 0) (pe_ix ix_U (pv 1) Jac (fun _ _=>rfl)) rfl)
   (Jab (JaX (pv 0) (pe_ix ix_U (pv 1) Jac (fun _ _=>rfl)) rfl)
   (Jab (JaX (pv 0) (pe_ix ix_U (pv 1) Jac (fun _ _=>rfl)) rfl)
   (Jah (JaX (pv 0) (pe_ix ix_U (pv 1) Jac (fun _ _=>rfl)) rfl))))))),?_⟩
 obtain ⟨D,e,t,k⟩:=h;show tSeq _ _ _ [some (.ref x),some (.ref a)] H;exfalso;refine ixT (i:=0) t rfl ?_;exfalso;refine ⟨x,C,d,_,rfl,D,e.cls,e.n1,by simp,?_⟩;have r:=SqT.put (fs':=putF "name" n []) D t;generalize u0:upd H x _=H1 at r ⊢;exfalso;have B:H1 x=some (.ins C d [("name",n)]):=by rw [<- u0];exact Jaj.trans rfl
 have W:∀ b,b≠x->H1 b=H b:=fun b c=>by rw [<- u0,Jag c]
 exfalso;refine ixT (i:=1) r rfl ?_;exfalso;refine ⟨x,C,d,_,rfl,B,e.cls,e.n2,by simp,?_⟩;have q:=SqT.put (fs':=putF "start" g [("name",n)]) B r;generalize u1:upd H1 x _=H2 at q ⊢;exfalso;have J:H2 x=some (.ins C d [("name",n),("start",g)]):=by rw [<- u1];exact Jaj.trans rfl
 have V:∀ b,b≠x->H2 b=H1 b:=fun b c=>by rw [<- u1,Jag c]
 exfalso;refine ixT (i:=2) q rfl ?_;exfalso;refine ⟨x,C,d,_,rfl,J,e.cls,e.n3,by simp,?_⟩;have p:=SqT.put (fs':=putF "end" j [("name",n),("start",g)]) J q;generalize u2:upd H2 x _=H3 at p ⊢;exfalso;have I:H3 x=some (.ins C d [("name",n),("start",g),("end",j)]):=by rw [<- u2];exact Jaj.trans rfl
 have U:∀ b,b≠x->H3 b=H2 b:=fun b c=>by rw [<- u2,Jag c]
 exfalso;refine ixT (i:=3) p rfl ?_;exfalso;refine ⟨x,C,d,_,rfl,I,e.cls,e.n4,by simp,?_⟩;have o:=SqT.put (fs':=putF "size" z [("name",n),("start",g),("end",j)]) I p;generalize u3:upd H3 x _=H4 at o ⊢;exfalso;have G:H4 x=some (.ins C d [("name",n),("start",g),("end",j),("size",z)]):=by rw [<- u3];exact Jaj.trans rfl
 have O:∀ b,b≠x->H4 b=H3 b:=fun b c=>by rw [<- u3,Jag c]
 exfalso;refine ixT (i:=4) o rfl ?_;exfalso;refine ⟨x,C,d,_,rfl,G,e.cls,e.n5,by simp,?_⟩;have l:=SqT.put (fs':=putF "most" m [("name",n),("start",g),("end",j),("size",z)]) G o;generalize u4:upd H4 x _=H5 at l ⊢;exfalso;have L:H5 x=some (.ins C d [("name",n),("start",g),("end",j),("size",z),("most",m)]):=by rw [<- u4];exact Jaj.trans rfl
 have S:∀ b,b≠x->H5 b=H4 b:=fun b c=>by rw [<- u4,Jag c]
 exfalso;refine ixT (i:=5) l rfl ?_;exfalso;refine ⟨x,C,d,_,rfl,L,e.cls,e.n6,by simp,?_⟩;have v:=SqT.put (fs':=putF "weight" u [("name",n),("start",g),("end",j),("size",z),("most",m)]) L l;generalize u5:upd H5 x _=H6 at v ⊢;exfalso;have M:H6 x=some (.ins C d [("name",n),("start",g),("end",j),("size",z),("most",m),("weight",u)]):=by rw [<- u5];exact Jaj.trans rfl
 have X:∀ b,b≠x->H6 b=H5 b:=fun b c=>by rw [<- u5,Jag c]
 exfalso;exact k H6 M fun b c=>by rw [X b c,S b c,O b c,U b c,V b c,W b c]
abbrev BaH:Stmt:=inClass (top 44) 1
theorem Jfa:Jan ["self"] ["self"] (Jae BaH):=by bv_decide
def Jcl (K:W.Frag) (Ad:Adr):Sp:=fun vs H Q E=>∃ (p dx:Addr) (n st en z m wt:V),vs=[.ref p]/\H p=some (.ins Ad.Part dx (partF n st en z m wt))/\∀ q H',Same H H'->H' q=some (.tup [n,st,en,z,m,wt])->Q (.ref q) H'
theorem JeZ (F:FunD K "plain" "Part.plain" BaH dV f fd) (T:Txt K mg Ad)  : FnOk P w K mg base (CX1 P w) 1 f fd ["self"] (Jcl K Ad):=by
 refine F.okn Jfa (by subst_eqs) (fun r A d s H l Q E t h=>?_)
 obtain ⟨p,b,n,i,j,z,m,g,rfl,h⟩:=h;refine ⟨_,(Jah (Jap (JaB (Jaa (Jaq (pv 0) rfl) (Jaa (Jaq (pv 0) rfl) (Jaa (Jaq (pv 0) rfl) (Jaa (Jaq (pv 0) rfl) (Jaa (Jaq (pv 0) rfl) (Jaa (Jaq (pv 0) rfl) Jad))))))))),?_⟩;obtain ⟨c,k⟩:=h;have a:=T.BcR Ad.Part rfl;show tRet _ _ [some (.ref p)] H;and_intros;refine ⟨p,_,b,_,n,rfl,c,a.cls,a.n1,rfl,?_⟩;refine ⟨p,_,b,_,i,rfl,c,a.cls,a.n2,rfl,?_⟩;refine ⟨p,_,b,_,j,rfl,c,a.cls,a.n3,rfl,?_⟩;refine ⟨p,_,b,_,z,rfl,c,a.cls,a.n4,rfl,?_⟩;refine ⟨p,_,b,_,m,rfl,c,a.cls,a.n5,rfl,?_⟩;refine ⟨p,_,b,_,g,rfl,c,a.cls,a.n6,rfl,?_⟩;and_intros;refine ⟨by show 6<=sizeLine;decide,?_⟩;exact Jd0 fun q o S e=>k q o S e
abbrev Bar:Stmt:=inClass (top 45) 0
theorem Jee:Jan ["self","row"] ["self","row"] (Jae Bar):=by bv_decide
def JbO (K:W.Frag):Sp:=fun vs H Q E=>∃ (x C dx a:Addr) (n st en l g:V),vs=[.ref x, .ref a]/\H x=some (.ins C dx [])/\GapC K C/\SqT K H a [n,st,en,l,g]/\∀ H',H' x=some (.ins C dx (gapF n st en l g))->(∀ b,b≠x->H' b=H b)->Q .non H'
theorem Jd1 (F:FunD K "__init__" "Gap.__init__" Bar dV f fd) (T:Txt K mg Ad)  : FnOk P w K mg base (CX1 P w) 1 f fd ["self","row"] (JbO K):=by
 refine F.okn Jee (by subst_eqs) (fun L A v s H I Q E U h=>?_)
 obtain ⟨x,C,d,a,n,j,r,l,g,rfl,h⟩:=h;refine ⟨_,(Jab (JaX (pv 0) (pe_ix ix_U (pv 1) Jac (fun _ _=>rfl)) rfl)
   (Jab (JaX (pv 0) (pe_ix ix_U (pv 1) Jac (fun _ _=>rfl)) rfl)
   (Jab (JaX (pv 0) (pe_ix ix_U (pv 1) Jac (fun _ _=>rfl)) rfl)
   (Jab (JaX (pv 0) (pe_ix ix_U (pv 1) Jac (fun _ _=>rfl)) rfl)
   (Jah (JaX (pv 0) (pe_ix ix_U (pv 1) Jac (fun _ _=>rfl)) rfl)))))),?_⟩
 obtain ⟨z,e,t,k⟩:=h;show tSeq _ _ _ [some (.ref x),some (.ref a)] H;exfalso;refine ixT (i:=0) t rfl ?_;exfalso;refine ⟨x,C,d,_,rfl,z,e.cls,e.n1,by simp,?_⟩;have q:=SqT.put (fs':=putF "name" n []) z t;generalize u0:upd H x _=H1 at q ⊢;exfalso;have y:H1 x=some (.ins C d [("name",n)]):=by rw [<- u0];exact Jaj.trans rfl
 have R:∀ b,b≠x->H1 b=H b:=fun b c=>by rw [<- u0,Jag c]
 exfalso;refine ixT (i:=1) q rfl ?_;exfalso;refine ⟨x,C,d,_,rfl,y,e.cls,e.n2,by simp,?_⟩;have p:=SqT.put (fs':=putF "one" j [("name",n)]) y q;generalize u1:upd H1 x _=H2 at p ⊢;exfalso;have G:H2 x=some (.ins C d [("name",n),("one",j)]):=by rw [<- u1];exact Jaj.trans rfl
 have O:∀ b,b≠x->H2 b=H1 b:=fun b c=>by rw [<- u1,Jag c]
 exfalso;refine ixT (i:=2) p rfl ?_;exfalso;refine ⟨x,C,d,_,rfl,G,e.cls,e.n3,by simp,?_⟩;have o:=SqT.put (fs':=putF "other" r [("name",n),("one",j)]) G p;generalize u2:upd H2 x _=H3 at o ⊢;exfalso;have D:H3 x=some (.ins C d [("name",n),("one",j),("other",r)]):=by rw [<- u2];exact Jaj.trans rfl
 have N:∀ b,b≠x->H3 b=H2 b:=fun b c=>by rw [<- u2,Jag c]
 exfalso;refine ixT (i:=3) o rfl ?_;exfalso;refine ⟨x,C,d,_,rfl,D,e.cls,e.n4,by simp,?_⟩;have m:=SqT.put (fs':=putF "low" l [("name",n),("one",j),("other",r)]) D o;generalize u3:upd H3 x _=H4 at m ⊢;exfalso;have B:H4 x=some (.ins C d [("name",n),("one",j),("other",r),("low",l)]):=by rw [<- u3];exact Jaj.trans rfl
 have J:∀ b,b≠x->H4 b=H3 b:=fun b c=>by rw [<- u3,Jag c]
 exfalso;refine ixT (i:=4) m rfl ?_;exfalso;refine ⟨x,C,d,_,rfl,B,e.cls,e.n5,by simp,?_⟩;have u:=SqT.put (fs':=putF "high" g [("name",n),("one",j),("other",r),("low",l)]) B m;generalize u4:upd H4 x _=H5 at u ⊢;exfalso;have S:H5 x=some (.ins C d [("name",n),("one",j),("other",r),("low",l),("high",g)]):=by rw [<- u4];exact Jaj.trans rfl
 have M:∀ b,b≠x->H5 b=H4 b:=fun b c=>by rw [<- u4,Jag c]
 exfalso;exact k H5 S fun b c=>by rw [M b c,J b c,N b c,O b c,R b c]
abbrev BaQ:Stmt:=inClass (top 45) 1
theorem JfL:Jan ["self"] ["self"] (Jae BaQ):=by bv_decide
def JcE (K:W.Frag) (Ad:Adr):Sp:=fun vs H Q E=>∃ (p dx:Addr) (n st en l g:V),vs=[.ref p]/\H p=some (.ins Ad.Gap dx (gapF n st en l g))/\∀ q H',Same H H'->H' q=some (.tup [n,st,en,l,g])->Q (.ref q) H'
theorem JfD (F:FunD K "plain" "Gap.plain" BaQ dV f fd) (T:Txt K mg Ad)  : FnOk P w K mg base (CX1 P w) 1 f fd ["self"] (JcE K Ad):=by
 refine F.okn JfL (by subst_eqs) (fun r A d s H m Q E t h=>?_)
 obtain ⟨p,b,n,i,j,l,g,rfl,h⟩:=h;refine ⟨_,(Jah (Jap (JaB (Jaa (Jaq (pv 0) rfl) (Jaa (Jaq (pv 0) rfl) (Jaa (Jaq (pv 0) rfl) (Jaa (Jaq (pv 0) rfl) (Jaa (Jaq (pv 0) rfl) Jad)))))))),?_⟩;obtain ⟨c,k⟩:=h;have a:=T.Bdz Ad.Gap rfl;show tRet _ _ [some (.ref p)] H;and_intros;refine ⟨p,_,b,_,n,rfl,c,a.cls,a.n1,rfl,?_⟩;refine ⟨p,_,b,_,i,rfl,c,a.cls,a.n2,rfl,?_⟩;refine ⟨p,_,b,_,j,rfl,c,a.cls,a.n3,rfl,?_⟩;refine ⟨p,_,b,_,l,rfl,c,a.cls,a.n4,rfl,?_⟩;refine ⟨p,_,b,_,g,rfl,c,a.cls,a.n5,rfl,?_⟩;and_intros;refine ⟨by show 5<=sizeLine;decide,?_⟩;exact Jd0 fun q o S e=>k q o S e
abbrev Bbp:Stmt:=top 42
theorem Jhj:Jan ["thing"] ["thing"] (Jae Bbp):=by bv_decide
def Jdz (K:W.Frag):Sp:=fun vs H Q E=>∃ (x:V) (d:D),vs=[x]/\Rep K H d x/\szD d/\∀ H',Same H H'->Q (.bl (partB d)) H'
theorem Jhb (F:FunD K "is_part" "is_part" Bbp dV f fd) (T:Txt K mg Ad) (BaE:Cal P w K mg base 1 "is_name" ["thing"] [] (Jca K)) (BaP:Cal P w K mg base 2 "are_faces" ["one","other"] [] (Jb1 K)) (Baq:Cal P w K mg base 2 "is_fraction" ["thing"] [] (JbD K)) (BaN:Cal P w K mg base 1 "is_whole" ["thing"] [] (Jco K)) (BaF:Cal P w K mg base 1 "under" ["one","other"] [] (Jcr K)):FnOk P w K mg base (CX1 P w) 5 f fd ["thing"] (Jdz K):=by
 refine F.okn Jhj (by subst_eqs) (fun a0 A C s H V Q E c h=>?_)
 obtain ⟨x,d,rfl,h⟩:=h;have N:=c.units;refine ⟨_,(Jab (ps_if (PW.pt (pw_or (Jbi (JaZ (Jat JaA rfl T.Ban JaN (Jaa (pv 0) (Jaa (Jcf (v:=.ty "tuple") rfl T.Bcr Jc2 rfl) Jad))))) (JbZ (Jav (JbI N) (Jat JaL rfl T.BbB Jbp (Jaa (pv 0) Jad)) Jac (Jas _)))))
   (Jah (Jap pe_bl))
   Jar)
   (Jab (ps_if (PW.pt (pw_or (Jbi (JaZ (BaE.ev c ⋯ rfl passF (Jaa (pe_ix ix_U (pv 0) Jac (fun _ _=>rfl)) Jad) (he:=by exact Jaf rfl)))) (JbZ (Jbi (JaZ (BaP.ev c ⋯ rfl passF (Jaa (pe_ix ix_U (pv 0) Jac (fun _ _=>rfl)) (Jaa (pe_ix ix_U (pv 0) Jac (fun _ _=>rfl)) Jad)) (he:=by exact Jaf rfl)))))))
   (Jah (Jap pe_bl))
   Jar)
   (Jab (ps_if (PW.pt (pw_or (Jbi (JaZ (Baq.ev c ⋯ rfl passF (Jaa (pe_ix ix_U (pv 0) Jac (fun _ _=>rfl)) Jad) (he:=by exact Jaf rfl)))) (pw_or (Jbi (JaZ (Baq.ev c ⋯ rfl passF (Jaa (pe_ix ix_U (pv 0) Jac (fun _ _=>rfl)) Jad) (he:=by exact Jaf rfl)))) (JbZ (Jbi (JaZ (BaN.ev c ⋯ rfl passF (Jaa (pe_ix ix_U (pv 0) Jac (fun _ _=>rfl)) Jad) (he:=by exact Jaf rfl))))))))
   (Jah (Jap pe_bl))
   Jar)
   (Jah (Jap (Jcw (Jh8 (BaF.ev c ⋯ rfl passF (Jaa (pe_ix ix_U (pv 0) Jac (fun _ _=>rfl)) (Jaa (JcT (v:=.ref _) rfl T.Bdi T.Bdj) Jad)) (he:=by exact Jaf rfl))) (Jde (Ja1 Jjq (pe_ix ix_U (pv 0) Jac (fun _ _=>rfl)) Jac (Jas _))))))))),?_⟩
 clear N;obtain ⟨D,S,k⟩:=h;show tSeq _ _ _ [some x] H;nofun;refine ⟨_,D.tyN,?_⟩;by_cases r:∃ m,d=.tup m
 ·obtain ⟨m,rfl⟩:=r;simpa only [tyD]
  (try ((with_reducible refine Nxt.go (by assumption) ?_);nofun))
  simp only [Rep] at D;obtain ⟨a,xs,rfl,g,c⟩:=D;have hl:=c.length;refine ⟨xs, .inr g,?_⟩;nofun;by_cases L:m.length=6
  ·match m,L with
   | [d0,d1,d2,d3,d4,d5],_=>
    simp only [RepL] at c;obtain ⟨v0,r0,rfl,h0,v1,r1,rfl,h1,Z,r2,rfl,h2,v3,r3,rfl,X,G,r4,rfl,M,U,r5,rfl,J,rfl⟩:=c;simp only [szD,szL] at S;obtain ⟨Y,s1,s2,s3,z,s5,_⟩:=S;simp only [partB] at k;simpa only [length_cons,length_nil];rw [if_neg (by simp)];nofun;nofun;refine ixT (i:=0) g rfl ?_;refine ⟨v0,d0,rfl,h0,Y,fun W l=>?_⟩;nofun;by_cases I:nameB d0=true
    ·rw [I] at k ⊢;nofun;refine ixT (i:=1) (g.same l) rfl ?_;refine ixT (i:=2) (g.same l) rfl ?_;refine ⟨v1,Z,d1,d2,rfl,h1.same l,h2.same l,s1,s2,fun j S2=>?_⟩;nofun;have b:=l.trans S2;by_cases O:JcR d1 d2=true
     ·rw [O] at k ⊢;nofun;refine ixT (i:=3) (g.same b) rfl ?_;refine ⟨v3,d3,rfl,X.same b,?_⟩;nofun;by_cases R:fracB d3=true
      ·rw [R] at k ⊢;nofun;refine ixT (i:=4) (g.same b) rfl ?_;refine ⟨G,d4,rfl,M.same b,?_⟩;nofun;by_cases B:fracB d4=true
       ·rw [B] at k ⊢;nofun;refine ixT (i:=5) (g.same b) rfl ?_;refine ⟨U,d5,rfl,J.same b,?_⟩;nofun;by_cases y:Jcb d5=true
        ·rw [y] at k ⊢;nofun;obtain ⟨p,o,rfl,_,_⟩:=Jdq B;obtain ⟨w,rfl⟩:∃ w,d5=.int w:=by cases d5 <;> first | exact ⟨_,rfl⟩ | simp [Jcb] at y
         simp only [szD,szL] at z;have u:U=.int w:=by simpa only [Rep] using J
         subst u;refine ixT (i:=4) (g.same b) rfl ?_;refine ⟨G, .ref Ad.ZERO,p,o,0,1,rfl,FrV.of_rep (M.same b),⟨Ad.ZERO,rfl,T.Bdk _⟩,z.1,z.2.1, .lit ⋯ ⋯, .lit ⋯ ⋯,?_⟩;nofun;by_cases n:p*1<0*o
         ·have q:lessD (.tup [.int p, .int o]) (.tup [.int 0, .int 1])=true:=by simpa [lessD] using n
          rw [q] at k;rw [if_neg (by simpa using n)];nofun;exact k j b
         ·have q:lessD (.tup [.int p, .int o]) (.tup [.int 0, .int 1])=false:=by simpa [lessD] using n
          rw [q] at k;rw [if_pos (by simpa using n)];nofun;refine ixT (i:=5) (g.same b) rfl ?_;nofun;exact k j b
        ·have e5:Jcb d5=false:=by simpa using y
         rw [e5] at k ⊢;nofun;exact k j b
       ·have e4:fracB d4=false:=by simpa using B
        rw [e4] at k ⊢;nofun;exact k j b
      ·have e3:fracB d3=false:=by simpa using R
       rw [e3] at k ⊢;nofun;exact k j b
     ·have e1:JcR d1 d2=false:=by simpa using O
      rw [e1] at k ⊢;nofun;exact k j b
    ·have e0:nameB d0=false:=by simpa using I
     rw [e0] at k ⊢;nofun;exact k W l
  ·rw [if_pos (by simp;ac_nf)];nofun;have t:partB (.tup m)=false:=by
    unfold partB;split
    ·rename_i e;cases e;simp at L
    ·rfl
   rw [t] at k;nofun;exact k H (.refl H)
 ·have t:partB d=false:=by cases d <;> first | rfl | exact absurd ⟨_,rfl⟩ r
  rw [t] at k;have et:isiB (tyD d) "tuple"=false:=by cases d <;> first | rfl | exact absurd ⟨_,rfl⟩ r
  simpa only [et];exact k H (.refl H)
abbrev BbY:Stmt:=top 43
theorem Jii:Jan ["thing"] ["thing"] (Jae BbY):=by bv_decide
def Jej (K:W.Frag):Sp:=fun vs H Q E=>∃ (x:V) (d:D),vs=[x]/\Rep K H d x/\szD d/\∀ H',Same H H'->Q (.bl (gapB d)) H'
theorem JhY (F:FunD K "is_gap" "is_gap" BbY dV f fd) (T:Txt K mg Ad) (BcX:Cal P w K mg base 5 "is_tie" ["thing"] [] (Jek K)):FnOk P w K mg base (CX1 P w) 6 f fd ["thing"] (Jej K):=by
 refine F.okn Jii (by subst_eqs) (fun y A p s H t Q E v h=>?_)
 obtain ⟨x,d,rfl,h⟩:=h;refine ⟨_,(Jah (Jap (Jcw (BcX.ev v ⋯ rfl passF (Jaa (pv 0) Jad) (he:=by exact Jaf rfl)) (Jcw (Ja1 Je7 (pe_ix ix_U (pv 0) Jac (fun _ _=>rfl)) Jea (Jas _)) (Jde (Ja1 Je7 (pe_ix ix_U (pv 0) Jac (fun _ _=>rfl)) Jea (Jas _))))))),?_⟩;obtain ⟨q,C,k⟩:=h;show tRet _ _ [some x] H;nofun;refine ⟨x,d,rfl,q,C,fun m b=>?_⟩;nofun;by_cases c:tieB d=true
 ·rw [if_pos c];nofun;obtain ⟨n,s,e,l,g,rfl⟩:∃ n s e l g,d=.tup [n,s,e,l,g]:=by
   unfold tieB at c;split at c
   ·exact ⟨_,_,_,_,_,rfl⟩
   ·cases c
  simp only [Rep,RepL] at q;obtain ⟨a,U,rfl,r,O,R,rfl,L,N,J,rfl,M,I,X,rfl,S,W,V,rfl,u,G,Y,rfl,z,rfl⟩:=q;simp only [gapB] at k;rw [c] at k;refine ixT (i:=3) (r.same b) rfl ?_;simpa only [u.nonV];by_cases o:nonD l=true
  ·rw [o] at k;try rw [o]
   nofun;exact k m b
  ·have j:nonD l=false:=by simpa using o
   rw [j] at k;try rw [j]
   nofun;refine ixT (i:=4) (r.same b) rfl ?_;simpa only [z.nonV];exact k m b
 ·rw [if_neg c];nofun;have B:gapB d=false:=by
   have D:tieB d=false:=by simpa using c
   unfold gapB;split
   ·rw [D];rfl
   ·rfl
  rw [B] at k;exact k m b
abbrev Bbq:Stmt:=top 46
theorem Jhk:Jan ["thing"] ["thing"] (Jae Bbq):=by bv_decide
def JdB (K:W.Frag) (Ad:Adr):Sp:=fun vs H Q E=>∃ (x:V) (e:PD ⊕ D),vs=[x]/\PEV K H e x/\(match e with | .inr _=>∀ H',Same H H'->E (.ref Ad.NoPart) none H' | .inl p=>∀ v H',Same H H'->POV K Ad H' p v->Q v H')
theorem Jhe (F:FunD K "part_of" "part_of" Bbq dV f fd) (T:Txt K mg Ad) (BcH:Cal P w K mg base 5 "is_part" ["thing"] [] (Jdz K)) (BdA:KCal P w K mg base 1 "Part" Ad.Part ["self","row"] (JbE K)):FnOk P w K mg base (CX1 P w) 6 f fd ["thing"] (JdB K Ad):=by
 refine F.okx Jhk (fun v H Q E h=>?_) (fun C A l s H v Q E n h=>?_)
 ·obtain ⟨x,e,rfl,_⟩:=h;rfl
 obtain ⟨x,e,rfl,h⟩:=h;refine ⟨_,(Jab (ps_if (Jbi (JaZ (BcH.ev n ⋯ rfl pass1 (Jaa (pv 0) Jad) (he:=by exact Jaf rfl))))
   (Jah (JbY PySem.F.excBase_ValueError T.Bb5 rfl T.BdK (Jaa Ja8 Jad)))
   Jar)
   (Jah (Jap (BdA.ev n ⋯ rfl pass1 (Jaa (pv 0) Jad))))),?_⟩
 obtain ⟨he,k⟩:=h;show tSeq _ _ _ [some x] H;nofun;match e,he,k with
 | .inr c,he,k=>
  refine ⟨x,c,rfl,he.1,he.2.1,fun d a=>?_⟩;rw [he.2.2];nofun;exact ⟨by show 1<=sizeLine;decide,k d a⟩
 | .inl p,he,k=>
  refine ⟨x,pdD p,rfl,he.1.rep,he.2.sz,fun d a=>?_⟩;rw [he.2.part];nofun;obtain ⟨b,r,t,rfl,B,z,G⟩:=he.1;intro y i j m I;have g:Same d (upd (upd d i (.own y)) y (.ins Ad.Part i [])):=fun b u q=>by rw [Jag (Jai q j),Jag (Jai q m)];exact q
  refine ⟨y,_,i,b,_,_,_,r,t,_,rfl,Jaj,T.BcR _ rfl,(B.same a).same g,fun D e o=>⟨rfl,k _ D ?_ ⟨y,i,r,t,rfl,e,?_,?_⟩⟩⟩
  ·exact a.trans fun b u q=>by rw [o b (Jai q j)];exact g _ _ q
  ·exact z.same (a.trans fun b u q=>by rw [o b (Jai q j)];exact g _ _ q)
  ·exact G.same (a.trans fun b u q=>by rw [o b (Jai q j)];exact g _ _ q)
abbrev BbZ:Stmt:=top 47
theorem Jih:Jan ["thing"] ["thing"] (Jae BbZ):=by bv_decide
def Jei (K:W.Frag) (Ad:Adr):Sp:=fun vs H Q E=>∃ (x:V) (e:GD ⊕ D),vs=[x]/\GEV K H e x/\(match e with | .inr _=>∀ H',Same H H'->E (.ref Ad.NoGap) none H' | .inl g=>∀ v H',Same H H'->GOV K Ad H' g v->Q v H')
theorem JhX (F:FunD K "gap_of" "gap_of" BbZ dV f fd) (T:Txt K mg Ad) (BcY:Cal P w K mg base 6 "is_gap" ["thing"] [] (Jej K)) (BdR:KCal P w K mg base 1 "Gap" Ad.Gap ["self","row"] (JbO K)):FnOk P w K mg base (CX1 P w) 7 f fd ["thing"] (Jei K Ad):=by
 refine F.okx Jih (fun B H Q E h=>?_) (fun D A r s H B Q E z h=>?_)
 ·obtain ⟨x,e,rfl,_⟩:=h;rfl
 obtain ⟨x,e,rfl,h⟩:=h;refine ⟨_,(Jab (ps_if (Jbi (JaZ (BcY.ev z ⋯ rfl pass1 (Jaa (pv 0) Jad) (he:=by exact Jaf rfl))))
   (Jah (JbY PySem.F.excBase_ValueError T.Bcv rfl T.BdP (Jaa Ja8 Jad)))
   Jar)
   (Jah (Jap (BdR.ev z ⋯ rfl pass1 (Jaa (pv 0) Jad))))),?_⟩
 obtain ⟨he,k⟩:=h;show tSeq _ _ _ [some x] H;nofun;match e,he,k with
 | .inr c,he,k=>
  refine ⟨x,c,rfl,he.1,he.2.1,fun d a=>?_⟩;rw [he.2.2];nofun;exact ⟨by show 1<=sizeLine;decide,k d a⟩
 | .inl g,he,k=>
  refine ⟨x,tdD g.td,rfl,he.1.rep,he.2.sz,fun d a=>?_⟩;rw [JkR he.2];nofun;obtain ⟨b,m,v,rfl,C,n,p⟩:=he.1;replace n:FrV K H m g.lo.1 g.lo.2:=n;replace p:FrV K H v g.hi.1 g.hi.2:=p;intro y j l t I;have i:Same d (upd (upd d j (.own y)) y (.ins Ad.Gap j [])):=fun b u q=>by rw [Jag (Jai q l),Jag (Jai q t)];exact q
  refine ⟨y,_,j,b,_,_,_,m,v,rfl,Jaj,T.Bdz _ rfl,(C.same a).same i,fun G e o=>⟨rfl,k _ G ?_ ⟨y,j,m,v,rfl,e,?_,?_⟩⟩⟩
  ·exact a.trans fun b u q=>by rw [o b (Jai q l)];exact i _ _ q
  ·exact n.same (a.trans fun b u q=>by rw [o b (Jai q l)];exact i _ _ q)
  ·exact p.same (a.trans fun b u q=>by rw [o b (Jai q l)];exact i _ _ q)
abbrev Bag:Stmt:=inClass (top 48) 0
theorem Jdh:Jan ["self"] ["self"] (Jae Bag):=by bv_decide
def Jbm (K:W.Frag) (Ad:Adr):Sp:=fun vs H Q E=>∃ (x dx:Addr),vs=[.ref x]/\H x=some (.ins Ad.Joints dx [])/\∀ d H',H d=none->d≠x->H' x=some (.ins Ad.Joints dx [("leads", .ref d)])->H' d=some (.dK [])->(∀ b u,b≠x->H b=some u->H' b=some u)->Q .non H'
theorem Jc9 (F:FunD K "__init__" "Joints.__init__" Bag dV f fd) (T:Txt K mg Ad)  : FnOk P w K mg base (CX1 P w) 1 f fd ["self"] (Jbm K Ad):=by
 refine F.okn Jdh (by subst_eqs) (fun p A c s H m Q E t h=>?_)
 obtain ⟨x,j,rfl,h⟩:=h;refine ⟨_,(Jah (JaX (pv 0) JbX rfl)),?_⟩;obtain ⟨l,k⟩:=h;have g:=T.Bch _ rfl;show sFld _ _ _ _ _ [some (.ref x)] H;exfalso;rename_i d a n H r e q;exfalso;refine ⟨x,_,j,_,rfl,e _ _ l,g.cls,g.n1,by simp,?_⟩;have i:d≠x:=fun z=>by rw [z,l] at a;cases a
 exact k d _ a i (Jaj.trans rfl) (by rw [Jag i];exact q) fun b u o h=>by rw [Jag o];exact e _ _ h
abbrev BaA:Stmt:=inClass (top 48) 1
theorem Jes:Jan ["self","part"] ["self","part"] (Jae BaA):=by bv_decide
def Jb4 (K:W.Frag) (Ad:Adr):Sp:=fun vs H Q E=>∃ (j d:Addr) (v:V) (ls:List PD) (p:PD) (H0:Hp),vs=[.ref j,v]/\JK Ad H0 H j d ls/\Same H0 H/\POV K Ad H p v/\p.st≠p.en/\ls.length<=20/\∀ H',Same H0 H'->SameJ d H H'->JK Ad H0 H' j d (ls++[p])->Q .non H'
theorem Jen (F:FunD K "link" "Joints.link" BaA dV f fd) (T:Txt K mg Ad)  : FnOk P w K mg base (CX1 P w) 1 f fd ["self","part"] (Jb4 K Ad):=by
 refine F.okn Jes (by subst_eqs) (fun f5 A f2 s H vs Q E hr h=>?_)
 obtain ⟨j,d,v,ls,p,H0,rfl,h⟩:=h;refine ⟨_,(Jab (Ja2 (pe_bm PySem.F.plainAttrs_list PySem.F.slot_list_append PySem.F.type_list_append Ja7 (Jh7 (Jaq (pv 0) rfl) (Jaq (pv 1) rfl) (Ja5 Jad) ⟨rfl,rfl,rfl,rfl⟩) (Jaa (JaB (Jaa (Jaq (pv 1) rfl) (Jaa (JaB (Jaa (Jaq (pv 1) rfl) (Jaa pe_bl Jad))) Jad))) Jad) (hs:=by exact Jaf rfl)))
   (Jah (Ja2 (pe_bm PySem.F.plainAttrs_list PySem.F.slot_list_append PySem.F.type_list_append Ja7 (Jh7 (Jaq (pv 0) rfl) (Jaq (pv 1) rfl) (Ja5 Jad) ⟨rfl,rfl,rfl,rfl⟩) (Jaa (JaB (Jaa (Jaq (pv 1) rfl) (Jaa (JaB (Jaa (Jaq (pv 1) rfl) (Jaa pe_bl Jad))) Jad))) Jad) (hs:=by exact Jaf rfl))))),?_⟩
 obtain ⟨⟨⟨dx,c8⟩,a9,B,a3,hk,d5⟩,e5,hv,d6,hl,k⟩:=h;obtain ⟨q,dq,vz,vm,rfl,a0,hz,hm⟩:=hv;have sl:(1000:Nat)<=sizeLine:=by decide
 have jc:=T.Bch _ rfl;have C:=T.BcR _ rfl;have nj:j≠d:=fun z=>by rw [z,a3] at c8;cases c8
 have nq:q≠d:=fun z=>by rw [z,a3] at a0;cases a0
 have e8:∀ f,(JaD ls f).length<=20:=fun f=>by have:=JeS ls f;ac_nf
 show tSeq _ _ _ [some (.ref j),some (.ref q)] H;and_intros;obtain ⟨H1,hH⟩:∃ H',H'=H:=⟨_,rfl⟩;subst hH;refine ⟨j,_,dx,_, .ref d,rfl,c8,jc.cls,jc.n1,rfl,?_⟩;and_intros;refine ⟨d,rfl, .inl ⟨B, .inl a3⟩,?_⟩;refine ⟨q,_,dq,_, .str p.st,rfl,a0,C.cls,C.n2,rfl,?_⟩;and_intros;refine ⟨len0,?_⟩;rename_i l1 Y f4 H1 f0 c4 f3;and_intros;refine ⟨B,Sum.inr p.st,c4 _ _ a3,rfl,by ac_nf,fun v hv=>?_,fun hv=>?_⟩
 ·obtain ⟨l,r,c6,d0,a7,d1⟩:∃ l r,v=.ref l/\H0 l=none/\H1 l=some (.lst r)/\All2 (LeV H1) ((JaD ls) p.st) r:=by
   rcases d5.at_ p.st with ⟨h1,_⟩ | ⟨l,r,h1,h2,h3,h4⟩
   ·rw [hv] at h1;cases h1
   ·rw [hv] at h1;cases h1;exact ⟨l,r,rfl,h2,h3,h4⟩
  subst c6;have f1:r.length<=20:=by rw [d1.length];exact e8 _
  refine ⟨.inl ⟨rfl,_,SqL.of (c4 _ _ a7)⟩,?_⟩;and_intros;have a:=c4 _ _ a0;obtain ⟨b5,S⟩:∃ H',H'=f0:=⟨_,rfl⟩;rw [<- S] at a ⊢;refine ⟨q,_,dq,_, .str p.en,rfl,a,C.cls,C.n3,rfl,?_⟩;and_intros;refine ⟨q,_,dq,_, .str p.nm,rfl,a,C.cls,C.n1,rfl,?_⟩;and_intros;refine ⟨len2,?_⟩;rename_i e0 d9 e3 b5 e6 e4 e7;and_intros;refine ⟨len2,?_⟩;rename_i c9 d8 d7 e6 b7 d4 e1;and_intros;have d2:LeV b7 (p.en,(p.nm,true)) (.ref c9):=⟨c9,e0,rfl,e1,d4 _ _ e7⟩;have I:=e4.trans d4;have i:=I _ _ (by rw [S];exact c4 _ _ a7:b5 l=some (.lst r));refine ⟨l,r,_,rfl,rfl,i,by ac_nf,?_⟩;generalize u2:upd b7 l _=W;and_intros;have m:Same H1 b7:=fun b u h=>I _ _ (by rw [S];exact c4 _ _ h);have a4:=(d5.same m).more hv i d2 u2;have a2:SameJ d H1 W:=fun b u _ X h=>by rw [<- u2,Jag (fun z=>by have:=m _ _ h;rw [z,i] at this;cases this;exact X _ rfl)];exact m _ _ h
  have t:W d=some (.dK B):=by rw [<- u2,Jag (fun z=>by have:=m _ _ a3;rw [z,i] at this;cases this)];exact m _ _ a3
  have c0:Same H0 W:=fun b u h=>by rw [<- u2,Jag (Jai h d0)];exact m _ _ (e5 _ _ h)
  have b1:=a2 _ _ nj (by intro r z;cases z) c8;have M:=a2 _ _ nq (by intro r z;cases z) a0;have c5:∀ f,(addL (JaD ls) p.st (p.en,(p.nm,true)) f).length<=21:=fun f=>by
   have:=JeS ls f;unfold addL;split
   ·rw [length_append,length_singleton];ac_nf
   ·ac_nf
  and_intros;refine ⟨j,_,dx,_, .ref d,rfl,b1,jc.cls,jc.n1,rfl,?_⟩;and_intros;refine ⟨d,rfl, .inl ⟨B, .inl t⟩,?_⟩;refine ⟨q,_,dq,_, .str p.en,rfl,M,C.cls,C.n3,rfl,?_⟩;and_intros;refine ⟨len0,?_⟩;rename_i Z n e9 W c7 G e2;and_intros;refine ⟨B,Sum.inr p.en,G _ _ t,rfl,by ac_nf,fun v hv=>?_,fun hv=>?_⟩
  ·obtain ⟨l,r,c6,d0,a7,d1⟩:∃ l r,v=.ref l/\H0 l=none/\W l=some (.lst r)/\All2 (LeV W) ((addL (JaD ls) p.st (p.en,(p.nm,true))) p.en) r:=by
    rcases a4.at_ p.en with ⟨h1,_⟩ | ⟨l,r,h1,h2,h3,h4⟩
    ·rw [hv] at h1;cases h1
    ·rw [hv] at h1;cases h1;exact ⟨l,r,rfl,h2,h3,h4⟩
   subst c6;have f1:r.length<=21:=by rw [d1.length];exact c5 _
   refine ⟨.inl ⟨rfl,_,SqL.of (G _ _ a7)⟩,?_⟩;and_intros;have a:=G _ _ M;obtain ⟨x,S⟩:∃ H',H'=c7:=⟨_,rfl⟩;rw [<- S] at a ⊢;refine ⟨q,_,dq,_, .str p.st,rfl,a,C.cls,C.n2,rfl,?_⟩;and_intros;refine ⟨q,_,dq,_, .str p.nm,rfl,a,C.cls,C.n1,rfl,?_⟩;and_intros;refine ⟨len2,?_⟩;rename_i b2 c3 b6 x c1 b9 b8;and_intros;refine ⟨len2,?_⟩;rename_i R b4 b0 c1 y J c2;and_intros;have N:LeV y (p.st,(p.nm,false)) (.ref R):=⟨R,b2,rfl,c2,J _ _ b8⟩;have c:=b9.trans J;have i:=c _ _ (by rw [S];exact G _ _ a7:x l=some (.lst r));refine ⟨l,r,_,rfl,rfl,i,by ac_nf,?_⟩;generalize u3:upd y l _=H3;and_intros;have m:Same W y:=fun b u h=>c _ _ (by rw [S];exact G _ _ h);have U:=(a4.same m).more hv i N u3;have O:SameJ d W H3:=fun b u _ X h=>by rw [<- u3,Jag (fun z=>by have:=m _ _ h;rw [z,i] at this;cases this;exact X _ rfl)];exact m _ _ h
   have a1:H3 d=some (.dK B):=by rw [<- u3,Jag (fun z=>by have:=m _ _ t;rw [z,i] at this;cases this)];exact m _ _ t
   have b3:Same H0 H3:=fun b u h=>by rw [<- u3,Jag (Jai h d0)];exact m _ _ (c0 _ _ h)
   rw [Jc1 d6] at U;refine k H3 b3 (fun b u L X h=>O b u L X (a2 b u L X h)) ⟨⟨dx,O _ _ nj (by intro r z;cases z) b1⟩,a9,_,a1,?_,U⟩;rw [length_append,length_singleton];ac_nf
  ·have a5:H0 Z=none:=by
    cases e:H0 Z with
    | none=>rfl
    | some o=>rw [c0 _ _ e] at n;cases n
   generalize uc:upd c7 d _=x;and_intros;have nd:Z≠d:=fun z=>by rw [z,t] at n;cases n
   have a8:x Z=some (.lst []):=by rw [<- uc,Jag nd];exact e2
   have D:∀ b u,b≠d->W b=some u->x b=some u:=fun b u L h=>by rw [<- uc,Jag L];exact G _ _ h
   have d3:x d=some (.dK (putK B (Sum.inr p.en) (.ref Z))):=by rw [<- uc,Jaj]
   refine ⟨.inl ⟨rfl,_,SqL.of a8⟩,?_⟩;and_intros;have a:=D _ _ (fun z=>by rw [z,t] at M;cases M) M;refine ⟨q,_,dq,_, .str p.st,rfl,a,C.cls,C.n2,rfl,?_⟩;and_intros;refine ⟨q,_,dq,_, .str p.nm,rfl,a,C.cls,C.n1,rfl,?_⟩;and_intros;refine ⟨len2,?_⟩;rename_i b2 c3 b6 x c1 b9 b8;and_intros;refine ⟨len2,?_⟩;rename_i R b4 b0 c1 y J c2;and_intros;have N:LeV y (p.st,(p.nm,false)) (.ref R):=⟨R,b2,rfl,c2,J _ _ b8⟩;have c:=b9.trans J;have i:=c _ _ a8;refine ⟨Z,[],_,rfl,rfl,i,by show 0<sizeLine;ac_nf,?_⟩;generalize u3:upd y Z _=H3;and_intros;have U:=((a4.sx D t).same c).first hv a5 (fun g l' a6 z=>by
    rcases a4.at_ g with ⟨h1,_⟩ | ⟨Z,xs2,h1,_,h3,_⟩
    ·rw [a6] at h1;cases h1
    ·rw [a6] at h1;cases h1;rw [z,n] at h3;cases h3) i N u3
   have O:SameJ d W H3:=fun b u L X h=>by rw [<- u3,Jag (fun z=>by rw [z,n] at h;cases h)];exact c _ _ (D _ _ L h)
   have a1:=c _ _ d3;rw [show y d=H3 d by rw [<- u3,Jag (Ne.symm nd)]] at a1;have b3:Same H0 H3:=fun b u h=>by rw [<- u3,Jag (Jai h a5)];exact c _ _ (D _ _ (Jai h a9) (c0 _ _ h))
   have lp:=Jbg B (Sum.inr p.en) (V.ref Z);rw [Jc1 d6] at U;refine k H3 b3 (fun b u L X h=>O b u L X (a2 b u L X h)) ⟨⟨dx,O _ _ nj (by intro r z;cases z) b1⟩,a9,_,a1,?_,U⟩;rw [length_append,length_singleton];ac_nf
 ·have a5:H0 l1=none:=by
   cases e:H0 l1 with
   | none=>rfl
   | some o=>rw [e5 _ _ e] at Y;cases Y
  generalize uc:upd f0 d _=b5;and_intros;have nd:l1≠d:=fun z=>by rw [z,a3] at Y;cases Y
  have a8:b5 l1=some (.lst []):=by rw [<- uc,Jag nd];exact f3
  have D:∀ b u,b≠d->H1 b=some u->b5 b=some u:=fun b u L h=>by rw [<- uc,Jag L];exact c4 _ _ h
  have d3:b5 d=some (.dK (putK B (Sum.inr p.st) (.ref l1))):=by rw [<- uc,Jaj]
  refine ⟨.inl ⟨rfl,_,SqL.of a8⟩,?_⟩;and_intros;have a:=D _ _ (fun z=>by rw [z,a3] at a0;cases a0) a0;refine ⟨q,_,dq,_, .str p.en,rfl,a,C.cls,C.n3,rfl,?_⟩;and_intros;refine ⟨q,_,dq,_, .str p.nm,rfl,a,C.cls,C.n1,rfl,?_⟩;and_intros;refine ⟨len2,?_⟩;rename_i e0 d9 e3 b5 e6 e4 e7;and_intros;refine ⟨len2,?_⟩;rename_i c9 d8 d7 e6 b7 d4 e1;and_intros;have d2:LeV b7 (p.en,(p.nm,true)) (.ref c9):=⟨c9,e0,rfl,e1,d4 _ _ e7⟩;have I:=e4.trans d4;have i:=I _ _ a8;refine ⟨l1,[],_,rfl,rfl,i,by show 0<sizeLine;ac_nf,?_⟩;generalize u2:upd b7 l1 _=W;and_intros;have a4:=((d5.sx D a3).same I).first hv a5 (fun g l' a6 z=>by
   rcases d5.at_ g with ⟨h1,_⟩ | ⟨Z,xs2,h1,_,h3,_⟩
   ·rw [a6] at h1;cases h1
   ·rw [a6] at h1;cases h1;rw [z,Y] at h3;cases h3) i d2 u2
  have a2:SameJ d H1 W:=fun b u L X h=>by rw [<- u2,Jag (fun z=>by rw [z,Y] at h;cases h)];exact I _ _ (D _ _ L h)
  have t:=I _ _ d3;rw [show b7 d=W d by rw [<- u2,Jag (Ne.symm nd)]] at t;have c0:Same H0 W:=fun b u h=>by rw [<- u2,Jag (Jai h a5)];exact I _ _ (D _ _ (Jai h a9) (e5 _ _ h))
  have lp:=Jbg B (Sum.inr p.st) (V.ref l1);have b1:=a2 _ _ nj (by intro r z;cases z) c8;have M:=a2 _ _ nq (by intro r z;cases z) a0;have c5:∀ f,(addL (JaD ls) p.st (p.en,(p.nm,true)) f).length<=21:=fun f=>by
   have:=JeS ls f;unfold addL;split
   ·rw [length_append,length_singleton];ac_nf
   ·ac_nf
  and_intros;refine ⟨j,_,dx,_, .ref d,rfl,b1,jc.cls,jc.n1,rfl,?_⟩;and_intros;refine ⟨d,rfl, .inl ⟨(putK B (Sum.inr p.st) (V.ref l1)), .inl t⟩,?_⟩;refine ⟨q,_,dq,_, .str p.en,rfl,M,C.cls,C.n3,rfl,?_⟩;and_intros;refine ⟨len0,?_⟩;rename_i Z n e9 W c7 G e2;and_intros;refine ⟨(putK B (Sum.inr p.st) (V.ref l1)),Sum.inr p.en,G _ _ t,rfl,by ac_nf,fun v hv=>?_,fun hv=>?_⟩
  ·obtain ⟨l,r,c6,d0,a7,d1⟩:∃ l r,v=.ref l/\H0 l=none/\W l=some (.lst r)/\All2 (LeV W) ((addL (JaD ls) p.st (p.en,(p.nm,true))) p.en) r:=by
    rcases a4.at_ p.en with ⟨h1,_⟩ | ⟨l,r,h1,h2,h3,h4⟩
    ·rw [hv] at h1;cases h1
    ·rw [hv] at h1;cases h1;exact ⟨l,r,rfl,h2,h3,h4⟩
   subst c6;have f1:r.length<=21:=by rw [d1.length];exact c5 _
   refine ⟨.inl ⟨rfl,_,SqL.of (G _ _ a7)⟩,?_⟩;and_intros;have a:=G _ _ M;obtain ⟨x,S⟩:∃ H',H'=c7:=⟨_,rfl⟩;rw [<- S] at a ⊢;refine ⟨q,_,dq,_, .str p.st,rfl,a,C.cls,C.n2,rfl,?_⟩;and_intros;refine ⟨q,_,dq,_, .str p.nm,rfl,a,C.cls,C.n1,rfl,?_⟩;and_intros;refine ⟨len2,?_⟩;rename_i b2 c3 b6 x c1 b9 b8;and_intros;refine ⟨len2,?_⟩;rename_i R b4 b0 c1 y J c2;and_intros;have N:LeV y (p.st,(p.nm,false)) (.ref R):=⟨R,b2,rfl,c2,J _ _ b8⟩;have c:=b9.trans J;have i:=c _ _ (by rw [S];exact G _ _ a7:x l=some (.lst r));refine ⟨l,r,_,rfl,rfl,i,by ac_nf,?_⟩;generalize u3:upd y l _=H3;and_intros;have m:Same W y:=fun b u h=>c _ _ (by rw [S];exact G _ _ h);have U:=(a4.same m).more hv i N u3;have O:SameJ d W H3:=fun b u _ X h=>by rw [<- u3,Jag (fun z=>by have:=m _ _ h;rw [z,i] at this;cases this;exact X _ rfl)];exact m _ _ h
   have a1:H3 d=some (.dK (putK B (Sum.inr p.st) (V.ref l1))):=by rw [<- u3,Jag (fun z=>by have:=m _ _ t;rw [z,i] at this;cases this)];exact m _ _ t
   have b3:Same H0 H3:=fun b u h=>by rw [<- u3,Jag (Jai h d0)];exact m _ _ (c0 _ _ h)
   rw [Jc1 d6] at U;refine k H3 b3 (fun b u L X h=>O b u L X (a2 b u L X h)) ⟨⟨dx,O _ _ nj (by intro r z;cases z) b1⟩,a9,_,a1,?_,U⟩;rw [length_append,length_singleton];ac_nf
  ·have a5:H0 Z=none:=by
    cases e:H0 Z with
    | none=>rfl
    | some o=>rw [c0 _ _ e] at n;cases n
   generalize uc:upd c7 d _=x;and_intros;have nd:Z≠d:=fun z=>by rw [z,t] at n;cases n
   have a8:x Z=some (.lst []):=by rw [<- uc,Jag nd];exact e2
   have D:∀ b u,b≠d->W b=some u->x b=some u:=fun b u L h=>by rw [<- uc,Jag L];exact G _ _ h
   have d3:x d=some (.dK (putK (putK B (Sum.inr p.st) (V.ref l1)) (Sum.inr p.en) (.ref Z))):=by rw [<- uc,Jaj]
   refine ⟨.inl ⟨rfl,_,SqL.of a8⟩,?_⟩;and_intros;have a:=D _ _ (fun z=>by rw [z,t] at M;cases M) M;refine ⟨q,_,dq,_, .str p.st,rfl,a,C.cls,C.n2,rfl,?_⟩;and_intros;refine ⟨q,_,dq,_, .str p.nm,rfl,a,C.cls,C.n1,rfl,?_⟩;and_intros;refine ⟨len2,?_⟩;rename_i b2 c3 b6 x c1 b9 b8;and_intros;refine ⟨len2,?_⟩;rename_i R b4 b0 c1 y J c2;and_intros;have N:LeV y (p.st,(p.nm,false)) (.ref R):=⟨R,b2,rfl,c2,J _ _ b8⟩;have c:=b9.trans J;have i:=c _ _ a8;refine ⟨Z,[],_,rfl,rfl,i,by show 0<sizeLine;ac_nf,?_⟩;generalize u3:upd y Z _=H3;and_intros;have U:=((a4.sx D t).same c).first hv a5 (fun g l' a6 z=>by
    rcases a4.at_ g with ⟨h1,_⟩ | ⟨Z,xs2,h1,_,h3,_⟩
    ·rw [a6] at h1;cases h1
    ·rw [a6] at h1;cases h1;rw [z,n] at h3;cases h3) i N u3
   have O:SameJ d W H3:=fun b u L X h=>by rw [<- u3,Jag (fun z=>by rw [z,n] at h;cases h)];exact c _ _ (D _ _ L h)
   have a1:=c _ _ d3;rw [show y d=H3 d by rw [<- u3,Jag (Ne.symm nd)]] at a1;have b3:Same H0 H3:=fun b u h=>by rw [<- u3,Jag (Jai h a5)];exact c _ _ (D _ _ (Jai h a9) (c0 _ _ h))
   have lp:=Jbg (putK B (Sum.inr p.st) (V.ref l1)) (Sum.inr p.en) (V.ref Z);rw [Jc1 d6] at U;refine k H3 b3 (fun b u L X h=>O b u L X (a2 b u L X h)) ⟨⟨dx,O _ _ nj (by intro r z;cases z) b1⟩,a9,_,a1,?_,U⟩;rw [length_append,length_singleton];ac_nf
abbrev Bad:Stmt:=inClass (top 48) 2
theorem JaI:Jan ["self","one","other","found","waiting","face","lead"] ["self","one","other"] (Jae Bad):=by bv_decide
def Ja9 (K:W.Frag) (Ad:Adr):Sp:=fun vs H Q E=>∃ (j d:Addr) (one other:Str) (ls:List PD) (H0:Hp),vs=[.ref j, .str one, .str other]/\JK Ad H0 H j d ls/\ls.length<=20/\(ls.map (·.nm)).Nodup/\(¬ Conn ls one other->∀ H',Same H H'->Q .non H')/\(∀ w l xs H',Same H H'->H l=none->H' l=some (.lst xs)->All2 (CV H') w xs->Jbj ls one w other->(w.map (·.1)).Nodup->Q (.ref l) H')
theorem JcA (F:FunD K "way_between" "Joints.way_between" Bad dV f fd) (T:Txt K mg Ad)  : FnOk P w K mg base (CX1 P w) 1 f fd ["self","one","other"] (Ja9 K Ad):=by
 refine F.okn JaI (by subst_eqs) (fun i3 A f2 s H vs Q E hr h=>?_)
 obtain ⟨j,d,one,other,M,H0,rfl,h⟩:=h;have hu:=hr.units;refine ⟨_,(Jab (Jak (i:=3) JaI.nd rfl (Or.inl rfl) (Jkj (Ji3 (pv 1) (Ja5 Jad) Jkp) rfl rfl (by simp) ⋯))
   (Jab (Jak (i:=4) JaI.nd rfl (Or.inl rfl) (Ja5 (Jaa (pv 1) Jad)))
   (Jab (JdL PassesOwn.never (Jav JgK (Jat JaL rfl T.BbB Jbp (Jaa (pv 4) Jad)) Jac (Jas _))
   (Jab (Jak (i:=5) JaI.nd rfl (Or.inl rfl) (JgO PySem.F.plainAttrs_list PySem.F.slot_list_pop PySem.F.type_list_pop Jk3 (pv 4)))
   (Jah (JaY PassesOwn.never rfl (pi_U (Ji1 (hu1 hu) (Jaq (pv 0) rfl) (pv 5) (Ja5 Jad) ⟨rfl,rfl,rfl,rfl⟩)) (Jax (i:=6) JaI.nd rfl (Or.inl rfl))
   (Jah (ps_if (Jed (Jdd (hu1 hu) (pe_ix ix_U (pv 6) Jac (fun _ _=>rfl)) (pv 3)) (by with_unfolding_all rfl))
   (Jab (JcC (hu1 hu) (pv 3) (pe_ix ix_U (pv 6) Jac (fun _ _=>rfl)) (pe_op Jbc (Jcg (hu1 hu) (pv 3) (pv 5) (fun _ _=>rfl)) (Ja5 (Jaa (pe_ix ix_U (pv 6) Jac (fun _ _=>rfl)) Jad))) rfl)
   (Jah (Ja2 (pe_bm PySem.F.plainAttrs_list PySem.F.slot_list_append PySem.F.type_list_append Ja7 (pv 4) (Jaa (pe_ix ix_U (pv 6) Jac (fun _ _=>rfl)) Jad) (hs:=by exact Jaf rfl)))))
   Jar))))))
   (Jah (Jap (Ji0 (hu1 hu) (pv 3) (pv 2) ⟨rfl,rfl,rfl,rfl⟩)))))),?_⟩
 clear hu;obtain ⟨⟨⟨dx,hj⟩,i4,c7,hd,hk,hJ⟩,hl,g3,k1,k2⟩:=h;have sl:(1000:Nat)<=sizeLine:=by decide
 have jc:=T.Bch _ rfl;show tSeq _ _ _ [some (.ref j),some (.str one),some (.str other),none,none,none,none] H;and_intros;rename_i fd b0 i1 H H1 S1 e1;and_intros;refine ⟨len0,?_⟩;rename_i l0 N h9 H1 H2 S2 e2;and_intros;refine ⟨S2 _ _ e1,[(Sum.inr one, .ref l0)],rfl,by show 1<=15;ac_nf,?_⟩;generalize u3:upd H2 fd _=H3;and_intros;have e3:H3 fd=some (.dK [(Sum.inr one, .ref l0)]):=by rw [<- u3];exact Jaj.trans rfl
 have f5:l0≠fd:=fun z=>by rw [z,e1] at N;cases N
 have d4:H3 l0=some (.lst []):=by rw [<- u3,Jag f5];exact e2
 have c3:Same H H3:=fun b u h=>by rw [<- u3,Jag (Jai h b0)];exact S2 _ _ (S1 _ _ h)
 have g1:H l0=none:=by
  cases e:H l0 with
  | none=>rfl
  | some o=>rw [S1 _ _ e] at N;cases N
 refine ⟨by show 1<=sizeLine;ac_nf,?_⟩;rename_i I G i0 H3 H4 S4 e4;and_intros;have b2:H I=none:=by
  cases e:H I with
  | none=>rfl
  | some o=>rw [c3 _ _ e] at G;cases G
 have e0:l0≠I:=fun z=>by rw [<- z,d4] at G;cases G
 have i7:fd≠I:=fun z=>by rw [<- z,e3] at G;cases G
 have d8:Srch H M one fd I H4 [(one,[])] [one]:=⟨c3.trans S4,⟨_,S4 _ _ e3,rfl, .ref l0,[],rfl,⟨l0,[],rfl,g1,e0,S4 _ _ d4,rfl⟩,rfl⟩,by simp,by simp,fun a J=>by rw [mem_singleton.mp J];exact .nil,e4,by simp,by simp,fun a J=>by rw [mem_singleton.mp J];simp⟩;refine ⟨fun m σ H'=>∃ (v5 v6:Option V) (ws:List (Str × List Pr)) (wt:List Str),σ=[some (.ref j),some (.str one),some (.str other),some (.ref fd),some (.ref I),v5,v6]/\Srch H M one fd I H' ws wt/\(∀ a∈ws,a.1∉wt->∀ e∈JaD M a.1,e.1∈ws.map (·.1))/\m=2*(41-ws.length)+wt.length/\m<=81,⟨_,none,none,[(one,[])],[one],rfl,d8,fun a J hn=>absurd (by rw [mem_singleton.mp J];simp) hn,rfl,by simp⟩,?_⟩;rintro m σ H5 ⟨v5,v6,ws,wt,rfl,O,cl,rfl,b1⟩;and_intros;refine ⟨_, .inl (SqL.of O.wait),?_⟩;and_intros;rcases List.eq_nil_or_concat wt with rfl | ⟨wt',face,rfl⟩
 ·rw [if_neg (by simp)];and_intros;obtain ⟨g2,c2,f4⟩:=O.dict;and_intros;refine ⟨fd,rfl, .inl ⟨g2, .inl c2⟩,_,DGet.k (k:=Sum.inr other) c2,?_⟩;rcases f4.get (z:=other) with ⟨a,v,S,h2,h3,l,xs,rfl,h4,_,h5,h6⟩ | ⟨S,h2⟩
  ·rw [h3];exact k2 a.2 l xs H5 O.same h4 h5 h6 (by rw [<- h2];exact O.walk a S) (O.sim a S).1
  ·rw [h2];refine k1 (fun hc=>S (JjN O.here (fun f hf e he=>?_) hc)) H5 O.same;obtain ⟨a,J,rfl⟩:=mem_map.mp hf;exact cl a J (by simp) e he
 ·rw [if_pos (by simp)];and_intros;rw [List.concat_eq_append] at O cl b1 ⊢;refine ⟨_,fun _ _ q=>q,?_⟩;and_intros;refine ⟨.inl ⟨rfl,_,SqL.of O.wait⟩,?_⟩;refine ⟨I,_, .str face,rfl,rfl,O.wait,by simp,?_⟩;generalize u6:upd H5 I _=H6;and_intros;have ed:((wt'++[face]).map V.str).dropLast=wt'.map V.str:=by simp
  rw [ed] at u6;have a5:Srch H M one fd I H6 ws wt':=O.wait' b2 u6 fun f hf=>O.sub f (by simp [hf]);have b4:=O.sub face (by simp);and_intros;refine ⟨j,_,dx,_, .ref d,rfl,a5.same _ _ hj,jc.cls,jc.n1,rfl,?_⟩;and_intros;refine ⟨d,rfl, .inl ⟨c7, .inl (a5.same _ _ hd)⟩,len0,?_⟩;rename_i le c5 h0 H6 H7 S7 e7;and_intros;have a0:=a5.grow S7;have e5:le≠I:=fun z=>by have:=a5.wait;rw [<- z,c5] at this;cases this
  refine ⟨_,DGet.k (k:=Sum.inr face) (a0.same _ _ hd),?_⟩;obtain ⟨la,xs,f9,d3,b7,e6⟩:∃ la xs,(valV c7 (Sum.inr face)).getD (.ref le)=.ref la/\H7 la=some (.lst xs)/\All2 (LeV H7) (JaD M face) xs/\la≠I:=by
   rcases hJ.at_ face with ⟨S,h2⟩ | ⟨l,xs,S,h2,h3,h4⟩
   ·exact ⟨le,[],by rw [S];rfl,e7,by rw [h2];rfl,e5⟩
   ·exact ⟨l,xs,by rw [S];rfl,a0.same _ _ h3,h4.mono fun _ _ z=>z.sameT a0.same.t,Jai h3 b2⟩
  have lx:=b7.length;have j1:=a0.len hl;refine ⟨la,f9,ForA.byL (xs:=xs) (SqL.of d3) (fun i σ H'=>i<=xs.length/\∃ (v6:Option V) (r:List (Str × List Pr)) (B:List Str),σ=[some (.ref j),some (.str one),some (.str other),some (.ref fd),some (.ref I),some (.str face),v6]/\Srch H M one fd I H' r B/\H' la=some (.lst xs)/\SameT H7 H'/\(∀ a∈r,a.1∉B->a.1≠face->∀ e∈JaD M a.1,e.1∈r.map (·.1))/\(∀ e∈(JaD M face).take i,e.1∈r.map (·.1))/\face∈r.map (·.1)/\2*(41-r.length)+B.length<=2*(41-ws.length)+wt'.length) ⟨Nat.zero_le _,v6,ws,wt',rfl,a0,d3,SameT.refl _,fun a J S h2=>cl a J (by simp [S,h2]),by simp,b4,Nat.le_refl _⟩ (fun i σ H' z=>by obtain ⟨_,_,_,_,_,_,z,_⟩:=z;exact SqL.of z) ?_ ?_⟩
  ·rintro i y σ H8 hy ⟨hi,v6,r,B,rfl,C,Y,Z,a3,U,X,d5⟩;have li:i<xs.length:=(List.getElem?_eq_some_iff.mp hy).1;obtain ⟨e,he,b,c,rfl,f3,f6⟩:=b7.at_ hy;have a8:=Z _ _ rfl f3;have f0:=Z _ _ rfl f6;have c0:(JaD M face).take (i+1)=(JaD M face).take i++[e]:=by rw [take_succ,he];rfl
   have c9:e∈JaD M face:=List.mem_of_getElem? he;obtain ⟨i9,a2,a6⟩:=C.dict;and_intros;refine ixT (i:=0) (SqT.of a8) rfl ?_;refine ⟨fd,_,rfl,DGet.k (k:=Sum.inr e.1) a2,?_⟩;rw [a6.val];by_cases R:e.1∈r.map (·.1)
   ·rw [decide_eq_true R];and_intros;refine ⟨li,_,r,B,rfl,C,Y,Z,a3,fun e' L=>?_,X,d5⟩;rw [c0] at L;rcases mem_append.mp L with h' | h'
    ·exact U e' h'
    ·rw [mem_singleton.mp h'];exact R
   ·rw [decide_eq_false R];and_intros;obtain ⟨a,v,J,g7,hv,l,xw,rfl,i8,i5,c4,d0⟩:=a6.some X;have j0:=C.lw a J;have i2:=C.len hl;have j2:=d0.length;refine ⟨fd, .ref l,rfl,by rw [<- hv];exact DGet.k (k:=Sum.inr face) a2,?_⟩;refine ixT (i:=1) (SqT.of a8) rfl ?_;refine ⟨by show 1<=sizeLine;ac_nf,?_⟩;rename_i ln g9 h8 H8 H9 S9 e9;and_intros;refine .inl ⟨l,ln,xw,_,rfl,rfl,S9 _ _ c4,e9,by simp;ac_nf,?_⟩;rename_i lr W h7 H9 a1 g8 f7;and_intros;and_intros;have n:=S9.trans g8;have d2:=C.grow n;refine ixT (i:=0) (SqT.of (n _ _ a8)) rfl ?_;have lk:=a6.length;refine ⟨fd,_,rfl,DPut.k (k:=Sum.inr e.1) (n _ _ a2) ∅,?_⟩;generalize b3:upd a1 fd _=a4;and_intros;have n0:H lr=none:=by
     cases e:H lr with
     | none=>rfl
     | some o=>rw [S9 _ _ (C.same _ _ e)] at W;cases W
    have d9:lr≠I:=fun z=>by have:=(C.grow S9).wait;rw [<- z,W] at this;cases this
    have d7:Jbj M one (a.2++[e.2]) e.1:=.snoc (by rw [<- g7];exact C.walk a J) c9;have a9:=n _ _ a2;have c1:=a6.mono (P':=PWy H a1 I) fun a v ⟨l,xs,e1,hn,f8,hx,J⟩=>⟨l,xs,e1,hn,f8,n _ _ hx,J.mono fun _ _ z=>z.sameT n.t⟩;have cv:CV a1 e.2 (.ref c):=⟨c,rfl,n _ _ f0⟩;obtain ⟨pp,d1,b5⟩:=(Jbk (g:=e.1) (pr:=e.2)).mp c9;have c6:e.2.1=pp.nm:=by rcases b5 with h | h;rw [h.2.2];rw [h.2.2.2]
    have b9:(pp.st=face/\pp.en=e.1)\/(pp.en=face/\pp.st=e.1):=by rcases b5 with h | h;exact .inl ⟨h.1,h.2.1⟩;exact .inr ⟨h.2.1,h.2.2.1⟩
    have e8:((a.2++[e.2]).map (·.1)).Nodup/\∀ p∈M,p.nm∈(a.2++[e.2]).map (·.1)->p.st∈(r++[(e.1,a.2++[e.2])]).map (·.1)/\p.en∈(r++[(e.1,a.2++[e.2])]).map (·.1):=by
     have sm:=C.sim a J;have g5:e.2.1∉a.2.map (·.1):=fun z=>by
      have:=sm.2 pp d1 (c6 ▸ z);rcases b9 with h | h
      ·exact R (h.2 ▸ this.2)
      ·exact R (h.2 ▸ this.1)
     rw [map_append,map_append,map_cons,map_nil,map_cons,map_nil];refine ⟨nodup_append.mpr ⟨sm.1,by simp,fun x hx y hy z=>g5 (by rw [mem_singleton] at hy;rw [<- hy, <- z];exact hx)⟩,fun p hp hn=>?_⟩;rcases mem_append.mp hn with hn | hn
     ·have:=sm.2 p hp hn;exact ⟨mem_append.mpr (.inl this.1),mem_append.mpr (.inl this.2)⟩
     ·have ep:=JhU g3 hp d1 ((mem_singleton.mp hn).trans c6);subst ep;have m1:e.1∈r.map (·.1)++[e.1]:=mem_append.mpr (.inr (by simp));have m2:face∈r.map (·.1)++[e.1]:=mem_append.mpr (.inl X);rcases b9 with h | h
      ·rw [h.1,h.2];exact ⟨m2,m1⟩
      ·rw [h.1,h.2];exact ⟨m1,m2⟩
    have D:=d2.find a9 c1 b0 R d7 (by simp;ac_nf) e8 n0 d9 f7 ((d0.mono (P':=CV a1) fun _ _ z=>z.sameT n.t).append (.one cv)) b3;have c8:SameT a1 a4:=SameT.put b3 a9 rfl;have g4:la≠fd:=fun z=>by rw [z,a2] at Y;cases Y
    have b6:a4 la=some (.lst xs):=by rw [<- b3,Jag g4];exact n _ _ Y
    have g6:=D.len hl;rw [length_append,length_singleton] at g6;have i6:(B.map V.str).length<=81:=by
     rw [length_map];rw [length_append,length_singleton] at b1;ac_nf
    refine ⟨.inl ⟨rfl,_,SqL.of D.wait⟩,?_⟩;refine ixT (i:=0) (SqT.of (c8 _ _ rfl (n _ _ a8))) rfl ?_;refine ⟨I,_,_,rfl,rfl,D.wait,by ac_nf,?_⟩;generalize a7:upd a4 I _=d6;and_intros;have ea:B.map V.str++[V.str e.1]=(B++[e.1]).map V.str:=by simp
    rw [ea] at a7;have b8:=D.wait' b2 a7 (fun f hf=>by
     rcases mem_append.mp hf with h' | h'
     ·exact D.sub f h'
     ·rw [mem_singleton.mp h',map_append];simp)
    have g0:SameT a4 d6:=SameT.put a7 D.wait rfl;refine ⟨li,_,r++[(e.1,a.2++[e.2])],B++[e.1],rfl,b8,by rw [<- a7,Jag e6];exact b6,Z.trans (n.t.trans (c8.trans g0)),fun a' f1 S h2 e' L=>?_,fun e' L=>?_,?_,?_⟩
    ·rw [map_append];rcases mem_append.mp f1 with h' | h'
     ·exact mem_append.mpr (.inl (a3 a' h' (fun z=>S (by simp [z])) h2 e' L))
     ·refine absurd ?_ S;rw [mem_singleton.mp h'];simp
    ·rw [map_append];rw [c0] at L;rcases mem_append.mp L with h' | h'
     ·exact mem_append.mpr (.inl (U e' h'))
     ·rw [mem_singleton.mp h'];simp
    ·rw [map_append];exact mem_append.mpr (.inl X)
    ·rw [length_append,length_append,length_singleton,length_singleton];ac_nf
  ·rintro σ H8 ⟨hi,v6,r,B,rfl,C,Y,Z,a3,U,X,d5⟩;rw [length_append,length_singleton] at b1;refine ⟨_,by rw [length_append,length_singleton];ac_nf,some (.str face),v6,r,B,rfl,C,fun a J hn e he=>?_,rfl,by ac_nf⟩;by_cases c:a.1=face
   ·rw [take_of_length_le ∅] at U;rw [c] at he;exact U e he
   ·exact a3 a J hn c e he
abbrev Baj:Stmt:=inClass (top 49) 0
theorem JaH:Jan ["self","parts","gaps","joints","row","part","gap","found"] ["self","parts","gaps"] (Jae Baj):=by bv_decide
def Jbw (K:W.Frag) (Ad:Adr):Sp:=fun vs H Q E=>∃ (x dx a c:Addr) (xs zs:List V) (es:List (PD ⊕ D)) (fs:List (GD ⊕ D)) (H0:Hp),vs=[.ref x, .ref a, .ref c]/\H x=some (.ins Ad.Thing dx [])/\H0 x=none/\Same H0 H/\SqL K H0 a xs/\All2 (PEV K H0) es xs/\SqL K H0 c zs/\All2 (GEV K H0) fs zs/\es.length<=20/\fs.length<=20/\(match partsW [] es with | .noPart=>∀ H',Same H0 H'->E (.ref Ad.NoPart) none H' | .twice=>∀ H',Same H0 H'->E (.ref Ad.Twice) none H' | .ring=>∀ H',Same H0 H'->E (.ref Ad.InRing) none H' | .ok ls=>match gapsW ls [] fs with | .noGap=>∀ H',Same H0 H'->E (.ref Ad.NoGap) none H' | .twice=>∀ H',Same H0 H'->E (.ref Ad.Twice) none H' | .apart=>∀ H',Same H0 H'->E (.ref Ad.Apart) none H' | .ok gs=>∀ H',Same H0 H'->TK K Ad H' x ls gs->Q .non H')
theorem Jdw (F:FunD K "__init__" "Thing.__init__" Baj dV f fd) (T:Txt K mg Ad) (BcZ:KCal P w K mg base 1 "Joints" Ad.Joints ["self"] (Jbm K Ad)) (BcI:Cal P w K mg base 6 "part_of" ["thing"] [] (JdB K Ad)) (Bc0:Cal P w K mg base 7 "gap_of" ["thing"] [] (Jei K Ad)) (BaW:MCal P w K mg base 1 "way_between" (Jc0 Ad) ["self","one","other"] (Ja9 K Ad)) (BdB:MCal P w K mg base 1 "link" (Jc0 Ad) ["self","part"] (Jb4 K Ad)):FnOk P w K mg base (CX1 P w) 9 f fd ["self","parts","gaps"] (Jbw K Ad):=by
 refine F.okx JaH (fun vs H Q E h=>?_) (fun m6 A k5 s H vs Q E hr h=>?_)
 ·obtain ⟨x,dx,a,c,xs,zs,es,fs,N,rfl,_⟩:=h;rfl
 obtain ⟨x,dx,a,c,xs,zs,es,fs,N,rfl,h⟩:=h;have hu:=hr.units;refine ⟨_,(Jab (Jak (i:=3) JaH.nd rfl (Or.inl rfl) (BcZ.ev0 hr ⋯ rfl pass1))
   (Jab (JaX (pv 0) JbX rfl)
   (Jab (JaY PassesOwn.leaving rfl (pi_U (pv 1)) (Jax (i:=4) JaH.nd rfl (Or.inl rfl))
   (Jab (Jak (i:=5) JaH.nd rfl (Or.inl rfl) (BcI.ev hr ⋯ rfl pass1 (Jaa (pv 4) Jad) (he:=by exact Jaf rfl)))
   (Jab (ps_if (Jed (JgN (hu1 hu) (Jaq (pv 5) rfl) (Jaq (pv 0) rfl)) (by with_unfolding_all rfl))
   (Jah (JbY PySem.F.excBase_ValueError T.Bci rfl T.Bdy (Jaa Ja8 Jad)))
   Jar)
   (Jab (ps_if (Jav Je7 (BaW.m hr ⋯ pass1 (pv 3) (Jaa (Jaq (pv 5) rfl) (Jaa (Jaq (pv 5) rfl) Jad))) Jea (Jas _))
   (Jah (JbY PySem.F.excBase_ValueError T.Bb6 rfl T.BdL (Jaa Ja8 Jad)))
   Jar)
   (Jab (Ja2 (BdB.m hr ⋯ pass1 (pv 3) (Jaa (pv 5) Jad)))
   (Jah (JcC (hu1 hu) (Jaq (pv 0) rfl) (Jaq (pv 5) rfl) (pv 5) rfl)))))))
   (Jab (JaX (pv 0) JbX rfl)
   (Jab (JaX (pv 0) JbX rfl)
   (Jah (JaY PassesOwn.leaving rfl (pi_U (pv 2)) (Jax (i:=4) JaH.nd rfl (Or.inl rfl))
   (Jab (Jak (i:=6) JaH.nd rfl (Or.inl rfl) (Bc0.ev hr ⋯ rfl pass1 (Jaa (pv 4) Jad) (he:=by exact Jaf rfl)))
   (Jab (ps_if (Jed (JgN (hu1 hu) (Jaq (pv 6) rfl) (Jaq (pv 0) rfl)) (by with_unfolding_all rfl))
   (Jah (JbY PySem.F.excBase_ValueError T.Bci rfl T.Bdy (Jaa Ja8 Jad)))
   Jar)
   (Jab (Jak (i:=7) JaH.nd rfl (Or.inl rfl) (BaW.m hr ⋯ pass1 (pv 3) (Jaa (Jaq (pv 6) rfl) (Jaa (Jaq (pv 6) rfl) Jad))))
   (Jab (ps_if (Jav Je6 (pv 7) Jea (Jas _))
   (Jah (JbY PySem.F.excBase_ValueError T.Bcw rfl T.BdQ (Jaa Ja8 Jad)))
   Jar)
   (Jab (JcC (hu1 hu) (Jaq (pv 0) rfl) (Jaq (pv 6) rfl) (pv 6) rfl)
   (Jah (JcC (hu1 hu) (Jaq (pv 0) rfl) (Jaq (pv 6) rfl) (pv 7) rfl)))))))))))))),?_⟩
 clear hu;obtain ⟨hx,f4,S0,hS,hE,hC,hG,hl,hg,k⟩:=h;have tc:=T.Ba4 _ rfl;have pc:=T.BcR _ rfl;have gc:=T.Bdz _ rfl;have sl:(1000:Nat)<=sizeLine:=by decide
 have le:=hE.length;have lg:=hG.length;show tSeq _ _ _ [some (.ref x),some (.ref a),some (.ref c),none,none,none,none,none] H;symm_saturate;intro j dj hj l6 nj;have Sm:Same H (upd (upd H dj (.own j)) j (.ins Ad.Joints dj [])):=fun b u q=>by rw [Jag (Jai q hj),Jag (Jai q l6)];exact q
 generalize um:upd (upd H dj (.own j)) j (.ins Ad.Joints dj [])=Hm at Sm ⊢;symm_saturate;have em:Hm j=some (.ins Ad.Joints dj []):=by rw [<- um,Jaj]
 refine ⟨j,dj,rfl,em,fun d H1 k8 m5 j7 c0 i4=>⟨rfl,?_⟩⟩;have J:∀ {H:Hp} {b:Addr},Same N H->H b=none->N b=none:=fun {H b} S h=>by
  cases e:N b with
  | none=>rfl
  | some o=>rw [S _ _ e] at h;cases h
 have e9:∀ {H D:Hp} {d:Addr} {kv:List (Key × V)},(∀ b u,b≠d->H b=some u->D b=some u)->H d=some (.dK kv)->SameI H D:=fun {H D d kv} S hd b u t h=>S b u (fun z=>by rw [z,hd] at h;cases h;simp [isTI,isTF] at t) h;have g0:∀ {H D:Hp} {d b:Addr} {kv:List (Key × V)} {ys:List V},(∀ b u,b≠d->H b=some u->D b=some u)->H d=some (.dK kv)->H b=some (.lst ys)->D b=some (.lst ys):=fun {H D d b kv ys} S hd h=>S _ _ (fun z=>by rw [z,hd] at h;cases h) h;have e4:∀ {H D:Hp} {e:Addr} {kv:List (Key × V)} {G:List PD},(∀ b u,b≠e->H b=some u->D b=some u)->H e=some (.dK kv)->e≠d->JK Ad N H j d G->JK Ad N D j d G:=fun {H D e kv G} S he ne ⟨⟨dj,h1⟩,h2,kvs,h3,h4,h5⟩=>⟨⟨dj,S _ _ (fun z=>by rw [z,he] at h1;cases h1) h1⟩,h2,kvs,S _ _ (Ne.symm ne) h3,h4,h5.sx S he⟩;have j0:=J S0 hj;have j2:Same N H1:=fun b u h=>i4 b u (Jai h j0) (Sm _ _ (S0 _ _ h));have f7:x≠j:=Jai hx hj;have f3:H1 x=some (.ins Ad.Thing dx []):=i4 x _ f7 (Sm _ _ hx);have d0:N d=none:=J (S0.trans Sm) k8
 (try ((with_reducible refine Nxt.go (by assumption) ?_);symm_saturate))
 rename_i O Y m3 H1 H2 S2 e2;symm_saturate;symm_saturate;refine ⟨x,_,dx,_,rfl,S2 _ _ f3,tc.cls,tc.n1,by simp,?_⟩;generalize u3:upd H2 x _=H3;symm_saturate;have e3:H3 x=some (.ins Ad.Thing dx [("parts_by_name", .ref O)]):=by rw [<- u3];exact Jaj.trans rfl
 have b7:∀ b u,b≠x->H2 b=some u->H3 b=some u:=fun b u hb h=>by rw [<- u3,Jag hb];exact h
 have g7:Same N H3:=fun b u h=>b7 _ _ (Jai h f4) (S2 _ _ (j2 _ _ h));have f2:d≠x:=fun z=>by rw [z,f3] at c0;cases c0
 have a4:O≠x:=fun z=>by rw [z,f3] at Y;cases Y
 have c7:O≠d:=fun z=>by rw [z,c0] at Y;cases Y
 have h9:H3 O=some (.dK []):=b7 _ _ a4 e2;have l8:=J j2 Y;have m0:JK Ad N H3 j d []:=⟨⟨dj,b7 _ _ (Ne.symm f7) (S2 _ _ j7)⟩,d0,[],b7 _ _ f2 (S2 _ _ c0),by simp,JD.nil⟩;refine ⟨a,rfl,ForA.byL (xs:=xs) (hS.same g7) (fun i σ D=>i<=xs.length/\∃ (v4 v5:Option V) (k1:List (Key × V)) (G:List PD),σ=[some (.ref x),some (.ref a),some (.ref c),some (.ref j),v4,v5,none,none]/\Same N D/\D x=some (.ins Ad.Thing dx [("parts_by_name", .ref O)])/\JK Ad N D j d G/\D O=some (.dK k1)/\BG (·.nm) (POV K Ad D) G k1/\G.length=i/\(G.map (·.nm)).Nodup/\partsW G (es.drop i)=partsW [] es) ⟨Nat.zero_le _,none,none,[],[],rfl,g7,e3,m0,h9,⟨rfl,rfl⟩,rfl, .nil,rfl⟩ (fun i σ D z=>by obtain ⟨_,_,_,_,_,_,z,_⟩:=z;exact hS.same z) ?_ ?_⟩
 ·rintro i y σ H4 hy ⟨hi,v4,v5,k1,G,rfl,S4,a1,d9,a8,b8,g6,c3,hw⟩;have li:i<xs.length:=(List.getElem?_eq_some_iff.mp hy).1;obtain ⟨e,he,d4⟩:=hE.at_ hy;have a6:i<es.length:=by ac_nf
  have f9:es.drop i=e::es.drop (i+1):=by
   rw [List.drop_eq_getElem_cons a6];rw [List.getElem?_eq_getElem a6] at he;rw [Option.some.inj he]
  rw [f9] at hw;have lk:=b8.length;symm_saturate;match e,d4.same S4,hw with
  | .inr cc,ev,hw=>
   rw [Jhg] at hw;rw [<- hw] at k;exact ⟨y, .inr cc,rfl,ev,fun H5 S5=>k H5 (S4.trans S5)⟩
  | .inl p,ev,hw=>
   refine ⟨y, .inl p,rfl,ev,fun v H5 S5 pv=>?_⟩;obtain ⟨q,dq,vz,vm,rfl,c2,hz,hm⟩:=id pv;have ok:=ev.2;have e0:=S5 _ _ a1;have i8:=S5 _ _ a8;have f0:=d9.same S5;have g5:=b8.mono (P':=POV K Ad H5) fun _ _ z=>z.si (Same.i S5);obtain ⟨⟨i9,i6⟩,_⟩:=id f0;symm_saturate;refine ⟨q,_,dq,_, .str p.nm,rfl,c2,pc.cls,pc.n1,rfl,?_⟩;refine ⟨x,_,dx,_, .ref O,rfl,e0,tc.cls,tc.n1,rfl,?_⟩;refine ⟨O,_,rfl,DGet.k (k:=Sum.inr p.nm) i8,?_⟩;rw [g5.val];by_cases cn:p.nm∈G.map (·.nm)
   ·rw [Jhh cn] at hw;rw [<- hw] at k;rw [decide_eq_true cn];symm_saturate;exact ⟨by show 1<=sizeLine;ac_nf,k H5 (S4.trans S5)⟩
   ·rw [decide_eq_false cn];symm_saturate;refine ⟨j,_,i9,_,rfl,i6,rfl,rfl,?_⟩;symm_saturate;refine ⟨q,_,dq,_, .str p.st,rfl,c2,pc.cls,pc.n2,rfl,?_⟩;refine ⟨q,_,dq,_, .str p.en,rfl,c2,pc.cls,pc.n3,rfl,?_⟩;refine ⟨j,d,p.st,p.en,G,N,rfl,f0,by ac_nf,c3,fun hc H6 S6=>?_,fun w l yy H6 S6 m8 e6 i3 b6 _=>?_⟩
    ·rw [Jdc cn hc] at hw;symm_saturate;have c8:=f0.same S6;have f8:=S4.trans (S5.trans S6);refine ⟨j,_,i9,_,rfl,S6 _ _ i6,rfl,rfl,?_⟩;symm_saturate;refine ⟨j,d, .ref q,G,p,N,rfl,c8,f8,pv.si (Same.i S6),ok.ne,by ac_nf,fun H7 l9 sj j9=>?_⟩;have nd:∀ {b:Addr} {C dd:Addr} {ff:List (Str × V)},H6 b=some (.ins C dd ff)->H7 b=some (.ins C dd ff):=fun {b C dd ff} h=>by
      obtain ⟨_,_,_,f6,_⟩:=c8;exact sj _ _ (fun z=>by rw [z,f6] at h;cases h) (by intro xs z;cases z) h
     have SI:SameI H6 H7:=fun b u t h=>by
      obtain ⟨_,_,_,f6,_⟩:=c8;exact sj b u (fun z=>by rw [z,f6] at h;cases h;simp [isTI,isTF] at t) (fun xs z=>by rw [z] at t;simp [isTI,isTF] at t) h
     have d5:H7 O=some (.dK k1):=sj _ _ c7 (by intro xs z;cases z) (S6 _ _ i8);have k4:=g5.mono (P':=POV K Ad H7) fun _ _ z=>(z.si (Same.i S6)).si SI;have j4:=(pv.si (Same.i S6)).si SI;symm_saturate;refine ⟨x,_,dx,_, .ref O,rfl,nd (S6 _ _ e0),tc.cls,tc.n1,rfl,?_⟩;refine ⟨q,_,dq,_, .str p.nm,rfl,nd (S6 _ _ c2),pc.cls,pc.n1,rfl,?_⟩;refine ⟨O,_,rfl,DPut.k (k:=Sum.inr p.nm) d5 ∅,?_⟩;generalize u8:upd H7 O _=H8;symm_saturate;have e8:=putE u8;have c1:∀ b u,b≠O->H7 b=some u->H8 b=some u:=fun b u hb h=>by rw [<- u8,Jag hb];exact h
     have l3:=e9 c1 d5;refine ⟨li,_,_,_,G++[p],rfl,fun b u h=>c1 _ _ (Jai h l8) (l9 _ _ h),c1 _ _ (Ne.symm a4) (nd (S6 _ _ e0)),e4 c1 d5 c7 j9,e8,?_,by simp [g6],by rw [map_append];exact nodup_append.mpr ⟨c3,by simp,fun u hu v hv z=>cn (by have e:v=p.nm:=mem_singleton.mp hv;rw [<- e, <- z];exact hu)⟩,hw⟩;exact (k4.new (a:=p) cn j4).mono fun _ _ z=>z.si l3
    ·by_cases hc:Conn G p.st p.en
     ·rw [Jgi cn hc] at hw;rw [<- hw] at k;symm_saturate;exact ⟨by show 1<=sizeLine;ac_nf,k H6 (S4.trans (S5.trans S6))⟩
     ·exact absurd ⟨w,b6⟩ hc
 ·rintro σ H4 ⟨hi,v4,v5,k1,G,rfl,S4,a1,d9,a8,b8,g6,c3,hw⟩;rw [List.drop_eq_nil_of_le ∅,partsW] at hw;rw [<- hw] at k;dsimp only at k;symm_saturate;obtain ⟨⟨k6,k9⟩,_,j5,b4,g8,k7⟩:=id d9;rename_i d2 L m2 H4 H5 S5 e5;symm_saturate;refine ⟨x,_,dx,_,rfl,S5 _ _ a1,tc.cls,tc.n2,by simp,?_⟩;generalize u6:upd H5 x _=H6;symm_saturate;have e6:H6 x=some (.ins Ad.Thing dx [("parts_by_name", .ref O),("gaps_by_name", .ref d2)]):=by rw [<- u6];exact Jaj.trans rfl
  have b2:∀ b u,b≠x->H5 b=some u->H6 b=some u:=fun b u hb h=>by rw [<- u6,Jag hb];exact h
  symm_saturate;rename_i d3 B m4 H6 H7 S7 e7;symm_saturate;refine ⟨x,_,dx,_,rfl,S7 _ _ e6,tc.cls,tc.n3,by simp,?_⟩;generalize u8:upd H7 x _=H8;symm_saturate;have e8:H8 x=some (.ins Ad.Thing dx [("parts_by_name", .ref O),("gaps_by_name", .ref d2),("ways", .ref d3)]):=by rw [<- u8];exact Jaj.trans rfl
  have d6:∀ b u,b≠x->H7 b=some u->H8 b=some u:=fun b u hb h=>by rw [<- u8,Jag hb];exact h
  have a2:∀ b u,b≠x->H4 b=some u->H8 b=some u:=fun b u hb h=>d6 _ _ hb (S7 _ _ (b2 _ _ hb (S5 _ _ h)));have b5:d2≠x:=fun z=>by rw [z,a1] at L;cases L
  have e1:d2≠O:=fun z=>by rw [z,a8] at L;cases L
  have h0:d2≠d:=fun z=>by rw [z,b4] at L;cases L
  have c4:d3≠x:=fun z=>by rw [z,e6] at B;cases B
  have g3:=b2 _ _ a4 (S5 _ _ a8);have l7:=b2 _ _ f2 (S5 _ _ b4);have c5:=b2 _ _ b5 e5;have d7:d3≠O:=fun z=>by rw [z,g3] at B;cases B
  have h6:d3≠d:=fun z=>by rw [z,l7] at B;cases B
  have b3:d3≠d2:=fun z=>by rw [z,c5] at B;cases B
  have j6:=J S4 L;have f8:Same N H6:=fun b u h=>b2 _ _ (Jai h f4) (S5 _ _ (S4 _ _ h));have l4:=J f8 B;have g4:Same N H8:=fun b u h=>a2 _ _ (Jai h f4) (S4 _ _ h);have i1:SameT H4 H8:=fun b u t h=>a2 _ _ (fun z=>by rw [z,a1] at h;cases h;simp [isTF] at t) h;have l0:JK Ad N H8 j d G:=⟨⟨k6,a2 _ _ (Ne.symm f7) k9⟩,d0,j5,a2 _ _ f2 b4,g8,k7.sy a2 a1 (by intro xs z;cases z) rfl⟩;have k0:BG (·.nm) (POV K Ad H8) G k1:=b8.mono fun p v ⟨q,dq,vz,vm,h1,h2,h3,h4⟩=>⟨q,dq,vz,vm,h1,a2 _ _ (ne_of h2 a1 (by
   intro z;injection z with _ _ z3
   have:=congrArg List.length z3;simp [partF] at this)) h2,h3.sameT i1,h4.sameT i1⟩
  refine ⟨c,rfl,ForA.byL (xs:=zs) (hC.same g4) (fun i σ D=>i<=zs.length/\∃ (v4 v6 v7:Option V) (k2 k3:List (Key × V)) (gs:List GD),σ=[some (.ref x),some (.ref a),some (.ref c),some (.ref j),v4,v5,v6,v7]/\Same N D/\D x=some (.ins Ad.Thing dx [("parts_by_name", .ref O),("gaps_by_name", .ref d2),("ways", .ref d3)])/\JK Ad N D j d G/\D O=some (.dK k1)/\BG (·.nm) (POV K Ad D) G k1/\D d2=some (.dK k2)/\BG (·.nm) (GOV K Ad D) gs k2/\D d3=some (.dK k3)/\BG (·.nm) (WOV D G) gs k3/\gs.length=i/\gapsW G gs (fs.drop i)=gapsW G [] fs) ⟨Nat.zero_le _,v4,none,none,[],[],[],rfl,g4,e8,l0,a2 _ _ a4 a8,k0,d6 _ _ b5 (S7 _ _ c5),⟨rfl,rfl⟩,d6 _ _ c4 e7,⟨rfl,rfl⟩,rfl,rfl⟩ (fun i σ D z=>by obtain ⟨_,_,_,_,_,_,_,_,z,_⟩:=z;exact hC.same z) ?_ ?_⟩
  ·rintro i y σ H9 hy ⟨hi,v4,v6,v7,k2,k3,gs,rfl,S9,a7,g1,b0,f1,a3,a9,a5,b9,h8,n⟩;have li:i<zs.length:=(List.getElem?_eq_some_iff.mp hy).1;obtain ⟨e,he,d4⟩:=hG.at_ hy;have a6:i<fs.length:=by ac_nf
   have f9:fs.drop i=e::fs.drop (i+1):=by
    rw [List.drop_eq_getElem_cons a6];rw [List.getElem?_eq_getElem a6] at he;rw [Option.some.inj he]
   rw [f9] at n;have lk:=a9.length;have m7:=b9.length;symm_saturate;match e,d4.same S9,n with
   | .inr cc,ev,n=>
    rw [JhH] at n;rw [<- n] at k;exact ⟨y, .inr cc,rfl,ev,fun f5 a0=>k f5 (S9.trans a0)⟩
   | .inl g,ev,n=>
    refine ⟨y, .inl g,rfl,ev,fun v f5 a0 gv=>?_⟩;obtain ⟨q,dq,vl,vg,rfl,R,hz,hm⟩:=id gv;have i0:=a0 _ _ a7;have g2:=a0 _ _ a3;have b1:=g1.same a0;obtain ⟨⟨g9,j1⟩,_⟩:=id b1;symm_saturate;refine ⟨q,_,dq,_, .str g.nm,rfl,R,gc.cls,gc.n1,rfl,?_⟩;refine ⟨x,_,dx,_, .ref d2,rfl,i0,tc.cls,tc.n2,rfl,?_⟩;refine ⟨d2,_,rfl,DGet.k (k:=Sum.inr g.nm) g2,?_⟩;rw [a9.val];by_cases cn:g.nm∈gs.map (·.nm)
    ·rw [JhI cn] at n;rw [<- n] at k;rw [decide_eq_true cn];symm_saturate;exact ⟨by show 1<=sizeLine;ac_nf,k f5 (S9.trans a0)⟩
    ·rw [decide_eq_false cn];symm_saturate;refine ⟨j,_,g9,_,rfl,j1,rfl,rfl,?_⟩;symm_saturate;refine ⟨q,_,dq,_, .str g.st,rfl,R,gc.cls,gc.n2,rfl,?_⟩;refine ⟨q,_,dq,_, .str g.en,rfl,R,gc.cls,gc.n3,rfl,?_⟩;refine ⟨j,d,g.st,g.en,G,N,rfl,b1,by ac_nf,c3,fun hc W X=>?_,fun w l yy W X m1 l5 i3 b6 j8=>?_⟩
     ·rw [Jf6 cn hc] at n;rw [<- n] at k;symm_saturate;exact ⟨by show 1<=sizeLine;ac_nf,k W (S9.trans (a0.trans X))⟩
     ·rw [JgD cn ⟨w,b6⟩] at n;symm_saturate;have r:=a0.trans X;have Z:=r _ _ a3;refine ⟨x,_,dx,_, .ref d2,rfl,r _ _ a7,tc.cls,tc.n2,rfl,?_⟩;refine ⟨q,_,dq,_, .str g.nm,rfl,X _ _ R,gc.cls,gc.n1,rfl,?_⟩;refine ⟨d2,_,rfl,DPut.k (k:=Sum.inr g.nm) Z ∅,?_⟩;generalize i7:upd W d2 _=c9;symm_saturate;have l2:=putE i7;have I:∀ b u,b≠d2->W b=some u->c9 b=some u:=fun b u hb h=>by rw [<- i7,Jag hb];exact h
      have h7:=e9 I Z;have c6:=I _ _ (Ne.symm b5) (r _ _ a7);have i5:=I _ _ (fun z=>by have:=X _ _ R;rw [z,Z] at this;cases this) (X _ _ R);have U:=I _ _ b3 (r _ _ a5);symm_saturate;refine ⟨x,_,dx,_, .ref d3,rfl,c6,tc.cls,tc.n3,rfl,?_⟩;refine ⟨q,_,dq,_, .str g.nm,rfl,i5,gc.cls,gc.n1,rfl,?_⟩;refine ⟨d3,_,rfl,DPut.k (k:=Sum.inr g.nm) U ∅,?_⟩;generalize j3:upd c9 d3 _=d8;symm_saturate;have l1:=putE j3;have M:∀ b u,b≠d3->c9 b=some u->d8 b=some u:=fun b u hb h=>by rw [<- j3,Jag hb];exact h
      have i2:=e9 M U;have SI:SameI W d8:=fun b u t h=>i2 b u t (h7 b u t h);have wv:∀ {g:GD} {v:V},WOV W G g v->WOV d8 G g v:=fun {g v} ⟨l,xs,w,h1,h2,h3,h4⟩=>⟨l,xs,w,h1,g0 M U (g0 I Z h2),h3.mono fun _ _ z=>z.sameT SI.t,h4⟩;refine ⟨li,_,_,_,_,_,gs++[g],rfl,fun b u h=>M _ _ (Jai h l4) (I _ _ (Jai h j6) (r _ _ (S9 _ _ h))),M _ _ (Ne.symm c4) c6,e4 M U h6 (e4 I Z h0 (b1.same X)),M _ _ (Ne.symm d7) (I _ _ (Ne.symm e1) (r _ _ b0)),f1.mono fun _ _ z=>(z.si (Same.i r)).si SI,M _ _ (Ne.symm b3) l2,?_,l1,?_,by simp [h8],n⟩
      ·exact ((a9.mono (P':=GOV K Ad W) fun _ _ z=>z.si (Same.i r)).new (a:=g) cn (gv.si (Same.i X))).mono fun _ _ z=>z.si SI
      ·exact ((b9.mono (P':=WOV W G) fun _ _ z=>z.same r).new (a:=g) cn ⟨l,yy,w,rfl,l5,i3,b6,j8⟩).mono fun _ _ z=>wv z
  ·rintro σ H9 ⟨hi,v4,v6,v7,k2,k3,gs,rfl,S9,a7,g1,b0,f1,a3,a9,a5,b9,h8,n⟩;rw [List.drop_eq_nil_of_le ∅,gapsW] at n;symm_saturate;have k':=k;simp only [<- n] at k';exact k' H9 S9 ⟨dx,O,d2,d3,k1,k2,k3,a7,b0,f1,a3,a9,a5,b9⟩
abbrev BaB:Stmt:=inClass (top 49) 1
theorem Jet:Jan ["self"] ["self"] (Jae BaB):=by bv_decide
def Ja0 (K:W.Frag) (Ad:Adr):Sp:=fun vs H Q E=>∃ (x:Addr) (ls:List PD) (gs:List GD),vs=[.ref x]/\TK K Ad H x ls gs/\ls.length<=20/\∀ l ys H',Same H H'->H l=none->H' l=some (.lst ys)->All2 (PDV K H') ls ys->Q (.ref l) H'
theorem Jeo (F:FunD K "parts" "Thing.parts" BaB dV f fd) (T:Txt K mg Ad) (Bdl:MCal P w K mg base 1 "plain" (IsPart Ad) ["self"] (Jcl K Ad)):FnOk P w K mg base (CX1 P w) 2 f fd ["self"] (Ja0 K Ad):=by
 refine F.okn Jet (by subst_eqs) (fun a0 A S s H vs Q E hr h=>?_)
 obtain ⟨x,ls,gs,rfl,h⟩:=h;refine ⟨_,(Jah (Jap (Jgk (Jd9 (own:=["part"]) (cs:=[]) (cl:=[]) rfl (Jic (Jaq (pv 0) rfl)) (fun _ _ _ _=>(Jax (i:=0) (show [("part" : Str)].Nodup by decide) rfl (Or.inl rfl))) (fun _ _ _ _=>(Bdl.m0 hr ⋯ passF (pv 0))) rfl ⋯ rfl ⋯ hcl0 (hhas0 ⋯) hcs0)))),?_⟩;obtain ⟨⟨dx,a,d2,d3,l,k2,k3,hx,g,b1,_⟩,hl,k⟩:=h;have tc:=T.Ba4 _ rfl;have sl:(1000:Nat)<=sizeLine:=by decide
 have lk:=b1.length;show tRet _ _ [some (.ref x)] H;and_intros;refine ⟨a,l,g,x,_,dx,_, .ref a,rfl,hx,tc.cls,tc.n1,rfl,a,l,rfl,g,fun L=>?_⟩;generalize uf:upd H a (.frz L (.dK l))=Y;and_intros;have f1:Y a=some (.frz L (.dK l)):=by rw [<- uf,Jaj]
 have o1:∀ b u,b≠a->H b=some u->Y b=some u:=fun b u O h=>by rw [<- uf,Jag O];exact h
 refine CompJ.vals (fun i m y=>y a=some (.frz L (.dK l))/\(∀ b u,b≠a->H b=some u->y b=some u)/\(∀ b u,b≠a->y b=some u->H b=none->True)/\All2 (PDV K y) (ls.take i) m) ⟨f1,o1,fun _ _ _ _ _=>trivial,rfl⟩ (fun i m y hi z=>⟨z.1,by have:=z.2.2.2.length;rw [length_take] at this;ac_nf⟩) ?_ ?_
 ·rintro i v m G hv ⟨n,B,_,M⟩;simpa only [length_singleton,List.replicate,JaF,map_cons,map_nil,Option.join_some];obtain ⟨p,hp,q,dq,I,N,rfl,Z,hz,hm⟩:=b1.2.at_ hv;have U:∀ {b:Addr} {u:HO},H b=some u->isTI u=true->G b=some u:=fun {b u} h t=>B _ _ (fun z=>by rw [z,g] at h;cases h;simp [isTI,isTF] at t) h;have T2:SameT H G:=fun b u t h=>U h (by cases u <;> first | exact t | (simp [isTF] at t));refine ⟨q,_,dq,_,rfl,U Z rfl,rfl,rfl,q,dq,_,_,_,I,N,_,rfl,U Z rfl,fun r C d R=>?_⟩;refine ⟨d _ _ n,fun b u O h=>d _ _ (B _ _ O h),fun _ _ _ _ _=>trivial,?_⟩;rw [take_succ,hp];exact (M.mono (P':=PDV K C) fun _ _ z=>z.sameT d.t).append (.one ⟨r,I,N,rfl,SqT.of R,(hz.sameT T2).sameT d.t,(hm.sameT T2).sameT d.t⟩)
 ·rintro m G ⟨n,B,_,M⟩;rw [take_of_length_le ∅] at M;rename_i r j a1 G C d R;and_intros;refine ⟨L,l,d _ _ n,?_⟩;generalize D:upd C a (.dK l)=J;and_intros;have nr:r≠a:=fun z=>by rw [z,n] at j;cases j
  have e4:J r=some (.lst m):=by rw [<- D,Jag nr];exact R
  have W:Same H J:=fun b u h=>by
   by_cases c:b=a
   ·subst c;rw [g] at h;cases h;rw [<- D,Jaj]
   ·rw [<- D,Jag c];exact d _ _ (B _ _ c h)
  have f3:=d _ _ n;have X:∀ {b:Addr} {xs:List V},SqT K C b xs->SqT K J b xs:=fun {b xs} h=>by
   rcases h with (h | ⟨o,h⟩) | h
   ·exact .inl (.inl (by rw [<- D,Jag (fun z=>by rw [z,f3] at h;cases h)];exact h))
   ·exact .inl (.inr ⟨o,by rw [<- D,Jag (fun z=>by rw [z,f3] at h;cases h)];exact h⟩)
   ·exact .inr h
  have hn:H r=none:=by
   cases e:H r with
   | none=>rfl
   | some o=>rw [B _ _ nr e] at j;cases j
  exact k r m J W hn e4 ((M.mono (P':=PDV K C) fun _ _ z=>z.sameT d.t).mono fun p v ⟨b,I,N,h1,h2,⟨pz,h3,h4⟩,⟨pm,h5,h6⟩⟩=>⟨b,I,N,h1,X h2,⟨pz,h3,X h4⟩,⟨pm,h5,X h6⟩⟩)
abbrev BaI:Stmt:=inClass (top 49) 2
theorem Jfb:Jan ["self"] ["self"] (Jae BaI):=by bv_decide
def JbK (K:W.Frag) (Ad:Adr):Sp:=fun vs H Q E=>∃ (x:Addr) (ls:List PD) (gs:List GD),vs=[.ref x]/\TK K Ad H x ls gs/\gs.length<=20/\∀ l ys H',Same H H'->H l=none->H' l=some (.lst ys)->All2 (fun (g:GD) v=>TV K H' g.td v) gs ys->Q (.ref l) H'
theorem Je0 (F:FunD K "gaps" "Thing.gaps" BaI dV f fd) (T:Txt K mg Ad) (BcJ:MCal P w K mg base 1 "plain" (IsGap Ad) ["self"] (JcE K Ad)):FnOk P w K mg base (CX1 P w) 2 f fd ["self"] (JbK K Ad):=by
 refine F.okn Jfb (by subst_eqs) (fun a0 A U s H vs Q E hr h=>?_)
 obtain ⟨x,ls,gs,rfl,h⟩:=h;refine ⟨_,(Jah (Jap (Jgk (Jd9 (own:=["gap"]) (cs:=[]) (cl:=[]) rfl (Jic (Jaq (pv 0) rfl)) (fun _ _ _ _=>(Jax (i:=0) (show [("gap" : Str)].Nodup by decide) rfl (Or.inl rfl))) (fun _ _ _ _=>(BcJ.m0 hr ⋯ passF (pv 0))) rfl ⋯ rfl ⋯ hcl0 (hhas0 ⋯) hcs0)))),?_⟩;obtain ⟨⟨dx,d1,a,d3,k1,m,k3,hx,_,_,j,b2,_⟩,hl,k⟩:=h;have tc:=T.Ba4 _ rfl;have sl:(1000:Nat)<=sizeLine:=by decide
 have lk:=b2.length;show tRet _ _ [some (.ref x)] H;and_intros;refine ⟨a,m,j,x,_,dx,_, .ref a,rfl,hx,tc.cls,tc.n2,rfl,a,m,rfl,j,fun M=>?_⟩;generalize uf:upd H a (.frz M (.dK m))=Z;and_intros;have f1:Z a=some (.frz M (.dK m)):=by rw [<- uf,Jaj]
 have o1:∀ b u,b≠a->H b=some u->Z b=some u:=fun b u R h=>by rw [<- uf,Jag R];exact h
 refine CompJ.vals (fun i n J=>J a=some (.frz M (.dK m))/\(∀ b u,b≠a->H b=some u->J b=some u)/\All2 (fun (g:GD) v=>TV K J g.td v) (gs.take i) n) ⟨f1,o1,rfl⟩ (fun i n J hi z=>⟨z.1,by have:=z.2.2.length;rw [length_take] at this;ac_nf⟩) ?_ ?_
 ·rintro i v n G hv ⟨y,B,N⟩;simpa only [length_singleton,List.replicate,JaF,map_cons,map_nil,Option.join_some];obtain ⟨p,hp,q,dq,I,O,rfl,hq,hz,hm⟩:=b2.2.at_ hv;have W:∀ {b:Addr} {u:HO},H b=some u->isTI u=true->G b=some u:=fun {b u} h t=>B _ _ (fun z=>by rw [z,j] at h;cases h;simp [isTI,isTF] at t) h;have T2:SameT H G:=fun b u t h=>W h (by cases u <;> first | exact t | (simp [isTF] at t));refine ⟨q,_,dq,_,rfl,W hq rfl,rfl,rfl,q,dq,_,_,_,I,O,rfl,W hq rfl,fun r C d S=>?_⟩;refine ⟨d _ _ y,fun b u R h=>d _ _ (B _ _ R h),?_⟩;rw [take_succ,hp];exact (N.mono (P':=fun (g:GD) v=>TV K C g.td v) fun _ _ z=>z.sameT d.t).append (.one ⟨r,I,O,rfl,SqT.of S,(hz.sameT T2).sameT d.t,(hm.sameT T2).sameT d.t⟩)
 ·rintro n G ⟨y,B,N⟩;rw [take_of_length_le ∅] at N;rename_i r l a1 G C d S;and_intros;refine ⟨M,m,d _ _ y,?_⟩;generalize D:upd C a (.dK m)=L;and_intros;have nr:r≠a:=fun z=>by rw [z,y] at l;cases l
  have e4:L r=some (.lst n):=by rw [<- D,Jag nr];exact S
  have X:Same H L:=fun b u h=>by
   by_cases c:b=a
   ·subst c;rw [j] at h;cases h;rw [<- D,Jaj]
   ·rw [<- D,Jag c];exact d _ _ (B _ _ c h)
  have f3:=d _ _ y;have Y:∀ {b:Addr} {xs:List V},SqT K C b xs->SqT K L b xs:=fun {b xs} h=>by
   rcases h with (h | ⟨o,h⟩) | h
   ·exact .inl (.inl (by rw [<- D,Jag (fun z=>by rw [z,f3] at h;cases h)];exact h))
   ·exact .inl (.inr ⟨o,by rw [<- D,Jag (fun z=>by rw [z,f3] at h;cases h)];exact h⟩)
   ·exact .inr h
  have hn:H r=none:=by
   cases e:H r with
   | none=>rfl
   | some o=>rw [B _ _ nr e] at l;cases l
  exact k r n L X hn e4 ((N.mono (P':=fun (g:GD) v=>TV K C g.td v) fun _ _ z=>z.sameT d.t).mono fun p v ⟨b,I,O,h1,h2,⟨pz,h3,h4⟩,⟨pm,h5,h6⟩⟩=>⟨b,I,O,h1,Y h2,⟨pz,h3,Y h4⟩,⟨pm,h5,Y h6⟩⟩)
abbrev BaR:Stmt:=inClass (top 49) 3
theorem JfM:Jan ["self","name"] ["self","name"] (Jae BaR):=by bv_decide
def Jb0 (K:W.Frag) (Ad:Adr):Sp:=fun vs H Q E=>∃ (x:Addr) (z:Str) (ls:List PD) (gs:List GD),vs=[.ref x, .str z]/\TK K Ad H x ls gs/\(z∉gs.map (·.nm)->E (.ref Ad.NoName) none H)/\(∀ g∈gs,g.nm=z->∀ l xs w H',Same H H'->H l=none->H' l=some (.lst xs)->All2 (CV H') w xs->Jbj ls g.st w g.en->(w.map (·.1)).Nodup->Q (.ref l) H')
theorem JfE (F:FunD K "way" "Thing.way" BaR dV f fd) (T:Txt K mg Ad)  : FnOk P w K mg base (CX1 P w) 1 f fd ["self","name"] (Jb0 K Ad):=by
 refine F.okx JfM (fun D H Q E h=>?_) (fun N A n s H D Q E J h=>?_)
 ·obtain ⟨x,z,I,q,rfl,_⟩:=h;rfl
 obtain ⟨x,z,I,q,rfl,h⟩:=h;have j:=J.units;refine ⟨_,(Jab (ps_if (Jed (Jdd (hu1 j) (pv 1) (Jaq (pv 0) rfl)) (by with_unfolding_all rfl))
   (Jah (JbY PySem.F.excBase_ValueError T.Bb4 rfl T.BdJ (Jaa Ja8 Jad)))
   Jar)
   (Jah (Jap (JcB Jew rfl T.Bdv JeM (Jaa (Jcg (hu1 j) (Jaq (pv 0) rfl) (pv 1) (fun _ _=>rfl)) Jad))))),?_⟩
 clear j;obtain ⟨⟨y,Y,d2,d,k1,Z,k3,B,G,b1,M,b2,a,r⟩,S,k⟩:=h;have b:=T.Ba4 _ rfl;show tSeq _ _ _ [some (.ref x),some (.str z)] H;and_intros;refine ⟨x,_,y,_, .ref d,rfl,B,b.cls,b.n3,rfl,?_⟩;refine ⟨d,_,rfl,DGet.k (k:=Sum.inr z) a,?_⟩;rw [r.val];by_cases c:z∈q.map (·.nm)
 ·rw [decide_eq_true c];and_intros;obtain ⟨g,v,V,L,R,X,u,w,rfl,m,e,U,o⟩:=r.some c;refine ⟨x,_,y,_, .ref d,rfl,B,b.cls,b.n3,rfl,?_⟩;refine ⟨d,_,rfl,by rw [<- R];exact DGet.k (k:=Sum.inr z) a,?_⟩;refine ⟨X,u,rfl, .inl (SqL.of m),?_⟩;rename_i l i W H C p O;and_intros;exact k g V L l u w C p i O (e.mono fun _ _ z=>z.sameT p.t) U o
 ·rw [decide_eq_false c];and_intros;exact ⟨by show 1<=sizeLine;decide,S c⟩
abbrev Bas:Stmt:=inClass (top 49) 4
theorem JaV:Jan ["self","name","total","part","forward","size"] ["self","name"] (Jae Bas):=by bv_decide
def JbQ (K:W.Frag) (Ad:Adr):Sp:=fun vs H Q E=>∃ (x:Addr) (z:Str) (ls:List PD) (gs:List GD),vs=[.ref x, .str z]/\TK K Ad H x ls gs/\(z∉gs.map (·.nm)->E (.ref Ad.NoName) none H)/\(∀ g∈gs,g.nm=z->∃ pl:Str->Fr2,(∀ u∈gs,u.nm=z->u=g)/\(∀ p∈ls, ∀ q∈ls,p.nm=q.nm->p=q)/\(∀ p∈ls,POk p)/\(∀ f,FB 302 161 (pl f))/\(∀ p∈ls,vl (pl p.en)=vl (pl p.st)+vl p.sz)/\∀ v H',Same H H'->FrV K H' v (mid pl g).1 (mid pl g).2->Q v H')
theorem Jd4 (F:FunD K "middle" "Thing.middle" Bas dV f fd) (T:Txt K mg Ad) (Bdx:MCal P w K mg base 1 "way" (Jbb Ad) ["self","name"] (Jb0 K Ad)) (BcT:Cal P w K mg base 2 "plus" ["one","other"] [] (Jfi K)) (Bbb:Cal P w K mg base 3 "minus" ["one","other"] [] (Jdk K)):FnOk P w K mg base (CX1 P w) 4 f fd ["self","name"] (JbQ K Ad):=by
 refine F.okx JaV (fun vs H Q E h=>?_) (fun a4 A Y s H vs Q E M h=>?_)
 ·obtain ⟨x,z,D,gs,rfl,_⟩:=h;rfl
 obtain ⟨x,z,D,gs,rfl,h⟩:=h;have hu:=M.units;refine ⟨_,(Jab (Jak (i:=2) JaV.nd rfl (Or.inl rfl) (JcT (v:=.ref _) rfl T.Bdi T.Bdj))
   (Jab (JaY PassesOwn.leaving rfl (pi_U (Bdx.m M ⋯ pass1 (pv 0) (Jaa (pv 1) Jad))) (Jh9 rfl (JcP (Jax (i:=3) JaV.nd rfl (Or.inl rfl)) (JcP (Jax (i:=4) JaV.nd rfl (Or.inl rfl)) Jgl)))
   (Jab (Jak (i:=5) JaV.nd rfl (Or.inl rfl) (Jaq (Jcg (hu1 hu) (Jaq (pv 0) rfl) (pv 3) (fun _ _=>rfl)) rfl))
   (Jah (Jak (i:=2) JaV.nd rfl (Or.inl rfl) (JgP (JaZ (pv 4)) (BcT.ev M ⋯ rfl pass1 (Jaa (pv 2) (Jaa (pv 5) Jad)) (he:=by exact Jaf rfl)) (Bbb.ev M ⋯ rfl pass1 (Jaa (pv 2) (Jaa (pv 5) Jad)) (he:=by exact Jaf rfl)))))))
   (Jah (Jap (pv 2))))),?_⟩
 clear hu;obtain ⟨ht,kn,k⟩:=h;obtain ⟨dx,d1,d2,d3,k1,k2,k3,hx,Z,b1,_⟩:=id ht;have tc:=T.Ba4 _ rfl;have pc:=T.BcR _ rfl;show tSeq _ _ _ [some (.ref x),some (.str z),none,none,none,none] H;and_intros;refine ⟨x,_,dx,_,rfl,hx,rfl,rfl,x,z,D,gs,rfl,ht,kn,fun g hg hz l xs w H1 S1 a6 e1 I hw _=>?_⟩;obtain ⟨c,a5,hN,hP,n,hV,k⟩:=k g hg hz;have lg:=Jj2 hV hw;have lx:=I.length;refine ⟨l,rfl,ForA.byL (xs:=xs) (SqL.of e1) (fun i σ W=>i<=xs.length/\∃ (X R v5:Option V) (t:V) (f:Str),σ=[some (.ref x),some (.str z),some t,X,R,v5]/\Same H1 W/\FrV K W t (addF (c f) (negF (c g.st))).1 (addF (c f) (negF (c g.st))).2/\Legs D c f (w.drop i) g.en) ⟨Nat.zero_le _,none,none,none, .ref Ad.ZERO,g.st,rfl,Same.refl _,by rw [JiN (n _)];exact ⟨Ad.ZERO,rfl,T.Bdk _⟩,lg⟩ (fun i σ W q=>by obtain ⟨_,_,_,_,_,_,_,q,_⟩:=q;exact SqL.of (q _ _ e1)) ?_ ?_⟩
 ·rintro i y σ O hy ⟨hi,X,R,v5,t,f,rfl,o,N,J⟩;have li:i<xs.length:=(List.getElem?_eq_some_iff.mp hy).1;obtain ⟨pr,C,b,rfl,hb⟩:=I.at_ hy;have B:i<w.length:=by ac_nf
  have a3:w.drop i=pr::w.drop (i+1):=by
   rw [List.drop_eq_getElem_cons B];rw [List.getElem?_eq_getElem B] at C;rw [Option.some.inj C]
  rw [a3] at J;have d:=S1.trans o;obtain ⟨p,j,u,rfl,hp,hv,G⟩:∃ p j u,pr=(p.nm,j)/\p∈D/\vl (c u)=vl (c f)+vl (sgn j p.sz)/\Legs D c u (w.drop (i+1)) g.en:=by
   cases J with
   | cons h1 h2 h3=>exact ⟨_,_,_,rfl,h1,h2,h3⟩
  and_intros;refine ⟨b,_,rfl,SqT.of (o _ _ hb),rfl,?_⟩;and_intros;obtain ⟨q,v,hq,a0,a1,qa,dq,L,vm,rfl,a2,S,hm⟩:=b1.some (z:=p.nm) (mem_map.mpr ⟨p,hp,rfl⟩);have eq:=hN q hq p hp a0;subst eq;refine ⟨x,_,dx,_, .ref d1,rfl,d _ _ hx,tc.cls,tc.n1,rfl,?_⟩;refine ⟨d1,_,rfl,by rw [<- a1];exact DGet.k (k:=Sum.inr q.nm) (d _ _ Z),?_⟩;refine ⟨qa,_,dq,_,L,rfl,d _ _ a2,pc.cls,pc.n4,rfl,?_⟩;have a:=(hP q hq).z;have e:FB 464 322 (addF (c f) (negF (c g.st))):=FB.add (n _) (n _).neg ⋯ ⋯ ⋯;have fz:FrV K O L q.sz.1 q.sz.2:=S.same d;have st:=Jj1 (n f) (n u) (z:=sgn j q.sz) (by cases j;exact (L2.FOk.fb a).neg;exact L2.FOk.fb a) (n g.st) hv;and_intros;cases j with
  | true=>
   and_intros;refine ⟨t,L,_,_,_,_,rfl,N,fz,e.s1.mono ⋯,e.s2.mono ⋯,a.s1.mono ⋯,a.s2.mono ⋯,e.b1,a.b1,e.g1,a.g1,fun r H3 S3 U=>?_⟩;exact ⟨li,_,_,_, .ref r,u,rfl,o.trans S3,by rw [<- st];exact FrV.of U,G⟩
  | false=>
   and_intros;refine ⟨t,L,_,_,_,_,rfl,N,fz,e.s1.mono ⋯,e.s2.mono ⋯,a.s1.mono ⋯,a.s2.mono ⋯,e.b1,a.b1,e.g1,a.g1,fun r H3 S3 U=>?_⟩;refine ⟨li,_,_,_, .ref r,u,rfl,o.trans S3,?_,G⟩;rw [<- st];refine FrV.of ?_;rw [U];show _=some (HO.tup [.int (Mth.top (_*q.sz.2 + -q.sz.1*_) _), .int (Mth.bot (_*q.sz.2 + -q.sz.1*_) _)]);rw [Int.neg_mul, <- Int.sub_eq_add_neg];rfl
 ·rintro σ O ⟨hi,X,R,v5,t,f,rfl,o,N,J⟩;rw [List.drop_eq_nil_of_le ∅] at J;cases J;and_intros;exact k t O (S1.trans o) N
abbrev BaJ:Stmt:=inClass (top 49) 5
theorem Jbl:Jan ["self","name","middle","gap","above","below"] ["self","name"] (Jae BaJ):=by bv_decide
def Jcm (K:W.Frag) (Ad:Adr):Sp:=fun vs H Q E=>∃ (x:Addr) (z:Str) (ls:List PD) (gs:List GD),vs=[.ref x, .str z]/\TK K Ad H x ls gs/\(z∉gs.map (·.nm)->E (.ref Ad.NoName) none H)/\(∀ g∈gs,g.nm=z->∃ pl:Str->Fr2,(∀ u∈gs,u.nm=z->u=g)/\(∀ p∈ls, ∀ q∈ls,p.nm=q.nm->p=q)/\(∀ p∈ls,POk p)/\(∀ f,FB 302 161 (pl f))/\(∀ p∈ls,vl (pl p.en)=vl (pl p.st)+vl p.sz)/\TOk g.td/\∀ v H',Same H H'->FrV K H' v (roomF pl g).1 (roomF pl g).2->Q v H')
theorem Je1 (F:FunD K "room" "Thing.room" BaJ dV f fd) (T:Txt K mg Ad) (Bc1:MCal P w K mg base 4 "middle" (Jbb Ad) ["self","name"] (JbQ K Ad)) (Bbb:Cal P w K mg base 3 "minus" ["one","other"] [] (Jdk K)) (BaF:Cal P w K mg base 1 "under" ["one","other"] [] (Jcr K)):FnOk P w K mg base (CX1 P w) 5 f fd ["self","name"] (Jcm K Ad):=by
 refine F.okx Jbl (fun vs H Q E h=>?_) (fun a1 A L s H vs Q E j h=>?_)
 ·obtain ⟨x,z,S,Y,rfl,_⟩:=h;rfl
 obtain ⟨x,z,S,Y,rfl,h⟩:=h;have hu:=j.units;refine ⟨_,(Jab (Jak (i:=2) Jbl.nd rfl (Or.inl rfl) (Bc1.m j ⋯ pass1 (pv 0) (Jaa (pv 1) Jad)))
   (Jab (Jak (i:=3) Jbl.nd rfl (Or.inl rfl) (Jcg (hu1 hu) (Jaq (pv 0) rfl) (pv 1) (fun _ _=>rfl)))
   (Jab (Jak (i:=4) Jbl.nd rfl (Or.inl rfl) (Bbb.ev j ⋯ rfl pass1 (Jaa (Jaq (pv 3) rfl) (Jaa (pv 2) Jad)) (he:=by exact Jaf rfl)))
   (Jab (Jak (i:=5) Jbl.nd rfl (Or.inl rfl) (Bbb.ev j ⋯ rfl pass1 (Jaa (pv 2) (Jaa (Jaq (pv 3) rfl) Jad)) (he:=by exact Jaf rfl)))
   (Jah (Jap (JgP (JaZ (BaF.ev j ⋯ rfl pass1 (Jaa (pv 4) (Jaa (pv 5) Jad)) (he:=by exact Jaf rfl))) (pv 4) (pv 5)))))))),?_⟩
 clear hu;obtain ⟨O,kn,k⟩:=h;obtain ⟨dx,d1,d2,d3,k1,k2,k3,hx,a0,b1,D,b2,_⟩:=id O;have tc:=T.Ba4 _ rfl;have t:=T.Bdz _ rfl;show tSeq _ _ _ [some (.ref x),some (.str z),none,none,none,none] H;and_intros;refine ⟨x,_,dx,_,rfl,hx,rfl,rfl,x,z,S,Y,rfl,O,kn,fun g hg V=>?_⟩;obtain ⟨pl,o,hN,hP,U,hV,W,k⟩:=k g hg V;refine ⟨pl,o,hN,hP,U,hV,fun v H1 e fm=>?_⟩;have b:=Jk2 (g:=g) U;unfold roomF at k;generalize mid pl g=m at *;and_intros;obtain ⟨a,v',y,M,C,qa,Z,p,q,rfl,n,I,G⟩:=b2.some (z:=z) (mem_map.mpr ⟨g,hg,V⟩);have eg:=o a y M;subst eg;have l:=W.lo _ rfl;have r:=W.hi _ rfl;refine ⟨x,_,dx,_, .ref d2,rfl,e _ _ hx,tc.cls,tc.n2,rfl,?_⟩;refine ⟨d2,_,rfl,by rw [<- C];exact DGet.k (k:=Sum.inr z) (e _ _ D),?_⟩;and_intros;refine ⟨qa,_,Z,_,q,rfl,e _ _ n,t.cls,t.n5,rfl,?_⟩;refine ⟨q,v,_,_,_,_,rfl,G.same e,fm,r.s1.mono ⋯,r.s2.mono ⋯,b.s1.mono ⋯,b.s2.mono ⋯,r.b1,b.b1,r.g1,b.g1,fun X H2 S2 e2=>?_⟩;and_intros;have d:=e.trans S2;refine ⟨qa,_,Z,_,p,rfl,d _ _ n,t.cls,t.n4,rfl,?_⟩;refine ⟨v,p,_,_,_,_,rfl,fm.same S2,I.same d,b.s1.mono ⋯,b.s2.mono ⋯,l.s1.mono ⋯,l.s2.mono ⋯,b.b1,l.b1,b.g1,l.g1,fun r2 u J e3=>?_⟩;and_intros;have ea:addF a.hi (negF m)=(Mth.top (a.hi.1*m.2-m.1*a.hi.2) (a.hi.2*m.2),Mth.bot (a.hi.1*m.2-m.1*a.hi.2) (a.hi.2*m.2)):=by
  unfold addF negF;dsimp only;rw [Int.neg_mul, <- Int.sub_eq_add_neg]
 have eb:addF m (negF a.lo)=(Mth.top (m.1*a.lo.2-a.lo.1*m.2) (m.2*a.lo.2),Mth.bot (m.1*a.lo.2-a.lo.1*m.2) (m.2*a.lo.2)):=by
  unfold addF negF;dsimp only;rw [Int.neg_mul, <- Int.sub_eq_add_neg]
 have N:FrV K u (.ref X) (addF a.hi (negF m)).1 (addF a.hi (negF m)).2:=by rw [ea];exact FrV.of (J _ _ e2)
 have R:FrV K u (.ref r2) (addF m (negF a.lo)).1 (addF m (negF a.lo)).2:=by rw [eb];exact FrV.of e3
 have ba:=FB.add' (L2.FOk.fb r) b.neg;have bb:=FB.add' b (L2.FOk.fb l).neg;generalize addF a.hi (negF m)=A at *;generalize addF m (negF a.lo)=B at *;refine ⟨.ref X, .ref r2,A.1,A.2,B.1,B.2,rfl,N,R,ba.s1.mono ⋯,ba.s2.mono ⋯,bb.s1.mono ⋯,bb.s2.mono ⋯,?_⟩;and_intros;by_cases c:lessF A B=true
 ·rw [if_pos c] at k;rw [if_pos (show decide (A.1*B.2<B.1*A.2)=true from c)];and_intros;exact k _ u (d.trans J) N
 ·rw [if_neg c] at k;rw [if_neg (show ¬ decide (A.1*B.2<B.1*A.2)=true from c)];and_intros;exact k _ u (d.trans J) R
abbrev Bak:Stmt:=inClass (top 17) 0
theorem Jbs:Jan ["self","numbers","number","factor"] ["self","numbers"] (Jae Bak):=by bv_decide
def Jbv (K:W.Frag) (Ad:Adr):Sp:=fun vs H Q E=>∃ (x dx a:Addr) (xs:List V) (ns:List Fr2),vs=[.ref x, .ref a]/\H x=some (.ins Ad.Scale dx [])/\H a=some (.lst xs)/\All2 (FLV K H) ns xs/\ns.length<=28/\(∀ n∈ns,1<=n.2/\Mth.Sz 70 n.2)/\∀ b fs fl H',H' x=some (.ins Ad.Scale dx [("bottom", .int b),("factors", .ref fl)])->H fl=none->H' fl=some (.lst (fs.map V.int))->(∀ c u,c≠x->H c=some u->H' c=some u)->Scl b fs->Mth.Sz 2000 b->fs.length<=30->Q .non H'
theorem Jdv (F:FunD K "__init__" "Scale.__init__" Bak dV f fd) (T:Txt K mg Ad) (Bac:Cal P w K mg base 1 "common_divisor" ["one","other"] [] (JaC)):FnOk P w K mg base (CX1 P w) 2 f fd ["self","numbers"] (Jbv K Ad):=by
 refine F.okn Jbs (by subst_eqs) (fun a3 A a1 s H vs Q E hr h=>?_)
 obtain ⟨x,l,a,xs,ns,rfl,h⟩:=h;refine ⟨_,(Jab (JaX (pv 0) Jac rfl)
   (Jab (JaX (pv 0) (Ja5 Jad) rfl)
   (Jah (JaY PassesOwn.never rfl (pi_U (pv 1)) (Jax (i:=2) Jbs.nd rfl (Or.inl rfl))
   (Jab (Jak (i:=3) Jbs.nd rfl (Or.inl rfl) (pe_op Jau (pe_ix ix_U (pv 2) Jac (fun _ _=>rfl)) (Bac.ev hr ⋯ rfl passF (Jaa (Jaq (pv 0) rfl) (Jaa (pe_ix ix_U (pv 2) Jac (fun _ _=>rfl)) Jad)) (he:=by exact Jaf rfl))))
   (Jah (ps_if (Jav JgK (pv 3) Jac (Jas _))
   (Jab (JaX (pv 0) (pe_op JaE (Jaq (pv 0) rfl) (pv 3)) rfl)
   (Jah (Ja2 (pe_bm PySem.F.plainAttrs_list PySem.F.slot_list_append PySem.F.type_list_append Ja7 (Jaq (pv 0) rfl) (Jaa (pv 3) Jad) (hs:=by exact Jaf rfl)))))
   Jar))))))),?_⟩
 obtain ⟨e0,X,hN,hl,a0,k⟩:=h;have e:=T.BcG Ad.Scale rfl;have sl:(1000:Nat)<=sizeLine:=by decide
 have lx:=hN.length;show tSeq _ _ _ [some (.ref x),some (.ref a),none,none] H;symm_saturate;refine ⟨x,_,l,_,rfl,e0,e.cls,e.n1,by simp,?_⟩;generalize u1:upd H x _=H1;symm_saturate;have e1:H1 x=some (.ins Ad.Scale l [("bottom", .int 1)]):=by rw [<- u1];exact Jaj.trans rfl
 have o1:∀ b,b≠x->H1 b=H b:=fun b hb=>by rw [<- u1,Jag hb]
 symm_saturate;refine ⟨len0,?_⟩;rename_i d j a2 H1 H2 S e2;symm_saturate;symm_saturate;refine ⟨x,_,l,_,rfl,S _ _ e1,e.cls,e.n2,by simp,?_⟩;generalize O:upd H2 x _=U;symm_saturate;have e3:U x=some (.ins Ad.Scale l [("bottom", .int 1),("factors", .ref d)]):=by rw [<- O];exact Jaj.trans rfl
 have R:d≠x:=fun z=>by rw [z,e1] at j;cases j
 have f3:U d=some (.lst []):=by rw [<- O,Jag R];exact e2
 have o3:∀ c u,c≠x->H c=some u->U c=some u:=fun c u G h=>by rw [<- O,Jag G];exact S _ _ (by rw [o1 c G];exact h)
 have o:H d=none:=by rw [<- o1 d R];exact j
 have B:a≠x:=fun z=>by rw [z,e0] at X;cases X
 have Z:SameT H U:=(SameT.put u1 e0 rfl).trans (S.t.trans (SameT.put O (S _ _ e1) rfl));symm_saturate;refine ⟨a,rfl,ForA.byL (xs:=xs) (SqL.of (o3 _ _ B X)) (fun i σ C=>i<=xs.length/\∃ (v2 v3:Option V) (b:Int) (m:List Int),σ=[some (.ref x),some (.ref a),v2,v3]/\C x=some (.ins Ad.Scale l [("bottom", .int b),("factors", .ref d)])/\C d=some (.lst (m.map V.int))/\(∀ c u,c≠x->H c=some u->C c=some u)/\SameT H C/\Scl b m/\Mth.Sz (1+70*i) b/\m.length<=i) ⟨Nat.zero_le _,none,none,1,[],rfl,e3,f3,o3,Z,Scl.nil, .lit ⋯ ⋯,Nat.le_refl _⟩ (fun i σ C q=>by obtain ⟨_,_,_,_,_,_,_,_,q,_⟩:=q;exact SqL.of (q _ _ B X)) ?_ ?_⟩
 ·rintro i y σ D hy ⟨hi,v2,v3,b,m,rfl,r,M,L,N,hs,I,lf⟩;have li:=(List.getElem?_eq_some_iff.mp hy).1;obtain ⟨n,hn,Y⟩:=hN.at_ hy;have Y:FrV K D y n.1 n.2:=FrV.sameT N Y;have p:=a0 n (List.mem_of_getElem? hn);have I:Mth.Sz 2000 b:=I.mono ∅;have gp:=Mth.g_pos (a:=b) (b:=n.2) ∅;have gd:=Mth.JbH b n.2;have gl:=Mth.g_le (a:=b) (b:=n.2) ∅;have d1:DivOk (Mth.g b n.2):=divOk (n:=70) ∅ (Nat.lt_of_le_of_lt (by ac_nf:(Mth.g b n.2).natAbs<=n.2.natAbs) p.2);have f1:=Mth.JbW gd ∅ p.1;have sf:Mth.Sz 70 (n.2.fdiv (Mth.g b n.2)):=p.2.fdiv gd ∅;symm_saturate;refine ixF1 Y ?_;refine ⟨x,_,l,_, .int b,rfl,r,e.cls,e.n1,rfl,?_⟩;refine ixF1 Y ?_;symm_saturate;refine ⟨_,_,rfl,?_⟩;symm_saturate;refine ⟨d1,?_⟩;generalize n.2.fdiv (Mth.g b n.2)=f at *;symm_saturate;by_cases c:1<f
  ·rw [if_pos (by simpa using c)];symm_saturate;try simpa only [y4dy,y84y]
   refine ⟨x,_,l,_, .int b,rfl,r,e.cls,e.n1,rfl,?_⟩;try simpa only [y4dy,y84y]
   refine ⟨mulOk I sf,?_⟩;refine ⟨x,_,l,_,rfl,r,e.cls,e.n1,by simp,?_⟩;generalize J:upd D x _=v;symm_saturate;have e5:v x=some (.ins Ad.Scale l [("bottom", .int (b*f)),("factors", .ref d)]):=by rw [<- J];exact Jaj.trans rfl
   have f5:v d=some (.lst (m.map V.int)):=by rw [<- J,Jag R];exact M
   have T5:SameT D v:=SameT.put J r rfl;try simpa only [y4dy,y84y]
   refine ⟨x,_,l,_, .ref d,rfl,e5,e.cls,e.n2,rfl,?_⟩;refine ⟨.inl ⟨rfl,_,SqL.of f5⟩,?_⟩;symm_saturate;refine ⟨d,_,_,rfl,rfl,f5,by rw [length_map];ac_nf,?_⟩;generalize W:upd v d _=H6;symm_saturate;have f6:=putE W;have T6:SameT v H6:=SameT.put W f5 rfl;symm_saturate;refine ⟨li,_,_,b*f,m++[f],rfl,by rw [<- W,Jag (Ne.symm R)];exact e5,by rw [f6];simp,fun c u G h=>by rw [<- W,Jag (Jai h o), <- J,Jag G];exact L c u G h,N.trans (T5.trans T6),hs.snoc ∅,?_,by simp;ac_nf⟩;have:=(show Mth.Sz (1+70*i) b by assumption).mul sf;exact this.mono ∅
  ·rw [if_neg (by simpa using c)];symm_saturate;symm_saturate;exact ⟨li,_,_,b,m,rfl,r,M,L,N,hs,(show Mth.Sz (1+70*i) b by assumption).mono ∅,by ac_nf⟩
 ·rintro σ D ⟨hi,v2,v3,b,m,rfl,r,M,L,N,hs,I,lf⟩;symm_saturate;exact k b m d D r o M L hs (I.mono ∅) ∅
abbrev Bat:Stmt:=inClass (top 17) 1
theorem JaS:Jan ["self","number","top","rest","factor","shared"] ["self","number"] (Jae Bat):=by bv_decide
def Jbo (K:W.Frag) (Ad:Adr):Sp:=fun vs H Q E=>∃ (x:Addr) (v:V) (n:Fr2) (b:Int) (fs:List Int),vs=[.ref x,v]/\SCK Ad H x b fs/\FrV K H v n.1 n.2/\FB 200 56 n/\∀ p (t:Fr2) H',Same H H'->H' p=some (.tup [.int t.1, .int t.2])->LInv n b t->Q (.ref p) H'
theorem Jd3 (F:FunD K "lifted" "Scale.lifted" Bat dV f fd) (T:Txt K mg Ad) (Bac:Cal P w K mg base 1 "common_divisor" ["one","other"] [] (JaC)):FnOk P w K mg base (CX1 P w) 2 f fd ["self","number"] (Jbo K Ad):=by
 refine F.okn JaS (by subst_eqs) (fun a1 A O s H vs Q E Y h=>?_)
 obtain ⟨x,v,n,b,d,rfl,h⟩:=h;have hu:=Y.units;refine ⟨_,(Jab (ps_if (Jav (Jbr hu) (pe_op JaG (Jaq (pv 0) rfl) (pe_ix ix_U (pv 1) Jac (fun _ _=>rfl))) Jac (Jas _))
   (Jah (Jap (JaB (Jaa (pe_op JaE (pe_ix ix_U (pv 1) Jac (fun _ _=>rfl)) (pe_op Jau (Jaq (pv 0) rfl) (pe_ix ix_U (pv 1) Jac (fun _ _=>rfl)))) (Jaa Jac Jad)))))
   Jar)
   (Jab (Jak (i:=2) JaS.nd rfl (Or.inl rfl) (pe_ix ix_U (pv 1) Jac (fun _ _=>rfl)))
   (Jab (Jak (i:=3) JaS.nd rfl (Or.inl rfl) (pe_ix ix_U (pv 1) Jac (fun _ _=>rfl)))
   (Jab (JaY PassesOwn.never rfl (pi_U (Jaq (pv 0) rfl)) (Jax (i:=4) JaS.nd rfl (Or.inl rfl))
   (Jab (Jak (i:=5) JaS.nd rfl (Or.inl rfl) (Bac.ev Y ⋯ rfl passF (Jaa (pv 3) (Jaa (pv 4) Jad)) (he:=by exact Jaf rfl)))
   (Jab (Jak (i:=2) JaS.nd rfl (Or.inl rfl) (pe_op JaE (pv 2) (pe_op Jau (pv 4) (pv 5))))
   (Jah (Jak (i:=3) JaS.nd rfl (Or.inl rfl) (pe_op Jau (pv 3) (pv 5)))))))
   (Jah (Jap (JaB (Jaa (pv 2) (Jaa (pv 3) Jad))))))))),?_⟩
 clear hu;obtain ⟨⟨R,fl,U,X,o,S,a0⟩,r,m,k⟩:=h;have j:=T.BcG Ad.Scale rfl;have sl:(1000:Nat)<=sizeLine:=by decide
 have N:=m.b1;have b1:=o.b1;have d1:DivOk n.2:=divOk (n:=56) ∅ m.s2;show tSeq _ _ _ [some (.ref x),some v,none,none,none,none] H;and_intros;refine ⟨x,_,R,_, .int b,rfl,U,j.cls,j.n1,rfl,?_⟩;refine ixF1 r ?_;and_intros;refine ⟨by ac_nf,?_⟩;by_cases c:b.fmod n.2=0
 ·rw [if_pos (by simpa using c)];and_intros;and_intros;refine ixF0 r ?_;refine ⟨x,_,R,_, .int b,rfl,U,j.cls,j.n1,rfl,?_⟩;refine ixF1 r ?_;and_intros;have dv:n.2∣b:=by
   rw [Int.fmod_eq_emod_of_nonneg _ ∅] at c;exact Int.dvd_of_emod_eq_zero c
  refine ⟨d1,mulOk m.s1 (S.fdiv dv N),len2,?_⟩;rename_i p J M H D G L;and_intros;exact k p (n.1*b.fdiv n.2,1) D G L (LInv.all N c)
 ·rw [if_neg (by simpa using c)];and_intros;and_intros;refine ixF0 r ?_;and_intros;refine ixF1 r ?_;and_intros;refine ⟨x,_,R,_, .ref fl,rfl,U,j.cls,j.n2,rfl,?_⟩;refine ⟨fl,rfl,ForA.byL (xs:=d.map V.int) (SqL.of X) (fun i σ u=>i<=(d.map V.int).length/\u=H/\∃ (t:Fr2) (I W:Option V),σ=[some (.ref x),some v,some (.int t.1),some (.int t.2),I,W]/\LInv n (prodI (d.take i)) t) ⟨Nat.zero_le _,rfl,n,none,none,rfl,LInv.nil N m.g1⟩ (fun i σ u q=>by rw [q.2.1];exact SqL.of X) ?_ ?_⟩
  ·rintro i y σ u l ⟨hi,rfl,t,I,W,rfl,B⟩;have C:=(List.getElem?_eq_some_iff.mp l).1;rw [length_map] at C;rw [List.getElem?_map,List.getElem?_eq_getElem C] at l;obtain ⟨f,e⟩:∃ f,f=d[i]:=⟨_,rfl⟩;rw [<- e] at l;have l:y=.int f:=(Option.some.inj l).symm;subst l;have fm:f∈d:=by rw [e];exact List.getElem_mem C
   have f1:=o.f1 f fm;have z:Mth.Sz 2000 f:=sz_le S ∅ (o.mem fm);have tk:=o.take i;have tb:=B.fb m (sz_le S ∅ tk.2);have gp:=Mth.g_pos (a:=t.2) (b:=f) ∅;have gl:=Mth.g_le (a:=t.2) (b:=f) ∅;have Z:DivOk (Mth.g t.2 f):=divOk (n:=2000) ∅ (Nat.lt_of_le_of_lt (by ac_nf:(Mth.g t.2 f).natAbs<=f.natAbs) z);have qf:=z.fdiv (Mth.JbH t.2 f) ∅;have st:=B.step f1;have et:prodI (d.take (i+1))=prodI (d.take i)*f:=by
    rw [take_succ,List.getElem?_eq_getElem C, <- e];exact Jb8 f _
   and_intros;refine ⟨_,_,rfl,?_⟩;and_intros;refine ⟨Z,mulOk tb.s1 qf,?_⟩;and_intros;refine ⟨Z,?_⟩;and_intros;exact ⟨by rw [length_map];ac_nf,(t.1*f.fdiv (Mth.g t.2 f),t.2.fdiv (Mth.g t.2 f)),_,_,rfl,by rw [et];exact st⟩
  ·rintro σ u ⟨hi,rfl,t,I,W,rfl,B⟩;rw [take_of_length_le (by rw [length_map];ac_nf),o.pr] at B;and_intros;refine ⟨len2,?_⟩;rename_i p J M u D G L;and_intros;exact k p t D G L B
abbrev Bap:Stmt:=inClass (top 17) 2
theorem JaK:Jan ["self","number","top","bottom","factor","shared"] ["self","number"] (Jae Bap):=by bv_decide
def JbF (K:W.Frag) (Ad:Adr):Sp:=fun vs H Q E=>∃ (x:Addr) (v:V) (n:Fr2) (b:Int) (fs:List Int),vs=[.ref x,v]/\SCK Ad H x b fs/\FrV K H v n.1 n.2/\FB 3000 1000 n/\∀ p (t:Fr2) H',Same H H'->H' p=some (.tup [.int t.1, .int t.2])->LoInv n b t->Q (.ref p) H'
theorem JdI (F:FunD K "lowered" "Scale.lowered" Bap dV f fd) (T:Txt K mg Ad) (Bac:Cal P w K mg base 1 "common_divisor" ["one","other"] [] (JaC)):FnOk P w K mg base (CX1 P w) 2 f fd ["self","number"] (JbF K Ad):=by
 refine F.okn JaK (by subst_eqs) (fun a0 A B s H R Q E X h=>?_)
 obtain ⟨x,v,n,b,c,rfl,h⟩:=h;refine ⟨_,(Jab (Jak (i:=2) JaK.nd rfl (Or.inl rfl) (pe_ix ix_U (pv 1) Jac (fun _ _=>rfl)))
   (Jab (Jak (i:=3) JaK.nd rfl (Or.inl rfl) (pe_ix ix_U (pv 1) Jac (fun _ _=>rfl)))
   (Jab (JaY PassesOwn.never rfl (pi_U (Jaq (pv 0) rfl)) (Jax (i:=4) JaK.nd rfl (Or.inl rfl))
   (Jab (Jak (i:=5) JaK.nd rfl (Or.inl rfl) (Bac.ev X ⋯ rfl passF (Jaa (pv 2) (Jaa (pv 4) Jad)) (he:=by exact Jaf rfl)))
   (Jab (Jak (i:=2) JaK.nd rfl (Or.inl rfl) (pe_op Jau (pv 2) (pv 5)))
   (Jah (Jak (i:=3) JaK.nd rfl (Or.inl rfl) (pe_op JaE (pv 3) (pe_op Jau (pv 4) (pv 5))))))))
   (Jah (Jap (JaB (Jaa (pv 2) (Jaa (pv 3) Jad)))))))),?_⟩
 obtain ⟨⟨dx,L,hx,D,j,M,Z⟩,G,u,k⟩:=h;have J:=T.BcG Ad.Scale rfl;have n1:=u.b1;have b1:=j.b1;show tSeq _ _ _ [some (.ref x),some v,none,none,none,none] H;and_intros;refine ixF0 G ?_;and_intros;refine ixF1 G ?_;and_intros;refine ⟨x,_,dx,_, .ref L,rfl,hx,J.cls,J.n2,rfl,?_⟩;refine ⟨L,rfl,ForA.byL (xs:=c.map V.int) (SqL.of D) (fun i σ l=>i<=(c.map V.int).length/\l=H/\∃ (t:Fr2) (z C:Option V),σ=[some (.ref x),some v,some (.int t.1),some (.int t.2),z,C]/\LoInv n (prodI (c.take i)) t) ⟨Nat.zero_le _,rfl,n,none,none,rfl,LoInv.nil u.lo⟩ (fun i σ l q=>by rw [q.2.1];exact SqL.of D) ?_ ?_⟩
 ·rintro i y σ l e ⟨hi,rfl,t,z,C,rfl,o⟩;have r:=(List.getElem?_eq_some_iff.mp e).1;rw [length_map] at r;rw [List.getElem?_map,List.getElem?_eq_getElem r] at e;obtain ⟨f,d⟩:∃ f,f=c[i]:=⟨_,rfl⟩;rw [<- d] at e;have e:y=.int f:=(Option.some.inj e).symm;subst e;have fm:f∈c:=by rw [d];exact List.getElem_mem r
  have N:=j.f1 f fm;have m:Mth.Sz 2000 f:=sz_le M ∅ (j.mem fm);have tk:=j.take i;have pb:Mth.Sz 2000 (prodI (c.take i)):=sz_le M ∅ tk.2;have t2:Mth.Sz 3000 t.2:=by
   refine Nat.lt_of_le_of_lt o.le2 ?_;have:=u.s2.mul pb;unfold Mth.Sz at this;rw [Int.natAbs_mul] at this;exact this
  have gp:=Mth.g_pos (a:=t.1) (b:=f) ∅;have gl:=Mth.g_le (a:=t.1) (b:=f) ∅;have I:DivOk (Mth.g t.1 f):=divOk (n:=2000) ∅ (Nat.lt_of_le_of_lt (by ac_nf:(Mth.g t.1 f).natAbs<=f.natAbs) m);have O:=m.fdiv (Mth.JbH t.1 f) ∅;have W:=o.step N;have et:prodI (c.take (i+1))=prodI (c.take i)*f:=by
   rw [take_succ,List.getElem?_eq_getElem r, <- d];exact Jb8 f _
  and_intros;refine ⟨_,_,rfl,?_⟩;and_intros;refine ⟨I,?_⟩;and_intros;refine ⟨I,mulOk t2 O,?_⟩;and_intros;exact ⟨by rw [length_map];ac_nf,(t.1.fdiv (Mth.g t.1 f),t.2*f.fdiv (Mth.g t.1 f)),_,_,rfl,by rw [et];exact W⟩
 ·rintro σ l ⟨hi,rfl,t,z,C,rfl,o⟩;rw [take_of_length_le (by rw [length_map];ac_nf),j.pr] at o;and_intros;refine ⟨len2,?_⟩;rename_i p Y a1 l S U e1;and_intros;exact k p t S U e1 o
abbrev BaZ:Stmt:=top 30
theorem Jcj:Jan ["thing","numbers","part","gap"] ["thing"] (Jae BaZ):=by bv_decide
def JcZ (K:W.Frag) (Ad:Adr):Sp:=fun vs H Q E=>∃ (x:Addr) (ls:List PD) (gs:List GD),vs=[.ref x]/\TK K Ad H x ls gs/\ls.length<=12/\gs.length<=7/\ls.length+gs.length<=14/\(∀ p∈ls,(1<=p.sz.2/\Mth.Sz 70 p.sz.2)/\1<=p.mo.2/\Mth.Sz 70 p.mo.2)/\(∀ g∈gs,(1<=g.lo.2/\Mth.Sz 70 g.lo.2)/\1<=g.hi.2/\Mth.Sz 70 g.hi.2)/\∀ s b fs H',Same H H'->SCK Ad H' s b fs->Q (.ref s) H'
theorem Jgh (F:FunD K "scale_of" "scale_of" BaZ dV f fd) (T:Txt K mg Ad) (BaV:MCal P w K mg base 2 "parts" (Jbb Ad) ["self"] (Ja0 K Ad)) (BcV:MCal P w K mg base 2 "gaps" (Jbb Ad) ["self"] (JbK K Ad)) (Bdm:KCal P w K mg base 2 "Scale" Ad.Scale ["self","numbers"] (Jbv K Ad)):FnOk P w K mg base (CX1 P w) 4 f fd ["thing"] (JcZ K Ad):=by
 refine F.okn Jcj (by subst_eqs) (fun b9 A b1 s H vs Q E hr h=>?_)
 obtain ⟨x,ls,gs,rfl,h⟩:=h;refine ⟨_,(Jab (Jak (i:=1) Jcj.nd rfl (Or.inl rfl) (Ja5 Jad))
   (Jab (JaY PassesOwn.never rfl (pi_U (BaV.m0 hr ⋯ passF (pv 0))) (Jax (i:=2) Jcj.nd rfl (Or.inl rfl))
   (Jah (Ja2 (pe_bm PySem.F.plainAttrs_list PySem.F.slot_list_extend PySem.F.type_list_extend JfB (pv 1) (Jaa (Ja5 (Jaa (pe_ix ix_U (pv 2) Jac (fun _ _=>rfl)) (Jaa (pe_ix ix_U (pv 2) Jac (fun _ _=>rfl)) Jad))) Jad)))))
   (Jab (JaY PassesOwn.never rfl (pi_U (BcV.m0 hr ⋯ passF (pv 0))) (Jax (i:=3) Jcj.nd rfl (Or.inl rfl))
   (Jah (Ja2 (pe_bm PySem.F.plainAttrs_list PySem.F.slot_list_extend PySem.F.type_list_extend JfB (pv 1) (Jaa (Ja5 (Jaa (pe_ix ix_U (pv 3) Jac (fun _ _=>rfl)) (Jaa (pe_ix ix_U (pv 3) Jac (fun _ _=>rfl)) Jad))) Jad)))))
   (Jah (Jap (Bdm.ev hr ⋯ rfl passF (Jaa (pv 1) Jad))))))),?_⟩
 obtain ⟨ht,h7,h6,b8,b5,a9,k⟩:=h;obtain ⟨dx,d1,d2,d3,k1,k2,k3,hx,_⟩:=id ht;have sl:(1000:Nat)<=sizeLine:=by decide
 show tSeq _ _ _ [some (.ref x),none,none,none] H;nofun;refine ⟨len0,?_⟩;rename_i r L b6 H H1 S1 e1;nofun;nofun;refine ⟨x,_,dx,_,rfl,S1 _ _ hx,rfl,rfl,x,ls,gs,rfl,ht.same S1,by ac_nf,fun l ys H2 S2 a3 e2 hY=>?_⟩;have lY:=hY.length;have a7:l≠r:=fun z=>by rw [z,e1] at a3;cases a3
 nofun;refine ⟨l,rfl,ForA.byL (xs:=ys) (SqL.of e2) (fun i σ B=>i<=ys.length/\∃ (J N:Option V) (j:List V) (e:List Fr2),σ=[some (.ref x),some (.ref r),J,N]/\(∀ c u,c≠r->H2 c=some u->B c=some u)/\SameT H2 B/\B r=some (.lst j)/\All2 (FLV K B) e j/\(∀ n∈e,1<=n.2/\Mth.Sz 70 n.2)/\e.length=2*i) ⟨Nat.zero_le _,none,none,[],[],rfl,fun _ _ _ h=>h,(Same.refl _).t,S2 _ _ e1,rfl,(fun n d=>by cases d),rfl⟩ (fun i σ B q=>by obtain ⟨_,_,_,_,_,_,q,_⟩:=q;exact SqL.of (q _ _ a7 e2)) ?_ ?_⟩
 ·rintro i y σ H3 Y ⟨hi,J,N,j,e,rfl,ho,Z,o,v,a,S⟩;have li:=(List.getElem?_eq_some_iff.mp Y).1;have la:=v.length;obtain ⟨p,hp,b,U,vm,rfl,hb,hz,hm⟩:=hY.at_ Y;have a6:=b5 p (List.mem_of_getElem? hp);have a0:=hb.sameT Z;nofun;refine ⟨.inl ⟨rfl,_,SqL.of o⟩,?_⟩;refine ixT (i:=3) a0 rfl ?_;refine ixT (i:=4) a0 rfl ?_;nofun;refine ⟨len2,?_⟩;rename_i tl X a2 H3 H4 M e4;nofun;refine ⟨r,tl,j,_,rfl,rfl,M _ _ o,e4,by simp only [length_cons,length_nil];ac_nf,?_⟩;generalize u5:upd H4 r _=D;nofun;have e5:=putE u5;have T5:SameT H4 D:=SameT.put u5 (M _ _ o) rfl;have G:SameT H3 D:=M.t.trans T5;nofun;refine ⟨li,_,_,j++[U,vm],e++[p.sz,p.mo],rfl,fun c u hc h=>by rw [<- u5,Jag hc];exact M _ _ (ho c u hc h),Z.trans G,e5,(v.mono (P':=FLV K D) fun _ _ z=>z.sameT G).append ⟨U,_,rfl,FrV.sameT (Z.trans G) hz,vm,_,rfl,FrV.sameT (Z.trans G) hm,rfl⟩,fun n d=>?_,by simp;ac_nf⟩;rcases mem_append.mp d with d | d
  ·exact a n d
  ·rcases mem_cons.mp d with rfl | d
   ·exact a6.1
   ·rw [mem_singleton.mp d];exact a6.2
 ·rintro σ H3 ⟨hi,J,N,j,e,rfl,ho,Z,o,v,a,S⟩;have O:Same H H3:=fun c u h=>ho c u (Jai h L) (S2 _ _ (S1 _ _ h));nofun;refine ⟨x,_,dx,_,rfl,O _ _ hx,rfl,rfl,x,ls,gs,rfl,ht.same O,by ac_nf,fun m zs H4 M a5 e4 hZ=>?_⟩;have lZ:=hZ.length;have b4:m≠r:=fun z=>by rw [z,o] at a5;cases a5
  have la:=v.length;nofun;refine ⟨m,rfl,ForA.byL (xs:=zs) (SqL.of e4) (fun i σ B=>i<=zs.length/\∃ (J N:Option V) (j:List V) (e:List Fr2),σ=[some (.ref x),some (.ref r),J,N]/\(∀ c u,c≠r->H4 c=some u->B c=some u)/\SameT H4 B/\B r=some (.lst j)/\All2 (FLV K B) e j/\(∀ n∈e,1<=n.2/\Mth.Sz 70 n.2)/\e.length<=2*ls.length+2*i) ⟨Nat.zero_le _,J,N,j,e,rfl,fun _ _ _ h=>h,(Same.refl _).t,M _ _ o,v.mono (fun _ _ z=>z.sameT M.t),a,by ac_nf⟩ (fun i σ B q=>by obtain ⟨_,_,_,_,_,_,q,_⟩:=q;exact SqL.of (q _ _ b4 e4)) ?_ ?_⟩
  ·clear v a S o la;rintro i y σ D Y ⟨hi,J,N,j,e,rfl,R,C,o,v,a,S⟩;have li:=(List.getElem?_eq_some_iff.mp Y).1;have la:=v.length;obtain ⟨g,hg,b,U,vm,rfl,hb,hz,hm⟩:=hZ.at_ Y;have a4:=a9 g (List.mem_of_getElem? hg);have a1:=hb.sameT C;nofun;refine ⟨.inl ⟨rfl,_,SqL.of o⟩,?_⟩;refine ixT (i:=3) a1 rfl ?_;refine ixT (i:=4) a1 rfl ?_;nofun;refine ⟨len2,?_⟩;rename_i tl X a2 D H6 S6 e6;nofun;refine ⟨r,tl,j,_,rfl,rfl,S6 _ _ o,e6,by simp only [length_cons,length_nil];ac_nf,?_⟩;generalize u7:upd H6 r _=H7;nofun;have e7:=putE u7;have T7:SameT H6 H7:=SameT.put u7 (S6 _ _ o) rfl;have I:SameT D H7:=S6.t.trans T7;nofun;refine ⟨li,_,_,j++[U,vm],e++[g.lo,g.hi],rfl,fun c u hc h=>by rw [<- u7,Jag hc];exact S6 _ _ (R c u hc h),C.trans I,e7,(v.mono (P':=FLV K H7) fun _ _ z=>z.sameT I).append ⟨U,_,rfl,FrV.sameT (C.trans I) hz,vm,_,rfl,FrV.sameT (C.trans I) hm,rfl⟩,fun n d=>?_,by simp;ac_nf⟩;rcases mem_append.mp d with d | d
   ·exact a n d
   ·rcases mem_cons.mp d with rfl | d
    ·exact a4.1
    ·rw [mem_singleton.mp d];exact a4.2
  ·clear v a S o la;rintro σ D ⟨hi,J,N,j,e,rfl,R,C,o,v,a,S⟩;have W:Same H D:=fun c u h=>R c u (Jai h L) (M _ _ (O _ _ h));nofun;intro s ds hs b2 b7;have Sm:Same D (upd (upd D ds (.own s)) s (.ins Ad.Scale ds [])):=fun b u q=>by rw [Jag (Jai q hs),Jag (Jai q b2)];exact q
   refine ⟨s,ds,r,j,e,rfl,Jaj,Sm _ _ o,v.mono (fun _ _ z=>z.sameT Sm.t),by ac_nf,a,fun b fs fl H6 h1 h2 h3 h4 b0 b3 a8=>⟨rfl,k s b fs H6 (fun c u h=>?_) ⟨ds,fl,h1,h3,b0,b3,a8⟩⟩⟩;exact h4 c u (Jai (W _ _ h) hs) (Sm _ _ (W _ _ h))
abbrev BaK:Stmt:=top 31
theorem Jfd:Jan ["thing","gap_name"] ["thing","gap_name"] (Jae BaK):=by bv_decide
def Jcp (K:W.Frag) (Ad:Adr):Sp:=fun vs H Q E=>∃ (x:Addr) (ls:List PD) (gs:List GD) (g:GD),vs=[.ref x, .str g.nm]/\TK K Ad H x ls gs/\(ls.map (·.nm)).Nodup/\ls.length<=12/\g∈gs/\(∀ u∈gs,u.nm=g.nm->u=g)/\∀ l (w:List Pr) H',Same H H'->H' l=some (.lst ((w.map (·.1)).map V.str))->Jbj ls g.st w g.en->(w.map (·.1)).Nodup->Q (.ref l) H'
theorem Je3 (F:FunD K "part_names" "part_names" BaK dV f fd) (T:Txt K mg Ad) (Bdx:MCal P w K mg base 1 "way" (Jbb Ad) ["self","name"] (Jb0 K Ad)):FnOk P w K mg base (CX1 P w) 2 f fd ["thing","gap_name"] (Jcp K Ad):=by
 refine F.okn Jfd (by subst_eqs) (fun Y A u s H J Q E S h=>?_)
 obtain ⟨x,j,C,g,rfl,h⟩:=h;refine ⟨_,(Jah (Jap (Jd9 (own:=["name","forward"]) (cs:=[]) (cl:=[]) rfl (pi_U (Bdx.m S ⋯ passF (pv 0) (Jaa (pv 1) Jad))) (fun _ _ _ _=>(Jkn (K:=K) (n:=2) rfl rfl (JcP (Jax (i:=0) (show [("name" : Str),("forward" : Str)].Nodup by decide) rfl (Or.inl rfl) (hf:=Or.inr rfl)) (JcP (Jax (i:=1) (show [("name" : Str),("forward" : Str)].Nodup by decide) rfl (Or.inl rfl) (hf:=Or.inr rfl)) Jgl)))) (fun _ _ _ _=>(pv 0)) rfl ⋯ rfl ⋯ hcl0 (hhas0 ⋯) hcs0))),?_⟩;obtain ⟨v,O,h8,hg,q,k⟩:=h;obtain ⟨dx,d1,d2,d3,k1,k2,k3,hx,_⟩:=id v;have sl:(1000:Nat)<=sizeLine:=by decide
 show tRet _ _ [some (.ref x),some (.str g.nm)] H;nofun;refine ⟨x,_,dx,_,rfl,hx,rfl,rfl,x,g.nm,j,C,rfl,v,fun z=>absurd (mem_map.mpr ⟨g,hg,rfl⟩) z,fun I p W l xs w L N Z D a G d=>?_⟩;have e:=q I p W;subst e;have lx:=a.length;have lw:w.length<=12:=by
  have:=sub_len (w.map (·.1)) (j.map (·.nm)) d fun n hn=>JeG (Jgj G) n hn;rw [length_map,length_map] at this;ac_nf
 nofun;refine ⟨l,rfl, .inl ⟨⟨xs,SqL.of D⟩,CompJ.list (xs:=xs) (fun i B c=>c=L/\B=((w.take i).map (·.1)).map V.str) ⟨rfl,rfl⟩ (fun i B c hi z=>⟨by rw [z.1];exact SqL.of D,by rw [z.2,length_map,length_map,length_take];ac_nf⟩) ?_ ?_⟩⟩
 ·rintro i y t c hy ⟨rfl,rfl⟩;obtain ⟨pr,o,b,rfl,X⟩:=a.at_ hy;simpa only [length_singleton,length_cons,length_nil,List.replicate,JaF,map_cons,map_nil,Option.join_some];refine ⟨b,_,rfl,SqT.of X,rfl,?_⟩;nofun;rw [take_succ,o];simp
 ·rintro t c ⟨rfl,rfl⟩;rw [take_of_length_le ∅];rename_i r R U c M S2 e2;nofun;exact k r w M (N.trans S2) e2 G d
abbrev Bau:Stmt:=inClass (top 32) 0
theorem Jef:Jan ["self","name","rest","weights"] ["self","name","rest","weights"] (Jae Bau):=by bv_decide
def JbP (K:W.Frag) (Ad:Adr):Sp:=fun vs H Q E=>∃ (x dx wd:Addr) (nm:Str) (vr:V) (ws:List (Str × Int)),vs=[.ref x, .str nm,vr, .ref wd]/\H x=some (.ins Ad.Lid dx [])/\H wd=some (.dK (wsK ws))/\∀ H',H' x=some (.ins Ad.Lid dx [("name", .str nm),("rest",vr),("weights", .ref wd),("load", .int (ws.map (·.2)).sum),("last_level", .ref Ad.ZERO)])->(∀ b,b≠x->H' b=H b)->Q .non H'
theorem Jd2 (F:FunD K "__init__" "Lid.__init__" Bau dV f fd) (T:Txt K mg Ad)  : FnOk P w K mg base (CX1 P w) 1 f fd ["self","name","rest","weights"] (JbP K Ad):=by
 refine F.okn Jef (by subst_eqs) (fun M A q s H J Q E X h=>?_)
 obtain ⟨x,c,e,g,j,i,rfl,h⟩:=h;refine ⟨_,(Jab (JaX (pv 0) (pv 1) rfl)
   (Jab (JaX (pv 0) (pv 2) rfl)
   (Jab (JaX (pv 0) (pv 3) rfl)
   (Jab (JaX (pv 0) (Jkm rfl rfl rfl T.n_sum JkL (pv 3)) rfl)
   (Jah (JaX (pv 0) (JcT (v:=.ref _) rfl T.Bdi T.Bdj) rfl)))))),?_⟩
 obtain ⟨u,o,k⟩:=h;have d:=T.c_Lid Ad.Lid rfl;have p:e≠x:=fun z=>by rw [z,u] at o;cases o
 show tSeq _ _ _ [some (.ref x),some (.str g),some j,some (.ref e)] H;exfalso;refine ⟨x,_,c,_,rfl,u,d.cls,d.n1,by simp,?_⟩;generalize I:upd H x _=l;exfalso;have N:l x=some (.ins Ad.Lid c [("name", .str g)]):=by rw [<- I];exact Jaj.trans rfl
 have S:∀ b,b≠x->l b=H b:=fun b a=>by rw [<- I,Jag a]
 exfalso;refine ⟨x,_,c,_,rfl,N,d.cls,d.n2,by simp,?_⟩;generalize G:upd l x _=n;exfalso;have V:n x=some (.ins Ad.Lid c [("name", .str g),("rest",j)]):=by rw [<- G];exact Jaj.trans rfl
 have R:∀ b,b≠x->n b=H b:=fun b a=>by rw [<- G,Jag a];exact S b a
 exfalso;refine ⟨x,_,c,_,rfl,V,d.cls,d.n3,by simp,?_⟩;generalize t:upd n x _=r;exfalso;have U:r x=some (.ins Ad.Lid c [("name", .str g),("rest",j),("weights", .ref e)]):=by rw [<- t];exact Jaj.trans rfl
 have C:∀ b,b≠x->r b=H b:=fun b a=>by rw [<- t,Jag a];exact R b a
 exfalso;refine ⟨e,wsK i,i.map (·.2),rfl,by rw [C e p];exact o,Jjf i,?_⟩;exfalso;refine ⟨x,_,c,_,rfl,U,d.cls,d.n4,by simp,?_⟩;generalize D:upd r x _=m;exfalso;have O:m x=some (.ins Ad.Lid c [("name", .str g),("rest",j),("weights", .ref e),("load", .int (i.map (·.2)).sum)]):=by rw [<- D];exact Jaj.trans rfl
 have L:∀ b,b≠x->m b=H b:=fun b a=>by rw [<- D,Jag a];exact C b a
 exfalso;refine ⟨x,_,c,_,rfl,O,d.cls,d.n5,by simp,?_⟩;generalize B:upd m x _=y;exfalso;have W:y x=some (.ins Ad.Lid c [("name", .str g),("rest",j),("weights", .ref e),("load", .int (i.map (·.2)).sum),("last_level", .ref Ad.ZERO)]):=by rw [<- B];exact Jaj.trans rfl
 exact k y W fun b a=>by rw [<- B,Jag a];exact L b a
abbrev Bal:Stmt:=inClass (top 32) 1
theorem Jdy:Jan ["self"] ["self"] (Jae Bal):=by bv_decide
def Jbu (K:W.Frag) (Ad:Adr):Sp:=fun vs H Q E=>∃ (q:Addr) (e:LidD),vs=[.ref q]/\LDV K Ad H e (.ref q)/\FB 3000 1000 e.rest/\1<=e.load/\Mth.Sz 64 e.load/\∀ p H',Same H H'->H' p=some (.tup [.int (divF e.rest (e.load,1)).1, .int (divF e.rest (e.load,1)).2])->Q (.ref p) H'
theorem Jdu (F:FunD K "full_level" "Lid.full_level" Bal dV f fd) (T:Txt K mg Ad) (BcW:Cal P w K mg base 3 "over" ["one","other"] [] (Jfh K Ad)):FnOk P w K mg base (CX1 P w) 4 f fd ["self"] (Jbu K Ad):=by
 refine F.okn Jdy (by subst_eqs) (fun u A d s H n Q E c h=>?_)
 obtain ⟨q,e,rfl,h⟩:=h;refine ⟨_,(Jah (Jap (BcW.ev c ⋯ rfl passF (Jaa (Jaq (pv 0) rfl) (Jaa (JaB (Jaa (Jaq (pv 0) rfl) (Jaa Jac Jad))) Jad)) (he:=by exact Jaf rfl)))),?_⟩;obtain ⟨⟨M,m,l,N,J,x,j,c,I,L⟩,a,O,r,k⟩:=h;cases x;have b:=T.c_Lid Ad.Lid rfl;show tRet _ _ [some (.ref q)] H;and_intros;refine ⟨q,_,m,_,l,rfl,j,b.cls,b.n2,rfl,?_⟩;refine ⟨q,_,m,_, .int e.load,rfl,j,b.cls,b.n4,rfl,?_⟩;and_intros;refine ⟨len2,?_⟩;rename_i p t B H G i v;and_intros;refine ⟨l, .ref p,_,_,e.load,1,rfl,c.same i,FrV.of v,a.s1.mono ⋯,a.s2.mono ⋯,r.mono ⋯, .lit ⋯ ⋯,a.b1,by decide,a.g1,by unfold Mth.g;simp,fun z=>absurd z ∅,fun _ C o y D=>?_⟩;exact k C o (i.trans y) D
abbrev BaL:Stmt:=inClass (top 32) 2
theorem Jdj:Jan ["self","part","level","weight"] ["self","part","level"] (Jae BaL):=by bv_decide
def Jck (K:W.Frag) (Ad:Adr):Sp:=fun vs H Q E=>∃ (q:Addr) (n:Str) (lv:V) (e:LidD) (L:Fr2),vs=[.ref q, .str n,lv]/\LDV K Ad H e (.ref q)/\FrV K H lv L.1 L.2/\FB 3000 1000 e.rest/\FB 3000 1000 L/\(∀ x∈e.ws,Mth.Sz 64 x.2)/\∀ H',(∀ b u,b≠q->H b=some u->H' b=some u)->LDV K Ad H' (e.settle n L) (.ref q)->(∀ d kv,H d=some (.dK kv)->LDV K Ad (cut d H) e (.ref q)->LDV K Ad (cut d H') (e.settle n L) (.ref q))->Q .non H'
theorem JeY (F:FunD K "settle" "Lid.settle" BaL dV f fd) (T:Txt K mg Ad) (Bbb:Cal P w K mg base 3 "minus" ["one","other"] [] (Jdk K)) (Bba:Cal P w K mg base 2 "times" ["one","other"] [] (Jdl K)):FnOk P w K mg base (CX1 P w) 4 f fd ["self","part","level"] (Jck K Ad):=by
 refine F.okn Jdj (by subst_eqs) (fun a7 A a4 s H vs Q E N h=>?_)
 obtain ⟨q,n,G,e,L,rfl,h⟩:=h;have hu:=N.units;refine ⟨_,(Jah (ps_if (Jed (JgN (hu1 hu) (pv 1) (Jaq (pv 0) rfl)) (by with_unfolding_all rfl))
   (Jab (Jak (i:=3) Jdj.nd rfl (Or.inl rfl) (Jcg (hu1 hu) (Jaq (pv 0) rfl) (pv 1) (fun _ _=>rfl)))
   (Jab (JaX (pv 0) (Bbb.ev N ⋯ rfl passF (Jaa (Jaq (pv 0) rfl) (Jaa (Bba.ev N ⋯ rfl passF (Jaa (pv 2) (Jaa (JaB (Jaa (pv 3) (Jaa Jac Jad))) Jad)) (he:=by exact Jaf rfl)) Jad)) (he:=by exact Jaf rfl)) rfl)
   (Jab (JaX (pv 0) (pe_op JgL (Jaq (pv 0) rfl) (pv 3)) rfl)
   (Jah (JaX (pv 0) (pv 2) rfl)))))
   Jar)),?_⟩
 clear hu;obtain ⟨hd,hl,fr,r,a2,k⟩:=h;obtain ⟨q',l,vr,vt,m,hv,v,N,ht,X⟩:=id hd;cases hv;have j:=T.c_Lid Ad.Lid rfl;have W:m≠q:=fun z=>by rw [z,v] at X;cases X
 have gw:=DGet.k (k:=Sum.inr n) X;rw [Jgt] at gw;show tIfS _ _ _ _ [some (.ref q),some (.str n),some G,none] H;try simpa only [y4dy,y84y]
 refine ⟨q,_,l,_, .ref m,rfl,v,j.cls,j.n3,rfl,?_⟩;refine ⟨m,_,rfl,gw,?_⟩;cases hwt:wtOf e.ws n with
 | none=>
  rw [show ((none:Option Int).map V.int).isSome=false from rfl];try simpa only [y4dy,y84y]
  have O:e.settle n L=e:=by unfold LidD.settle;rw [hwt]
  exact k H (fun b u _ h=>h) (by rw [O];exact hd) (fun d kv _ h=>by rw [O];exact h)
 | some w=>
  rw [hwt] at gw;have O:e.settle n L={ e with rest:=subF e.rest (mulF L (w,1)),load:=e.load-w,last:=L }:=by unfold LidD.settle;rw [hwt]
  have sw:=a2 _ (JiD hwt);rw [show ((some w).map V.int).isSome=true from rfl];try simpa only [y4dy,y84y]
  refine ⟨q,_,l,_, .ref m,rfl,v,j.cls,j.n3,rfl,?_⟩;refine ⟨m, .int w,rfl,gw,?_⟩;try simpa only [y4dy,y84y]
  refine ⟨q,_,l,_,vr,rfl,v,j.cls,j.n2,rfl,?_⟩;try simpa only [y4dy,y84y]
  refine ⟨len2,?_⟩;rename_i p b2 b4 H H1 S1 e1;symm_saturate;refine ⟨G, .ref p,_,_,w,1,rfl,hl.same S1,FrV.of e1,r.s1.mono ⋯,r.s2.mono ⋯,sw.mono ⋯, .lit ⋯ ⋯,r.b1,by decide,r.g1,by unfold Mth.g;simp,fun p2 H2 S2 e2=>?_⟩;have Y:=S1.trans S2;have ml:=JeX (a:=L) (c:=(w,1)) r.b1 (Int.le_refl 1);have a1:Mth.Sz 4000 (mulF L (w,1)).1:=(Mth.Sz.top (by have:=r.b1;show L.2*1≠0;ac_nf) (r.s1.mul sw)).mono ⋯;have a3:Mth.Sz 4000 (mulF L (w,1)).2:=(Mth.Sz.bot (t:=L.1*w) (b:=L.2*1) (by have:=r.b1;ac_nf) (by rw [Int.mul_one];exact r.s2)).mono ⋯;have e2:H2 p2=some (.tup [.int (mulF L (w,1)).1, .int (mulF L (w,1)).2]):=e2;try simpa only [y4dy,y84y]
  refine ⟨vr, .ref p2,_,_,_,_,rfl,N.same Y,FrV.of e2,fr.s1.mono ⋯,fr.s2.mono ⋯,a1,a3,fr.b1,ml.b1,fr.g1,ml.g1,fun S H3 S3 e3=>?_⟩;have y:=Y.trans S3;have I:=y _ _ v;try simpa only [y4dy,y84y]
  refine ⟨q,_,l,_,rfl,I,j.cls,j.n2,by simp,?_⟩;generalize u4:upd H3 q _=R;symm_saturate;have e4:R q=some (.ins Ad.Lid l [("name", .str e.nm),("rest", .ref S),("weights", .ref m),("load", .int e.load),("last_level",vt)]):=by rw [<- u4];exact Jaj.trans rfl
  have o4:∀ b u,b≠q->H b=some u->R b=some u:=fun b u J h=>by rw [<- u4,Jag J];exact y _ _ h
  have T4:SameT H3 R:=SameT.put u4 I rfl;try simpa only [y4dy,y84y]
  refine ⟨q,_,l,_, .int e.load,rfl,e4,j.cls,j.n4,rfl,?_⟩;try simpa only [y4dy,y84y]
  refine ⟨q,_,l,_,rfl,e4,j.cls,j.n4,by simp,?_⟩;generalize u5:upd R q _=Z;symm_saturate;have e5:Z q=some (.ins Ad.Lid l [("name", .str e.nm),("rest", .ref S),("weights", .ref m),("load", .int (e.load-w)),("last_level",vt)]):=by rw [<- u5];exact Jaj.trans rfl
  have T5:SameT R Z:=SameT.put u5 e4 rfl;try simpa only [y4dy,y84y]
  refine ⟨q,_,l,_,rfl,e5,j.cls,j.n5,by simp,?_⟩;generalize u6:upd Z q _=D;symm_saturate;have e6:D q=some (.ins Ad.Lid l [("name", .str e.nm),("rest", .ref S),("weights", .ref m),("load", .int (e.load-w)),("last_level",G)]):=by rw [<- u6];exact Jaj.trans rfl
  have T6:SameT Z D:=SameT.put u6 e5 rfl;have U:=T4.trans (T5.trans T6);have o6:∀ b u,b≠q->H b=some u->D b=some u:=fun b u J h=>by rw [<- u6,Jag J, <- u5,Jag J];exact o4 b u J h
  have f3:=FrV.of (K:=K) (U _ _ rfl e3);have fl:=(hl.same y).sameT U;refine k D o6 ?_ fun d a8 M a5=>?_
  ·rw [O];exact ⟨q,l, .ref S,G,m,rfl,e6,f3,fl,o6 _ _ W X⟩
  ·obtain ⟨q',b0,b3,a9,a0,B,C,_,_,o⟩:=a5;have B:q=q':=by injection B
   subst B;have x:q≠d:=fun z=>by rw [z,M] at v;cases v
   rw [JbG x,v] at C;simp only [Option.some.injEq,HO.ins.injEq,List.cons.injEq,Prod.mk.injEq,V.ref.injEq,true_and,and_true] at C;have ew:m=a0:=C.2.2.1;subst ew;have a6:m≠d:=fun z=>by
    rw [z] at o;unfold cut at o;rw [if_pos rfl] at o;cases o
   have Tc:SameT D (cut d D):=SameT.cutO (o6 _ _ x.symm M) rfl;rw [O];exact ⟨q,l, .ref S,G,m,rfl,by rw [JbG x];exact e6,f3.sameT Tc,fl.sameT Tc,by rw [JbG a6];exact o6 _ _ W X⟩
abbrev Bah:Stmt:=inClass (top 32) 3
theorem Jdi:Jan ["self","part","level"] ["self","part","level"] (Jae Bah):=by bv_decide
def Jbn (K:W.Frag) (Ad:Adr):Sp:=fun vs H Q E=>∃ (q:Addr) (n:Str) (lv:V) (e:LidD) (L:Fr2),vs=[.ref q, .str n,lv]/\LDV K Ad H e (.ref q)/\FrV K H lv L.1 L.2/\Q (.bl ((wtOf e.ws n).isSome&&(decide (e.rest=(0,1))&&decide (e.last=L)))) H
theorem Jda (F:FunD K "has_stopped" "Lid.has_stopped" Bah dV f fd) (T:Txt K mg Ad)  : FnOk P w K mg base (CX1 P w) 1 f fd ["self","part","level"] (Jbn K Ad):=by
 refine F.okn Jdi (by subst_eqs) (fun r A g s H o Q E c h=>?_)
 obtain ⟨q,n,m,e,L,rfl,h⟩:=h;have b:=c.units;refine ⟨_,(Jah (Jap (Jcw (Jlc (JgN (hu1 b) (pv 1) (Jaq (pv 0) rfl)) (by with_unfolding_all rfl)) (Jcw (Ja1 (Jbr b) (Jaq (pv 0) rfl) (JcT (v:=.ref _) rfl T.Bdi T.Bdj) (Jas _)) (Jde (Ja1 (Jbr b) (Jaq (pv 0) rfl) (pv 2) (Jas _))))))),?_⟩;clear b;obtain ⟨⟨D,i,z,y,l,u,d,c,p,x⟩,C,k⟩:=h;cases u;have a:=T.c_Lid Ad.Lid rfl;have j:=DGet.k (k:=Sum.inr n) x;rw [Jgt] at j;have t:decide (e.rest=(0,1))=(decide (e.rest.1=0)&&decide (e.rest.2=1)):=by
  rw [<- Bool.decide_and];exact decide_eq_decide.mpr Prod.ext_iff
 have B:decide (e.last=L)=(decide (e.last.1=L.1)&&decide (e.last.2=L.2)):=by
  rw [<- Bool.decide_and];exact decide_eq_decide.mpr Prod.ext_iff
 rw [t,B] at k;show tRet _ _ [some (.ref q),some (.str n),some m] H;and_intros;refine ⟨q,_,i,_, .ref l,rfl,d,a.cls,a.n3,rfl,?_⟩;refine ⟨l,_,rfl,j,?_⟩;rw [show ((wtOf e.ws n).map V.int).isSome=(wtOf e.ws n).isSome by cases wtOf e.ws n <;> rfl];cases c1:(wtOf e.ws n).isSome with
 | false=>
  rw [c1] at k;and_intros;exact k
 | true=>
  rw [c1] at k;and_intros;refine ⟨q,_,i,_,z,rfl,d,a.cls,a.n2,rfl,?_⟩;refine eqF c ⟨Ad.ZERO,rfl,T.Bdk _⟩ ?_;cases c2:(decide (e.rest.1=0)&&decide (e.rest.2=1)) with
  | false=>
   rw [c2] at k;and_intros;exact k
  | true=>
   rw [c2] at k;and_intros;refine ⟨q,_,i,_,y,rfl,d,a.cls,a.n5,rfl,?_⟩;refine eqF p C ?_;exact k
abbrev Bbr:Stmt:=top 33
theorem Jbt:Jan ["thing","scale","weights","part","lids","gap","room","on_way"] ["thing","scale"] (Jae Bbr):=by bv_decide
def JdA (K:W.Frag) (Ad:Adr):Sp:=fun vs H Q E=>∃ (x sc:Addr) (ls:List PD) (es:List (GD × List Str)) (pl:Str->Fr2) (b:Int) (fs:List Int),vs=[.ref x, .ref sc]/\TK K Ad H x ls (es.map (·.1))/\SCK Ad H sc b fs/\SHC ls es pl/\(∀ e∈es,0<=vl (roomF pl e.1))/\∀ ll xs lds H',Same H H'->H ll=none->H' ll=some (.lst xs)->All2 (LDV K Ad H') lds xs->xs.Nodup->(∀ v∈xs, ∃ q,v=.ref q/\H q=none)->lds.length=es.length->(∀ (i:Nat) e l,es[i]?=some e->lds[i]?=some l->LSt b ls pl e l)->Q (.ref ll) H'
theorem Jhd (F:FunD K "lids_of" "lids_of" Bbr dV f fd) (T:Txt K mg Ad) (BaV:MCal P w K mg base 2 "parts" (Jbb Ad) ["self"] (Ja0 K Ad)) (BcV:MCal P w K mg base 2 "gaps" (Jbb Ad) ["self"] (JbK K Ad)) (BdC:MCal P w K mg base 5 "room" (Jbb Ad) ["self","name"] (Jcm K Ad)) (BaF:Cal P w K mg base 1 "under" ["one","other"] [] (Jcr K)) (BbQ:Cal P w K mg base 2 "part_names" ["thing","gap_name"] [] (Jcp K Ad)) (k_Lid:KCal P w K mg base 1 "Lid" Ad.Lid ["self","name","rest","weights"] (JbP K Ad)) (Bb0:MCal P w K mg base 2 "lifted" (Jdo Ad) ["self","number"] (Jbo K Ad)):FnOk P w K mg base (CX1 P w) 7 f fd ["thing","scale"] (JdA K Ad):=by
 refine F.okx Jbt (fun vs H Q E h=>?_) (fun i9 A g3 s H vs Q E hr h=>?_)
 ·obtain ⟨x,sc,Y,es,pl,b,fs,rfl,_⟩:=h;rfl
 obtain ⟨x,sc,Y,es,pl,b,fs,rfl,h⟩:=h;have hu:=hr.units;refine ⟨_,(Jab (Jak (i:=2) Jbt.nd rfl (Or.inr rfl) JbX)
   (Jab (JaY PassesOwn.leaving rfl (pi_U (BaV.m0 hr ⋯ pass1 (pv 0))) (Jax (i:=3) Jbt.nd rfl (Or.inl rfl))
   (Jah (JcC (hu1 hu) (pv 2) (pe_ix ix_U (pv 3) Jac (fun _ _=>rfl)) (pe_ix ix_U (pv 3) Jac (fun _ _=>rfl)) rfl)))
   (Jab (Jak (i:=4) Jbt.nd rfl (Or.inl rfl) (Ja5 Jad))
   (Jab (JaY PassesOwn.leaving rfl (pi_U (BcV.m0 hr ⋯ pass1 (pv 0))) (Jax (i:=5) Jbt.nd rfl (Or.inl rfl))
   (Jab (Jak (i:=6) Jbt.nd rfl (Or.inl rfl) (BdC.m hr ⋯ pass1 (pv 0) (Jaa (pe_ix ix_U (pv 5) Jac (fun _ _=>rfl)) Jad)))
   (Jab (ps_if (JaZ (BaF.ev hr ⋯ rfl pass1 (Jaa (pv 6) (Jaa (JcT (v:=.ref _) rfl T.Bdi T.Bdj) Jad)) (he:=by exact Jaf rfl)))
   (Jah ps_no)
   Jar)
   (Jab (Jak (i:=7) Jbt.nd rfl (Or.inl rfl) (JcB (Jg0 rfl) rfl T.n_dict JjK (Jaa (JiZ (own:=["name"]) (cs:=[(2,"weights")]) rfl (pi_U (BbQ.ev hr ⋯ rfl pass1 (Jaa (pv 0) (Jaa (pe_ix ix_U (pv 5) Jac (fun _ _=>rfl)) Jad)) (he:=by exact Jaf rfl))) (fun _ _ _ _=>(Jax (i:=0) (show [("name" : Str),("weights" : Str)].Nodup by decide) rfl (Or.inl rfl))) (fun _ _ _ _=>(JaB (Jaa (pv 0) (Jaa (Jcg (hu1 hu) (pv 1) (pv 0) (fun _ _=>rfl)) Jad)))) (JgF rfl) ⋯ rfl ⋯
   (hcs1 rfl rfl rfl)) Jad)))
   (Jah (Ja2 (pe_bm PySem.F.plainAttrs_list PySem.F.slot_list_append PySem.F.type_list_append Ja7 (pv 4) (Jaa (k_Lid.ev hr ⋯ rfl pass1 (Jaa (pe_ix ix_U (pv 5) Jac (fun _ _=>rfl)) (Jaa (Bb0.m hr ⋯ pass1 (pv 1) (Jaa (pv 6) Jad)) (Jaa (pv 7) Jad)))) Jad) (hs:=by exact Jaf rfl))))))))
   (Jah (Jap (pv 4))))))),?_⟩
 clear hu;obtain ⟨ht,d5,M,g4,k⟩:=h;obtain ⟨dx,d1,d2,d3,k1,k2,k3,hx,_⟩:=id ht;obtain ⟨f6,fl,d8,_,i4,sb,_⟩:=id d5;have sl:(1000:Nat)<=sizeLine:=by decide
 have j5:=M.l12;have l7:=M.l7;show tSeq _ _ _ [some (.ref x),some (.ref sc),none,none,none,none,none,none] H;nofun;rename_i wd e6 i6 H H1 S1 e1;nofun;refine ⟨x,_,dx,_,rfl,S1 _ _ hx,rfl,rfl,x,Y,_,rfl,ht.same S1,by ac_nf,fun l ys H2 S2 d9 e2 hY=>?_⟩;have lY:=hY.length;have h9:l≠wd:=fun z=>by rw [z,e1] at d9;cases d9
 have h4:=S1.trans S2;nofun;refine ⟨l,rfl,ForA.byLN (xs:=ys) (SqL.of e2) (fun i σ L=>i<=ys.length/\∃ (v3:Option V) (kv:List (Key × V)),σ=[some (.ref x),some (.ref sc),some (.ref wd),v3,none,none,none,none]/\(∀ c u,c≠wd->H2 c=some u->L c=some u)/\SameT H2 L/\L wd=some (.dK kv)/\BG (·.nm) (fun p v=>v=.int p.wt) (Y.take i) kv) ⟨Nat.zero_le _,none,[],rfl,fun _ _ _ h=>h,SameT.refl _,S2 _ _ e1,⟨rfl,rfl⟩⟩ (fun i σ L q=>by obtain ⟨_,_,_,_,q,_⟩:=q;exact SqL.of (q _ _ h9 e2)) ?_ ?_⟩
 ·rintro i y σ H3 O ⟨hi,v3,kv,rfl,ho,hT,a2,hB⟩ N0 b7;have li:=(List.getElem?_eq_some_iff.mp O).1;obtain ⟨p,hp,b_,vz,vm,rfl,hb,_,_⟩:=hY.at_ O;have lB:=hB.length;rw [length_take] at lB;have d0:=hb.sameT hT;nofun;refine ixT (i:=5) d0 rfl ?_;nofun;refine ixT (i:=0) d0 rfl ?_;refine ⟨wd,_,rfl,DPut.k (k:=Sum.inr p.nm) a2 ∅,?_⟩;generalize u4:upd H3 wd _=H4;nofun;have e4:=putE u4;have T4:SameT H3 H4:=SameT.put u4 a2 rfl;refine b7 _ _ ⟨li,_,_,rfl,fun c u Z h=>by rw [<- u4,Jag Z];exact ho c u Z h,hT.trans T4,e4,?_⟩;rw [take_succ,hp];exact hB.new (a:=p) (JhT M.nd hp) rfl
 ·rintro σ H3 ⟨hi,v3,kv,rfl,ho,hT,a2,hB⟩;rw [take_of_length_le ∅] at hB;have c9:Same H H3:=fun c u h=>ho c u (Jai h e6) (h4 _ _ h);nofun;refine ⟨len0,?_⟩;rename_i C a0 i2 H3 H4 S4 e4;nofun;have c0:=c9.trans S4;have X:H C=none:=JdQ c9 a0;refine ⟨x,_,dx,_,rfl,c0 _ _ hx,rfl,rfl,x,Y,_,rfl,ht.same c0,by rw [length_map];ac_nf,fun m zs H5 S5 e9 e5 hZ=>?_⟩;have lZ:=hZ.length;rw [length_map] at lZ;have h7:m≠C:=fun z=>by rw [z,e4] at e9;cases e9
  have c5:=c0.trans S5;have c8:=S5 _ _ (S4 _ _ a2);nofun;refine ⟨m,rfl,ForA.byLN (xs:=zs) (SqL.of e5) (fun i σ L=>i<=zs.length/\∃ (v5 v6 v7:Option V) (xs:List V) (J:List LidD),σ=[some (.ref x),some (.ref sc),some (.ref wd),v3,some (.ref C),v5,v6,v7]/\(∀ c u,c≠C->H5 c=some u->L c=some u)/\L C=some (.lst xs)/\All2 (LDV K Ad (cut C L)) J xs/\xs.Nodup/\(∀ v∈xs, ∃ q,v=.ref q/\H q=none/\L q≠none)/\J.length=i/\∀ (j:Nat) e l,es[j]?=some e->J[j]?=some l->LSt b Y pl e l) ⟨Nat.zero_le _,none,none,none,[],[],rfl,fun _ _ _ h=>h,S5 _ _ e4,rfl, .nil,(fun v hv=>by cases hv),rfl,fun j e l _ h=>by simp at h⟩ (fun i σ L q=>by obtain ⟨_,_,_,_,_,_,_,q,_⟩:=q;exact SqL.of (q _ _ h7 e5)) ?_ ?_⟩
  ·rintro i y σ H6 O ⟨hi,v5,v6,v7,xs,J,rfl,R,ex,hX,c4,a4,b9,b2⟩ N0 b7;have li:=(List.getElem?_eq_some_iff.mp O).1;have lX:=hX.length;obtain ⟨g,a5,a_,j3,j1,rfl,hb,_,_⟩:=hZ.at_ O;obtain ⟨e,c7,rfl⟩:∃ e,es[i]?=some e/\e.1=g:=by
    rw [List.getElem?_map] at a5;exact Option.map_eq_some_iff.mp a5
   have he:=List.mem_of_getElem? c7;have gm:e.1∈es.map (·.1):=mem_map.mpr ⟨e,he,rfl⟩;have a1:Same H H6:=fun c u h=>R c u (Jai h X) (c5 _ _ h);have g2:SameT H5 H6:=fun c u t h=>R c u (fun z=>by have:=S5 _ _ e4;rw [<- z,h] at this;cases this;simp [isTF] at t) h;have g0:wd≠C:=fun z=>by rw [<- z,a2] at a0;cases a0
   have e7:=R _ _ g0 c8;have c3:=hb.sameT g2;nofun;refine ⟨x,_,dx,_,rfl,a1 _ _ hx,rfl,rfl,?_⟩;refine ixT (i:=0) c3 rfl ?_;refine ⟨x,e.1.nm,Y,es.map (·.1),rfl,ht.same a1,fun z=>absurd (mem_map.mpr ⟨e.1,gm,rfl⟩) z,fun g' a5 hz=>?_⟩;have f7:=M.gn e he g' a5 hz;subst f7;refine ⟨pl,M.gn e he,fun p hp q hq h=>Jh5 M.nd hp hq h,M.pok,M.plb,M.pls,M.tok e he,fun v H7 S7 fv=>?_⟩;have rb:=M.rb e he;have l0:=JdC (a:=roomF pl e.1) (c:=(0,1)) rb.b1 ⋯;rw [Jbz] at l0;unfold lessF at l0;nofun;refine ⟨v, .ref Ad.ZERO,_,_,0,1,rfl,fv,⟨Ad.ZERO,rfl,T.Bdk _⟩,rb.s1.mono ⋯,rb.s2.mono ⋯, .lit ⋯ ⋯, .lit ⋯ ⋯,?_⟩;nofun;rw [if_neg (fun z=>absurd (l0.mp z) (Rat.not_lt.mpr (g4 e he)))];nofun;have i0:=a1.trans S7;refine ixT (i:=0) (c3.same S7) rfl ?_;refine ⟨x,Y,es.map (·.1),e.1,rfl,ht.same i0,M.nd,by ac_nf,gm,M.gn e he,fun nl w H8 S8 e8 hw b8=>?_⟩;have b6:=S7.trans S8;have e3:=b6 _ _ e7;have d4:∀ n∈w.map (·.1),n∈Y.map (·.nm):=fun n hn=>JeG (Jgj hw) n hn;have lw:w.length<=12:=by
    have:=sub_len (w.map (·.1)) (Y.map (·.nm)) b8 fun n hn=>d4 n hn;rw [length_map,length_map] at this;ac_nf
   nofun;refine ⟨nl,rfl, .inl ⟨⟨_,SqL.of e8⟩,CompJ.list (xs:=(w.map (·.1)).map V.str) (fun j qs L=>Same H8 L/\∃ (as:List Addr) (D:List (Str × Int)),qs=as.map V.ref/\as.length=D.length/\(∀ (i:Nat) (a:Addr) (p:Str × Int),as[i]?=some a->D[i]?=some p->L a=some (.tup [.str p.1, .int p.2]))/\D.map (·.1)=(w.map (·.1)).take j/\∀ y∈D, ∃ p∈Y,p.nm=y.1/\p.wt=y.2) ⟨Same.refl _,[],[],rfl,rfl,(fun i a p h=>by simp at h),rfl,(fun y O=>by cases O)⟩ (fun j qs L hj z=>by
    obtain ⟨z1,as,D,rfl,B,_,d,_⟩:=z;have:=congrArg List.length d;rw [length_map,length_take,length_map] at this;exact ⟨SqL.of (z1 _ _ e8),by rw [length_map];ac_nf⟩) ?_ ?_⟩⟩
   ·rintro j y' qs H9 S ⟨S9,as,D,rfl,b4,c2,o,b5⟩;have lj:=(List.getElem?_eq_some_iff.mp S).1;rw [length_map] at lj;rw [List.getElem?_map,List.getElem?_eq_getElem lj] at S;obtain ⟨n,hn⟩:∃ n,n=(w.map (·.1))[j]:=⟨_,rfl⟩;rw [<- hn] at S;have S:y'=.str n:=(Option.some.inj S).symm;subst S;have g6:n∈Y.map (·.nm):=d4 n (by rw [hn];exact List.getElem_mem lj);obtain ⟨p,v',f9,g7,hv,g1⟩:=hB.some (z:=n) g6;simpa only [length_singleton,length_cons,length_nil,List.replicate,JaF,map_cons,map_nil,Option.join_some];refine ⟨wd,_,rfl,by rw [<- hv];exact DGet.k (k:=Sum.inr n) (S9 _ _ e3),?_⟩;rw [g1];refine ⟨by show 2<=sizeLine;ac_nf,?_⟩;rename_i t j2 j4 H9 f0 U c1;nofun;refine ⟨S9.trans U,as++[t],D++[(n,p.wt)],by simp,by simp [b4],fun i' a' p' B d=>?_,?_,fun y O=>?_⟩
    ·rcases JbC B with B | ⟨q1,q2⟩
     ·rcases JbC d with d | ⟨q3,q4⟩
      ·exact U _ _ (c2 i' a' p' B d)
      ·have:=(List.getElem?_eq_some_iff.mp B).1;ac_nf
     ·rcases JbC d with d | ⟨q3,q4⟩
      ·have:=(List.getElem?_eq_some_iff.mp d).1;ac_nf
      ·rw [q2,q4];exact c1
    ·rw [map_append,o,take_succ,List.getElem?_eq_getElem lj, <- hn];rfl
    ·rcases mem_append.mp O with O | O
     ·exact b5 y O
     ·rw [mem_singleton.mp O];exact ⟨p,f9,g7,rfl⟩
   ·rintro qs H9 ⟨S9,as,D,rfl,b4,c2,o,b5⟩;rw [length_map,take_of_length_le (Nat.le_refl _)] at o;have i8:D.length<=12:=by have:=congrArg List.length o;rw [length_map,length_map] at this;ac_nf
    have f3:(D.map (·.1)).Nodup:=by rw [o];exact b8
    rename_i ql i7 i3 H9 f0 U c1;nofun;refine ⟨ql,as,D.map fun p=>(p.1,V.int p.2),rfl,c1,by rw [length_map];exact b4,fun i' a' p' B d=>?_,?_⟩
    ·rw [List.getElem?_map] at d;obtain ⟨g8,h3,rfl⟩:=Option.map_eq_some_iff.mp d;exact U _ _ (c2 i' a' g8 B h3)
    have g9:JdF (D.map fun p=>(p.1,V.int p.2))=wsK D:=by
     rw [Jh4 (by rw [map_map];exact f3),map_map];rfl
    rw [g9];rename_i od a8 i5 f0 j0 h0 f4;nofun;have b0:=S9.trans (U.trans h0);have r:=b6.trans b0;have f5:=a1.trans r;have d7:=r _ _ ex;refine ⟨.inl ⟨rfl,_,SqL.of d7⟩,?_⟩;refine ixT (i:=0) (c3.same r) rfl ?_;refine ⟨sc,_,f6,_,rfl,f5 _ _ d8,rfl,rfl,?_⟩;refine ⟨sc,v,roomF pl e.1,b,fs,rfl,d5.same f5,FrV.same (S8.trans b0) fv,rb.mono ⋯ ⋯,fun pr t b3 a7 h6 hL=>?_⟩;nofun;intro q dq hq h5 i1;have e0:Same b3 (upd (upd b3 dq (.own q)) q (.ins Ad.Lid dq [])):=fun b u z=>by rw [Jag (Jai z hq),Jag (Jai z h5)];exact z
    refine ⟨q,dq,od,e.1.nm, .ref pr,D,rfl,Jaj,e0 _ _ (a7 _ _ f4),fun a3 f2 h8=>⟨rfl,?_⟩⟩;have G:Same b3 a3:=fun b u z=>by rw [h8 b (Jai z hq)];exact e0 _ _ z
    have N:=r.trans (a7.trans G);have a9:=N _ _ ex;have a6:H6 q=none:=JdQ (r.trans a7) hq;refine ⟨C,xs,_,rfl,rfl,a9,by ac_nf,?_⟩;generalize W:upd a3 C _=d6;nofun;have f1:=putE W;have ec:cut C d6=cut C a3:=by rw [<- W];exact Jf0
    have c6:q≠C:=fun z=>by rw [z,ex] at a6;cases a6
    have f8:od≠C:=fun z=>by rw [z,(b6.trans (S9.trans U)) _ _ ex] at a8;cases a8
    refine b7 _ _ ⟨li,_,_,_,xs++[.ref q],J++[⟨e.1.nm,t,D,(D.map (·.2)).sum,(0,1)⟩],rfl,fun c u Z h=>by rw [<- W,Jag Z];exact N _ _ (R c u Z h),f1,?_,?_,fun v' I=>?_,by simp [b9],fun j e' l' B d=>?_⟩
    ·rw [ec];refine (hX.mono (P':=LDV K Ad (cut C a3)) fun _ _ z=>z.same N.cut).append (.one ⟨q,dq, .ref pr, .ref Ad.ZERO,od,rfl,?_,?_,⟨Ad.ZERO,rfl,T.Bdk _⟩,?_⟩)
     ·rw [JbG c6];exact f2
     ·exact (FrV.of (G _ _ h6)).cut a9
     ·rw [JbG f8];exact G _ _ (a7 _ _ f4)
    ·refine nodup_append.mpr ⟨c4,by simp,fun u hu v' I z=>?_⟩;rw [mem_singleton.mp I] at z;obtain ⟨q',B,_,d⟩:=a4 u hu;rw [B] at z;cases z;exact d a6
    ·have g5:∀ c,H6 c≠none->d6 c≠none:=fun c h=>by
      by_cases cc:c=C
      ·rw [cc,f1];intro y;cases y
      ·cases hh:H6 c with
       | none=>exact absurd hh h
       | some u=>rw [<- W,Jag cc,N _ _ hh];intro y;cases y
     rcases mem_append.mp I with I | I
     ·obtain ⟨q',B,d,h3⟩:=a4 v' I;exact ⟨q',B,d,g5 q' h3⟩
     ·rw [mem_singleton.mp I];exact ⟨q,rfl,JdQ a1 a6,by rw [<- W,Jag c6,f2];intro y;cases y⟩
    ·rcases JbC d with d | ⟨q1,q2⟩
     ·exact b2 j e' l' B d
     ·rw [q1,b9,c7] at B;cases B;rw [q2];exact ⟨rfl,hL.vl rb.b1,(hL.fb rb sb).mono ⋯ ⋯,by rw [o];exact (M.way e he w hw b8).symm,f3,b5,rfl,rfl⟩
  ·rintro σ H6 ⟨hi,v5,v6,v7,xs,J,rfl,R,ex,hX,c4,a4,b9,b2⟩;nofun;exact k C xs J H6 (fun c u h=>R c u (Jai h X) (c5 _ _ h)) X ex (hX.mono fun _ _ z=>z.same Jc4) c4 (fun v hv=>by obtain ⟨q,B,d,_⟩:=a4 v hv;exact ⟨q,B,d⟩) ∅ b2
abbrev BaC:Stmt:=top 34
theorem Jb3:Jan ["thing","scale","told","part"] ["thing","scale"] (Jae BaC):=by bv_decide
def Jb6 (K:W.Frag) (Ad:Adr):Sp:=fun vs H Q E=>∃ (x sc:Addr) (ls:List PD) (gs:List GD) (b:Int) (fs:List Int),vs=[.ref x, .ref sc]/\TK K Ad H x ls gs/\SCK Ad H sc b fs/\ls.length<=12/\(ls.map (·.nm)).Nodup/\(∀ p∈ls,FB 200 12 p.mo/\1<=p.wt/\Mth.Sz 21 p.wt)/\∀ md kv ms H',Same H H'->H md=none->H' md=some (.dK kv)->BG (·.1) (NFV K H') ms kv->ms.length=ls.length->(∀ (i:Nat) p m,ls[i]?=some p->ms[i]?=some m->MSt b p m)->Q (.ref md) H'
theorem Jer (F:FunD K "most_levels" "most_levels" BaC dV f fd) (T:Txt K mg Ad) (BaV:MCal P w K mg base 2 "parts" (Jbb Ad) ["self"] (Ja0 K Ad)) (Bb0:MCal P w K mg base 2 "lifted" (Jdo Ad) ["self","number"] (Jbo K Ad)) (BcW:Cal P w K mg base 3 "over" ["one","other"] [] (Jfh K Ad)):FnOk P w K mg base (CX1 P w) 4 f fd ["thing","scale"] (Jb6 K Ad):=by
 refine F.okn Jb3 (by subst_eqs) (fun b0 A a2 s H vs Q E Z h=>?_)
 obtain ⟨x,W,ls,gs,b,fs,rfl,h⟩:=h;have hu:=Z.units;refine ⟨_,(Jab (Jak (i:=2) Jb3.nd rfl (Or.inl rfl) JbX)
   (Jab (JaY PassesOwn.never rfl (pi_U (BaV.m0 Z ⋯ passF (pv 0))) (Jax (i:=3) Jb3.nd rfl (Or.inl rfl))
   (Jah (JcC (hu1 hu) (pv 2) (pe_ix ix_U (pv 3) Jac (fun _ _=>rfl)) (BcW.ev Z ⋯ rfl passF (Jaa (Bb0.m Z ⋯ passF (pv 1) (Jaa (pe_ix ix_U (pv 3) Jac (fun _ _=>rfl)) Jad)) (Jaa (JaB (Jaa (pe_ix ix_U (pv 3) Jac (fun _ _=>rfl)) (Jaa Jac Jad))) Jad)) (he:=by exact Jaf rfl)) rfl)))
   (Jah (Jap (pv 2))))),?_⟩
 clear hu;obtain ⟨ht,N,b2,a5,a4,k⟩:=h;obtain ⟨dx,d1,d2,d3,k1,k2,k3,hx,_⟩:=id ht;obtain ⟨a0,fl,R,_,M,sb,_⟩:=id N;have sl:(1000:Nat)<=sizeLine:=by decide
 have b1:=M.b1;show tSeq _ _ _ [some (.ref x),some (.ref W),none,none] H;nofun;rename_i B n a8 H H1 S1 e1;nofun;refine ⟨x,_,dx,_,rfl,S1 _ _ hx,rfl,rfl,x,ls,_,rfl,ht.same S1,by ac_nf,fun l ys H2 S2 S e2 hY=>?_⟩;have lY:=hY.length;have a6:l≠B:=fun z=>by rw [z,e1] at S;cases S
 have U:=S1.trans S2;nofun;refine ⟨l,rfl,ForA.byLN (xs:=ys) (SqL.of e2) (fun i σ L=>i<=ys.length/\∃ (v3:Option V) (G:List (Key × V)) (r:List (Str × Fr2)),σ=[some (.ref x),some (.ref W),some (.ref B),v3]/\(∀ c u,c≠B->H2 c=some u->L c=some u)/\SameT H2 L/\L B=some (.dK G)/\BG (·.1) (NFV K L) r G/\r.map (·.1)=(ls.take i).map (·.nm)/\∀ (j:Nat) p m,ls[j]?=some p->r[j]?=some m->MSt b p m) ⟨Nat.zero_le _,none,[],[],rfl,fun _ _ _ h=>h,SameT.refl _,S2 _ _ e1,⟨rfl,rfl⟩,rfl,fun j p m _ h=>by simp at h⟩ (fun i σ L q=>by obtain ⟨_,_,_,_,_,q,_⟩:=q;exact SqL.of (q _ _ a6 e2)) ?_ ?_⟩
 ·rintro i y σ H3 hy ⟨hi,v3,G,r,rfl,X,hT,v,Y,d,D⟩ N0 a1;have li:=(List.getElem?_eq_some_iff.mp hy).1;obtain ⟨p,hp,b_,vz,vm,rfl,hb,_,hm⟩:=hY.at_ hy;obtain ⟨mb,w1,ws⟩:=a4 p (List.mem_of_getElem? hp);have lB:=Y.length;have a3:r.length=i:=by have:=congrArg List.length d;rw [length_map,length_map,length_take] at this;ac_nf
  have C:=hb.sameT hT;have J:Same H H3:=fun c u h=>X c u (Jai h n) (U _ _ h);nofun;refine ⟨W,_,a0,_,rfl,J _ _ R,rfl,rfl,?_⟩;refine ixT (i:=4) C rfl ?_;refine ⟨W,vm,p.mo,b,fs,rfl,N.same J,hm.sameT hT,mb.mono ⋯ ⋯,fun pr t H4 S4 e4 hL=>?_⟩;nofun;refine ixT (i:=5) (C.same S4) rfl ?_;nofun;refine ⟨len2,?_⟩;rename_i wp a9 a7 H4 H5 S5 e5;nofun;have o:=hL.fb mb sb;refine ⟨.ref pr, .ref wp,_,_,p.wt,1,rfl,FrV.of (S5 _ _ e4),FrV.of e5,o.s1.mono ⋯,o.s2.mono ⋯,ws.mono ⋯, .lit ⋯ ⋯,o.b1,by decide,o.g1,by unfold Mth.g;simp,fun z=>absurd z ∅,fun _ p2 H6 S6 e6=>?_⟩;have e6:H6 p2=some (.tup [.int (divF t (p.wt,1)).1, .int (divF t (p.wt,1)).2]):=e6;have e:=S4.trans (S5.trans S6);nofun;refine ixT (i:=0) (C.same e) rfl ?_;refine ⟨B,_,rfl,DPut.k (k:=Sum.inr p.nm) (e _ _ v) ∅,?_⟩;generalize u7:upd H6 B _=H7;nofun;have e7:=putE u7;have T7:SameT H6 H7:=SameT.put u7 (e _ _ v) rfl;have I:SameT H3 H7:=e.t.trans T7;have nn:p.nm∉r.map (·.1):=by rw [d];exact JhT a5 hp
  refine a1 _ _ ⟨li,_,_,r++[(p.nm,divF t (p.wt,1))],rfl,fun c u O h=>by rw [<- u7,Jag O];exact e _ _ (X c u O h),hT.trans I,e7,?_,?_,fun j p' m' h1 h2=>?_⟩
  ·exact (Y.mono (P':=NFV K H7) fun _ _ z=>z.sameT I).new (a:=(p.nm,divF t (p.wt,1))) nn (FrV.of (T7 _ _ rfl e6))
  ·rw [map_append,d,take_succ,hp,map_append];rfl
  ·rcases JbC h2 with h2 | ⟨q1,q2⟩
   ·exact D j p' m' h1 h2
   ·rw [q1,a3,hp] at h1;cases h1;rw [q2];have dl:=JjP (a:=t) (c:=(p.wt,1)) o.b1 w1;refine ⟨rfl,?_,?_,?_,dl.b1,dl.g1⟩
    ·show vl (divF t (p.wt,1))=_;rw [JjA o.b1 w1 (Int.le_refl 1),JfU,hL.vl mb.b1]
    ·exact Mth.Sz.top (by have:=Jbh o.b1 w1;show t.2*p.wt≠0;ac_nf) (by rw [Int.mul_one];exact o.s1)
    ·exact (Mth.Sz.bot (t:=t.1*1) (b:=t.2*p.wt) (by have:=Jbh o.b1 w1;ac_nf) (o.s2.mul ws)).mono ⋯
 ·rintro σ H3 ⟨hi,v3,G,r,rfl,X,hT,v,Y,d,D⟩;rw [take_of_length_le ∅] at d;nofun;exact k B G r H3 (fun c u h=>X c u (Jai h n) (U _ _ h)) n v Y (by simpa using congrArg List.length d) D
abbrev Bav:Stmt:=top 35
theorem JbM:Jan ["mosts","lids","levels","stops","lid"] ["mosts","lids","levels"] (Jae Bav):=by bv_decide
def JbR (K:W.Frag) (Ad:Adr):Sp:=fun vs H Q E=>∃ (md ll ld:Addr) (kvm:List (Key × V)) (ms:List (Str × Fr2)) (xs:List V) (lds:List LidD) (kvl:List (Key × V)) (lvs:List (Str × Fr2)),vs=[.ref md, .ref ll, .ref ld]/\H md=some (.dK kvm)/\BG (·.1) (NFV K H) ms kvm/\H ll=some (.lst xs)/\All2 (LDV K Ad H) lds xs/\H ld=some (.dK kvl)/\BG (·.1) (NFV K H) lvs kvl/\ms.length<=12/\lds.length<=7/\(∀ e∈lds,FB 3000 1000 e.rest/\Mth.Sz 64 e.load/\e.ws.length<=12)/\(ms.map (·.1)).Nodup/\∀ sl ys H',Same H H'->H' sl=some (.lst ys)->All2 (StV K H') (stF ms lds (lvs.map (·.1))) ys->Q (.ref sl) H'
theorem Jd5 (F:FunD K "coming_stops" "coming_stops" Bav dV f fd) (T:Txt K mg Ad) (m_full_level:MCal P w K mg base 4 "full_level" (IsLid Ad) ["self"] (Jbu K Ad)):FnOk P w K mg base (CX1 P w) 5 f fd ["mosts","lids","levels"] (JbR K Ad):=by
 refine F.okn JbM (by subst_eqs) (fun e1 A c6 s H vs Q E hr h=>?_)
 obtain ⟨r,ll,ld,c,ms,xs,L,d2,a,rfl,h⟩:=h;have hu:=hr.units;refine ⟨_,(Jab (Jkq (Jec (j:=3) (own:=["name"]) (cs:=[(0,"mosts"),(2,"levels")]) JbM.nd rfl (Or.inl rfl) rfl (Jia (pv 0)) (fun _ _ _ _=>(Jax (i:=0) (show [("name" : Str),("mosts" : Str),("levels" : Str)].Nodup by decide) rfl (Or.inl rfl))) (fun _ _ _ _=>(Jed (Jdd (hu1 hu) (pv 0) (pv 2)) (by with_unfolding_all rfl))) (fun _ _ _ _=>(JaB (Jaa (Jcg (hu1 hu) (pv 1) (pv 0) (fun _ _=>rfl)) (Jaa (Ja5 (Jaa (pv 0) Jad)) Jad)))) (JgF rfl) ⋯ rfl ⋯ (hcs2 rfl rfl rfl rfl rfl rfl)))
   (Jab (JaY PassesOwn.never rfl (pi_U (pv 1)) (Jax (i:=4) JbM.nd rfl (Or.inl rfl))
   (Jah (ps_if (Jav JgK (Jaq (pv 4) rfl) Jac (Jas _))
   (Jah (Ja2 (pe_bm PySem.F.plainAttrs_list PySem.F.slot_list_append PySem.F.type_list_append Ja7 (pv 3) (Jaa (JaB (Jaa (m_full_level.m0 hr ⋯ passF (pv 4)) (Jaa (Jgk (Jh6 (own:=["name"]) (cs:=[(2,"levels")]) rfl (Jia (Jaq (pv 4) rfl)) (fun _ _ _ _=>(Jax (i:=0) (show [("name" : Str),("levels" : Str)].Nodup by decide) rfl (Or.inl rfl))) (fun _ _ _ _=>(Jed (Jdd (hu1 hu) (pv 0) (pv 1)) (by with_unfolding_all rfl))) (fun _ _ _ _=>(pv 0)) (JgF rfl) ⋯ rfl ⋯ (hcs1 rfl rfl rfl))) Jad))) Jad) (hs:=by exact Jaf rfl))))
   Jar)))
   (Jah (Jap (pv 3))))),?_⟩
 clear hu;obtain ⟨hm,bm,hl,hX,hv,bl,d6,l7,c4,c9,k⟩:=h;have sz:(1000:Nat)<=sizeLine:=by decide
 have lX:=hX.length;show tSeq _ _ _ [some (.ref r),some (.ref ll),some (.ref ld),none,none] H;and_intros;refine ⟨r,c,hm,r,c,ms.map (·.1),rfl,hm,bm.keysS,fun od=>?_⟩;generalize uf:upd H r (.frz od (.dK c))=H1;and_intros;have f1:H1 r=some (.frz od (.dK c)):=by rw [<- uf,Jaj]
 have t1:thw r c H1=H:=by rw [<- uf];exact Jiu hm
 refine Jcx.keys (fun i ys C=>C r=some (.frz od (.dK c))/\Same H (thw r c C)/\All2 (StV K (thw r c C)) (((ms.take i).filter fun m=>decide (m.1∉a.map (·.1))).map fun m=>(m.2,[m.1])) ys) ⟨f1,by rw [t1];exact Same.refl _,rfl⟩ (fun i ys C hi z=>⟨z.1,by
  have h1:=z.2.2.length;rw [length_map] at h1;have h2:=List.length_filter_le (fun m:Str × Fr2=>decide (m.1∉a.map (·.1))) (ms.take i);rw [length_take] at h2;ac_nf⟩) ?_ ?_
 ·rintro i z ys H2 hz ⟨I,Y,hA⟩;rw [List.getElem?_map] at hz;obtain ⟨m,S,a1⟩:=Option.map_eq_some_iff.mp hz;have a1:m.1=z:=a1;subst a1;have b3:=List.mem_of_getElem? S;simpa only [length_singleton,length_cons,length_nil,List.replicate,JaF,map_cons,map_nil,Option.join_some];refine ⟨ld,_,rfl,Jiv (k:=Sum.inr m.1) I (Y _ _ hv),?_⟩;rw [bl.val];by_cases g:m.1∈a.map (·.1)
  ·rw [decide_eq_true g];and_intros;refine ⟨I,Y,?_⟩;rw [take_succ,S,filter_append,map_append];have : [m].filter (fun m=>decide (m.1∉a.map (·.1)))=[]:=List.filter_eq_nil_iff.mpr fun x G=>by rw [mem_singleton.mp G];simpa using g
   rw [show (some m).toList=[m] from rfl,this,map_nil,append_nil];exact hA
  ·rw [decide_eq_false g];and_intros;obtain ⟨a',v,c5,c8,c2,d7⟩:=bm.some (z:=m.1) (mem_map.mpr ⟨m,b3,rfl⟩);have ea:=JgC c9 c5 b3 c8;subst ea;refine ⟨r,v,rfl,by rw [<- c2];exact DGet.f (k:=Sum.inr a'.1) I,?_⟩;and_intros;refine ⟨by show 1<=sizeLine;ac_nf,?_⟩;rename_i l b0 d5 H2 H3 S3 e3;and_intros;refine ⟨by show 2<=sizeLine;ac_nf,?_⟩;rename_i t c7 d4 H3 H4 S4 e4;and_intros;have b2:=S3.trans S4;have f4:=b2 _ _ I;have St:=Jfl (d:=r) (kv:=c) b2;refine ⟨f4,Y.trans St,?_⟩;rw [take_succ,S,filter_append,map_append];have : [a'].filter (fun m=>decide (m.1∉a.map (·.1)))=[a']:=List.filter_eq_self.mpr fun x G=>by rw [mem_singleton.mp G];simpa using g
   rw [show (some a').toList=[a'] from rfl,this];exact (hA.mono (P':=StV K (thw r c H4)) fun _ _ z=>z.same St).append (.one ⟨t,v,l,rfl,SqT.of (JgU f4 e4 (by intro o w z;cases z)),FrV.same (Y.trans St) d7,JgU f4 (S4 _ _ e3) (by intro o w z;cases z)⟩)
 ·rintro ys H2 ⟨I,Y,hA⟩;rw [length_map,take_of_length_le (Nat.le_refl _)] at hA;rename_i B R d8 H2 H3 S3 e3;and_intros;refine ⟨od,c,S3 _ _ I,?_⟩;obtain ⟨H4,a2⟩:∃ H4,H4=thw r c H3:=⟨_,rfl⟩;rw [show upd H3 r (.dK c)=H4 from a2.symm];and_intros;have St:=Jfl (d:=r) (kv:=c) S3;rw [<- a2] at St;have b1:=Y.trans St;have e4:H4 B=some (.lst ys):=by rw [a2];exact JgU (S3 _ _ I) e3 (by intro o w z;cases z)
  have N:H B=none:=JdQ Y (Jfk I R);have c1:All2 (StV K (cut B H4)) ((ms.filter fun m=>decide (m.1∉a.map (·.1))).map fun m=>(m.2,[m.1])) ys:=hA.mono fun _ _ z=>z.same fun b u h=>by
   rw [JbG (fun y=>by rw [y,Jfk I R] at h;cases h)];exact St b u h
  have d9:(ms.filter fun m=>decide (m.1∉a.map (·.1))).length<=12:=Nat.le_trans (List.length_filter_le _ _) d6;have e2:ll≠B:=fun z=>by rw [z,N] at hl;cases hl
  refine ⟨ll,rfl,ForA.byLN (xs:=xs) (SqL.of (b1 _ _ hl)) (fun i σ C=>i<=xs.length/\∃ (v4:Option V) (O:List V) (U:List (Fr2 × List Str)),σ=[some (.ref r),some (.ref ll),some (.ref ld),some (.ref B),v4]/\Same H C/\C B=some (.lst O)/\All2 (StV K (cut B C)) U O/\U.length<=12+i/\U=(ms.filter fun m=>decide (m.1∉a.map (·.1))).map (fun m=>(m.2,[m.1]))++((L.take i).filter fun e=>decide (0<e.load)).map fun e=>(divF e.rest (e.load,1),(e.ws.map (·.1)).filter fun n=>decide (n∉a.map (·.1)))) ⟨Nat.zero_le _,none,ys,_,rfl,b1,e4,c1,by rw [length_map];ac_nf,by rw [take_zero];simp⟩ (fun i σ C q=>by obtain ⟨_,_,_,_,_,q,_⟩:=q;exact SqL.of (q _ _ hl)) ?_ ?_⟩
  ·rintro i y σ H5 hy ⟨hi,v4,O,U,rfl,S5,ez,hZ,b9,D⟩ N0 a6;have li:=(List.getElem?_eq_some_iff.mp hy).1;obtain ⟨e,a8,hd⟩:=hX.at_ hy;have d0:=List.mem_of_getElem? a8;obtain ⟨c3,d1,e5⟩:=c4 e d0;have b5:=hd.same S5;obtain ⟨q,dx,vr,vt,M,rfl,hq,hr,e0,hw⟩:=id b5;have tc:=T.c_Lid Ad.Lid rfl;have lZ:=hZ.length;and_intros;refine ⟨q,_,dx,_, .int e.load,rfl,hq,tc.cls,tc.n4,rfl,?_⟩;and_intros;have a7:L.take (i+1)=L.take i++[e]:=by rw [take_succ,a8];rfl
   by_cases c0:0<e.load
   ·rw [if_pos (by simpa using c0)];and_intros;refine ⟨.inl ⟨rfl,_,SqL.of ez⟩,?_⟩;refine ⟨q,_,dx,_,rfl,hq,rfl,rfl,?_⟩;refine ⟨q,e,rfl,b5,c3,by ac_nf,d1,fun p H6 S6 e6=>?_⟩;and_intros;have a0:=S6 _ _ hw;refine ⟨M,_,a0,q,_,dx,_, .ref M,rfl,S6 _ _ hq,tc.cls,tc.n3,rfl,M,wsK e.ws,e.ws.map (·.1),rfl,a0,Jje e.ws,fun Z=>?_⟩;generalize ug:upd H6 M (.frz Z (.dK (wsK e.ws)))=H7;and_intros;have f7:H7 M=some (.frz Z (.dK (wsK e.ws))):=by rw [<- ug,Jaj]
    have t7:thw M (wsK e.ws) H7=H6:=by rw [<- ug];exact Jiu a0
    have b8:=S5.trans S6;refine Jcx.keys (fun j qs C=>C=H7/\qs=(((e.ws.map (·.1)).take j).filter fun n=>decide (n∉a.map (·.1))).map V.str) ⟨rfl,by rw [take_zero];rfl⟩ (fun j qs C hj z=>⟨by rw [z.1];exact f7,by
     rw [z.2,length_map];have h2:=List.length_filter_le (fun n:Str=>decide (n∉a.map (·.1))) ((e.ws.map (·.1)).take j);rw [length_take,length_map] at h2;ac_nf⟩) ?_ ?_
    ·rintro j z qs H8 hz ⟨a4,J⟩;subst a4;subst J;simpa only [length_singleton,length_cons,length_nil,List.replicate,JaF,map_cons,map_nil,Option.join_some];refine ⟨ld,_,rfl,Jiv (k:=Sum.inr z) f7 (by rw [t7];exact b8 _ _ hv),?_⟩;rw [bl.val];have a9:(e.ws.map (·.1)).take (j+1)=(e.ws.map (·.1)).take j++[z]:=by rw [take_succ,hz];rfl
     by_cases g:z∈a.map (·.1)
     ·rw [decide_eq_true g];and_intros;rw [a9,filter_append,show [z].filter (fun n=>decide (n∉a.map (·.1)))=[] from List.filter_eq_nil_iff.mpr fun x G=>by rw [mem_singleton.mp G];simpa using g,append_nil]
     ·rw [decide_eq_false g];and_intros;rw [a9,filter_append,show [z].filter (fun n=>decide (n∉a.map (·.1)))=[z] from List.filter_eq_self.mpr fun x G=>by rw [mem_singleton.mp G];simpa using g,map_append];rfl
    ·rintro qs H8 ⟨a4,J⟩;subst a4;rw [take_of_length_le (Nat.le_refl _)] at J;subst J;rename_i l b0 d5 H8 H9 S9 e9;and_intros;refine ⟨Z,_,S9 _ _ f7,?_⟩;obtain ⟨HA,W⟩:∃ HA,HA=thw M (wsK e.ws) H9:=⟨_,rfl⟩;rw [show upd H9 M (.dK (wsK e.ws))=HA from W.symm];have Su:=Jfl (d:=M) (kv:=wsK e.ws) S9;rw [t7, <- W] at Su;have eA:HA l=some (.lst (((e.ws.map (·.1)).filter fun n=>decide (n∉a.map (·.1))).map V.str)):=by rw [W];exact JgU (S9 _ _ f7) e9 (by intro o w z;cases z)
     and_intros;refine ⟨len2,?_⟩;rename_i t c7 d4 HA HB SB eB;and_intros;have X:=S6.trans (Su.trans SB);have a5:=X _ _ ez;refine ⟨B,O,_,rfl,rfl,a5,by ac_nf,?_⟩;generalize a3:upd HB B _=b7;and_intros;have d3:=putE a3;have ec:cut B b7=cut B HB:=by rw [<- a3];exact Jf0
     have b4:H6 l=none:=by rw [<- t7];exact Jfk f7 b0
     have b6:l≠B:=fun z=>by rw [z,S6 _ _ ez] at b4;cases b4
     refine a6 _ _ ⟨li,_,O++[.ref t],U++[(divF e.rest (e.load,1),(e.ws.map (·.1)).filter fun n=>decide (n∉a.map (·.1)))],rfl,fun b u h=>by rw [<- a3,Jag (Jai h N)];exact X _ _ (S5 _ _ h),d3,?_,by simp;ac_nf,?_⟩
     ·rw [ec];refine (hZ.mono (P':=StV K (cut B HB)) fun _ _ z=>z.same X.cut).append (.one ⟨t, .ref p,l,rfl,SqT.cut a5 (SqT.of eB),FrV.cut a5 (FrV.of (SB _ _ (Su _ _ e6))),?_⟩);rw [JbG b6];exact SB _ _ eA
     ·rw [D,a7,filter_append,show [e].filter (fun e=>decide (0<e.load))=[e] from List.filter_eq_self.mpr fun x G=>by rw [mem_singleton.mp G];simpa using c0,map_append, <- List.append_assoc];rfl
   ·rw [if_neg (by simpa using c0)];and_intros;refine a6 _ _ ⟨li,_,O,U,rfl,S5,ez,hZ,by ac_nf,?_⟩;rw [D,a7,filter_append,show [e].filter (fun e=>decide (0<e.load))=[] from List.filter_eq_nil_iff.mpr fun x G=>by rw [mem_singleton.mp G];simpa using c0,append_nil]
  ·rintro σ H5 ⟨hi,v4,O,U,rfl,S5,ez,hZ,b9,D⟩;rw [take_of_length_le ∅] at D;and_intros;refine k B O H5 S5 ez ?_;unfold stF;rw [<- D];exact hZ.mono fun _ _ z=>z.cut
abbrev BaD:Stmt:=top 36
theorem JbA:Jan ["stops","found","stop"] ["stops"] (Jae BaD):=by bv_decide
def Jb5 (K:W.Frag):Sp:=fun vs H Q E=>∃ (sl:Addr) (ys:List V) (st:List (Fr2 × List Str)),vs=[.ref sl]/\SqL K H sl ys/\All2 (StV K H) st ys/\st≠[]/\(∀ s∈st,FB 3000 1200 s.1)/\∀ v (L:Fr2),L∈st.map (·.1)->(∀ s∈st,vl L<=vl s.1)->FrV K H v L.1 L.2->Q v H
theorem Jep (F:FunD K "first_level" "first_level" BaD dV f fd) (T:Txt K mg Ad) (BaF:Cal P w K mg base 1 "under" ["one","other"] [] (Jcr K)):FnOk P w K mg base (CX1 P w) 2 f fd ["stops"] (Jb5 K):=by
 refine F.okn JbA (by subst_eqs) (fun a1 A a0 s H vs Q E hr h=>?_)
 obtain ⟨p,G,D,rfl,h⟩:=h;refine ⟨_,(Jab (Jak (i:=1) JbA.nd rfl (Or.inl rfl) (pe_ix ix_U (pe_ix ix_U (pv 0) Jac (fun _ _=>rfl)) Jac (fun _ _=>rfl)))
   (Jab (JaY PassesOwn.never rfl (pi_U (pv 0)) (Jax (i:=2) JbA.nd rfl (Or.inl rfl))
   (Jah (ps_if (JaZ (BaF.ev hr ⋯ rfl passF (Jaa (pe_ix ix_U (pv 2) Jac (fun _ _=>rfl)) (Jaa (pv 1) Jad)) (he:=by exact Jaf rfl)))
   (Jah (Jak (i:=1) JbA.nd rfl (Or.inl rfl) (pe_ix ix_U (pv 2) Jac (fun _ _=>rfl))))
   Jar)))
   (Jah (Jap (pv 1))))),?_⟩
 obtain ⟨C,I,S,n,k⟩:=h;have lA:=I.length;obtain ⟨g,r,rfl⟩:∃ g r,D=g::r:=by cases D with | nil=>exact absurd rfl S | cons a b=>exact ⟨a,b,rfl⟩
 obtain ⟨y0,W,t0,v0,l0,rfl,X,R,_⟩:=I.get (i:=0) rfl;show tSeq _ _ _ [some (.ref p),none,none] H;nofun;refine ixL (i:=0) C W ?_;nofun;refine ixT (i:=0) X rfl ?_;nofun;refine ⟨p,rfl,ForA.byLN (xs:=G) C (fun i σ x=>i<=G.length/\x=H/\∃ (v:V) (L:Fr2) (J:Option V),σ=[some (.ref p),some v,J]/\FrV K H v L.1 L.2/\L∈(g::r).map (·.1)/\∀ s∈(g::r).take i,vl L<=vl s.1) ⟨Nat.zero_le _,rfl,v0,g.1,none,rfl,R,by simp,(fun s j=>by simp at j)⟩ (fun i σ x q=>by rw [q.2.1];exact C) ?_ ?_⟩
 ·rintro i y σ x hy ⟨hi,rfl,v,L,J,rfl,u,B,d⟩ N0 m;have li:=(List.getElem?_eq_some_iff.mp hy).1;obtain ⟨s,j,t,w,l,rfl,ht,hw,_⟩:=I.at_ hy;have N:=n s (List.mem_of_getElem? j);obtain ⟨sL,O,Y⟩:=mem_map.mp B;have M:FB 3000 1200 L:=Y ▸ n sL O;have o:(g::r).take (i+1)=(g::r).take i++[s]:=by rw [take_succ,j];rfl
  have Z:=JdC (a:=s.1) (c:=L) N.b1 M.b1;unfold lessF at Z;nofun;refine ixT (i:=0) ht rfl ?_;refine ⟨w,v,_,_,_,_,rfl,hw,u,N.s1.mono ⋯,N.s2.mono ⋯,M.s1.mono ⋯,M.s2.mono ⋯,?_⟩;nofun;by_cases c:decide (s.1.1*L.2<L.1*s.1.2)=true
  ·rw [if_pos c];nofun;refine ixT (i:=0) ht rfl ?_;nofun;have lt:=Z.mp c;refine m _ _ ⟨li,rfl,w,s.1,_,rfl,hw,mem_map.mpr ⟨s,List.mem_of_getElem? j,rfl⟩,fun U e=>?_⟩;rw [o] at e;rcases mem_append.mp e with h | h
   ·exact Rat.le_trans (Rat.le_of_lt lt) (d U h)
   ·rw [mem_singleton.mp h];exact Rat.le_refl
  ·rw [if_neg c];nofun;refine m _ _ ⟨li,rfl,v,L,_,rfl,u,B,fun U e=>?_⟩;rw [o] at e;rcases mem_append.mp e with h | h
   ·exact d U h
   ·rw [mem_singleton.mp h];exact Rat.not_lt.mp fun z=>c (Z.mpr z)
 ·rintro σ x ⟨hi,rfl,v,L,J,rfl,u,B,d⟩;rw [take_of_length_le ∅] at d;nofun;exact k v L B d u
abbrev BaM:Stmt:=top 37
theorem JbJ:Jan ["stops","level","names","stop","name"] ["stops","level"] (Jae BaM):=by bv_decide
def Jcq (K:W.Frag):Sp:=fun vs H Q E=>∃ (sl:Addr) (lv:V) (ys:List V) (st:List (Fr2 × List Str)) (L:Fr2) (N:List Str),vs=[.ref sl,lv]/\SqL K H sl ys/\All2 (StV K H) st ys/\FrV K H lv L.1 L.2/\N.length<=20/\(∀ s∈st, ∀ n∈s.2,n∈N)/\∀ (l:Addr) (ns:List Str) (H':Hp),Same H H'->H' l=some (.lst (ns.map V.str))->ns.Nodup->(∀ n,n∈ns↔∃ s∈st,s.1=L/\n∈s.2)->Q (.ref l) H'
theorem Je4 (F:FunD K "stopped_at" "stopped_at" BaM dV f fd) (T:Txt K mg Ad)  : FnOk P w K mg base (CX1 P w) 1 f fd ["stops","level"] (Jcq K):=by
 refine F.okn JbJ (by subst_eqs) (fun a5 A a2 s H vs Q E hr h=>?_)
 obtain ⟨sl,lv,ys,st,L,N,rfl,h⟩:=h;have hu:=hr.units;refine ⟨_,(Jab (Jak (i:=2) JbJ.nd rfl (Or.inl rfl) JbX)
   (Jab (JaY PassesOwn.never rfl (pi_U (pv 0)) (Jax (i:=3) JbJ.nd rfl (Or.inl rfl))
   (Jah (ps_if (Jav (Jbr hu) (pe_ix ix_U (pv 3) Jac (fun _ _=>rfl)) (pv 1) (Jas _))
   (Jah (JaY PassesOwn.never rfl (pi_U (pe_ix ix_U (pv 3) Jac (fun _ _=>rfl))) (Jax (i:=4) JbJ.nd rfl (Or.inl rfl))
   (Jah (JcC (hu1 hu) (pv 2) (pv 4) pe_bl rfl))))
   Jar)))
   (Jah (Jap (JcB (Jg1 rfl) rfl T.Bdv JeM (Jaa (pv 2) Jad)))))),?_⟩
 clear hu;obtain ⟨hS,hA,hL,a6,hN,k⟩:=h;have sz:(1000:Nat)<=sizeLine:=by decide
 have lA:=hA.length;show tSeq _ _ _ [some (.ref sl),some lv,none,none,none] H;nofun;rename_i O R a3 H H1 S1 e1;nofun;refine ⟨sl,rfl,ForA.byLN (xs:=ys) (hS.same S1) (fun i σ U=>i<=ys.length/\∃ (v3 M:Option V) (B:List (Key × V)) (r:List Str),σ=[some (.ref sl),some lv,some (.ref O),v3,M]/\Same H U/\U O=some (.dK B)/\B.map (·.1)=r.map Sum.inr/\r.Nodup/\∀ n,n∈r↔∃ s∈st.take i,s.1=L/\n∈s.2) ⟨Nat.zero_le _,none,none,[],[],rfl,S1,e1,rfl, .nil,fun n=>by simp⟩ (fun i σ U q=>by obtain ⟨_,_,_,_,_,_,q,_⟩:=q;exact hS.same q) ?_ ?_⟩
 ·rintro i y σ H2 hy ⟨hi,v3,M,B,r,rfl,G,e2,hk,J,d⟩ N0 Y;have li:=(List.getElem?_eq_some_iff.mp hy).1;obtain ⟨s,hs,t,w,l,rfl,ht,hw,hl⟩:=hA.at_ hy;have a1:=List.mem_of_getElem? hs;have a0:st.take (i+1)=st.take i++[s]:=by rw [take_succ,hs];rfl
  nofun;refine ixT (i:=0) (ht.same G) rfl ?_;refine eqF (hw.same G) (hL.same G) ?_;have ee:(decide (s.1.1=L.1)&&decide (s.1.2=L.2))=decide (s.1=L):=by
   rw [<- Bool.decide_and];exact decide_eq_decide.mpr Prod.ext_iff.symm
  rw [ee];nofun;by_cases c:s.1=L
  ·rw [if_pos (by simpa using c)];nofun;refine ixT (i:=1) (ht.same G) rfl ?_;nofun;have a4:l≠O:=Jai hl R;refine ⟨l,rfl,ForA.byLN (xs:=s.2.map V.str) (SqL.of (G _ _ hl)) (fun j σ U=>j<=(s.2.map V.str).length/\∃ (M:Option V) (B:List (Key × V)) (ns':List Str),σ=[some (.ref sl),some lv,some (.ref O),some (.ref t),M]/\Same H U/\U O=some (.dK B)/\B.map (·.1)=ns'.map Sum.inr/\ns'.Nodup/\∀ n,n∈ns'↔n∈r\/n∈s.2.take j) ⟨Nat.zero_le _,M,B,r,rfl,G,e2,hk,J,fun n=>by simp⟩ (fun j σ U q=>by obtain ⟨_,_,_,_,_,q,_⟩:=q;exact SqL.of (q _ _ hl)) ?_ ?_⟩
   ·rintro j z σ H3 hz ⟨hj,M,D,g,rfl,S3,Z,o,e,a⟩ N1 W;have lj:=(List.getElem?_eq_some_iff.mp hz).1;rw [List.getElem?_map] at hz;obtain ⟨n,hn,rfl⟩:=Option.map_eq_some_iff.mp hz;have lk:D.length=g.length:=by simpa using congrArg List.length o
    have lN:g.length<=N.length:=sub_len g N e fun x hx=>by
     rcases (a x).mp hx with h | h
     ·obtain ⟨I,m,_,p⟩:=(d x).mp h;exact hN I (List.mem_of_mem_take m) x p
     ·exact hN s a1 x (List.mem_of_mem_take h)
    nofun;refine ⟨O,_,rfl,DPut.k (k:=Sum.inr n) Z ∅,?_⟩;generalize u4:upd H3 O _=H4;nofun;have e4:=putE u4;have X:s.2.take (j+1)=s.2.take j++[n]:=by rw [take_succ,hn];rfl
    have S4:Same H H4:=fun b u h=>by rw [<- u4,Jag (Jai h R)];exact S3 _ _ h
    have S:=JhO (kvs:=D) (k:=Sum.inr n);rw [o] at S;by_cases cn:n∈g
    ·refine W _ _ ⟨lj,_,_,g,rfl,S4,e4,?_,e,fun x=>?_⟩
     ·rw [JhP,if_pos (S.mpr (mem_map.mpr ⟨n,cn,rfl⟩))];exact o
     ·rw [a x,X,mem_append,mem_singleton];refine ⟨fun h=>h.elim .inl fun h=>.inr (.inl h),fun h=>?_⟩;rcases h with h | h | h
      ·exact .inl h
      ·exact .inr h
      ·rw [h];exact (a n).mp cn
    ·refine W _ _ ⟨lj,_,_,g++[n],rfl,S4,e4,?_,?_,fun x=>?_⟩
     ·rw [JhP,if_neg (fun z=>cn (by obtain ⟨q,hq,eq⟩:=mem_map.mp (S.mp z);have eq:q=n:=(by injection eq);exact eq ▸ hq)),o,map_append];rfl
     ·exact nodup_append.mpr ⟨e,by simp,fun u hu v hv z=>cn (by rw [mem_singleton.mp hv] at z;rw [<- z];exact hu)⟩
     ·rw [mem_append,mem_singleton,a x,X,mem_append,mem_singleton];grind
   ·rintro σ H3 ⟨hj,M,D,g,rfl,S3,Z,o,e,a⟩;rw [length_map,take_of_length_le (Nat.le_refl _)] at a;refine Y _ _ ⟨li,_,_,D,g,rfl,S3,Z,o,e,fun n=>?_⟩;rw [a n,d n,a0];constructor
    ·rintro (⟨I,m,p,C⟩ | h)
     ·exact ⟨I,mem_append.mpr (.inl m),p,C⟩
     ·exact ⟨s,mem_append.mpr (.inr (by simp)),c,h⟩
    ·rintro ⟨I,m,p,C⟩;rcases mem_append.mp m with m | m
     ·exact .inl ⟨I,m,p,C⟩
     ·rw [mem_singleton.mp m] at C;exact .inr C
  ·rw [if_neg (by simpa using c)];nofun;refine Y _ _ ⟨li,_,_,B,r,rfl,G,e2,hk,J,fun n=>?_⟩;rw [d n,a0];constructor
   ·rintro ⟨I,m,p,C⟩;exact ⟨I,mem_append.mpr (.inl m),p,C⟩
   ·rintro ⟨I,m,p,C⟩;rcases mem_append.mp m with m | m
    ·exact ⟨I,m,p,C⟩
    ·rw [mem_singleton.mp m] at p;exact absurd p c
 ·rintro σ H2 ⟨hi,v3,M,B,r,rfl,G,e2,hk,J,d⟩;rw [take_of_length_le ∅] at d;nofun;refine ⟨O,B,r,rfl,e2,hk,?_⟩;rename_i l a7 a8 H2 H3 S3 Z;nofun;exact k l r H3 (G.trans S3) Z J d
abbrev Baw:Stmt:=top 38
theorem JaW:Jan ["mosts","lids","levels","stops","level","name","lid"] ["mosts","lids"] (Jae Baw):=by bv_decide
def JbT (K:W.Frag) (Ad:Adr):Sp:=fun vs H Q E=>∃ (md ll:Addr) (kvm:List (Key × V)) (ms:List (Str × Fr2)) (xs:List V) (lds:List LidD) (b q0:Int) (N:List Str) (w M:Str->Rat) (gs:List Gp),vs=[.ref md, .ref ll]/\H md=some (.dK kvm)/\BG (·.1) (NFV K H) ms kvm/\H ll=some (.lst xs)/\All2 (LDV K Ad H) lds xs/\xs.Nodup/\lds.length<=7/\RC b q0 N w M gs ms/\RSt b N w M gs [] lds/\∀ (ld:Addr) (kv:List (Key × V)) (lvs:List (Str × Fr2)) (lds':List LidD) (H':Hp),(∀ a u,V.ref a∉xs->H a=some u->H' a=some u)->H ld=none->H' ld=some (.dK kv)->BG (·.1) (NFV K H') lvs kv->All2 (LDV K Ad H') lds' xs->RSt b N w M gs lvs lds'->N.length<=lvs.length->lds'.map (·.nm)=lds.map (·.nm)->Q (.ref ld) H'
theorem Jd6 (F:FunD K "risen_levels" "risen_levels" Baw dV f fd) (T:Txt K mg Ad) (Bbc:Cal P w K mg base 5 "coming_stops" ["mosts","lids","levels"] [] (JbR K Ad)) (Bbt:Cal P w K mg base 2 "first_level" ["stops"] [] (Jb5 K)) (BbR:Cal P w K mg base 1 "stopped_at" ["stops","level"] [] (Jcq K)) (m_settle:MCal P w K mg base 4 "settle" (IsLid Ad) ["self","part","level"] (Jck K Ad)):FnOk P w K mg base (CX1 P w) 7 f fd ["mosts","lids"] (JbT K Ad):=by
 refine F.okn JaW (by subst_eqs) (fun f6 A d8 s H vs Q E hr h=>?_)
 obtain ⟨md,Z,J,ms,xs,G,b,q0,N,w,M,gs,rfl,h⟩:=h;have hu:=hr.units;refine ⟨_,(Jab (Jak (i:=2) JaW.nd rfl (Or.inl rfl) JbX)
   (Jab (JdL PassesOwn.never (Jav Jdb (Jat Jfr rfl T.BbB Jbp (Jaa (pv 2) Jad)) (Jat Jfr rfl T.BbB Jbp (Jaa (pv 0) Jad)) (Jas _))
   (Jab (Jak (i:=3) JaW.nd rfl (Or.inl rfl) (Bbc.ev hr ⋯ rfl passF (Jaa (pv 0) (Jaa (pv 1) (Jaa (pv 2) Jad))) (he:=by exact Jaf rfl)))
   (Jab (Jak (i:=4) JaW.nd rfl (Or.inl rfl) (Bbt.ev hr ⋯ rfl passF (Jaa (pv 3) Jad) (he:=by exact Jaf rfl)))
   (Jah (JaY PassesOwn.never rfl (pi_U (BbR.ev hr ⋯ rfl passF (Jaa (pv 3) (Jaa (pv 4) Jad)) (he:=by exact Jaf rfl))) (Jax (i:=5) JaW.nd rfl (Or.inl rfl))
   (Jab (JcC (hu1 hu) (pv 2) (pv 5) (pv 4) rfl)
   (Jah (JaY PassesOwn.never rfl (pi_U (pv 1)) (Jax (i:=6) JaW.nd rfl (Or.inl rfl))
   (Jah (Ja2 (m_settle.m hr ⋯ passF (pv 6) (Jaa (pv 5) (Jaa (pv 4) Jad)))))))))))))
   (Jah (Jap (pv 2))))),?_⟩
 clear hu;obtain ⟨hm,bm,hl,hX,f4,l7,Y,c6,k⟩:=h;show tSeq _ _ _ [some (.ref md),some (.ref Z),none,none,none,none,none] H;nofun;rename_i g W f5 H H1 S1 e1;nofun;refine ⟨fun m σ C=>∃ (v3 v4 v5 v6:Option V) (kv:List (Key × V)) (d:List (Str × Fr2)) (o:List LidD),σ=[some (.ref md),some (.ref Z),some (.ref g),v3,v4,v5,v6]/\(∀ a u,V.ref a∉xs->H a=some u->C a=some u)/\C g=some (.dK kv)/\BG (·.1) (NFV K C) d kv/\All2 (LDV K Ad (cut g C)) o xs/\RSt b N w M gs d o/\o.map (·.nm)=G.map (·.nm)/\m=N.length-d.length,⟨_,none,none,none,none,[],[],G,rfl,fun a u _ h=>S1 _ _ h,e1,⟨rfl,rfl⟩,hX.mono fun _ _ h=>h.same (Same.cutN S1 W),c6,rfl,rfl⟩,?_⟩;rintro m σ H2 ⟨v3,v4,v5,v6,kv,d,o,rfl,S2,e2,b2,b3,st,c4,rfl⟩;have x2:All2 (LDV K Ad H2) o xs:=b3.mono fun _ _ z=>z.same Jc4;nofun;have g2:=Y.l12;have b0:=S2 md _ (LDV.notin hX hm (fun _ _ z=>by cases z)) hm;have S:=S2 Z _ (LDV.notin hX hl (fun _ _ z=>by cases z)) hl;have T2:SameT H H2:=fun c u t h=>S2 c u (LDV.notin hX h (fun _ _ z=>by rw [z] at t;simp [isTF] at t)) h;have c9:BG (·.1) (NFV K H2) ms J:=bm.mono fun _ _ z=>z.sameT T2;have lk:=b2.length;have lm:=bm.length;have lN:ms.length=N.length:=by rw [<- Y.nm,length_map]
 have sz:(1000:Nat)<=sizeLine:=by decide
 have g0:=hX.length;have f8:=x2.length;refine ⟨g,kv,rfl,e2,md,J,rfl,b0,?_⟩;nofun;by_cases c:d.length<N.length
 ·rw [if_pos (by simpa using (by ac_nf:kv.length<J.length))];nofun;refine ⟨_,fun σ' C h=>h,?_⟩;nofun;refine ⟨md,Z,g,J,ms,xs,o,kv,d,rfl,b0,c9,S,x2,e2,b2,by ac_nf,by ac_nf,st.lids Y,by rw [Y.nm];exact Y.nd,fun sl ys H3 S3 e3 hY=>?_⟩;nofun;have B:=st.stops Y;refine ⟨sl,ys,_,rfl,SqL.of e3,hY,st.some Y c,fun s hs=>⟨(B s hs).1.s1,(B s hs).1.s2.mono ⋯,(B s hs).1.b1,(B s hs).1.g1⟩,fun v L hL b7 hv=>?_⟩;nofun;refine ⟨sl,v,ys,_,L,N,rfl,SqL.of e3,hY,hv,by ac_nf,fun s hs n hn=>((B s hs).2 n hn).1,fun l I H4 S4 e4 b4 f3=>?_⟩;obtain ⟨d7,d6,d5,D,f1⟩:=st.first Y c hL b7 b4 f3;have R:=S3.trans S4;have x4:All2 (LDV K Ad H4) o xs:=x2.mono fun _ _ z=>z.same R;have a1:=R _ _ e2;have d4:l≠g:=fun z=>by rw [z,a1] at e4;cases e4
  have d2:=LDV.notin x4 e4 (fun _ _ z=>by cases z);have a5:=LDV.notin x4 a1 (fun _ _ z=>by cases z);have c1:Z≠g:=fun z=>by rw [z,e2] at S;cases S
  have a2:=LDV.notin x2 S (fun _ _ z=>by cases z);have f2:=hv.same S4;nofun;refine ⟨l,rfl,ForA.byLN (xs:=I.map V.str) (SqL.of e4) (fun i σ C=>i<=(I.map V.str).length/\∃ (v5 v6:Option V) (kv':List (Key × V)) (lds':List LidD),σ=[some (.ref md),some (.ref Z),some (.ref g),some (.ref sl),some v,v5,v6]/\(∀ a u,V.ref a∉xs->a≠g->H4 a=some u->C a=some u)/\C g=some (.dK kv')/\BG (·.1) (NFV K C) (d++(I.take i).map fun n=>(n,L)) kv'/\All2 (LDV K Ad (cut g C)) lds' xs/\RMd b N w M gs L D (d.length+1) (d++(I.take i).map fun n=>(n,L)) lds'/\lds'.map (·.nm)=G.map (·.nm)) ⟨Nat.zero_le _,v5,v6,kv,o,rfl,fun _ _ _ _ h=>h,a1,by rw [take_zero,map_nil,append_nil];exact b2.mono fun _ _ z=>z.sameT fun c u _ h=>R _ _ h,b3.mono (fun _ _ z=>z.same R.cut),by rw [take_zero,map_nil,append_nil];exact f1,c4⟩ (fun i σ C q=>by obtain ⟨_,_,_,_,_,_,q,_⟩:=q;exact SqL.of (q _ _ d2 d4 e4)) ?_ ?_⟩
  ·rintro i y σ H5 hy ⟨hi,f0,b8,a7,p,rfl,S5,e5,b5,O,x,U⟩ N0 d0;have li:=(List.getElem?_eq_some_iff.mp hy).1;rw [length_map] at li;rw [List.getElem?_map] at hy;obtain ⟨n,hn,rfl⟩:=Option.map_eq_some_iff.mp hy;have c8:=List.mem_of_getElem? hn;have hN:=d6 n c8;have c7:I.take (i+1)=I.take i++[n]:=by rw [take_succ,hn];rfl
   have a3:(d++(I.take (i+1)).map fun n=>(n,L))=(d++(I.take i).map fun n=>(n,L))++[(n,L)]:=by rw [c7,map_append, <- List.append_assoc];rfl
   have hS:n∉(d++(I.take i).map fun n=>(n,L)).map (·.1):=by
    rw [Jbd];intro z;rcases mem_append.mp z with z | z
    ·exact hN.2 z
    ·exact JiE b4 hn z
   have T5:SameT H4 H5:=fun c u t h=>S5 c u (LDV.notin x4 h (fun _ _ z=>by rw [z] at t;simp [isTF] at t)) (fun z=>by rw [z,a1] at h;cases h;simp [isTF] at t) h;have f9:=b5.length;have l5:(d++(I.take i).map fun n=>(n,L)).length<=N.length:=by
    have:=sub_len _ _ x.inv.nd x.inv.sub;simpa using this
   have f7:=O.length;nofun;refine ⟨g,_,rfl,DPut.k (k:=Sum.inr n) e5 ∅,?_⟩;generalize u6:upd H5 g _=H6;nofun;have e6:=putE u6;have T6:SameT H5 H6:=SameT.put u6 e5 rfl;have o6:∀ a u,a≠g->H5 a=some u->H6 a=some u:=fun a u ne h=>by rw [<- u6,Jag ne];exact h
   have d3:cut g H6=cut g H5:=by rw [<- u6];exact Jf0
   rw [<- d3] at O;have x6:All2 (LDV K Ad H6) p xs:=O.mono fun _ _ z=>z.same Jc4;have c2:=(f2.sameT T5).sameT T6;have b6:BG (·.1) (NFV K H6) (d++(I.take (i+1)).map fun n=>(n,L)) (putK a7 (Sum.inr n) v):=by
    rw [a3];exact (b5.mono (P':=NFV K H6) fun _ _ z=>z.sameT T6).new (a:=(n,L)) hS c2
   have c3:H6 Z=some (.lst xs):=o6 _ _ c1 (S5 _ _ a2 c1 (R _ _ S));have X:=x.rest Y;have d1:=x.step Y hN.1 hS;nofun;refine ⟨Z,rfl,ForA.byLN (xs:=xs) (SqL.of c3) (fun j σ C=>j<=xs.length/\∃ (v6:Option V),σ=[some (.ref md),some (.ref Z),some (.ref g),some (.ref sl),some v,some (.str n),v6]/\(∀ a u,V.ref a∉xs->H6 a=some u->C a=some u)/\All2 (LDV K Ad (cut g C)) ((p.take j).map (fun e=>e.settle n L)++p.drop j) xs) ⟨Nat.zero_le _,b8,rfl,fun _ _ _ h=>h,by rw [take_zero,map_nil,List.drop_zero,nil_append];exact O⟩ (fun j σ C q=>by obtain ⟨_,_,_,q,_⟩:=q;exact SqL.of (q _ _ a2 c3)) ?_ ?_⟩
   ·rintro j z σ H7 hz ⟨hj,c0,rfl,S7,x7⟩ N1 c5;have lj:=(List.getElem?_eq_some_iff.mp hz).1;obtain ⟨e,a6,a4⟩:=x7.at_ hz;rw [JjV] at a6;have b9:=List.mem_of_getElem? a6;have a9:=a4.same Jc4;obtain ⟨q,dx,vr,vt,wd,rfl,hq,_⟩:=id a9;have T7:SameT H6 H7:=fun c u t h=>S7 c u (LDV.notin x6 h (fun _ _ z=>by rw [z] at t;simp [isTF] at t)) h;have e7:=S7 _ _ a5 e6;have e9:V.ref q∈xs:=List.mem_of_getElem? hz;nofun;refine ⟨q,_,dx,_,rfl,hq,rfl,rfl,?_⟩;refine ⟨q,n,v,e,L,rfl,a9,c2.sameT T7,(X e b9).1,x.fL,(X e b9).2,fun H8 S8 _ e0=>?_⟩;nofun;have a8:g≠q:=fun z=>by rw [<- z,e7] at hq;cases hq
    have e8:=S8 _ _ a8 e7;refine c5 _ _ ⟨lj,_,rfl,fun a u hx h=>S8 a u (fun z=>hx (z ▸ e9)) (S7 a u hx h),?_⟩;rw [<- JgE a6];refine x7.put hz (e0 g _ e7 a4) fun i' a y ne ha hy a0=>?_;have qc:cut g H7 q=_:=(JbG a8.symm).trans hq;refine a0.keep (q:=q) (fun b u nb h=>?_) qc (fun z=>ne ?_)
    ·have d9:b≠g:=fun z=>by rw [z] at h;unfold cut at h;rw [if_pos rfl] at h;cases h
     rw [JbG d9] at h ⊢;exact S8 b u nb h
    ·rw [z, <- hz] at hy;exact ((List.getElem?_inj lj f4).mp hy.symm).symm
   ·rintro σ H7 ⟨hj,c0,rfl,S7,x7⟩;rw [take_of_length_le ∅,List.drop_eq_nil_of_le ∅,append_nil] at x7;have T7:SameT H6 H7:=fun c u t h=>S7 c u (LDV.notin x6 h (fun _ _ z=>by rw [z] at t;simp [isTF] at t)) h;refine d0 _ _ ⟨by rw [length_map];ac_nf,_,_,_,_,rfl,fun a u hx a0 h=>S7 a u hx (o6 a u a0 (S5 a u hx a0 h)),S7 _ _ a5 e6,b6.mono fun _ _ z=>z.sameT T7,x7,by rw [a3];exact d1,Jhm.trans U⟩
  ·rintro σ H5 ⟨hi,f0,b8,a7,p,rfl,S5,e5,b5,O,x,U⟩;rw [length_map,take_of_length_le (Nat.le_refl _)] at b5 x;have ln:1<=I.length:=by cases I with | nil=>exact absurd rfl d7 | cons a r=>simp
   refine ⟨_,?_,_,_,_,_,a7,_,p,rfl,fun a u hx h=>S5 a u hx (fun z=>by rw [z,W] at h;cases h) (R _ _ (S2 a u hx h)),e5,b5,O,x.next Y d5 st.lo ∅,U,rfl⟩;rw [length_append,length_map];ac_nf
 ·rw [if_neg (by simpa using (by ac_nf:¬ kv.length<J.length))];nofun;exact k g kv d o H2 S2 W e2 b2 x2 st ∅ c4
abbrev Ba0:Stmt:=top 39
theorem Jeg:Jan ["lids","name","level","full"] ["lids","name","level"] (Jae Ba0):=by bv_decide
def JcW (K:W.Frag) (Ad:Adr):Sp:=fun vs H Q E=>∃ (ll:Addr) (n:Str) (lv:V) (xs:List V) (lds:List LidD) (L:Fr2) (e:LidD),vs=[.ref ll, .str n,lv]/\H ll=some (.lst xs)/\All2 (LDV K Ad H) lds xs/\lds.length<=7/\FrV K H lv L.1 L.2/\lds.find? (fun l=>(wtOf l.ws n).isSome&&(decide (l.rest=(0,1))&&decide (l.last=L)))=some e/\∀ p H',Same H H'->H' p=some (.tup [.str (Str.ofString "gap"), .str e.nm])->Q (.ref p) H'
theorem Jgb (F:FunD K "gap_stop" "gap_stop" Ba0 dV f fd) (T:Txt K mg Ad) (m_has_stopped:MCal P w K mg base 1 "has_stopped" (IsLid Ad) ["self","part","level"] (Jbn K Ad)):FnOk P w K mg base (CX1 P w) 2 f fd ["lids","name","level"] (JcW K Ad):=by
 refine F.okn Jeg (by subst_eqs) (fun a0 A t s H W Q E Y h=>?_)
 obtain ⟨v,n,r,xs,a,L,e,rfl,h⟩:=h;refine ⟨_,(Jab (Jec (j:=3) (own:=["lid"]) (cs:=[(1,"name"),(2,"level")]) Jeg.nd rfl (Or.inl rfl) rfl (pi_U (pv 0)) (fun _ _ _ _=>(Jax (i:=0) (show [("lid" : Str),("name" : Str),("level" : Str)].Nodup by decide) rfl (Or.inl rfl))) (fun _ _ _ _=>(JaZ (m_has_stopped.m Y ⋯ passF (pv 0) (Jaa (pv 1) (Jaa (pv 2) Jad))))) (fun _ _ _ _=>(Jkk (K:=K) rfl (pv 0) rfl)) (JgF rfl) ⋯ rfl ⋯ (hcs2 rfl rfl rfl rfl rfl rfl))
   (Jah (Jap (JaB (Jaa Ja8 (Jaa (pe_ix ix_U (pv 3) Jac (fun _ _=>rfl)) Jad)))))),?_⟩
 obtain ⟨R,S,l7,hv,D,k⟩:=h;have lX:=S.length;have sz:(1000:Nat)<=sizeLine:=by decide
 show tSeq _ _ _ [some (.ref v),some (.str n),some r,none] H;and_intros;obtain ⟨P,I⟩:∃ P:LidD->Bool,P=fun l=>(wtOf l.ws n).isSome&&(decide (l.rest=(0,1))&&decide (l.last=L)):=⟨_,rfl⟩;rw [<- I] at D;refine ⟨v,rfl, .inl ⟨⟨xs,SqL.of R⟩,Jcx.list (xs:=xs) (fun i d J=>J=H/\d=((a.take i).filter P).map fun e=>V.str e.nm) ⟨rfl,by rw [take_zero];rfl⟩ (fun i d J hi z=>⟨by rw [z.1];exact SqL.of R,by
  rw [z.2,length_map];have h2:=List.length_filter_le P (a.take i);rw [length_take] at h2;ac_nf⟩) ?_ ?_⟩⟩
 ·rintro i y d C hy ⟨c,b⟩;subst c;subst b;obtain ⟨l,o,O⟩:=S.at_ hy;obtain ⟨q,U,vr,vt,wd,rfl,G,_⟩:=id O;have M:=T.c_Lid Ad.Lid rfl;have g:a.take (i+1)=a.take i++[l]:=by rw [take_succ,o];rfl
  simpa only [length_singleton,length_cons,length_nil,List.replicate,JaF,map_cons,map_nil,Option.join_some];refine ⟨q,_,U,_,rfl,G,rfl,rfl,?_⟩;refine ⟨q,n,r,l,L,rfl,O,hv,?_⟩;and_intros;rw [show ((wtOf l.ws n).isSome&&(decide (l.rest=(0,1))&&decide (l.last=L)))=P l by rw [I]];cases cp:P l with
  | false=>
   and_intros;rw [g,filter_append,show [l].filter P=[] from List.filter_eq_nil_iff.mpr fun x u=>by rw [mem_singleton.mp u,cp];decide,append_nil]
  | true=>
   and_intros;refine ⟨q,_,U,_, .str l.nm,rfl,G,M.cls,M.n1,rfl,?_⟩;and_intros;rw [g,filter_append,show [l].filter P=[l] from List.filter_eq_self.mpr fun x u=>by rw [mem_singleton.mp u,cp],map_append];rfl
 ·rintro d C ⟨c,b⟩;subst c;rw [take_of_length_le ∅] at b;have h0:d[0]?=some (.str e.nm):=by
   have h1:(a.filter P).head?=some e:=by rw [List.head?_filter];exact D
   rw [b,List.getElem?_map, <- List.head?_eq_getElem?,h1];rfl
  rename_i fl N B C H3 S3 e3;and_intros;and_intros;refine ixL (i:=0) (SqL.of e3) h0 ?_;and_intros;refine ⟨len2,?_⟩;rename_i p Z a1 H3 X S4 e4;and_intros;exact k p X (S3.trans S4) e4
abbrev Bcm:Stmt:=top 40
theorem JbB:Jan ["thing","scale","lids","mosts","levels","told","part","name","level","slack"] ["thing"] (Jae Bcm):=by bv_decide
def Jfj (K:W.Frag) (Ad:Adr):Sp:=fun vs H Q E=>∃ (x:Addr) (ls:List PD) (es:List (GD × List Str)) (pl:Str->Fr2),vs=[.ref x]/\TK K Ad H x ls (es.map (·.1))/\SHC ls es pl/\(∀ e∈es,0<=vl (roomF pl e.1))/\∀ (tl:Addr) (zs:List V) (rs:List ShD) (H':Hp),Same H H'->H tl=none->H' tl=some (.lst zs)->All2 (ShV K H') rs zs->ShR ls es pl rs->Q (.ref tl) H'
theorem JiT (F:FunD K "share" "share" Bcm dV f fd) (T:Txt K mg Ad) (Bcn:Cal P w K mg base 4 "scale_of" ["thing"] [] (JcZ K Ad)) (BcK:Cal P w K mg base 7 "lids_of" ["thing","scale"] [] (JdA K Ad)) (Bbu:Cal P w K mg base 4 "most_levels" ["thing","scale"] [] (Jb6 K Ad)) (Bbd:Cal P w K mg base 7 "risen_levels" ["mosts","lids"] [] (JbT K Ad)) (BaV:MCal P w K mg base 2 "parts" (Jbb Ad) ["self"] (Ja0 K Ad)) (m_lowered:MCal P w K mg base 2 "lowered" (Jdo Ad) ["self","number"] (JbF K Ad)) (Bba:Cal P w K mg base 2 "times" ["one","other"] [] (Jdl K)) (Bco:Cal P w K mg base 2 "gap_stop" ["lids","name","level"] [] (JcW K Ad)):FnOk P w K mg base (CX1 P w) 9 f fd ["thing"] (Jfj K Ad):=by
 refine F.okx JbB (fun vs H Q E h=>?_) (fun i4 A f7 s H vs Q E hr h=>?_)
 ·obtain ⟨x,W,es,pl,rfl,_⟩:=h;rfl
 obtain ⟨x,W,es,pl,rfl,h⟩:=h;have hu:=hr.units;refine ⟨_,(Jab (Jak (i:=1) JbB.nd rfl (Or.inl rfl) (Bcn.ev hr ⋯ rfl pass1 (Jaa (pv 0) Jad) (he:=by exact Jaf rfl)))
   (Jab (Jak (i:=2) JbB.nd rfl (Or.inl rfl) (BcK.ev hr ⋯ rfl pass1 (Jaa (pv 0) (Jaa (pv 1) Jad)) (he:=by exact Jaf rfl)))
   (Jab (Jak (i:=3) JbB.nd rfl (Or.inl rfl) (Bbu.ev hr ⋯ rfl pass1 (Jaa (pv 0) (Jaa (pv 1) Jad)) (he:=by exact Jaf rfl)))
   (Jab (Jak (i:=4) JbB.nd rfl (Or.inl rfl) (Bbd.ev hr ⋯ rfl pass1 (Jaa (pv 3) (Jaa (pv 2) Jad)) (he:=by exact Jaf rfl)))
   (Jab (Jak (i:=5) JbB.nd rfl (Or.inl rfl) (Ja5 Jad))
   (Jab (JaY PassesOwn.leaving rfl (pi_U (BaV.m0 hr ⋯ pass1 (pv 0))) (Jax (i:=6) JbB.nd rfl (Or.inl rfl))
   (Jab (Jak (i:=7) JbB.nd rfl (Or.inl rfl) (pe_ix ix_U (pv 6) Jac (fun _ _=>rfl)))
   (Jab (Jak (i:=8) JbB.nd rfl (Or.inl rfl) (Jcg (hu1 hu) (pv 4) (pv 7) (fun _ _=>rfl)))
   (Jah (ps_if (Jav (Jbr hu) (pv 8) (Jcg (hu1 hu) (pv 3) (pv 7) (fun _ _=>rfl)) (Jas _))
   (Jah (Ja2 (pe_bm PySem.F.plainAttrs_list PySem.F.slot_list_append PySem.F.type_list_append Ja7 (pv 5) (Jaa (JaB (Jaa (pv 7) (Jaa (pe_ix ix_U (pv 6) Jac (fun _ _=>rfl)) (Jaa (JaB (Jaa Ja8 Jad)) Jad)))) Jad) (hs:=by exact Jaf rfl))))
   (Jab (Jak (i:=9) JbB.nd rfl (Or.inl rfl) (m_lowered.m hr ⋯ pass1 (pv 1) (Jaa (Bba.ev hr ⋯ rfl pass1 (Jaa (pv 8) (Jaa (JaB (Jaa (pe_ix ix_U (pv 6) Jac (fun _ _=>rfl)) (Jaa Jac Jad))) Jad)) (he:=by exact Jaf rfl)) Jad)))
   (Jah (Ja2 (pe_bm PySem.F.plainAttrs_list PySem.F.slot_list_append PySem.F.type_list_append Ja7 (pv 5) (Jaa (JaB (Jaa (pv 7) (Jaa (pv 9) (Jaa (Bco.ev hr ⋯ rfl pass1 (Jaa (pv 2) (Jaa (pv 7) (Jaa (pv 8) Jad))) (he:=by exact Jaf rfl)) Jad)))) Jad) (hs:=by exact Jaf rfl))))))))))
   (Jah (Jap (pv 5))))))))),?_⟩
 clear hu;obtain ⟨ht,d,c9,k⟩:=h;obtain ⟨dx,d1,d2,d3,k1,k2,k3,hx,_⟩:=id ht;have sl:(1000:Nat)<=sizeLine:=by decide
 have j0:=d.l12;have l7:=d.l7;show tSeq _ _ _ [some (.ref x),none,none,none,none,none,none,none,none,none] H;nofun;refine ⟨x,W,_,rfl,ht,d.l12,by rw [length_map];exact d.l7,by rw [length_map];exact d.l14,fun p L=>⟨(d.pb p L).1,(d.pb p L).2.b1,(d.pb p L).2.s2.mono ⋯⟩,fun g hg=>by obtain ⟨e,he,rfl⟩:=mem_map.mp hg;exact d.gb e he,fun sc b fs H1 S1 a1=>?_⟩;obtain ⟨e1,fl,d6,_,c6,sb,_⟩:=id a1;have b1:=c6.b1;nofun;refine ⟨x,sc,W,es,pl,b,fs,rfl,ht.same S1,a1,d,c9,fun ll xs b7 H2 S2 i3 e2 hX h6 f2 c5 b3=>?_⟩;nofun;have g9:=S1.trans S2;refine ⟨x,sc,W,_,b,fs,rfl,ht.same g9,a1.same S2,d.l12,d.nd,fun p L=>⟨(d.pb p L).2,(d.pok p L).w,d.wt p L⟩,fun md c8 ms H3 S3 h8 e3 bm g0 h0=>?_⟩;obtain ⟨q0,rc,g2⟩:=Jjb b1 sb d c9 c5 b3 g0 h0;have hw:=Jjr c5 b3;nofun;have x3:All2 (LDV K Ad H3) b7 xs:=hX.mono fun _ _ z=>z.same S3;refine ⟨md,ll,c8,ms,xs,b7,b,q0,_,_,_,_,rfl,e3,bm,S3 _ _ e2,x3,h6,by ac_nf,rc,g2,fun ld kv d9 U H4 S4 h9 e4 b4 x4 X R h5=>?_⟩;have a9:Same H1 H4:=fun c u h=>S4 c u (fun z=>by obtain ⟨q,eq,hq⟩:=f2 _ z;have eq:c=q:=(by injection eq);rw [<- eq,h] at hq;cases hq) (S3 _ _ (S2 _ _ h));have a2:=S1.trans a9;have T4:SameT H3 H4:=fun c u t h=>S4 c u (LDV.notin x3 h (fun _ _ z=>by rw [z] at t;simp [isTF] at t)) h;have g3:=S4 _ _ (LDV.notin x3 e3 (fun _ _ z=>by cases z)) e3;have g5:=S4 _ _ (LDV.notin x3 (S3 _ _ e2) (fun _ _ z=>by cases z)) (S3 _ _ e2);have f1:BG (·.1) (NFV K H4) ms c8:=bm.mono fun _ _ z=>z.sameT T4;have c0:U.map (·.nm)=es.map (·.1.nm):=by
  rw [h5];refine List.ext_getElem? fun i=>?_;rw [List.getElem?_map,List.getElem?_map];by_cases c:i<es.length
  ·rw [List.getElem?_eq_getElem c,List.getElem?_eq_getElem (by ac_nf:i<b7.length)];exact congrArg some (b3 i _ _ (List.getElem?_eq_getElem c) (List.getElem?_eq_getElem ∅)).nm
  ·rw [List.getElem?_eq_none ∅,List.getElem?_eq_none ∅];rfl
 have i5:U.length=es.length:=by simpa using congrArg List.length c0
 nofun;refine ⟨Nat.zero_le _,?_⟩;rename_i Y a4 i2 H4 H5 S5 e5;nofun;have a3:H Y=none:=JdQ a2 a4;refine ⟨x,_,dx,_,rfl,S5 _ _ (a2 _ _ hx),rfl,rfl,x,W,_,rfl,ht.same (a2.trans S5),by ac_nf,fun l ys H6 S6 d7 e6 hY=>?_⟩;have lY:=hY.length;have g4:l≠Y:=fun z=>by rw [z,e5] at d7;cases d7
 have c1:=Same.trans S5 S6;nofun;refine ⟨l,rfl,ForA.byLN (xs:=ys) (SqL.of e6) (fun i σ H'=>i<=ys.length/\∃ (v6 v7 v8 v9:Option V) (zs:List V) (X:List ShD),σ=[some (.ref x),some (.ref sc),some (.ref ll),some (.ref md),some (.ref ld),some (.ref Y),v6,v7,v8,v9]/\(∀ c u,c≠Y->H6 c=some u->H' c=some u)/\SameT H6 H'/\H' Y=some (.lst zs)/\All2 (ShV K H') X zs/\X.length=i/\∀ (j:Nat) p r,W[j]?=some p->X[j]?=some r->ShRow W es pl (lvf b d9) p r) ⟨Nat.zero_le _,none,none,none,none,[],[],rfl,fun _ _ _ h=>h,SameT.refl _,S6 _ _ e5,rfl,rfl,fun j p r _ h=>by simp at h⟩ (fun i σ H' q=>by obtain ⟨_,_,_,_,_,_,_,_,q,_⟩:=q;exact SqL.of (q _ _ g4 e6)) ?_ ?_⟩
 ·rintro i y σ H7 hy ⟨hi,v6,v7,v8,v9,zs,a0,rfl,ho,hT,ez,hZ,N,I⟩ N0 c2;have li:=(List.getElem?_eq_some_iff.mp hy).1;obtain ⟨p,L,b_,vz,vm,rfl,hb,_,hm⟩:=hY.at_ hy;have Z:=List.mem_of_getElem? L;have b0:=hb.sameT hT;have o:Same H4 H7:=fun c u h=>ho c u (Jai h a4) (c1 _ _ h);have d0:p.nm∈W.map (·.nm):=mem_map.mpr ⟨p,Z,rfl⟩;obtain ⟨a,M,ha,J,c4,h4⟩:=b4.some (z:=p.nm) (X.all rc R _ d0);have J:a.1=p.nm:=J;obtain ⟨m,b5,g8,b2,a8,h3⟩:=f1.some (z:=p.nm) (by rw [rc.nm];exact d0);have b2:m.1=p.nm:=b2;have fa:=sh_lv rc X ha;have ml:=rc.ml m g8;have c7:vl m.2=moF W a.1*(b:Rat):=by rw [ml.1,b2,J]
  have g7:DGet H7 ld (.str p.nm) (some M):=by rw [<- c4];exact DGet.k (k:=Sum.inr p.nm) (o _ _ e4)
  have f8:DGet H7 md (.str p.nm) (some b5):=by rw [<- a8];exact DGet.k (k:=Sum.inr p.nm) (o _ _ g3)
  have a7:FrV K H7 M a.2.1 a.2.2:=FrV.same o h4;have f3:FrV K H7 b5 m.2.1 m.2.2:=FrV.same o h3;have lZ:=hZ.length;nofun;refine ixT (i:=0) b0 rfl ?_;nofun;refine ⟨ld,M,rfl,g7,?_⟩;nofun;refine ⟨md,b5,rfl,f8,?_⟩;refine eqF a7 f3 ?_;have ee:(decide (a.2.1=m.2.1)&&decide (a.2.2=m.2.2))=decide (a.2=m.2):=by
   rw [<- Bool.decide_and];exact decide_eq_decide.mpr Prod.ext_iff.symm
  rw [ee];nofun;by_cases c:a.2=m.2
  ·rw [if_pos (by simpa using c)];nofun;refine ⟨.inl ⟨rfl,_,SqL.of ez⟩,?_⟩;refine ixT (i:=4) b0 rfl ?_;nofun;refine ⟨by show 1<=sizeLine;ac_nf,?_⟩;rename_i t i7 i9 H7 H8 S8 e8;nofun;nofun;refine ⟨by show 3<=sizeLine;ac_nf,?_⟩;rename_i pr d5 b9 H8 H9 S9 e9;nofun;have v:=Same.trans S8 S9;have S:=v _ _ ez;nofun;refine ⟨Y,zs,_,rfl,rfl,S,by ac_nf,?_⟩;generalize G:upd H9 Y _=C;nofun;have b6:=putE G;have n:SameT H9 C:=SameT.put G S rfl;have T7:=v.t.trans n;refine c2 _ _ ⟨li,_,_,_,_,_,a0++[(⟨p.nm,p.mo,none⟩:ShD)],rfl,fun c u O h=>by rw [<- G,Jag O];exact v _ _ (ho c u O h),hT.trans T7,b6,(hZ.mono (P':=ShV K C) fun _ _ z=>z.sameT T7).append (.one (show ShV K C (⟨p.nm,p.mo,none⟩:ShD) (.ref pr) from ⟨pr,_,t,rfl,SqT.of (n _ _ rfl e9),((hm.sameT hT).same v).sameT n,SqT.of (n _ _ rfl (S9 _ _ e8))⟩)),by rw [length_append,N];rfl,fun j p' r' h1 h2=>?_⟩;rcases JbC h2 with h2 | ⟨q1,q2⟩
   ·exact I j p' r' h1 h2
   ·rw [q1,N,L] at h1;cases h1;rw [q2];exact Jkz d rc X Z ha J (by rw [c];exact c7)
  ·rw [if_neg (by simpa using c)];nofun;have c3:vl a.2≠moF W a.1*(b:Rat):=fun z=>c (fa.lo.inj ml.2.1.lo (z.trans c7.symm));obtain ⟨l0,e0,f5,f6,f0⟩:=Jkx hw rc X R c0 ha c3;have wp:=d.wt p Z;refine ⟨sc,_,e1,_,rfl,o _ _ (a9 _ _ d6),rfl,rfl,?_⟩;refine ixT (i:=5) b0 rfl ?_;nofun;refine ⟨len2,?_⟩;rename_i w1 i0 i1 H7 H8 S8 e8;nofun;refine ⟨M, .ref w1,_,_,p.wt,1,rfl,a7.same S8,FrV.of e8,fa.s1.mono ⋯,fa.s2.mono ⋯,wp.mono ⋯, .lit ⋯ ⋯,fa.b1,by decide,fa.g1,by unfold Mth.g;simp,fun p2 H9 S9 e9=>?_⟩;have e9:H9 p2=some (.tup [.int (mulF a.2 (p.wt,1)).1, .int (mulF a.2 (p.wt,1)).2]):=e9;have a5:=Same.trans S8 S9;have i6:=JeX (a:=a.2) (c:=(p.wt,1)) fa.b1 (Int.le_refl 1);have f9:FB 3000 1000 (mulF a.2 (p.wt,1)):=by
    refine FB.low (Jbh fa.b1 (Int.le_refl 1)) ((fa.s1.mul wp).mono ⋯) ?_;show Mth.Sz 1000 (a.2.2*1);rw [Int.mul_one];exact fa.s2.mono ⋯
   nofun;refine ⟨sc, .ref p2,_,b,fs,rfl,a1.same (a9.trans (o.trans a5)),FrV.of e9,f9,fun p3 tt i8 h7 g6 e7=>?_⟩;have B:=a5.trans h7;nofun;refine ⟨.inl ⟨rfl,_,SqL.of (B _ _ ez)⟩,?_⟩;nofun;refine ⟨ll,p.nm,M,xs,U,a.2,l0,rfl,B _ _ (o _ _ g5),x4.mono (fun _ _ z=>z.same (o.trans B)),by ac_nf,a7.same B,by rw [<- J];exact f5,fun t f4 d4 d8=>?_⟩;nofun;refine ⟨by show 3<=sizeLine;ac_nf,?_⟩;rename_i pr d5 b9 f4 a6 b8 e9;nofun;have v:=B.trans (d4.trans b8);have S:=v _ _ ez;nofun;refine ⟨Y,zs,_,rfl,rfl,S,by ac_nf,?_⟩;generalize G:upd a6 Y _=C;nofun;have b6:=putE G;have n:SameT a6 C:=SameT.put G S rfl;have T7:=v.t.trans n;refine c2 _ _ ⟨li,_,_,_,_,_,a0++[(⟨p.nm,tt,some e0.1.nm⟩:ShD)],rfl,fun c u O h=>by rw [<- G,Jag O];exact v _ _ (ho c u O h),hT.trans T7,b6,(hZ.mono (P':=ShV K C) fun _ _ z=>z.sameT T7).append (.one (show ShV K C (⟨p.nm,tt,some e0.1.nm⟩:ShD) (.ref pr) from ⟨pr,_,t,rfl,SqT.of (n _ _ rfl e9),FrV.of (n _ _ rfl (b8 _ _ (d4 _ _ g6))),by rw [f0] at d8;exact SqT.of (n _ _ rfl (b8 _ _ d8))⟩)),by rw [length_append,N];rfl,fun j p' r' h1 h2=>?_⟩;rcases JbC h2 with h2 | ⟨q1,q2⟩
   ·exact I j p' r' h1 h2
   ·rw [q1,N,L] at h1;cases h1;rw [q2];exact Jky d rc X Z ha J c3 e7 f6
 ·rintro σ H7 ⟨hi,v6,v7,v8,v9,zs,a0,rfl,ho,hT,ez,hZ,N,I⟩;nofun;obtain ⟨D,F⟩:=Jim hw rc X R;exact k Y zs a0 H7 (fun c u h=>ho c u (Jai h a3) (c1 _ _ (a2 _ _ h))) a3 ez hZ ⟨by have:=hZ.length;ac_nf,_,D,F,I⟩
abbrev Ba1:Stmt:=top 51
theorem Jci:Jan ["_law_script","_law_k","_law_total","_law_j"] ["_law_script","_law_k"] (Jae Ba1):=by bv_decide
def JbS (K:W.Frag):Sp:=fun vs H Q E=>∃ (a:Addr) (ns:List Int) (k:Int),vs=[.ref a, .int k]/\SqL K H a (ns.map V.int)/\ns.length<=63/\0<=k/\k<=1000/\∀ v:Int,Q (.int v) H
theorem Jge (F:FunD K "_law_cell" "_law_cell" Ba1 dV f fd) (T:Txt K mg Ad)  : FnOk P w K mg base (CX1 P w) 1 f fd ["_law_script","_law_k"] (JbS K):=by
 refine F.okn Jci (by subst_eqs) (fun n A c s H j Q E p h=>?_)
 obtain ⟨a,g,k,rfl,h⟩:=h;refine ⟨_,(Jab (Jak (i:=2) Jci.nd rfl (Or.inl rfl) Jac)
   (Jab (JaY PassesOwn.never rfl (Jib rfl T.Bcs (Jaa (pv 1) (Jaa (Jat (Jhu rfl) rfl T.Bd1 JkJ (Jaa (Jat JaL rfl T.BbB Jbp (Jaa (pv 0) Jad)) (Jaa Jac Jad))) (Jaa Jac Jad)))) (Jax (i:=3) Jci.nd rfl (Or.inl rfl))
   (Jah (Jak (i:=2) Jci.nd rfl (Or.inl rfl) (pe_op Jbc (pv 2) (pe_op JaE (pe_ix ix_U (pv 0) (pv 3) (fun _ _=>rfl)) (pe_op Jbc Jac (pv 3)))))))
   (Jah (Jap (pv 2))))),?_⟩
 obtain ⟨e,u,m,r,q⟩:=h;obtain ⟨k,rfl⟩:=Int.eq_ofNat_of_zero_le m;show tSeq _ _ _ [some (.ref a),some (.int (k:Int)),none,none] H;nofun;refine ⟨_, .inl e,?_⟩;simpa only [length_map];refine ⟨_,_,_,rfl,⟨by ac_nf,by ac_nf,by split <;> ac_nf,by split <;> ac_nf,by decide,by decide⟩,?_⟩;refine ForQ.by (fun i σ b=>∃ (t:Int) (v:Option V),σ=[some (.ref a),some (.int (k:Int)),some (.int t),v]/\b=H) ⟨0,none,rfl,rfl⟩ ?_ ?_
 ·rintro i σ b d ⟨t,v,rfl,rfl⟩;have l:k+i*16<g.length:=by
   unfold rsz at d;split at d <;> split at d <;> ac_nf
  have o:(k:Int)+(i:Int)*16=((k+i*16:Nat):Int):=by ac_nf
  rw [o];nofun;refine ixL e (by rw [List.getElem?_map,List.getElem?_eq_getElem l];rfl) ?_;nofun;exact ⟨Jjp (.lit ∅ ∅),_,_,rfl,trivial⟩
 ·rintro σ b ⟨t,v,rfl,rfl⟩;nofun;exact q t
abbrev Bbs:Stmt:=top 52
theorem JbL:Jan ["_law_top","_law_bottom","_law_one","_law_other","_law_rest"] ["_law_top","_law_bottom"] (Jae Bbs):=by bv_decide
def Jbx  : Sp:=fun vs H Q E=>∃ (t b:Int),vs=[.int t, .int b]/\1<=b/\Mth.Sz 8000 b/\∀ p H',Same H H'->H' p=some (.tup [.int (Mth.top t b), .int (Mth.bot t b)])->Q (.ref p) H'
theorem Jhc (F:FunD K "_law_low" "_law_low" Bbs dV f fd) (T:Txt K mg Ad)  : FnOk P w K mg base (CX1 P w) 1 f fd ["_law_top","_law_bottom"] (Jbx):=by
 refine F.okn JbL (by subst_eqs) (fun G A j s H B Q E C h=>?_)
 obtain ⟨t,b,rfl,h⟩:=h;have u:=C.units;refine ⟨_,(Jab (Jak (i:=2) JbL.nd rfl (Or.inl rfl) (pv 0))
   (Jab (Jak (i:=3) JbL.nd rfl (Or.inl rfl) (pv 1))
   (Jab (JdL PassesOwn.never (Jav (JbI u) (pv 3) Jac (Jas _))
   (Jab (Jak (i:=4) JbL.nd rfl (Or.inl rfl) (pe_op JaG (pv 2) (pv 3)))
   (Jab (Jak (i:=2) JbL.nd rfl (Or.inl rfl) (pv 3))
   (Jah (Jak (i:=3) JbL.nd rfl (Or.inl rfl) (pv 4))))))
   (Jah (Jap (JaB (Jaa (pe_op Jau (pv 0) (Jat Jc3 rfl T.BdI Jgw (Jaa (pv 2) Jad))) (Jaa (pe_op Jau (pv 1) (Jat Jc3 rfl T.BdI Jgw (Jaa (pv 2) Jad))) Jad)))))))),?_⟩
 clear u;obtain ⟨L,D,k⟩:=h;show tSeq _ _ _ [some (.int t),some (.int b),none,none,none] H;nofun;refine ⟨fun m σ o=>∃ (x y:Int) (z:Option V),σ=[some (.int t),some (.int b),some (.int x),some (.int y),z]/\o=H/\0<=y/\Mth.g x y=Mth.g t b/\y.toNat=m,⟨_,_,_,none,rfl,rfl,by ac_nf,rfl,rfl⟩,?_⟩;rintro m σ o ⟨x,y,z,rfl,rfl,N,r,rfl⟩;nofun;by_cases c:y=0
 ·subst c;rw [if_neg (by simp)];nofun;have J:=Mth.g_pos (a:=t) (b:=b) ∅;have M:=Mth.g_le (a:=t) (b:=b) ∅;have l:DivOk (Mth.g t b):=divOk (n:=8000) ∅ (Nat.lt_of_le_of_lt (by ac_nf:(Mth.g t b).natAbs<=b.natAbs) D);have e:(if x<0 then -x else x)=Mth.g t b:=by
   rw [<- r,Mth.Jjn];split <;> ac_nf
  nofun;rw [e];refine ⟨l,l,len2,?_⟩;refine Jd0 fun p v S I=>k p v S ?_;rw [I];unfold Mth.top Mth.bot Mth.by_;rw [if_neg ∅];nofun
 ·rw [if_pos (by simp [c])];nofun;have f:=Mth.fm (x:=x) (y:=y) ∅;refine ⟨_,fun _ _ q=>q,?_⟩;nofun;have d:Mth.g y (x.fmod y)=Mth.g t b:=by rw [Mth.JhG ∅];exact r
  refine ⟨c,?_⟩;nofun;first
   | exact ⟨(x.fmod y).toNat,by ac_nf,y,x.fmod y,_,rfl,f.1,d,rfl⟩
   | exact ⟨(x.fmod y).toNat,by ac_nf,y,x.fmod y,_,rfl,rfl,f.1,d,rfl⟩
abbrev Ba2:Stmt:=top 53
theorem Jgr:Jan ["_law_one","_law_other","_law_sign"] ["_law_one","_law_other","_law_sign"] (Jae Ba2):=by bv_decide
def Jby (K:W.Frag):Sp:=fun vs H Q E=>∃ (x y:V) (g:Int) (a c:Fr2) (s:Bool),vs=[x,y, .int g]/\(g=if s then 1 else -1)/\FrV K H x a.1 a.2/\FrV K H y c.1 c.2/\FW 3000 3000 a/\FW 3000 3000 c/\∀ p H',Same H H'->H' p=some (.tup [.int (addF a (sgn s c)).1, .int (addF a (sgn s c)).2])->Q (.ref p) H'
theorem Jgf (F:FunD K "_law_plus" "_law_plus" Ba2 dV f fd) (T:Txt K mg Ad) (Baf:Cal P w K mg base 1 "_law_low" ["_law_top","_law_bottom"] [] (Jbx)):FnOk P w K mg base (CX1 P w) 2 f fd ["_law_one","_law_other","_law_sign"] (Jby K):=by
 refine F.okn Jgr (by subst_eqs) (fun t A j s H q Q E r h=>?_)
 obtain ⟨x,y,g,a,c,s,rfl,h⟩:=h;refine ⟨_,(Jah (Jap (Baf.ev r ⋯ rfl passF (Jaa (pe_op Jbc (pe_op JaE (pe_ix ix_U (pv 0) Jac (fun _ _=>rfl)) (pe_ix ix_U (pv 1) Jac (fun _ _=>rfl))) (pe_op JaE (pe_op JaE (pv 2) (pe_ix ix_U (pv 1) Jac (fun _ _=>rfl))) (pe_ix ix_U (pv 0) Jac (fun _ _=>rfl)))) (Jaa (pe_op JaE (pe_ix ix_U (pv 0) Jac (fun _ _=>rfl)) (pe_ix ix_U (pv 1) Jac (fun _ _=>rfl))) Jad)) (he:=by exact Jaf rfl)))),?_⟩;obtain ⟨n,l,m,d,b,k⟩:=h;have i:Mth.Sz 4 g:=by
  rw [n];cases s
  ·exact .lit ⋯ ⋯
  ·exact .lit ⋯ ⋯
 have u:(sgn s c).1=g*c.1:=by
  rw [n];cases s
  ·show -c.1 = -1*c.1;ac_nf
  ·show c.1=1*c.1;ac_nf
 have v:(sgn s c).2=c.2:=by cases s <;> rfl
 unfold addF at k;rw [u,v] at k;show tRet _ _ [some x,some y,some (.int g)] H;nofun;refine ixF0 l (ixF1 m ?_);nofun;refine ⟨mulOk d.s1 b.s2,ixF0 m ?_⟩;nofun;refine ⟨mulOk i b.s1,ixF1 l ?_⟩;nofun;refine ⟨mulOk (i.mul b.s1) d.s2,ixF1 l (ixF1 m ?_)⟩;nofun;refine ⟨mulOk d.s2 b.s2,_,_,rfl,?_,(d.s2.mul b.s2).mono ⋯,fun p o S e=>k p o S e⟩;have:=Int.mul_pos (show 0<a.2 by have:=d.b1;ac_nf) (show 0<c.2 by have:=b.b1;ac_nf);ac_nf
abbrev BaS:Stmt:=top 54
theorem Jay:Jan ["_law_script","_law_parts_here","_law_middle","_law_style","_law_k","_law_cell_here","_law_mixed","_law_size","_law_bottom","_law_most","_law_weight","_law_faces","_law_sign","_law_name"] ["_law_script"] (Jae BaS):=by bv_decide
def JcG (K:W.Frag):Sp:=fun vs H Q E=>∃ (a:Addr) (ns:List Int),vs=[.ref a]/\SqL K H a (ns.map V.int)/\ns.length<=63/\∀ q pl mv px st ls xs m H',Same H H'->H' q=some (.tup [.ref pl,mv])->FrV K H' mv m.1 m.2->H' pl=some (.lst px)->All2 (PDV K H') ls px->CH st ls xs m->1<=ls.length->ls.length<=12->Q (.ref q) H'
theorem JfH (F:FunD K "_law_parts" "_law_parts" BaS dV f fd) (T:Txt K mg Ad) (Bam:Cal P w K mg base 1 "_law_cell" ["_law_script","_law_k"] [] (JbS K)) (Baf:Cal P w K mg base 1 "_law_low" ["_law_top","_law_bottom"] [] (Jbx)) (Bae:Cal P w K mg base 2 "_law_plus" ["_law_one","_law_other","_law_sign"] [] (Jby K)):FnOk P w K mg base (CX1 P w) 3 f fd ["_law_script"] (JcG K):=by
 refine F.okn Jay (by subst_eqs) (fun i5 A f7 s H vs Q E hr h=>?_)
 obtain ⟨a,ns,rfl,h⟩:=h;have hu:=hr.units;refine ⟨_,(Jab (Jak (i:=1) Jay.nd rfl (Or.inl rfl) (Ja5 Jad))
   (Jab (Jak (i:=2) Jay.nd rfl (Or.inl rfl) (JaB (Jaa Jac (Jaa Jac Jad))))
   (Jab (Jak (i:=3) Jay.nd rfl (Or.inl rfl) (pe_op JaG (Bam.ev hr ⋯ rfl passF (Jaa (pv 0) (Jaa Jac Jad)) (he:=by exact Jaf rfl)) Jac))
   (Jab (JaY PassesOwn.never rfl (Jdf rfl T.Bcs (Jaa (pe_op Jbc Jac (pe_op JaG (Bam.ev hr ⋯ rfl passF (Jaa (pv 0) (Jaa Jac Jad)) (he:=by exact Jaf rfl)) Jac)) Jad)) (Jax (i:=4) Jay.nd rfl (Or.inl rfl))
   (Jab (Jak (i:=5) Jay.nd rfl (Or.inl rfl) (Bam.ev hr ⋯ rfl passF (Jaa (pv 0) (Jaa (pe_op Jbc Jac (pv 4)) Jad)) (he:=by exact Jaf rfl)))
   (Jab (Jak (i:=6) Jay.nd rfl (Or.inl rfl) (pe_op Jau (pe_op JaG (pe_op JaE (pv 5) Jac) Jac) Jac))
   (Jab (Jak (i:=7) Jay.nd rfl (Or.inl rfl) (Baf.ev hr ⋯ rfl passF (Jaa (pe_op JaG (pv 5) (pe_ix ix_U (Ja5 (Jaa Jac (Jaa (pe_op Je8 Jac Jac) Jad))) (pe_op JaG (pe_op Jau (pv 6) Jac) Jac) (fun _ _=>rfl))) (Jaa (pe_op Jbc Jac (pe_op JaG (pe_op Jau (pv 6) Jac) Jac)) Jad)) (he:=by exact Jaf rfl)))
   (Jab (Jak (i:=8) Jay.nd rfl (Or.inl rfl) (pe_ix ix_U (Ja5 (Jcv (Jcv (Jcv (Jcv (Jcv (Jcv (Jcv (Jcv (Jcv (Jcv (Jcv (Jcv Jad))))))))))))) (pe_op JaG (pe_op Jau (pv 6) Jac) Jac) (fun _ _=>rfl)))
   (Jab (Jak (i:=9) Jay.nd rfl (Or.inl rfl) (Baf.ev hr ⋯ rfl passF (Jaa (pe_ix ix_U (Ja5 (Jaa (pe_op JaG (pe_op Jau (pv 6) Jac) Jac) (Jaa (pe_op JaG (pe_op Jau (pv 5) Jac) (pe_op Je8 Jac Jac)) Jad))) (JcB Jhs rfl T.BdV Jjh (Jaa (Ja1 (Jbr hu) (pe_op JaG (pe_op Jau (pv 6) Jac) Jac) Jac (Jas _)) Jad)) (fun _ _=>rfl)) (Jaa (pv 8) Jad)) (he:=by exact Jaf rfl)))
   (Jab (Jak (i:=10) Jay.nd rfl (Or.inl rfl) (pe_ix ix_U (Ja5 (Jaa (pe_op Jbc Jac (pe_op JaG (pv 6) Jac)) (Jaa (pe_op Jbc Jac (pe_op JaG (pv 6) Jac)) (Jaa (pe_op Jbc Jac (pe_op JaG (pv 5) (pe_op Je8 Jac Jac))) Jad)))) (pe_op JaG (pe_op Jau (pv 6) Jac) Jac) (fun _ _=>rfl)))
   (Jab (Jak (i:=11) Jay.nd rfl (Or.inl rfl) (Ja5 (Jaa (pe_ix ix_U Ja8 (pv 4) (fun _ _=>rfl)) (Jaa (pe_ix ix_U Ja8 (pe_op Jbc (pv 4) Jac) (fun _ _=>rfl)) Jad))))
   (Jab (Jak (i:=12) Jay.nd rfl (Or.inl rfl) (pe_op JgL Jac (pe_op JaE Jac (pe_op JaG (pe_op Jau (pv 6) Jac) Jac))))
   (Jab (ps_if (Jav Jdb (pv 12) Jac (Jas _))
   (Jah (Ja2 (JgO PySem.F.plainAttrs_list PySem.F.slot_list_reverse PySem.F.type_list_reverse Jdt (pv 11))))
   Jar)
   (Jab (Jak (i:=13) Jay.nd rfl (Or.inl rfl) (pe_op Jbc (pe_op Jbc (pe_op JaE Ja8 (pv 3)) (pe_ix ix_U Ja8 (pv 4) (fun _ _=>rfl))) (pe_op JaE Ja8 (pe_op JgL Jac (pv 3)))))
   (Jab (Ja2 (pe_bm PySem.F.plainAttrs_list PySem.F.slot_list_append PySem.F.type_list_append Ja7 (pv 1) (Jaa (JaB (Jaa (pv 13) (Jaa (pe_ix ix_U (pv 11) Jac (fun _ _=>rfl)) (Jaa (pe_ix ix_U (pv 11) Jac (fun _ _=>rfl)) (Jaa (pv 7) (Jaa (pv 9) (Jaa (pv 10) Jad))))))) Jad) (hs:=by exact Jaf rfl)))
   (Jah (Jak (i:=2) Jay.nd rfl (Or.inl rfl) (Bae.ev hr ⋯ rfl passF (Jaa (pv 2) (Jaa (pv 7) (Jaa (pv 12) Jad))) (he:=by exact Jaf rfl))))))))))))))))
   (Jah (Jap (JaB (Jaa (pv 1) (Jaa (pv 2) Jad))))))))),?_⟩
 clear hu;obtain ⟨hS,hl,k⟩:=h;have sl:(1000:Nat)<=sizeLine:=by decide
 have S:(Str.ofString "x").cps.toList=[120]:=by decide
 have h4:(Str.ofString "x").length=1:=by decide
 have d4:(Str.ofString "fghijklmnopqr").cps.toList=List.range' 102 13:=by decide
 have f3:(Str.ofString "abcdefghijkl").cps.toList=List.range' 97 12:=by decide
 show tSeq _ _ _ [some (.ref a),none,none,none,none,none,none,none,none,none,none,none,none,none] H;nofun;refine ⟨len0,?_⟩;rename_i pl c9 i4 H H1 S1 e1;nofun;refine ⟨len2,?_⟩;rename_i m0 h7 h6 H1 H2 S2 e2;nofun;refine ⟨a,ns,1,rfl,(hS.same S1).same S2,hl,by decide,by decide,fun cs=>?_⟩;nofun;repeat (refine And.intro (by first | exact Ja3 ⋯ | exact Ja6 ⋯ | exact Ja4 ⋯ | exact JaO ⋯ | exact Int.one_ne_zero | decide) ?_)
 have q3:=Mth.fm (x:=cs) (y:=3) ⋯;obtain ⟨st,c3⟩:=Int.eq_ofNat_of_zero_le q3.1;rw [c3] at q3 ⊢
 (try ((with_reducible refine Nxt.go (by assumption) ?_);nofun))
 refine ⟨a,ns,0,rfl,(hS.same S1).same S2,hl,by decide,by decide,fun c0=>?_⟩;nofun;repeat (refine And.intro (by first | exact Ja3 ⋯ | exact Ja6 ⋯ | exact Ja4 ⋯ | exact JaO ⋯ | exact Int.one_ne_zero | decide) ?_)
 have q0:=Mth.fm (x:=c0) (y:=12) ⋯;refine ⟨_,rfl,by ac_nf,by ac_nf,?_⟩;have g5:st<=2:=by ac_nf
 clear q3 c3;refine ForR.byN (fun i σ H'=>∃ (v4 v5 v6 v7 v8 v9 a6 a3 b0 G:Option V) (mv:V) (W:List V) (ls:List PD) (xs:List (SpD × List Str)) (m:Fr2),σ=[some (.ref a),some (.ref pl),some mv,some (.int (st:Int)),v4,v5,v6,v7,v8,v9,a6,a3,b0,G]/\Same H H'/\H' pl=some (.lst W)/\All2 (PDV K H') ls W/\FrV K H' mv m.1 m.2/\CH st ls xs m/\ls.length=i) ⟨none,none,none,none,none,none,none,none,none,none, .ref m0,[],[],_,(0,1),rfl,S1.trans S2,S2 _ _ e1,rfl,FrV.of e2,CH.start g5,rfl⟩ ?_ ?_
 ·rintro i σ H3 hi ⟨v4,v5,v6,v7,v8,v9,a6,a3,b0,G,mv,W,ls,xs,m,rfl,S3,ep,hP,b8,hC,r⟩ N0 e0;have j0:i<12:=by ac_nf
  clear hi q0;rw [Int.zero_add];nofun;refine ⟨a,ns,_,rfl,hS.same S3,hl,by ac_nf,by ac_nf,fun B=>?_⟩;nofun;repeat (refine And.intro (by first | exact Ja3 ⋯ | exact Ja6 ⋯ | exact Ja4 ⋯ | exact JaO ⋯ | exact Int.one_ne_zero | decide) ?_)
  (try ((with_reducible refine Nxt.go (by assumption) ?_);nofun))
  generalize ((B*48271).fmod 2147483647).fdiv 37=mx;nofun;repeat (refine And.intro (by first | exact Ja3 ⋯ | exact Ja6 ⋯ | exact Ja4 ⋯ | exact JaO ⋯ | exact Int.one_ne_zero | decide) ?_)
  rename_i ml i1 h1 H3 H6 S6 e6;nofun;repeat (refine And.intro (by first | exact Ja3 ⋯ | exact Ja6 ⋯ | exact Ja4 ⋯ | exact JaO ⋯ | exact Int.one_ne_zero | decide) ?_)
  have q5:=Mth.fm (x:=mx.fdiv 64) (y:=2) ⋯;obtain ⟨n5,d5⟩:=Int.eq_ofNat_of_zero_le q5.1;rw [d5] at q5 ⊢;obtain ⟨I,f6,m1,m2⟩:∃ I:Int,[V.int 9, .int 10000000000000000000000000000000000000000][n5]?=some (.int I)/\1<=I/\I<=10000000000000000000000000000000000000000:=pick9 ∅;refine ixL (i:=n5) (SqL.of e6) f6 ?_;clear q5 d5;nofun;refine ⟨by ac_nf,?_⟩;repeat (refine And.intro (by first | exact Ja3 ⋯ | exact Ja6 ⋯ | exact Ja4 ⋯ | exact JaO ⋯ | exact Int.one_ne_zero | decide) ?_)
  have qt:=Mth.fm (x:=B) (y:=I) ∅;have qb:=Mth.fm (x:=mx.fdiv 128) (y:=6) ⋯;refine ⟨_,_,rfl,by ac_nf, .lit ∅ ∅,fun fz H7 S7 e7=>?_⟩;have zb:FB 133 4 (Mth.top (B.fmod I) (1+(mx.fdiv 128).fmod 6),Mth.bot (B.fmod I) (1+(mx.fdiv 128).fmod 6)):=FB.low ∅ (.lit ∅ ∅) (.lit ∅ ∅);obtain ⟨D,l⟩:∃ D:Fr2,D=(Mth.top (B.fmod I) (1+(mx.fdiv 128).fmod 6),Mth.bot (B.fmod I) (1+(mx.fdiv 128).fmod 6)):=⟨_,rfl⟩;rw [<- l] at zb;have e7:H7 fz=some (.tup [.int D.1, .int D.2]):=by rw [e7,l]
  clear qt qb m1 m2 l;nofun;refine ⟨by show 12<=sizeLine;ac_nf,?_⟩;rename_i bl h2 h9 H7 e3 a4 g1;nofun;repeat (refine And.intro (by first | exact Ja3 ⋯ | exact Ja6 ⋯ | exact Ja4 ⋯ | exact JaO ⋯ | exact Int.one_ne_zero | decide) ?_)
  have b3:=Mth.fm (x:=mx.fdiv 4096) (y:=12) ⋯;obtain ⟨d2,U⟩:=Int.eq_ofNat_of_zero_le b3.1;rw [U] at b3 ⊢;obtain ⟨X,f4,b1,b2,k,Y⟩:=Jlf (n:=d2) ∅;refine ixL (i:=d2) (SqL.of g1) f4 ?_;clear b3 U;nofun;repeat (refine And.intro (by first | exact Ja3 ⋯ | exact Ja6 ⋯ | exact Ja4 ⋯ | exact JaO ⋯ | exact Int.one_ne_zero | decide) ?_)
  have qa:=Mth.fm (x:=mx.fdiv 16) (y:=13) ⋯;have qc:=Mth.fm (x:=B.fdiv 3) (y:=1000000000000000000000000000000) ⋯;refine ⟨len2,?_⟩;rename_i ol h8 i2 e3 j1 a9 f1;nofun;repeat (refine And.intro (by first | exact Ja3 ⋯ | exact Ja6 ⋯ | exact Ja4 ⋯ | exact JaO ⋯ | exact Int.one_ne_zero | decide) ?_)
  refine .inr ⟨_,rfl,?_⟩;obtain ⟨n3,C,c2,f9,t1,t2⟩:∃ (n3:Nat) (C:Int),(if decide ((mx.fdiv 1024).fmod 3=1)=true then (1:Int) else 0)=(n3:Int)/\[V.int ((mx.fdiv 16).fmod 13), .int ((B.fdiv 3).fmod 1000000000000000000000000000000)][n3]?=some (.int C)/\0<=C/\C<=1000000000000000000000000000000:=by
   by_cases c:(mx.fdiv 1024).fmod 3=1
   ·exact ⟨1,_,by rw [if_pos (by simpa using c)];rfl,rfl,by ac_nf,by ac_nf⟩
   ·exact ⟨0,_,by rw [if_neg (by simpa using c)];rfl,rfl,by ac_nf,by ac_nf⟩
  rw [c2];refine ixL (i:=n3) (SqL.of f1) f9 ?_;clear qa qc c2;nofun;refine ⟨_,_,rfl,b1, .lit ∅ ∅,fun fm d6 a2 b7=>?_⟩;have mb:FB 100 6 (Mth.top C X,Mth.bot C X):=FB.low b1 (.lit ∅ ∅) (.lit ∅ ∅);have mn:0<=Mth.top C X:=Jiw t1 b1;have md:Dv 60 (vl (Mth.top C X,Mth.bot C X)):=dv60 b1 Y;obtain ⟨mz,e⟩:∃ mz:Fr2,mz=(Mth.top C X,Mth.bot C X):=⟨_,rfl⟩;rw [<- e] at mb md;have mn:0<=mz.1:=by rw [e];exact mn
  have b7:d6 fm=some (.tup [.int mz.1, .int mz.2]):=by rw [b7,e]
  clear t1 t2 b1 b2 Y e;nofun;repeat (refine And.intro (by first | exact Ja3 ⋯ | exact Ja6 ⋯ | exact Ja4 ⋯ | exact JaO ⋯ | exact Int.one_ne_zero | decide) ?_)
  have qw:=Mth.fm (x:=mx) (y:=5) ⋯;have g7:=Mth.fm (x:=B) (y:=1000000) ⋯;refine ⟨len3,?_⟩;rename_i wl h5 i0 d6 e5 N g4;nofun;repeat (refine And.intro (by first | exact Ja3 ⋯ | exact Ja6 ⋯ | exact Ja4 ⋯ | exact JaO ⋯ | exact Int.one_ne_zero | decide) ?_)
  have q8:=Mth.fm (x:=mx.fdiv 8) (y:=3) ⋯;obtain ⟨n8,c7⟩:=Int.eq_ofNat_of_zero_le q8.1;rw [c7] at q8 ⊢;obtain ⟨L,g8,f8,i8⟩:∃ L:Int,[V.int (1+mx.fmod 5), .int (1+mx.fmod 5), .int (1+B.fmod 1000000)][n8]?=some (.int L)/\1<=L/\L<=1000000:=pickw ∅ ∅ ∅ ∅ ∅;refine ixL (i:=n8) (SqL.of g4) g8 ?_;clear qw g7 q8 c7;nofun;refine ⟨102+i,by decide,by rw [d4];exact Jcy (by rw [List.getElem?_range' ∅,Nat.one_mul]),?_⟩;nofun;rw [show (i:Int)+1=((i+1:Nat):Int) from rfl];refine ⟨102+(i+1),by decide,by rw [d4];exact Jcy (by rw [List.getElem?_range' ∅,Nat.one_mul]),?_⟩;rw [fcK (st:=st),fcK (st:=st)];nofun;refine ⟨len2,?_⟩;rename_i fl d3 h3 e5 H8 S8 e8;nofun;repeat (refine And.intro (by first | exact Ja3 ⋯ | exact Ja6 ⋯ | exact Ja4 ⋯ | exact JaO ⋯ | exact Int.one_ne_zero | decide) ?_)
  have q6:=Mth.fm (x:=mx.fdiv 2048) (y:=2) ⋯;obtain ⟨n6,f0⟩:=Int.eq_ofNat_of_zero_le q6.1;rw [f0] at q6 ⊢
  (try ((with_reducible refine Nxt.go (by assumption) ?_);nofun))
  rename_i R hR;have c4:Same H3 H8:=S6.trans (S7.trans (a4.trans (a9.trans (a2.trans (N.trans S8)))));have d7:H3 fl=none:=JdQ (S6.trans (S7.trans (a4.trans (a9.trans (a2.trans N))))) d3;have d1:=S8 _ _ (N _ _ (a2 _ _ (a9 _ _ (a4 _ _ e7))));have d0:=S8 _ _ (N _ _ b7);have key:∀ (d:Bool) (O:Hp) (u v:Str),SameT H8 O->Same H3 O->O fl=some (.lst [.str u, .str v])->(u=if d then nmK 102 st i else nmK 102 st (i+1))->(v=if d then nmK 102 st (i+1) else nmK 102 st i)->(1-2*(n6:Int)=if d then 1 else -1)->R [some (.ref a),some (.ref pl),some mv,some (.int (st:Int)),some (.int (i:Int)),some (.int B),some (.int mx),some (.ref fz),some (.int X),some (.ref fm),some (.int L),some (.ref fl),some (.int (1-2*(n6:Int))),G] O:=by
   intro d O u v T9 S9 e9 a1 a8 f2;refine hR.go ?_;clear hR q6;nofun;refine ⟨by ac_nf,by ac_nf,by ac_nf,fun z1 l=>?_⟩;have b6:z1.cps.toList=List.replicate st 120:=by
    rw [l,S];simp
   refine ⟨97+i,by decide,by rw [f3];exact Jcy (by rw [List.getElem?_range' ∅,Nat.one_mul]),?_⟩;nofun;have l1:z1.length=st:=by rw [JeU,b6,List.length_replicate]
   have b4:(z1++(⟨#[97+i]⟩:Str)).cps.toList=List.replicate st 120++[97+i]:=by rw [Jgv,b6]
   have d9:(z1++(⟨#[97+i]⟩:Str)).length=st+1:=by rw [JeU,b4];simp
   have lc:(⟨#[97+i]⟩:Str).length=1:=rfl;refine ⟨by ac_nf,?_⟩;nofun;refine ⟨by ac_nf,by ac_nf,by ac_nf,fun z2 e=>?_⟩;have b5:z2.cps.toList=List.replicate (2-st) 120:=by
    rw [e,S];have : ((2:Int)-(st:Int)).toNat=2-st:=by ac_nf
    rw [this];simp
   have l3:z2.length=2-st:=by rw [JeU,b5,List.length_replicate]
   nofun;refine ⟨by ac_nf,?_⟩;rw [nm_eq b4 b5];clear l3 b5 lc d9 b4 l1 b6 l e;nofun;refine ⟨.inl ⟨rfl,_,SqL.of (S9 _ _ ep)⟩,?_⟩;refine ixL (i:=0) (SqL.of e9) rfl ?_;refine ixL (i:=1) (SqL.of e9) rfl ?_;nofun;refine ⟨by show 6<=sizeLine;ac_nf,?_⟩;rename_i pt i3 h0 O c5 M g3;nofun;have lp:=hP.length;have j:=S9.trans M;refine ⟨pl,W,_,rfl,rfl,j _ _ ep,by ac_nf,?_⟩;generalize b9:upd c5 pl _=o;nofun;have g2:o pl=some (.lst (W++[.ref pt])):=putE b9;have a5:SameT c5 o:=SameT.put b9 (j _ _ ep) rfl;have Z:SameT H3 o:=j.t.trans a5;have c8:SameT H8 o:=T9.trans (M.t.trans a5);have d8:FrV K o (.ref fz) D.1 D.2:=FrV.of (c8 _ _ rfl d1);nofun;refine ⟨mv, .ref fz,_,m,D,d,rfl,f2,b8.sameT Z,d8,(hC.mb ∅).w.mono ⋯ ⋯,zb.w.mono ⋯ ⋯,fun np f5 J g0=>?_⟩;nofun;have a7:nameS (nmK 112 st i)=true:=Jc8 ⋯ ∅ ∅;have i6:nameS (nmK 102 st i)=true:=Jc8 ⋯ ∅ ∅;have i7:nameS (nmK 102 st (i+1))=true:=Jc8 ⋯ ∅ ∅;have nw:nmK 102 st i≠nmK 102 st (i+1):=fun z=>by have:=Jce z;ac_nf
   have a0:Mth.Sz 21 L:=.lit ∅ ∅;have g6:POk ⟨nmK 112 st i,u,v,D,mz,L⟩:=⟨a7,by show nameS u=true;rw [a1];cases d <;> assumption,by show nameS v=true;rw [a8];cases d <;> assumption,by show u≠v;rw [a1,a8];cases d;exact Ne.symm nw;exact nw,zb.ok ⋯ ⋯,mb.ok ⋯ ⋯,mn,f8,a0.mono ⋯⟩;have g9:=hC.step (p:=⟨nmK 112 st i,u,v,D,mz,L⟩) (d:=d) (by rw [r]) (by rw [r];exact a1) (by rw [r];exact a8) zb mb g6 a0 md;refine e0 _ _ ⟨_,_,_,_,_,_,_,_,_,_, .ref np,W++[.ref pt],ls++[⟨nmK 112 st i,u,v,D,mz,L⟩],_,_,rfl,fun b w h=>J _ _ (by rw [<- b9,Jag (Jai h c9)];exact j _ _ (S3 _ _ h)),J _ _ g2,?_,FrV.of g0,g9,by simp [r]⟩;have g:=a5.trans J.t;exact (hP.mono (P':=PDV K f5) fun _ _ z=>z.sameT (Z.trans J.t)).append (.one ⟨pt,_,_,rfl,SqT.of (g _ _ rfl g3),FrV.of (g _ _ rfl (M _ _ (T9 _ _ rfl d1))),FrV.of (g _ _ rfl (M _ _ (T9 _ _ rfl d0)))⟩)
  clear hR;by_cases c6:(n6:Int)=0
  ·(rw [if_neg (by simp [c6])])
   exact key true H8 _ _ (SameT.refl _) c4 e8 rfl rfl (by show 1-2*(n6:Int)=1;ac_nf)
  ·(rw [if_pos (by simpa using (by ac_nf:1-2*(n6:Int)<0))])
   nofun;refine ⟨.inl ⟨rfl,_,SqL.of e8⟩,?_⟩;refine ⟨fl,_,rfl,rfl,e8,?_⟩;generalize u9:upd H8 fl _=O;nofun;have e9:=putE u9;exact key false O _ _ (SameT.put u9 e8 rfl) (fun b w h=>by rw [<- u9,Jag (Jai h d7)];exact c4 _ _ h) e9 rfl rfl (by show 1-2*(n6:Int) = -1;ac_nf)
 ·rintro σ H3 ⟨v4,v5,v6,v7,v8,v9,a6,a3,b0,G,mv,W,ls,xs,m,rfl,S3,ep,hP,b8,hC,r⟩;nofun;refine ⟨len2,?_⟩;rename_i q j2 i9 H3 H4 S4 e4;nofun;exact k q pl mv W st ls xs m H4 (S3.trans S4) e4 (b8.same S4) (S4 _ _ ep) (hP.mono fun _ _ z=>z.sameT S4.t) hC ∅ ∅
abbrev Ba3:Stmt:=top 55
theorem JbN:Jan ["_law_script","_law_parts_here","_law_way","_law_total","_law_part"] ["_law_script","_law_parts_here"] (Jae Ba3):=by bv_decide
def JcY (K:W.Frag):Sp:=fun vs H Q E=>∃ (a pl:Addr) (ns:List Int) (px:List V) (ls:List PD),vs=[.ref a, .ref pl]/\SqL K H a (ns.map V.int)/\ns.length<=63/\SqL K H pl px/\All2 (PDV K H) ls px/\ls.length<=12/\(∀ p∈ls,FB 100 6 p.mo/\0<=vl p.mo/\Dv 60 (vl p.mo))/\∀ v (r:Fr2) H',Same H H'->FrV K H' v r.1 r.2->FB 150 16 r->0<=vl r->Q v H'
theorem Jgg (F:FunD K "_law_room" "_law_room" Ba3 dV f fd) (T:Txt K mg Ad) (Bam:Cal P w K mg base 1 "_law_cell" ["_law_script","_law_k"] [] (JbS K)) (Baf:Cal P w K mg base 1 "_law_low" ["_law_top","_law_bottom"] [] (Jbx)) (Bae:Cal P w K mg base 2 "_law_plus" ["_law_one","_law_other","_law_sign"] [] (Jby K)):FnOk P w K mg base (CX1 P w) 3 f fd ["_law_script","_law_parts_here"] (JcY K):=by
 refine F.okn JbN (by subst_eqs) (fun b2 A a3 s H vs Q E j h=>?_)
 obtain ⟨a,R,X,Z,ls,rfl,h⟩:=h;have U:=j.units;refine ⟨_,(Jab (Jak (i:=2) JbN.nd rfl (Or.inl rfl) (Bam.ev j ⋯ rfl passF (Jaa (pv 0) (Jaa Jac Jad)) (he:=by exact Jaf rfl)))
   (Jab (Jak (i:=3) JbN.nd rfl (Or.inl rfl) (JaB (Jaa Jac (Jaa Jac Jad))))
   (Jab (JaY PassesOwn.never rfl (pi_U (pv 1)) (Jax (i:=4) JbN.nd rfl (Or.inl rfl))
   (Jah (Jak (i:=3) JbN.nd rfl (Or.inl rfl) (Bae.ev j ⋯ rfl passF (Jaa (pv 3) (Jaa (pe_ix ix_U (pv 4) Jac (fun _ _=>rfl)) (Jaa Jac Jad))) (he:=by exact Jaf rfl)))))
   (Jab (ps_if (Jav (Jbr U) (pe_op JaG (pv 2) Jac) Jac (Jas _))
   (Jah (Jap (pv 3)))
   Jar)
   (Jab (ps_if (Jav (Jbr U) (pe_op JaG (pv 2) Jac) Jac (Jas _))
   (Jah (Jap (Bae.ev j ⋯ rfl passF (Jaa (pv 3) (Jaa (JaB (Jaa Jac (Jaa (pe_op Jbc Jac (pe_op JaG (pe_op Jau (pv 2) Jac) Jac)) Jad))) (Jaa Jac Jad))) (he:=by exact Jaf rfl))))
   Jar)
   (Jab (ps_if (Jav (Jbr U) (pe_op JaG (pv 2) Jac) Jac (Jas _))
   (Jah (Jap (Baf.ev j ⋯ rfl passF (Jaa (pe_op JaE (pe_ix ix_U (pv 3) Jac (fun _ _=>rfl)) (pe_op JaG (pe_op Jau (pv 2) Jac) Jac)) (Jaa (pe_op JaE (pe_ix ix_U (pv 3) Jac (fun _ _=>rfl)) Jac) Jad)) (he:=by exact Jaf rfl))))
   Jar)
   (Jah (Jap (Baf.ev j ⋯ rfl passF (Jaa (pe_op JaG (pe_op Jau (pv 2) Jac) (pe_ix ix_U (Ja5 (Jaa Jac (Jaa (pe_op Je8 Jac Jac) Jad))) (pe_op JaG (Bam.ev j ⋯ rfl passF (Jaa (pv 0) (Jaa Jac Jad)) (he:=by exact Jaf rfl)) Jac) (fun _ _=>rfl))) (Jaa (pe_op Jbc Jac (pe_op JaG (pe_op Jau (pv 2) Jac) Jac)) Jad)) (he:=by exact Jaf rfl)))))))))),?_⟩
 clear U;obtain ⟨hS,hl,hP,hX,b4,hm,k⟩:=h;have sl:(1000:Nat)<=sizeLine:=by decide
 have lX:=hX.length;show tSeq _ _ _ [some (.ref a),some (.ref R),none,none,none] H;nofun;refine ⟨a,X,2,rfl,hS,hl,by decide,by decide,fun w=>?_⟩;nofun;refine ⟨len2,?_⟩;rename_i t0 a8 b0 H H1 M e1;nofun;refine ⟨R,rfl,ForA.byLN (xs:=Z) (hP.same M) (fun i σ H'=>i<=Z.length/\∃ (Y:Option V) (t:V) (u:Fr2),σ=[some (.ref a),some (.ref R),some (.int w),some t,Y]/\Same H1 H'/\FrV K H' t u.1 u.2/\Lo u/\Dv 60 (vl u)/\0<=vl u/\vl u<=((2 ^ 100*i:Int):Rat)) ⟨Nat.zero_le _,none, .ref t0,(0,1),rfl,Same.refl _,FrV.of e1,⟨Int.le_refl 1,by unfold Mth.g;simp⟩,by rw [Jbz];exact Dv.int 0,by rw [Jbz];exact Rat.le_refl,by rw [Jbz];simp⟩ (fun i σ H' q=>by obtain ⟨_,_,_,_,_,q,_⟩:=q;exact (hP.same M).same q) ?_ ?_⟩
 ·rintro i y σ L hy ⟨hi,Y,t,u,rfl,N,o,B,J,n,S⟩ N0 a1;have li:=(List.getElem?_eq_some_iff.mp hy).1;obtain ⟨p,hp,a_,vz,vm,rfl,hb,_,a0⟩:=hX.at_ hy;obtain ⟨O,mn,md⟩:=hm p (List.mem_of_getElem? hp);have d:=sum60 B J n S ∅;have b:=M.trans N;nofun;refine ixT (i:=4) (hb.same b) rfl ?_;refine ⟨t,vm,_,u,p.mo,true,rfl,rfl,o,FrV.same b a0,d.w.mono ⋯ ⋯,O.w.mono ⋯ ⋯,fun q H3 m v=>?_⟩;nofun;have ev:vl (addF u p.mo)=vl u+vl p.mo:=JeI d.b1 O.b1;refine a1 _ _ ⟨li,_, .ref q,addF u p.mo,rfl,N.trans m,FrV.of v,Jcz (Jbh d.b1 O.b1),by rw [ev];exact J.add md,by rw [ev];exact Rat.add_nonneg n mn,?_⟩;rw [ev];exact Jjt S O mn
 ·rintro σ L ⟨hi,Y,t,u,rfl,N,o,B,J,n,S⟩;have d:=sum60 B J n S ∅;have b3:u.2<=60:=Int.le_of_dvd ⋯ (J.den B.b1 B.g1);have b:=M.trans N;have a4:=d.b1;nofun;repeat (refine And.intro (by first | exact Ja3 ⋯ | exact Ja6 ⋯ | exact Ja4 ⋯ | exact JaO ⋯ | exact Int.one_ne_zero | decide) ?_)
  have q4:=Mth.fm (x:=w) (y:=4) ⋯;by_cases c0:w.fmod 4=0
  ·rw [if_pos (by simpa using c0)];nofun;exact k t u L b o (d.mono ⋯ ⋯) n
  ·rw [if_neg (by simpa using c0)];nofun;repeat (refine And.intro (by first | exact Ja3 ⋯ | exact Ja6 ⋯ | exact Ja4 ⋯ | exact JaO ⋯ | exact Int.one_ne_zero | decide) ?_)
   by_cases c1:w.fmod 4=1
   ·rw [if_pos (by simpa using c1)];nofun;repeat (refine And.intro (by first | exact Ja3 ⋯ | exact Ja6 ⋯ | exact Ja4 ⋯ | exact JaO ⋯ | exact Int.one_ne_zero | decide) ?_)
    have r:=Mth.fm (x:=w.fdiv 4) (y:=1000) ⋯;refine ⟨len2,?_⟩;rename_i s0 a6 a7 L H3 m v;nofun;have W:FB 1 10 (1,1+(w.fdiv 4).fmod 1000):=⟨show Mth.Sz 1 1 from .lit ⋯ ⋯, .lit ∅ ∅,by ac_nf,L2.g_one1⟩;refine ⟨t, .ref s0,_,u,(1,1+(w.fdiv 4).fmod 1000),true,rfl,rfl,o.same m,FrV.of v,d.w.mono ⋯ ⋯,W.w.mono ⋯ ⋯,fun q C z G=>?_⟩;refine k (.ref q) _ C (b.trans (m.trans z)) (FrV.of G) ((d.add' W).mono ⋯ ⋯) ?_;show 0<=vl (addF u (1,1+(w.fdiv 4).fmod 1000));rw [JeI d.b1 W.b1];exact Rat.add_nonneg n ((vl_nn W.b1).mpr (by show (0:Int)<=1;decide))
   ·rw [if_neg (by simpa using c1)];nofun;repeat (refine And.intro (by first | exact Ja3 ⋯ | exact Ja6 ⋯ | exact Ja4 ⋯ | exact JaO ⋯ | exact Int.one_ne_zero | decide) ?_)
    by_cases c2:w.fmod 4=2
    ·rw [if_pos (by simpa using c2)];nofun;refine ixF0 o ?_;nofun;repeat (refine And.intro (by first | exact Ja3 ⋯ | exact Ja6 ⋯ | exact Ja4 ⋯ | exact JaO ⋯ | exact Int.one_ne_zero | decide) ?_)
     have r:=Mth.fm (x:=w.fdiv 4) (y:=1000) ⋯;have s5:Mth.Sz 10 ((w.fdiv 4).fmod 1000):=.lit ∅ ∅;refine ⟨mulOk d.s1 s5,?_⟩;refine ixF1 o ?_;nofun;repeat (refine And.intro (by first | exact Ja3 ⋯ | exact Ja6 ⋯ | exact Ja4 ⋯ | exact JaO ⋯ | exact Int.one_ne_zero | decide) ?_)
     have e:1<=u.2*1000:=by ac_nf
     have I:Mth.Sz 16 (u.2*1000):=.lit ∅ ∅;refine ⟨_,_,rfl,e,I.mono ⋯,fun q C z G=>?_⟩;refine k (.ref q) (Mth.top (u.1*(w.fdiv 4).fmod 1000) (u.2*1000),Mth.bot (u.1*(w.fdiv 4).fmod 1000) (u.2*1000)) C (b.trans z) (FrV.of G) ((FB.low e (d.s1.mul s5) I).mono ⋯ ⋯) ?_;refine (vl_nn (Jcz e).b1).mpr (Jiw (Int.mul_nonneg ((vl_nn a4).mp n) r.1) e)
    ·rw [if_neg (by simpa using c2)];nofun;nofun;repeat (refine And.intro (by first | exact Ja3 ⋯ | exact Ja6 ⋯ | exact Ja4 ⋯ | exact JaO ⋯ | exact Int.one_ne_zero | decide) ?_)
     rename_i ml a9 a5 L H3 m v;nofun;refine ⟨a,X,15,rfl,(hS.same b).same m,hl,by decide,by decide,fun c=>?_⟩;nofun;repeat (refine And.intro (by first | exact Ja3 ⋯ | exact Ja6 ⋯ | exact Ja4 ⋯ | exact JaO ⋯ | exact Int.one_ne_zero | decide) ?_)
     have r:=Mth.fm (x:=c) (y:=2) ⋯;obtain ⟨n5,D⟩:=Int.eq_ofNat_of_zero_le r.1;rw [D] at r ⊢;obtain ⟨l,a2,m1,m2⟩:∃ l:Int,[V.int 60, .int 1000000000000000000000000000000][n5]?=some (.int l)/\1<=l/\l<=1000000000000000000000000000000:=pick6 ∅;refine ixL (i:=n5) (SqL.of v) a2 ?_;clear r D;nofun;refine ⟨by ac_nf,?_⟩;repeat (refine And.intro (by first | exact Ja3 ⋯ | exact Ja6 ⋯ | exact Ja4 ⋯ | exact JaO ⋯ | exact Int.one_ne_zero | decide) ?_)
     have qt:=Mth.fm (x:=w.fdiv 4) (y:=l) ∅;have qb:=Mth.fm (x:=w.fdiv 240) (y:=6) ⋯;have e:1<=1+(w.fdiv 240).fmod 6:=by ac_nf
     refine ⟨_,_,rfl,e, .lit ∅ ∅,fun q C z G=>?_⟩;refine k (.ref q) (Mth.top ((w.fdiv 4).fmod l) (1+(w.fdiv 240).fmod 6),Mth.bot ((w.fdiv 4).fmod l) (1+(w.fdiv 240).fmod 6)) C (b.trans (m.trans z)) (FrV.of G) (FB.low e (.lit ∅ ∅) (.lit ∅ ∅)) ?_;exact (vl_nn (Jcz e).b1).mpr (Jiw qt.1 e)
abbrev BaT:Stmt:=top 56
theorem JcD:Jan ["_law_told","_law_parts_here","_law_k","_law_slack"] ["_law_told","_law_parts_here"] (Jae BaT):=by bv_decide
def JcF (K:W.Frag):Sp:=fun vs H Q E=>∃ (tl pl:Addr) (zs px:List V) (rs:List ShD) (ks:List PD) (rm:Fr2) (L:Rat),vs=[.ref tl, .ref pl]/\SqL K H tl zs/\All2 (ShV K H) rs zs/\SqL K H pl px/\All2 (PDV K H) ks px/\Sh1 (Str.ofString "need") ks rs rm L/\ks.length<=12/\∀ H',Same H H'->Q (.bl true) H'
theorem JfG (F:FunD K "_law_kinds" "_law_kinds" BaT dV f fd) (T:Txt K mg Ad) (Baf:Cal P w K mg base 1 "_law_low" ["_law_top","_law_bottom"] [] (Jbx)):FnOk P w K mg base (CX1 P w) 2 f fd ["_law_told","_law_parts_here"] (JcF K):=by
 refine F.okn JcD (by subst_eqs) (fun a3 A U s H vs Q E n h=>?_)
 obtain ⟨W,S,zs,px,rs,B,rm,L,rfl,h⟩:=h;have j:=n.units;refine ⟨_,(Jab (ps_if (PW.pt (pw_or (Jbi (JaZ (Jat JaA rfl T.Ban JaN (Jaa (pv 0) (Jaa (Jcf (v:=.ty "list") rfl T.Bdv JeM rfl) Jad))))) (JbZ (Jav (JbI j) (Jat JaL rfl T.BbB Jbp (Jaa (pv 0) Jad)) (Jat JaL rfl T.BbB Jbp (Jaa (pv 1) Jad)) (Jas _)))))
   (Jah (Jap pe_bl))
   Jar)
   (Jab (JaY PassesOwn.never rfl (Jdf rfl T.Bcs (Jaa (Jat JaL rfl T.BbB Jbp (Jaa (pv 1) Jad)) Jad)) (Jax (i:=2) JcD.nd rfl (Or.inl rfl))
   (Jab (ps_if (PW.pt (pw_or (Jbi (JaZ (Jat JaA rfl T.Ban JaN (Jaa (pe_ix ix_U (pv 0) (pv 2) (fun _ _=>rfl)) (Jaa (Jcf (v:=.ty "tuple") rfl T.Bcr Jc2 rfl) Jad))))) (pw_or (Jav (JbI j) (Jat JaL rfl T.BbB Jbp (Jaa (pe_ix ix_U (pv 0) (pv 2) (fun _ _=>rfl)) Jad)) Jac (Jas _)) (JbZ (Jav (JbI j) (pe_ix ix_U (pe_ix ix_U (pv 0) (pv 2) (fun _ _=>rfl)) Jac (fun _ _=>rfl)) (pe_ix ix_U (pe_ix ix_U (pv 1) (pv 2) (fun _ _=>rfl)) Jac (fun _ _=>rfl)) (Jas _))))))
   (Jah (Jap pe_bl))
   Jar)
   (Jab (Jak (i:=3) JcD.nd rfl (Or.inl rfl) (pe_ix ix_U (pe_ix ix_U (pv 0) (pv 2) (fun _ _=>rfl)) Jac (fun _ _=>rfl)))
   (Jab (ps_if (PW.pt (pw_or (Jbi (JaZ (Jat JaA rfl T.Ban JaN (Jaa (pv 3) (Jaa (Jcf (v:=.ty "tuple") rfl T.Bcr Jc2 rfl) Jad))))) (pw_or (Jav (JbI j) (Jat JaL rfl T.BbB Jbp (Jaa (pv 3) Jad)) Jac (Jas _)) (pw_or (Jav Jdb (pe_ix ix_U (pv 3) Jac (fun _ _=>rfl)) Jac (Jas _)) (JbZ (Jav (JbI j) (pv 3) (Baf.ev n ⋯ rfl passF (Jaa (pe_ix ix_U (pv 3) Jac (fun _ _=>rfl)) (Jaa (pe_ix ix_U (pv 3) Jac (fun _ _=>rfl)) Jad)) (he:=by exact Jaf rfl)) (Jas _)))))))
   (Jah (Jap pe_bl))
   Jar)
   (Jah (ps_if (PW.pt (Jlh (Jav (JbI j) (pe_ix ix_U (pe_ix ix_U (pv 0) (pv 2) (fun _ _=>rfl)) Jac (fun _ _=>rfl)) (JaB (Jaa Ja8 Jad)) (Jas _)) (Jkr (Jav (JbI j) (pe_ix ix_U (pe_ix ix_U (pv 0) (pv 2) (fun _ _=>rfl)) Jac (fun _ _=>rfl)) (JaB (Jaa Ja8 (Jaa Ja8 Jad))) (Jas _)))))
   (Jah (Jap pe_bl))
   Jar))))))
   (Jah (Jap pe_bl)))),?_⟩
 clear j;obtain ⟨u,Y,N,hK,C,a5,k⟩:=h;have sz:(1000:Nat)<=sizeLine:=by decide
 have lZ:=Y.length;have lK:=hK.length;have a4:rs.length=B.length:=by simpa using congrArg List.length C.nm
 show tSeq _ _ _ [some (.ref W),some (.ref S),none,none] H;nofun;refine ⟨"list", .inl ⟨rfl,_,u⟩,?_⟩;rw [show (!isiB "list" "list")=false from rfl,if_neg ⋯];refine ⟨_, .inl u,?_⟩;refine ⟨_, .inl N,?_⟩;nofun;rw [show (!decide ((zs.length:Int)=(px.length:Int)))=false by rw [decide_eq_true ∅];rfl,if_neg ⋯]
 (try ((with_reducible refine Nxt.go (by assumption) ?_);nofun))
 refine ⟨_, .inl N,?_⟩;nofun;refine ⟨_,rfl,by ac_nf,by ac_nf,?_⟩;refine ForR.byN (fun i σ H'=>∃ (G R:Option V),σ=[some (.ref W),some (.ref S),G,R]/\Same H H') ⟨none,none,rfl,Same.refl _⟩ ?_ ?_
 ·rintro i σ X hi ⟨G,R,rfl,g⟩ N0 t;have ir:i<rs.length:=by ac_nf
  have n:=List.getElem?_eq_getElem ir;have O:=List.getElem?_eq_getElem (by ac_nf:i<B.length);obtain ⟨z,o,pr,vs,tt,rfl,l,M,d⟩:=Y.get n;obtain ⟨y,hy,a_,vz,vm,rfl,hb,_,hm⟩:=hK.get O;have en:rs[i].nm=B[i].nm:=by
   have:=congrArg (·[i]?) C.nm;simp only [List.getElem?_map,n,O] at this;exact Option.some.inj this
  have D:=C.fb _ (List.getElem_mem ir);have I:=C.sp i _ _ O n;generalize rs[i]=r at *;generalize B[i]=p at *;have ls:=JiO D.lo;have d:=ShV.tt d;have e:=u.same g;have b:=l.same g;have a:=M.same g;rw [Int.zero_add];nofun;refine ixL (i:=i) e o ?_;nofun;refine ⟨"tuple", .inr ⟨rfl,_,b⟩,?_⟩;rw [show (!isiB "tuple" "tuple")=false from rfl,if_neg ⋯];nofun;refine ixL (i:=i) e o ?_;refine ⟨_, .inr b,?_⟩;nofun;rw [if_neg (by simp)];nofun;refine ixL (i:=i) e o ?_;refine ixT (i:=0) b rfl ?_;refine ixL (i:=i) (N.same g) hy ?_;refine ixT (i:=0) (hb.same g) rfl ?_;nofun;rw [if_neg (by simp [en])];nofun;nofun;refine ixL (i:=i) e o ?_;refine ixT (i:=1) b rfl ?_;nofun;refine ⟨"tuple",a.ty,?_⟩;rw [show (!isiB "tuple" "tuple")=false from rfl,if_neg ⋯];nofun;refine lenF a ?_;nofun;try rw [if_neg (by simp)]
  nofun;refine ixF1 a ?_;nofun;have b1:=D.b1;rw [if_neg (by simpa using (by ac_nf:¬ r.sl.2<1))];nofun;refine ixF0 a (ixF1 a ?_);refine ⟨_,_,rfl,b1,D.s2.mono ⋯,fun q H3 S3 J=>?_⟩;have lt:Mth.top r.sl.1 r.sl.2=r.sl.1:=congrArg Prod.fst ls;have lb:Mth.bot r.sl.1 r.sl.2=r.sl.2:=congrArg Prod.snd ls;have J:H3 q=some (.tup [.int r.sl.1, .int r.sl.2]):=by rw [J,lt,lb]
  have m:=g.trans S3;refine neF (a.same S3) (FrV.of J) ?_;simpa only [decide_true,Bool.and_self];try rw [if_neg ⋯]
  nofun;refine ixL (i:=i) (u.same m) o ?_;refine ixT (i:=2) (l.same m) rfl ?_;nofun;refine ⟨by show 1<=sizeLine;ac_nf,?_⟩;rename_i mt a1 a2 H3 H4 S4 e4;nofun;have c:=m.trans S4;refine neTT (ls:=spL r.sp) (rs:=[Str.ofString "most"]) (d.same c) (SqT.of e4) ?_;rcases I with ⟨_,h2⟩ | ⟨_,h2,_⟩
  ·rw [h2,show (!decide (spL none=[Str.ofString "most"]))=false by simp [spL]];nofun;exact t _ _ ⟨_,_,rfl,c⟩
  ·rw [h2] at d;rw [h2,show (!decide (spL (some (Str.ofString "need"))=[Str.ofString "most"]))=true by simp [spL]];nofun;refine ixL (i:=i) (u.same c) o ?_;refine ixT (i:=2) (l.same c) rfl ?_;nofun;refine ⟨len2,?_⟩;rename_i gt a0 Z H4 H5 S5 e5;nofun;have x:=c.trans S5;refine neTS (ls:=spL (some (Str.ofString "need"))) (d.same x) (SqT.of e5) ?_;nofun;exact t _ _ ⟨_,_,rfl,x⟩
 ·rintro σ X ⟨G,R,rfl,g⟩;nofun;exact k X g
abbrev BaU:Stmt:=top 57
theorem JaP:Jan ["_law_told","_law_parts_here","_law_room_here","_law_total","_law_all_mosts","_law_levels","_law_k","_law_level","_law_slack"] ["_law_told","_law_parts_here","_law_room_here"] (Jae BaU):=by bv_decide
def JcH (K:W.Frag):Sp:=fun vs H Q E=>∃ (tl pl:Addr) (rv:V) (zs px:List V) (rs:List ShD) (ks:List PD) (rm:Fr2) (L:Rat),vs=[.ref tl, .ref pl,rv]/\SqL K H tl zs/\All2 (ShV K H) rs zs/\SqL K H pl px/\All2 (PDV K H) ks px/\FrV K H rv rm.1 rm.2/\FB 150 16 rm/\Sh1 (Str.ofString "need") ks rs rm L/\(ks.map (·.nm)).Nodup/\(∀ p∈ks,(FB 100 6 p.mo/\0<=vl p.mo/\Dv 60 (vl p.mo))/\1<=p.wt/\Mth.Sz 21 p.wt)/\ks.length<=12/\∀ H',Same H H'->Q (.bl true) H'
theorem JfI (F:FunD K "_law_right" "_law_right" BaU dV f fd) (T:Txt K mg Ad) (Baf:Cal P w K mg base 1 "_law_low" ["_law_top","_law_bottom"] [] (Jbx)) (Bae:Cal P w K mg base 2 "_law_plus" ["_law_one","_law_other","_law_sign"] [] (Jby K)):FnOk P w K mg base (CX1 P w) 3 f fd ["_law_told","_law_parts_here","_law_room_here"] (JcH K):=by
 refine F.okn JaP (by subst_eqs) (fun g0 A d6 s H vs Q E C h=>?_)
 obtain ⟨tl,pl,rv,zs,px,rs,n,rm,L,rfl,h⟩:=h;have hu:=C.units;refine ⟨_,(Jab (Jak (i:=3) JaP.nd rfl (Or.inl rfl) (JaB (Jaa Jac (Jaa Jac Jad))))
   (Jab (Jak (i:=4) JaP.nd rfl (Or.inl rfl) (JaB (Jaa Jac (Jaa Jac Jad))))
   (Jab (Jak (i:=5) JaP.nd rfl (Or.inl rfl) (Ja5 Jad))
   (Jab (JaY PassesOwn.never rfl (Jdf rfl T.Bcs (Jaa (Jat JaL rfl T.BbB Jbp (Jaa (pv 1) Jad)) Jad)) (Jax (i:=6) JaP.nd rfl (Or.inl rfl))
   (Jab (Jak (i:=3) JaP.nd rfl (Or.inl rfl) (Bae.ev C ⋯ rfl passF (Jaa (pv 3) (Jaa (pe_ix ix_U (pe_ix ix_U (pv 0) (pv 6) (fun _ _=>rfl)) Jac (fun _ _=>rfl)) (Jaa Jac Jad))) (he:=by exact Jaf rfl)))
   (Jab (Jak (i:=4) JaP.nd rfl (Or.inl rfl) (Bae.ev C ⋯ rfl passF (Jaa (pv 4) (Jaa (pe_ix ix_U (pe_ix ix_U (pv 1) (pv 6) (fun _ _=>rfl)) Jac (fun _ _=>rfl)) (Jaa Jac Jad))) (he:=by exact Jaf rfl)))
   (Jab (ps_if (Jav (JbI hu) (Ja1 (Jbr hu) (pe_ix ix_U (pe_ix ix_U (pv 0) (pv 6) (fun _ _=>rfl)) Jac (fun _ _=>rfl)) (JaB (Jaa Ja8 Jad)) (Jas _)) (Ja1 (Jbr hu) (pe_ix ix_U (pe_ix ix_U (pv 0) (pv 6) (fun _ _=>rfl)) Jac (fun _ _=>rfl)) (pe_ix ix_U (pe_ix ix_U (pv 1) (pv 6) (fun _ _=>rfl)) Jac (fun _ _=>rfl)) (Jas _)) (Jas _))
   (Jah (Jap pe_bl))
   Jar)
   (Jah (ps_if (Jav (JbI hu) (pe_ix ix_U (pe_ix ix_U (pv 0) (pv 6) (fun _ _=>rfl)) Jac (fun _ _=>rfl)) (JaB (Jaa Ja8 Jad)) (Jas _))
   (Jah (Ja2 (pe_bm PySem.F.plainAttrs_list PySem.F.slot_list_append PySem.F.type_list_append Ja7 (pv 5) (Jaa (Baf.ev C ⋯ rfl passF (Jaa (pe_ix ix_U (pe_ix ix_U (pe_ix ix_U (pv 0) (pv 6) (fun _ _=>rfl)) Jac (fun _ _=>rfl)) Jac (fun _ _=>rfl)) (Jaa (pe_op JaE (pe_ix ix_U (pe_ix ix_U (pe_ix ix_U (pv 0) (pv 6) (fun _ _=>rfl)) Jac (fun _ _=>rfl)) Jac (fun _ _=>rfl)) (pe_ix ix_U (pe_ix ix_U (pv 1) (pv 6) (fun _ _=>rfl)) Jac (fun _ _=>rfl))) Jad)) (he:=by exact Jaf rfl)) Jad) (hs:=by exact Jaf rfl))))
   Jar))))))
   (Jab (ps_if (Jav (Jbr hu) (Jat JaL rfl T.BbB Jbp (Jaa (pv 5) Jad)) Jac (Jas _))
   (Jah (Jap (Jcw (Ja1 (Jbr hu) (pv 3) (pv 4) (Jas _)) (Jde (Ja1 Jla (pe_op JaE (pe_ix ix_U (pv 3) Jac (fun _ _=>rfl)) (pe_ix ix_U (pv 2) Jac (fun _ _=>rfl))) (pe_op JaE (pe_ix ix_U (pv 2) Jac (fun _ _=>rfl)) (pe_ix ix_U (pv 3) Jac (fun _ _=>rfl))) (Jas _))))))
   Jar)
   (Jab (JaY PassesOwn.never rfl (pi_U (pv 5)) (Jax (i:=7) JaP.nd rfl (Or.inl rfl))
   (Jah (ps_if (Jav (JbI hu) (pv 7) (pe_ix ix_U (pv 5) Jac (fun _ _=>rfl)) (Jas _))
   (Jah (Jap pe_bl))
   Jar)))
   (Jab (JaY PassesOwn.never rfl (Jdf rfl T.Bcs (Jaa (Jat JaL rfl T.BbB Jbp (Jaa (pv 1) Jad)) Jad)) (Jax (i:=6) JaP.nd rfl (Or.inl rfl))
   (Jab (Jak (i:=8) JaP.nd rfl (Or.inl rfl) (pe_ix ix_U (pe_ix ix_U (pv 0) (pv 6) (fun _ _=>rfl)) Jac (fun _ _=>rfl)))
   (Jab (ps_if (PW.pt (pw_or (Jav Jdb (pe_op JaE (pe_op JaE (pe_ix ix_U (pe_ix ix_U (pv 5) Jac (fun _ _=>rfl)) Jac (fun _ _=>rfl)) (pe_ix ix_U (pv 8) Jac (fun _ _=>rfl))) (pe_ix ix_U (pe_ix ix_U (pv 1) (pv 6) (fun _ _=>rfl)) Jac (fun _ _=>rfl))) (pe_op JaE (pe_ix ix_U (pv 8) Jac (fun _ _=>rfl)) (pe_ix ix_U (pe_ix ix_U (pv 5) Jac (fun _ _=>rfl)) Jac (fun _ _=>rfl))) (Jas _)) (JbZ (Jav Jdb (pe_ix ix_U (pv 8) Jac (fun _ _=>rfl)) Jac (Jas _)))))
   (Jah (Jap pe_bl))
   Jar)
   (Jah (ps_if (Jav Jdb (pe_op JaE (pe_ix ix_U (pe_ix ix_U (pe_ix ix_U (pv 1) (pv 6) (fun _ _=>rfl)) Jac (fun _ _=>rfl)) Jac (fun _ _=>rfl)) (pe_ix ix_U (pv 8) Jac (fun _ _=>rfl))) (pe_op JaE (pe_ix ix_U (pv 8) Jac (fun _ _=>rfl)) (pe_ix ix_U (pe_ix ix_U (pe_ix ix_U (pv 1) (pv 6) (fun _ _=>rfl)) Jac (fun _ _=>rfl)) Jac (fun _ _=>rfl))) (Jas _))
   (Jah (Jap pe_bl))
   Jar)))))
   (Jah (Jap (Ja1 (Jbr hu) (pv 3) (pv 2) (Jas _))))))))))),?_⟩
 clear hu;obtain ⟨hS,hZ,hP,hK,a7,rb,O,f1,hm,g2,k⟩:=h;have sz:(1000:Nat)<=sizeLine:=by decide
 have lZ:=hZ.length;have lK:=hK.length;have g1:rs.length=n.length:=by simpa using congrArg List.length O.nm
 have d1:(rs.map (·.nm)).Nodup:=O.nm ▸ f1;show tSeq _ _ _ [some (.ref tl),some (.ref pl),some rv,none,none,none,none,none,none] H;nofun;refine ⟨len2,?_⟩;rename_i t0 f6 f8 H H1 S1 e1;nofun;refine ⟨len2,?_⟩;rename_i u0 f4 f3 H1 H2 S2 e2;nofun;refine ⟨len0,?_⟩;rename_i ll c8 f2 H2 H3 S3 e3;nofun;have c4:=S1.trans (S2.trans S3);have c6:=JdQ (S1.trans S2) c8;nofun;refine ⟨_, .inl (hP.same c4),?_⟩;nofun;refine ⟨_,rfl,by ac_nf,by ac_nf,?_⟩;refine ForR.byN (fun i σ S=>∃ (v6:Option V) (t u:V) (a b:Fr2) (G:List V),σ=[some (.ref tl),some (.ref pl),some rv,some t,some u,some (.ref ll),v6,none,none]/\Same H S/\FrV K S t a.1 a.2/\Lo a/\vl a=sm (rvl rs) ((n.map (·.nm)).take i)/\FrV K S u b.1 b.2/\Lo b/\Dv 60 (vl b)/\0<=vl b/\vl b<=((2 ^ 100*i:Int):Rat)/\S ll=some (.lst G)/\G.length<=i/\(∀ x∈G,LvV K S L x)/\(G=[]->vl a=vl b)/\(G≠[]->¬ ∀ (j:Nat) p r,n[j]?=some p->rs[j]?=some r->r.sl=p.mo)) ⟨none, .ref t0, .ref u0,(0,1),(0,1),[],rfl,c4,FrV.of (S3 _ _ (S2 _ _ e1)),lo01,by rw [Jbz];rfl,FrV.of (S3 _ _ e2),lo01,by rw [Jbz];exact Dv.int 0,by rw [Jbz];exact Rat.le_refl,by rw [Jbz];simp,e3,Nat.le_refl _,(fun x hx=>by cases hx),fun _=>rfl,fun z=>absurd rfl z⟩ ?_ ?_
 ·rintro i σ H4 hi ⟨v6,t,u,a,b,G,rfl,g,ft,la,ea,fu,lb,db,b0,b1,M,d8,J,b5,a9⟩ N0 B;have ir:i<rs.length:=by ac_nf
  have C:=List.getElem?_eq_getElem ir;have Y:=List.getElem?_eq_getElem (by ac_nf:i<n.length);obtain ⟨z,X,pr,vs,tt,rfl,m,D,o⟩:=hZ.get C;obtain ⟨y,W,a_,vz,vm,rfl,hb,_,a3⟩:=hK.get Y;have l:=O.fb _ (List.getElem_mem ir);have d4:=O.sp i _ _ Y C;obtain ⟨⟨mb,mn,md⟩,w1,I⟩:=hm _ (List.getElem_mem (by ac_nf:i<n.length));have en:rs[i].nm=n[i].nm:=by
   have:=congrArg (·[i]?) O.nm;simp only [List.getElem?_map,C,Y] at this;exact Option.some.inj this
  have ev:=JfK d1 (List.getElem_mem ir);have d5:(n.map (·.nm)).take (i+1)=(n.map (·.nm)).take i++[rs[i].nm]:=by rw [take_succ,List.getElem?_map,Y,en];rfl
  generalize rs[i]=r at *;generalize n[i]=p at *;have o:=ShV.tt o;have v:=O.par i a la ea;have Z:=sum60 lb db b0 b1 ∅;have b7:vl (addF a r.sl)=vl a+vl r.sl:=JeI v.b1 l.b1;have a2:vl (addF b p.mo)=vl b+vl p.mo:=JeI Z.b1 mb.b1;have c9:vl (addF a r.sl)=sm (rvl rs) ((n.map (·.nm)).take (i+1)):=by rw [b7,ea,d5,Jip,ev]
  have c2:Dv 60 (vl (addF b p.mo)):=by rw [a2];exact db.add md
  have c5:0<=vl (addF b p.mo):=by rw [a2];exact Rat.add_nonneg b0 mn
  have b9:vl (addF b p.mo)<=((2 ^ 100*(i+1:Nat):Int):Rat):=by rw [a2];exact Jjt b1 mb mn
  rw [Int.zero_add];nofun;refine ixL (i:=i) (hS.same g) X ?_;refine ixT (i:=1) (m.same g) rfl ?_;refine ⟨t,vs,_,a,r.sl,true,rfl,rfl,ft,FrV.same g D,v.w.mono ⋯ ⋯,l.w.mono ⋯ ⋯,fun q H5 S5 e5=>?_⟩;have U:=g.trans S5;nofun;refine ixL (i:=i) (hP.same U) W ?_;refine ixT (i:=4) (hb.same U) rfl ?_;refine ⟨u,vm,_,b,p.mo,true,rfl,rfl,fu.same S5,FrV.same U a3,Z.w.mono ⋯ ⋯,mb.w.mono ⋯ ⋯,fun q2 H6 S6 e6=>?_⟩;have b3:=U.trans S6;nofun;refine ixL (i:=i) (hS.same b3) X ?_;refine ixT (i:=2) (m.same b3) rfl ?_;nofun;refine ⟨by show 1<=sizeLine;ac_nf,?_⟩;rename_i mt f5 f7 H6 H7 S7 e7;nofun;have d:=b3.trans S7;refine eqTS (ls:=spL r.sp) (rs:=[Str.ofString "most"]) (o.same d) (SqT.of e7) ?_;nofun;refine ixL (i:=i) (hS.same d) X ?_;refine ixT (i:=1) (m.same d) rfl ?_;refine ixL (i:=i) (hP.same d) W ?_;refine ixT (i:=4) (hb.same d) rfl ?_;refine eqF (FrV.same d D) (FrV.same d a3) ?_;rw [Jkh];have c3:=S5.trans (S6.trans S7);rcases d4 with ⟨h2,h3⟩ | ⟨h2,h3,h4⟩
  ·rw [decide_eq_true h2,show decide (spL r.sp=[Str.ofString "most"])=true by rw [h3];rfl];simpa only [decide_true,Bool.not_true];try rw [if_neg ⋯]
   nofun;refine ixL (i:=i) (hS.same d) X ?_;refine ixT (i:=2) (m.same d) rfl ?_;nofun;refine ⟨by show 1<=sizeLine;ac_nf,?_⟩;rename_i d9 b4 a8 H7 H8 S8 e8;nofun;have e:=d.trans S8;have R:=c3.trans S8;rw [h3] at o;refine neTS (ls:=spL none) (o.same e) (SqT.of e8) ?_;nofun;exact B _ _ ⟨_, .ref q, .ref q2,addF a r.sl,addF b p.mo,G,rfl,e,FrV.of (S8 _ _ (S7 _ _ (S6 _ _ e5))),Jcz (Jbh v.b1 l.b1),c9,FrV.of (S8 _ _ (S7 _ _ e6)),Jcz (Jbh Z.b1 mb.b1),c2,c5,b9,R _ _ M,by ac_nf,fun x hx=>(J x hx).sameT R.t,fun z=>by rw [b7,a2,b5 z,h2],a9⟩
  ·rw [decide_eq_false h2,show decide (spL r.sp=[Str.ofString "most"])=false by rw [h3];simp [spL]];simpa only [decide_true,Bool.not_true];try rw [if_neg ⋯]
   nofun;refine ixL (i:=i) (hS.same d) X ?_;refine ixT (i:=2) (m.same d) rfl ?_;nofun;refine ⟨by show 1<=sizeLine;ac_nf,?_⟩;rename_i d9 b4 a8 H7 H8 S8 e8;nofun;have e:=d.trans S8;have R:=c3.trans S8;refine neTT (ls:=spL r.sp) (rs:=[Str.ofString "most"]) (o.same e) (SqT.of e8) ?_;rw [show (!decide (spL r.sp=[Str.ofString "most"]))=true by rw [h3];simp [spL]];nofun;refine ⟨.inl ⟨rfl,_,SqL.of (R _ _ M)⟩,?_⟩;refine ixL (i:=i) (hS.same e) X ?_;refine ixT (i:=1) (m.same e) rfl ?_;refine ixF0 (FrV.same e D) ?_;refine ixL (i:=i) (hS.same e) X ?_;refine ixT (i:=1) (m.same e) rfl ?_;refine ixF1 (FrV.same e D) ?_;refine ixL (i:=i) (hP.same e) W ?_;refine ixT (i:=5) (hb.same e) rfl ?_;nofun;refine ⟨mulOk l.s2 I,?_⟩;have lw:=Jbh l.b1 w1;refine ⟨_,_,rfl,lw,(l.s2.mul I).mono ⋯,fun lp H9 S9 e9=>?_⟩;have a1:=R.trans S9;refine ⟨ll,G,_,rfl,rfl,a1 _ _ M,by ac_nf,?_⟩;generalize b2:upd H9 ll _=HA;nofun;have e4:=putE b2;have a0:SameT H9 HA:=SameT.put b2 (a1 _ _ M) rfl;have c7:=S8.trans S9;refine B _ _ ⟨_, .ref q, .ref q2,addF a r.sl,addF b p.mo,G++[.ref lp],rfl,fun c w h=>by rw [<- b2,Jag (Jai h c6)];exact a1 _ _ (g _ _ h),FrV.of (a0 _ _ rfl (c7 _ _ (S7 _ _ (S6 _ _ e5)))),Jcz (Jbh v.b1 l.b1),c9,FrV.of (a0 _ _ rfl (c7 _ _ (S7 _ _ e6))),Jcz (Jbh Z.b1 mb.b1),c2,c5,b9,e4,by simp;ac_nf,fun x hx=>?_,(fun z=>by simp at z),fun _ z=>h2 (z i p r Y C)⟩;rcases mem_append.mp hx with hx | hx
   ·exact (J x hx).sameT (a1.t.trans a0)
   ·rw [mem_singleton.mp hx];exact ⟨(Mth.top r.sl.1 (r.sl.2*p.wt),Mth.bot r.sl.1 (r.sl.2*p.wt)),FrV.of (a0 _ _ rfl e9),(FB.low lw l.s1 (l.s2.mul I)).mono ⋯ ⋯,Jk0 l.b1 w1 h4⟩
 ·rintro σ H4 ⟨v6,t,u,a,b,G,rfl,g,ft,la,ea,fu,lb,db,b0,b1,M,d8,J,b5,a9⟩;rw [take_of_length_le (by rw [length_map];ac_nf)] at ea;have v:=O.par n.length a la (by rw [take_of_length_le (by rw [length_map];exact Nat.le_refl _)];exact ea);nofun;refine ⟨_, .inl (SqL.of M),?_⟩;nofun;by_cases c:G=[]
  ·rw [if_pos (by simp [c])];nofun;have d2:=la.inj lb (b5 c);subst d2;refine eqF ft fu ?_;have b6:=O.fit;rw [<- ea] at b6;have a6:=JdC (a:=rm) (c:=a) rb.b1 la.b1;unfold lessF at a6;rw [decide_eq_true_iff] at a6;have f0:a.1*rm.2<=rm.1*a.2:=Int.not_lt.mp fun z=>absurd (a6.mp z) (Rat.not_lt.mpr b6);simpa only [decide_true,Bool.and_self];refine ixF0 ft (ixF1 (a7.same g) ?_);nofun;refine ⟨mulOk v.s1 rb.s2,ixF0 (a7.same g) (ixF1 ft ?_)⟩;nofun;refine ⟨mulOk rb.s1 v.s2,?_⟩;rw [decide_eq_true f0];exact k H4 g
  ·rw [if_neg (by simpa using c)];nofun;obtain ⟨er,d3⟩:=O.al.resolve_left (a9 c);obtain ⟨x0,f9,ex⟩:=List.exists_cons_of_ne_nil c;obtain ⟨c0,a5,N,b8⟩:=J x0 (by rw [ex];simp);have a4:G[0]?=some x0:=by rw [ex];rfl
   refine ⟨ll,rfl,ForA.byLN (xs:=G) (SqL.of M) (fun i σ S=>S=H4/\∃ (v7:Option V),σ=[some (.ref tl),some (.ref pl),some rv,some t,some u,some (.ref ll),v6,v7,none]) ⟨rfl,none,rfl⟩ (fun i σ S q=>by rw [q.1];exact SqL.of M) ?_ ?_⟩
   ·rintro i y σ H5 W ⟨rfl,v7,rfl⟩ N0 B;obtain ⟨c1,d0,d7,e0⟩:=J y (List.mem_of_getElem? W);have e1:=d7.lo.inj N.lo (e0.trans b8.symm);nofun;refine ixL (i:=0) (SqL.of M) a4 ?_;refine neF d0 a5 ?_;rw [e1];simpa only [decide_true,Bool.and_self];try rw [if_neg ⋯]
    exact B _ _ ⟨rfl,_,rfl⟩
   ·rintro σ H5 ⟨rfl,v7,rfl⟩;nofun;refine ⟨_, .inl (hP.same g),?_⟩;nofun;refine ⟨_,rfl,by ac_nf,by ac_nf,?_⟩;refine ForR.byN (fun i σ S=>S=H5/\∃ (v6 v8:Option V),σ=[some (.ref tl),some (.ref pl),some rv,some t,some u,some (.ref ll),v6,v7,v8]) ⟨rfl,_,none,rfl⟩ ?_ ?_
    ·rintro i σ H6 hi ⟨rfl,v6,v8,rfl⟩ N0 B;have ir:i<rs.length:=by ac_nf
     have C:=List.getElem?_eq_getElem ir;have Y:=List.getElem?_eq_getElem (by ac_nf:i<n.length);obtain ⟨z,X,pr,vs,tt,rfl,m,D,o⟩:=hZ.get C;obtain ⟨y,W,a_,vz,vm,rfl,hb,_,a3⟩:=hK.get Y;have l:=O.fb _ (List.getElem_mem ir);have bd:=O.bd i _ _ Y C;have hl:=d3 i _ _ Y C;obtain ⟨⟨mb,mn,md⟩,w1,I⟩:=hm _ (List.getElem_mem (by ac_nf:i<n.length));generalize rs[i]=r at *;generalize n[i]=p at *;have fv:=FrV.same g D;have fm:=FrV.same g a3;have n0:=(vl_nn l.b1).mp bd.1;have l2:=JdC (a:=p.mo) (c:=r.sl) mb.b1 l.b1;unfold lessF at l2;rw [decide_eq_true_iff] at l2;have l3:=Jk1 N.b1 l.b1 w1 b8 hl;rw [Int.zero_add];nofun;refine ixL (i:=i) (hS.same g) X ?_;refine ixT (i:=1) (m.same g) rfl ?_;nofun;refine ixL (i:=0) (SqL.of M) a4 ?_;refine ixF0 a5 (ixF1 fv ?_);nofun;refine ⟨mulOk N.s1 l.s2,?_⟩;refine ixL (i:=i) (hP.same g) W ?_;refine ixT (i:=5) (hb.same g) rfl ?_;nofun;refine ⟨mulOk (N.s1.mul l.s2) I,?_⟩;refine ixF0 fv ?_;refine ixL (i:=0) (SqL.of M) a4 ?_;refine ixF1 a5 ?_;nofun;refine ⟨mulOk l.s1 N.s2,?_⟩;rw [if_neg (by simpa using l3)];nofun;refine ixF0 fv ?_;nofun;rw [if_neg (by simpa using (by ac_nf:¬ r.sl.1<0))];nofun;refine ixL (i:=i) (hP.same g) W ?_;refine ixT (i:=4) (hb.same g) rfl ?_;refine ixF0 fm (ixF1 fv ?_);nofun;refine ⟨mulOk mb.s1 l.s2,ixF0 fv ?_⟩;refine ixL (i:=i) (hP.same g) W ?_;refine ixT (i:=4) (hb.same g) rfl ?_;refine ixF1 fm ?_;nofun;refine ⟨mulOk l.s1 mb.s2,?_⟩;rw [if_neg (by rw [decide_eq_true_iff];exact fun z=>absurd (l2.mp z) (Rat.not_lt.mpr bd.2))];nofun;exact B _ _ ⟨rfl,_,_,rfl⟩
    ·rintro σ H6 ⟨rfl,v6,v8,rfl⟩;nofun;refine eqF ft (a7.same g) ?_;rw [la.inj rb.lo (ea.trans er)];simpa only [decide_true,Bool.and_self];exact k _ g
abbrev Bc2:Stmt:=top 58
theorem Jb9:Jan ["_law_script","_law_parts_here","_law_middle","_law_room_here","_law_faces","_law_way","_law_spare","_law_low_here","_law_gap","_law_thing","_law_told","_law_kept"] ["_law_script"] (Jae Bc2):=by bv_decide
def Bdh (K:W.Frag):Sp:=fun vs H Q E=>∃ (a:Addr) (ns:List Int),vs=[.ref a]/\SqL K H a (ns.map V.int)/\ns.length<=63/\∀ H',Q (.bl true) H'
theorem Jk4 (F:FunD K "law" "law" Bc2 dV f fd) (T:Txt K mg Ad) (Bam:Cal P w K mg base 1 "_law_cell" ["_law_script","_law_k"] [] (JbS K)) (Bb1:Cal P w K mg base 3 "_law_parts" ["_law_script"] [] (JcG K)) (Bcp:Cal P w K mg base 3 "_law_room" ["_law_script","_law_parts_here"] [] (JcY K)) (Bae:Cal P w K mg base 2 "_law_plus" ["_law_one","_law_other","_law_sign"] [] (Jby K)) (Bdn:KCal P w K mg base 9 "Thing" Ad.Thing ["self","parts","gaps"] (Jbw K Ad)) (Bc3:Cal P w K mg base 9 "share" ["thing"] [] (Jfj K Ad)) (Bb2:Cal P w K mg base 2 "_law_kinds" ["_law_told","_law_parts_here"] [] (JcF K)) (Bb3:Cal P w K mg base 3 "_law_right" ["_law_told","_law_parts_here","_law_room_here"] [] (JcH K)):FnOk P w K mg base (CX1 P w) 11 f fd ["_law_script"] (Bdh K):=by
 refine F.okn Jb9 (by subst_eqs) (fun i9 A f8 s H vs Q E O h=>?_)
 obtain ⟨a,ns,rfl,h⟩:=h;have hu:=O.units;refine ⟨_,(Jab (Jlg (Bb1.ev O ⋯ rfl passF (Jaa (pv 0) Jad) (he:=by exact Jaf rfl)) (Jh9 rfl (JcP (Jax (i:=1) Jb9.nd rfl (Or.inl rfl)) (JcP (Jax (i:=2) Jb9.nd rfl (Or.inl rfl)) Jgl))))
   (Jab (Jak (i:=3) Jb9.nd rfl (Or.inl rfl) (Bcp.ev O ⋯ rfl passF (Jaa (pv 0) (Jaa (pv 1) Jad)) (he:=by exact Jaf rfl)))
   (Jab (Jak (i:=4) Jb9.nd rfl (Or.inl rfl) (Ja5 (Jaa Ja8 (Jaa (pe_ix ix_U Ja8 (Jat JaL rfl T.BbB Jbp (Jaa (pv 1) Jad)) (fun _ _=>rfl)) Jad))))
   (Jab (Jak (i:=5) Jb9.nd rfl (Or.inl rfl) (pe_op JaG (pe_op Jau (Bam.ev O ⋯ rfl passF (Jaa (pv 0) (Jaa Jac Jad)) (he:=by exact Jaf rfl)) Jac) Jac))
   (Jab (Jak (i:=6) Jb9.nd rfl (Or.inl rfl) (pe_ix ix_U (Ja5 (Jaa (JaB (Jaa Jac (Jaa Jac Jad))) (Jaa (JaB (Jaa Jac (Jaa Jac Jad))) Jad))) (pe_op Jau (pv 5) Jac) (fun _ _=>rfl)))
   (Jab (ps_if (Jav (Jbr hu) (pe_op JaG (pv 5) Jac) Jac (Jas _))
   (Jab (Ja2 (JgO PySem.F.plainAttrs_list PySem.F.slot_list_reverse PySem.F.type_list_reverse Jdt (pv 4)))
   (Jah (Jak (i:=2) Jb9.nd rfl (Or.inl rfl) (JaB (Jaa (pe_op JgL Jac (pe_ix ix_U (pv 2) Jac (fun _ _=>rfl))) (Jaa (pe_ix ix_U (pv 2) Jac (fun _ _=>rfl)) Jad))))))
   Jar)
   (Jab (Jak (i:=7) Jb9.nd rfl (Or.inl rfl) (Bae.ev O ⋯ rfl passF (Jaa (pv 2) (Jaa (Bae.ev O ⋯ rfl passF (Jaa (pv 3) (Jaa (pv 6) (Jaa Jac Jad))) (he:=by exact Jaf rfl)) (Jaa (pe_un JgV Jac) Jad))) (he:=by exact Jaf rfl)))
   (Jab (Jak (i:=8) Jb9.nd rfl (Or.inl rfl) (JaB (Jaa Ja8 (Jaa (pe_ix ix_U (pv 4) Jac (fun _ _=>rfl)) (Jaa (pe_ix ix_U (pv 4) Jac (fun _ _=>rfl)) (Jaa (pv 7) (Jaa (Bae.ev O ⋯ rfl passF (Jaa (pv 2) (Jaa (pv 3) (Jaa Jac Jad))) (he:=by exact Jaf rfl)) Jad)))))))
   (Jab (Jak (i:=9) Jb9.nd rfl (Or.inl rfl) (Bdn.ev O ⋯ rfl passF (Jaa (pv 1) (Jaa (Ja5 (Jaa (pv 8) Jad)) Jad))))
   (Jab (Jak (i:=10) Jb9.nd rfl (Or.inl rfl) (Bc3.ev O ⋯ rfl passF (Jaa (pv 9) Jad) (he:=by exact Jaf rfl)))
   (Jab (ps_if (PW.pt (pw_or (Jbi (JaZ (Bb2.ev O ⋯ rfl passF (Jaa (pv 10) (Jaa (pv 1) Jad)) (he:=by exact Jaf rfl)))) (JbZ (Jbi (JaZ (Bb3.ev O ⋯ rfl passF (Jaa (pv 10) (Jaa (pv 1) (Jaa (pv 3) Jad))) (he:=by exact Jaf rfl)))))))
   (Jah (Jap pe_bl))
   Jar)
   (Jab (Jak (i:=11) Jb9.nd rfl (Or.inl rfl) (JcB Jew rfl T.Bdv JeM (Jaa (pv 10) Jad)))
   (Jab (Ja2 (JgO PySem.F.plainAttrs_list PySem.F.slot_list_reverse PySem.F.type_list_reverse Jdt (pv 10)))
   (Jab (Ja2 (pe_bm PySem.F.plainAttrs_list PySem.F.slot_list_append PySem.F.type_list_append Ja7 (pv 10) (Jaa Jac Jad) (hs:=by exact Jaf rfl)))
   (Jah (Jap (Ja1 (Jbr hu) (Bc3.ev O ⋯ rfl passF (Jaa (pv 9) Jad) (he:=by exact Jaf rfl)) (pv 11) (Jas _)))))))))))))))))),?_⟩
 clear hu;obtain ⟨hS,hl,k⟩:=h;have sl:(1000:Nat)<=sizeLine:=by decide
 have c8:(Str.ofString "fghijklmnopqr").cps.toList=List.range' 102 13:=by decide
 show tSeq _ _ _ [some (.ref a),none,none,none,none,none,none,none,none,none,none,none] H;nofun;refine ⟨a,ns,rfl,hS,hl,fun q pl mv px st c xs m H1 S1 eq N ep hP j h1 B=>?_⟩;nofun;refine ⟨q,_,rfl,SqT.of eq,rfl,?_⟩;nofun;have I:∀ p∈c,POk p:=j.G.ok;have a9:∀ p∈c,FB 100 6 p.mo/\0<=vl p.mo/\Dv 60 (vl p.mo):=fun p d=>⟨(j.M.pb p d).2,(vl_nn (j.M.pb p d).2.b1).mpr (I p d).m0,j.dv p d⟩;refine ⟨a,pl,ns,px,c,rfl,hS.same S1,hl,SqL.of ep,hP,B,a9,fun rv r H2 S2 a5 rb r0=>?_⟩;nofun;have lp:=hP.length;refine ⟨_, .inl (SqL.of (S2 _ _ ep)),?_⟩;rw [lp];nofun;refine ⟨102+c.length,by decide,by rw [c8];exact Jcy (by rw [List.getElem?_range' ∅,Nat.one_mul]),?_⟩;rw [fcK (st:=st)];nofun;refine ⟨len2,?_⟩;rename_i fl c7 i0 H2 H3 S3 e3;nofun;rw [f0K (st:=st)] at e3;have J:=S1.trans (S2.trans S3);refine ⟨a,ns,2,rfl,hS.same J,hl,by decide,by decide,fun w0=>?_⟩;nofun;repeat (refine And.intro (by first | exact Ja3 ⋯ | exact Ja6 ⋯ | exact Ja4 ⋯ | exact JaO ⋯ | exact Int.one_ne_zero | decide) ?_)
 have q4:=Mth.fm (x:=w0.fdiv 8) (y:=4) ⋯
 (try ((with_reducible refine Nxt.go (by assumption) ?_);nofun))
 generalize (w0.fdiv 8).fmod 4=w at *;refine ⟨len2,?_⟩;rename_i s1 i8 i2 H3 H4 S4 e4;nofun;refine ⟨len2,?_⟩;rename_i s2 i7 i5 H4 H5 S5 e5;nofun;refine ⟨len2,?_⟩;rename_i j3 f0 e2 H5 H6 S6 e6;nofun;repeat (refine And.intro (by first | exact Ja3 ⋯ | exact Ja6 ⋯ | exact Ja4 ⋯ | exact JaO ⋯ | exact Int.one_ne_zero | decide) ?_)
 obtain ⟨n2,d1,c3⟩:=half4 q4.1 q4.2;rw [d1];obtain ⟨sv,s,c5,Z,sb,s0⟩:∃ (sv:Addr) (s:Fr2),[V.ref s1, .ref s2][n2]?=some (.ref sv)/\H6 sv=some (.tup [.int s.1, .int s.2])/\FB 2 2 s/\0<=vl s:=by
  match n2,c3 with
  | 0,_=>exact ⟨s1,(0,1),rfl,S6 _ _ (S5 _ _ e4),sp01.1,sp01.2⟩
  | 1,_=>exact ⟨s2,(1,3),rfl,S6 _ _ e5,sp13.1,sp13.2⟩
  | n+2,h=>ac_nf
 refine ixL (i:=n2) (SqL.of e6) c5 ?_;clear d1 c3 c5
 (try ((with_reducible refine Nxt.go (by assumption) ?_);nofun))
 repeat (refine And.intro (by first | exact Ja3 ⋯ | exact Ja6 ⋯ | exact Ja4 ⋯ | exact JaO ⋯ | exact Int.one_ne_zero | decide) ?_)
 rename_i R hR;have a1:Same H2 H6:=S3.trans (S4.trans (S5.trans S6));have l:=S6 _ _ (S5 _ _ (S4 _ _ e3));have key:∀ (b:Bool) (U:Hp) (W:V) (u v:Str),Same H2 U->U sv=some (.tup [.int s.1, .int s.2])->FrV K U W (sgn (!b) m).1 (sgn (!b) m).2->U fl=some (.lst [.str u, .str v])->(u=if b then nmK 102 st c.length else nmK 102 st 0)->(v=if b then nmK 102 st 0 else nmK 102 st c.length)->R [some (.ref a),some (.ref pl),some W,some rv,some (.ref fl),some (.int w),some (.ref sv),none,none,none,none,none] U:=by
  clear N e3 e4 e5 e6 l Z S3 S4 S5 S6 J a1 c8 q4;intro b U W u v S7 Z N l hu hv;have mb:FB 194 49 (sgn (!b) m):=by
   cases b
   ·exact j.mb B
   ·exact (j.mb B).neg
  have b8:=rb.add' sb;have b4:=mb.add' b8.neg;have b5:=mb.add' rb;have a0:(c.map (·.nm)).Nodup:=JfC j.G.nm;obtain ⟨G,o⟩:∃ G:GD,G=⟨Str.ofString "need",u,v,addF (sgn (!b) m) (negF (addF r s)),addF (sgn (!b) m) r⟩:=⟨_,rfl⟩;obtain ⟨f5,h0,f1,f2,d7⟩:=j.gap B (b:=b) (g:=G) (by rw [o];exact hu) (by rw [o];exact hv);have a6:roomF (spOf (xs.map (·.1))) G=r:=Jku mb rb sb s0 d7 (by rw [o]) (by rw [o]);have nl:nmK 102 st 0≠nmK 102 st c.length:=fun z=>by have:=Jce z;ac_nf
  have j0:nameS (nmK 102 st 0)=true:=Jc8 ⋯ (by have:=j.s2;ac_nf) ∅;have j1:nameS (nmK 102 st c.length)=true:=Jc8 ⋯ (by have:=j.s2;ac_nf) ∅;have c6:TOk G.td:=by
   rw [o];exact ⟨Jj8,by show nameS u=true;rw [hu];cases b <;> assumption,by show nameS v=true;rw [hv];cases b <;> assumption,by show u≠v;rw [hu,hv];cases b;exact nl;exact Ne.symm nl,fun z hz=>by cases hz;exact (b4.mono (C:=600) (D:=600) ⋯ ⋯).ok ⋯ ⋯,fun z hz=>by cases hz;exact (b5.mono (C:=600) (D:=600) ⋯ ⋯).ok ⋯ ⋯,hi_lo mb rb b8 (by rw [rb.vadd sb];grind)⟩
  have b3:SHC c [(G,c.map (·.nm))] (spOf (xs.map (·.1))):=by
   refine ⟨B,by simp,by simp;ac_nf,a0,?_,I,fun p d=>⟨⟨(j.M.pb p d).1.b1,(j.M.pb p d).1.s2.mono ⋯⟩,(j.M.pb p d).2.mono ⋯ ⋯⟩,j.wt,?_,?_,?_,j.plb B,j.G.pls,?_⟩
   ·intro e he z hz _;rw [mem_singleton.mp he];exact mem_singleton.mp hz
   ·intro e he;rw [mem_singleton.mp he];exact c6
   ·intro e he;rw [mem_singleton.mp he,o];exact ⟨⟨b4.b1,b4.s2.mono ⋯⟩,b5.b1,b5.s2.mono ⋯⟩
   ·intro e he;rw [mem_singleton.mp he];show FB 200 16 (roomF _ G);rw [a6];exact rb.mono ⋯ ⋯
   ·intro e he w hw hn;rw [mem_singleton.mp he] at hw ⊢;exact Jjd j.G j.M h0 f1 f2 (Jgj hw) hn
  have d6:∀ e∈[(G,c.map (·.nm))],0<=vl (roomF (spOf (xs.map (·.1))) e.1):=fun e he=>by
   rw [mem_singleton.mp he];show 0<=vl (roomF _ G);rw [a6];exact r0
  have tr:=j.G.tr;generalize spOf (xs.map (·.1))=pf at *;refine hR.go ?_;clear hR;nofun;refine ⟨rv, .ref sv,_,r,s,true,rfl,rfl,a5.same S7,FrV.of Z,rb.w.mono ⋯ ⋯,sb.w.mono ⋯ ⋯,fun p1 H8 S8 e8=>?_⟩;nofun;refine ⟨W, .ref p1,_,sgn (!b) m,addF r s,false,rfl,rfl,N.same S8,FrV.of e8,mb.w.mono ⋯ ⋯,b8.w.mono ⋯ ⋯,fun p2 H9 S9 e9=>?_⟩;nofun;have X:=S8.trans S9;refine ixL (i:=0) (SqL.of (X _ _ l)) rfl ?_;refine ixL (i:=1) (SqL.of (X _ _ l)) rfl ?_;refine ⟨W,rv,_,sgn (!b) m,r,true,rfl,rfl,N.same X,(a5.same S7).same X,mb.w.mono ⋯ ⋯,rb.w.mono ⋯ ⋯,fun p3 g4 d9 g3=>?_⟩;nofun;refine ⟨len5,?_⟩;rename_i gt h9 h8 g4 f6 b0 h3;nofun;nofun;refine ⟨by show 1<=sizeLine;ac_nf,?_⟩;rename_i gl i1 i3 f6 H3 a4 g7;nofun;intro x b7 hx g6 i6;have d0:Same H2 H3:=S7.trans (X.trans (d9.trans (b0.trans a4)));have J:=S2.trans d0;have d4:All2 (PDV K H3) c px:=hP.mono fun p v z=>z.sameT J.t;have h4:All2 (fun (g:GD) v=>TV K H3 g.td v) [G] [.ref gt]:=.one (by
   rw [o];exact ⟨gt, .ref p2, .ref p3,rfl,SqT.of (a4 _ _ h3),FrV.of (a4 _ _ (b0 _ _ (d9 _ _ e9))),FrV.of (a4 _ _ (b0 _ _ g3))⟩)
  have Sm:Same H3 (upd (upd H3 b7 (.own x)) x (.ins Ad.Thing b7 [])):=fun b u q=>by rw [Jag (Jai q hx),Jag (Jai q g6)];exact q
  refine ⟨x,b7,pl,gl,px,[.ref gt],c.map Sum.inl,[G].map Sum.inl,H3,rfl,Jaj,hx,Sm,SqL.of (J _ _ ep),d4.map (fun p d x z=>⟨z,I p d⟩),SqL.of g7,h4.map (fun g hg x z=>⟨z,by rw [mem_singleton.mp hg];exact c6⟩),by rw [length_map];ac_nf,by simp,?_⟩;rw [Jd8 tr c [] (by rw [nil_append];exact a0) (fun p d=>by simpa using d),nil_append];dsimp only;rw [JhJ [G] [] (by simp) (fun g hg=>by rw [mem_singleton.mp hg];exact f5),nil_append];dsimp only;intro H4 S4 tk;refine ⟨rfl,?_⟩;nofun;have f7:=J.trans S4;have c9:=f7 _ _ ep;have d3:=a5.same (d0.trans S4);have e1:All2 (PDV K H4) c px:=d4.mono fun p v z=>z.sameT S4.t;refine ⟨x,c,[(G,c.map (·.nm))],pf,rfl,tk,b3,d6,fun tl zs rs H5 S5 c0 e5 hZ c1=>?_⟩;obtain ⟨f,hs⟩:=c1.s b3 (fun p d=>(a9 p d).1);obtain ⟨L,a2⟩:=hs.one a0 (fun p d=>(I p d).w) (by rw [o]);rw [a6] at a2;have lZ:=hZ.length;have j2:rs.length=c.length:=by simpa using congrArg List.length a2.nm
  have d5:∀ {H'},Same H4 H'->All2 (PDV K H') c px:=fun S=>e1.mono fun p v z=>z.sameT S.t;have h2:∀ {H'},Same H5 H'->All2 (ShV K H') rs zs:=fun S=>hZ.mono fun r v z=>z.sameT S.t;nofun;refine ⟨tl,pl,zs,px,rs,c,r,L,rfl,SqL.of e5,hZ,SqL.of (S5 _ _ c9),d5 S5,a2,B,fun H6 S6=>?_⟩;nofun;have a8:=S5.trans S6;refine ⟨tl,pl,rv,zs,px,rs,c,r,L,rfl,SqL.of (S6 _ _ e5),h2 S6,SqL.of (a8 _ _ c9),d5 a8,d3.same a8,rb,a2,a0,fun p d=>⟨a9 p d,(I p d).w,j.wt p d⟩,B,fun U S7=>?_⟩;nofun;have b6:=S6.trans S7;refine ⟨tl,zs,rfl, .inl (SqL.of (b6 _ _ e5)),?_⟩;rename_i hd Y i4 U H8 S8 e8;nofun;nofun;have a7:=b6.trans S8;have b2:=a7 _ _ e5;refine ⟨.inl ⟨rfl,_,SqL.of b2⟩,?_⟩;refine ⟨tl,_,rfl,rfl,b2,?_⟩;generalize u9:upd H8 tl _=H9;nofun;have e9:=putE u9;have T9:SameT H8 H9:=SameT.put u9 b2 rfl;have o9:∀ b u,b≠tl->H8 b=some u->H9 b=some u:=fun b u hb h=>by rw [<- u9,Jag hb];exact h
  nofun;refine ⟨.inl ⟨rfl,_,SqL.of e9⟩,?_⟩;nofun;refine ⟨tl,_,_,rfl,rfl,e9,by rw [List.length_reverse];ac_nf,?_⟩;generalize d2:upd H9 tl _=HA;nofun;have g0:SameT H9 HA:=SameT.put d2 e9 rfl;have b9:∀ b u,b≠tl->H8 b=some u->HA b=some u:=fun b u hb h=>by rw [<- d2,Jag hb];exact o9 b u hb h
  have g9:=T9.trans g0;have h5:=S5.trans a7;have g5:Same H4 HA:=fun b u h=>b9 b u (Jai h c0) (h5 _ _ h);have e0:hd≠tl:=fun z=>by rw [z] at Y;rw [b6 _ _ e5] at Y;cases Y
  have eA:=b9 _ _ e0 e8;have f4:All2 (ShV K HA) rs zs:=hZ.mono fun r v z=>z.sameT (a7.t.trans g9);nofun;refine ⟨x,c,[(G,c.map (·.nm))],pf,rfl,tk.same g5,b3,d6,fun h7 f3 a3 HB SB _ eB h6 g2=>?_⟩;have eR:a3=rs:=g2.uniq a0 (fun p d=>(I p d).w) c1;subst eR;nofun;refine ⟨.lst (a3.map shD), .lst (a3.map shD),?_,?_,?_,rfl,?_⟩
  ·simp only [Rep];exact ⟨h7,f3,rfl,SqL.of eB,h6.repL fun _ _ z=>z.rep⟩
  ·simp only [Rep];exact ⟨hd,zs,rfl,SqL.of (SB _ _ eA),(f4.mono (P':=ShV K HB) fun _ _ z=>z.sameT SB.t).repL fun _ _ z=>z.rep⟩
  ·have:=Jc5 (n:=10) (f:=shD) (fun a=>by unfold shD;cases a.sp <;> simp [frD,depD,depL]) a3;simp only [depD];ac_nf
  ·rw [Jc6];nofun;exact k _
 clear hR;have qp:=Mth.fm (x:=w) (y:=2) ⋯;by_cases c2:w.fmod 2=1
 ·(rw [if_pos (by simpa using c2)])
  nofun;refine ⟨.inl ⟨rfl,_,SqL.of l⟩,?_⟩;refine ⟨fl,_,rfl,rfl,l,?_⟩;generalize u7:upd H6 fl _=U;nofun;have e7:=putE u7;have c4:Same H2 U:=fun b w h=>by rw [<- u7,Jag (Jai h c7)];exact a1 _ _ h
  have T7:SameT H6 U:=SameT.put u7 l rfl;have d8:=N.same (S2.trans c4);nofun;refine ixF0 d8 ?_;nofun;refine ixF1 d8 ?_;nofun;refine ⟨len2,?_⟩;rename_i f9 g1 g8 U H8 S8 e8;nofun;exact key true H8 (.ref f9) _ _ (c4.trans S8) (S8 _ _ (T7 _ _ rfl Z)) (by rw [show sgn (!true) m=(0-m.1,m.2) by show negF m=_;unfold negF;rw [Int.zero_sub]];exact FrV.of e8) (S8 _ _ e7) rfl rfl
 ·(rw [if_neg (by simpa using c2)])
  exact key false H6 mv _ _ a1 Z (N.same (S2.trans a1)) l rfl rfl
end
theorem lenE1 {α} {P:List α->Prop} (h:∀ a,P [a]):∀ us:List α,us.length=1->P us|[a],_=>h a
theorem lenE2 {α} {P:List α->Prop} (h:∀ a b,P [a,b]):∀ us:List α,us.length=2->P us|[a,b],_=>h a b
theorem lenE3 {α} {P:List α->Prop} (h:∀ a b c,P [a,b,c]):∀ us:List α,us.length=3->P us|[a,b,c],_=>h a b c
theorem lenE4 {α} {P:List α->Prop} (h:∀ a b c d,P [a,b,c,d]):∀ us:List α,us.length=4->P us|[a,b,c,d],_=>h a b c d
local macro_rules|`(∅)=>`(⟨$(Lean.mkIdent `NoNumber),$(Lean.mkIdent `Twice),$(Lean.mkIdent `NoName),$(Lean.mkIdent `NoPart),$(Lean.mkIdent `NoGap),$(Lean.mkIdent `InRing),$(Lean.mkIdent `Apart),$(Lean.mkIdent `Part),$(Lean.mkIdent `Gap),$(Lean.mkIdent `Joints),$(Lean.mkIdent `Thing),$(Lean.mkIdent `Scale),$(Lean.mkIdent `Lid),(.str "abcdefghijklmnopqrstuvwxyz" $(Lean.mkIdent `Baa)),(.int 8 $(Lean.mkIdent `Bab)),$(Lean.mkIdent `ZERO)⟩)
local macro_rules|`($f:ident∘$n:str)=>`(W.nsIn $(Lean.mkIdent `K) mainGlobals $n=some (some (.ref $f)))|`($i:num∘$n:str∘$t:ident)=>`($i∘$n∘$n∘$t)|`($i:num∘$n:str∘$q:str∘$t:ident)=>do let v:=fun c=>Lean.mkIdent (.mkSimple s!"{c}{i.getNat}");`($(Lean.mkIdent `K).lookup $(v "f")=some ⟨$(v "D"),$(v "A"),.func (W.fnOf $n $q (Jam $t) (Jal $t) (Jae $t) .none $(v "E") $(v "G") $(v "M") $(v "B") $(v "U") $(v "V")),$(v "C")⟩)
local macro_rules|`($c:ident∣$n:str)=>`(W.codeIn $(Lean.mkIdent `K) $c $n=true)
local macro_rules|`(-$f)=>`(W.keepIn $(Lean.mkIdent `K) (.ref $f)=true)
local macro_rules|`($f:ident/$n:str)=>`(W.findIn $(Lean.mkIdent `K) (.ref $f) $n=some none)|`($f:ident/$n:str/$g:ident)=>`(W.findIn $(Lean.mkIdent `K) (.ref $f) $n=some (some (.ref $g)))
local macro_rules|`(tactic|bv_omega)=>`(tactic|first|exact fun _ _ _ _ _ _=>lenE1 fun _=>rfl|exact fun _ _ _ _ _ _=>lenE2 fun _ _=>rfl|exact fun _ _ _ _ _ _=>lenE3 fun _ _ _=>rfl|exact fun _ _ _ _ _ _=>lenE4 fun _ _ _ _=>rfl)
theorem all_mk {l:W.OpenLaw} {w:World} {K:W.Frag} {h:Heap} {mg:Str->Option Value} {fa:Addr} {NoNumber Twice NoName NoPart NoGap InRing Apart Part Gap Joints Thing Scale Lid:Addr} (X:K.In h) (G:h.Ns mainGlobals mg) (hfa:mg "law"=some (.ref fa)) {f1 f2 f3 f4 f5 f6 f7 f8 f9 f10 f11 f12 f13 f14 f15 f16 f17 f18 f19 f20 f21 f22 f23 f24 f25 f26 f27 f28 f29 f30 f31 f32 f33 f34 f35 f36 f37 f38 f39 f40 f41 f42 f43 f44 f45 f46 f47 f48 f49 f50 f51 f52 f53 f54 f55:Addr} {A1 B1 A2 B2 A3 B3 A4 B4 A5 B5 A6 B6 A7 B7 A8 B8 A9 B9 A10 B10 A11 B11 A12 B12 A13 B13 A14 B14 A15 B15 A16 B16 A17 B17 A18 B18 A19 B19 A20 B20 A21 B21 A22 B22 A23 B23 A24 B24 A25 B25 A26 B26 A27 B27 A28 B28 A29 B29 A30 B30 A31 B31 A32 B32 A33 B33 A34 B34 A35 B35 A36 B36 A37 B37 A38 B38 A39 B39 A40 B40 A41 B41 A42 B42 A43 B43 A44 B44 A45 B45 A46 B46 A47 B47 A48 B48 A49 B49 A50 B50 A51 B51 A52 B52 A53 B53 A54 B54 A55 B55:Option Addr} {C1 C2 C3 C4 C5 C6 C7 C8 C9 C10 C11 C12 C13 C14 C15 C16 C17 C18 C19 C20 C21 C22 C23 C24 C25 C26 C27 C28 C29 C30 C31 C32 C33 C34 C35 C36 C37 C38 C39 C40 C41 C42 C43 C44 C45 C46 C47 C48 C49 C50 C51 C52 C53 C54 C55:Array (Option Value)} {D1 E1 G1 M1 U1 V1 D2 E2 G2 M2 U2 V2 D3 E3 G3 M3 U3 V3 D4 E4 G4 M4 U4 V4 D5 E5 G5 M5 U5 V5 D6 E6 G6 M6 U6 V6 D7 E7 G7 M7 U7 V7 D8 E8 G8 M8 U8 V8 D9 E9 G9 M9 U9 V9 D10 E10 G10 M10 U10 V10 D11 E11 G11 M11 U11 V11 D12 E12 G12 M12 U12 V12 D13 E13 G13 M13 U13 V13 D14 E14 G14 M14 U14 V14 D15 E15 G15 M15 U15 V15 D16 E16 G16 M16 U16 V16 D17 E17 G17 M17 U17 V17 D18 E18 G18 M18 U18 V18 D19 E19 G19 M19 U19 V19 D20 E20 G20 M20 U20 V20 D21 E21 G21 M21 U21 V21 D22 E22 G22 M22 U22 V22 D23 E23 G23 M23 U23 V23 D24 E24 G24 M24 U24 V24 D25 E25 G25 M25 U25 V25 D26 E26 G26 M26 U26 V26 D27 E27 G27 M27 U27 V27 D28 E28 G28 M28 U28 V28 D29 E29 G29 M29 U29 V29 D30 E30 G30 M30 U30 V30 D31 E31 G31 M31 U31 V31 D32 E32 G32 M32 U32 V32 D33 E33 G33 M33 U33 V33 D34 E34 G34 M34 U34 V34 D35 E35 G35 M35 U35 V35 D36 E36 G36 M36 U36 V36 D37 E37 G37 M37 U37 V37 D38 E38 G38 M38 U38 V38 D39 E39 G39 M39 U39 V39 D40 E40 G40 M40 U40 V40 D41 E41 G41 M41 U41 V41 D42 E42 G42 M42 U42 V42 D43 E43 G43 M43 U43 V43 D44 E44 G44 M44 U44 V44 D45 E45 G45 M45 U45 V45 D46 E46 G46 M46 U46 V46 D47 E47 G47 M47 U47 V47 D48 E48 G48 M48 U48 V48 D49 E49 G49 M49 U49 V49 D50 E50 G50 M50 U50 V50 D51 E51 G51 M51 U51 V51 D52 E52 G52 M52 U52 V52 D53 E53 G53 M53 U53 V53 D54 E54 G54 M54 U54 V54 D55 E55 G55 M55 U55 V55:Value}
  {Baa:Tok}
  {Bab:Tok}
  {ZERO:Addr} {BdS:Option Addr} {BdT:Nat} {BdU:Array (Option Value)} {BdM BdN:Tok}
  (g_NoNumber:NoNumber∘"NoNumber")
  (Bdo:Twice∘"Twice")
  (Bc4:NoName∘"NoName")
  (Bc5:NoPart∘"NoPart")
  (Bdp:NoGap∘"NoGap")
  (Bc6:InRing∘"InRing")
  (Bdq:Apart∘"Apart")
  (Bdw:Part∘"Part")
  (BdO:Gap∘"Gap")
  (Bcq:Joints∘"Joints")
  (Bc7:Thing∘"Thing")
  (Bc8:Scale∘"Scale")
  (g_Lid:Lid∘"Lid")
  (a1:f1∘"common_divisor") (l1:1∘"common_divisor"∘Bai) (c1:U1∣"common_divisor") (k1:-f1)
  (a2:f2∘"plus") (l2:2∘"plus"∘BcS) (c2:U2∣"plus") (k2:-f2)
  (a3:f3∘"minus") (l3:3∘"minus"∘Bcj) (c3:U3∣"minus") (k3:-f3)
  (a4:f4∘"times") (l4:4∘"times"∘Bck) (c4:U4∣"times") (k4:-f4)
  (a5:f5∘"over") (l5:5∘"over"∘BcU) (c5:U5∣"over") (k5:-f5)
  (a6:f6∘"under") (l6:6∘"under"∘Bcl) (c6:U6∣"under") (k6:-f6)
  (a7:f7∘"is_name") (l7:7∘"is_name"∘Bbo) (c7:U7∣"is_name") (k7:-f7)
  (a8:f8∘"is_whole") (l8:8∘"is_whole"∘BaX) (c8:U8∣"is_whole") (k8:-f8)
  (a9:f9∘"is_fraction") (l9:9∘"is_fraction"∘Baz) (c9:U9∣"is_fraction") (k9:-f9)
  (a10:f10∘"is_bound") (l10:10∘"is_bound"∘BaY) (c10:U10∣"is_bound") (k10:-f10)
  (a11:f11∘"are_faces") (l11:11∘"are_faces"∘BaO) (c11:U11∣"are_faces") (k11:-f11)
  (a12:f12∘"are_bounds") (l12:12∘"are_bounds"∘BaG) (c12:U12∣"are_bounds") (k12:-f12)
  (a13:f13∘"is_tie") (l13:13∘"is_tie"∘BbX) (c13:U13∣"is_tie") (k13:-f13)
  (a14:Part/"__init__"/f14) (l14:14∘"__init__"∘"Part.__init__"∘Bao) (c14:U14∣"Part.__init__") (k14:-f14)
  (a15:Part/"plain"/f15) (l15:15∘"plain"∘"Part.plain"∘BaH) (c15:U15∣"Part.plain") (k15:-f15)
  (a16:Gap/"__init__"/f16) (l16:16∘"__init__"∘"Gap.__init__"∘Bar) (c16:U16∣"Gap.__init__") (k16:-f16)
  (a17:Gap/"plain"/f17) (l17:17∘"plain"∘"Gap.plain"∘BaQ) (c17:U17∣"Gap.plain") (k17:-f17)
  (a18:f18∘"is_part") (l18:18∘"is_part"∘Bbp) (c18:U18∣"is_part") (k18:-f18)
  (a19:f19∘"is_gap") (l19:19∘"is_gap"∘BbY) (c19:U19∣"is_gap") (k19:-f19)
  (a20:f20∘"part_of") (l20:20∘"part_of"∘Bbq) (c20:U20∣"part_of") (k20:-f20)
  (a21:f21∘"gap_of") (l21:21∘"gap_of"∘BbZ) (c21:U21∣"gap_of") (k21:-f21)
  (a22:Joints/"__init__"/f22) (l22:22∘"__init__"∘"Joints.__init__"∘Bag) (c22:U22∣"Joints.__init__") (k22:-f22)
  (a23:Joints/"link"/f23) (l23:23∘"link"∘"Joints.link"∘BaA) (c23:U23∣"Joints.link") (k23:-f23)
  (a24:Joints/"way_between"/f24) (l24:24∘"way_between"∘"Joints.way_between"∘Bad) (c24:U24∣"Joints.way_between") (k24:-f24)
  (a25:Thing/"__init__"/f25) (l25:25∘"__init__"∘"Thing.__init__"∘Baj) (c25:U25∣"Thing.__init__") (k25:-f25)
  (a26:Thing/"parts"/f26) (l26:26∘"parts"∘"Thing.parts"∘BaB) (c26:U26∣"Thing.parts") (k26:-f26)
  (a27:Thing/"gaps"/f27) (l27:27∘"gaps"∘"Thing.gaps"∘BaI) (c27:U27∣"Thing.gaps") (k27:-f27)
  (a28:Thing/"way"/f28) (l28:28∘"way"∘"Thing.way"∘BaR) (c28:U28∣"Thing.way") (k28:-f28)
  (a29:Thing/"middle"/f29) (l29:29∘"middle"∘"Thing.middle"∘Bas) (c29:U29∣"Thing.middle") (k29:-f29)
  (a30:Thing/"room"/f30) (l30:30∘"room"∘"Thing.room"∘BaJ) (c30:U30∣"Thing.room") (k30:-f30)
  (a31:Scale/"__init__"/f31) (l31:31∘"__init__"∘"Scale.__init__"∘Bak) (c31:U31∣"Scale.__init__") (k31:-f31)
  (a32:Scale/"lifted"/f32) (l32:32∘"lifted"∘"Scale.lifted"∘Bat) (c32:U32∣"Scale.lifted") (k32:-f32)
  (a33:Scale/"lowered"/f33) (l33:33∘"lowered"∘"Scale.lowered"∘Bap) (c33:U33∣"Scale.lowered") (k33:-f33)
  (a34:f34∘"scale_of") (l34:34∘"scale_of"∘BaZ) (c34:U34∣"scale_of") (k34:-f34)
  (a35:f35∘"part_names") (l35:35∘"part_names"∘BaK) (c35:U35∣"part_names") (k35:-f35)
  (a36:Lid/"__init__"/f36) (l36:36∘"__init__"∘"Lid.__init__"∘Bau) (c36:U36∣"Lid.__init__") (k36:-f36)
  (a37:Lid/"full_level"/f37) (l37:37∘"full_level"∘"Lid.full_level"∘Bal) (c37:U37∣"Lid.full_level") (k37:-f37)
  (a38:Lid/"settle"/f38) (l38:38∘"settle"∘"Lid.settle"∘BaL) (c38:U38∣"Lid.settle") (k38:-f38)
  (a39:Lid/"has_stopped"/f39) (l39:39∘"has_stopped"∘"Lid.has_stopped"∘Bah) (c39:U39∣"Lid.has_stopped") (k39:-f39)
  (a40:f40∘"lids_of") (l40:40∘"lids_of"∘Bbr) (c40:U40∣"lids_of") (k40:-f40)
  (a41:f41∘"most_levels") (l41:41∘"most_levels"∘BaC) (c41:U41∣"most_levels") (k41:-f41)
  (a42:f42∘"coming_stops") (l42:42∘"coming_stops"∘Bav) (c42:U42∣"coming_stops") (k42:-f42)
  (a43:f43∘"first_level") (l43:43∘"first_level"∘BaD) (c43:U43∣"first_level") (k43:-f43)
  (a44:f44∘"stopped_at") (l44:44∘"stopped_at"∘BaM) (c44:U44∣"stopped_at") (k44:-f44)
  (a45:f45∘"risen_levels") (l45:45∘"risen_levels"∘Baw) (c45:U45∣"risen_levels") (k45:-f45)
  (a46:f46∘"gap_stop") (l46:46∘"gap_stop"∘Ba0) (c46:U46∣"gap_stop") (k46:-f46)
  (a47:f47∘"share") (l47:47∘"share"∘Bcm) (c47:U47∣"share") (k47:-f47)
  (a48:f48∘"_law_cell") (l48:48∘"_law_cell"∘Ba1) (c48:U48∣"_law_cell") (k48:-f48)
  (a49:f49∘"_law_low") (l49:49∘"_law_low"∘Bbs) (c49:U49∣"_law_low") (k49:-f49)
  (a50:f50∘"_law_plus") (l50:50∘"_law_plus"∘Ba2) (c50:U50∣"_law_plus") (k50:-f50)
  (a51:f51∘"_law_parts") (l51:51∘"_law_parts"∘BaS) (c51:U51∣"_law_parts") (k51:-f51)
  (a52:f52∘"_law_room") (l52:52∘"_law_room"∘Ba3) (c52:U52∣"_law_room") (k52:-f52)
  (a53:f53∘"_law_kinds") (l53:53∘"_law_kinds"∘BaT) (c53:U53∣"_law_kinds") (k53:-f53)
  (a54:f54∘"_law_right") (l54:54∘"_law_right"∘BaU) (c54:U54∣"_law_right") (k54:-f54)
  (a55:f55∘"law") (l55:55∘"law"∘Bc2) (c55:U55∣"law") (k55:-f55)
  (z_abs:W.nsIn K mainGlobals "abs"=some none)
  (z_isinstance:W.nsIn K mainGlobals "isinstance"=some none)
  (z_len:W.nsIn K mainGlobals "len"=some none)
  (z_int:W.nsIn K mainGlobals "int"=some none)
  (z_bool:W.nsIn K mainGlobals "bool"=some none)
  (z_tuple:W.nsIn K mainGlobals "tuple"=some none)
  (z_str:W.nsIn K mainGlobals "str"=some none)
  (z_range:W.nsIn K mainGlobals "range"=some none)
  (z_list:W.nsIn K mainGlobals "list"=some none)
  (z_min:W.nsIn K mainGlobals "min"=some none)
  (z_sorted:W.nsIn K mainGlobals "sorted"=some none)
  (z_all:W.nsIn K mainGlobals "all"=some none)
  (z_sum:W.nsIn K mainGlobals "sum"=some none)
  (z_dict:W.nsIn K mainGlobals "dict"=some none)
  (Ba5:W.nsIn K mainGlobals "SMALL_LETTERS"=some (some (.str "abcdefghijklmnopqrstuvwxyz" Baa)))
  (Bbe:W.nsIn K mainGlobals "LONGEST_NAME"=some (some (.int 8 Bab)))
  (BdD:ZERO∘"ZERO")
  (h_ZERO:K.lookup ZERO=some ⟨.type "tuple",BdS, .seq #[.int 0 BdM, .int 1 BdN] BdT,BdU⟩)
  (x_NoNumber:W.excIn K NoNumber [.type "ValueError", .type "Exception", .type "BaseException", .type "object"] "ValueError.__new__"=true)
  (Bci:W.excIn K Twice [.type "ValueError", .type "Exception", .type "BaseException", .type "object"] "ValueError.__new__"=true)
  (Bb4:W.excIn K NoName [.type "ValueError", .type "Exception", .type "BaseException", .type "object"] "ValueError.__new__"=true)
  (Bb5:W.excIn K NoPart [.type "ValueError", .type "Exception", .type "BaseException", .type "object"] "ValueError.__new__"=true)
  (Bcv:W.excIn K NoGap [.type "ValueError", .type "Exception", .type "BaseException", .type "object"] "ValueError.__new__"=true)
  (Bb6:W.excIn K InRing [.type "ValueError", .type "Exception", .type "BaseException", .type "object"] "ValueError.__new__"=true)
  (Bcw:W.excIn K Apart [.type "ValueError", .type "Exception", .type "BaseException", .type "object"] "ValueError.__new__"=true)
  (Bdr:W.makesIn K Part=true)
  (Bds:Part/"__init__"/f14)
  (Bdt:W.isFn K (.ref f14)=true)
  (Bdu:-Part)
  (BdE:W.makesIn K Gap=true)
  (BdF:Gap/"__init__"/f16)
  (BdG:W.isFn K (.ref f16)=true)
  (BdH:-Gap)
  (BcL:W.makesIn K Joints=true)
  (BcM:Joints/"__init__"/f22)
  (BcN:W.isFn K (.ref f22)=true)
  (BcO:-Joints)
  (Bc9:W.makesIn K Thing=true)
  (Bda:Thing/"__init__"/f25)
  (Bdb:W.isFn K (.ref f25)=true)
  (Bdc:-Thing)
  (Bdd:W.makesIn K Scale=true)
  (Bde:Scale/"__init__"/f31)
  (Bdf:W.isFn K (.ref f31)=true)
  (Bdg:-Scale)
  (mk_Lid:W.makesIn K Lid=true)
  (mi_Lid:Lid/"__init__"/f36)
  (mf_Lid:W.isFn K (.ref f36)=true)
  (mp_Lid:-Lid)
  (Bbv:Part/"plain"/f15)
  (Bbw:W.isFn K (.ref f15)=true)
  (BbS:Gap/"plain"/f17)
  (BbT:W.isFn K (.ref f17)=true)
  (Bbf:Joints/"link"/f23)
  (Bbg:W.isFn K (.ref f23)=true)
  (Bax:Joints/"way_between"/f24)
  (Bay:W.isFn K (.ref f24)=true)
  (Bbh:Thing/"parts"/f26)
  (Bbi:W.isFn K (.ref f26)=true)
  (Bbx:Thing/"gaps"/f27)
  (Bby:W.isFn K (.ref f27)=true)
  (BbU:Thing/"way"/f28)
  (BbV:W.isFn K (.ref f28)=true)
  (Ba6:Thing/"middle"/f29)
  (Ba7:W.isFn K (.ref f29)=true)
  (Bbz:Thing/"room"/f30)
  (BbA:W.isFn K (.ref f30)=true)
  (Ba8:Scale/"lifted"/f32)
  (Ba9:W.isFn K (.ref f32)=true)
  (me_lowered_Scale:Scale/"lowered"/f33)
  (mm_lowered_Scale:W.isFn K (.ref f33)=true)
  (me_full_level_Lid:Lid/"full_level"/f37)
  (mm_full_level_Lid:W.isFn K (.ref f37)=true)
  (me_settle_Lid:Lid/"settle"/f38)
  (mm_settle_Lid:W.isFn K (.ref f38)=true)
  (me_has_stopped_Lid:Lid/"has_stopped"/f39)
  (mm_has_stopped_Lid:W.isFn K (.ref f39)=true)
  (Bb7:W.plainGet K Part Str.empty=true)
  (Bb8:W.hasDictIn K Part=true)
  (Bb9:W.plainOver K Part=true)
  (Bca:W.findIn K (.ref Part) "__setattr__"=some (some (.builtin "object.__setattr__")))
  (Bcb:Part/"name")
  (Bcc:Part/"start")
  (Bcd:Part/"end")
  (Bce:Part/"size")
  (Bcf:Part/"most")
  (Bcg:Part/"weight")
  (Bcx:W.plainGet K Gap Str.empty=true)
  (Bcy:W.hasDictIn K Gap=true)
  (Bcz:W.plainOver K Gap=true)
  (BcA:W.findIn K (.ref Gap) "__setattr__"=some (some (.builtin "object.__setattr__")))
  (BcB:Gap/"name")
  (BcC:Gap/"one")
  (BcD:Gap/"other")
  (BcE:Gap/"low")
  (BcF:Gap/"high")
  (Bbj:W.plainGet K Joints Str.empty=true)
  (Bbk:W.hasDictIn K Joints=true)
  (Bbl:W.plainOver K Joints=true)
  (Bbm:W.findIn K (.ref Joints) "__setattr__"=some (some (.builtin "object.__setattr__")))
  (Bbn:Joints/"leads")
  (BbC:W.plainGet K Thing Str.empty=true)
  (BbD:W.hasDictIn K Thing=true)
  (BbE:W.plainOver K Thing=true)
  (BbF:W.findIn K (.ref Thing) "__setattr__"=some (some (.builtin "object.__setattr__")))
  (BbG:Thing/"parts_by_name")
  (BbH:Thing/"gaps_by_name")
  (BbI:Thing/"ways")
  (BbJ:W.plainGet K Scale Str.empty=true)
  (BbK:W.hasDictIn K Scale=true)
  (BbL:W.plainOver K Scale=true)
  (BbM:W.findIn K (.ref Scale) "__setattr__"=some (some (.builtin "object.__setattr__")))
  (BbN:Scale/"bottom")
  (BbO:Scale/"factors")
  (cl1_Lid:W.plainGet K Lid Str.empty=true)
  (cl2_Lid:W.hasDictIn K Lid=true)
  (cl3_Lid:W.plainOver K Lid=true)
  (cl4_Lid:W.findIn K (.ref Lid) "__setattr__"=some (some (.builtin "object.__setattr__")))
  (na1_Lid:Lid/"name")
  (na2_Lid:Lid/"rest")
  (na3_Lid:Lid/"weights")
  (na4_Lid:Lid/"load")
  (na5_Lid:Lid/"last_level")
  : ∃ fd:FuncData,(∀ (s:Shared) (v:Value),BindsTo s fd ⟨[v],[]⟩ [("_law_script",v)])/\∀ base:Heap,K.In base->base.Ns mainGlobals mg->FnOk l.prog w K mg base (CX1 l.prog w) 11 fa fd ["_law_script"] (Bdh K):=by
 have e:=hfa.symm.trans (W.mg_of X G a55);cases e;have T:Txt K mg ∅:=⟨W.mg_none_of X G z_abs,W.mg_none_of X G z_isinstance,W.mg_none_of X G z_len,W.mg_none_of X G z_int,W.mg_none_of X G z_bool,W.mg_none_of X G z_tuple,W.mg_none_of X G z_str,W.mg_none_of X G z_range,W.mg_none_of X G z_list,W.mg_none_of X G z_min,W.mg_none_of X G z_sorted,W.mg_none_of X G z_all,W.mg_none_of X G z_sum,W.mg_none_of X G z_dict,W.mg_of X G g_NoNumber,W.mg_of X G Bdo,W.mg_of X G Bc4,W.mg_of X G Bc5,W.mg_of X G Bdp,W.mg_of X G Bc6,W.mg_of X G Bdq,W.mg_of X G Bdw,W.mg_of X G BdO,W.mg_of X G Bcq,W.mg_of X G Bc7,W.mg_of X G Bc8,W.mg_of X G g_Lid,W.mg_of X G Ba5,⟨_,rfl⟩,W.mg_of X G Bbe,⟨_,rfl⟩,W.mg_of X G BdD,rfl,fun H=>.inr ⟨_,_,_,h_ZERO,rfl,rfl,by show 2<=sizeLine;decide, .cons ⟨_,rfl⟩ (.cons ⟨_,rfl⟩ (.nil))⟩,x_NoNumber,Bci,Bb4,Bb5,Bcv,Bb6,Bcw,Bb7,Bb8,Bb9,Bca,Bcb,Bcc,Bcd,Bce,Bcf,Bcg,Bcx,Bcy,Bcz,BcA,BcB,BcC,BcD,BcE,BcF,Bbj,Bbk,Bbl,Bbm,Bbn,BbC,BbD,BbE,BbF,BbG,BbH,BbI,BbJ,BbK,BbL,BbM,BbN,BbO,cl1_Lid,cl2_Lid,cl3_Lid,cl4_Lid,na1_Lid,na2_Lid,na3_Lid,na4_Lid,na5_Lid,(fun C hC=>by cases hC;exact ⟨⟨Bb7,Bb8,Bb9,Bca⟩,Bcb,Bcc,Bcd,Bce,Bcf,Bcg⟩),(fun C hC=>by cases hC;exact ⟨⟨Bcx,Bcy,Bcz,BcA⟩,BcB,BcC,BcD,BcE,BcF⟩),(fun C hC=>by cases hC;exact ⟨⟨Bbj,Bbk,Bbl,Bbm⟩,Bbn⟩),(fun C hC=>by cases hC;exact ⟨⟨BbC,BbD,BbE,BbF⟩,BbG,BbH,BbI⟩),(fun C hC=>by cases hC;exact ⟨⟨BbJ,BbK,BbL,BbM⟩,BbN,BbO⟩),(fun C hC=>by cases hC;exact ⟨⟨cl1_Lid,cl2_Lid,cl3_Lid,cl4_Lid⟩,na1_Lid,na2_Lid,na3_Lid,na4_Lid,na5_Lid⟩)⟩;have F1:=Jao l1 c1 k1;have F2:=Jao l2 c2 k2;have F3:=Jao l3 c3 k3;have F4:=Jao l4 c4 k4;have F5:=Jao l5 c5 k5;have F6:=Jao l6 c6 k6;have F7:=Jao l7 c7 k7;have F8:=Jao l8 c8 k8;have F9:=Jao l9 c9 k9;have F10:=Jao l10 c10 k10;have F11:=Jao l11 c11 k11;have F12:=Jao l12 c12 k12;have F13:=Jao l13 c13 k13;have F14:=Jao l14 c14 k14;have F15:=Jao l15 c15 k15;have F16:=Jao l16 c16 k16;have F17:=Jao l17 c17 k17;have F18:=Jao l18 c18 k18;have F19:=Jao l19 c19 k19;have F20:=Jao l20 c20 k20;have F21:=Jao l21 c21 k21;have F22:=Jao l22 c22 k22;have F23:=Jao l23 c23 k23;have F24:=Jao l24 c24 k24;have F25:=Jao l25 c25 k25;have F26:=Jao l26 c26 k26;have F27:=Jao l27 c27 k27;have F28:=Jao l28 c28 k28;have F29:=Jao l29 c29 k29;have F30:=Jao l30 c30 k30;have F31:=Jao l31 c31 k31;have F32:=Jao l32 c32 k32;have F33:=Jao l33 c33 k33;have F34:=Jao l34 c34 k34;have F35:=Jao l35 c35 k35;have F36:=Jao l36 c36 k36;have F37:=Jao l37 c37 k37;have F38:=Jao l38 c38 k38;have F39:=Jao l39 c39 k39;have F40:=Jao l40 c40 k40;have F41:=Jao l41 c41 k41;have F42:=Jao l42 c42 k42;have F43:=Jao l43 c43 k43;have F44:=Jao l44 c44 k44;have F45:=Jao l45 c45 k45;have F46:=Jao l46 c46 k46;have F47:=Jao l47 c47 k47;have F48:=Jao l48 c48 k48;have F49:=Jao l49 c49 k49;have F50:=Jao l50 c50 k50;have F51:=Jao l51 c51 k51;have F52:=Jao l52 c52 k52;have F53:=Jao l53 c53 k53;have F54:=Jao l54 c54 k54;have F55:=Jao l55 c55 k55;refine ⟨W.fnOf "law" "law" (Jam Bc2) (Jal Bc2) (Jae Bc2) .none E55 G55 M55 B55 U55 V55,fun s v=>.of_eq rfl,fun base _ _=>?_⟩;have cC:∀ {k:Nat} {x:Str} {ps:List Str} {sp:Sp} {f:Addr} {fd:FuncData},FnOk l.prog w K mg base (CX1 l.prog w) k f fd ps sp->W.nsIn K mainGlobals x=some (some (.ref f))->W.keepIn K (.ref f)=true->Binds K fd ps []->Cal l.prog w K mg base k x ps [] sp:=fun h a c b=>⟨_,_,[],h,W.mg_of X G a,c,b, .nil⟩;have cK:∀ {k:Nat} {x:Str} {ps:List Str} {sp:Sp} {f C:Addr} {fd:FuncData},FnOk l.prog w K mg base (CX1 l.prog w) k f fd ps sp->W.nsIn K mainGlobals x=some (some (.ref C))->Mk K C f->Binds K fd ps []->KCal l.prog w K mg base k x C ps sp:=fun h a c b=>⟨_,_,h,W.mg_of X G a,c,b⟩;have cM:∀ {k:Nat} {m:Str} {Cs:Addr->Prop} {ps:List Str} {sp:Sp} {f:Addr} {fd:FuncData},FnOk l.prog w K mg base (CX1 l.prog w) k f fd ps sp->(∀ C,Cs C->Cls K C/\Meth K C m f)->W.keepIn K (.ref f)=true->Binds K fd ps []->MCal l.prog w K mg base k m Cs ps sp:=fun h a c b=>⟨_,_,h,a,c,b⟩;have Bac:=cC (Jdx F1 T) a1 k1 (F1.binds (by bv_omega));have BcT:=cC (Jkb F2 T Bac) a2 k2 (F2.binds (by bv_omega));have Bbb:=cC (JiS F3 T BcT) a3 k3 (F3.binds (by bv_omega));have Bba:=cC (JiU F4 T Bac) a4 k4 (F4.binds (by bv_omega));have BcW:=cC (Jka F5 T Bba) a5 k5 (F5.binds (by bv_omega));have BaF:=cC (JiV F6 T) a6 k6 (F6.binds (by bv_omega));have BaE:=cC (Jha F7 T) a7 k7 (F7.binds (by bv_omega));have BaN:=cC (Jgd F8 T) a8 k8 (F8.binds (by bv_omega));have Baq:=cC (Jeq F9 T BaN Bac) a9 k9 (F9.binds (by bv_omega));have BbW:=cC (Jgc F10 T Baq) a10 k10 (F10.binds (by bv_omega));have BaP:=cC (JfF F11 T BaE) a11 k11 (F11.binds (by bv_omega));have BbP:=cC (Je2 F12 T BbW BaF) a12 k12 (F12.binds (by bv_omega));have BcX:=cC (JhZ F13 T BaE BaP BbP) a13 k13 (F13.binds (by bv_omega));have BdA:=cK (JdH F14 T) Bdw ⟨Bdr,Bds,Bdt,Bdu⟩ (F14.binds (by bv_omega));have Bdl:=cM (m:="plain") (Cs:=IsPart ∅) (JeZ F15 T) (fun C hC=>⟨(T.BcR C hC).cls,(by cases hC;exact ⟨Bbv,Bbw,k15⟩)⟩) k15 (F15.binds (by bv_omega));have BdR:=cK (Jd1 F16 T) BdO ⟨BdE,BdF,BdG,BdH⟩ (F16.binds (by bv_omega));have BcJ:=cM (m:="plain") (Cs:=IsGap ∅) (JfD F17 T) (fun C hC=>⟨(T.Bdz C hC).cls,(by cases hC;exact ⟨BbS,BbT,k17⟩)⟩) k17 (F17.binds (by bv_omega));have BcH:=cC (Jhb F18 T BaE BaP Baq BaN BaF) a18 k18 (F18.binds (by bv_omega));have BcY:=cC (JhY F19 T BcX) a19 k19 (F19.binds (by bv_omega));have BcI:=cC (Jhe F20 T BcH BdA) a20 k20 (F20.binds (by bv_omega));have Bc0:=cC (JhX F21 T BcY BdR) a21 k21 (F21.binds (by bv_omega));have BcZ:=cK (Jc9 F22 T) Bcq ⟨BcL,BcM,BcN,BcO⟩ (F22.binds (by bv_omega));have BdB:=cM (m:="link") (Cs:=Jc0 ∅) (Jen F23 T) (fun C hC=>⟨(T.Bch C hC).cls,(by cases hC;exact ⟨Bbf,Bbg,k23⟩)⟩) k23 (F23.binds (by bv_omega));have BaW:=cM (m:="way_between") (Cs:=Jc0 ∅) (JcA F24 T) (fun C hC=>⟨(T.Bch C hC).cls,(by cases hC;exact ⟨Bax,Bay,k24⟩)⟩) k24 (F24.binds (by bv_omega));have Bdn:=cK (Jdw F25 T BcZ BcI Bc0 BaW BdB) Bc7 ⟨Bc9,Bda,Bdb,Bdc⟩ (F25.binds (by bv_omega));have BaV:=cM (m:="parts") (Cs:=Jbb ∅) (Jeo F26 T Bdl) (fun C hC=>⟨(T.Ba4 C hC).cls,(by cases hC;exact ⟨Bbh,Bbi,k26⟩)⟩) k26 (F26.binds (by bv_omega));have BcV:=cM (m:="gaps") (Cs:=Jbb ∅) (Je0 F27 T BcJ) (fun C hC=>⟨(T.Ba4 C hC).cls,(by cases hC;exact ⟨Bbx,Bby,k27⟩)⟩) k27 (F27.binds (by bv_omega));have Bdx:=cM (m:="way") (Cs:=Jbb ∅) (JfE F28 T) (fun C hC=>⟨(T.Ba4 C hC).cls,(by cases hC;exact ⟨BbU,BbV,k28⟩)⟩) k28 (F28.binds (by bv_omega));have Bc1:=cM (m:="middle") (Cs:=Jbb ∅) (Jd4 F29 T Bdx BcT Bbb) (fun C hC=>⟨(T.Ba4 C hC).cls,(by cases hC;exact ⟨Ba6,Ba7,k29⟩)⟩) k29 (F29.binds (by bv_omega));have BdC:=cM (m:="room") (Cs:=Jbb ∅) (Je1 F30 T Bc1 Bbb BaF) (fun C hC=>⟨(T.Ba4 C hC).cls,(by cases hC;exact ⟨Bbz,BbA,k30⟩)⟩) k30 (F30.binds (by bv_omega));have Bdm:=cK (Jdv F31 T Bac) Bc8 ⟨Bdd,Bde,Bdf,Bdg⟩ (F31.binds (by bv_omega));have Bb0:=cM (m:="lifted") (Cs:=Jdo ∅) (Jd3 F32 T Bac) (fun C hC=>⟨(T.BcG C hC).cls,(by cases hC;exact ⟨Ba8,Ba9,k32⟩)⟩) k32 (F32.binds (by bv_omega));have m_lowered:=cM (m:="lowered") (Cs:=Jdo ∅) (JdI F33 T Bac) (fun C hC=>⟨(T.BcG C hC).cls,(by cases hC;exact ⟨me_lowered_Scale,mm_lowered_Scale,k33⟩)⟩) k33 (F33.binds (by bv_omega));have Bcn:=cC (Jgh F34 T BaV BcV Bdm) a34 k34 (F34.binds (by bv_omega));have BbQ:=cC (Je3 F35 T Bdx) a35 k35 (F35.binds (by bv_omega));have k_Lid:=cK (Jd2 F36 T) g_Lid ⟨mk_Lid,mi_Lid,mf_Lid,mp_Lid⟩ (F36.binds (by bv_omega));have m_full_level:=cM (m:="full_level") (Cs:=IsLid ∅) (Jdu F37 T BcW) (fun C hC=>⟨(T.c_Lid C hC).cls,(by cases hC;exact ⟨me_full_level_Lid,mm_full_level_Lid,k37⟩)⟩) k37 (F37.binds (by bv_omega));have m_settle:=cM (m:="settle") (Cs:=IsLid ∅) (JeY F38 T Bbb Bba) (fun C hC=>⟨(T.c_Lid C hC).cls,(by cases hC;exact ⟨me_settle_Lid,mm_settle_Lid,k38⟩)⟩) k38 (F38.binds (by bv_omega));have m_has_stopped:=cM (m:="has_stopped") (Cs:=IsLid ∅) (Jda F39 T) (fun C hC=>⟨(T.c_Lid C hC).cls,(by cases hC;exact ⟨me_has_stopped_Lid,mm_has_stopped_Lid,k39⟩)⟩) k39 (F39.binds (by bv_omega));have BcK:=cC (Jhd F40 T BaV BcV BdC BaF BbQ k_Lid Bb0) a40 k40 (F40.binds (by bv_omega));have Bbu:=cC (Jer F41 T BaV Bb0 BcW) a41 k41 (F41.binds (by bv_omega));have Bbc:=cC (Jd5 F42 T m_full_level) a42 k42 (F42.binds (by bv_omega));have Bbt:=cC (Jep F43 T BaF) a43 k43 (F43.binds (by bv_omega));have BbR:=cC (Je4 F44 T) a44 k44 (F44.binds (by bv_omega));have Bbd:=cC (Jd6 F45 T Bbc Bbt BbR m_settle) a45 k45 (F45.binds (by bv_omega));have Bco:=cC (Jgb F46 T m_has_stopped) a46 k46 (F46.binds (by bv_omega));have Bc3:=cC (JiT F47 T Bcn BcK Bbu Bbd BaV m_lowered Bba Bco) a47 k47 (F47.binds (by bv_omega));have Bam:=cC (Jge F48 T) a48 k48 (F48.binds (by bv_omega));have Baf:=cC (Jhc F49 T) a49 k49 (F49.binds (by bv_omega));have Bae:=cC (Jgf F50 T Baf) a50 k50 (F50.binds (by bv_omega));have Bb1:=cC (JfH F51 T Bam Baf Bae) a51 k51 (F51.binds (by bv_omega));have Bcp:=cC (Jgg F52 T Bam Baf Bae) a52 k52 (F52.binds (by bv_omega));have Bb2:=cC (JfG F53 T Baf) a53 k53 (F53.binds (by bv_omega));have Bb3:=cC (JfI F54 T Baf Bae) a54 k54 (F54.binds (by bv_omega));exact Jk4 F55 T Bam Bb1 Bcp Bae Bdn Bc3 Bb2 Bb3
theorem walk {l:PySem.W.OpenLaw} {q:Program} {loose:List Str} {XP:(Str->Option Value)->Heap->Prop} {YP:World->Heap->Prop} {d:DefRec} {K:Params->PySem.W.Frag} (hn:l.most=some 63) (hdf:d.params.defaults=[])
  (hY:∀ (w:World) (h:Heap),YP w h->(K w.params).In h)
  (F:∀ (w:World) (mg:Str->Option Value) (fa:Addr) (h:Heap),(K w.params).In h->h.Ns mainGlobals mg->mg d.name=some (.ref fa) ->
   ∃ fd:FuncData,(∀ (s:Shared) (u:Value),BindsTo s fd ⟨[u],[]⟩ [("_law_script",u)])/\∀ base:Heap,(K w.params).In base->base.Ns mainGlobals mg->FnOk l.prog w (K w.params) mg base (CX1 l.prog w) 11 fa fd ["_law_script"] (Bdh (K w.params))) :
  PySem.W.WalkO q loose XP YP l.row.toRowW d [] (fun f vs=>PySem.call f vs) :=
 L2.JiB (n:=63) (k:=11) (x:="_law_script") (CX:=fun w=>CX1 l.prog w) (sp:=fun w=>Bdh (K w.params)) hn (by decide) hdf ⟨rfl,by decide,by decide⟩ hY F (fun _ _ a ns hl _ hS=>⟨a,ns,rfl,hS,hl,fun _=>rfl⟩) fun _ _ _ _ _ z=>by
  obtain ⟨_,_,_,_,_,_,_,_,_,_,_,z⟩:=z;exact z
end Prg
open PySem PySem.W PyProof.Rows
local macro_rules|`(command|universe $xs*)=>do return Lean.mkNullNode (<-xs.mapM fun x=>`(command|def $(Lean.mkIdent (.str `PySem.W.Fast s!"tw{(x.getId.toString.drop 1)}")):ident:Nat:=0))
universe u10000395277449789415 u10009791518366405811 u10017934355075613822 u10031950363014496353 u10040617183765930225 u10053847903286873812 u10054327995042280619 u10062213627786402224 u10062254384837951031 u10070113319365086402 u1007224378806485074 u10072833456752236673 u10095961357442138161 u10099647757785453748 u10143429766234508207 u10176992189150977239 u10219971893171449472 u10309904895464266366 u10313381253495375985 u10417747452817035564 u10427721967095582871 u10499710613893845132 u10578461670777191313 u1059084525919500759 u10649812398480858976 u10653168291489449125 u10654196442708767888 u10657549374523646598 u10671774952231675428 u10675676911994476873 u10706480391129564752 u10727809153353167254 u10744283207137123193 u10797149772003184403 u10811223427027605735 u10813702407890417033 u10957840165917063006 u10958532482147672979 u10985334403021765394 u11020295614390351593 u11028616802092413566 u11036202314583012681 u11064003210032135298 u11064761177142800807 u1108632640102037621 u11132153269806861281 u11148850048470380096 u11173236982692575951 u11213980346985829621 u11371751993019924455 u11440267319058437609 u1148846674063974276 u11563560853584947185 u11572101030392137842 u11603439499166531947 u11682012137189867143 u11689715031062608181 u11700214847897498684 u11771405805614577567 u11784469688433263969 u11802263467006547008 u11816855861050042627 u11875702491460877370 u11941231640435803755 u11960249341839694341 u11967898407232467317 u11983602008137337052 u12002108945064202347 u12031123372100662024 u12034919175441862728 u12103368430485709441 u12129735812247259836 u12132321317103343944 u12137960213039069053 u12298522101104510632 u12301054786259995529 u12317281798181932940 u12324466990095441324 u12336698419656492953 u12371173110808358828 u12381773784081481793 u12399577129121642658 u12419631326359812142 u12436773451746176176 u12462050173241503115 u12474871038262292671 u12548072778372936316 u12641269785802775832 u12652082319176327172 u12695096693072095124 u12748048226521942087 u12755931823412344089 u1283221633174891978 u12844560842884984145 u12879119195499902417 u12952027011753206665 u1298400980396822001 u13039152107098299627 u13062363569867514617 u13085495799481235279 u13114277879830965076 u13136302044800861312 u13146280433143001103 u13170028986614795863 u1319496204139398477 u1328542052092823577 u13318737918028771827 u13338999079421317599 u13350412299618221573 u13408927517480839485 u13410812862922415055 u13414154425859188122 u13432608577578119053 u13443928563592427218 u13479522933542810719 u13483808897725259569 u13519289199514302256 u13521884072564537919 u13538829238231360363 u13628014311522129431 u13641153304083871137 u13659437415781663376 u13661953488815325529 u13677840512364629000 u13700106224017249292 u13720576702132118259 u13750792138403463539 u13761124502002515005 u13766499468375495003 u13775630840039932215 u13883627487901493344 u13894665819581167267 u13923491341508053056 u13945794804194561494 u13947848465195223690 u13958677533501194041 u14003208210945876566 u1412876895148640556 u14150505950548111312 u14151134646521942482 u14159701536500290965 u14171617867176918168 u14172478085776970456 u1420212877737992555 u14202960641833241545 u14223331913242876930 u14252526019231867583 u14317169569150275961 u14326963501996694474 u14345456291640676450 u14360710668586099763 u143651516523914262 u14501196154930726002 u14584610136966779271 u1458677229066663541 u14607576704146592695 u14662703631658858831 u14753725822827066787 u14786040456172404493 u14808761316770065590 u1486976517649300224 u14903190819915263682 u14912656453987730993 u14949204463183800018 u1496664572217273378 u14991648205178887698 u14999026679121345923 u15072154436141274550 u15090028207633905894 u15118856932928003201 u15169961277965984697 u15231893283605137925 u15243323675589024213 u15273124283265662809 u15314543651105204097 u15317910674333061489 u15335530987975091532 u15347121370227281837 u15469858183104268611 u15500488044762568139 u15536672342982711383 u15556560580463461473 u15557139550309614811 u15559781043440765500 u15563972886514379536 u15607201002139494105 u15647853352739391870 u15702166374876871722 u15715102663681716735 u1571710985420609287 u15738950837143029970 u15755150267152462683 u1578178596720768600 u15802250529082569247 u15817685434593134551 u15831637179336106097 u15865915037724918760 u1588587111148911403 u15898813359706392516 u15971306627822607927 u16021737469321185972 u16026535139430470871 u16041243147301407296 u16078488622340600385 u16128561848441665841 u16170451708119962605 u16184686677626577131 u16229661607692324094 u16248841613806678708 u16266966739245086381 u16289776935287055529 u16306911645800771023 u16311730255464392990 u16342882221851517668 u16391989582993632093 u16403749113055150046 u16414250905012793387 u16428752110215942423 u16447935500844468499 u16465076784144724266 u1647371320296433354 u16478724142244604002 u16485072045798171160 u16497472190186512650 u16521589444603567584 u16537046079176315721 u16584933879756682568 u16628300205945721919 u16653056287989187861 u16664902481175335434 u16680267762169576154 u16680889342924336483 u16720162422478938714 u16744406939391389933 u16784754133700282640 u16798362146849213767 u1687573897691264278 u16892252878307850248 u16923734262626974388 u16938728779330854433 u16966222360565382922 u17051146153703658335 u17152102577311283533 u17159401963109153372 u17159575697801745022 u17160707413518780204 u17216120121355006868 u17254598213192402406 u17269772364255857698 u17269962144174032105 u17299637700410756591 u17343454266124417925 u17381385236751964154 u17382142998371123783 u17403100534885393400 u17433601662947041928 u17439379230427513125 u17444769649368575803 u17477155262809427431 u17505294479467816161 u17596044642359897121 u17616154964125772798 u17643641587818105465 u17647398136462454522 u17650171021713284074 u17665875346060919409 u17673822690719800752 u17696743546565398210 u17770822639271593393 u17786501743191527965 u17841810142124834479 u17917160912563243351 u18043980228070802181 u18066057400618295917 u18084421078806175452 u18098796116083732354 u18130023224117610371 u18138307578352979179 u18140157397584357888 u18185953801432308082 u18207221758729800570 u18216481410656236062 u18217384837558333832 u18236818714285286165 u18252931702998962317 u18291014151422873182 u18302560916125759282 u18344452531531937823 u18352424255017156752 u18419450791210694413 u18435018941533280567 u18440066362548816397 u1849909875008858625 u1876635916709904975 u1880805515566802388 u1885820902414133942 u1894889161502655488 u1908195675631554370 u1952018550059384937 u2004160092126461835 u2024109553567168016 u2027938389247467023 u2029132841684584477 u2032931916763801749 u2096744011651315556 u2212449246990216933 u2222781967128996429 u2231402435523953745 u2266464780170159732 u2303935047593615982 u2334340770355414724 u2338331904840871362 u233960093324164328 u2373198876000574162 u2390024591731421135 u2391232376304332845 u2392071546667491254 u2396934705855258439 u2411937147231560229 u2446540112903808786 u2453152065982206896 u24865894893175152 u2488098956033445026 u2597197223211757719 u2618015116464432769 u2619463510088121678 u2651092677801962850 u2651389902209047909 u2692253660373973340 u2721701304068899350 u2778073221094030846 u2886052803150286610 u2925954227008325682 u2965739667492269126 u2982078005712876692 u299198435802344969 u3039933962694925580 u3041746841984135938 u3057824095895357318 u3060304472637885768 u3077416281783835331 u3091841544842767762 u3093712618188151910 u309686656991842931 u3118371662057557493 u3126808955404749476 u3213039818244844232 u3214842544037985143 u3271913516700122607 u3281484902183107735 u3327142241298893883 u3333983024603696153 u3342733428613599554 u3350134937027489461 u335191162274398018 u3360489719239144064 u3426749207738334022 u343404928499536593 u3475450405087749296 u3525436120677807075 u3672600682326910434 u3721034796207549050 u3721791246609613784 u3727199912378987179 u3736231216381126934 u3756769928481262587 u3804270879287986804 u3931834319173001478 u4001352020925048567 u4113710181380953098 u4143738911923664632 u4155199811596771249 u4159084043908851830 u4175660600358438126 u4218976179333736102 u4229079093769902534 u4242148172170304331 u4325313834135401954 u4328629522156640688 u4349385224497376238 u4349582721546018920 u4377736816985072888 u4448622730622417919 u4460400309093005094 u447752200408890408 u450648000393411593 u4519388628323180920 u4522232971697135647 u4613843859276317788 u4615524056634618346 u4676446471385861122 u473898601386023519 u4773838944009287600 u4776465719694309638 u479959092908591340 u482453275378358332 u485918123864062975 u4872289099412271299 u4894363358421353488 u4905870511270172872 u4928269189068580047 u4936224038305624778 u4978692209152162958 u5034123811290036253 u5088914618297305727 u5089973582814690457 u5118207736862935212 u516020378563722622 u5165095742033624939 u5171520649557333367 u5183962991165134117 u5215845867653376361 u5240015244188658498 u5274396209184923125 u5358400472050064497 u5420884004231580523 u5498563080694179967 u549956244934597866 u5510440442155853293 u5541121347701574852 u555046192803740999 u5731995526985646322 u5739658714776871823 u5779655683494524083 u5790690315482550386 u586642036711007764 u5900173955174609164 u5902619006179945670 u5922358766432129802 u6021235960814958286 u6029420216015432403 u6075726099133650022 u6095191819785138470 u6106869411762731324 u6112189628428561989 u6146367305330831562 u6164287706354309207 u6185688133818740114 u6192258395632330228 u6209942562735479478 u6258915665964415650 u6286956830593035000 u6287304028049850717 u630958707951464751 u6315085171764830776 u6317724020907249036 u6320132911100208277 u6328709142684325809 u6348673403687600054 u6364988566403027534 u6373617098641972900 u6393049407633755819 u6398305978375988834 u6419911093691490274 u6433162185361883604 u652442280036247671 u6549574118326850602 u6551750935392294928 u6561728025459125754 u6589885132889584725 u6599425826855898817 u6620865324335634338 u6627921437018292699 u6630105457481759806 u6632372031416870814 u665157035435070696 u6661269130315915195 u6715385733194715900 u6785041052749144241 u6808157740749954678 u694076642163374074 u6942049609972603020 u6946265028732913887 u705916163066405566 u7075771544308166978 u7093874297737281881 u7095744452971195962 u712072021858107526 u7125287591387709303 u7126741802532589225 u7136484152491872747 u7154526178971614674 u7158225185816587227 u7180256234154102275 u720757872503647846 u7209662318463423084 u7241796804958863608 u7297816914283729493 u7326544720477510631 u7358213664847563379 u7358336939084628077 u7397069672202305462 u7499072015880441181 u7517870081871842426 u752767311668368302 u7586060307687904977 u7606791984858141170 u7618559244660135351 u7730307957837035574 u7738202760590804919 u7749568625856158171 u7755092140128341963 u7802572007131017903 u7812441311613485280 u7877162129744683846 u7886115870641183387 u7920627746124622974 u79286295665739574 u795776186520525858 u7971276772829842894 u8032572841480700428 u8038815176559749212 u8043164604870512821 u8092581058670414377 u8092860341072612433 u8093451594493129134 u8192613723422271051 u8244144597042656678 u8255222122851877975 u8296108818170425913 u8296943916763203484 u8306269744196976054 u8324625498081225360 u8380087685401601910 u8468823949138860742 u8489012348456415104 u8558446948477438985 u8593912109802740164 u8613024359946402576 u8632371974621779257 u8645832310488086599 u8743508562728600592 u8744525752337703125 u8771235812623913583 u8779395408217116467 u882250362040598391 u8847937242809152858 u8852025941804548317 u8858799686354126831 u8906716025828337597 u8916801826061404639 u8986423208743036245 u8986796585565575716 u9024874153885852190 u9059208749165755186 u9063005750522216416 u9077406420725477902 u9084533466843483773 u9096332875418086031 u9104255549192579229 u9121175620553931130 u9177881847149508215 u9266917425008230724 u9275747853247304323 u9289363377621915468 u9355484953490064419 u9445461379071484926 u9477037186789001607 u9532647188077757151 u9564551594039913865 u9590091938893701532 u9626907535624527061 u9681251915652825804 u9683679588256440080 u971598630160223576 u9731408080384369663 u9731696520567886742 u9734082559014831776 u9799155955167712370 u9810751641403824573 u9812451235744481537 u9866622524996274343 u9929314944475865995 u9933450732160515093 u9958000322252416060
set_option maxRecDepth 100000 in
set_option maxHeartbeats 0 in
theorem PySem.Challenge.cw_slackchain_k53_one_gap_shared_holds : PySem.Challenge.rw_slackchain_k53_one_gap_shared.Holds := by
 w_on;o_law;k_head;(case hw=>w_witness2)
 k_fill
 refine Prg.walk (l:=PySem.Challenge.rw_slackchain_k53_one_gap_shared) rfl rfl (fun w h Y=>PySem.W.kIn_of Y) ?F;case F=>
  intro w mg fa h KX G hmg;refine' Prg.all_mk KX G hmg ?g_NoNumber ?Bdo ?Bc4 ?Bc5 ?Bdp ?Bc6 ?Bdq ?Bdw ?BdO ?Bcq ?Bc7 ?Bc8 ?g_Lid ?a1 ?l1 ?c1 ?k1 ?a2 ?l2 ?c2 ?k2 ?a3 ?l3 ?c3 ?k3 ?a4 ?l4 ?c4 ?k4 ?a5 ?l5 ?c5 ?k5 ?a6 ?l6 ?c6 ?k6 ?a7 ?l7 ?c7 ?k7 ?a8 ?l8 ?c8 ?k8 ?a9 ?l9 ?c9 ?k9 ?a10 ?l10 ?c10 ?k10 ?a11 ?l11 ?c11 ?k11 ?a12 ?l12 ?c12 ?k12 ?a13 ?l13 ?c13 ?k13 ?a14 ?l14 ?c14 ?k14 ?a15 ?l15 ?c15 ?k15 ?a16 ?l16 ?c16 ?k16 ?a17 ?l17 ?c17 ?k17 ?a18 ?l18 ?c18 ?k18 ?a19 ?l19 ?c19 ?k19 ?a20 ?l20 ?c20 ?k20 ?a21 ?l21 ?c21 ?k21 ?a22 ?l22 ?c22 ?k22 ?a23 ?l23 ?c23 ?k23 ?a24 ?l24 ?c24 ?k24 ?a25 ?l25 ?c25 ?k25 ?a26 ?l26 ?c26 ?k26 ?a27 ?l27 ?c27 ?k27 ?a28 ?l28 ?c28 ?k28 ?a29 ?l29 ?c29 ?k29 ?a30 ?l30 ?c30 ?k30 ?a31 ?l31 ?c31 ?k31 ?a32 ?l32 ?c32 ?k32 ?a33 ?l33 ?c33 ?k33 ?a34 ?l34 ?c34 ?k34 ?a35 ?l35 ?c35 ?k35 ?a36 ?l36 ?c36 ?k36 ?a37 ?l37 ?c37 ?k37 ?a38 ?l38 ?c38 ?k38 ?a39 ?l39 ?c39 ?k39 ?a40 ?l40 ?c40 ?k40 ?a41 ?l41 ?c41 ?k41 ?a42 ?l42 ?c42 ?k42 ?a43 ?l43 ?c43 ?k43 ?a44 ?l44 ?c44 ?k44 ?a45 ?l45 ?c45 ?k45 ?a46 ?l46 ?c46 ?k46 ?a47 ?l47 ?c47 ?k47 ?a48 ?l48 ?c48 ?k48 ?a49 ?l49 ?c49 ?k49 ?a50 ?l50 ?c50 ?k50 ?a51 ?l51 ?c51 ?k51 ?a52 ?l52 ?c52 ?k52 ?a53 ?l53 ?c53 ?k53 ?a54 ?l54 ?c54 ?k54 ?a55 ?l55 ?c55 ?k55 ?z_abs ?z_isinstance ?z_len ?z_int ?z_bool ?z_tuple ?z_str ?z_range ?z_list ?z_min ?z_sorted ?z_all ?z_sum ?z_dict ?Ba5 ?Bbe ?BdD ?h_ZERO ?x_NoNumber ?Bci ?Bb4 ?Bb5 ?Bcv ?Bb6 ?Bcw ?Bdr ?Bds ?Bdt ?Bdu ?BdE ?BdF ?BdG ?BdH ?BcL ?BcM ?BcN ?BcO ?Bc9 ?Bda ?Bdb ?Bdc ?Bdd ?Bde ?Bdf ?Bdg ?mk_Lid ?mi_Lid ?mf_Lid ?mp_Lid ?Bbv ?Bbw ?BbS ?BbT ?Bbf ?Bbg ?Bax ?Bay ?Bbh ?Bbi ?Bbx ?Bby ?BbU ?BbV ?Ba6 ?Ba7 ?Bbz ?BbA ?Ba8 ?Ba9 ?me_lowered_Scale ?mm_lowered_Scale ?me_full_level_Lid ?mm_full_level_Lid ?me_settle_Lid ?mm_settle_Lid ?me_has_stopped_Lid ?mm_has_stopped_Lid ?Bb7 ?Bb8 ?Bb9 ?Bca ?Bcb ?Bcc ?Bcd ?Bce ?Bcf ?Bcg ?Bcx ?Bcy ?Bcz ?BcA ?BcB ?BcC ?BcD ?BcE ?BcF ?Bbj ?Bbk ?Bbl ?Bbm ?Bbn ?BbC ?BbD ?BbE ?BbF ?BbG ?BbH ?BbI ?BbJ ?BbK ?BbL ?BbM ?BbN ?BbO ?cl1_Lid ?cl2_Lid ?cl3_Lid ?cl4_Lid ?na1_Lid ?na2_Lid ?na3_Lid ?na4_Lid ?na5_Lid;case g_NoNumber|Bdo|Bc4|Bc5|Bdp|Bc6|Bdq|Bdw|BdO|Bcq|Bc7|Bc8|g_Lid|a1|l1|c1|k1|a2|l2|c2|k2|a3|l3|c3|k3|a4|l4|c4|k4|a5|l5|c5|k5|a6|l6|c6|k6|a7|l7|c7|k7|a8|l8|c8|k8|a9|l9|c9|k9|a10|l10|c10|k10|a11|l11|c11|k11|a12|l12|c12|k12|a13|l13|c13|k13|a14|l14|c14|k14|a15|l15|c15|k15|a16|l16|c16|k16|a17|l17|c17|k17|a18|l18|c18|k18|a19|l19|c19|k19|a20|l20|c20|k20|a21|l21|c21|k21|a22|l22|c22|k22|a23|l23|c23|k23|a24|l24|c24|k24|a25|l25|c25|k25|a26|l26|c26|k26|a27|l27|c27|k27|a28|l28|c28|k28|a29|l29|c29|k29|a30|l30|c30|k30|a31|l31|c31|k31|a32|l32|c32|k32|a33|l33|c33|k33|a34|l34|c34|k34|a35|l35|c35|k35|a36|l36|c36|k36|a37|l37|c37|k37|a38|l38|c38|k38|a39|l39|c39|k39|a40|l40|c40|k40|a41|l41|c41|k41|a42|l42|c42|k42|a43|l43|c43|k43|a44|l44|c44|k44|a45|l45|c45|k45|a46|l46|c46|k46|a47|l47|c47|k47|a48|l48|c48|k48|a49|l49|c49|k49|a50|l50|c50|k50|a51|l51|c51|k51|a52|l52|c52|k52|a53|l53|c53|k53|a54|l54|c54|k54|a55|l55|c55|k55|z_abs|z_isinstance|z_len|z_int|z_bool|z_tuple|z_str|z_range|z_list|z_min|z_sorted|z_all|z_sum|z_dict|Ba5|Bbe|BdD|h_ZERO=>k_is
  (case x_NoNumber=>k_exc)
  (case Bci=>k_exc)
  (case Bb4=>k_exc)
  (case Bb5=>k_exc)
  (case Bcv=>k_exc)
  (case Bb6=>k_exc)
  (case Bcw=>k_exc)
  case Bdr|Bds|Bdt|Bdu|BdE|BdF|BdG|BdH|BcL|BcM|BcN|BcO|Bc9|Bda|Bdb|Bdc|Bdd|Bde|Bdf|Bdg|mk_Lid|mi_Lid|mf_Lid|mp_Lid|Bbv|Bbw|BbS|BbT|Bbf|Bbg|Bax|Bay|Bbh|Bbi|Bbx|Bby|BbU|BbV|Ba6|Ba7|Bbz|BbA|Ba8|Ba9|me_lowered_Scale|mm_lowered_Scale|me_full_level_Lid|mm_full_level_Lid|me_settle_Lid|mm_settle_Lid|me_has_stopped_Lid|mm_has_stopped_Lid|Bb7|Bb8|Bb9|Bca|Bcb|Bcc|Bcd|Bce|Bcf|Bcg|Bcx|Bcy|Bcz|BcA|BcB|BcC|BcD|BcE|BcF|Bbj|Bbk|Bbl|Bbm|Bbn|BbC|BbD|BbE|BbF|BbG|BbH|BbI|BbJ|BbK|BbL|BbM|BbN|BbO|cl1_Lid|cl2_Lid|cl3_Lid|cl4_Lid|na1_Lid|na2_Lid|na3_Lid|na4_Lid|na5_Lid=>k_is
