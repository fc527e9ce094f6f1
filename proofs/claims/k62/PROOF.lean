import PyProof.Rows.All
import Wide.All
import OpenK.AllK
import Wide.FinOn
import Lean
import PyProof.EqAt
import PyProof.EqKinds
import PyProof.TupleCall
import PyProof.ZipIter
import PyProof.Rows.SetFrom
import PyProof.Rows.SortStr
import KE.KDictList
import PyProof.AttrMissHeap
import KE.KDictOf
import KE.KDictLaws
import KE.KRevIter
import PyProof.CollectIter
import PyProof.FactsAll.range_2
import PyProof.FactsAll.range_iterator_1
import PyProof.WalksEnum
import PyProof.EnumMake
import PyProof.Rows.Range3
import PySem.Challenge.RW_slackchain_k62_a_gap_changed
set_option Elab.async false
set_option linter.all false
set_option maxRecDepth 100000
open List (mem_filter mem_cons_self mem_cons_of_mem mem_cons mem_append mem_append_right length_cons map_cons length_map append_nil nodup_cons length_take length_append size_toArray any_cons length_singleton map_nil cons_append length_nil not_mem_nil mem_singleton mem_map take_of_length_le take_zero take_succ map_append mem_flatMap nodup_append nil_append filter_append map_map)
local macro_rules(kind:=Lean.Parser.Command.declaration)|s=>do
  let m:=s[0]
  if m.getArgs.all (·.getNumArgs==0)&&(s[1].isOfKind `Lean.Parser.Command.definition||s[1].isOfKind `Lean.Parser.Command.abbrev)&&s.getHeadInfo matches .original .. then return s.setArg 0 (m.setArg 4 (Lean.mkNullNode #[Lean.mkNode `Lean.Parser.Command.noncomputable #[Lean.mkAtom "noncomputable"]])) else Lean.Macro.throwUnsupported
local macro_rules(kind:=Lean.Parser.Tactic.tacticLet__)|s=>do
  let m x:=Lean.mkNode `Lean.Parser.Tactic.rcasesPatMed #[Lean.mkNullNode #[x]]
  let g(r:Lean.Syntax->Lean.Syntax)(x:Lean.Syntax):Lean.Syntax:=if x.isIdent then Lean.mkNode `Lean.Parser.Tactic.rcasesPat.one #[x] else if x.isOfKind `Lean.Parser.Term.tuple then Lean.mkNode `Lean.Parser.Tactic.rcasesPat.tuple #[Lean.mkAtom "⟨",Lean.mkNullNode ((#[x[1][0],x[1][1]]++x[1][2].getArgs).map λy=>if y.isAtom then y else Lean.mkNode `Lean.Parser.Tactic.rcasesPatLo #[m (r y),Lean.mkNullNode]),Lean.mkAtom "⟩"] else Lean.mkNode `Lean.Parser.Tactic.rcasesPat.ignore #[x[0]]
  let d:=s[2][0]
  if d[0].isOfKind `Lean.Parser.Term.tuple then return Lean.mkNode `Lean.Parser.Tactic.obtain #[Lean.mkAtom "obtain",Lean.mkNullNode #[m (g (g (g (g id))) d[0])],Lean.mkNullNode,Lean.mkNullNode #[Lean.mkAtom ":=",Lean.mkNullNode #[d[4]]]] else Lean.Macro.throwUnsupported
local macro_rules|`(tactic|show $t:term)=>do
  let x:=t.raw
  let u:Lean.Term:=if x.isOfKind `Lean.Parser.Term.tuple then ⟨Lean.mkNode `Lean.Parser.Term.anonymousCtor #[Lean.mkAtom "⟨",Lean.mkNullNode (#[x[1][0],x[1][1]]++x[1][2].getArgs),Lean.mkAtom "⟩"]⟩ else t
  `(tactic|first|refine $u|change $u)
local macro_rules|`(tactic|ac_nf)=>`(tactic|first|lia|omega)
local macro_rules|`(⋯)=>`(by decide)
local macro_rules|`(∅)=>`(by ac_nf)
local macro_rules|`(tactic|subst_eqs)=>`(tactic|(intro _ _ _ _ h;(repeat obtain ⟨_,h⟩:=h);subst_vars;rfl))
namespace L2
theorem Au0(_:True:=by rfl):True:=⟨⟩
@[reducible]def Au:=Au0._auto_1
theorem Av0(_:True:=by decide):True:=⟨⟩
@[reducible]def Av:=Av0._auto_1
theorem Aw0(_:True:=by intro _;rfl):True:=⟨⟩
@[reducible]def Aw:=Aw0._auto_1
theorem Ax0(_:True:=by first | show .inl rfl | show .inr rfl | assumption):True:=⟨⟩
@[reducible]def Ax:=Ax0._auto_1
open PySem PySem.Spec PyProof.Rows
abbrev Key:=Sum Bool Str
def isBoolOf:Bool->Value->Bool
 | b, .bool c=>b == c
 | _,_=>false
variable{b:Bool}
theorem JeJ{v:Value}(h:isBoolOf b v=true):v=.bool b:=by
 cases v <;> simp_all [isBoolOf]
def keyIs:Key->Value->Bool
 | .inl k,v=>isBoolOf k v
 | .inr x,v=>Value.isStrOf x v
def keyH(w:World):Key->Int
 | .inl k=>hashInt (if k then 1 else 0)
 | .inr x=>hashStr w x
theorem JaR:∀{k:Key}{v:Value},keyIs k v=true->(∃ i,k=Sum.inl i/\v=Value.bool i)\/(∃ x t,k=Sum.inr x/\v=Value.str x t)
 | .inl i,v,h=>.inl ⟨i,rfl,JeJ h⟩
 | .inr x,v,h=>by
  let(t,e):=Value.isStrOf_shape (x:=x) (v:=v) h;show .inr ⟨x,t,rfl,e⟩
theorem JhK(i:Bool):keyIs (.inl i) (.bool i)=true:=by simp[keyIs,isBoolOf]
theorem Jix(x:Str)(t:Tok):keyIs (.inr x) (.str x t)=true:=by simp[keyIs,Value.isStrOf]
theorem Jmj(a b:Bool):decide ((Sum.inl a:Key)=Sum.inl b)=(a == b):=by cases a <;> cases b <;> rfl
theorem Jmm(a b:Str):decide ((Sum.inr a:Key)=Sum.inr b)=decide (a=b):=by
 by_cases e:a=b
 .subst e;simp
 .have h:¬(Sum.inr a:Key)=Sum.inr b:=λq=>e (Sum.inr.inj q);rw[decide_eq_false h,decide_eq_false e]
theorem Jmk(a:Bool)(b:Str):decide ((Sum.inl a:Key)=Sum.inr b)=false:=decide_eq_false (λq=>nomatch q)
theorem Jml(a:Str)(b:Bool):decide ((Sum.inr a:Key)=Sum.inl b)=false:=decide_eq_false (λq=>nomatch q)
variable{prog:Program}{A:Around}{E:Value->Shared->Prop}
theorem JgU{w:World}{s:Shared}{Q:Int->Shared->Prop}(h:Q (hashInt (if b then 1 else 0)) { s with toks:=s.toks+1 }) :
  wpAny (model prog w) A (pyHash (.bool b)) Q E s:=by
 have c:=rawHash_range (if b then 1 else 0);have a:s.TypeIs (.bool b) "bool":=rfl;unfold pyHash;have d:[Value.bool b].any Value.onHeap=false:=rfl;show wpAny_bind ?_;rw[cRoomFor,if_neg (by rw[d];show Bool.false_ne_true)];show wpAny_pure ?_;show wpAny_bind (wpAny_specialOf a F.slot_bool_hash.lookup ?_);show wpAny _ _ (if(some (Value.builtin "int.__hash__") == some Value.none)=true then _ else _) Q E s;rw[if_neg (by rw[beq_builtin_none];show Bool.false_ne_true)];show wpAny_bind (wpAny_specialOf a F.slot_bool_hash.lookup ?_);show wpAny _ _ (callSpecialIfBoundUnlessNone? (.bool b) "__hash__" _ >>= _) Q E s;show wpAny_bind (wpAny_callSpecialIfBoundUnlessNone?_slot a F.slot_bool_hash
  (wpAny_call_entry F.slot_bool_hash a entry_int_hash
   (show wpAny _ _ (do ret (<- mkInt (rawHash (if b then 1 else 0)))) _ _ s from wpAny_ret_mkInt ?_) (args_int_hash _)))
 show wpAny _ _ (if(decide (-(2:Int) ^ 63<=rawHash (if b then 1 else 0))&&decide (rawHash (if b then 1 else 0)<2 ^ 63))=true then _ else _) Q E _;rw[if_pos (by rw[decide_eq_true c.1,decide_eq_true c.2];rfl)];show wpAny_pure h
def Jau(prog:Program)(w:World):PySem.KeyKind prog w Key where
 is:=keyIs
 hash:=keyH w
 inj:=λv a b ha hb=>by
  rcases JaR ha with⟨i,rfl,rfl⟩ | ⟨x,t,rfl,rfl⟩
  .rcases JaR hb with⟨j,rfl,e⟩ | ⟨y,u,rfl,e⟩
   .injection e with e1;rw[e1]
   .show nomatch e
  .rcases JaR hb with⟨j,rfl,e⟩ | ⟨y,u,rfl,e⟩
   .show nomatch e
   .injection e with e1 _;rw[e1]
 byValue:=λk v h=>by
  rcases JaR h with⟨i,rfl,rfl⟩ | ⟨x,t,rfl,rfl⟩ <;> rfl
 pyHash:=λhv h=>by
  rcases JaR hv with⟨i,rfl,rfl⟩ | ⟨x,t,rfl,rfl⟩
  .show JgU h
  .show wpAny_pyHash_str h
 eqBool:=λhu hv h=>by
  rcases JaR hu with⟨i,rfl,rfl⟩ | ⟨x,t,rfl,rfl⟩
  .rcases JaR hv with⟨j,rfl,rfl⟩ | ⟨y,u,rfl,rfl⟩
   .rw[Jmj]at h;show SeqAt.EqAt.bool_bool i j _ _ _ _ h
   .rw[Jmk]at h;show SeqAt.EqAt.bool_str i y u _ _ _ _ h
  .rcases JaR hv with⟨j,rfl,rfl⟩ | ⟨y,u,rfl,rfl⟩
   .rw[Jml]at h;show SeqAt.EqAt.str_bool x t j _ _ _ _ h
   .rw[Jmm]at h;show wpAny_eqBool_str h
 «strs»:=λk x t v h=>by
  rcases JaR h with⟨i,rfl,e⟩ | ⟨y,u,rfl,e⟩
  .show nomatch e
  .injection e with e1 _
   subst e1;cases v <;> rfl
theorem Jf5(prog:Program)(w:World)(i:Bool):(Jau prog w).is (.inl i) (.bool i)=true:=JhK i
theorem JgC(prog:Program)(w:World)(x:Str)(t:Tok):(Jau prog w).is (.inr x) (.str x t)=true:=Jix x t
inductive V where
 | non | bl (b:Bool) | int (i:Int) | str (x:Str) | byt (b:Array UInt8) | flt (b:UInt64) | ref (a:Addr) | ty (n:String)
 deriving DecidableEq
def RelV:V->Value->Prop
 | .non,u=>u=Value.none
 | .bl b,u=>u=Value.bool b
 | .int i,u=>∃ t,u=Value.int i t
 | .str x,u=>∃ t,u=Value.str x t
 | .byt b,u=>∃ t,u=Value.bytes b t
 | .flt b,u=>∃ t,u=Value.float b t
 | .ref a,u=>u=Value.ref a
 | .ty n,u=>u=Value.type n
abbrev Vals:List V->List Value->Prop:=Paired RelV
variable{xs:List V}{us:List Value}
theorem Vals.length(r:Vals xs us):xs.length=us.length:=Paired.length r
theorem Vals.get{i:Nat}{x:V}(h:Vals xs us):xs[i]?=some x->∃ u,us[i]?=some u/\RelV x u:=by
 induction h generalizing i with
 | nil=>showλe=>by cases e
 | cons r _ ih=>
  cases i with
  | zero=>showλe=>by cases e;show(_,rfl,r)
  | succ i=>showλe=>ih e
variable{ys:List V}
theorem Vals.append{ws:List Value}(h:Vals xs us)(s:Vals ys ws):Vals (xs++ys) (us++ws):=by
 induction h with
 | nil=>show s
 | cons r _ ih=>show .cons r ih
theorem Vals.take(n:Nat)(h:Vals xs us):Vals (xs.take n) (us.take n):=by
 induction h generalizing n with
 | nil=>cases n <;> show .nil
 | cons r _ ih=>
  cases n with
  | zero=>show .nil
  | succ n=>show .cons r (ih n)
theorem Vals.drop:∀{xs:List V}{us:List Value}(n:Nat),Vals xs us->Vals (xs.drop n) (us.drop n)
 | _,_,0,r=>r
 | _,_,_+1, .nil=>.nil
 | _,_,n+1, .cons _ t=>Vals.drop n t
def RelO:Option V->Option Value->Prop
 | some v,some u=>RelV v u
 | none,none=>True
 | _,_=>False
def KV{κ:Type}:List (κ × V)->List (κ × Value)->Prop:=Paired λ(p : κ × V)(q : κ × Value)=>p.1=q.1/\RelV p.2 q.2
def kV:Key->V
 | .inl i=>.bl i
 | .inr x=>.str x
inductive HO where
 | lst (xs:List V)
 | tup (xs:List V)
 | dK (kvs:List (Key × V)) | dT (kvs:List (List Key × V))
 | set (S:Int->Bool) (n:Nat)
 | ins (C dx:Addr) (fs:List (Str × V))
 | own (x:Addr)
 | xd (fs:List (Str × V))
 | met (f x:Addr)
 | rng (lo hi:Int)
 | frz (o:Obj) (u:HO)
 | tbl (ps:Array Value)
 | ext (φ : Heap->Prop)
abbrev Hp:=Addr->Option HO
def upd(H:Hp)(a:Addr)(o:HO):Hp:=λb=>if b=a then some o else H b
variable{H:Hp}{a:Addr}{o:HO}
theorem Jaj:upd H a o a=some o:=by unfold upd;rw[if_pos rfl]
variable{b:Addr}
theorem Jag(h:b≠a):upd H a o b=H b:=by unfold upd;rw[if_neg h]
variable{u:HO}
theorem ne_of(h:H a=some o)(h':H b=some u)(d:o≠u):a≠b:=by
 intro e;subst e;rw[h]at h';show d (Option.some.inj h')
theorem Jai(h:H a=some o)(h':H b=none):a≠b:=by
 intro e;subst e;rw[h]at h';cases h'
section
variable(P:Program)(w:World)
def ObjOk(H:Hp)(h:Heap)(a:Addr):HO->Prop
 | .lst xs=>xs.length<=sizeLine/\∃(its:List Value)(n:Nat),Vals xs its/\h.get? a=some { cls:=.type "list",data:=.seq its.toArray n }
 | .tup xs=>xs.length<=sizeLine/\∃ its:List Value,Vals xs its/\IsTup h a its.toArray
 | .dK kvs=>kvs.length<=sizeLine/\(a == sysModules)=false/\∃ vs,KV kvs vs/\h.DictOf (Jau P w) a vs
 | .dT kvs=>kvs.length<=sizeLine/\(a == sysModules)=false/\∃ xs:List (List Key × Addr × Value),
   Paired (λ(p:List Key × V)(q:List Key × Addr × Value)=>p.1=q.1/\H q.2.1=some (.tup (p.1.map kV))/\RelV p.2 q.2.2) kvs xs /\
   ∃ o es ep,h.get? a=some o/\o.ExactDict/\o.data=.dict es ep/\es.toList=xs.map (entryOfKey (tupleKind (Jau P w)))/\(xs.map (·.1)).Nodup
 | .set S n=>h.SetOf (intKind P w) a S n
 | .ins C dx fs=>H dx=some (.own a)/\fs.length<=1000/\dx≠a/\h.get? a=some (W.instObj C dx) /\
   ∃ mA,h.Ns1 dx mA/\(∀ f,RelO (fs.lookup f) (mA f))/\PySem.Within mA (fs.map (·.1))
 | .own _=>∃ o,h.get? a=some o
 | .xd fs=>∃ mA,h.Ns1 a mA/\∀ f,RelO (fs.lookup f) (mA f)
 | .rng lo hi=>∃ t u v,h.get? a=some { cls:=.type "range",data:=.fields #[.int lo t, .int hi u, .int 1 v] }
 | .frz o u=>h.get? a=some o/\ObjOk H h a u
 | .tbl ps=>h.get? a=some { cls:=.none,data:=.fields ps }
 | .met f x=>h.get? a=some (W.methodObj (.ref f) (.ref x))
 | .ext φ=>φ h/\(∃ o,h.get? a=some o)/\∀ h1 h2:Heap,φ h1->(∀ o,h1.get? a=some o->h2.get? a=some o)->φ h2
def HOk(H:Hp)(h:Heap):Prop:=∀ a o,H a=some o->ObjOk P w H h a o
end
section
variable{P:Program}{H':Hp}{h h':Heap}{w:World}
theorem ObjOk.lt(x:ObjOk P w H h a o):a<h.objs.size:=by
 cases o with
 | lst xs=>let(_,_,_,_,e):=x;show Heap.lt_size e
 | tup xs=>let(_,_,_,p):=x;show p.lt
 | dK kvs=>let(_,_,_,_,o,_,_,e,_):=x;show Heap.lt_size e
 | dT kvs=>let(_,_,_,_,o,_,_,e,_):=x;show Heap.lt_size e
 | set S n=>let(o,_,_,_,e,_):=x;show Heap.lt_size e
 | ins C dx fs=>let(_,_,_,e,_):=x;show Heap.lt_size e
 | own y=>let(_,e):=x;show Heap.lt_size e
 | xd fs=>let(_,(_,_,_,e,_),_):=x;show Heap.lt_size e
 | rng lo hi=>let(_,_,_,e):=x;show Heap.lt_size e
 | frz ob u=>let(e,_):=x;show Heap.lt_size e
 | tbl ps=>show Heap.lt_size (show h.get? a=some _ from x)
 | met f y=>show Heap.lt_size (show h.get? a=some _ from x)
 | ext φ=>let(_,(_,e),_):=x;show Heap.lt_size e
variable{α:Type}
theorem Paired.mapP{β:Type}{F G : α->β->Prop}{l₁ : List α}{l₂ : List β}(h:Paired F l₁ l₂)(f:∀ a b,F a b->G a b):Paired G l₁ l₂:=by
 induction h with
 | nil=>show .nil
 | cons r _ ih=>show .cons (f _ _ r) ih
theorem ObjOk.stay(x:ObjOk P w H h a o)(k:∀ b u,(b=a\/H b=some (.own a))->h.get? b=some u->h'.get? b=some u)
  (ho:∀ b,H b=some (.own a)->H' b=some (.own a)) (ht:∀ b xs,H b=some (.tup xs)->H' b=some (.tup xs)):ObjOk P w H' h' a o:=by
 induction o with
 | lst xs=>let(z,l,n,r,e):=x;show(z,l,n,r,k _ _ (.inl rfl) e)
 | tup xs=>let(z,l,r,g,e,c):=x;show(z,l,r,g,k _ _ (.inl rfl) e,c)
 | dK kvs=>let(z,y,D,r,g,j,i,e,c):=x;show(z,y,D,r,g,j,i,k _ _ (.inl rfl) e,c)
 | dT kvs=>
  let(z,y,xs,r,g,j,i,e,c):=x;show(z,y,xs,Paired.mapP r λp q z=>⟨z.1,ht _ _ z.2.1,z.2.2⟩,g,j,i,k _ _ (.inl rfl) e,c)
 | set S n=>let(g,j,i,t,e,c):=x;show(g,j,i,t,k _ _ (.inl rfl) e,c)
 | ins C dx fs=>
  let(d,z,B,e,m,(s,j,i,E,c),r):=x;show(ho _ d,z,B,k _ _ (.inl rfl) e,m,⟨s,j,i,k _ _ (.inr d) E,c⟩,r)
 | own y=>let(g,e):=x;show(g,k _ _ (.inl rfl) e)
 | xd fs=>let(m,(s,j,i,e,c),r):=x;show(m,⟨s,j,i,k _ _ (.inl rfl) e,c⟩,r)
 | rng lo hi=>let(t,u,v,e):=x;show(t,u,v,k _ _ (.inl rfl) e)
 | frz g u ih=>let(e,q):=x;show(k _ _ (.inl rfl) e,ih q)
 | tbl ps=>
  have e:h.get? a=some { cls:=.none,data:=.fields ps }:=x;show h'.get? a=some { cls:=.none,data:=.fields ps };show k a _ (.inl rfl) e
 | met f y=>
  have e:h.get? a=some (W.methodObj (.ref f) (.ref y)):=x;show h'.get? a=some (W.methodObj (.ref f) (.ref y));show k a _ (.inl rfl) e
 | ext φ=>let(p,(o,e),A):=x;show(A _ _ p λo q=>k _ _ (.inl rfl) q,⟨o,k _ _ (.inl rfl) e⟩,A)
theorem HOk.lt(x:HOk P w H h)(e:H a=some o):a<h.objs.size:=(x a o e).lt
theorem HOk.fresh(x:HOk P w H h)(e:h.objs.size<=a):H a=none:=by
 cases q:H a with
 | none=>rfl
 | some u=>show absurd (Nat.lt_of_lt_of_le (x.lt q) e) (Nat.lt_irrefl _)
theorem HOk.kept(x:HOk P w H h)(k:∀ b u,h.get? b=some u->h'.get? b=some u):HOk P w H h':=λa o e=>
 (x a o e).stay (λb u _ q=>k b u q) (λ_ q=>q) λ_ _ q=>q
theorem HOk.laid(x:HOk P w H h)(k:∀ b u,h.get? b=some u->h'.get? b=some u)(hp:h.objs.size<=a)(new:ObjOk P w (upd H a o) h' a o):HOk P w (upd H a o) h':=λb u e=>by
 have f:=x.fresh hp;by_cases d:b=a
 .subst d;rw[Jaj]at e;cases e;show new
 .rw[Jag d]at e;show(x b u e).stay (λc v _ q=>k c v q) (λc q=>by rw[Jag (Jai q f)];show q) λc g q=>by rw[Jag (Jai q f)];show q
end
def Rd(H:Hp)(a:Addr)(u:HO):Prop:=H a=some u\/∃ o,H a=some (.frz o u)
variable{P:Program}{h:Heap}
theorem Rd.ok{w:World}(r:Rd H a u)(x:HOk P w H h):ObjOk P w H h a u:=by
 rcases r with r | ⟨o,r⟩
 .show x a u r
 .let(_,q):=x a _ r;show q
def Mut:Option HO->Prop
 | some (.lst _)=>True
 | some (.dK _)=>True
 | some (.dT _)=>True
 | some (.set _ _)=>True
 | some (.ins _ _ _)=>True
 | some (.ext _)=>True
 | _=>False
section
variable{h':Heap}{x e:Addr}{o':HO}{w:World}
theorem HOk.write(ok:HOk P w H h)(mu:Mut (H x))(he:e=x\/H e=some (.own x))(k:∀ b u,b≠e->h.get? b=some u->h'.get? b=some u)(heo:∃ u,h'.get? e=some u)
  (new:ObjOk P w (upd H x o') h' x o'):HOk P w (upd H x o') h':=λb u q=>by
 have d:∀ c y,H c=some (.own y)->c≠x:=λc y r z=>by subst z;rw[r]at mu;show mu
 have f:∀ c g,H c=some (.tup g)->c≠x:=λc g r z=>by subst z;rw[r]at mu;show mu
 by_cases j:b=x
 .subst j;rw[Jaj]at q;cases q;show new
 .rw[Jag j]at q;by_cases a:b=e
  .have l:H b=some (.own x):=by
    rcases he with z | z
    .show absurd (a.trans z) j
    .rw[a];show z
   rw[q]at l;cases l;let(v,m):=heo;show(v,by rw[a];show m)
  .show(ok b u q).stay (λc v i r=>k c v ?_ r) (λc r=>by rw[Jag (d c b r)];show r) λc g r=>by rw[Jag (f c g r)];show r
   rcases i with rfl | i
   .show a
   .rintro rfl;rcases he with z | z
    .show d c b i z
    .rw[i]at z;cases z;show j rfl
end
structure Un(fs ex:List Addr)(H H':Hp)(h h':Heap):Prop where
 keep:∀ b o,h.get? b=some o->H b=none->b∉fs->b∉ex->h'.get? b=some o
 slot:∀ b o,h.get? b=some o->H b=none->b∈fs->b∉ex->∃ sl,h'.get? b=some { o with slots:=sl }
 free:∀ b o,h.get? b=some o->H b=none->b∉ex->H' b=none
 there:∀ b o,h.get? b=some o->b∉ex->∃ o',h'.get? b=some o'
 tups:∀ b xs,H b=some (.tup xs)->H' b=some (.tup xs)
 frzs:∀ b o u,H b=some (.frz o u)->H' b=some (.frz o u)
 tbls:∀ b ps,H b=some (.tbl ps)->∃ more,H' b=some (.tbl (ps++more))
section
variable{fs' ex ex':List Addr}{H1 H2:Hp}{h1 h2 h':Heap}{x e:Addr}{fs:List Addr}
theorem Un.any(u:Un fs ex H H1 h h1){b:Addr}{ob:Obj}(q:h.get? b=some ob)(n:H b=none)(hx:b∉ex):∃ sl,h1.get? b=some { ob with slots:=sl }:=by
 by_cases a:b∈fs
 .show u.slot b ob q n a hx
 .show(ob.slots,u.keep b ob q n a hx)
theorem Un.kept(k:∀ b u,h.get? b=some u->h'.get? b=some u):Un fs ex H H h h' :=
 ⟨λb a q _ _ _=>k b a q,λb a q _ _ _=>⟨a.slots,k b a q⟩,λ_ _ _ n _=>n,λb a q _=>⟨a,k b a q⟩,λ_ _ q=>q,λ_ _ _ q=>q,λ_ c q=>⟨#[],by rw[q];simp⟩⟩
theorem Un.refl:Un fs ex H H h h:=Un.kept λ_ _ q=>q
theorem Un.laid(k:∀ b u,h.get? b=some u->h'.get? b=some u)(hp:h.objs.size<=a)(hn:H a=none):Un fs ex H (upd H a o) h h' where
 keep:=λb u q _ _ _=>k b u q
 slot:=λb u q _ _ _=>⟨u.slots,k b u q⟩
 free:=λb u q n _=>by rw[Jag (Nat.ne_of_lt (Nat.lt_of_lt_of_le (Heap.lt_size q) hp))];show n
 there:=λb u q _=>⟨u,k b u q⟩
 tups:=λb c q=>by rw[Jag (Jai q hn)];show q
 frzs:=λb u c q=>by rw[Jag (Jai q hn)];show q
 tbls:=λb d q=>⟨#[],by rw[Jag (Jai q hn),q];simp⟩
theorem Un.write(mu:Mut (H x))(he:e=x\/H e=some (.own x))(k:∀ b u,b≠e->h.get? b=some u->h'.get? b=some u)(heo:∃ u,h'.get? e=some u):Un fs ex H (upd H x o) h h':=by
 have d:∀ b,H b=none->b≠x:=λb n z=>by subst z;rw[n]at mu;show mu
 have f:∀ b,H b=none->b≠e:=λb n z=>by
  subst z;rcases he with r | r
  .show d b n r
  .rw[n]at r;cases r
 have c:∀ b u,H b=some u->¬ Mut (some u)->b≠x:=λb u q i z=>by subst z;rw[q]at mu;show i mu
 show(λb u q n _ _=>k b u (f b n) q,λb u q n _ _=>⟨u.slots,k b u (f b n) q⟩,λb u q n _=>by rw[Jag (d b n)];show n,λb u q _=>?_,
  λb g q=>by rw[Jag (c b _ q λz=>z)];show q,λb u g q=>by rw[Jag (c b _ q λz=>z)];show q,λb j q=>⟨#[],by rw[Jag (c b _ q λz=>z),q];simp⟩)
 by_cases a:b=e
 .subst a;show heo
 .show(u,k b u a q)
end
def trk(h:Heap)(H:Hp):List Addr:=(List.range h.objs.size).filter λa=>(H a).isSome
def hidT(h:Heap)(H:Hp):Heap:=W.hideAll h (trk h H)
theorem Jiu(h:Heap)(H:Hp):(hidT h H).objs.size=h.objs.size:=W.hideAll_size _ _
variable{o:Obj}
theorem JjE(e:h.get? b=some o)(n:H b=none):(hidT h H).get? b=some o :=
 W.hideAll_get _ e λa=>by
  have q:(H b).isSome=true:=(mem_filter.mp a).2;rw[n]at q;simp at q
theorem Jlj(e:(hidT h H).get? b=some o):h.get? b=some o/\H b=none:=by
 have a:h.get? b=some o:=W.of_hideAll (trk h H) e;show(a,?_);cases q:H b with
 | none=>rfl
 | some x=>
  have c:b∈trk h H:=mem_filter.mpr ⟨List.mem_range.mpr (Heap.lt_size a),by simp[q]⟩;have z:(hidT h H).get? b=none:=W.hideAll_none (trk h H) c;rw[z]at e;cases e
def JkP(g h:Heap)(L:Addr):List (Addr × Obj):=(List.range h.objs.size).filterMap λa=>if a=L\/(g.get? a).isSome=true then none else(h.get? a).map λo=>(a,o)
def rest(g h:Heap)(L d:Addr):List (Addr × Obj):=(JkP g h L).filter λp=>decide (p.1≠d)
structure Mod(K:W.Frag)(mg:Str->Option Value)(base:Heap):Prop where
 kin:K.In base
 glob:base.Ns mainGlobals mg
 blt:∃ mb,base.Ns builtinsNs mb/\∀ x:Str,x≠"__name__"->mb x=bootBuiltins x
 nolimit:base.NoLimit
set_option genInjectivity false in
structure Cx where
 prog:Program
 w:World
 K:W.Frag
 mg:Str->Option Value
 base:Heap
 A:Around
 N:List Str
 s₀ : Shared
 H₀ : Hp
 env:Env
 outer:List Env
 stack:List Env
 ex:List Addr
 fn:Str->Bool
 calm:Bool
 pn:List (Addr × Obj)
 xe:Value->Shared->Prop
def frs(l:List Env):List Addr:=l.filterMap (·.frame)
abbrev Cx.fs(X:Cx):List Addr:=frs X.outer
def Vis(sc:Scope)(x:Str):Prop:=sc.names.lookup x=some .local\/sc.names.lookup x=some .cell\/sc.names.lookup x=some .free
def Loc(sc:Scope)(x:Str):Prop:=sc.names.lookup x=some .local\/sc.names.lookup x=some .cell
def Look(env:Env)(h:Heap)(m:Str->Option Value)(x:Str)(u:Value):Prop :=
 (env.kindOf x=some .local/\m x=some u)\/((env.kindOf x=some .cell\/env.kindOf x=some .free)/\∃ c,env.cells.lookup x=some c/\h.IsCell c (some u))
structure Cx.Ok(X:Cx):Prop where
 mod:Mod X.K X.mg X.base
 kind:X.env.scope.kind=.function
 glob:X.env.globals=mainGlobals
 blt:X.env.builtins=builtinsNs
 above:X.s₀.heap.objs.size<=X.env.locals
 inj:∀ x y c,X.env.cells.lookup x=some c->X.env.cells.lookup y=some c->x=y
 has:∀ x,(X.env.kindOf x=some .cell\/X.env.kindOf x=some .free)->∃ c,X.env.cells.lookup x=some c
 cab:∀ x c,X.fn x=true->X.env.cells.lookup x=some c->X.s₀.heap.objs.size<=c
 hd:X.calm=true->X.A.handled=none
 frames:X.A.frames=some X.stack
 stk:X.stack=X.outer\/(X.stack=X.env::X.outer/\X.env.frame=some X.env.locals)
 exf:∀ b∈X.ex,b≠X.env.locals/\∀ x c,X.env.cells.lookup x=some c->c≠b
 bs:∀ b o,X.base.get? b=some o->X.s₀.heap.get? b=some o/\X.H₀ b=none
 bsz:X.base.objs.size<=X.s₀.heap.objs.size
 noex:∀ b o,X.base.get? b=some o->b∉X.ex
 exfs:∀ b∈X.ex,b∉X.fs
 funs:X.s₀.heap.FunFrames X.base X.outer
 frf:∀ b∈X.fs,X.H₀ b=none
structure Inv(X:Cx)(pins:List (Addr × Obj))(σ : List (Option V))(H:Hp)(s:Shared):Prop where
 ok:X.Ok
 os:s.os=X.s₀.os
 bare:AllBare s.gens
 base:Un X.fs X.ex X.H₀ H X.s₀.heap s.heap
 loc:∃ m,s.heap.Ns X.env.locals m/\∀(i:Nat)(x:Str)(v:V),X.N[i]?=some x->σ[i]?=some (some v)->Vis X.env.scope x->∃ u,RelV v u/\Look X.env s.heap m x u
 cell:∀ x c,X.env.cells.lookup x=some c->∃ v,s.heap.IsCell c v
 free:H X.env.locals=none
 freeC:∀ x c,X.env.cells.lookup x=some c->H c=none
 pin:∀ p∈X.pn++pins,s.heap.get? p.1=some p.2/\H p.1=none/\p.1≠X.env.locals/\p.1∉X.fs/\∀ v,p.2.data≠.cell v
 hok:HOk X.prog X.w H s.heap
 len : σ.length=X.N.length
section
variable{X:Cx}{pins:List (Addr × Obj)}{σ:List (Option V)}{H':Hp}{h':Heap}{s:Shared}
theorem Cx.Ok.nofr(ok:X.Ok){b:Addr}{o:Obj}(e:X.base.get? b=some o):b∉X.fs:=λa=>by
 have:=(ok.funs.mem a).1;rw[e]at this;cases this
theorem Inv.bs(I:Inv X pins σ H s):∀ b o,X.base.get? b=some o->s.heap.get? b=some o/\H b=none:=λb o e=>
 ⟨I.base.keep b o (I.ok.bs b o e).1 (I.ok.bs b o e).2 (I.ok.nofr e) (I.ok.noex b o e),I.base.free b o (I.ok.bs b o e).1 (I.ok.bs b o e).2 (I.ok.noex b o e)⟩
theorem Inv.bk(I:Inv X pins σ H s):∀ b o,X.base.get? b=some o->s.heap.get? b=some o:=λb o e=>(I.bs b o e).1
theorem Inv.mod(I:Inv X pins σ H s):Mod X.K X.mg X.base:=I.ok.mod
theorem Inv.kIn(I:Inv X pins σ H s):X.K.In s.heap:=I.ok.mod.kin.keeps I.bk
theorem Inv.lt(I:Inv X pins σ H s):X.env.locals<s.heap.objs.size:=let⟨_,hn,_⟩:=I.loc;hn.lt
theorem Inv.sz(I:Inv X pins σ H s):X.s₀.heap.objs.size<=s.heap.objs.size:=Nat.le_trans I.ok.above (Nat.le_of_lt I.lt)
theorem Inv.nofs(I:Inv X pins σ H s){a:Addr}(h:s.heap.objs.size<=a):a∉X.fs:=λb=>by
 let(_,o,c,_):=I.ok.funs.mem b;show absurd (Nat.lt_of_lt_of_le (Heap.lt_size c) (Nat.le_trans I.sz h)) (Nat.lt_irrefl _)
theorem Inv.cne(I:Inv X pins σ H s):∀ x c,X.env.cells.lookup x=some c->c≠X.env.locals:=λx c e z=>by
 let(v,o,d,f):=I.cell x c e;let(m,(h,g,i,b,a,_),_):=I.loc;rw[z,b]at d;cases d;rw[a]at f;cases f
theorem Inv.funs(I:Inv X pins σ H s):s.heap.FunFrames X.base X.outer:=by
 have all:∀(l:List Env),(∀ b∈frs l,b∈X.fs)->X.s₀.heap.FunFrames X.base l->s.heap.FunFrames X.base l:=by
  intro l;induction l with
  | nil=>intro _ _;trivial
  | cons env r ih=>
   intro f j;let(h,(L,o,c,k,i,m),g):=j;have a:L∈X.fs:=f L (by unfold frs;rw[List.filterMap_cons,c];show mem_cons_self);let(n,e):=I.base.slot L o i (I.ok.frf L a) a λz=>I.ok.exfs L z a;show(h,⟨L,_,c,k,e,m⟩,ih (λb d=>f b (by unfold frs;rw[List.filterMap_cons,c];show mem_cons_of_mem _ d)) g)
 show all X.outer (λ_ d=>d) I.ok.funs
theorem Inv.stack(I:Inv X pins σ H s):s.heap.FunFrames X.base X.stack:=by
 rcases I.ok.stk with e | ⟨e,hf⟩
 .rw[e];show I.funs
 .rw[e];let(m,a,_):=I.loc;show .cons (by rw[I.ok.kind];decide) hf a ?_ I.funs;show Heap.get?_none_of_le (Nat.le_trans I.ok.bsz I.ok.above)
theorem Inv.stkSub(I:Inv X pins σ H s):∀ b∈frs X.stack,b∈X.env.locals::X.fs:=λb a=>by
 rcases I.ok.stk with e | ⟨e,hf⟩
 .rw[e]at a;show mem_cons_of_mem _ a
 .rw[e]at a;unfold frs at a;rw[List.filterMap_cons,hf]at a;show a
theorem Inv.stkFree(I:Inv X pins σ H s):∀ b∈frs X.stack,H b=none:=λb a=>by
 rcases mem_cons.mp (I.stkSub b a)with e | a
 .rw[e];show I.free
 .let(_,o,c,_):=I.ok.funs.mem a;show I.base.free b o c (I.ok.frf b a) λz=>I.ok.exfs b z a
variable{g':Array GenState}{t':Nat}{d':Drawn}{ch:List Addr}
theorem Inv.step(I:Inv X pins σ H s)
  (hch:∀ b∈ch,(b∈X.ex\/X.s₀.heap.objs.size<=b)/\b≠X.env.locals/\(∀ x c,X.env.cells.lookup x=some c->c≠b)/\∀ p∈X.pn++pins,p.1≠b)
  (keep:∀ b o,b≠X.env.locals->b∉X.fs->b∉ch->s.heap.get? b=some o->H b=none->h'.get? b=some o)
  (slot:∀ b o,b≠X.env.locals->b∈X.fs->b∉ch->s.heap.get? b=some o->H b=none->∃ sl,h'.get? b=some { o with slots:=sl }) (free:∀ b o,b∉ch->s.heap.get? b=some o->H b=none->H' b=none)
  (there:∀ b o,b∉ch->s.heap.get? b=some o->∃ o',h'.get? b=some o')
  (tups:∀ b xs,H b=some (.tup xs)->H' b=some (.tup xs)) (frzs:∀ b o u,H b=some (.frz o u)->H' b=some (.frz o u)) (tbls:∀ b ps,H b=some (.tbl ps)->∃ more,H' b=some (.tbl (ps++more)))
  (ns:∀ m,s.heap.Ns X.env.locals m->h'.Ns X.env.locals m) (hok:HOk X.prog X.w H' h') (hg:AllBare g') :
  Inv X pins σ H' { s with heap:=h',gens:=g',drawn:=d',toks:=t' }:=by
 have B:∀ b o,X.s₀.heap.get? b=some o->b≠X.env.locals:=λb o e=>Nat.ne_of_lt (Nat.lt_of_lt_of_le (Heap.lt_size e) I.ok.above);have h:∀ b o,X.s₀.heap.get? b=some o->b∉X.ex->b∉ch:=λb o e a t=>by
  rcases(hch b t).1 with z | z
  .show a z
  .show absurd (Nat.lt_of_lt_of_le (Heap.lt_size e) z) (Nat.lt_irrefl _)
 have g:∀ x c,X.env.cells.lookup x=some c->∀ v,s.heap.IsCell c v->h'.IsCell c v:=λx c e v ⟨o,y,D⟩=>by
  have f:c∉ch:=λz=>(hch c z).2.2.1 x c e rfl;by_cases E:c∈X.fs
  .let(sl,q):=slot c o (I.cne x c e) E f y (I.freeC x c e);show(_,q,D)
  .show(o,keep c o (I.cne x c e) E f y (I.freeC x c e),D)
 show(I.ok,I.os,hg,⟨λb o e n t a=>?_,λb o e n t a=>?_,λb o e n a=>?_,λb o e a=>?_,λb xs e=>tups b xs (I.base.tups b xs e),λb o xs e=>frzs b o xs (I.base.frzs b o xs e),λb ps e=>?_⟩,?_,λx c e=>?_,?_,λx c e=>?_,λp J=>?_,hok,I.len)
 .show keep b o (B b o e) t (h b o e a) (I.base.keep b o e n t a) (I.base.free b o e n a)
 .let(sl,j):=I.base.slot b o e n t a;let(C,A):=slot b _ (B b o e) t (h b o e a) j (I.base.free b o e n a);show(C,A)
 .let(o',j):=I.base.there b o e a;show free b o' (h b o e a) j (I.base.free b o e n a)
 .let(o',j):=I.base.there b o e a;show there b o' (h b o e a) j
 .let(K,j):=I.base.tbls b ps e;let(M,A):=tbls b _ j;show(K++M,by rw[A,Array.append_assoc])
 .let(m,O,N):=I.loc;show(m,ns m O,λi x v j A L=>?_);let(u,r,l):=N i x v j A L;show(u,r,?_);rcases l with l | ⟨k,c,e,z⟩
  .show .inl l
  .show .inr ⟨k,c,e,g x c e _ z⟩
 .let(v,z):=I.cell x c e;show(v,g x c e v z)
 .let(m,(o,_,_,y,_),_):=I.loc;show free _ o (λz=>(hch _ z).2.1 rfl) y I.free
 .let(v,o,y,D):=I.cell x c e;show free c o (λz=>(hch c z).2.2.1 x c e rfl) y (I.freeC x c e)
 .let(e,n,F,G,d):=I.pin p J;have f:p.1∉ch:=λz=>(hch p.1 z).2.2.2 p J rfl;show(keep p.1 p.2 F G f e n,free p.1 p.2 f e n,F,G,d)
theorem Inv.un(I:Inv X pins σ H s)(u:Un X.fs [] H H' s.heap h')(hok:HOk X.prog X.w H' h'):Inv X pins σ H' { s with heap:=h',toks:=t' }:=by
 let(m,(o,q,l,g,r),_):=id I.loc;let(k,h):=u.any g I.free (by simp);show I.step (g':=s.gens) (d':=s.drawn) (ch:=[]) (λ_ z=>nomatch z) (λb o _ d _ e n=>u.keep b o e n d (by simp)) (λb o _ d _ e n=>u.slot b o e n d (by simp)) (λb o _ e n=>u.free b o e n (by simp)) (λb o _ e=>u.there b o e (by simp)) u.tups u.frzs u.tbls (λp j=>by
  let(t,c,f,a,i):=j;rw[g]at a;cases a;show(_,c,f,h,i)) hok I.bare
theorem Inv.call(I:Inv X pins σ H s)(u:Un (frs X.stack) ch H H' s.heap h')(hok:HOk X.prog X.w H' h')(hg:AllBare g')
  (hch:∀ b∈ch,(b∈X.ex\/X.s₀.heap.objs.size<=b)/\b≠X.env.locals/\(∀ x c,X.env.cells.lookup x=some c->c≠b)/\∀ p∈X.pn++pins,p.1≠b) :
  Inv X pins σ H' { s with heap:=h',gens:=g',drawn:=d',toks:=t' }:=by
 let(m,(o,y,t,i,r),_):=id I.loc;let(q,f):=u.any i I.free λz=>(hch _ z).2.1 rfl;show I.step (ch:=ch) hch (λb o f k a e n=>u.keep b o e n (λz=>(mem_cons.mp (I.stkSub b z)).elim f k) a) (λb o _ _ a e n=>u.any e n a) (λb o a e n=>u.free b o e n a) (λb o a e=>u.there b o e a) u.tups u.frzs u.tbls (λv l=>by
  let(A,g,h,d,j):=l;rw[i]at d;cases d;show(_,g,h,f,j)) hok hg
variable{it:Addr}
theorem Inv.turned(I:Inv X pins σ H s)(k:∀ b o,b≠it->s.heap.get? b=some o->h'.get? b=some o)(hn:H it=none)(hL:it≠X.env.locals)
  (h1:it∈X.ex\/X.s₀.heap.objs.size<=it) (h2:∀ x c,X.env.cells.lookup x=some c->c≠it) (h3:∀ p∈X.pn++pins,p.1≠it):Inv X pins σ H { s with heap:=h',toks:=t' }:=by
 have d:∀ b u,H b=some u->b≠it:=λb u e z=>by rw[z,hn]at e;cases e
 show I.step (g':=s.gens) (d':=s.drawn) (ch:=[it]) (λb h=>?_) (λb o _ _ a e _=>k b o (λz=>a (by simp[z])) e) (λb o _ _ a e _=>⟨o.slots,k b o (λz=>a (by simp[z])) e⟩) (λ_ _ _ _ n=>n)
  (λb o a e=>⟨o,k b o (λz=>a (by simp[z])) e⟩) (λ_ _ e=>e) (λ_ _ _ e=>e) (λb l e=>⟨#[],by rw[e];simp⟩) (λm i=>?_) (λb u e=>?_) I.bare
 .have e:b=it:=by simpa using h
  subst e;show(h1,hL,h2,h3)
 .let(o,g,f,j,r):=i;show(o,g,f,k _ o (Ne.symm hL) j,r)
 .show(I.hok b u e).stay (λc v a q=>k c v ?_ q) (λ_ q=>q) λ_ _ q=>q;rcases a with z | z
  .rw[z];show d b u e
  .show d c _ z
theorem Inv.tok(I:Inv X pins σ H s)(t:Nat):Inv X pins σ H { s with toks:=t }:=I.un (h':=s.heap) (t':=t) Un.refl I.hok
theorem Inv.kept(I:Inv X pins σ H s)(k:∀ b u,s.heap.get? b=some u->h'.get? b=some u):Inv X pins σ H { s with heap:=h',toks:=t' }:=I.un (Un.kept k) (I.hok.kept k)
variable{o:HO}
theorem Inv.laid(I:Inv X pins σ H s)(k:∀ b u,s.heap.get? b=some u->h'.get? b=some u)(hp:s.heap.objs.size<=a)(new:ObjOk X.prog X.w (upd H a o) h' a o) :
  Inv X pins σ (upd H a o) { s with heap:=h',toks:=t' }:=I.un (Un.laid k hp (I.hok.fresh hp)) (I.hok.laid k hp new)
theorem Inv.write{x e:Addr}(I:Inv X pins σ H s)(mu:Mut (H x))(he:e=x\/H e=some (.own x))(k:∀ b u,b≠e->s.heap.get? b=some u->h'.get? b=some u)(heo:∃ u,h'.get? e=some u)
  (new:ObjOk X.prog X.w (upd H x o) h' x o):Inv X pins σ (upd H x o) { s with heap:=h',toks:=t' }:=I.un (Un.write mu he k heo) (I.hok.write mu he k heo new)
theorem Inv.pins_of{pins':List (Addr × Obj)}(I:Inv X pins σ H s)(h:∀ p∈pins',s.heap.get? p.1=some p.2/\H p.1=none/\p.1≠X.env.locals/\p.1∉X.fs/\∀ v,p.2.data≠.cell v):Inv X pins' σ H s :=
 ⟨I.ok,I.os,I.bare,I.base,I.loc,I.cell,I.free,I.freeC,λp a=>(mem_append.mp a).elim (λz=>I.pin p (List.mem_append_left _ z)) (h p),I.hok,I.len⟩
variable{N:List Str}
theorem Jfi(hN:N.Nodup){i j:Nat}{x:Str}(a:N[i]?=some x)(b:N[j]?=some x):i=j:=by
 let(e,c):=List.getElem?_eq_some_iff.mp a;let(f,d):=List.getElem?_eq_some_iff.mp b;show(List.getElem_inj hN).mp (c.trans d.symm)
variable{M:Model}{x:Str}{v:V}{u:Value}{Q:Unit->Shared->Prop}
theorem JeF{i:Nat}(I:Inv X pins σ H s)(hN:X.N.Nodup)(hi:X.N[i]?=some x)(hx:Loc X.env.scope x)(r:RelV v u)
  (h:∀ s',Inv X pins (σ.set i (some v)) H s'->(∃ a,Heap.SameBut a s.heap s'.heap/\(a=X.env.locals\/X.env.cells.lookup x=some a))->Q () s') (hf:autoParam (X.fn x=true\/X.env.scope.names.lookup x=some .local) Ax):wpAny M A (storeName X.env x u) Q E s:=by
 let(m,hn,hl):=id I.loc;have R:(X.env.scope.kind == .class||(X.env.scope.kind == .module&&X.env.locals != X.env.globals))=false:=by rw[I.ok.kind];rfl
 have hiσ : i<σ.length:=by rw[I.len];show(List.getElem?_eq_some_iff.mp hi).1
 have G:=I.cne;have g:∀{a:Addr}{K:Heap},(∃ o,s.heap.get? a=some o/\H a=none)->Heap.SameBut a s.heap K->HOk X.prog X.w H K:=λ{a K} ha f b ob e=>by
  let(_,_,B):=ha;show(I.hok b ob e).stay (λc U t q=>(f.2 c ?_).trans q) (λ_ q=>q) λ_ _ q=>q;rintro rfl;rcases t with rfl | t
  .rw[B]at e;cases e
  .rw[B]at t;cases t
 rcases hx with hk | hk
 .show wpAny_storeName_local hk hn (λK a1 f=>?_) R;let(oL,_,_,a0,_):=id hn;show h _ ⟨I.ok,I.os,I.bare,⟨λb o e n D hx=>?_,λb o e n D hx=>?_,I.base.free,λb o e hx=>?_,I.base.tups,I.base.frzs,I.base.tbls⟩,⟨_,a1,λj y v' l C e3=>?_⟩,λy c e=>?_,I.free,I.freeC,λp hp=>?_,g ⟨oL,a0,I.free⟩ f,by simpa using I.len⟩ ⟨_,f, .inl rfl⟩
  .show(f.2 b (Nat.ne_of_lt (Nat.lt_of_lt_of_le (Heap.lt_size e) I.ok.above))).trans (I.base.keep b o e n D hx)
  .let(Y,l):=I.base.slot b o e n D hx;show(Y,(f.2 b (Nat.ne_of_lt (Nat.lt_of_lt_of_le (Heap.lt_size e) I.ok.above))).trans l)
  .let(o',l):=I.base.there b o e hx;show(o',(f.2 b (Nat.ne_of_lt (Nat.lt_of_lt_of_le (Heap.lt_size e) I.ok.above))).trans l)
  .by_cases F:j=i
   .subst F;rw[hi]at l;cases l;rw[List.getElem?_set_self hiσ]at C;cases C;show(u,r, .inl ⟨hk,by simp⟩)
   .rw[List.getElem?_set_ne (Ne.symm F)]at C;let(Z,r',q):=hl j y v' l C e3;show(Z,r',?_);rcases q with⟨k,e⟩ | ⟨k,c,e,z⟩
    .show .inl ⟨k,?_⟩;have : y≠x:=λe=>F (Jfi hN l (e ▸ hi));simp[this,e]
    .show .inr ⟨k,c,e,z.sameBut f (G y c e)⟩
  .let(U,z):=I.cell y c e;show(U,z.sameBut f (G y c e))
  .let(e,n,T,nf,d):=I.pin p hp;show((f.2 p.1 T).trans e,n,T,nf,d)
 .have J:X.fn x=true:=by
   rcases hf with z | z
   .show z
   .rw[z]at hk;cases hk
  let(c,t):=I.ok.has x (.inl hk);let(U,z):=I.cell x c t;show wpAny_storeName_cell I.ok.kind hk t z (λK P f=>?_);let(oc,L,O):=id z;show h { s with heap:=K } ⟨I.ok,I.os,I.bare,⟨λb o e n D hx=>?_,λb o e n D hx=>?_,I.base.free,λb o e hx=>?_,I.base.tups,I.base.frzs,I.base.tbls⟩,⟨m,hn.sameBut f (Ne.symm (G x c t)),λj y v' l C e3=>?_⟩,λy W e=>?_,I.free,I.freeC,λp hp=>?_,g ⟨oc,L,I.freeC x c t⟩ f,by simpa using I.len⟩ ⟨c,f, .inr t⟩
  .show(f.2 b (Nat.ne_of_lt (Nat.lt_of_lt_of_le (Heap.lt_size e) (I.ok.cab x c J t)))).trans (I.base.keep b o e n D hx)
  .let(Y,l):=I.base.slot b o e n D hx;show(Y,(f.2 b (Nat.ne_of_lt (Nat.lt_of_lt_of_le (Heap.lt_size e) (I.ok.cab x c J t)))).trans l)
  .let(o',l):=I.base.there b o e hx;show(o',(f.2 b (Nat.ne_of_lt (Nat.lt_of_lt_of_le (Heap.lt_size e) (I.ok.cab x c J t)))).trans l)
  .by_cases F:j=i
   .subst F;rw[hi]at l;cases l;rw[List.getElem?_set_self hiσ]at C;cases C;show(u,r, .inr ⟨.inl hk,c,t,P⟩)
   .rw[List.getElem?_set_ne (Ne.symm F)]at C;let(Z,r',q):=hl j y v' l C e3;show(Z,r',?_);rcases q with q | ⟨k,W,e,z'⟩
    .show .inl q
    .show .inr ⟨k,W,e,z'.sameBut f ?_⟩;rintro rfl;show F (Jfi hN l (I.ok.inj _ _ _ e t ▸ hi))
  .by_cases S:W=c
   .subst S;show(_,P)
   .let(w2,z2):=I.cell y W e;show(w2,z2.sameBut f S)
  .let(e,n,T,nf,d):=I.pin p hp;show((f.2 p.1 ?_).trans e,n,T,nf,d);intro q;rw[q,L]at e;have q':oc=p.2:=Option.some.inj e;show d U (by rw[<- q'];show O)
theorem Jd0{i:Nat}(I:Inv X pins σ H s)(hN:X.N.Nodup)(hi:X.N[i]?=some x)(hx:Loc X.env.scope x)(r:RelV v u)
  (h:∀ s',Inv X pins (σ.set i (some v)) H s'->Q () s') (hf:autoParam (X.fn x=true\/X.env.scope.names.lookup x=some .local) Ax):wpAny M A (storeName X.env x u) Q E s :=
 JeF I hN hi hx r (λs' I' _=>h s' I') hf
variable{s':Shared}
theorem Inv.call'(I:Inv X pins σ H s)(ho:s'.os=s.os)(u:Un (frs X.stack) ch H H' s.heap s'.heap)(hok:HOk X.prog X.w H' s'.heap)(hg:AllBare s'.gens)
  (hch:∀ b∈ch,(b∈X.ex\/X.s₀.heap.objs.size<=b)/\b≠X.env.locals/\(∀ x c,X.env.cells.lookup x=some c->c≠b)/\∀ p∈X.pn++pins,p.1≠b):Inv X pins σ H' s':=by
 let(d,g',d',t',a):=s';have e:a=s.os:=ho;subst e;show I.call (g':=g') (t':=t') (d':=d') u hok hg hch
end
abbrev XK:=Value->Option Addr->Hp->Prop
abbrev St:=List (Option V)
abbrev VK:=V->Hp->Prop
abbrev TE:=St->Hp->VK->Prop
abbrev TT:=St->Hp->(Bool->Hp->Prop)->Prop
abbrev TA:=St->Hp->(List V->Hp->Prop)->Prop
structure Ends where
 nx:St->Hp->Prop
 rt:VK
 bk:St->Hp->Prop:=λ_ _=>False
 ct:St->Hp->Prop:=λ_ _=>False
abbrev TS:=Ends->St->Hp->Prop
def EP(X:Cx)(pins:List (Addr × Obj))(σ : St)(Q:VK)(u:Value)(s':Shared):Prop:=∃ v H',Inv X pins σ H' s'/\RelV v u/\Q v H'
def TP(X:Cx)(pins:List (Addr × Obj))(σ : St)(Q:Bool->Hp->Prop)(b:Bool)(s':Shared):Prop:=∃ H',Inv X pins σ H' s'/\Q b H'
def AP(X:Cx)(pins:List (Addr × Obj))(σ : St)(Q:List V->Hp->Prop)(us:List Value)(s':Shared):Prop:=∃ vs H',Inv X pins σ H' s'/\Vals vs us/\Q vs H'
def SP(X:Cx)(pins:List (Addr × Obj))(D:Ends)(f:Flow)(s':Shared):Prop :=
 match f with
 | .next=>∃ σ' H',Inv X pins σ' H' s'/\D.nx σ' H'
 | .brk=>∃ σ' H',Inv X pins σ' H' s'/\D.bk σ' H'
 | .cont=>∃ σ' H',Inv X pins σ' H' s'/\D.ct σ' H'
 | .ret u=>∃ v σ' H',Inv X pins σ' H' s'/\RelV v u/\D.rt v H'
def PE(X:Cx)(e:Expr)(t:TE):Prop :=
 ∀(pins:List (Addr × Obj))(s:Shared)(σ : St)(H:Hp)(Q:VK),Inv X pins σ H s->t σ H Q->wpAny (model X.prog X.w) X.A (eval e X.env) (EP X pins σ Q) X.xe s
def PT(X:Cx)(e:Expr)(t:TT):Prop :=
 ∀(pins:List (Addr × Obj))(s:Shared)(σ : St)(H:Hp)(Q:Bool->Hp->Prop),Inv X pins σ H s->t σ H Q->wpAny (model X.prog X.w) X.A (isTrue e X.env (eval e X.env)) (TP X pins σ Q) X.xe s
def PW(X:Cx)(e:Expr)(t:TT):Prop :=
 ∀(whole:Sem Value)(pins:List (Addr × Obj))(s:Shared)(σ : St)(H:Hp)(Q:Bool->Hp->Prop),Inv X pins σ H s->t σ H Q->wpAny (model X.prog X.w) X.A (isTrue e X.env whole) (TP X pins σ Q) X.xe s
variable{X:Cx}{e:Expr}
theorem PW.pt{t:TT}(h:PW X e t):PT X e t:=h _
def PA(X:Cx)(es:List Expr)(t:TA):Prop :=
 ∀(pos:Pos)(pins:List (Addr × Obj))(s:Shared)(σ : St)(H:Hp)(Q:List V->Hp->Prop),Inv X pins σ H s->t σ H Q->wpAny (model X.prog X.w) X.A (spliced (backTo pos (starEach es X.env))) (AP X pins σ Q) X.xe s
def PS(X:Cx)(st:Stmt)(t:TS):Prop :=
 ∀(pins:List (Addr × Obj))(s:Shared)(σ : St)(H:Hp)(D:Ends),Inv X pins σ H s->t D σ H->wpAny (model X.prog X.w) X.A (exec st X.env) (SP X pins D) X.xe s
def PSs(X:Cx)(st:List Stmt)(t:TS):Prop :=
 ∀(pins:List (Addr × Obj))(s:Shared)(σ : St)(H:Hp)(D:Ends),Inv X pins σ H s->t D σ H->wpAny (model X.prog X.w) X.A (execs st X.env) (SP X pins D) X.xe s
variable{M:Model}
theorem thn{α:Type}{t:Sem α}{Q Q' : α->Shared->Prop}{s:Shared}(h:wpAny M A t Q E s)(hQ:∀ a s,Q a s->Q' a s):wpAny M A t Q' E s:=wpAny_mono h hQ λ_ _ x=>x
section
def tVar(i:Nat):TE:=λσ H Q=>∃ v,σ[i]?=some (some v)/\Q v H
def tC(v:V):TE:=λ_ H Q=>Q v H
variable{x:Str}{pos:Pos}
theorem JmC{i:Nat}(hN:X.N[i]?=some x)(hv:Vis X.env.scope x)(hd:autoParam ((x == ("__debug__" : Str))=false) Av)(hcd:autoParam ((x == ("__classdict__" : Str))=false) Av):PE X (.Name x pos) (tVar i):=by
 intro b s σ H Q I h;let(v,e,h):=h;let(m,f,d):=I.loc;let(u,r,l):=d i x v hN e hv;have a:EP X b σ Q u s:=⟨v,H,I,r,h⟩;rcases l with⟨hk,hm⟩ | ⟨hk,c,hc,hcell⟩
 .show wpAny_Name (wpAny_loadName_local I.ok.kind hk f hm a) hd
 .rcases hk with hk | hk
  .show wpAny_Name (wpAny_loadName_cell I.ok.kind hk hc hcell a) hd
  .show wpAny_Name (wpAny_loadName_free I.ok.kind hk hc hcell a hcd) hd
theorem Jad{i j pos}:PE X (.Constant (.int i) j pos) (tC (.int i)):=λ_ _ _ H _ I h=>wpAny_Constant_int ⟨.int i,H,I.tok _,⟨_,rfl⟩,h⟩
theorem pe_bl{b j pos}:PE X (.Constant (.bool b) j pos) (tC (.bl b)):=λ_ _ _ H _ I h=>Constant_bool ⟨.bl b,H,I,rfl,h⟩
theorem JcP{j pos}:PE X (.Constant .none j pos) (tC .non):=λ_ _ _ H _ I h=>Constant_none ⟨.non,H,I,rfl,h⟩
theorem JaY{x j pos}:PE X (.Constant (.str x) j pos) (tC (.str x)):=λ_ _ _ H _ I h=>Calls.Constant_str ⟨.str x,H,I.tok _,⟨_,rfl⟩,h⟩
def Gl(X:Cx)(x:Str):Prop:=X.env.kindOf x=some .globalImplicit
variable{pins:List (Addr × Obj)}{σ:St}{u:Value}{Q:Value->Shared->Prop}
theorem Jcv{s:Shared}(I:Inv X pins σ H s)(hg:Gl X x)(hm:X.mg x=some u)(h:Q u s)
  (hd:autoParam ((x == ("__debug__" : Str))=false) Av):wpAny (model X.prog X.w) X.A (eval (.Name x pos) X.env) Q E s :=
 Calls.Name_function_global I.ok.kind hg (Calls.loadGlobal_global (by rw[I.ok.glob];show I.mod.glob.keeps I.bk) hm h) hd
theorem Jea{s:Shared}(I:Inv X pins σ H s)(hg:Gl X x)(hm:X.mg x=none)(hv:bootBuiltins x=some u)(h:Q u s)
  (hn:autoParam (x≠"__name__") Av) (hd:autoParam ((x == ("__debug__" : Str))=false) Av):wpAny (model X.prog X.w) X.A (eval (.Name x pos) X.env) Q E s:=by
 let(c,a,b):=I.mod.blt;show Calls.Name_function_global I.ok.kind hg (Calls.loadGlobal_builtin (by rw[I.ok.glob];show I.mod.glob.keeps I.bk) hm (by rw[I.ok.blt];show a.keeps I.bk) ((b x hn).trans hv) h) hd
variable{v:V}
theorem Jbk(hg:Gl X x)(hm:X.mg x=some u)(r:RelV v u)(hd:autoParam ((x == ("__debug__" : Str))=false) Av):PE X (.Name x pos) (tC v) :=
 λ_ _ _ H _ I h=>Jcv I hg hm ⟨v,H,I,r,h⟩ hd
theorem Jc4(hg:Gl X x)(hm:X.mg x=none)(hv:bootBuiltins x=some u)(r:RelV v u)(hn:autoParam (x≠"__name__") Av)(hd:autoParam ((x == ("__debug__" : Str))=false) Av):PE X (.Name x pos) (tC v) :=
 λ_ _ _ H _ I h=>Jea I hg hm hv ⟨v,H,I,r,h⟩ hn hd
variable{a b:Expr}{ta tb:TE}
def PC(X:Cx)(op:CmpOp)(a b:Expr)(t:TE):Prop :=
 ∀(pins:List (Addr × Obj))(s:Shared)(σ : St)(H:Hp)(Q:VK),Inv X pins σ H s->t σ H Q ->
  wpAny (model X.prog X.w) X.A (eval a X.env) (λv s₁=>wpAny (model X.prog X.w) X.A (eval b X.env) (λu s₂=>wpAny (model X.prog X.w) X.A (compareOp op v u) (EP X pins σ Q) X.xe s₂) X.xe s₁) X.xe s
def tB(t:TE):TT:=λσ H Q=>t σ H λx H1=>∃ c,x=.bl c/\Q c H1
variable{op:CmpOp}
theorem JmB{t:TE}(h:PC X op a b t)(h1:behindInMarks op b=false:=by first | show nobehind _ ⋯ ⋯ | rfl):PE X (.Compare a [op] [b] pos) t:=λc s σ H Q I d=>wpAny_Compare1 (h c s σ H Q I d) h1
theorem Jew{t:TE}(h:PC X op a b t)(h1:behindInMarks op b=false:=by first | show nobehind _ ⋯ ⋯ | rfl):PT X (.Compare a [op] [b] pos) (tB t):=by
 intro e s σ H Q I i;show wpAny_isTrue_Compare1 (thn (h e s σ H _ I i) λv m h1=>thn h1 λu n f=>thn f λc l ζ=>?_) h1;let(x,k,I1,g,j):=ζ;let(d,rfl,q):=j;cases g;show wpAny_truthy_bool ⟨k,I1,q⟩
theorem Jba{t:TE}(h:PE X e t)(he:autoParam (∀ whole,isTrue e X.env whole=(do let v <- whole;standAt e.pos;holding [v] (truthy v))) Aw):PT X e (tB t):=by
 intro a s σ H Q I g;show isTrue_plain (thn (h a s σ H _ I g) λv i ζ=>?_) (he _);let(x,c,I1,f,b):=ζ;let(d,rfl,q):=b;cases f;show wpAny_truthy_bool ⟨c,I1,q⟩
variable{tA tB':TT}{rest:List Expr}
def tOr(t u:TT):TT:=λσ H Q=>t σ H λc H1=>if c=true then Q true H1 else u σ H1 Q
def tNot(t:TT):TT:=λσ H Q=>t σ H λc H1=>Q (!c) H1
theorem Jca(ha:PT X a tA):PW X (.BoolOp .Or [a] pos) tA:=by
 intro f b s σ H Q I h;show isTrue_or (thn (ha b s σ H Q I h) λc d e=>?_);cases c with
 | false=>show isTrue_or_nil e
 | true=>show e
theorem pw_or(ha:PT X a tA)(hb:PW X (.BoolOp .Or (b::rest) pos) tB'):PW X (.BoolOp .Or (a::b::rest) pos) (tOr tA tB'):=by
 intro i d s σ H Q I h;show isTrue_or (thn (ha d s σ H _ I h) λc g ζ=>?_);let(f,I1,e):=ζ;cases c with
 | true=>show(f,I1,e)
 | false=>show hb i d g σ f Q I1 e
theorem Jbw(ha:PT X a tA):PT X (.UnaryOp .Not a pos) (tNot tA):=by
 intro b s σ H Q I h;show isTrue_not (ha b s σ H (λc d=>Q (!c) d) I h)
def tAndV(ta tb:TE):TE:=λσ H Q=>ta σ H λx H1=>∃ c,x=.bl c/\if c=true then tb σ H1 Q else Q (.bl false) H1
def tOrV(ta tb:TE):TE:=λσ H Q=>ta σ H λx H1=>∃ c,x=.bl c/\if c=true then Q (.bl true) H1 else tb σ H1 Q
def tNotV(ta:TE):TE:=λσ H Q=>ta σ H λx H1=>∃ c,x=.bl c/\Q (.bl (!c)) H1
theorem Jdn{op}{t:TE}(h:PE X a t):PE X (.BoolOp op [a] pos) t:=λb s σ H Q I c=>BoolOp_one (h b s σ H Q I c)
theorem Jcq(ha:PE X a ta)(hb:PE X (.BoolOp .And (b::rest) pos) tb):PE X (.BoolOp .And (a::b::rest) pos) (tAndV ta tb):=by
 intro d s σ H Q I h;show BoolOp_and (thn (ha d s σ H _ I h) λv g ζ=>?_);let(x,f,I1,i,e):=ζ;let(c,rfl,e):=e;cases i;show wpAny_truthy_bool ?_;cases c with
 | true=>show hb d g σ f Q I1 e
 | false=>show(.bl false,f,I1,rfl,e)
theorem pe_or(ha:PE X a ta)(hb:PE X (.BoolOp .Or (b::rest) pos) tb):PE X (.BoolOp .Or (a::b::rest) pos) (tOrV ta tb):=by
 intro d s σ H Q I h;show BoolOp_or (thn (ha d s σ H _ I h) λv g ζ=>?_);let(x,f,I1,i,e):=ζ;let(c,rfl,e):=e;cases i;show wpAny_truthy_bool ?_;cases c with
 | false=>show hb d g σ f Q I1 e
 | true=>show(.bl true,f,I1,rfl,e)
theorem Jhq(ha:PE X a ta):PE X (.UnaryOp .Not a pos) (tNotV ta):=by
 intro b s σ H Q I h;show UnaryOp_ (thn (ha b s σ H _ I h) λv g ζ=>?_);let(x,e,I1,f,d):=ζ;let(c,rfl,d):=d;cases f;show not_of (wpAny_truthy_bool ⟨.bl (!c),e,I1,rfl,d⟩)
def tIf(t:TT)(ta tb:TE):TE:=λσ H Q=>t σ H λc H1=>if c=true then ta σ H1 Q else tb σ H1 Q
variable{c:Expr}
theorem Jfw(hc:PT X c tA)(ha:PE X a ta)(hb:PE X b tb):PE X (.IfExp c a b pos) (tIf tA ta tb):=by
 intro e s σ H Q I h;show wpAny_IfExp (thn (hc e s σ H _ I h) λd f ζ=>?_);let(i,I1,g):=ζ;cases d with
 | true=>show ha e f σ i Q I1 g
 | false=>show hb e f σ i Q I1 g
end
def SqL(K:W.Frag)(H:Hp)(a:Addr)(xs:List V):Prop :=
 Rd H a (.lst xs) \/
  ∃(o:Obj)(its:Array Value)(n:Nat),K.lookup a=some o/\o.cls=.type "list"/\o.dict=none/\o.data=.seq its n/\its.size<=sizeLine/\Vals xs its.toList
def SqT(K:W.Frag)(H:Hp)(a:Addr)(xs:List V):Prop :=
 Rd H a (.tup xs) \/
  ∃(o:Obj)(its:Array Value)(n:Nat),K.lookup a=some o/\o.cls=.type "tuple"/\o.data=.seq its n/\its.size<=sizeLine/\Vals xs its.toList
def absV:Value->Option V
 | .none=>some .non
 | .bool b=>some (.bl b)
 | .int i _=>some (.int i)
 | .str x _=>some (.str x)
 | .bytes b _=>some (.byt b)
 | .float b _=>some (.flt b)
 | .ref a=>some (.ref a)
 | .type n=>some (.ty n)
 | _=>none
variable{x:V}{u:Value}
theorem RelV.abs(r:RelV x u):absV u=some x:=by
 cases x with
 | non=>cases r;rfl
 | bl _=>cases r;rfl
 | int _=>let(t,rfl):=r;rfl
 | str _=>let(t,rfl):=r;rfl
 | byt _=>let(t,rfl):=r;rfl
 | flt _=>let(t,rfl):=r;rfl
 | ref _=>cases r;rfl
 | ty _=>cases r;rfl
variable{y:V}
theorem RelV.inj(r:RelV x u)(q:RelV y u):x=y:=Option.some.inj (r.abs.symm.trans q.abs)
theorem Vals.inj(h:Vals xs us)(k:Vals ys us):xs=ys:=by
 induction h generalizing ys with
 | nil=>cases k;rfl
 | cons r _ ih=>
  cases k with
  | cons q s=>rw[r.inj q,ih s]
section
variable{pins:List (Addr × Obj)}{σ:St}{s:Shared}
theorem SqL.of{K:W.Frag}(h:H a=some (.lst xs)):SqL K H a xs:=.inl (.inl h)
theorem SqT.of{K:W.Frag}(h:H a=some (.tup xs)):SqT K H a xs:=.inl (.inl h)
theorem Inv.list(I:Inv X pins σ H s)(h:SqL X.K H a xs):∃ its:List Value,Vals xs its/\PlainL s.heap a its.toArray/\xs.length<=sizeLine:=by
 rcases h with h | ⟨o,its,n,hk,hc,hd,hs,hz,r⟩
 .let(z,its,n,r,e):=h.ok I.hok;show(its,r,⟨_,n,e,rfl,rfl,rfl⟩,z)
 .show(its.toList,r,⟨o,n,I.kIn a o hk,hc,hd,by simpa using hs⟩,?_);have e:=r.length;simp only[Array.length_toList]at e;ac_nf
theorem Inv.tuple(I:Inv X pins σ H s)(h:SqT X.K H a xs):∃ its:List Value,Vals xs its/\IsTup s.heap a its.toArray/\xs.length<=sizeLine:=by
 rcases h with h | ⟨o,its,n,hk,hc,hs,hz,r⟩
 .let(z,its,r,p):=h.ok I.hok;show(its,r,p,z)
 .show(its.toList,r,⟨o,I.kIn a o hk,hc,n,by simpa using hs⟩,?_);have e:=r.length;simp only[Array.length_toList]at e;ac_nf
theorem Inv.list_inj(I:Inv X pins σ H s)(h:SqL X.K H a xs)(h':SqL X.K H a ys):xs=ys:=by
 let(c,r,(o,n,e,_,_,d),_):=I.list h;let(b,i,(k,j,f,_,_,g),_):=I.list h';rw[e]at f;cases f;rw[d]at g;injection g with d1 _
 have : c=b:=by simpa using congrArg Array.toList d1
 subst this;show r.inj i
theorem Inv.tuple_inj(I:Inv X pins σ H s)(h:SqT X.K H a xs)(h':SqT X.K H a ys):xs=ys:=by
 let(c,r,(o,e,_,n,d),_):=I.tuple h;let(b,i,(k,f,_,j,g),_):=I.tuple h';rw[e]at f;cases f;rw[d]at g;injection g with d1 _
 have : c=b:=by simpa using congrArg Array.toList d1
 subst this;show r.inj i
end
abbrev Cx.wish(X:Cx)(E:Value->Shared->Prop):Cx:={ X with xe:=E }
abbrev Cx.nox(X:Cx):Cx:=X.wish λ_ _=>False
theorem Cx.Ok.wish(ok:X.Ok)(E:Value->Shared->Prop):(X.wish E).Ok :=
 ⟨ok.mod,ok.kind,ok.glob,ok.blt,ok.above,ok.inj,ok.has,ok.cab,ok.hd,ok.frames,ok.stk,ok.exf,ok.bs,ok.bsz,ok.noex,ok.exfs,ok.funs,ok.frf⟩
theorem Cx.Ok.unwish(ok:(X.wish E).Ok):X.Ok :=
 ⟨ok.mod,ok.kind,ok.glob,ok.blt,ok.above,ok.inj,ok.has,ok.cab,ok.hd,ok.frames,ok.stk,ok.exf,ok.bs,ok.bsz,ok.noex,ok.exfs,ok.funs,ok.frf⟩
section
variable{pins:List (Addr × Obj)}{σ:St}{s:Shared}
theorem Inv.wish(I:Inv X pins σ H s)(E:Value->Shared->Prop):Inv (X.wish E) pins σ H s:=⟨I.ok.wish E,I.os,I.bare,I.base,I.loc,I.cell,I.free,I.freeC,I.pin,I.hok,I.len⟩
theorem Inv.unwish(I:Inv (X.wish E) pins σ H s):Inv X pins σ H s:=⟨I.ok.unwish,I.os,I.bare,I.base,I.loc,I.cell,I.free,I.freeC,I.pin,I.hok,I.len⟩
variable{s':Shared}
theorem SP.unwish{D:Ends}{f:Flow}(h:SP (X.wish E) pins D f s'):SP X pins D f s':=by
 cases f with
 | next=>let(σ',a,I,q):=h;show(σ',a,I.unwish,q)
 | brk=>let(σ',a,I,q):=h;show(σ',a,I.unwish,q)
 | cont=>let(σ',a,I,q):=h;show(σ',a,I.unwish,q)
 | ret u=>let(v,σ',a,I,r,q):=h;show(v,σ',a,I.unwish,r,q)
theorem PSs.nox{st:List Stmt}{t:TS}(h:PSs X.nox st t):PSs X st t:=λa s σ H D I b=>
 wpAny_mono (h a s σ H D (I.wish _) b) (λ_ _ q=>q.unwish) λ_ _ z=>False.elim z
end
section
variable{st:Stmt}{u:TS}{te:TE}{pos:Pos}{rest:List Stmt}{t:TS}
def tNext:TS:=λD σ H=>D.nx σ H
def tSeq(t u:TS):TS:=λD σ H=>t { D with nx:=u D } σ H
theorem Jat:PSs X [] tNext:=λ_ _ σ H _ I h=>wpAny_execs_nil ⟨σ,H,I,h⟩
theorem Jab(h1:PS X st t)(h2:PSs X rest u):PSs X (st::rest) (tSeq t u):=by
 intro a s σ H D I h;show wpAny_execs_cons (thn (h1 a s σ H { D with nx:=u D } I h) λf b q=>?_);cases f with
 | next=>
  let(σ',c,I',q):=q;show h2 a b σ' c D I' q
 | ret v=>show q
 | brk=>show q
 | cont=>show q
theorem Jah(h1:PS X st t):PSs X [st] t:=by
 intro a s σ H D I h;show wpAny_execs_cons (thn (h1 a s σ H D I h) λf b q=>?_);cases f with
 | next=>show wpAny_execs_nil q
 | ret v=>show q
 | brk=>show q
 | cont=>show q
variable{pins:List (Addr × Obj)}{σ:St}
theorem Inv.quiet{s:Shared}(I:Inv X pins σ H s):interactive X.env=false:=by simp[interactive,I.ok.kind]
def tDrop(te:TE):TS:=λD σ H=>te σ H λ_ H1=>D.nx σ H1
theorem Ja6(he:PE X e te)(hs:autoParam (swapsWith e none pos.line X.env=pure false) Au):PS X (.Expr e pos) (tDrop te):=by
 intro a s σ H D I h;show wpAny_Expr_any (thn (he a s σ H _ I h) λv d ζ=>by let(x,c,I1,f,b):=ζ;show(σ,c,I1,b)) I.quiet hs
def tRet(te:TE):TS:=λD σ H=>te σ H D.rt
theorem Jap(he:PE X e te):PS X (.Return (some e) pos) (tRet te):=by
 intro a s σ H D I h;show wpAny_Return_some (thn (he a s σ H _ I h) λv f ζ=>by let(x,c,I1,d,b):=ζ;show(x,σ,c,I1,d,b))
def tIfS(c:TT)(t u:TS):TS:=λD σ H=>c σ H λb H1=>if b=true then t D σ H1 else u D σ H1
variable{c:Expr}{tc:TT}
theorem ps_if{a b:List Stmt}(hc:PT X c tc)(ha:PSs X a t)(hb:PSs X b u):PS X (.If c a b pos) (tIfS tc t u):=by
 intro e s σ H D I h;show wpAny_If (thn (hc e s σ H _ I h) λd f ζ=>?_);let(i,I1,g):=ζ;cases d with
 | true=>show ha e f σ i D I1 g
 | false=>show hb e f σ i D I1 g
end
abbrev TG:=V->St->Hp->(St->Hp->Prop)->Prop
abbrev TGs:=List V->St->Hp->(St->Hp->Prop)->Prop
def PG(X:Cx)(target:Expr)(t:TG):Prop :=
 ∀(pins:List (Addr × Obj))(s:Shared)(σ : St)(H:Hp)(v:V)(u:Value)(Q:St->Hp->Prop),Inv X pins σ H s->RelV v u->t v σ H Q ->
  wpAny (model X.prog X.w) X.A (assign target X.env u) (λ_ s'=>∃ σ' H',Inv X pins σ' H' s'/\Q σ' H') X.xe s
def PGs(X:Cx)(ts:List Expr)(t:TGs):Prop :=
 ∀(pins:List (Addr × Obj))(s:Shared)(σ : St)(H:Hp)(vs:List V)(us:List Value)(Q:St->Hp->Prop),Inv X pins σ H s->Vals vs us->t vs σ H Q ->
  wpAny (model X.prog X.w) X.A (assignInOrder ((assignEach ts X.env).map (·.2)) us) (λ_ s'=>∃ σ' H',Inv X pins σ' H' s'/\Q σ' H') X.xe s
variable{pos:Pos}
def gName(i:Nat):TG:=λv σ H Q=>Q (σ.set i (some v)) H
variable{x:Str}
theorem Jaq(i:Nat)(hN:X.N.Nodup)(hi:X.N[i]?=some x:=by show rfl)(hx:Loc X.env.scope x:=by show Or.inl rfl)(hf:autoParam (X.fn x=true\/X.env.scope.names.lookup x=some .local) Ax):PG X (.Name x pos) (gName i):=by
 intro a s σ H v u Q I r h;show wpAny_assign_Name (Jd0 I hN hi hx r (λb I'=>⟨_,H,I',h⟩) hf)
def gNil:TGs:=λvs σ H Q=>vs=[]/\Q σ H
def gCons(t:TG)(u:TGs):TGs:=λvs σ H Q=>∃ v r,vs=v::r/\t v σ H λσ' H'=>u r σ' H' Q
theorem Jc5:PGs X [] gNil:=by
 intro a s σ H b c Q I r h;let(e,h):=h;subst e;cases r;show assignInOrder_nil ⟨σ,H,I,h⟩
variable{es:List Expr}
theorem Jbb{t:TG}{u:TGs}(h1:PG X e t)(h2:PGs X es u)
  (hs:autoParam ((assignEach (e::es) X.env).map (·.2)=assign e X.env::(assignEach es X.env).map (·.2)) Au):PGs X (e::es) (gCons t u):=by
 intro a s σ H g j Q I r h;let(v,i,d,h):=h;subst d;cases r with
 | cons r rr=>
  rw[hs];show assignInOrder_cons (thn (h1 a s σ H _ _ _ I r h) λ_ b ζ=>?_);let(σ1,f,I1,c):=ζ;show h2 a b σ1 f _ _ Q I1 rr c
def gTup(K:W.Frag)(n:Nat)(t:TGs):TG:=λv σ H Q=>∃ a xs,v=.ref a/\SqT K H a xs/\xs.length=n/\t xs σ H Q
theorem Jes{k:Nat}{t:TGs}{n:Nat}(hc:X.calm=true)(h:PGs X es t)
  (hn:autoParam ((assignEach es X.env).length=n) Au) (hst:autoParam ((assignEach es X.env).findIdx? (·.1)=none) Au):PG X (.Tuple es k pos) (gTup X.K n t):=by
 intro c s σ H v u Q I r d;let(a,p,q,w,m,d):=d;subst q;cases r;let(j,f,l,x):=I.tuple w;show assign_Tuple_tuple (I.ok.hd hc) l (by simp[hn, <- m,f.length]) hst λi g=>?_;have I1:Inv X c σ H { s with heap:=i }:=I.kept (t':=s.toks) λb o e=>g b o (Nat.ne_of_lt (Heap.lt_size e)) e;show h c _ σ H p _ Q I1 (by simpa using f) d
def tAsg(te:TE)(g:TG):TS:=λD σ H=>te σ H λx H1=>g x σ H1 D.nx
variable{tg:Expr}{te:TE}
theorem Jhs{g:TG}(he:PE X e te)(hg:PG X tg g)(hs:autoParam (swapsWithSole [tg] e pos.line X.env=pure false) Au)(hw:autoParam (swappedStores [tg] e X.env=pure none) Au)
  (h1:autoParam ((assignEach [tg] X.env).map (·.2)=[assign tg X.env]) Au):PS X (.Assign [tg] e pos) (tAsg te g):=by
 intro a s σ H D I h;show wpAny_Assign_stores (thn (he a s σ H _ I h) λv b ζ=>?_) hs hw;let(x,d,I1,f,c):=ζ;rw[h1];show thn (hg a b σ d x v _ I1 f c) λ_ i q=>q
variable{pos':Pos}
theorem Jak(i:Nat)(hN:X.N.Nodup)(he:PE X e te)(hi:X.N[i]?=some x:=by show rfl)(hx:Loc X.env.scope x:=by show Or.inl rfl)(hs:autoParam (swapsWith e (some (.Name x pos')) pos.line X.env=pure false) Au)(hf:autoParam (X.fn x=true\/X.env.scope.names.lookup x=some .local) Ax) :
  PS X (.Assign [.Name x pos'] e pos) (tAsg te (gName i)):=by
 intro a s σ H D I h;show wpAny_Assign_Name (thn (he a s σ H _ I h) λv f ζ=>?_) hs;let(y,c,I1,d,b):=ζ;show Jd0 I1 hN hi hx d (λg I2=>⟨_,c,I2,b⟩) hf
def JmQ(c:TT)(tb:TS):TS:=λD σ H=>∃ W:Nat->St->Hp->Prop,(∃ m,W m σ H)/\∀ m σ H,W m σ H ->
 c σ H λb H1=>if b=true then∃ N:St->Hp->Prop,(∀ σ' H',N σ' H'->∃ m',m'<m/\W m' σ' H')/\tb { D with nx:=N,ct:=N,bk:=D.nx } σ H1 else D.nx σ H1
variable{c:Expr}{body:List Stmt}{tb:TS}
theorem JdZ{tc:TT}(hp:PassesOwn (model X.prog X.w) X.A X.env X.xe)(hc:PT X c tc)(hb:PSs X body tb):PS X (.While c body [] pos) (JmQ tc tb):=by
 intro a s σ H D I h;let(W,(x,y),e):=h;show wpAny_While (codeAny_whileLoop (λn t=>∃ σ' H',Inv X a σ' H' t/\W n σ' H') ?_ x ⟨σ,H,I,y⟩);rintro n u ⟨σ1,q,I1,r⟩;show wpAny_passesOwn hp (thn (hc a u σ1 q _ I1 (e n σ1 q r)) λb z ζ=>?_);let(o,I2,g):=ζ;cases b with
 | true=>
  let(N,p,g):=g;rw[if_pos rfl];show wpAny_passesOwn hp (thn (hb a z σ1 o _ I2 g) λf B i=>?_);cases f with
  | next=>
   let(σ3,d,I3,j):=i;let(k,l,m):=p σ3 d j;show(k,l,σ3,d,I3,m)
  | cont=>
   let(σ3,d,I3,j):=i;let(k,l,m):=p σ3 d j;show(k,l,σ3,d,I3,m)
  | brk=>show i
  | ret v=>show i
 | false=>
  rw[if_neg Bool.false_ne_true];show wpAny_execs_nil ⟨σ1,o,I2,g⟩
structure It where
 go:Nat->Hp->Prop
 yld:Nat->Hp->V->Hp->Prop
 stop:Nat->Hp->Prop
def FpOk(X:Cx)(pins:List (Addr × Obj))(H:Hp)(b:Addr):Prop :=
 H b=none/\b≠X.env.locals/\b∉X.fs/\(b∈X.ex\/X.s₀.heap.objs.size<=b)/\(∀ x c,X.env.cells.lookup x=some c->c≠b)/\∀ p∈X.pn++pins,p.1≠b
variable{pins:List (Addr × Obj)}{σ:St}{H':Hp}
theorem Inv.fpOk{s:Shared}(I:Inv X pins σ H s)(hb:s.heap.objs.size<=b)(hn:H' b=none):FpOk X pins H' b:=by
 show(hn,Nat.ne_of_gt (Nat.lt_of_lt_of_le I.lt hb),I.nofs hb, .inr (Nat.le_trans I.sz hb),λx c e z=>?_,λp a z=>?_)
 .let(v,q):=I.cell x c e;show absurd (Nat.lt_of_lt_of_le q.lt (by rw[z];show hb)) (Nat.lt_irrefl _)
 .show absurd (Nat.lt_of_lt_of_le (Heap.lt_size (I.pin p a).1) (by rw[z];show hb)) (Nat.lt_irrefl _)
structure Turn(P:Program)(w:World)(K:W.Frag)(tg:Expr)(J:It)(fp:List Addr)(it:Addr)(tn:Nat->Heap->Prop):Prop where
 mem:it∈fp
 obj:∀ i h,tn i h->∀ b∈fp, ∃ o,h.get? b=some o/\∀ v,o.data≠.cell v
 keep:∀ i h h',tn i h->(∀ b∈fp, ∀ o,h.get? b=some o->h'.get? b=some o)->tn i h'
 item:∀(X:Cx),X.prog=P->X.w=w->X.K=K->X.calm=true->∀(i:Nat)(pins:List (Addr × Obj))(s:Shared)(σ : St)(H:Hp)(E:Value->Shared->Prop),Inv X pins σ H s->(∀ b∈fp,FpOk X pins H b)->tn i s.heap->J.go i H ->
  wpAny (model P w) X.A (pyNext (.ref it)) (λr s1=>∃ u,r=some u /\
   wpAny (model P w) X.A (letOwnedTupleGo tg (.ref it) u) (λ_ s2=>∃ x H',Inv X pins σ H' s2/\RelV x u/\J.yld i H x H'/\tn (i+1) s2.heap/\∀ b∈fp,H' b=none) E s1) E s
 done:∀(X:Cx),X.prog=P->X.w=w->X.K=K->X.calm=true->∀(i:Nat)(pins:List (Addr × Obj))(s:Shared)(σ : St)(H:Hp)(E:Value->Shared->Prop),Inv X pins σ H s->(∀ b∈fp,FpOk X pins H b)->tn i s.heap->J.stop i H ->
  wpAny (model P w) X.A (pyNext (.ref it)) (λr s1=>r=none/\Inv X pins σ H s1) E s
 self:∀(A:Around)(i:Nat)(s:Shared)(Q:Value->Shared->Prop)(E:Value->Shared->Prop),tn i s.heap->Q (.ref it) s->wpAny (model P w) A (pyIter (.ref it)) Q E s
abbrev TI:=St->Hp->(It->Hp->Prop)->Prop
def PIE(X:Cx)(pins:List (Addr × Obj))(σ : St)(tg:Expr)(R:It->Hp->Prop)(itv:Value)(s2:Shared):Prop :=
 ∃(it:Addr)(fp:List Addr)(tn:Nat->Heap->Prop)(J:It)(H':Hp),itv=.ref it/\Inv X pins σ H' s2/\Turn X.prog X.w X.K tg J fp it tn/\tn 0 s2.heap/\(∀ b∈fp,FpOk X pins H' b)/\R J H'
def PI(X:Cx)(tg iter:Expr)(wi:TI):Prop :=
 ∀(pins:List (Addr × Obj))(s:Shared)(σ : St)(H:Hp)(R:It->Hp->Prop),Inv X pins σ H s->wi σ H R ->
  wpAny (model X.prog X.w) X.A (eval iter X.env) (λv s1=>wpAny (model X.prog X.w) X.A (pyIter v) (PIE X pins σ tg R) X.xe s1) X.xe s
theorem go_of{s:Shared}{it:Addr}{n:String}{vs:Array Value}{Q:Unit->Shared->Prop}(ho:s.heap.get? it=some o)(hc:o.cls=.type n)(hd:o.data=.fields vs)
    (hn:["enumerate","zip","dict_itemiterator","dict_reverseitemiterator","odict_iterator","itertools.zip_longest","itertools.pairwise"].contains n=false) (hQ:Q () s):wpAny M A (letOwnedTupleGo tg (.ref it) u) Q E s:=by
  unfold letOwnedTupleGo;cases tg <;> first
    | show wpAny_pure hQ
    | (cases u <;> first
        | show wpAny_pure hQ
        | (show wpAny_bind (wpAny_load ho ?_)
           rw[hc,hd];show wpAny M A (if(["enumerate","zip","dict_itemiterator","dict_reverseitemiterator","odict_iterator","itertools.zip_longest","itertools.pairwise"].contains n&&vs[0]? == some (rawInt _))=true then _ else _) Q E s;rw[if_neg (by intro h;rw[hn,Bool.false_and]at h;cases h)];show wpAny_pure hQ))
def Itl(K:W.Frag)(a:Addr):It :=
 ⟨λi H=>∃ xs x,SqL K H a xs/\xs[i]?=some x,λi H x H'=>H'=H/\∀ xs,SqL K H a xs->xs[i]?=some x,λi H=>∃ xs,SqL K H a xs/\xs.length<=i⟩
def Itt(K:W.Frag)(a:Addr):It :=
 ⟨λi H=>∃ xs x,SqT K H a xs/\xs[i]?=some x,λi H x H'=>H'=H/\∀ xs,SqT K H a xs->xs[i]?=some x,λi H=>∃ xs,SqT K H a xs/\xs.length<=i⟩
def Itr(lo:Int)(n:Nat):It:=⟨λi _=>i<n,λi H x H'=>H'=H/\x=.int (lo+i),λi _=>n<=i⟩
theorem Jjn{w:World}{K:W.Frag}(a it:Addr):Turn P w K tg (Itl K a) [it] it (λi h=>h.IsListIter it a i) where
 mem:=by simp
 obj:=λi h f b j=>by
  have e:b=it:=by simpa using j
  subst e;let(o,e,c,d):=f;show(o,e,λv z=>by rw[d]at z;cases z)
 keep:=λi h n f k=>f.at λo e=>k it (by simp) o e
 item:=by
  intro X r y B N i g s σ H E I m f M;subst r y B;let(T,x,q,C):=M;let(F,A,p,O):=I.list q;let(u,S,U):=A.get C;let(J,t,Y,G,D,L):=m it (by simp);show wpAny_pyNext_list_item f p.isList (x:=u) (by simpa using S) λn l V=>?_;have I1:Inv X g σ H { s with heap:=n }:=I.turned (t':=s.toks) (λb o j e=>(V.2 b j).trans e) J t G D L;let(o,e,c,d):=id l;show(u,rfl,go_of (s:={ s with heap:=n }) e c d ⋯ ⟨x,H,I1,U,⟨rfl,λZ R=>by rw[I.list_inj R q];show C⟩,l,λb j=>(m b j).1⟩)
 done:=by
  intro X r y B N i g s σ H E I m f M;subst r y B;let(T,q,C):=M;let(F,A,p,O):=I.list q;let(J,t,Y,G,D,L):=m it (by simp);have hl:=A.length;show wpAny_pyNext_list_end (I.ok.hd N) f p.isList (by simp;ac_nf) λn Q=>⟨rfl,I.turned (t':=s.toks) (λb o j e=>Q b o j e) J t G D L⟩
 self:=λ_ _ _ _ _ f h=>wpAny_pyIter_listiter f h
theorem Jh4{w:World}{K:W.Frag}(a it:Addr):Turn P w K tg (Itt K a) [it] it (λi h=>h.IsTupleIter it a i) where
 mem:=by simp
 obj:=λi h f b j=>by
  have e:b=it:=by simpa using j
  subst e;let(o,e,c,d):=f;show(o,e,λv z=>by rw[d]at z;cases z)
 keep:=λi h q f k=>f.at λo e=>k it (by simp) o e
 item:=by
  intro X t A C N i g s σ H E I n f M;subst t A C;let(T,x,r,D):=M;let(l,B,p,O):=I.tuple r;let(u,S,U):=B.get D;let(J,y,Y,G,F,L):=n it (by simp);show wpAny_pyNext_tuple_item f (show s.heap.IsTuple a l.toArray from p) (x:=u) (by simpa using S) λq m V=>?_;have I1:Inv X g σ H { s with heap:=q }:=I.turned (t':=s.toks) (λb o j e=>(V.2 b j).trans e) J y G F L;let(o,e,c,d):=id m;show(u,rfl,go_of (s:={ s with heap:=q }) e c d ⋯ ⟨x,H,I1,U,⟨rfl,λZ R=>by rw[I.tuple_inj R r];show D⟩,m,λb j=>(n b j).1⟩)
 done:=by
  intro X t A C N i g s σ H E I n f M;subst t A C;let(T,r,D):=M;let(l,B,p,O):=I.tuple r;let(J,y,Y,G,F,L):=n it (by simp);have hl:=B.length;show wpAny_pyNext_tuple_end (I.ok.hd N) f (show s.heap.IsTuple a l.toArray from p) (by simp;ac_nf) λq Q=>⟨rfl,I.turned (t':=s.toks) (λb o j e=>Q b o j e) J y G F L⟩
 self:=λ_ _ _ _ _ f h=>wpAny_pyIter_tupleiter f h
theorem Jh3{w:World}{K:W.Frag}(it:Addr)(lo:Int)(n:Nat):Turn P w K tg (Itr lo n) [it] it (λi h=>IsRangeIter h it (lo+(i:Nat)*1) ((n:Int)-(i:Nat)) 1) where
 mem:=by simp
 obj:=λi h a b d=>by
  have e:b=it:=by simpa using d
  subst e;show(_,a,λv z=>by
   have F:Data.fields _=Data.cell v:=z;cases F)
 keep:=λi h j a k=>k it (by simp) _ a
 item:=by
  intro X l q r p i c s σ H E I g a B;subst l q r;let(y,m,L,x,u,A):=g it (by simp);have W:=Walks.range (prog:=X.prog) (w:=X.w) (I.ok.hd p) it lo 1 n;show W.item i s _ _ B a λv j C J f G=>?_;let(t,rfl):=J;have I1:Inv X c σ H { s with heap:=j,toks:=C }:=I.turned (λb o d e=>G b o (by simpa using d) e) y m x u A;show(_,rfl,go_of (s:={ s with heap:=j,toks:=C }) (n:="range_iterator") f rfl rfl ⋯ ⟨.int (lo+i),H,I1,⟨t,?_⟩,⟨rfl,rfl⟩,f,λb d=>(g b d).1⟩);rw[Int.mul_one]
 done:=by
  intro X l q r p i c s σ H E I g a B;subst l q r;let(y,m,L,x,u,A):=g it (by simp);show wpAny_pyNext_range_end (I.ok.hd p) a (by have : n<=i:=B;ac_nf) λj D=>⟨rfl,I.turned (t':=s.toks) (λb o d e=>D b o d e) y m x u A⟩
 self:=λ_ _ _ _ _ a h=>wpAny_pyIter_rangeiter a h
theorem Jj2{s:Shared}{R:It->Hp->Prop}{lo hi:Int}{t u v:Tok}{tk:Nat}(I:Inv X pins σ H s)(h1 : -(2 ^ 62)<=lo)(h2:lo<2 ^ 62)(h3 : -(2 ^ 62)<=hi)(h4:hi<2 ^ 62)
  (q:R (Itr lo (hi-lo).toNat) H):wpAny (model X.prog X.w) X.A (pyIter (.ref s.heap.objs.size)) (PIE X pins σ tg R) E { s with heap:=s.heap.push { cls:=.type "range",data:=.fields #[.int lo t, .int hi u, .int 1 v] },toks:=tk }:=by
 show wpAny_pyIter_range (IsRange.new ..) (small_one h1 h2 h3 h4) ?_;have I1:Inv X pins σ H { s with heap:=s.heap.push { cls:=.type "range",data:=.fields #[.int lo t, .int hi u, .int 1 v] },toks:=tk }:=I.kept λb o e=>Heap.get?_push_of_some _ e;show((s.heap.push { cls:=.type "range",data:=.fields #[.int lo t, .int hi u, .int 1 v] }).objs.size,[(s.heap.push { cls:=.type "range",data:=.fields #[.int lo t, .int hi u, .int 1 v] }).objs.size],_,_,H,rfl,
  I1.kept (t':=tk) λb o e=>Heap.get?_push_of_some _ e,Jh3 _ lo (hi-lo).toNat,?_,λb d=>?_,q)
 .have a:lo+((0:Nat):Int)*1=lo:=by simp
  have c:(((hi-lo).toNat:Nat):Int)-((0:Nat):Int)=Builtin.Range.rangeSize lo hi 1:=by rw[rangeSize_one];split <;> ac_nf
  show IsRangeIter _ _ (lo+((0:Nat):Int)*1) ((((hi-lo).toNat:Nat):Int)-((0:Nat):Int)) 1;rw[a,c];show Heap.get?_push_size _ rfl
 .have e:b=(s.heap.push { cls:=.type "range",data:=.fields #[.int lo t, .int hi u, .int 1 v] }).objs.size:=by simpa using d
  subst e;show I1.fpOk (Nat.le_refl _) (I1.hok.fresh (Nat.le_refl _))
def iRng1(ta:TA):TI:=λσ H R=>ta σ H λvs H1=>∃ j:Int,vs=[.int j]/\-(2 ^ 62)<=j/\j<2 ^ 62/\R (Itr 0 j.toNat) H1
variable{a:Expr}
theorem Jet{ta:TA}{p:Pos}(hg:Gl X "range")(hm:X.mg "range"=none)(ha:PA X [a] ta)(hs:autoParam (starEach [a] X.env=[(false,eval a X.env)]) Au):PI X tg (.Call (.Name "range" p) [a] [] pos) (iRng1 ta):=by
 intro b s σ H R I h;show Call_ (Jea I hg hm boot_range (PyProof.Rows.callWith_type1 (thn (ha pos b s σ H _ I h) λl g ζ=>?_) hs rfl));let(i,k,I1,f,c):=ζ;let(j,e,c,d,q):=c;subst e;cases f with
 | cons r rr=>
  cases rr;let(t,rfl):=r;show call_range_1 (Jj2 I1 ∅ ∅ c d (by simpa using q))
def tFor(wi:TI)(g:TG)(tb:TS):TS:=λD σ H=>wi σ H λJ H1=>∃ W:Nat->Nat->St->Hp->Prop,(∃ m,W 0 m σ H1)/\∀ i m σ H,W i m σ H ->
 (J.stop i H/\D.nx σ H)\/(J.go i H/\∃ N:St->Hp->Prop,(∀ σ' H',N σ' H'->∃ m',m'<m/\W (i+1) m' σ' H')/\∀ x H',J.yld i H x H'->g x σ H' λσ2 H2=>tb { D with nx:=N,ct:=N,bk:=D.nx } σ2 H2)
def Jhr(fp:List Addr)(h:Heap):List (Addr × Obj):=fp.filterMap λb=>(h.get? b).map λo=>(b,o)
variable{fp:List Addr}
theorem JbW(hb:b∈fp)(e:h.get? b=some o):(b,o)∈Jhr fp h:=List.mem_filterMap.mpr ⟨b,hb,by rw[e];rfl⟩
theorem JiI{p:Addr × Obj}(hp:p∈Jhr fp h):p.1∈fp/\h.get? p.1=some p.2:=by
 let(b,a,e):=List.mem_filterMap.mp hp;cases q:h.get? b with
 | none=>rw[q]at e;cases e
 | some o=>
  rw[q]at e;have c:(b,o)=p:=Option.some.inj e;subst c;show(a,q)
theorem Inv.pinned{s:Shared}(I:Inv X pins σ H s)(hf:∀ b∈fp,FpOk X pins H b)(ho:∀ b∈fp, ∃ o,s.heap.get? b=some o/\∀ v,o.data≠.cell v):Inv X (pins++Jhr fp s.heap) σ H s :=
 I.pins_of λp h=>(mem_append.mp h).elim (λz=>I.pin p (mem_append_right _ z)) λz=>by
  let(c,e):=JiI z;let(f,g,i,_):=hf p.1 c;let(o,a,d):=ho p.1 c;rw[e]at a;cases a;show(e,f,g,i,d)
theorem Inv.unpinned{pl:List (Addr × Obj)}{s:Shared}(I:Inv X (pins++pl) σ H s):Inv X pins σ H s:=I.pins_of λp a=>I.pin p (mem_append_right _ (List.mem_append_left _ a))
theorem Ja2{iter:Expr}{wi:TI}{g:TG}(hp:PassesOwn (model X.prog X.w) X.A X.env X.xe)(hc:X.calm=true)(hi:PI X tg iter wi)(hg:PG X tg g)(hb:PSs X body tb)
  (hs:autoParam (∀ x,foldedSetIterable iter X.env x=pure x) Aw):PS X (.For tg iter body [] pos) (tFor wi g tb):=by
 intro a s σ H D I h;show wpAny_For (thn (hi a s σ H _ I h) λv s1 h1=>thn h1 λS s2 U=>?_) hs;let(it,y,M,J,H2,e,I2,T,K,R,W,(m0,w0),z):=U;subst e;have k:∀{H':Hp},(∀ b∈y,H' b=none)->∀ b∈y,FpOk X a H' b:=λhn b hb=>⟨hn b hb,(R b hb).2⟩;show codeAny_forLoop_any (λn P=>∃ i σ' H',Inv X a σ' H' P/\M i P.heap/\(∀ b∈y,H' b=none)/\W i n σ' H') ?_ m0 ⟨0,σ,H2,I2,K,λb hb=>(R b hb).1,w0⟩;rintro n L ⟨i,σ3,C,I3,q,t,w3⟩;rcases z i n σ3 C w3 with⟨stop,qn⟩ | ⟨go,N,hN,step⟩
 .show wpAny_passesOwn hp (thn (T.done X rfl rfl rfl hc i a L σ3 C X.xe I3 (k t) q stop) λr Y ⟨E,I4⟩=>?_);subst E;show wpAny_execs_nil ⟨σ3,C,I4,qn⟩
 .show wpAny_passesOwn hp (thn (T.item X rfl rfl rfl hc i a L σ3 C X.xe I3 (k t) q go) λr Y ζ=>?_);let(u,E,Z):=ζ;subst E;show wpAny_passesOwn hp (thn Z λ_ O ζ=>?_);let(x,Q,I5,r5,y5,p,F):=ζ;have I5':=I5.pinned (k F) (T.obj _ _ p);show wpAny_passesOwn hp (thn (hg _ O σ3 Q x u _ I5' r5 (step x Q y5)) λ_ V ζ=>?_);let(σ6,H6,I6,q6):=ζ;show wpAny_passesOwn hp (thn (hb _ V σ6 H6 _ I6 q6) λf G l=>?_);have j:∀{σ7:St}{c:Hp},Inv X (a++Jhr y O.heap) σ7 c G->N σ7 c->∃ m,m<n/\∃ i σ' H',Inv X a σ' H' G/\M i G.heap/\(∀ b∈y,H' b=none)/\W i m σ' H':=λ{σ7 c} I7 B=>by
   let(m',hm,w7):=hN σ7 c B;show(m',hm,i+1,σ7,c,I7.unpinned,T.keep _ _ _ p λb hb o e=>(I7.pin (b,o) (mem_append_right _ (mem_append_right _ (JbW hb e)))).1,λb hb=>?_,w7);let(o,e,d):=T.obj _ _ p b hb;show(I7.pin (b,o) (mem_append_right _ (mem_append_right _ (JbW hb e)))).2.1
  cases f with
  | next=>let(σ7,c,I7,B):=l;show j I7 B
  | cont=>let(σ7,c,I7,B):=l;show j I7 B
  | brk=>let(σ7,c,I7,l):=l;show(σ7,c,I7.unpinned,l)
  | ret v=>let(x7,σ7,c,I7,r7,l):=l;show(x7,σ7,c,I7.unpinned,r7,l)
variable{n:Nat}
theorem Jis{lo:Int}{g:TG}{D:Ends}(Pv:Nat->St->Hp->Prop)(h0:Pv 0 σ H)
  (hs:∀ i σ H,i<n->Pv i σ H->g (.int (lo+i)) σ H λσ2 H2=>tb { D with nx:=Pv (i+1),ct:=Pv (i+1),bk:=D.nx } σ2 H2) (hd:∀ σ H,Pv n σ H->D.nx σ H) :
  ∃ W:Nat->Nat->St->Hp->Prop,(∃ m,W 0 m σ H)/\∀ i m σ H,W i m σ H ->
   ((Itr lo n).stop i H/\D.nx σ H)\/((Itr lo n).go i H/\∃ N:St->Hp->Prop,(∀ σ' H',N σ' H'->∃ m',m'<m/\W (i+1) m' σ' H')/\∀ x H',(Itr lo n).yld i H x H'->g x σ H' λσ2 H2=>tb { D with nx:=N,ct:=N,bk:=D.nx } σ2 H2):=by
 show(λi m σ H=>m=n-i/\i<=n/\Pv i σ H,⟨n,by simp,Nat.zero_le _,h0⟩,?_);rintro i m σ H ⟨rfl,c,p⟩;by_cases a:i<n
 .show .inr ⟨a,Pv (i+1),λσ' H' b=>⟨n-(i+1),by ac_nf,rfl,a,b⟩,λx H' y=>?_⟩;let(e,y):=y;subst e y;show hs i σ _ a p
 .have e:i=n:=by ac_nf
  subst e;show .inl ⟨Nat.le_refl _,hd σ H p⟩
abbrev R2:=V->V->Hp->VK->Prop
def OpR(X:Cx)(f:Value->Value->Sem Value)(r:R2):Prop :=
 ∀(pins:List (Addr × Obj))(s:Shared)(σ : St)(H:Hp)(x y:V)(v u:Value)(Q:VK),Inv X pins σ H s->RelV x v->RelV y u->r x y H Q ->
  wpAny (model X.prog X.w) X.A (f v u) (EP X pins σ Q) X.xe s
def UnR(X:Cx)(f:Value->Sem Value)(r:V->Hp->VK->Prop):Prop :=
 ∀(pins:List (Addr × Obj))(s:Shared)(σ : St)(H:Hp)(x:V)(v:Value)(Q:VK),Inv X pins σ H s->RelV x v->r x H Q ->
  wpAny (model X.prog X.w) X.A (f v) (EP X pins σ Q) X.xe s
def CallR(X:Cx)(f:Value)(r:List V->Hp->VK->Prop):Prop :=
 ∀(pins:List (Addr × Obj))(s:Shared)(σ : St)(H:Hp)(xs:List V)(us:List Value)(Q:VK),Inv X pins σ H s->Vals xs us->r xs H Q ->
  wpAny (model X.prog X.w) X.A (call f us) (EP X pins σ Q) X.xe s
def tOp(r:R2)(ta tb:TE):TE:=λσ H Q=>ta σ H λx H1=>tb σ H1 λy H2=>r x y H2 Q
def tUn(r:V->Hp->VK->Prop)(ta:TE):TE:=λσ H Q=>ta σ H λx H1=>r x H1 Q
def rI(C:Int->Int->Prop)(g:Int->Int->V):R2:=λx y H Q=>∃ i j,x=.int i/\y=.int j/\C i j/\Q (g i j) H
def rI0(g:Int->Int->V):R2:=λx y H Q=>∃ i j,x=.int i/\y=.int j/\Q (g i j) H
def rU(g:Int->V):V->Hp->VK->Prop:=λx H Q=>∃ i,x=.int i/\Q (g i) H
variable{b:Expr}{ta tb tc:TE}
theorem binT(ha:PE X a ta)(hb:PE X b tb){pins:List (Addr × Obj)}{s:Shared}{σ : St}{H:Hp}{R:V->V->Hp->Prop}(I:Inv X pins σ H s)
  (h:ta σ H λx H1=>tb σ H1 λy H2=>R x y H2) {Q:Value->Shared->Prop} {f:Value->Value->Sem Value}
  (hf:∀ v u s2 x y H2,Inv X pins σ H2 s2->RelV x v->RelV y u->R x y H2->wpAny (model X.prog X.w) X.A (f v u) Q X.xe s2) :
  wpAny (model X.prog X.w) X.A (eval a X.env) (λv s₁=>wpAny (model X.prog X.w) X.A (eval b X.env) (λu s₂=>wpAny (model X.prog X.w) X.A (f v u) Q X.xe s₂) X.xe s₁) X.xe s:=by
 show thn (ha pins s σ H _ I h) λv c ζ=>?_;let(x,H1,I1,e,d):=ζ;show thn (hb pins c σ H1 _ I1 d) λu s2 ζ=>?_;let(y,H2,I2,i,g):=ζ;show hf v u s2 x y H2 I2 e i g
theorem pe_op{op:Operator}{r:R2}(ho:OpR X (binaryOp op) r)(ha:PE X a ta)(hb:PE X b tb):PE X (.BinOp a op b pos) (tOp r ta tb):=by
 intro c s σ H Q I h;show wpAny_BinOp (binT ha hb I h λv u d x y f I2 g e q=>ho c d σ f x y v u Q I2 g e q)
theorem pe_un{op:UnaryOp}{r:V->Hp->VK->Prop}(ho:UnR X (unaryOp op) r)(ha:PE X a ta):PE X (.UnaryOp op a pos) (tUn r ta):=by
 intro b s σ H Q I h;show UnaryOp_ (thn (ha b s σ H _ I h) λv c ζ=>by let(x,e,I1,f,d):=ζ;show ho b c σ e x v Q I1 f d)
theorem opI{f:Value->Value->Sem Value}{C:Int->Int->Prop}{g:Int->Int->Int}
  (rule:∀(i j:Int)(t u:Tok)(s:Shared)(Q:Value->Shared->Prop)(E:Value->Shared->Prop),C i j->Q (.int (g i j) s.toks) { s with toks:=s.toks+1 }->wpAny (model X.prog X.w) X.A (f (.int i t) (.int j u)) Q E s) :
  OpR X f (rI C λi j=>.int (g i j)):=by
 intro a s σ H x y v u Q I c b h;let(i,j,rfl,rfl,d,q):=h;let(t,rfl):=c;let(e,rfl):=b;show rule i j t e s _ _ d ⟨.int (g i j),H,I.tok _,⟨_,rfl⟩,q⟩
theorem opI0{f:Value->Value->Sem Value}{g:Int->Int->Int}
  (rule:∀(i j:Int)(t u:Tok)(s:Shared)(Q:Value->Shared->Prop)(E:Value->Shared->Prop),Q (.int (g i j) s.toks) { s with toks:=s.toks+1 }->wpAny (model X.prog X.w) X.A (f (.int i t) (.int j u)) Q E s) :
  OpR X f (rI0 λi j=>.int (g i j)):=by
 intro a s σ H x y v u Q I c b h;let(i,j,rfl,rfl,q):=h;let(t,rfl):=c;let(d,rfl):=b;show rule i j t d s _ _ ⟨.int (g i j),H,I.tok _,⟨_,rfl⟩,q⟩
theorem opB0{f:Value->Value->Sem Value}{g:Int->Int->Bool}
  (rule:∀(i j:Int)(t u:Tok)(s:Shared)(Q:Value->Shared->Prop)(E:Value->Shared->Prop),Q (.bool (g i j)) s->wpAny (model X.prog X.w) X.A (f (.int i t) (.int j u)) Q E s) :
  OpR X f (rI0 λi j=>.bl (g i j)):=by
 intro a s σ H x y v u Q I c b h;let(i,j,rfl,rfl,q):=h;let(t,rfl):=c;let(d,rfl):=b;show rule i j t d s _ _ ⟨.bl (g i j),H,I,rfl,q⟩
def CPow(i j:Int):Prop:=0<=j/\j<=1000000/\i.natAbs<2 ^ 64
theorem Jmu:OpR X (binaryOp .Add) (rI0 λi j=>.int (i+j)):=opI0 λ_ _ _ _ _ _ _ q=>add_int q
theorem JdM:OpR X (binaryOp .Sub) (rI0 λi j=>.int (i-j)):=opI0 λ_ _ _ _ _ _ _ q=>sub_int q
theorem Jlo:OpR X (binaryOp .Mod) (rI (λ_ j=>j≠0) λi j=>.int (i.fmod j)):=opI λ_ _ _ _ _ _ _ a q=>mod_int' a q
theorem JmA:OpR X (binaryOp .Pow) (rI CPow λi j=>.int (i ^ j.toNat)):=opI λ_ _ _ _ _ _ _ a q=>pow_int_small a.1 a.2.1 a.2.2 q
theorem unI{f:Value->Sem Value}{g:Int->Int}
  (rule:∀(i:Int)(t:Tok)(s:Shared)(Q:Value->Shared->Prop)(E:Value->Shared->Prop),Q (.int (g i) s.toks) { s with toks:=s.toks+1 }->wpAny (model X.prog X.w) X.A (f (.int i t)) Q E s) :
  UnR X f (rU λi=>.int (g i)):=by
 intro a s σ H x v Q I b h;let(i,rfl,q):=h;let(t,rfl):=b;show rule i t s _ _ ⟨.int (g i),H,I.tok _,⟨_,rfl⟩,q⟩
theorem JeH:UnR X (unaryOp .USub) (rU λi=>.int (-i)):=unI λ_ _ _ _ _ q=>neg_int q
def scal:V->V->Bool
 | .non, .non=>true | .non, .int _=>true | .int _, .non=>true | .non, .bl _=>true | .bl _, .non=>true | .non, .str _=>true | .str _, .non=>true
 | .int _, .int _=>true | .bl _, .bl _=>true | .str _, .str _=>true | .byt _, .byt _=>true
 | .int _, .str _=>true | .str _, .int _=>true | .bl _, .str _=>true | .str _, .bl _=>true
 | _,_=>false
def rEq:R2:=λx y H Q=>scal x y=true/\Q (.bl (decide (x=y))) H
def rNe:R2:=λx y H Q=>scal x y=true/\Q (.bl (!decide (x=y))) H
theorem Jil{i j:Int}:decide (V.int i=V.int j)=(i == j):=by
 rw[Bool.eq_iff_iff];simp
theorem Jkk{i j:Bool}:decide (V.bl i=V.bl j)=(i == j):=by
 rw[Bool.eq_iff_iff];simp
theorem Jim{i j:Str}:decide (V.str i=V.str j)=(i == j):=by
 rw[Bool.eq_iff_iff];simp
theorem Jik{i j:Array UInt8}:decide (V.byt i=V.byt j)=(i.toList == j.toList):=by
 rw[Bool.eq_iff_iff];cases i;cases j;simp
theorem JaO{s:Shared}{Q:VK}{k k':Bool}(I:Inv X pins σ H s)(q:Q (.bl k) H)(e:k=k'):EP X pins σ Q (.bool k') s:=by
 subst e;show(.bl k,H,I,rfl,q)
theorem op_eq:OpR X (compareOp .Eq) rEq:=by
 intro e s σ H x y v u Q I d a h;let(c,q):=h;cases x with
 | non=>
  cases d;cases y with
  | non=>cases a;show PySem.EqNone.eq_none_none (JaO I q (by simp))
  | bl j=>cases a;show PySem.EqNone.eq_none_bool (JaO I q (by simp))
  | int j=>let(b,rfl):=a;show PySem.EqNone.eq_none_int (JaO I q (by simp))
  | str j=>let(b,rfl):=a;show PySem.EqNone.eq_none_str (JaO I q (by simp))
  | _=>show absurd (show false=true from c) Bool.false_ne_true
 | bl i=>
  cases d;cases y with
  | non=>cases a;show PySem.EqNone.eq_bool_none (JaO I q (by simp))
  | bl j=>cases a;show eq_bool (JaO I q Jkk)
  | str j=>let(b,rfl):=a;show PySem.EqMixed.eq_bool_str (JaO I q (by simp))
  | _=>show absurd (show false=true from c) Bool.false_ne_true
 | int i=>
  let(t,rfl):=d;cases y with
  | non=>cases a;show PySem.EqNone.eq_int_none (JaO I q (by simp))
  | int j=>let(b,rfl):=a;show eq_int (JaO I q Jil)
  | str j=>let(b,rfl):=a;show PySem.EqMixed.eq_int_str (JaO I q (by simp))
  | _=>show absurd (show false=true from c) Bool.false_ne_true
 | str i=>
  let(t,rfl):=d;cases y with
  | non=>cases a;show PySem.EqNone.eq_str_none (JaO I q (by simp))
  | bl j=>cases a;show PySem.EqMixed.eq_str_bool (JaO I q (by simp))
  | int j=>let(b,rfl):=a;show PySem.EqMixed.eq_str_int (JaO I q (by simp))
  | str j=>let(b,rfl):=a;show eq_str (JaO I q Jim)
  | _=>show absurd (show false=true from c) Bool.false_ne_true
 | byt i=>
  let(t,rfl):=d;cases y with
  | byt j=>let(b,rfl):=a;show W.eq_bytes (JaO I q Jik)
  | _=>show absurd (show false=true from c) Bool.false_ne_true
 | _=>cases y <;> show absurd (show false=true from c) Bool.false_ne_true
theorem op_ne:OpR X (compareOp .NotEq) rNe:=by
 intro e s σ H x y v u Q I d a h;let(c,q):=h;cases x with
 | non=>
  cases d;cases y with
  | non=>cases a;show PySem.EqNone.ne_none_none (JaO I q (by simp))
  | bl j=>cases a;show PySem.EqNone.ne_none_bool (JaO I q (by simp))
  | int j=>let(b,rfl):=a;show PySem.EqNone.ne_none_int (JaO I q (by simp))
  | str j=>let(b,rfl):=a;show PySem.EqNone.ne_none_str (JaO I q (by simp))
  | _=>show absurd (show false=true from c) Bool.false_ne_true
 | bl i=>
  cases d;cases y with
  | non=>cases a;show PySem.EqNone.ne_bool_none (JaO I q (by simp))
  | bl j=>cases a;show ne_bool (JaO I q (congrArg not Jkk))
  | str j=>let(b,rfl):=a;show PySem.EqMixed.ne_bool_str (JaO I q (by simp))
  | _=>show absurd (show false=true from c) Bool.false_ne_true
 | int i=>
  let(t,rfl):=d;cases y with
  | non=>cases a;show PySem.EqNone.ne_int_none (JaO I q (by simp))
  | int j=>let(b,rfl):=a;show ne_int (JaO I q (congrArg not Jil))
  | str j=>let(b,rfl):=a;show PySem.EqMixed.ne_int_str (JaO I q (by simp))
  | _=>show absurd (show false=true from c) Bool.false_ne_true
 | str i=>
  let(t,rfl):=d;cases y with
  | non=>cases a;show PySem.EqNone.ne_str_none (JaO I q (by simp))
  | bl j=>cases a;show PySem.EqMixed.ne_str_bool (JaO I q (by simp))
  | int j=>let(b,rfl):=a;show PySem.EqMixed.ne_str_int (JaO I q (by simp))
  | str j=>let(b,rfl):=a;show ne_str (JaO I q (congrArg not Jim))
  | _=>show absurd (show false=true from c) Bool.false_ne_true
 | byt i=>
  let(t,rfl):=d;cases y with
  | byt j=>let(b,rfl):=a;show W.ne_bytes (JaO I q (congrArg not Jik))
  | _=>show absurd (show false=true from c) Bool.false_ne_true
 | _=>cases y <;> show absurd (show false=true from c) Bool.false_ne_true
theorem op_lt:OpR X (compareOp .Lt) (rI0 λi j=>.bl (decide (i<j))):=opB0 λ_ _ _ _ _ _ _ q=>lt_int q
theorem op_gt:OpR X (compareOp .Gt) (rI0 λi j=>.bl (decide (j<i))):=opB0 λ_ _ _ _ _ _ _ q=>gt_int q
theorem op_ge:OpR X (compareOp .GtE) (rI0 λi j=>.bl (decide (j<=i))):=opB0 λ_ _ _ _ _ _ _ q=>ge_int q
theorem JiN:OpR X (compareOp .In) (λx y H Q=>∃ i j,x=.str i/\y=.str j/\Q (.bl (!(Builtin.Str.occurrences j i 0 j.length 1).isEmpty)) H):=by
 intro a s σ H x y v u Q I c b h;let(i,j,rfl,rfl,q):=h;let(t,rfl):=c;let(d,rfl):=b;show in_str (JaO I q rfl)
theorem Jmz:OpR X (compareOp .Is) (λx y H Q=>y=.non/\Q (.bl (decide (x=.non))) H):=by
 intro a s σ H x y v u Q I b c h;let(rfl,q):=h;cases c;show is_none_gen (JaO I q ?_);cases x <;> first
  | (cases b;rfl)
  | (let(t,rfl):=b;rfl)
theorem Jlr:OpR X (compareOp .IsNot) (λx y H Q=>y=.non/\Q (.bl (!decide (x=.non))) H):=by
 intro a s σ H x y v u Q I b c h;let(rfl,q):=h;cases c;show isnot_none_gen (JaO I q ?_);cases x <;> first
  | (cases b;rfl)
  | (let(t,rfl):=b;rfl)
theorem Jax(b:Expr){op:CmpOp}(h:autoParam (op≠.In) Av)(h2:autoParam (op≠.NotIn) Av):behindInMarks op b=false:=by
 have a:(op == CmpOp.In)=false:=by cases op <;> first | rfl | show absurd rfl h
 have c:(op == CmpOp.NotIn)=false:=by cases op <;> first | rfl | show absurd rfl h2
 cases b <;> simp[behindInMarks,a,c]
variable{op:CmpOp}
theorem Jby{r:R2}(ho:OpR X (compareOp op) r)(ha:PE X a ta)(hb:PE X b tb)(hm:behindInMarks op b=false):PE X (.Compare a [op] [b] pos) (tOp r ta tb):=by
 intro c s σ H Q I h;show wpAny_Compare1 (binT ha hb I h λv u d x y f I2 g e q=>ho c d σ f x y v u Q I2 g e q) hm
def tTest(t:TE):TT:=λσ H Q=>t σ H λx H'=>∃ k,x=.bl k/\Q k H'
theorem Jaw{r:R2}(ho:OpR X (compareOp op) r)(ha:PE X a ta)(hb:PE X b tb)(hm:behindInMarks op b=false):PT X (.Compare a [op] [b] pos) (tTest (tOp r ta tb)):=by
 intro d s σ H Q I h;show wpAny_isTrue_Compare1 (thn (ha d s σ H _ I h) λv o ζ=>?_) hm;let(x,p,I1,g,n):=ζ;show thn (hb d o σ p _ I1 n) λu t ζ=>?_;let(y,f,I2,j,l):=ζ;show thn (ho d t σ f x y v u _ I2 g j l) λc w ζ=>?_;let(z,i,I3,m,k,e,q):=ζ
 subst e;cases m;show wpAny_truthy_bool ⟨i,I3,q⟩
theorem JeZ:(sizeLine:Nat)<2 ^ 63:=by rw[sizeLine_eq];decide
theorem JhV:OpR X (binaryOp .Add) (λx y H Q=>∃ i j,x=.str i/\y=.str j/\i.length+j.length<=sizeLine/\Q (.str (i++j)) H):=by
 intro a s σ H x y v u Q I e d h;let(i,j,rfl,rfl,b,q):=h;let(t,rfl):=e;let(c,rfl):=d;show add_str (λc f=>⟨.str (i++j),H,I.tok _,⟨_,rfl⟩,q⟩) b
variable{x:V}
theorem vals1(r:Vals [x] us):∃ u,us=[u]/\RelV x u:=by
 cases r with
 | cons r1 r2=>cases r2;show(_,rfl,r1)
theorem vals2(r:Vals [x,y] us):∃ u w',us=[u,w']/\RelV x u/\RelV y w':=by
 cases r with
 | cons r1 r2=>
  cases r2 with
  | cons r3 r4=>cases r4;show(_,_,rfl,r1,r3)
theorem Jjz:CallR X (.builtin "abs") (λxs H Q=>∃ i,xs=[.int i]/\Q (.int (if i<0 then -i else i)) H):=by
 intro a s σ H xs c Q I r h;let(i,rfl,q):=h;let(u,rfl,t,rfl):=vals1 r;show call_abs_int λu b=>⟨.int (if i<0 then -i else i),H,I.tok _,⟨_,rfl⟩,q⟩
theorem Jic(hc:X.calm=true):CallR X (.builtin "min") (λxs H Q=>∃ i j,xs=[.int i, .int j]/\Q (.int (if j<i then j else i)) H):=by
 intro b s σ H xs g Q I r h;let(i,j,rfl,q):=h;let(u,e,rfl,(t,rfl),(c,rfl)):=vals2 r;show min_two_ints (I.ok.hd hc) λd f k=>⟨_,H,I.kept k,?_,q⟩;by_cases a:j<i
 .rw[if_pos a,if_pos a];show(_,rfl)
 .rw[if_neg a,if_neg a];show(_,rfl)
theorem Jib:CallR X (.type "int") (λxs H Q=>(∃ i,xs=[.int i]/\Q (.int i) H)\/∃ k,xs=[.bl k]/\Q (.int (if k then 1 else 0)) H):=by
 intro a s σ H xs c Q I r h;rcases h with⟨i,rfl,q⟩ | ⟨k,rfl,q⟩
 .let(u,rfl,t,rfl):=vals1 r;show call_int_int ⟨.int i,H,I,⟨_,rfl⟩,q⟩
 .let(u,rfl,b):=vals1 r;cases b;show call_int_bool ⟨.int (if k then 1 else 0),H,I.tok _,⟨_,rfl⟩,q⟩
structure ObjM(h:Heap)(x dx C:Addr)(mA:Str->Option Value):Prop where
 obj:h.get? x=some (W.instObj C dx)
 ns:h.Ns1 dx mA
 ne:dx≠x
variable{dx:Addr}{mA:Str->Option Value}
theorem Jee(n:h.Ns1 dx mA):∃ od,h.get? dx=some od/\∀ name,W.lookIn name od=some (mA name):=by
 let(o,c,l,g,j,d,_,k):=n;show(o,g,λname=>?_);have e:=k name;unfold nsFind findBy at e;rw[<- Array.find?_toList]at e;unfold W.lookIn;rw[j];dsimp only;split
 .rename_i y q;rw[q]at e;show congrArg some e
 .rename_i q;rw[q]at e;have a:c.toList.any (·.refKey)=false:=by
   rw[List.any_eq_false];intro y f;let(z,t,b):=d y (Array.mem_toList_iff.mp f);simp[DictEntry.refKey,b]
  have i:¬ c.toList.any (·.refKey)=true:=by rw[a];show Bool.false_ne_true
  rw[if_neg i];show congrArg some e
variable{x C:Addr}
theorem ObjM.look(I:ObjM h x dx C mA):∃ od,W.InstAt h x (W.instObj C dx) C (some od)/\∀ name,W.lookIn name od=some (mA name) :=
 let⟨od,ho,hl⟩:=Jee I.ns
 ⟨od,⟨I.obj,rfl,rfl,ho⟩,hl⟩
section
variable{name:Str}{v:Value}{w:World}{s:Shared}{K:W.Frag}{f:Addr}
theorem get_map{expr:Bool}{Q:Value->Shared->Prop}(X:K.In s.heap)(I:ObjM s.heap x dx C mA)(hg:W.plainGet K C name=true)(hh:W.hasDictIn K C=true)
  (ha:W.findIn K (.ref C) name=some none) (hv:mA name=some v) (hv':W.handedIn v=true) (h:Q v { s with toks:=s.toks+1 }) :
  wpAny (model prog w) A (getAttr (.ref x) name expr) Q E s:=by
 let(b,J,a):=I.look;show W.get_value X J (W.plainGet_of hg).1 (W.findObj_own hh ha rfl (by rw[a,hv])) hv' h
variable{pl:Sem Bool}
theorem JjD{Q:Value × List Value->Shared->Prop}(X:K.In s.heap)(I:ObjM s.heap x dx C mA)(hg:W.plainGet K C name=true)
  (hf:W.findIn K (.ref C) name=some (some (.ref f))) (ht:W.isFn K (.ref f)=true) (hv:mA name=none) (h:Q (.ref f,[.ref x]) s) :
  wpAny (model prog w) A (getMethod (.ref x) name pl) Q E s:=by
 let(a,J,b):=I.look;show W.method_fn X J (W.plainGet_of hg).1 (W.plainGet_of hg).2 hf (beq_iff_eq.mp ht) (by show(W.lookIn name a).map (·.isSome)=some false;rw[b,hv];rfl) h
theorem JlL{ns:List Str}{Q:Unit->Shared->Prop}(X:K.In s.heap)(I:ObjM s.heap x dx C mA)
  (hs:W.findIn K (.ref C) "__setattr__"=some (some (.builtin "object.__setattr__"))) (hp:W.plainOver K C=true) (ht:W.takerIn K C name=some none) (hh:W.hasDictIn K C=true)
  (hw:PySem.Within mA ns) (hsz:ns.length<=sizeLine)
  (h:∀ h',ObjM h' x dx C (λy=>if y=name then some v else mA y)->Heap.SameBut dx s.heap h'->Q () { s with heap:=h',toks:=s.toks+2 }) :
  wpAny (model prog w) A (setAttr (.ref x) name v) Q E s:=by
 let(o,J,p):=I.look;show W.set_plain X J hs (W.osa_open (s:={ s with toks:=s.toks+1 }) (r:=none) X J hp ht λb=>?_);let(q,l,e):=W.any_some hh;have j:s.heap.get? x=some ⟨.ref C,some dx, .plain, #[]⟩:=I.obj;show wpAny_bind (wpAny_pure (wpAny_bind (wpAny_bind (wpAny_loadPart j (wpAny_bind (W.Looks.here (s:={ s with toks:=s.toks+1 }) (W.looks_clsIn X l) ?_))))));rw[e];show wpAny_pure (a:=some dx) (wpAny_bind (wpAny_pure (wpAny_bind ?_)));show wpAny_nsSet1 (s:={ s with toks:=s.toks+1 }) I.ns λh' d c=>?_;let(n,m,k,f,g,i):=d.count (PySem.Within.cons name v hw);show wpAny_bind (wpAny_lookBehind f (by rw[g];show pastItsLine_dict (Nat.le_trans i (by rw[length_cons];ac_nf))) ?_);show wpAny_pure (h _ ⟨(c.2 _ (Ne.symm I.ne)).trans I.obj,d,I.ne⟩ c)
variable{kw:List (Str × Value)}
theorem JjI{R:Result->Shared->Prop}{vs:List Value}(X:K.In s.heap)(hm:W.makesIn K C=true)
  (hi:W.findIn K (.ref C) "__init__"=some (some (.ref f))) (hf:W.typeIn K (.ref f)=some (.type "function"))
  (h:codeAny (model prog w) (A.under (.builtin "type.__call__" ⟨.ref C::vs,kw⟩)) (.call (.ref f) ⟨.ref (s.heap.objs.size+1)::vs,kw⟩) (W.InitBack (s.heap.objs.size+1) R)
   { s with heap:=(s.heap.push W.emptyDict).push (W.instObj C s.heap.objs.size) }) :
  codeAny (model prog w) A (.call (.ref C) ⟨vs,kw⟩) R s:=by
 let(b,g,d,t,c):=s;show W.make_core (W.makes_of X hm) (W.looks_findIn X hi) (λa=>W.bind_fn X a hf) (.inl rfl) h
end
def putF(f:Str)(v:V):List (Str × V)->List (Str × V)
 | []=>[(f,v)]
 | (g,x)::r=>if g=f then(g,v)::r else(g,x)::putF f v r
theorem Jef(f g:Str)(v:V):∀ fs:List (Str × V),(putF f v fs).lookup g=if g=f then some v else fs.lookup g
 | []=>by
  show List.lookup g [(f,v)]=_;by_cases h:g=f
  .have hb:(g == f)=true:=beq_iff_eq.mpr h;simp only[List.lookup,hb,if_pos h]
  .have hb:(g == f)=false:=beq_eq_false_iff_ne.mpr h;simp only[List.lookup,hb,if_neg h]
 | (k,x)::r=>by
  have ih:=Jef f g v r;rw[show putF f v ((k,x)::r)=(if k=f then(k,v)::r else(k,x)::putF f v r)from rfl];by_cases hk:k=f
  .rw[if_pos hk];by_cases h:g=k
   .have hb:(g == k)=true:=beq_iff_eq.mpr h;simp only[List.lookup,hb,if_pos (h.trans hk)]
   .have hb:(g == k)=false:=beq_eq_false_iff_ne.mpr h;simp only[List.lookup,hb,if_neg (λe:g=f=>h (e.trans hk.symm))]
  .rw[if_neg hk];by_cases h:g=k
   .have hb:(g == k)=true:=beq_iff_eq.mpr h;simp only[List.lookup,hb,if_neg (λe:g=f=>hk (h.symm.trans e))]
   .have hb:(g == k)=false:=beq_eq_false_iff_ne.mpr h;simp only[List.lookup,hb];show ih
theorem Jd9(f:Str)(v:V):∀ fs:List (Str × V),f∈(putF f v fs).map (·.1)/\∀ g,g∈fs.map (·.1)->g∈(putF f v fs).map (·.1)
 | []=>⟨by simp[putF],λg h=>by simp at h⟩
 | (k,x)::r=>by
  let(i1,i2):=Jd9 f v r;rw[show putF f v ((k,x)::r)=(if k=f then(k,v)::r else(k,x)::putF f v r)from rfl];by_cases hk:k=f
  .rw[if_pos hk];subst hk;show(by simp,λg h=>by simpa using h)
  .rw[if_neg hk];show(?_,λg h=>?_)
   .rw[map_cons];show mem_cons_of_mem _ i1
   .rw[map_cons]at h ⊢;rcases mem_cons.mp h with e | e
    .show mem_cons.mpr (.inl e)
    .show mem_cons_of_mem _ (i2 g e)
theorem Jed(f:Str)(v:V):∀ fs:List (Str × V),(putF f v fs).length<=fs.length+1
 | []=>by simp[putF]
 | (k,x)::r=>by
  have ih:=Jed f v r;rw[show putF f v ((k,x)::r)=(if k=f then(k,v)::r else(k,x)::putF f v r)from rfl];by_cases hk:k=f
  .rw[if_pos hk,length_cons,length_cons];ac_nf
  .rw[if_neg hk,length_cons,length_cons];ac_nf
variable{v:V}{o:Option Value}
theorem RelO.some_of(r:RelO (some v) o):∃ u,o=some u/\RelV v u:=by
 cases o with
 | none=>show(show False from r).elim
 | some u=>show(u,rfl,r)
theorem RelO.none_of(r:RelO none o):o=none:=by
 cases o with
 | none=>rfl
 | some u=>show(show False from r).elim
theorem Jf1(r:RelV v u):W.handedIn u=true:=by
 cases v with
 | non=>cases(show u=Value.none from r);rfl
 | bl b=>cases(show u=Value.bool b from r);rfl
 | int i=>let(t,e):=(show∃ t,u=Value.int i t from r);cases e;rfl
 | str x=>let(t,e):=(show∃ t,u=Value.str x t from r);cases e;rfl
 | byt b=>let(t,e):=(show∃ t,u=Value.bytes b t from r);cases e;rfl
 | flt b=>let(t,e):=(show∃ t,u=Value.float b t from r);cases e;rfl
 | ref a=>cases(show u=Value.ref a from r);rfl
 | ty n=>cases(show u=Value.type n from r);rfl
section
variable{h':Heap}{a:Addr}{fs':List (Str × V)}{w:World}{fs:List (Str × V)}
theorem Jfe(hok:HOk P w H h)(e:H a=some (.ins C dx fs)):∃ mA,ObjM h a dx C mA/\(∀ f,RelO (fs.lookup f) (mA f))/\PySem.Within mA (fs.map (·.1))/\fs.length<=1000/\H dx=some (.own a):=by
 let(d,z,b,c,mA,n,r,q):=(show ObjOk P w H h a (.ins C dx fs)from hok a _ e);show(mA,⟨c,n,b⟩,r,q,z,d)
end
structure Cls(K:W.Frag)(C:Addr):Prop where
 pg:W.plainGet K C Str.empty=true
 hd:W.hasDictIn K C=true
 po:W.plainOver K C=true
 sa:W.findIn K (.ref C) "__setattr__"=some (some (.builtin "object.__setattr__"))
theorem Cls.get{K:W.Frag}(c:Cls K C)(f:Str):W.plainGet K C f=true:=c.pg
def JaV(K:W.Frag)(C:Addr)(f:Str):Prop:=W.findIn K (.ref C) f=some none
theorem JaV.taker{K:W.Frag}{f:Str}(n:JaV K C f):W.takerIn K C f=some none:=by
 unfold W.takerIn;rw[show W.findIn K (.ref C) f=some none from n];rfl
structure Meth(K:W.Frag)(C:Addr)(m:Str)(f:Addr):Prop where
 at_:W.findIn K (.ref C) m=some (some (.ref f))
 fn:W.isFn K (.ref f)=true
 kp:W.keepIn K (.ref f)=true
section
variable{a:Addr}{s:Shared}{fs:List (Str × V)}{f:Str}{b:Bool}
theorem JhI{Q:Value->Shared->Prop}(I:Inv X pins σ H s)(e:H a=some (.ins C dx fs))(c:Cls X.K C)(n:JaV X.K C f)(l:fs.lookup f=some v)
  (h:∀ u s',Inv X pins σ H s'->RelV v u->Q u s'):wpAny (model X.prog X.w) A (getAttr (.ref a) f b) Q E s:=by
 let(g,O,r,_,_,_):=Jfe I.hok e;let(u,i,d):=RelO.some_of (v:=v) (o:=g f) (by rw[<- l];show r f);show get_map I.kIn O (c.get f) c.hd n i (Jf1 d) (h u _ (I.tok _) d)
theorem JeY{m:Str}{g:Addr}{pl:Sem Bool}{Q:Value × List Value->Shared->Prop}(I:Inv X pins σ H s)(e:H a=some (.ins C dx fs))(c:Cls X.K C)(k:Meth X.K C m g)(l:fs.lookup m=none)
  (h:Q (.ref g,[.ref a]) s):wpAny (model X.prog X.w) A (getMethod (.ref a) m pl) Q E s:=by
 let(b,O,r,_,_,_):=Jfe I.hok e;have d:b m=none:=RelO.none_of (by rw[<- l];show r m);show JjD I.kIn O (c.get m) k.at_ k.fn d h
theorem Jh0{Q:Unit->Shared->Prop}(I:Inv X pins σ H s)(e:H a=some (.ins C dx fs))(c:Cls X.K C)(n:JaV X.K C f)(hl:fs.length<1000)(ry:RelV y u)
  (h:∀ s',Inv X pins σ (upd H a (.ins C dx (putF f y fs))) s'->Q () s'):wpAny (model X.prog X.w) A (setAttr (.ref a) f u) Q E s:=by
 let(d,O,r,j,_,i):=Jfe I.hok e;have m:(fs.map (·.1)).length<=sizeLine:=by rw[length_map,sizeLine_eq];ac_nf
 show JlL I.kIn O c.sa c.po n.taker c.hd j m λl O' p=>h _ ?_;have v:∃ o,l.get? dx=some o:=let⟨o,_,_,e',_⟩:=O'.ns;⟨o,e'⟩;show I.write (x:=a) (e:=dx) (by rw[e];show True.intro) (.inr i) (λb q k z=>(p.2 b k).trans z) v ?_;show(by rw[Jag O.ne];show i,?_,O.ne,O'.obj,_,O'.ns,λg=>?_,λg t=>?_)
 .have:=Jed f y fs;ac_nf
 .show RelO ((putF f y fs).lookup g) (if g=f then some u else d g);rw[Jef];by_cases q:g=f
  .rw[if_pos q,if_pos q];show ry
  .rw[if_neg q,if_neg q];show r g
 .by_cases q:g=f
  .rw[q];show(Jd9 f y fs).1
  .show(Jd9 f y fs).2 g (j g λz=>t ?_);show(if g=f then some u else d g)=none;rw[if_neg q];show z
theorem Inv.made(I:Inv X pins σ H s):Inv X pins σ (upd (upd H s.heap.objs.size (.own (s.heap.objs.size+1))) (s.heap.objs.size+1) (.ins C s.heap.objs.size []))
  { s with heap:=(s.heap.push W.emptyDict).push (W.instObj C s.heap.objs.size) }:=by
 have c:(s.heap.push W.emptyDict).get? s.heap.objs.size=some W.emptyDict:=Heap.get?_push_size s.heap rfl;have h:((s.heap.push W.emptyDict).push (W.instObj C s.heap.objs.size)).get? (s.heap.objs.size+1)=some (W.instObj C s.heap.objs.size):=by
  have:=Heap.get?_push_size (s.heap.push W.emptyDict) (o:=W.instObj C s.heap.objs.size) rfl
  rwa [Heap.size_push]at this
 have g:(s.heap.push W.emptyDict).Ns s.heap.objs.size (λ_=>none):=⟨W.emptyDict, #[],_,c,rfl,(λe f=>absurd f (by simp)),λ_=>rfl⟩;have I1:=I.laid (a:=s.heap.objs.size) (o:=.own (s.heap.objs.size+1)) (h':=s.heap.push W.emptyDict) (t':=s.toks) (λb u q=>Heap.get?_push_of_some _ q) (Nat.le_refl _) ⟨_,c⟩;show I1.laid (a:=s.heap.objs.size+1) (o:=.ins C s.heap.objs.size []) (t':=s.toks) (λb u q=>Heap.get?_push_of_some _ q) (Nat.le_of_eq (Heap.size_push _ _)) ?_;have d:s.heap.objs.size≠s.heap.objs.size+1:=Nat.ne_of_lt (Nat.lt_succ_self _);show(by rw[Jag d,Jaj],Nat.zero_le _,d,h,λ_=>none,(Heap.Ns1.of_empty g).at λo q=>Heap.get?_push_of_some _ q,λ_=>True.intro,λy i=>absurd rfl i)
variable{Q:Value->Shared->Prop}
theorem Jh7{w:World}{env:Env}{f:Str}{s:Shared}(hb:attributeBase e f env (eval e env)=eval e env)
  (h:wpAny (model prog w) A (eval e env) (λo s₁=>wpAny (model prog w) A (getAttr o f true) Q E s₁) E s):wpAny (model prog w) A (eval (.Attribute e f pos) env) Q E s :=
 Attribute_any_ h (by rw[arm_eval_Attribute,hb])
end
def tFld(K:W.Frag)(ta:TE)(f:Str):TE:=λσ H Q=>ta σ H λx H1=>∃ a C dx fs v,x=.ref a/\H1 a=some (.ins C dx fs)/\Cls K C/\JaV K C f/\fs.lookup f=some v/\Q v H1
def sFld(K:W.Frag)(ta tv:TE)(f:Str):TS:=λD σ H=>tv σ H λy H1=>ta σ H1 λx H2=>∃ a C dx fs,x=.ref a/\H2 a=some (.ins C dx fs)/\Cls K C/\JaV K C f/\fs.length<1000 /\
 D.nx σ (upd H2 a (.ins C dx (putF f y fs)))
section
variable{o value:Expr}{tpos:Pos}{tv:TE}{f:Str}
theorem Jar(he:PE X e ta)(hb:attributeBase e f X.env (eval e X.env)=eval e X.env):PE X (.Attribute e f pos) (tFld X.K ta f):=by
 intro b s σ H Q I h;show Jh7 hb (thn (he b s σ H _ I h) λu p ζ=>?_);let(x,k,I1,d,a,C,o,r,v,g,i,c,n,l,q):=ζ;subst g;obtain rfl:u=Value.ref a:=d;show JhI I1 i c n l λm t I2 j=>⟨v,k,I2,j,q⟩
theorem Ja5(ha:PE X o ta)(hv:PE X value tv)(hs:swapsWith value (some (.Attribute o f pos')) pos.line X.env=pure false):PS X (.Assign [.Attribute o f pos'] value pos) (sFld X.K ta tv f):=by
 intro b s σ H D I h;show plainObj_wpAny_Assign_Attribute (thn (hv b s σ H _ I h) λu k ζ=>?_) hs;let(y,m,I1,d,q):=ζ;show thn (ha b k σ m _ I1 q) λp z ζ=>?_;let(x,t,I2,e,a,C,v,w,i,j,c,n,l,g):=ζ;subst i;obtain rfl:p=Value.ref a:=e;show Jh0 I2 j c n l d λr I3=>⟨σ,_,I3,g⟩
end
section
variable{Q:Value->Shared->Prop}{c:Value}{b:Bool}{s:Shared}
inductive TyOf(K:W.Frag)(H:Hp):V->Value->Prop where
 | non:TyOf K H .non (.type "NoneType")
 | bl (x:Bool):TyOf K H (.bl x) (.type "bool")
 | int (i:Int):TyOf K H (.int i) (.type "int")
 | str (x:Str):TyOf K H (.str x) (.type "str")
 | flt (x:UInt64):TyOf K H (.flt x) (.type "float")
 | lst {a:Addr} {xs:List V} (e:H a=some (.lst xs)):TyOf K H (.ref a) (.type "list")
 | frz {a:Addr} {o:Obj} {xs:List V} (e:H a=some (.frz o (.lst xs))):TyOf K H (.ref a) (.type "list")
 | tup {a:Addr} {xs:List V} (e:H a=some (.tup xs)):TyOf K H (.ref a) (.type "tuple")
 | dK {a:Addr} {kvs:List (Key × V)} (e:H a=some (.dK kvs)):TyOf K H (.ref a) (.type "dict")
 | dT {a:Addr} {kvs:List (List Key × V)} (e:H a=some (.dT kvs)):TyOf K H (.ref a) (.type "dict")
 | ins {a C dx:Addr} {fs:List (Str × V)} (e:H a=some (.ins C dx fs)) (cl:Cls K C) (ha:W.findIn K (.ref C) "__class__"=some (some (.builtin "object.__class__")))
   (hn:W.specialIn K (.builtin "object.__class__") "__get__"=some (some (.builtin "getset_descriptor.__get__"))) (htk:W.takesIn K (.builtin "object.__class__")=some true)
   (hm:W.mroIn K C (.type "object")=some true):TyOf K H (.ref a) (.ref C)
theorem Jiw{x:V}{t:Value}(I:Inv X pins σ H s)(rx:RelV x u)(ty:TyOf X.K H x t)(e:W.kitOne X.K t c=some b)(h:∀ tk,Q (.bool b) { s with toks:=tk }) :
  wpAny (model X.prog X.w) A (call (.builtin "isinstance") [u,c]) Q E s:=by
 cases ty with
 | non=>cases(show u=Value.none from rx);show W.kia_one W.kitx_none I.kIn True.intro e (λz=>nomatch z) h
 | bl y=>cases(show u=Value.bool y from rx);show W.kia_one W.kitx_bool I.kIn True.intro e (λz=>nomatch z) h
 | int i=>let(t,q):=(show∃ t,u=Value.int i t from rx);cases q;show W.kia_one W.kitx_int I.kIn True.intro e (λz=>nomatch z) h
 | str y=>let(t,q):=(show∃ t,u=Value.str y t from rx);cases q;show W.kia_one W.kitx_str I.kIn True.intro e (λz=>nomatch z) h
 | flt y=>let(t,q):=(show∃ t,u=Value.float y t from rx);cases q;show W.kia_one W.kitx_float I.kIn True.intro e (λz=>nomatch z) h
 | @lst a f ea=>
  cases(show u=Value.ref a from rx);let(_,_,n,_,d):=(show ObjOk X.prog X.w H s.heap a (.lst f)from I.hok a _ ea);show W.kia_one W.kitx_list I.kIn ⟨_,d,rfl⟩ e (λz=>nomatch z) h
 | @frz a ob f ea=>
  cases(show u=Value.ref a from rx);let(_,_,_,n,_,d):=(show ObjOk X.prog X.w H s.heap a (.frz ob (.lst f))from I.hok a _ ea);show W.kia_one W.kitx_list I.kIn ⟨_,d,rfl⟩ e (λz=>nomatch z) h
 | @tup a f ea=>
  cases(show u=Value.ref a from rx);let(_,_,_,p):=(show ObjOk X.prog X.w H s.heap a (.tup f)from I.hok a _ ea);let(o,d,g,_):=p;show W.kia_one W.kitx_tuple I.kIn ⟨o,d,g⟩ e (λz=>nomatch z) h
 | @dK a kvs ea=>
  cases(show u=Value.ref a from rx);let(_,_,m,_,p):=(show ObjOk X.prog X.w H s.heap a (.dK kvs)from I.hok a _ ea);let(o,j,k,d,g,_):=p;show W.kia_one W.kitx_dict I.kIn ⟨o,d,g.1⟩ e (λz=>nomatch z) h
 | @dT a kvs ea=>
  cases(show u=Value.ref a from rx);let(_,_,f,_,o,j,k,d,g,_):=(show ObjOk X.prog X.w H s.heap a (.dT kvs)from I.hok a _ ea);show W.kia_one W.kitx_dict I.kIn ⟨o,d,g.1⟩ e (λz=>nomatch z) h
 | @ins a C dx fs ea cl ha hn htk hm=>
  cases(show u=Value.ref a from rx);let(l,O,_):=Jfe I.hok ea;let(r,J,_):=O.look;show W.kia_one (W.kitx_own (cl.get _) cl.hd ha hn htk hm) I.kIn J e (λz=>nomatch z) h
end
structure Room(k:Nat)(A:Around):Prop where
 hd:A.handled=none
 dp:A.depth+3*k+5<recursionLimit
 un:A.units+16*k+200<cLine
theorem Room.mono{j k:Nat}(r:Room k A)(h:j<=k):Room j A:=⟨r.hd,by have:=r.dp;ac_nf,by have:=r.un;ac_nf⟩
theorem Room.deeper{k:Nat}(r:Room (k+1) A)(env:Env):Room k (A.deeper env) :=
 ⟨r.hd,by have:=r.dp;show A.depth+1+3*k+5<_;ac_nf,by have:=r.un;show A.units+3+16*k+200<_;ac_nf⟩
variable{kw:List (Str × Value)}
theorem JhM:(A.under (.builtin "type.__call__" ⟨.ref C::us,kw⟩)).depth=A.depth+1:=by
 first | rfl | simp[Around.under,Code.weight,Code.isCreation,Code.isGuard,Code.isCaller,Code.frames,Code.isFrame,guardIds]
theorem JhN:(A.under (.builtin "type.__call__" ⟨.ref C::us,kw⟩)).units=A.units+1:=by
 first | rfl | simp[Around.under,Code.cUnits,Code.frames,Code.isFrame]
theorem Room.make{k:Nat}(r:Room (k+1) A)(C:Addr)(us:List Value)(kw:List (Str × Value)):Room k (A.under (.builtin "type.__call__" ⟨.ref C::us,kw⟩)) :=
 ⟨r.hd,by have:=r.dp;rw[JhM];ac_nf,by have:=r.un;rw[JhN];ac_nf⟩
theorem Room.depth{k:Nat}(r:Room k A):A.depth<recursionLimit:=by have:=r.dp;ac_nf
theorem Room.units{k:Nat}(r:Room k A):A.units+64<cLine:=by have:=r.un;ac_nf
def tNil:TA:=λ_ H Q=>Q [] H
def tCons(ta:TE)(tr:TA):TA:=λσ H Q=>ta σ H λx H1=>tr σ H1 λxs H2=>Q (x::xs) H2
section
variable{t:TA}
theorem Jac:PA X [] tNil:=λ_ _ _ _ H Q I h=>Calls.spliced_nil ⟨[],H,I, .nil,h⟩
theorem Jlt(ha:PE X e te)(hr:PA X es t)(hs:autoParam (starEach (e::es) X.env=(false,eval e X.env)::starEach es X.env) Au):PA X (e::es) (tCons te t):=by
 intro b a s σ H Q I h;rw[hs];show wpAny _ _ (spliced ((false,eval e X.env)::backTo b (starEach es X.env))) _ _ s;show Calls.spliced_cons (thn (ha a s σ H _ I h) λu j ζ=>?_);let(x,l,I1,d,i):=ζ;show thn (hr b a j σ l _ I1 i) λn m ζ=>by let(k,c,I2,f,g):=ζ;show(x::k,c,I2, .cons d f,g)
def tTup(t:TA):TE:=λσ H Q=>t σ H λxs H1=>xs.length<=sizeLine/\∀ p,H1 p=none->Q (.ref p) (upd H1 p (.tup xs))
def tLst(t:TA):TE:=λσ H Q=>t σ H λxs H1=>xs.length<=sizeLine/\∀ p,H1 p=none->Q (.ref p) (upd H1 p (.lst xs))
theorem JaJ{x1}(h:PA X es t):PE X (.Tuple es x1 pos) (tTup t):=by
 intro a s σ H Q I i;show wpAny_Tuple_spliced (thn (h pos a s σ H _ I i) λj c ζ=>?_);let(f,d,I1,r,z,q):=ζ;show(by rw[<- r.length];show z,?_);have g:d c.heap.objs.size=none:=I1.hok.fresh (Nat.le_refl _);show(.ref c.heap.objs.size,upd d c.heap.objs.size (.tup f),I1.laid (t':=c.toks) (λb u e=>Heap.get?_push_of_some _ e) (Nat.le_refl _) ?_,rfl,q _ g);show(z,j,r,⟨_,Heap.get?_push_size _ rfl,rfl,_,rfl⟩)
theorem Jbc(h:PA X es t):PE X (.List es pos) (tLst t):=by
 intro a s σ H Q I i;show wpAny_List_spliced (thn (h pos a s σ H _ I i) λj c ζ=>?_);let(f,d,I1,r,z,q):=ζ;show(by rw[<- r.length];show z,?_);have g:d c.heap.objs.size=none:=I1.hok.fresh (Nat.le_refl _);show(.ref c.heap.objs.size,upd d c.heap.objs.size (.lst f),I1.laid (t':=c.toks) (λb u e=>Heap.get?_push_of_some _ e) (Nat.le_refl _) ?_,rfl,q _ g);show(z,j,0,r,Heap.get?_push_size _ rfl)
end
abbrev Sp:=List V->Hp->VK->XK->Prop
abbrev CXT:=List Env->Hp->Shared->XK->Value->Shared->Prop
structure Env0(P:Program)(w:World)(K:W.Frag)(mg:Str->Option Value)(base:Heap)(A:Around)(outer:List Env)(s:Shared)(H:Hp):Prop where
 frames:A.frames=some outer
 mod:Mod K mg base
 bs:∀ b o,base.get? b=some o->s.heap.get? b=some o/\H b=none
 bsz:base.objs.size<=s.heap.objs.size
 funs:s.heap.FunFrames base outer
 frf:∀ b∈frs outer,H b=none
 hok:HOk P w H s.heap
 bare:AllBare s.gens
def CE(outer:List Env)(P:Program)(w:World)(H:Hp)(s:Shared)(Q:VK)(u:Value)(s':Shared):Prop :=
 ∃ v H',s'.os=s.os/\AllBare s'.gens/\Un (frs outer) [] H H' s.heap s'.heap/\HOk P w H' s'.heap/\RelV v u/\Q v H'
def CR(CX:CXT)(outer:List Env)(P:Program)(w:World)(H:Hp)(s:Shared)(Q:VK)(E:XK)(r:Result)(s':Shared):Prop :=
 match r with
 | .ok (.ret u)=>CE outer P w H s Q u s'
 | .ok _=>False
 | .error e=>CX outer H s E e s'
structure FnOk(P:Program)(w:World)(K:W.Frag)(mg:Str->Option Value)(base:Heap)(CX:CXT)(k:Nat)(f:Addr)(fd:FuncData)(ps:List Str)(sp:Sp):Prop where
 len:∀ vs H Q E,sp vs H Q E->vs.length=ps.length
 run:∀(A:Around)(outer:List Env)(s:Shared)(H:Hp)(args:Args)(us:List Value)(vs:List V)(Q:VK)(E:XK),Room k A->Env0 P w K mg base A outer s H->BindsTo s fd args (ps.zip us)->Vals vs us->sp vs H Q E ->
  codeAny (model P w) A (.call (.ref f) args) (CR CX outer P w H s Q E) s
variable{mg:Str->Option Value}{base:Heap}{outer:List Env}
theorem Env0.make{w:World}{K:W.Frag}{s:Shared}(e:Env0 P w K mg base A outer s H)(C:Addr)(us:List Value)(kw:List (Str × Value)) :
  Env0 P w K mg base (A.under (.builtin "type.__call__" ⟨.ref C::us,kw⟩)) outer s H:=⟨by first | show e.frames | (simpa[Around.under,Code.envs,Code.isFrame,pushEnvs]using e.frames),e.mod,e.bs,e.bsz,e.funs,e.frf,e.hok,e.bare⟩
section
variable{s':Shared}{s:Shared}
theorem Inv.env0(I:Inv X pins σ H s):Env0 X.prog X.w X.K X.mg X.base X.A X.stack s H :=
 ⟨I.ok.frames,I.ok.mod,I.bs,Nat.le_trans I.ok.bsz I.sz,I.stack,I.stkFree,I.hok,I.bare⟩
variable{Q:VK}
theorem Inv.after(I:Inv X pins σ H s)(h:CE X.stack X.prog X.w H s Q u s'):EP X pins σ Q u s':=by
 let(v,k,j,a,i,c,r,q):=h;let(f,g,d,t,e):=s';obtain rfl:e=s.os:=j;show(v,k,I.call (h':=f) (g':=g) (d':=d) (t':=t) (ch:=[]) i c a (λb z=>absurd z (by simp)),r,q)
end
def tCall(sp:Sp)(dvs:List V)(E:XK)(t:TA):TE:=λσ H Q=>t σ H λvs H1=>sp (vs++dvs) H1 Q E
def tMake(C:Addr)(sp:Sp)(dvs:List V)(E:XK)(t:TA):TE:=λσ H Q=>t σ H λvs H1=>∀ x dx,H1 x=none->H1 dx=none->dx≠x ->
 sp (.ref x::(vs++dvs)) (upd (upd H1 dx (.own x)) x (.ins C dx [])) (λv H2=>v=.non/\Q (.ref x) H2) E
def Binds(K:W.Frag)(fd:FuncData)(ps:List Str)(ds:List Value):Prop :=
 ∀(s:Shared)(us:List Value),K.In s.heap->(us++ds).length=ps.length->BindsTo s fd ⟨us,[]⟩ (ps.zip (us++ds))
variable{fd:FuncData}{ps:List Str}
theorem Binds.all{K:W.Frag}(h:∀ us:List Value,us.length=ps.length->bindArgs fd ⟨us,[]⟩=pure (ps.zip us)):Binds K fd ps []:=λs us _ a=>by
 rw[append_nil]at a ⊢;show .of_eq (h us a)
def JbZ(CX:CXT)(X:Cx)(E:XK):Prop:=∀(pins:List (Addr × Obj))(σ : St)(H:Hp)(s:Shared)(e:Value)(s':Shared),Inv X pins σ H s->CX X.stack H s E e s'->X.xe e s'
section
variable{CX:CXT}{sp:Sp}{dvs:List V}{ds:List Value}{E:XK}{x:Str}{p apos:Pos}{o:Expr}{k:Nat}{f:Addr}{m:Str}{t:TA}{Q:VK}{vs:List V}
theorem Ji1{s:Shared}(F:FnOk X.prog X.w X.K X.mg X.base CX k f fd ps sp)(hr:Room k X.A)(hb:Binds X.K fd ps ds)(hd:Vals dvs ds)(hx:JbZ CX X E)
  (I:Inv X pins σ H s) (r:Vals vs us) (h:sp (vs++dvs) H Q E):wpAny (model X.prog X.w) X.A (call (.ref f) us) (EP X pins σ Q) X.xe s:=by
 have b:Vals (vs++dvs) (us++ds):=r.append hd;have d:(us++ds).length=ps.length:=by rw[<- b.length];show F.len _ _ _ _ h
 show wpAny_call (codeAny_mono (F.run X.A X.stack s H ⟨us,[]⟩ (us++ds) (vs++dvs) Q E hr I.env0 (hb s us I.kIn d) b h) λr c a=>?_);cases r with
 | error e=>show hx pins σ H s e c I a
 | ok fl=>
  cases fl with
  | ret u=>show I.after a
  | next=>show False.elim a
  | brk=>show False.elim a
  | cont=>show False.elim a
theorem Jlu(F:FnOk X.prog X.w X.K X.mg X.base CX k f fd ps sp)(hr:Room k X.A)(hg:Gl X x)(hm:X.mg x=some (.ref f))(hk:W.keepIn X.K (.ref f)=true)(hb:Binds X.K fd ps ds)(hd:Vals dvs ds)(hx:JbZ CX X E)
  (ha:PA X (e::es) t) (hdb:autoParam ((x == ("__debug__" : Str))=false) Av) (he:autoParam (starEach (e::es) X.env=(false,eval e X.env)::starEach es X.env) Au) (hpl:autoParam ((backTo pos (starEach es X.env)).any (·.1)=false) Au) :
  PE X (.Call (.Name x p) (e::es) [] pos) (tCall sp dvs E t):=by
 intro a s σ H Q I h;show wpAny_Call_Name_kw (Jcv I hg hm ?_ hdb);show W.callWith_K (h₀:=X.base) I.ok.mod.kin hk (thn (ha pos a s σ H _ I h) λg b ζ=>?_) he hpl;let(c,d,I1,r,q):=ζ;show(I1.kIn,?_);show Ji1 F hr hb hd hx I1 r q
structure Mk(K:W.Frag)(C f:Addr):Prop where
 makes:W.makesIn K C=true
 init:W.findIn K (.ref C) "__init__"=some (some (.ref f))
 fn:W.isFn K (.ref f)=true
 kp:W.keepIn K (.ref C)=true
theorem Jht{s:Shared}(M:Mk X.K C f)(F:FnOk X.prog X.w X.K X.mg X.base CX k f fd ps sp)(hr:Room (k+1) X.A)(hb:Binds X.K fd ps ds)(hd:Vals dvs ds)
  (hx:JbZ CX X E) (I:Inv X pins σ H s) (r:Vals vs us)
  (h:∀ x dx,H x=none->H dx=none->dx≠x->sp (.ref x::(vs++dvs)) (upd (upd H dx (.own x)) x (.ins C dx [])) (λv H2=>v=.non/\Q (.ref x) H2) E) :
  wpAny (model X.prog X.w) X.A (call (.ref C) us) (EP X pins σ Q) X.xe s:=by
 have c:=h (s.heap.objs.size+1) s.heap.objs.size (I.hok.fresh (Nat.le_succ _)) (I.hok.fresh (Nat.le_refl _)) (Nat.ne_of_lt (Nat.lt_succ_self _));have I2:=Inv.made (C:=C) I;have b:Vals (V.ref (s.heap.objs.size+1)::(vs++dvs)) (Value.ref (s.heap.objs.size+1)::(us++ds)):=.cons rfl (r.append hd);have j:(Value.ref (s.heap.objs.size+1)::us++ds).length=ps.length:=by
  have e:=b.length;rw[F.len _ _ _ _ c]at e;show e.symm
 show wpAny_call (JjI (f:=f) I.kIn M.makes M.init (beq_iff_eq.mp M.fn) (codeAny_mono (F.run _ X.stack _ _ ⟨Value.ref (s.heap.objs.size+1)::us,[]⟩ (Value.ref (s.heap.objs.size+1)::(us++ds)) _ _ E (hr.make C us [])
  (I2.env0.make C us []) (hb _ (Value.ref (s.heap.objs.size+1)::us) I2.kIn j) b c) λr d a=>?_))
 cases r with
 | error e=>show hx pins σ _ _ e d I2 a
 | ok fl=>
  cases fl with
  | ret u=>
   let(v,l,I3,m,g,i):=I2.after a;subst g;show(m,⟨V.ref (s.heap.objs.size+1),l,I3,rfl,i⟩)
  | next=>show False.elim a
  | brk=>show False.elim a
  | cont=>show False.elim a
theorem Jly(M:Mk X.K C f)(F:FnOk X.prog X.w X.K X.mg X.base CX k f fd ps sp)(hr:Room (k+1) X.A)(hg:Gl X x)(hm:X.mg x=some (.ref C))(hb:Binds X.K fd ps ds)(hd:Vals dvs ds)(hx:JbZ CX X E)
  (ha:PA X (e::es) t) (hdb:autoParam ((x == ("__debug__" : Str))=false) Av) (he:autoParam (starEach (e::es) X.env=(false,eval e X.env)::starEach es X.env) Au) (hpl:autoParam ((backTo pos (starEach es X.env)).any (·.1)=false) Au) :
  PE X (.Call (.Name x p) (e::es) [] pos) (tMake C sp dvs E t):=by
 intro a s σ H Q I h;show wpAny_Call_Name_kw (Jcv I hg hm ?_ hdb);show W.callWith_K (h₀:=X.base) I.ok.mod.kin M.kp (thn (ha pos a s σ H _ I h) λg b ζ=>?_) he hpl;let(c,d,I1,r,q):=ζ;show(I1.kIn,?_);show Jht M F hr hb hd hx I1 r q
theorem JjU(M:Mk X.K C f)(F:FnOk X.prog X.w X.K X.mg X.base CX k f fd ps sp)(hr:Room (k+1) X.A)(hg:Gl X x)(hm:X.mg x=some (.ref C))(hb:Binds X.K fd ps ds)(hd:Vals dvs ds)(hx:JbZ CX X E)
  (hdb:autoParam ((x == ("__debug__" : Str))=false) Av):PE X (.Call (.Name x p) [] [] pos) (tMake C sp dvs E tNil):=by
 intro a s σ H Q I h;show wpAny_Call_Name_kw (Jcv I hg hm ?_ hdb);show W.callWith_K0 I.kIn M.kp (Jht (us:=[]) M F hr hb hd hx I .nil h)
end
section
variable{CX:CXT}{ks:List Str}{sp:Sp}{E:XK}{x:Str}{p apos kpos:Pos}{o:Expr}{kws:List Keyword}{tk:TA}{nm:Option Str}{k:Nat}{f:Addr}{m:Str}{t:TA}{gV:List V->List V->List V}{g:List Value->List Value->List Value}
end
structure Jan(N P:List Str)(sc:Scope):Prop where
 kind:sc.kind=.function
 co:sc.isCoroutine=false
 gen:sc.isGenerator=false
 nd:N.Nodup
 pre:N.take P.length=P
 par:∀ x∈P,sc.names.lookup x=some .local\/sc.names.lookup x=some .cell
 nofree:∀ y∈sc.names,y.2≠.free
variable{kindOf:Str->Option NameKind}{x:Str}
theorem JfT:∀{binds:List (Str × Value)}{m:Str->Option Value},(∀ v,(x,v)∉binds)->bindL kindOf binds m x=m x
 | [],_,_=>rfl
 | (n,v)::r,m,h=>by
  unfold bindL;rw[JfT λw hw=>h w (mem_cons_of_mem _ hw)];split
  .have : x≠n:=by rintro rfl;show h v mem_cons_self
   simp[this]
  .rfl
theorem JfR:∀{binds:List (Str × Value)}{m:Str->Option Value},(∀ v,(x,v)∉binds)->bindC kindOf binds m x=m x
 | [],_,_=>rfl
 | (n,v)::r,m,h=>by
  unfold bindC;rw[JfR λw hw=>h w (mem_cons_of_mem _ hw)];split
  .rfl
  .have : x≠n:=by rintro rfl;show h v mem_cons_self
   simp[this]
variable{v:Value}
theorem JfS:∀{P:List Str}{vs:List Value}{i:Nat}{m:Str->Option Value},P.Nodup->P[i]?=some x->vs[i]?=some v->kindOf x=some .local ->
  bindL kindOf (P.zip vs) m x=some v
 | [],_,_,_,_,h,_,_=>by simp at h
 | _::_,[],_,_,_,_,h,_=>by simp at h
 | p::P,w::vs,0,m,nd,h1,h2,hk=>by
  simp at h1 h2;subst h1;subst h2;show bindL kindOf ((p,w)::P.zip vs) m p=_;unfold bindL;rw[JfT λv hv=>(nodup_cons.mp nd).1 (List.of_mem_zip hv).1,if_pos hk];simp
 | p::P,w::vs,i+1,m,nd,h1,h2,hk=>by
  show bindL kindOf ((p,w)::P.zip vs) m x=_;unfold bindL;show JfS (i:=i) (nodup_cons.mp nd).2 (by simpa using h1) (by simpa using h2) hk
theorem JfQ:∀{P:List Str}{vs:List Value}{i:Nat}{m:Str->Option Value},P.Nodup->P[i]?=some x->vs[i]?=some v->kindOf x≠some .local ->
  bindC kindOf (P.zip vs) m x=some v
 | [],_,_,_,_,h,_,_=>by simp at h
 | _::_,[],_,_,_,_,h,_=>by simp at h
 | p::P,w::vs,0,m,nd,h1,h2,hk=>by
  simp at h1 h2;subst h1;subst h2;show bindC kindOf ((p,w)::P.zip vs) m p=_;unfold bindC;rw[JfR λv hv=>(nodup_cons.mp nd).1 (List.of_mem_zip hv).1,if_neg hk];simp
 | p::P,w::vs,i+1,m,nd,h1,h2,hk=>by
  show bindC kindOf ((p,w)::P.zip vs) m x=_;unfold bindC;show JfQ (i:=i) (nodup_cons.mp nd).2 (by simpa using h1) (by simpa using h2) hk
def start(N:List Str)(vs:List V):St:=vs.map some++List.replicate (N.length-vs.length) none
def cxOf(CX:CXT)(P:Program)(w:World)(K:W.Frag)(mg:Str->Option Value)(base:Heap)(N:List Str)(qual:Str)(scope:Scope)(f:Addr)(cd:Value)(A:Around)(outer:List Env)(s:Shared)(H:Hp)(E:XK):Cx where
 prog:=P
 w:=w
 K:=K
 mg:=mg
 base:=base
 A:=A.deeper (envOfC qual scope s.heap.objs.size f cd)
 N:=N
 s₀:=s
 H₀:=H
 env:=envOfC qual scope s.heap.objs.size f cd
 outer:=outer
 stack:=envOfC qual scope s.heap.objs.size f cd::outer
 ex:=[]
 calm:=true
 fn:=λ_=>true
 pn:=[]
 xe:=λe s'=>wpAny (model P w) (A.deeper (envOfC qual scope s.heap.objs.size f cd)) (leaving (envOfC qual scope s.heap.objs.size f cd) e) (λ_ s''=>CX outer H s E e s'') (λe' s''=>CX outer H s E e' s'') s'
theorem Jha{sc:Scope}(h:sc.names.lookup x=some .cell):∃ c,(cellsFrom n sc.names []).lookup x=some c:=by
 have q:=W.cellsFrom_some sc.names n [] (.inl h);show Option.isSome_iff_exists.mp q
variable{CX:CXT}{qual:Str}{scope:Scope}
theorem Jiv{w:World}{K:W.Frag}{N:List Str}{f:Addr}{cd:Value}{s s1:Shared}{E:XK}{vs:List V}
  (S:Jan N ps scope) (hd:A.handled=none) (e0:Env0 P w K mg base A outer s H) (hl:vs.length=ps.length) (r:Vals vs us)
  (x:InCallC s s.heap.objs.size (bindL (envOfC qual scope s.heap.objs.size f cd).kindOf (ps.zip us) λ_=>none) (cellsFrom (s.heap.objs.size+1) scope.names []) (bindC (envOfC qual scope s.heap.objs.size f cd).kindOf (ps.zip us) λ_=>none) s1) :
  Inv (cxOf CX P w K mg base N qual scope f cd A outer s H E) [] (start N vs) H s1:=by
 have G:ps.length<=N.length:=by have:=congrArg List.length S.pre;rw[length_take]at this;ac_nf
 let(t,J,rfl,C):=x.done;have j:∀ b:Addr,b∉(cxOf CX P w K mg base N qual scope f cd A outer s H E).ex:=λb z=>absurd (show b∈([]:List Addr)from z) (by simp);show(⟨e0.mod,S.kind,rfl,rfl,Nat.le_refl _,λy z c t d=>?_,λy g=>?_,λy c _ h=>?_,λ_=>hd,Around.frames_deeper e0.frames, .inr ⟨rfl,rfl⟩,λb z=>absurd z (j b),e0.bs,e0.bsz,λb _ _=>j b,λb z=>absurd z (j b),e0.funs,e0.frf⟩,
  rfl,e0.bare,Un.kept C,⟨_,x.toInCall.ns,λi y v t d I=>?_⟩,λy c h=>⟨_,x.cell y c h⟩,e0.hok.fresh (Nat.le_refl _),λy c h=>?_,λp m=>absurd (show p∈([]:List (Addr × Obj))from m) (by simp),e0.hok.kept C,?_)
 .show name_of_addr x.apart (PySem.mem_of_lookup t) (PySem.mem_of_lookup d)
 .have g:scope.names.lookup y=some .cell\/scope.names.lookup y=some .free:=g;rcases g with g | g
  .show Jha g
  .show absurd rfl (S.nofree _ (PySem.mem_of_lookup g))
 .show Nat.le_of_lt (x.above y c (PySem.mem_of_lookup h))
 .have o:i<vs.length:=by
   unfold start at d;by_cases o:i<vs.length
   .show o
   .rw[List.getElem?_append_right (by simpa using o)]at d;rw[List.getElem?_replicate]at d;split at d <;> cases d
  have F:vs[i]?=some v:=by
   unfold start at d;rw[List.getElem?_append_left (by simpa using o),List.getElem?_map]at d;cases e:vs[i]? with
   | none=>rw[e]at d;cases d
   | some a=>rw[e]at d;cases d;rfl
  let(u,B,D):=r.get F;have m:ps[i]?=some y:=by
   rw[<- S.pre,List.getElem?_take_of_lt ∅];show t
  have l:ps.Nodup:=by rw[<- S.pre];show S.nd.sublist (List.take_sublist _ _)
  show(u,D,?_);rcases S.par y (List.mem_of_getElem? m)with k | k
  .show .inl ⟨k,JfS l m B k⟩
  .let(c,e):=Jha (n:=s.heap.objs.size+1) k;show .inr ⟨.inl k,c,e,?_⟩;have q:=x.cell y c e;rw[JfQ l m B (by show scope.names.lookup y≠_;rw[k];decide)]at q;show q
 .show e0.hok.fresh (Nat.le_of_lt (x.above y c (PySem.mem_of_lookup h)))
 .unfold start;show _=N.length;rw[length_append,length_map,List.length_replicate];ac_nf
theorem fn_of{w:World}{K:W.Frag}{k:Nat}{f:Addr}{name:Str}{params:Arguments}{dV kV doc pm cdv ct oc:Value}{an od:Option Addr}
  {osl:Array (Option Value)} {N ps:List Str} {sp:Sp} (lk:K.lookup f=some ⟨oc,od, .func (W.fnOf name qual params body scope dV kV doc pm an cdv ct),osl⟩) (hcd:W.codeIn K cdv qual=true) (S:Jan N ps scope)
  (len:∀ vs H Q E,sp vs H Q E->vs.length=ps.length)
  (hbody:∀(A:Around)(outer:List Env)(s:Shared)(H:Hp)(vs:List V)(Q:VK)(E:XK),Room k (A.deeper (envOfC qual scope s.heap.objs.size f cdv))->sp vs H Q E ->
   ∃ t,PSs (cxOf CX P w K mg base N qual scope f cdv A outer s H E) body t/\t { nx:=λ_ H'=>Q .non H',rt:=Q } (start N vs) H) :
  FnOk P w K mg base CX (k+1) f (W.fnOf name qual params body scope dV kV doc pm an cdv ct) ps sp:=by
 show(len,λA outer s H p R vs Q E l h D r g=>?_);have M:=len _ _ _ _ g;have KX:K.In s.heap:=h.mod.kin.keeps λb o e=>(h.bs b o e).1;have i:s.heap.NoLimit:=h.mod.nolimit.keeps λb o e=>(h.bs b o e).1;have a:∀ y∈ps.zip R,scope.names.lookup y.1=some .local\/(scope.names.lookup y.1=some .cell/\((cellsFrom (s.heap.objs.size+1) scope.names []).lookup y.1).isSome=true):=λ⟨n,v⟩ F=>by
  rcases S.par n (List.of_mem_zip F).1 with q | q
  .show .inl q
  .show .inr ⟨q,W.cellsFrom_some _ _ _ (.inl q)⟩
 show codeAny_call_function l.depth (KX _ _ lk) rfl S.co S.gen rfl (W.codeRec_of KX hcd) (D _ _ _ _ ?_);show wpAny_newFunctionEnv_cells S.kind a λL C z x=>?_;subst C;show(i.keeps x.toInCall.keep,codeAny_func ?_);let(t,G,O):=hbody A outer s H vs Q E (l.deeper _) g;have I:Inv (cxOf CX P w K mg base N qual scope f cdv A outer s H E) [] (start N vs) H z:=Jiv S l.hd h M r x;show wpAny_mono (G [] z (start N vs) H _ I O) (λB m c=>?_) λe m c=>c;have d:∀{σ':St}{H':Hp}{v:V}{u:Value},Inv (cxOf CX P w K mg base N qual scope f cdv A outer s H E) [] σ' H' m->RelV v u->Q v H'->CE outer P w H s Q u m :=
  λ{σ' H' v u} J j q=>⟨v,H',J.os,J.bare,J.base,J.hok,j,q⟩
 cases B with
 | ret u=>
  let(v,σ',H',J,j,q):=c;show d J j q
 | next=>
  let(σ',H',J,q):=c;show d (v:=V.non) (u:=Value.none) J rfl q
 | brk=>
  let(_,_,_,q):=c;show False.elim q
 | cont=>
  let(_,_,_,q):=c;show False.elim q
section
variable{p:Pos}{id T:String}{t:TA}{r:List V->Hp->VK->Prop}
def tCB(r:List V->Hp->VK->Prop)(t:TA):TE:=λσ H Q=>t σ H λvs H1=>r vs H1 Q
theorem Jay(hc:CallR X (.builtin id) r)(hg:Gl X x)(hm:X.mg x=none)(hv:bootBuiltins x=some (.builtin id))(ha:PA X (e::es) t)(hn:autoParam (x≠"__name__") Av)(hdb:autoParam ((x == ("__debug__" : Str))=false) Av)
  (he:autoParam (starEach (e::es) X.env=(false,eval e X.env)::starEach es X.env) Au) (hpl:autoParam ((backTo pos (starEach es X.env)).any (·.1)=false) Au):PE X (.Call (.Name x p) (e::es) [] pos) (tCB r t):=by
 intro a s σ H Q I h;show wpAny_Call_Name_kw (Jea I hg hm hv ?_ hn hdb);show PyProof.Rows.callWith_builtin1 (thn (ha pos a s σ H _ I h) λi b ζ=>by let(c,f,I1,g,d):=ζ;show hc a b σ f c i Q I1 g d) he hpl
theorem Jdm(hc:CallR X (.type T) r)(hg:Gl X x)(hm:X.mg x=none)(hv:bootBuiltins x=some (.type T))(ha:PA X (e::es) t)(hn:autoParam (x≠"__name__") Av)(hdb:autoParam ((x == ("__debug__" : Str))=false) Av)
  (he:autoParam (starEach (e::es) X.env=(false,eval e X.env)::starEach es X.env) Au) (hpl:autoParam ((backTo pos (starEach es X.env)).any (·.1)=false) Au):PE X (.Call (.Name x p) (e::es) [] pos) (tCB r t):=by
 intro a s σ H Q I h;show wpAny_Call_Name_kw (Jea I hg hm hv ?_ hn hdb);show PyProof.Rows.callWith_type1 (thn (ha pos a s σ H _ I h) λi b ζ=>by let(c,f,I1,g,d):=ζ;show hc a b σ f c i Q I1 g d) he hpl
end
end L2
namespace HT
open PySem PyProof.Rows
section
open PySem.SeqAt
open PySem.AutoSeq1 (wpAny_loadPart')
open PySem.MeetsSeq PySem.MeetsSeq2 PySem.MeetsSeq3
end
section
variable{prog:Program}{A:Around}{E:Value->Shared->Prop}{w:World}{s:Shared}
theorem cat_tup{t b:Addr}{vs ws:List Value}{Q:Value->Shared->Prop}(ht:IsTup s.heap t vs.toArray)(hb:IsTup s.heap b ws.toArray)(hv:vs≠[])
  (h1:ws=[]->Q (.ref t) s) (h2:ws≠[]->Q (.ref s.heap.objs.size) { s with heap:=s.heap.push { cls:=.type "tuple",data:=.seq (vs++ws).toArray } })
  (hsz:vs.length+ws.length<=sizeLine):wpAny (model prog w) A (binaryOp .Add (.ref t) (.ref b)) Q E s:=by
 let((cls,o,data,k),i,m,n,q):=id ht;let((l,d,j,g),a,c,p,f):=id hb;simp only at m q c f;subst m q c f;have e:vs.toArray++ws.toArray=(vs++ws).toArray:=by simp
 by_cases h:ws=[]
 .show concat_meets ⟨_,i,rfl⟩ ⟨_,a,rfl⟩ noFill_tuple_add seq_tuple_add PySem.F.slot_tuple_add PySem.F.entry_tuple_add (PySem.F.args_tuple_add_2 _ _)
   (tuple_addW1 t b vs.toArray ws.toArray n p o d k g (by simpa using hv) (by simp[h])) ⟨i,a,h1 h⟩
 .show concat_meets ⟨_,i,rfl⟩ ⟨_,a,rfl⟩ noFill_tuple_add seq_tuple_add PySem.F.slot_tuple_add PySem.F.entry_tuple_add (PySem.F.args_tuple_add_2 _ _)
   (tuple_addW2 t b vs.toArray ws.toArray n p o d k g (by simpa using hv) (by simpa using h) (by rw[size_toArray,size_toArray];show hsz)) ⟨i,a,?_⟩
  rw[e];show h2 h
def sIx(n d:Nat):Option Int->Nat
 | none=>d
 | some v=>if v<0 then(v+(n:Int)).toNat else min v.toNat n
theorem JmK(n d:Nat)(hd:d<=n)(o:Option Int):sIx n d o<=n:=by
 cases o with
 | none=>show hd
 | some v=>
  show(if v<0 then(v+(n:Int)).toNat else min v.toNat n)<=n;by_cases a:v<0
  .rw[if_pos a];ac_nf
  .rw[if_neg a];show Nat.min_le_right _ _
theorem Jie(v:Int)(n d:Nat):(if v<0 then max (v+(n:Int)) 0 else min v (n:Int))=((sIx n d (some v):Nat):Int):=by
 show(if v<0 then max (v+(n:Int)) 0 else min v (n:Int))=(((if v<0 then(v+(n:Int)).toNat else min v.toNat n):Nat):Int);by_cases a:v<0
 .simp only[if_pos a];ac_nf
 .simp only[if_neg a];ac_nf
theorem JhC(lo hi:Option Int)(n:Nat):Builtin.Slice.sliceAdjust lo hi 1 (n:Int)=(((sIx n 0 lo:Nat):Int),((sIx n n hi:Nat):Int)):=by
 have a:¬((1:Int)<0):=by ac_nf
 unfold Builtin.Slice.sliceAdjust;simp only[a,if_false];show Prod.ext ?_ ?_
 .cases lo with
  | none=>rfl
  | some v=>show Jie v n 0
 .cases hi with
  | none=>rfl
  | some v=>show Jie v n n
theorem JhW(i j:Nat):Builtin.Slice.slicePlaces (i:Int) (j:Int) 1=j-i:=by
 unfold Builtin.Slice.slicePlaces;have a:(1:Int) > 0:=by ac_nf
 simp only[a,if_true,Int.ediv_one];split <;> ac_nf
theorem Je3{v:Value}{o:Option Int}{Q:Option Int->Shared->Prop}(p:IsPart v o)(h:Q o s):wpAny (model prog w) A (Builtin.Slice.slicePartIndex v) Q E s:=by
 cases p with
 | none=>show slicePart_none h
 | int i t=>show slicePart_int h
variable{sl:Addr}{vu:Value}{hi:Option Int}
theorem JdT{vl:Value}{lo:Option Int}{n:Nat}{Q:Int × Int × Nat->Shared->Prop}(hs:s.heap.IsSliceOf sl vl vu .none)(pl:IsPart vl lo)(pu:IsPart vu hi)
  (h:Q (((sIx n 0 lo:Nat):Int),1,sIx n n hi-sIx n 0 lo) s):wpAny (model prog w) A (Builtin.Slice.sliceApplied (.ref sl) (pure (n:Int))) Q E s:=by
 let(d,b,c,a):=id hs;unfold Builtin.Slice.sliceApplied Builtin.Slice.sliceFields;show wpAny_bind (wpAny_bind (wpAny_field b a (x:=vl) rfl (wpAny_bind (wpAny_field b a (x:=vu) rfl (wpAny_bind (wpAny_field b a (x:=.none) rfl (wpAny_pure ?_)))))));show wpAny_bind (slicePart_none ?_);show wpAny _ _ (if((1:Int) == 0)=true then _ else _) _ _ s;rw[if_neg ⋯];show wpAny_bind (Je3 pl (wpAny_bind (Je3 pu (wpAny_bind (wpAny_pure ?_)))));show wpAny _ _ (match Builtin.Slice.sliceAdjust lo hi 1 (n:Int)with | (lo,hi)=>pure (lo,(1:Int),Builtin.Slice.slicePlaces lo hi 1)) _ _ s;rw[JhC lo hi n];show wpAny _ _ (pure (((sIx n 0 lo:Nat):Int),(1:Int),Builtin.Slice.slicePlaces ((sIx n 0 lo:Nat):Int) ((sIx n n hi:Nat):Int) 1)) _ _ s;rw[JhW];show wpAny_pure h
theorem JjX(xs:Array Value)(i k:Nat):((List.range k).filterMap λ(m:Nat)=>xs[((i:Int)+(m:Int)*1).toNat]?).toArray=((xs.toList.drop i).take k).toArray:=by
 have e:(λ(m:Nat)=>xs[((i:Int)+(m:Int)*1).toNat]?)=λm=>xs[i+m]?:=by
  funext m
  have : ((i:Int)+(m:Int)*1).toNat=i+m:=by ac_nf
  rw[this]
 rw[e];have:=pick_run xs i k;rw[List.filterMap_map]at this;have a:((λx=>xs[x]?) ∘ λx=>i+x)=λm=>xs[i+m]?:=rfl;rw[a]at this;rw[this]
theorem getItem_tuple_cut{t:Addr}{items:Array Value}{vl:Value}{lo:Option Int}{Q:Value->Shared->Prop}(ht:IsTup s.heap t items)(hs:s.heap.IsSliceOf sl vl vu .none)(pl:IsPart vl lo)(pu:IsPart vu hi)
  (hw:¬(sIx items.size 0 lo=0/\sIx items.size items.size hi=items.size))
  (h:Q (.ref s.heap.objs.size) { s with heap:=s.heap.push { cls:=.type "tuple",data:=.seq ((items.toList.drop (sIx items.size 0 lo)).take (sIx items.size items.size hi-sIx items.size 0 lo)).toArray } })
  (hsz:items.size<=sizeLine):wpAny (model prog w) A (getItem (.ref t) (.ref sl)) Q E s:=by
 have a:sizeOk (.seq ((items.toList.drop (sIx items.size 0 lo)).take (sIx items.size items.size hi-sIx items.size 0 lo)).toArray):=by
  show((items.toList.drop (sIx items.size 0 lo)).take (sIx items.size items.size hi-sIx items.size 0 lo)).toArray.size<=sizeLine;rw[size_toArray,length_take,List.length_drop,Array.length_toList];omega
 have k:sIx items.size items.size hi<=items.size:=JmK _ _ (Nat.le_refl _) hi;let(f,c,d,g):=id hs;have b:s.TypeIs (.ref sl) "slice":=⟨f,c,d⟩;unfold getItem;try with_reducible show wpAny_holding ?_
 first | show wpAny_bind (wpAny_pure ?_) | skip
 show wpAny_bind (wpAny_sequenceKey ht.typeIs ⋯ ?_);show wpAny_bind (wpAny_callSpecial?_slot (name:=Str.ofString "__getitem__") ht.typeIs PyProof.Rows.slot_tuple_getitem
  (wpAny_call_entry PyProof.Rows.slot_tuple_getitem ht.typeIs entry_tuple_getitem ?_ (args_tuple_getitem _ _)))
 show wpAny _ _ (Builtin.Tuple.tupleItemsOf (.ref t) >>= _) _ _ s;show wpAny_bind (tupleItemsOf_ ht ?_);show wpAny_bind (wpAny_typeOf b ?_);rw[if_pos ⋯];show wpAny_bind (JdT hs pl pu ?_);have e:¬((((sIx items.size 0 lo:Nat):Int) == 0&&(1:Int) == 1&&(sIx items.size items.size hi-sIx items.size 0 lo) == items.size)=true):=by
  intro q;rw[Bool.and_eq_true,Bool.and_eq_true]at q;have i:((sIx items.size 0 lo:Nat):Int)=0:=eq_of_beq q.1.1;have j:sIx items.size items.size hi-sIx items.size 0 lo=items.size:=eq_of_beq q.2;show hw ⟨by omega,by omega⟩
 show wpAny _ _ (if(((sIx items.size 0 lo:Nat):Int) == 0&&(1:Int) == 1&&(sIx items.size items.size hi-sIx items.size 0 lo) == items.size)=true then _ else _) _ _ s;rw[if_neg e,JjX];first
  | show wpAny_bind (m:=Builtin.Tuple.tupleExact _) (wpAny_newObj_type (wpAny_pure ⟨_,rfl,wpAny_pure h⟩) a)
  | show wpAny_bind (m:=Builtin.Tuple.tupleExact _) (wpAny_newObj_type (wpAny_bind (wpAny_pure (wpAny_pure ⟨_,rfl,wpAny_pure h⟩))) a)
  | show wpAny_bind (wpAny_bind (m:=Builtin.Tuple.tupleExact _) (wpAny_newObj_type (wpAny_pure (wpAny_pure ⟨_,rfl,wpAny_pure h⟩)) a))
  | show wpAny_bind (wpAny_bind (m:=Builtin.Tuple.tupleExact _) (wpAny_newObj_type (wpAny_pure ⟨_,rfl,wpAny_pure h⟩) a))
end
end HT
namespace L2
open PySem PySem.Spec PyProof.Rows
abbrev TO:=St->Hp->(Option Int->Hp->Prop)->Prop
def PO(X:Cx)(e:Option Expr)(t:TO):Prop :=
 ∀(pins:List (Addr × Obj))(s:Shared)(σ : St)(H:Hp)(Q:Option Int->Hp->Prop),Inv X pins σ H s->t σ H Q ->
  wpAny (model X.prog X.w) X.A (evalPart e X.env) (λu s'=>∃ o H',Inv X pins σ H' s'/\IsPart u o/\Q o H') X.xe s
def Jjg:TO:=λ_ H Q=>Q none H
def tPart(t:TE):TO:=λσ H Q=>t σ H λx H1=>∃ i,x=.int i/\Q (some i) H1
section
variable{X:Cx}{e:Expr}{te:TE}{hi:Option Expr}{tl th:TO}{pos p2:Pos}{lo:Option Expr}
theorem JgS:PO X none Jjg:=by
 intro a s σ H Q I h;rw[evalPart_none];show wpAny_pure ⟨none,H,I, .none,h⟩
theorem JgT(h:PE X e te):PO X (some e) (tPart te):=by
 intro a s σ H Q I f;rw[evalPart_some];show thn (h a s σ H _ I f) λu g ζ=>?_;let(x,c,I1,d,b):=ζ;let(i,rfl,q):=b;let(t,rfl):=d;show(some i,c,I1, .int i t,q)
def SlR(X:Cx)(r:V->Option Int->Option Int->Hp->VK->Prop):Prop :=
 ∀(pins:List (Addr × Obj))(s:Shared)(σ : St)(H:Hp)(x:V)(v vl vu:Value)(lo hi:Option Int)(sl:Addr)(Q:VK),Inv X pins σ H s->RelV x v->s.heap.IsSliceOf sl vl vu .none->IsPart vl lo->IsPart vu hi->r x lo hi H Q ->
  ∃ T id,typeLookup (.type T) "__getitem__"=pure (some (.builtin id))/\s.TypeIs v T/\wpAny (model X.prog X.w) X.A (getItem v (.ref sl)) (EP X pins σ Q) X.xe s
theorem SlR.or{r r':V->Option Int->Option Int->Hp->VK->Prop}(h:SlR X r)(h':SlR X r'):SlR X (λx lo hi H Q=>r x lo hi H Q\/r' x lo hi H Q):=by
 intro a s σ H x v vl g lo hi c Q I f e b d q;rcases q with q | q
 .show h a s σ H x v vl g lo hi c Q I f e b d q
 .show h' a s σ H x v vl g lo hi c Q I f e b d q
def tSl(r:V->Option Int->Option Int->Hp->VK->Prop)(te:TE)(tl th:TO):TE:=λσ H Q=>te σ H λx H1=>tl σ H1 λl H2=>th σ H2 λu H3=>r x l u H3 Q
theorem Jfx{r:V->Option Int->Option Int->Hp->VK->Prop}(hr:SlR X r)(he:PE X e te)(hl:PO X lo tl)(hu:PO X hi th):PE X (.Subscript e (.Slice lo hi none p2) pos) (tSl r te tl th):=by
 intro a s σ H Q I h;show Subscript_ (thn (he a s σ H _ I h) λv y ζ=>?_);let(x,z,I1,j,t):=ζ;show wpAny_Slice (thn (hl a y σ z _ I1 t) λvl C ζ=>?_);let(l,i,I2,o,n):=ζ;show thn (hu a C σ i _ I2 n) λd c ζ=>?_;let(u,f,I3,m,B):=ζ;rw[evalPart_none];show wpAny_pure ?_;have I4:Inv X a σ f { c with heap:=c.heap.push { cls:=.type "slice",data:=.fields #[vl,d, .none] } }:=I3.kept (t':=c.toks) λb D q=>Heap.get?_push_of_some _ q;let(T,id,g,p,k):=hr a { c with heap:=c.heap.push { cls:=.type "slice",data:=.fields #[vl,d, .none] } } σ f x v vl d l u c.heap.objs.size Q I4 j (Heap.IsSliceOf.new ..) o m B;show wpAny (model X.prog X.w) X.A (subscriptTail e (.Slice lo hi none p2) v (.ref c.heap.objs.size)) (EP X a σ Q) X.xe { c with heap:=c.heap.push { cls:=.type "slice",data:=.fields #[vl,d, .none] } };show tail_any (ops:=[.ref c.heap.objs.size,v]) p g k (by with_unfolding_all rfl)
def cutV(xs:List V)(lo hi:Option Int):List V:=(xs.drop (HT.sIx xs.length 0 lo)).take (HT.sIx xs.length xs.length hi-HT.sIx xs.length 0 lo)
theorem Jd4(xs:List V)(lo hi:Option Int):(cutV xs lo hi).length<=xs.length:=by
 unfold cutV;rw[length_take,List.length_drop];ac_nf
def rSlT(K:W.Frag):V->Option Int->Option Int->Hp->VK->Prop:=λx lo hi H Q=>∃ a xs,x=.ref a/\SqT K H a xs /\
 ¬(HT.sIx xs.length 0 lo=0/\HT.sIx xs.length xs.length hi=xs.length)/\∀ p,H p=none->Q (.ref p) (upd H p (.tup (cutV xs lo hi)))
theorem JmN:SlR X (rSlT X.K):=by
 intro i s σ H x v vl z e g w Q I p u t n h;let(a,d,rfl,m,l,q):=h;cases p;let(f,r,k,j):=I.tuple m;have c:f.toArray.size=d.length:=by rw[size_toArray];show r.length.symm
 show("tuple",_,PyProof.Rows.slot_tuple_getitem.lookup,k.typeIs,?_);show HT.getItem_tuple_cut k u t n (by rw[c];show l) ?_ (by rw[c];show j);rw[c];show(.ref s.heap.objs.size,_,I.laid (t':=s.toks) (o:=.tup (cutV d e g)) (λb y q=>Heap.get?_push_of_some _ q) (Nat.le_refl _) ?_,rfl,q _ (I.hok.fresh (Nat.le_refl _)));show(Nat.le_trans (Jd4 d e g) j,_,(r.drop (HT.sIx d.length 0 e)).take (HT.sIx d.length d.length g-HT.sIx d.length 0 e),IsTup.new _ _)
def rCatT(K:W.Frag):R2:=λx y H Q=>∃ a b xs ys,x=.ref a/\y=.ref b/\SqT K H a xs/\SqT K H b ys/\xs≠[]/\xs.length+ys.length<=sizeLine /\
 (ys=[]->Q (.ref a) H)/\(ys≠[]->∀ p,H p=none->Q (.ref p) (upd H p (.tup (xs++ys))))
variable{xs:List V}{us:List Value}
theorem Vals.nil_iff(r:Vals xs us):us=[]↔xs=[]:=by
 cases r with
 | nil=>simp
 | cons _ _=>simp
theorem Jln:OpR X (binaryOp .Add) (rCatT X.K):=by
 intro e s σ H x y v u Q I l j h;let(a,b,B,m,rfl,rfl,r,p,k,f,A,n):=h;cases l;cases j;let(t,d,C,_):=I.tuple r;let(g,c,i,_):=I.tuple p;show HT.cat_tup C i (λz=>k (d.nil_iff.mp z)) (λz=>⟨.ref a,H,I,rfl,A (c.nil_iff.mp z)⟩) (λz=>?_) (by rw[<- d.length, <- c.length];show f);show(.ref s.heap.objs.size,_,I.laid (t':=s.toks) (o:=.tup (B++m)) (λb D q=>Heap.get?_push_of_some _ q) (Nat.le_refl _) ?_,rfl,n (λw=>z (c.nil_iff.mpr w)) _ (I.hok.fresh (Nat.le_refl _)));show(by rw[length_append];show f,_,d.append c,IsTup.new _ _)
end
def ixN(n:Nat)(i:Int):Option Nat:=if 0<=i then(if i<n then some i.toNat else none)else if -(n:Int)<=i then some (i+n).toNat else none
variable{α:Type}
def atI(xs:List α)(i:Int):Option α:=(ixN xs.length i).bind λj=>xs[j]?
variable{n j:Nat}
theorem Jk5{i:Int}(h:ixN n i=some j):seqIndex? i n=some j/\j<n/\-(n:Int)<=i/\i<n:=by
 unfold ixN at h;by_cases b:0<=i
 .rw[if_pos b]at h;by_cases a:i<n
  .rw[if_pos a]at h;have e:i.toNat=j:=Option.some.inj h;show(by rw[seqIndex_of b a,e],by ac_nf,by ac_nf,a)
  .rw[if_neg a]at h;cases h
 .rw[if_neg b]at h;by_cases a : -(n:Int)<=i
  .rw[if_pos a]at h;have e:(i+n).toNat=j:=Option.some.inj h;show(by rw[seqIndex_neg ∅ a,e],by ac_nf,a,by ac_nf)
  .rw[if_neg a]at h;cases h
theorem Jgp{xs:List α}{i:Int}{v : α}(h:atI xs i=some v):∃ j,seqIndex? i xs.length=some j/\xs[j]?=some v/\j<xs.length/\-(xs.length:Int)<=i/\i<xs.length:=by
 unfold atI at h;cases e:ixN xs.length i with
 | none=>rw[e]at h;cases h
 | some j=>
  rw[e]at h;let(a,b,c,d):=Jk5 e;show(j,a,h,b,c,d)
theorem Jcf{xs:List α}{v : α}(h:xs[j]?=some v):atI xs (j:Int)=some v:=by
 have a:j<xs.length:=(List.getElem?_eq_some_iff.mp h).1;have e:ixN xs.length (j:Int)=some j:=by
  unfold ixN;rw[if_pos ∅,if_pos ∅];simp
 unfold atI;rw[e];show h
def JkO(b:Expr):Prop:=∀ o i,subscripted b false o i=operate [o,i] (getItem o i)
def IxR(X:Cx)(r:R2):Prop :=
 ∀(value slice:Expr)(pins:List (Addr × Obj))(s:Shared)(σ : St)(H:Hp)(x y:V)(v u:Value)(Q:VK),Inv X pins σ H s->RelV x v->RelV y u->r x y H Q ->
  subscripted slice false v u=operate [v,u] (getItem v u)->wpAny (model X.prog X.w) X.A (subscriptTail value slice v u) (EP X pins σ Q) X.xe s
def MtR(X:Cx)(id:String)(r:V->List V->Hp->VK->Prop):Prop :=
 ∀(pins:List (Addr × Obj))(s:Shared)(σ : St)(H:Hp)(x:V)(xs:List V)(v:Value)(us:List Value)(Q:VK),Inv X pins σ H s->RelV x v->Vals xs us->r x xs H Q ->
  wpAny (model X.prog X.w) X.A (call (.builtin id) (v::us)) (EP X pins σ Q) X.xe s
section
variable{X:Cx}{a b:Expr}{ta tb:TE}{pos:Pos}
theorem pe_ix{r:R2}(hr:IxR X r)(ha:PE X a ta)(hb:PE X b tb)(hs:JkO b:=by showλ_ _=>rfl):PE X (.Subscript a b pos) (tOp r ta tb):=by
 intro c s σ H Q I h;show Subscript_ (binT ha hb I h λv u d x y f I2 g e q=>hr a b c d σ f x y v u Q I2 g e q (hs _ _))
def rIxL(K:W.Frag):R2:=λx y H Q=>∃ p xs i v,x=.ref p/\y=.int i/\SqL K H p xs/\atI xs i=some v/\Q v H
def rIxT(K:W.Frag):R2:=λx y H Q=>∃ p xs i v,x=.ref p/\y=.int i/\SqT K H p xs/\atI xs i=some v/\Q v H
def rIxS:R2:=λx y H Q=>∃ z i c,x=.str z/\y=.int i/\z.length<=sizeLine/\atI z.cps.toList i=some c/\Q (.str ⟨#[c]⟩) H
theorem Jk6:IxR X (rIxL X.K):=by
 intro d k a s σ H x y v u Q I E D h o;let(p,O,i,z,rfl,rfl,L,C,q):=h;cases E;let(t,rfl):=D;let(g,r,e,M):=I.list L;let(j,c,A,N,B,F):=Jgp C;let(w,m,l):=r.get A;have J:=r.length;have P:=JeZ;have b:EP X a σ Q w s:=⟨z,H,I,l,q⟩;by_cases n:0<=i
 .have f:i.toNat=j:=by
   rw[seqIndex_of n F]at c;show Option.some.inj c
  show item_listR e.isList n ∅ (by rw[f];simpa using m) b o
 .have f:(i+(g.toArray.size:Int)).toNat=j:=by
   rw[seqIndex_neg ∅ B]at c;rw[size_toArray, <- J];show Option.some.inj c
  show subscriptTail_builtinR (x:=w) e.isList.typeIs slot_list_getitem.lookup
   (wpAny_getItem_list_neg (Q:=λr G=>r=w/\EP X a σ Q r G) e.isList ∅ (by rw[size_toArray] <;> ac_nf) ∅ (by rw[f];simpa using m) ⟨rfl,b⟩) o
theorem Jmi:IxR X (rIxT X.K):=by
 intro b d a s σ H x y v u Q I n m h B;let(p,M,i,z,rfl,rfl,E,l,q):=h;cases n;let(t,rfl):=m;let(o,r,f,F):=I.tuple E;let(j,D,g,J,G,L):=Jgp l;let(w,k,e):=r.get g;have C:=r.length;have N:=JeZ;have c:EP X a σ Q w s:=⟨z,H,I,e,q⟩;show subscriptTail_builtinR (x:=w) f.typeIs slot_tuple_getitem.lookup
  (getItem_tuple (j:=j) (Q:=λr A=>r=w/\EP X a σ Q r A) f ∅ ∅ (by rw[size_toArray, <- C];show D) (by simpa using k) ⟨rfl,c⟩) B
theorem Jmh:IxR X rIxS:=by
 intro a b d s σ H x y v u Q I m l h p;let(z,i,c,rfl,rfl,A,k,q):=h;let(t,rfl):=m;let(B,rfl):=l;let(j,e,f,C,g,o):=Jgp k;have r:z.cps.toList.length=z.length:=by simp[Str.length]
 rw[r]at e g o;have D:=JeZ;show tail_any (typeIs_str s z t) slot_str_getitem.lookup (getItem_str (c:=c) (by
  have w:decide (i < -(2 ^ 63:Int))=false:=decide_eq_false ∅;have n:decide (i ≥ 2 ^ 63)=false:=decide_eq_false ∅;rw[w,n,Bool.or_false]) (by rw[e];simpa using f) ⟨.str ⟨#[c]⟩,H,I.tok _,⟨_,rfl⟩,q⟩) p
theorem Jgj(lo hi:Option Int)(n:Nat):(sliceBounds lo hi none n).1=((HT.sIx n 0 lo:Nat):Int)/\(sliceBounds lo hi none n).2.1=((HT.sIx n n hi:Nat):Int)/\(sliceBounds lo hi none n).2.2=1:=by
 show(?_,?_,rfl)
 .cases lo with
  | none=>simp[sliceBounds,HT.sIx]
  | some i=>
   simp only[sliceBounds,HT.sIx,Option.getD_none,show(1:Int) > 0 by decide,if_true];by_cases h:i<0
   .simp only[h,if_true] <;> ac_nf
   .simp only[h,if_false] <;> ac_nf
 .cases hi with
  | none=>simp[sliceBounds,HT.sIx]
  | some i=>
   simp only[sliceBounds,HT.sIx,Option.getD_none,show(1:Int) > 0 by decide,if_true];by_cases h:i<0
   .simp only[h,if_true] <;> ac_nf
   .simp only[h,if_false] <;> ac_nf
theorem JfI(its:List Value)(lo hi:Option Int):slicePick its.toArray lo hi none=((its.drop (HT.sIx its.length 0 lo)).take (HT.sIx its.length its.length hi-HT.sIx its.length 0 lo)).toArray:=by
 let(a,b,c):=Jgj lo hi its.toArray.size;unfold slicePick;rw[a,b,c];simp only[sliceRange_one,pick_run,size_toArray] <;> rfl
def rSlL(K:W.Frag):V->Option Int->Option Int->Hp->VK->Prop:=λx lo hi H Q=>∃ a xs,x=.ref a/\SqL K H a xs/\∀ p,H p=none->Q (.ref p) (upd H p (.lst (cutV xs lo hi)))
theorem JlP:SlR X (rSlL X.K):=by
 intro g s σ H x v vl y e f u Q I m t n l h;let(a,c,rfl,k,q):=h;cases m;let(p,r,i,j):=I.list k;have d:=r.length;show("list",_,slot_list_getitem.lookup,i.isList.typeIs,?_);show wpAny_getItem_list_slice i.isList t n l .none (by simp) ?_ (by rw[size_toArray] <;> ac_nf);rw[JfI, <- d];show(.ref s.heap.objs.size,_,I.laid (t':=s.toks) (o:=.lst (cutV c e f)) (λb w q=>Heap.get?_push_of_some _ q) (Nat.le_refl _) ?_,rfl,q _ (I.hok.fresh (Nat.le_refl _)));show(Nat.le_trans (Jd4 c e f) j,_,0,(r.drop (HT.sIx c.length 0 e)).take (HT.sIx c.length c.length f-HT.sIx c.length 0 e),Heap.get?_push_size _ rfl)
def flatV:V->Bool
 | .non=>true
 | .bl _=>true
 | .int _=>true
 | .str _=>true
 | _=>false
def eqV:V->V->Bool
 | .non, .non=>true
 | .bl a, .bl b=>a == b
 | .bl a, .int b=>(if a then 1 else 0) == b
 | .int a, .bl b=>a == (if b then 1 else 0)
 | .int a, .int b=>a == b
 | .str a, .str b=>a == b
 | _,_=>false
variable{A:Around}{y x:V}{u v:Value}
theorem Jkn{s:Shared}(ry:RelV y u)(rx:RelV x v)(fy:flatV y=true)(fx:flatV x=true):SeqAt.EqAt A s u v (eqV y x):=by
 cases y with
 | non=>
  cases ry;cases x with
  | non=>cases rx;show SeqAt.EqAt.same _
  | bl b=>cases rx;show SeqAt.EqAt.none_bool b
  | int b=>let(t,rfl):=rx;show SeqAt.EqAt.none_int b t
  | str b=>let(t,rfl):=rx;show SeqAt.EqAt.none_str b t
  | _=>show absurd (show false=true from fx) Bool.false_ne_true
 | bl a=>
  cases ry;cases x with
  | non=>cases rx;show SeqAt.EqAt.bool_none a
  | bl b=>cases rx;show SeqAt.EqAt.bool_bool a b
  | int b=>let(t,rfl):=rx;show SeqAt.EqAt.bool_int a b t
  | str b=>let(t,rfl):=rx;show SeqAt.EqAt.bool_str a b t
  | _=>show absurd (show false=true from fx) Bool.false_ne_true
 | int a=>
  let(c,rfl):=ry;cases x with
  | non=>cases rx;show SeqAt.EqAt.int_none a c
  | bl b=>cases rx;show SeqAt.EqAt.int_bool a c b
  | int b=>let(t,rfl):=rx;show SeqAt.EqAt.int_int a c b t
  | str b=>let(t,rfl):=rx;show SeqAt.EqAt.int_str a c b t
  | _=>show absurd (show false=true from fx) Bool.false_ne_true
 | str a=>
  let(c,rfl):=ry;cases x with
  | non=>cases rx;show SeqAt.EqAt.str_none a c
  | bl b=>cases rx;show SeqAt.EqAt.str_bool a c b
  | int b=>let(t,rfl):=rx;show SeqAt.EqAt.str_int a c b t
  | str b=>let(t,rfl):=rx;show SeqAt.EqAt.str_str a c b t
  | _=>show absurd (show false=true from fx) Bool.false_ne_true
 | _=>show absurd (show false=true from fy) Bool.false_ne_true
def eqU(x:V)(u:Value):Bool:=match u with
 | .none=>eqV .non x
 | .bool b=>eqV (.bl b) x
 | .int i _=>eqV (.int i) x
 | .str z _=>eqV (.str z) x
 | _=>false
theorem Jko(r:RelV y u)(f:flatV y=true):eqU x u=eqV y x:=by
 cases y with
 | non=>cases r;rfl
 | bl b=>cases r;rfl
 | int i=>let(t,rfl):=r;rfl
 | str z=>let(t,rfl):=r;rfl
 | _=>show absurd (show false=true from f) Bool.false_ne_true
variable{xs:List V}{us:List Value}
theorem Jh6(h:Vals xs us):xs.all flatV=true->us.any (eqU x)=xs.any λy=>eqV y x:=by
 induction h with
 | nil=>showλ_=>rfl
 | cons r _ ih=>
  intro f;rw[List.all_cons,Bool.and_eq_true]at f;rw[any_cons,any_cons,Jko r f.1,ih f.2]
theorem Jhl{s:Shared}(rx:RelV x v)(fx:flatV x=true){xs:List V}{us:List Value}(h:Vals xs us):xs.all flatV=true->∀ u∈us,SeqAt.EqAt A s u v (eqU x u):=by
 induction h with
 | nil=>showλ_ u a=>by cases a
 | cons r _ ih=>
  intro f b a;rw[List.all_cons,Bool.and_eq_true]at f;rcases mem_cons.mp a with rfl | a
  .rw[Jko r f.1];show Jkn r rx f.1 fx
  .show ih f.2 b a
def inV(x:V)(xs:List V):Bool:=xs.any λy=>eqV y x
def rIn(K:W.Frag)(neg:Bool):R2:=λx y H Q=>∃ p xs,y=.ref p/\(SqL K H p xs\/SqT K H p xs)/\flatV x=true/\xs.all flatV=true/\Q (.bl (if neg then !inV x xs else inV x xs)) H
theorem JiM:OpR X (compareOp .In) (rIn X.K false):=by
 intro f s σ H x y v u Q I g k h;let(p,l,rfl,b,i,c,q):=h;cases k;rcases b with b | b
 .let(a,r,e,j):=I.list b;show SeqAt.in_listAt (eqU x) e.isList (λw d=>Jhl g i r c w (by simpa using d)) ⟨.bl _,H,I,rfl,?_⟩;rw[show a.toArray.any (eqU x)=a.any (eqU x) by simp,Jh6 r c];show q
 .let(a,r,e,j):=I.tuple b;show SeqAt.in_tupleAt (eqU x) e (λw d=>Jhl g i r c w (by simpa using d)) ⟨.bl _,H,I,rfl,?_⟩;rw[show a.toArray.any (eqU x)=a.any (eqU x) by simp,Jh6 r c];show q
theorem JfV:CallR X (.builtin "len") (λxs H Q=>∃ p ys,xs=[.ref p]/\(SqL X.K H p ys\/SqT X.K H p ys)/\Q (.int ys.length) H):=by
 intro f s σ H xs k Q I r h;let(p,ys,rfl,b,q):=h;let(u,rfl,i):=vals1 r;cases i;have j:=JeZ;rcases b with b | b
 .let(e,c,d,g):=I.list b;have a:=c.length;show Calls.call_len_list d.isList (by simp only[size_toArray] <;> ac_nf) ⟨.int ys.length,H,I.tok _,⟨s.toks+1,by rw[size_toArray,a]⟩,q⟩
 .let(e,c,d,g):=I.tuple b;have a:=c.length;show len_tuple d (by simp only[size_toArray] <;> ac_nf) ⟨.int ys.length,H,I.tok _,⟨s.toks+1,by rw[size_toArray,a]⟩,q⟩
theorem JfW:CallR X (.builtin "len") (λxs H Q=>∃ z,xs=[.str z]/\z.length<=sizeLine/\Q (.int z.length) H):=by
 intro a s σ H xs c Q I r h;let(z,rfl,b,q):=h;let(u,rfl,t,rfl):=vals1 r;have d:=JeZ;show len_str ∅ ⟨.int z.length,H,I.tok _,⟨_,rfl⟩,q⟩
theorem JfX:CallR X (.type "list") (λxs H Q=>∃ p ys,xs=[.ref p]/\(SqL X.K H p ys\/SqT X.K H p ys)/\∀ l,H l=none->Q (.ref l) (upd H l (.lst ys))):=by
 intro g s σ H xs B Q I r h;let(p,ys,rfl,t,q):=h;let(u,rfl,A):=vals1 r;cases A;have k:∀(a:List Value),Vals ys a->ys.length<=sizeLine->∀(c:Heap)(f:Nat),(∀ b o',s.heap.get? b=some o'->c.get? b=some o') ->
   c.get? s.heap.objs.size=some { cls:=.type "list",dict:=none,data:=.seq a.toArray f,slots:=#[] }->EP X g σ Q (.ref s.heap.objs.size) { s with heap:=c }:=λa d i c f m e=>
  ⟨.ref s.heap.objs.size,_,I.laid (t':=s.toks) m (Nat.le_refl _) (show ObjOk X.prog X.w _ c _ (.lst ys)from⟨i,a,f,d,e⟩),rfl,q _ (I.hok.fresh (Nat.le_refl _))⟩
 rcases t with t | t
 .let(a,d,x,i):=I.list t;have j:=d.length;let(o,z,v,n,y):=x.isList;show call_list_seq p (.inl rfl) z v y (λc f m e=>k a d i c f m e) (by simp only[size_toArray] <;> ac_nf)
 .let(a,d,x,i):=I.tuple t;have j:=d.length;let(o,z,v,n,y):=x;show call_list_seq p (.inr rfl) z v y (λc f m e=>k a d i c f m e) (by simp only[size_toArray] <;> ac_nf)
def tyV(K:W.Frag)(T:String)(x:V)(H:Hp):Prop:=match x with
 | .str _=>T="str"
 | .int _=>T="int"
 | .ref p=>(T="list"/\∃ xs,SqL K H p xs)\/(T="tuple"/\∃ o,K.lookup p=some o/\o.cls=.type "tuple"/\o.dict=none) \/
   (T="dict"/\((∃ kvs,H p=some (.dK kvs))\/∃ kvs,H p=some (.dT kvs)))\/(T="set"/\∃ S n,H p=some (.set S n))
 | _=>False
variable{pins:List (Addr × Obj)}{σ:St}{H:Hp}{T:String}
theorem JkI{s:Shared}(I:Inv X pins σ H s)(r:RelV x v)(ty:tyV X.K T x H) :
  s.TypeIs v T/\∀ a,v=.ref a->∃ ob,s.heap.get? a=some ob/\ob.dict=none:=by
 cases x with
 | str z=>
  let(t,rfl):=r;cases(show T="str" from ty);show(typeIs_str s z t,λ_ e=>nomatch e)
 | int i=>
  let(t,rfl):=r;cases(show T="int" from ty);show(typeIs_int s i t,λ_ e=>nomatch e)
 | ref p=>
  cases r;rcases ty with⟨rfl,xs,hq⟩ | ⟨rfl,o,hk,hc,f⟩ | ⟨rfl,hk⟩ | ⟨rfl,S,n,hk⟩
  .let(h,_,g,_):=I.list hq;show(g.isList.typeIs,λa e=>?_);cases e;let(o,n,e,c,f,_):=g;show(o,e,f)
  .show(⟨o,I.kIn p o hk,hc⟩,λa e=>?_);cases e;show(o,I.kIn _ o hk,f)
  .have z:∃ o,s.heap.get? p=some o/\o.ExactDict:=by
    rcases hk with⟨kvs,hk⟩ | ⟨kvs,hk⟩
    .let(_,_,_,_,o,_,_,e,b,_):=I.hok p _ hk;show(o,e,b)
    .let(_,_,_,_,o,_,_,e,b,_):=I.hok p _ hk;show(o,e,b)
   let(o,e,b):=z;show(⟨o,e,b.1⟩,λa d=>?_);cases d;show(o,e,b.2.1)
  .let(o,_,_,_,e,b,_):=I.hok p _ hk;show(⟨o,e,b.1⟩,λa d=>?_);cases d;show(o,e,b.2.1)
 | _=>show False.elim ty
def tBM0(K:W.Frag)(T:String)(r:V->List V->Hp->VK->Prop)(to:TE):TE:=λσ H Q=>to σ H λx H1=>tyV K T x H1/\r x [] H1 Q
def tBM(K:W.Frag)(T:String)(r:V->List V->Hp->VK->Prop)(to:TE)(t:TA):TE:=λσ H Q=>to σ H λx H1=>tyV K T x H1/\t σ H1 λxs H2=>r x xs H2 Q
variable{o e:Expr}{es:List Expr}{to:TE}{name:Str}{apos cpos:Pos}{id:String}{t:TA}{r:V->List V->Hp->VK->Prop}
theorem Jkw(pa:PlainAttrs T)(slot:Slot T name id)(hty:typeOf (.builtin id)=pure (.type "method_descriptor"))(hm:MtR X id r)(ho:PE X o to)
  (hbase:autoParam (attributeBase o name X.env (eval o X.env)=eval o X.env) Au) (hline:autoParam ((apos.endLine == cpos.line)=true) Au):PE X (.Call (.Attribute o name apos) [] [] cpos) (tBM0 X.K T r to):=by
 intro a s σ H Q I h;show wpAny_Call_method0_late hbase hline (thn (ho a s σ H _ I h) λv c ζ=>?_);let(x,i,I1,b,e,f):=ζ;let(g,d):=JkI I1 b e;show(T,id,pa,slot,hty,g,d,Calls.callWith_builtin rfl (PySem.evalArgs_none (hm a c σ i x [] v [] Q I1 b .nil f)))
theorem pe_bm(pa:PlainAttrs T)(slot:Slot T name id)(hty:typeOf (.builtin id)=pure (.type "method_descriptor"))(hm:MtR X id r)(ho:PE X o to)(ha:PA X (e::es) t)
  (hbase:autoParam (attributeBase o name X.env (eval o X.env)=eval o X.env) Au)
  (hfew:autoParam (((backTo cpos (starEach (e::es) X.env)).all (λx=>!x.1)&&(backToKw cpos (keywordEach [] X.env)).all (λx=>x.1.isSome)
   && decide ((e::es).length+([]:List Keyword).length+(if([]:List Keyword).isEmpty then 0 else 1)<30))=true) Au)
  (hline:autoParam ((apos.endLine == cpos.line)=true) Au) (hs:autoParam (starEach (e::es) X.env=(false,eval e X.env)::starEach es X.env) Au) (hplain:autoParam ((backTo cpos (starEach es X.env)).any (·.1)=false) Au) :
  PE X (.Call (.Attribute o name apos) (e::es) [] cpos) (tBM X.K T r to t):=by
 intro a s σ H Q I h;show wpAny_Call_method_late hbase hfew hline rfl (thn (ho a s σ H _ I h) λv m ζ=>?_);let(x,p,I1,c,k,l):=ζ;let(n,d):=JkI I1 c k;show(T,id,pa,slot,hty,n,d,?_);have b:=ha cpos a m σ p _ I1 l;rw[hs]at b ⊢;show Calls.callWith_builtin (by show(false||(backTo cpos (starEach es X.env)).any (·.1))=false;rw[hplain] <;> rfl) (Calls.evalArgs_plain ?_);show thn b λu q ζ=>by let(i,f,I2,g,j):=ζ;show hm a q σ f x i v u Q I2 c g j
end
def MtM(X:Cx)(id:String)(r:V->List V->Hp->VK->Prop):Prop :=
 ∀(pins:List (Addr × Obj))(s:Shared)(σ : St)(H:Hp)(x:V)(xs:List V)(v:Value)(us:List Value)(Q:VK),Inv X pins σ H s->RelV x v->Vals xs us->r x xs H Q ->
  wpAny (model X.prog X.w) X.A (call (.builtin id) (v::us)) (EP X pins σ Q) X.xe s
variable{us:List Value}
theorem Vals.one{x:V}(h:Vals [x] us):∃ u,us=[u]/\RelV x u:=by
 cases h with
 | cons r t=>cases t;show(_,rfl,r)
theorem Vals.zero:∀{us:List Value},Vals [] us->us=[]
 | _, .nil=>rfl
variable{xs:List V}
theorem Vals.dropLast(h:Vals xs us):Vals xs.dropLast us.dropLast:=by
 induction h with
 | nil=>show .nil
 | cons r t ih=>
  cases t with
  | nil=>show .nil
  | cons q t'=>show .cons r ih
theorem Vals.reverse(h:Vals xs us):Vals xs.reverse us.reverse:=by
 induction h with
 | nil=>show .nil
 | cons r t ih=>rw[List.reverse_cons,List.reverse_cons];show Vals.append ih (.cons r .nil)
theorem JhH(l:List α):l.eraseIdx (l.length-1)=l.dropLast:=by
 induction l with
 | nil=>rfl
 | cons a r ih=>
  cases r with
  | nil=>rfl
  | cons b r=>
   have e:(a::b::r).length-1=((b::r).length-1)+1:=by
    have c:(a::b::r).length=r.length+2:=rfl;have d:(b::r).length=r.length+1:=rfl;ac_nf
   rw[e,List.eraseIdx_cons_succ,ih];all_goals rfl
section
variable{X:Cx}{pins:List (Addr × Obj)}{σ:St}{H:Hp}{l b:Addr}{ys zs:List V}{s:Shared}{its:List Value}{t':Nat}
theorem Inv.lset{its':List Value}{f:Array Value->Array Value}(I:Inv X pins σ H s)(hH:H l=some (.lst xs))
  (e:s.heap.get? l=some { cls:=.type "list",data:=.seq its.toArray n }) (hf:f its.toArray=its'.toArray) (hv:Vals ys its') (hz:ys.length<=sizeLine) :
  Inv X pins σ (upd H l (.lst ys)) { s with heap:=s.heap.update l (Obj.mapSeq f),toks:=t' }:=by
 have q:=PySem.IsL.update e f;rw[hf]at q;show I.write (x:=l) (e:=l) (by rw[hH];show trivial) (.inl rfl) (λc u b a=>(Heap.get?_update_other s.heap (Obj.mapSeq f) (Ne.symm b)).trans a) ⟨_,q⟩ ?_;show(hz,its',_,hv,q)
theorem Inv.lnew(I:Inv X pins σ H s)(hv:Vals ys its)(hz:ys.length<=sizeLine) :
  Inv X pins σ (upd H s.heap.objs.size (.lst ys)) { s with heap:=s.heap.push { cls:=.type "list",data:=.seq its.toArray },toks:=t' } :=
 I.laid (λ_ _ q=>Heap.get?_push_of_some _ q) (Nat.le_refl _) ⟨hz,its,0,hv,Heap.get?_push_size _ rfl⟩
theorem Inv.fresh(I:Inv X pins σ H s):H s.heap.objs.size=none:=I.hok.fresh (Nat.le_refl _)
theorem Inv.lstM(I:Inv X pins σ H s)(hH:H l=some (.lst xs)):xs.length<=sizeLine/\∃(its:List Value)(n:Nat),Vals xs its/\xs.length=its.length/\s.heap.get? l=some { cls:=.type "list",data:=.seq its.toArray n }:=by
 let(z,its,n,r,e):=I.hok l _ hH;show(z,its,n,r,r.length,e)
theorem JjK(h:n<=sizeLine):Builtin.List.listTooLong n=false:=by
 unfold Builtin.List.listTooLong;show decide_eq_false ∅
end
variable{X:Cx}
def JlF:V->List V->Hp->VK->Prop:=λx vs H Q=>∃ l xs y,x=.ref l/\vs=[y]/\H l=some (.lst xs)/\xs.length<sizeLine/\Q .non (upd H l (.lst (xs++[y])))
theorem Ja9:MtM X "list.append" JlF:=by
 intro b s σ H x j v o Q I f d h;let(l,m,y,rfl,rfl,c,i,q):=h;cases f;let(u,rfl,g):=d.one;let(z,a,n,r,k,e):=I.lstM c;show call_meets F.slot_list_append ⟨_,e,rfl⟩ F.entry_list_append (F.args_list_append_2 _ _) (PySem.list_append l a.toArray n u (by rw[size_toArray];ac_nf)) ⟨e,?_⟩;show(.non,_,I.lset (its':=a++[u]) c e (by simp) (r.append (.cons g .nil)) ?_,rfl,q);rw[length_append,length_singleton];ac_nf
def JlG:V->List V->Hp->VK->Prop:=λx vs H Q=>∃ l b xs zs,x=.ref l/\vs=[.ref b]/\H l=some (.lst xs)/\H b=some (.lst zs)/\xs.length+zs.length<=sizeLine/\Q .non (upd H l (.lst (xs++zs)))
theorem Jf7:MtM X "list.extend" JlG:=by
 intro g s σ H x B v J Q I p o h;let(l,b,G,E,rfl,rfl,i,k,A,q):=h;cases p;let(u,rfl,w):=o.one;cases w;let(z,c,n,r,D,e):=I.lstM i;let(C,a,j,m,y,t):=I.lstM k;have f:c.toArray.size+a.toArray.size<=sizeLine:=by rw[size_toArray,size_toArray];ac_nf
 have d:¬(!c.toArray.isEmpty&&Builtin.List.listTooLong (c.toArray.size+a.toArray.size))=true:=by
  rw[JjK f,Bool.and_false];show Bool.false_ne_true
 show call_meets F.slot_list_extend ⟨_,e,rfl⟩ F.entry_list_extend (F.args_list_extend_2 _ _)
  (AutoSeq1.list_extend_list_list_0 l c.toArray n b a.toArray j d (by rw[size_toArray];ac_nf) ∅) ⟨e,t,?_⟩
 show(.non,_,I.lset (its':=c++a) i e (by simp) (r.append m) ?_,rfl,q);rw[length_append];ac_nf
def rPop:V->List V->Hp->VK->Prop:=λx vs H Q=>∃ l xs y,x=.ref l/\vs=[]/\H l=some (.lst xs)/\xs[xs.length-1]?=some y/\Q y (upd H l (.lst xs.dropLast))
theorem Jms:MtM X "list.pop" rPop:=by
 intro d s σ H x p v w Q I i g h;let(l,t,y,rfl,rfl,f,j,q):=h;cases i;have c:=g.zero;subst c;let(z,a,n,r,m,e):=I.lstM f;let(u,k,o):=r.get j;have b:a.toArray[a.toArray.size-1]?=some u:=by
  show a.toArray[a.length-1]?=some u;rw[<- Array.getElem?_toList, <- m];show k
 show call_meets F.slot_list_pop ⟨_,e,rfl⟩ F.entry_list_pop (F.args_list_pop_1 _) (MeetsSeq.list_pop_last l a.toArray n u b (by rw[size_toArray];ac_nf)) ⟨e,?_⟩;show(y,_,I.lset (its':=a.dropLast) f e ?_ r.dropLast ?_,o,q)
 .show a.toArray.eraseIdxIfInBounds (a.toArray.size-1)=a.dropLast.toArray;rw[size_toArray,List.eraseIdxIfInBounds_toArray,JhH]
 .rw[List.length_dropLast];ac_nf
def Jj1:V->List V->Hp->VK->Prop:=λx vs H Q=>∃ l xs,x=.ref l/\vs=[]/\H l=some (.lst xs)/\Q .non (upd H l (.lst xs.reverse))
theorem JhO:MtM X "list.reverse" Jj1:=by
 intro c s σ H x i v m Q I g f h;let(l,k,rfl,rfl,d,q):=h;cases g;have b:=f.zero;subst b;let(z,a,n,r,j,e):=I.lstM d;show call_meets F.slot_list_reverse ⟨_,e,rfl⟩ F.entry_list_reverse (F.args_list_reverse_1 _) (AutoSeq1.list_reverse_list_0 l a.toArray n (by rw[size_toArray];ac_nf)) ⟨e,?_⟩;show(.non,_,I.lset (its':=a.reverse) d e (by simp) r.reverse ?_,rfl,q);rw[List.length_reverse];ac_nf
def rCat:R2:=λx y H Q=>∃ l b xs zs,x=.ref l/\y=.ref b/\H l=some (.lst xs)/\H b=some (.lst zs)/\xs.length+zs.length<=sizeLine/\∀ p,H p=none->Q (.ref p) (upd H p (.lst (xs++zs)))
theorem Jmv:OpR X (binaryOp .Add) rCat:=by
 intro d s σ H x y v u Q I j i h;let(l,b,D,C,rfl,rfl,o,f,t,q):=h;cases j;cases i;let(z,c,n,r,B,e):=I.lstM o;let(A,a,w,g,p,k):=I.lstM f;show PySem.P.add_list e k ?_ (by rw[size_toArray,size_toArray];ac_nf);have m:c.toArray++a.toArray=(c++a).toArray:=by simp
 rw[m];show(.ref _,_,I.lnew (t':=s.toks) (r.append g) (by rw[length_append];ac_nf),rfl,q _ I.fresh)
section
variable{prog:Program}{A:Around}{E:Value->Shared->Prop}{w:World}{s:Shared}
end
end L2
namespace Att
open PySem PySem.W PySem.Calls PyProof.Rows
theorem Jd7{P:Params}{h:Heap}:∀(ns:List Int)(vs:List Value),WellAll P h vs (ns.map WData.int)->IntsAre vs ns:=by
 intro ns;induction ns with
 | nil=>
  intro vs w;rw[map_nil]at w;cases w;show .nil
 | cons n ns ih=>
  intro vs w;rw[map_cons]at w;cases w with
  | cons a b=>
   cases a;show .cons _ _ (ih _ b)
variable{l:OpenLaw}{n:Nat}
theorem Ji6(hn:l.most=some n){P:Params}{h:Heap}{args:List WData}{vals:List Value}
  (hpre:l.row.toRowW.claim.pre args=true) (hwl:WellAll P h vals args) :
  ∃ a vs ns,vals=[Value.ref a]/\args=[WData.list (ns.map WData.int)]/\h.get? a=some { cls:=.type "list",data:=.seq vs.toArray }/\IntsAre vs ns/\ns.length<=n:=by
 have f:WShape.hasAll [] args [.list .int]=true:=(pre_splitW hpre).1;have g:l.pre.holds [] { args:=args }=true:=(pre_splitW hpre).2;let(d,r,rfl,m,i):=hasAllW_cons f;obtain rfl:=hasAllW_nil i;let(o,rfl,j):=hasW_list m;let(ns,rfl):=items_int j;have b:ns.length<=n:=by
  unfold OpenLaw.pre at g;have c:(WTm.not (.lt (.lit (.int (n:Int))) (.len (.arg 0)))).holds [] { args:=[.list (ns.map .int)] }=true:=by
   have c:=(holds_andW g).1;rw[hn]at c;show c
  have e:=condW_of c (w_not (w_lt w_lit (w_len_list (w_arg rfl))));rw[length_map]at e;show Nat.le_of_not_lt λq=>?_;have k:(n:Int)<((ns.length:Nat):Int):=by ac_nf
  first
   | (rw[decide_eq_true k]at e;show absurd e ⋯)
   | (simp at e;ac_nf)
 cases hwl with
 | cons w1 w2=>
  cases w2;cases w1 with
  | list ho hall=>show(_,_,ns,rfl,rfl,ho,Jd7 ns _ hall,b)
theorem JiV(l:OpenLaw)(args:List WData):l.row.toRowW.claim.post args (.bool true) args=true :=
 postW_of (r:=l.row.toRowW) (X:=(true == true))
  (show WShape.has [] (.bool true) .bool=true by first | rfl | decide | simp[WShape.has,WShape.arms,WShape.armsAll])
  (show(WTm.eq .res (.lit (.bool true))).value [] { args:=args,res:=some (.bool true),after:=args }=some (.bool (true == true))from w_eq_bool (w_res rfl) w_lit) rfl
theorem attach_call{q:Program}{loose:List Str}{XP:(Str->Option Value)->Heap->Prop}{YP:World->Heap->Prop}{d:DefRec}
  (hn:l.most=some n) (hdf:d.params.defaults=[])
  (call:∀(w:World)(s₀ s₁ : Shared)(mg mb:Str->Option Value)(fa:Addr)(o:Obj)(pm cd doc:Value)(a:Addr)(vs:List Value)(ns:List Int),
   Ground q loose [] XP w s₀ mg mb s₁.heap->YP w s₁.heap ->
   s₁.heap.get? fa=some o->o.data=.func (docDef d.name d.params d.body d.scope pm cd doc)->s₁.heap.CodeRec cd d.name->mg d.name=some (.ref fa) ->
   s₁.heap.get? a=some { cls:=.type "list",data:=.seq vs.toArray }->IntsAre vs ns->ns.length<=n->s₁.gens=#[] ->
   codeAny (model l.prog w) callerA (.call (.ref fa) ⟨[.ref a],[]⟩) (λr s'=>r=.ok (.ret (.bool true))/\OldK s₁.heap s'.heap/\s'.os=s₁.os/\AllBare s'.gens) s₁) :
  WalkO q loose XP YP l.row.toRowW d [] (λf vs=>PySem.call f vs):=by
 intro w s₀ s₁ mg mb G Y fa o pm cd doc x kV D A i t h F k m H c p C j z;obtain rfl:x=.none:=Dflts.none t hdf;obtain rfl:kV=.none:=Dflts.noKw t;let(a,vs,ns,rfl,rfl,g,b,e):=Ji6 hn c j;show enter_call (codeAny_mono (call w s₀ s₁ mg mb fa o pm cd doc a vs ns G Y D (fd_plain A) i h g b e F) λr s' E=>?_);let(rfl,u,y,v):=E;show(.inl ⟨.bool true, .bool true,[],rfl,λ_=>rfl, .bool true,JiV l _,λ_=>⟨List.Pairwise.nil,λ_ B=>(nomatch B)⟩⟩,u,y,v)
section
variable{prog:Program}{A:Around}{E:Value->Shared->Prop}{K:Frag}{w:World}{s:Shared}
end
end Att
namespace L2
open PySem PySem.Spec PyProof.Rows
variable{vs:List Value}{ns:List Int}
theorem Jjp(h:IntsAre vs ns):Vals (ns.map V.int) vs:=by
 induction h with
 | nil=>show .nil
 | cons n t _ ih=>show .cons ⟨t,rfl⟩ ih
def Only(H:Hp):Prop:=∀ b,H b=none\/∃ o xs,H b=some (.frz o (.lst xs))
variable{P:Program}{mg:Str->Option Value}{a:Addr}{fd:FuncData}{x:Str}
theorem JjG{w:World}{K:W.Frag}{mb:Str->Option Value}{CX:CXT}{k:Nat}{fa:Addr}{sp:Sp}{s₁:Shared}
  (KX:K.In s₁.heap) (hns:s₁.heap.Ns mainGlobals mg) (hb:s₁.heap.Ns builtinsNs mb) (hbb:∀ x:Str,x≠"__name__"->mb x=bootBuiltins x) (hlim:s₁.heap.NoLimit) (hg:s₁.gens=#[])
  (ha:s₁.heap.get? a=some { cls:=.type "list",data:=.seq vs.toArray }) (hi:IntsAre vs ns) (hl:ns.length<=sizeLine) (hr:Room k callerA)
  (F:∀ base:Heap,K.In base->base.Ns mainGlobals mg->FnOk P w K mg base CX k fa fd [x] sp) (hbind:∀(s:Shared)(u:Value),BindsTo s fd ⟨[u],[]⟩ [(x,u)])
  (hsp:∀ H:Hp,Only H->SqL K H a (ns.map V.int)->sp [.ref a] H (λv _=>v=.bl true) λ_ _ _=>False)
  (hCX:∀ H e s',CX [] H s₁ (λ_ _ _=>False) e s'->False) :
  codeAny (model P w) callerA (.call (.ref fa) ⟨[.ref a],[]⟩) (λr s'=>r=.ok (.ret (.bool true))/\OldK s₁.heap s'.heap/\s'.os=s₁.os/\AllBare s'.gens) s₁:=by
 have E:=Jjp hi;have i:=hi.length;have g:∀ H:Hp,Only H->SqL K H a (ns.map V.int)->HOk P w H s₁.heap->(∀ b,H b≠none->b=a)->(H a≠none->K.lookup a=none) ->
   codeAny (model P w) callerA (.call (.ref fa) ⟨[.ref a],[]⟩) (λr s'=>r=.ok (.ret (.bool true))/\OldK s₁.heap s'.heap/\s'.os=s₁.os/\AllBare s'.gens) s₁:=by
  intro H D M j C N;have c:∀{b:Addr}{o:Obj},s₁.heap.get? b=some o->H b=none->(hidT s₁.heap H).get? b=some o:=λe n=>JjE e n;have B:∀{b:Addr}{o:Obj}{es:Array DictEntry}{ep:Nat},s₁.heap.get? b=some o->o.data=.dict es ep->H b=none:=λ{b o es ep} e d=>by
   cases q:H b with
   | none=>rfl
   | some u=>
    have A:b=a:=C b (by rw[q];simp);subst A;rw[ha]at e;cases e;have J:Data.seq vs.toArray _=Data.dict es ep:=d;cases J
  have f:∀{b:Addr}{m:Str->Option Value},s₁.heap.Ns b m->(hidT s₁.heap H).Ns b m:=λ{b m} ζ=>(by let(o,es,ep,e,d,r):=ζ;show(o,es,ep,c e (B e d),d,r));have p:K.In (hidT s₁.heap H):=λb o e=>c (KX b o e) (by
   cases q:H b with
   | none=>rfl
   | some u=>
    have A:b=a:=C b (by rw[q];simp);subst A;rw[N (by rw[q];simp)]at e;cases e)
  have L:Mod K mg (hidT s₁.heap H):=⟨p,f hns,⟨mb,f hb,hbb⟩,let⟨mc,h1,h2⟩:=hlim;⟨mc,f h1,h2⟩⟩;have T:Env0 P w K mg (hidT s₁.heap H) callerA [] s₁ H:=⟨rfl,L,λb o e=>Jlj e,Nat.le_of_eq (Jiu _ _),trivial,λb hb=>absurd (show b∈([]:List Addr)from hb) (by simp),j, .of_eq hg⟩;show codeAny_mono ((F _ p (f hns)).run callerA [] s₁ H ⟨[.ref a],[]⟩ [.ref a] [.ref a] _ _ hr T (hbind s₁ (.ref a)) (.cons rfl .nil) (hsp H D M)) λr s' h=>?_;cases r with
  | error e=>show(hCX H e s' h).elim
  | ok fl=>
   cases fl with
   | next=>show False.elim h
   | brk=>show False.elim h
   | cont=>show False.elim h
   | ret u=>
    let(v,U,os,l,G,t,R,q):=h;have Q:v=.bl true:=q;subst Q;obtain rfl:u=Value.bool true:=R;show(rfl,OldK.of_keep λb o e=>?_,os,l);cases q:H b with
    | none=>show G.keep b o e q (by intro z;show absurd (show b∈([]:List Addr)from z) (by simp)) (by simp)
    | some u=>
     rcases D b with z | ⟨ob,xs,z⟩
     .rw[q]at z;cases z
     .have O:=G.frzs b ob _ z;let(I,_):=j b _ z;let(S,_):=t b _ O;rw[e]at I;cases I;show S
 cases hk:K.lookup a with
 | some o=>
  have e:=KX a o hk;rw[ha]at e;cases e;show g (λ_=>none) (λ_=>.inl rfl) (.inr ⟨_,vs.toArray,_,hk,rfl,rfl,rfl,by rw[size_toArray,i];show hl,by simpa using E⟩) (λb u z=>by have y:(none:Option HO)=some u:=z;cases y) (λb z=>absurd rfl z) λz=>absurd rfl z
 | none=>
  show g (λb=>if b=a then some (.frz { cls:=.type "list",data:=.seq vs.toArray } (.lst (ns.map V.int)))else none) (λb=>?_) (.inl (.inr ⟨{ cls:=.type "list",data:=.seq vs.toArray },if_pos rfl⟩)) (λb u z=>?_) (λb z=>?_) λ_=>hk
  .by_cases hb:b=a
   .show .inr ⟨_,_,if_pos hb⟩
   .show .inl (if_neg hb)
  .by_cases hb:b=a
   .have y:=(if_pos hb).symm.trans z;cases y;subst hb;show(ha,by rw[length_map];show hl,vs,_,E,ha)
   .have y:=(if_neg hb).symm.trans z;cases y
  .by_cases hb:b=a
   .show hb
   .show absurd (if_neg hb) z
abbrev KOf{K:W.Frag}{h:Heap}(_:K.In h):W.Frag:=K
theorem Jjt{l:W.OpenLaw}{n k:Nat}{q:Program}{loose:List Str}{XP:(Str->Option Value)->Heap->Prop}{YP:World->Heap->Prop}{d:DefRec}{K:Params->W.Frag}{CX:World->CXT}{sp:World->Sp}
  (hn:l.most=some n) (hn2:n<=sizeLine) (hdf:d.params.defaults=[]) (hr:Room k callerA)
  (hY:∀(w:World)(h:Heap),YP w h->(K w.params).In h)
  (F:∀(w:World)(mg:Str->Option Value)(fa:Addr)(h:Heap),(K w.params).In h->h.Ns mainGlobals mg->mg d.name=some (.ref fa) ->
   ∃ fd:FuncData,(∀(s:Shared)(u:Value),BindsTo s fd ⟨[u],[]⟩ [(x,u)]) /\
    ∀ base:Heap,(K w.params).In base->base.Ns mainGlobals mg->FnOk l.prog w (K w.params) mg base (CX w) k fa fd [x] (sp w))
  (hsp:∀(w:World)(H:Hp)(a:Addr)(ns:List Int),ns.length<=n->Only H->SqL (K w.params) H a (ns.map V.int)->sp w [.ref a] H (λv _=>v=.bl true) λ_ _ _=>False)
  (hCX:∀(w:World)(H:Hp)(s:Shared)(e:Value)(s':Shared),CX w [] H s (λ_ _ _=>False) e s'->False) :
  W.WalkO q loose XP YP l.row.toRowW d [] (λf vs=>PySem.call f vs):=by
 show Att.attach_call hn hdf λw s₀ s₁ mg J fa o C D p a vs ns G Y I E y m j i c B=>?_;have KX:=hY w _ Y;let(fd,z,A):=F w mg fa _ KX G.T.g m;show JjG KX G.T.g G.T.b G.T.builtins G.T.nolimit B j i (Nat.le_trans c hn2) hr A z (λH r t=>hsp w H a ns c r t) λH e s'=>hCX w H s₁ e s'
def inClass(s:Stmt)(j:Nat):Stmt:=match s with
 | .ClassDef _ _ _ body _ _ _ _ _ _ _=>body.getD j (.Pass ⟨0,0,0,0⟩)
 | _=>.Pass ⟨0,0,0,0⟩
def Jam(s:Stmt):Arguments:=match s with
 | .FunctionDef _ a _ _ _ _ _ _ _ _=>a
 | _=>{ posonlyargs:=[],args:=[],vararg:=none,kwonlyargs:=[],kw_defaults:=[],kwarg:=none,defaults:=[] }
def Jal(s:Stmt):List Stmt:=match s with
 | .FunctionDef _ _ b _ _ _ _ _ _ _=>b
 | _=>[]
def Jae(s:Stmt):Scope:=match s with
 | .FunctionDef _ _ _ _ _ _ sc _ _ _=>sc
 | _=>{ kind:=.function,names:=[],isGenerator:=false,isCoroutine:=false }
abbrev E0:XK:=λ_ _ _=>False
structure Fun(K:W.Frag)(x qual:Str)(st:Stmt)(f:Addr)(fd:FuncData):Prop where
 ex:∃(oc:Value)(od:Option Addr)(kV doc pm:Value)(an:Option Addr)(cdv ct:Value)(osl:Array (Option Value)),
  fd=W.fnOf x qual (Jam st) (Jal st) (Jae st) .none kV doc pm an cdv ct/\K.lookup f=some ⟨oc,od, .func fd,osl⟩/\W.codeIn K cdv qual=true
 kp:W.keepIn K (.ref f)=true
section
variable{base:Heap}{w:World}{K:W.Frag}
theorem Fun.binds{qual:Str}{st:Stmt}{f:Addr}{ps:List Str}(F:Fun K x qual st f fd)
  (h:∀(kV doc pm:Value)(an:Option Addr)(cdv ct:Value)(us:List Value),us.length=ps.length->bindArgs (W.fnOf x qual (Jam st) (Jal st) (Jae st) .none kV doc pm an cdv ct) ⟨us,[]⟩=pure (ps.zip us)):Binds K fd ps []:=by
 let(c,d,kV,doc,pm,an,cdv,ct,a,rfl,e,b):=F.ex;show .all (h kV doc pm an cdv ct)
end
variable{X:Cx}
theorem pv(i:Nat){x:Str}{pos:Pos}(hN:autoParam (X.N[i]?=some x) Au)(hv:Vis X.env.scope x:=by first | show Or.inl rfl | show Or.inr (Or.inl rfl) | show Or.inr (Or.inr rfl))(hd:autoParam ((x == ("__debug__" : Str))=false) Av)
  (hcd:autoParam ((x == ("__classdict__" : Str))=false) Av):PE X (.Name x pos) (tVar i):=JmC hN hv hd hcd
def Same(H H':Hp):Prop:=∀ b o,H b=some o->H' b=some o
theorem Same.refl(H:Hp):Same H H:=λ_ _ h=>h
variable{H:Hp}
theorem Same.trans{H1 H2:Hp}(a:Same H H1)(b:Same H1 H2):Same H H2:=λc o h=>b c o (a c o h)
theorem Same.seq{K:W.Frag}{H':Hp}{xs:List V}(e:Same H H')(h:SqL K H a xs):SqL K H' a xs:=by
 rcases h with(h | ⟨o,h⟩) | h
 .show .inl (.inl (e _ _ h))
 .show .inl (.inr ⟨o,e _ _ h⟩)
 .show .inr h
end L2
set_option maxHeartbeats 4000000
namespace L2
open PySem PySem.Spec PyProof.Rows
section
variable{κ:Type}[DecidableEq κ]
def valV(kvs:List (κ × V))(k : κ):Option V:=(kvs.find? λkv=>decide (kv.1=k)).map (·.2)
def putK(kvs:List (κ × V))(k : κ)(v:V):List (κ × V) :=
 if(kvs.any λkv=>decide (kv.1=k))=true then kvs.map (λkv=>if kv.1=k then(kv.1,v)else kv)else kvs++[(k,v)]
theorem Jbg{p : κ × V}{r:List (κ × V)}{k : κ}(e:p.1=k):valV (p::r) k=some p.2:=by simp[valV,List.find?_cons,e]
theorem Jbm{p : κ × V}{r:List (κ × V)}{k : κ}(e:¬ p.1=k):valV (p::r) k=valV r k:=by simp[valV,List.find?_cons,e]
theorem JcI(k : κ):∀ kvs:List (κ × V),(kvs.any λkv=>decide (kv.1=k))=(valV kvs k).isSome
 | []=>rfl
 | p::r=>by
  rw[any_cons];by_cases e:p.1=k
  .simp only[Jbg e,decide_eq_true e,Bool.true_or,Option.isSome_some]
  .rw[Jbm e,decide_eq_false e,Bool.false_or];show JcI k r
theorem Jhx(k j : κ)(y:V):∀ kvs:List (κ × V),valV (kvs.map λkv=>if kv.1=k then(kv.1,y)else kv) j=(valV kvs j).map λx=>if j=k then y else x
 | []=>rfl
 | p::r=>by
  have ih:=Jhx k j y r;rw[map_cons];by_cases h:p.1=k
  .rw[if_pos h];by_cases e:p.1=j
   .rw[Jbg (p:=(p.1,y)) e,Jbg e,Option.map_some,if_pos (e.symm.trans h)]
   .rw[Jbm (p:=(p.1,y)) e,Jbm e,ih]
  .rw[if_neg h];by_cases e:p.1=j
   .rw[Jbg (p:=p) e,Jbg e,Option.map_some,if_neg (λz=>h (e.trans z))]
   .rw[Jbm (p:=p) e,Jbm e,ih]
theorem Jgn(k j : κ)(y:V):∀ kvs:List (κ × V),valV kvs k=none->valV (kvs++[(k,y)]) j=if j=k then some y else valV kvs j
 | [],_=>by
  by_cases e:k=j
  .rw[if_pos e.symm];show Jbg (p:=(k,y)) e
  .rw[if_neg (λz=>e z.symm)];show Jbm (p:=(k,y)) e
 | p::r,hn=>by
  rw[cons_append];have hk:¬ p.1=k:=λz=>by rw[Jbg z]at hn;cases hn
  rw[Jbm hk]at hn;have ih:=Jgn k j y r hn;by_cases e:p.1=j
  .rw[Jbg e,Jbg e,if_neg (λz=>hk (e.trans z))]
  .rw[Jbm e,Jbm e,ih]
theorem Jhy(kvs:List (κ × V))(k j : κ)(y:V):valV (putK kvs k y) j=if j=k then some y else valV kvs j:=by
 unfold putK;by_cases a:(kvs.any λb=>decide (b.1=k))=true
 .rw[if_pos a,Jhx];rw[JcI]at a;by_cases e:j=k
  .let(x,c):=Option.isSome_iff_exists.mp a;rw[if_pos e,e,c,Option.map_some,if_pos rfl]
  .rw[if_neg e];cases valV kvs j with
   | none=>rfl
   | some x=>rw[Option.map_some,if_neg e]
 .rw[if_neg a];show Jgn k j y kvs ?_;rw[JcI]at a;cases q:valV kvs k with
  | none=>rfl
  | some x=>rw[q]at a;show(a rfl).elim
theorem Jbx(kvs:List (κ × V))(k : κ)(v:V):(putK kvs k v).length<=kvs.length+1:=by
 unfold putK;split
 .rw[length_map];ac_nf
 .rw[length_append,length_cons,length_nil];ac_nf
theorem Jj0{kvs:List (κ × V)}{k : κ}(v:V)(h:valV kvs k=none):putK kvs k v=kvs++[(k,v)]:=by
 unfold putK;rw[JcI,h];show if_neg ⋯
variable{o:Option V}{u:Option Value}
theorem RelO.isSome_eq(r:RelO o u):o.isSome=u.isSome:=by
 cases o with
 | none=>cases u with
  | none=>rfl
  | some _=>show(show False from r).elim
 | some _=>cases u with
  | none=>show(show False from r).elim
  | some _=>rfl
variable{d:V}
theorem RelO.getD{d':Value}(r:RelO o u)(rd:RelV d d'):RelV (o.getD d) (u.getD d'):=by
 cases o with
 | none=>cases u with
  | none=>show rd
  | some _=>show(show False from r).elim
 | some _=>cases u with
  | none=>show(show False from r).elim
  | some _=>show r
theorem KV.val{kvs:List (κ × V)}{vs:List (κ × Value)}(r:KV kvs vs)(k : κ):RelO (valV kvs k) (valueAt vs k):=by
 unfold KV at r;induction r with
 | nil=>show True.intro
 | @cons p q ps qs h t ih=>
  let(c,d):=h;by_cases e:p.1=k
  .have a:q.1=k:=c.symm.trans e;have b:valueAt (q::qs) k=some q.2:=by simp[valueAt,List.find?_cons,a]
   rw[Jbg e,b];show d
  .have a:¬ q.1=k:=λz=>e (c.trans z);have b:valueAt (q::qs) k=valueAt qs k:=by simp[valueAt,List.find?_cons,a]
   rw[Jbm e,b];show ih
theorem KV.any{kvs:List (κ × V)}{vs:List (κ × Value)}(r:KV kvs vs)(k : κ):(kvs.any λkv=>decide (kv.1=k))=vs.any λkv=>decide (kv.1=k):=by
 unfold KV at r;induction r with
 | nil=>rfl
 | cons h t ih=>rw[any_cons,any_cons,ih,h.1]
theorem KV.repl{kvs:List (κ × V)}{vs:List (κ × Value)}(r:KV kvs vs)(k : κ){y:V}{u:Value}(ry:RelV y u) :
  KV (kvs.map λkv=>if kv.1=k then(kv.1,y)else kv) (vs.map λkv=>if kv.1=k then(kv.1,u)else kv):=by
 unfold KV at r ⊢;induction r with
 | nil=>show .nil
 | @cons p q ps qs h t ih=>
  rw[map_cons,map_cons];show .cons ?_ ih;let(a,b):=h;by_cases e:p.1=k
  .rw[if_pos e,if_pos (a.symm.trans e)];show(a,ry)
  .rw[if_neg e,if_neg (λz=>e (a.trans z))];show(a,b)
theorem KV.put{kvs:List (κ × V)}{vs:List (κ × Value)}(r:KV kvs vs)(k : κ){y:V}{u:Value}(ry:RelV y u):KV (putK kvs k y) (stored vs k u):=by
 unfold putK stored;rw[r.any k];by_cases e:(vs.any λa=>decide (a.1=k))=true
 .rw[if_pos e,if_pos e];show r.repl k ry
 .rw[if_neg e,if_neg e];show Paired.snoc r ⟨rfl,ry⟩
theorem KV.length{kvs:List (κ × V)}{vs:List (κ × Value)}(r:KV kvs vs):kvs.length=vs.length:=Paired.length r
end
variable{P:Program}
theorem kV_is{w:World}{k:Key}{u:Value}(r:RelV (kV k) u):(Jau P w).is k u=true:=by
 cases k with
 | inl i=>have e:=(show u=Value.bool i from r);subst e;show Jf5 P w i
 | inr x=>let(t,e):=(show∃ t,u=Value.str x t from r);subst e;show JgC P w x t
theorem Jf4{w:World}:∀{ks:List Key}{us:List Value},Vals (ks.map kV) us->ItemsAre (Jau P w) ks us
 | [],_,r=>by rw[map_nil]at r;cases r;show .nil
 | k::ks,_,r=>by
  rw[map_cons]at r;cases r with
  | cons h t=>show .cons (kV_is h) (Jf4 t)
abbrev KT(H:Hp):List (List Key × V)->List (List Key × Addr × Value)->Prop:=Paired λp q=>p.1=q.1/\H q.2.1=some (.tup (p.1.map kV))/\RelV p.2 q.2.2
variable{H:Hp}{kvs:List (List Key × V)}{xs:List (List Key × Addr × Value)}
theorem KT.val(r:KT H kvs xs)(k:List Key):RelO (valV kvs k) ((atKey xs k).map (·.2)):=by
 induction r with
 | nil=>show True.intro
 | @cons p q ps qs h t ih=>
  let(c,_,d):=h;by_cases e:p.1=k
  .have a:q.1=k:=c.symm.trans e;have b:atKey (q::qs) k=some q.2:=by simp[atKey,List.find?_cons,a]
   rw[Jbg e,b];show d
  .have a:¬ q.1=k:=λz=>e (c.trans z);have b:atKey (q::qs) k=atKey qs k:=by simp[atKey,List.find?_cons,a]
   rw[Jbm e,b];show ih
theorem KT.repl(r:KT H kvs xs)(k:List Key){y:V}{u:Value}(ry:RelV y u) :
  KT H (kvs.map λkv=>if kv.1=k then(kv.1,y)else kv) (xs.map (putAt k u)):=by
 induction r with
 | nil=>show .nil
 | @cons p q ps qs h t ih=>
  rw[map_cons,map_cons];show .cons ?_ ih;let(a,b,c):=h;unfold putAt;by_cases e:p.1=k
  .rw[if_pos e,if_pos (a.symm.trans e)];show(a,b,ry)
  .rw[if_neg e,if_neg (λz=>e (a.trans z))];show(a,b,c)
theorem KT.put(r:KT H kvs xs)(k:List Key){b:Addr}{y:V}{u:Value}(hb:H b=some (.tup (k.map kV)))(ry:RelV y u) :
  KT H (putK kvs k y) (storedH xs k b u):=by
 have e:(kvs.any λa=>decide (a.1=k))=(atKey xs k).isSome:=by
  rw[JcI,(r.val k).isSome_eq,Option.isSome_map]
 unfold putK storedH;rw[e];by_cases q:(atKey xs k).isSome=true
 .rw[if_pos q,if_pos q];show r.repl k ry
 .rw[if_neg q,if_neg q];show Paired.snoc r ⟨rfl,hb,ry⟩
variable{H':Hp}
theorem KT.keeps(r:KT H kvs xs)(ht:∀ b ys,H b=some (.tup ys)->H' b=some (.tup ys)):KT H' kvs xs :=
 Paired.mapP r λ_ _ z=>⟨z.1,ht _ _ z.2.1,z.2.2⟩
section
variable{h:Heap}{a:Addr}{w:World}
theorem y7cy{u:HO}(ok:HOk P w H h)(e:Rd H a u):ObjOk P w H h a u:=e.ok ok
variable{kvs:List (Key × V)}
theorem dk_rd(ok:HOk P w H h)(e:Rd H a (.dK kvs)):kvs.length<=sizeLine/\(a == sysModules)=false/\∃ vs,KV kvs vs/\h.DictOf (Jau P w) a vs :=
 show ObjOk P w H h a (.dK kvs)from y7cy ok e
theorem dk_of(ok:HOk P w H h)(e:H a=some (.dK kvs)):kvs.length<=sizeLine/\(a == sysModules)=false/\∃ vs,KV kvs vs/\h.DictOf (Jau P w) a vs:=dk_rd ok (.inl e)
theorem Jd8{ks:List Key}(ok:HOk P w H h)(e:H a=some (.tup (ks.map kV))):(tupleKind (Jau P w)).is h ks a:=by
 let(_,b,r,o,f,c,n,d):=(show ObjOk P w H h a (.tup (ks.map kV))from ok a _ e);show(o,b.toArray,n,f,c,d,by simpa using Jf4 r)
variable{kvs:List (List Key × V)}
theorem dt_rd(ok:HOk P w H h)(e:Rd H a (.dT kvs)):kvs.length<=sizeLine/\(a == sysModules)=false /\
  ∃ xs,KT H kvs xs/\h.DictOfH (tupleKind (Jau P w)) a xs:=by
 let(z,y,xs,r,o,c,j,i,d,f,g,k):=(show ObjOk P w H h a (.dT kvs)from y7cy ok e);show(z,y,xs,r,o,c,j,i,d,f,g,λx b=>?_,k);have all:∀{l:List (List Key × V)}{m:List (List Key × Addr × Value)},KT H l m->∀ x∈m,(tupleKind (Jau P w)).is h x.1 x.2.1:=by
  intro l m q;induction q with
  | nil=>intro x b;show nomatch b
  | @cons p q ps qs hq t ih=>
   intro x b;rcases mem_cons.mp b with e | b
   .subst e;show Jd8 ok (by rw[<- hq.1];show hq.2.1)
   .show ih x b
 show all r x b
theorem dt_of(ok:HOk P w H h)(e:H a=some (.dT kvs)):kvs.length<=sizeLine/\(a == sysModules)=false /\
  ∃ xs,KT H kvs xs/\h.DictOfH (tupleKind (Jau P w)) a xs:=dt_rd ok (.inl e)
end
def DGet(H:Hp)(a:Addr)(y:V)(r:Option V):Prop :=
 (∃ kvs k,Rd H a (.dK kvs)/\y=kV k/\r=valV kvs k)\/∃ kvs k b,Rd H a (.dT kvs)/\y=.ref b/\H b=some (.tup (k.map kV))/\r=valV kvs k
def DPut(H:Hp)(a:Addr)(y v:V)(H':Hp):Prop :=
 (∃ kvs k,H a=some (.dK kvs)/\y=kV k/\kvs.length<sizeLine/\H'=upd H a (.dK (putK kvs k v))) \/
 ∃ kvs k b,H a=some (.dT kvs)/\y=.ref b/\H b=some (.tup (k.map kV))/\kvs.length<sizeLine/\H'=upd H a (.dT (putK kvs k v))
variable{a:Addr}{kvs:List (Key × V)}
theorem DGet.k{k:Key}(e:H a=some (.dK kvs)):DGet H a (kV k) (valV kvs k):=.inl ⟨kvs,k, .inl e,rfl,rfl⟩
variable{v:V}
theorem DPut.k{k:Key}(e:H a=some (.dK kvs))(hl:kvs.length<sizeLine):DPut H a (kV k) v (upd H a (.dK (putK kvs k v))):=.inl ⟨kvs,k,e,rfl,hl,rfl⟩
section
variable{X:Cx}{pins:List (Addr × Obj)}{σ:St}{y:V}{u:Value}{o:Option V}{A:Around}{E:Value->Shared->Prop}{s:Shared}{r:Value}
theorem Inv.big(I:Inv X pins σ H s):sysModules<s.heap.objs.size:=by
 have h:mainGlobals<s.heap.objs.size:=(I.mod.glob.keeps I.bk).lt;show Nat.lt_trans ⋯ h
variable{Q:Value->Shared->Prop}
theorem Jii(hu:A.units+1<cLine)(I:Inv X pins σ H s)(g:DGet H a y (some v))(ry:RelV y u)(h:∀ w' s',Inv X pins σ H s'->RelV v w'->Q w' s') :
  wpAny (model X.prog X.w) A (getItem (.ref a) u) Q E s:=by
 rcases g with⟨kvs,k,e,ey,l⟩ | ⟨kvs,k,b,e,ey,eb,l⟩
 .subst ey;let(z,r,n,c,i):=dk_rd I.hok e;let(w',j,d):=RelO.some_of (v:=v) (o:=valueAt n k) (by rw[l];show c.val k);show wpAny_getItem_of (kV_is ry) i.mapOf j (h w' _ (I.tok _) d)
 .subst ey;cases(show u=Value.ref b from ry);let(z,r,m,c,i):=dt_rd I.hok e;let(w',j,d):=RelO.some_of (v:=v) (o:=(atKey m k).map (·.2)) (by rw[l];show c.val k);let(p,q,f):=Option.map_eq_some_iff.mp j;show wpAny_getItem_heap (tupleKind_room_in1 hu) (Jd8 I.hok eb) i q ?_;rw[f];show h w' _ (I.tok _) d
theorem d_in(hu:A.units+1<cLine)(I:Inv X pins σ H s)(g:DGet H a y o)(ry:RelV y u)(h:∀ s',Inv X pins σ H s'->Q (.bool o.isSome) s') :
  wpAny (model X.prog X.w) A (compareOp .In u (.ref a)) Q E s:=by
 rcases g with⟨kvs,k,e,ey,l⟩ | ⟨kvs,k,b,e,ey,eb,l⟩
 .subst ey;let(z,f,j,c,d):=dk_rd I.hok e;show wpAny_in_of (kV_is ry) f d.mapOf ?_;rw[<- (c.val k).isSome_eq, <- l];show h _ (I.tok _)
 .subst ey;cases(show u=Value.ref b from ry);let(z,f,i,c,d):=dt_rd I.hok e;show wpAny_in_heap (tupleKind_room_in1 hu) (Jd8 I.hok eb) f d ?_;have q:=(c.val k).isSome_eq;rw[Option.isSome_map]at q;rw[<- q, <- l];show h _ (I.tok _)
theorem JkY(hu:A.units+1<cLine)(I:Inv X pins σ H s)(g:DGet H a y o)(ry:RelV y u)(h:∀ s',Inv X pins σ H s'->Q (.bool (!o.isSome)) s') :
  wpAny (model X.prog X.w) A (compareOp .NotIn u (.ref a)) Q E s:=by
 rcases g with⟨kvs,k,e,ey,l⟩ | ⟨kvs,k,b,e,ey,eb,l⟩
 .subst ey;let(z,f,j,c,d):=dk_rd I.hok e;show wpAny_notIn_of (kV_is ry) f d.mapOf ?_;rw[<- (c.val k).isSome_eq, <- l];show h _ (I.tok _)
 .subst ey;cases(show u=Value.ref b from ry);let(z,f,i,c,d):=dt_rd I.hok e;show wpAny_notIn_heap (tupleKind_room_in1 hu) (Jd8 I.hok eb) f d ?_;have q:=(c.val k).isSome_eq;rw[Option.isSome_map]at q;rw[<- q, <- l];show h _ (I.tok _)
variable{h':Heap}{t':Nat}
theorem Jfa{ob:HO}(I:Inv X pins σ H s)(mu:Mut (H a))(hs:Heap.SameBut a s.heap h')(he:∃ q,h'.get? a=some q)(new:ObjOk X.prog X.w (upd H a ob) h' a ob) :
  Inv X pins σ (upd H a ob) { s with heap:=h',toks:=t' } :=
 I.write (x:=a) (e:=a) mu (.inl rfl) (λb q c z=>(hs.2 b c).trans z) he new
theorem Jhe{w:World}{vs:List (Key × Value)}(z:kvs.length<=sizeLine)(hd:(a == sysModules)=false)(rel:KV kvs vs)(dd:h'.DictOf (Jau P w) a vs) :
  ObjOk P w H' h' a (.dK kvs):=⟨z,hd,vs,rel,dd⟩
theorem Jij{Q:Unit->Shared->Prop}(hu:A.units+1<cLine)(I:Inv X pins σ H s)(g:DPut H a y v H')(ry:RelV y u)(rv:RelV v r)(h:∀ s',Inv X pins σ H' s'->Q () s') :
  wpAny (model X.prog X.w) A (setItem (.ref a) u r) Q E s:=by
 rcases g with⟨kvs,k,e,ey,l,eH⟩ | ⟨kvs,k,b,e,ey,eb,l,eH⟩
 .subst ey eH;let(z,m,J,d,o):=dk_of I.hok e;have j:J.length<=sizeLine:=by rw[<- d.length];show z
  have p:(putK kvs k v).length<=sizeLine:=by have:=Jbx kvs k v;ac_nf
  show wpAny_setItem_pairs (hsz:=j) (kV_is ry) o λx f n=>h _ ?_;have G:∃ q,x.get? a=some q:=let⟨q,_,_,i,_⟩:=f;⟨q,i⟩;show Jfa I (by rw[e];show True.intro) n G (Jhe p m (d.put k rv) f)
 .subst ey eH;cases(show u=Value.ref b from ry);let(z,m,M,d,o):=dt_of I.hok e;have j:M.length<=sizeLine:=by rw[<- Paired.length d];show z
  have p:(putK kvs k v).length<=sizeLine:=by have:=Jbx kvs k v;ac_nf
  show wpAny_setItem_heap (hsz:=j) (tupleKind_room_in1 hu) (Jd8 I.hok eb) o λx f n=>h _ ?_;let(q,F,D,i,B,K,C,_,L):=f;show Jfa I (by rw[e];show True.intro) n ⟨q,i⟩ ⟨p,m,_,(d.put k eb rv).keeps λc N t=>?_,q,F,D,i,B,K,C,L⟩;rw[Jag (ne_of t e (λz=>nomatch z))];show t
end
section
variable{X:Cx}{pins:List (Addr × Obj)}{σ:St}{u:Value}{A:Around}{E:Value->Shared->Prop}{s:Shared}{k:Key}
end
def NoSl(i:Expr):Prop:=∀ ov iv,subscripted i false ov iv=operate [ov,iv] (getItem ov iv)
variable{A:Around}{E Q:Value->Shared->Prop}{env:Env}{value:Expr}{pos:Pos}
theorem JlR{prog:Program}{w:World}{s:Shared}{slice:Expr}{T id:String}
  (hl:typeLookup (.type T) "__getitem__"=pure (some (.builtin id))) (hs:NoSl slice)
  (h:wpAny (model prog w) A (eval value env) (λo s₁=>wpAny (model prog w) A (eval slice env) (λi s₂=>s₂.TypeIs o T/\wpAny (model prog w) A (getItem o i) Q E s₂) E s₁) E s) :
  wpAny (model prog w) A (eval (.Subscript value slice pos) env) Q E s:=by
 show Subscript_ (wpAny_mono h (λo s₁ h₁=>wpAny_mono h₁ (λi s₂ h₂=>?_) λ_ _ x=>x) λ_ _ x=>x);let(b,h₂):=h₂;unfold subscriptTail;show wpAny_bind ?_;rw[getitemInPython_of_ne b.not_modules];show wpAny_bind (wpAny_specialOf b hl ?_);have a:wpAny (model prog w) A (subscripted slice false o i) (λr s₃=>wpAny (model prog w) A (letTemporaryGo value o r >>= λ_=>pure r) Q E s₃) E s₂:=by
  rw[hs o i];show wpAny_operating (wpAny_mono h₂ (λr s₃ h₃=>wpAny_bind (wpAny_letTemporaryGo (wpAny_pure h₃))) λ_ _ x=>x)
 first
  | show wpAny_pure (wpAny_bind a)
  | show wpAny_bind (wpAny_pure (wpAny_bind a))
  | show wpAny_bind a
variable{X:Cx}{pins:List (Addr × Obj)}{σ:St}{y:V}
theorem Jgt{s:Shared}{o:Option V}(I:Inv X pins σ H s)(g:DGet H a y o):s.TypeIs (.ref a) "dict":=by
 rcases g with⟨kvs,k,e,_,_⟩ | ⟨kvs,k,b,e,_,_,_⟩
 .let(_,_,f,_,c):=dk_rd I.hok e;show c.typeIs
 .let(_,_,d,_,c):=dt_rd I.hok e;show c.typeIs
def tDGet(td ty:TE):TE:=λσ H Q=>td σ H λx H1=>ty σ H1 λy H2=>∃ a v,x=.ref a/\DGet H2 a y (some v)/\Q v H2
def tDIn(ty td:TE):TE:=λσ H Q=>ty σ H λy H1=>td σ H1 λx H2=>∃ a o,x=.ref a/\DGet H2 a y o/\Q (.bl o.isSome) H2
def Jjd(ty td:TE):TE:=λσ H Q=>ty σ H λy H1=>td σ H1 λx H2=>∃ a o,x=.ref a/\DGet H2 a y o/\Q (.bl (!o.isSome)) H2
def sDPut(td ty tv:TE):TS:=λD σ H=>tv σ H λv H1=>td σ H1 λx H2=>ty σ H2 λy H3=>∃ a H4,x=.ref a/\DPut H3 a y v H4/\D.nx σ H4
section
variable{o e:Expr}{pos' tpos:Pos}{ty tv:TE}{i:Expr}{td:TE}
theorem Jch(hu:X.A.units+1<cLine)(ho:PE X o td)(hi:PE X i ty)(hs:NoSl i):PE X (.Subscript o i pos) (tDGet td ty):=by
 intro b s σ H Q I h;show JlR PySem.F.slot_dict_getitem.lookup hs (thn (ho b s σ H _ I h) λu m ζ=>?_);let(x,n,I1,f,l):=ζ;show thn (hi b m σ n _ I1 l) λr t ζ=>?_;let(y,d,I2,e,a,v,k,g,j):=ζ;subst k;obtain rfl:u=Value.ref a:=f;show(Jgt I2 g,Jii hu I2 g e λq p I3 c=>⟨v,d,I3,c,j⟩)
theorem Jho(hu:X.A.units+1<cLine)(hi:PE X i ty)(ho:PE X o td):PC X .In i o (tDIn ty td):=by
 intro b s σ H Q I h;show thn (hi b s σ H _ I h) λq l ζ=>?_;let(y,m,I1,d,k):=ζ;show thn (ho b l σ m _ I1 k) λu r ζ=>?_;let(x,c,I2,e,a,n,j,g,f):=ζ;subst j;obtain rfl:u=Value.ref a:=e;show d_in hu I2 g d λp I3=>⟨.bl n.isSome,c,I3,rfl,f⟩
theorem Jdl(hu:X.A.units+1<cLine)(hi:PE X i ty)(ho:PE X o td):PC X .NotIn i o (Jjd ty td):=by
 intro b s σ H Q I h;show thn (hi b s σ H _ I h) λq l ζ=>?_;let(y,m,I1,d,k):=ζ;show thn (ho b l σ m _ I1 k) λu r ζ=>?_;let(x,c,I2,e,a,n,j,g,f):=ζ;subst j;obtain rfl:u=Value.ref a:=e;show JkY hu I2 g d λp I3=>⟨.bl (!n.isSome),c,I3,rfl,f⟩
theorem Jcx(hu:X.A.units+1<cLine)(ho:PE X o td)(hi:PE X i ty)(hv:PE X value tv)(hs:swapsWith value (some (.Subscript o i pos')) pos.line X.env=pure false) :
  PS X (.Assign [.Subscript o i pos'] value pos) (sDPut td ty tv):=by
 intro b s σ H D I h;show wpAny_Assign_Subscript (thn (hv b s σ H _ I h) λr n ζ=>?_) hs;let(v,p,I1,d,m):=ζ;show thn (ho b n σ p _ I1 m) λu t ζ=>?_;let(x,c,I2,f,l):=ζ;show thn (hi b t σ c _ I2 l) λC w ζ=>?_;let(y,B,I3,e,a,j,k,g,q):=ζ;subst k;obtain rfl:u=Value.ref a:=f;show Jij hu I3 g e d λz I4=>⟨σ,j,I4,q⟩
end
theorem Jhd{w:World}(h:Heap)(hb:sysModules<h.objs.size):ObjOk P w H (h.push { cls:=.type "dict",data:=.dict #[] }) h.objs.size (.dK []) :=
 ⟨Nat.zero_le _,beq_eq_false_iff_ne.mpr (Ne.symm (Nat.ne_of_lt hb)),[], .nil,Heap.DictOf.new h⟩
def JkE:TE:=λ_ H Q=>∀ p,H p=none->Q (.ref p) (upd H p (.dK []))
theorem JbQ:PE X (.Dict [] [] pos) JkE:=λb s σ H Q I h=>
 wpAny_Dict_empty ⟨.ref s.heap.objs.size,_,I.laid (a:=s.heap.objs.size) (o:=.dK []) (t':=s.toks) (λ_ _ q=>Heap.get?_push_of_some _ q) (Nat.le_refl _) (Jhd s.heap I.big),rfl,h _ (I.hok.fresh (Nat.le_refl _))⟩
def Jgl:List (TE × TE)->St->Hp->(List (V × V)->Hp->Prop)->Prop
 | [],_,H,Q=>Q [] H
 | (tk,tv)::r,σ,H,Q=>tk σ H λx H1=>tv σ H1 λy H2=>Jgl r σ H2 λps H3=>Q ((x,y)::ps) H3
abbrev VV:List (V × V)->List (Value × Value)->Prop:=Paired λp q=>RelV p.1 q.1/\RelV p.2 q.2
def PPs(X:Cx)(pos:Pos)(keys:List (Option Expr))(values:List Expr)(trs:List (TE × TE)):Prop :=
 ∀(pins:List (Addr × Obj))(s:Shared)(σ : St)(H:Hp)(Q:List (V × V)->Hp->Prop),Inv X pins σ H s->Jgl trs σ H Q ->
  wpAny (model X.prog X.w) X.A (evalPairs (pairTrees keys values X.env pos)) (λvs s'=>∃ ps H',Inv X pins σ H' s'/\VV ps vs/\Q ps H') X.xe s
theorem JlC:PPs X pos [] [] []:=λa s σ H Q I h=>pairTrees_nil_walk ⟨[],H,I, .nil,h⟩
variable{trs:List (TE × TE)}
theorem JjY{k v:Expr}{ks:List (Option Expr)}{vs:List Expr}{tk tv:TE}(hk:PE X k tk)(hv:PE X v tv)(hr:PPs X pos ks vs trs) :
  PPs X pos (some k::ks) (v::vs) ((tk,tv)::trs):=λa s σ H Q I h=>
 pairTrees_cons_walk (thn (hk a s σ H _ I h) λu l ζ=>by let(x,m,I1,f,i):=ζ;show thn (hv a l σ m _ I1 i) λr o ζ=>by let(y,c,I2,e,g):=ζ;show thn (hr a o σ c _ I2 g) λq p ζ=>by let(j,d,I3,b,n):=ζ;show((x,y)::j,d,I3, .cons ⟨f,e⟩ b,n))
def Je0(kvs more:List (Key × V)):List (Key × V):=more.foldl (λacc kv=>putK acc kv.1 kv.2) kvs
theorem KV.merge:∀{more:List (Key × V)}{rs:List (Key × Value)}{kvs:List (Key × V)}{vs:List (Key × Value)},KV more rs->KV kvs vs->KV (Je0 kvs more) (merged vs rs):=by
 intro more rs kvs vs r;unfold KV at r;induction r generalizing kvs vs with
 | nil=>intro q;show q
 | @cons p q ps qs h t ih=>
  intro a;have e:KV (putK kvs p.1 p.2) (stored vs q.1 q.2):=by
   have:=a.put p.1 h.2;rw[<- h.1];show this
  show ih e
theorem Jdh:∀(more kvs:List (Key × V)),(Je0 kvs more).length<=kvs.length+more.length
 | [],kvs=>by show kvs.length<=kvs.length+0;ac_nf
 | p::r,kvs=>by
  have h1:=Jdh r (putK kvs p.1 p.2);have h2:=Jbx kvs p.1 p.2;show(Je0 (putK kvs p.1 p.2) r).length<=_;rw[length_cons];ac_nf
theorem JeT{P:Program}{w:World}:∀{kvs:List (Key × V)}{ws:List (Value × Value)},VV (kvs.map λkv=>(kV kv.1,kv.2)) ws->∃ rs,Carries (Jau P w) ws rs/\KV kvs rs
 | [],_,r=>by rw[map_nil]at r;cases r;show([],True.intro, .nil)
 | p::kvs,_,r=>by
  rw[map_cons]at r;cases r with
  | @cons a b as bs h t=>
   let(rs,c,q):=JeT (P:=P) (w:=w) t;let(b1,b2):=b;show((p.1,b2)::rs,⟨kV_is h.1,rfl,c⟩, .cons ⟨rfl,h.2⟩ q)
def tDisp(trs:List (TE × TE)):TE:=λσ H Q=>∀ p,H p=none->Jgl trs σ (upd H p (.dK [])) λps H2=>H2 p=some (.dK [])/\∃ kvs:List (Key × V),ps=kvs.map (λkv=>(kV kv.1,kv.2))/\kvs.length<=15/\Q (.ref p) (upd H2 p (.dK (Je0 [] kvs)))
theorem Jlv{keys:List (Option Expr)}{values:List Expr}(h:PPs X pos keys values trs)(hall:keys.all (·.isSome)=true)(hl:keys.length=values.length)(h0:keys≠[])
  (h15:keys.length<=15):PE X (.Dict keys values pos) (tDisp trs):=by
 intro b s σ H Q I q;have y:=I.hok.fresh (Nat.le_refl s.heap.objs.size);have I1:=I.laid (a:=s.heap.objs.size) (o:=.dK []) (h':=s.heap.push { cls:=.type "dict",data:=.dict #[] }) (t':=s.toks) (λ_ _ q=>Heap.get?_push_of_some _ q) (Nat.le_refl _) (Jhd s.heap I.big);show wpAny_Dict_walk (knd:=Jau X.prog X.w) hall hl h0 h15 (thn (h b _ σ _ _ I1 (q _ y)) λC E ζ=>?_);let(D,A,I2,g,e,d,k,B,n):=ζ;subst k;let(t,c,p):=JeT (P:=X.prog) (w:=X.w) g;let(z,r,i,l,v):=dk_of I2.hok e;cases l;show(t,c,v,λh' f u=>⟨.ref s.heap.objs.size,_,?_,rfl,n⟩);have j:(Je0 [] d).length<=sizeLine:=by
  have x:=Jdh d [];rw[length_nil]at x;rw[sizeLine_eq];ac_nf
 have m:∃ q,h'.get? s.heap.objs.size=some q:=let⟨q,_,_,hq,_⟩:=f;⟨q,hq⟩;show Jfa I2 (by rw[e];show True.intro) u m (Jhe j r (p.merge .nil) f)
structure M1(X:Cx)(o:Expr)(m:Str)(apos:Pos)(e:Expr)(cpos:Pos):Prop where
 base:attributeBase o m X.env (eval o X.env)=eval o X.env
 few:((backTo cpos (starEach [e] X.env)).all (λx=>!x.1)&&(backToKw cpos (keywordEach [] X.env)).all (λx=>x.1.isSome)
  && decide (([e]:List Expr).length+([]:List Keyword).length+(if([]:List Keyword).isEmpty then 0 else 1)<30))=true
 line:(apos.endLine == cpos.line)=true
 trees:backTo cpos (starEach [e] X.env)=[(false,eval e X.env)]
structure M2(X:Cx)(o:Expr)(m:Str)(apos:Pos)(e f:Expr)(cpos:Pos):Prop where
 base:attributeBase o m X.env (eval o X.env)=eval o X.env
 few:((backTo cpos (starEach [e,f] X.env)).all (λx=>!x.1)&&(backToKw cpos (keywordEach [] X.env)).all (λx=>x.1.isSome)
  && decide (([e,f]:List Expr).length+([]:List Keyword).length+(if([]:List Keyword).isEmpty then 0 else 1)<30))=true
 line:(apos.endLine == cpos.line)=true
 trees:backTo cpos (starEach [e,f] X.env)=[(false,eval e X.env),(false,eval f X.env)]
def IsD(H:Hp)(a:Addr):Prop:=(∃ kvs,Rd H a (.dK kvs))\/∃ kvs,Rd H a (.dT kvs)
theorem Jf2{s:Shared}(I:Inv X pins σ H s)(d:IsD H a) :
  s.TypeIs (.ref a) "dict"/\(∀ b,Value.ref a=.ref b->∃ ob,s.heap.get? b=some ob/\ob.dict=none)/\(a == sysModules)=false:=by
 rcases d with⟨kvs,e⟩ | ⟨kvs,e⟩
 .let(_,h,j,_,c):=dk_rd I.hok e;show(c.typeIs,λb q=>?_,h);cases q;let(ob,_,_,g,f,_):=c;show(ob,g,f.2.1)
 .let(_,h,i,_,c):=dt_rd I.hok e;show(c.typeIs,λb q=>?_,h);cases q;let(ob,_,_,g,f,_):=c;show(ob,g,f.2.1)
section
variable{d:V}{u:Value}{o:Option V}{s:Shared}{r:Value}
theorem Jl9(hu:A.units+1<cLine)(I:Inv X pins σ H s)(g:DGet H a y o)(ry:RelV y u)(h:∀ w' s',Inv X pins σ H s'->RelV (o.getD .non) w'->Q w' s') :
  wpAny (model X.prog X.w) A (call (.builtin "dict.get") [.ref a,u]) Q E s:=by
 rcases g with⟨kvs,k,e,ey,l⟩ | ⟨kvs,k,b,e,ey,eb,l⟩
 .subst ey;let(z,f,j,c,d):=dk_rd I.hok e;show call_meetsIn PySem.F.slot_dict_get d.typeIs PySem.F.entry_dict_get (PySem.F.args_dict_get_2 _ _) (meets_dict_get (Jau X.prog X.w) a (kV_is ry) f) ⟨_,d.mapOf,h _ _ (I.tok _) ?_⟩;rw[l];show(c.val k).getD rfl
 .subst ey;cases(show u=Value.ref b from ry);let(z,f,i,c,d):=dt_rd I.hok e;show call_meetsIn PySem.F.slot_dict_get d.typeIs PySem.F.entry_dict_get (PySem.F.args_dict_get_2 _ _) (meetsH_dict_get (tupleKind (Jau X.prog X.w)) a b f) ⟨tupleKind_room_in1 hu,k,i,Jd8 I.hok eb,d,h _ _ (I.tok _) ?_⟩;rw[l];show(c.val k).getD rfl
theorem Jma(hu:A.units+1<cLine)(I:Inv X pins σ H s)(g:DGet H a y o)(ry:RelV y u)(rd:RelV d r)(h:∀ w' s',Inv X pins σ H s'->RelV (o.getD d) w'->Q w' s') :
  wpAny (model X.prog X.w) A (call (.builtin "dict.get") [.ref a,u,r]) Q E s:=by
 rcases g with⟨kvs,k,e,ey,l⟩ | ⟨kvs,k,b,e,ey,eb,l⟩
 .subst ey;let(z,i,m,c,f):=dk_rd I.hok e;show call_meetsIn PySem.F.slot_dict_get f.typeIs PySem.F.entry_dict_get (PySem.F.args_dict_get_3 _ _ _) (meets_dict_get_default (Jau X.prog X.w) a (kV_is ry) i r) ⟨_,f.mapOf,h _ _ (I.tok _) ?_⟩;rw[l];show(c.val k).getD rd
 .subst ey;cases(show u=Value.ref b from ry);let(z,i,j,c,f):=dt_rd I.hok e;show call_meetsIn PySem.F.slot_dict_get f.typeIs PySem.F.entry_dict_get (PySem.F.args_dict_get_3 _ _ _) (meetsH_dict_get_default (tupleKind (Jau X.prog X.w)) a b i r) ⟨tupleKind_room_in1 hu,k,j,Jd8 I.hok eb,f,h _ _ (I.tok _) ?_⟩;rw[l];show(c.val k).getD rd
end
def JkC(td ty:TE):TE:=λσ H Q=>td σ H λx H1=>∃ a,x=.ref a/\IsD H1 a/\ty σ H1 λy H2=>∃ o,DGet H2 a y o/\Q (o.getD .non) H2
def JkD(td ty tx:TE):TE:=λσ H Q=>td σ H λx H1=>∃ a,x=.ref a/\IsD H1 a/\ty σ H1 λy H2=>tx σ H2 λz H3=>∃ o,DGet H3 a y o/\Q (o.getD z) H3
section
variable{o e:Expr}{apos cpos:Pos}{ty tx:TE}{f:Expr}{td:TE}
theorem JjR(hu:X.A.units+1<cLine)(ho:PE X o td)(he:PE X e ty)(m:M1 X o "get" apos e cpos):PE X (.Call (.Attribute o "get" apos) [e] [] cpos) (JkC td ty):=by
 intro b s σ H Q I h;show wpAny_Call_method m.base m.few m.line PySem.F.plainAttrs_dict PySem.F.slot_dict_get PySem.F.type_dict_get (thn (ho b s σ H _ I h) λu r ζ=>?_);let(x,t,I1,j,a,l,d,q):=ζ;subst l;obtain rfl:u=Value.ref a:=j;let(p,n,_):=Jf2 I1 d;show(p,n,?_);rw[m.trees];show Calls.callWith_builtin rfl (Calls.evalArgs_plain (Calls.spliced_cons (thn (he b r σ t _ I1 q) λz B ζ=>?_)));let(y,f,I2,i,C,g,k):=ζ;show Calls.spliced_nil ?_;show Jl9 hu I2 g i λw v I3 c=>⟨_,f,I3,c,k⟩
theorem JjS(hu:X.A.units+1<cLine)(ho:PE X o td)(he:PE X e ty)(hf:PE X f tx)(m:M2 X o "get" apos e f cpos):PE X (.Call (.Attribute o "get" apos) [e,f] [] cpos) (JkD td ty tx):=by
 intro b s σ H Q I h;show wpAny_Call_method m.base m.few m.line PySem.F.plainAttrs_dict PySem.F.slot_dict_get PySem.F.type_dict_get (thn (ho b s σ H _ I h) λu w ζ=>?_);let(x,B,I1,n,a,p,d,v):=ζ;subst p;obtain rfl:u=Value.ref a:=n;let(r,t,_):=Jf2 I1 d;show(r,t,?_);rw[m.trees];show Calls.callWith_builtin rfl (Calls.evalArgs_plain (Calls.spliced_cons (thn (he b w σ B _ I1 v) λL D ζ=>?_)));let(y,i,I2,k,q):=ζ;show Calls.spliced_cons (thn (hf b D σ i _ I2 q) λJ E ζ=>?_);let(z,j,I3,l,M,g,C):=ζ;show Calls.spliced_nil ?_
 show Jma hu I3 g k l λK G I4 c=>⟨_,j,I4,c,C⟩
end
section
variable{s:Shared}
end
section
variable{u:Value}{s:Shared}
end
section
variable{κ:Type}[DecidableEq κ]
end
def DictAt(h:Heap)(e:Addr)(od:Option Addr):Prop:=∃ o,h.get? e=some o/\o.dict=od
theorem Jio(o:Obj)(f):(o.mapFields f).dict=o.dict:=by
 let(c,d,a,b):=o;cases a <;> rfl
section
variable{M:Model}{base:Heap}{outer l:List Env}{L e:Addr}{oe:Obj}{vs:Array Value}{head a0 fl:Value}{od:Option Addr}{Q:Unit->Shared->Prop}{s:Shared}{cls:Value}
theorem Jkm{hadNext:Bool}(hfr:A.frames=some (env::outer))(hl:s.heap.FunFrames base (env::outer))(hf:env.frame=some L)
  (he:s.heap.get? e=some oe) (hkb:base.StaysIn s.heap) (hen:base.get? e=none) (hd:oe.data=.fields vs) (hsz:1<vs.size) (h0:vs[0]?=some a0)
  (h:∀ h',Heap.NotedW base (env::outer) e oe.cls a0 (rawInt L) s.heap h'->DictAt h' e oe.dict->Q () { s with heap:=h' }) :
  wpAny M A (do let a <- frameOf env;let pl <- entryPlaceOf L hadNext;let b <- EntryCells.newEntry head a .none (rawInt L) .none pl;setField (.ref e) 1 b) Q E s:=by
 have C:e∉(env::outer).filterMap (·.frame):=λu=>by
  let(_,o,B,f):=hl.mem u;rw[he]at B;cases B;show f vs hd
 show wpAny_bind (wpAny_frameOf_fun hfr hl hf λh₁ r=>wpAny_bind (wpAny_entryPlaceOf λpl j=>?_));unfold EntryCells.newEntry newFields;show wpAny_bind (wpAny_newObj_type ?_ (j.sizeOk5 _ _ _ _ _));have l:h₁.get? e=some oe:=(r.2.1 e C).trans he;have g:base.StaysIn h₁:=λb o c=>(r.2.1 b λu=>by rw[(hl.mem u).1]at c;cases c).trans (hkb b o c);generalize v:({ cls:=.type "traceback",dict:=none,data:=.fields ([head, .ref L, .none,rawInt L, .none]++(if pl.isEmpty then List.replicate 6 Value.none else pl)).toArray }:Obj)=p;have i:=Heap.get?_push_of_some (h:=h₁) p l;show wpAny_setField i hd hsz ?_;have x:h₁.objs.size≠e:=Nat.ne_of_gt (Heap.lt_size l);have m:=Obj.data_mapFields hd (·.setIfInBounds 1 (Value.ref h₁.objs.size));have k:=Heap.get?_update_self (Obj.mapFields (·.setIfInBounds 1 (Value.ref h₁.objs.size))) i (Obj.isFreed_of_fields m);have t:=(Heap.get?_update_other (h₁.push p) (Obj.mapFields (·.setIfInBounds 1 (Value.ref h₁.objs.size))) (Ne.symm x)).trans (Heap.get?_push_size h₁ (by rw[<- v];rfl));have d:∀ b o,b≠e->h₁.get? b=some o->((h₁.push p).update e (Obj.mapFields (·.setIfInBounds 1 (Value.ref h₁.objs.size)))).get? b=some o:=λb o n c=>by
  rw[Heap.get?_update_other _ _ (Ne.symm n)];show Heap.get?_push_of_some _ c
 have y:∀ b o,s.heap.get? b=some o->(∀ vs,o.data≠.fields vs)->b≠e:=λb o c f q=>by
  rw[q,he]at c;cases c;show f vs hd
 show h _ ⟨λb o c=>d b o (λq=>by rw[q,hen]at c;cases c) (g b o c),hl.of_keeps λb o c f=>?_,?_,λb o c f=>?_⟩ ⟨_,k,Jio _ _⟩
 .let(w,z):=r.2.2 b o c;show(_,d b _ (y b o c f) z,rfl)
 .show(_,_,h₁.objs.size,p,_,k,⟨Obj.cls_mapFields _ _,by rw[Array.getElem?_setIfInBounds_ne ⋯];show h0⟩,m,by simp[hsz],g.fresh,x,t,by rw[<- v],?_);first | (simp;done) | (rcases j with rfl | ⟨_,_,_,_,_,_,_,rfl⟩ <;> simp)
 .let(w,z):=r.2.2 b o c;show(w,d b _ (y b o c f) z)
theorem noteD(hfr:A.frames=some (env::outer))(hf:env.frame=some L)(hfl:Heap.FlyingW base (env::outer) e cls a0 s.heap)(hdc:DictAt s.heap e od)
  (h:∀ h',Heap.HeldW base (env::outer) e cls a0 L h'->s.heap.UpToSlots h'->DictAt h' e od->Q () { s with heap:=h' }):wpAny M A (noteFrame (.ref e) env) Q E s:=by
 let(l,j,G,J,u,T,K,I,n,(i,z),w,x,m,p,k,d,v):=hfl;subst i;let(C,g,r):=hdc;rw[n]at g;cases g;unfold noteFrame;simp only[hf];show wpAny_bind (wpAny_field n w x ?_);rw[if_pos (show(Value.ref T != Value.none)=true from by simp)];show wpAny_bind (wpAny_field k d v ?_);rw[if_neg (show¬((Value.none == rawInt L)=true)from by simp[rawInt])];show wpAny_bind (wpAny_setField k d (Array.getElem?_eq_some_iff.mp v).1 ?_);have a:∀ b,b≠T->(s.heap.update T (Obj.mapFields (·.setIfInBounds 3 Value.none))).get? b=s.heap.get? b:=λb c=>Heap.get?_update_other _ _ (Ne.symm c);have t:∀ b o,s.heap.get? b=some o->(∀ u,o.data≠.fields u)->b≠T:=λb o c f q=>by
  rw[q,k]at c;cases c;show f I d
 show Jkm hfr (G.of_keeps λb o c f=>⟨o,(a b (t b o c f)).trans c,rfl⟩) hf ((a e (Ne.symm p)).trans n)
  (λb o c=>(a b λq=>by rw[q,m]at c;cases c).trans (l b o c)) j w (Array.getElem?_eq_some_iff.mp x).1 z λh' ⟨H,F,y,B⟩ D=>?_
 show h h' ⟨H,j,F,y⟩ (λb o c f=>B b o ((a b (t b o c f)).trans c) f) (r ▸ D)
theorem Jfd(hkb:base.StaysIn s.heap)(hl:s.heap.FunFrames base l)(ht:s.heap.TracedAtW base e cls a0 fl)(hdc:DictAt s.heap e od)
  (h:∀ h',base.StaysIn h'->h'.FunFrames base l->h'.TracedW base e cls a0->s.heap.UpToSlots h'->DictAt h' e od->Q () { s with heap:=h' }):wpAny M A (setFlight (.ref e) none) Q E s:=by
 let(w,r,T,B,z,u,k,v,n,i,g,p,d,y):=ht;have j:=(Array.getElem?_eq_some_iff.mp y).1;have a:∀ b,b≠T->(s.heap.update T (Obj.mapFields (·.setIfInBounds 3 ((none:Option Addr).elim Value.none λf=>rawInt f)))).get? b=s.heap.get? b:=λb c=>Heap.get?_update_other _ _ (Ne.symm c);have t:∀ b o,s.heap.get? b=some o->(∀ r,o.data≠.fields r)->b≠T:=λb o c m q=>by
  rw[q,p]at c;cases c;show m z d
 unfold setFlight;show wpAny_bind (wpAny_field u v n ?_);rw[if_pos (show(Value.ref T != Value.none)=true from by simp)];show wpAny_setField p d j (h _ (λb o c=>(a b λq=>by rw[q,i]at c;cases c).trans (hkb b o c)) (hl.of_keeps λb o c m=>⟨o,(a b (t b o c m)).trans c,rfl⟩) ?_ (λb o c m=>⟨o.slots,(a b (t b o c m)).trans c⟩) ?_)
 .show(w,r,T,_,_,(a e (Ne.symm g)).trans u,k,v,n,i,g,Heap.get?_update_self _ p (Obj.isFreed_of_fields (Obj.data_mapFields d _)),Obj.data_mapFields d _,by simp[j])
 .let(o,n,x):=hdc;show(o,(a e (Ne.symm g)).trans n,x)
theorem Jla(hfr:A.frames=some (env::outer))(hf:env.frame=some L)(hfl:Heap.FlyingW base (env::outer) e cls a0 s.heap)(hdc:DictAt s.heap e od)
  (hQ:∀ h',Heap.FlyingW base outer e cls a0 h'->s.heap.UpToSlots h'->DictAt h' e od->Q () { s with heap:=h' }):wpAny M A (leaving env (.ref e)) Q E s:=by
 unfold leaving;show wpAny_bind (noteD hfr hf hfl hdc λj g k i=>?_);let(f,d,m,c):=g;show Jfd (s:={ s with heap:=j }) f m c i λa b ⟨_,_,l⟩ h o n=>hQ a ⟨b,d,l,h⟩ (k.trans o) n
theorem Jmn(hh:Heap.HeldW base l e cls a0 L s.heap)(hdc:DictAt s.heap e od)(hQ:∀ h',Heap.FlyingW base l e cls a0 h'->s.heap.UpToSlots h'->DictAt h' e od->Q () { s with heap:=h' }):wpAny M A (setFlight (.ref e) none) Q E s:=by
 let(f,d,i,c):=hh;show Jfd f i c hdc λa b h g k j=>hQ a ⟨b,d,h,g⟩ k j
theorem Jl1(hh:Heap.FlyingW base l e cls a0 s.heap)(hdc:DictAt s.heap e od)(hQ:∀ h',Heap.FlyingW base l e cls a0 h'->s.heap.UpToSlots h'->DictAt h' e od->Q () { s with heap:=h' }):wpAny M A (setFlight (.ref e) none) Q E s:=by
 let(f,d,i,c):=hh;show Jfd f i c.at hdc λa b h g k j=>hQ a ⟨b,d,h,g⟩ k j
theorem Jkq(hfr:A.frames=some (env::outer))(hl:s.heap.FunFrames base (env::outer))(hf:env.frame=some L)(he:s.heap.get? e=some oe)(hkb:base.StaysIn s.heap)(hen:base.get? e=none)(hd:oe.data=.fields vs)(h1:vs[1]?=some .none)(h0:vs[0]?=some a0)
  (hQ:∀ h',Heap.FlyingW base outer e oe.cls a0 h'->s.heap.UpToSlots h'->DictAt h' e oe.dict->Q () { s with heap:=h' }):wpAny M A (leaving env (.ref e)) Q E s:=by
 unfold leaving noteFrame;simp only[hf];show wpAny_bind (wpAny_bind (wpAny_field he hd h1 ?_));rw[if_neg ⋯];show Jkm hfr hl hf he hkb hen hd (Array.getElem?_eq_some_iff.mp h1).1 h0 λa ⟨c,j,l,g⟩ i=>?_;show Jfd (s:={ s with heap:=a }) c j l i λf b ⟨_,_,h⟩ d m k=>hQ f ⟨b,hen,h,d⟩ (Heap.UpToSlots.trans g m) k
end
variable{h:Heap}
theorem ObjOk.is_there{w:World}{o:HO}(x:ObjOk P w H h a o):∃ ob,h.get? a=some ob:=by
 cases o with
 | lst xs=>let(_,_,_,_,e):=x;show(_,e)
 | tup xs=>let(_,_,_,p):=x;let(o,e,_):=p;show(_,e)
 | dK kvs=>let(_,_,_,_,o,_,_,e,_):=x;show(_,e)
 | dT kvs=>let(_,_,_,_,o,_,_,e,_):=x;show(_,e)
 | set S n=>
  let(o,_,_,_,e,_):=x;show(_,e)
 | ins C dx fs=>let(_,_,_,e,_):=x;show(_,e)
 | own y=>show x
 | xd fs=>let(b,n,_):=x;let(c,e,_):=Jee n;show(_,e)
 | rng lo hi=>let(_,_,_,e):=x;show(_,e)
 | frz ob u=>show(_,x.1)
 | tbl ps=>show(_,x)
 | met f y=>show(_,x)
 | ext φ=>show x.2.1
theorem HOk.isnone{w:World}(x:HOk P w H h)(e:h.get? a=none):H a=none:=by
 cases q:H a with
 | none=>rfl
 | some u=>
  let(b,z):=(x a u q).is_there;rw[e]at z;cases z
structure Fly(l:List Env)(H':Hp)(h0:Heap)(ea:Addr)(od:Option Addr)(cls a0:Value)(B h:Heap):Prop where
 fly:Heap.FlyingW B l ea cls a0 h
 free:H' ea=none
 new:h0.get? ea=none
 dct:DictAt h ea od
 kept:∀ b o,h.get? b=some o->((∃ o',h0.get? b=some o')\/∃ u,H' b=some u)->b∉frs l->B.get? b=some o
def CX1(P:Program)(w:World):CXT:=λouter H s E e s'=>
 ∃(ea:Addr)(od:Option Addr)(cls a0:Value)(B:Heap)(H':Hp),e=.ref ea/\s'.os=s.os/\AllBare s'.gens/\Un (frs outer) [] H H' s.heap s'.heap/\HOk P w H' s'.heap /\
  Fly outer H' s.heap ea od cls a0 B s'.heap/\E cls od H'
section
variable{l l':List Env}{h0 h' B:Heap}{ea:Addr}{od:Option Addr}{a0:Value}{w:World}{cls:Value}
theorem Fly.next(u:Un (frs l) [] H H' h0 h)(hok:HOk P w H' h)(F:Fly l H' h0 ea od cls a0 B h)(fr:∀ b∈frs l,H' b=none)(k:B.StaysIn h')(sl:h.UpToSlots h') :
  HOk P w H' h'/\Un (frs l) [] H H' h0 h'/\∀ b o,h.get? b=some o->((∃ o',h0.get? b=some o')\/∃ u,H' b=some u)->b∉frs l->h'.get? b=some o:=by
 have c:∀ b o,h.get? b=some o->((∃ o',h0.get? b=some o')\/∃ u,H' b=some u)->b∉frs l->h'.get? b=some o:=λb o q r n=>k b o (F.kept b o q r n);have d:∀ b o,b∈frs l->h.get? b=some o->∃ i,h'.get? b=some { o with slots:=i }:=λb o m q=>by
  let(_,o',p,x):=F.fly.2.2.1.mem m;rw[q]at p;cases p;show sl b o q x
 show(λa o e=>?_,⟨λb o q n t _=>?_,λb o q n m _=>?_,u.free,λb o q y=>?_,u.tups,u.frzs,u.tbls⟩,c)
 .have s:∀ b u,H' b=some u->b∉frs l:=λb u q m=>by
   rw[fr b m]at q;cases q
  show(hok a o e).stay (λb v f q=>?_) (λ_ r=>r) (λ_ _ r=>r);rcases f with rfl | f
  .show c _ _ q (.inr ⟨_,e⟩) (s _ _ e)
  .show c _ _ q (.inr ⟨_,f⟩) (s _ _ f)
 .show c b o (u.keep b o q n t (by simp)) (.inl ⟨o,q⟩) t
 .let(z,g):=u.slot b o q n m (by simp);let(i,j):=d b _ m g;show(i,j)
 .let(o',g):=u.there b o q (by simp);by_cases m:b∈frs l
  .let(i,j):=d b _ m g;show(_,j)
  .show(o',c b o' g (.inl ⟨o,q⟩) m)
end
section
variable{h' B:Heap}{ea:Addr}{od:Option Addr}{a0:Value}{s:Shared}{cls:Value}
theorem Inv.out(I:Inv X pins σ H s)(hex:X.ex=[])(u:Un (frs X.stack) [] H H' s.heap h'):Un X.fs [] X.H₀ H' X.s₀.heap h':=by
 have J:=I.base;rw[hex]at J;have k:∀ b o,X.s₀.heap.get? b=some o->b≠X.env.locals:=λb o q z=>by
  have g:=Heap.lt_size q;have h:=I.ok.above;rw[z]at g;show absurd (Nat.lt_of_lt_of_le g h) (Nat.lt_irrefl _)
 have p:∀ b o,X.s₀.heap.get? b=some o->b∉X.fs->b∉frs X.stack:=λb o q c m=>by
  rcases mem_cons.mp (I.stkSub b m)with z | z
  .show k b o q z
  .show c z
 show(λb o q n c _=>?_,λb o q n m _=>?_,λb o q n _=>?_,λb o q _=>?_,λb f q=>u.tups b f (J.tups b f q),λb o v q=>u.frzs b o v (J.frzs b o v q),λb l q=>?_)
 .show u.keep b o (J.keep b o q n c (by simp)) (J.free b o q n (by simp)) (p b o q c) (by simp)
 .let(t,a):=J.slot b o q n m (by simp);let(r,e):=u.any a (J.free b o q n (by simp)) (by simp);show(r,e)
 .let(d,a):=J.there b o q (by simp);show u.free b d a (J.free b o q n (by simp)) (by simp)
 .let(d,a):=J.there b o q (by simp);show u.there b d a (by simp)
 .let(i,a):=J.tbls b l q;let(j,e):=u.tbls b _ a;show(i++j,by rw[e,Array.append_assoc])
theorem Inv.stkFree'(I:Inv X pins σ H s)(u:Un (frs X.stack) [] H H' s.heap h):∀ b∈frs X.stack,H' b=none:=λb m=>by
 let(_,o,q,_):=I.stack.mem m;show u.free b o q (I.stkFree b m) (by simp)
end
section
variable{mg:Str->Option Value}{base:Heap}{N:List Str}{qual:Str}{scope:Scope}{cdv:Value}{outer:List Env}{s0:Shared}{H0:Hp}{E:XK}{w:World}{K:W.Frag}{f:Addr}
theorem pass1:JbZ (CX1 P w) (cxOf (CX1 P w) P w K mg base N qual scope f cdv A outer s0 H0 E) E:=by
 intro x σ H s e J I O;let(i,S,cls,a0,B,C,rfl,p,Y,u,j,F,M):=O;have y:=I.stkFree' u;show wpAny (model P w) (A.deeper (envOfC qual scope s0.heap.objs.size f cdv)) (leaving (envOfC qual scope s0.heap.objs.size f cdv) (.ref i)) (λ_ g=>CX1 P w outer H0 s0 E (.ref i) g) (λT g=>CX1 P w outer H0 s0 E T g) J;show Jla (base:=B) (cls:=cls) (a0:=a0) I.ok.frames rfl F.fly F.dct λR h n t=>?_;let(l,L,Z):=F.next u j y h.1 n;have k:s0.heap.get? i=none:=by
  cases q:s0.heap.get? i with
  | none=>rfl
  | some o=>
   let(a,W):=I.base.there i o q (by intro z;cases z);have:=F.new;rw[W]at this;cases this
 show(i,S,cls,a0,B,C,rfl,p.trans I.os,Y,I.out rfl L,l,⟨h,F.free,k,t,λb o q r V=>?_⟩,M);have Q:b≠s0.heap.objs.size:=λz=>by
  rcases r with⟨a,c⟩ | ⟨v,c⟩
  .have:=Heap.lt_size c;rw[z]at this;show absurd this (Nat.lt_irrefl _)
  .have X:=y s0.heap.objs.size (by
    show s0.heap.objs.size∈frs (envOfC qual scope s0.heap.objs.size f cdv::outer);show List.mem_filterMap.mpr ⟨_,mem_cons_self ..,rfl⟩)
   rw[z,X]at c;cases c
 have U:b∉frs (envOfC qual scope s0.heap.objs.size f cdv::outer):=λm=>by
  rcases mem_cons.mp (I.stkSub b m)with z | z
  .show Q z
  .show V z
 have G:(∃ a,s.heap.get? b=some a)\/∃ v,C b=some v:=by
  rcases r with⟨a,c⟩ | r
  .show .inl (I.base.there b a c (by intro z;cases z))
  .show .inr r
 have d:∃ a,J.heap.get? b=some a:=by
  rcases G with⟨a,c⟩ | ⟨v,c⟩
  .show u.there b a c (by simp)
  .show(j b v c).is_there
 let(a,c):=d;have z:=F.kept b a c G U;have D:=h.1 b a z;rw[show R.get? b=some o from q]at D;cases D;show z
end
theorem passF{w:World}:JbZ (CX1 P w) X E0:=λ_ _ _ _ _ _ _ h=>by
 let(_,_,_,_,_,_,_,_,_,_,_,_,z):=h;show False.elim z
def unt(H:Hp)(a:Addr):Hp:=λb=>if b=a then none else H b
theorem Jhw:unt H a a=none:=if_pos rfl
theorem Jdu{b:Addr}(h:b≠a):unt H a b=H b:=if_neg h
variable{C:Addr}{bmB:List Value}{newId:String}
theorem Jir{K:W.Frag}(X:K.In h)(q:W.excIn K C bmB newId=true) :
  ∃(bm:List Value)(N:Addr)(nm qn:Str)(bs:List Value)(hdct:Bool)(sn:List Str)(sub:List Value)(ab:Bool)(col:Option Bool)(dd:Option Addr)(k0 k1 k2 k3 k5:Option Value)(mN:Str->Option Value),
   h.get? C=some (excClassObj nm qn C N bs bm hdct sn sub ab col dd k0 k1 k2 k3 k5 newId)/\h.Ns N mN/\mN "__init__"=none/\OwnTail h bmB bm:=by
 unfold W.excIn at q;split at q
 next dd cd sl ho=>
  split at q
  next C' bm k0 k1 k2 k3 n k5 hm hs=>
   have g:((((C'=C/\n=newId)/\cd.hasDel=false)/\W.tailIn K bmB bm=true)/\W.nsOkIn K cd.ns=true)/\W.nsIn K cd.ns "__init__"=some none:=by simpa using q
   obtain⟨⟨⟨⟨⟨p,i⟩,f⟩,m⟩,e⟩,j⟩:=g;let(nm,bs,d,k,qn,l,sn,sub,ab,col,c):=cd;have o:sl=#[k0,k1,k2,k3,some (.builtin n),k5]:=by
    cases sl;show congrArg Array.mk hs
   subst p;subst i;subst o;have b:d=.ref C'::bm:=hm;subst b;have a:c=false:=f;subst a;show(bm,k,nm,qn,bs,l,sn,sub,ab,col,dd,k0,k1,k2,k3,k5,_,X _ _ ho, .of_isNs (W.isNs_of_in X e),W.nsMap_none_of_in X e j,W.tail_of_in X m)
  next=>cases q
 next=>cases q
section
variable{mg:Str->Option Value}{base:Heap}{N:List Str}{qual:Str}{scope:Scope}{cdv:Value}{outer:List Env}{s0:Shared}{H0:Hp}{E:XK}{w:World}{K:W.Frag}{f:Addr}{h':Heap}{e:Addr}{us:List Value}
theorem Jmo{s:Shared}{cls:Value}
  (I:Inv (cxOf (CX1 P w) P w K mg base N qual scope f cdv A outer s0 H0 E) pins σ H s) (hm:Heap.MadeExcOf s.heap h' e cls us) (q:E cls none H) :
  (cxOf (CX1 P w) P w K mg base N qual scope f cdv A outer s0 H0 E).xe (.ref e) { s with heap:=h' }:=by
 show wpAny (model P w) (A.deeper (envOfC qual scope s0.heap.objs.size f cdv)) (leaving (envOfC qual scope s0.heap.objs.size f cdv) (.ref e)) (λ_ h=>CX1 P w outer H0 s0 E (.ref e) h) (λV h=>CX1 P w outer H0 s0 E V h) { s with heap:=h' };have S:=I.stkFree;have F:∀ j∈(envOfC qual scope s0.heap.objs.size f cdv::outer), ∀ b,j.frame=some b->b∈frs (envOfC qual scope s0.heap.objs.size f cdv::outer):=λj J b i=>List.mem_filterMap.mpr ⟨j,J,i⟩;let(t,J,_,_):=hm.there;show Jkq (s:={ s with heap:=h' }) (base:=W.hideAll s.heap (frs (envOfC qual scope s0.heap.objs.size f cdv::outer))) I.ok.frames ((W.funFrames_hide I.stack F).of_keeps λb o i hn=>⟨o,hm.keeps b o i,rfl⟩) rfl J (λb o z=>hm.keeps b o (W.of_hideAll _ z)) ?_ rfl rfl rfl λC B p M=>?_
 .cases z:(W.hideAll s.heap (frs (envOfC qual scope s0.heap.objs.size f cdv::outer))).get? e with
  | none=>rfl
  | some o=>
   have O:=W.of_hideAll _ z;rw[hm.new]at O;cases O
 have k:H e=none:=I.hok.isnone hm.new;have c:∀ b o,s.heap.get? b=some o->b∉frs (envOfC qual scope s0.heap.objs.size f cdv::outer)->C.get? b=some o:=λb o z n=>B.1 b o (W.hideAll_get _ z n);have u:Un (frs (envOfC qual scope s0.heap.objs.size f cdv::outer)) [] H H s.heap C:=by
  show(λb o z _ n _=>c b o z n,λb o z _ m _=>?_,λ_ _ _ n _=>n,λb o z _=>?_,λ_ _ z=>z,λ_ _ _ z=>z,λ_ Z z=>⟨#[],by rw[z];simp⟩)
  .let(_,g,d,G):=I.stack.mem m;rw[z]at d;cases d;show p b o (hm.keeps b o z) G
  .by_cases m:b∈frs (envOfC qual scope s0.heap.objs.size f cdv::outer)
   .let(_,g,d,G):=I.stack.mem m;rw[z]at d;cases d;let(s2,U):=p b o (hm.keeps b o z) G;show(_,U)
   .show(o,c b o z m)
 have L:∀ b v,H b=some v->b∉frs (envOfC qual scope s0.heap.objs.size f cdv::outer):=λb v z m=>by
  rw[S b m]at z;cases z
 have D:HOk P w H C:=λa o z=>by
  show(I.hok a o z).stay (λb v i x=>?_) (λ_ r=>r) (λ_ _ r=>r);rcases i with rfl | i
  .show c _ _ x (L _ _ z)
  .show c _ _ x (L _ _ i)
 have l:s0.heap.get? e=none:=by
  cases z:s0.heap.get? e with
  | none=>rfl
  | some o=>
   let(g,Y):=I.base.there e o z (by intro z;cases z);have:=hm.new;rw[Y]at this;cases this
 show(e,none,cls, .ref t,_,H,rfl,I.os,I.bare,I.out rfl u,D,⟨B,k,l,M,λb o z r X=>?_⟩,q);have T:∃ g,s.heap.get? b=some g:=by
  rcases r with⟨g,d⟩ | ⟨v,d⟩
  .show I.base.there b g d (by intro z;cases z)
  .show(I.hok b v d).is_there
 have Q:b∉frs (envOfC qual scope s0.heap.objs.size f cdv::outer):=λm=>by
  rcases mem_cons.mp (I.stkSub b m)with y | y
  .rcases r with⟨g,d⟩ | ⟨v,d⟩
   .have R:=Heap.lt_size d;rw[y]at R;show absurd R (Nat.lt_irrefl _)
   .show L b v d m
  .show X y
 let(g,d):=T;have x:=c b g d Q;rw[show C.get? b=some o from z]at x;cases x;show W.hideAll_get _ d Q
variable{oe:Obj}{a0:Value}
theorem Jmp{s:Shared}{vs:Array Value}{φ:Heap->Prop}
  (I:Inv (cxOf (CX1 P w) P w K mg base N qual scope f cdv A outer s0 H0 E) pins σ H s) (ht:H e=some (.ext φ)) (he:s.heap.get? e=some oe) (hd:oe.data=.fields vs) (h1:vs[1]?=some .none) (h0:vs[0]?=some a0) (new0:s0.heap.get? e=none) (q:E oe.cls oe.dict (unt H e)) :
  (cxOf (CX1 P w) P w K mg base N qual scope f cdv A outer s0 H0 E).xe (.ref e) s:=by
 show wpAny (model P w) (A.deeper (envOfC qual scope s0.heap.objs.size f cdv)) (leaving (envOfC qual scope s0.heap.objs.size f cdv) (.ref e)) (λ_ i=>CX1 P w outer H0 s0 E (.ref e) i) (λT i=>CX1 P w outer H0 s0 E T i) s;have O:=I.stkFree;have G:∀ l∈(envOfC qual scope s0.heap.objs.size f cdv::outer), ∀ b,l.frame=some b->b∈e::frs (envOfC qual scope s0.heap.objs.size f cdv::outer):=λl he b k=>.tail _ (List.mem_filterMap.mpr ⟨l,he,k⟩);show Jkq (base:=W.hideAll s.heap (e::frs (envOfC qual scope s0.heap.objs.size f cdv::outer))) I.ok.frames (W.funFrames_hide I.stack G) rfl he (λb o z=>W.of_hideAll _ z) (W.hideAll_none _ (.head _)) hd h1 h0 λt x J C=>?_;have c:∀ b o,s.heap.get? b=some o->b≠e->b∉frs (envOfC qual scope s0.heap.objs.size f cdv::outer)->t.get? b=some o:=λb o z p n=>x.1 b o (W.hideAll_get _ z λm=>(mem_cons.mp m).elim p n);have B:∀ b,H b=none->b≠e:=λb z y=>by rw[y,ht]at z;cases z
 have g:∀ b o,s.heap.get? b=some o->b∈frs (envOfC qual scope s0.heap.objs.size f cdv::outer)->∃ sl,t.get? b=some { o with slots:=sl }:=λb o z m=>by
  let(_,h,d,Q):=I.stack.mem m;rw[z]at d;cases d;show J b o z Q
 have u:Un (frs (envOfC qual scope s0.heap.objs.size f cdv::outer)) [] H (unt H e) s.heap t:=by
  show(λb o z n m _=>c b o z (B b n) m,λb o z _ m _=>g b o z m,λb _ _ n _=>by rw[Jdu (B b n)];show n,λb o z _=>?_,λb Y z=>?_,λb o v z=>?_,λb X z=>⟨#[],?_⟩)
  .by_cases y:b=e
   .let(V,j,_):=C;show(V,y ▸ j)
   .by_cases m:b∈frs (envOfC qual scope s0.heap.objs.size f cdv::outer)
    .let(Z,S):=g b o z m;show(_,S)
    .show(o,c b o z y m)
  .rw[Jdu (λy=>by rw[y,ht]at z;cases z)];show z
  .rw[Jdu (λy=>by rw[y,ht]at z;cases z)];show z
  .rw[Jdu (λy=>by rw[y,ht]at z;cases z),z];simp
 have L:∀ b v,H b=some v->b∉frs (envOfC qual scope s0.heap.objs.size f cdv::outer):=λb v z m=>by
  rw[O b m]at z;cases z
 have D:∀ b v,unt H e b=some v->b≠e/\H b=some v:=λb v z=>by
  by_cases y:b=e
  .rw[y,Jhw]at z;cases z
  .show(y,(Jdu y).symm.trans z)
 have F:HOk P w (unt H e) t:=λa o z=>by
  let(p,z):=D a o z;show(I.hok a o z).stay (λb v k j=>?_) (λb r=>by rw[Jdu (λy=>by rw[y,ht]at r;cases r)];show r) (λb _ r=>by rw[Jdu (λy=>by rw[y,ht]at r;cases r)];show r);rcases k with rfl | k
  .show c _ _ j p (L _ _ z)
  .show c _ _ j (λy=>by rw[y,ht]at k;cases k) (L _ _ k)
 show(e,oe.dict,oe.cls,a0,_,unt H e,rfl,I.os,I.bare,I.out rfl u,F,⟨x,Jhw,new0,C,λb o z r U=>?_⟩,q);have p:b≠e:=λy=>by
  rcases r with⟨h,d⟩ | ⟨v,d⟩
  .rw[y,new0]at d;cases d
  .show(D _ _ d).1 y
 have R:∃ h,s.heap.get? b=some h:=by
  rcases r with⟨h,d⟩ | ⟨v,d⟩
  .show I.base.there b h d (by intro z;cases z)
  .show(I.hok b v (D _ _ d).2).is_there
 have M:b∉frs (envOfC qual scope s0.heap.objs.size f cdv::outer):=λm=>by
  rcases mem_cons.mp (I.stkSub b m)with y | y
  .rcases r with⟨h,d⟩ | ⟨v,d⟩
   .have h1:=Heap.lt_size d;rw[y]at h1;show absurd h1 (Nat.lt_irrefl _)
   .show L b v (D _ _ d).2 m
  .show U y
 let(h,d):=R;have j:=c b h d p M;rw[show t.get? b=some o from z]at j;cases j;show W.hideAll_get _ d λm=>(mem_cons.mp m).elim p M
def JkF(E:XK)(C:Addr)(ta:TA):TS:=λ_ σ H=>ta σ H λvs H1=>vs.length<=sizeLine/\E (.ref C) none H1
variable{x:Str}{np:Pos}{e:Expr}{es:List Expr}
theorem JdY{cpos:Pos}{B initId:String}{ta:TA}(FB:ExcBaseFacts B newId initId bmB)(hx:W.excIn K C bmB newId=true)
  (hg:Gl (cxOf (CX1 P w) P w K mg base N qual scope f cdv A outer s0 H0 E) x) (hm:mg x=some (.ref C)) (ha:PA (cxOf (CX1 P w) P w K mg base N qual scope f cdv A outer s0 H0 E) (e::es) ta)
  (he:autoParam (starEach (e::es) (envOfC qual scope s0.heap.objs.size f cdv)=(false,eval e (envOfC qual scope s0.heap.objs.size f cdv))::starEach es (envOfC qual scope s0.heap.objs.size f cdv)) Au)
  (hpl:autoParam ((backTo cpos (starEach es (envOfC qual scope s0.heap.objs.size f cdv))).any (·.1)=false) Au) (hdb:autoParam ((x == ("__debug__" : Str))=false) Av) :
  PS (cxOf (CX1 P w) P w K mg base N qual scope f cdv A outer s0 H0 E) (.Raise (some (.Call (.Name x np) (e::es) [] cpos)) none pos) (JkF E C ta):=by
 intro a s σ H D I h;let(bm,l,nm,i,bs,hdct,sn,sub,ab,col,dd,k0,k1,k2,k3,k5,mN,d,j,b,T):=Jir I.mod.kin hx;have g:(A.deeper (envOfC qual scope s0.heap.objs.size f cdv)).handled=none:=I.ok.hd rfl;show wpAny_Raise_call_subT (C:=C) (nm:=nm) (q:=i) (N:=l) (bs:=bs) (bm:=bm) (hdct:=hdct) (sn:=sn) (sub:=sub) (ab:=ab) (col:=col) (dd:=dd) (k0:=k0) (k1:=k1) (k2:=k2) (k3:=k3) (k5:=k5)
  FB (mN:=mN) (T.hasType FB.hasBase) g ?_ b (Jcv I hg hm ⟨rfl,?_⟩ hdb)
 .show(backTo cpos (starEach (e::es) (envOfC qual scope s0.heap.objs.size f cdv))).any (·.1)=false;rw[he];show(false||(backTo cpos (starEach es (envOfC qual scope s0.heap.objs.size f cdv))).any (·.1))=false;rw[hpl];rfl
 .have z:=ha cpos a s σ H _ I h;show wpAny _ _ (evalArgs (.ref C) true (backTo cpos (starEach (e::es) (envOfC qual scope s0.heap.objs.size f cdv))) []) _ _ _;have k:=he;rw[he];show Calls.evalArgs_plain ?_;have c:wpAny (model P w) (A.deeper (envOfC qual scope s0.heap.objs.size f cdv)) (spliced (backTo cpos (starEach (e::es) (envOfC qual scope s0.heap.objs.size f cdv)))) _ _ s:=z;rw[he]at c;show thn c λu t ζ=>?_;let(n,p,I1,r,m,q):=ζ;show(rfl,by rw[<- r.length];show m,I1.bk _ _ d,j.keeps I1.bk,T.keeps I1.bk,λo e hm=>Jmo I1 hm q)
end
def PEx(X:Cx)(e:Expr)(t:St->Hp->VK->XK->Prop):Prop :=
 ∀(pins:List (Addr × Obj))(s:Shared)(σ : St)(H:Hp)(Q:VK)(E:XK),Inv X pins σ H s->t σ H Q E ->
  wpAny (model X.prog X.w) X.A (eval e X.env) (EP X pins σ Q) (λev s'=>∃ H1 s1,Inv X pins σ H1 s1/\CX1 X.prog X.w X.stack H1 s1 E ev s') s
def xCall(sp:Sp)(dvs:List V)(t:TA):St->Hp->VK->XK->Prop:=λσ H Q E=>t σ H λvs H1=>sp (vs++dvs) H1 Q E
section
variable{fd:FuncData}{ps:List Str}{sp:Sp}{dvs:List V}{ds:List Value}{E:XK}{x:Str}{p apos:Pos}{e o:Expr}{es:List Expr}{ta:TE}{k:Nat}{f:Addr}{m:Str}{t:TA}
theorem JlJ{s:Shared}{Q:VK}{us:List Value}{vs:List V}(F:FnOk X.prog X.w X.K X.mg X.base (CX1 X.prog X.w) k f fd ps sp)(hr:Room k X.A)(hb:Binds X.K fd ps ds)(hd:Vals dvs ds)
  (I:Inv X pins σ H s) (r:Vals vs us) (h:sp (vs++dvs) H Q E):wpAny (model X.prog X.w) X.A (call (.ref f) us) (EP X pins σ Q) (λev s'=>∃ H1 s1,Inv X pins σ H1 s1/\CX1 X.prog X.w X.stack H1 s1 E ev s') s:=by
 have c:Vals (vs++dvs) (us++ds):=r.append hd;have g:(us++ds).length=ps.length:=(c.length.symm).trans (F.len _ _ _ _ h);have d:=F.run X.A X.stack s H ⟨us,[]⟩ (us++ds) (vs++dvs) Q E hr I.env0 (hb s us I.kIn g) c h;show wpAny_call (codeAny_mono d λb s' a=>?_);match b,a with
 | .error e,a=>show(H,s,I,a)
 | .ok (.ret u),a=>show I.after a
 | .ok .next,a=>show a.elim
 | .ok .brk,a=>show a.elim
 | .ok .cont,a=>show a.elim
theorem JjW(F:FnOk X.prog X.w X.K X.mg X.base (CX1 X.prog X.w) k f fd ps sp)(hr:Room k X.A)(hg:Gl X x)(hm:X.mg x=some (.ref f))(hk:W.keepIn X.K (.ref f)=true)(hb:Binds X.K fd ps ds)(hd:Vals dvs ds)
  (ha:PA X.nox (e::es) t) (hdb:autoParam ((x == ("__debug__" : Str))=false) Av) (he:autoParam (starEach (e::es) X.env=(false,eval e X.env)::starEach es X.env) Au) (hpl:autoParam ((backTo pos (starEach es X.env)).any (·.1)=false) Au) :
  PEx X (.Call (.Name x p) (e::es) [] pos) (xCall sp dvs t):=by
 intro a s σ H Q E I h;show wpAny_Call_Name_kw (Jcv I hg hm ?_ hdb);have z:=ha pos a s σ H _ (I.wish _) h;show W.callWith_K (h₀:=X.base) I.ok.mod.kin hk (wpAny_mono z (λg b ζ=>?_) λ_ _ y=>y.elim) he hpl;let(c,d,I1,r,q):=ζ;show(I1.unwish.kIn,?_);show JlJ F hr hb hd I1.unwish r q
end
section
variable{s':Shared}{h' B:Heap}{ea:Addr}{od:Option Addr}{a0:Value}{s:Shared}{cls:Value}
theorem Inv.track{o:HO}(I:Inv X pins σ H s)(hn:H a=none)(h1:X.s₀.heap.get? a=none)(h2:a≠X.env.locals)(h3:∀ x c,X.env.cells.lookup x=some c->c≠a)(h4:∀ p∈X.pn++pins,p.1≠a)
  (ok:ObjOk X.prog X.w (upd H a o) s.heap a o):Inv X pins σ (upd H a o) s:=by
 have d:∀ b u,H b=some u->b≠a:=λb u q=>Jai q hn;show(I.ok,I.os,I.bare,⟨I.base.keep,I.base.slot,λb f q n j=>?_,I.base.there,λb g q=>?_,λb f u q=>?_,λb k q=>?_⟩,I.loc,I.cell,?_,λx c e=>?_,λp h=>?_,λb u q=>?_,I.len)
 .have : b≠a:=λz=>by rw[z,h1]at q;cases q
  rw[Jag this];show I.base.free b f q n j
 .have z:=I.base.tups b g q;rw[Jag (d _ _ z)];show z
 .have z:=I.base.frzs b f u q;rw[Jag (d _ _ z)];show z
 .let(l,z):=I.base.tbls b k q;show(l,by rw[Jag (d _ _ z)];show z)
 .rw[Jag (Ne.symm h2)];show I.free
 .rw[Jag (h3 x c e)];show I.freeC x c e
 .let(e,n,r):=I.pin p h;show(e,by rw[Jag (h4 p h)];show n,r)
 .by_cases i:b=a
  .subst i;rw[Jaj]at q;cases q;show ok
  .rw[Jag i]at q;show(I.hok b u q).stay (λ_ _ _ z=>z) (λc z=>by rw[Jag (d _ _ z)];show z) (λc g z=>by rw[Jag (d _ _ z)];show z)
def ExcO(e C:Addr)(od:Option Addr:=none):HO:=.ext λh=>∃ ox vs,h.get? e=some ox/\ox.cls=.ref C/\ox.data=.fields vs/\ox.dict=od
theorem Inv.landed{sF:Shared}(I:Inv X pins σ H s)(hex:X.ex=[])(u:Un (frs X.stack) [] H H' s.heap s'.heap)(hok:HOk X.prog X.w H' s'.heap)(F:Fly X.stack H' s.heap ea od (.ref C) a0 B s'.heap)(hos:s'.os=s.os)(hg:AllBare s'.gens)
  (hfl:Heap.FlyingW B X.stack ea (.ref C) a0 h') (hup:s'.heap.UpToSlots h') (hdc:DictAt h' ea od) (hs:sF={ s' with heap:=h' }):Inv X pins σ (upd H' ea (ExcO ea C od)) sF:=by
 subst hs;let(d,t,_):=F.next u hok (I.stkFree' u) hfl.1 hup;have I2:Inv X pins σ H' { s' with heap:=h' }:=I.call' (s':={ s' with heap:=h' }) hos t d hg (λb z=>absurd z (by simp));have a:∀ b o,s.heap.get? b=some o->b≠ea:=λb o q z=>by
  have:=F.new;rw[<- z,q]at this;cases this
 let(m,M,_):=I.loc;let(O,_,_,i,_):=M;show I2.track F.free ?_ (Ne.symm (a _ _ i)) (λx c e z=>?_) (λp L z=>?_) ?_
 .cases q:X.s₀.heap.get? ea with
  | none=>rfl
  | some o=>
   let(P,n):=I.base.there ea o q (by rw[hex];simp);show absurd rfl (a _ _ n)
 .let(v,h):=I.cell x c e;let(Q,g,_):=h;show a _ _ g z
 .let(e,_):=I.pin p L;show a _ _ e z
 .let(r,D,j,h,K,_):=hfl.first;let(G,f,l):=hdc;rw[show h'.get? ea=some r from j]at f;cases f;show(⟨r,D,j,h,K,l⟩,⟨_,j⟩,λR N ⟨A,E,n,J,y⟩ k=>⟨A,E,k _ n,J,y⟩)
abbrev Cx.inx(X:Cx)(e:Addr):Cx:={ X with A:=X.A.mark (some (.ref e)),calm:=false,xe:=λ_ _=>False }
theorem Cx.Ok.inx(ok:X.Ok)(e:Addr):(X.inx e).Ok :=
 ⟨ok.mod,ok.kind,ok.glob,ok.blt,ok.above,ok.inj,ok.has,ok.cab,λz=>(by cases z),ok.frames,ok.stk,ok.exf,ok.bs,ok.bsz,ok.noex,ok.exfs,ok.funs,ok.frf⟩
theorem Inv.inx(I:Inv X pins σ H s)(e:Addr):Inv (X.inx e) pins σ H s :=
 ⟨I.ok.inx e,I.os,I.bare,I.base,I.loc,I.cell,I.free,I.freeC,I.pin,I.hok,I.len⟩
variable{e:Addr}
theorem Inv.outx(I:Inv (X.inx e) pins σ H s)(ok:X.Ok):Inv X pins σ H s :=
 ⟨ok,I.os,I.bare,I.base,I.loc,I.cell,I.free,I.freeC,I.pin,I.hok,I.len⟩
variable{x:Str}
theorem Inv.goes{i:Nat}{t':Nat}{m m':Str->Option Value}(I:Inv X pins σ H s)(hN:X.N.Nodup)(hi:X.N[i]?=some x)(hs:Heap.SameBut X.env.locals s.heap h')
  (hn:s.heap.Ns X.env.locals m) (hn':h'.Ns X.env.locals m') (hm:∀ y,y≠x->m' y=m y):Inv X pins (σ.set i none) H { s with heap:=h',toks:=t' }:=by
 let(L,t,B):=I.loc;have O:L=m:=(Heap.Ns.eq_nsMap t).trans (Heap.Ns.eq_nsMap hn).symm;subst O;have A:∀ b o,X.s₀.heap.get? b=some o->b≠X.env.locals:=λb o e=>Nat.ne_of_lt (Nat.lt_of_lt_of_le (Heap.lt_size e) I.ok.above);show(I.ok,I.os,I.bare,⟨λb o e n w h=>?_,λb o e n w h=>?_,I.base.free,λb o e h=>?_,I.base.tups,I.base.frzs,I.base.tbls⟩,⟨m',hn',λj y v g f F=>?_⟩,λy c e=>?_,I.free,I.freeC,λp M=>?_,λa o e=>?_,by rw[List.length_set];show I.len)
 .show(hs.2 b (A b o e)).trans (I.base.keep b o e n w h)
 .let(E,g):=I.base.slot b o e n w h;show(E,(hs.2 b (A b o e)).trans g)
 .let(J,g):=I.base.there b o e h;show(J,(hs.2 b (A b o e)).trans g)
 .have D:j≠i:=λz=>by
   subst z;by_cases B:j<σ.length
   .rw[List.getElem?_set_self B]at f;cases f
   .rw[List.getElem?_eq_none (by rw[List.length_set];ac_nf)]at f;cases f
  rw[List.getElem?_set_ne (Ne.symm D)]at f;let(u,r,q):=B j y v g f F;have K:y≠x:=λz=>D (Jfi hN g (z ▸ hi));show(u,r,?_);rcases q with⟨k,e⟩ | ⟨k,c,e,z⟩
  .show .inl ⟨k,(hm y K).trans e⟩
  .show .inr ⟨k,c,e,z.sameBut hs (I.cne y c e)⟩
 .let(v,z):=I.cell y c e;show(v,z.sameBut hs (I.cne y c e))
 .let(e,n,C,G,d):=I.pin p M;show((hs.2 p.1 C).trans e,n,C,G,d)
 .show(I.hok a o e).stay (λc v l q=>(hs.2 c ?_).trans q) (λ_ q=>q) λ_ _ q=>q;rintro rfl;rcases l with z | l
  .rw[<- z]at e;rw[I.free]at e;cases e
  .rw[I.free]at l;cases l
end
structure Jce(K:W.Frag)(C D:Addr):Prop where
 cl:W.hasDictIn K D=true
 ty:W.typeIn K (.ref D)=some (.type "type")
 ex:W.mroIn K D (.type "BaseException")=some true
 ab:W.mroIn K C (.ref D)=some true
variable{M:Model}
theorem Jf3{K:W.Frag}{D:Addr}(X:K.In h)(c:W.hasDictIn K D=true):W.Looks M h (isType (.ref D)) true:=by
 let(d,a,_):=W.any_some c;unfold W.clsIn at a;split at a
 next c' d' cd' sl' ho=>
  intro A' Q' E' b k q;unfold isType loadHead;show wpAny_bind (wpAny_loadPart (k _ _ (X _ _ ho)) (wpAny_pure q))
 next=>cases a
theorem JfZ{K:W.Frag}{s:Shared}{e D:Addr}{oe:Obj}{Q:Bool->Shared->Prop}(X:K.In s.heap)(he:s.heap.get? e=some oe)(hc:oe.cls=.ref C)(c:Jce K C D)(h:Q true s) :
  wpAny M A (excMatches (.ref e) (.ref D)) Q E s:=by
 let(a,g,d,t,b):=s;have L0:W.Looks M a (typeOf (.ref e)) (.ref C):=hc ▸ (W.Looks.ld he).andThen .now;have L1:=W.looks_typeIn (M:=M) X c.ty;have L2:=W.looks_mroIn (M:=M) X c.ex;have L3:=W.looks_mroIn (M:=M) X c.ab;have L4:=Jf3 (M:=M) X c.cl;have f:=tc_notTuple;unfold excMatches isInstance isExcClass;repeat (first | lk | wp_step)
 show h
section
variable{ce:Expr}{epos hpos np:Pos}{x n:Str}{b0:Stmt}{suite:List Stmt}{ts:TS}{D:Addr}{t:St->Hp->VK->XK->Prop}
def JkH(K:W.Frag)(D:Addr)(i:Nat)(t:St->Hp->VK->XK->Prop)(ts:TS):TS:=λDn σ H=>t σ H (λ_ H1=>Dn.nx σ H1) λcls od H1=>∃ C,cls=.ref C/\Jce K C D /\
 ∀ ea,H1 ea=none->ts { nx:=λσ' H'=>Dn.nx (σ'.set i none) H',rt:=Dn.rt,bk:=λσ' H'=>Dn.bk (σ'.set i none) H',ct:=λσ' H'=>Dn.ct (σ'.set i none) H' } (σ.set i (some (.ref ea))) (upd H1 ea (ExcO ea C od))
theorem Jkj{D:Addr}{i:Nat}{s s1:Shared}{Dn:Ends}{ev:Value}(hN:X.N.Nodup)(hi:X.N[i]?=some n)(hl:X.env.scope.names.lookup n=some .local)(hg:Gl X x)(hm:X.mg x=some (.ref D))(hsu:∀ e,PSs (X.inx e) (b0::suite) ts)
  (hex:X.ex=[]) (hst:X.stack=X.env::X.outer) (hfl:X.env.frame=some X.env.locals) (hdb:(x == ("__debug__" : Str))=false) (I:Inv X pins σ H s)
  (hx:∃ H1 s1',Inv X pins σ H1 s1'/\CX1 X.prog X.w X.stack H1 s1' (λcls od H1=>∃ C,cls=.ref C/\Jce X.K C D/\∀ ea,H1 ea=none->ts { nx:=λσ' H'=>Dn.nx (σ'.set i none) H',rt:=Dn.rt,bk:=λσ' H'=>Dn.bk (σ'.set i none) H',ct:=λσ' H'=>Dn.ct (σ'.set i none) H' } (σ.set i (some (.ref ea))) (upd H1 ea (ExcO ea C od))) ev s1) :
  wpAny (model X.prog X.w) X.A (noteFrame ev X.env) (λ_ s₂=>wpAny (model X.prog X.w) X.A (setFlight ev none) (λ_ s₃=>wpAny (model X.prog X.w) X.A (handleBy ev X.env [ExceptHandler.ExceptHandler (some (Expr.Name x np)) (some n) (b0::suite) hpos]) (SP X pins Dn) X.xe s₃) X.xe s₂) X.xe s1:=by
 let(H1,s0,I1,ea,od,cls,a0,B,H',rfl,G,V,u,l,F,C,rfl,M,hq):=hx;have U:X.A.frames=some (X.env::X.outer):=by rw[<- hst];show I.ok.frames
 have F':=F.fly;rw[hst]at F';show noteD U hfl F' F.dct λh4 j p P=>?_;show Jmn j P λh5 b E O=>?_;have t:=p.trans E;have d:=b;rw[<- hst]at d;have I5:=I1.landed hex u l F G V d t O rfl;let(oe,vs,he,Z,_,_):=b.first;show wpAny_handleBy_cons (codeAny_handlers_test (Jcv (X:=X.inx ea) (I5.inx ea) hg hm ?_ hdb)) (by intro z;cases z);show JfZ I5.kIn he Z M (codeAny_handlers_suite_as ?_);show Jl1 b O λh6 o L T=>?_;have c:=o;rw[<- hst]at c;have I6:=I1.landed hex u l F G V c (t.trans L) T rfl;show Jd0 (X:=X) (v:=.ref ea) I6 hN hi (.inl hl) rfl (λs7 I7=>?_) (.inr hl);show wpAny_mono (hsu ea pins s7 _ _ _ (I7.inx ea) (hq ea F.free)) (λf W z=>?_) (λ_ _ z=>z.elim);have a:∀{σ':St}{h:Hp}{R:Flow->Shared->Prop}{E2:Value->Shared->Prop},Inv (X.inx ea) pins σ' h W->(∀ g,Inv X pins (σ'.set i none) h g->R f g) ->
   wpAny (model X.prog X.w) X.A (do bindName X.env n .none;unbindBehindTheSuite X.env n hpos) (λ_ g=>R f g) E2 W:=λ{σ' h R E2} J k=>by
  have J':=J.outx I.ok;let(m,Y,_):=J'.loc;show wpAny_nameGoes_keeps hl Y (by rw[I.ok.kind];rfl) λh' v Q S=>k _ (J'.goes hN hi S Y Q λy hy=>if_neg hy)
 cases f with
 | next=>let(σ',h,J,q):=z;show a J λg J3=>⟨_,_,J3,q⟩
 | brk=>let(σ',h,J,q):=z;show a J λg J3=>⟨_,_,J3,q⟩
 | cont=>let(σ',h,J,q):=z;show a J λg J3=>⟨_,_,J3,q⟩
 | ret v=>let(y,σ',h,J,r,q):=z;show a J λg J3=>⟨y,_,_,J3,r,q⟩
theorem JjZ{i:Nat}(hN:X.N.Nodup)(hi:X.N[i]?=some n)(hl:X.env.scope.names.lookup n=some .local)(hcall:PEx X ce t)(hg:Gl X x)(hm:X.mg x=some (.ref D))(hsu:∀ e,PSs (X.inx e) (b0::suite) ts)
  (hex:autoParam (X.ex=[]) Au) (hst:autoParam (X.stack=X.env::X.outer) Au) (hfl:autoParam (X.env.frame=some X.env.locals) Au)
  (hs:autoParam (swapsWith ce none epos.line X.env=pure false) Au) (hdb:autoParam ((x == ("__debug__" : Str))=false) Av) :
  PS X (.Try [.Expr ce epos] [.ExceptHandler (some (.Name x np)) (some n) (b0::suite) hpos] [] [] pos) (JkH X.K D i t ts):=by
 intro a s σ H Dn I h;show wpAny_Try_except (wpAny_execs_cons (wpAny_Expr_any (wpAny_mono (hcall a s σ H _ _ I h) (λv b ⟨y,f,I1,j,d⟩=>?_) (λg b c=>?_)) I.quiet hs))
 .show wpAny_execs_nil (wpAny_execs_nil ⟨σ,f,I1,d⟩)
 .show Jkj hN hi hl hg hm hsu hex hst hfl hdb I c
end
inductive D where
 | non | bl (b:Bool) | int (i:Int) | str (x:Str) | tup (xs:List D) | lst (xs:List D)
mutual
def Rep(K:W.Frag)(H:Hp):D->V->Prop
 | .non,v=>v=.non
 | .bl b,v=>v=.bl b
 | .int i,v=>v=.int i
 | .str x,v=>v=.str x
 | .tup ds,v=>∃ a xs,v=.ref a/\SqT K H a xs/\RepL K H ds xs
 | .lst ds,v=>∃ a xs,v=.ref a/\SqL K H a xs/\RepL K H ds xs
def RepL(K:W.Frag)(H:Hp):List D->List V->Prop
 | [],vs=>vs=[]
 | d::ds,vs=>∃ v r,vs=v::r/\Rep K H d v/\RepL K H ds r
end
mutual
def eqD:D->D->Bool
 | .non, .non=>true
 | .bl a, .bl b=>a == b
 | .int a, .int b=>a == b
 | .bl a, .int b=>(if a then 1 else 0) == b
 | .int a, .bl b=>a == (if b then 1 else 0)
 | .str a, .str b=>a == b
 | .tup xs, .tup ys=>eqL xs ys
 | .lst xs, .lst ys=>eqL xs ys
 | _,_=>false
def eqL:List D->List D->Bool
 | [],[]=>true
 | x::xs,y::ys=>eqD x y&&eqL xs ys
 | _,_=>false
end
mutual
def depD:D->Nat
 | .tup xs=>depL xs+1
 | .lst xs=>depL xs+1
 | _=>0
def depL:List D->Nat
 | []=>0
 | x::xs=>max (depD x) (depL xs)
end
theorem JeX:∀{xs ys:List D},eqL xs ys=true->xs.length=ys.length
 | [],[],_=>rfl
 | [],_::_,h=>by simp[eqL]at h
 | _::_,[],h=>by simp[eqL]at h
 | x::xs,y::ys,h=>by
  simp only[eqL,Bool.and_eq_true]at h;simp only[length_cons,JeX h.2]
mutual
theorem Jb8:∀ d:D,eqD d d=true
 | .non=>by simp[eqD]
 | .bl b=>by simp[eqD]
 | .int i=>by simp[eqD]
 | .str x=>by simp[eqD]
 | .tup xs=>by simp only[eqD];show Jfc xs
 | .lst xs=>by simp only[eqD];show Jfc xs
theorem Jfc:∀ d:List D,eqL d d=true
 | []=>by simp[eqL]
 | x::xs=>by simp only[eqL,Bool.and_eq_true];show(Jb8 x,Jfc xs)
end
theorem RepL.length{K:W.Frag}:∀{ds:List D}{vs:List V},RepL K H ds vs->ds.length=vs.length
 | [],vs,h=>by
  simp only[RepL]at h;rw[h];rfl
 | d::ds,vs,h=>by
  simp only[RepL]at h;let(v,r,rfl,_,h2):=h;simp only[length_cons,RepL.length h2]
theorem RepL.get{K:W.Frag}:∀{ds:List D}{vs:List V}{i:Nat}{d:D},RepL K H ds vs->ds[i]?=some d->∃ v,vs[i]?=some v/\Rep K H d v
 | [],_,_,_,_,e=>by simp at e
 | d::ds,vs,i,d',h,e=>by
  simp only[RepL]at h;let(v,r,rfl,h1,h2):=h;cases i with
  | zero=>simp at e;subst e;show(v,rfl,h1)
  | succ i=>
   let(v',e',h'):=RepL.get h2 (by simpa using e);show(v',by simpa using e',h')
variable{xs:List V}
theorem SqL.same{K:W.Frag}(e:Same H H')(h:SqL K H a xs):SqL K H' a xs:=e.seq h
theorem SqT.same{K:W.Frag}(e:Same H H')(h:SqT K H a xs):SqT K H' a xs:=by
 rcases h with(h | ⟨o,h⟩) | h
 .show .inl (.inl (e _ _ h))
 .show .inl (.inr ⟨o,e _ _ h⟩)
 .show .inr h
mutual
theorem Rep.same{K:W.Frag}(e:Same H H'):∀{d:D}{v:V},Rep K H d v->Rep K H' d v
 | .non,_,h=>by simpa only[Rep]using h
 | .bl _,_,h=>by simpa only[Rep]using h
 | .int _,_,h=>by simpa only[Rep]using h
 | .str _,_,h=>by simpa only[Rep]using h
 | .tup ds,_,h=>by
  simp only[Rep]at h ⊢;let(a,xs,h1,h2,h3):=h;show(a,xs,h1,h2.same e,RepL.same e h3)
 | .lst ds,_,h=>by
  simp only[Rep]at h ⊢;let(a,xs,h1,h2,h3):=h;show(a,xs,h1,h2.same e,RepL.same e h3)
theorem RepL.same{K:W.Frag}(e:Same H H'):∀{d:List D}{v:List V},RepL K H d v->RepL K H' d v
 | [],_,h=>by simpa only[RepL]using h
 | x::xs,_,h=>by
  simp only[RepL]at h ⊢;let(v,r,h1,h2,h3):=h;show(v,r,h1,Rep.same e h2,RepL.same e h3)
end
section
variable{s:Shared}
theorem Inv.list_tuple(I:Inv X pins σ H s){a:Addr}{xs ys:List V}(h:SqL X.K H a xs)(h':SqT X.K H a ys):False:=by
 let(_,_,p,_):=I.list h;let(_,_,q,_):=I.tuple h';let(o,_,e,d,_):=p;let(f,c,b,_):=q;rw[e]at c;cases c;rw[d]at b;show absurd b ⋯
mutual
theorem Inv.rep_inj(I:Inv X pins σ H s):∀{d e:D}{v:V},Rep X.K H d v->Rep X.K H e v->d=e
 | .non,e,v,h,h'=>by
  simp only[Rep]at h;subst h;cases e <;> simp[Rep]at h' ⊢
 | .bl _,e,v,h,h'=>by
  simp only[Rep]at h;subst h;cases e <;> simp[Rep]at h' ⊢
  show h'
 | .int _,e,v,h,h'=>by
  simp only[Rep]at h;subst h;cases e <;> simp[Rep]at h' ⊢
  show h'
 | .str _,e,v,h,h'=>by
  simp only[Rep]at h;subst h;cases e <;> simp[Rep]at h' ⊢
  show h'
 | .tup ds,e,v,h,h'=>by
  simp only[Rep]at h;let(a,xs,rfl,h2,h3):=h;cases e with
  | tup es=>
   simp only[Rep]at h';let(a',ys,q,g2,g3):=h';cases q;have:=I.tuple_inj h2 g2;subst this;rw[Inv.repL_inj I h3 g3]
  | lst es=>
   simp only[Rep]at h';let(a',ys,q,g2,g3):=h';cases q;show(I.list_tuple g2 h2).elim
  | _=>simp[Rep]at h'
 | .lst ds,e,v,h,h'=>by
  simp only[Rep]at h;let(a,xs,rfl,h2,h3):=h;cases e with
  | lst es=>
   simp only[Rep]at h';let(a',ys,q,g2,g3):=h';cases q;have:=I.list_inj h2 g2;subst this;rw[Inv.repL_inj I h3 g3]
  | tup es=>
   simp only[Rep]at h';let(a',ys,q,g2,g3):=h';cases q;show(I.list_tuple h2 g2).elim
  | _=>simp[Rep]at h'
theorem Inv.repL_inj(I:Inv X pins σ H s):∀{d e:List D}{v:List V},RepL X.K H d v->RepL X.K H e v->d=e
 | [],e,v,h,h'=>by
  simp only[RepL]at h;subst h;cases e <;> simp[RepL]at h' ⊢
 | x::xs,e,v,h,h'=>by
  simp only[RepL]at h;let(u,r,rfl,h1,h2):=h;cases e with
  | nil=>simp[RepL]at h'
  | cons y ys=>
   simp only[RepL]at h';let(u',r',q,g1,g2):=h';cases q;rw[Inv.rep_inj I h1 g1,Inv.repL_inj I h2 g2]
end
end
variable{α β:Type}
def JcV(f : α->β->Bool):List α->List β->Bool
 | [],[]=>true
 | x::xs,y::ys=>f x y&&JcV f xs ys
 | _,_=>false
def atB(f : α->β->Bool)(xs:List α)(ys:List β)(j:Nat):Bool:=match xs[j]?,ys[j]? with
 | some x,some y=>f x y
 | _,_=>true
theorem JcW(f : α->β->Bool):∀(xs:List α)(ys:List β),
  ((List.range (min xs.length ys.length)).all (atB f xs ys)&&(xs.length == ys.length))=JcV f xs ys
 | [],[]=>by simp[JcV]
 | [],_::_=>by simp[JcV]
 | _::_,[]=>by simp[JcV]
 | x::xs,y::ys=>by
  have ih:=JcW f xs ys;simp only[JcV,length_cons];rw[<- ih,Nat.succ_min_succ,List.range_succ_eq_map,List.all_cons,List.all_map];have e:((List.range (min xs.length ys.length)).all (atB f (x::xs) (y::ys) ∘ Nat.succ))=(List.range (min xs.length ys.length)).all (atB f xs ys):=by
   congr 1
  rw[e];have e0:atB f (x::xs) (y::ys) 0=f x y:=by unfold atB;simp
  rw[e0,Bool.and_assoc]
  congr 2
  simp
theorem Jgv:∀ xs ys:List D,eqL xs ys=JcV eqD xs ys
 | [],[]=>by simp[eqL,JcV]
 | [],_::_=>by simp[eqL,JcV]
 | _::_,[]=>by simp[eqL,JcV]
 | x::xs,y::ys=>by simp only[eqL,JcV,Jgv xs ys]
theorem Jhc:∀{ds:List D}{d:D},d∈ds->depD d<=depL ds
 | [],_,h=>by simp at h
 | x::xs,d,h=>by
  simp only[depL];rcases mem_cons.mp h with rfl | h
  .show Nat.le_max_left ..
  .show Nat.le_trans (Jhc h) (Nat.le_max_right ..)
def flatD:D->Bool
 | .tup _=>false
 | .lst _=>false
 | _=>true
def valD:D->V
 | .bl b=>.bl b
 | .int i=>.int i
 | .str x=>.str x
 | _=>.non
variable{d:D}
theorem Jfy{K:W.Frag}(f:flatD d=true)(h:Rep K H d v):v=valD d:=by
 cases d <;> simp_all [flatD,Rep,valD]
theorem Jhf(f:flatD d=true):flatV (valD d)=true:=by
 cases d <;> simp_all [flatD,valD,flatV]
theorem Jk0{e:D}(f:flatD d=true)(g:flatD e=true):eqV (valD d) (valD e)=eqD d e:=by
 cases d <;> cases e <;> simp_all [flatD,valD,eqV,eqD]
section
variable{s:Shared}
theorem in1_units(A:Around):A.in1.units=A.units+1:=rfl
def EqP(X:Cx)(H:Hp)(s:Shared)(n:Nat):Prop:=∀(d e:D)(A:Around)(x y:V)(u v:Value),depD d<=n->Rep X.K H d x->Rep X.K H e y->RelV x u->RelV y v->A.units+n<cLine->SeqAt.EqAt A s u v (eqD d e)
variable{n:Nat}
theorem Jhi(ih:EqP X H s n){ds es:List D}{xs ys:List V}{its jts:List Value}(h3:RepL X.K H ds xs)(g3:RepL X.K H es ys)(vi:Vals xs its)(vj:Vals ys jts)(hds:depL ds<=n){A:Around}(hA:A.units+n<cLine) :
  ∀ j (p1:j<its.toArray.size) (p2:j<jts.toArray.size),SeqAt.EqAt A s its.toArray[j] jts.toArray[j] (atB eqD ds es j):=by
 intro j p1 p2;have p:its.length=ds.length:=by rw[h3.length,vi.length]
 have c:jts.length=es.length:=by rw[g3.length,vj.length]
 have a:j<ds.length:=by rw[<- p];simpa using p1
 have b:j<es.length:=by rw[<- c];simpa using p2
 let(v,q,e):=h3.get (List.getElem?_eq_getElem a);let(u,l,g):=g3.get (List.getElem?_eq_getElem b);let(m,d,o):=vi.get q;let(f,r,t):=vj.get l;have k:its.toArray[j]=m:=by
  have:=d;rw[List.getElem?_eq_getElem (by simpa using p1)]at this;simpa using this
 have i:jts.toArray[j]=f:=by
  have:=r;rw[List.getElem?_eq_getElem (by simpa using p2)]at this;simpa using this
 rw[k,i];have h:atB eqD ds es j=eqD ds[j] es[j]:=by
  unfold atB;rw[List.getElem?_eq_getElem a,List.getElem?_eq_getElem b]
 rw[h];show ih _ _ _ _ _ _ _ (Nat.le_trans (Jhc (List.getElem_mem a)) hds) e g o t hA
theorem JmU(I:Inv X pins σ H s){n:Nat}(ih:EqP X H s n){ds es:List D}{a b:Addr}{xs ys:List V}(h2:SqT X.K H a xs)(h3:RepL X.K H ds xs)(g2:SqT X.K H b ys)(g3:RepL X.K H es ys)(hds:depL ds<=n){A:Around}(hA:A.units+(n+1)<cLine) :
  SeqAt.RcAt A s (.ref a) (.ref b) (eqD (.tup ds) (.tup es))/\SeqAt.RcNeAt A s (.ref a) (.ref b) (!eqD (.tup ds) (.tup es)):=by
 let(c,g,f,_):=I.tuple h2;let(d,i,h,_):=I.tuple g2;have l:c.length=ds.length:=by rw[h3.length,g.length]
 have j:d.length=es.length:=by rw[g3.length,i.length]
 have e:=Jhi ih h3 g3 g i hds (A:=A.in1) (by rw[in1_units];ac_nf);have k:eqD (.tup ds) (.tup es)=((List.range (min c.toArray.size d.toArray.size)).all (atB eqD ds es)&&c.toArray.size == d.toArray.size):=by
  simp only[eqD,Jgv];rw[<- JcW];simp only[size_toArray,l,j]
 rw[k];show(SeqAt.RcAt.tuples f h ∅ e,SeqAt.RcNeAt.tuples f h ∅ e)
theorem Jmq(I:Inv X pins σ H s){n:Nat}(ih:EqP X H s n){ds es:List D}{a b:Addr}{xs ys:List V}(h2:SqL X.K H a xs)(h3:RepL X.K H ds xs)(g2:SqL X.K H b ys)(g3:RepL X.K H es ys)(hds:depL ds<=n){A:Around}(hA:A.units+(n+1)<cLine) :
  SeqAt.RcAt A s (.ref a) (.ref b) (eqD (.lst ds) (.lst es))/\SeqAt.RcNeAt A s (.ref a) (.ref b) (!eqD (.lst ds) (.lst es)):=by
 let(d,l,g,_):=I.list h2;let(j,m,h,_):=I.list g2;have e:d.length=ds.length:=by rw[h3.length,l.length]
 have f:j.length=es.length:=by rw[g3.length,m.length]
 have k:=Jhi ih h3 g3 l m hds (A:=A.in1) (by rw[in1_units];ac_nf);by_cases c:ds.length=es.length
 .have i:eqD (.lst ds) (.lst es)=(List.range d.toArray.size).all (atB eqD ds es):=by
   simp only[eqD,Jgv];rw[<- JcW];simp[e,c]
  rw[i];show(SeqAt.RcAt.lists g.isList h.isList (by simp[e,f,c]) ∅ k,SeqAt.RcNeAt.lists g.isList h.isList (by simp[e,f,c]) ∅ k)
 .have i:eqD (.lst ds) (.lst es)=false:=by
   cases q:eqD (.lst ds) (.lst es)with
   | false=>rfl
   | true=>simp only[eqD]at q;show absurd (JeX q) c
  rw[i];show(SeqAt.RcAt.lists_lengths g.isList h.isList (by simp[e,f,c]) ∅,SeqAt.RcNeAt.lists_lengths g.isList h.isList (by simp[e,f,c]) ∅)
theorem Jc6{K:W.Frag}{x:V}(h:Rep K H d x):(flatD d=true/\x=valD d)\/(∃ ds a xs,d=.tup ds/\x=.ref a/\SqT K H a xs/\RepL K H ds xs)\/∃ ds a xs,d=.lst ds/\x=.ref a/\SqL K H a xs/\RepL K H ds xs:=by
 cases d with
 | tup ds=>simp only[Rep]at h;let(a,xs,e,b,c):=h;show .inr (.inl ⟨ds,a,xs,rfl,e,b,c⟩)
 | lst ds=>simp only[Rep]at h;let(a,xs,e,b,c):=h;show .inr (.inr ⟨ds,a,xs,rfl,e,b,c⟩)
 | _=>show .inl ⟨rfl,Jfy rfl h⟩
theorem JcZ(I:Inv X pins σ H s){d e:D}{x y:V}{u v:Value}(hd:Rep X.K H d x)(he:Rep X.K H e y)(ru:RelV x u)(rv:RelV y v)(m:flatD d=!flatD e){A:Around}(hA:A.units<cLine) :
  eqD d e=false/\SeqAt.EqAt A s u v false/\SeqAt.RcAt A s u v false/\SeqAt.RcNeAt A s u v true:=by
 rcases Jc6 hd with⟨fd,rfl⟩ | ⟨ds,a,xs,rfl,rfl,h2,h3⟩ | ⟨ds,a,xs,rfl,rfl,h2,h3⟩
 .rcases Jc6 he with⟨fe,rfl⟩ | ⟨es,b,ys,rfl,rfl,g2,g3⟩ | ⟨es,b,ys,rfl,rfl,g2,g3⟩
  .rw[fd,fe]at m;cases m
  .obtain rfl:v=Value.ref b:=rv;let(f,g,c,_):=I.tuple g2;show(by cases d <;> simp[eqD,flatD]at fd ⊢,?_);cases d <;> simp only[valD,RelV]at ru <;> first | (simp[flatD]at fd;done) | skip
   .subst ru;show(SeqAt.EqAt.none_tuple c hA,SeqAt.RcAt.none_tuple c hA,SeqAt.RcNeAt.none_tuple c hA)
   .subst ru;show(SeqAt.EqAt.bool_tuple _ c hA,SeqAt.RcAt.bool_tuple _ c hA,SeqAt.RcNeAt.bool_tuple _ c hA)
   .let(t,rfl):=ru;show(SeqAt.EqAt.int_tuple _ _ c hA,SeqAt.RcAt.int_tuple _ _ c hA,SeqAt.RcNeAt.int_tuple _ _ c hA)
   .let(t,rfl):=ru;show(SeqAt.EqAt.str_tuple _ _ c hA,SeqAt.RcAt.str_tuple _ _ c hA,SeqAt.RcNeAt.str_tuple _ _ c hA)
  .obtain rfl:v=Value.ref b:=rv;let(f,g,c,_):=I.list g2;have c:=c.isList;show(by cases d <;> simp[eqD,flatD]at fd ⊢,?_);cases d <;> simp only[valD,RelV]at ru <;> first | (simp[flatD]at fd;done) | skip
   .subst ru;show(SeqAt.EqAt.none_list c hA,SeqAt.RcAt.none_list c hA,SeqAt.RcNeAt.none_list c hA)
   .subst ru;show(SeqAt.EqAt.bool_list _ c hA,SeqAt.RcAt.bool_list _ c hA,SeqAt.RcNeAt.bool_list _ c hA)
   .let(t,rfl):=ru;show(SeqAt.EqAt.int_list _ _ c hA,SeqAt.RcAt.int_list _ _ c hA,SeqAt.RcNeAt.int_list _ _ c hA)
   .let(t,rfl):=ru;show(SeqAt.EqAt.str_list _ _ c hA,SeqAt.RcAt.str_list _ _ c hA,SeqAt.RcNeAt.str_list _ _ c hA)
 .rcases Jc6 he with⟨fe,rfl⟩ | ⟨es,b,ys,rfl,rfl,g2,g3⟩ | ⟨es,b,ys,rfl,rfl,g2,g3⟩
  .obtain rfl:u=Value.ref a:=ru;let(f,g,c,_):=I.tuple h2;show(by cases e <;> simp[eqD,flatD]at fe ⊢,?_);cases e <;> simp only[valD,RelV]at rv <;> first | (simp[flatD]at fe;done) | skip
   .subst rv;show(SeqAt.EqAt.tuple_none c hA,SeqAt.RcAt.tuple_none c hA,SeqAt.RcNeAt.tuple_none c hA)
   .subst rv;show(SeqAt.EqAt.tuple_bool _ c hA,SeqAt.RcAt.tuple_bool _ c hA,SeqAt.RcNeAt.tuple_bool _ c hA)
   .let(t,rfl):=rv;show(SeqAt.EqAt.tuple_int _ _ c hA,SeqAt.RcAt.tuple_int _ _ c hA,SeqAt.RcNeAt.tuple_int _ _ c hA)
   .let(t,rfl):=rv;show(SeqAt.EqAt.tuple_str _ _ c hA,SeqAt.RcAt.tuple_str _ _ c hA,SeqAt.RcNeAt.tuple_str _ _ c hA)
  .simp[flatD]at m
  .simp[flatD]at m
 .rcases Jc6 he with⟨fe,rfl⟩ | ⟨es,b,ys,rfl,rfl,g2,g3⟩ | ⟨es,b,ys,rfl,rfl,g2,g3⟩
  .obtain rfl:u=Value.ref a:=ru;let(f,g,c,_):=I.list h2;have c:=c.isList;show(by cases e <;> simp[eqD,flatD]at fe ⊢,?_);cases e <;> simp only[valD,RelV]at rv <;> first | (simp[flatD]at fe;done) | skip
   .subst rv;show(SeqAt.EqAt.list_none c hA,SeqAt.RcAt.list_none c hA,SeqAt.RcNeAt.list_none c hA)
   .subst rv;show(SeqAt.EqAt.list_bool _ c hA,SeqAt.RcAt.list_bool _ c hA,SeqAt.RcNeAt.list_bool _ c hA)
   .let(t,rfl):=rv;show(SeqAt.EqAt.list_int _ _ c hA,SeqAt.RcAt.list_int _ _ c hA,SeqAt.RcNeAt.list_int _ _ c hA)
   .let(t,rfl):=rv;show(SeqAt.EqAt.list_str _ _ c hA,SeqAt.RcAt.list_str _ _ c hA,SeqAt.RcNeAt.list_str _ _ c hA)
  .simp[flatD]at m
  .simp[flatD]at m
theorem seq_eq(I:Inv X pins σ H s){n:Nat}(ih:EqP X H s n){d e:D}{x y:V}{u v:Value}(hn:depD d<=n+1)(hd:Rep X.K H d x)(he:Rep X.K H e y)(ru:RelV x u)(rv:RelV y v)(fd:flatD d=false)(fe:flatD e=false){A:Around}(hA:A.units+(n+1)<cLine) :
  SeqAt.EqAt A s u v (eqD d e)/\SeqAt.RcAt A s u v (eqD d e)/\SeqAt.RcNeAt A s u v (!eqD d e):=by
 have j:=hd;have k:=he;rcases Jc6 hd with⟨f,_⟩ | ⟨ds,a,xs,rfl,rfl,h2,h3⟩ | ⟨ds,a,xs,rfl,rfl,h2,h3⟩
 .rw[f]at fd;cases fd
 .obtain rfl:u=Value.ref a:=ru;have i:depL ds<=n:=by simp only[depD]at hn;ac_nf
  rcases Jc6 he with⟨f,_⟩ | ⟨es,b,ys,rfl,rfl,g2,g3⟩ | ⟨es,b,ys,rfl,rfl,g2,g3⟩
  .rw[f]at fe;cases fe
  .obtain rfl:v=Value.ref b:=rv;have R:=JmU I ih h2 h3 g2 g3 i hA;show(?_,R.1,R.2);by_cases c:a=b
   .subst c;rw[I.rep_inj j k,Jb8];show SeqAt.EqAt.same _
   .show SeqAt.EqAt.of_refs c R.1
  .obtain rfl:v=Value.ref b:=rv;let(l,_,g,_):=I.tuple h2;let(m,_,h,_):=I.list g2;show(SeqAt.EqAt.tuple_list g h.isList ∅,SeqAt.RcAt.tuple_list g h.isList ∅,SeqAt.RcNeAt.tuple_list g h.isList ∅)
 .obtain rfl:u=Value.ref a:=ru;have i:depL ds<=n:=by simp only[depD]at hn;ac_nf
  rcases Jc6 he with⟨f,_⟩ | ⟨es,b,ys,rfl,rfl,g2,g3⟩ | ⟨es,b,ys,rfl,rfl,g2,g3⟩
  .rw[f]at fe;cases fe
  .obtain rfl:v=Value.ref b:=rv;let(l,_,g,_):=I.list h2;let(m,_,h,_):=I.tuple g2;show(SeqAt.EqAt.list_tuple g.isList h ∅,SeqAt.RcAt.list_tuple g.isList h ∅,SeqAt.RcNeAt.list_tuple g.isList h ∅)
  .obtain rfl:v=Value.ref b:=rv;have R:=Jmq I ih h2 h3 g2 g3 i hA;show(?_,R.1,R.2);by_cases c:a=b
   .subst c;rw[I.rep_inj j k,Jb8];show SeqAt.EqAt.same _
   .show SeqAt.EqAt.of_refs c R.1
theorem Inv.eqP(I:Inv X pins σ H s):∀ n,EqP X H s n
 | 0=>λd e A x y u v hn hd he ru rv hA=>by
  have fd:flatD d=true:=by
   cases d <;> simp[depD,flatD]at hn ⊢
  cases fe:flatD e with
  | true=>
   have ex:=Jfy fd hd;have ey:=Jfy fe he;subst ex ey;rw[<- Jk0 fd fe];show Jkn ru rv (Jhf fd) (Jhf fe)
  | false=>
   let(e1,e2,_):=JcZ I hd he ru rv (by rw[fd,fe];rfl) (A:=A) ∅;rw[e1];show e2
 | n+1=>λd e A x y u v hn hd he ru rv hA=>by
  cases fd:flatD d with
  | true=>
   have h0:depD d<=n:=by cases d <;> simp[depD,flatD]at fd ⊢
   show Inv.eqP I n d e A x y u v h0 hd he ru rv ∅
  | false=>
   cases fe:flatD e with
   | true=>
    let(e1,e2,_):=JcZ I hd he ru rv (by rw[fd,fe];rfl) (A:=A) ∅;rw[e1];show e2
   | false=>show(seq_eq I (Inv.eqP I n) hn hd he ru rv fd fe hA).1
def rEqU(K:W.Frag):R2:=λx y H Q=>match x,y with
 | .int i, .int j=>Q (.bl (decide (i=j))) H
 | .str i, .str j=>Q (.bl (decide (i=j))) H
 | .bl i, .bl j=>Q (.bl (decide (i=j))) H
 | .non, .non=>Q (.bl true) H
 | x,y=>∃ d e,Rep K H d x/\Rep K H e y/\depD d<=50/\(flatD d&&flatD e)=false/\Q (.bl (eqD d e)) H
def rNeU(K:W.Frag):R2:=λx y H Q=>match x,y with
 | .int i, .int j=>Q (.bl (!decide (i=j))) H
 | .str i, .str j=>Q (.bl (!decide (i=j))) H
 | .bl i, .bl j=>Q (.bl (!decide (i=j))) H
 | .non, .non=>Q (.bl false) H
 | x,y=>∃ d e,Rep K H d x/\Rep K H e y/\depD d<=50/\(flatD d&&flatD e)=false/\Q (.bl (!eqD d e)) H
theorem JcN(hu:X.A.units+64<cLine):OpR X (compareOp .Eq) (rEqU X.K):=λa s σ H x y v u Q I c b q=>by
 unfold rEqU at q;split at q
 .rename_i i j;show op_eq a s σ H _ _ v u Q I c b ⟨rfl,by rw[show decide (V.int i=V.int j)=decide (i=j)from by simp];show q⟩
 .rename_i i j;show op_eq a s σ H _ _ v u Q I c b ⟨rfl,by rw[show decide (V.str i=V.str j)=decide (i=j)from by simp];show q⟩
 .rename_i i j;show op_eq a s σ H _ _ v u Q I c b ⟨rfl,by rw[show decide (V.bl i=V.bl j)=decide (i=j)from by simp];show q⟩
 .show op_eq a s σ H _ _ v u Q I c b ⟨rfl,by simpa using q⟩
 .let(d,e,h,g,m,l,q):=q;show wpAny (model X.prog X.w) X.A (richCompare .Eq v u) (EP X a σ Q) X.xe s;cases fd:flatD d with
  | true=>
   cases fe:flatD e with
   | true=>rw[fd,fe]at l;cases l
   | false=>
    let(k,_,f,_):=JcZ I h g c b (by rw[fd,fe];rfl) (A:=X.A) ∅;rw[k]at q;show f _ _ _ _ ⟨V.bl _,H,I,rfl,q⟩
  | false=>
   cases fe:flatD e with
   | true=>
    let(k,_,f,_):=JcZ I h g c b (by rw[fd,fe];rfl) (A:=X.A) ∅;rw[k]at q;show f _ _ _ _ ⟨V.bl _,H,I,rfl,q⟩
   | false=>show(seq_eq I (I.eqP 49) m h g c b fd fe ∅).2.1 _ _ _ _ ⟨V.bl _,H,I,rfl,q⟩
theorem JbO(hu:X.A.units+64<cLine):OpR X (compareOp .NotEq) (rNeU X.K):=λa s σ H x y v u Q I c b q=>by
 unfold rNeU at q;split at q
 .rename_i i j;show op_ne a s σ H _ _ v u Q I c b ⟨rfl,by rw[show decide (V.int i=V.int j)=decide (i=j)from by simp];show q⟩
 .rename_i i j;show op_ne a s σ H _ _ v u Q I c b ⟨rfl,by rw[show decide (V.str i=V.str j)=decide (i=j)from by simp];show q⟩
 .rename_i i j;show op_ne a s σ H _ _ v u Q I c b ⟨rfl,by rw[show decide (V.bl i=V.bl j)=decide (i=j)from by simp];show q⟩
 .show op_ne a s σ H _ _ v u Q I c b ⟨rfl,by simpa using q⟩
 .let(d,e,h,g,m,l,q):=q;show wpAny (model X.prog X.w) X.A (richCompare .NotEq v u) (EP X a σ Q) X.xe s;cases fd:flatD d with
  | true=>
   cases fe:flatD e with
   | true=>rw[fd,fe]at l;cases l
   | false=>
    let(k,_,_,f):=JcZ I h g c b (by rw[fd,fe];rfl) (A:=X.A) ∅;rw[k]at q;show f _ _ _ _ ⟨V.bl _,H,I,rfl,q⟩
  | false=>
   cases fe:flatD e with
   | true=>
    let(k,_,_,f):=JcZ I h g c b (by rw[fd,fe];rfl) (A:=X.A) ∅;rw[k]at q;show f _ _ _ _ ⟨V.bl _,H,I,rfl,q⟩
   | false=>show(seq_eq I (I.eqP 49) m h g c b fd fe ∅).2.2 _ _ _ _ ⟨V.bl _,H,I,rfl,q⟩
end
def DivOk(j:Int):Prop:=j≠0/\j.natAbs.log2<9000
def rAddU(K:W.Frag):R2:=λx y H Q=>match x,y with
 | .int i, .int j=>Q (.int (i+j)) H
 | .str i, .str j=>i.length+j.length<=sizeLine/\Q (.str (i++j)) H
 | .ref a, .ref b=>rCat (.ref a) (.ref b) H Q\/rCatT K (.ref a) (.ref b) H Q
 | _,_=>False
theorem JaI:OpR X (binaryOp .Add) (rAddU X.K):=λa s σ H x y v u Q I c b q=>by
 unfold rAddU at q;split at q
 .show Jmu a s σ H _ _ v u Q I c b ⟨_,_,rfl,rfl,q⟩
 .show JhV a s σ H _ _ v u Q I c b ⟨_,_,rfl,rfl,q.1,q.2⟩
 .rcases q with q | q
  .show Jmv a s σ H _ _ v u Q I c b q
  .show Jln a s σ H _ _ v u Q I c b q
 .show q.elim
def rMulU:R2:=λx y H Q=>match x,y with
 | .int i, .int j=>IntMulOk i j/\Q (.int (i*j)) H
 | _,_=>False
theorem Jlp:OpR X (binaryOp .Mult) (rI IntMulOk λi j=>.int (i*j)):=opI λ_ _ _ _ _ _ _ a q=>mul_int q a
theorem Jlq:OpR X (binaryOp .Mult) rMulU:=λa s σ H x y v u Q I c b q=>by
 unfold rMulU at q;split at q
 .show Jlp a s σ H _ _ v u Q I c b ⟨_,_,rfl,rfl,q.1,q.2⟩
 .show q.elim
def Ji0:R2:=λx y H Q=>match x,y with
 | .int i, .int j=>DivOk j/\Q (.int (i.fdiv j)) H
 | _,_=>False
theorem JjP:OpR X (binaryOp .FloorDiv) (rI (λ_ j=>DivOk j) λi j=>.int (i.fdiv j)):=opI λ_ _ _ _ _ _ _ a q=>floordiv_int a.1 q (.inl (PyProof.noPylong_of_log2 a.2))
theorem Jas:OpR X (binaryOp .FloorDiv) Ji0:=λa s σ H x y v u Q I c b q=>by
 unfold Ji0 at q;split at q
 .show JjP a s σ H _ _ v u Q I c b ⟨_,_,rfl,rfl,q.1,q.2⟩
 .show q.elim
def rModU:R2:=λx y H Q=>match x,y with
 | .int i, .int j=>j≠0/\Q (.int (i.fmod j)) H
 | _,_=>False
theorem JaD:OpR X (binaryOp .Mod) rModU:=λa s σ H x y v u Q I c b q=>by
 unfold rModU at q;split at q
 .show Jlo a s σ H _ _ v u Q I c b ⟨_,_,rfl,rfl,q.1,q.2⟩
 .show q.elim
def rPowU:R2:=λx y H Q=>match x,y with
 | .int i, .int j=>CPow i j/\Q (.int (i ^ j.toNat)) H
 | _,_=>False
theorem Jls:OpR X (binaryOp .Pow) rPowU:=λa s σ H x y v u Q I c b q=>by
 unfold rPowU at q;split at q
 .show JmA a s σ H _ _ v u Q I c b ⟨_,_,rfl,rfl,q.1,q.2⟩
 .show q.elim
def rCmpU(p:Int->Int->Bool):R2:=λx y H Q=>match x,y with
 | .int i, .int j=>Q (.bl (p i j)) H
 | _,_=>False
theorem JgP{op:CmpOp}{p:Int->Int->Bool}(h:OpR X (compareOp op) (rI0 λi j=>.bl (p i j))):OpR X (compareOp op) (rCmpU p):=λa s σ H x y v u Q I c b q=>by
 unfold rCmpU at q;split at q
 .show h a s σ H _ _ v u Q I c b ⟨_,_,rfl,rfl,q⟩
 .show q.elim
theorem Jep:OpR X (compareOp .Lt) (rCmpU λi j=>decide (i<j)):=JgP op_lt
theorem Jhm:OpR X (compareOp .Gt) (rCmpU λi j=>decide (j<i)):=JgP op_gt
theorem Jkv:OpR X (compareOp .GtE) (rCmpU λi j=>decide (j<=i)):=JgP op_ge
def SqA(K:W.Frag)(H:Hp)(a:Addr)(xs:List V):Prop:=SqL K H a xs\/SqT K H a xs
def rIxU(K:W.Frag):R2:=λx y H Q=>match x,y with
 | .ref p, .int i=>∃ xs v,SqA K H p xs/\atI xs i=some v/\Q v H
 | .str z, .int i=>∃ c,z.length<=sizeLine/\atI z.cps.toList i=some c/\Q (.str ⟨#[c]⟩) H
 | _,_=>False
theorem ix_U:IxR X (rIxU X.K):=λa b d s σ H x y v u Q I g f q i=>by
 unfold rIxU at q;split at q
 .obtain⟨l,w,h | h,e,q⟩:=q
  .show Jk6 a b d s σ H _ _ v u Q I g f ⟨_,_,_,_,rfl,rfl,h,e,q⟩ i
  .show Jmi a b d s σ H _ _ v u Q I g f ⟨_,_,_,_,rfl,rfl,h,e,q⟩ i
 .let(c,k,j,q):=q;show Jmh a b d s σ H _ _ v u Q I g f ⟨_,_,_,rfl,rfl,k,j,q⟩ i
 .show q.elim
def rLen(K:W.Frag):List V->Hp->VK->Prop:=λxs H Q=>match xs with
 | [.ref p]=>∃ ys,SqA K H p ys/\Q (.int ys.length) H
 | [.str z]=>z.length<=sizeLine/\Q (.int z.length) H
 | _=>False
theorem Ja8:CallR X (.builtin "len") (rLen X.K):=λa s σ H c b Q I r q=>by
 unfold rLen at q;split at q
 .let(d,h,q):=q;show JfV a s σ H _ b Q I r ⟨_,_,rfl,h,q⟩
 .show JfW a s σ H _ b Q I r ⟨_,rfl,q.1,q.2⟩
 .show q.elim
def rAbs:List V->Hp->VK->Prop:=λxs H Q=>match xs with
 | [.int i]=>Q (.int (if i<0 then -i else i)) H
 | _=>False
theorem Jdf:CallR X (.builtin "abs") rAbs:=λa s σ H c b Q I r q=>by
 unfold rAbs at q;split at q
 .show Jjz a s σ H _ b Q I r ⟨_,rfl,q⟩
 .show q.elim
def rMin:List V->Hp->VK->Prop:=λxs H Q=>match xs with
 | [.int i, .int j]=>Q (.int (if j<i then j else i)) H
 | _=>False
theorem Jid(hc:X.calm=true):CallR X (.builtin "min") rMin:=λa s σ H c b Q I r q=>by
 unfold rMin at q;split at q
 .show Jic hc a s σ H _ b Q I r ⟨_,_,rfl,q⟩
 .show q.elim
def rSlU(K:W.Frag):V->Option Int->Option Int->Hp->VK->Prop:=λx lo hi H Q=>rSlL K x lo hi H Q\/rSlT K x lo hi H Q
theorem sl_U:SlR X (rSlU X.K):=SlR.or JlP JmN
def isiB(t T:String):Bool:=t == T||(t == "bool"&&T == "int")
def tyN(K:W.Frag)(H:Hp)(x:V)(t:String):Prop:=match x with
 | .int _=>t="int"
 | .str _=>t="str"
 | .bl _=>t="bool"
 | .non=>t="NoneType"
 | .ref a=>(t="list"/\∃ xs,SqL K H a xs)\/(t="tuple"/\∃ xs,SqT K H a xs)
 | _=>False
theorem kit_b(K:W.Frag){t T:String}(ht:t∈["int","str","bool","NoneType","list","tuple"])(hT:T∈["int","str","bool","list","tuple"]):W.kitOne K (.type t) (.type T)=some (isiB t T):=by
 simp only[mem_cons,not_mem_nil,or_false]at ht hT;rcases ht with rfl | rfl | rfl | rfl | rfl | rfl <;> rcases hT with rfl | rfl | rfl | rfl | rfl <;> with_unfolding_all rfl
def rIsi(K:W.Frag):List V->Hp->VK->Prop:=λxs H Q=>match xs with
 | [x, .ty T]=>T∈["int","str","bool","list","tuple"]/\∃ t,tyN K H x t/\Q (.bl (isiB t T)) H
 | _=>False
theorem JaX:CallR X (.builtin "isinstance") (rIsi X.K):=λf s σ H n v Q I r q=>by
 unfold rIsi at q;split at q
 .rename_i x T;let(e,t,d,q):=q;let(u,c,rfl,g,m):=vals2 r;obtain rfl:c=Value.type T:=m;have b:∀ k,EP X f σ Q (.bool (isiB t T)) { s with toks:=k }:=λk=>⟨V.bl _,H,I.tok k,rfl,q⟩;unfold tyN at d;split at d
  .subst d;let(_,rfl):=g;show W.kia_one W.kitx_int I.kIn True.intro (kit_b _ ⋯ e) (λz=>nomatch z) b
  .subst d;let(_,rfl):=g;show W.kia_one W.kitx_str I.kIn True.intro (kit_b _ ⋯ e) (λz=>nomatch z) b
  .subst d;cases(show u=Value.bool _ from g);show W.kia_one W.kitx_bool I.kIn True.intro (kit_b _ ⋯ e) (λz=>nomatch z) b
  .subst d;cases(show u=Value.none from g);show W.kia_one W.kitx_none I.kIn True.intro (kit_b _ ⋯ e) (λz=>nomatch z) b
  .rename_i a;cases(show u=Value.ref a from g);rcases d with⟨rfl,ys,h⟩ | ⟨rfl,ys,h⟩
   .let(j,_,p,_):=I.list h;let(o,_,l,i,_):=p;show W.kia_one W.kitx_list I.kIn ⟨o,l,i⟩ (kit_b _ ⋯ e) (λz=>nomatch z) b
   .let(j,_,p,_):=I.tuple h;let(o,l,i,_):=p;show W.kia_one W.kitx_tuple I.kIn ⟨o,l,i⟩ (kit_b _ ⋯ e) (λz=>nomatch z) b
  .show d.elim
 .show q.elim
variable{tg:Expr}
def iAny(K:W.Frag)(tl:TE):TI:=λσ H R=>tl σ H λx H1=>∃ a,x=.ref a/\(((∃ xs,SqL K H1 a xs)/\R (Itl K a) H1)\/((∃ xs,SqT K H1 a xs)/\R (Itt K a) H1))
theorem pi_U{l:Expr}{tl:TE}(hl:PE X l tl):PI X tg l (iAny X.K tl):=λd s σ H R I h=>by
 show thn (hl d s σ H _ I h) λv c ζ=>?_;let(x,i,I1,k,a,n,q):=ζ;subst n;cases k;rcases q with⟨⟨xs,hq⟩,q⟩ | ⟨⟨xs,hq⟩,q⟩
 .let(f,m,p,j):=I1.list hq;show wpAny_pyIter_list p.isList ?_;show(c.heap.objs.size,[c.heap.objs.size],_,_,i,rfl,I1.kept (t':=c.toks) λb o e=>Heap.get?_push_of_some _ e,Jjn a _,⟨_,Heap.get?_push_size _ rfl,rfl,rfl⟩,λb g=>?_,q);have e:b=c.heap.objs.size:=by simpa using g
  subst e;show I1.fpOk (Nat.le_refl _) (I1.hok.fresh (Nat.le_refl _))
 .let(f,m,p,j):=I1.tuple hq;show wpAny_pyIter_tuple (show c.heap.IsTuple a f.toArray from p) ?_;show(c.heap.objs.size,[c.heap.objs.size],_,_,i,rfl,I1.kept (t':=c.toks) λb o e=>Heap.get?_push_of_some _ e,Jh4 a _,⟨_,Heap.get?_push_size _ rfl,rfl,rfl⟩,λb g=>?_,q);have e:b=c.heap.objs.size:=by simpa using g
  subst e;show I1.fpOk (Nat.le_refl _) (I1.hok.fresh (Nat.le_refl _))
structure FunD(K:W.Frag)(x qual:Str)(st:Stmt)(dV:Value)(f:Addr)(fd:FuncData):Prop where
 ex:∃(oc:Value)(od:Option Addr)(kV doc pm:Value)(an:Option Addr)(cdv ct:Value)(osl:Array (Option Value)),
  fd=W.fnOf x qual (Jam st) (Jal st) (Jae st) dV kV doc pm an cdv ct/\K.lookup f=some ⟨oc,od, .func fd,osl⟩/\W.codeIn K cdv qual=true
 kp:W.keepIn K (.ref f)=true
section
variable{mg:Str->Option Value}{base:Heap}{w:World}{K:W.Frag}{x qual:Str}{st:Stmt}{dV:Value}{fd:FuncData}{N ps:List Str}{sp:Sp}
theorem FunD.okn{f:Addr}{k:Nat}(F:FunD K x qual st dV f fd)(S:Jan N ps (Jae st))(len:∀ vs H Q E,sp vs H Q E->vs.length=ps.length)
  (hbody:∀(cdv:Value)(A:Around)(outer:List Env)(s:Shared)(H:Hp)(vs:List V)(Q:VK)(E:XK),Room k (A.deeper (envOfC qual (Jae st) s.heap.objs.size f cdv))->sp vs H Q E ->
   ∃ t,PSs (cxOf (CX1 P w) P w K mg base N qual (Jae st) f cdv A outer s H E).nox (Jal st) t/\t { nx:=λ_ H'=>Q .non H',rt:=Q } (start N vs) H):FnOk P w K mg base (CX1 P w) (k+1) f fd ps sp:=by
 let(j,l,kV,c,i,n,cdv,m,g,rfl,d,a):=F.ex;show fn_of d a S len λA outer s H vs Q E e b=>?_;let(t,h,q):=hbody cdv A outer s H vs Q E e b;show(t,h.nox,q)
theorem FunD.okx{f:Addr}{k:Nat}(F:FunD K x qual st dV f fd)(S:Jan N ps (Jae st))(len:∀ vs H Q E,sp vs H Q E->vs.length=ps.length)
  (hbody:∀(cdv:Value)(A:Around)(outer:List Env)(s:Shared)(H:Hp)(vs:List V)(Q:VK)(E:XK),Room k (A.deeper (envOfC qual (Jae st) s.heap.objs.size f cdv))->sp vs H Q E ->
   ∃ t,PSs (cxOf (CX1 P w) P w K mg base N qual (Jae st) f cdv A outer s H E) (Jal st) t/\t { nx:=λ_ H'=>Q .non H',rt:=Q } (start N vs) H):FnOk P w K mg base (CX1 P w) (k+1) f fd ps sp:=by
 let(i,j,kV,c,h,m,cdv,l,g,rfl,d,a):=F.ex;show fn_of d a S len λA outer s H vs Q E e b=>hbody cdv A outer s H vs Q E e b
theorem FunD.binds{f:Addr}(F:FunD K x qual st dV f fd)
  (h:∀(kV doc pm:Value)(an:Option Addr)(cdv ct:Value)(us:List Value),us.length=ps.length->bindArgs (W.fnOf x qual (Jam st) (Jal st) (Jae st) dV kV doc pm an cdv ct) ⟨us,[]⟩=pure (ps.zip us)):Binds K fd ps []:=by
 let(c,d,kV,doc,pm,an,cdv,ct,a,rfl,e,b):=F.ex;show .all (h kV doc pm an cdv ct)
theorem FunD.bindsD{T:Addr}{f:Addr}{o:Obj}{items:Array Value}{n:Nat}(F:FunD K x qual st (.ref T) f fd)(hT:K.lookup T=some o)(hs:o.data=.seq items n)(ds:List Value)
  (h:∀(kV doc pm:Value)(an:Option Addr)(cdv ct:Value)(us:List Value),(us++ds).length=ps.length->∃ k,bindArgs (W.fnOf x qual (Jam st) (Jal st) (Jae st) (.ref T) kV doc pm an cdv ct) ⟨us,[]⟩=seqItems? (.ref T) >>= k/\k (some items)=pure (ps.zip (us++ds))):Binds K fd ps ds:=by
 let(g,i,kV,doc,pm,an,cdv,ct,b,rfl,j,d):=F.ex;intro s us X e;let(k,c,a):=h kV doc pm an cdv ct us e;show BindsTo.of_defaults (T:=T) rfl (X _ _ hT) hs c a
theorem Jao{f:Addr}{oc:Value}{od an:Option Addr}{osl:Array (Option Value)}{kV doc pm cdv ct:Value}(l:K.lookup f=some ⟨oc,od, .func (W.fnOf x qual (Jam st) (Jal st) (Jae st) dV kV doc pm an cdv ct),osl⟩)
  (c:W.codeIn K cdv qual=true) (k:W.keepIn K (.ref f)=true):FunD K x qual st dV f (W.fnOf x qual (Jam st) (Jal st) (Jae st) dV kV doc pm an cdv ct):=⟨⟨oc,od,kV,doc,pm,an,cdv,ct,osl,rfl,l,c⟩,k⟩
end
structure Cal(P:Program)(w:World)(K:W.Frag)(mg:Str->Option Value)(base:Heap)(k:Nat)(x:Str)(ps:List Str)(dvs:List V)(sp:Sp):Prop where
 ex:∃(f:Addr)(fd:FuncData)(ds:List Value),FnOk P w K mg base (CX1 P w) k f fd ps sp/\mg x=some (.ref f)/\W.keepIn K (.ref f)=true/\Binds K fd ps ds/\Vals dvs ds
section
variable{k':Nat}{x:Str}{ps:List Str}{dvs:List V}{sp:Sp}{E:XK}{p:Pos}{e:Expr}{es:List Expr}{k:Nat}{t:TA}
theorem Cal.ev(G:Cal X.prog X.w X.K X.mg X.base k x ps dvs sp)(hr:Room k' X.A)(hk:k<=k')(hg:Gl X x)(hx:JbZ (CX1 X.prog X.w) X E)(ha:PA X (e::es) t)
  (hdb:autoParam ((x == ("__debug__" : Str))=false) Av) (he:starEach (e::es) X.env=(false,eval e X.env)::starEach es X.env:=by first|show Jaf rfl|rfl) (hpl:autoParam ((backTo pos (starEach es X.env)).any (·.1)=false) Au) :
  PE X (.Call (.Name x p) (e::es) [] pos) (tCall sp dvs E t):=by
 let(f,g,h,F,c,a,b,d):=G.ex;show Jlu F (hr.mono hk) hg c a b d hx ha hdb he hpl
theorem Cal.tr(G:Cal X.prog X.w X.K X.mg X.base k x ps dvs sp)(hr:Room k' X.A)(hk:k<=k')(hg:Gl X x)(ha:PA X.nox (e::es) t)
  (hdb:autoParam ((x == ("__debug__" : Str))=false) Av) (he:autoParam (starEach (e::es) X.env=(false,eval e X.env)::starEach es X.env) Au) (hpl:autoParam ((backTo pos (starEach es X.env)).any (·.1)=false) Au) :
  PEx X (.Call (.Name x p) (e::es) [] pos) (xCall sp dvs t):=by
 let(f,g,h,F,c,a,b,d):=G.ex;show JjW F (hr.mono hk) hg c a b d ha hdb he hpl
end
end L2
namespace Mth
def g(a b:Int):Int:=(Int.gcd a b:Nat)
theorem Jks(a:Int):g a 0=(a.natAbs:Int):=by unfold g;rw[Int.gcd_zero_right]
theorem g_pos{a b:Int}(h:b≠0):0<g a b:=by
 unfold g;show Int.natCast_pos.mpr (Int.gcd_pos_of_ne_zero_right a h)
theorem JcJ(a b:Int):g a b∣a:=Int.gcd_dvd_left ..
theorem JbN(a b:Int):g a b∣b:=Int.gcd_dvd_right ..
theorem Jme(a b:Int):g b (a % b)=g a b:=by
 unfold g;rw[Int.gcd_comm b (a % b)];first
  | rw[Int.gcd_emod_left]
  | (rw[Int.emod_def];simp[Int.gcd_comm])
theorem Bed(a b:Int):g (if a<0 then -a else a) (if b<0 then -b else b)=g a b:=by
 unfold g;split <;> split <;> simp[Int.neg_gcd,Int.gcd_neg]
theorem Jkg(a:Int):0<=(if a<0 then -a else a):=by split <;> ac_nf
theorem g_le{a b:Int}(h:b≠0):g a b<=(b.natAbs:Int):=by
 unfold g;show Int.ofNat_le.mpr (Nat.le_of_dvd ∅ (Int.natAbs_dvd_natAbs.mpr (by simpa using Int.gcd_dvd_right (a:=a) (b:=b)) |> λz=>by simpa using z))
theorem fm{x y:Int}(h:0<y):0<=x.fmod y/\x.fmod y<y:=by
 rw[Int.fmod_eq_emod_of_nonneg _ ∅];show(Int.emod_nonneg _ ∅,Int.emod_lt_of_pos _ h)
theorem Jit{x y:Int}(h:0<y):g y (x.fmod y)=g x y:=by
 rw[Int.fmod_eq_emod_of_nonneg _ ∅];show Jme x y
def by_(t b:Int):Int:=if b<0 then -(g t b)else g t b
def top(t b:Int):Int:=t.fdiv (by_ t b)
def bot(t b:Int):Int:=b.fdiv (by_ t b)
theorem by_ne{t b:Int}(h:b≠0):by_ t b≠0:=by
 have:=g_pos (a:=t) h;unfold by_;split <;> ac_nf
theorem JkV(t b:Int):by_ t b∣t:=by
 unfold by_;split
 .show Int.neg_dvd.mpr (JcJ t b)
 .show JcJ t b
theorem JkW(t b:Int):by_ t b∣b:=by
 unfold by_;split
 .show Int.neg_dvd.mpr (JbN t b)
 .show JbN t b
theorem JaM{a d:Int}(h:d∣a)(hd:d≠0):a.fdiv d*d=a:=by
 let(k,rfl):=h;rw[Int.mul_comm d k,Int.mul_fdiv_cancel _ hd]
theorem JeG{t b:Int}(h:b≠0):top t b*by_ t b=t:=JaM (JkV t b) (by_ne h)
theorem Jd1{t b:Int}(h:b≠0):bot t b*by_ t b=b:=JaM (JkW t b) (by_ne h)
theorem Jc3{t b:Int}(h:b≠0):1<=bot t b:=by
 have c:=Jd1 (t:=t) h;have d:=g_pos (a:=t) h;by_cases f:b<0
 .have e:by_ t b = -(g t b):=by unfold by_;rw[if_pos f]
  rw[e]at c;have i:bot t b*g t b = -b:=by rw[Int.mul_neg]at c;ac_nf
  rcases Int.lt_trichotomy (bot t b) 0 with z | z | z
  .have:=Int.mul_neg_of_neg_of_pos z d;ac_nf
  .rw[z]at i;ac_nf
  .ac_nf
 .have e:by_ t b=g t b:=by unfold by_;rw[if_neg f]
  rw[e]at c;rcases Int.lt_trichotomy (bot t b) 0 with z | z | z
  .have:=Int.mul_neg_of_neg_of_pos z d;ac_nf
  .rw[z]at c;ac_nf
  .ac_nf
theorem cross{t b:Int}(h:b≠0):top t b*b=t*bot t b:=by
 have a:=JeG (t:=t) h;have c:=Jd1 (t:=t) h
 calc top t b*b=top t b*(bot t b*by_ t b):=by rw[c]
  _=(top t b*by_ t b)*bot t b:=by rw[Int.mul_comm (bot t b),Int.mul_assoc]
  _=t*bot t b:=by rw[a]
theorem JiF(t b:Int):(by_ t b).natAbs=Int.gcd t b:=by
 unfold by_ g;split <;> simp
theorem g_low{t b:Int}(h:b≠0):g (top t b) (bot t b)=1:=by
 have a:0<Int.gcd t b:=Int.gcd_pos_of_ne_zero_right t h;have e:Int.gcd (top t b*by_ t b) (bot t b*by_ t b)=Int.gcd (top t b) (bot t b)*(by_ t b).natAbs:=Int.gcd_mul_right ..;rw[JeG h,Jd1 h,JiF]at e;have : Int.gcd (top t b) (bot t b)=1:=by
  rcases Nat.lt_trichotomy (Int.gcd (top t b) (bot t b)) 1 with z | z | z
  .have : Int.gcd (top t b) (bot t b)=0:=by ac_nf
   rw[this]at e;ac_nf
  .show z
  .have:=Nat.mul_le_mul_right (Int.gcd t b) z;ac_nf
 unfold g;rw[this];rfl
theorem Jdv{a b d:Int}(g1:Int.gcd a b=1)(h:b∣a*d):b∣d:=by
 have e:b.natAbs∣a.natAbs*d.natAbs:=by rw[<- Int.natAbs_mul];show Int.natAbs_dvd_natAbs.mpr h
 have c:Nat.Coprime b.natAbs a.natAbs:=by
  unfold Nat.Coprime;rw[Nat.gcd_comm];show g1
 show Int.natAbs_dvd_natAbs.mp (c.dvd_of_dvd_mul_left e)
theorem Jdw{a b c d:Int}(hb:1<=b)(hd:1<=d)(h1:g a b=1)(h2:g c d=1)(e:a*d=c*b):a=c/\b=d:=by
 have f:Int.gcd a b=1:=by unfold g at h1;ac_nf
 have j:Int.gcd c d=1:=by unfold g at h2;ac_nf
 have i:b∣d:=by
  have : b∣a*d:=⟨c,by rw[e,Int.mul_comm]⟩;show Jdv f this
 have k:d∣b:=by
  have : d∣c*b:=⟨a,by rw[<- e,Int.mul_comm]⟩;show Jdv j this
 have h:b=d:=Int.dvd_antisymm ∅ ∅ i k;subst h;show(?_,rfl);show Int.eq_of_mul_eq_mul_right ∅ e
theorem JmS{t b:Int}(h:b≠0):(top t b).natAbs<=t.natAbs:=by
 have c:=JeG (t:=t) h;have d:(by_ t b).natAbs≠0:=by have:=by_ne (t:=t) h;ac_nf
 have a:=congrArg Int.natAbs c;rw[Int.natAbs_mul]at a;rw[<- a];show Nat.le_mul_of_pos_right _ ∅
theorem bot_le{t b:Int}(h:b≠0):(bot t b).natAbs<=b.natAbs:=by
 have c:=Jd1 (t:=t) h;have d:(by_ t b).natAbs≠0:=by have:=by_ne (t:=t) h;ac_nf
 have a:=congrArg Int.natAbs c;rw[Int.natAbs_mul]at a
 calc (bot t b).natAbs<=(bot t b).natAbs*(by_ t b).natAbs:=Nat.le_mul_of_pos_right _ ∅
  _=b.natAbs:=a
theorem Jkt{t b:Int}(h:b≠0):(if b<0 then -t else t).fdiv (g (if b<0 then -t else t) (if b<0 then -b else b))=top t b/\(if b<0 then -b else b).fdiv (g (if b<0 then -t else t) (if b<0 then -b else b))=bot t b:=by
 have i:=JeG (t:=t) h;have d:=Jd1 (t:=t) h;have j:=g_pos (a:=t) h;by_cases c:b<0
 .have e:by_ t b = -(g t b):=by unfold by_;rw[if_pos c]
  simp only[if_pos c];have f:g (-t) (-b)=g t b:=by unfold g;simp[Int.neg_gcd,Int.gcd_neg]
  rw[f];rw[e,Int.mul_neg]at i d;constructor
  .have : -t=top t b*g t b:=by ac_nf
   rw[this,Int.mul_fdiv_cancel _ ∅]
  .have : -b=bot t b*g t b:=by ac_nf
   rw[this,Int.mul_fdiv_cancel _ ∅]
 .have e:by_ t b=g t b:=by unfold by_;rw[if_neg c]
  simp only[if_neg c];unfold top bot;rw[e];show(rfl,rfl)
theorem Jlf{n k:Nat}(h:n<2 ^ k)(hk:k<9000):n.log2<9000:=by
 by_cases z:n=0
 .rw[z];decide
 .show Nat.lt_trans ((Nat.log2_lt z).mpr h) hk
def Sz(n:Nat)(i:Int):Prop:=i.natAbs<2 ^ n
theorem Sz.mono{m n:Nat}{i:Int}(h:Sz m i)(k:m<=n):Sz n i:=Nat.lt_of_lt_of_le h (Nat.pow_le_pow_right ⋯ k)
theorem Sz.mul{m n:Nat}{i j:Int}(h:Sz m i)(k:Sz n j):Sz (m+n) (i*j):=by
 unfold Sz at *;rw[Int.natAbs_mul,Nat.pow_add];show Nat.mul_lt_mul'' h k
theorem Sz.add{n:Nat}{i j:Int}(h:Sz n i)(k:Sz n j):Sz (n+1) (i+j):=by
 unfold Sz at *;have:=Int.natAbs_add_le i j;rw[Nat.pow_succ];ac_nf
theorem Sz.neg{n:Nat}{i:Int}(h:Sz n i):Sz n (-i):=by
 unfold Sz at *;rw[Int.natAbs_neg];show h
theorem Sz.top{n:Nat}{t b:Int}(hb:b≠0)(h:Sz n t):Sz n (Mth.top t b):=Nat.lt_of_le_of_lt (JmS hb) h
theorem Sz.bot{n:Nat}{t b:Int}(hb:b≠0)(h:Sz n b):Sz n (Mth.bot t b):=Nat.lt_of_le_of_lt (bot_le hb) h
theorem Sz.lit{n:Nat}{i:Int}(h1 : -(2 ^ n)<i)(h2:i<2 ^ n):Sz n i:=by
 unfold Sz;have e:((2 ^ n:Nat):Int)=2 ^ n:=by simp
 ac_nf
end Mth
namespace Mth
theorem Jcu{a b:Int}(h:g a b=1):Int.gcd a b=1:=by unfold g at h;ac_nf
theorem JdW{a b:Int}(h:Int.gcd a b=1):g a b=1:=by unfold g;rw[h];rfl
theorem Jb7{t x y:Int}(h1:Int.gcd t x=1)(h2:Int.gcd t y=1):Int.gcd t (x*y)=1:=by
 unfold Int.gcd at *;rw[Int.natAbs_mul];show Nat.Coprime.mul_right h1 h2
theorem JeV{x y:Int}(h:∀ k:Int,k∣x->k∣y->k∣1):Int.gcd x y=1:=by
 have:=h (Int.gcd x y:Nat) (Int.gcd_dvd_left ..) (Int.gcd_dvd_right ..);have z:=Int.natAbs_dvd_natAbs.mpr this;simp at z;show z
theorem JeW{k x y:Int}(h:Int.gcd x y=1)(h1:k∣x)(h2:k∣y):k∣1:=by
 have z:=Int.dvd_coe_gcd h1 h2;rw[h]at z;show z
theorem Jcg{t u x:Int}(h:Int.gcd t x=1)(d:u∣t):Int.gcd u x=1:=JeV λk a b=>JeW h (Int.dvd_trans a d) b
theorem JaU{x y:Int}(h:Int.gcd x y=1):Int.gcd y x=1:=by rw[Int.gcd_comm];show h
theorem Jih{a b c d:Int}(h1:Int.gcd a b=1)(h2:Int.gcd d b=1):Int.gcd (a*d+c*b) b=1:=by
 have : Int.gcd b (a*d)=1:=Jb7 (JaU h1) (JaU h2);show JeV λk g f=>JeW this f ?_;have : k∣(a*d+c*b)-c*b:=Int.dvd_sub g (Int.dvd_mul_of_dvd_right f);have e:(a*d+c*b)-c*b=a*d:=by ac_nf
 rwa [e]at this
theorem Jb9{a d:Int}(h:d∣a)(hd:1<=d)(ha:1<=a):1<=a.fdiv d:=by
 have e:=JaM h ∅;rcases Int.lt_trichotomy (a.fdiv d) 0 with z | z | z
 .have:=Int.mul_neg_of_neg_of_pos z (show 0<d by ac_nf);ac_nf
 .rw[z]at e;ac_nf
 .ac_nf
theorem JcX{b d s:Int}(hs:s=g b d)(p:1<=s):Int.gcd (b.fdiv s) (d.fdiv s)=1:=by
 have a:b.fdiv s*s=b:=JaM (by rw[hs];show JcJ ..) ∅;have c:d.fdiv s*s=d:=JaM (by rw[hs];show JbN ..) ∅;have e:Int.gcd (b.fdiv s*s) (d.fdiv s*s)=Int.gcd (b.fdiv s) (d.fdiv s)*s.natAbs:=Int.gcd_mul_right ..;rw[a,c]at e;have f:Int.gcd b d=s.natAbs:=by rw[hs];unfold g;simp
 rw[f]at e;rcases Nat.lt_trichotomy (Int.gcd (b.fdiv s) (d.fdiv s)) 1 with z | z | z
 .have : Int.gcd (b.fdiv s) (d.fdiv s)=0:=by ac_nf
  rw[this]at e;ac_nf
 .show z
 .have:=Nat.mul_le_mul_right s.natAbs z;ac_nf
theorem JlB{a b c d:Int}(hb:1<=b)(hd:1<=d)(h1:g a b=1)(h2:g c d=1){s t r:Int}(hs:s=g b d)(ht:t=a*d.fdiv s+c*b.fdiv s)(hr:r=g t s) :
  t.fdiv r=top (a*d+c*b) (b*d)/\b.fdiv s*d.fdiv r=bot (a*d+c*b) (b*d):=by
 have u:1<=s:=by rw[hs];have:=g_pos (a:=b) (b:=d) ∅;ac_nf
 have x:1<=r:=by rw[hr];have:=g_pos (a:=t) (b:=s) ∅;ac_nf
 have B:s∣b:=by rw[hs];show JcJ ..
 have o:s∣d:=by rw[hs];show JbN ..
 have D:r∣t:=by rw[hr];show JcJ ..
 have z:r∣s:=by rw[hr];show JbN ..
 have y:r∣d:=Int.dvd_trans z o;have j:=JaM B ∅;have l:=JaM o ∅;have A:=JaM D ∅;have w:=JaM y ∅;have E:=JaM z ∅;have M:=Jb9 B u hb;have N:=Jb9 o u hd;have H:=Jb9 y x hd;have h:=JcX hs u;have v:Int.gcd (t.fdiv r) (s.fdiv r)=1:=JcX hr x;have m:d.fdiv r=d.fdiv s*s.fdiv r:=by
  show Int.eq_of_mul_eq_mul_right (a:=r) ∅ ?_;rw[w,Int.mul_assoc,E,l]
 have K:Int.gcd a (b.fdiv s)=1:=JaU (Jcg (JaU (Jcu h1)) ⟨s,j.symm⟩);have J:Int.gcd c (d.fdiv s)=1:=JaU (Jcg (JaU (Jcu h2)) ⟨s,l.symm⟩);have I:Int.gcd t (b.fdiv s)=1:=by rw[ht];show Jih K (JaU h)
 have F:Int.gcd t (d.fdiv s)=1:=by rw[ht,Int.add_comm];show Jih J h
 have q:g (t.fdiv r) (b.fdiv s*d.fdiv r)=1:=JdW (by
  rw[m];have k:t.fdiv r∣t:=⟨r,A.symm⟩;show Jb7 (Jcg I k) (Jb7 (Jcg F k) v))
 have e:b*d≠0:=Int.mul_ne_zero ∅ ∅;have f:=g_low (t:=a*d+c*b) e;have i:=Jc3 (t:=a*d+c*b) e;have n:=cross (t:=a*d+c*b) e;have p:1<=b.fdiv s*d.fdiv r:=by
  have:=Int.mul_pos (show 0<b.fdiv s by ac_nf) (show 0<d.fdiv r by ac_nf);ac_nf
 have G:t*s=a*d+c*b:=by
  rw[ht,Int.add_mul,Int.mul_assoc,Int.mul_assoc,l,j]
 have C:t.fdiv r*(b*d)=(a*d+c*b)*(b.fdiv s*d.fdiv r):=by
  have L:(t.fdiv r*(b*d))*r=((a*d+c*b)*(b.fdiv s*d.fdiv r))*r:=by
   calc (t.fdiv r*(b*d))*r=(t.fdiv r*r)*(b*d):=by ac_rfl
    _=t*((b.fdiv s*s)*d):=by rw[A,j]
    _=(t*s)*(b.fdiv s*d):=by ac_rfl
    _=(a*d+c*b)*(b.fdiv s*(d.fdiv r*r)):=by rw[G,w]
    _=((a*d+c*b)*(b.fdiv s*d.fdiv r))*r:=by ac_rfl
  show Int.eq_of_mul_eq_mul_right ∅ L
 show Jdw p i q f ?_;show Int.eq_of_mul_eq_mul_right (a:=b*d) e ?_
 calc (t.fdiv r*bot (a*d+c*b) (b*d))*(b*d)=(t.fdiv r*(b*d))*bot (a*d+c*b) (b*d):=by ac_rfl
  _=((a*d+c*b)*bot (a*d+c*b) (b*d))*(b.fdiv s*d.fdiv r):=by rw[C];ac_rfl
  _=(top (a*d+c*b) (b*d)*(b*d))*(b.fdiv s*d.fdiv r):=by rw[n]
  _=(top (a*d+c*b) (b*d)*(b.fdiv s*d.fdiv r))*(b*d):=by ac_rfl
theorem Jd5{a d:Int}(h:d∣a)(hd:1<=d):(a.fdiv d).natAbs<=a.natAbs:=by
 have e:=congrArg Int.natAbs (JaM h (show d≠0 by ac_nf));rw[Int.natAbs_mul]at e
 calc (a.fdiv d).natAbs<=(a.fdiv d).natAbs*d.natAbs:=Nat.le_mul_of_pos_right _ ∅
  _=a.natAbs:=e
theorem Sz.fdiv{n:Nat}{a d:Int}(h:Sz n a)(k:d∣a)(hd:1<=d):Sz n (a.fdiv d):=Nat.lt_of_le_of_lt (Jd5 k hd) h
theorem g_neg{a b:Int}:g (-a) b=g a b:=by unfold g;simp[Int.neg_gcd]
end Mth
namespace Mth
theorem Jj9{a b c d:Int}(hb:1<=b)(hd:1<=d)(h1:g a b=1)(h2:g c d=1){u v:Int}(hu:u=g a d)(hv:v=g c b) :
  a.fdiv u*c.fdiv v=top (a*c) (b*d)/\b.fdiv v*d.fdiv u=bot (a*c) (b*d):=by
 have r:1<=u:=by rw[hu];have:=g_pos (a:=a) (b:=d) ∅;ac_nf
 have o:1<=v:=by rw[hv];have:=g_pos (a:=c) (b:=b) ∅;ac_nf
 have y:u∣a:=by rw[hu];show JcJ ..
 have n:u∣d:=by rw[hu];show JbN ..
 have z:v∣c:=by rw[hv];show JcJ ..
 have m:v∣b:=by rw[hv];show JbN ..
 have s:=JaM y ∅;have q:=JaM n ∅;have l:=JaM z ∅;have p:=JaM m ∅;have D:=Jb9 m o hb;have E:=Jb9 n r hd;have A:=JcX hu r;have C:=JcX hv o;have B:Int.gcd (a.fdiv u) (b.fdiv v)=1:=JaU (Jcg (JaU (Jcg (Jcu h1) ⟨u,s.symm⟩)) ⟨v,p.symm⟩);have x:Int.gcd (c.fdiv v) (d.fdiv u)=1:=JaU (Jcg (JaU (Jcg (Jcu h2) ⟨v,l.symm⟩)) ⟨u,q.symm⟩);have k:g (a.fdiv u*c.fdiv v) (b.fdiv v*d.fdiv u)=1:=JdW (JaU (Jb7 (JaU (Jb7 B A)) (JaU (Jb7 C x))));have e:b*d≠0:=Int.mul_ne_zero ∅ ∅;have f:=g_low (t:=a*c) e;have h:=Jc3 (t:=a*c) e;have i:=cross (t:=a*c) e;have j:1<=b.fdiv v*d.fdiv u:=by
  have:=Int.mul_pos (show 0<b.fdiv v by ac_nf) (show 0<d.fdiv u by ac_nf);ac_nf
 have w:(a.fdiv u*c.fdiv v)*(b*d)=(a*c)*(b.fdiv v*d.fdiv u):=by
  calc (a.fdiv u*c.fdiv v)*(b*d)=(a.fdiv u*c.fdiv v)*((b.fdiv v*v)*(d.fdiv u*u)):=by rw[p,q]
   _=((a.fdiv u*u)*(c.fdiv v*v))*(b.fdiv v*d.fdiv u):=by ac_rfl
   _=(a*c)*(b.fdiv v*d.fdiv u):=by rw[s,l]
 show Jdw j h k f ?_;show Int.eq_of_mul_eq_mul_right (a:=b*d) e ?_
 calc ((a.fdiv u*c.fdiv v)*bot (a*c) (b*d))*(b*d)=((a.fdiv u*c.fdiv v)*(b*d))*bot (a*c) (b*d):=by ac_rfl
  _=((a*c)*bot (a*c) (b*d))*(b.fdiv v*d.fdiv u):=by rw[w];ac_rfl
  _=(top (a*c) (b*d)*(b*d))*(b.fdiv v*d.fdiv u):=by rw[i]
  _=(top (a*c) (b*d)*(b.fdiv v*d.fdiv u))*(b*d):=by ac_rfl
theorem Jlg{t b:Int}(h:b<0):top (-t) (-b)=top t b/\bot (-t) (-b)=bot t b:=by
 have a:=Jkt (t:=t) (b:=b) ∅;have c:=Jkt (t:=-t) (b:=-b) ∅;rw[if_pos h,if_pos h]at a;rw[if_neg ∅,if_neg ∅]at c;show(c.1.symm.trans a.1,c.2.symm.trans a.2)
theorem Jmd{a b:Int}:g a (-b)=g a b:=by unfold g;simp[Int.gcd_neg]
theorem Jkr(a b:Int):g a b=g b a:=by unfold g;rw[Int.gcd_comm]
end Mth
namespace L2
open PySem PySem.Spec PyProof.Rows
section
variable{σ:St}{H:Hp}{Q:VK}{u:TS}{ta tb te:TE}{tA:TA}{E:XK}{sp:Sp}{D:Ends}{t:TS}{g:TG}{r:R2}{K:W.Frag}
theorem y88y:tSeq t u D σ H=t { D with nx:=u D } σ H:=rfl
theorem y76y:tNext D σ H=D.nx σ H:=rfl
theorem y2by:tAsg te g D σ H=te σ H λx H1=>g x σ H1 D.nx:=rfl
variable{v:V}
theorem y71y{i:Nat}{R:St->Hp->Prop}:gName i v σ H R=R (σ.set i (some v)) H:=rfl
theorem y85y:tRet te D σ H=te σ H D.rt:=rfl
theorem y49y:tDrop te D σ H=te σ H λ_ H1=>D.nx σ H1:=rfl
theorem y2fy:tC v σ H Q=Q v H:=rfl
theorem y7dy:tOp r ta tb σ H Q=ta σ H λx H1=>tb σ H1 λy H2=>r x y H2 Q:=rfl
theorem y99y{f:V->Hp->VK->Prop}:tUn f ta σ H Q=ta σ H λx H1=>f x H1 Q:=rfl
theorem y31y{f:List V->Hp->VK->Prop}:tCB f tA σ H Q=tA σ H λvs H1=>f vs H1 Q:=rfl
variable{R:List V->Hp->Prop}
theorem y3ey:tCons ta tA σ H R=ta σ H λx H1=>tA σ H1 λxs H2=>R (x::xs) H2:=rfl
theorem y77y:tNil σ H R=R [] H:=rfl
variable{dvs:List V}
theorem y30y:tCall sp dvs E tA σ H Q=tA σ H λvs H1=>sp (vs++dvs) H1 Q E:=rfl
variable{R:Bool->Hp->Prop}
theorem y8fy:tTest te σ H R=te σ H λx H'=>∃ k,x=.bl k/\R k H':=rfl
theorem y23y:tB te σ H R=te σ H λx H'=>∃ k,x=.bl k/\R k H':=rfl
variable{a:TT}
theorem y7ey{b:TT}:tOr a b σ H R=a σ H λc H1=>if c=true then R true H1 else b σ H1 R:=rfl
theorem y79y:tNot a σ H R=a σ H λc H1=>R (!c) H1:=rfl
theorem y2ay:tAndV ta tb σ H Q=ta σ H λx H1=>∃ c,x=.bl c/\if c=true then tb σ H1 Q else Q (.bl false) H1:=rfl
theorem y7fy:tOrV ta tb σ H Q=ta σ H λx H1=>∃ c,x=.bl c/\if c=true then Q (.bl true) H1 else tb σ H1 Q:=rfl
theorem y7by:tNotV ta σ H Q=ta σ H λx H1=>∃ c,x=.bl c/\Q (.bl (!c)) H1:=rfl
theorem y5ey{c:TT}:tIfS c t u D σ H=c σ H λb H1=>if b=true then t D σ H1 else u D σ H1:=rfl
theorem y9by{i:Nat}:tVar i σ H Q=∃ v,σ[i]?=some (some v)/\Q v H:=rfl
theorem y26y{i j:Int}:rAddU K (.int i) (.int j) H Q=Q (.int (i+j)) H:=rfl
theorem y27y{i j:Str}:rAddU K (.str i) (.str j) H Q=(i.length+j.length<=sizeLine/\Q (.str (i++j)) H):=rfl
variable{j:Int}
theorem y8dy{f:Int->Int->V}{i:Int}:rI0 f (.int i) (.int j) H Q=Q (f i j) H:=by
 unfold rI0;simp
theorem y75y{f:Int->V}{i:Int}:rU f (.int i) H Q=Q (f i) H:=by
 unfold rU;simp
theorem y4ey{i:Int}:Ji0 (.int i) (.int j) H Q=(DivOk j/\Q (.int (i.fdiv j)) H):=rfl
theorem y6dy{i:Int}:rModU (.int i) (.int j) H Q=(j≠0/\Q (.int (i.fmod j)) H):=rfl
theorem y82y{i:Int}:rPowU (.int i) (.int j) H Q=(CPow i j/\Q (.int (i ^ j.toNat)) H):=rfl
theorem y34y{p:Int->Int->Bool}{i:Int}:rCmpU p (.int i) (.int j) H Q=Q (.bl (p i j)) H:=rfl
theorem y4cy{i:Int}:rEqU K (.int i) (.int j) H Q=Q (.bl (decide (i=j))) H:=rfl
theorem y73y{i:Int}:rNeU K (.int i) (.int j) H Q=Q (.bl (!decide (i=j))) H:=rfl
variable{j:Str}
theorem y4dy{i:Str}:rEqU K (.str i) (.str j) H Q=Q (.bl (decide (i=j))) H:=rfl
theorem y74y{i:Str}:rNeU K (.str i) (.str j) H Q=Q (.bl (!decide (i=j))) H:=rfl
theorem y72y{i j:Bool}:rNeU K (.bl i) (.bl j) H Q=Q (.bl (!decide (i=j))) H:=rfl
theorem y94y:tTup tA σ H Q=tA σ H λxs H1=>xs.length<=sizeLine/\∀ p,H1 p=none->Q (.ref p) (upd H1 p (.tup xs)):=rfl
theorem y68y:tLst tA σ H Q=tA σ H λxs H1=>xs.length<=sizeLine/\∀ p,H1 p=none->Q (.ref p) (upd H1 p (.lst xs)):=rfl
variable{x:V}{T:String}
theorem y64y:rIsi K [x, .ty T] H Q=(T∈["int","str","bool","list","tuple"]/\∃ t,tyN K H x t/\Q (.bl (isiB t T)) H):=rfl
theorem y25y{i:Int}:rAbs [.int i] H Q=Q (.int (if i<0 then -i else i)) H:=rfl
variable{j:Int}
theorem y6cy{i:Int}:rMin [.int i, .int j] H Q=Q (.int (if j<i then j else i)) H:=rfl
theorem y96y{i:Int}{s:String}:tyN K H (.int i) s=(s="int"):=rfl
theorem y98y{i:Str}{s:String}:tyN K H (.str i) s=(s="str"):=rfl
end
theorem Jg9:bootBuiltins "abs"=some (.builtin "abs"):=by decide +kernel
theorem Jb6:bootBuiltins "len"=some (.builtin "len"):=by decide +kernel
theorem Jl3:bootBuiltins "min"=some (.builtin "min"):=by decide +kernel
theorem Jl5:bootBuiltins "sum"=some (.builtin "sum"):=by decide +kernel
theorem Jav:bootBuiltins "isinstance"=some (.builtin "isinstance"):=by decide +kernel
theorem Jl2:bootBuiltins "all"=some (.builtin "all"):=by decide +kernel
theorem Jki:bootBuiltins "int"=some (.type "int"):=by decide +kernel
theorem Jl4:bootBuiltins "str"=some (.type "str"):=by decide +kernel
theorem JkT:bootBuiltins "bool"=some (.type "bool"):=by decide +kernel
theorem Jh8:bootBuiltins "list"=some (.type "list"):=by decide +kernel
theorem Je7:bootBuiltins "tuple"=some (.type "tuple"):=by decide +kernel
theorem JkU:bootBuiltins "dict"=some (.type "dict"):=by decide +kernel
theorem Jjy:bootBuiltins "range"=some (.type "range"):=by decide +kernel
theorem Jl6:bootBuiltins "zip"=some (.type "zip"):=by decide +kernel
theorem Je6:bootBuiltins "ValueError"=some (.type "ValueError"):=by decide +kernel
theorem yby:isiB "int" "int"=true:=by decide
theorem yay:isiB "int" "bool"=false:=by decide
theorem y17y:isiB "str" "str"=true:=by decide
theorem y1dy:isiB "tuple" "tuple"=true:=by decide
theorem y1fy:("int"∈["int","str","bool","list","tuple"])=True:=by simp
theorem y21y:("str"∈["int","str","bool","list","tuple"])=True:=by simp
theorem y1ey:("bool"∈["int","str","bool","list","tuple"])=True:=by simp
theorem y22y:("tuple"∈["int","str","bool","list","tuple"])=True:=by simp
variable{P:Program}{scope:Scope}{A:Around}{H:Hp}
theorem y24y{CX:CXT}{w:World}{K:W.Frag}{mg:Str->Option Value}{base:Heap}{N:List Str}{qual:Str}{f:Addr}{cd:Value}{outer:List Env}{s:Shared}{E:XK}:(cxOf CX P w K mg base N qual scope f cd A outer s H E).K=K:=rfl
def ForR(lo:Int)(n:Nat)(g:TG)(tb:TS)(D:Ends)(σ : St)(H:Hp):Prop:=∃ W:Nat->Nat->St->Hp->Prop,(∃ m,W 0 m σ H)/\∀ i m σ H,W i m σ H ->
 ((Itr lo n).stop i H/\D.nx σ H)\/((Itr lo n).go i H/\∃ N:St->Hp->Prop,(∀ σ' H',N σ' H'->∃ m',m'<m/\W (i+1) m' σ' H')/\∀ x H',(Itr lo n).yld i H x H'->g x σ H' λσ2 H2=>tb { D with nx:=N,ct:=N,bk:=D.nx } σ2 H2)
def ForA(K:W.Frag)(a:Addr)(g:TG)(tb:TS)(D:Ends)(σ : St)(H:Hp):Prop :=
 ((∃ xs,SqL K H a xs)/\∃ W:Nat->Nat->St->Hp->Prop,(∃ m,W 0 m σ H)/\∀ i m σ H,W i m σ H ->
  ((Itl K a).stop i H/\D.nx σ H)\/((Itl K a).go i H/\∃ N:St->Hp->Prop,(∀ σ' H',N σ' H'->∃ m',m'<m/\W (i+1) m' σ' H')/\∀ x H',(Itl K a).yld i H x H'->g x σ H' λσ2 H2=>tb { D with nx:=N,ct:=N,bk:=D.nx } σ2 H2)) \/
 ((∃ xs,SqT K H a xs)/\∃ W:Nat->Nat->St->Hp->Prop,(∃ m,W 0 m σ H)/\∀ i m σ H,W i m σ H ->
  ((Itt K a).stop i H/\D.nx σ H)\/((Itt K a).go i H/\∃ N:St->Hp->Prop,(∀ σ' H',N σ' H'->∃ m',m'<m/\W (i+1) m' σ' H')/\∀ x H',(Itt K a).yld i H x H'->g x σ H' λσ2 H2=>tb { D with nx:=N,ct:=N,bk:=D.nx } σ2 H2))
variable{tb:TS}{σ:St}
theorem y52y{ta:TA}{g:TG}{D:Ends}:tFor (iRng1 ta) g tb D σ H=ta σ H λvs H1=>∃ j:Int,vs=[.int j]/\-(2 ^ 62)<=j/\j<2 ^ 62/\ForR 0 j.toNat g tb D σ H1:=rfl
theorem y54y{K:W.Frag}{tl:TE}{g:TG}{D:Ends}:tFor (iAny K tl) g tb D σ H=tl σ H λx H1=>∃ a,x=.ref a/\ForA K a g tb D σ H1:=rfl
variable{n:Nat}
theorem ForR.by{lo:Int}{g:TG}{D:Ends}(Pv:Nat->St->Hp->Prop)(h0:Pv 0 σ H)
  (hs:∀ i σ H,i<n->Pv i σ H->g (.int (lo+i)) σ H λσ2 H2=>tb { D with nx:=Pv (i+1),ct:=Pv (i+1),bk:=D.nx } σ2 H2) (hd:∀ σ H,Pv n σ H->D.nx σ H):ForR lo n g tb D σ H:=Jis Pv h0 hs hd
variable{o:HO}
theorem Jeh{R:V->Hp->Prop}(h:∀ p H1,Same H H1->H1 p=some o->R (.ref p) H1):∀ p,H p=none->R (.ref p) (upd H p o):=λp a=>
 h p _ (λb u q=>by rw[Jag (Jai q a)];show q) Jaj
variable{H':Hp}{p:Addr}
theorem newS(h:H p=none)(e:upd H p o=H'):Same H H':=λb u q=>by rw[<- e,Jag (Jai q h)];show q
theorem newE(e:upd H p o=H'):H' p=some o:=by rw[<- e,Jaj]
theorem Je5{i:Int}(h:Mth.Sz n i):Builtin.Int.intBits i<=n:=by
 unfold Builtin.Int.intBits;split
 .show Nat.zero_le _
 .rename_i z;have : i.natAbs.log2<n:=(Nat.log2_lt (by simpa using z)).mpr h;ac_nf
variable{j:Int}
theorem mulOk{m:Nat}{i:Int}(h:Mth.Sz m i)(k:Mth.Sz n j)(hm:autoParam (m<=2 ^ 20) Av)(hn:autoParam (n<=2 ^ 20) Av):IntMulOk i j:=IntMulOk.of_bits (Nat.le_trans (Je5 h) hm) (Nat.le_trans (Je5 k) hn)
theorem Jku{i:Int}(h:Mth.Sz 64 j):IntMulOk i j:=IntMulOk.of_right (Je5 h)
theorem divOk(h:j≠0)(k:Mth.Sz n j)(hn:autoParam (n<9000) Av):DivOk j:=⟨h,Mth.Jlf k hn⟩
theorem len0:([]:List V).length<=sizeLine:=by decide
variable{a b:V}
theorem len2:[a,b].length<=sizeLine:=by show 2<=sizeLine;decide
theorem len5{c d e:V}:[a,b,c,d,e].length<=sizeLine:=by show 5<=sizeLine;decide
theorem Jbh(h:decide (j≠0/\j.natAbs<2 ^ 64)=true):DivOk j:=by
 have z:=of_decide_eq_true h;show divOk z.1 (n:=64) z.2
theorem Jbi{i:Int}(h:decide (j.natAbs<2 ^ 64)=true):IntMulOk i j:=by
 have z:j.natAbs<2 ^ 64:=of_decide_eq_true h;show Jku z
theorem JaW{i:Int}(h:decide (i.natAbs<2 ^ 64)=true):IntMulOk i j:=by
 have z:i.natAbs<2 ^ 64:=of_decide_eq_true h;show IntMulOk.of_left (Je5 (n:=64) z)
theorem Jbj{i:Int}(h:decide (0<=j/\j<=1000000/\i.natAbs<2 ^ 64)=true):CPow i j:=by
 have z:0<=j/\j<=1000000/\i.natAbs<2 ^ 64:=of_decide_eq_true h;show z
def FrV(K:W.Frag)(H:Hp)(v:V)(a b:Int):Prop:=∃ p,v=.ref p/\SqT K H p [.int a, .int b]
variable{v:V}{a b:Int}
theorem FrV.same{K:W.Frag}(S:Same H H')(h:FrV K H v a b):FrV K H' v a b:=by
 let(p,e,q):=h;show(p,e,q.same S)
theorem FrV.of{K:W.Frag}(h:H p=some (.tup [.int a, .int b])):FrV K H (.ref p) a b:=⟨p,rfl,SqT.of h⟩
variable{x:V}{Q:VK}
theorem ixT0{K:W.Frag}{r:List V}(h:SqT K H p (x::r))(q:Q x H):rIxU K (.ref p) (.int 0) H Q:=⟨_,x, .inr h,Jcf (j:=0) rfl,q⟩
variable{y:V}
theorem ixT1{K:W.Frag}{r:List V}(h:SqT K H p (x::y::r))(q:Q y H):rIxU K (.ref p) (.int 1) H Q:=⟨_,y, .inr h,Jcf (j:=1) rfl,q⟩
theorem ixF0{K:W.Frag}(h:FrV K H v a b)(q:Q (.int a) H):rIxU K v (.int 0) H Q:=by
 let(p,rfl,z):=h;show ixT0 z q
theorem ixF1{K:W.Frag}(h:FrV K H v a b)(q:Q (.int b) H):rIxU K v (.int 1) H Q:=by
 let(p,rfl,z):=h;show ixT1 z q
theorem FrV.rep{K:W.Frag}(h:FrV K H v a b):Rep K H (.tup [.int a, .int b]) v:=by
 let(p,rfl,z):=h;simp only[Rep,RepL];show(p,_,rfl,z,_,_,rfl,rfl,_,_,rfl,rfl,rfl)
variable{c d:Int}
theorem eqF{K:W.Frag}(h:FrV K H x a b)(g:FrV K H y c d)(q:Q (.bl (decide (a=c)&&decide (b=d))) H):rEqU K x y H Q:=by
 have e:eqD (.tup [.int a, .int b]) (.tup [.int c, .int d])=(decide (a=c)&&decide (b=d)):=by
  simp only[eqD,eqL,Bool.and_true]
  congr 1 <;> simp[BEq.beq]
 have f:=h.rep;have i:=g.rep;let(p,rfl,_):=h;let(j,rfl,_):=g;show(_,_,f,i,by simp[depD,depL],rfl,by rw[e];show q)
theorem neF{K:W.Frag}(h:FrV K H x a b)(g:FrV K H y c d)(q:Q (.bl (!(decide (a=c)&&decide (b=d)))) H):rNeU K x y H Q:=by
 have e:eqD (.tup [.int a, .int b]) (.tup [.int c, .int d])=(decide (a=c)&&decide (b=d)):=by
  simp only[eqD,eqL,Bool.and_true]
  congr 1 <;> simp[BEq.beq]
 have f:=h.rep;have i:=g.rep;let(p,rfl,_):=h;let(j,rfl,_):=g;show(_,_,f,i,by simp[depD,depL],rfl,by rw[e];show q)
variable{xs:List V}
theorem ixT{K:W.Frag}{i:Nat}(h:SqT K H p xs)(e:xs[i]?=some v)(q:Q v H):rIxU K (.ref p) (.int (i:Int)) H Q:=⟨xs,v, .inr h,Jcf e,q⟩
theorem ixL{K:W.Frag}{i:Nat}(h:SqL K H p xs)(e:xs[i]?=some v)(q:Q v H):rIxU K (.ref p) (.int (i:Int)) H Q:=⟨xs,v, .inl h,Jcf e,q⟩
section
open PySem.W PySem.Builtin PySem.Builtin.ObjectAttr PySem.Builtin.Getset_descriptor
variable{prog:Program}{E:Value->Shared->Prop}{K:Frag}{x:Addr}{ox:Obj}{w:World}{s:Shared}{D:Addr}{M:Model}{h:Heap}
theorem Jg8(hx:h.get? x=some ox)(hc:ox.cls=.ref D):Looks M h (typeOf (.ref x)) (.ref D):=hc ▸ (Looks.ld hx).andThen .now
structure ExcC(K:W.Frag)(D:Addr):Prop where
 cl:W.hasDictIn K D=true
 ga:W.findIn K (.ref D) "__getattribute__"=some (some (.builtin "BaseException.__getattribute__"))
 gh:W.findIn K (.ref D) "__getattr__"=some none
 ca:W.findIn K (.ref D) "__class__"=some (some (.builtin "object.__class__"))
 cg:W.specialIn K (.builtin "object.__class__") "__get__"=some (some (.builtin "getset_descriptor.__get__"))
 ct:W.takesIn K (.builtin "object.__class__")=some true
 mo:W.mroIn K D (.type "object")=some true
 mb:W.mroIn K D (.type "BaseException")=some true
theorem JlW(X:K.In h)(c:ExcC K D):Looks M h (find (.ref x) (.ref D) "__class__") (.bind (.builtin "getset_descriptor.__get__") (.builtin "object.__class__")):=by
 have L1:=looks_findIn (M:=M) X c.ca;have L2:Looks M h (getOf (some (.builtin "object.__class__"))) (some (.builtin "getset_descriptor.__get__")):=looks_specialIn X c.cg;have L3:=looks_takesIn (M:=M) X c.ct;show L1.andThen (L2.andThen ((show Looks M h (dataDescriptor? (some (.builtin "object.__class__")) (some (.builtin "getset_descriptor.__get__"))) (some (.builtin "getset_descriptor.__get__", .builtin "object.__class__"))from L3.andThen .now).andThen (Looks.tag .now)))
theorem JmX{tp:Value}{R:Result->Shared->Prop}(X:K.In s.heap)(hx:s.heap.get? x=some ox)(hc:ox.cls=.ref D)(c:ExcC K D)(q:R (.ok (.ret (.ref D))) s) :
  codeAny (model prog w) A (.call (.builtin "getset_descriptor.__get__") ⟨[.builtin "object.__class__", .ref x,tp],[]⟩) R s:=by
 let(b,e,h,f,g):=s;have a:=Jg8 (M:=model prog w) hx hc;have d:=looks_mroIn (M:=model prog w) X c.mo;show codeAny_call_builtin (KF.slot_gs.plain) (KF.entry_gs) (KF.slot_gs.check _ _ _ _ _ _ _ _ (KF.type_class) (KF.args_gs _ _ _) ?_)
 (unfold Builtin.«getset_descriptor.__get__»;unfold descrGet)
 (rw[dga_obj];show wpAny_bind (wpAny_pure ?_))
 (unfold descrGetter;unfold descrCheckInstance;unfold descrNameAndClass;unfold isInstance)
 (simp only[KF.owner_class];repeat lk)
 show And.intro (Code.quiet_builtin _ (by decide +kernel)) (codeAny_builtin (KF.entry_class) ?_)
 (unfold Builtin.«object.__class__»;unfold shownTypeOf;repeat lk)
 show q
theorem JlV{Q:Option Value->Shared->Prop}(X:K.In s.heap)(hx:s.heap.get? x=some ox)(hc:ox.cls=.ref D)(c:ExcC K D)(q:Q (some (.ref D)) { s with toks:=s.toks+1 }) :
  wpAny (model prog w) A (getAttr? (.ref x) "__class__") Q E s:=by
 let(m,n,p,f,o):=s;have b:=Jg8 (M:=model prog w) hx hc;have d:=looks_findIn (M:=model prog w) X c.ga;have a:=looks_findIn (M:=model prog w) X c.gh;have l:=JlW (M:=model prog w) (x:=x) X c;have k:=looks_mroIn (M:=model prog w) X c.mb;have g:bindSpecial (.builtin "BaseException.__getattribute__") (.ref x)=pure (.builtin "BaseException.__getattribute__",[.ref x]):=by kernel_rfl
 unfold getAttr? getAttrBy? getAttrBy;show wpAny_bind (wpAny_mkText (wpAny_bind (wpAny_attempt (wpAny_holding (wpAny_bind (b.at (wpAny_bind (d.at ?_))))))));have h:(onTheHeap (Value.ref D)&&Value.builtin "BaseException.__getattribute__" == Value.builtin "object.__getattribute__")=false:=Bool.and_eq_false_iff.mpr (.inr (by decide +kernel));show wpAny _ _ (if(onTheHeap (Value.ref D)&&Value.builtin "BaseException.__getattribute__" == Value.builtin "object.__getattribute__")=true then _ else getAttrByItsOwn _ _ _ _ _ _) _ _ _;rw[if_neg (by rw[h];decide)];unfold getAttrByItsOwn hookBefore;show wpAny_bind ?_;rw[if_pos (show onTheHeap (Value.ref D)=true from rfl)];show a.at ?_;show wpAny_bind (wpAny_attempt (wpAny_holding ?_));unfold callGetattribute boundAndCalled;rw[if_neg ⋯,g];show wpAny_bind (wpAny_pure ?_);show wpAny_call (codeAny_call_builtin (by decide +kernel) F.entry_bexc_ga ?_);have i:builtinKind "BaseException.__getattribute__"=some .slot:=by decide +kernel
 have e:splitId "BaseException.__getattribute__"=some ("BaseException","__getattribute__"):=by decide +kernel
 have j:=F.args_bexc_ga (.ref x) (.str "__class__" f)
 (simp only[checkBuiltinCall,i,e];show wpAny_bind ?_)
 unfold isInstance;repeat (first | lk | wp_step)
 show wpAny_run (JmX X hx hc c ?_);repeat (first | lk | wp_step)
 show q
theorem JjF(c:ExcC K D):KitX K (.ref x) (.ref D) (λh=>∃ ox,h.get? x=some ox/\ox.cls=.ref D) where
 ty:=λ_ _ _ ζ=>by let(ox,d,e):=ζ;show Jg8 d e
 it:=λ_ _ X _=>Jf3 X c.cl
 ne:=λh g j f n i X b=>by
  show Bool.eq_false_iff.mpr λq=>?_;obtain rfl:D=g:=Value.ref.inj (beq_iff_eq.mp q);let(k,a,_):=any_some c.cl
  (unfold clsIn at a;split at a)
  next ho=>have z:=X _ _ ho;rw[b]at z;cases z
  next=>cases a
 ca:=λX ⟨ox,d,e⟩ q=>JlV X d e c q
end
variable{X:Cx}
def clsV:V->Value
 | .ty T=>.type T
 | .ref C=>.ref C
 | _=>.none
inductive TyU(K:W.Frag)(H:Hp):V->Value->Prop where
 | of {x:V} {t:Value} (h:TyOf K H x t):TyU K H x t
 | sql {a:Addr} {xs:List V} (h:SqL K H a xs):TyU K H (.ref a) (.type "list")
 | sqt {a:Addr} {xs:List V} (h:SqT K H a xs):TyU K H (.ref a) (.type "tuple")
 | exc {a C:Addr} {od:Option Addr} (e:H a=some (ExcO a C od)) (c:ExcC K C):TyU K H (.ref a) (.ref C)
def rIsiC(K:W.Frag):List V->Hp->VK->Prop:=λxs H Q=>∃ x c t b,xs=[x,c]/\((∃ T,c=.ty T)\/∃ C,c=.ref C)/\TyU K H x t/\W.kitOne K t (clsV c)=some b/\Q (.bl b) H
theorem JdP:CallR X (.builtin "isinstance") (rIsiC X.K):=λg s σ H n F Q I r q=>by
 let(x,c,t,b,rfl,w,A,e,q):=q;let(u,B,rfl,j,m):=vals2 r;have v:B=clsV c:=by
  rcases w with⟨T,rfl⟩ | ⟨C,rfl⟩
  .show m
  .show m
 subst v;have d:∀ l,EP X g σ Q (.bool b) { s with toks:=l }:=λl=>⟨V.bl _,H,I.tok l,rfl,q⟩;cases A with
 | of h=>show Jiw I j h e d
 | @sql a n h=>
  cases(show u=Value.ref a from j);let(k,_,p,_):=I.list h;let(o,_,i,f,_):=p;show W.kia_one W.kitx_list I.kIn ⟨o,i,f⟩ e (λz=>nomatch z) d
 | @sqt a n h=>
  cases(show u=Value.ref a from j);let(k,_,p,_):=I.tuple h;let(o,i,f,_):=p;show W.kia_one W.kitx_tuple I.kIn ⟨o,i,f⟩ e (λz=>nomatch z) d
 | @exc a C od ea cc=>
  cases(show u=Value.ref a from j);have D:=I.hok a _ ea;let((y,E,i,f,_),_):=D;show W.kia_one (JjF cc) I.kIn ⟨y,i,f⟩ e (λz=>nomatch z) d
section
variable{En:Ends}{u:TS}{ta tb te tc:TE}{gs:TGs}{tA:TA}{E:XK}{sp:Sp}{t:TS}{td:TE}{g:TG}{K:W.Frag}
theorem y8by{r:V->Option Int->Option Int->Hp->VK->Prop}{tl th:TO}:tSl r te tl th σ H Q=te σ H λx H1=>tl σ H1 λl H2=>th σ H2 λu H3=>r x l u H3 Q:=rfl
variable{R:Option Int->Hp->Prop}
theorem y81y:tPart te σ H R=te σ H λx H1=>∃ i,x=.int i/\R (some i) H1:=rfl
theorem y78y:Jjg σ H R=R none H:=rfl
theorem y92y{D0:Addr}{i:Nat}{tx:St->Hp->VK->XK->Prop}{ts:TS}:JkH K D0 i tx ts En σ H=tx σ H (λ_ H1=>En.nx σ H1) λcls od H1=>∃ C,cls=.ref C/\Jce K C D0 /\
 ∀ ea,H1 ea=none->ts { nx:=λσ' H'=>En.nx (σ'.set i none) H',rt:=En.rt,bk:=λσ' H'=>En.bk (σ'.set i none) H',ct:=λσ' H'=>En.ct (σ'.set i none) H' } (σ.set i (some (.ref ea))) (upd H1 ea (ExcO ea C od)):=rfl
variable{dvs:List V}
theorem y9cy{Qx:VK}{Ex:XK}:xCall sp dvs tA σ H Qx Ex=tA σ H λvs H1=>sp (vs++dvs) H1 Qx Ex:=rfl
variable{C:Addr}
theorem y83y:JkF E C tA En σ H=tA σ H λvs H1=>vs.length<=sizeLine/\E (.ref C) none H1:=rfl
variable{a:Addr}{od:Option Addr}{b:Bool}
theorem isiX{c:V}(e:H a=some (ExcO a C od))(x:ExcC K C)(hc:(∃ T,c=.ty T)\/∃ C,c=.ref C)(k:W.kitOne K (.ref C) (clsV c)=some b)(q:Q (.bl b) H):rIsiC K [.ref a,c] H Q :=
 ⟨_,_,_,b,rfl,hc, .exc e x,k,q⟩
theorem isiXr{c:Addr}(e:H a=some (ExcO a C od))(x:ExcC K C)(k:W.kitOne K (.ref C) (.ref c)=some b)(q:Q (.bl b) H):rIsiC K [.ref a, .ref c] H Q:=isiX e x (.inr ⟨_,rfl⟩) k q
variable{T:String}
theorem isiXt(e:H a=some (ExcO a C od))(x:ExcC K C)(k:W.kitOne K (.ref C) (.type T)=some b)(q:Q (.bl b) H):rIsiC K [.ref a, .ty T] H Q:=isiX e x (.inl ⟨_,rfl⟩) k q
theorem JcO{K:W.Frag}(hK:X.K=K){x:Str}{p pos:Pos}{e:Expr}{es:List Expr}{t:TA}(hg:Gl X x)(hm:X.mg x=none)(hv:bootBuiltins x=some (.builtin "isinstance"))(ha:PA X (e::es) t)(hn:autoParam (x≠"__name__") Av)
  (hdb:autoParam ((x == ("__debug__" : Str))=false) Av) (he:autoParam (starEach (e::es) X.env=(false,eval e X.env)::starEach es X.env) Au) (hpl:autoParam ((backTo pos (starEach es X.env)).any (·.1)=false) Au) :
  PE X (.Call (.Name x p) (e::es) [] pos) (tCB (rIsiC K) t):=hK ▸ Jay JdP hg hm hv ha hn hdb he hpl
end
def Its(x:Str):It:=⟨λi _=>i<x.cps.size,λi H v H'=>H'=H/\∃ c,x.cps[i]?=some c/\v=.str ⟨#[c]⟩,λi _=>i=x.cps.size⟩
variable{tg:Expr}{x:Str}
theorem Jgm{w:World}{K:W.Frag}{it:Addr}{n:String}{St:Nat->Heap->Prop}(hn:["enumerate","zip","dict_itemiterator","dict_reverseitemiterator","odict_iterator","itertools.zip_longest","itertools.pairwise"].contains n=false)
  (hst:∀ i h,St i h->∃ o vs,h.get? it=some o/\o.cls=.type n/\o.data=.fields vs) (mk:∀ A:Around,A.handled=none->Walks P w A it [it] [it] x.cps.size (SignAt x) St)
  (hself:∀(A:Around)(i:Nat)(s:Shared)(Q:Value->Shared->Prop)(E:Value->Shared->Prop),St i s.heap->Q (.ref it) s->wpAny (model P w) A (pyIter (.ref it)) Q E s):Turn P w K tg (Its x) [it] it St where
 mem:=by simp
 obj:=λi h g b a=>by
  obtain rfl:b=it:=by simpa using a
  let(o,vs,e,_,d):=hst i h g;show(o,e,λv z=>by rw[d]at z;cases z)
 keep:=λi h l g k=>(mk {} rfl).frame i h l g λb a o e=>k b a o e
 item:=by
  intro X p t y r i f s σ H E I m g N;subst p t y;let(J,q,U,F,B,M):=m it (by simp);show(mk X.A (I.ok.hd r)).item i s _ _ N g λv l G S j L=>?_;let(c,u,D,rfl):=S;have I1:Inv X f σ H { s with heap:=l,toks:=G }:=I.turned (λb o a e=>L b o (by simpa using a) e) J q F B M;let(o,vs,T,R,O):=hst _ _ j;show(_,rfl,go_of (s:={ s with heap:=l,toks:=G }) T R O hn ⟨.str ⟨#[c]⟩,H,I1,⟨u,rfl⟩,⟨rfl,c,D,rfl⟩,j,λb a=>(m b a).1⟩)
 done:=by
  intro X p t y r i f s σ H E I m g N;subst p t y;let(J,q,U,F,B,M):=m it (by simp);have C:i=x.cps.size:=N;subst C;show(mk X.A (I.ok.hd r)).done s _ _ g λl G L=>⟨rfl,I.turned (λb o a e=>L b o (by simpa using a) e) J q F B M⟩
 self:=hself
def iStr(tl:TE):TI:=λσ H R=>tl σ H λx H1=>∃ z,x=.str z/\R (Its z) H1
theorem JmD{l:Expr}{tl:TE}(hl:PE X l tl):PI X tg l (iStr tl):=λf s σ H R I h=>by
 show thn (hl f s σ H _ I h) λv d ζ=>?_;let(x,u,I1,m,z,p,q):=ζ;subst p;let(t,rfl):=m;have key:∀(n:String),(n="str_ascii_iterator"\/n="str_iterator")->PIE X f σ tg R (.ref d.heap.objs.size) { d with heap:=d.heap.push { cls:=.type n,data:=.fields #[.str z t, .int 0 0] } }:=λn y=>by
  have k:Turn X.prog X.w X.K tg (Its z) [d.heap.objs.size] d.heap.objs.size (λi h=>h.IsStrIter d.heap.objs.size n z t i):=by
   rcases y with rfl | rfl
   .show Jgm (n:="str_ascii_iterator") ⋯ (λi h g=>let⟨o,a,b,c⟩:=g;⟨o,_,a,b,c⟩) (λA j=>Walks.strAscii j _ z t) λA i s Q E g q=>wpAny_pyIter_striter_ascii g q
   .show Jgm (n:="str_iterator") ⋯ (λi h g=>let⟨o,a,b,c⟩:=g;⟨o,_,a,b,c⟩) (λA j=>Walks.strWide j _ z t) λA i s Q E g q=>wpAny_pyIter_striter_wide g q
  show(d.heap.objs.size,[d.heap.objs.size],_,_,u,rfl,I1.kept (t':=d.toks) λb o e=>Heap.get?_push_of_some _ e,k,⟨_,Heap.get?_push_size _ rfl,rfl,rfl⟩,λb r=>?_,q);obtain rfl:b=d.heap.objs.size:=by simpa using r
  show I1.fpOk (Nat.le_refl _) (I1.hok.fresh (Nat.le_refl _))
 cases ha:z.cps.all (· < 128)
 .show wpAny_pyIter_wide ha (key _ (.inr rfl))
 .show wpAny_pyIter_ascii ha (key _ (.inl rfl))
abbrev Cx.inc(X:Cx)(N':List Str)(scope:Scope)(cl:List (Str × Addr))(fp:List Addr)(s2:Shared)(H2:Hp)(C:Addr):Cx :=
 { X with N:=N',s₀:=s2,H₀:=H2,env:=compEnvC scope cl C X.env,outer:=X.stack,ex:=fp,fn:=λ_=>false,pn:=[],xe:=λ_ _=>False }
variable{pins:List (Addr × Obj)}{H2:Hp}{s2:Shared}{N':List Str}{cl:List (Str × Addr)}{fp:List Addr}{C:Addr}
theorem Inv.incOk(I:Inv X pins σ H2 s2)(hf:∀ b∈fp,FpOk X pins H2 b)(hfp:∀ b∈fp,b<s2.heap.objs.size)(hk:scope.kind=.function)(hC:s2.heap.objs.size<=C)(hcl:∀ x c,cl.lookup x=some c->X.env.cells.lookup x=some c)
  (hhas:∀ y,((relabel scope X.env).names.lookup y=some .cell\/(relabel scope X.env).names.lookup y=some .free)->∃ c,cl.lookup y=some c):(X.inc N' scope cl fp s2 H2 C).Ok where
 mod:=I.ok.mod
 kind:=hk
 glob:=I.ok.glob
 blt:=I.ok.blt
 above:=hC
 inj:=λx y c f d=>I.ok.inj x y c (hcl x c f) (hcl y c d)
 has:=λy i=>hhas y i
 cab:=λx c h=>by cases h
 hd:=I.ok.hd
 frames:=I.ok.frames
 stk:=.inl rfl
 exf:=λb a=>⟨Nat.ne_of_lt (Nat.lt_of_lt_of_le (hfp b a) hC),λx c e=>(hf b a).2.2.2.2.1 x c (hcl x c e)⟩
 bs:=I.bs
 bsz:=Nat.le_trans I.ok.bsz I.sz
 noex:=λb o e a=>by
  rcases(hf b a).2.2.2.1 with z | z
  .show I.ok.noex b o e z
  .show absurd (Nat.lt_of_lt_of_le (Nat.lt_of_lt_of_le (Heap.lt_size e) I.ok.bsz) z) (Nat.lt_irrefl _)
 exfs:=λb a g=>by
  rcases mem_cons.mp (I.stkSub b g)with z | z
  .show(hf b a).2.1 z
  .show(hf b a).2.2.1 z
 funs:=I.stack
 frf:=I.stkFree
def Jaz(cs:List (Nat × Str))(σ : St):St:=cs.map λp=>(σ[p.1]?).join
variable{s4:Shared}{own:List Str}{cs:List (Nat × Str)}
theorem Inv.capsLoc{m:Str->Option Value}(I:Inv X pins σ H2 s2)(ok:(X.inc (own++cs.map (·.2)) scope cl fp s2 H2 C).Ok)(kept:∀ c v,(∃ x,cl.lookup x=some c)->s2.heap.IsCell c v->s4.heap.IsCell c v)
  (hcl:∀ x c,cl.lookup x=some c->X.env.cells.lookup x=some c) (hcs:∀ p∈cs,X.N[p.1]?=some p.2/\X.env.scope.names.lookup p.2=some .cell/\(relabel scope X.env).names.lookup p.2=some .cell) :
  ∀(i:Nat)(x:Str)(v:V),(own++cs.map (·.2))[i]?=some x->(List.replicate own.length none++Jaz cs σ)[i]?=some (some v)->∃ u,RelV v u/\Look (compEnvC scope cl C X.env) s4.heap m x u:=λi x v w d=>by
  by_cases j:i<own.length
  .rw[List.getElem?_append_left (by simpa using j),List.getElem?_replicate,if_pos j]at d;cases d
  .have b:(Jaz cs σ)[i-own.length]?=some (some v):=by rw[List.getElem?_append_right (by simp;ac_nf)]at d;simpa using d
   have a:(cs.map (·.2))[i-own.length]?=some x:=by
    rwa [List.getElem?_append_right ∅]at w
   unfold Jaz at b;rw[List.getElem?_map]at a b;cases q:cs[i-own.length]? with
   | none=>rw[q]at a;cases a
   | some p=>
    rw[q]at a b;obtain rfl:p.2=x:=by simpa using a
    have e:(σ[p.1]?).join=some v:=by simpa using b
    have f : σ[p.1]?=some (some v):=by
     cases z : σ[p.1]? with
     | none=>rw[z]at e;cases e
     | some o=>rw[z]at e;show congrArg some e
    let(r,h,l):=hcs p (List.mem_of_getElem? q);let(y,_,s):=I.loc;let(u,t,n):=s p.1 p.2 v r f (.inr (.inl h));show(u,t, .inr ⟨.inl l,?_⟩);let(c,g):=ok.has p.2 (.inl l);show(c,g,?_);rcases n with⟨k,_⟩ | ⟨_,c',e',hcell⟩
    .have k:X.env.scope.names.lookup p.2=some .local:=k;rw[h]at k;cases k
    .rw[hcl _ _ g]at e';cases e';show kept _ _ ⟨_,g⟩ hcell
theorem Inv.incStart{m:Str->Option Value}(I:Inv X pins σ H2 s2)(ok:(X.inc (own++cs.map (·.2)) scope cl fp s2 H2 C).Ok)(kept:∀ b o,s2.heap.get? b=some o->s4.heap.get? b=some o)(hos:s4.os=s2.os)(hg:s4.gens=s2.gens)(hm:s4.heap.Ns C m)
  (hC:s2.heap.objs.size<=C) (hcl:∀ x c,cl.lookup x=some c->X.env.cells.lookup x=some c)
  (hcs:∀ p∈cs,X.N[p.1]?=some p.2/\X.env.scope.names.lookup p.2=some .cell/\(relabel scope X.env).names.lookup p.2=some .cell) :
  Inv (X.inc (own++cs.map (·.2)) scope cl fp s2 H2 C) [] (List.replicate own.length none++Jaz cs σ) H2 s4 where
 ok:=ok
 os:=hos
 bare:=by rw[hg];show I.bare
 base:=Un.kept kept
 loc:=⟨m,hm,λi x v h f _=>I.capsLoc (m:=m) ok (λc v _ ⟨o,a,d⟩=>⟨o,kept _ _ a,d⟩) hcl hcs i x v h f⟩
 cell:=λx c e=>by
  let(v,o,a,d):=I.cell x c (hcl x c e);show(v,o,kept _ _ a,d)
 free:=I.hok.fresh hC
 freeC:=λx c e=>I.freeC x c (hcl x c e)
 pin:=λp g=>by simp at g
 hok:=I.hok.kept kept
 len:=by simp[Jaz]
theorem Inv.incAgain{s':Shared}{σ':St}{pl:List (Addr × Obj)}(I:Inv X pins σ H2 s2)(J:Inv (X.inc (own++cs.map (·.2)) scope cl fp s2 H2 C) pl σ' H' s')
  (hf:∀ b∈fp,FpOk X pins H2 b) (hcl:∀ x c,cl.lookup x=some c->X.env.cells.lookup x=some c) (hcs:∀ p∈cs,X.N[p.1]?=some p.2/\X.env.scope.names.lookup p.2=some .cell/\(relabel scope X.env).names.lookup p.2=some .cell) :
  Inv (X.inc (own++cs.map (·.2)) scope cl fp s2 H2 C) [] (List.replicate own.length none++Jaz cs σ) H' s' where
 ok:=J.ok
 os:=J.os
 bare:=J.bare
 base:=J.base
 loc:=by
  let(m,a,_):=J.loc;show(m,a,λi x v k h _=>I.capsLoc (m:=m) J.ok (λc v ⟨x,d⟩ ⟨o,f,g⟩=>?_) hcl hcs i x v k h);have e:c∉fp:=λz=>(hf c z).2.2.2.2.1 x c (hcl x c d) rfl;by_cases a:c∈frs X.stack
  .let(l,z):=J.base.slot c o f (I.freeC x c (hcl x c d)) a e;show(_,z,g)
  .show(o,J.base.keep c o f (I.freeC x c (hcl x c d)) a e,g)
 cell:=J.cell
 free:=J.free
 freeC:=J.freeC
 pin:=λp j=>by simp at j
 hok:=J.hok
 len:=by simp[Jaz]
section
variable{prog:Program}{E:Value->Shared->Prop}{R:Result->Shared->Prop}{w:World}{s:Shared}{elt target iter:Expr}{pos:Pos}{acc:Value}{env:Env}
theorem JeU{it:Value}(J:Nat->Shared->Prop)
  (turn:∀ n s,J n s->wpAny (model prog w) A (pyNext it) (λr s1=>match r with
   | none=>R (.ok .next) s1
   | some v=>wpAny (model prog w) A (letOwnedTupleGo target it v) (λ_ s2=>wpAny (model prog w) A (assign target env v) (λ_ s3=>wpAny (model prog w) A (eval elt env) (λx s4=>
     wpAny (model prog w) A (call (.builtin "list.append") [acc,x]) (λ_ s5=>∃ m,m<n/\J m s5) (λ_ _=>False) s4) (λ_ _=>False) s3) (λ_ _=>False) s2) (λ_ _=>False) s1) (λ_ _=>False) s) (n:Nat) (h:J n s) :
  codeAny (model prog w) A (.compLoop (.ListComp elt [⟨target,iter,[],0⟩] scope pos) 0 it acc env) R s:=by
 show codeAny_loop rfl J (λn s b=>?_) n h;show wpAny _ A ((compTurn (.ListComp elt [⟨target,iter,[],0⟩] scope pos) 0 it acc env).onRaise (λy=>do noteFrame y env;theTreesLotGoes y)) _ _ s
 (show wpAny_noted ?_;rw[compTurn_list])
 show wpAny_bind (wpAny_standAt (wpAny_bind (wpAny_mono (turn n s b) (λr s1 a=>?_) λ_ _ z=>z.elim)));cases r with
 | none=>show wpAny_pure a
 | some v=>
  show wpAny_bind (wpAny_mono a (λ_ s2 e=>wpAny_bind (wpAny_mono e (λ_ s3 d=>?_) λ_ _ z=>z.elim)) λ_ _ z=>z.elim);show wpAny_bind (wpAny_tests_nil ?_);show wpAny_bind (wpAny_bind (wpAny_mono d (λx s4 c=>(wpAny_bind (wpAny_mono c (λ_ s5 f=>(wpAny_pure (wpAny_pure ⟨rfl,f⟩))) λ_ _ z=>z.elim))) λ_ _ z=>z.elim))
end
def tComp(k:Nat)(cs:List (Nat × Str))(wi:TI)(g:TG)(te:TE):TE:=λσ H Q=>wi σ H λJ H1=>∃ W:Nat->Nat->List V->Hp->Prop,(∃ m,W 0 m [] H1)/\∀ i m ys H2,W i m ys H2->ys.length<=sizeLine /\
  ((J.stop i H2/\∀ p,H2 p=none->Q (.ref p) (upd H2 p (.lst ys))) \/
   (J.go i H2/\∀ x H3,J.yld i H2 x H3->g x (List.replicate k none++Jaz cs σ) H3 λσ4 H4=>te σ4 H4 λy H5=>∃ m',m'<m/\W (i+1) m' (ys++[y]) H5))
theorem lstP{us:List Value}{v:Value}:(us.toArray.push v)=(us++[v]).toArray:=by simp
variable{iter elt:Expr}{pos:Pos}{wi:TI}{te:TE}
theorem Jer{g:TG}(hc:X.calm=true)(hi:PI X tg iter wi)
  (hg:∀ fp s2 H2 C,PG (X.inc (own++cs.map (·.2)) scope cl fp s2 H2 C) tg g) (he:∀ fp s2 H2 C,PE (X.inc (own++cs.map (·.2)) scope cl fp s2 H2 C) elt te)
  (hclos:closureFor scope X.env=pure cl) (hcell:∀ y∈scope.names,y.2≠.cell) (hkind:scope.kind=.function) (hnames:∀ y∈scope.names,y.2=.local->scope.names.lookup y.1=some .local)
  (hcl:∀ x c,cl.lookup x=some c->X.env.cells.lookup x=some c) (hhas:∀ y,((relabel scope X.env).names.lookup y=some .cell\/(relabel scope X.env).names.lookup y=some .free)->∃ c,cl.lookup y=some c)
  (hcs:∀ p∈cs,X.N[p.1]?=some p.2/\X.env.scope.names.lookup p.2=some .cell/\(relabel scope X.env).names.lookup p.2=some .cell)
  (hs:autoParam (∀ x,foldedSetIterable iter X.env x=pure x) Aw):PE X (.ListComp elt [⟨tg,iter,[],0⟩] scope pos) (tComp own.length cs wi g te):=by
 intro B s σ H Q I h;rw[eval_ListComp];show wpAny_comprehension_free (use:=none) rfl hs hclos hkind hnames (thn (hi B s σ H _ I h) λv s1 h1=>thn h1 λb7 s2 h2=>?_);let(it,fp,tn,J,H2,rfl,I2,T,a0,f2,W,(m0,w0),a4):=h2;have F:∀ b∈fp,b<s2.heap.objs.size:=λb d=>by
  let(o,e,_):=T.obj _ _ a0 b d;show Heap.lt_size e
 show wpAny_newObj_type (wpAny_newFunctionEnv hcell (by intro y hy;simp at hy) (λh4 l j=>?_) hkind);dsimp only at l j ⊢;generalize hH3:s2.heap.push { cls:=.type "list",dict:=none,data:=.seq ([]:List Value).toArray }=H3 at l j ⊢;have a6:H3.objs.size=s2.heap.objs.size+1:=by rw[<- hH3,Heap.size_push]
 have hC:s2.heap.objs.size<=H3.objs.size:=by ac_nf
 have t:s2.heap.objs.size≠H3.objs.size:=by ac_nf
 have S:∀ b o,s2.heap.get? b=some o->h4.get? b=some o:=λb o e=>j.extBut b o (by have:=Heap.lt_size e;show Nat.ne_of_lt (Nat.lt_of_lt_of_le this hC)) (Heap.get?_push_of_some _ (hH3 ▸ Heap.get?_push_of_some _ e));have a5:h4.get? s2.heap.objs.size=some { cls:=.type "list",data:=.seq ([]:List Value).toArray }:=j.extBut _ _ t (Heap.get?_push_of_some _ (hH3 ▸ Heap.get?_push_size _ rfl));obtain⟨D,f⟩:∃ D,D=s2.heap.objs.size:=⟨_,rfl⟩;obtain⟨C,b0⟩:∃ C,C=H3.objs.size:=⟨_,rfl⟩;rw[<- b0]at a6 l j hC t ⊢;rw[<- f]at F a6 hC t a5 ⊢;have G:=I2.incOk (N':=own++cs.map (·.2)) (C:=C) f2 (λb d=>by rw[<- f];show F b d) hkind (by rw[<- f];show hC) hcl hhas;have I4:Inv (X.inc (own++cs.map (·.2)) scope cl fp s2 H2 C) [] (List.replicate own.length none++Jaz cs σ) H2 { s2 with heap:=h4,toks:=s2.toks+([]:List (Str × Value)).length } :=
  I2.incStart (s4:={ s2 with heap:=h4,toks:=s2.toks+([]:List (Str × Value)).length }) G S rfl rfl l (by rw[<- f];show hC) hcl hcs
 have Dfree:H2 D=none:=I2.hok.fresh (Nat.le_of_eq f.symm);have K:∀ b o,s2.heap.get? b=some o->b≠D:=λb o e=>by
  rw[f];show Nat.ne_of_lt (Heap.lt_size e)
 have b1:∀ b o,s2.heap.get? b=some o->b≠C:=λb o e=>Nat.ne_of_lt (Nat.lt_of_lt_of_le (by rw[f];show Heap.lt_size e) hC);have Dfs:D∉frs X.stack:=λhm=>by
  let(_,o,e,_):=I2.stack.mem hm;show K _ _ e rfl
 have M:∀{σ':St}{H':Hp}{s':Shared}{us:List Value}{n:Nat}{pl:List (Addr × Obj)},Inv (X.inc (own++cs.map (·.2)) scope cl fp s2 H2 C) pl σ' H' s'->s'.heap.get? D=some { cls:=.type "list",data:=.seq us.toArray n }->H' D=none ->
   Inv (X.inc (own++cs.map (·.2)) scope cl fp s2 H2 C) [(D,{ cls:=.type "list",data:=.seq us.toArray n })] σ' H' s':=λ{σ' H' s' us n pl} J' e n'=>J'.pins_of λp Y=>by
  rcases mem_singleton.mp Y with rfl
  show(e,n',t,Dfs,λv z=>by cases z)
 have E:∀{H':Hp}{o:Obj},(∀ b∈fp,H' b=none)->∀ b∈fp,FpOk (X.inc (own++cs.map (·.2)) scope cl fp s2 H2 C) [(D,o)] H' b:=λ{H' o} hn b d=>by
  show(hn b d,(G.exf b d).1,G.exfs b d, .inl d,(G.exf b d).2,λp Y=>?_);rcases mem_singleton.mp Y with rfl
  show Nat.ne_of_gt (F b d)
 have L:∀ s3:Shared,s3={ s2 with heap:=h4,toks:=s2.toks+([]:List (Str × Value)).length } ->
   codeAny (model X.prog X.w) X.A (.compLoop (.ListComp elt [⟨tg,iter,[],0⟩] scope pos) 0 (.ref it) (.ref D) (compEnvC scope cl C X.env)) (compPost (model X.prog X.w) X.A X.xe none (EP X B σ Q) (.ref D) C) s3:=by
  rintro s3 rfl;show JeU (λn s'=>∃ i ys us Z H',Inv (X.inc (own++cs.map (·.2)) scope cl fp s2 H2 C) [(D,{ cls:=.type "list",data:=.seq us.toArray Z })] (List.replicate own.length none++Jaz cs σ) H' s'/\tn i s'.heap/\(∀ b∈fp,H' b=none)/\Vals ys us/\W i n ys H') ?_ m0
   ⟨0,[],[],0,H2,M (us:=[]) (n:=0) I4 a5 Dfree,T.keep _ _ _ a0 λb d o e=>S b o e,λb d=>(f2 b d).1, .nil,w0⟩
  rintro n s5 ⟨i,ys,us,Z,V,I5,a1,a7,vy,w5⟩;obtain⟨hz,⟨a2,qn⟩ | ⟨go,a3⟩⟩:=a4 i n ys V w5
  .show wpAny_mono (T.done (X.inc (own++cs.map (·.2)) scope cl fp s2 H2 C) rfl rfl rfl hc i _ s5 _ V (λ_ _=>False) I5 (E a7) a1 a2) (λr s6 z=>?_) λ_ _ z=>z;let(rfl,I6):=z;let(m6,b6,_):=id I6.loc;show(m6,b6,λh7 b4=>?_);let(pD,pN,_,_,_):=I6.pin (D,{ cls:=.type "list",data:=.seq us.toArray Z }) (by simp);have k:∀ b,b≠C->h7.get? b=s6.heap.get? b:=λb d=>b4.2 b d;have U:=b1;have u7:Un (frs X.stack) fp H2 V s2.heap h7:=⟨λb o e n1 n2 n3=>(k b (U b o e)).trans (I6.base.keep b o e n1 n2 n3),λb o e n1 n2 n3=>by
     let(sl,z):=I6.base.slot b o e n1 n2 n3;show(sl,(k b (U b o e)).trans z),I6.base.free,λb o e n1=>by
     let(o',z):=I6.base.there b o e n1;show(o',(k b (U b o e)).trans z),I6.base.tups,I6.base.frzs,I6.base.tbls⟩
   have Cfree:V C=none:=I6.free;have a8:HOk X.prog X.w V h7:=λa o e=>by
    show(I6.hok a o e).stay (λc v a9 q=>(k c ?_).trans q) (λ_ q=>q) λ_ _ q=>q;rintro rfl;rcases a9 with z | z
    .rw[<- z]at e;rw[Cfree]at e;cases e
    .rw[Cfree]at z;cases z
   have I7:Inv X B σ V { s6 with heap:=h7 }:=I2.call' (s':={ s6 with heap:=h7 }) I6.os u7 a8 I6.bare λb d=>⟨(f2 b d).2.2.2.1,(f2 b d).2.1,(f2 b d).2.2.2.2.1,(f2 b d).2.2.2.2.2⟩;have I8:=I7.track (a:=D) (o:=.lst ys) pN (Heap.get?_none_of_le (by rw[f];show I2.sz)) (by rw[f];show Nat.ne_of_gt I2.lt) (λx c e z=>by
     let(v,o,ho,_):=I2.cell x c e;show K _ _ ho z) (λp Y z=>K _ _ (I2.pin p Y).1 z) ⟨hz,us,Z,vy,(k D t).trans pD⟩
   show(.ref D,_,I8,rfl,qn D pN)
  .show wpAny_mono (T.item (X.inc (own++cs.map (·.2)) scope cl fp s2 H2 C) rfl rfl rfl hc i _ s5 _ V (λ_ _=>False) I5 (E a7) a1 go) (λr s6 z=>?_) λ_ _ z=>z;let(u,rfl,z):=z;show wpAny_mono z (λ_ s7 ζ=>?_) λ_ _ z=>z;let(x,H7,I7,r7,y7,R,b5):=ζ;have I7':=I7.pinned (E b5) (T.obj _ _ R);show wpAny_mono (hg fp s2 H2 C _ s7 _ H7 x u _ I7' r7 (a3 x H7 y7)) (λ_ s8 ⟨σ8,H8,I8,q8⟩=>?_) λ_ _ z=>z;show wpAny_mono (he fp s2 H2 C _ s8 σ8 H8 _ I8 q8) (λuy s9 ζ=>?_) λ_ _ z=>z;let(y,H9,I9,r9,m',b2,w9):=ζ;let(pD,pN,_,_,_):=I9.pin (D,{ cls:=.type "list",data:=.seq us.toArray Z }) (by simp);show append_at (its:=us.toArray) (n:=Z) pD (λb3 P O=>?_) (by rw[size_toArray, <- vy.length];show hz);have m:∀ b∈fp, ∀ o,s7.heap.get? b=some o->s9.heap.get? b=some o/\H9 b=none:=λb d o e=>by
    have z:=I9.pin (b,o) (mem_append_right _ (mem_append_right _ (JbW d e)));show(z.1,z.2.1)
   have I9':Inv (X.inc (own++cs.map (·.2)) scope cl fp s2 H2 C) [] (List.replicate own.length none++Jaz cs σ) H9 s9:=I2.incAgain I9 f2 hcl hcs;have I10:Inv (X.inc (own++cs.map (·.2)) scope cl fp s2 H2 C) [] (List.replicate own.length none++Jaz cs σ) H9 { s9 with heap:=b3 }:=I9'.turned (it:=D) (t':=s9.toks) (λb o d e=>(P.2 b d).trans e) pN t (.inr (Nat.le_of_eq f.symm)) (λx c e z=>by
     let(v,o,ho,_):=I2.cell x c (hcl x c e);show K _ _ ho z) λp Y=>by simp at Y
   rw[lstP]at O;show(m',b2,i+1,ys++[y],us++[uy],Z+1,H9,M I10 O pN,T.keep _ _ _ R λb d o e=>?_,λb d=>?_,vy.append (.cons r9 .nil),w9)
   .show(P.2 b (Nat.ne_of_lt (F b d))).trans (m b d o e).1
   .let(o,e,_):=T.obj _ _ R b d;show(m b d o e).2
 show codeAny_compStart_list (L _ rfl) (T.self _ 0 _ _ _ (T.keep _ _ _ a0 λb d o e=>S b o e) (L _ rfl))
def rInU(K:W.Frag):R2:=λx y H Q=>match x,y with
 | .str i, .str j=>Q (.bl (!(Builtin.Str.occurrences j i 0 j.length 1).isEmpty)) H
 | x,y=>rIn K false x y H Q
theorem Jmy:OpR X (compareOp .In) (rInU X.K):=λa s σ H x y v u Q I c b q=>by
 unfold rInU at q;split at q
 .show JiN a s σ H _ _ v u Q I c b ⟨_,_,rfl,rfl,q⟩
 .show JiM a s σ H _ _ v u Q I c b q
theorem Jmx{K:W.Frag}(hK:X.K=K):OpR X (compareOp .In) (rInU K):=hK ▸ Jmy
theorem ix_UK{K:W.Frag}(hK:X.K=K):IxR X (rIxU K):=hK ▸ ix_U
theorem Jmw{K:W.Frag}(hK:X.K=K)(hu:X.A.units+64<cLine):OpR X (compareOp .Eq) (rEqU K):=hK ▸ JcN hu
theorem y60y{K:W.Frag}{i j:Str}:rInU K (.str i) (.str j) H Q=Q (.bl (!(Builtin.Str.occurrences j i 0 j.length 1).isEmpty)) H:=rfl
theorem all_range:∀ bs:List Bool,(List.range bs.length).all (λi=>bs.getD i false)=bs.all id:=λbs=>by
 rw[Bool.eq_iff_iff];simp only[List.all_eq_true,List.mem_range,id];constructor
 .intro h x b;let(i,a,rfl):=List.mem_iff_getElem.mp b;have:=h i a;simpa[List.getD_eq_getElem?_getD,a]using this
 .intro h i a;have:=h bs[i] (List.getElem_mem a);simpa[List.getD_eq_getElem?_getD,a]using this
def rAll(K:W.Frag):List V->Hp->VK->Prop:=λxs H Q=>∃(p:Addr)(bs:List Bool),xs=[.ref p]/\SqL K H p (bs.map V.bl)/\Q (.bl (bs.all id)) H
theorem Jh9(hc:X.calm=true):CallR X (.builtin "all") (rAll X.K):=λj s σ H M N Q I r q=>by
 let(p,c,rfl,t,q):=q;let(a,g,h,E):=I.list t;let(u,rfl,C):=vals1 r;cases(show u=Value.ref p from C);show call_all_walk (wpAny_pyIter_list h.isList ?_);have f:p<s.heap.objs.size:=by
  let(_,e,_):=h.isList;show Heap.lt_size e
 show(s.heap.objs.size,_,_,a.toArray.size,_,_,λi=>c.getD i false,rfl,Walks.list (by show X.A.handled=none;show I.ok.hd hc) s.heap.objs.size p (Nat.ne_of_lt f) a.toArray,⟨⟨_,Heap.get?_push_size _ rfl,rfl,rfl⟩,h.isList.push _⟩,?_,?_)
 .intro i v G Q' E' D z;have d:a[i]?=some v:=by simpa using D
  have m:i<c.length:=by
   let(J,_):=List.getElem?_eq_some_iff.mp d;have l:=g.length;rw[length_map]at l;ac_nf
  let(L,n,w):=g.get (i:=i) (x:=.bl c[i]) (by simp[m]);rw[d]at n;cases n;cases(show v=Value.bool c[i]from w);show wpAny_truthy_bool ?_;simpa[List.getD_eq_getElem?_getD,m]using z
 .intro F B k;have l:=g.length;rw[length_map]at l;have y:(List.range a.toArray.size).all (λi=>c.getD i false)=c.all id:=by rw[size_toArray, <- l];show all_range c
  rw[y];show(.bl _,H,I.kept (t':=B) λb o e=>k b o (by have:=Heap.lt_size e;simp;show Nat.ne_of_lt this) (Heap.get?_push_of_some _ e),rfl,q)
def rSlS:V->Option Int->Option Int->Hp->VK->Prop:=λx lo hi H Q=>∃ z,x=.str z/\z.length<=sizeLine/\Q (.str (Txt.slice z lo hi)) H
theorem JmM:SlR X rSlS:=λb s σ H x v vl o m j n Q I g d i f h=>by
 let(z,rfl,c,q):=h;let(t,rfl):=g;show("str",_,F.slot_str_getitem.lookup,typeIs_str _ _ _,?_);have a:∀(e:Tok)(k:Nat),EP X b σ Q (.str (Txt.slice z m j) e) { s with toks:=k }:=λe k=>⟨.str _,H,I.tok k,⟨_,rfl⟩,q⟩;cases i <;> cases f
 .show wpAny_getItem_str_slice (l:=none) (u:=none) (st:=none) d rfl (post_val_or_str ⟨Nat.le_trans (Txt.slice_le z _ _) c,a⟩)
 .show wpAny_getItem_str_slice (l:=none) (u:=some (_,_)) (st:=none) d rfl (post_val_or_str ⟨Nat.le_trans (Txt.slice_le z _ _) c,a⟩)
 .show wpAny_getItem_str_slice (l:=some (_,_)) (u:=none) (st:=none) d rfl (post_val_or_str ⟨Nat.le_trans (Txt.slice_le z _ _) c,a⟩)
 .show wpAny_getItem_str_slice (l:=some (_,_)) (u:=some (_,_)) (st:=none) d rfl (post_val_or_str ⟨Nat.le_trans (Txt.slice_le z _ _) c,a⟩)
def rSlV(K:W.Frag):V->Option Int->Option Int->Hp->VK->Prop:=λx lo hi H Q=>rSlU K x lo hi H Q\/rSlS x lo hi H Q
theorem sl_V:SlR X (rSlV X.K):=SlR.or sl_U JmM
theorem hcl0:∀(x:Str)(c:Addr),([]:List (Str × Addr)).lookup x=some c->X.env.cells.lookup x=some c:=λ_ _ h=>by simp at h
theorem hcs0:∀ p∈([]:List (Nat × Str)),X.N[p.1]?=some p.2/\X.env.scope.names.lookup p.2=some .cell/\(relabel scope X.env).names.lookup p.2=some .cell:=λ_ h=>by simp at h
theorem hhas0(h:scope.names.all (λp=>p.2 != .free&&p.2 != .cell)=true):∀ y,((relabel scope X.env).names.lookup y=some .cell\/(relabel scope X.env).names.lookup y=some .free)->∃ c,([]:List (Str × Addr)).lookup y=some c:=λy a=>by
 exfalso;have g:=List.all_eq_true.mp h;have d:∀ k,(relabel scope X.env).names.lookup y=some k->k≠.cell/\k≠.free:=λk e=>by
  have m:=PySem.mem_of_lookup e;let((n,b),j,i):=mem_map.mp (show(y,k)∈scope.names.map _ from m);have z:=g _ j;simp only[bne_iff_ne,ne_eq,Bool.and_eq_true]at z;have f:(if(b == NameKind.free&&X.env.scope.kind == .function&&X.env.kindOf n == some .cell)=true then(n,NameKind.cell)else(n,b))=(y,k):=i;split at f
  .rename_i c;rw[Bool.and_eq_true,Bool.and_eq_true]at c;show absurd (beq_iff_eq.mp c.1.1) z.1
  .cases f;show(z.2,z.1)
 rcases a with a | a
 .show(d _ a).1 rfl
 .show(d _ a).2 rfl
mutual
def szD:D->Prop
 | .int i=>Mth.Sz 4000 i
 | .str s=>s.length<=1000
 | .tup xs=>szL xs
 | .lst xs=>szL xs
 | _=>True
def szL:List D->Prop
 | []=>True
 | x::xs=>szD x/\szL xs
end
def lowB(c:Nat):Bool:=decide (97<=c/\c<=122)
def nameS(s:Str):Bool:=(decide (1<=s.length)&&decide (s.length<=8))&&s.cps.toList.all lowB
def nameB:D->Bool
 | .str s=>nameS s
 | _=>false
def JmW:D->Bool
 | .int _=>true
 | _=>false
def fracB:D->Bool
 | .tup [.int a, .int b]=>decide (1<=b)&&decide (Mth.g a b=1)
 | _=>false
def Jkh:D->Bool
 | .non=>true
 | d=>fracB d
def Jkp(d e:D):Bool:=nameB d&&nameB e&&!eqD d e
def lessD:D->D->Bool
 | .tup [.int a, .int b], .tup [.int c, .int d]=>decide (a*d<c*b)
 | _,_=>false
def JkS(l g:D):Bool:=Jkh l&&Jkh g&&!lessD g l
def tieB:D->Bool
 | .tup [n,s,e,l,g]=>nameB n&&Jkp s e&&JkS l g
 | _=>false
theorem JhL:(Str.ofString "abcdefghijklmnopqrstuvwxyz").cps.toList=List.range' 97 26:=by decide
theorem JhJ(c:Nat):(!(Builtin.Str.occurrences (Str.ofString "abcdefghijklmnopqrstuvwxyz") ⟨#[c]⟩ 0 (Str.ofString "abcdefghijklmnopqrstuvwxyz").length 1).isEmpty)=lowB c:=by
 rw[StrLaws.found_one,JhL];unfold lowB
 congr 1
 rw[List.mem_range'];show propext ⟨λζ=>by let(i,a,e):=ζ;ac_nf,λh=>⟨c-97,by ac_nf,by ac_nf⟩⟩
structure KCal(P:Program)(w:World)(K:W.Frag)(mg:Str->Option Value)(base:Heap)(k:Nat)(x:Str)(C:Addr)(ps:List Str)(sp:Sp):Prop where
 ex:∃(f:Addr)(fd:FuncData),FnOk P w K mg base (CX1 P w) k f fd ps sp/\mg x=some (.ref C)/\Mk K C f/\Binds K fd ps []
structure MCal(P:Program)(w:World)(K:W.Frag)(mg:Str->Option Value)(base:Heap)(k:Nat)(m:Str)(Cs:Addr->Prop)(ps:List Str)(sp:Sp):Prop where
 ex:∃(f:Addr)(fd:FuncData),FnOk P w K mg base (CX1 P w) k f fd ps sp/\(∀ C,Cs C->Cls K C/\Meth K C m f)/\W.keepIn K (.ref f)=true/\Binds K fd ps []
def Jjf(Cs:Addr->Prop)(m:Str)(sp:Sp)(E:XK)(ta:TE)(t:TA):TE:=λσ H Q=>ta σ H λx H1=>∃ a C dx fs,x=.ref a/\H1 a=some (.ins C dx fs)/\Cs C/\fs.lookup m=none/\t σ H1 λvs H2=>sp (x::vs) H2 Q E
section
variable{k':Nat}{mn:Str}{Cs:Addr->Prop}{ps:List Str}{sp:Sp}{E:XK}{p apos:Pos}{e o:Expr}{es:List Expr}{ta:TE}{k:Nat}{t:TA}
theorem KCal.ev(G:KCal X.prog X.w X.K X.mg X.base k x C ps sp)(hr:Room k' X.A)(hk:k+1<=k')(hg:Gl X x)(hx:JbZ (CX1 X.prog X.w) X E)(ha:PA X (e::es) t)
  (hdb:autoParam ((x == ("__debug__" : Str))=false) Av) (he:autoParam (starEach (e::es) X.env=(false,eval e X.env)::starEach es X.env) Au) (hpl:autoParam ((backTo pos (starEach es X.env)).any (·.1)=false) Au) :
  PE X (.Call (.Name x p) (e::es) [] pos) (tMake C sp [] E t):=by
 let(f,c,F,b,M,a):=G.ex;show Jly M F (hr.mono hk) hg b a .nil hx ha hdb he hpl
variable{pl:Sem Bool}
theorem MCal.m(G:MCal X.prog X.w X.K X.mg X.base k mn Cs ps sp)(hr:Room k' X.A)(hk:k<=k')(hx:JbZ (CX1 X.prog X.w) X E)(ho:PE X o ta)(ha:PA X (e::es) t)
  (hst:autoParam (starEach (e::es) X.env=(false,eval e X.env)::starEach es X.env) Au) (hpl:autoParam ((backTo pos (starEach es X.env)).any (·.1)=false) Au)
  (ht:autoParam (eval (.Call (.Attribute o mn apos) (e::es) [] pos) X.env=(do
   let ov <- eval o X.env
   standAt apos.atName
   let(f,first) <- holding [ov] (getMethod ov mn pl)
   callWith pos f first (backTo pos (starEach (e::es) X.env)) (backToKw pos (keywordEach [] X.env)))) Au) :
  PE X (.Call (.Attribute o mn apos) (e::es) [] pos) (Jjf Cs mn sp E ta t):=by
 let(f,J,F,d,y,n):=G.ex;intro b s σ H Q I h;show W.methodCall_KW (pl:=pl) (thn (ho b s σ H _ I h) λu v ζ=>?_) ht;let(x,z,I1,g,a,C,D,L,j,p,c,l,q):=ζ;subst j;obtain rfl:u=Value.ref a:=g;show JeY I1 p (d C c).1 (d C c).2 l ?_;show W.callWith_K (first:=[.ref a]) (h₀:=X.base) I.ok.mod.kin y (thn (ha pos b v σ z _ I1 q) λus M ζ=>?_) hst hpl;let(vs,B,I2,r,i):=ζ;show(I2.kIn,?_);show Ji1 (us:=.ref a::us) (vs:=.ref a::vs) F (hr.mono hk) n .nil hx I2 (.cons rfl r) (by simpa using i)
theorem MCal.m0(G:MCal X.prog X.w X.K X.mg X.base k mn Cs ps sp)(hr:Room k' X.A)(hk:k<=k')(hx:JbZ (CX1 X.prog X.w) X E)(ho:PE X o ta)
  (ht:autoParam (eval (.Call (.Attribute o mn apos) [] [] pos) X.env=(do
   let ov <- eval o X.env
   standAt apos.atName
   let(f,first) <- holding [ov] (getMethod ov mn pl)
   callWith pos f first (backTo pos (starEach [] X.env)) (backToKw pos (keywordEach [] X.env)))) Au) :
  PE X (.Call (.Attribute o mn apos) [] [] pos) (Jjf Cs mn sp E ta tNil):=by
 let(f,r,F,d,m,i):=G.ex;intro b s σ H Q I h;show W.methodCall_KW (pl:=pl) (thn (ho b s σ H _ I h) λu t ζ=>?_) ht;let(x,n,I1,e,a,C,p,v,g,j,c,l,q):=ζ;subst g;obtain rfl:u=Value.ref a:=e;show JeY I1 j (d C c).1 (d C c).2 l ?_;show W.callWith_K0 (first:=[.ref a]) I1.kIn m (Ji1 (us:=[.ref a]) (vs:=[.ref a]) F (hr.mono hk) i .nil hx I1 (.cons rfl .nil) (show sp ([.ref a]++[]) n Q E from q))
def rMulS:R2:=λx y H Q=>match x,y with
 | .str z, .int n=>0<n/\n<1000/\z.length<=1000/\∀ z':Str,z'.cps.toList=(List.replicate n.toNat z.cps.toList).flatten->Q (.str z') H
 | x,y=>rMulU x y H Q
theorem Je8:∀(l:List (Array Nat))(acc:Array Nat),(l.foldl (· ++ ·) acc).toList=acc.toList++(l.map (·.toList)).flatten
 | [],acc=>by simp
 | x::l,acc=>by
  rw[List.foldl_cons,Je8 l];simp
theorem JiO:OpR X (binaryOp .Mult) rMulS:=λa s σ H x y v u Q I d b q=>by
 unfold rMulS at q;split at q
 .rename_i z n;let(i,k,f,q):=q;let(t,rfl):=d;let(j,rfl):=b;have g:z.cps.size=z.length:=rfl;have h:z.length*n.toNat<=1000*1000:=Nat.mul_le_mul f ∅;show PySem.P.mul_str (by simp;ac_nf) (λ_ _=>?_) (λ_ _=>?_) ?_
  .have : (1000:Int)<=(2 ^ 63-1)/n:=by
    rw[Int.le_ediv_iff_mul_le i];ac_nf
   ac_nf
  .unfold Builtin.Str.tooLong;simp;have : (1000*1000:Nat)<=sizeLine:=by decide
   ac_nf
  .rw[if_neg ∅];split
   .rename_i c;show(.str z,H,I,⟨_,rfl⟩,q z ?_);rcases Bool.or_eq_true _ _ |>.mp c with c | c
    .obtain rfl:n=1:=by simpa using c
     simp
    .have e:z.cps.toList=[]:=by
      have : z.length=0:=by simpa using c
      show List.eq_nil_of_length_eq_zero (by rw[Array.length_toList];show this)
     rw[e];simp
   .show(?_, .str _,H,I.tok _,⟨_,rfl⟩,q _ ?_)
    .show(Array.size _)<=sizeLine;rw[<- Array.length_toList,Je8];simp;have : (1000*1000:Nat)<=sizeLine:=by decide
     rw[Nat.mul_comm,g];ac_nf
    .rw[Je8];simp
 .show Jlq a s σ H _ _ v u Q I d b q
def rIsN:R2:=λx y H Q=>y=.non/\Q (.bl (decide (x=.non))) H
def rNotN:R2:=λx y H Q=>y=.non/\Q (.bl (!decide (x=.non))) H
theorem Jeo:OpR X (compareOp .Is) rIsN:=Jmz
theorem Jfu:OpR X (compareOp .IsNot) rNotN:=Jlr
def JmI(K:W.Frag):List V->Hp->VK->Prop:=λxs H Q=>∃ p ys,xs=[.ref p]/\(SqL K H p ys\/SqT K H p ys)/\∀ l,H l=none->Q (.ref l) (upd H l (.lst ys))
theorem JhF:CallR X (.type "list") (JmI X.K):=JfX
end
section
variable{K:W.Frag}{x:V}
theorem y63y:rIsN x .non H Q=Q (.bl (decide (x=.non))) H:=by simp[rIsN]
theorem y7ay:rNotN x .non H Q=Q (.bl (!decide (x=.non))) H:=by simp[rNotN]
variable{sp:Sp}{E:XK}
theorem y69y{dvs:List V}{t:TA}:tMake C sp dvs E t σ H Q=t σ H λvs H1=>∀ x dx,H1 x=none->H1 dx=none->dx≠x->sp (.ref x::(vs++dvs)) (upd (upd H1 dx (.own x)) x (.ins C dx [])) (λv H2=>v=.non/\Q (.ref x) H2) E:=rfl
variable{ta:TE}
theorem y6by{Cs:Addr->Prop}{mn:Str}{t:TA}:Jjf Cs mn sp E ta t σ H Q=ta σ H λx H1=>∃ a C dx fs,x=.ref a/\H1 a=some (.ins C dx fs)/\Cs C/\fs.lookup mn=none/\t σ H1 λvs H2=>sp (x::vs) H2 Q E:=rfl
theorem y4fy{f:Str}:tFld K ta f σ H Q=ta σ H λx H1=>∃ a C dx fs v,x=.ref a/\H1 a=some (.ins C dx fs)/\Cls K C/\JaV K C f/\fs.lookup f=some v/\Q v H1:=rfl
variable{tv:TE}{En:Ends}
theorem y89y{f:Str}:sFld K ta tv f En σ H=tv σ H λy H1=>ta σ H1 λx H2=>∃ a C dx fs,x=.ref a/\H2 a=some (.ins C dx fs)/\Cls K C/\JaV K C f/\fs.length<1000/\En.nx σ (upd H2 a (.ins C dx (putF f y fs))):=rfl
theorem y2dy{T:String}{r:V->List V->Hp->VK->Prop}{to:TE}{t:TA}:tBM K T r to t σ H Q=to σ H λx H1=>tyV K T x H1/\t σ H1 λvs H2=>r x vs H2 Q:=rfl
variable{R:St->Hp->Prop}
theorem y5ay{g:TG}{gs:TGs}{r:List V}:gCons g gs (v::r) σ H R=g v σ H λσ' H'=>gs r σ' H' R:=by
 unfold gCons;show propext ⟨λ⟨a,b,e,h⟩=>?_,λh=>⟨v,r,rfl,h⟩⟩;cases e;show h
theorem y5cy:gNil [] σ H R=R σ H:=by unfold gNil;simp
def nonD:D->Bool
 | .non=>true
 | _=>false
theorem putE{l:Addr}(e:upd H l o=H'):H' l=some o:=by rw[<- e,Jaj]
end
section
variable{En:Ends}{ta tb tc:TE}{td:TE}{K:W.Frag}
end
def Jbo(cells:List (Str × Addr)):List (Str × NameKind)->List (Str × Addr)->List (Str × Addr)
 | [],acc=>acc
 | (n,k)::r,acc=>Jbo cells r (if k == .free then(n,(cells.lookup n).getD 0)::acc else acc)
theorem Jgq{env:Env}:∀(names:List (Str × NameKind))(acc:List (Str × Addr)),(∀ p∈names,p.2=.free->∃ c,env.cells.lookup p.1=some c) ->
  (forIn names acc λ(p:Str × NameKind) cs=>(if p.2 == .free then do let c <- cellOf env p.1;pure (ForInStep.yield ((p.1,c)::cs))else pure (ForInStep.yield cs):Sem (ForInStep (List (Str × Addr)))))=(pure (Jbo env.cells names acc):Sem (List (Str × Addr)))
 | [],acc,_=>by simp[Jbo]
 | (n,k)::r,acc,h=>by
  rw[List.forIn_cons];by_cases c:(k == .free)=true
  .let(a,ha):=h (n,k) mem_cons_self (beq_iff_eq.mp c);have e:cellOf env n=pure a:=by unfold cellOf;rw[ha]
   simp only[c,if_true,e,pure_bind];have:=Jgq (env:=env) r ((n,a)::acc) λp hp=>h p (mem_cons_of_mem _ hp);simp only[Jbo,c,if_true,ha,Option.getD_some];show this
  .have c':(k == .free)=false:=by simpa using c
   simp only[c',Bool.false_eq_true,if_false,pure_bind];have:=Jgq (env:=env) r acc λp hp=>h p (mem_cons_of_mem _ hp);simp only[Jbo,c',Bool.false_eq_true,if_false];show this
variable{env:Env}
theorem Je9(h:∀ p∈scope.names,p.2=.free->∃ c,env.cells.lookup p.1=some c):closureFor scope env=pure (Jbo env.cells scope.names []):=by
 have:=Jgq (env:=env) scope.names [] h;unfold closureFor;simp only[pure_bind];show Eq.trans ?_ (congrArg (λm:Sem (List (Str × Addr))=>m >>= pure) this |>.trans (by simp));first | rfl | (congr 1)
variable{cells:List (Str × Addr)}
theorem Jco:∀(names:List (Str × NameKind))(acc:List (Str × Addr)),(∀ x c,acc.lookup x=some c->cells.lookup x=some c)->(∀ p∈names,p.2=.free->∃ c,cells.lookup p.1=some c) ->
  ∀ x c,(Jbo cells names acc).lookup x=some c->cells.lookup x=some c
 | [],acc,ha,_,x,c,h=>ha x c h
 | (n,k)::r,acc,ha,hf,x,c,h=>by
  simp only[Jbo]at h;show Jco r _ ?_ (λp hp=>hf p (mem_cons_of_mem _ hp)) x c h;intro y d hy;by_cases f:(k == .free)=true
  .rw[if_pos f]at hy;let(a,e):=hf (n,k) mem_cons_self (beq_iff_eq.mp f);rw[List.lookup_cons]at hy;by_cases q:(y == n)=true
   .rw[q]at hy;have q':y=n:=beq_iff_eq.mp q;subst q';have e':cells.lookup y=some a:=e;rw[e']at hy ⊢;simpa using hy
   .have q':(y == n)=false:=by simpa using q
    rw[q']at hy;show ha y d hy
  .rw[if_neg f]at hy;show ha y d hy
theorem Jcn:∀(names:List (Str × NameKind))(acc:List (Str × Addr))(y:Str),((∃ c,acc.lookup y=some c)\/(y,NameKind.free)∈names)->∃ c,(Jbo cells names acc).lookup y=some c
 | [],acc,y,h=>by
  rcases h with h | h
  .show h
  .simp at h
 | (n,k)::r,acc,y,h=>by
  simp only[Jbo];show Jcn r _ y ?_;rcases h with⟨c,h⟩ | h
  .show .inl ?_;split
   .rw[List.lookup_cons];cases(y == n)
    .show(c,h)
    .show(_,rfl)
   .show(c,h)
  .rcases mem_cons.mp h with e | h
   .cases e;show .inl ?_;rw[if_pos ⋯,List.lookup_cons];simp
   .show .inr h
theorem Jhp{g:TG}(hc:X.calm=true)(hi:PI X tg iter wi)
  (hg:∀ fp s2 H2 C,PG (X.inc (own++cs.map (·.2)) scope (Jbo X.env.cells scope.names []) fp s2 H2 C) tg g) (he:∀ fp s2 H2 C,PE (X.inc (own++cs.map (·.2)) scope (Jbo X.env.cells scope.names []) fp s2 H2 C) elt te)
  (hfree:∀ p∈scope.names,p.2=.free->X.env.scope.names.lookup p.1=some .cell) (hcell:∀ y∈scope.names,y.2≠.cell) (hkind:scope.kind=.function) (hnames:∀ y∈scope.names,y.2=.local->scope.names.lookup y.1=some .local)
  (hcs:∀ p∈cs,X.N[p.1]?=some p.2/\X.env.scope.names.lookup p.2=some .cell/\(relabel scope X.env).names.lookup p.2=some .cell)
  (hs:autoParam (∀ x,foldedSetIterable iter X.env x=pure x) Aw):PE X (.ListComp elt [⟨tg,iter,[],0⟩] scope pos) (tComp own.length cs wi g te):=by
 intro a s σ H Q I h;have j:∀ p∈scope.names,p.2=.free->∃ c,X.env.cells.lookup p.1=some c:=λp r i=>I.ok.has p.1 (.inl (hfree p r i));show Jer hc hi hg he (Je9 j) hcell hkind hnames (Jco scope.names [] (λ_ _ z=>by simp at z) j) (λy b=>Jcn scope.names [] y (.inr ?_)) hcs hs a s σ H Q I h;have o:∀ k,(k=.cell\/k=.free)->(relabel scope X.env).names.lookup y=some k->(y,NameKind.free)∈scope.names:=λk i e=>by
  have m:=PySem.mem_of_lookup e;let((n,l),f,q):=mem_map.mp (show(y,k)∈scope.names.map _ from m);have d:(if(l == NameKind.free&&X.env.scope.kind == .function&&X.env.kindOf n == some .cell)=true then(n,NameKind.cell)else(n,l))=(y,k):=q;split at d
  .rename_i c;rw[Bool.and_eq_true,Bool.and_eq_true]at c;have:=beq_iff_eq.mp c.1.1;subst this;cases d;show f
  .cases d;rcases i with rfl | rfl
   .show absurd rfl (hcell _ f)
   .show f
 rcases b with b | b
 .show o _ (.inl rfl) b
 .show o _ (.inr rfl) b
theorem Jd6{sc:Scope}(h:scope.names.all (λp=>p.2 != .free||(sc.names.lookup p.1 == some .cell))=true):∀ p∈scope.names,p.2=.free->sc.names.lookup p.1=some .cell:=λp a b=>by
 have z:=List.all_eq_true.mp h p a;rw[b]at z;simpa using z
theorem hcs1{i:Nat}(a:X.N[i]?=some x)(b:X.env.scope.names.lookup x=some .cell)(c:(relabel scope X.env).names.lookup x=some .cell) :
  ∀ p∈[(i,x)],X.N[p.1]?=some p.2/\X.env.scope.names.lookup p.2=some .cell/\(relabel scope X.env).names.lookup p.2=some .cell:=λp d=>by
 rcases mem_singleton.mp d with rfl
 show(a,b,c)
variable{j:Nat}{y:Str}
theorem hcs2{i:Nat}(a:X.N[i]?=some x)(b:X.env.scope.names.lookup x=some .cell)(c:(relabel scope X.env).names.lookup x=some .cell)
  (a':X.N[j]?=some y) (b':X.env.scope.names.lookup y=some .cell) (c':(relabel scope X.env).names.lookup y=some .cell) :
  ∀ p∈[(i,x),(j,y)],X.N[p.1]?=some p.2/\X.env.scope.names.lookup p.2=some .cell/\(relabel scope X.env).names.lookup p.2=some .cell:=λp d=>by
 rcases mem_cons.mp d with rfl | d
 .show(a,b,c)
 .rcases mem_singleton.mp d with rfl
  show(a',b',c')
variable{tn:Nat->Heap->Prop}{J:It}
theorem JhG{g:TG}{it:Addr}
  {W:Nat->Nat->List V->Hp->Prop} {m0:Nat} {QN:List V->Hp->Prop} {RR:Value->Addr->Result->Shared->Prop} {E:Value->Shared->Prop} (hc:X.calm=true)
  (hg:∀ fp s2 H2 C,PG (X.inc (own++cs.map (·.2)) scope cl fp s2 H2 C) tg g) (he:∀ fp s2 H2 C,PE (X.inc (own++cs.map (·.2)) scope cl fp s2 H2 C) elt te)
  (hcell:∀ y∈scope.names,y.2≠.cell) (hkind:scope.kind=.function)
  (hcl:∀ x c,cl.lookup x=some c->X.env.cells.lookup x=some c) (hhas:∀ y,((relabel scope X.env).names.lookup y=some .cell\/(relabel scope X.env).names.lookup y=some .free)->∃ c,cl.lookup y=some c)
  (hcs:∀ p∈cs,X.N[p.1]?=some p.2/\X.env.scope.names.lookup p.2=some .cell/\(relabel scope X.env).names.lookup p.2=some .cell)
  (I2:Inv X pins σ H2 s2) (T:Turn X.prog X.w X.K tg J fp it tn) (st2:tn 0 s2.heap) (f2:∀ b∈fp,FpOk X pins H2 b) (w0:W 0 m0 [] H2)
  (turn:∀ i m ys H2,W i m ys H2->ys.length<=sizeLine/\((J.stop i H2/\QN ys H2)\/(J.go i H2/\∀ x H3,J.yld i H2 x H3->g x (List.replicate own.length none++Jaz cs σ) H3 λσ4 H4=>te σ4 H4 λy H5=>∃ m',m'<m/\W (i+1) m' (ys++[y]) H5)))
  (hRR:∀(D C:Addr)(s6:Shared)(H5:Hp)(ys:List V),(∀ h7,Heap.SameBut C s6.heap h7->Inv X pins σ (upd H5 D (.lst ys)) { s6 with heap:=h7 })->H5 D=none->H5 C=none->D≠C->(∃ m,s6.heap.Ns C m)->s2.heap.objs.size<=C->QN ys H5->RR (.ref D) C (.ok .next) s6) :
  wpAny (model X.prog X.w) X.A (newList []) (λacc s₃=>wpAny (model X.prog X.w) X.A (newFunctionEnv scope X.env.globals cl [] X.env.qual none .none (some X.env)) (λcenv s₄=>
   codeAny (model X.prog X.w) X.A (.compStart (.ListComp elt [⟨tg,iter,[],0⟩] scope pos) 0 (.ref it) acc { cenv with scope:=relabel scope X.env }) (RR acc cenv.locals) s₄) E s₃) E s2:=by
 have F:∀ b∈fp,b<s2.heap.objs.size:=λb d=>by
  let(o,e,_):=T.obj _ _ st2 b d;show Heap.lt_size e
 show wpAny_newObj_type (wpAny_newFunctionEnv hcell (by intro y hy;simp at hy) (λh4 l h=>?_) hkind);dsimp only at l h ⊢;generalize hH3:s2.heap.push { cls:=.type "list",dict:=none,data:=.seq ([]:List Value).toArray }=H3 at l h ⊢;have a2:H3.objs.size=s2.heap.objs.size+1:=by rw[<- hH3,Heap.size_push]
 have Y:s2.heap.objs.size<=H3.objs.size:=by ac_nf
 have k:s2.heap.objs.size≠H3.objs.size:=by ac_nf
 have Q:∀ b o,s2.heap.get? b=some o->h4.get? b=some o:=λb o e=>h.extBut b o (by have:=Heap.lt_size e;show Nat.ne_of_lt (Nat.lt_of_lt_of_le this Y)) (Heap.get?_push_of_some _ (hH3 ▸ Heap.get?_push_of_some _ e));have a1:h4.get? s2.heap.objs.size=some { cls:=.type "list",data:=.seq ([]:List Value).toArray }:=h.extBut _ _ k (Heap.get?_push_of_some _ (hH3 ▸ Heap.get?_push_size _ rfl));obtain⟨D,f⟩:∃ D,D=s2.heap.objs.size:=⟨_,rfl⟩;obtain⟨C,a6⟩:∃ C,C=H3.objs.size:=⟨_,rfl⟩;rw[<- a6]at a2 l h Y k ⊢;rw[<- f]at F a2 Y k a1 ⊢;have G:=I2.incOk (N':=own++cs.map (·.2)) (C:=C) f2 (λb d=>by rw[<- f];show F b d) hkind (by rw[<- f];show Y) hcl hhas;have I4:Inv (X.inc (own++cs.map (·.2)) scope cl fp s2 H2 C) [] (List.replicate own.length none++Jaz cs σ) H2 { s2 with heap:=h4,toks:=s2.toks+([]:List (Str × Value)).length } :=
  I2.incStart (s4:={ s2 with heap:=h4,toks:=s2.toks+([]:List (Str × Value)).length }) G Q rfl rfl l (by rw[<- f];show Y) hcl hcs
 have Dfree:H2 D=none:=I2.hok.fresh (Nat.le_of_eq f.symm);have H:∀ b o,s2.heap.get? b=some o->b≠D:=λb o e=>by
  rw[f];show Nat.ne_of_lt (Heap.lt_size e)
 have a7:∀ b o,s2.heap.get? b=some o->b≠C:=λb o e=>Nat.ne_of_lt (Nat.lt_of_lt_of_le (by rw[f];show Heap.lt_size e) Y);have Dfs:D∉frs X.stack:=λhm=>by
  let(_,o,e,_):=I2.stack.mem hm;show H _ _ e rfl
 have L:∀{σ':St}{H':Hp}{s':Shared}{us:List Value}{n:Nat}{pl:List (Addr × Obj)},Inv (X.inc (own++cs.map (·.2)) scope cl fp s2 H2 C) pl σ' H' s'->s'.heap.get? D=some { cls:=.type "list",data:=.seq us.toArray n }->H' D=none ->
   Inv (X.inc (own++cs.map (·.2)) scope cl fp s2 H2 C) [(D,{ cls:=.type "list",data:=.seq us.toArray n })] σ' H' s':=λ{σ' H' s' us n pl} J' e n'=>J'.pins_of λp S=>by
  rcases mem_singleton.mp S with rfl
  show(e,n',k,Dfs,λv z=>by cases z)
 have B:∀{H':Hp}{o:Obj},(∀ b∈fp,H' b=none)->∀ b∈fp,FpOk (X.inc (own++cs.map (·.2)) scope cl fp s2 H2 C) [(D,o)] H' b:=λ{H' o} hn b d=>by
  show(hn b d,(G.exf b d).1,G.exfs b d, .inl d,(G.exf b d).2,λp S=>?_);rcases mem_singleton.mp S with rfl
  show Nat.ne_of_gt (F b d)
 have I:∀ s3:Shared,s3={ s2 with heap:=h4,toks:=s2.toks+([]:List (Str × Value)).length } ->
   codeAny (model X.prog X.w) X.A (.compLoop (.ListComp elt [⟨tg,iter,[],0⟩] scope pos) 0 (.ref it) (.ref D) (compEnvC scope cl C X.env)) (RR (.ref D) C) s3:=by
  rintro s3 rfl;show JeU (λn s'=>∃ i ys us U H',Inv (X.inc (own++cs.map (·.2)) scope cl fp s2 H2 C) [(D,{ cls:=.type "list",data:=.seq us.toArray U })] (List.replicate own.length none++Jaz cs σ) H' s'/\tn i s'.heap/\(∀ b∈fp,H' b=none)/\Vals ys us/\W i n ys H') ?_ m0
   ⟨0,[],[],0,H2,L (us:=[]) (n:=0) I4 a1 Dfree,T.keep _ _ _ st2 λb d o e=>Q b o e,λb d=>(f2 b d).1, .nil,w0⟩
  rintro n s5 ⟨i,ys,us,U,H5,I5,Z,a3,vy,w5⟩;obtain⟨hz,⟨stop,qn⟩ | ⟨go,a0⟩⟩:=turn i n ys H5 w5
  .show wpAny_mono (T.done (X.inc (own++cs.map (·.2)) scope cl fp s2 H2 C) rfl rfl rfl hc i _ s5 _ H5 (λ_ _=>False) I5 (B a3) Z stop) (λr s6 z=>?_) λ_ _ z=>z;let(rfl,I6):=z;let(m6,b2,_):=id I6.loc;let(pD,pN,_,_,_):=I6.pin (D,{ cls:=.type "list",data:=.seq us.toArray U }) (by simp);have Cfree:H5 C=none:=I6.free;show hRR D C s6 H5 ys (λh7 b0=>?_) pN Cfree k ⟨m6,b2⟩ (by rw[<- f];show Y) qn;have j:∀ b,b≠C->h7.get? b=s6.heap.get? b:=λb d=>b0.2 b d;have R:=a7;have u7:Un (frs X.stack) fp H2 H5 s2.heap h7:=⟨λb o e n1 n2 n3=>(j b (R b o e)).trans (I6.base.keep b o e n1 n2 n3),λb o e n1 n2 n3=>by
     let(sl,z):=I6.base.slot b o e n1 n2 n3;show(sl,(j b (R b o e)).trans z),I6.base.free,λb o e n1=>by
     let(o',z):=I6.base.there b o e n1;show(o',(j b (R b o e)).trans z),I6.base.tups,I6.base.frzs,I6.base.tbls⟩
   have a4:HOk X.prog X.w H5 h7:=λa o e=>by
    show(I6.hok a o e).stay (λc v a5 q=>(j c ?_).trans q) (λ_ q=>q) λ_ _ q=>q;rintro rfl;rcases a5 with z | z
    .rw[<- z]at e;rw[Cfree]at e;cases e
    .rw[Cfree]at z;cases z
   have I7:Inv X pins σ H5 { s6 with heap:=h7 }:=I2.call' (s':={ s6 with heap:=h7 }) I6.os u7 a4 I6.bare λb d=>⟨(f2 b d).2.2.2.1,(f2 b d).2.1,(f2 b d).2.2.2.2.1,(f2 b d).2.2.2.2.2⟩;show I7.track (a:=D) (o:=.lst ys) pN (Heap.get?_none_of_le (by rw[f];show I2.sz)) (by rw[f];show Nat.ne_of_gt I2.lt) (λx c e z=>by
     let(v,o,ho,_):=I2.cell x c e;show H _ _ ho z) (λp S z=>H _ _ (I2.pin p S).1 z) ⟨hz,us,U,vy,(j D k).trans pD⟩
  .show wpAny_mono (T.item (X.inc (own++cs.map (·.2)) scope cl fp s2 H2 C) rfl rfl rfl hc i _ s5 _ H5 (λ_ _=>False) I5 (B a3) Z go) (λr s6 z=>?_) λ_ _ z=>z;let(u,rfl,z):=z;show wpAny_mono z (λ_ s7 ζ=>?_) λ_ _ z=>z;let(x,H7,I7,r7,y7,P,b1):=ζ;have I7':=I7.pinned (B b1) (T.obj _ _ P);show wpAny_mono (hg fp s2 H2 C _ s7 _ H7 x u _ I7' r7 (a0 x H7 y7)) (λ_ s8 ⟨σ8,H8,I8,q8⟩=>?_) λ_ _ z=>z;show wpAny_mono (he fp s2 H2 C _ s8 σ8 H8 _ I8 q8) (λuy s9 ζ=>?_) λ_ _ z=>z;let(y,H9,I9,r9,m',a8,w9):=ζ;let(pD,pN,_,_,_):=I9.pin (D,{ cls:=.type "list",data:=.seq us.toArray U }) (by simp);show append_at (its:=us.toArray) (n:=U) pD (λa9 O M=>?_) (by rw[size_toArray, <- vy.length];show hz);have t:∀ b∈fp, ∀ o,s7.heap.get? b=some o->s9.heap.get? b=some o/\H9 b=none:=λb d o e=>by
    have z:=I9.pin (b,o) (mem_append_right _ (mem_append_right _ (JbW d e)));show(z.1,z.2.1)
   have I9':Inv (X.inc (own++cs.map (·.2)) scope cl fp s2 H2 C) [] (List.replicate own.length none++Jaz cs σ) H9 s9:=I2.incAgain I9 f2 hcl hcs;have I10:Inv (X.inc (own++cs.map (·.2)) scope cl fp s2 H2 C) [] (List.replicate own.length none++Jaz cs σ) H9 { s9 with heap:=a9 }:=I9'.turned (it:=D) (t':=s9.toks) (λb o d e=>(O.2 b d).trans e) pN k (.inr (Nat.le_of_eq f.symm)) (λx c e z=>by
     let(v,o,ho,_):=I2.cell x c (hcl x c e);show H _ _ ho z) λp S=>by simp at S
   rw[lstP]at M;show(m',a8,i+1,ys++[y],us++[uy],U+1,H9,L I10 M pN,T.keep _ _ _ P λb d o e=>?_,λb d=>?_,vy.append (.cons r9 .nil),w9)
   .show(O.2 b (Nat.ne_of_lt (F b d))).trans (t b d o e).1
   .let(o,e,_):=T.obj _ _ P b d;show(t b d o e).2
 show codeAny_compStart_list (I _ rfl) (T.self _ 0 _ _ _ (T.keep _ _ _ st2 λb d o e=>Q b o e) (I _ rfl))
theorem Jgy(hcell:∀ y∈scope.names,y.2≠.cell){y:Str}(hy:(relabel scope X.env).names.lookup y=some .cell\/(relabel scope X.env).names.lookup y=some .free):(y,NameKind.free)∈scope.names:=by
 have f:∀ k,(k=.cell\/k=.free)->(relabel scope X.env).names.lookup y=some k->(y,NameKind.free)∈scope.names:=λk g e=>by
  have m:=PySem.mem_of_lookup e;let((n,d),b,h):=mem_map.mp (show(y,k)∈scope.names.map _ from m);have a:(if(d == NameKind.free&&X.env.scope.kind == .function&&X.env.kindOf n == some .cell)=true then(n,NameKind.cell)else(n,d))=(y,k):=h;split at a
  .rename_i c;rw[Bool.and_eq_true,Bool.and_eq_true]at c;have:=beq_iff_eq.mp c.1.1;subst this;cases a;show b
  .cases a;rcases g with rfl | rfl
   .show absurd rfl (hcell _ b)
   .show b
 rcases hy with hy | hy
 .show f _ (.inl rfl) hy
 .show f _ (.inr rfl) hy
variable{spos py:Pos}
theorem Je1{g:TG}(hN:X.N.Nodup)(hj:X.N[j]?=some y)(hy:Loc X.env.scope y)(hc:X.calm=true)(hi:PI X tg iter wi)
  (hg:∀ fp s2 H2 C,PG (X.inc (own++cs.map (·.2)) scope (Jbo X.env.cells scope.names []) fp s2 H2 C) tg g) (he:∀ fp s2 H2 C,PE (X.inc (own++cs.map (·.2)) scope (Jbo X.env.cells scope.names []) fp s2 H2 C) elt te)
  (hfree:∀ p∈scope.names,p.2=.free->X.env.scope.names.lookup p.1=some .cell) (hcell:∀ y∈scope.names,y.2≠.cell) (hkind:scope.kind=.function) (hnames:∀ y∈scope.names,y.2=.local->scope.names.lookup y.1=some .local)
  (hcs:∀ p∈cs,X.N[p.1]?=some p.2/\X.env.scope.names.lookup p.2=some .cell/\(relabel scope X.env).names.lookup p.2=some .cell)
  (hsw:autoParam (swapsWith (.ListComp elt [⟨tg,iter,[],0⟩] scope pos) (some (.Name y py)) spos.line X.env=pure true) Au)
  (hs:autoParam (∀ x,foldedSetIterable iter X.env x=pure x) Aw) (hf:X.fn y=true\/X.env.scope.names.lookup y=some .local:=by first | show .inl rfl | show .inr rfl) :
  PS X (.Assign [.Name y py] (.ListComp elt [⟨tg,iter,[],0⟩] scope pos) spos) (tAsg (tComp own.length cs wi g te) (gName j)):=by
 intro d s σ H D I h;have k:∀ p∈scope.names,p.2=.free->∃ c,X.env.cells.lookup p.1=some c:=λp E hk=>I.ok.has p.1 (.inl (hfree p E hk));have n:=Jco (cells:=X.env.cells) scope.names [] (λ_ _ z=>by simp at z) k;rw[exec_Assign_Name_used _ _ _ _ hsw];show wpAny_bind (wpAny_standAt (wpAny_bind ?_));show wpAny _ X.A (do let _ <- comprehension (.ListComp elt [⟨tg,iter,[],0⟩] scope pos) scope X.env _ (newList []) false (eval iter X.env) (some (assign (.Name y py) X.env))) _ _ s;show wpAny_bind (wpAny_mono (wpAny_comprehension_free (use:=some (assign (.Name y py) X.env)) (Q:=λ_ L=>SP X d D .next L) rfl hs (Je9 k) hkind hnames
  (thn (hi d s σ H _ I h) λv s1 h1=>thn h1 λM s2 O=>?_)) (λ_ L hq=>wpAny_pure (wpAny_pure hq)) λ_ _ e=>e)
 let(it,fp,tn,J,H2,rfl,I2,T,B,f2,W,(m0,w0),i):=O;show JhG (QN:=λt l=>∀ p,l p=none->D.nx (σ.set j (some (.ref p))) (upd l p (.lst t))) hc hg he hcell hkind n (λz P=>Jcn scope.names [] z (.inr (Jgy hcell P))) hcs I2 T B f2 w0 i ?_;intro D' C m l t K dN U R Y f q;let(S,w):=Y;have I8:Inv X d σ (upd l D' (.lst t)) m:=K m.heap (Heap.SameBut.refl _ _);show wpAny _ X.A (assign (.Name y py) X.env (.ref D')) _ _ m;show wpAny_assign_Name (JeF (v:=.ref D') I8 hN hj hy rfl (λZ I7 r=>?_) hf);let(a,sb,u):=r;have nC:C≠a:=by
  rcases u with rfl | u
  .show Nat.ne_of_gt (Nat.lt_of_lt_of_le I2.lt f)
  .let(v,o,G,_):=I2.cell y a u;show Nat.ne_of_gt (Nat.lt_of_lt_of_le (Heap.lt_size G) f)
 show(S,w.sameBut sb nC,λh8 F=>⟨_,_,?_,q D' dN⟩);show I7.turned (it:=C) (t':=Z.toks) (λb o V e=>(F.2 b V).trans e) (by rw[Jag (Ne.symm R)];show U) (Nat.ne_of_gt (Nat.lt_of_lt_of_le I2.lt f)) (.inr (Nat.le_trans I2.sz f)) (λx c e z=>by
  let(v,o,G,_):=I2.cell x c e;show absurd (Nat.lt_of_lt_of_le (Heap.lt_size G) f) (by rw[z];show Nat.lt_irrefl _)) (λp E z=>absurd (Nat.lt_of_lt_of_le (Heap.lt_size (I2.pin p E).1) f) (by rw[z];show Nat.lt_irrefl _))
section
variable{prog:Program}{E:Value->Shared->Prop}{R:Result->Shared->Prop}{w:World}{s:Shared}{tst:Expr}
theorem Jgr{target:Expr}{it acc:Value}(J:Nat->Shared->Prop)
  (turn:∀ n s,J n s->wpAny (model prog w) A (pyNext it) (λr s1=>match r with
   | none=>R (.ok .next) s1
   | some v=>wpAny (model prog w) A (letOwnedTupleGo target it v) (λ_ s2=>wpAny (model prog w) A (assign target env v) (λ_ s3=>wpAny (model prog w) A (isTrue tst env (eval tst env)) (λb s3'=>if b=true then wpAny (model prog w) A (eval elt env) (λx s4=>
     wpAny (model prog w) A (call (.builtin "list.append") [acc,x]) (λ_ s5=>∃ m,m<n/\J m s5) (λ_ _=>False) s4) (λ_ _=>False) s3' else∃ m,m<n/\J m s3') (λ_ _=>False) s3) (λ_ _=>False) s2) (λ_ _=>False) s1) (λ_ _=>False) s) (n:Nat) (h:J n s) :
  codeAny (model prog w) A (.compLoop (.ListComp elt [⟨target,iter,[tst],0⟩] scope pos) 0 it acc env) R s:=by
 show codeAny_loop rfl J (λn s d=>?_) n h;show wpAny _ A ((compTurn (.ListComp elt [⟨target,iter,[tst],0⟩] scope pos) 0 it acc env).onRaise (λy=>do noteFrame y env;theTreesLotGoes y)) _ _ s
 (show wpAny_noted ?_;rw[compTurn_list])
 show wpAny_bind (wpAny_standAt (wpAny_bind (wpAny_mono (turn n s d) (λr s1 c=>?_) λ_ _ z=>z.elim)));cases r with
 | none=>show wpAny_pure c
 | some v=>
  show wpAny_bind (wpAny_mono c (λ_ s2 f=>wpAny_bind (wpAny_mono f (λ_ s3 g=>?_) λ_ _ z=>z.elim)) λ_ _ z=>z.elim);show wpAny_bind (wpAny_tests_one (wpAny_mono g (λb s3' a=>?_) λ_ _ z=>z.elim));cases b with
  | true=>show wpAny_bind (wpAny_bind (wpAny_mono a (λx s4 e=>(wpAny_bind (wpAny_mono e (λ_ s5 i=>(wpAny_pure (wpAny_pure ⟨rfl,i⟩))) λ_ _ z=>z.elim))) λ_ _ z=>z.elim))
  | false=>show wpAny_bind (wpAny_pure (wpAny_pure ⟨rfl,a⟩))
end
def Jgk(k:Nat)(cs:List (Nat × Str))(wi:TI)(g:TG)(tt:TT)(te:TE):TE:=λσ H Q=>wi σ H λJ H1=>∃ W:Nat->Nat->List V->Hp->Prop,(∃ m,W 0 m [] H1)/\∀ i m ys H2,W i m ys H2->ys.length<=sizeLine /\
  ((J.stop i H2/\∀ p,H2 p=none->Q (.ref p) (upd H2 p (.lst ys))) \/
   (J.go i H2/\∀ x H3,J.yld i H2 x H3->g x (List.replicate k none++Jaz cs σ) H3 λσ4 H4=>tt σ4 H4 λb H5=>if b=true then te σ4 H5 λy H6=>∃ m',m'<m/\W (i+1) m' (ys++[y]) H6 else∃ m',m'<m/\W (i+1) m' ys H5))
variable{tst:Expr}{tt:TT}
theorem Jd3{g:TG}{it:Addr}
  {W:Nat->Nat->List V->Hp->Prop} {m0:Nat} {QN:List V->Hp->Prop} {RR:Value->Addr->Result->Shared->Prop} {E:Value->Shared->Prop} (hc:X.calm=true)
  (hg:∀ fp s2 H2 C,PG (X.inc (own++cs.map (·.2)) scope cl fp s2 H2 C) tg g) (ht:∀ fp s2 H2 C,PT (X.inc (own++cs.map (·.2)) scope cl fp s2 H2 C) tst tt) (he:∀ fp s2 H2 C,PE (X.inc (own++cs.map (·.2)) scope cl fp s2 H2 C) elt te)
  (hcell:∀ y∈scope.names,y.2≠.cell) (hkind:scope.kind=.function)
  (hcl:∀ x c,cl.lookup x=some c->X.env.cells.lookup x=some c) (hhas:∀ y,((relabel scope X.env).names.lookup y=some .cell\/(relabel scope X.env).names.lookup y=some .free)->∃ c,cl.lookup y=some c)
  (hcs:∀ p∈cs,X.N[p.1]?=some p.2/\X.env.scope.names.lookup p.2=some .cell/\(relabel scope X.env).names.lookup p.2=some .cell)
  (I2:Inv X pins σ H2 s2) (T:Turn X.prog X.w X.K tg J fp it tn) (st2:tn 0 s2.heap) (f2:∀ b∈fp,FpOk X pins H2 b) (w0:W 0 m0 [] H2)
  (turn:∀ i m ys H2,W i m ys H2->ys.length<=sizeLine/\((J.stop i H2/\QN ys H2)\/(J.go i H2/\∀ x H3,J.yld i H2 x H3->g x (List.replicate own.length none++Jaz cs σ) H3 λσ4 H4=>tt σ4 H4 λb H5=>if b=true then te σ4 H5 λy H6=>∃ m',m'<m/\W (i+1) m' (ys++[y]) H6 else∃ m',m'<m/\W (i+1) m' ys H5)))
  (hRR:∀(D C:Addr)(s6:Shared)(H5:Hp)(ys:List V),(∀ h7,Heap.SameBut C s6.heap h7->Inv X pins σ (upd H5 D (.lst ys)) { s6 with heap:=h7 })->H5 D=none->H5 C=none->D≠C->(∃ m,s6.heap.Ns C m)->s2.heap.objs.size<=C->QN ys H5->RR (.ref D) C (.ok .next) s6) :
  wpAny (model X.prog X.w) X.A (newList []) (λacc s₃=>wpAny (model X.prog X.w) X.A (newFunctionEnv scope X.env.globals cl [] X.env.qual none .none (some X.env)) (λcenv s₄=>
   codeAny (model X.prog X.w) X.A (.compStart (.ListComp elt [⟨tg,iter,[tst],0⟩] scope pos) 0 (.ref it) acc { cenv with scope:=relabel scope X.env }) (RR acc cenv.locals) s₄) E s₃) E s2:=by
 have L:∀ b∈fp,b<s2.heap.objs.size:=λb d=>by
  let(o,e,_):=T.obj _ _ st2 b d;show Heap.lt_size e
 show wpAny_newObj_type (wpAny_newFunctionEnv hcell (by intro y hy;simp at hy) (λh4 t j=>?_) hkind);dsimp only at t j ⊢;generalize hH3:s2.heap.push { cls:=.type "list",dict:=none,data:=.seq ([]:List Value).toArray }=H3 at t j ⊢;have a5:H3.objs.size=s2.heap.objs.size+1:=by rw[<- hH3,Heap.size_push]
 have hC:s2.heap.objs.size<=H3.objs.size:=by ac_nf
 have l:s2.heap.objs.size≠H3.objs.size:=by ac_nf
 have S:∀ b o,s2.heap.get? b=some o->h4.get? b=some o:=λb o e=>j.extBut b o (by have:=Heap.lt_size e;show Nat.ne_of_lt (Nat.lt_of_lt_of_le this hC)) (Heap.get?_push_of_some _ (hH3 ▸ Heap.get?_push_of_some _ e));have a4:h4.get? s2.heap.objs.size=some { cls:=.type "list",data:=.seq ([]:List Value).toArray }:=j.extBut _ _ l (Heap.get?_push_of_some _ (hH3 ▸ Heap.get?_push_size _ rfl));obtain⟨D,h⟩:∃ D,D=s2.heap.objs.size:=⟨_,rfl⟩;obtain⟨C,b0⟩:∃ C,C=H3.objs.size:=⟨_,rfl⟩;rw[<- b0]at a5 t j hC l ⊢;rw[<- h]at L a5 hC l a4 ⊢;have M:=I2.incOk (N':=own++cs.map (·.2)) (C:=C) f2 (λb d=>by rw[<- h];show L b d) hkind (by rw[<- h];show hC) hcl hhas;have I4:Inv (X.inc (own++cs.map (·.2)) scope cl fp s2 H2 C) [] (List.replicate own.length none++Jaz cs σ) H2 { s2 with heap:=h4,toks:=s2.toks+([]:List (Str × Value)).length } :=
  I2.incStart (s4:={ s2 with heap:=h4,toks:=s2.toks+([]:List (Str × Value)).length }) M S rfl rfl t (by rw[<- h];show hC) hcl hcs
 have Dfree:H2 D=none:=I2.hok.fresh (Nat.le_of_eq h.symm);have O:∀ b o,s2.heap.get? b=some o->b≠D:=λb o e=>by
  rw[h];show Nat.ne_of_lt (Heap.lt_size e)
 have b1:∀ b o,s2.heap.get? b=some o->b≠C:=λb o e=>Nat.ne_of_lt (Nat.lt_of_lt_of_le (by rw[h];show Heap.lt_size e) hC);have Dfs:D∉frs X.stack:=λhm=>by
  let(_,o,e,_):=I2.stack.mem hm;show O _ _ e rfl
 have F:∀{σ':St}{H':Hp}{s':Shared}{us:List Value}{n:Nat}{pl:List (Addr × Obj)},Inv (X.inc (own++cs.map (·.2)) scope cl fp s2 H2 C) pl σ' H' s'->s'.heap.get? D=some { cls:=.type "list",data:=.seq us.toArray n }->H' D=none ->
   Inv (X.inc (own++cs.map (·.2)) scope cl fp s2 H2 C) [(D,{ cls:=.type "list",data:=.seq us.toArray n })] σ' H' s':=λ{σ' H' s' us n pl} J' e n'=>J'.pins_of λp Z=>by
  rcases mem_singleton.mp Z with rfl
  show(e,n',l,Dfs,λv z=>by cases z)
 have G:∀{H':Hp}{o:Obj},(∀ b∈fp,H' b=none)->∀ b∈fp,FpOk (X.inc (own++cs.map (·.2)) scope cl fp s2 H2 C) [(D,o)] H' b:=λ{H' o} hn b d=>by
  show(hn b d,(M.exf b d).1,M.exfs b d, .inl d,(M.exf b d).2,λp Z=>?_);rcases mem_singleton.mp Z with rfl
  show Nat.ne_of_gt (L b d)
 have P:∀ s3:Shared,s3={ s2 with heap:=h4,toks:=s2.toks+([]:List (Str × Value)).length } ->
   codeAny (model X.prog X.w) X.A (.compLoop (.ListComp elt [⟨tg,iter,[tst],0⟩] scope pos) 0 (.ref it) (.ref D) (compEnvC scope cl C X.env)) (RR (.ref D) C) s3:=by
  rintro s3 rfl;show Jgr (λn s'=>∃ i ys us I H',Inv (X.inc (own++cs.map (·.2)) scope cl fp s2 H2 C) [(D,{ cls:=.type "list",data:=.seq us.toArray I })] (List.replicate own.length none++Jaz cs σ) H' s'/\tn i s'.heap/\(∀ b∈fp,H' b=none)/\Vals ys us/\W i n ys H') ?_ m0
   ⟨0,[],[],0,H2,F (us:=[]) (n:=0) I4 a4 Dfree,T.keep _ _ _ st2 λb d o e=>S b o e,λb d=>(f2 b d).1, .nil,w0⟩
  rintro n s5 ⟨i,ys,us,I,H5,I5,a2,a6,vy,w5⟩;obtain⟨hz,⟨stop,qn⟩ | ⟨go,a3⟩⟩:=turn i n ys H5 w5
  .show wpAny_mono (T.done (X.inc (own++cs.map (·.2)) scope cl fp s2 H2 C) rfl rfl rfl hc i _ s5 _ H5 (λ_ _=>False) I5 (G a6) a2 stop) (λr s6 z=>?_) λ_ _ z=>z;let(rfl,I6):=z;let(m6,b5,_):=id I6.loc;let(pD,U,_,_,_):=I6.pin (D,{ cls:=.type "list",data:=.seq us.toArray I }) (by simp);have Cfree:H5 C=none:=I6.free;show hRR D C s6 H5 ys (λh7 b3=>?_) U Cfree l ⟨m6,b5⟩ (by rw[<- h];show hC) qn;have k:∀ b,b≠C->h7.get? b=s6.heap.get? b:=λb d=>b3.2 b d;have Y:=b1;have u7:Un (frs X.stack) fp H2 H5 s2.heap h7:=⟨λb o e n1 n2 n3=>(k b (Y b o e)).trans (I6.base.keep b o e n1 n2 n3),λb o e n1 n2 n3=>by
     let(sl,z):=I6.base.slot b o e n1 n2 n3;show(sl,(k b (Y b o e)).trans z),I6.base.free,λb o e n1=>by
     let(o',z):=I6.base.there b o e n1;show(o',(k b (Y b o e)).trans z),I6.base.tups,I6.base.frzs,I6.base.tbls⟩
   have a8:HOk X.prog X.w H5 h7:=λa o e=>by
    show(I6.hok a o e).stay (λc v a9 q=>(k c ?_).trans q) (λ_ q=>q) λ_ _ q=>q;rintro rfl;rcases a9 with z | z
    .rw[<- z]at e;rw[Cfree]at e;cases e
    .rw[Cfree]at z;cases z
   have I7:Inv X pins σ H5 { s6 with heap:=h7 }:=I2.call' (s':={ s6 with heap:=h7 }) I6.os u7 a8 I6.bare λb d=>⟨(f2 b d).2.2.2.1,(f2 b d).2.1,(f2 b d).2.2.2.2.1,(f2 b d).2.2.2.2.2⟩;show I7.track (a:=D) (o:=.lst ys) U (Heap.get?_none_of_le (by rw[h];show I2.sz)) (by rw[h];show Nat.ne_of_gt I2.lt) (λx c e z=>by
     let(v,o,ho,_):=I2.cell x c e;show O _ _ ho z) (λp Z z=>O _ _ (I2.pin p Z).1 z) ⟨hz,us,I,vy,(k D l).trans pD⟩
  .show wpAny_mono (T.item (X.inc (own++cs.map (·.2)) scope cl fp s2 H2 C) rfl rfl rfl hc i _ s5 _ H5 (λ_ _=>False) I5 (G a6) a2 go) (λr s6 z=>?_) λ_ _ z=>z;let(u,rfl,z):=z;show wpAny_mono z (λ_ s7 ζ=>?_) λ_ _ z=>z;let(x,H7,I7,r7,y7,B,b4):=ζ;have I7':=I7.pinned (G b4) (T.obj _ _ B);show wpAny_mono (hg fp s2 H2 C _ s7 _ H7 x u _ I7' r7 (a3 x H7 y7)) (λ_ s8 ⟨σ8,H8,I8,q8⟩=>?_) λ_ _ z=>z;show wpAny_mono (ht fp s2 H2 C _ s8 σ8 H8 _ I8 q8) (λbb a0 ⟨H,I8',a7⟩=>?_) λ_ _ z=>z;cases bb with
   | true=>
    show wpAny_mono (he fp s2 H2 C _ a0 σ8 H _ I8' a7) (λuy s9 ζ=>?_) λ_ _ z=>z;let(y,H9,I9,r9,m',a1,w9):=ζ;let(pD,U,_,_,_):=I9.pin (D,{ cls:=.type "list",data:=.seq us.toArray I }) (by simp);show append_at (its:=us.toArray) (n:=I) pD (λb2 R Q=>?_) (by rw[size_toArray, <- vy.length];show hz);have f:∀ b∈fp, ∀ o,s7.heap.get? b=some o->s9.heap.get? b=some o/\H9 b=none:=λb d o e=>by
     have z:=I9.pin (b,o) (mem_append_right _ (mem_append_right _ (JbW d e)));show(z.1,z.2.1)
    have I9':Inv (X.inc (own++cs.map (·.2)) scope cl fp s2 H2 C) [] (List.replicate own.length none++Jaz cs σ) H9 s9:=I2.incAgain I9 f2 hcl hcs;have I10:Inv (X.inc (own++cs.map (·.2)) scope cl fp s2 H2 C) [] (List.replicate own.length none++Jaz cs σ) H9 { s9 with heap:=b2 }:=I9'.turned (it:=D) (t':=s9.toks) (λb o d e=>(R.2 b d).trans e) U l (.inr (Nat.le_of_eq h.symm)) (λx c e z=>by
      let(v,o,ho,_):=I2.cell x c (hcl x c e);show O _ _ ho z) λp Z=>by simp at Z
    rw[lstP]at Q;show(m',a1,i+1,ys++[y],us++[uy],I+1,H9,F I10 Q U,T.keep _ _ _ B λb d o e=>?_,λb d=>?_,vy.append (.cons r9 .nil),w9)
    .show(R.2 b (Nat.ne_of_lt (L b d))).trans (f b d o e).1
    .let(o,e,_):=T.obj _ _ B b d;show(f b d o e).2
   | false=>
    let(m',a1,w9):=a7;let(pD,U,_,_,_):=I8'.pin (D,{ cls:=.type "list",data:=.seq us.toArray I }) (by simp);have f:∀ b∈fp, ∀ o,s7.heap.get? b=some o->a0.heap.get? b=some o/\H b=none:=λb d o e=>by
     have z:=I8'.pin (b,o) (mem_append_right _ (mem_append_right _ (JbW d e)));show(z.1,z.2.1)
    have I9':Inv (X.inc (own++cs.map (·.2)) scope cl fp s2 H2 C) [] (List.replicate own.length none++Jaz cs σ) H a0:=I2.incAgain I8' f2 hcl hcs;show(m',a1,i+1,ys,us,I,H,F I9' pD U,T.keep _ _ _ B λb d o e=>(f b d o e).1,λb d=>?_,vy,w9);let(o,e,_):=T.obj _ _ B b d;show(f b d o e).2
 show codeAny_compStart_list (P _ rfl) (T.self _ 0 _ _ _ (T.keep _ _ _ st2 λb d o e=>S b o e) (P _ rfl))
theorem Jev{g:TG}(hN:X.N.Nodup)(hj:X.N[j]?=some y)(hy:Loc X.env.scope y)(hc:X.calm=true)(hi:PI X tg iter wi)
  (hg:∀ fp s2 H2 C,PG (X.inc (own++cs.map (·.2)) scope (Jbo X.env.cells scope.names []) fp s2 H2 C) tg g) (ht:∀ fp s2 H2 C,PT (X.inc (own++cs.map (·.2)) scope (Jbo X.env.cells scope.names []) fp s2 H2 C) tst tt) (he:∀ fp s2 H2 C,PE (X.inc (own++cs.map (·.2)) scope (Jbo X.env.cells scope.names []) fp s2 H2 C) elt te)
  (hfree:∀ p∈scope.names,p.2=.free->X.env.scope.names.lookup p.1=some .cell) (hcell:∀ y∈scope.names,y.2≠.cell) (hkind:scope.kind=.function) (hnames:∀ y∈scope.names,y.2=.local->scope.names.lookup y.1=some .local)
  (hcs:∀ p∈cs,X.N[p.1]?=some p.2/\X.env.scope.names.lookup p.2=some .cell/\(relabel scope X.env).names.lookup p.2=some .cell)
  (hsw:autoParam (swapsWith (.ListComp elt [⟨tg,iter,[tst],0⟩] scope pos) (some (.Name y py)) spos.line X.env=pure true) Au)
  (hs:autoParam (∀ x,foldedSetIterable iter X.env x=pure x) Aw) (hf:X.fn y=true\/X.env.scope.names.lookup y=some .local:=by first | show .inl rfl | show .inr rfl) :
  PS X (.Assign [.Name y py] (.ListComp elt [⟨tg,iter,[tst],0⟩] scope pos) spos) (tAsg (Jgk own.length cs wi g tt te) (gName j)):=by
 intro d s σ H D I h;have k:∀ p∈scope.names,p.2=.free->∃ c,X.env.cells.lookup p.1=some c:=λp E hk=>I.ok.has p.1 (.inl (hfree p E hk));have n:=Jco (cells:=X.env.cells) scope.names [] (λ_ _ z=>by simp at z) k;rw[exec_Assign_Name_used _ _ _ _ hsw];show wpAny_bind (wpAny_standAt (wpAny_bind ?_));show wpAny _ X.A (do let _ <- comprehension (.ListComp elt [⟨tg,iter,[tst],0⟩] scope pos) scope X.env _ (newList []) false (eval iter X.env) (some (assign (.Name y py) X.env))) _ _ s;show wpAny_bind (wpAny_mono (wpAny_comprehension_free (use:=some (assign (.Name y py) X.env)) (Q:=λ_ L=>SP X d D .next L) rfl hs (Je9 k) hkind hnames
  (thn (hi d s σ H _ I h) λv s1 h1=>thn h1 λM s2 O=>?_)) (λ_ L hq=>wpAny_pure (wpAny_pure hq)) λ_ _ e=>e)
 let(it,fp,tn,J,H2,rfl,I2,T,B,f2,W,(m0,w0),i):=O;show Jd3 (QN:=λt l=>∀ p,l p=none->D.nx (σ.set j (some (.ref p))) (upd l p (.lst t))) hc hg ht he hcell hkind n (λz P=>Jcn scope.names [] z (.inr (Jgy hcell P))) hcs I2 T B f2 w0 i ?_;intro D' C m l t K dN U R Y f q;let(S,w):=Y;have I8:Inv X d σ (upd l D' (.lst t)) m:=K m.heap (Heap.SameBut.refl _ _);show wpAny _ X.A (assign (.Name y py) X.env (.ref D')) _ _ m;show wpAny_assign_Name (JeF (v:=.ref D') I8 hN hj hy rfl (λZ I7 r=>?_) hf);let(a,sb,u):=r;have nC:C≠a:=by
  rcases u with rfl | u
  .show Nat.ne_of_gt (Nat.lt_of_lt_of_le I2.lt f)
  .let(v,o,G,_):=I2.cell y a u;show Nat.ne_of_gt (Nat.lt_of_lt_of_le (Heap.lt_size G) f)
 show(S,w.sameBut sb nC,λh8 F=>⟨_,_,?_,q D' dN⟩);show I7.turned (it:=C) (t':=Z.toks) (λb o V e=>(F.2 b V).trans e) (by rw[Jag (Ne.symm R)];show U) (Nat.ne_of_gt (Nat.lt_of_lt_of_le I2.lt f)) (.inr (Nat.le_trans I2.sz f)) (λx c e z=>by
  let(v,o,G,_):=I2.cell x c e;show absurd (Nat.lt_of_lt_of_le (Heap.lt_size G) f) (by rw[z];show Nat.lt_irrefl _)) (λp E z=>absurd (Nat.lt_of_lt_of_le (Heap.lt_size (I2.pin p E).1) f) (by rw[z];show Nat.lt_irrefl _))
section
variable{h':Heap}{s:Shared}
theorem Inv.turnedL{t':Nat}{ch:List Addr}(I:Inv X pins σ H s)(k:∀ b o,b∉ch->s.heap.get? b=some o->h'.get? b=some o)(hf:∀ b∈ch,FpOk X pins H b):Inv X pins σ H { s with heap:=h',toks:=t' }:=by
 have d:∀ b u,H b=some u->b∉ch:=λb u e z=>by rw[(hf b z).1]at e;cases e
 show I.step (g':=s.gens) (d':=s.drawn) (ch:=ch) (λb j=>?_) (λb o _ _ a e _=>k b o a e) (λb o _ _ a e _=>⟨o.slots,k b o a e⟩) (λ_ _ _ _ n=>n)
  (λb o a e=>⟨o,k b o a e⟩) (λ_ _ e=>e) (λ_ _ _ e=>e) (λb x e=>⟨#[],by rw[e];simp⟩) (λm l=>?_) (λb u e=>?_) I.bare
 .let(_,f,_,p,i,w):=hf b j;show(p,f,i,w)
 .let(o,h,g,t,r):=l;show(o,h,g,k _ o (λz=>(hf _ z).2.1 rfl) t,r)
 .show(I.hok b u e).stay (λc v a q=>k c v ?_ q) (λ_ q=>q) λ_ _ q=>q;rcases a with z | z
  .rw[z];show d b u e
  .show d c _ z
end
theorem za(n a b:Nat)(h1:a<n)(h2:b<n):ZipApart (n+4) (n+2) (n+3) n (n+1) a b where
 TIz:=Nat.ne_of_lt (show n+2<n+4 by ac_nf)
 TOz:=Nat.ne_of_lt (show n+3<n+4 by ac_nf)
 i1z:=Nat.ne_of_lt (show n<n+4 by ac_nf)
 i2z:=Nat.ne_of_lt (show n+1<n+4 by ac_nf)
 TITO:=Nat.ne_of_lt (show n+2<n+3 by ac_nf)
 TIi1:=Nat.ne_of_gt (show n<n+2 by ac_nf)
 TIi2:=Nat.ne_of_gt (show n+1<n+2 by ac_nf)
 TOi1:=Nat.ne_of_gt (show n<n+3 by ac_nf)
 TOi2:=Nat.ne_of_gt (show n+1<n+3 by ac_nf)
 i12:=Nat.ne_of_lt (show n<n+1 by ac_nf)
 l1z:=Nat.ne_of_lt (show a<n+4 by ac_nf)
 l1TO:=Nat.ne_of_lt (show a<n+3 by ac_nf)
 l1i1:=Nat.ne_of_lt (show a<n by ac_nf)
 l1i2:=Nat.ne_of_lt (show a<n+1 by ac_nf)
 l2z:=Nat.ne_of_lt (show b<n+4 by ac_nf)
 l2TO:=Nat.ne_of_lt (show b<n+3 by ac_nf)
 l2i1:=Nat.ne_of_lt (show b<n by ac_nf)
 l2i2:=Nat.ne_of_lt (show b<n+1 by ac_nf)
def Itz(K:W.Frag)(a b:Addr):It :=
  ⟨λi H=>∃ xs ys x y,SqL K H a xs/\SqL K H b ys/\xs[i]?=some x/\ys[i]?=some y,
   λi H v H'=>∃ p x y,(∀ xs,SqL K H a xs->xs[i]?=some x)/\(∀ ys,SqL K H b ys->ys[i]?=some y)/\H p=none/\v=.ref p/\H'=upd H p (.tup [x,y]),
   λi H=>∃ xs ys,SqL K H a xs/\SqL K H b ys/\(xs.length<=i\/ys.length<=i)⟩
variable{elts:List Expr}{x1:Nat}{tp:Pos}
theorem Jkb{w:World}{K:W.Frag}{z TI TO i1 i2 a b:Addr}(D:ZipApart z TI TO i1 i2 a b) :
  Turn P w K (.Tuple elts x1 tp) (Itz K a b) [z,TI,TO,i1,i2] z (λi h=>IsZip h z TI TO .none/\IsPair h TI (.ref i1) (.ref i2)/\(∃ u v,IsPair h TO u v)/\h.IsListIter i1 a i/\h.IsListIter i2 b i) where
 mem:=by simp
 obj:=λi h r c f=>by
  let(m,g,(u,v,j),B,F):=r;simp only[mem_cons,not_mem_nil,or_false]at f;rcases f with rfl | rfl | rfl | rfl | rfl
  .show(_,m,λv z=>by cases z)
  .show(_,g,λv z=>by cases z)
  .show(_,j,λv z=>by cases z)
  .let(o,e,c,d):=B;show(o,e,λv z=>by rw[d]at z;cases z)
  .let(o,e,c,d):=F;show(o,e,λv z=>by rw[d]at z;cases z)
 keep:=λi h h' r k=>by
  let(m,g,(u,v,j),B,F):=r;show(k z (by simp) _ m,k TI (by simp) _ g,⟨u,v,k TO (by simp) _ j⟩,B.at λo e=>k i1 (by simp) o e,F.at λo e=>k i2 (by simp) o e)
 item:=by
  intro X U O hK f i C s σ H E I L r T;subst U O hK;let(m,g,(u,v,j),B,F):=r;let(xs,ys,x,y,M,J,hx,hy):=T;let(a8,rx,px,zx):=I.list M;let(V,ry,py,zy):=I.list J;let(Z,R,a7):=rx.get hx;let(uy,a9,S):=ry.get hy;show wpAny_pyNext_zip_item D m g j B F px.isList py.isList (x:=Z) (y:=uy) (by simpa using R) (by simpa using a9) λh' a1 a2 a3 a4 a5 a6 N=>?_;show(_,rfl,?_);show wpAny_letOwnedTupleGo_zip (s:={ s with heap:=h' }) a1 λG a0 l=>?_;have t:∀{c o},s.heap.get? c=some o->c≠s.heap.objs.size:=λe=>Nat.ne_of_lt (Heap.lt_size e);have nz:s.heap.objs.size≠z:=λq=>t m q.symm;have I1:Inv X C σ H { s with heap:=G,toks:=s.toks }:=I.turnedL (ch:=[z,TI,TO,i1,i2]) (λc o f e=>by
   simp only[mem_cons,not_mem_nil,or_false,not_or]at f;show l.extBut _ _ f.1 (N c o f.1 f.2.2.1 f.2.2.2.1 f.2.2.2.2 e)) L
  have fr:H s.heap.objs.size=none:=I.hok.fresh (Nat.le_refl _);have hT:G.get? s.heap.objs.size=some { cls:=.type "tuple",data:=.seq #[Z,uy] }:=l.extBut _ _ nz a5;have I2:=I1.track (a:=s.heap.objs.size) (o:=.tup [x,y]) fr (Heap.get?_none_of_le I.sz) (Nat.ne_of_gt I.lt) (λn c e q=>by
   let(v,o,ho,_):=I.cell n c e;show t ho q) (λp hp q=>t (I.pin p hp).1 q) ⟨by show 2<=sizeLine;decide,[Z,uy], .cons a7 (.cons S .nil),⟨_,hT,rfl,_,rfl⟩⟩
  show(.ref s.heap.objs.size,_,I2,rfl,⟨_,x,y,λzs q=>by rw[I.list_inj q M];show hx,λzs q=>by rw[I.list_inj q J];show hy,fr,rfl,rfl⟩,?_,λc f=>?_)
  .show(a0,l.extBut _ _ D.TIz (N _ _ D.TIz D.TITO D.TIi1 D.TIi2 g),⟨_,_,l.extBut _ _ D.TOz a2⟩,a3.extBut l.extBut D.i1z,a4.extBut l.extBut D.i2z)
  .have ne:c≠s.heap.objs.size:=by
    simp only[mem_cons,not_mem_nil,or_false]at f;rcases f with rfl | rfl | rfl | rfl | rfl
    .show t m
    .show t g
    .show t j
    .let(o,e,_):=B;show t e
    .let(o,e,_):=F;show t e
   rw[Jag ne];show(L c f).1
 done:=by
  intro X U O hK f i C s σ H E I L r T;subst U O hK;let(m,g,(u,v,j),B,F):=r;let(xs,ys,M,J,Y):=T;let(a8,rx,px,zx):=I.list M;let(V,ry,py,zy):=I.list J;have lx:=rx.length;have ly:=ry.length;show wpAny_pyNext_zip_end (I.ok.hd f) D m g j B F px.isList py.isList (by
   rcases Y with Y | Y
   .show .inl (by simp;ac_nf)
   .show .inr (by simp;ac_nf)) λh' N=>⟨rfl,?_⟩
  show I.turnedL (t':=s.toks) (ch:=[z,TI,TO,i1,i2]) (λc o f e=>by
   simp only[mem_cons,not_mem_nil,or_false,not_or]at f;show N c o f.1 f.2.2.1 f.2.2.2.1 f.2.2.2.2 e) L
 self:=λA i s Q E r q=>wpAny_pyIter_zip r.1 q
def iZip(K:W.Frag)(ta:TA):TI:=λσ H R=>ta σ H λvs H1=>∃ a b,vs=[.ref a, .ref b]/\(∃ xs,SqL K H1 a xs)/\(∃ ys,SqL K H1 b ys)/\R (Itz K a b) H1
variable{ta:TA}
theorem JmE{a b:Expr}{p:Pos}(hg:Gl X "zip")(hm:X.mg "zip"=none)(hv:bootBuiltins "zip"=some (.type "zip"))(ha:PA X [a,b] ta)
  (he:autoParam (starEach [a,b] X.env=(false,eval a X.env)::starEach [b] X.env) Au) (hpl:autoParam ((backTo pos (starEach [b] X.env)).any (·.1)=false) Au) :
  PI X (.Tuple elts x1 tp) (.Call (.Name "zip" p) [a,b] [] pos) (iZip X.K ta):=by
 intro f s σ H R I h;show wpAny_Call_Name_kw (Jea I hg hm hv ?_);show PyProof.Rows.callWith_type1 (thn (ha pos f s σ H _ I h) λW d ζ=>?_) he hpl;let(M,L,I1,t,D):=ζ;let(j,i,e,(V,y),(Q,A),q):=D;subst e;let(u,v,rfl,G,x):=vals2 t;cases(show u=Value.ref j from G);cases(show v=Value.ref i from x);let(C,P,n,T):=I1.list y;let(w,N,m,O):=I1.list A;have z:j<d.heap.objs.size:=by let(_,e,_):=n.isList;show Heap.lt_size e
 have r:i<d.heap.objs.size:=by let(_,e,_):=m.isList;show Heap.lt_size e
 show call_zip_2 n.isList m.isList λS l E o F B U J=>?_;have ZA:ZipApart (d.heap.objs.size+4) (d.heap.objs.size+2) (d.heap.objs.size+3) d.heap.objs.size (d.heap.objs.size+1) j i:=za _ j i z r;show wpAny_pyIter_zip l ?_;show(d.heap.objs.size+4,[d.heap.objs.size+4,d.heap.objs.size+2,d.heap.objs.size+3,d.heap.objs.size,d.heap.objs.size+1],_,_,L,rfl,I1.kept (t':=d.toks) J,Jkb ZA,⟨l,E,⟨_,_,o⟩,F,B⟩,λc k=>?_,q);have g:d.heap.objs.size<=c:=by
  simp only[mem_cons,not_mem_nil,or_false]at k;rcases k with rfl | rfl | rfl | rfl | rfl
  .show Nat.le_add_right _ _
  .show Nat.le_add_right _ _
  .show Nat.le_add_right _ _
  .show Nat.le_refl _
  .show Nat.le_add_right _ _
 show I1.fpOk g (I1.hok.fresh g)
section
variable{ty tv tx:TE}{En:Ends}{td:TE}{K:W.Frag}
theorem y3fy:tDGet td ty σ H Q=td σ H λx H1=>ty σ H1 λy H2=>∃ a v,x=.ref a/\DGet H2 a y (some v)/\Q v H2:=rfl
theorem y48y:sDPut td ty tv En σ H=tv σ H λv H1=>td σ H1 λx H2=>ty σ H2 λy H3=>∃ a H4,x=.ref a/\DPut H3 a y v H4/\En.nx σ H4:=rfl
theorem y44y:JkE σ H Q=∀ p,H p=none->Q (.ref p) (upd H p (.dK [])):=rfl
end
theorem hu1{a b:Nat}(h:a+64<b):a+1<b:=by ac_nf
def rMul0:R2:=λx y H Q=>match x,y with
 | .str z, .int n=>0<=n/\n<1000/\z.length<=1000/\∀ z':Str,z'.cps.toList=(List.replicate n.toNat z.cps.toList).flatten->Q (.str z') H
 | x,y=>rMulS x y H Q
theorem JaC:OpR X (binaryOp .Mult) rMul0:=λa s σ H x y v u Q I c b q=>by
 unfold rMul0 at q;split at q
 .rename_i z n;let(h,e,d,q):=q;by_cases f:n=0
  .subst f;let(t,rfl):=c;let(g,rfl):=b;show PySem.P.mul_str_none ⋯ ⋯ ⟨.str _,H,I.tok _,⟨_,rfl⟩,q Str.empty rfl⟩
  .show JiO a s σ H _ _ v u Q I c b ⟨by ac_nf,e,d,q⟩
 .show JiO a s σ H _ _ v u Q I c b q
section
variable{ty:TE}{K:W.Frag}{td:TE}
theorem y6fy{i j:Int}:rMul0 (.int i) (.int j) H Q=(IntMulOk i j/\Q (.int (i*j)) H):=rfl
theorem y40y:JkC td ty σ H Q=td σ H λx H1=>∃ a,x=.ref a/\IsD H1 a/\ty σ H1 λy H2=>∃ o,DGet H2 a y o/\Q (o.getD .non) H2:=rfl
theorem Jhb(h:j<=xs.length):cutV xs (some (j:Int)) none=xs.drop j:=by
 unfold cutV HT.sIx;dsimp only;rw[if_neg ∅];rw[take_of_length_le (by simp)]
 congr 1
 ac_nf
theorem Jl8(h:j<=xs.length):cutV xs none (some (j:Int))=xs.take j:=by
 unfold cutV HT.sIx;dsimp only;rw[if_neg ∅];simp only[List.drop_zero,Nat.sub_zero]
 congr 1
 ac_nf
end
variable{a:Addr}
theorem ForA.byL{K:W.Frag}{g:TG}{D:Ends}(hA:SqL K H a xs)(Pv:Nat->St->Hp->Prop)(h0:Pv 0 σ H)(hl:∀ i σ H',Pv i σ H'->SqL K H' a xs)
  (hs:∀ i x σ H,xs[i]?=some x->Pv i σ H->g x σ H λσ2 H2=>tb { D with nx:=Pv (i+1),ct:=Pv (i+1),bk:=D.nx } σ2 H2) (hd:∀ σ H,Pv xs.length σ H->D.nx σ H):ForA K a g tb D σ H:=by
 show .inl ⟨⟨xs,hA⟩,λi m σ H=>Pv i σ H/\i<=xs.length/\m=xs.length-i,⟨_,h0,Nat.zero_le _,rfl⟩,?_⟩;rintro i m σ H ⟨b,h,rfl⟩;have c:=hl i σ H b;by_cases d:i<xs.length
 .show .inr ⟨⟨xs,xs[i],c,List.getElem?_eq_getElem d⟩,Pv (i+1),λσ' H' p=>⟨_,Nat.sub_lt_sub_left d (Nat.lt_succ_self i),p,d,rfl⟩,?_⟩;rintro x H' ⟨rfl,f⟩;show hs i x σ _ (f xs c) b
 .have e:i=xs.length:=by ac_nf
  subst e;show .inl ⟨⟨xs,c,Nat.le_refl _⟩,hd σ H b⟩
def ForJ(J:It)(g:TG)(tb:TS)(D:Ends)(σ : St)(H:Hp):Prop:=∃ W:Nat->Nat->St->Hp->Prop,(∃ m,W 0 m σ H)/\∀ i m σ H,W i m σ H ->
 (J.stop i H/\D.nx σ H)\/(J.go i H/\∃ N:St->Hp->Prop,(∀ σ' H',N σ' H'->∃ m',m'<m/\W (i+1) m' σ' H')/\∀ x H',J.yld i H x H'->g x σ H' λσ2 H2=>tb { D with nx:=N,ct:=N,bk:=D.nx } σ2 H2)
theorem y57y{K:W.Frag}{g:TG}{D:Ends}:tFor (iZip K ta) g tb D σ H=ta σ H λvs H1=>∃ a b,vs=[.ref a, .ref b]/\(∃ xs,SqL K H1 a xs)/\(∃ ys,SqL K H1 b ys)/\ForJ (Itz K a b) g tb D σ H1:=rfl
theorem ForJ.zip{K:W.Frag}{b:Addr}{ys:List V}{g:TG}{D:Ends}(Pv:Nat->St->Hp->Prop)(h0:Pv 0 σ H)(hl:∀ i σ H',Pv i σ H'->SqL K H' a xs/\SqL K H' b ys)
  (hs:∀ i x y σ H p H',xs[i]?=some x->ys[i]?=some y->Pv i σ H->H p=none->Same H H'->H' p=some (.tup [x,y])->g (.ref p) σ H' λσ2 H2=>tb { D with nx:=Pv (i+1),ct:=Pv (i+1),bk:=D.nx } σ2 H2)
  (hd:∀ σ H,Pv (min xs.length ys.length) σ H->D.nx σ H):ForJ (Itz K a b) g tb D σ H:=by
 show(λi m σ H=>Pv i σ H/\i<=min xs.length ys.length/\m=min xs.length ys.length-i,⟨_,h0,Nat.zero_le _,rfl⟩,?_);rintro i m σ H ⟨f,q,rfl⟩;let(c,d):=hl i σ H f;by_cases h:i<min xs.length ys.length
 .have o:i<xs.length:=by ac_nf
  have k:i<ys.length:=by ac_nf
  show .inr ⟨⟨xs,ys,xs[i],ys[i],c,d,List.getElem?_eq_getElem o,List.getElem?_eq_getElem k⟩,Pv (i+1),λσ' H' p=>⟨_,Nat.sub_lt_sub_left h (Nat.lt_succ_self i),p,h,rfl⟩,?_⟩;rintro v H' ⟨p,x,y,l,n,j,rfl,rfl⟩;show hs i x y σ H p _ (l xs c) (n ys d) f j (newS j rfl) (newE rfl)
 .have e:i=min xs.length ys.length:=by ac_nf
  subst e;show .inl ⟨⟨xs,ys,c,d,by ac_nf⟩,hd σ H f⟩
variable{H1:Hp}
theorem compL{K:W.Frag}{k:Nat}{g:TG}(Pv:Nat->List V->Hp->Prop)(h0:Pv 0 [] H1)(hl:∀ i ys H',i<=xs.length->Pv i ys H'->SqL K H' a xs/\ys.length<=sizeLine)
  (hs:∀ i x ys H2,xs[i]?=some x->Pv i ys H2->g x (List.replicate k none++Jaz cs σ) H2 λσ4 H4=>te σ4 H4 λy H5=>Pv (i+1) (ys++[y]) H5) (hd:∀ ys H2,Pv xs.length ys H2->∀ p,H2 p=none->Q (.ref p) (upd H2 p (.lst ys))) :
  ∃ W:Nat->Nat->List V->Hp->Prop,(∃ m,W 0 m [] H1)/\∀ i m ys H2,W i m ys H2->ys.length<=sizeLine/\(((Itl K a).stop i H2/\∀ p,H2 p=none->Q (.ref p) (upd H2 p (.lst ys))) \/
   ((Itl K a).go i H2/\∀ x H3,(Itl K a).yld i H2 x H3->g x (List.replicate k none++Jaz cs σ) H3 λσ4 H4=>te σ4 H4 λy H5=>∃ m',m'<m/\W (i+1) m' (ys++[y]) H5)):=by
 show(λi m ys H2=>Pv i ys H2/\i<=xs.length/\m=xs.length-i,⟨_,h0,Nat.zero_le _,rfl⟩,?_);rintro i m ys H2 ⟨b,h,rfl⟩;let(c,f):=hl i ys H2 h b;show(f,?_);by_cases d:i<xs.length
 .show .inr ⟨⟨xs,xs[i],c,List.getElem?_eq_getElem d⟩,?_⟩;rintro x H3 ⟨rfl,j⟩;have e:(λ(σ4:St)(H4:Hp)=>te σ4 H4 λy H5=>Pv (i+1) (ys++[y]) H5)=λσ4 H4=>te σ4 H4 λy H5=>∃ m',m'<xs.length-i/\Pv (i+1) (ys++[y]) H5/\i+1<=xs.length/\m'=xs.length-(i+1):=by
   funext σ4 H4
   congr 1
   funext y H5
   show propext ⟨λq=>⟨_,Nat.sub_lt_sub_left d (Nat.lt_succ_self i),q,d,rfl⟩,λζ=>by let(_,_,q,_):=ζ;show q⟩
  rw[<- e];show hs i x ys _ (j xs c) b
 .have e:i=xs.length:=by ac_nf
  subst e;show .inl ⟨⟨xs,c,Nat.le_refl _⟩,hd ys H2 b⟩
theorem Jl7{K:W.Frag}{k:Nat}{g:TG}(Pv:Nat->List V->Hp->Prop)(h0:Pv 0 [] H1)(hl:∀ i ys H',i<=xs.length->Pv i ys H'->SqL K H' a xs/\ys.length<=sizeLine)
  (hs:∀ i x ys H2,xs[i]?=some x->Pv i ys H2->g x (List.replicate k none++Jaz cs σ) H2 λσ4 H4=>tt σ4 H4 λb H5=>if b=true then te σ4 H5 λy H6=>Pv (i+1) (ys++[y]) H6 else Pv (i+1) ys H5) (hd:∀ ys H2,Pv xs.length ys H2->∀ p,H2 p=none->Q (.ref p) (upd H2 p (.lst ys))) :
  ∃ W:Nat->Nat->List V->Hp->Prop,(∃ m,W 0 m [] H1)/\∀ i m ys H2,W i m ys H2->ys.length<=sizeLine/\(((Itl K a).stop i H2/\∀ p,H2 p=none->Q (.ref p) (upd H2 p (.lst ys))) \/
   ((Itl K a).go i H2/\∀ x H3,(Itl K a).yld i H2 x H3->g x (List.replicate k none++Jaz cs σ) H3 λσ4 H4=>tt σ4 H4 λb H5=>if b=true then te σ4 H5 λy H6=>∃ m',m'<m/\W (i+1) m' (ys++[y]) H6 else∃ m',m'<m/\W (i+1) m' ys H5)):=by
 show(λi m ys H2=>Pv i ys H2/\i<=xs.length/\m=xs.length-i,⟨_,h0,Nat.zero_le _,rfl⟩,?_);rintro i m ys H2 ⟨h,r,rfl⟩;let(j,l):=hl i ys H2 r h;show(l,?_);by_cases d:i<xs.length
 .show .inr ⟨⟨xs,xs[i],j,List.getElem?_eq_getElem d⟩,?_⟩;rintro x H3 ⟨rfl,o⟩;have w:∀(f:List V)(H5:Hp),Pv (i+1) f H5=∃ m',m'<xs.length-i/\Pv (i+1) f H5/\i+1<=xs.length/\m'=xs.length-(i+1):=λf H5=>
   propext ⟨λq=>⟨_,Nat.sub_lt_sub_left d (Nat.lt_succ_self i),q,d,rfl⟩,λζ=>by let(_,_,q,_):=ζ;show q⟩
  have n:(λ(y:V)(H6:Hp)=>Pv (i+1) (ys++[y]) H6)=λy H6=>∃ m',m'<xs.length-i/\Pv (i+1) (ys++[y]) H6/\i+1<=xs.length/\m'=xs.length-(i+1):=by
   funext y H6
   show w _ _
  have e:(λ(σ4:St)(H4:Hp)=>tt σ4 H4 λb H5=>if b=true then te σ4 H5 λy H6=>Pv (i+1) (ys++[y]) H6 else Pv (i+1) ys H5)=λσ4 H4=>tt σ4 H4 λb H5=>if b=true then te σ4 H5 λy H6=>∃ m',m'<xs.length-i/\Pv (i+1) (ys++[y]) H6/\i+1<=xs.length/\m'=xs.length-(i+1)else∃ m',m'<xs.length-i/\Pv (i+1) ys H5/\i+1<=xs.length/\m'=xs.length-(i+1):=by
   funext σ4 H4
   congr 1
   funext b H5
   by_cases c:b=true
   .rw[if_pos c,if_pos c, <- n]
   .rw[if_neg c,if_neg c];show w ys H5
  have:=hs i x ys _ (o xs j) h;rw[e]at this;show this
 .have e:i=xs.length:=by ac_nf
  subst e;show .inl ⟨⟨xs,j,Nat.le_refl _⟩,hd ys H2 h⟩
end L2
namespace Ch
open PySem
structure TD where
 nm:Str
 st:Str
 en:Str
 lo:Option (Int × Int)
 hi:Option (Int × Int)
structure SD where
 src:Str
 dst:Str
 c:Int × Int
 nm:Str
 fw:Bool
def fwd(t:TD):List SD:=match t.hi with
 | some h=>[⟨t.st,t.en,h,t.nm,true⟩]
 | none=>[]
def bwd(t:TD):List SD:=match t.lo with
 | some l=>[⟨t.en,t.st,(-l.1,l.2),t.nm,false⟩]
 | none=>[]
def steps(t:TD):List SD:=fwd t++bwd t
def all(ts:List TD):List SD:=ts.flatMap steps
abbrev Pr:=Str × Bool
def key(s:SD):Pr:=(s.nm,s.fw)
def lastA(acc:Option SD)(ss:List SD)(k:Pr):Option SD:=ss.foldl (λa s=>if key s=k then some s else a) acc
def last(ss:List SD)(k:Pr):Option SD:=lastA none ss k
def addF(a c:Int × Int):Int × Int:=(Mth.top (a.1*c.2+c.1*a.2) (a.2*c.2),Mth.bot (a.1*c.2+c.1*a.2) (a.2*c.2))
structure FOk(n:Nat)(a:Int × Int):Prop where
 s1:Mth.Sz n a.1
 s2:Mth.Sz n a.2
 b1:1<=a.2
 g1:Mth.g a.1 a.2=1
end Ch
namespace L2
open PySem PySem.Spec PyProof.Rows Ch
def isTF:HO->Bool
 | .tup _=>true
 | .frz _ _=>true
 | _=>false
def SameT(H H':Hp):Prop:=∀ b u,isTF u=true->H b=some u->H' b=some u
theorem SameT.refl(H:Hp):SameT H H:=λ_ _ _ h=>h
variable{H H1:Hp}
theorem SameT.trans{H2:Hp}(a:SameT H H1)(b:SameT H1 H2):SameT H H2:=λc o t h=>b c o t (a c o t h)
variable{H':Hp}
theorem Same.t(a:Same H H'):SameT H H':=λb u _ h=>a b u h
theorem SameT.put{l:Addr}{o o':HO}(e:upd H l o=H')(hl:H l=some o')(ht:isTF o'=false):SameT H H':=λb u t h=>by
 rw[<- e,Jag (ne_of h hl λq=>by rw[q,ht]at t;cases t)];show h
variable{xs:List V}
theorem SqT.sameT{K:W.Frag}{a:Addr}(e:SameT H H')(h:SqT K H a xs):SqT K H' a xs:=by
 rcases h with(h | ⟨o,h⟩) | h
 .show .inl (.inl (e _ _ rfl h))
 .show .inl (.inr ⟨o,e _ _ rfl h⟩)
 .show .inr h
variable{v:V}{b:Int}
theorem FrV.sameT{K:W.Frag}{a:Int}(S:SameT H H')(h:FrV K H v a b):FrV K H' v a b:=by
 let(p,e,q):=h;show(p,e,q.sameT S)
def frD(a:Int × Int):D:=.tup [.int a.1, .int a.2]
def bD:Option (Int × Int)->D
 | none=>.non
 | some a=>frD a
def tdD(t:TD):D:=.tup [.str t.nm, .str t.st, .str t.en,bD t.lo,bD t.hi]
def BV(K:W.Frag)(H:Hp):Option (Int × Int)->V->Prop
 | none,v=>v=.non
 | some a,v=>FrV K H v a.1 a.2
variable{o:Option (Int × Int)}
theorem BV.rep{K:W.Frag}(h:BV K H o v):Rep K H (bD o) v:=by
 cases o with
 | none=>simp only[bD,Rep];show h
 | some a=>show FrV.rep h
theorem BV.sameT{K:W.Frag}(S:SameT H H')(h:BV K H o v):BV K H' o v:=by
 cases o with
 | none=>show h
 | some a=>show FrV.sameT S h
def TV(K:W.Frag)(H:Hp)(t:TD)(x:V):Prop:=∃ b vl vg,x=.ref b/\SqT K H b [.str t.nm, .str t.st, .str t.en,vl,vg]/\BV K H t.lo vl/\BV K H t.hi vg
def CV(H:Hp)(c:Pr)(x:V):Prop:=∃ b,x=.ref b/\H b=some (.tup [.str c.1, .bl c.2])
section
variable{K:W.Frag}{x:V}
theorem TV.sameT{t:TD}(S:SameT H H'):TV K H t x->TV K H' t x:=by rintro⟨b,vl,c,e,q,d,a⟩;show(b,vl,c,e,q.sameT S,d.sameT S,a.sameT S)
variable{c:Pr}
theorem CV.sameT(S:SameT H H'):CV H c x->CV H' c x:=λζ=>by let(b,e,q):=ζ;show(b,e,S _ _ rfl q)
theorem TV.rep{t:TD}:TV K H t x->Rep K H (tdD t) x:=by
 rintro⟨b,vl,d,e,q,c,a⟩;simp only[tdD,Rep,RepL];show(b,_,e,q,_,_,rfl,rfl,_,_,rfl,rfl,_,_,rfl,rfl,_,_,rfl,c.rep,_,_,rfl,a.rep,rfl)
end
variable{α:Type}
def All2(P : α->V->Prop):List α->List V->Prop
 | [],xs=>xs=[]
 | a::as,xs=>∃ x r,xs=x::r/\P a x/\All2 P as r
section
variable{P P' : α->V->Prop}
theorem All2.mono:∀{as:List α}{xs:List V},(∀ a x,P a x->P' a x)->All2 P as xs->All2 P' as xs
 | [],_,_,h=>h
 | a::as,xs,f,h=>by
  let(x,r,e,h1,h2):=h;show(x,r,e,f _ _ h1,All2.mono f h2)
theorem All2.length:∀{as:List α}{xs:List V},All2 P as xs->xs.length=as.length
 | [],_,h=>by rw[show _=_ from h];rfl
 | a::as,xs,h=>by
  let(x,r,e,h1,h2):=h;rw[e,length_cons,length_cons,h2.length]
theorem All2.at_:∀{as:List α}{xs:List V}{i:Nat}{x:V},All2 P as xs->xs[i]?=some x->∃ a,as[i]?=some a/\P a x
 | [],_,_,_,h,hx=>by rw[show _=_ from h]at hx;simp at hx
 | a::as,xs,i,y,h,hx=>by
  let(x,r,e,h1,h2):=h;subst e;cases i with
  | zero=>simp at hx;subst hx;show(a,rfl,h1)
  | succ i=>simpa using All2.at_ h2 (by simpa using hx)
theorem All2.get:∀{as:List α}{xs:List V}{i:Nat}{a : α},All2 P as xs->as[i]?=some a->∃ x,xs[i]?=some x/\P a x
 | [],_,_,_,h,hx=>by simp at hx
 | a::as,xs,i,b,h,hx=>by
  let(x,r,e,h1,h2):=h;subst e;cases i with
  | zero=>simp at hx;subst hx;show(x,rfl,h1)
  | succ i=>simpa using All2.get h2 (by simpa using hx)
theorem All2.append:∀{as bs:List α}{xs ys:List V},All2 P as xs->All2 P bs ys->All2 P (as++bs) (xs++ys)
 | [],bs,xs,ys,h,g=>by rw[show xs=[]from h];show g
 | a::as,bs,xs,ys,h,g=>by
  let(x,r,e,h1,h2):=h;subst e;show(x,r++ys,rfl,h1,All2.append h2 g)
theorem All2.one{a : α}{x:V}(h:P a x):All2 P [a] [x]:=⟨x,[],rfl,h,rfl⟩
theorem All2.take:∀{as:List α}{xs:List V}(j:Nat),All2 P as xs->All2 P (as.take j) (xs.take j)
 | as,xs,0,_=>by simp only[take_zero];show rfl
 | [],xs,j+1,h=>by rw[show xs=[]from h];simp;show rfl
 | a::as,xs,j+1,h=>by
  let(x,r,e,h1,h2):=h;subst e;show(x,r.take j,by simp,h1,All2.take j h2)
theorem All2.drop:∀{as:List α}{xs:List V}(j:Nat),All2 P as xs->All2 P (as.drop j) (xs.drop j)
 | as,xs,0,h=>by simpa using h
 | [],xs,j+1,h=>by rw[show xs=[]from h];simp;show rfl
 | a::as,xs,j+1,h=>by
  let(x,r,e,h1,h2):=h;subst e;simpa using All2.drop j h2
theorem All2.repL{K:W.Frag}{f : α->D}(g:∀ a x,P a x->Rep K H (f a) x):∀{as:List α}{xs:List V},All2 P as xs->RepL K H (as.map f) xs
 | [],xs,h=>by simp only[map_nil,RepL];show h
 | a::as,xs,h=>by
  let(x,r,e,h1,h2):=h;simp only[map_cons,RepL];show(x,r,e,g _ _ h1,All2.repL g h2)
end
structure TOk(t:TD):Prop where
 n1:nameS t.nm=true
 n2:nameS t.st=true
 n3:nameS t.en=true
 ne:t.st≠t.en
 lo:∀ a,t.lo=some a->FOk 600 a
 hi:∀ a,t.hi=some a->FOk 600 a
 le:lessD (bD t.hi) (bD t.lo)=false
variable{z:Str}
theorem len8(h:nameS z=true):z.length<=8:=by
 unfold nameS at h;simp only[Bool.and_eq_true,decide_eq_true_eq]at h;show h.1.2
section
variable{kvs:List (List Key × V)}{ss:List SD}{K:W.Frag}
end
def CompJ(J:It)(k:Nat)(cs:List (Nat × Str))(g:TG)(te:TE)(σ : St)(Q:VK)(H1:Hp):Prop:=∃ W:Nat->Nat->List V->Hp->Prop,(∃ m,W 0 m [] H1)/\∀ i m ys H2,W i m ys H2->ys.length<=sizeLine /\
  ((J.stop i H2/\∀ p,H2 p=none->Q (.ref p) (upd H2 p (.lst ys))) \/
   (J.go i H2/\∀ x H3,J.yld i H2 x H3->g x (List.replicate k none++Jaz cs σ) H3 λσ4 H4=>te σ4 H4 λy H5=>∃ m',m'<m/\W (i+1) m' (ys++[y]) H5))
def JcK(J:It)(k:Nat)(cs:List (Nat × Str))(g:TG)(tt:TT)(te:TE)(σ : St)(Q:VK)(H1:Hp):Prop:=∃ W:Nat->Nat->List V->Hp->Prop,(∃ m,W 0 m [] H1)/\∀ i m ys H2,W i m ys H2->ys.length<=sizeLine /\
  ((J.stop i H2/\∀ p,H2 p=none->Q (.ref p) (upd H2 p (.lst ys))) \/
   (J.go i H2/\∀ x H3,J.yld i H2 x H3->g x (List.replicate k none++Jaz cs σ) H3 λσ4 H4=>tt σ4 H4 λb H5=>if b=true then te σ4 H5 λy H6=>∃ m',m'<m/\W (i+1) m' (ys++[y]) H6 else∃ m',m'<m/\W (i+1) m' ys H5))
section
variable{cs:List (Nat × Str)}{tt:TT}{te tl:TE}{σ:St}{Q:VK}{a:Addr}{K:W.Frag}{k:Nat}{g:TG}
theorem y35y:tComp k cs (iAny K tl) g te σ H Q=tl σ H λx H1=>∃ a,x=.ref a/\(((∃ xs,SqL K H1 a xs)/\CompJ (Itl K a) k cs g te σ Q H1)\/((∃ xs,SqT K H1 a xs)/\CompJ (Itt K a) k cs g te σ Q H1)):=rfl
theorem y37y:Jgk k cs (iAny K tl) g tt te σ H Q=tl σ H λx H1=>∃ a,x=.ref a/\(((∃ xs,SqL K H1 a xs)/\JcK (Itl K a) k cs g tt te σ Q H1)\/((∃ xs,SqT K H1 a xs)/\JcK (Itt K a) k cs g tt te σ Q H1)):=rfl
theorem CompJ.list(Pv:Nat->List V->Hp->Prop)(h0:Pv 0 [] H1)(hl:∀ i ys H',i<=xs.length->Pv i ys H'->SqL K H' a xs/\ys.length<=sizeLine)
  (hs:∀ i x ys H2,xs[i]?=some x->Pv i ys H2->g x (List.replicate k none++Jaz cs σ) H2 λσ4 H4=>te σ4 H4 λy H5=>Pv (i+1) (ys++[y]) H5) (hd:∀ ys H2,Pv xs.length ys H2->∀ p,H2 p=none->Q (.ref p) (upd H2 p (.lst ys))) :
  CompJ (Itl K a) k cs g te σ Q H1:=compL Pv h0 hl hs hd
theorem JcK.list(Pv:Nat->List V->Hp->Prop)(h0:Pv 0 [] H1)(hl:∀ i ys H',i<=xs.length->Pv i ys H'->SqL K H' a xs/\ys.length<=sizeLine)
  (hs:∀ i x ys H2,xs[i]?=some x->Pv i ys H2->g x (List.replicate k none++Jaz cs σ) H2 λσ4 H4=>tt σ4 H4 λb H5=>if b=true then te σ4 H5 λy H6=>Pv (i+1) (ys++[y]) H6 else Pv (i+1) ys H5) (hd:∀ ys H2,Pv xs.length ys H2->∀ p,H2 p=none->Q (.ref p) (upd H2 p (.lst ys))) :
  JcK (Itl K a) k cs g tt te σ Q H1:=Jl7 Pv h0 hl hs hd
end
theorem JjC{x f:Int}(h0:0<=x)(h1:x<2*f):x.fmod f=x\/x.fmod f=x-f:=by
 rw[Int.fmod_eq_emod_of_nonneg _ ∅];by_cases c:x<f
 .show .inl (Int.emod_eq_of_lt h0 c)
 .show .inr ?_;have e:(x-f+f) % f=(x-f) % f:=by simp
  rw[Int.sub_add_cancel]at e;rw[e,Int.emod_eq_of_lt ∅ ∅]
theorem JdU(x y:Str):(x++y).cps.toList=x.cps.toList++y.cps.toList:=by
 show(x.cps++y.cps).toList=_;simp
theorem JcY(z:Str):z.length=z.cps.toList.length:=by simp[Str.length]
section
variable{ss:List SD}{c:Pr}{cs:List Pr}{tot:Int × Int}{l:Str}{s:SD}{f:Str}
end
variable{n:Nat}
theorem JdV{f : α->D}(h:∀ a,depD (f a)<=n):∀ as:List α,depL (as.map f)<=n
 | []=>by simp[depL]
 | a::as=>by
  rw[map_cons,depL];show Nat.max_le.mpr ⟨h a,JdV h as⟩
section
variable{Q:VK}{K:W.Frag}
end
section
variable{prog:Program}{A:Around}{E:Value->Shared->Prop}{w:World}{s:Shared}
end
section
variable{prog:Program}{A:Around}{E:Value->Shared->Prop}{w:World}{s:Shared}
end
section
variable{prog:Program}{A:Around}{E:Value->Shared->Prop}{w:World}{s:Shared}
end
section
variable{M:Model}{A:Around}{E:Value->Shared->Prop}{s:Shared}
end
section
variable{prog:Program}{A:Around}{E:Value->Shared->Prop}{w:World}{s:Shared}
section
variable{I a:Addr}{es:Array (Int × Value)}{ep:Nat}{Q:Option Value->Shared->Prop}{i:Nat}{t:SetTable}
end
end
section
variable{prog:Program}{A:Around}{E:Value->Shared->Prop}{w:World}{s:Shared}
end
section
variable{prog:Program}{A:Around}{E:Value->Shared->Prop}{w:World}{s:Shared}
end
theorem Jle:typeLookup (.type "list") "keys"=pure none:=by rw[typeLookup_type,builtinLookup_eq_fast];kernel_rfl
section
variable{prog:Program}{A:Around}{E:Value->Shared->Prop}{a:Addr}{its:Array Value}{w:World}{s:Shared}
theorem Jk8{Q:Option Value->Shared->Prop}(hh:A.handled=none)(hx:s.heap.get? a=some { cls:=.type "list",dict:=none,data:=.seq its n,slots:=#[] })
   (q:∀ h' t',(∀ b o,s.heap.get? b=some o->h'.get? b=some o)->Q none { s with heap:=h',toks:=t' }) :
    wpAny (model prog w) A (getAttr? (.ref a) "keys") Q E s:=by
  let(i,g,d,k,j):=s;have h:∀ c,(⟨i,g,d,c,j⟩:Shared).TypeIs (.ref a) "list":=λ_=>⟨_,hx,rfl⟩;have m:=sub_AttributeError;have u:=PySem.F.slot_list_getattribute.lookup;have t:=PySem.F.slot_list_getattribute.bind (.ref a);have r:=am_list_getattr_none;unfold getAttr?;unfold getAttrBy?;unfold getAttrBy;repeat (any_goals (first | assumption | show h _ | ((with_reducible show wpAny _ _ (call (Value.builtin "list.__getattribute__") _ _) _ _ _);show call_meets PySem.F.slot_list_getattribute (h _) am_entry_list_getattribute (PySem.F.args_list_getattribute_2 _ _) (meets_getattribute_miss_list a its n #[] "keys" _ Jle (by decide +kernel) ⋯) ⟨hx,hh,λh' c e f=>?_⟩) | wp_step))
  let(t',p,l):=f.there;show wpAny _ _ (getattributeRaised _ _ _ _ _ _ _) _ _ _;unfold getattributeRaised;repeat (any_goals (first | assumption | wp_step))
  show q h' c f.keeps
end
theorem JfY:entryFor table "dict.update.loop"=some Builtin.«dict.update.loop»:=entryFor_of_tree (by kernel_rfl)
theorem Jdo:plainId "dict.update.loop"=true:=by decide +kernel
def dkv(key:Nat->Str)(val:Nat->Value)(i:Nat):List (Key × Value):=(List.range i).foldl (λl j=>PySem.stored l (Sum.inr (key j)) (val j)) []
theorem Jfb(key:Nat->Str)(val:Nat->Value)(i:Nat):dkv key val (i+1)=PySem.stored (dkv key val i) (Sum.inr (key i)) (val i):=by
 unfold dkv;rw[List.range_succ,List.foldl_append];rfl
theorem Jgu(key:Nat->Str)(val:Nat->Value):∀ i,(dkv key val i).length<=i
 | 0=>Nat.le_refl _
 | i+1=>by
  have:=Jgu key val i;rw[Jfb];unfold PySem.stored;split <;> simp <;> ac_nf
section
variable{prog:Program}{A:Around}{E:Value->Shared->Prop}{w:World}{s:Shared}
def JdK(h:Heap)(a:Addr)(k v:Value):Prop:=∃ o c,h.get? a=some o/\o.cls=.type "tuple"/\o.data=.seq #[k,v] c
variable{h:Heap}
theorem JdK.at_{h':Heap}{a:Addr}{k v:Value}(x:JdK h a k v)(m:∀ o,h.get? a=some o->h'.get? a=some o):JdK h' a k v:=by
 let(o,c,e,r):=x;show(o,c,m o e,r)
theorem Jli{t:Tok}:(Jau prog w).is (Sum.inr z) (.str z t)=true:=by
 show keyIs (Sum.inr z) (.str z t)=true;simp[keyIs,Value.isStrOf]
theorem Jin{R:Result->Shared->Prop}{I:Addr}{fp wr:List Addr}{G:Array GenState->Array GenState->Prop}{P:Nat->Value->Prop}{St:Nat->Shared->Prop}
  (W:WalksS prog w A.in1 I fp wr G n P St) (d:Addr) (hdf:d∉fp) (adr:Nat->Addr) (key:Nat->Str) (val:Nat->Value) (hP:∀ i v,P i v->v=.ref (adr i)) (nd:∀ i,i<n->adr i≠d) (nw:∀ i,i<n->adr i∉wr) (hz:n<=sizeLine) :
  ∀(k i:Nat)(s:Shared),n-i=k->i<=n->St i s->s.heap.DictOf (Jau prog w) d (dkv key val i)->(∀ j,j<n->∃ tk,JdK s.heap (adr j) (.str (key j) tk) (val j)) ->
   (∀ s',Moved (d::wr) G s s'->s'.heap.DictOf (Jau prog w) d (dkv key val n)->R (.ok (.ret .none)) s') ->
   codeAny (model prog w) A (.builtin "dict.update.loop" ⟨[.ref d, .ref I, .int (i:Int) 0, .none],[]⟩) R s:=by
 have L:d∉wr:=λh=>hdf (W.sub _ h);have N:∀ b∈wr,b∈d::wr:=λb h=>mem_cons_of_mem _ h;intro k;induction k with
 | zero=>
  intro i s V U p u l q;have : i=n:=by ac_nf
  subst this;show codeAny_builtin JfY ?_;rw[Around.under_plainId Jdo _];show wpAny_bind (m:=pyNext (.ref I)) (W.done s _ _ p λs' f=>?_);show wpAny_bind (m:=Builtin.Dict.addKeywords d []) (wpAny_pure (wpAny_pure ?_));show q s' (f.mono N) ?_;let(o,x,t,J,rest):=u;show(o,x,t,f.heap d o L J,rest)
 | succ k ih=>
  intro i s V U p u l q;have c:i<n:=by ac_nf
  show codeAny_builtin JfY ?_;rw[Around.under_plainId Jdo _];show wpAny_bind (m:=pyNext (.ref I)) (W.item i s _ _ c p λv s' X C f=>?_);rw[hP i v X];have F:s'.heap.DictOf (Jau prog w) d (dkv key val i):=by
   let(o,x,t,J,rest):=u;show(o,x,t,f.heap d o L J,rest)
  have a:∀ j,j<n->∃ tk,JdK s'.heap (adr j) (.str (key j) tk) (val j):=λj g=>by
   let(tk,e):=l j g;show(tk,e.at_ λo z=>f.heap _ o (nw j g) z)
  let(tk,ot,ct,O,B,E):=a i c;have dl:=Jgu key val i;show wpAny_bind (wpAny_holding ?_);show wpAny_bind (wpAny_tryCatch ?_);unfold Builtin.Dict.pairItems;show wpAny_bind (wpAny_typeOf (T:="tuple") ⟨_,O,B⟩ ?_);rw[if_pos ⋯];unfold seqItems?;show wpAny_bind (wpAny_bind (wpAny_load O ?_));rw[E];show wpAny_pure (wpAny_pure ?_);show wpAny _ _ (holding [Value.str (key i) tk,val i] (dictSet d (.str (key i) tk) (val i))) _ _ _;show wpAny_holding (wpAny_dictSet_pairs (knd:=Jau prog w) (k:=Sum.inr (key i)) Jli F (λM Y K=>?_) ∅);have r:M.DictOf (Jau prog w) d (dkv key val (i+1)):=by
   rw[Jfb];show Y
  show wpAny_pure ⟨plainId_quiet Jdo _,ih (i+1) { s' with heap:=M,toks:=s'.toks+1 } ∅ c (W.frame _ s' _ _ C (Nat.le_succ _) λb y o e=>?_) r (λj g=>?_) λZ Q H=>?_⟩
  .rw[K.2 b (λh:b=d=>hdf (h ▸ y))];show e
  .let(D,S):=a j g;show(D,S.at_ λo z=>(K.2 _ (nd j g)).trans z)
  .show q Z (Moved.trans W.gtrans ((f.mono N).then_heap (Nat.le_succ _) λb o y e=>?_) Q) H;rw[K.2 b (λh:b=d=>y (by rw[h];show mem_cons_self))];show e
variable{l:Addr}
theorem Jd2{items:Array Value}{c0:Nat}{Q:Value->Shared->Prop}(hh:A.handled=none)(hl:s.heap.get? l=some { cls:=.type "list",dict:=none,data:=.seq items c0,slots:=#[] })(adr:Nat->Addr)(key:Nat->Str)(val:Nat->Value)
  (hP:∀(i:Nat)(v:Value),items[i]?=some v->v=.ref (adr i)) (tup:∀ j,j<items.size->∃ tk,JdK s.heap (adr j) (.str (key j) tk) (val j)) (hz:items.size<=sizeLine)
  (q:∀ h' tk,(∀ b o,s.heap.get? b=some o->h'.get? b=some o)->h'.DictOf (Jau prog w) s.heap.objs.size (dkv key val items.size)->Q (.ref s.heap.objs.size) { s with heap:=h',toks:=tk }) :
  wpAny (model prog w) A (call (.type "dict") [.ref l]) Q E s:=by
 show callType_codes (Q₁:=λf G=>f=.ref s.heap.objs.size/\G={ s with heap:=s.heap.push { cls:=.type "dict",data:=.dict #[] } }) (PySem.F.kt_called_dict) (PySem.F.kt_typeCall_dict_1 _) (PySem.F.entry_dict_init) (kt_code_dict_new _ ⟨rfl,rfl⟩) ?_;rintro f G ⟨rfl,rfl⟩;have g:(s.heap.push { cls:=.type "dict",data:=.dict #[] }).DictOf (Jau prog w) s.heap.objs.size []:=Heap.DictOf.new s.heap;show(g.typeIs,PySem.F.args_dict_init_2 _ _,?_);generalize m:({ cls:=.type "dict",data:=.dict #[] }:Obj)=o0 at g ⊢;have u:(s.heap.push o0).get? l=some { cls:=.type "list",dict:=none,data:=.seq items c0,slots:=#[] }:=Heap.get?_push_of_some _ hl;have K:=Heap.lt_size hl;have V:(s.heap.push o0).objs.size=s.heap.objs.size+1:=Heap.size_push ..;unfold Builtin.«dict.__init__»;show wpAny_bind ?_;unfold Builtin.Dict.selfAndRest;show wpAny_bind (wpAny_notOrdered_dict g.typeIs (wpAny_pure ?_));show wpAny _ _ (Builtin.Dict.updateFrom "dict.__init__" s.heap.objs.size (.ref l) [] Value.none) _ _ _;unfold Builtin.Dict.updateFrom;show wpAny_bind (wpAny_typeOf (T:="list") ⟨_,u,rfl⟩ ?_);rw[if_pos ⋯];have J:A.in1.in1.handled=none:=by simp[hh]
 show wpAny_bind (Jk8 J u λd O k=>?_);show wpAny_ite_split (λ_=>?_) (λz=>absurd rfl z);show wpAny_bind (wpAny_rule ?_);have I:=k _ _ u;have D:d.DictOf (Jau prog w) s.heap.objs.size []:=by
  let(o,y,x,m,rest):=g;show(o,y,x,k _ _ m,rest)
 have dlt:s.heap.objs.size<d.objs.size:=by
  let(o,y,x,m,rest):=D;show Heap.lt_size m
 have B:d.IsList l items:=⟨_,I,rfl,c0,rfl⟩;show wpAny_bind (wpAny_pyIter_list (s:=⟨d,s.gens,s.drawn,O,s.os⟩) B ?_);have C:∀ j,j<items.size->adr j<s.heap.objs.size:=λj a=>by
  let(tk,o,c,e,_):=tup j a;show Heap.lt_size e
 have t:l<d.objs.size:=Heap.lt_size I;have n:A.in1.in1.handled=none:=by simp[hh]
 show wpAny_pure ⟨plainId_quiet Jdo _,?_⟩;show Jin ((Walks.list n d.objs.size l (Nat.ne_of_lt t) items).toS) s.heap.objs.size (by simp only[mem_cons,not_mem_nil,or_false,not_or];show(Nat.ne_of_lt dlt,Nat.ne_of_gt K)) adr key val hP (λj a=>Nat.ne_of_lt (C j a)) (λj a=>by simp only[mem_cons,not_mem_nil,or_false];show Nat.ne_of_lt (Nat.lt_trans (C j a) dlt)) hz items.size 0 _ ∅ (Nat.zero_le _) ⟨⟨_,Heap.get?_push_size _ rfl,rfl,rfl⟩,B.push _⟩ (D.push _) (λj a=>?_) λP h U=>?_
 .let(tk,e):=tup j a;show(tk,e.at_ λo z=>Heap.get?_push_of_some _ (k _ _ (Heap.get?_push_of_some _ z)))
 .let(h',R,L,r,p):=P;have S:R=s.gens:=h.gens;have N:L=s.drawn:=h.drawn;have M:p=s.os:=h.os;subst S;subst N;subst M;show(rfl,q h' r (λb o e=>?_) U);have H:=Heap.lt_size e;show h.heap b o ?_ (Heap.get?_push_of_some _ (k _ _ (Heap.get?_push_of_some _ e)));simp only[mem_cons,not_mem_nil,or_false,not_or];show(Nat.ne_of_lt H,Nat.ne_of_lt (Nat.lt_trans H dlt))
end
section
variable{X:Cx}{pins:List (Addr × Obj)}{σ:List (Option V)}{s':Shared}{s:Shared}
def JdN(ps:List (Str × V)):List (Key × V):=ps.foldl (λl p=>putK l (Sum.inr p.1) p.2) []
def JmG(xs:List V)(H:Hp)(Q:VK):Prop:=∃(l:Addr)(as:List Addr)(ps:List (Str × V)),xs=[.ref l]/\H l=some (.lst (as.map V.ref))/\as.length=ps.length/\(∀(i:Nat)(a:Addr)(p:Str × V),as[i]?=some a->ps[i]?=some p->H a=some (.tup [.str p.1,p.2]))/\∀ d,H d=none->Q (.ref d) (upd H d (.dK (JdN ps)))
theorem JhD(hc:X.calm=true):CallR X (.type "dict") JmG:=by
 intro M s σ H xs us Q I r h;let(l,b,d,rfl,e,hl,hp,q):=h;let(u,rfl,U):=vals1 r;cases U;let(T,B,n,ri,K,W):=I.lstM e;have E:b.length<=sizeLine:=by simpa using T
 have li:B.length=b.length:=by simpa using K.symm
 have S:∀ j,j<b.length->∃ u a p f,b[j]?=some a/\d[j]?=some p/\RelV p.2 u/\JdK s.heap a (.str p.1 f) u:=λj A=>by
  have D:=List.getElem?_eq_getElem A;have w:=List.getElem?_eq_getElem (l:=d) (i:=j) ∅;let(_,ts,y,o,ho,F,nn,Y):=I.hok _ _ (hp j _ _ D w);cases y with
  | cons r1 y=>
   cases y with
   | cons r2 y=>
    cases y;let(f,rfl):=r1;show(_,_,_,f,D,w,r2,o,nn,ho,F,Y)
 let(C,m):=Classical.skolem.mp (show∀ j:Nat, ∃ u:Value,j<b.length->∃ a p f,b[j]?=some a/\d[j]?=some p/\RelV p.2 u/\JdK s.heap a (.str p.1 f) u fromλj=>by
  by_cases c:j<b.length
  .let(u,h):=S j c;show(u,λ_=>h)
  .show(.none,λz=>absurd z c))
 have t:∀ j a,b[j]?=some a->b.getD j 0=a:=λj a h=>by rw[List.getD_eq_getElem?_getD,h];rfl
 have g:∀ j (p:Str × V),d[j]?=some p->(d.getD j (⟨#[]⟩, .non)).1=p.1:=λj p h=>by rw[List.getD_eq_getElem?_getD,h];rfl
 have L:B.toArray.size=b.length:=by rw[size_toArray];show li
 show Jd2 (I.ok.hd hc) W (λj=>b.getD j 0) (λj=>(d.getD j (⟨#[]⟩, .non)).1) C (λj v J=>?_) (λj A=>?_) ∅ λh' f k R=>?_
 .rw[List.getElem?_toArray]at J;have A:j<b.length:=by have:=(List.getElem?_eq_some_iff.mp J).1;ac_nf
  let(u,P,ru):=ri.get (i:=j) (x:=.ref b[j]) (by rw[List.getElem?_map,List.getElem?_eq_getElem A];rfl);rw[J]at P;cases P;rw[t j _ (List.getElem?_eq_getElem A)];show ru
 .let(a,p,f,D,w,O,N):=m j ∅;show(f,?_);rw[t j a D,g j p w];show N
 .have G:∀ i,i<=b.length->KV (JdN (d.take i)) (dkv (λj=>(d.getD j (⟨#[]⟩, .non)).1) C i):=λi=>by
   induction i with
   | zero=>intro _;show .nil
   | succ i ih=>
    intro hi;let(a,p,f,D,w,O,N):=m i ∅;rw[Jfb,take_succ,w];unfold JdN;rw[List.foldl_append];rw[g i p w];show(ih ∅).put _ O
  have r:=G b.length (Nat.le_refl _);rw[take_of_length_le ∅]at r;have Z:(JdN d).length<=sizeLine:=by
   rw[r.length];show Nat.le_trans (Jgu _ _ _) E
  rw[L]at R;show(.ref s.heap.objs.size,_,I.laid (a:=s.heap.objs.size) (o:=.dK (JdN d)) (t':=f) k (Nat.le_refl _) (Jhe Z (beq_eq_false_iff_ne.mpr (Ne.symm (Nat.ne_of_lt I.big))) r R),rfl,q _ (I.hok.fresh (Nat.le_refl _)))
end
def negF(a:Int × Int):Int × Int:=(-a.1,a.2)
def lessF(a c:Int × Int):Bool:=decide (a.1*c.2<c.1*a.2)
structure FB(A B:Nat)(a:Int × Int):Prop where
 s1:Mth.Sz A a.1
 s2:Mth.Sz B a.2
 b1:1<=a.2
 g1:Mth.g a.1 a.2=1
variable{A B:Nat}{a:Int × Int}
theorem FB.ok(h:FB A B a)(h1:A<=n)(h2:B<=n):FOk n a:=⟨h.s1.mono h1,h.s2.mono h2,h.b1,h.g1⟩
theorem FB.neg(h:FB A B a):FB A B (negF a):=⟨by
 have:=h.s1;unfold Mth.Sz at this ⊢;unfold negF;rw[Int.natAbs_neg];show this,h.s2,h.b1,by
 have:=h.g1;unfold Mth.g negF at *;simpa using this⟩
variable{C:Nat}
theorem FB.add{D m:Nat}{c:Int × Int}(h:FB A B a)(k:FB C D c)(h1:A+D<=n)(h2:C+B<=n)(h3:B+D<=m):FB (n+1) m (addF a c):=by
 have b:a.2*c.2≠0:=Int.mul_ne_zero (by have:=h.b1;ac_nf) (by have:=k.b1;ac_nf);have e:=(h.s1.mul k.s2).mono h1;have d:=(k.s1.mul h.s2).mono h2;show(Mth.Sz.top b (e.add d),(Mth.Sz.bot b (h.s2.mul k.s2)).mono h3,Mth.Jc3 b,Mth.g_low b)
theorem FB.low{t:Int}(hb:1<=b)(h1:Mth.Sz A t)(h2:Mth.Sz B b):FB A B (Mth.top t b,Mth.bot t b):=by
 have a:b≠0:=by ac_nf
 show(Mth.Sz.top a h1,Mth.Sz.bot a h2,Mth.Jc3 a,Mth.g_low a)
variable{X:Cx}{e:Expr}{ta:TE}{pos:Pos}
theorem Jlw{K:W.Frag}{f:Str}(hK:X.K=K)(he:PE X e ta)(hb:attributeBase e f X.env (eval e X.env)=eval e X.env):PE X (.Attribute e f pos) (tFld K ta f):=by
 subst hK;show Jar he hb
structure FW(A B:Nat)(a:Int × Int):Prop where
 s1:Mth.Sz A a.1
 s2:Mth.Sz B a.2
 b1:1<=a.2
theorem FB.w(h:FB A B a):FW A B a:=⟨h.s1,h.s2,h.b1⟩
theorem FW.mono{D:Nat}(h:FW A B a)(h1:A<=C)(h2:B<=D):FW C D a:=⟨h.s1.mono h1,h.s2.mono h2,h.b1⟩
section
variable{o:Expr}{es:List Expr}{to:TE}{name:Str}{apos cpos:Pos}{T id:String}{K:W.Frag}{t:TA}{r:V->List V->Hp->VK->Prop}
end
variable{kvs:List (Key × V)}
theorem Jjq{vs:List (Key × Value)}(r:KV kvs vs):Vals (kvs.map (·.2)) (vs.map (·.2)):=by
 unfold KV at r;induction r with
 | nil=>show .nil
 | cons h _ ih=>show .cons h.2 ih
section
variable{prog:Program}{A:Around}{E:Value->Shared->Prop}{w:World}{s:Shared}
end
section
variable{k':Nat}{x mn:Str}{C:Addr}{Cs:Addr->Prop}{ps:List Str}{sp:Sp}{p apos:Pos}{o:Expr}{es:List Expr}{k:Nat}{t:TA}
abbrev TX:=St->Hp->VK->XK->Prop
end
section
variable{σ:St}{Q:VK}{E:XK}{ty:TE}{ts:TA}{tc:TT}{u:TX}{C:Addr}{sp:Sp}{Cs:Addr->Prop}{td:TE}{t:TX}{m:Str}
theorem y42y:tDIn ty td σ H Q=ty σ H λy H1=>td σ H1 λx H2=>∃ a o,x=.ref a/\DGet H2 a y o/\Q (.bl o.isSome) H2:=rfl
theorem y46y:Jjd ty td σ H Q=ty σ H λy H1=>td σ H1 λx H2=>∃ a o,x=.ref a/\DGet H2 a y o/\Q (.bl (!o.isSome)) H2:=rfl
end
section
variable{κ:Type}[DecidableEq κ]{f : α->κ}{k : κ}{u y : α}
end
section
variable{P : α->V->Prop}
end
section
variable{P P':TD->V->Prop}{ts:List TD}{t:TD}
end
theorem sub_len[DecidableEq α]:∀(l m:List α),l.Nodup->l ⊆ m->l.length<=m.length
 | [],m,_,_=>by simp
 | a::l,m,hn,hs=>by
  rw[nodup_cons]at hn;have ha:a∈m:=hs (by simp);have:=sub_len l (m.erase a) hn.2 λx hx=>(List.mem_erase_of_ne (show x≠a fromλe=>hn.1 (e ▸ hx))).mpr (hs (by simp[hx]));rw[List.length_erase_of_mem ha]at this;have:=List.length_pos_of_mem ha;rw[length_cons];ac_nf
abbrev BMV:List Value:=[.type "ValueError", .type "Exception", .type "BaseException", .type "object"]
structure ExcI(K:W.Frag)(C S f:Addr):Prop where
 up:W.excIn K S BMV "ValueError.__new__"=true
 at_:∃ nm q N bs sn sub ab col dd k0 k1 k2 k3 k5,K.lookup C=some (excClassObj nm q C N bs (.ref S::BMV) true sn sub ab col dd k0 k1 k2 k3 k5 "ValueError.__new__")
 init:W.findIn K (.ref C) "__init__"=some (some (.ref f))
 fn:W.isFn K (.ref f)=true
 kp:W.keepIn K (.ref C)=true
def ExcN(e C:Addr)(od:Option Addr):HO:=.ext λh=>∃ t:Addr,h.get? e=some { cls:=.ref C,dict:=od,data:=.fields #[.ref t, .none, .none, .none, .bool false, .none] }
section
variable{prog:Program}{A:Around}{E:Value->Shared->Prop}{h:Heap}{d:Drawn}{os:OsState}{w:World}{g:Array GenState}{t:Nat}{nm:Str}{C N:Addr}{bm bmB:List Value}{hdct ab:Bool}{sn:List Str}{col:Option Bool}{dd:Option Addr}{k0 k1 k2 k3 k5:Option Value}{B newId initId:String}{q:Str}{bs:List Value}{sub:List Value}{K:W.Frag}
theorem Jh2(F:ExcBaseFacts B newId initId bmB)(T:OwnTail h bmB bm){rest:List Value}{fI:Addr}{Q:Fin->Shared->Prop}(X:K.In h)
  (hC:h.get? C=some (excClassObj nm q C N bs bm hdct sn sub ab col dd k0 k1 k2 k3 k5 newId)) (hi:W.findIn K (.ref C) "__init__"=some (some (.ref fI)))
  (hfI:W.isFn K (.ref fI)=true)
  (hq:∀ h' e,Heap.MadeExcOf h h' e (.ref C) rest->h.objs.size<=e ->
   wpAny (model prog w) A (call (.ref fI) (.ref e::rest)) (λr s'=>r=.none/\Q (.done (.ret (.ref e))) s') E ⟨h',g,d,t,os⟩) (hrest:rest.length<=sizeLine:=by size_fits) :
  wpAny (model prog w) A (Builtin.«type.__call__» ⟨.ref C::rest,[]⟩) Q E ⟨h,g,d,t,os⟩:=by
 repeat (first | with_reducible show wpAny_loadPart_at hC ?_ | with_reducible show wpAny_madeBy_exc hC ?_ | wp_step)
 show codeAny_call_builtin_code (Code.quiet_builtin _ F.quiet) (wpAny_check_new_subT F T hC ?_);show codeAny_exc_new_subT F T hC ?_ hrest;show wpAny _ _ _ _ _ _;have c:∀ b o,h.get? b=some o->((h.push { cls:=.type "tuple",data:=.seq rest.toArray }).push { cls:=.ref C,data:=.fields #[.ref h.objs.size, .none, .none, .none, .bool false, .none] }).get? b=some o:=λb o e=>Heap.get?_push_of_some _ (Heap.get?_push_of_some _ e);have hC₁:=c _ _ hC;have X₁:=X.keeps c;have a:((h.push { cls:=.type "tuple",data:=.seq rest.toArray }).push
   { cls:=.ref C,data:=.fields #[.ref h.objs.size, .none, .none, .none, .bool false, .none] }).get? (h.objs.size+1)=some
   { cls:=.ref C,data:=.fields #[.ref h.objs.size, .none, .none, .none, .bool false, .none] }:=by heap_get
 have f:(Value.ref C::bm).contains (.ref C)=true:=by simp
 unfold isInstance;repeat (first | with_reducible show wpAny_loadPart_at a ?_ | (with_reducible show wpAny_isSubtype_exc hC₁ ?_;rw[f]) | wp_step)
 show wpAny _ _ (typeLookup (.ref C) _) _ _ _;show(W.looks_findIn X₁ hi).at ?_;show wpAny_holding (wpAny_bind ((W.bind_fn X₁ _ (beq_iff_eq.mp hfI)).at ?_));show wpAny_bind (wpAny_mono (hq _ (h.objs.size+1) ⟨c,Heap.get?_none_of_le (Nat.le_succ _),h.objs.size,a,Heap.get?_none_of_le (Nat.le_refl _),?_⟩ (Nat.le_succ _)) (λr s' j=>?_) λ_ _ x=>x)
 .show Heap.get?_push_of_some _ (Heap.get?_push_at rfl rfl)
 .let(rfl,i):=j
  wp_walk
  show i
theorem Jia(F:ExcBaseFacts B newId initId bmB)(T:OwnTail h bmB bm){rest:List Value}{fI:Addr}{Q:Value->Shared->Prop}(X:K.In h)
  (hC:h.get? C=some (excClassObj nm q C N bs bm hdct sn sub ab col dd k0 k1 k2 k3 k5 newId)) (hi:W.findIn K (.ref C) "__init__"=some (some (.ref fI)))
  (hfI:W.isFn K (.ref fI)=true)
  (hq:∀ h' e,Heap.MadeExcOf h h' e (.ref C) rest->h.objs.size<=e ->
   wpAny (model prog w) (A.under (.builtin "type.__call__" ⟨.ref C::rest,[]⟩)) (call (.ref fI) (.ref e::rest)) (λr s'=>r=.none/\Q (.ref e) s') E ⟨h',g,d,t,os⟩) (hrest:rest.length<=sizeLine:=by size_fits) :
  wpAny (model prog w) A (call (.ref C) rest) Q E ⟨h,g,d,t,os⟩:=by
 have f:=tc_lookup;have i:=tc_bind (.ref C);have c:(⟨h,g,d,t,os⟩:Shared).TypeIs (.ref C) "type":=⟨_,hC,rfl⟩;show wpAny_call (codeAny_of_tree ?_);show wpAny _ _ (callAny (.ref C) _) _ _ _;repeat (any_goals (first | assumption | with_reducible show wpAny_loadPart_at hC ?_ | wp_step))
 show(rfl,?_);show codeAny_call_builtin_at (Code.quiet_builtin _ (by decide +kernel)) entry_typeCall (wpAny_check_type_call_sub hC (Jh2 (hrest:=hrest) F T X hC hi hfI λh' e b a=>?_));show hq h' e b a
end
section
variable{C S:Addr}{fd:FuncData}{ps:List Str}{sp:Sp}{E:XK}{x:Str}{p apos:Pos}{o:Expr}{es:List Expr}{k:Nat}{f:Addr}{m:Str}{t:TA}{P:Program}{h:Heap}{od:Option Addr}
theorem Jgw{w:World}{e:Addr}(z:∃ t:Addr,h.get? e=some { cls:=.ref C,dict:=od,data:=.fields #[.ref t, .none, .none, .none, .bool false, .none] }):ObjOk P w H h e (ExcN e C od) :=
 ⟨z,let⟨_,e⟩:=z;⟨_,e⟩,λ_ _ ⟨t,e⟩ k=>⟨t,k _ e⟩⟩
theorem ExcI.cls{K:W.Frag}(M:ExcI K C S f)(Xi:K.In h):∃ nm q N bs sn sub ab col dd k0 k1 k2 k3 k5,h.get? C=some (excClassObj nm q C N bs (.ref S::BMV) true sn sub ab col dd k0 k1 k2 k3 k5 "ValueError.__new__")/\OwnTail h BMV (.ref S::BMV):=by
 let(nm,q,N,bs,sn,sub,ab,col,dd,k0,k1,k2,k3,k5,z):=M.at_;let(_,_,_,_,_,_,_,_,_,_,_,_,_,_,_,_,_,c,b,a,_):=Jir Xi M.up;show(nm,q,N,bs,sn,sub,ab,col,dd,k0,k1,k2,k3,k5,Xi _ _ z, .own c b a .base)
variable{pins:List (Addr × Obj)}{σ:St}
theorem Ji2{s:Shared}{Q:VK}{us:List Value}{vs:List V}(M:ExcI X.K C S f)(F:FnOk X.prog X.w X.K X.mg X.base (CX1 X.prog X.w) k f fd ps sp)(hr:Room (k+1) X.A)(hb:Binds X.K fd ps [])
  (hx:JbZ (CX1 X.prog X.w) X E) (I:Inv X pins σ H s) (r:Vals vs us) (hz:vs.length<=sizeLine)
  (h:∀ x,H x=none->sp (.ref x::vs) (upd H x (ExcN x C none)) (λv H2=>v=.non/\Q (.ref x) H2) E) :
  wpAny (model X.prog X.w) X.A (call (.ref C) us) (EP X pins σ Q) X.xe s:=by
 let(Y,q,N,W,sn,R,ab,t,dd,k0,k1,k2,k3,Z,p,T):=M.cls I.kIn;let(U,g,d,j,n):=s;show Jia PySem.F.excBase_ValueError T I.kIn p M.init M.fn (λm b i L=>?_) (by rw[<- r.length];show hz);have o:=h b (I.hok.isnone i.new);let(B,G,_,_):=i.there;have I2:Inv X pins σ (upd H b (ExcN b C none)) ⟨m,g,d,j,n⟩:=I.laid (t':=j) i.keeps L (Jgw ⟨B,G⟩);have l:Vals (V.ref b::vs) (Value.ref b::us):=.cons rfl r;have O:(Value.ref b::us++[]).length=ps.length:=by
  have e:=l.length;rw[F.len _ _ _ _ o]at e;simpa using e.symm
 have c:=hb ⟨m,g,d,j,n⟩ (Value.ref b::us) I2.kIn O;rw[append_nil]at c;show wpAny_call (codeAny_mono (F.run _ X.stack _ _ ⟨Value.ref b::us,[]⟩ (Value.ref b::us) _ _ E (hr.make C us []) (I2.env0.make C us []) c l o) λr D a=>?_);cases r with
 | error e=>show hx pins σ _ _ e D I2 a
 | ok fl=>
  cases fl with
  | ret u=>
   let(v,y,I3,z,J,P):=I2.after a;subst J;show(z,⟨V.ref b,y,I3,rfl,P⟩)
  | next=>show False.elim a
  | brk=>show False.elim a
  | cont=>show False.elim a
def Jje(C:Addr)(sp:Sp)(E:XK)(t:TA):TE:=λσ H Q=>t σ H λvs H1=>vs.length<=sizeLine/\∀ x,H1 x=none->sp (.ref x::vs) (upd H1 x (ExcN x C none)) (λv H2=>v=.non/\Q (.ref x) H2) E
theorem JjV(M:ExcI X.K C S f)(F:FnOk X.prog X.w X.K X.mg X.base (CX1 X.prog X.w) k f fd ps sp)(hr:Room (k+1) X.A)(hg:Gl X x)(hm:X.mg x=some (.ref C))(hb:Binds X.K fd ps [])(hx:JbZ (CX1 X.prog X.w) X E)
  (ha:PA X (e::es) t) (hdb:autoParam ((x == ("__debug__" : Str))=false) Av) (he:autoParam (starEach (e::es) X.env=(false,eval e X.env)::starEach es X.env) Au) (hpl:autoParam ((backTo pos (starEach es X.env)).any (·.1)=false) Au) :
  PE X (.Call (.Name x p) (e::es) [] pos) (Jje C sp E t):=by
 intro a s σ H Q I h;show wpAny_Call_Name_kw (Jcv I hg hm ?_ hdb);show W.callWith_K (h₀:=X.base) I.ok.mod.kin M.kp (thn (ha pos a s σ H _ I h) λg b ζ=>?_) he hpl;let(c,d,I1,r,q):=ζ;show(I1.kIn,?_);show Ji2 M F hr hb hx I1 r q.1 q.2
end
section
variable{P:Program}{mg:Str->Option Value}{base:Heap}{N:List Str}{qual:Str}{scope:Scope}{cdv:Value}{A:Around}{outer:List Env}{s0:Shared}{H0:Hp}{E:XK}{w:World}{K:W.Frag}{f:Addr}
def Jjh(K:W.Frag)(H0:Hp)(E:XK)(te:TE):TS:=λ_ σ H=>te σ H λv H1=>∃ e C S f od,v=.ref e/\H1 e=some (ExcN e C od)/\ExcI K C S f/\H0 e=none/\E (.ref C) od (unt H1 e)
variable{te:TE}
theorem JiY{x:Expr}(hx:PE (cxOf (CX1 P w) P w K mg base N qual scope f cdv A outer s0 H0 E) x te) :
  PS (cxOf (CX1 P w) P w K mg base N qual scope f cdv A outer s0 H0 E) (.Raise (some x) none pos) (Jjh K H0 E te):=by
 intro a s σ H D I h;have n:(A.deeper (envOfC qual scope s0.heap.objs.size f cdv)).handled=none:=I.ok.hd rfl;rw[arm_exec_Raise];show wpAny_bind (wpAny_standAt ?_);show wpAny _ _ (raiseStmt _ (some (do let v <- eval x _;standAt pos;pure v)) none) _ _ _;unfold raiseStmt;show wpAny_bind (wpAny_bind (thn (hx a s σ H _ I h) λu B ζ=>?_));let(v,H1,I1,p,e,C,S,fI,W,y,c,M,r,q):=ζ;show wpAny_bind (wpAny_standAt (wpAny_pure ?_));subst y;obtain rfl:u=Value.ref e:=p;let(L,G,V,J,sn,F,R,m,Y,Q,U,k2,Z,O,j,T):=M.cls I1.kIn;let(t,l):=(I1.hok e _ c).1;let(hp,g,d,tk,os):=B;have i:(Value.ref C::(.ref S::BMV)).contains (.type "BaseException")=true:=by rw[List.contains_cons,T.hasType (X:="BaseException") (b:=true) ⋯,Bool.or_true]
 repeat (first | with_reducible show wpAny_loadPart_at l ?_ | with_reducible show wpAny_loadPart_at j ?_ | (with_reducible show wpAny_isSubtype_exc j ?_;rw[i]) | wp_step)
 show wpAny_raiseNew_none n ?_;show Jmp I1 c l rfl rfl rfl ?_ q;cases z:s0.heap.get? e with
 | none=>rfl
 | some o=>
  have k:=I1.base.free e o z r (by intro z;cases z);rw[c]at k;cases k
end
structure SlkI(K:W.Frag)(S:Addr):Prop where
 ga:W.specialIn K (.ref S) "__getattribute__"=some (some (.builtin "type.__getattribute__"))
 rd:W.readsIn K S (.type "type")=true
 fi:W.findCls K (.ref S) (.type "type") "__init__"=some (.val (.builtin "ValueError.__init__"))
section
variable{C S:Addr}{x:Str}{p apos:Pos}{es:List Expr}{f:Addr}{t:TA}{prog:Program}{A:Around}{E:Value->Shared->Prop}{h:Heap}{d:Drawn}{os:OsState}{a0:Addr}
theorem JlX{w:World}{K:W.Frag}{g:Array GenState}{t:Nat}{Q:Value->Shared->Prop}{ex:Addr}{od:Option Addr}{rest:List Value}
  (M:ExcI K C S f) (Xi:K.In h) (he:h.get? ex=some { cls:=.ref C,dict:=od,data:=.fields #[.ref a0, .none, .none, .none, .bool false, .none] }) (hr:rest.length<=sizeLine)
  (hq:∀ h' t',(∃ a1:Addr,h'.get? ex=some { cls:=.ref C,dict:=od,data:=.fields #[.ref a1, .none, .none, .none, .bool false, .none] })->(∀ b u,b≠ex->h.get? b=some u->h'.get? b=some u)->Q .none ⟨h',g,d,t',os⟩) :
  wpAny (model prog w) A (call (.builtin "ValueError.__init__") (.ref ex::rest)) Q E ⟨h,g,d,t,os⟩:=by
 have F:=PySem.F.excBase_ValueError;let(m,q,N,l,y,k,p,e,s,o,r,x,v,n,c,T):=M.cls Xi;show wpAny_call (codeAny_call_builtin F.init.plain F.initEntry (wpAny_check_init_subT F T c he rfl ?_));have a:=Heap.get?_push_of_some (h:=h) { cls:=.type "tuple",data:=.seq rest.toArray } he
 wp_walk
 show hq _ _ ⟨h.objs.size,?_⟩ λb u i j=>?_
 .rw[Heap.get?_update_self _ a rfl];rfl
 .rw[Heap.get?_update_other _ _ (Ne.symm i)];show Heap.get?_push_of_some _ j
def JkB(K:W.Frag)(t:TA):TE:=λσ H Q=>t σ H λvs H2=>∃ e rest C S f od,vs=.ref e::rest/\rest.length<=sizeLine/\H2 e=some (ExcN e C od)/\ExcI K C S f/\Q .non (upd H2 e (ExcN e C od))
theorem JjQ{pl:Sem Bool}(G:SlkI X.K S)(hg:Gl X x)(hm:X.mg x=some (.ref S))(ha:PA X (e::es) t)(hdb:autoParam ((x == ("__debug__" : Str))=false) Av)
  (hst:autoParam (starEach (e::es) X.env=(false,eval e X.env)::starEach es X.env) Au) (hpl:autoParam ((backTo pos (starEach es X.env)).any (·.1)=false) Au)
  (ht:autoParam (eval (.Call (.Attribute (.Name x p) "__init__" apos) (e::es) [] pos) X.env=(do
   let ov <- eval (.Name x p) X.env
   standAt apos.atName
   let(f,first) <- holding [ov] (getMethod ov "__init__" pl)
   callWith pos f first (backTo pos (starEach (e::es) X.env)) (backToKw pos (keywordEach [] X.env)))) Au) :
  PE X (.Call (.Attribute (.Name x p) "__init__" apos) (e::es) [] pos) (JkB X.K t):=by
 intro a s σ H Q I h;show W.methodCall_KW (pl:=pl) (Jcv I hg hm ?_ hdb) ht;show W.method_cls I.kIn G.ga (W.cls_value I.kIn G.rd G.fi (by decide +kernel) ?_);show PyProof.Rows.callWith_builtin1 (thn (ha pos a _ σ H _ (I.tok _) h) λE m ζ=>?_) hst hpl;let(o,n,I2,r,b,rest,C,A,f,v,l,i,c,M,j):=ζ;subst l;cases r with
 | @cons _ u _ us' ru rr=>
 obtain rfl:u=Value.ref b:=ru;let(w,hg):=(I2.hok b _ c).1;let(B,g,d,y,D):=m;show JlX M I2.kIn hg (by rw[<- rr.length];show i) λq t' z k=>?_;show(V.non,_,I2.write (t':=t') (e:=b) (by rw[c];show trivial) (.inl rfl) k (let⟨_,z⟩:=z;⟨_,z⟩) (Jgw z),rfl,j)
end
section
open PySem.W PySem.Builtin PySem.Builtin.ObjectAttr
variable{prog:Program}{A:Around}{E:Value->Shared->Prop}{h:Heap}{d:Drawn}{os:OsState}{x C S a0:Addr}{name:Str}{v:Value}{w:World}{K:W.Frag}{g:Array GenState}{t:Nat}{f:Addr}{ox:Obj}{Q:Unit->Shared->Prop}
theorem Jke{M:Model}{nameV:Value}(Mx:ExcI K C S f)(X:K.In h)(hx:h.get? x=some ox)(hc:ox.cls=.ref C)(hq:Q () ⟨h,g,d,t,os⟩) :
  wpAny M A (checkBuiltinCall "object.__setattr__" ⟨[.ref x,nameV,v],[]⟩) Q E ⟨h,g,d,t,os⟩:=by
 have a:=PySem.F.store_ValueError;let(l,q,N,k,y,j,o,i,s,n,r,w,u,m,e,T):=Mx.cls X;have c:(Value.ref C::.ref S::BMV).contains (.type "object")=true:=by rw[List.contains_cons,T.hasType (X:="object") (b:=true) ⋯,Bool.or_true]
 have p:=a.args (.ref x) nameV v;simp only[checkBuiltinCall,a.kind,a.split];show wpAny_bind ?_
 .unfold isInstance;repeat (first | (with_reducible show wpAny_loadPart_at hx ?_;rw[hc]) | (with_reducible show wpAny_isSubtype_exc e ?_;rw[c]) | wp_step)
  show hq
theorem Jkf(M:ExcI K C S f)(X:K.In h)(sa:findIn K (.ref C) "__setattr__"=some (some (.builtin "object.__setattr__")))(na:findIn K (.ref C) name=some none)
  (hx:h.get? x=some { cls:=.ref C,dict:=none,data:=.fields #[.ref a0, .none, .none, .none, .bool false, .none] })
  (hq:∀ h' t' dx,h.objs.size<=dx->h'.get? x=some { cls:=.ref C,dict:=some dx,data:=.fields #[.ref a0, .none, .none, .none, .bool false, .none] }->h'.Ns1 dx (λy=>if y=name then some v else none) ->
   (∀ b u,b≠x->h.get? b=some u->h'.get? b=some u)->Q () ⟨h',g,d,t',os⟩):wpAny (model prog w) A (setAttr (.ref x) name v) Q E ⟨h,g,d,t,os⟩:=by
 have m:=PySem.F.store_ValueError;let(nm,q,N,bs,sn,P,ab,R,dd,k0,k1,k2,k3,k5,I,T):=M.cls X;have f3:=m.slot.bind (.ref x);have L1:=looks_findIn (M:=model prog w) X sa;have L2:=looks_findIn (M:=model prog w) X na;unfold setAttr callSpecial? specialOf;repeat (any_goals (first | assumption | (with_reducible show wpAny_loadPart_at hx ?_) | lk | wp_step))
 show wpAny_run (codeAny_call_builtin m.slot.plain m.entry (Jke M X hx rfl ?_));have J:Looks (model prog w) h (typeOf (.ref x)) (.ref C):=(Looks.ld hx).andThen .now;show wpAny _ _ (Builtin.«object.__setattr__» ⟨[.ref x, .str name t,v],[]⟩) _ _ _;rw[osa_eq,refuse_eq];show wpAny_bind (wpAny_bind (J.at (wpAny_bind (wpAny_mroOf_exc I ?_))));rw[refuseLoop_ref,refuseLoop_ref,m.passes];show wpAny_pure (wpAny_bind (J.at (wpAny_bind (L2.at (wpAny_bind (wpAny_pure (a:=none) ?_))))));show wpAny _ _ (storeInOwnDict (.ref x) (.ref C) (.str name t) name v false) _ _ _;obtain⟨o,j⟩:∃ o:Obj,o={ cls:=.ref C,dict:=none,data:=.fields #[.ref a0, .none, .none, .none, .bool false, .none] }:=⟨_,rfl⟩;have U:o.cls=.ref C:=by rw[j]
 have H:o.dict=none:=by rw[j]
 have G:∀ c,o.data≠.cls c:=λc=>by rw[j];intro z;cases z
 rw[<- j]at hx;repeat (first | (with_reducible show wpAny_loadPart_at hx ?_;rw[U]) | with_reducible show wpAny_loadPart_at I ?_ | wp_step)
 rw[H,if_neg (by simp[typeHasDict])];split
 .rename_i i;cases i
 split
 .rename_i c i;show absurd i (G c)
 .have hx₁ : (h.push { cls:=.type "dict",data:=.dict #[] }).get? x=some o:=Heap.get?_push_of_some _ hx;have k:x≠h.objs.size:=Nat.ne_of_lt (Heap.lt_size hx);show wpAny_bind (wpAny_alloc' ?_);show wpAny_bind (wpAny_update' hx₁ ?_);show wpAny_pure ?_;have s:((h.push { cls:=.type "dict",data:=.dict #[] }).update x λo=>{ cls:=o.cls,dict:=some h.objs.size,data:=o.data,slots:=o.slots }).get? h.objs.size
    = some { cls:=.type "dict",data:=.dict #[] } :=
   (Heap.get?_update_ne _ _ _ _ k.symm).trans (Heap.get?_push_at rfl rfl)
  have r:((h.push { cls:=.type "dict",data:=.dict #[] }).update x λo=>{ cls:=o.cls,dict:=some h.objs.size,data:=o.data,slots:=o.slots }).Ns h.objs.size (λ_=>none) :=
   ⟨_, #[],_,s,rfl,λe V=>absurd V (by simp),λ_=>rfl⟩
  show wpAny _ _ (storeInDict h.objs.size (.str name t) name v) _ _ _;unfold storeInDict newKeyGuard;show wpAny_bind (wpAny_pure (wpAny_bind (wpAny_nsSet1 (Heap.Ns1.of_empty r) λh' l O=>?_)));let(oD,Y,W,B,D,p):=l.count (Within.cons name v Within.nil);show wpAny_bind (wpAny_lookBehind B (by rw[D];show pastItsLine_dict (Nat.le_trans p (by rw[length_cons,length_nil,sizeLine_eq];ac_nf))) ?_)
  wp_walk
  show hq h' _ h.objs.size (Nat.le_refl _) ?_ l λb Z n L=>?_
  .show(O.2 x k).trans ((Heap.get?_update_self _ hx₁ ?_).trans (by rw[j]));rw[j];rfl
  .show(O.2 b (Nat.ne_of_lt (Heap.lt_size L))).trans ((Heap.get?_update_ne _ _ _ _ n).trans (Heap.get?_push_of_some _ L))
structure ExcL(K:W.Frag)(D:Addr)(name:Str):Prop where
 hd:W.hasDictIn K D=true
 ga:W.findIn K (.ref D) "__getattribute__"=some (some (.builtin "BaseException.__getattribute__"))
 gh:W.findIn K (.ref D) "__getattr__"=some none
 na:W.findIn K (.ref D) name=some none
 mb:W.mroIn K D (.type "BaseException")=some true
variable{od:Obj}
theorem JlY{s:Shared}{expr:Bool}{Q:Value->Shared->Prop}(X:K.In s.heap)(c:ExcL K C name)(J:W.InstAt s.heap x ox C (some od))(hl:lookIn name od=some (some v))(hv:handedIn v=true)(q:Q v { s with toks:=s.toks+1 }) :
  wpAny (model prog w) A (getAttr (.ref x) name expr) Q E s:=by
 let(n,o,r,g,p):=s;have d:=J.type (M:=model prog w);have e:=looks_findIn (M:=model prog w) X c.ga;have b:=looks_findIn (M:=model prog w) X c.gh;have m:=looks_find (M:=model prog w) X J (findObj_own c.hd c.na rfl hl);have l:=looks_mroIn (M:=model prog w) X c.mb;have h:bindSpecial (.builtin "BaseException.__getattribute__") (.ref x)=pure (.builtin "BaseException.__getattribute__",[.ref x]):=by kernel_rfl
 have a:(expr&&onTheHeap (Value.builtin "BaseException.__getattribute__"))=false:=by cases expr <;> rfl
 unfold getAttr getAttrBy;show wpAny_bind (wpAny_mkText (wpAny_holding (wpAny_bind (d.at (wpAny_bind (e.at ?_))))));have i:(onTheHeap (Value.ref C)&&Value.builtin "BaseException.__getattribute__" == Value.builtin "object.__getattribute__")=false:=Bool.and_eq_false_iff.mpr (.inr (by decide +kernel));show wpAny _ _ (if(onTheHeap (Value.ref C)&&Value.builtin "BaseException.__getattribute__" == Value.builtin "object.__getattribute__")=true then _ else getAttrByItsOwn _ _ _ _ _ _) _ _ _;rw[if_neg (by rw[i];decide)];unfold getAttrByItsOwn hookBefore;show wpAny_bind ?_;rw[if_pos (show onTheHeap (Value.ref C)=true from rfl)];show b.at ?_;show wpAny_bind (wpAny_attempt (wpAny_holding ?_));unfold callGetattribute boundAndCalled;rw[a,if_neg ⋯,h];show wpAny_bind (wpAny_pure ?_);show wpAny_call (codeAny_call_builtin (by decide +kernel) PySem.F.entry_bexc_ga ?_);have j:builtinKind "BaseException.__getattribute__"=some .slot:=by decide +kernel
 have f:splitId "BaseException.__getattribute__"=some ("BaseException","__getattribute__"):=by decide +kernel
 have k:=PySem.F.args_bexc_ga (.ref x) (.str name g)
 (simp only[checkBuiltinCall,j,f];show wpAny_bind ?_)
 unfold isInstance;repeat (first | lk | wp_step)
 show wpAny _ _ (handedOut v) _ _ _;show W.handed_on hv q
end
section
variable{o value:Expr}{pos':Pos}{tv:TE}{f:Str}
structure ExcA(K:W.Frag)(C:Addr)(f:Str):Prop where
 sa:W.findIn K (.ref C) "__setattr__"=some (some (.builtin "object.__setattr__"))
 na:W.findIn K (.ref C) f=some none
def sFldX(K:W.Frag)(ta tv:TE)(f:Str):TS:=λD σ H=>tv σ H λy H1=>ta σ H1 λx H2=>∃ e C S g,x=.ref e/\H2 e=some (ExcN e C none)/\ExcI K C S g/\ExcA K C f /\
 ∀ dx,H2 dx=none->dx≠e->D.nx σ (upd (upd H2 e (ExcN e C (some dx))) dx (.xd [(f,y)]))
theorem JlD(ha:PE X o ta)(hv:PE X value tv)(hs:swapsWith value (some (.Attribute o f pos')) pos.line X.env=pure false):PS X (.Assign [.Attribute o f pos'] value pos) (sFldX X.K ta tv f):=by
 intro l s σ H D I h;show plainObj_wpAny_Assign_Attribute (thn (hv l s σ H _ I h) λu Y ζ=>?_) hs;let(y,H1,I1,P,q):=ζ;show thn (ha l Y σ H1 _ I1 q) λov s2 ζ=>?_;let(x,J,I2,Q,e,C,S,g,T,i,M,c,R):=ζ;subst T;obtain rfl:ov=Value.ref e:=Q;let(V,N):=(I2.hok e _ i).1;let(hp,gg,d,tk,os):=s2;show Jkf M I2.kIn c.sa c.na N λh' t' w A z U k=>?_;have m:J w=none:=I2.hok.fresh A;have L:w≠e:=λq=>by rw[q,i]at m;cases m
 have W:hp.get? w=none:=Heap.get?_none_of_le A;show(σ,_,I2.un (t':=t') ⟨λb j z n nb _=>?_,λb j z n nb _=>?_,λb j z n _=>?_,λb j z _=>?_,λb Z z=>?_,λb j v z=>?_,λb p z=>⟨#[],?_⟩⟩ λa j t=>?_,R w m L)
 .show k b j (λy=>by rw[y,i]at n;cases n) z
 .show(_,k b j (λy=>by rw[y,i]at n;cases n) z)
 .rw[Jag (λy=>by rw[y,W]at z;cases z),Jag (λy=>by rw[y,i]at n;cases n)];show n
 .by_cases y:b=e
  .show(_,by rw[y];assumption)
  .show(j,k b j y z)
 .rw[Jag (Jai z m),Jag (λy=>by rw[y,i]at z;cases z)];show z
 .rw[Jag (Jai z m),Jag (λy=>by rw[y,i]at z;cases z)];show z
 .rw[Jag (Jai z m),Jag (λy=>by rw[y,i]at z;cases z),z];simp
 .by_cases G:a=w
  .subst G;rw[Jaj]at t;cases t;show(_,U,λB=>?_);show RelO (List.lookup B [(f,y)]) (if B=f then some u else none);by_cases q:B=f
   .subst q;simp[List.lookup,RelO];show P
   .have : (B == f)=false:=by simpa using q
    simp[List.lookup,this,q,RelO]
  .rw[Jag G]at t;by_cases F:a=e
   .subst F;rw[Jaj]at t;cases t;show Jgw ⟨V,z⟩
   .rw[Jag F]at t;show(I2.hok a j t).stay (λb v E O=>k b v ?_ O) (λb r=>?_) (λb Z r=>?_)
    .rcases E with rfl | E
     .show F
     .showλy=>by rw[y,i]at E;cases E
    .rw[Jag (Jai r m),Jag (λy=>by rw[y,i]at r;cases r)];show r
    .rw[Jag (Jai r m),Jag (λy=>by rw[y,i]at r;cases r)];show r
def tFldX(K:W.Frag)(ta:TE)(f:Str):TE:=λσ H Q=>ta σ H λx H1=>∃ e C dx fs v,x=.ref e/\H1 e=some (ExcO e C (some dx))/\ExcL K C f/\H1 dx=some (.xd fs)/\fs.lookup f=some v/\Q v H1
theorem Jlx(he:PE X e ta)(hb:attributeBase e f X.env (eval e X.env)=eval e X.env):PE X (.Attribute e f pos) (tFldX X.K ta f):=by
 intro a s σ H Q I h;show Jh7 hb (thn (he a s σ H _ I h) λu L ζ=>?_);let(x,E,I1,w,d,C,p,M,v,t,z,c,k,l,q):=ζ;subst t;obtain rfl:u=Value.ref d:=w;let(F,G,m,i,y,D):=(I1.hok d _ z).1;let(j,n,r):=I1.hok p _ k;let(J,b,B):=Jee n;let(u,A,g):=RelO.some_of (v:=v) (o:=j f) (by rw[<- l];show r f);show JlY I1.kIn c ⟨m,i,by unfold W.notCls;rw[y],by rw[D];show b⟩ (by rw[B,A]) (Jf1 g) ?_;show(v,E,I1.tok _,g,q)
end
structure XCal(P:Program)(w:World)(K:W.Frag)(mg:Str->Option Value)(base:Heap)(k:Nat)(x:Str)(C S:Addr)(ps:List Str)(sp:Sp):Prop where
 ex:∃(f:Addr)(fd:FuncData),FnOk P w K mg base (CX1 P w) k f fd ps sp/\mg x=some (.ref C)/\ExcI K C S f/\Binds K fd ps []
section
variable{k':Nat}{x mn:Str}{C S:Addr}{Cs:Addr->Prop}{ps:List Str}{sp:Sp}{E:XK}{p apos:Pos}{o:Expr}{es:List Expr}{k:Nat}{f:Str}{t:TA}{K:W.Frag}
theorem XCal.ev(G:XCal X.prog X.w X.K X.mg X.base k x C S ps sp)(hr:Room k' X.A)(hk:k+1<=k')(hg:Gl X x)(hx:JbZ (CX1 X.prog X.w) X E)(ha:PA X (e::es) t)
  (hdb:autoParam ((x == ("__debug__" : Str))=false) Av) (he:autoParam (starEach (e::es) X.env=(false,eval e X.env)::starEach es X.env) Au) (hpl:autoParam ((backTo pos (starEach es X.env)).any (·.1)=false) Au) :
  PE X (.Call (.Name x p) (e::es) [] pos) (Jje C sp E t):=by
 let(f,c,F,b,M,a):=G.ex;show JjV M F (hr.mono hk) hg b a hx ha hdb he hpl
theorem JjT(hK:X.K=K)(he:PE X e ta)(hb:attributeBase e f X.env (eval e X.env)=eval e X.env):PE X (.Attribute e f pos) (tFldX K ta f):=by
 subst hK;show Jlx he hb
end
section
variable{H0:Hp}{Q:VK}{E:XK}{σ:St}{En:Ends}{C:Addr}{sp:Sp}{tv te:TE}{mn:Str}{Cs:Addr->Prop}{K:W.Frag}{t:TA}{f:Str}
theorem y84y:Jjh K H0 E te En σ H=te σ H λv H1=>∃ e C S f od,v=.ref e/\H1 e=some (ExcN e C od)/\ExcI K C S f/\H0 e=none/\E (.ref C) od (unt H1 e):=rfl
theorem y6ay:Jje C sp E t σ H Q=t σ H λvs H1=>vs.length<=sizeLine/\∀ x,H1 x=none->sp (.ref x::vs) (upd H1 x (ExcN x C none)) (λv H2=>v=.non/\Q (.ref x) H2) E:=rfl
theorem y2cy:JkB K t σ H Q=t σ H λvs H2=>∃ e rest C S f od,vs=.ref e::rest/\rest.length<=sizeLine/\H2 e=some (ExcN e C od)/\ExcI K C S f/\Q .non (upd H2 e (ExcN e C od)):=rfl
theorem y8ay:sFldX K ta tv f En σ H=tv σ H λy H1=>ta σ H1 λx H2=>∃ e C S g,x=.ref e/\H2 e=some (ExcN e C none)/\ExcI K C S g/\ExcA K C f/\∀ dx,H2 dx=none->dx≠e->En.nx σ (upd (upd H2 e (ExcN e C (some dx))) dx (.xd [(f,y)])):=rfl
theorem y50y:tFldX K ta f σ H Q=ta σ H λx H1=>∃ e C dx fs v,x=.ref e/\H1 e=some (ExcO e C (some dx))/\ExcL K C f/\H1 dx=some (.xd fs)/\fs.lookup f=some v/\Q v H1:=rfl
end
section
variable{pins:List (Addr × Obj)}{σ:St}{a:Addr}{u:Value}{y:V}{A:Around}{E:Value->Shared->Prop}{s:Shared}{k:Key}{r:Value}{v:Option V}{o:Option Value}
theorem Jj4{w:Value}(h:RelO v o)(e:o=some w):∃ x,v=some x/\RelV x w:=by
 subst e;cases v with
 | none=>show absurd h (by simp[RelO])
 | some x=>show(x,rfl,h)
theorem Jj3(h:RelO v o)(e:o=none):v=none:=by
 subst e;cases v with
 | none=>rfl
 | some x=>show absurd h (by simp[RelO])
theorem JjB{Q:Value->Shared->Prop}(I:Inv X pins σ H s)(e:H a=some (.dK kvs))(ry:RelV (kV k) u)(rd:RelV y r)(hl:kvs.length<sizeLine)
  (h1:∀ v w' s',valV kvs k=some v->Inv X pins σ H s'->RelV v w'->Q w' s') (h2:∀ s',valV kvs k=none->Inv X pins σ (upd H a (.dK (putK kvs k y))) s'->Q r s') :
  wpAny (model X.prog X.w) A (call (.builtin "dict.setdefault") [.ref a,u,r]) Q E s:=by
 let(z,f,i,b,d):=dk_of I.hok e;show call_meetsIn PySem.F.slot_dict_setdefault d.typeIs PySem.F.entry_dict_setdefault (PySem.F.args_dict_setdefault_3 _ _ _) (PySem.kt_meets_setdefault (Jau X.prog X.w) a (kV_is ry) f r) ⟨i,d,by rw[<- b.length];show z,λw p=>?_,λt g c n=>?_⟩
 .let(x,m,o):=Jj4 (b.val k) p;show h1 x w _ m (I.tok _) o
 .have l:=Jj3 (b.val k) t;show h2 _ l ?_;have h:∃ q,g.get? a=some q:=let⟨q,_,_,hq,_⟩:=c;⟨q,hq⟩;have j:(putK kvs k y).length<=sizeLine:=by have:=Jbx kvs k y;ac_nf
  show Jfa I (by rw[e];show True.intro) n h (Jhe j f (b.put k rd) c)
end
def tDSet(td ty tx:TE):TE:=λσ H Q=>td σ H λx H1=>∃ a,x=.ref a/\IsD H1 a/\ty σ H1 λy H2=>tx σ H2 λz H3=>∃ kvs k,H3 a=some (.dK kvs)/\y=kV k/\kvs.length<sizeLine /\
 (∀ v,valV kvs k=some v->Q v H3)/\(valV kvs k=none->Q z (upd H3 a (.dK (putK kvs k z))))
section
variable{o:Expr}{apos cpos:Pos}{ty tx:TE}{f:Expr}{td:TE}
theorem JiR(ho:PE X o td)(he:PE X e ty)(hf:PE X f tx)(m:M2 X o "setdefault" apos e f cpos):PE X (.Call (.Attribute o "setdefault" apos) [e,f] [] cpos) (tDSet td ty tx):=by
 intro b s σ H Q I h;show wpAny_Call_method m.base m.few m.line PySem.F.plainAttrs_dict PySem.F.slot_dict_setdefault PySem.F.type_dict_setdefault (thn (ho b s σ H _ I h) λu K ζ=>?_);let(x,L,I1,t,a,w,d,D):=ζ;subst w;obtain rfl:u=Value.ref a:=t;let(C,B,_):=Jf2 I1 d;show(C,B,?_);rw[m.trees];show Calls.callWith_builtin rfl (Calls.evalArgs_plain (Calls.spliced_cons (thn (he b K σ L _ I1 D) λS N ζ=>?_)));let(y,l,I2,r,A):=ζ;show Calls.spliced_cons (thn (hf b N σ l _ I2 A) λP O ζ=>?_);let(z,p,I3,i,q,k,E,G,J,M,n):=ζ;show Calls.spliced_nil ?_
 subst G;show JjB I3 E r i J (λv R j c I4 g=>⟨v,p,I4,g,M v c⟩) λj c I4=>⟨z,_,I4,i,n c⟩
end
section
variable{σ:St}{Q:VK}{ty tx:TE}{td:TE}
theorem y4ay:tDSet td ty tx σ H Q=td σ H λx H1=>∃ a,x=.ref a/\IsD H1 a/\ty σ H1 λy H2=>tx σ H2 λz H3=>∃ kvs k,H3 a=some (.dK kvs)/\y=kV k/\kvs.length<sizeLine/\(∀ v,valV kvs k=some v->Q v H3)/\(valV kvs k=none->Q z (upd H3 a (.dK (putK kvs k z)))):=rfl
theorem y41y:JkD td ty tx σ H Q=td σ H λx H1=>∃ a,x=.ref a/\IsD H1 a/\ty σ H1 λy H2=>tx σ H2 λz H3=>∃ o,DGet H3 a y o/\Q (o.getD z) H3:=rfl
theorem y43y{trs:List (TE × TE)}:tDisp trs σ H Q=∀ p,H p=none->Jgl trs σ (upd H p (.dK [])) λps H2=>H2 p=some (.dK [])/\∃ kvs:List (Key × V),ps=kvs.map (λkv=>(kV kv.1,kv.2))/\kvs.length<=15/\Q (.ref p) (upd H2 p (.dK (Je0 [] kvs))):=rfl
theorem y80y{tk tv:TE}{R:List (V × V)->Hp->Prop}:Jgl [(tk,tv)] σ H R=tk σ H λx H1=>tv σ H1 λy H2=>R [(x,y)] H2:=rfl
theorem y2ey{K:W.Frag}{T:String}{r:V->List V->Hp->VK->Prop}{to:TE}:tBM0 K T r to σ H Q=to σ H λx H1=>tyV K T x H1/\r x [] H1 Q:=rfl
end
def BG(f : α->Str)(P : α->V->Prop)(as:List α)(kvs:List (Key × V)):Prop:=kvs.map (·.1)=as.map (λa=>Sum.inr (f a))/\All2 P as (kvs.map (·.2))
section
variable{f : α->Str}{P P' : α->V->Prop}{as:List α}{a : α}
theorem BG.mono(h:BG f P as kvs)(m:∀ a x,P a x->P' a x):BG f P' as kvs:=⟨h.1,h.2.mono m⟩
theorem BG.length(h:BG f P as kvs):kvs.length=as.length:=by simpa using congrArg List.length h.1
theorem BG.cons:BG f P (a::as) kvs↔∃ w r,kvs=(Sum.inr (f a),w)::r/\P a w/\BG f P as r:=by
 constructor
 .rintro⟨b,c⟩;match kvs,b,c with
  | (k,w)::r,b,c=>
   rw[map_cons,map_cons,List.cons.injEq]at b;let(y,g,e,p,c):=c;rw[map_cons,List.cons.injEq]at e;let(rfl,rfl):=e;let(d,b):=b;have d:k=Sum.inr (f a):=d;subst d;show(_,r,rfl,p,b,c)
 .rintro⟨w,r,rfl,p,h⟩;show(by rw[map_cons,map_cons,h.1],w,r.map (·.2),rfl,p,h.2)
theorem BG.nil:BG f P [] kvs↔kvs=[]:=by
 constructor
 .rintro⟨h,_⟩;simpa using h
 .rintro rfl;show(rfl,rfl)
theorem BG.any:∀{as:List α}{kvs:List (Key × V)}{z:Str},BG f P as kvs->(kvs.any λkv=>decide (kv.1=Sum.inr z))=decide (z∈as.map f)
 | [],kvs,z,h=>by rw[BG.nil.mp h];simp
 | a::as,kvs,z,h=>by
  let(w,r,rfl,_,h):=BG.cons.mp h;rw[any_cons,BG.any h];by_cases c:f a=z
  .subst c;simp
  .have c1:(Sum.inr (f a):Key)≠Sum.inr z:=λe=>c (by injection e);have c2:z≠f a:=λe=>c e.symm;simp[c1,c2]
theorem BG.get:∀{as:List α}{kvs:List (Key × V)}{z:Str},BG f P as kvs->(∃ a v,a∈as/\f a=z/\valV kvs (Sum.inr z)=some v/\P a v)\/(z∉as.map f/\valV kvs (Sum.inr z)=none)
 | [],kvs,z,h=>by
  rw[BG.nil.mp h];show .inr ⟨by simp,rfl⟩
 | a::as,kvs,z,h=>by
  let(w,r,rfl,p,h):=BG.cons.mp h;by_cases c:f a=z
  .subst c;show .inl ⟨a,w,by simp,rfl,Jbg rfl,p⟩
  .have c1:(Sum.inr (f a):Key)≠Sum.inr z:=λe=>c (by injection e);have c2:z≠f a:=λe=>c e.symm;have e:valV ((Sum.inr (f a),w)::r) (Sum.inr z)=valV r (Sum.inr z):=by simp[valV,List.find?_cons,c1]
   rw[e];rcases BG.get h (z:=z)with⟨b,v,h1,h2,h3,h4⟩ | ⟨h1,h2⟩
   .show .inl ⟨b,v,by simp[h1],h2,h3,h4⟩
   .show .inr ⟨by simp[c2];simpa using h1,h2⟩
theorem BG.some(h:BG f P as kvs)(hz:z∈as.map f):∃ a v,a∈as/\f a=z/\valV kvs (Sum.inr z)=some v/\P a v:=by
 rcases h.get (z:=z)with h | ⟨h,_⟩
 .show h
 .show absurd hz h
theorem BG.none(h:BG f P as kvs)(hz:z∉as.map f):valV kvs (Sum.inr z)=none:=by
 rcases h.get (z:=z)with⟨a,v,h1,h2,_⟩ | ⟨_,h⟩
 .show absurd (h2 ▸ List.mem_map_of_mem (f:=f) h1) hz
 .show h
theorem BG.val(h:BG f P as kvs):(valV kvs (Sum.inr z)).isSome=decide (z∈as.map f):=by
 by_cases c:z∈as.map f
 .let(a,v,_,_,e,_):=h.some c;rw[e,decide_eq_true c];rfl
 .rw[h.none c,decide_eq_false c];rfl
theorem BG.new(h:BG f P as kvs)(hn:f a∉as.map f)(p:P a v):BG f P (as++[a]) (putK kvs (Sum.inr (f a)) v):=by
 have e:putK kvs (Sum.inr (f a)) v=kvs++[(Sum.inr (f a),v)]:=by
  unfold putK;rw[h.any,if_neg (by simpa using hn)]
 rw[e];show(by rw[map_append,map_append,h.1];rfl,by rw[map_append];show h.2.append (.one p))
end
structure PD where
 nm:Str
 st:Str
 en:Str
 sz:Int × Int
 mo:Int × Int
 wt:Int
def JdL(p:PD)(f:Str):List (Str × Pr):=if p.st=f then[(p.en,(p.nm,true))]else if p.en=f then[(p.st,(p.nm,false))]else[]
def JaB(ls:List PD)(f:Str):List (Str × Pr):=ls.flatMap λp=>JdL p f
theorem Jeb(ls:List PD)(p:PD)(f:Str):JaB (ls++[p]) f=JaB ls f++JdL p f:=by simp[JaB]
variable{ls:List PD}{pr:Pr}
theorem Ja0{f g:Str}:(g,pr)∈JaB ls f↔∃ p∈ls,(p.st=f/\p.en=g/\pr=(p.nm,true))\/(p.st≠f/\p.en=f/\p.st=g/\pr=(p.nm,false)):=by
 unfold JaB;rw[mem_flatMap];show exists_congr λp=>and_congr_right λ_=>?_;unfold JdL;by_cases a:p.st=f
 .rw[if_pos a,mem_singleton,Prod.mk.injEq];show(λh=>.inl ⟨a,h.1.symm,h.2⟩,λh=>h.elim (λh=>⟨h.2.1.symm,h.2.2⟩) λh=>absurd a h.1)
 .rw[if_neg a];by_cases b:p.en=f
  .rw[if_pos b,mem_singleton,Prod.mk.injEq];show(λh=>.inr ⟨a,b,h.1.symm,h.2⟩,λh=>h.elim (λh=>absurd h.1 a) λh=>⟨h.2.2.1.symm,h.2.2.2⟩)
  .rw[if_neg b];show(λh=>by simp at h,λh=>h.elim (λh=>absurd h.1 a) λh=>absurd h.2.1 b)
theorem JgF:∀{ls:List PD}{p q:PD},(ls.map (·.nm)).Nodup->p∈ls->q∈ls->p.nm=q.nm->p=q
 | [],_,_,_,hp,_,_=>by cases hp
 | a::ls,p,q,hn,hp,hq,e=>by
  rw[map_cons,nodup_cons]at hn;rcases mem_cons.mp hp with h1 | h1 <;> rcases mem_cons.mp hq with h2 | h2
  .rw[h1,h2]
  .subst h1;show absurd (e ▸ mem_map.mpr ⟨q,h2,rfl⟩) hn.1
  .subst h2;show absurd (e ▸ mem_map.mpr ⟨p,h1,rfl⟩) hn.1
  .show JgF hn.2 h1 h2 e
inductive JaQ(ls:List PD)(a:Str):List Pr->Str->Prop
 | nil:JaQ ls a [] a
 | snoc {w:List Pr} {f g:Str} {pr:Pr}:JaQ ls a w f->(g,pr)∈JaB ls f->JaQ ls a (w++[pr]) g
def Conn(ls:List PD)(a b:Str):Prop:=∃ w,JaQ ls a w b
variable{a b:Str}{S:List Str}
theorem JkX(ha:a∈S)(hc:∀ f∈S, ∀ e∈JaB ls f,e.1∈S)(h:Conn ls a b):b∈S:=by
 let(w,h):=h;induction h with
 | nil=>show ha
 | snoc _ hm ih=>show hc _ ih _ hm
def fcsOf(ls:List PD):List Str:=ls.flatMap λp=>[p.st,p.en]
theorem Jhj{f:Str}{e:Str × Pr}(h:e∈JaB ls f):e.1∈fcsOf ls:=by
 let(p,b,a):=mem_flatMap.mp h;show mem_flatMap.mpr ⟨p,b,?_⟩;unfold JdL at a;split at a
 .rw[mem_singleton.mp a];simp
 .split at a
  .rw[mem_singleton.mp a];simp
  .simp at a
theorem JhA{w:List Pr}(h:JaQ ls a w b):b∈a::fcsOf ls:=by
 cases h with
 | nil=>simp
 | snoc _ hm=>show mem_cons_of_mem _ (Jhj hm)
theorem Jk1(ls:List PD):(fcsOf ls).length=2*ls.length:=by
 unfold fcsOf;induction ls with
 | nil=>rfl
 | cons p ls ih=>
  rw[List.flatMap_cons,length_append,ih];simp;ac_nf
section
variable{pins:List (Addr × Obj)}{σ:List (Option V)}{s':Shared}{d:Addr}{kvs':List (Key × V)}{od:Obj}{s:Shared}
theorem Inv.freeze(I:Inv X pins σ H s)(e:H d=some (.dK kvs))(ho:s.heap.get? d=some od):Inv X pins σ (upd H d (.frz od (.dK kvs))) s:=by
 show I.un (h':=s.heap) (t':=s.toks) ⟨λb o q _ _ _=>q,λb o q _ _ _=>⟨o.slots,q⟩,λb o q n _=>?_,λb o q _=>⟨o,q⟩,λb h q=>?_,λb o u q=>?_,λb j q=>⟨#[],?_⟩⟩ λa o q=>?_
 .rw[Jag (λz=>by rw[z,e]at n;cases n)];show n
 .rw[Jag (λz=>by rw[z,e]at q;cases q)];show q
 .rw[Jag (λz=>by rw[z,e]at q;cases q)];show q
 .rw[Jag (λz=>by rw[z,e]at q;cases q),Array.append_empty];show q
 .have f:∀ i b,H b=some (.own i)->upd H d (.frz od (.dK kvs)) b=some (.own i):=λi b q=>by
   rw[Jag (λz=>by rw[z,e]at q;cases q)];show q
  have g:∀ b h,H b=some (.tup h)->upd H d (.frz od (.dK kvs)) b=some (.tup h):=λb h q=>by
   rw[Jag (λz=>by rw[z,e]at q;cases q)];show q
  by_cases c:a=d
  .subst c;rw[Jaj]at q;cases q;show(ho,(I.hok a _ e).stay (λ_ _ _ z=>z) (f a) g)
  .rw[Jag c]at q;show(I.hok a o q).stay (λ_ _ _ z=>z) (f a) g
theorem Inv.thaw(I:Inv X pins σ H s)(e:H d=some (.dK kvs))(I':Inv X pins σ H' s')(e':H' d=some (.frz od (.dK kvs'))):Inv X pins σ (upd H' d (.dK kvs')) s':=by
 have m:∀{b:Addr}{o:HO},H' b=some o->(∀ u v,o≠.frz u v)->b≠d:=λq h z=>by rw[z,e']at q;cases q;show h _ _ rfl
 show(I'.ok,I'.os,I'.bare,⟨I'.base.keep,I'.base.slot,λb o q n t=>?_,I'.base.there,λb l q=>?_,λb o u q=>?_,λb A q=>?_⟩,I'.loc,I'.cell,?_,λx c z=>?_,λp B=>?_,λa o q=>?_,I'.len)
 .have:=I'.base.free b o q n t;rw[Jag (λz=>by rw[z,e']at this;cases this)];show this
 .have:=I'.base.tups b l q;rw[Jag (m this (by intro u v z;cases z))];show this
 .have f:=I'.base.frzs b o u q;have g:=I.base.frzs b o u q;rw[Jag (λz=>by rw[z,e]at g;cases g)];show f
 .let(j,f):=I'.base.tbls b A q;show(j,by rw[Jag (m f (by intro u v z;cases z))];show f)
 .have:=I'.free;rw[Jag (λz=>by rw[z,e']at this;cases this)];show this
 .have:=I'.freeC x c z;rw[Jag (λz=>by rw[z,e']at this;cases this)];show this
 .let(f,g,y):=I'.pin p B;show(f,by rw[Jag (λz=>by rw[z,e']at g;cases g)];show g,y)
 .have k:∀ r b,H' b=some (.own r)->upd H' d (.dK kvs') b=some (.own r):=λr b q=>by
   rw[Jag (m q (by intro u v z;cases z))];show q
  have i:∀ b l,H' b=some (.tup l)->upd H' d (.dK kvs') b=some (.tup l):=λb l q=>by
   rw[Jag (m q (by intro u v z;cases z))];show q
  by_cases c:a=d
  .subst c;rw[Jaj]at q;cases q;have f:ObjOk X.prog X.w H' s'.heap a (.dK kvs'):=(I'.hok a _ e').2;show f.stay (λ_ _ _ z=>z) (k a) i
  .rw[Jag c]at q;show(I'.hok a o q).stay (λ_ _ _ z=>z) (k a) i
end
def Itv(d:Addr)(od:Obj)(kvs:List (Key × V)):It :=
 ⟨λi H=>H d=some (.frz od (.dK kvs))/\i<kvs.length,λi H x H'=>H'=H/\(kvs.map (·.2))[i]?=some x,λi H=>H d=some (.frz od (.dK kvs))/\kvs.length<=i⟩
variable{P:Program}{tg:Expr}{d it:Addr}{od:Obj}{vs:List (Key × Value)}{ep:Nat}
theorem Jjo{w:World}{K:W.Frag}(rel:KV kvs vs)(hd:∀ h:Heap,h.get? d=some od->h.DictAt (Jau P w) d vs ep) :
  Turn P w K tg (Itv d od kvs) [it] it (λi h=>h.IsValIter it d i vs.length ep) where
 mem:=by simp
 obj:=λi h a b j=>by
  obtain rfl:b=it:=by simpa using j
  let(o,e,c,z):=a;show(o,e,λv q=>by rw[z]at q;cases q)
 keep:=λi h p a k=>a.at λo e=>k it (by simp) o e
 item:=by
  intro X r y A J i f s σ H E I n a G;subst r y A;let(l,M):=G;let(D,t,Y,C,B,F):=n it (by simp);have g:=(I.hok d _ l).1;have O:=rel.length;have Q:=Jjq rel;obtain⟨x,L⟩:∃ x,(kvs.map (·.2))[i]?=some x:=⟨_,List.getElem?_eq_getElem (by rw[length_map];show M)⟩;let(u,N,S):=Q.get L;rw[List.getElem?_map]at N;let((k,Z),T,rfl):=Option.map_eq_some_iff.mp N;show wpAny_pyNext_values_item a (hd _ g) T λp m U=>?_;have I1:Inv X f σ H { s with heap:=p }:=I.turned (t':=s.toks) (λb o j e=>(U.2 b j).trans e) D t C B F;let(o,e,c,z):=id m;show(_,rfl,go_of (s:={ s with heap:=p }) e c z ⋯ ⟨x,H,I1,S,⟨rfl,L⟩,m,λb j=>(n b j).1⟩)
 done:=by
  intro X r y A J i f s σ H E I n a G;subst r y A;let(l,M):=G;let(D,t,Y,C,B,F):=n it (by simp);have g:=(I.hok d _ l).1;have O:=rel.length;show wpAny_pyNext_values_end (I.ok.hd J) a (hd _ g) (List.getElem?_eq_none ∅) λp R=>⟨rfl,I.turned (t':=s.toks) (λb o j e=>R b o j e) D t C B F⟩
 self:=λ_ _ _ _ _ a h=>wpAny_pyIter_valiter a h
def iVals(td:TE):TI:=λσ H R=>td σ H λx H1=>∃ d kvs,x=.ref d/\H1 d=some (.dK kvs)/\∀ od,R (Itv d od kvs) (upd H1 d (.frz od (.dK kvs)))
variable{apos cpos:Pos}
theorem JiU{o:Expr}{td:TE}(ho:PE X o td)(hb:autoParam (attributeBase o "values" X.env (eval o X.env)=eval o X.env) Au)(hn:autoParam ((apos.endLine == cpos.line)=true) Au) :
  PI X tg (.Call (.Attribute o "values" apos) [] [] cpos) (iVals td):=by
 intro c s σ H R I h;show wpAny_Call_method0_late hb hn (thn (ho c s σ H _ I h) λv a ζ=>?_);let(y,D,I1,p,d,kvs,u,e,A):=ζ;subst u;obtain rfl:v=Value.ref d:=p;let(j,x,r):=Jf2 I1 (.inl ⟨kvs, .inl e⟩);let(C,_,vs,i,m):=dk_of I1.hok e;show("dict","dict.values",PySem.F.plainAttrs_dict,PySem.F.slot_dict_values,PySem.F.type_dict_values,j,x,Calls.callWith_builtin rfl (PySem.evalArgs_none ?_));show call_meetsIn PySem.F.slot_dict_values j PySem.F.entry_dict_values (PySem.F.args_dict_values_1 _) (meets_dict_values (Jau X.prog X.w) d r) ⟨⟨vs,m⟩,?_⟩;let(ep,n):=m.dictAt;let(l,t,f,rest):=id n;show wpAny_pyIter_values (knd:=Jau X.prog X.w) (v:=a.heap.objs.size) (d:=d) (kvs:=vs) (ep:=ep) ⟨_,Heap.get?_push_size _ rfl,rfl,rfl⟩ (n.push _) ?_;have B:∀ b o,a.heap.get? b=some o->((a.heap.push { cls:=.type "dict_values",data:=.fields #[.ref d] }).push { cls:=.type "dict_valueiterator",data:=.fields #[.ref d, .int 0 0, .int vs.length 0, .int ep 0] }).get? b=some o:=λb o z=>Heap.get?_push_of_some _ (Heap.get?_push_of_some _ z);have I2:=(I1.freeze e f).kept (t':=a.toks) B;have k:a.heap.objs.size<=(a.heap.push { cls:=.type "dict_values",data:=.fields #[.ref d] }).objs.size:=by
  rw[Heap.size_push];show Nat.le_succ _
 show(_,[_],_,_,_,rfl,I2,Jjo (vs:=vs) (ep:=ep) i (λh q=>⟨l,t,q,rest⟩),⟨_,Heap.get?_push_size _ rfl,rfl,rfl⟩,λb g=>?_,A l);obtain rfl:=mem_singleton.mp g;show I1.fpOk k ((I1.freeze e f).hok.fresh k)
def tThaw(t:TE):TE:=λσ H Q=>∃ d kvs,H d=some (.dK kvs)/\t σ H λv H'=>∃ od kvs',H' d=some (.frz od (.dK kvs'))/\Q v (upd H' d (.dK kvs'))
theorem JgR{t:TE}(h:PE X e t):PE X e (tThaw t):=by
 intro a s σ H Q I ⟨d,c,j,q⟩;show thn (h a s σ H _ I q) λv k ζ=>by let(x,m,I1,i,l,b,g,f):=ζ;show(x,_,I.thaw j I1 g,i,f)
section
variable{cs:List (Nat × Str)}{te tl:TE}{σ:St}{Q:VK}{k:Nat}{g:TG}{td:TE}
theorem y3cy:tThaw (tComp k cs (iVals td) g te) σ H Q=∃ d kvs,H d=some (.dK kvs)/\td σ H λx H1=>∃ d1 kvs1,x=.ref d1/\H1 d1=some (.dK kvs1)/\∀ od,CompJ (Itv d1 od kvs1) k cs g te σ (λv H'=>∃ od kvs',H' d=some (.frz od (.dK kvs'))/\Q v (upd H' d (.dK kvs'))) (upd H1 d1 (.frz od (.dK kvs1))):=rfl
theorem CompJ.vals(Pv:Nat->List V->Hp->Prop)(h0:Pv 0 [] H1)(hl:∀ i ys H',i<=kvs.length->Pv i ys H'->H' d=some (.frz od (.dK kvs))/\ys.length<=sizeLine)
  (hs:∀ i x ys H2,(kvs.map (·.2))[i]?=some x->Pv i ys H2->g x (List.replicate k none++Jaz cs σ) H2 λσ4 H4=>te σ4 H4 λy H5=>Pv (i+1) (ys++[y]) H5) (hd:∀ ys H2,Pv kvs.length ys H2->∀ p,H2 p=none->Q (.ref p) (upd H2 p (.lst ys))) :
  CompJ (Itv d od kvs) k cs g te σ Q H1:=by
 show(λi m ys H'=>Pv i ys H'/\i<=kvs.length/\m=kvs.length-i,⟨_,h0,Nat.zero_le _,rfl⟩,?_);rintro i m ys H2 ⟨a,l,rfl⟩;let(b,f):=hl i ys H2 l a;show(f,?_);by_cases c:i<kvs.length
 .show .inr ⟨⟨b,c⟩,?_⟩;rintro x h ⟨rfl,j⟩;have e:(λ(σ4:St)(H4:Hp)=>te σ4 H4 λy H5=>Pv (i+1) (ys++[y]) H5)=λσ4 H4=>te σ4 H4 λy H5=>∃ m',m'<kvs.length-i/\Pv (i+1) (ys++[y]) H5/\i+1<=kvs.length/\m'=kvs.length-(i+1):=by
   funext σ4 H4
   congr 1
   funext y H5
   show propext ⟨λq=>⟨_,Nat.sub_lt_sub_left c (Nat.lt_succ_self i),q,c,rfl⟩,λζ=>by let(_,_,q,_):=ζ;show q⟩
  rw[<- e];show hs i x ys h j a
 .have n:i=kvs.length:=by ac_nf
  subst n;show .inl ⟨⟨b,Nat.le_refl _⟩,hd ys H2 a⟩
end
section
variable{k':Nat}{x:Str}{C:Addr}{ps:List Str}{sp:Sp}{E:XK}{p:Pos}{k:Nat}
theorem KCal.ev0(G:KCal X.prog X.w X.K X.mg X.base k x C ps sp)(hr:Room k' X.A)(hk:k+1<=k')(hg:Gl X x)(hx:JbZ (CX1 X.prog X.w) X E)(hdb:autoParam ((x == ("__debug__" : Str))=false) Av) :
  PE X (.Call (.Name x p) [] [] pos) (tMake C sp [] E tNil):=by
 let(f,c,F,b,M,a):=G.ex;show JjU M F (hr.mono hk) hg b a .nil hx hdb
end
def wtB:D->Bool
 | .int i=>decide (1<=i)
 | _=>false
def partB:D->Bool
 | .tup [n,s,e,z,m,w]=>nameB n&&Jkp s e&&(fracB z&&fracB m&&JmW w)&&(!lessD m (.tup [.int 0, .int 1])&&wtB w)
 | _=>false
def gapB:D->Bool
 | .tup [n,s,e,l,g]=>tieB (.tup [n,s,e,l,g])&&!nonD l&&!nonD g
 | _=>false
structure POk(p:PD):Prop where
 n1:nameS p.nm=true
 n2:nameS p.st=true
 n3:nameS p.en=true
 ne:p.st≠p.en
 z:FOk 200 p.sz
 m:FOk 200 p.mo
 m0:0<=p.mo.1
 w:1<=p.wt
 ws:Mth.Sz 200 p.wt
structure GD where
 nm:Str
 st:Str
 en:Str
 lo:Int × Int
 hi:Int × Int
def GD.td(g:GD):TD:=⟨g.nm,g.st,g.en,some g.lo,some g.hi⟩
def pdD(p:PD):D:=.tup [.str p.nm, .str p.st, .str p.en,frD p.sz,frD p.mo, .int p.wt]
def PDV(K:W.Frag)(H:Hp)(p:PD)(x:V):Prop:=∃ b vz vm,x=.ref b/\SqT K H b [.str p.nm, .str p.st, .str p.en,vz,vm, .int p.wt]/\FrV K H vz p.sz.1 p.sz.2/\FrV K H vm p.mo.1 p.mo.2
section
variable{K:W.Frag}{p:PD}{x:V}
theorem PDV.sameT(S:SameT H H'):PDV K H p x->PDV K H' p x:=by rintro⟨b,a,c,e,q,f,d⟩;show(b,a,c,e,q.sameT S,f.sameT S,d.sameT S)
theorem PDV.rep:PDV K H p x->Rep K H (pdD p) x:=by
 rintro⟨b,d,f,e,q,c,a⟩;simp only[pdD,Rep,RepL];show(b,_,e,q,_,_,rfl,rfl,_,_,rfl,rfl,_,_,rfl,rfl,_,_,rfl,FrV.rep c,_,_,rfl,FrV.rep a,_,_,rfl,rfl,rfl)
end
def LeV(H:Hp)(e:Str × Pr)(x:V):Prop:=∃ b c,x=.ref b/\H b=some (.tup [.str e.1, .ref c])/\H c=some (.tup [.str e.2.1, .bl e.2.2])
variable{e:Str × Pr}
theorem LeV.sameT{x:V}(S:SameT H H'):LeV H e x->LeV H' e x:=by rintro⟨b,c,f,a,d⟩;show(b,c,f,S _ _ rfl a,S _ _ rfl d)
structure JD(H0 H:Hp)(L:Str->List (Str × Pr))(kvs:List (Key × V)):Prop where
 at_:∀(f:Str),(valV kvs (Sum.inr f)=none/\L f=[])\/∃ l xs,valV kvs (Sum.inr f)=some (.ref l)/\H0 l=none/\H l=some (.lst xs)/\All2 (LeV H) (L f) xs
 inj:∀(f g:Str)(l:Addr),valV kvs (Sum.inr f)=some (.ref l)->valV kvs (Sum.inr g)=some (.ref l)->f=g
variable{H0:Hp}{L:Str->List (Str × Pr)}
theorem JD.same(S:Same H H')(h:JD H0 H L kvs):JD H0 H' L kvs where
 at_:=λf=>by
  rcases h.at_ f with h | ⟨l,xs,h1,h2,h3,h4⟩
  .show .inl h
  .show .inr ⟨l,xs,h1,h2,S _ _ h3,h4.mono λ_ _ z=>z.sameT S.t⟩
 inj:=h.inj
theorem JD.sx{kv2:List (Key × V)}(S:∀ b u,b≠d->H b=some u->H' b=some u)(hd:H d=some (.dK kv2))(h:JD H0 H L kvs):JD H0 H' L kvs where
 at_:=λf=>by
  have T:SameT H H':=λb u t q=>S b u (λz=>by rw[z,hd]at q;cases q;simp[isTF]at t) q;rcases h.at_ f with h | ⟨l,xs,h1,h2,h3,h4⟩
  .show .inl h
  .show .inr ⟨l,xs,h1,h2,S _ _ (λz=>by rw[z,hd]at h3;cases h3) h3,h4.mono λ_ _ z=>z.sameT T⟩
 inj:=h.inj
variable{o:HO}
theorem JD.sy{x:Addr}(S:∀ b u,b≠x->H b=some u->H' b=some u)(hx:H x=some o)(hn:∀ xs,o≠.lst xs)(ht:isTF o=false)(h:JD H0 H L kvs):JD H0 H' L kvs where
 at_:=λf=>by
  have T:SameT H H':=λb u t q=>S b u (λz=>by rw[z,hx]at q;cases q;rw[ht]at t;cases t) q;rcases h.at_ f with h | ⟨l,xs,h1,h2,h3,h4⟩
  .show .inl h
  .show .inr ⟨l,xs,h1,h2,S _ _ (λz=>by rw[z,hx]at h3;show hn _ (Option.some.inj h3)) h3,h4.mono λ_ _ z=>z.sameT T⟩
 inj:=h.inj
theorem JD.nil:JD H0 H (λ_=>[]) []:=⟨λf=>.inl ⟨rfl,rfl⟩,λf g l h=>by simp[valV]at h⟩
def addL(L:Str->List (Str × Pr))(f:Str)(e:Str × Pr):Str->List (Str × Pr):=λg=>if g=f then L g++[e]else L g
variable{l b:Addr}
theorem JD.more{f:Str}(h:JD H0 H L kvs)(hv:valV kvs (Sum.inr f)=some (.ref l))(hl:H l=some (.lst xs))(hb:LeV H e (.ref b))(e':upd H l (.lst (xs++[.ref b]))=H'):JD H0 H' (addL L f e) kvs where
 at_:=λg=>by
  have T:SameT H H':=SameT.put e' hl rfl;have a:H' l=some (.lst (xs++[.ref b])):=by rw[<- e',Jaj]
  by_cases c:g=f
  .subst c;rcases h.at_ g with⟨h1,_⟩ | ⟨l2,xs2,h1,h2,h3,h4⟩
   .rw[hv]at h1;cases h1
   .rw[hv]at h1;cases h1;rw[hl]at h3;cases h3;show .inr ⟨l,_,hv,h2,a,?_⟩;unfold addL;rw[if_pos rfl];show(h4.mono λ_ _ z=>z.sameT T).append (.one (hb.sameT T))
  .unfold addL;rw[if_neg c];rcases h.at_ g with h1 | ⟨l2,xs2,h1,h2,h3,h4⟩
   .show .inl h1
   .have d:l2≠l:=λz=>c (h.inj g f l (by rw[h1,z]) hv);show .inr ⟨l2,xs2,h1,h2,by rw[<- e',Jag d];show h3,h4.mono λ_ _ z=>z.sameT T⟩
 inj:=h.inj
theorem JD.first{f:Str}(h:JD H0 H L kvs)(hv:valV kvs (Sum.inr f)=none)(h0:H0 l=none)(hn:∀ g l',valV kvs (Sum.inr g)=some (.ref l')->l'≠l)(hl:H l=some (.lst []))(hb:LeV H e (.ref b))(e':upd H l (.lst [.ref b])=H'):JD H0 H' (addL L f e) (putK kvs (Sum.inr f) (.ref l)) where
 at_:=λg=>by
  have T:SameT H H':=SameT.put e' hl rfl;have n:H' l=some (.lst [.ref b]):=by rw[<- e',Jaj]
  rw[Jhy];by_cases c:g=f
  .subst c;rw[if_pos rfl];show .inr ⟨l,_,rfl,h0,n,?_⟩;unfold addL;rw[if_pos rfl];rcases h.at_ g with⟨_,d⟩ | ⟨l2,xs2,a,_⟩
   .rw[d];show .one (hb.sameT T)
   .rw[hv]at a;cases a
  .have o:(Sum.inr g:Key)≠Sum.inr f:=λz=>c (by injection z);rw[if_neg o];unfold addL;rw[if_neg c];rcases h.at_ g with a | ⟨l2,xs2,a,d,h3,h4⟩
   .show .inl a
   .show .inr ⟨l2,xs2,a,d,by rw[<- e',Jag (hn g l2 a)];show h3,h4.mono λ_ _ z=>z.sameT T⟩
 inj:=λm k l' a d=>by
  rw[Jhy]at a d;by_cases j:(Sum.inr m:Key)=Sum.inr f
  .by_cases i:(Sum.inr k:Key)=Sum.inr f
   .have:=j.trans i.symm;injection this
   .rw[if_pos j]at a;rw[if_neg i]at d;cases a;show absurd rfl (hn k l d)
  .by_cases i:(Sum.inr k:Key)=Sum.inr f
   .rw[if_neg j]at a;rw[if_pos i]at d;cases d;show absurd rfl (hn m l a)
   .rw[if_neg j]at a;rw[if_neg i]at d;show h.inj m k l' a d
variable{p:PD}
theorem JfP(h:p.st≠p.en):addL (addL (JaB ls) p.st (p.en,(p.nm,true))) p.en (p.st,(p.nm,false))=JaB (ls++[p]):=by
 funext g
 rw[Jeb];unfold addL JdL;by_cases a:g=p.en
 .subst a;have e:p.en≠p.st:=λz=>h z.symm;simp[h,e]
 .have d:p.en≠g:=λz=>a z.symm;by_cases b:g=p.st
  .subst b;simp[a]
  .have c:p.st≠g:=λz=>b z.symm;simp[a,b,d,c]
theorem Jhk(ls:List PD)(f:Str):(JaB ls f).length<=ls.length:=by
 unfold JaB;induction ls with
 | nil=>simp
 | cons p ls ih=>
  rw[List.flatMap_cons,length_append,length_cons];have : (JdL p f).length<=1:=by
   unfold JdL;split
   .simp
   .split <;> simp
  ac_nf
def PWy(H H':Hp)(wl:Addr)(a:Str × List Pr)(v:V):Prop:=∃ l xs,v=.ref l/\H l=none/\l≠wl/\H' l=some (.lst xs)/\All2 (CV H') a.2 xs
structure Srch(H:Hp)(ls:List PD)(one:Str)(fd wl:Addr)(H':Hp)(ws:List (Str × List Pr))(wt:List Str):Prop where
 same:Same H H'
 dict:∃ kvs,H' fd=some (.dK kvs)/\BG (·.1) (PWy H H' wl) ws kvs
 nd:(ws.map (·.1)).Nodup
 here:one∈ws.map (·.1)
 walk:∀ a∈ws,JaQ ls one a.2 a.1
 wait:H' wl=some (.lst (wt.map V.str))
 sub:∀ f∈wt,f∈ws.map (·.1)
 lw:∀ a∈ws,a.2.length<=ws.length
 sim:∀ a∈ws,(a.2.map (·.1)).Nodup/\∀ p∈ls,p.nm∈a.2.map (·.1)->p.st∈ws.map (·.1)/\p.en∈ws.map (·.1)
section
variable{H'':Hp}{fd wl:Addr}{ws:List (Str × List Pr)}{wt:List Str}{one:Str}
theorem Srch.len(h:Srch H ls one fd wl H' ws wt)(hl:ls.length<=20):ws.length<=41:=by
 have:=sub_len (ws.map (·.1)) (one::fcsOf ls) h.nd λz b=>by
  let(a,c,rfl):=mem_map.mp b;show JhA (h.walk a c)
 rw[length_map,length_cons,Jk1]at this;ac_nf
theorem Srch.grow(h:Srch H ls one fd wl H' ws wt)(S:Same H' H''):Srch H ls one fd wl H'' ws wt:=by
 let(b,g,c):=h.dict;show(h.same.trans S,⟨b,S _ _ g,c.mono λa v ζ=>by let(l,d,e,j,i,f,k):=ζ;show(l,d,e,j,i,S _ _ f,k.mono λ_ _ z=>z.sameT S.t)⟩,h.nd,h.here,h.walk,S _ _ h.wait,h.sub,h.lw,h.sim)
theorem Srch.wait'{wt':List Str}(h:Srch H ls one fd wl H' ws wt)(hw:H wl=none)(e:upd H' wl (.lst (wt'.map V.str))=H'')(hs:∀ f∈wt',f∈ws.map (·.1)):Srch H ls one fd wl H'' ws wt':=by
 let(g,i,j):=h.dict;have T:SameT H' H'':=SameT.put e h.wait rfl;have d:fd≠wl:=λz=>by have:=h.wait;rw[<- z,i]at this;cases this
 show(λb u q=>by rw[<- e,Jag (Jai q hw)];show h.same _ _ q,⟨g,by rw[<- e,Jag d];show i,j.mono λa v ζ=>by let(l,k,n,o,c,m,p):=ζ;show(l,k,n,o,c,by rw[<- e,Jag c];show m,p.mono λ_ _ z=>z.sameT T)⟩,h.nd,h.here,h.walk,by rw[<- e,Jaj],hs,h.lw,h.sim)
theorem Srch.find{g:Str}{w:List Pr}(h:Srch H ls one fd wl H' ws wt)(hk:H' fd=some (.dK kvs))(hb:BG (·.1) (PWy H H' wl) ws kvs)(hf:H fd=none)(hg:g∉ws.map (·.1))(hwk:JaQ ls one w g)(hlw:w.length<=ws.length+1)(hsm:(w.map (·.1)).Nodup/\∀ p∈ls,p.nm∈w.map (·.1)->p.st∈(ws++[(g,w)]).map (·.1)/\p.en∈(ws++[(g,w)]).map (·.1))(hl:H l=none)(hne:l≠wl)(hx:H' l=some (.lst xs))(ha:All2 (CV H') w xs)
  (e:upd H' fd (.dK (putK kvs (Sum.inr g) (.ref l)))=H''):Srch H ls one fd wl H'' (ws++[(g,w)]) wt:=by
 have T:SameT H' H'':=SameT.put e hk rfl;have j:wl≠fd:=λz=>by have:=h.wait;rw[z,hk]at this;cases this
 have d:∀{b:Addr}{ys:List V},H' b=some (.lst ys)->H'' b=some (.lst ys):=λq=>by rw[<- e,Jag (λz=>by rw[z,hk]at q;cases q)];show q
 show(λb u q=>by rw[<- e,Jag (Jai q hf)];show h.same _ _ q,⟨_,by rw[<- e,Jaj],?_⟩,?_,?_,?_,d h.wait,?_,?_,?_)
 .have:=hb.mono (P':=PWy H H'' wl) λa v ⟨l,xs,m,i,hne,hx,ha⟩=>⟨l,xs,m,i,hne,d hx,ha.mono λ_ _ z=>z.sameT T⟩;show this.new (a:=(g,w)) hg ⟨l,xs,rfl,hl,hne,d hx,ha.mono λ_ _ z=>z.sameT T⟩
 .rw[map_append,nodup_append];show(h.nd,by simp,λa ha b hb z=>hg ?_);rw[map_cons,map_nil,mem_singleton]at hb;have hb:b=g:=hb;rw[<- hb, <- z];show ha
 .rw[map_append];show mem_append.mpr (.inl h.here)
 .intro a ha;rcases mem_append.mp ha with ha | ha
  .show h.walk a ha
  .rw[mem_singleton.mp ha];show hwk
 .intro f c;rw[map_append];show mem_append.mpr (.inl (h.sub f c))
 .intro a ha;rw[length_append,length_singleton];rcases mem_append.mp ha with ha | ha
  .have:=h.lw a ha;ac_nf
  .rw[mem_singleton.mp ha];show hlw
 .intro a ha;rcases mem_append.mp ha with ha | ha
  .show((h.sim a ha).1,λp k i=>?_);have:=(h.sim a ha).2 p k i;rw[map_append];show(mem_append.mpr (.inl this.1),mem_append.mpr (.inl this.2))
  .rw[mem_singleton.mp ha];show hsm
end
inductive PR
 | ok (ls:List PD)
 | noPart
 | twice
 | ring
open Classical in
noncomputable def partsW:List PD->List (PD ⊕ D)->PR
 | acc,[]=>.ok acc
 | _, .inr _::_=>.noPart
 | acc, .inl p::r=>if p.nm∈acc.map (·.nm)then .twice else if Conn acc p.st p.en then .ring else partsW (acc++[p]) r
theorem Jge{acc:List PD}{r:List (PD ⊕ D)}(h:p.nm∉acc.map (·.nm))(hc:¬ Conn acc p.st p.en):partsW acc (.inl p::r)=partsW (acc++[p]) r:=by
 rw[partsW,if_neg h,if_neg hc]
def WOV(H:Hp)(ls:List PD)(g:GD)(v:V):Prop:=∃ l xs w,v=.ref l/\H l=some (.lst xs)/\All2 (CV H) w xs/\JaQ ls g.st w g.en/\(w.map (·.1)).Nodup
theorem WOV.same{g:GD}(S:Same H H'):WOV H ls g v->WOV H' ls g v:=by rintro⟨l,b,w,e,a,c,d⟩;show(l,b,w,e,S _ _ a,c.mono λ_ _ z=>z.sameT S.t,d)
variable{es:List Expr}
theorem JlA{K:W.Frag}{k:Nat}{t:TGs}(hK:X.K=K)(hc:X.calm=true)(h:PGs X es t)(hn:autoParam ((assignEach es X.env).length=n) Au)(hst:autoParam ((assignEach es X.env).findIdx? (·.1)=none) Au):PG X (.Tuple es k pos) (gTup K n t):=by
 subst hK;show Jes hc h hn hst
abbrev Fr2:=Int × Int
section
variable{cs:List (Nat × Str)}{te:TE}{ta:TA}{σ:St}{Q:VK}{a:Addr}{zs:List V}{K:W.Frag}{k:Nat}{g:TG}
end
section
variable{Q:VK}{K:W.Frag}
end
section
variable{prog:Program}{A:Around}{E:Value->Shared->Prop}{w:World}{s:Shared}
end
section
variable{prog:Program}{A:Around}{E:Value->Shared->Prop}{w:World}{s:Shared}
end
variable{elts:List Expr}{x1:Nat}{tp:Pos}
section
variable{cs:List (Nat × Str)}{te:TE}{ta:TA}{σ:St}{Q:VK}{a:Addr}{K:W.Frag}{k:Nat}{g:TG}
end
def Itq(lo c:Int)(n:Nat):It:=⟨λi _=>i<n,λi H x H'=>H'=H/\x=.int (lo+i*c),λi _=>n<=i⟩
theorem Jg3{w:World}{K:W.Frag}(it:Addr)(lo c:Int)(n:Nat):Turn P w K tg (Itq lo c n) [it] it (λi h=>IsRangeIter h it (lo+(i:Nat)*c) ((n:Int)-(i:Nat)) c) where
 mem:=by simp
 obj:=λi h a b f=>by
  have e:b=it:=by simpa using f
  subst e;show(_,a,λv z=>by
   have G:Data.fields _=Data.cell v:=z;cases G)
 keep:=λi h l a k=>k it (by simp) _ a
 item:=by
  intro X m r u q i d s σ H E I j a C;subst m r u;let(A,p,M,y,x,B):=j it (by simp);have W:=Walks.range (prog:=X.prog) (w:=X.w) (I.ok.hd q) it lo c n;show W.item i s _ _ C a λv l D L g J=>?_;let(t,rfl):=L;have I1:Inv X d σ H { s with heap:=l,toks:=D }:=I.turned (λb o f e=>J b o (by simpa using f) e) A p y x B;show(_,rfl,go_of (s:={ s with heap:=l,toks:=D }) (n:="range_iterator") g rfl rfl ⋯ ⟨.int (lo+i*c),H,I1,⟨t,rfl⟩,⟨rfl,rfl⟩,g,λb f=>(j b f).1⟩)
 done:=by
  intro X m r u q i d s σ H E I j a C;subst m r u;let(A,p,M,y,x,B):=j it (by simp);show wpAny_pyNext_range_end (I.ok.hd q) a (by have : n<=i:=C;ac_nf) λl F=>⟨rfl,I.turned (t':=s.toks) (λb o f e=>F b o f e) A p y x B⟩
 self:=λ_ _ _ _ _ a h=>wpAny_pyIter_rangeiter a h
def rsz(lo hi c:Int):Nat:=(if lo<hi then(hi-lo-1)/c+1 else 0).toNat
variable{hi c:Int}
theorem Je2{lo:Int}(hc:1<=c):((rsz lo hi c:Nat):Int)=Builtin.Range.rangeSize lo hi c:=by
 unfold rsz Builtin.Range.rangeSize;rw[if_pos (show c > 0 by ac_nf)];split
 .have:=Int.ediv_nonneg (a:=hi-lo-1) (b:=c) ∅ ∅;ac_nf
 .rfl
theorem JgV{lo:Int}(h1:0<=lo)(h2:lo<2 ^ 40)(h3:0<=hi)(h4:hi<2 ^ 40)(h5:1<=c)(h6:c<2 ^ 30):Builtin.Range.small lo hi c=true:=by
 unfold Builtin.Range.small;have e:0<=Builtin.Range.rangeSize lo hi c/\Builtin.Range.rangeSize lo hi c<2 ^ 41:=by
  rw[<- Je2 h5];show(by ac_nf,?_);unfold rsz;split
  .have f:=Int.ediv_nonneg (a:=hi-lo-1) (b:=c) ∅ ∅;have d:=Int.ediv_le_self c (show 0<=hi-lo-1 by ac_nf);ac_nf
  .simp
 generalize Builtin.Range.rangeSize lo hi c=z at e ⊢;simp only[Builtin.Range.rangeFitsLong,Bool.and_eq_true,Bool.or_eq_true,decide_eq_true_eq,beq_iff_eq];rw[if_pos ∅];simp only[Bool.and_eq_true,decide_eq_true_eq];ac_nf
variable{pins:List (Addr × Obj)}{σ:St}
theorem JmJ{s:Shared}{R:It->Hp->Prop}{h:Heap}{lo:Int}{t':Nat}(I:Inv X pins σ H { s with heap:=h,toks:=t' })(q:R (Itq lo c n) H) :
  PIE X pins σ tg R (.ref h.objs.size) { s with heap:=h.push { cls:=.type "range_iterator",data:=.fields #[rawInt lo,rawInt (n:Int),rawInt c] },toks:=t' }:=by
 show(h.objs.size,[h.objs.size],_,_,H,rfl,I.kept (t':=t') λb o e=>Heap.get?_push_of_some _ e,Jg3 _ lo c n,?_,λb f=>?_,q)
 .have a:lo+((0:Nat):Int)*c=lo:=by simp
  have d:(n:Int)-((0:Nat):Int)=n:=by simp
  show IsRangeIter _ _ (lo+((0:Nat):Int)*c) ((n:Int)-((0:Nat):Int)) c;rw[a,d];show Heap.get?_push_size _ rfl
 .have e:b=h.objs.size:=by simpa using f
  subst e;show I.fpOk (Nat.le_refl _) (I.hok.fresh (Nat.le_refl _))
def iRng3(ta:TA):TI:=λσ H R=>ta σ H λvs H1=>∃ i j c:Int,vs=[.int i, .int j, .int c]/\(0<=i/\i<2 ^ 40/\0<=j/\j<2 ^ 40/\1<=c/\c<2 ^ 30)/\R (Itq i c (rsz i j c)) H1
variable{ta:TA}
theorem JiT{a b d:Expr}{p:Pos}(hg:Gl X "range")(hm:X.mg "range"=none)(ha:PA X [a,b,d] ta)
  (hs:autoParam (starEach [a,b,d] X.env=[(false,eval a X.env),(false,eval b X.env),(false,eval d X.env)]) Au) (hs2:autoParam (starEach [b,d] X.env=[(false,eval b X.env),(false,eval d X.env)]) Au):PI X tg (.Call (.Name "range" p) [a,b,d] [] pos) (iRng3 ta):=by
 intro f s σ H R I h;show wpAny_Call_Name_kw (Jea I hg hm Jjy ?_);show PyProof.Rows.callWith_type1 (thn (ha pos f s σ H _ I h) λA w ζ=>?_) (by rw[hs,hs2]) (by rw[hs2];rfl);let(y,z,I1,u,g):=ζ;let(i,j,c,e,(g,v,x,n,k,m),q):=g;subst e;cases u with
 | cons r rr=>
  cases rr with
  | cons r' rr=>
   cases rr with
   | cons r'' rr=>
    cases rr;let(t,rfl):=r;let(t',rfl):=r';let(l,rfl):=r'';show call_range_3 ∅ ?_ (Or.inl (PyProof.noPylong_small ∅));show wpAny_pyIter_range (IsRange.new ..) (JgV g v x n k m) ?_;rw[<- Je2 k];show JmJ (I1.kept (t':=w.toks) λb o e=>Heap.get?_push_of_some _ e) q
section
variable{tb:TS}{g:TG}{D:Ends}
def ForQ(lo c:Int)(n:Nat)(g:TG)(tb:TS)(D:Ends)(σ : St)(H:Hp):Prop:=∃ W:Nat->Nat->St->Hp->Prop,(∃ m,W 0 m σ H)/\∀ i m σ H,W i m σ H ->
 ((Itq lo c n).stop i H/\D.nx σ H)\/((Itq lo c n).go i H/\∃ N:St->Hp->Prop,(∀ σ' H',N σ' H'->∃ m',m'<m/\W (i+1) m' σ' H')/\∀ x H',(Itq lo c n).yld i H x H'->g x σ H' λσ2 H2=>tb { D with nx:=N,ct:=N,bk:=D.nx } σ2 H2)
theorem y55y:tFor (iRng3 ta) g tb D σ H=ta σ H λvs H1=>∃ i j c:Int,vs=[.int i, .int j, .int c]/\(0<=i/\i<2 ^ 40/\0<=j/\j<2 ^ 40/\1<=c/\c<2 ^ 30)/\ForQ i c (rsz i j c) g tb D σ H1:=rfl
theorem ForQ.by{lo:Int}(Pv:Nat->St->Hp->Prop)(h0:Pv 0 σ H)
  (hs:∀ i σ H,i<n->Pv i σ H->g (.int (lo+i*c)) σ H λσ2 H2=>tb { D with nx:=Pv (i+1),ct:=Pv (i+1),bk:=D.nx } σ2 H2) (hd:∀ σ H,Pv n σ H->D.nx σ H):ForQ lo c n g tb D σ H:=by
 show(λi m σ H=>m=n-i/\i<=n/\Pv i σ H,⟨n,by simp,Nat.zero_le _,h0⟩,?_);rintro i m σ H ⟨rfl,f,p⟩;by_cases a:i<n
 .show .inr ⟨a,Pv (i+1),λσ' d b=>⟨n-(i+1),by ac_nf,rfl,a,b⟩,λx d y=>?_⟩;let(e,y):=y;subst e y;show hs i σ _ a p
 .have e:i=n:=by ac_nf
  subst e;show .inl ⟨Nat.le_refl _,hd σ H p⟩
end
theorem y5fy{c:TT}{ta tb:TE}{Q:VK}:tIf c ta tb σ H Q=c σ H λb H1=>if b=true then ta σ H1 Q else tb σ H1 Q:=rfl
def rLenD(xs:List V)(H:Hp)(Q:VK):Prop:=∃ d kvs,xs=[.ref d]/\H d=some (.dK kvs)/\Q (.int (kvs.length:Int)) H
theorem JfU:CallR X (.builtin "len") rLenD:=by
 intro c s σ H m o Q I r h;let(d,a,rfl,e,q):=h;let(u,rfl,j):=vals1 r;cases j;let(l,g,i,b,k):=dk_of I.hok e;have n:=JeZ;have f:i.length=a.length:=b.length.symm;show call_len_dict g k ∅ ⟨.int (a.length:Int),H,I.tok _,⟨s.toks+1,by rw[f]⟩,q⟩
def vl(a:Int × Int):Rat:=(a.1:Rat)/(a.2:Rat)
theorem JaF{a:Int}(h:1<=a):(a:Rat)≠0:=λz=>by
 have : a=0:=by exact_mod_cast z
 ac_nf
variable{a c:Int × Int}
theorem vl_eq(ha:1<=a.2)(hc:1<=c.2):vl a=vl c↔a.1*c.2=c.1*a.2:=by
 unfold vl;have b:=JaF ha;have d:=JaF hc;have e:((a.1*c.2=c.1*a.2)↔((a.1:Rat)*(c.2:Rat)=(c.1:Rat)*(a.2:Rat))):=by
  constructor
  .intro h;exact_mod_cast h
  .intro h;exact_mod_cast h
 rw[e];generalize(a.1:Rat)=x at *;generalize(a.2:Rat)=y at *;generalize(c.1:Rat)=z at *;generalize(c.2:Rat)=u at *;constructor
 .intro h;grind
 .intro h;grind
theorem JkK(ha:1<=a.2)(hc:1<=c.2)(h1:Mth.g a.1 a.2=1)(h2:Mth.g c.1 c.2=1)(h:vl a=vl c):a=c:=by
 have:=Mth.Jdw ha hc h1 h2 ((vl_eq ha hc).mp h);show Prod.ext this.1 this.2
theorem Jjr(ha:1<=a.2)(hc:1<=c.2):vl (addF a c)=vl a+vl c:=by
 have d:a.2*c.2≠0:=Int.mul_ne_zero ∅ ∅;have f:=Mth.cross (t:=a.1*c.2+c.1*a.2) d;have g:=Mth.Jc3 (t:=a.1*c.2+c.1*a.2) d;unfold vl addF;dsimp only;generalize Mth.top (a.1*c.2+c.1*a.2) (a.2*c.2)=t at *;generalize Mth.bot (a.1*c.2+c.1*a.2) (a.2*c.2)=b at *;have j:=JaF ha;have h:=JaF hc;have i:=JaF g;have e:(t:Rat)*((a.2:Rat)*(c.2:Rat))=((a.1:Rat)*(c.2:Rat)+(c.1:Rat)*(a.2:Rat))*(b:Rat):=by exact_mod_cast f
 generalize(a.1:Rat)=x at *;generalize(a.2:Rat)=y at *;generalize(c.1:Rat)=z at *;generalize(c.2:Rat)=u at *;generalize(t:Rat)=t at *;generalize(b:Rat)=b at *;grind
theorem Jc1(a:Int × Int):vl (negF a) = - vl a:=by
 unfold vl negF;rw[Rat.intCast_neg];grind
theorem Jcm(ha:1<=a.2)(hc:1<=c.2):lessF a c=true↔vl a<vl c:=by
 unfold lessF vl;rw[decide_eq_true_iff];have d:(0:Rat)<(a.2:Rat):=by exact_mod_cast (show 0<a.2 by ac_nf)
 have b:(0:Rat)<(c.2:Rat):=by exact_mod_cast (show 0<c.2 by ac_nf)
 have e:((a.1*c.2<c.1*a.2)↔((a.1:Rat)*(c.2:Rat)<(c.1:Rat)*(a.2:Rat))):=by
  constructor
  .intro h;exact_mod_cast h
  .intro h;exact_mod_cast h
 rw[e];rw[Rat.div_lt_iff d];generalize(a.1:Rat)=x at *;generalize(a.2:Rat)=y at *;generalize(c.1:Rat)=z at *;generalize(c.2:Rat)=u at *;have f:z/u*y=z*y/u:=by grind
 rw[f,Rat.lt_div_iff b]
variable{a b c:Str}
theorem JaQ.trans{w w':List Pr}(h:JaQ ls a w b)(h':JaQ ls b w' c):JaQ ls a (w++w') c:=by
 induction h' with
 | nil=>
  rw[append_nil];show h
 | snoc _ hm ih=>
  rw[<- List.append_assoc];show .snoc ih hm
theorem Conn.trans:Conn ls a b->Conn ls b c->Conn ls a c:=λ⟨w,h⟩ ⟨d,e⟩=>⟨w++d,h.trans e⟩
theorem Conn.refl:Conn ls a a:=⟨[], .nil⟩
theorem Conn.lead{f g:Str}(h:(g,pr)∈JaB ls f):Conn ls f g:=⟨[]++[pr], .snoc .nil h⟩
theorem Conn.symm(hn:∀ p∈ls,p.st≠p.en){a b:Str}(h:Conn ls a b):Conn ls b a:=by
 let(w,h):=h;induction h with
 | nil=>show .refl
 | snoc _ hm ih=>
  obtain⟨p,c,h | h⟩:=Ja0.mp hm
  .show Conn.trans (.lead (Ja0.mpr ⟨p,c, .inr ⟨λz=>hn p c (z.trans h.2.1.symm),h.2.1,h.1,rfl⟩⟩)) ih
  .show Conn.trans (.lead (Ja0.mpr ⟨p,c, .inl ⟨h.2.2.1,h.2.1,rfl⟩⟩)) ih
theorem Conn.mono(h:Conn ls a b):Conn (ls++[p]) a b:=by
 let(w,h):=h;show(w,?_);induction h with
 | nil=>show .nil
 | snoc _ hm ih=>show .snoc ih (by rw[Jeb];show mem_append.mpr (.inl hm))
theorem Jif(hp:p∈ls):Conn ls p.st p.en:=.lead (pr:=(p.nm,true)) (Ja0.mpr ⟨p,hp, .inl ⟨rfl,rfl,rfl⟩⟩)
theorem JjA(hn:∀ p∈ls,p.st≠p.en){a b:Str}(h:Conn ls a b)(hne:a≠b):a∈fcsOf ls/\b∈fcsOf ls:=by
 have c:∀{a b:Str},Conn ls a b->a≠b->b∈fcsOf ls:=λ{a b} h hne=>by
  let(w,h):=h;rcases mem_cons.mp (JhA h)with e | e
  .show absurd e.symm hne
  .show e
 show(c (h.symm hn) (Ne.symm hne),c h hne)
theorem Jeq:∀(l1 acc:List PD),partsW acc (l1.map Sum.inl)=.ok (acc++l1)->p.nm∉(acc++l1).map (·.nm)->¬ Conn (acc++l1) p.st p.en->partsW acc ((l1++[p]).map Sum.inl)=.ok (acc++(l1++[p]))
 | [],acc,_,h2,h3=>by
  rw[append_nil]at h2 h3;rw[nil_append,map_cons,map_nil,Jge h2 h3,partsW]
 | q::l1,acc,h1,h2,h3=>by
  have ea:acc++q::l1=(acc++[q])++l1:=by simp
  rw[ea]at h1 h2 h3;rw[cons_append,map_cons];rw[map_cons,partsW]at h1;split at h1
  .cases h1
  .rename_i c1;split at h1
   .cases h1
   .rename_i c2;rw[Jge c1 c2,Jeq l1 (acc++[q]) h1 h2 h3];simp
variable{L:List PD}
theorem Conn.sub{L':List PD}(hs:∀ p∈L,p∈L'){a b:Str}(h:Conn L a b):Conn L' a b:=by
 let(w,h):=h;show(w,?_);induction h with
 | nil=>show .nil
 | snoc _ hm ih=>
  let(p,c,h):=Ja0.mp hm;show .snoc ih (Ja0.mpr ⟨p,hs p c,h⟩)
def Tree(ls:List PD):Prop:=∀ p∈ls, ¬ Conn (ls.filter λx=>decide (x.nm≠p.nm)) p.st p.en
theorem JiA{x:Str}(h:e∈JaB L x):x∈fcsOf L/\e.1∈fcsOf L:=by
 show(?_,Jhj h);let(p,a,h):=(Ja0 (g:=e.1) (pr:=e.2)).mp h;show mem_flatMap.mpr ⟨p,a,?_⟩;rcases h with h | h
 .rw[<- h.1];simp
 .rw[<- h.2.1];simp
theorem Conn.retract{q:PD}{f s0:Str}(hq:(q.st=f/\q.en=s0)\/(q.st=s0/\q.en=f))(hf:f∉fcsOf L){a b:Str}(h:Conn (L++[q]) a b):Conn L (if a=f then s0 else a) (if b=f then s0 else b):=by
 let(w,h):=h;induction h with
 | nil=>show .refl
 | snoc _ hm ih=>
  show ih.trans ?_;rw[Jeb]at hm;rcases mem_append.mp hm with h | h
  .have e:=JiA h;have j:∀ x∈fcsOf L,x≠f:=λx c z=>hf (z ▸ c);rw[if_neg (j _ e.1),if_neg (j _ e.2)];show .lead h
  .have d:∀ x,JaB [q] x=JdL q x:=λx=>by simp[JaB]
   have g:=h;rw[<- d]at g;let(p,i,k):=Ja0.mp g;rw[mem_singleton]at i;subst i;have e:∀ x:Str,x=p.st\/x=p.en->(if x=f then s0 else x)=s0:=λx c=>by
    split
    .rfl
    .rename_i n;rcases hq with⟨h1,h2⟩ | ⟨h1,h2⟩ <;> rcases c with c | c
     .show absurd (c.trans h1) n
     .show c.trans h2
     .show c.trans h1
     .show absurd (c.trans h2) n
   rcases k with k | k
   .rw[e _ (.inl k.1.symm),e _ (.inr k.2.1.symm)];show .refl
   .rw[e _ (.inr k.2.1.symm),e _ (.inl k.2.2.1.symm)];show .refl
def sgn(b:Bool)(a:Int × Int):Int × Int:=if b then a else negF a
inductive Legs(ls:List PD)(pl:Str->Int × Int):Str->List Pr->Str->Prop
 | nil {a:Str}:Legs ls pl a [] a
 | cons {a g b:Str} {p:PD} {fw:Bool} {w:List Pr}:p∈ls->vl (pl g)=vl (pl a)+vl (sgn fw p.sz)->Legs ls pl g w b->Legs ls pl a ((p.nm,fw)::w) b
variable{pl:Str->Int × Int}{fw:Bool}
theorem Legs.snoc{f g:Str}{w:List Pr}(h:Legs ls pl a w f)(hp:p∈ls)(e:vl (pl g)=vl (pl f)+vl (sgn fw p.sz)):Legs ls pl a (w++[(p.nm,fw)]) g:=by
 induction h with
 | nil=>show .cons hp e .nil
 | cons h1 h2 _ ih=>show .cons h1 h2 (ih e)
theorem Jlc(hpl:∀ p∈ls,vl (pl p.en)=vl (pl p.st)+vl p.sz){a b:Str}{w:List Pr}(h:JaQ ls a w b):Legs ls pl a w b:=by
 induction h with
 | nil=>show .nil
 | snoc _ hm ih=>
  obtain⟨p,c,h | h⟩:=Ja0.mp hm
  .let(e,d,rfl):=h;show ih.snoc c ?_;rw[<- e, <- d];show hpl p c
  .let(_,e,d,rfl):=h;show ih.snoc c ?_;have:=hpl p c;rw[<- e, <- d,this];show _=_+vl (negF p.sz);rw[Jc1];grind
def nmK(s st k:Nat):Str:=⟨(if s=102 then[102+k]else List.replicate st 120++([97+k]++List.replicate (2-st) 120)).toArray⟩
variable{st j:Nat}
theorem Jdx{s i:Nat}(h:nmK s st i=nmK s st j):i=j:=by
 unfold nmK at h;injection h with h
 have h:=congrArg Array.toList h;by_cases c:s=102
 .simp[c]at h;show h
 .simp[c]at h;show h
theorem Jdi{s k:Nat}(hs:97<=s/\s<=122)(hst:st<=3)(hk:k<=20):nameS (nmK s st k)=true:=by
 unfold nameS nmK;by_cases c:s=102
 .simp[Str.length,lowB,c];ac_nf
 .simp[Str.length,lowB,c];ac_nf
variable{a:Int × Int}
theorem FB.mono{D:Nat}(h:FB A B a)(h1:A<=C)(h2:B<=D):FB C D a:=⟨h.s1.mono h1,h.s2.mono h2,h.b1,h.g1⟩
theorem JeI:FB 1 1 (0,1):=⟨.lit ⋯ ⋯, .lit ⋯ ⋯,by decide,by decide⟩
structure SpD where
 f:Str
 r:Str
 p:Int × Int
structure Grn(st:Nat)(ls:List PD)(sp:List SpD):Prop where
 nm:∀ i p,ls[i]?=some p->p.nm=nmK 112 st i
 fc:∀ i s,sp[i]?=some s->s.f=nmK 102 st i
 ok:∀ p∈ls,POk p
 sub:∀ p∈ls,p.st∈sp.map (·.f)/\p.en∈sp.map (·.f)
 con:∀ s∈sp,Conn ls s.r s.f
 pl:∀ p∈ls, ∀ s∈sp, ∀ t∈sp,s.f=p.st->t.f=p.en->vl t.p=vl s.p+vl p.sz
 fb:∀ s∈sp,FB (134+21*ls.length) (20*ls.length+1) s.p
 good:partsW [] (ls.map Sum.inl)=.ok ls
 tr:Tree ls
variable{sp:List SpD}
theorem Grn.new(h:Grn st ls sp){n:Nat}(hn:sp.length<=n):nmK 102 st n∉sp.map (·.f):=λz=>by
 let(s,c,e):=mem_map.mp z;let(i,a):=List.getElem?_of_mem c;have d:=(List.getElem?_eq_some_iff.mp a).1;have b:s.f=nmK 102 st n:=e;rw[h.fc i s a]at b;have:=Jdx b;ac_nf
theorem Grn.nil:Grn st [] []:=⟨by simp,by simp,by simp,by simp,by simp,by simp,by simp,by rw[map_nil,partsW],λp a=>by cases a⟩
theorem Grn.inj(h:Grn st ls sp){s t:SpD}(hs:s∈sp)(ht:t∈sp)(e:s.f=t.f):s=t:=by
 let(i,b):=List.getElem?_of_mem hs;let(j,a):=List.getElem?_of_mem ht;rw[h.fc i s b,h.fc j t a]at e;have:=Jdx e;subst this;rw[b]at a;show Option.some.inj a
theorem Ja1{l:List α}{a x : α}{i:Nat}(h:(l++[a])[i]?=some x):l[i]?=some x\/(i=l.length/\x=a):=by
 by_cases c:i<l.length
 .rw[List.getElem?_append_left c]at h;show .inl h
 .have b:=(List.getElem?_eq_some_iff.mp h).1;rw[length_append,length_singleton]at b;have e:i=l.length:=by ac_nf
  subst e;rw[List.getElem?_append_right (Nat.le_refl _),Nat.sub_self]at h;cases h;show .inr ⟨rfl,rfl⟩
theorem Grn.face(h:Grn st ls sp):Grn st ls (sp++[⟨nmK 102 st sp.length,nmK 102 st sp.length,(0,1)⟩]) where
 nm:=h.nm
 fc:=λi s f=>by
  rcases Ja1 f with f | ⟨rfl,rfl⟩
  .show h.fc i s f
  .rfl
 ok:=h.ok
 sub:=λp b=>by
  rw[map_append];show(mem_append.mpr (.inl (h.sub p b).1),mem_append.mpr (.inl (h.sub p b).2))
 con:=λs a=>by
  rcases mem_append.mp a with a | a
  .show h.con s a
  .rw[mem_singleton.mp a];show .refl
 pl:=λp b s a t c d e=>by
  have g:=h.new (Nat.le_refl sp.length);rcases mem_append.mp a with a | a
  .rcases mem_append.mp c with c | c
   .show h.pl p b s a t c d e
   .rw[mem_singleton.mp c]at e;dsimp only at e;show absurd (e ▸ (h.sub p b).2) g
  .rw[mem_singleton.mp a]at d;dsimp only at d;show absurd (d ▸ (h.sub p b).1) g
 fb:=λs a=>by
  rcases mem_append.mp a with a | a
  .show h.fb s a
  .rw[mem_singleton.mp a];show JeI.mono ∅ ∅
 good:=h.good
 tr:=h.tr
theorem Grn.part(h:Grn st ls sp)(hst:st<=3){s0:SpD}(h0:s0∈sp){p:PD}{d:Bool}(hnm:p.nm=nmK 112 st ls.length)
  (h1:p.st=if d then s0.f else nmK 102 st sp.length) (h2:p.en=if d then nmK 102 st sp.length else s0.f) (hz:FB 133 20 p.sz) (hok:POk p):Grn st (ls++[p]) (sp++[⟨nmK 102 st sp.length,s0.r,addF s0.p (sgn d p.sz)⟩]):=by
 have u:=h.new (Nat.le_refl sp.length);have H:s0.f∈sp.map (·.f):=mem_map.mpr ⟨s0,h0,rfl⟩;have A:nmK 102 st sp.length≠s0.f:=λz=>u (z ▸ H);have M:∀ q∈ls,q.st≠q.en:=λq a=>(h.ok q a).ne;have D:nmK 102 st sp.length∉fcsOf ls:=λz=>by
  let(q,a,B):=mem_flatMap.mp z;simp at B;rcases B with e | e
  .show u (e ▸ (h.sub q a).1)
  .show u (e ▸ (h.sub q a).2)
 have K:¬ Conn ls p.st p.en:=λz=>by
  have:=JjA M z hok.ne;cases d with
  | true=>
   rw[if_pos rfl]at h1 h2;show D (h2 ▸ this.2)
  | false=>
   rw[if_neg ⋯]at h1 h2;show D (h1 ▸ this.1)
 have Q:p.nm∉ls.map (·.nm):=λz=>by
  let(q,a,e):=mem_map.mp z;let(i,o):=List.getElem?_of_mem a;have T:=(List.getElem?_eq_some_iff.mp o).1;have k:q.nm=p.nm:=e;rw[h.nm i q o,hnm]at k;have:=Jdx k;ac_nf
 have w:=h.fb s0 h0;have v:FB 133 20 (sgn d p.sz):=by
  cases d with
  | true=>show hz
  | false=>show hz.neg
 have G:FB (134+21*(ls.length+1)) (20*(ls.length+1)+1) (addF s0.p (sgn d p.sz)):=by
  have:=FB.add (n:=154+21*ls.length) (m:=20*(ls.length+1)+1) w v ∅ ∅ ∅;have e:134+21*(ls.length+1)=154+21*ls.length+1:=by ac_nf
  rw[e];show this
 have J:vl (addF s0.p (sgn d p.sz))=vl s0.p+vl (sgn d p.sz):=Jjr w.b1 v.b1;show(λi q o=>?_,λi s o=>?_,λq a=>?_,λq a=>?_,λs b=>?_,λq a s b t j l k=>?_,λs b=>?_,?_,λq a z=>?_)
 .rcases Ja1 o with o | ⟨rfl,rfl⟩
  .show h.nm i q o
  .show hnm
 .rcases Ja1 o with o | ⟨rfl,rfl⟩
  .show h.fc i s o
  .rfl
 .rcases mem_append.mp a with a | a
  .show h.ok q a
  .rw[mem_singleton.mp a];show hok
 .rw[map_append];rcases mem_append.mp a with a | a
  .show(mem_append.mpr (.inl (h.sub q a).1),mem_append.mpr (.inl (h.sub q a).2))
  .rw[mem_singleton.mp a,h1,h2];have I:nmK 102 st sp.length∈[(⟨nmK 102 st sp.length,s0.r,addF s0.p (sgn d p.sz)⟩:SpD)].map (·.f):=by simp
   cases d with
   | true=>show(mem_append.mpr (.inl H),mem_append.mpr (.inr I))
   | false=>show(mem_append.mpr (.inr I),mem_append.mpr (.inl H))
 .rcases mem_append.mp b with b | b
  .show(h.con s b).mono
  .rw[mem_singleton.mp b];have R:p∈ls++[p]:=by simp
   have E:∀ q∈ls++[p],q.st≠q.en:=λq a=>by
    rcases mem_append.mp a with a | a
    .show M q a
    .rw[mem_singleton.mp a];show hok.ne
   have c:=Jif R;cases d with
   | true=>
    rw[if_pos rfl]at h1 h2;rw[h1,h2]at c;show((h.con s0 h0).mono).trans c
   | false=>
    rw[if_neg ⋯]at h1 h2;rw[h1,h2]at c;show((h.con s0 h0).mono).trans (c.symm E)
 .rcases mem_append.mp a with a | a
  .rcases mem_append.mp b with b | b
   .rcases mem_append.mp j with j | j
    .show h.pl q a s b t j l k
    .rw[mem_singleton.mp j]at k;dsimp only at k;show absurd (k ▸ (h.sub q a).2) u
   .rw[mem_singleton.mp b]at l;dsimp only at l;show absurd (l ▸ (h.sub q a).1) u
  .have a:=mem_singleton.mp a;subst a;cases d with
   | true=>
    rw[if_pos rfl]at h1 h2;rw[h1]at l;rw[h2]at k;have C:s=s0:=by
     rcases mem_append.mp b with b | b
     .show h.inj b h0 l
     .rw[mem_singleton.mp b]at l;dsimp only at l;show absurd l A
    have F:t.p=addF s0.p (sgn true q.sz):=by
     rcases mem_append.mp j with j | j
     .show absurd (k ▸ mem_map.mpr ⟨t,j,rfl⟩) u
     .rw[mem_singleton.mp j]
    rw[C,F,J];rfl
   | false=>
    rw[if_neg ⋯]at h1 h2;rw[h1]at l;rw[h2]at k;have F:t=s0:=by
     rcases mem_append.mp j with j | j
     .show h.inj j h0 k
     .rw[mem_singleton.mp j]at k;dsimp only at k;show absurd k A
    have C:s.p=addF s0.p (sgn false q.sz):=by
     rcases mem_append.mp b with b | b
     .show absurd (l ▸ mem_map.mpr ⟨s,b,rfl⟩) u
     .rw[mem_singleton.mp b]
    have P:vl (sgn false q.sz) = - vl q.sz:=Jc1 q.sz;rw[F,C,J,P];grind
 .rw[length_append,length_singleton];rcases mem_append.mp b with b | b
  .have:=h.fb s b;show this.mono ∅ ∅
  .rw[mem_singleton.mp b];show G
 .have:=Jeq (p:=p) ls [] (by rw[nil_append];show h.good) (by rw[nil_append];show Q) (by rw[nil_append];show K);rw[nil_append]at this;show this
 .rw[filter_append]at z;rcases mem_append.mp a with a | a
  .have S:∀ x∈ls.filter (λx=>decide (x.nm≠q.nm)),x∈ls:=λx g=>(mem_filter.mp g).1;have N:nmK 102 st sp.length∉fcsOf (ls.filter λx=>decide (x.nm≠q.nm)):=λy=>D (by
    let(x,g,B):=mem_flatMap.mp y;show mem_flatMap.mpr ⟨x,S x g,B⟩)
   have O:Conn (ls.filter (λx=>decide (x.nm≠q.nm))++[p]) q.st q.en:=z.sub λx g=>by
    rcases mem_append.mp g with g | g
    .show mem_append.mpr (.inl g)
    .show mem_append.mpr (.inr (mem_filter.mp g).1)
   have:=O.retract (s0:=s0.f) (f:=nmK 102 st sp.length) (by
    cases d with
    | true=>show .inr ⟨h1,h2⟩
    | false=>show .inl ⟨h1,h2⟩) N
   have L:∀ x∈sp.map (·.f),x≠nmK 102 st sp.length:=λx g y=>u (y ▸ g);rw[if_neg (L _ (h.sub q a).1),if_neg (L _ (h.sub q a).2)]at this;show h.tr q a this
  .rw[mem_singleton.mp a]at z;show K (z.sub λx g=>by
    rcases mem_append.mp g with g | g
    .show(mem_filter.mp g).1
    .have:=(mem_filter.mp g);have e:=mem_singleton.mp this.1;rw[e]at this;simp at this)
theorem Grn.joined(h:Grn st ls sp){s t:SpD}(hs:s∈sp)(ht:t∈sp)(e:s.r=t.r):Conn ls s.f t.f:=by
 have a:∀ q∈ls,q.st≠q.en:=λq b=>(h.ok q b).ne;show((h.con s hs).symm a).trans (e ▸ h.con t ht)
def spOf(sp:List SpD)(f:Str):Int × Int:=((sp.find? λs=>decide (s.f=f)).map (·.p)).getD (0,1)
theorem Grn.pl_at(h:Grn st ls sp){s:SpD}(hs:s∈sp):spOf sp s.f=s.p:=by
 unfold spOf;cases e:sp.find? λt=>decide (t.f=s.f)with
 | none=>
  have:=List.find?_eq_none.mp e s hs;simp at this
 | some t=>
  have a:=List.mem_of_find?_eq_some e;have b:=List.find?_some e;have c:t.f=s.f:=by simpa using b
  rw[h.inj a hs c];rfl
theorem Grn.pls(h:Grn st ls sp):∀ p∈ls,vl (spOf sp p.en)=vl (spOf sp p.st)+vl p.sz:=λp c=>by
 let(s,e,a):=mem_map.mp (h.sub p c).1;let(t,d,b):=mem_map.mp (h.sub p c).2;have a:s.f=p.st:=a;have b:t.f=p.en:=b;rw[<- a, <- b,h.pl_at e,h.pl_at d];show h.pl p c s e t d a b
theorem Grn.plb(h:Grn st ls sp)(hl:ls.length<=8)(f:Str):FB 302 161 (spOf sp f):=by
 unfold spOf;cases e:sp.find? λt=>decide (t.f=f)with
 | none=>show JeI.mono ∅ ∅
 | some t=>
  have:=h.fb t (List.mem_of_find?_eq_some e);show this.mono ∅ ∅
theorem Je4{t b:Int}(hb:1<=b):vl (Mth.top t b,Mth.bot t b)=(t:Rat)/(b:Rat):=by
 have a:b≠0:=by ac_nf
 have c:=Mth.cross (t:=t) a;have d:=Mth.Jc3 (t:=t) a;unfold vl;dsimp only;generalize Mth.top t b=x at *;generalize Mth.bot t b=y at *;have g:=JaF hb;have f:=JaF d;have e:(x:Rat)*(b:Rat)=(t:Rat)*(y:Rat):=by exact_mod_cast c
 generalize(x:Rat)=x at *;generalize(y:Rat)=y at *;generalize(t:Rat)=t at *;generalize(b:Rat)=b at *;grind
theorem FOk.fb(h:FOk n a):FB n n a:=⟨h.s1,h.s2,h.b1,h.g1⟩
def mid(pl:Str->Int × Int)(g:GD):Int × Int:=addF (pl g.en) (negF (pl g.st))
def roomF(pl:Str->Int × Int)(g:GD):Int × Int:=if lessF (addF g.hi (negF (mid pl g))) (addF (mid pl g) (negF g.lo))then addF g.hi (negF (mid pl g))else addF (mid pl g) (negF g.lo)
section
variable{A' B' C' D':Nat}{x y z b:Int × Int}{D:Nat}{w m:Int × Int}
theorem FB.inj(h:FB A B x)(k:FB C D y)(e:vl x=vl y):x=y:=JkK h.b1 k.b1 h.g1 k.g1 e
theorem FB.add'(h:FB A B x)(k:FB C D y):FB (A+D+(C+B)+1) (B+D) (addF x y):=FB.add h k ∅ ∅ (Nat.le_refl _)
theorem FB.vadd(h:FB A B x)(k:FB C D y):vl (addF x y)=vl x+vl y:=Jjr h.b1 k.b1
theorem Jlb(hx:FB A B x)(hy:FB A B y)(hz:FB C D z)(hw:FB A B w)(e:vl y=vl x+vl z):addF (addF x (negF w)) z=addF y (negF w):=by
 show FB.inj ((hx.add' hw.neg).add' hz) (hy.add' hw.neg) ?_;rw[FB.vadd (hx.add' hw.neg) hz,hx.vadd hw.neg,hy.vadd hw.neg,e,Jc1];grind
theorem JjH(hx:FB A B x):addF x (negF x)=(0,1):=by
 show FB.inj (hx.add' hx.neg) JeI ?_;rw[hx.vadd hx.neg,Jc1];have : vl (0,1)=0:=by
  unfold vl;grind
 rw[this];grind
theorem JkQ(hm:FB A B m)(ha:FB C D a):addF (addF m a) (negF m)=a:=by
 show FB.inj ((hm.add' ha).add' hm.neg) ha ?_;rw[FB.vadd (hm.add' ha) hm.neg,hm.vadd ha,Jc1];grind
theorem JkR(hm:FB A B m)(hb:FB C D b):addF m (negF (addF m (negF b)))=b:=by
 have a:=hm.add' hb.neg;show FB.inj (hm.add' a.neg) hb ?_;rw[hm.vadd a.neg,Jc1,hm.vadd hb.neg,Jc1];grind
theorem Jlh{t u d:Int}(hd:1<=d)(h:0<=t+u):0<=vl (Mth.top t d,Mth.bot t d)+vl (Mth.top u d,Mth.bot u d):=by
 rw[Je4 hd,Je4 hd];have a:(0:Rat)<(d:Rat):=by exact_mod_cast (show 0<d by ac_nf)
 have b:(0:Rat)<=(t:Rat)+(u:Rat):=by exact_mod_cast h
 have e:(t:Rat)/(d:Rat)+(u:Rat)/(d:Rat)=((t:Rat)+(u:Rat))/(d:Rat):=by
  generalize(d:Rat)=d at *;grind
 rw[e];show Rat.not_lt.mp λq=>?_;have:=(Rat.div_lt_iff a).mp q;rw[Rat.zero_mul]at this;show Rat.not_lt.mpr b this
theorem Jmr{g:GD}(h:∀ f,FB 302 161 (pl f)):FB 464 322 (mid pl g):=FB.add (h _) (h _).neg ⋯ ⋯ ⋯
end
section
variable{f : α->Str}{l:List α}{s:Nat}
theorem JiH(h:∀ i a,l[i]?=some a->f a=nmK s st i):(l.map f).Nodup:=by
 rw[List.Nodup,List.pairwise_iff_getElem];intro i j b c d e;rw[length_map]at b c;rw[List.getElem_map,List.getElem_map,h i _ (List.getElem?_eq_getElem b),h j _ (List.getElem?_eq_getElem c)]at e;have:=Jdx e;ac_nf
end
section
variable{x:V}{K:W.Frag}
end
theorem JcL{b:Addr}(S:Same H0 H)(h:H b=none):H0 b=none:=by
 cases e:H0 b with
 | none=>rfl
 | some o=>rw[S _ _ e]at h;cases h
theorem JmT{t b:Int}(ht:0<=t)(hb:1<=b):0<=Mth.top t b:=by
 have c:=Mth.JeG (t:=t) (b:=b) ∅;have d:=Mth.g_pos (a:=t) (b:=b) ∅;have e:Mth.by_ t b=Mth.g t b:=by unfold Mth.by_;rw[if_neg ∅]
 rw[e]at c;rcases Int.lt_or_le (Mth.top t b) 0 with z | z
 .have:=Int.mul_neg_of_neg_of_pos z d;ac_nf
 .show z
inductive Path(ls:List PD):Str->List Pr->Str->Prop
 | nil {a:Str}:Path ls a [] a
 | cons {a g b:Str} {p:PD} {fw:Bool} {w:List Pr}:p∈ls->(a=if fw then p.st else p.en)->(g=if fw then p.en else p.st)->Path ls g w b->Path ls a ((p.nm,fw)::w) b
variable{a:Str}
theorem Path.snoc{f g:Str}{w:List Pr}(h:Path ls a w f)(hp:p∈ls)(e1:f=if fw then p.st else p.en)(e2:g=if fw then p.en else p.st):Path ls a (w++[(p.nm,fw)]) g:=by
 induction h with
 | nil=>show .cons hp e1 e2 .nil
 | cons h1 h2 h3 _ ih=>show .cons h1 h2 h3 (ih e1)
theorem Jfv{w:List Pr}(h:JaQ ls a w b):Path ls a w b:=by
 induction h with
 | nil=>show .nil
 | snoc _ hm ih=>
  obtain⟨p,e,h | h⟩:=Ja0.mp hm
  .let(d,c,rfl):=h;show ih.snoc e d.symm c.symm
  .let(_,d,c,rfl):=h;show ih.snoc e d.symm c.symm
theorem Jc0{w:List Pr}(h:Path ls a w b):∀ n∈w.map (·.1),n∈ls.map (·.nm):=by
 induction h with
 | nil=>simp
 | cons h1 _ _ _ ih=>
  intro n c;rw[map_cons]at c;rcases mem_cons.mp c with e | e
  .rw[e];show mem_map.mpr ⟨_,h1,rfl⟩
  .show ih n e
open PySem.Spec PyProof.Rows
variable{ks:List PD}
theorem JgE(h:(ks.map (·.nm)).Nodup){i:Nat}{p:PD}(hp:ks[i]?=some p):p.nm∉(ks.take i).map (·.nm):=λz=>by
 let(q,f,e):=mem_map.mp z;have e:q.nm=p.nm:=e;have c:=(List.getElem?_eq_some_iff.mp hp).1;let(j,b):=List.getElem?_of_mem f;have d:=(List.getElem?_eq_some_iff.mp b).1;rw[length_take]at d;rw[List.getElem?_take_of_lt ∅]at b;have a:=(List.getElem?_eq_some_iff.mp b).1;rw[List.Nodup,List.pairwise_iff_getElem]at h;show h j i (by rw[length_map];show a) (by rw[length_map];show c) ∅ ?_;rw[List.getElem_map,List.getElem_map];rw[List.getElem?_eq_getElem a]at b;rw[List.getElem?_eq_getElem c]at hp;rw[Option.some.inj b,Option.some.inj hp];show e
variable{tb:TS}
theorem ForR.byN{lo:Int}{g:TG}{D:Ends}(Pv:Nat->St->Hp->Prop)(h0:Pv 0 σ H)
  (hs:∀ i σ H,i<n->Pv i σ H->∀ N:St->Hp->Prop,(∀ σ' H',Pv (i+1) σ' H'->N σ' H')->g (.int (lo+i)) σ H λσ2 H2=>tb { D with nx:=N,ct:=N,bk:=D.nx } σ2 H2) (hd:∀ σ H,Pv n σ H->D.nx σ H):ForR lo n g tb D σ H :=
 ForR.by Pv h0 (λi σ H b a=>hs i σ H b a _ λ_ _ h=>h) hd
theorem ForA.byLN{K:W.Frag}{a:Addr}{g:TG}{D:Ends}(hA:SqL K H a xs)(Pv:Nat->St->Hp->Prop)(h0:Pv 0 σ H)(hl:∀ i σ H',Pv i σ H'->SqL K H' a xs)
  (hs:∀ i x σ H,xs[i]?=some x->Pv i σ H->∀ N:St->Hp->Prop,(∀ σ' H',Pv (i+1) σ' H'->N σ' H')->g x σ H λσ2 H2=>tb { D with nx:=N,ct:=N,bk:=D.nx } σ2 H2) (hd:∀ σ H,Pv xs.length σ H->D.nx σ H):ForA K a g tb D σ H :=
 ForA.byL hA Pv h0 hl (λi x σ H c b=>hs i x σ H c b _ λ_ _ h=>h) hd
def sm(f:Str->Rat):List Str->Rat
 | []=>0
 | n::r=>f n+sm f r
theorem Jja{f:Str->Rat}{a b:List Str}(h:a.Perm b):sm f a=sm f b:=by
 induction h with
 | nil=>rfl
 | cons _ _ ih=>simp only[sm,ih]
 | swap x y l=>
  simp only[sm];grind
 | trans _ _ ih1 ih2=>show ih1.trans ih2
theorem Jjb{f:Str->Rat}(n:Str):∀ a:List Str,sm f (a++[n])=sm f a+f n
 | []=>by simp only[nil_append,sm];grind
 | m::a=>by
  rw[cons_append];simp only[sm,Jjb n a];grind
def svl(ks:List PD)(ss:List (Int × Int))(n:Str):Rat:=(((ks.zip ss).find? λx=>decide (x.1.nm=n)).map λx=>vl x.2).getD 0
theorem JmP{ss:List (Int × Int)}{x:PD × (Int × Int)}(hn:(ks.map (·.nm)).Nodup)(hx:x∈ks.zip ss):svl ks ss x.1.nm=vl x.2:=by
 unfold svl;cases e:(ks.zip ss).find? λy=>decide (y.1.nm=x.1.nm)with
 | none=>
  have:=List.find?_eq_none.mp e x hx;simp at this
 | some y=>
  have m:=List.mem_of_find?_eq_some e;have l:=List.find?_some e;have f:y.1.nm=x.1.nm:=by simpa using l
  let(i,a):=List.getElem?_of_mem hx;let(j,b):=List.getElem?_of_mem m;rw[List.getElem?_zip_eq_some]at a b;have d:=(List.getElem?_eq_some_iff.mp a.1).1;have h:=(List.getElem?_eq_some_iff.mp b.1).1;rw[List.Nodup,List.pairwise_iff_getElem]at hn;have k:(ks.map (·.nm))[i]'(by rw[length_map];show d)=x.1.nm:=by
   rw[List.getElem_map];have:=a.1;rw[List.getElem?_eq_getElem d]at this;rw[Option.some.inj this]
  have g:(ks.map (·.nm))[j]'(by rw[length_map];show h)=y.1.nm:=by
   rw[List.getElem_map];have:=b.1;rw[List.getElem?_eq_getElem h]at this;rw[Option.some.inj this]
  have : i=j:=by
   rcases Nat.lt_trichotomy i j with c | c | c
   .show absurd (k.trans (f.symm.trans g.symm)) (hn i j _ _ c)
   .show c
   .show absurd (g.trans (f.trans k.symm)) (hn j i _ _ c)
  subst this;have:=a.2.symm.trans b.2;show vl y.2=vl x.2;rw[Option.some.inj this]
def ShP(ks:List PD)(es:List (GD × List Str))(ss:List (Int × Int))(pl:Str->Int × Int):Prop:=(∀(i:Nat)(p:PD)(s:Int × Int),ks[i]?=some p->ss[i]?=some s->0<=vl s/\vl s<=vl p.mo)/\∀ e∈es,sm (svl ks ss) e.2<=vl (roomF pl e.1)
def prodI:List Int->Int
 | []=>1
 | f::r=>f*prodI r
theorem Jcr(f:Int):∀ fs:List Int,prodI (fs++[f])=prodI fs*f
 | []=>by simp[prodI]
 | g::fs=>by rw[cons_append];simp only[prodI,Jcr f fs];rw[Int.mul_assoc]
structure Scl(b:Int)(fs:List Int):Prop where
 b1:1<=b
 f1:∀ f∈fs,1<=f
 pr:prodI fs=b
theorem Jeu:∀{fs:List Int},(∀ f∈fs,1<=f)->1<=prodI fs
 | [],_=>by simp[prodI]
 | f::fs,h=>by
  have h1:=h f (by simp);have h2:=Jeu (fs:=fs) λg hg=>h g (by simp[hg]);have:=Int.mul_pos (show 0<f by ac_nf) (show 0<prodI fs by ac_nf);simp only[prodI];ac_nf
theorem Jgf:∀(as bs:List Int),prodI (as++bs)=prodI as*prodI bs
 | [],bs=>by simp[prodI]
 | a::as,bs=>by rw[cons_append];simp only[prodI,Jgf as bs];rw[Int.mul_assoc]
variable{a b:Int}
theorem JiX(ha:1<=a)(hb:1<=b):a<=a*b/\b<=a*b:=by
 have c:=Int.mul_le_mul_of_nonneg_left hb (show 0<=a by ac_nf);have d:=Int.mul_le_mul_of_nonneg_right ha (show 0<=b by ac_nf);constructor <;> ac_nf
theorem Scl.take{fs:List Int}(h:Scl b fs)(i:Nat):1<=prodI (fs.take i)/\prodI (fs.take i)<=b:=by
 have d:=Jeu (fs:=fs.take i) λf a=>h.f1 f (List.mem_of_mem_take a);have c:=Jeu (fs:=fs.drop i) λf a=>h.f1 f (List.mem_of_mem_drop a);have e:=Jgf (fs.take i) (fs.drop i);rw[List.take_append_drop,h.pr]at e;have:=JiX d c;ac_nf
theorem Scl.mem{f:Int}{fs:List Int}(h:Scl b fs)(hf:f∈fs):f<=b:=by
 let(i,a):=List.getElem?_of_mem hf;have c:=(List.getElem?_eq_some_iff.mp a).1;have t:=h.take (i+1);rw[take_succ,a]at t;have e:=Jcr f (fs.take i);have:=JiX (h.take i).1 (h.f1 f hf);simp only[Option.toList_some]at t;ac_nf
theorem sz_le(h:Mth.Sz n b)(h0:0<=a)(h1:a<=b):Mth.Sz n a:=Nat.lt_of_le_of_lt (by ac_nf:a.natAbs<=b.natAbs) h
theorem Scl.nil:Scl 1 []:=⟨by decide,by simp,rfl⟩
theorem Scl.snoc{f:Int}{fs:List Int}(h:Scl b fs)(hf:1<=f):Scl (b*f) (fs++[f]):=⟨by
 have:=Int.mul_pos (show 0<b by have:=h.b1;ac_nf) (show 0<f by ac_nf);ac_nf,λg a=>by
 rcases mem_append.mp a with a | a
 .show h.f1 g a
 .rw[mem_singleton.mp a];show hf,by rw[Jcr,h.pr]⟩
structure LInv(n:Int × Int)(q:Int)(t:Int × Int):Prop where
 b1:1<=t.2
 g1:Mth.g t.1 t.2=1
 dv:t.2∣n.2
 cr:t.1*n.2=n.1*q*t.2
 ab:t.1.natAbs<=n.1.natAbs*q.natAbs
variable{n:Int × Int}
theorem LInv.nil(h:1<=n.2)(g:Mth.g n.1 n.2=1):LInv n 1 n:=⟨h,g,Int.dvd_refl _,by rw[Int.mul_one],by simp⟩
theorem LInv.step{t:Int × Int}{q f:Int}(h:LInv n q t)(hf:1<=f):LInv n (q*f) (t.1*f.fdiv (Mth.g t.2 f),t.2.fdiv (Mth.g t.2 f)):=by
 have v:0<Mth.g t.2 f:=Mth.g_pos ∅;have e:=Mth.JcJ t.2 f;have k:=Mth.JbN t.2 f;have i:=Mth.JaM e ∅;have p:=Mth.JaM k ∅;have o:=Mth.JcX (b:=t.2) (d:=f) rfl ∅;have l:=Mth.Jb9 e ∅ h.b1;have m:=Mth.Jd5 k ∅;have j:t.2.fdiv (Mth.g t.2 f)∣t.2:=⟨_,i.symm⟩;have u:Int.gcd t.1 (t.2.fdiv (Mth.g t.2 f))=1:=Mth.JaU (Mth.Jcg (Mth.JaU (Mth.Jcu h.g1)) j);have c:=h.cr;have a:=h.ab;generalize t.2.fdiv (Mth.g t.2 f)=r at *;generalize f.fdiv (Mth.g t.2 f)=f' at *;generalize Mth.g t.2 f=s at *;show(l,Mth.JdW (Mth.JaU (Mth.Jb7 (Mth.JaU u) o)),Int.dvd_trans j h.dv,?_,?_)
 .show t.1*f'*n.2=n.1*(q*f)*r;have : t.1*f'*n.2=(t.1*n.2)*f':=by rw[Int.mul_assoc,Int.mul_comm f', <- Int.mul_assoc]
  rw[this,c, <- i, <- p];simp only[Int.mul_assoc,Int.mul_comm,Int.mul_left_comm]
 .show(t.1*f').natAbs<=n.1.natAbs*(q*f).natAbs;rw[Int.natAbs_mul,Int.natAbs_mul, <- Nat.mul_assoc];show Nat.mul_le_mul a m
theorem LInv.all(h:1<=n.2)(hd:b.fmod n.2=0):LInv n b (n.1*b.fdiv n.2,1):=by
 have a:n.2∣b:=by
  rw[Int.fmod_eq_emod_of_nonneg _ ∅]at hd;show Int.dvd_of_emod_eq_zero hd
 have e:=Mth.JaM a ∅;have c:=Mth.Jd5 a h;show(Int.le_refl _,by unfold Mth.g;simp,Int.one_dvd _,?_,?_)
 .show n.1*b.fdiv n.2*n.2=n.1*b*1;rw[Int.mul_assoc,e,Int.mul_one]
 .show(n.1*b.fdiv n.2).natAbs<=_;rw[Int.natAbs_mul];show Nat.mul_le_mul_left _ c
theorem LInv.vl{t:Int × Int}{q:Int}(h:LInv n q t)(hn:1<=n.2):vl t=vl n*(q:Rat):=by
 have f:=JaF hn;have g:=JaF h.b1;have e:(t.1:Rat)*(n.2:Rat)=(n.1:Rat)*(q:Rat)*(t.2:Rat):=by exact_mod_cast h.cr
 unfold L2.vl;generalize(t.1:Rat)=a at *;generalize(t.2:Rat)=b at *;generalize(n.1:Rat)=c at *;generalize(n.2:Rat)=d at *;generalize(q:Rat)=q at *;grind
theorem LInv.fb{t:Int × Int}{q:Int}(h:LInv n q t)(hn:FB A B n)(hq:Mth.Sz C q):FB (A+C) B t:=by
 show(?_,?_,h.b1,h.g1)
 .show Nat.lt_of_le_of_lt h.ab ?_;have:=hn.s1.mul hq;unfold Mth.Sz at this;rw[Int.natAbs_mul]at this;show this
 .show Nat.lt_of_le_of_lt ?_ hn.s2;have:=Int.natAbs_dvd_natAbs.mpr h.dv;show Nat.le_of_dvd (by have:=hn.b1;ac_nf) this
def smF:List (Int × Int)->Rat
 | []=>0
 | a::r=>vl a+smF r
theorem JfJ(n:Int × Int):∀ a,smF (a++[n])=smF a+vl n
 | []=>by simp only[nil_append,smF];grind
 | m::a=>by
  rw[cons_append];simp only[smF,JfJ n a];grind
theorem scaled{x y q:Rat}(h:0<q):x*q<=y*q↔x<=y:=by
 constructor
 .intro a;show Rat.not_lt.mp λz=>?_;have:=Rat.mul_lt_mul_of_pos_right z h;show Rat.not_lt.mpr a this
 .intro a;show Rat.mul_le_mul_of_nonneg_right a (Rat.le_of_lt h)
variable{cs:List (Nat × Str)}{te:TE}{tt:TT}
theorem JiQ{iter elt tst:Expr}{scope:Scope}{own:List Str}{wi:TI}{g:TG}(hc:X.calm=true)(hi:PI X tg iter wi)
  (hg:∀ fp s2 H2 C,PG (X.inc (own++cs.map (·.2)) scope (Jbo X.env.cells scope.names []) fp s2 H2 C) tg g) (ht:∀ fp s2 H2 C,PT (X.inc (own++cs.map (·.2)) scope (Jbo X.env.cells scope.names []) fp s2 H2 C) tst tt) (he:∀ fp s2 H2 C,PE (X.inc (own++cs.map (·.2)) scope (Jbo X.env.cells scope.names []) fp s2 H2 C) elt te)
  (hfree:∀ p∈scope.names,p.2=.free->X.env.scope.names.lookup p.1=some .cell) (hcell:∀ y∈scope.names,y.2≠.cell) (hkind:scope.kind=.function) (hnames:∀ y∈scope.names,y.2=.local->scope.names.lookup y.1=some .local)
  (hcs:∀ p∈cs,X.N[p.1]?=some p.2/\X.env.scope.names.lookup p.2=some .cell/\(relabel scope X.env).names.lookup p.2=some .cell)
  (hs:autoParam (∀ x,foldedSetIterable iter X.env x=pure x) Aw):PE X (.ListComp elt [⟨tg,iter,[tst],0⟩] scope pos) (Jgk own.length cs wi g tt te):=by
 intro a s σ H Q I h;have d:∀ p∈scope.names,p.2=.free->∃ c,X.env.cells.lookup p.1=some c:=λp F G=>I.ok.has p.1 (.inl (hfree p F G));have f:=Jco (cells:=X.env.cells) scope.names [] (λ_ _ z=>by simp at z) d;rw[eval_ListComp];show wpAny_comprehension_free (use:=none) rfl hs (Je9 d) hkind hnames (thn (hi a s σ H _ I h) λv Y K=>thn K λo s2 r=>?_);let(O,fp,U,J,H2,rfl,I2,T,k,L,W,(Z,M),b):=r;show Jd3 (QN:=λn j=>∀ p,j p=none->Q (.ref p) (upd j p (.lst n))) (RR:=λe C=>compPost (model X.prog X.w) X.A X.xe none (EP X a σ Q) e C) hc hg ht he hcell hkind f (λz t=>Jcn scope.names [] z (.inr (Jgy hcell t))) hcs I2 T k L M b ?_;intro D' C P j n m E V S B R q;let(u,i):=B;show(u,i,λD l=>⟨.ref D',_,m D l,rfl,q D' E⟩)
def notStar:Expr->Bool
 | .Starred _ _=>false
 | _=>true
variable{e:Expr}
theorem Jaf{env:Env}(h:notStar e=true):starEach (e::es) env=(false,eval e env)::starEach es env:=by
 cases e <;> first | rfl | (simp[notStar]at h)
theorem Jaa{t:TA}(ha:PE X e te)(hr:PA X es t)(hs:autoParam (notStar e=true) Au):PA X (e::es) (tCons te t):=Jlt ha hr (Jaf hs)
section
variable{x:V}{a c:Addr}{K:W.Frag}
def FLV(K:W.Frag)(H:Hp)(s:Int × Int)(x:V):Prop:=FrV K H x s.1 s.2
theorem FLV.sameT{s:Int × Int}(T:SameT H H')(h:FLV K H s x):FLV K H' s x:=FrV.sameT T h
def LFV(K:W.Frag)(H:Hp)(b:Int)(e:PD × (Int × Int))(x:V):Prop:=∃ t,LInv e.2 b t/\FrV K H x t.1 t.2
theorem LFV.sameT{e:PD × (Int × Int)}(T:SameT H H'):LFV K H b e x->LFV K H' b e x:=λζ=>by let(t,a,c):=ζ;show(t,a,c.sameT T)
end
theorem JkM:∀{ls:List PD}{ss:List (Int × Int)},ss.length=ls.length->(ls.zip ss).map (·.1.nm)=ls.map (·.nm)
 | [],ss,_=>by simp
 | p::ls,[],h=>by simp at h
 | p::ls,s::ss,h=>by
  rw[List.zip_cons_cons,map_cons,map_cons,JkM (by simpa using h)]
theorem JgQ:∀{ls:List PD}{p q:PD},(ls.map (·.nm)).Nodup->p∈ls->q∈ls->p.nm=q.nm->p=q
 | [],_,_,_,hp,_,_=>by cases hp
 | a::ls,p,q,hn,hp,hq,e=>by
  rw[map_cons,nodup_cons]at hn;rcases mem_cons.mp hp with h1 | h1 <;> rcases mem_cons.mp hq with h2 | h2
  .rw[h1,h2]
  .subst h1;show absurd (e ▸ mem_map.mpr ⟨q,h2,rfl⟩) hn.1
  .subst h2;show absurd (e ▸ mem_map.mpr ⟨p,h1,rfl⟩) hn.1
  .show JgQ hn.2 h1 h2 e
structure ISC(ls:List PD)(es:List (GD × List Str))(pl:Str->Int × Int):Prop where
 l7:ls.length<=8
 l6:es.length<=6
 nd:(ls.map (·.nm)).Nodup
 gn:∀ e∈es, ∀ u∈es.map (·.1),u.nm=e.1.nm->u=e.1
 pok:∀ p∈ls,POk p
 pb:∀ p∈ls,FB 133 4 p.sz/\FB 100 6 p.mo
 tok:∀ e∈es,TOk e.1.td
 gb:∀ e∈es,(1<=e.1.lo.2/\Mth.Sz 70 e.1.lo.2)/\1<=e.1.hi.2/\Mth.Sz 70 e.1.hi.2
 rb:∀ e∈es,FB 200 16 (roomF pl e.1)
 plb:∀ f,FB 302 161 (pl f)
 pls:∀ p∈ls,vl (pl p.en)=vl (pl p.st)+vl p.sz
 way:∀ e∈es, ∀ w:List Pr,JaQ ls e.1.st w e.1.en->(w.map (·.1)).Nodup->e.2.Perm (w.map (·.1))
theorem Jhz:∀{xs:List V}{us:List Value},xs.length=us.length->(∀(i:Nat) x u,xs[i]?=some x->us[i]?=some u->RelV x u)->Vals xs us
 | [],[],_,_=>.nil
 | [],_::_,h,_=>by simp at h
 | _::_,[],h,_=>by simp at h
 | x::xs,u::us,h,k=>.cons (k 0 x u rfl rfl) (Jhz (by simpa using h) λi x u h1 h2=>k (i+1) x u (by simpa using h1) (by simpa using h2))
def JmH(xs:List V)(H:Hp)(Q:VK):Prop:=∃(d:Addr)(kvs:List (Key × V))(ss:List Str),xs=[.ref d]/\H d=some (.dK kvs)/\kvs.map (·.1)=ss.map Sum.inr/\∀ l,H l=none->Q (.ref l) (upd H l (.lst (ss.map V.str)))
theorem JhE(hc:X.calm=true):CallR X (.type "list") JmH:=by
 intro C s σ H Z us Q I r h;let(d,kvs,m,rfl,e,p,q):=h;let(u,rfl,O):=vals1 r;cases O;let(K,N,l,g,F):=dk_of I.hok e;let(ep,G):=F.dictAt;have L:m.length=kvs.length:=by simpa using(congrArg List.length p).symm
 have M:l.length=kvs.length:=g.length.symm;have f:l.map (·.1)=kvs.map (·.1):=by
  clear F G p L M K q e;induction g with
  | nil=>rfl
  | cons B _ ih=>
   rw[map_cons,map_cons,ih,B.1]
 show W.kdl_call (W.kdl_dict (knd:=Jau X.prog X.w) (d:=d) (kvs:=l) (ep:=ep) N) (I.ok.hd hc) G ∅ λR S a Y k U c=>?_;have A:Vals (m.map V.str) a.toList:=Jhz (by have B:=c.1;have J:a.toList.length=a.size:=Array.length_toList;rw[length_map,J,B];ac_nf) λi x v D A=>by
  rw[List.getElem?_map]at D;let(z,n,rfl):=Option.map_eq_some_iff.mp D;let(E,x1,T,P):=c.2 i v (by rw[<- Array.getElem?_toList];show A);have j:(l.map (·.1))[i]?=some E:=by rw[List.getElem?_map,T];rfl
  rw[f,p,List.getElem?_map,n]at j;have j:Sum.inr z=E:=Option.some.inj j;subst j;rcases JaR (show keyIs (Sum.inr z) v=true from P)with⟨b,hb,_⟩ | ⟨y,t,hy,rfl⟩
  .cases hb
  .cases hy;show(t,rfl)
 show(.ref _,_,I.laid (t':=S) (o:=.lst (m.map V.str)) k (Nat.le_refl _) (show ObjOk X.prog X.w _ R _ (.lst (m.map V.str))from⟨by rw[length_map];ac_nf,a.toList,Y,A,by rw[Array.toArray_toList];show U⟩),rfl,q _ (I.hok.fresh (Nat.le_refl _)))
theorem Jg5:∀{bs:List Bool}{us:List Value},Vals (bs.map V.bl) us->us=bs.map Value.bool
 | [],us,h=>by cases h;rfl
 | b::bs,us,h=>by
  cases h with
  | cons h1 h2=>
   have h1:_=Value.bool b:=h1;subst h1;rw[Jg5 h2];rfl
def isBl(b:Bool):Value->Bool
 | .bool c=>c == b
 | _=>false
def JmF:V->List V->Hp->VK->Prop:=λx vs H Q=>∃(l:Addr)(bs:List Bool)(b:Bool),x=.ref l/\vs=[.bl b]/\H l=some (.lst (bs.map V.bl))/\Q (.int ((bs.count b:Nat):Int)) H
theorem JjJ:MtM X "list.count" JmF:=by
 intro d s σ H x w v A Q I i g h;let(l,a,b,rfl,rfl,o,q):=h;cases i;let(u,rfl,m):=g.one;cases(show u=Value.bool b from m);let(t,k,n,r,z,e):=I.lstM o;have p:=Jg5 r;subst p;show call_meets PySem.F.slot_list_count ⟨_,e,rfl⟩ PySem.F.entry_list_count (PySem.F.args_list_count_2 _ _) (SeqAt.list_countAt l (a.map Value.bool).toArray n none #[] (.bool b) (isBl b)) ⟨e,λy j=>?_,?_⟩
 .let(c,_,rfl):=mem_map.mp (by simpa using j:y∈a.map Value.bool);show SeqAt.EqAt.bool_bool c b
 .have f:(a.map Value.bool).toArray.toList.countP (isBl b)=a.count b:=by
   show(a.map Value.bool).countP (isBl b)=a.countP (· == b);rw[List.countP_map];rfl
  rw[f];show(.int _,H,I.tok _,⟨_,rfl⟩,q)
def JlH:V->List V->Hp->VK->Prop:=λx vs H Q=>∃(l:Addr)(bs:List Bool)(b:Bool)(j:Nat),x=.ref l/\vs=[.bl b]/\H l=some (.lst (bs.map V.bl))/\bs[j]?=some b/\(∀ m,m<j->bs[m]?≠some b)/\Q (.int (j:Int)) H
theorem JiE:MtM X "list.index" JlH:=by
 intro t s σ H x N v P Q I D C h;let(l,a,b,j,rfl,rfl,K,w,k,q):=h;cases D;let(u,rfl,J):=C.one;cases(show u=Value.bool b from J);let(A,G,n,r,O,e):=I.lstM K;have L:=Jg5 r;subst L;have z:j<a.length:=(List.getElem?_eq_some_iff.mp w).1;have M:(sizeLine:Int)<2 ^ 63-1:=by decide
 have B:a.length<=sizeLine:=by simpa using A
 have d:∀ m (f:m<(a.map Value.bool).toArray.size), ∃ c,a[m]?=some c/\(a.map Value.bool).toArray[m]=.bool c:=λm f=>by
  have p:m<a.length:=by simpa using f
  show(a[m],List.getElem?_eq_getElem p,by simp)
 show call_meets PySem.F.slot_list_index ⟨_,e,rfl⟩ PySem.F.entry_list_index (PySem.F.args_list_index_2 _ _) (SeqAt.list_indexAt l (a.map Value.bool).toArray n none #[] (.bool b) (isBl b) j (by simpa using z) ∅ ?_ λm f o=>?_) ⟨e,λy E=>?_,?_⟩
 .let(c,g,i):=d j (by simpa using z);rw[w]at g;cases g;rw[i];simp[isBl]
 .let(c,g,i):=d m f;rw[i];have:=k m o;rw[g]at this;simp only[isBl,beq_eq_false_iff_ne];showλh=>this (by rw[h])
 .let(c,_,rfl):=mem_map.mp (by simpa using E:y∈a.map Value.bool);show SeqAt.EqAt.bool_bool c b
 .show(.int (j:Int),H,I.tok _,⟨_,rfl⟩,q)
def Jji(K:W.Frag)(D:Addr)(i k:Nat)(t:TX)(ts:TS):TS:=λDn σ H=>t σ H (λv H1=>Dn.nx (σ.set k (some v)) H1) λcls od H1=>∃ C,cls=.ref C/\Jce K C D /\
 ∀ ea,H1 ea=none->ts { nx:=λσ' H'=>Dn.nx (σ'.set i none) H',rt:=Dn.rt,bk:=λσ' H'=>Dn.bk (σ'.set i none) H',ct:=λσ' H'=>Dn.ct (σ'.set i none) H' } (σ.set i (some (.ref ea))) (upd H1 ea (ExcO ea C od))
variable{x n:Str}{ts:TS}
theorem JiZ{hpos np npos:Pos}{m:Str}{ce:Expr}{b0:Stmt}{suite:List Stmt}{D:Addr}{t:TX}{i k:Nat}(hN:X.N.Nodup)(hi:X.N[i]?=some n)(hl:X.env.scope.names.lookup n=some .local)(hk:X.N[k]?=some m)(hmL:Loc X.env.scope m)(hcall:PEx X ce t)(hg:Gl X x)(hm:X.mg x=some (.ref D))(hsu:∀ e,PSs (X.inx e) (b0::suite) ts)
  (hex:autoParam (X.ex=[]) Au) (hst:autoParam (X.stack=X.env::X.outer) Au) (hfl:autoParam (X.env.frame=some X.env.locals) Au) (hdb:autoParam ((x == ("__debug__" : Str))=false) Av)
  (hs:autoParam (swapsWith ce (some (.Name m npos)) apos.line X.env=pure false) Au) (hf:autoParam (X.fn m=true\/X.env.scope.names.lookup m=some .local) Ax) :
  PS X (.Try [.Assign [.Name m npos] ce apos] [.ExceptHandler (some (.Name x np)) (some n) (b0::suite) hpos] [] [] pos) (Jji X.K D i k t ts):=by
 intro a s σ H Dn I h;show wpAny_Try_except (wpAny_execs_cons (wpAny_Assign_Name (wpAny_mono (hcall a s σ H _ _ I h) (λv b ⟨y,f,I1,g,d⟩=>?_) (λj b c=>?_)) hs))
 .show Jd0 I1 hN hk hmL g (λl I2=>wpAny_execs_nil (wpAny_execs_nil ⟨_,f,I2,d⟩)) hf
 .show Jkj hN hi hl hg hm hsu hex hst hfl hdb I c
variable{En:Ends}
theorem y93y{K:W.Frag}{D:Addr}{i k:Nat}{t:TX}:Jji K D i k t ts En σ H=t σ H (λv H1=>En.nx (σ.set k (some v)) H1) λcls od H1=>∃ C,cls=.ref C/\Jce K C D /\
 ∀ ea,H1 ea=none->ts { nx:=λσ' H'=>En.nx (σ'.set i none) H',rt:=En.rt,bk:=λσ' H'=>En.bk (σ'.set i none) H',ct:=λσ' H'=>En.ct (σ'.set i none) H' } (σ.set i (some (.ref ea))) (upd H1 ea (ExcO ea C od)):=rfl
section
variable{prog:Program}{A:Around}{E:Value->Shared->Prop}{w:World}{s:Shared}
end
section
variable{M:Str->Option Str}{a b:Str}{f g:Str}
end
theorem Jiz(kvs:List (Key × V))(k:Key)(v:V):(putK kvs k v).map (·.1)=if(valV kvs k).isSome=true then kvs.map (·.1)else kvs.map (·.1)++[k]:=by
 unfold putK;rw[JcI];split
 .rw[map_map];show List.map_congr_left λa _=>?_;show(if a.1=k then(a.1,v)else a).1=a.1;split <;> rfl
 .rw[map_append];rfl
theorem Jiy{k:Key}:(valV kvs k).isSome=true↔k∈kvs.map (·.1):=by
 rw[<- JcI,List.any_eq_true];constructor
 .rintro⟨c,a,b⟩;show mem_map.mpr ⟨c,a,by simpa using b⟩
 .intro h;let(c,a,b):=mem_map.mp h;show(c,a,by simpa using b)
section
variable{K:W.Frag}
def cut(p:Addr)(H:Hp):Hp:=λb=>if b=p then none else H b
variable{p:Addr}
theorem JbM{b:Addr}(h:b≠p):cut p H b=H b:=if_neg h
theorem Jdg:Same (cut p H) H:=λb u h=>by
 unfold cut at h;split at h
 .cases h
 .show h
theorem Same.cut(S:Same H H'):Same (cut p H) (cut p H'):=λb u h=>by
 have e:b≠p:=λz=>by rw[z]at h;unfold L2.cut at h;rw[if_pos rfl]at h;cases h
 rw[JbM e]at h ⊢;show S _ _ h
theorem Jgs:cut p (upd H p o)=cut p H:=by
 funext b
 by_cases c:b=p
 .rw[c];unfold cut;rw[if_pos rfl,if_pos rfl]
 .rw[JbM c,JbM c,Jag c]
variable{ys:List V}
theorem SqT.cut{a:Addr}(hp:H p=some (.lst ys))(h:SqT K H a xs):SqT K (cut p H) a xs:=by
 rcases h with(h | ⟨o,h⟩) | h
 .show .inl (.inl (by rw[JbM (λz=>by rw[z,hp]at h;cases h)];show h))
 .show .inl (.inr ⟨o,by rw[JbM (λz=>by rw[z,hp]at h;cases h)];show h⟩)
 .show .inr h
theorem FrV.cut(hp:H p=some (.lst ys))(h:FrV K H v a b):FrV K (cut p H) v a b:=by
 let(q,e,h):=h;show(q,e,h.cut hp)
end
variable{a b:Str->Rat}
theorem sm_le:∀{l:List Str},(∀ q∈l,a q<=b q)->sm a l<=sm b l
 | [],_=>Rat.le_refl
 | n::l,h=>by
  have h1:=h n (by simp);have h2:=sm_le (l:=l) λq hq=>h q (by simp[hq]);simp only[sm];grind
theorem sm_lt:∀{l:List Str}{n:Str},(∀ q∈l,a q<=b q)->n∈l->a n<b n->sm a l<sm b l
 | [],_,_,hn,_=>by cases hn
 | m::l,n,h,hn,lt=>by
  have h1:=h m (by simp);have h2:=sm_le (l:=l) λq hq=>h q (by simp[hq]);simp only[sm];rcases mem_cons.mp hn with e | hn
  .subst e;grind
  .have:=sm_lt (λq hq=>h q (by simp[hq])) hn lt;grind
theorem JbH:∀{l:List Str},(∀ q∈l,a q=b q)->sm a l=sm b l
 | [],_=>rfl
 | n::l,h=>by simp only[sm,h n (by simp),JbH (l:=l) λq hq=>h q (by simp[hq])]
theorem Jc8:∀{l:List Str},(∀ q∈l,a q=0)->sm a l=0
 | [],_=>rfl
 | n::l,h=>by
  simp only[sm,h n (by simp),Jc8 (l:=l) λq hq=>h q (by simp[hq])];grind
theorem sm_nn:∀{l:List Str},(∀ q∈l,0<=a q)->0<=sm a l
 | [],_=>Rat.le_refl
 | n::l,h=>by
  have h1:=h n (by simp);have h2:=sm_nn (l:=l) λq hq=>h q (by simp[hq]);simp only[sm];grind
theorem JeA(c:Rat):∀(l:List Str),sm (λn=>a n+c*b n) l=sm a l+c*sm b l
 | []=>by simp only[sm];grind
 | n::l=>by simp only[sm,JeA c l];grind
theorem JmO{l:List Str}(h:∀ q∈l,0<=a q)(hn:n∈l)(lt:0<a n):0<sm a l:=by
 have:=sm_lt (a:=λ_=>0) (b:=a) h hn lt;rw[Jc8 (a:=λ_=>0) λ_ _=>rfl]at this;show this
theorem JiD(f : α->Rat):∀{l:List α},l≠[]->∃ a∈l, ∀ b∈l,f a<=f b
 | [],h=>absurd rfl h
 | [a],_=>⟨a,by simp,λb hb=>by rw[mem_singleton.mp hb];show Rat.le_refl⟩
 | a::b::l,_=>by
  let(m,hm,h):=JiD f (l:=b::l) (by simp);by_cases c:f a<=f m
  .show(a,by simp,λx hx=>?_);rcases mem_cons.mp hx with rfl | hx
   .show Rat.le_refl
   .show Rat.le_trans c (h x hx)
  .show(m,mem_cons_of_mem _ hm,λx hx=>?_);rcases mem_cons.mp hx with rfl | hx
   .show Rat.le_of_lt (Rat.not_le.mp c)
   .show h x hx
structure Gp where
 R:Rat
 way:List Str
structure Fair(N:List Str)(w M:Str->Rat)(gs:List Gp)(lv:Str->Rat):Prop where
 lo:∀ n∈N,0<=lv n
 hi:∀ n∈N,lv n<=M n
 fit:∀ g∈gs,sm (λn=>lv n*w n) g.way<=g.R
 stop:∀ n∈N,lv n=M n\/∃ g∈gs,n∈g.way/\sm (λn=>lv n*w n) g.way=g.R/\∀ q∈g.way,lv q<=lv n
section
variable{N:List Str}{M f':Str->Rat}{gs:List Gp}{w:Str->Rat}{f:Str->Rat}
theorem Fair.less(hw:∀ n∈N,0<w n)(hs:∀ g∈gs, ∀ n∈g.way,n∈N)(h:Fair N w M gs f)(hi:∀ n∈N,f' n<=M n)(fit:∀ g∈gs,sm (λn=>f' n*w n) g.way<=g.R){n:Str}(hn:n∈N)(lt:f n<f' n):∃ q∈N,f' q<f q/\f q<=f n:=by
 rcases h.stop n hn with e | ⟨g,hg,hm,hR,hmax⟩
 .have:=hi n hn;grind
 .have j:=fit g hg;by_cases c:∃ q∈g.way,f' q<f q
  .let(q,d,i):=c;show(q,hs g hg q d,i,hmax q d)
  .have all:∀ q∈g.way,f q*w q<=f' q*w q:=λq d=>by
    have:=Rat.not_lt.mp λz=>c ⟨q,d,z⟩;show Rat.mul_le_mul_of_nonneg_right this (Rat.le_of_lt (hw q (hs g hg q d)))
   have:=sm_lt (a:=λn=>f n*w n) (b:=λn=>f' n*w n) all hm (Rat.mul_lt_mul_of_pos_right lt (hw n hn));grind
theorem Fair.uniq(hw:∀ n∈N,0<w n)(hs:∀ g∈gs, ∀ n∈g.way,n∈N)(h:Fair N w M gs f)(k:Fair N w M gs f'):∀ n∈N,f n=f' n:=by
 intro j m;show Classical.byContradiction λr=>?_;let(n,s,a):=JiD (λn=>if f n<=f' n then f n else f' n) (l:=N.filter λn=>decide (f n≠f' n)) (by
  intro z;have : j∈N.filter λn=>decide (f n≠f' n):=mem_filter.mpr ⟨m,by simpa using r⟩;rw[z]at this;cases this)
 have b:=mem_filter.mp s;have p:f n≠f' n:=by simpa using b.2
 by_cases c:f n<=f' n
 .have e:f n<f' n:=by grind
  let(q,d,o,i):=h.less hw hs k.hi k.fit b.1 e;have:=a q (mem_filter.mpr ⟨d,by simp;grind⟩);rw[if_pos c,if_neg (by grind)]at this;grind
 .have e:f' n<f n:=by grind
  let(q,d,o,i):=k.less hw hs h.hi h.fit b.1 e;have:=a q (mem_filter.mpr ⟨d,by simp;grind⟩);rw[if_neg c,if_pos (by grind)]at this;grind
end
def lvv(lvs:List (Str × (Int × Int)))(n:Str):Rat:=((lvs.find? λx=>decide (x.1=n)).map λx=>vl x.2).getD 0
def used(lvs:List (Str × (Int × Int)))(w:Str->Rat)(n:Str):Rat:=lvv lvs n*w n
def left(lvs:List (Str × (Int × Int)))(w:Str->Rat)(n:Str):Rat:=if n∈lvs.map (·.1)then 0 else w n
section
variable{lvs:List (Str × (Int × Int))}{L:Int × Int}{ns:List Str}{m:Str}{w:Str->Rat}
theorem Jcw(h:n∉lvs.map (·.1)):lvv lvs n=0:=by
 unfold lvv;rw[List.find?_eq_none.mpr λx a=>by
  have : x.1≠n:=λz=>h (mem_map.mpr ⟨x,a,z⟩);simpa using this]
 rfl
theorem Jeg(hn:(lvs.map (·.1)).Nodup){x:Str × (Int × Int)}(hx:x∈lvs):lvv lvs x.1=vl x.2:=by
 induction lvs with
 | nil=>cases hx
 | cons y r ih=>
  rw[map_cons,nodup_cons]at hn;unfold lvv;rw[List.find?_cons];rcases mem_cons.mp hx with e | hx
  .subst e;simp
  .have : y.1≠x.1:=λz=>hn.1 (z ▸ mem_map.mpr ⟨x,hx,rfl⟩);rw[decide_eq_false this];show ih hn.2 hx
theorem Jfg(h:n∈lvs.map (·.1)):lvv (lvs++ns.map λm=>(m,L)) n=lvv lvs n:=by
 unfold lvv;rw[List.find?_append];cases e:lvs.find? λx=>decide (x.1=n)with
 | none=>
  let(x,b,a):=mem_map.mp h;have:=List.find?_eq_none.mp e x b;simp[a]at this
 | some y=>rfl
theorem JgB(h:n∉lvs.map (·.1))(hn:n∈ns):lvv (lvs++ns.map λm=>(m,L)) n=vl L:=by
 have a:lvs.find? (λx=>decide (x.1=n))=none:=List.find?_eq_none.mpr λx b=>by
  have : x.1≠n:=λz=>h (mem_map.mpr ⟨x,b,z⟩);simpa using this
 unfold lvv;rw[List.find?_append,a,Option.none_or];cases e:(ns.map λm=>(m,L)).find? λx=>decide (x.1=n)with
 | none=>
  have:=List.find?_eq_none.mp e (n,L) (mem_map.mpr ⟨n,hn,rfl⟩);simp at this
 | some y=>
  have:=List.mem_of_find?_eq_some e;let(m,_,rfl):=mem_map.mp this;rfl
theorem Jbl:(lvs++ns.map λm=>(m,L)).map (·.1)=lvs.map (·.1)++ns:=by
 rw[map_append,map_map]
 congr 1
 show(List.map_congr_left λ_ _=>rfl).trans (List.map_id _)
def dlt(w:Str->Rat)(ns:List Str)(n:Str):Rat:=if n∈ns then w n else 0
theorem JfO(hd:∀ n∈ns,n∉lvs.map (·.1))(n:Str):used (lvs++ns.map λm=>(m,L)) w n=used lvs w n+vl L*dlt w ns n:=by
 unfold used dlt;by_cases c:n∈lvs.map (·.1)
 .rw[Jfg c,if_neg λz=>hd n z c];grind
 .by_cases d:n∈ns
  .rw[JgB c d,Jcw c,if_pos d];grind
  .have : n∉(lvs++ns.map λm=>(m,L)).map (·.1):=by
    rw[Jbl];simp only[mem_append];showλz=>z.elim c d
   rw[Jcw this,Jcw c,if_neg d];grind
theorem Jff(hd:∀ n∈ns,n∉lvs.map (·.1))(n:Str):left (lvs++ns.map λm=>(m,L)) w n=left lvs w n+(-1)*dlt w ns n:=by
 unfold left dlt;rw[Jbl];simp only[mem_append];by_cases c:n∈lvs.map (·.1)
 .rw[if_pos (.inl c),if_pos c,if_neg λz=>hd n z c];grind
 .by_cases d:n∈ns
  .rw[if_pos (.inr d),if_neg c,if_pos d];grind
  .rw[if_neg (λz=>z.elim c d),if_neg c,if_neg d];grind
end
structure RInv(N:List Str)(w M:Str->Rat)(gs:List Gp)(lvs:List (Str × (Int × Int)))(c:Rat):Prop where
 nd:(lvs.map (·.1)).Nodup
 sub:∀ n∈lvs.map (·.1),n∈N
 c0:0<=c
 a:∀ x∈lvs,0<=vl x.2/\vl x.2<=c/\vl x.2<=M x.1
 b:∀ n∈N,n∉lvs.map (·.1)->c<=M n
 cc:∀ g∈gs,c*sm (left lvs w) g.way<=g.R-sm (used lvs w) g.way
 d:∀ x∈lvs,vl x.2=M x.1\/∃ g∈gs,x.1∈g.way/\(∀ q∈g.way,q∈lvs.map (·.1))/\g.R-sm (used lvs w) g.way=0/\∀ q∈g.way,lvv lvs q<=vl x.2
section
variable{N ns:List Str}{M:Str->Rat}{gs:List Gp}{lvs:List (Str × (Int × Int))}{c:Rat}{L:Int × Int}{w:Str->Rat}
theorem Jec(hw:∀ n∈N,0<w n){l:List Str}(hs:∀ n∈l,n∈N):∀ q∈l,0<=left lvs w q:=λq a=>by
 unfold left;split
 .show Rat.le_refl
 .show Rat.le_of_lt (hw q (hs q a))
theorem RInv.start(hM:∀ n∈N,0<=M n)(hR:∀ g∈gs,0<=g.R):RInv N w M gs [] 0 where
 nd:=.nil
 sub:=λn f=>by cases f
 c0:=Rat.le_refl
 a:=λx c=>by cases c
 b:=λn f _=>hM n f
 cc:=λg h=>by
  have e:sm (used [] w) g.way=0:=Jc8 λq _=>by
   unfold used;rw[Jcw (by simp)];grind
  have:=hR g h;rw[e];grind
 d:=λx c=>by cases c
theorem RInv.round(h:RInv N w M gs lvs c)(hw:∀ n∈N,0<w n)(hs:∀ g∈gs, ∀ n∈g.way,n∈N)
  (hnd:ns.Nodup) (hL1:∀ n∈N,n∉lvs.map (·.1)->vl L<=M n) (hL2:∀ g∈gs,0<sm (left lvs w) g.way->vl L*sm (left lvs w) g.way<=g.R-sm (used lvs w) g.way)
  (hns:∀ n,n∈ns↔n∈N/\n∉lvs.map (·.1)/\(M n=vl L\/∃ g∈gs,n∈g.way/\0<sm (left lvs w) g.way/\vl L*sm (left lvs w) g.way=g.R-sm (used lvs w) g.way)) (hc:c<=vl L) :
  RInv N w M gs (lvs++ns.map λn=>(n,L)) (vl L):=by
 have o:∀ n∈ns,n∉lvs.map (·.1):=λn i=>((hns n).mp i).2.1;have C:∀ n∈ns,n∈N:=λn i=>((hns n).mp i).1;have t:∀ l:List Str,sm (used (lvs++ns.map λn=>(n,L)) w) l=sm (used lvs w) l+vl L*sm (dlt w ns) l:=λl=>by
  rw[<- JeA];show JbH λq _=>JfO o q
 have D:∀ l:List Str,sm (left (lvs++ns.map λn=>(n,L)) w) l=sm (left lvs w) l+(-1)*sm (dlt w ns) l:=λl=>by
  rw[<- JeA];show JbH λq _=>Jff o q
 have v:=λ(g:Gp)(f:g∈gs)=>sm_nn (Jec (lvs:=lvs) hw (hs g f));have s:∀ g∈gs, ¬ 0<sm (left lvs w) g.way->sm (left lvs w) g.way=0/\∀ q∈g.way,q∈lvs.map (·.1):=λg f z=>by
  have H:sm (left lvs w) g.way=0:=by have:=v g f;grind
  show(H,λq b=>Classical.byContradiction λy=>z ?_);show JmO (Jec hw (hs g f)) b ?_;unfold left;rw[if_neg y];show hw q (hs g f q b)
 have key:∀ g∈gs,vl L*sm (left lvs w) g.way<=g.R-sm (used lvs w) g.way:=λg f=>by
  by_cases p:0<sm (left lvs w) g.way
  .show hL2 g f p
  .have:=h.cc g f;rw[(s g f p).1]at this ⊢;grind
 show(?_,?_,?_,?_,?_,?_,?_)
 .rw[Jbl];show nodup_append.mpr ⟨h.nd,hnd,λx j y G z=>o y G (z ▸ j)⟩
 .intro n i;rw[Jbl]at i;rcases mem_append.mp i with i | i
  .show h.sub n i
  .show C n i
 .show Rat.le_trans h.c0 hc
 .intro x j;rcases mem_append.mp j with j | j
  .have:=h.a x j;show(this.1,Rat.le_trans this.2.1 hc,this.2.2)
  .let(n,i,rfl):=mem_map.mp j;show(Rat.le_trans h.c0 hc,Rat.le_refl,hL1 n (C n i) (o n i))
 .intro n i k;rw[Jbl]at k;show hL1 n i λz=>k (mem_append.mpr (.inl z))
 .intro g f;rw[t,D];have:=key g f;grind
 .intro x j;rcases mem_append.mp j with j | j
  .rcases h.d x j with e | ⟨g,f,A,r,B,h4⟩
   .show .inl e
   .show .inr ⟨g,f,A,λq b=>?_,?_,λq b=>?_⟩
    .rw[Jbl];show mem_append.mpr (.inl (r q b))
    .rw[t,Jc8 (a:=dlt w ns) λq b=>if_neg λz=>o q z (r q b)];grind
    .rw[Jfg (r q b)];show h4 q b
  .let(n,i,rfl):=mem_map.mp j;obtain⟨E,F,e | ⟨g,f,A,r,B⟩⟩:=(hns n).mp i
   .show .inl e.symm
   .have m:∀ q∈g.way,q∉lvs.map (·.1)->q∈ns:=λq b u=>(hns q).mpr ⟨hs g f q b,u, .inr ⟨g,f,b,r,B⟩⟩;show .inr ⟨g,f,A,λq b=>?_,?_,λq b=>?_⟩
    .rw[Jbl];by_cases y:q∈lvs.map (·.1)
     .show mem_append.mpr (.inl y)
     .show mem_append.mpr (.inr (m q b y))
    .have e:sm (dlt w ns) g.way=sm (left lvs w) g.way:=JbH λq b=>by
      unfold dlt left;by_cases y:q∈lvs.map (·.1)
      .rw[if_neg λz=>o q z y,if_pos y]
      .rw[if_pos (m q b y),if_neg y]
     rw[t,e];grind
    .by_cases y:q∈lvs.map (·.1)
     .rw[Jfg y];let(x,j,rfl):=mem_map.mp y;rw[Jeg h.nd j];show Rat.le_trans (h.a x j).2.1 hc
     .rw[JgB y (m q b y)];show Rat.le_refl
theorem RInv.le(h:RInv N w M gs lvs c)(hL:(∃ n∈N,n∉lvs.map (·.1)/\M n=vl L)\/∃ g∈gs,0<sm (left lvs w) g.way/\vl L*sm (left lvs w) g.way=g.R-sm (used lvs w) g.way):c<=vl L:=by
 rcases hL with⟨n,hn,hS,e⟩ | ⟨g,hg,p,e⟩
 .rw[<- e];show h.b n hn hS
 .have:=h.cc g hg;rw[<- e]at this;show(scaled p).mp this
theorem RInv.fair(h:RInv N w M gs lvs c)(hw:∀ n∈N,0<w n)(hs:∀ g∈gs, ∀ n∈g.way,n∈N)(hall:∀ n∈N,n∈lvs.map (·.1)):Fair N w M gs (lvv lvs):=by
 have f:∀ n∈N, ∃ x∈lvs,x.1=n/\lvv lvs n=vl x.2:=λn i=>by
  let(x,b,e):=mem_map.mp (hall n i);have e:x.1=n:=e;show(x,b,e,by rw[<- e];show Jeg h.nd b)
 show(λn i=>?_,λn i=>?_,λg k=>?_,λn i=>?_)
 .let(x,b,_,e):=f n i;rw[e];show(h.a x b).1
 .let(x,b,j,e):=f n i;rw[e, <- j];show(h.a x b).2.2
 .have:=h.cc g k;rw[Jc8 (a:=left lvs w) λq l=>if_pos (hall q (hs g k q l))]at this;show sm (used lvs w) g.way<=_;grind
 .let(x,b,j,e):=f n i;rcases h.d x b with q | ⟨g,k,h1,_,h3,h4⟩
  .show .inl (by rw[e,q,j])
  .show .inr ⟨g,k,j ▸ h1,?_,λq l=>?_⟩
   .show sm (used lvs w) g.way=_;grind
   .rw[e];show h4 q l
end
def Dv(D:Int)(r:Rat):Prop:=∃ k:Int,r*(D:Rat)=(k:Rat)
section
variable{E:Int}{D:Int}{r s:Rat}
theorem Dv.int(k:Int):Dv D (k:Rat):=⟨k*D,by push_cast;rfl⟩
theorem Dv.add(h:Dv D r)(k:Dv D s):Dv D (r+s):=by
 let(a,d):=h;let(b,c):=k;show(a+b,by push_cast;grind)
theorem Dv.sub(h:Dv D r)(k:Dv D s):Dv D (r-s):=by
 let(a,d):=h;let(b,c):=k;show(a-b,by push_cast;grind)
theorem Dv.mul(h:Dv D r)(k:Int):Dv D (r*(k:Rat)):=by
 let(a,b):=h;show(a*k,by push_cast;grind)
theorem Dv.more(h:Dv D r)(k:Int):Dv (D*k) r:=by
 let(a,b):=h;show(a*k,by push_cast;grind)
theorem Dv.over{k:Int}(hk:1<=k)(h:Dv D (r*(k:Rat))):Dv (D*k) r:=by
 let(a,b):=h;show(a,by push_cast;grind)
theorem Dv.den{t:Int × Int}(h:Dv D (vl t))(ht:1<=t.2)(hg:Mth.g t.1 t.2=1):t.2∣D:=by
 let(a,f):=h;have c:=JaF ht;have e:(t.1:Rat)*D=a*t.2:=by
  unfold vl at f;have : (t.1:Rat)=(t.1:Rat)/t.2*t.2:=by rw[Rat.div_mul_cancel c]
  rw[this];grind
 have e:t.1*D=a*t.2:=by exact_mod_cast e
 show Mth.Jdv (a:=t.1) (b:=t.2) (d:=D) (Mth.Jcu hg) ⟨a,?_⟩;rw[e,Int.mul_comm]
theorem Dv.fb{t:Int × Int}{m n:Nat}{Q:Int}(h:Dv D (vl t))(ht:1<=t.2)(hg:Mth.g t.1 t.2=1)(hD:1<=D)(sD:Mth.Sz n D)(h0:0<=vl t)(h1:vl t<=(Q:Rat))(sQ:Mth.Sz m Q):FB (m+n) n t:=by
 have i:=h.den ht hg;have j:t.2<=D:=Int.le_of_dvd ∅ i;have d:Mth.Sz n t.2:=Nat.lt_of_le_of_lt (by ac_nf:t.2.natAbs<=D.natAbs) sD;have f:=JaF ht;have a:(0:Rat)<(t.2:Rat):=by exact_mod_cast (show 0<t.2 by ac_nf)
 have e:(t.1:Rat)=vl t*t.2:=by unfold vl;rw[Rat.div_mul_cancel f]
 have c:(0:Rat)<=(t.1:Rat):=by rw[e];show Rat.mul_nonneg h0 (Rat.le_of_lt a)
 have b:(t.1:Rat)<=(Q:Rat)*t.2:=by rw[e];show Rat.mul_le_mul_of_nonneg_right h1 (Rat.le_of_lt a)
 have c:0<=t.1:=by exact_mod_cast c
 have b:t.1<=Q*t.2:=by exact_mod_cast b
 show(Nat.lt_of_le_of_lt (?_:t.1.natAbs<=(Q*t.2).natAbs) (sQ.mul d),d,ht,hg);ac_nf
end
theorem Jk9(rel:KV kvs vs):vs.map (·.1)=kvs.map (·.1):=by
 unfold KV at rel;induction rel with
 | nil=>rfl
 | cons h1 _ ih=>rw[map_cons,map_cons,ih,h1.1]
theorem Jk7{w:World}{v:Value}(h:(Jau P w).is (Sum.inr z) v=true):∃ t,v=.str z t:=by
 rcases JaR (show keyIs (Sum.inr z) v=true from h)with⟨b,hb,_⟩ | ⟨y,t,hy,rfl⟩
 .cases hb
 .cases hy;show(t,rfl)
def Itk(d:Addr)(od:Obj)(kvs:List (Key × V))(ss:List Str):It :=
 ⟨λi H=>H d=some (.frz od (.dK kvs))/\i<ss.length,λi H x H'=>H'=H/\(ss.map V.str)[i]?=some x,λi H=>H d=some (.frz od (.dK kvs))/\ss.length<=i⟩
variable{ss:List Str}
theorem Jjm{w:World}{K:W.Frag}(rel:KV kvs vs)(hk:kvs.map (·.1)=ss.map Sum.inr)(hd:∀ h:Heap,h.get? d=some od->h.DictAt (Jau P w) d vs ep) :
  Turn P w K tg (Itk d od kvs ss) [it] it (λi h=>h.IsKeyIter it d i vs.length ep) where
 mem:=by simp
 obj:=λi h a b j=>by
  obtain rfl:b=it:=by simpa using j
  let(o,e,c,z):=a;show(o,e,λv q=>by rw[z]at q;cases q)
 keep:=λi h y a k=>a.at λo e=>k it (by simp) o e
 item:=by
  intro X A C D O i f s σ H E I x a N;subst A C D;let(l,G):=N;let(L,B,U,J,F,M):=x it (by simp);have g:=(I.hok d _ l).1;have R:=rel.length;have Q:kvs.length=ss.length:=by simpa using congrArg List.length hk
  obtain⟨⟨k,Y⟩,n⟩:∃ p,vs[i]?=some p:=⟨_,List.getElem?_eq_getElem (show i<vs.length by ac_nf)⟩;have u:(vs.map (·.1))[i]?=some k:=by rw[List.getElem?_map,n];rfl
  rw[Jk9 rel,hk,List.getElem?_map,List.getElem?_eq_getElem G]at u;have u:Sum.inr ss[i]=k:=Option.some.inj u;subst u;show wpAny_pyNext_dict_item a (hd _ g) n λkey y m r T=>?_;let(t,rfl):=Jk7 m;have I1:Inv X f σ H { s with heap:=y }:=I.turned (t':=s.toks) (λb o j e=>(T.2 b j).trans e) L B J F M;let(o,e,c,z):=id r;show(_,rfl,go_of (s:={ s with heap:=y }) e c z ⋯ ⟨.str ss[i],H,I1,⟨t,rfl⟩,⟨rfl,by rw[List.getElem?_map,List.getElem?_eq_getElem G];rfl⟩,r,λb j=>(x b j).1⟩)
 done:=by
  intro X A C D O i f s σ H E I x a N;subst A C D;let(l,G):=N;let(L,B,U,J,F,M):=x it (by simp);have g:=(I.hok d _ l).1;have R:=rel.length;have Q:kvs.length=ss.length:=by simpa using congrArg List.length hk
  show wpAny_pyNext_dict_end (I.ok.hd O) a (hd _ g) (List.getElem?_eq_none ∅) λy S=>⟨rfl,I.turned (t':=s.toks) (λb o j e=>S b o j e) L B J F M⟩
 self:=λ_ _ _ _ _ a h=>wpAny_pyIter_keyiter a h
def iKeys(td:TE):TI:=λσ H R=>td σ H λx H1=>∃(d:Addr)(kvs:List (Key × V))(ss:List Str),x=.ref d/\H1 d=some (.dK kvs)/\kvs.map (·.1)=ss.map Sum.inr/\∀ od,R (Itk d od kvs ss) (upd H1 d (.frz od (.dK kvs)))
variable{o:Expr}
theorem JiS{td:TE}(ho:PE X o td):PI X tg o (iKeys td):=by
 intro a s σ H R I h;show thn (ho a s σ H _ I h) λv g ζ=>?_;let(y,C,I1,l,d,kvs,B,p,e,u,r):=ζ;subst p;obtain rfl:v=Value.ref d:=l;let(A,m,vs,i,t):=dk_of I1.hok e;let(ep,k):=t.dictAt;let(j,n,c,rest):=id k;show wpAny_pyIter_dict (knd:=Jau X.prog X.w) (d:=d) (kvs:=vs) (ep:=ep) m k ?_;have x:∀ b o,g.heap.get? b=some o->(g.heap.push { cls:=.type "dict_keyiterator",data:=.fields #[.ref d, .int 0 0, .int vs.length 0, .int ep 0] }).get? b=some o:=λb o z=>Heap.get?_push_of_some _ z;have I2:=(I1.freeze e c).kept (t':=g.toks) x;show(_,[_],_,_,_,rfl,I2,Jjm (vs:=vs) (ep:=ep) i u (λh q=>⟨j,n,q,rest⟩),⟨_,Heap.get?_push_size _ rfl,rfl,rfl⟩,λb f=>?_,r j);obtain rfl:=mem_singleton.mp f;show I1.fpOk (Nat.le_refl _) ((I1.freeze e c).hok.fresh (Nat.le_refl _))
def JkG(ts:TS):TS:=λD σ H=>∃ d kvs,H d=some (.dK kvs)/\ts { nx:=λσ' H'=>∃ od kvs',H' d=some (.frz od (.dK kvs'))/\D.nx σ' (upd H' d (.dK kvs')),rt:=λ_ _=>False } σ H
theorem Inv.thawS{σ σ':List (Option V)}{s s':Shared}{kvs':List (Key × V)}(I:Inv X pins σ H s)(e:H d=some (.dK kvs))(I':Inv X pins σ' H' s')(e':H' d=some (.frz od (.dK kvs'))):Inv X pins σ' (upd H' d (.dK kvs')) s':=by
 have m:∀{b:Addr}{o:HO},H' b=some o->(∀ u v,o≠.frz u v)->b≠d:=λq h z=>by rw[z,e']at q;cases q;show h _ _ rfl
 show(I'.ok,I'.os,I'.bare,⟨I'.base.keep,I'.base.slot,λb o q n t=>?_,I'.base.there,λb l q=>?_,λb o u q=>?_,λb A q=>?_⟩,I'.loc,I'.cell,?_,λx c z=>?_,λp B=>?_,λa o q=>?_,I'.len)
 .have:=I'.base.free b o q n t;rw[Jag (λz=>by rw[z,e']at this;cases this)];show this
 .have:=I'.base.tups b l q;rw[Jag (m this (by intro u v z;cases z))];show this
 .have f:=I'.base.frzs b o u q;have g:=I.base.frzs b o u q;rw[Jag (λz=>by rw[z,e]at g;cases g)];show f
 .let(j,f):=I'.base.tbls b A q;show(j,by rw[Jag (m f (by intro u v z;cases z))];show f)
 .have:=I'.free;rw[Jag (λz=>by rw[z,e']at this;cases this)];show this
 .have:=I'.freeC x c z;rw[Jag (λz=>by rw[z,e']at this;cases this)];show this
 .let(f,g,y):=I'.pin p B;show(f,by rw[Jag (λz=>by rw[z,e']at g;cases g)];show g,y)
 .have k:∀ r b,H' b=some (.own r)->upd H' d (.dK kvs') b=some (.own r):=λr b q=>by
   rw[Jag (m q (by intro u v z;cases z))];show q
  have i:∀ b l,H' b=some (.tup l)->upd H' d (.dK kvs') b=some (.tup l):=λb l q=>by
   rw[Jag (m q (by intro u v z;cases z))];show q
  by_cases c:a=d
  .subst c;rw[Jaj]at q;cases q;have f:ObjOk X.prog X.w H' s'.heap a (.dK kvs'):=(I'.hok a _ e').2;show f.stay (λ_ _ _ z=>z) (k a) i
  .rw[Jag c]at q;show(I'.hok a o q).stay (λ_ _ _ z=>z) (k a) i
variable{st:Stmt}
theorem JlE(h:PS X st ts):PS X st (JkG ts):=by
 intro b s σ H D I ⟨d,g,j,q⟩;show wpAny_mono (h b s σ H _ I q) (λf k z=>?_) λ_ _ z=>z;cases f with
 | next=>
  let(σ',c,I1,l,e,i,a):=z;show(σ',_,I.thawS j I1 i,a)
 | brk=>let(σ',c,I1,a):=z;show a.elim
 | cont=>let(σ',c,I1,a):=z;show a.elim
 | ret v=>let(y,σ',c,I1,r,a):=z;show a.elim
theorem ps_no:PS X st (λ_ _ _=>False):=λ_ _ _ _ _ _ h=>h.elim
def tSumV(td:TE):TE:=λσ H Q=>td σ H λx H1=>∃(d:Addr)(kvs:List (Key × V))(ns:List Int),x=.ref d/\H1 d=some (.dK kvs)/\kvs.map (·.2)=ns.map V.int/\Q (.int ns.sum) H1
theorem JiW(ns:List Int):∀ k,k<=ns.length->preSum (λi=>ns.getD i 0) k=(ns.take k).sum
 | 0,_=>by simp[preSum]
 | k+1,h=>by
  rw[take_sum_succ ns k ∅, <- JiW ns k ∅];rfl
theorem Jlz{td:TE}{p1:Pos}(hc:X.calm=true)(hx:x="sum")(hg:Gl X x)(hm:X.mg x=none)(hv:bootBuiltins x=some (.builtin "sum"))(ho:PE X o td)
  (hb:autoParam (attributeBase o "values" X.env (eval o X.env)=eval o X.env) Au) (hn:autoParam ((apos.endLine == cpos.line)=true) Au) :
  PE X (.Call (.Name x p1) [.Call (.Attribute o "values" apos) [] [] cpos] [] pos) (tSumV td):=by
 intro c s σ H Q I h;have K:x≠"__name__":=by rw[hx];decide
 have L:(x == ("__debug__" : Str))=false:=by rw[hx];decide
 show wpAny_Call_Name_kw (Jea I hg hm hv ?_ K L);show PyProof.Rows.callWith_builtin1 ?_ rfl rfl;show wpAny _ _ (spliced ((false,eval (.Call (.Attribute o "values" apos) [] [] cpos) X.env)::backTo pos (starEach [] X.env))) _ _ s;show Calls.spliced_cons ?_;show wpAny_Call_method0_late hb hn (thn (ho c s σ H _ I h) λv n ζ=>?_);let(y,U,I1,E,d,kvs,a,M,e,g,O):=ζ;subst M;obtain rfl:v=Value.ref d:=E;let(t,N,G):=Jf2 I1 (.inl ⟨kvs, .inl e⟩);let(V,_,f,m,B):=dk_of I1.hok e;show("dict","dict.values",PySem.F.plainAttrs_dict,PySem.F.slot_dict_values,PySem.F.type_dict_values,t,N,Calls.callWith_builtin rfl (PySem.evalArgs_none ?_));show call_meetsIn PySem.F.slot_dict_values t PySem.F.entry_dict_values (PySem.F.args_dict_values_1 _) (meets_dict_values (Jau X.prog X.w) d G) ⟨⟨f,B⟩,?_⟩;show Calls.spliced_nil ?_;let(ep,q):=B.dictAt;have D:X.A.in1.handled=none:=by have:=I.ok.hd hc;simp[this]
 have r:d<n.heap.objs.size:=q.lt_size;have p:(n.heap.push { cls:=.type "dict_values",data:=.fields #[.ref d] }).objs.size=n.heap.objs.size+1:=Heap.size_push ..;show call_sum_walkG (wpAny_pyIter_values (knd:=Jau X.prog X.w) (v:=n.heap.objs.size) (d:=d) (kvs:=f) (ep:=ep) ⟨_,Heap.get?_push_size _ rfl,rfl,rfl⟩ (q.push _) ?_);have Y:=m.length;have Z:a.length=kvs.length:=by simpa using(congrArg List.length g).symm
 show(_,_,_,_,_,_,λi=>a.getD i 0,rfl,Walks.dictValues (knd:=Jau X.prog X.w) D _ d (by rw[p];show Nat.ne_of_lt (Nat.lt_succ_of_lt r)) f ep,⟨⟨_,Heap.get?_push_size _ rfl,rfl,rfl⟩,(q.push _).push _⟩,λb j=>?_,λi u P=>?_,λh' R t' k=>?_)
 .simp only[mem_cons,not_mem_nil,or_false]at j;show b<(Heap.push _ _).objs.size;rw[Heap.size_push];rcases j with rfl | rfl
  .show Nat.lt_succ_self _
  .rw[p];show Nat.lt_succ_of_lt (Nat.lt_succ_of_lt r)
 .let(kk,C):=P;have J:=Jjq m;have T:(f.map (·.2))[i]?=some u:=by rw[List.getElem?_map,C];rfl
  have li:i<kvs.length:=by
   have:=(List.getElem?_eq_some_iff.mp C).1;ac_nf
  let(W,l,S):=J.get (i:=i) (x:=.int (a.getD i 0)) (by rw[g,List.getElem?_map,List.getElem?_eq_getElem (show i<a.length by ac_nf)];simp[List.getD_eq_getElem?_getD,List.getElem?_eq_getElem (show i<a.length by ac_nf)]);rw[T]at l;cases l;show S
 .rw[show f.length=a.length by ac_nf,JiW a _ (Nat.le_refl _),take_of_length_le (Nat.le_refl _)];show(.int _,U,I1.kept (t':=R) (λb o z=>k b o (by simp only[mem_cons,not_mem_nil,or_false];have:=Heap.lt_size z;rw[p];show Nat.ne_of_lt (Nat.lt_succ_of_lt this)) (Heap.get?_push_of_some _ (Heap.get?_push_of_some _ z))),⟨_,rfl⟩,O)
section
variable{tl:TE}{Q:VK}{k:Nat}{g:TG}{td:TE}
theorem y8ey:tSumV td σ H Q=td σ H λx H1=>∃(d:Addr)(kvs:List (Key × V))(ns:List Int),x=.ref d/\H1 d=some (.dK kvs)/\kvs.map (·.2)=ns.map V.int/\Q (.int ns.sum) H1:=rfl
theorem y38y:Jgk k cs (iKeys td) g tt te σ H Q=td σ H λx H1=>∃(d1:Addr)(kvs1:List (Key × V))(ss:List Str),x=.ref d1/\H1 d1=some (.dK kvs1)/\kvs1.map (·.1)=ss.map Sum.inr/\∀ od,JcK (Itk d1 od kvs1 ss) k cs g tt te σ Q (upd H1 d1 (.frz od (.dK kvs1))):=rfl
theorem y3ay:tThaw (Jgk k cs (iKeys td) g tt te) σ H Q=∃ d kvs,H d=some (.dK kvs)/\td σ H λx H1=>∃(d1:Addr)(kvs1:List (Key × V))(ss:List Str),x=.ref d1/\H1 d1=some (.dK kvs1)/\kvs1.map (·.1)=ss.map Sum.inr/\∀ od,JcK (Itk d1 od kvs1 ss) k cs g tt te σ (λv H'=>∃ od kvs',H' d=some (.frz od (.dK kvs'))/\Q v (upd H' d (.dK kvs'))) (upd H1 d1 (.frz od (.dK kvs1))):=rfl
theorem JcK.keys(Pv:Nat->List V->Hp->Prop)(h0:Pv 0 [] H1)(hl:∀ i ys H',i<=ss.length->Pv i ys H'->H' d=some (.frz od (.dK kvs))/\ys.length<=sizeLine)
  (hs:∀ i z ys H2,ss[i]?=some z->Pv i ys H2->g (.str z) (List.replicate k none++Jaz cs σ) H2 λσ4 H4=>tt σ4 H4 λb H5=>if b=true then te σ4 H5 λy H6=>Pv (i+1) (ys++[y]) H6 else Pv (i+1) ys H5) (hd:∀ ys H2,Pv ss.length ys H2->∀ p,H2 p=none->Q (.ref p) (upd H2 p (.lst ys))) :
  JcK (Itk d od kvs ss) k cs g tt te σ Q H1:=by
 show(λi m ys H'=>Pv i ys H'/\i<=ss.length/\m=ss.length-i,⟨_,h0,Nat.zero_le _,rfl⟩,?_);rintro i m ys H2 ⟨h,s,rfl⟩;let(l,n):=hl i ys H2 s h;show(n,?_);by_cases c:i<ss.length
 .show .inr ⟨⟨l,c⟩,?_⟩;rintro x u ⟨rfl,j⟩;rw[List.getElem?_map]at j;let(z,o,rfl):=Option.map_eq_some_iff.mp j;have w:∀(f:List V)(H5:Hp),Pv (i+1) f H5=∃ m',m'<ss.length-i/\Pv (i+1) f H5/\i+1<=ss.length/\m'=ss.length-(i+1):=λf H5=>
   propext ⟨λq=>⟨_,Nat.sub_lt_sub_left c (Nat.lt_succ_self i),q,c,rfl⟩,λζ=>by let(_,_,q,_):=ζ;show q⟩
  have r:(λ(y:V)(H6:Hp)=>Pv (i+1) (ys++[y]) H6)=λy H6=>∃ m',m'<ss.length-i/\Pv (i+1) (ys++[y]) H6/\i+1<=ss.length/\m'=ss.length-(i+1):=by
   funext y H6
   show w _ _
  have e:(λ(σ4:St)(H4:Hp)=>tt σ4 H4 λb H5=>if b=true then te σ4 H5 λy H6=>Pv (i+1) (ys++[y]) H6 else Pv (i+1) ys H5)=λσ4 H4=>tt σ4 H4 λb H5=>if b=true then te σ4 H5 λy H6=>∃ m',m'<ss.length-i/\Pv (i+1) (ys++[y]) H6/\i+1<=ss.length/\m'=ss.length-(i+1)else∃ m',m'<ss.length-i/\Pv (i+1) ys H5/\i+1<=ss.length/\m'=ss.length-(i+1):=by
   funext σ4 H4
   congr 1
   funext b H5
   by_cases a:b=true
   .rw[if_pos a,if_pos a, <- r]
   .rw[if_neg a,if_neg a];show w ys H5
  have:=hs i z ys _ o h;rw[e]at this;show this
 .have t:i=ss.length:=by ac_nf
  subst t;show .inl ⟨⟨l,Nat.le_refl _⟩,hd ys H2 h⟩
theorem y91y:JkG ts En σ H=∃ d kvs,H d=some (.dK kvs)/\ts { nx:=λσ' H'=>∃ od kvs',H' d=some (.frz od (.dK kvs'))/\En.nx σ' (upd H' d (.dK kvs')),rt:=λ_ _=>False } σ H:=rfl
theorem DGet.f{a:Addr}{k:Key}(e:H a=some (.frz od (.dK kvs))):DGet H a (kV k) (valV kvs k):=.inl ⟨kvs,k, .inr ⟨od,e⟩,rfl,rfl⟩
end
def mulF(a c:Int × Int):Int × Int:=(Mth.top (a.1*c.1) (a.2*c.2),Mth.bot (a.1*c.1) (a.2*c.2))
def divF(a c:Int × Int):Int × Int:=(Mth.top (a.1*c.2) (a.2*c.1),Mth.bot (a.1*c.2) (a.2*c.1))
def subF(a c:Int × Int):Int × Int:=(Mth.top (a.1*c.2-c.1*a.2) (a.2*c.2),Mth.bot (a.1*c.2-c.1*a.2) (a.2*c.2))
structure Lo(a:Int × Int):Prop where
 b1:1<=a.2
 g1:Mth.g a.1 a.2=1
variable{a:Int × Int}
theorem FB.lo(h:FB A B a):Lo a:=⟨h.b1,h.g1⟩
variable{c:Int × Int}
theorem Lo.inj(h:Lo a)(k:Lo c)(e:vl a=vl c):a=c:=JkK h.b1 k.b1 h.g1 k.g1 e
theorem JiB{t b:Int}(hb:1<=b):Lo (Mth.top t b,Mth.bot t b):=⟨Mth.Jc3 ∅,Mth.g_low ∅⟩
theorem Jcp{x y:Int}(hx:1<=x)(hy:1<=y):1<=x*y:=by
 have:=Int.mul_pos (show 0<x by ac_nf) (show 0<y by ac_nf);ac_nf
theorem JkL(ha:1<=a.2)(hc:1<=c.2):vl (mulF a c)=vl a*vl c:=by
 unfold mulF;rw[Je4 (Jcp ha hc)];have b:=JaF ha;have d:=JaF hc;unfold vl;push_cast;generalize(a.1:Rat)=x at *;generalize(a.2:Rat)=y at *;generalize(c.1:Rat)=z at *;generalize(c.2:Rat)=t at *;grind
theorem JkJ(ha:1<=a.2)(hc:1<=c.1)(hd:1<=c.2):vl (divF a c)=vl a/vl c:=by
 unfold divF;rw[Je4 (Jcp ha hc)];have b:=JaF ha;have d:=JaF hc;have e:=JaF hd;unfold vl;push_cast;generalize(a.1:Rat)=x at *;generalize(a.2:Rat)=y at *;generalize(c.1:Rat)=z at *;generalize(c.2:Rat)=t at *;grind
theorem JmV(ha:1<=a.2)(hc:1<=c.2):vl (subF a c)=vl a-vl c:=by
 unfold subF;rw[Je4 (Jcp ha hc)];have b:=JaF ha;have d:=JaF hc;unfold vl;push_cast;generalize(a.1:Rat)=x at *;generalize(a.2:Rat)=y at *;generalize(c.1:Rat)=z at *;generalize(c.2:Rat)=t at *;grind
theorem Jfh(ha:1<=a.2)(hc:1<=c.2):Lo (mulF a c):=JiB (Jcp ha hc)
theorem JkZ(ha:1<=a.2)(hc:1<=c.1):Lo (divF a c):=JiB (Jcp ha hc)
theorem JlS(ha:1<=a.2)(hc:1<=c.2):Lo (subF a c):=JiB (Jcp ha hc)
theorem Jgo(k:Int):vl (k,1)=(k:Rat):=by
 unfold vl;have : ((1:Int):Rat)=1:=rfl;grind
theorem Jg6:vl (0,1)=0:=Jgo 0
structure LidD where
 nm:Str
 rest:Int × Int
 ws:List (Str × Int)
 load:Int
 last:Int × Int
def wtOf(ws:List (Str × Int))(n:Str):Option Int:=(ws.find? λx=>decide (x.1=n)).map (·.2)
def LidD.settle(e:LidD)(n:Str)(L:Int × Int):LidD:=match wtOf e.ws n with
 | none=>e
 | some k=>{ e with rest:=subF e.rest (mulF L (k,1)),load:=e.load-k,last:=L }
variable{ws:List (Str × Int)}
theorem Jg7:wtOf ws n=none↔n∉ws.map (·.1):=by
 unfold wtOf;rw[Option.map_eq_none_iff,List.find?_eq_none];constructor
 .intro h z;let(x,a,e):=mem_map.mp z;have:=h x a;simp[e]at this
 .intro h x a;have : x.1≠n:=λz=>h (mem_map.mpr ⟨x,a,z⟩);simpa using this
theorem Jjw{k:Int}(h:wtOf ws n=some k):(n,k)∈ws:=by
 unfold wtOf at h;let(x,b,e):=Option.map_eq_some_iff.mp h;have d:=List.mem_of_find?_eq_some b;have c:=List.find?_some b;have a:x.1=n:=by simpa using c
 let(y,z):=x;have e:z=k:=e;have a:y=n:=a;subst e;subst a;show d
structure LidOk(w:Str->Rat)(g:Gp)(lvs:List (Str × (Int × Int)))(e:LidD):Prop where
 pm:(e.ws.map (·.1)).Perm g.way
 nd:(e.ws.map (·.1)).Nodup
 wt:∀ x∈e.ws,w x.1=(x.2:Rat)/\1<=x.2
 rest:vl e.rest=g.R-sm (used lvs w) g.way
 load:(e.load:Rat)=sm (left lvs w) g.way
 low:Lo e.rest
 llow:Lo e.last
 l1:∀ n∈g.way,n∈lvs.map (·.1)->lvv lvs n<=vl e.last
 l2:(∃ n∈g.way,n∈lvs.map (·.1))->∃ n∈g.way,n∈lvs.map (·.1)/\lvv lvs n=vl e.last
theorem Jkz{w:Str->Rat}{m:Str}:∀{l:List Str},l.Nodup->sm (dlt w [m]) l=if m∈l then w m else 0
 | [],_=>by simp[sm]
 | n::l,h=>by
  rw[nodup_cons]at h;simp only[sm,Jkz h.2];unfold dlt;by_cases c:n=m
  .subst c;rw[if_neg h.1];simp;grind
  .have c':m≠n:=λz=>c z.symm;simp only[mem_singleton,mem_cons,c,c',false_or,if_false];grind
section
variable{lvs:List (Str × (Int × Int))}{e:LidD}{L:Int × Int}{w:Str->Rat}{g:Gp}{m:Str}
theorem LidOk.settle(h:LidOk w g lvs e)(hnd:(lvs.map (·.1)).Nodup)(hm:m∉lvs.map (·.1))(hL:Lo L)(hle:∀ x∈lvs,vl x.2<=vl L):LidOk w g (lvs++[(m,L)]) (e.settle m L):=by
 have B:∀ n∈[m],n∉lvs.map (·.1):=λn d=>by rw[mem_singleton.mp d];show hm
 have t:g.way.Nodup:=h.pm.nodup_iff.mp h.nd;have o:sm (used (lvs++[(m,L)]) w) g.way=sm (used lvs w) g.way+vl L*sm (dlt w [m]) g.way:=by
  rw[<- JeA];show JbH λq _=>JfO (ns:=[m]) B q
 have l:sm (left (lvs++[(m,L)]) w) g.way=sm (left lvs w) g.way+(-1)*sm (dlt w [m]) g.way:=by
  rw[<- JeA];show JbH λq _=>Jff (ns:=[m]) B q
 have f:(lvs++[(m,L)]).map (·.1)=lvs.map (·.1)++[m]:=Jbl (ns:=[m]);have j:∀ n∈lvs.map (·.1),lvv (lvs++[(m,L)]) n=lvv lvs n:=λn d=>Jfg (ns:=[m]) d;have p:lvv (lvs++[(m,L)]) m=vl L:=JgB (ns:=[m]) hm (by simp);rw[Jkz t]at o l;unfold LidD.settle;cases hw:wtOf e.ws m with
 | none=>
  have r:m∉g.way:=λz=>(Jg7.mp hw) (h.pm.mem_iff.mpr z);rw[if_neg r]at o l;show(h.pm,h.nd,h.wt,?_,?_,h.low,h.llow,λn d b=>?_,λ⟨n,d,b⟩=>?_)
  .rw[o,h.rest];grind
  .rw[l,h.load];grind
  .rw[f]at b;rcases mem_append.mp b with b | b
   .rw[j n b];show h.l1 n d b
   .rw[mem_singleton.mp b]at d;show absurd d r
  .rw[f]at b;rcases mem_append.mp b with b | b
   .let(q,E,u,C):=h.l2 ⟨n,d,b⟩;show(q,E,by rw[f];show mem_append.mpr (.inl u),by rw[j q u];show C)
   .rw[mem_singleton.mp b]at d;show absurd d r
 | some k=>
  have i:=Jjw hw;have y:m∈g.way:=h.pm.mem_iff.mp (mem_map.mpr ⟨_,i,rfl⟩);have D:=h.wt _ i;have s:w m=(k:Rat):=D.1;rw[if_pos y,s]at o l;have A:=Jfh (a:=L) (c:=(k,1)) hL.b1 (Int.le_refl 1);show(h.pm,h.nd,h.wt,?_,?_,JlS h.low.b1 A.b1,hL,λn d b=>?_,λ_=>⟨m,y,by rw[f];simp,p⟩)
  .show vl (subF e.rest (mulF L (k,1)))=_;rw[JmV h.low.b1 A.b1,JkL hL.b1 (Int.le_refl 1),Jgo,o,h.rest];grind
  .show((e.load-k:Int):Rat)=_;rw[l, <- h.load];push_cast;grind
  .rw[f]at b;rcases mem_append.mp b with b | b
   .rw[j n b];let(x,v,rfl):=mem_map.mp b;rw[Jeg hnd v];show hle x v
   .rw[mem_singleton.mp b,p];show Rat.le_refl
end
structure SInv(N:List Str)(w:Str->Rat)(gs:List Gp)(lvs:List (Str × (Int × Int)))(L:Int × Int):Prop where
 nd:(lvs.map (·.1)).Nodup
 sub:∀ n∈lvs.map (·.1),n∈N
 a:∀ x∈lvs,0<=vl x.2/\vl x.2<=vl L
 L0:0<=vl L
 cc:∀ g∈gs,vl L*sm (left lvs w) g.way<=g.R-sm (used lvs w) g.way
section
variable{N:List Str}{gs:List Gp}{lvs:List (Str × (Int × Int))}{L:Int × Int}{w:Str->Rat}{m:Str}
theorem SInv.step(h:SInv N w gs lvs L)(hg:∀ g∈gs,g.way.Nodup)(hm:m∈N)(hn:m∉lvs.map (·.1)):SInv N w gs (lvs++[(m,L)]) L:=by
 have f:∀ n∈[m],n∉lvs.map (·.1):=λn b=>by rw[mem_singleton.mp b];show hn
 have d:(lvs++[(m,L)]).map (·.1)=lvs.map (·.1)++[m]:=Jbl (ns:=[m]);show(?_,λn b=>?_,λx c=>?_,h.L0,λg e=>?_)
 .rw[d];show nodup_append.mpr ⟨h.nd,by simp,λx c y k z=>hn (by rw[mem_singleton.mp k]at z;rw[<- z];show c)⟩
 .rw[d]at b;rcases mem_append.mp b with q | q
  .show h.sub n q
  .rw[mem_singleton.mp q];show hm
 .rcases mem_append.mp c with c | c
  .show h.a x c
  .rw[mem_singleton.mp c];show(h.L0,Rat.le_refl)
 .have j:sm (used (lvs++[(m,L)]) w) g.way=sm (used lvs w) g.way+vl L*sm (dlt w [m]) g.way:=by
   rw[<- JeA];show JbH λq _=>JfO (ns:=[m]) f q
  have i:sm (left (lvs++[(m,L)]) w) g.way=sm (left lvs w) g.way+(-1)*sm (dlt w [m]) g.way:=by
   rw[<- JeA];show JbH λq _=>Jff (ns:=[m]) f q
  have:=h.cc g e;rw[j,i];grind
theorem SInv.range(h:SInv N w gs lvs L)(hw:∀ n∈N,0<w n)(hs:∀ g∈gs, ∀ n∈g.way,n∈N){g:Gp}(hg:g∈gs):0<=g.R-sm (used lvs w) g.way/\g.R-sm (used lvs w) g.way<=g.R:=by
 have j:=h.cc g hg;have d:=sm_nn (Jec (lvs:=lvs) hw (hs g hg));have f:=Rat.mul_nonneg h.L0 d;have i:0<=sm (used lvs w) g.way:=sm_nn λq e=>by
  unfold used;show Rat.mul_nonneg ?_ (Rat.le_of_lt (hw q (hs g hg q e)));by_cases c:q∈lvs.map (·.1)
  .let(x,b,rfl):=mem_map.mp c;rw[Jeg h.nd b];show(h.a x b).1
  .rw[Jcw c];show Rat.le_refl
 grind
end
theorem Dv.sm{D:Int}{a:Str->Rat}:∀{l:List Str},(∀ q∈l,Dv D (a q))->Dv D (L2.sm a l)
 | [],_=>Dv.int 0
 | n::l,h=>(h n (by simp)).add (Dv.sm (l:=l) λq hq=>h q (by simp[hq]))
variable{lvs:List (Str × (Int × Int))}
theorem Jip{D:Int}{b:Rat}{w:Str->Rat}{g:Gp}(hR:Dv D (g.R/b))(hw:∀ n∈g.way, ∃ k:Int,w n=(k:Rat))(hl:∀ x∈lvs,Dv D (vl x.2/b))(hnd:(lvs.map (·.1)).Nodup):Dv D ((g.R-sm (used lvs w) g.way)/b):=by
 have e:(g.R-sm (used lvs w) g.way)/b=g.R/b-sm (λn=>lvv lvs n/b*w n) g.way:=by
  have : sm (used lvs w) g.way/b=sm (λn=>lvv lvs n/b*w n) g.way:=by
   generalize g.way=l;induction l with
   | nil=>simp only[sm];grind
   | cons n l ih=>
    simp only[sm, <- ih];unfold used;grind
  rw[<- this];grind
 rw[e];show hR.sub (Dv.sm λq f=>?_);let(k,d):=hw q f;rw[d];show Dv.mul ?_ k;by_cases c:q∈lvs.map (·.1)
 .let(x,a,rfl):=mem_map.mp c;rw[Jeg hnd a];show hl x a
 .rw[Jcw c];have : (0:Rat)/b=((0:Int):Rat):=by
   show(0:Rat)/b=0;grind
  rw[this];show Dv.int 0
variable{b:Int}
theorem Dv.up{D:Int}{r:Rat}(hb:1<=b)(h:Dv D (r/(b:Rat))):Dv D r:=by
 have:=h.mul b
 rwa [Rat.div_mul_cancel (JaF hb)]at this
def wsK(ws:List (Str × Int)):List (Key × V):=ws.map λp=>(Sum.inr p.1, .int p.2)
theorem Jg4(n:Str):∀ ws:List (Str × Int),valV (wsK ws) (Sum.inr n)=(wtOf ws n).map V.int
 | []=>rfl
 | x::ws=>by
  have ih:=Jg4 n ws;unfold wsK wtOf at ih ⊢;rw[map_cons,List.find?_cons];by_cases c:x.1=n
  .rw[Jbg (by rw[c]),decide_eq_true c];rfl
  .rw[Jbm (λz=>c (by injection z)),decide_eq_false c];show ih
theorem Jkc(ws:List (Str × Int)):(wsK ws).map (·.1)=(ws.map (·.1)).map Sum.inr:=by
 unfold wsK;rw[map_map,map_map];rfl
theorem Jkd(ws:List (Str × Int)):(wsK ws).map (·.2)=(ws.map (·.2)).map V.int:=by
 unfold wsK;rw[map_map,map_map];rfl
theorem Jhn:∀(ps acc:List (Str × V)),((acc++ps).map (·.1)).Nodup->ps.foldl (λl p=>putK l (Sum.inr p.1) p.2) (acc.map λp=>((Sum.inr p.1:Key),p.2))=(acc++ps).map λp=>((Sum.inr p.1:Key),p.2)
 | [],acc,_=>by simp
 | p::ps,acc,h=>by
  have ea:acc++p::ps=(acc++[p])++ps:=by simp
  rw[List.foldl_cons];have nn:valV (acc.map λp=>((Sum.inr p.1:Key),p.2)) (Sum.inr p.1)=none:=by
   cases e:valV (acc.map λp=>((Sum.inr p.1:Key),p.2)) (Sum.inr p.1)with
   | none=>rfl
   | some v=>
    have:=Jiy.mp (show(valV (acc.map λp=>((Sum.inr p.1:Key),p.2)) (Sum.inr p.1)).isSome=true by rw[e];rfl);rw[map_map]at this;let(q,hq,eq):=mem_map.mp this;have eq:(Sum.inr q.1:Key)=Sum.inr p.1:=eq;have eq:q.1=p.1:=by injection eq
    rw[map_append,map_cons,nodup_append]at h;show absurd rfl (h.2.2 p.1 (mem_map.mpr ⟨q,hq,eq⟩) p.1 (by simp))
  rw[Jj0 p.2 nn];have : (acc.map λp=>((Sum.inr p.1:Key),p.2))++[(Sum.inr p.1,p.2)]=(acc++[p]).map λp=>((Sum.inr p.1:Key),p.2):=by simp
  rw[this,Jhn ps (acc++[p]) (by rw[<- ea];show h),ea]
theorem JiP{ps:List (Str × V)}(h:(ps.map (·.1)).Nodup):JdN ps=ps.map λp=>((Sum.inr p.1:Key),p.2):=by
 unfold JdN;show(Jhn ps [] (by simpa using h)).trans (by rw[nil_append])
structure LoInv(n:Int × Int)(q:Int)(t:Int × Int):Prop where
 lo:Lo t
 cr:t.1*(n.2*q)=n.1*t.2
 le1:t.1.natAbs<=n.1.natAbs
 le2:t.2.natAbs<=n.2.natAbs*q.natAbs
variable{n:Int × Int}
theorem LoInv.nil(h:Lo n):LoInv n 1 n:=⟨h,by rw[Int.mul_one],Nat.le_refl _,by simp⟩
theorem LoInv.step{t:Int × Int}{q f:Int}(h:LoInv n q t)(hf:1<=f):LoInv n (q*f) (t.1.fdiv (Mth.g t.1 f),t.2*f.fdiv (Mth.g t.1 f)):=by
 have w:0<Mth.g t.1 f:=Mth.g_pos ∅;have j:=Mth.JcJ t.1 f;have a:=Mth.JbN t.1 f;have k:=Mth.JaM j ∅;have p:=Mth.JaM a ∅;have o:=Mth.JcX (b:=t.1) (d:=f) rfl ∅;have v:=Mth.Jb9 a ∅ hf;have i:=Mth.Jd5 j ∅;have c:=Mth.Jd5 a ∅;have l:t.1.fdiv (Mth.g t.1 f)∣t.1:=⟨_,k.symm⟩;have m:Int.gcd (t.1.fdiv (Mth.g t.1 f)) t.2=1:=Mth.Jcg (Mth.Jcu h.lo.g1) l;have e:=h.cr;have u:=h.lo.b1;generalize t.1.fdiv (Mth.g t.1 f)=r at *;generalize f.fdiv (Mth.g t.1 f)=f' at *;generalize Mth.g t.1 f=s at *;show(⟨Jcp u v,Mth.JdW (Mth.Jb7 m o)⟩,?_,?_,?_)
 .show r*(n.2*(q*f))=n.1*(t.2*f');have : r*(n.2*(q*f))=(t.1*(n.2*q))*f':=by
   rw[<- k, <- p];simp only[Int.mul_assoc,Int.mul_comm,Int.mul_left_comm]
  rw[this,e,Int.mul_assoc]
 .show Nat.le_trans i h.le1
 .show(t.2*f').natAbs<=n.2.natAbs*(q*f).natAbs;rw[Int.natAbs_mul,Int.natAbs_mul, <- Nat.mul_assoc];show Nat.mul_le_mul h.le2 c
theorem LoInv.vl{t:Int × Int}{q:Int}(h:LoInv n q t)(hn:1<=n.2)(hq:1<=q):vl t=vl n/(q:Rat):=by
 have f:=JaF hn;have g:=JaF h.lo.b1;have i:=JaF hq;have e:(t.1:Rat)*((n.2:Rat)*(q:Rat))=(n.1:Rat)*(t.2:Rat):=by exact_mod_cast h.cr
 unfold L2.vl;generalize(t.1:Rat)=a at *;generalize(t.2:Rat)=b at *;generalize(n.1:Rat)=c at *;generalize(n.2:Rat)=d at *;generalize(q:Rat)=q at *;grind
def stF(ms:List (Str × (Int × Int)))(lds:List LidD)(S:List Str):List ((Int × Int) × List Str) :=
 (ms.filter λm=>decide (m.1∉S)).map (λm=>(m.2,[m.1]))++(lds.filter λe=>decide (0<e.load)).map λe=>(divF e.rest (e.load,1),(e.ws.map (·.1)).filter λn=>decide (n∉S))
def StV(K:W.Frag)(H:Hp)(s:(Int × Int) × List Str)(x:V):Prop:=∃ t v l,x=.ref t/\SqT K H t [v, .ref l]/\FrV K H v s.1.1 s.1.2/\H l=some (.lst (s.2.map V.str))
variable{x:V}
theorem StV.same{K:W.Frag}{s:(Int × Int) × List Str}(S:Same H H'):StV K H s x->StV K H' s x:=by rintro⟨t,v,l,d,a,b,c⟩;show(t,v,l,d,a.same S,b.same S,S _ _ c)
def NFV(K:W.Frag)(H:Hp)(a:Str × (Int × Int))(x:V):Prop:=FrV K H x a.2.1 a.2.2
theorem NFV.sameT{K:W.Frag}{a:Str × (Int × Int)}(S:SameT H H')(h:NFV K H a x):NFV K H' a x:=FrV.sameT S h
def thw(d:Addr)(kv:List (Key × V))(H:Hp):Hp:=upd H d (.dK kv)
section
variable{a:Addr}{kv kw:List (Key × V)}{k:Key}
theorem Jjj(h:H d=some (.dK kv)):thw d kv (upd H d (.frz od (.dK kv)))=H:=by
 funext b
 unfold thw;by_cases c:b=d
 .subst c;rw[Jaj,h]
 .rw[Jag c,Jag c]
theorem JfN(S:Same H H'):Same (thw d kv H) (thw d kv H'):=λb u h=>by
 unfold thw at h ⊢;by_cases c:b=d
 .subst c;rw[Jaj]at h ⊢;show h
 .rw[Jag c]at h ⊢;show S _ _ h
theorem Jjk(hd:H d=some (.frz od (.dK kv)))(ha:thw d kv H a=some (.dK kw)):DGet H a (kV k) (valV kw k):=by
 unfold thw at ha;by_cases c:a=d
 .subst c;rw[Jaj]at ha;cases ha;show DGet.f hd
 .rw[Jag c]at ha;show DGet.k ha
theorem JfM(hd:H d=some (.frz od (.dK kv)))(ha:H a=none):thw d kv H a=none:=by
 unfold thw;rw[Jag (λz=>by rw[z,hd]at ha;cases ha)];show ha
end
theorem StV.cut{K:W.Frag}{s:(Int × Int) × List Str}{p:Addr}(h:StV K (cut p H) s x):StV K H s x:=h.same Jdg
structure SHC(ls:List PD)(es:List (GD × List Str))(pl:Str->Int × Int):Prop where
 l12:ls.length<=12
 l7:es.length<=7
 l14:ls.length+es.length<=14
 nd:(ls.map (·.nm)).Nodup
 gn:∀ e∈es, ∀ u∈es.map (·.1),u.nm=e.1.nm->u=e.1
 pok:∀ p∈ls,POk p
 pb:∀ p∈ls,(1<=p.sz.2/\Mth.Sz 70 p.sz.2)/\FB 200 12 p.mo
 wt:∀ p∈ls,Mth.Sz 21 p.wt
 tok:∀ e∈es,TOk e.1.td
 gb:∀ e∈es,(1<=e.1.lo.2/\Mth.Sz 70 e.1.lo.2)/\1<=e.1.hi.2/\Mth.Sz 70 e.1.hi.2
 rb:∀ e∈es,FB 200 16 (roomF pl e.1)
 plb:∀ f,FB 302 161 (pl f)
 pls:∀ p∈ls,vl (pl p.en)=vl (pl p.st)+vl p.sz
 way:∀ e∈es, ∀ w:List Pr,JaQ ls e.1.st w e.1.en->(w.map (·.1)).Nodup->e.2.Perm (w.map (·.1))
structure LSt(b:Int)(ls:List PD)(pl:Str->Int × Int)(e:GD × List Str)(l:LidD):Prop where
 nm:l.nm=e.1.nm
 rest:vl l.rest=vl (roomF pl e.1)*(b:Rat)
 fb:FB 2200 16 l.rest
 pm:(l.ws.map (·.1)).Perm e.2
 nd:(l.ws.map (·.1)).Nodup
 wt:∀ x∈l.ws, ∃ p∈ls,p.nm=x.1/\p.wt=x.2
 load:l.load=(l.ws.map (·.2)).sum
 last:l.last=(0,1)
structure MSt(b:Int)(p:PD)(m:Str × (Int × Int)):Prop where
 nm:m.1=p.nm
 vl:L2.vl m.2=L2.vl p.mo*(b:Rat)/(p.wt:Rat)
 fb:FB 2200 33 m.2
theorem Jhv{a:Addr}{kv:List (Key × V)}{u:HO}(hd:H d=some (.frz od (.dK kv)))(ha:H a=some u)(hu:∀ o w,u≠.frz o w):thw d kv H a=some u:=by
 unfold thw;rw[Jag (λz=>by rw[z,hd]at ha;cases ha;show hu _ _ rfl)];show ha
variable{β:Type}
theorem Jhg:∀{ls:List (Str × β)}{p q:Str × β},(ls.map (·.1)).Nodup->p∈ls->q∈ls->p.1=q.1->p=q
 | [],_,_,_,hp,_,_=>by cases hp
 | a::ls,p,q,hn,hp,hq,e=>by
  rw[map_cons,nodup_cons]at hn;rcases mem_cons.mp hp with h1 | h1 <;> rcases mem_cons.mp hq with h2 | h2
  .rw[h1,h2]
  .subst h1;show absurd (e ▸ mem_map.mpr ⟨q,h2,rfl⟩) hn.1
  .subst h2;show absurd (e ▸ mem_map.mpr ⟨p,h1,rfl⟩) hn.1
  .show Jhg hn.2 h1 h2 e
theorem BG.keysS{P:(Str × (Int × Int))->V->Prop}{as:List (Str × (Int × Int))}(h:BG (·.1) P as kvs):kvs.map (·.1)=(as.map (·.1)).map Sum.inr:=by
 rw[h.1,map_map];rfl
structure RC(b Q:Int)(N:List Str)(w M:Str->Rat)(gs:List Gp)(ms:List (Str × (Int × Int))):Prop where
 b1:1<=b
 nm:ms.map (·.1)=N
 nd:N.Nodup
 l12:N.length<=12
 wt:∀ n∈N, ∃ k:Int,w n=(k:Rat)/\1<=k/\Mth.Sz 21 k
 ml:∀ m∈ms,vl m.2=M m.1/\FB 2200 33 m.2/\0<=M m.1
 gw:∀ g∈gs,(∀ n∈g.way,n∈N)/\g.way.Nodup/\0<=g.R/\g.R<=(Q:Rat)
 mq:∀ n∈N,M n<=(Q:Rat)
 sQ:Mth.Sz 2200 Q
def LOks(w:Str->Rat)(lvs:List (Str × (Int × Int)))(gs:List Gp)(lds:List LidD):Prop:=lds.length=gs.length/\∀(i:Nat) g e,gs[i]?=some g->lds[i]?=some e->LidOk w g lvs e
structure RB(b:Int)(N:List Str)(w M:Str->Rat)(gs:List Gp)(k:Nat)(lvs:List (Str × (Int × Int)))(D:Int):Prop where
 D1:1<=D
 sD:Mth.Sz (230+25*k) D
 dl:∀ x∈lvs,Dv D (vl x.2/(b:Rat))
 dr:∀ g∈gs,Dv D (g.R/(b:Rat))
 dm:∀ n∈N,Dv D (M n/(b:Rat)*w n)
structure RSt(b:Int)(N:List Str)(w M:Str->Rat)(gs:List Gp)(lvs:List (Str × (Int × Int)))(lds:List LidD):Prop where
 inv:∃ L,RInv N w M gs lvs (vl L)
 ok:LOks w lvs gs lds
 bt:∃ D,RB b N w M gs lvs.length lvs D
 lo:∀ x∈lvs,Lo x.2
structure RMd(b:Int)(N:List Str)(w M:Str->Rat)(gs:List Gp)(L:Int × Int)(D:Int)(k:Nat)(lvs:List (Str × (Int × Int)))(lds:List LidD):Prop where
 inv:SInv N w gs lvs L
 ok:LOks w lvs gs lds
 bt:RB b N w M gs k lvs D
 k12:k<=12
 dL:Dv D (vl L/(b:Rat))
 fL:FB 3000 1000 L
section
variable{Q:Int}{N ns:List Str}{M:Str->Rat}{gs:List Gp}{ms:List (Str × (Int × Int))}{lds:List LidD}{L:Int × Int}{w:Str->Rat}{D:Int}{k:Nat}
theorem LOks.fwd(h:LOks w lvs gs lds){g:Gp}(hg:g∈gs):∃ e∈lds,LidOk w g lvs e:=by
 let(i,b):=List.getElem?_of_mem hg;have c:=(List.getElem?_eq_some_iff.mp b).1;have a:i<lds.length:=by rw[h.1];show c
 show(lds[i],List.getElem_mem a,h.2 i g _ b (List.getElem?_eq_getElem a))
theorem LOks.bwd(h:LOks w lvs gs lds){e:LidD}(he:e∈lds):∃ g∈gs,LidOk w g lvs e:=by
 let(i,b):=List.getElem?_of_mem he;have c:=(List.getElem?_eq_some_iff.mp b).1;have a:i<gs.length:=by rw[<- h.1];show c
 show(gs[i],List.getElem_mem a,h.2 i _ e (List.getElem?_eq_getElem a) b)
theorem RC.wpos(hc:RC b Q N w M gs ms):∀ n∈N,0<w n:=λn c=>by
 let(k,a,d,_):=hc.wt n c;rw[a];exact_mod_cast (show 0<k by ac_nf)
theorem RInv.s(h:RInv N w M gs lvs (vl L)):SInv N w gs lvs L:=⟨h.nd,h.sub,λx b=>⟨(h.a x b).1,(h.a x b).2.1⟩,h.c0,h.cc⟩
theorem JgW(hc:RC b Q N w M gs ms)(hi:SInv N w gs lvs L)(hb:RB b N w M gs k lvs D)(k12:k<=13){g:Gp}(hg:g∈gs){e:LidD}(he:LidOk w g lvs e):FB 2800 600 e.rest:=by
 have a:=hi.range hc.wpos (λg hg=>(hc.gw g hg).1) hg;have c:=hc.gw g hg;have d:=(Jip (hb.dr g hg) (λn h=>by let(k,f,_):=hc.wt n (c.1 n h);show(k,f)) hb.dl hi.nd).up hc.b1;rw[<- he.rest]at d a;show d.fb (m:=2200) (n:=600) he.low.b1 he.low.g1 hb.D1 (hb.sD.mono ∅) a.1 (Rat.le_trans a.2 c.2.2.2) hc.sQ
theorem JkA{a:Str->Rat}{B:Int}(hB:0<=B):∀{l:List Str}{n:Nat},(∀ q∈l,a q<=(B:Rat))->l.length<=n->sm a l<=((B*n:Int):Rat)
 | [],n,_,_=>by
  have : 0<=B*(n:Int):=Int.mul_nonneg hB ∅;simp only[sm];exact_mod_cast this
 | q::l,0,_,h=>by simp at h
 | q::l,n+1,h,hl=>by
  have h1:=h q (by simp);have h2:=JkA hB (l:=l) (n:=n) (λr hr=>h r (by simp[hr])) (by simpa using hl);have e:((B*((n+1:Nat):Int):Int):Rat)=(B:Rat)+((B*(n:Int):Int):Rat):=by
   have : B*((n+1:Nat):Int)=B+B*(n:Int):=by push_cast;rw[Int.mul_add,Int.mul_one,Int.add_comm]
   rw[this];push_cast;rfl
  simp only[sm];rw[e];grind
theorem Jjv(hc:RC b Q N w M gs ms){g:Gp}(hg:g∈gs):g.way.length<=12:=Nat.le_trans (sub_len _ _ (hc.gw g hg).2.1 (hc.gw g hg).1) hc.l12
theorem JgA(hc:RC b Q N w M gs ms){g:Gp}(hg:g∈gs){e:LidD}(he:LidOk w g lvs e):0<=e.load/\Mth.Sz 25 e.load:=by
 have d:=hc.gw g hg;have a:=sm_nn (Jec (lvs:=lvs) hc.wpos d.1);obtain⟨B,l⟩:∃ B:Int,B=2097152:=⟨_,rfl⟩;have B0:0<=B:=by ac_nf
 have c:sm (left lvs w) g.way<=((B*(12:Nat):Int):Rat):=JkA B0 (λq j=>by
  let(k,f,i,h):=hc.wt q (d.1 q j);have : k<=B:=by unfold Mth.Sz at h;ac_nf
  have : (k:Rat)<=(B:Rat):=by exact_mod_cast this
  unfold left;split
  .exact_mod_cast B0
  .rw[f];show this) (Jjv hc hg)
 rw[<- he.load]at a c;have a:0<=e.load:=by exact_mod_cast a
 have c:e.load<=B*(12:Nat):=Rat.intCast_le_intCast.mp c;show(a,?_);unfold Mth.Sz;ac_nf
theorem JcU{s:(Int × Int) × List Str}:s∈stF ms lds S↔(∃ m∈ms,m.1∉S/\s=(m.2,[m.1]))\/∃ e∈lds,0<e.load/\s=(divF e.rest (e.load,1),(e.ws.map (·.1)).filter λn=>decide (n∉S)):=by
 unfold stF;rw[mem_append,mem_map,mem_map];constructor
 .rintro(⟨m,b,rfl⟩ | ⟨e,a,rfl⟩)
  .have:=mem_filter.mp b;show .inl ⟨m,this.1,by simpa using this.2,rfl⟩
  .have:=mem_filter.mp a;show .inr ⟨e,this.1,by simpa using this.2,rfl⟩
 .rintro(⟨m,b,h,rfl⟩ | ⟨e,a,h,rfl⟩)
  .show .inl ⟨m,mem_filter.mpr ⟨b,by simpa using h⟩,rfl⟩
  .show .inr ⟨e,mem_filter.mpr ⟨a,by simpa using h⟩,rfl⟩
theorem RSt.len(hc:RC b Q N w M gs ms)(h:RSt b N w M gs lvs lds):lvs.length<=N.length:=by
 let(L,a):=h.inv;have:=sub_len _ _ a.nd a.sub;simpa using this
theorem RSt.all(hc:RC b Q N w M gs ms)(h:RSt b N w M gs lvs lds)(hl:N.length<=lvs.length):∀ n∈N,n∈lvs.map (·.1):=by
 let(L,c):=h.inv;intro n d;show Classical.byContradiction λz=>?_;have:=sub_len (n::lvs.map (·.1)) N (nodup_cons.mpr ⟨z,c.nd⟩) (λq a=>by
  rcases mem_cons.mp a with e | a
  .rw[e];show d
  .show c.sub q a)
 simp at this;ac_nf
theorem RSt.lids(hc:RC b Q N w M gs ms)(h:RSt b N w M gs lvs lds):∀ e∈lds,FB 3000 1000 e.rest/\Mth.Sz 64 e.load/\e.ws.length<=12:=by
 intro e i;let(L,j):=h.inv;let(D,d):=h.bt;let(g,c,a):=h.ok.bwd i;have f:=JgW hc j.s d (by have:=h.len hc;have:=hc.l12;ac_nf) c a;show(⟨f.s1.mono ⋯,f.s2.mono ⋯,f.b1,f.g1⟩,(JgA hc c a).2.mono ⋯,?_);have:=a.pm.length_eq;rw[length_map]at this;rw[this];show Jjv hc c
theorem RSt.some(hc:RC b Q N w M gs ms)(h:RSt b N w M gs lvs lds)(hl:lvs.length<N.length):stF ms lds (lvs.map (·.1))≠[]:=by
 intro z;have : ∀ n∈N,n∈lvs.map (·.1):=λn a=>by
  rw[<- hc.nm]at a;let(m,d,rfl):=mem_map.mp a;show Classical.byContradiction λy=>?_;have : ((m.2,[m.1]):(Int × Int) × List Str)∈stF ms lds (lvs.map (·.1)):=JcU.mpr (.inl ⟨m,d,y,rfl⟩);rw[z]at this;cases this
 have:=sub_len N (lvs.map (·.1)) hc.nd (λq c=>this q c);simp at this;ac_nf
theorem RSt.stops(hc:RC b Q N w M gs ms)(h:RSt b N w M gs lvs lds):∀ s∈stF ms lds (lvs.map (·.1)),FB 3000 1000 s.1/\∀ n∈s.2,n∈N/\n∉lvs.map (·.1):=by
 intro s k;rcases JcU.mp k with⟨m,hm,hS,rfl⟩ | ⟨e,he,hl,rfl⟩
 .have f:=(hc.ml m hm).2.1;show(⟨f.s1.mono ⋯,f.s2.mono ⋯,f.b1,f.g1⟩,λn d=>?_);rw[mem_singleton.mp d];show(hc.nm ▸ mem_map.mpr ⟨m,hm,rfl⟩,hS)
 .let(L,j):=h.inv;let(D,i):=h.bt;let(g,c,a):=h.ok.bwd he;have f:=JgW hc j.s i (by have:=h.len hc;have:=hc.l12;ac_nf) c a;have z:=JgA hc c a;show(?_,λn d=>?_)
  .show FB.low (Jcp f.b1 ∅) ?_ ?_
   .show Mth.Sz 3000 (e.rest.1*1);rw[Int.mul_one];show f.s1.mono ⋯
   .show(f.s2.mul z.2).mono ⋯
  .have:=mem_filter.mp d;show((hc.gw g c).1 n (a.pm.mem_iff.mp this.1),by simpa using this.2)
theorem RSt.first(hc:RC b Q N w M gs ms)(h:RSt b N w M gs lvs lds)(hlt:lvs.length<N.length)(hL:L∈(stF ms lds (lvs.map (·.1))).map (·.1))(hmin:∀ s∈stF ms lds (lvs.map (·.1)),vl L<=vl s.1)(hnd:ns.Nodup)(hns:∀ n,n∈ns↔∃ s∈stF ms lds (lvs.map (·.1)),s.1=L/\n∈s.2) :
  ns≠[]/\(∀ n∈ns,n∈N/\n∉lvs.map (·.1))/\RInv N w M gs (lvs++ns.map λn=>(n,L)) (vl L)/\∃ D,RMd b N w M gs L D (lvs.length+1) lvs lds:=by
 let(L0,A):=h.inv;let(D,B):=h.bt;have W:=h.stops hc;let(s0,F,u):=mem_map.mp hL;have T:FB 3000 1000 L:=u ▸ (W s0 F).1;have wp:=hc.wpos;have P:=λ(g:Gp)(c:g∈gs)=>(hc.gw g c).1;have V:∀ n∈N,n∉lvs.map (·.1)->vl L<=M n:=λn f o=>by
  rw[<- hc.nm]at f;let(m,i,rfl):=mem_map.mp f;have:=hmin _ (JcU.mpr (.inl ⟨m,i,o,rfl⟩));rw[<- (hc.ml m i).1];show this
 have K:∀ e g,g∈gs->LidOk w g lvs e->0<e.load->vl (divF e.rest (e.load,1))*sm (left lvs w) g.way=g.R-sm (used lvs w) g.way:=λe g c d j=>by
  rw[JkJ d.low.b1 (by show 1<=e.load;ac_nf) (Int.le_refl 1),Jgo, <- d.load, <- d.rest];show Rat.div_mul_cancel (JaF ∅)
 have I:∀ g∈gs,0<sm (left lvs w) g.way->vl L*sm (left lvs w) g.way<=g.R-sm (used lvs w) g.way:=λg c l=>by
  let(e,E,d):=h.ok.fwd c;have j:0<e.load:=by rw[<- d.load]at l;exact_mod_cast l
  have:=hmin _ (JcU.mpr (.inr ⟨e,E,j,rfl⟩));rw[<- K e g c d j];show Rat.mul_le_mul_of_nonneg_right this (Rat.le_of_lt l)
 have key:∀ n,n∈ns↔n∈N/\n∉lvs.map (·.1)/\(M n=vl L\/∃ g∈gs,n∈g.way/\0<sm (left lvs w) g.way/\vl L*sm (left lvs w) g.way=g.R-sm (used lvs w) g.way):=λn=>by
  rw[hns n];constructor
  .rintro⟨s,G,e1,U⟩;have H:=(W s G).2 n U;show(H.1,H.2,?_);rcases JcU.mp G with⟨m,i,o,rfl⟩ | ⟨e,E,j,rfl⟩
   .left
    rw[mem_singleton.mp U, <- e1];show(hc.ml m i).1.symm
   .right
    let(g,c,d):=h.ok.bwd E;show(g,c,d.pm.mem_iff.mp (mem_filter.mp U).1,?_,?_)
    .rw[<- d.load];exact_mod_cast j
    .rw[<- e1];show K e g c d j
  .rintro⟨f,o,e | ⟨g,c,hw,l,e⟩⟩
   .rw[<- hc.nm]at f;let(m,i,rfl):=mem_map.mp f;show(_,JcU.mpr (.inl ⟨m,i,o,rfl⟩),(hc.ml m i).2.1.lo.inj T.lo ((hc.ml m i).1.trans e),by simp)
   .let(r,E,d):=h.ok.fwd c;have j:0<r.load:=by rw[<- d.load]at l;exact_mod_cast l
    have i:((divF r.rest (r.load,1),(r.ws.map (·.1)).filter λn=>decide (n∉lvs.map (·.1))):(Int × Int) × List Str)∈stF ms lds (lvs.map (·.1)):=JcU.mpr (.inr ⟨r,E,j,rfl⟩);show(_,i,(W _ i).1.lo.inj T.lo ?_,mem_filter.mpr ⟨d.pm.mem_iff.mpr hw,by simpa using o⟩);have:=K r g c d j;rw[<- e]at this;have p':sm (left lvs w) g.way≠0:=λz=>by rw[z]at l;show absurd l ⋯
    show vl (divF r.rest (r.load,1))=vl L;grind
 have t:(∃ n∈N,n∉lvs.map (·.1)/\M n=vl L)\/∃ g∈gs,0<sm (left lvs w) g.way/\vl L*sm (left lvs w) g.way=g.R-sm (used lvs w) g.way/\∃ e:LidD,LidOk w g lvs e/\0<e.load/\L=divF e.rest (e.load,1):=by
  rcases JcU.mp F with⟨m,i,o,rfl⟩ | ⟨e,E,j,rfl⟩
  .show .inl ⟨m.1,hc.nm ▸ mem_map.mpr ⟨m,i,rfl⟩,o,by rw[<- u];show(hc.ml m i).1.symm⟩
  .let(g,c,d):=h.ok.bwd E;show .inr ⟨g,c,?_,by rw[<- u];show K e g c d j,e,d,j,u.symm⟩;rw[<- d.load];exact_mod_cast j
 have C:vl L0<=vl L:=A.le (t.imp id λζ=>by let(g,c,X,S,_):=ζ;show(g,c,X,S));have ne:ns≠[]:=λz=>by
  rcases t with⟨n,f,o,e⟩ | ⟨g,c,l,e,_⟩
  .have:=(key n).mpr ⟨f,o, .inl e⟩;rw[z]at this;cases this
  .have : ∃ n∈g.way,n∉lvs.map (·.1):=Classical.byContradiction λy=>by
    rw[Jc8 (a:=left lvs w) λq hq=>if_pos (Classical.byContradiction λv=>y ⟨q,hq,v⟩)]at l;show absurd l ⋯
   let(n,f,o):=this;have:=(key n).mpr ⟨P g c n f,o, .inr ⟨g,c,f,l,e⟩⟩;rw[z]at this;cases this
 show(ne,λn f=>⟨((key n).mp f).1,((key n).mp f).2.1⟩,A.round wp P hnd V I key C,?_);have si:SInv N w gs lvs L:=by
  show(A.nd,A.sub,λx O=>⟨(A.a x O).1,Rat.le_trans (A.a x O).2.1 C⟩,Rat.le_trans A.c0 C,λg c=>?_);by_cases p:0<sm (left lvs w) g.way
  .show I g c p
  .have e0:sm (left lvs w) g.way=0:=by have:=sm_nn (Jec (lvs:=lvs) wp (P g c));grind
   have:=A.cc g c;rw[e0]at this ⊢;grind
 obtain⟨k,Z,ks,J⟩:∃ k:Int,1<=k/\Mth.Sz 25 k/\Dv D (vl L/(b:Rat)*(k:Rat)):=by
  rcases t with⟨n,f,o,e⟩ | ⟨g,c,l,e,r,d,j,eL⟩
  .let(k,J,X,S):=hc.wt n f;show(k,X,S.mono ⋯,?_);have:=B.dm n f;rw[e,J]at this;show this
  .show(r.load,by ac_nf,(JgA hc c d).2,?_);have Y:=Jip (B.dr g c) (λn f=>by let(k,J,_):=hc.wt n (P g c n f);show(k,J)) B.dl A.nd;rw[<- e, <- d.load]at Y;have : vl L/(b:Rat)*(r.load:Rat)=vl L*(r.load:Rat)/(b:Rat):=by grind
   rw[this];show Y
 show(D*k,si,h.ok,⟨Jcp B.D1 Z,?_,λx O=>(B.dl x O).more k,λg c=>(B.dr g c).more k,λn f=>(B.dm n f).more k⟩,by have:=hc.l12;ac_nf,J.over Z,T);have:=B.sD.mul ks;rw[show 230+25*(lvs.length+1)=230+25*lvs.length+25 by ac_nf];show this
theorem RMd.rest(hc:RC b Q N w M gs ms)(h:RMd b N w M gs L D k lvs lds):∀ e∈lds,FB 3000 1000 e.rest/\∀ x∈e.ws,Mth.Sz 64 x.2:=by
 intro e j;let(g,i,c):=h.ok.bwd j;have f:=JgW hc h.inv h.bt (by have:=h.k12;ac_nf) i c;show(⟨f.s1.mono ⋯,f.s2.mono ⋯,f.b1,f.g1⟩,λx d=>?_);have a:x.1∈N:=(hc.gw g i).1 _ (c.pm.mem_iff.mp (mem_map.mpr ⟨x,d,rfl⟩));let(k,l,_,m):=hc.wt _ a;have:=(c.wt x d).1;rw[l]at this;have : k=x.2:=by exact_mod_cast this
 rw[<- this];show m.mono ⋯
theorem RMd.step(hc:RC b Q N w M gs ms)(h:RMd b N w M gs L D k lvs lds){n:Str}(hn:n∈N)(hS:n∉lvs.map (·.1)):RMd b N w M gs L D k (lvs++[(n,L)]) (lds.map λe=>e.settle n L):=by
 show(h.inv.step (λg f=>(hc.gw g f).2.1) hn hS,⟨by rw[length_map];show h.ok.1,λi g e f j=>?_⟩,⟨h.bt.D1,h.bt.sD,λx c=>?_,h.bt.dr,h.bt.dm⟩,h.k12,h.dL,h.fL)
 .rw[List.getElem?_map]at j;let(l,d,rfl):=Option.map_eq_some_iff.mp j;show(h.ok.2 i g l f d).settle h.inv.nd hS h.fL.lo λx c=>(h.inv.a x c).2
 .rcases mem_append.mp c with c | c
  .show h.bt.dl x c
  .rw[mem_singleton.mp c];show h.dL
theorem RMd.next(hc:RC b Q N w M gs ms)(h:RMd b N w M gs L D k (lvs++ns.map λn=>(n,L)) lds)(hi:RInv N w M gs (lvs++ns.map λn=>(n,L)) (vl L))(hlo:∀ x∈lvs,Lo x.2)(hk:k<=lvs.length+ns.length):RSt b N w M gs (lvs++ns.map λn=>(n,L)) lds:=by
 show(⟨L,hi⟩,h.ok,⟨D,h.bt.D1,h.bt.sD.mono (by simp;ac_nf),h.bt.dl,h.bt.dr,h.bt.dm⟩,λx a=>?_);rcases mem_append.mp a with a | a
 .show hlo x a
 .let(n,_,rfl):=mem_map.mp a;show h.fL.lo
end
theorem All2.put{P P' : α->V->Prop}:∀{as:List α}{xs:List V}{j:Nat}{a' : α}{x:V},All2 P as xs->xs[j]?=some x->P' a' x->(∀(i:Nat) a y,i≠j->as[i]?=some a->xs[i]?=some y->P a y->P' a y)->All2 P' (as.set j a') xs
 | [],xs,j,a',x,h,hx,_,_=>by
  have h:xs=[]:=h;subst h;cases hx
 | a::as,xs,0,a',x,h,hx,p,m=>by
  let(y,r,rfl,h1,h2):=h;have hx:y=x:=by simpa using hx
  subst hx;show(y,r,rfl,p,?_);have go:∀{as:List α}{r:List V},All2 P as r->(∀(i:Nat) a y,as[i]?=some a->r[i]?=some y->P a y->P' a y)->All2 P' as r:=by
   intro as;induction as with
   | nil=>intro r h _;show h
   | cons b bs ih=>
    intro r h m;let(z,t,rfl,h1,h2):=h;show(z,t,rfl,m 0 b z rfl rfl h1,ih h2 λi a y ha hy=>m (i+1) a y (by simpa using ha) (by simpa using hy))
  show go h2 λi a y ha hy=>m (i+1) a y ∅ (by simpa using ha) (by simpa using hy)
 | a::as,xs,j+1,a',x,h,hx,p,m=>by
  let(y,r,rfl,h1,h2):=h;show(y,r,rfl,m 0 a y ∅ rfl rfl h1,All2.put h2 (by simpa using hx) p λi a y ne ha hy=>m (i+1) a y ∅ (by simpa using ha) (by simpa using hy))
theorem Jk4{f : α->α}{ls:List α}:((ls.take j).map f++ls.drop j)[j]?=ls[j]?:=by
 by_cases c:j<=ls.length
 .have e:((ls.take j).map f).length=j:=by rw[length_map,length_take];ac_nf
  rw[List.getElem?_append_right ∅,e,List.getElem?_drop];simp
 .have e:((ls.take j).map f++ls.drop j).length<=j:=by simp;ac_nf
  rw[List.getElem?_eq_none e,List.getElem?_eq_none ∅]
theorem Jhh{f : α->α}:∀{ls:List α}{j:Nat}{e : α},ls[j]?=some e->((ls.take j).map f++ls.drop j).set j (f e)=(ls.take (j+1)).map f++ls.drop (j+1)
 | [],j,e,h=>by simp at h
 | a::ls,0,e,h=>by
  have h:a=e:=by simpa using h
  subst h;simp
 | a::ls,j+1,e,h=>by
  have:=Jhh (f:=f) (ls:=ls) (j:=j) (e:=e) (by simpa using h);simp only[List.take_succ_cons,map_cons,List.drop_succ_cons,cons_append,List.set_cons_succ,this]
theorem Jjx{ns:List α}{i:Nat}{n : α}(h:ns.Nodup)(hn:ns[i]?=some n):n∉ns.take i:=by
 intro z;rw[<- List.take_append_drop i ns,nodup_append]at h;show h.2.2 n z n (List.mem_of_getElem? (i:=0) ?_) rfl;rw[List.getElem?_drop];show hn
variable{n:Str}{L:Int × Int}
theorem Ji7{e:LidD}:(e.settle n L).nm=e.nm:=by
 unfold LidD.settle;split <;> rfl
theorem Jh1{ls:List LidD}:(ls.map λe=>e.settle n L).map (·.nm)=ls.map (·.nm):=by
 rw[map_map];show List.map_congr_left λe _=>Ji7
structure ShD where
 nm:Str
 sl:Int × Int
 sp:Option Str
def wtF(ls:List PD)(n:Str):Rat:=((ls.find? λp=>decide (p.nm=n)).map λp=>(p.wt:Rat)).getD 0
def moF(ls:List PD)(n:Str):Rat:=((ls.find? λp=>decide (p.nm=n)).map λp=>vl p.mo/(p.wt:Rat)).getD 0
def gpF(es:List (GD × List Str))(pl:Str->Int × Int):List Gp:=es.map λe=>⟨vl (roomF pl e.1),e.2⟩
def gpB(b:Int)(es:List (GD × List Str))(pl:Str->Int × Int):List Gp:=es.map λe=>⟨vl (roomF pl e.1)*(b:Rat),e.2⟩
def stp(w f:Str->Rat)(pl:Str->Int × Int)(n:Str)(e:GD × List Str):Bool:=decide (n∈e.2)&&(decide (sm (λq=>f q*w q) e.2=vl (roomF pl e.1))&&decide (∀ q∈e.2,f q<=f n))
structure ShRow(ls:List PD)(es:List (GD × List Str))(pl:Str->Int × Int)(f:Str->Rat)(p:PD)(r:ShD):Prop where
 nm:r.nm=p.nm
 lo:Lo r.sl
 val:vl r.sl=f p.nm*(p.wt:Rat)
 sp:(r.sl=p.mo/\r.sp=none)\/(r.sl≠p.mo/\∃ e,es.find? (stp (wtF ls) f pl p.nm)=some e/\r.sp=some e.1.nm)
structure ShF(ls:List PD)(es:List (GD × List Str))(pl:Str->Int × Int)(f:Str->Rat)(D:Int):Prop where
 sub:∀ e∈es,(∀ n∈e.2,n∈ls.map (·.nm))/\e.2.Nodup
 fair:Fair (ls.map (·.nm)) (wtF ls) (moF ls) (gpF es pl) f
 D1:1<=D
 sD:Mth.Sz 600 D
 dv:∀ n∈ls.map (·.nm),Dv D (f n)
structure ShR(ls:List PD)(es:List (GD × List Str))(pl:Str->Int × Int)(rs:List ShD):Prop where
 len:rs.length=ls.length
 ex:∃ f D,ShF ls es pl f D/\∀(i:Nat) p r,ls[i]?=some p->rs[i]?=some r->ShRow ls es pl f p r
theorem Jgx:∀{ls:List PD}{p:PD},(ls.map (·.nm)).Nodup->p∈ls->ls.find? (λq=>decide (q.nm=p.nm))=some p
 | [],_,_,h=>by cases h
 | a::ls,p,hn,h=>by
  rw[map_cons,nodup_cons]at hn;rw[List.find?_cons];rcases mem_cons.mp h with e | h
  .subst e;simp
  .have : a.nm≠p.nm:=λz=>hn.1 (z ▸ mem_map.mpr ⟨p,h,rfl⟩);rw[decide_eq_false this];show Jgx hn.2 h
section
variable{es:List (GD × List Str)}{f':Str->Rat}{rs rs':List ShD}{f:Str->Rat}
theorem JhB(hn:(ls.map (·.nm)).Nodup)(hp:p∈ls):wtF ls p.nm=(p.wt:Rat):=by
 unfold wtF;rw[Jgx hn hp];rfl
theorem Jf6(hn:(ls.map (·.nm)).Nodup)(hp:p∈ls):moF ls p.nm=vl p.mo/(p.wt:Rat):=by
 unfold moF;rw[Jgx hn hp];rfl
theorem JlU(hn:(ls.map (·.nm)).Nodup)(hk:∀ p∈ls,1<=p.wt):∀ n∈ls.map (·.nm),0<wtF ls n:=λn h=>by
 let(p,a,rfl):=mem_map.mp h;rw[JhB hn a];have:=hk p a;exact_mod_cast (show 0<p.wt by ac_nf)
theorem Jgz{g:Gp}(h:g∈gpF es pl):∃ e∈es,g=⟨vl (roomF pl e.1),e.2⟩:=by
 let(e,a,rfl):=mem_map.mp h;show(e,a,rfl)
theorem ShR.uniq(hn:(ls.map (·.nm)).Nodup)(hk:∀ p∈ls,1<=p.wt)(h:ShR ls es pl rs)(k:ShR ls es pl rs'):rs=rs':=by
 let(Y,f,D,F,R):=h;let(Q,o,D',F',N):=k;have P:=JlU hn hk;have M:∀ g∈gpF es pl, ∀ n∈g.way,n∈ls.map (·.nm):=λg O=>by
  let(e,E,rfl):=Jgz O;show(F.sub e E).1
 have e:=F.fair.uniq P M F'.fair;show List.ext_getElem? λi=>?_;by_cases c:i<ls.length
 .have G:i<rs.length:=by ac_nf
  have C:i<rs'.length:=by ac_nf
  have v:=List.getElem?_eq_getElem c;have B:=List.getElem?_eq_getElem G;have w:=List.getElem?_eq_getElem C;have r:=R i _ _ v B;have s:=N i _ _ v w;rw[B,w];generalize ls[i]=p at *;generalize rs[i]=a at *;generalize rs'[i]=b at *;have u:p∈ls:=List.mem_of_getElem? v;have j:p.nm∈ls.map (·.nm):=mem_map.mpr ⟨p,u,rfl⟩;have d:a.sl=b.sl:=r.lo.inj s.lo (by rw[r.val,s.val,e _ j]);have I:es.find? (stp (wtF ls) f pl p.nm)=es.find? (stp (wtF ls) o pl p.nm):=by
   have H:∀{t:List (GD × List Str)},(∀ x∈t,x∈es)->t.find? (stp (wtF ls) f pl p.nm)=t.find? (stp (wtF ls) o pl p.nm):=by
    intro t;induction t with
    | nil=>intro _;rfl
    | cons x t ih=>
     intro z;have : stp (wtF ls) f pl p.nm x=stp (wtF ls) o pl p.nm x:=by
      have l:=(F.sub x (z x (by simp))).1;have L:sm (λq=>f q*wtF ls q) x.2=sm (λq=>o q*wtF ls q) x.2:=JbH λq m=>by rw[e q (l q m)]
      have J:(∀ q∈x.2,f q<=f p.nm)↔∀ q∈x.2,o q<=o p.nm:=by
       constructor
       .intro h q m;rw[<- e q (l q m), <- e _ j];show h q m
       .intro h q m;rw[e q (l q m),e _ j];show h q m
      unfold stp;rw[L,decide_eq_decide.mpr J]
     rw[List.find?_cons,List.find?_cons,this,ih λy K=>z y (by simp[K])]
   show H λ_ h=>h
  have A:a.sp=b.sp:=by
   rcases r.sp with⟨x1,x2⟩ | ⟨x1,e1,x2,x3⟩ <;> rcases s.sp with⟨y1,y2⟩ | ⟨y1,e2,y2,y3⟩
   .rw[x2,y2]
   .show absurd (d ▸ x1) y1
   .show absurd (d ▸ y1) x1
   .rw[I,y2]at x2;cases x2;rw[x3,y3]
  have nm:a.nm=b.nm:=r.nm.trans s.nm.symm;let(V,X,U):=a;let(T,W,S):=b;simp only at nm d A;rw[nm,d,A]
 .rw[List.getElem?_eq_none ∅,List.getElem?_eq_none ∅]
end
theorem Jkl:∀(fs:List (Int × Int))(k:Nat),(∀ a∈fs,1<=a.2/\Mth.Sz 16 a.2)->fs.length<=k->∃ D:Int,1<=D/\Mth.Sz (16*k+1) D/\∀ a∈fs,Dv D (vl a)
 | [],k,_,_=>⟨1,by decide,by unfold Mth.Sz;show Nat.one_lt_two_pow ∅,λa ha=>by cases ha⟩
 | a::fs,0,_,h=>by simp at h
 | a::fs,k+1,h,hl=>by
  let(D,h1,h2,h3):=Jkl fs k (λx hx=>h x (by simp[hx])) (by simpa using hl);let(a1,a2):=h a (by simp);show(D*a.2,Jcp h1 a1,?_,λx hx=>?_)
  .have:=h2.mul a2;rw[show 16*(k+1)+1=16*k+1+16 by ac_nf];show this
  .rcases mem_cons.mp hx with e | hx
   .subst e;show Dv.over a1 ?_;have : vl x*(x.2:Rat)=(x.1:Rat):=by
     unfold vl;show Rat.div_mul_cancel (JaF a1)
    rw[this];show Dv.int _
   .show(h3 x hx).more _
theorem Jjs(h:1<=a.2)(h0:0<=a.1):vl a<=(a.1:Rat):=by
 unfold vl;have p:(0:Rat)<(a.2:Rat):=by exact_mod_cast (show 0<a.2 by ac_nf)
 have e:(a.1:Rat)/(a.2:Rat)*(a.2:Rat)=(a.1:Rat):=Rat.div_mul_cancel (JaF h);have q:(a.1:Rat)<=(a.1:Rat)*(a.2:Rat):=by
  have : a.1<=a.1*a.2:=by
   have:=Int.mul_le_mul_of_nonneg_left h h0;ac_nf
  exact_mod_cast this
 rw[<- scaled p,e];show q
theorem vl_nn(h:1<=a.2):0<=vl a↔0<=a.1:=by
 unfold vl;have p:(0:Rat)<(a.2:Rat):=by exact_mod_cast (show 0<a.2 by ac_nf)
 have e:(a.1:Rat)/(a.2:Rat)*(a.2:Rat)=(a.1:Rat):=Rat.div_mul_cancel (JaF h);rw[<- scaled p,e,Rat.zero_mul];exact_mod_cast Iff.rfl
theorem Jjc:∀(ws:List (Str × Int))(w:Str->Rat),(∀ x∈ws,w x.1=(x.2:Rat))->(((ws.map (·.2)).sum:Int):Rat)=sm w (ws.map (·.1))
 | [],_,_=>rfl
 | x::ws,w,h=>by
  have ih:=Jjc ws w λy hy=>h y (by simp[hy]);simp only[map_cons,List.sum_cons,sm,h x (by simp), <- ih];push_cast;rfl
variable{es:List (GD × List Str)}{lds:List LidD}{ms:List (Str × (Int × Int))}{q0:Int}
theorem LSt.way{e:GD × List Str}{l:LidD}(h:LSt b ls pl e l):(∀ n∈e.2,n∈ls.map (·.nm))/\e.2.Nodup:=by
 show(λn d=>?_,h.pm.nodup_iff.mp h.nd);let(x,c,rfl):=mem_map.mp (h.pm.mem_iff.mpr d);let(p,a,e,_):=h.wt x c;show mem_map.mpr ⟨p,a,e⟩
theorem Jky(hl:lds.length=es.length)(hls:∀(i:Nat) e l,es[i]?=some e->lds[i]?=some l->LSt b ls pl e l):∀ e∈es,(∀ n∈e.2,n∈ls.map (·.nm))/\e.2.Nodup:=λe c=>by
 let(i,a):=List.getElem?_of_mem c;have d:=(List.getElem?_eq_some_iff.mp a).1;show(hls i e _ a (List.getElem?_eq_getElem ∅)).way
theorem Jj7(b1:1<=b)(sb:Mth.Sz 2000 b)(hc:SHC ls es pl)(hr:∀ e∈es,0<=vl (roomF pl e.1))(hl:lds.length=es.length)(hls:∀(i:Nat) e l,es[i]?=some e->lds[i]?=some l->LSt b ls pl e l)(hm:ms.length=ls.length)(hms:∀(i:Nat) p m,ls[i]?=some p->ms[i]?=some m->MSt b p m):∃ q0,RC b q0 (ls.map (·.nm)) (wtF ls) (λn=>moF ls n*(b:Rat)) (gpB b es pl) ms/\RSt b (ls.map (·.nm)) (wtF ls) (λn=>moF ls n*(b:Rat)) (gpB b es pl) [] lds:=by
 have K:=Jky hl hls;have t:(0:Rat)<(b:Rat):=by exact_mod_cast (show 0<b by ac_nf)
 have Y:=JaF b1;have E:∀ m∈ms, ∃ p∈ls,MSt b p m:=λm o=>by
  let(i,L):=List.getElem?_of_mem o;have Z:=(List.getElem?_eq_some_iff.mp L).1;show(ls[i]'∅,List.getElem_mem _,hms i _ m (List.getElem?_eq_getElem ∅) L)
 obtain⟨B,Q,S,I⟩:∃ B:Int,Mth.Sz 200 B/\0<=B/\∀ x,Mth.Sz 200 x->x<=B:=⟨2 ^ 200-1,by unfold Mth.Sz;decide,by decide,λx k=>by unfold Mth.Sz at k;ac_nf⟩;have C:∀ g∈gpB b es pl, ∃ e∈es,g=⟨vl (roomF pl e.1)*(b:Rat),e.2⟩:=λg C=>by
  let(e,f,rfl):=mem_map.mp C;show(e,f,rfl)
 have A:∀ p∈ls,1<=p.wt:=λp d=>(hc.pok p d).w;have z:∀ p∈ls,0<=vl p.mo:=λp d=>(vl_nn (hc.pb p d).2.b1).mpr (hc.pok p d).m0;have M0:∀ p∈ls,0<=moF ls p.nm/\moF ls p.nm<=vl p.mo:=λp d=>by
  rw[Jf6 hc.nd d];have O:=A p d;have N:(0:Rat)<(p.wt:Rat):=by exact_mod_cast (show 0<p.wt by ac_nf)
  have e:vl p.mo/(p.wt:Rat)*(p.wt:Rat)=vl p.mo:=Rat.div_mul_cancel (JaF O);have J:=z p d;constructor
  .rw[<- scaled N,e,Rat.zero_mul];show J
  .rw[<- scaled N,e];have : (1:Rat)<=(p.wt:Rat):=by exact_mod_cast O
   have:=Rat.mul_le_mul_of_nonneg_left this J;rw[Rat.mul_one]at this;show this
 have top:∀ a:Int × Int,FB 200 16 a->0<=vl a->vl a<=(B:Rat):=λa G R=>by
  show Rat.le_trans (Jjs G.b1 ((vl_nn G.b1).mp R)) ?_;exact_mod_cast I _ G.s1
 have u:((B*b:Int):Rat)=(B:Rat)*(b:Rat):=by push_cast;rfl
 have M:RC b (B*b) (ls.map (·.nm)) (wtF ls) (λn=>moF ls n*(b:Rat)) (gpB b es pl) ms:=by
  show(b1,?_,hc.nd,by rw[length_map];show hc.l12,λn s=>?_,λm o=>?_,λg j=>?_,λn s=>?_,(Q.mul sb))
  .show List.ext_getElem? λi=>?_;rw[List.getElem?_map,List.getElem?_map];by_cases c:i<ls.length
   .rw[List.getElem?_eq_getElem c,List.getElem?_eq_getElem (by ac_nf:i<ms.length)];show congrArg some (hms i _ _ (List.getElem?_eq_getElem c) (List.getElem?_eq_getElem ∅)).nm
   .rw[List.getElem?_eq_none ∅,List.getElem?_eq_none ∅];rfl
  .let(p,d,rfl):=mem_map.mp s;show(p.wt,JhB hc.nd d,A p d,hc.wt p d)
  .let(p,d,h):=E m o;show(?_,h.fb,?_)
   .rw[h.vl,h.nm,Jf6 hc.nd d];grind
   .rw[h.nm];show Rat.mul_nonneg (M0 p d).1 (Rat.le_of_lt t)
  .let(e,f,rfl):=C g j;show((K e f).1,(K e f).2,Rat.mul_nonneg (hr e f) (Rat.le_of_lt t),?_);rw[u];show Rat.mul_le_mul_of_nonneg_right (top _ (hc.rb e f) (hr e f)) (Rat.le_of_lt t)
  .let(p,d,rfl):=mem_map.mp s;rw[u];show Rat.mul_le_mul_of_nonneg_right (Rat.le_trans (M0 p d).2 (top _ ((hc.pb p d).2.mono ⋯ ⋯) (z p d))) (Rat.le_of_lt t)
 show(_,M,⟨(0,1),?_⟩,⟨by unfold gpB;rw[length_map];show hl,λi g l r F=>?_⟩,?_,λx k=>by cases k)
 .rw[Jg6];show RInv.start (λn s=>?_) (λg j=>(M.gw g j).2.2.1);let(p,d,rfl):=mem_map.mp s;show Rat.mul_nonneg (M0 p d).1 (Rat.le_of_lt t)
 .unfold gpB at r;rw[List.getElem?_map]at r;let(e,f,rfl):=Option.map_eq_some_iff.mp r;have h:=hls i e l f F;have y:∀ x∈l.ws,wtF ls x.1=(x.2:Rat)/\1<=x.2:=λx k=>by
   let(p,d,W,T):=h.wt x k;rw[<- W, <- T];show(JhB hc.nd d,A p d)
  have U:sm (used [] (wtF ls)) e.2=0:=Jc8 λq _=>by
   unfold used;rw[Jcw (by simp),Rat.zero_mul]
  show(h.pm,h.nd,y,?_,?_,h.fb.lo,?_,(λn _ H=>by cases H),λζ=>by let(n,_,H):=ζ;cases H)
  .rw[h.rest];show _=_-sm (used [] (wtF ls)) e.2;rw[U];grind
  .rw[h.load,Jjc l.ws (wtF ls) λx k=>(y x k).1,Jja h.pm];show JbH λq _=>by unfold left;rw[if_neg (by simp)]
  .rw[h.last];show(Int.le_refl 1,by unfold Mth.g;simp)
 .let(D,D1,V,P):=Jkl (ls.map (·.mo)++es.map λe=>roomF pl e.1) 14 (λa v=>by
   rcases mem_append.mp v with v | v
   .let(p,d,rfl):=mem_map.mp v;show((hc.pb p d).2.b1,(hc.pb p d).2.s2.mono ⋯)
   .let(e,f,rfl):=mem_map.mp v;show((hc.rb e f).b1,(hc.rb e f).s2)) (by rw[length_append,length_map,length_map];show hc.l14)
  show(D,D1,V.mono (by simp),λx k=>(by cases k),λg j=>?_,λn s=>?_)
  .let(e,f,rfl):=C g j;show Dv D (vl (roomF pl e.1)*(b:Rat)/(b:Rat));rw[show vl (roomF pl e.1)*(b:Rat)/(b:Rat)=vl (roomF pl e.1) by grind];show P _ (mem_append.mpr (.inr (mem_map.mpr ⟨e,f,rfl⟩)))
  .let(p,d,rfl):=mem_map.mp s;rw[Jf6 hc.nd d,JhB hc.nd d];have X:=JaF (A p d);rw[show vl p.mo/(p.wt:Rat)*(b:Rat)/(b:Rat)*(p.wt:Rat)=vl p.mo by grind];show P _ (mem_append.mpr (.inl (mem_map.mpr ⟨p,d,rfl⟩)))
theorem Jf0{γ:Type}{P : α->Bool}{R : β->Bool}{f : α->γ}{g : β->γ}:∀{as:List α}{bs:List β},as.length=bs.length->(∀(i:Nat) a b,as[i]?=some a->bs[i]?=some b->P a=R b/\f a=g b)->(as.find? P).map f=(bs.find? R).map g
 | [],[],_,_=>rfl
 | [],b::bs,h,_=>by simp at h
 | a::as,[],h,_=>by simp at h
 | a::as,b::bs,h,k=>by
  let(h1,h2):=k 0 a b rfl rfl;have ih:=Jf0 (as:=as) (bs:=bs) (by simpa using h) λi x y hx hy=>k (i+1) x y (by simpa using hx) (by simpa using hy);rw[List.find?_cons,List.find?_cons,h1];cases R b with
  | true=>show congrArg some h2
  | false=>show ih
theorem Ji9{lv w:Str->Rat}{c:Rat}:∀(l:List Str),sm (λn=>lv n/c*w n) l=sm (λn=>lv n*w n) l/c
 | []=>by simp only[sm];grind
 | n::l=>by
  simp only[sm,Ji9 l];grind
abbrev RCs(b q0:Int)(ls:List PD)(es:List (GD × List Str))(pl:Str->Int × Int)(ms:List (Str × (Int × Int))):Prop:=RC b q0 (ls.map (·.nm)) (wtF ls) (λn=>moF ls n*(b:Rat)) (gpB b es pl) ms
abbrev RSs(b:Int)(ls:List PD)(es:List (GD × List Str))(pl:Str->Int × Int)(lvs:List (Str × (Int × Int)))(lds:List LidD):Prop:=RSt b (ls.map (·.nm)) (wtF ls) (λn=>moF ls n*(b:Rat)) (gpB b es pl) lvs lds
def lvf(b:Int)(lvs:List (Str × (Int × Int)))(n:Str):Rat:=lvv lvs n/(b:Rat)
theorem JmL(rc:RCs b q0 ls es pl ms)(rs:RSs b ls es pl lvs lds)(hl:(ls.map (·.nm)).length<=lvs.length){n:Str}(hn:n∈ls.map (·.nm)):∃ x∈lvs,x.1=n/\lvv lvs n=vl x.2:=by
 let(x,a,e):=mem_map.mp (rs.all rc hl n hn);let(L,c):=rs.inv;have e:x.1=n:=e;show(x,a,e,e ▸ Jeg c.nd a)
theorem sh_at(rs:RSs b ls es pl lvs lds){x:Str × (Int × Int)}(hx:x∈lvs):lvv lvs x.1=vl x.2:=by
 let(L,a):=rs.inv;show Jeg a.nd hx
theorem sh_lv(rc:RCs b q0 ls es pl ms)(rs:RSs b ls es pl lvs lds){x:Str × (Int × Int)}(hx:x∈lvs):FB 2800 600 x.2:=by
 let(L,d):=rs.inv;let(D,c):=rs.bt;have e:=d.a x hx;have g:=rc.mq x.1 (d.sub _ (mem_map.mpr ⟨x,hx,rfl⟩));have f:=rs.lo x hx;have i:=rs.len rc;have h:=rc.l12;show((c.dl x hx).up rc.b1).fb (m:=2200) (n:=600) f.b1 f.g1 c.D1 (c.sD.mono ∅) e.1 (Rat.le_trans e.2.2 g) rc.sQ
theorem Ji8(hw:∀ e∈es,(∀ n∈e.2,n∈ls.map (·.nm))/\e.2.Nodup)(rc:RCs b q0 ls es pl ms)(rs:RSs b ls es pl lvs lds)(hl:(ls.map (·.nm)).length<=lvs.length):∃ D,ShF ls es pl (lvf b lvs) D:=by
 let(L,r):=rs.inv;let(D,j):=rs.bt;have F:=r.fair rc.wpos (λg d=>(rc.gw g d).1) (rs.all rc hl);have f:(0:Rat)<(b:Rat):=by have:=rc.b1;exact_mod_cast (show 0<b by ac_nf)
 have m:=JaF rc.b1;have e:∀ n,lvf b lvs n*(b:Rat)=lvv lvs n:=λn=>Rat.div_mul_cancel m;have t:=rs.len rc;have o:=rc.l12;have k:∀ l,sm (λn=>lvf b lvs n*wtF ls n) l*(b:Rat)=sm (λn=>lvv lvs n*wtF ls n) l:=λl=>by
  unfold lvf;rw[Ji9,Rat.div_mul_cancel m]
 show(D,hw,⟨λn a=>?_,λn a=>?_,λg d=>?_,λn a=>?_⟩,j.D1,j.sD.mono ∅,λn a=>?_)
 .rw[<- scaled f,e,Rat.zero_mul];show F.lo n a
 .rw[<- scaled f,e];show F.hi n a
 .let(x,c,rfl):=Jgz d;rw[<- scaled f,k];show F.fit ⟨vl (roomF pl x.1)*(b:Rat),x.2⟩ (mem_map.mpr ⟨x,c,rfl⟩)
 .rcases F.stop n a with h | ⟨g,d,h1,i,h3⟩
  .left
   have:=e n;rw[h]at this;grind
  .right
   let(x,c,rfl):=mem_map.mp d;show(⟨vl (roomF pl x.1),x.2⟩,mem_map.mpr ⟨x,c,rfl⟩,h1,?_,λq s=>?_)
   .have i:sm (λn=>lvv lvs n*wtF ls n) x.2=vl (roomF pl x.1)*(b:Rat):=i;rw[<- k]at i;show sm (λn=>lvf b lvs n*wtF ls n) x.2=vl (roomF pl x.1);grind
   .rw[<- scaled f,e,e];show h3 q s
 .let(x,c,rfl,p):=JmL rc rs hl a;unfold lvf;rw[p];show j.dl x c
theorem Jld(rc:RCs b q0 ls es pl ms)(rs:RSs b ls es pl lvs lds)(hl:(ls.map (·.nm)).length<=lvs.length){i:Nat}{e:GD × List Str}{l:LidD}(he:es[i]?=some e)(hli:lds[i]?=some l){x:Str × (Int × Int)}(hx:x∈lvs):((wtOf l.ws x.1).isSome&&(decide (l.rest=(0,1))&&decide (l.last=x.2)))=stp (wtF ls) (lvf b lvs) pl x.1 e:=by
 have a:=rs.ok.2 i ⟨vl (roomF pl e.1)*(b:Rat),e.2⟩ l (by unfold gpB;rw[List.getElem?_map,he];rfl) hli;have r:(0:Rat)<(b:Rat):=by have:=rc.b1;exact_mod_cast (show 0<b by ac_nf)
 have s:=JaF rc.b1;have d:∀ n,lvf b lvs n*(b:Rat)=lvv lvs n:=λn=>Rat.div_mul_cancel s;have w:∀ l,sm (λn=>lvf b lvs n*wtF ls n) l*(b:Rat)=sm (λn=>lvv lvs n*wtF ls n) l:=λl=>by
  unfold lvf;rw[Ji9,Rat.div_mul_cancel s]
 have all:=rs.all rc hl;have o:=(rc.gw ⟨vl (roomF pl e.1)*(b:Rat),e.2⟩ (by unfold gpB;show mem_map.mpr ⟨e,List.mem_of_getElem? he,rfl⟩)).1;have m:=rs.lo x hx;have f:=sh_at rs hx;unfold stp;have v:(wtOf l.ws x.1).isSome=decide (x.1∈e.2):=by
  by_cases c:x.1∈e.2
  .rw[decide_eq_true c];cases h:wtOf l.ws x.1 with
   | none=>show absurd (a.pm.mem_iff.mpr c) (Jg7.mp h)
   | some k=>rfl
  .rw[decide_eq_false c,Jg7.mpr λz=>c (a.pm.mem_iff.mp z)];rfl
 have y:decide (l.rest=(0,1))=decide (sm (λq=>lvf b lvs q*wtF ls q) e.2=vl (roomF pl e.1)):=by
  show decide_eq_decide.mpr ?_;have j:l.rest=(0,1)↔vl l.rest=0:=by
   rw[<- Jg6];show(λh=>by rw[h],λh=>a.low.inj ⟨Int.le_refl 1,by unfold Mth.g;simp⟩ h)
  have p:vl l.rest=vl (roomF pl e.1)*(b:Rat)-sm (λn=>lvv lvs n*wtF ls n) e.2:=a.rest;rw[j,p, <- w];constructor <;> intro h <;> grind
 rw[v,y];by_cases c:x.1∈e.2
 .have u:decide (l.last=x.2)=decide (∀ q∈e.2,lvf b lvs q<=lvf b lvs x.1):=by
   show decide_eq_decide.mpr ?_;have j:l.last=x.2↔vl l.last=lvv lvs x.1:=by
    rw[f];show(λh=>by rw[h],λh=>a.llow.inj m h)
   rw[j];constructor
   .intro h q t;rw[<- scaled r,d,d, <- h];show a.l1 q t (all q (o q t))
   .intro h;let(n,B,_,A):=a.l2 ⟨x.1,c,all _ (o _ c)⟩;have p:=h n B;rw[<- scaled r,d,d,A]at p;have C:=a.l1 x.1 c (all _ (o _ c));grind
  rw[u]
 .rw[decide_eq_false c];rfl
theorem JlM(hw:∀ e∈es,(∀ n∈e.2,n∈ls.map (·.nm))/\e.2.Nodup)(rc:RCs b q0 ls es pl ms)(rs:RSs b ls es pl lvs lds)(hl:(ls.map (·.nm)).length<=lvs.length)(hn:lds.map (·.nm)=es.map (·.1.nm)){x:Str × (Int × Int)}(hx:x∈lvs)(hne:vl x.2≠moF ls x.1*(b:Rat)):∃ l e,lds.find? (λl=>(wtOf l.ws x.1).isSome&&(decide (l.rest=(0,1))&&decide (l.last=x.2)))=some l/\es.find? (stp (wtF ls) (lvf b lvs) pl x.1)=some e/\l.nm=e.1.nm:=by
 have d:lds.length=es.length:=by simpa using congrArg List.length hn
 have m:=Jf0 (P:=λl:LidD=>(wtOf l.ws x.1).isSome&&(decide (l.rest=(0,1))&&decide (l.last=x.2))) (R:=stp (wtF ls) (lvf b lvs) pl x.1) (f:=λl:LidD=>l.nm) (g:=λe:GD × List Str=>e.1.nm) d λi l e c a=>⟨Jld rc rs hl a c hx,by
  have:=congrArg (·[i]?) hn;simp only[List.getElem?_map,c,a]at this;show Option.some.inj this⟩
 let(D,F):=Ji8 hw rc rs hl;let(L,o):=rs.inv;have j:=o.sub _ (mem_map.mpr ⟨x,hx,rfl⟩);have q:=JaF rc.b1;have p:∃ e∈es,stp (wtF ls) (lvf b lvs) pl x.1 e=true:=by
  rcases F.fair.stop x.1 j with h | ⟨g,hg,c,a,h3⟩
  .show absurd ?_ hne;rw[<- h, <- sh_at rs hx];show(Rat.div_mul_cancel q).symm
  .let(e,k,rfl):=Jgz hg;show(e,k,?_);unfold stp;rw[decide_eq_true c,decide_eq_true a,decide_eq_true h3];rfl
 cases hf:es.find? (stp (wtF ls) (lvf b lvs) pl x.1)with
 | none=>
  let(e,k,h):=p;have:=List.find?_eq_none.mp hf e k;show absurd h this
 | some e=>
  rw[hf]at m;let(l,c,a):=Option.map_eq_some_iff.mp m;show(l,e,c,rfl,a)
theorem JlO(hc:SHC ls es pl)(rc:RCs b q0 ls es pl ms)(rs:RSs b ls es pl lvs lds){p:PD}(hp:p∈ls){x:Str × (Int × Int)}(hx:x∈lvs)(e1:x.1=p.nm)(he:vl x.2=moF ls x.1*(b:Rat)):ShRow ls es pl (lvf b lvs) p ⟨p.nm,p.mo,none⟩:=by
 have c:=JaF rc.b1;have a:=JaF (hc.pok p hp).w;show(rfl,(hc.pb p hp).2.lo,?_, .inl ⟨rfl,rfl⟩);show vl p.mo=_;unfold lvf;rw[<- e1,sh_at rs hx,he,e1,Jf6 hc.nd hp];grind
theorem JlN(hc:SHC ls es pl)(rc:RCs b q0 ls es pl ms)(rs:RSs b ls es pl lvs lds){p:PD}(hp:p∈ls){x:Str × (Int × Int)}(hx:x∈lvs)(e1:x.1=p.nm)(hne:vl x.2≠moF ls x.1*(b:Rat)){t:Int × Int}(ht:LoInv (mulF x.2 (p.wt,1)) b t){e:GD × List Str}(hf:es.find? (stp (wtF ls) (lvf b lvs) pl x.1)=some e):ShRow ls es pl (lvf b lvs) p ⟨p.nm,t,some e.1.nm⟩:=by
 have j:=JaF rc.b1;have i:=JaF (hc.pok p hp).w;have g:=rs.lo x hx;have h:=Jfh (a:=x.2) (c:=(p.wt,1)) g.b1 (Int.le_refl 1);have d:=ht.vl h.b1 rc.b1;rw[JkL g.b1 (Int.le_refl 1),Jgo]at d;have f:vl t=lvf b lvs p.nm*(p.wt:Rat):=by
  unfold lvf;rw[<- e1,sh_at rs hx,d];grind
 show(rfl,ht.lo,f, .inr ⟨λz=>hne ?_,e,by rw[<- e1];show hf,rfl⟩);have z:t=p.mo:=z;rw[z]at d;rw[e1,Jf6 hc.nd hp,d];grind
section
variable{a b c d B:TS}{D:Ends}
end
structure Nxt(R:St->Hp->Prop)(b:TS)(D:Ends):Prop where
 go:∀{σ : St}{H:Hp},b D σ H->R σ H
theorem JfH{a b:TS}{D:Ends}(h:∀ R,Nxt R b D->a { D with nx:=R } σ H):tSeq a b D σ H:=h _ ⟨λz=>z⟩
variable{a b:Str}
theorem Jh5{w1 w2:List Pr}(h:JaQ ls a (w1++pr::w2) b):∃ f g,JaQ ls a w1 f/\(g,pr)∈JaB ls f/\JaQ ls g w2 b:=by
 generalize e:w1++pr::w2=w at h;induction h generalizing w2 with
 | nil=>simp at e
 | @snoc w f g' pr' hw hm ih=>
  rcases List.eq_nil_or_concat w2 with rfl | ⟨u,x,rfl⟩
  .let(c,d):=List.append_inj' e rfl;cases d;show(f,g',c ▸ hw,hm, .nil)
  .rw[List.concat_eq_append]at e ⊢;have n:(w1++pr::u)++[x]=w++[pr']:=by rw[<- e];simp
   let(c,d):=List.append_inj' n rfl;cases d;let(j,l,m,i,k):=ih c;show(j,l,m,i, .snoc k hm)
theorem JdJ{w:List Pr}(h:JaQ ls a w b)(hn:n∉w.map (·.1)):Conn (ls.filter λx=>decide (x.nm≠n)) a b:=by
 induction h with
 | nil=>show .refl
 | snoc _ hm ih=>
  rw[map_append]at hn;show(ih λz=>hn (List.mem_append_left _ z)).trans ?_;let(p,c,k):=Ja0.mp hm;show .lead (Ja0.mpr ⟨p,mem_filter.mpr ⟨c,?_⟩,k⟩);rw[decide_eq_true_iff];rintro rfl;show hn (mem_append_right _ ?_);rcases k with k | k
  .rw[k.2.2];simp
  .rw[k.2.2.2];simp
theorem Jjl(ht:Tree ls)(hne:∀ p∈ls,p.st≠p.en)(nd:(ls.map (·.nm)).Nodup){a b n:Str}{w w':List Pr}(h:JaQ ls a w b)(hn:(w.map (·.1)).Nodup)(h':JaQ ls a w' b)(hm:n∈w.map (·.1)):n∈w'.map (·.1):=by
 by_cases c:n∈w'.map (·.1)
 .show c
 exfalso;let((i,d),j,rfl):=mem_map.mp hm;let(s,y,rfl):=List.append_of_mem j;let(f,g,B,o,u):=Jh5 h;rw[map_append,map_cons,nodup_append]at hn;have v:i∉s.map (·.1):=λz=>hn.2.2 _ z _ mem_cons_self rfl;have r:i∉y.map (·.1):=(nodup_cons.mp hn.2.1).1;let(p,j,k):=Ja0.mp o;have en:p.nm=i:=by
  rcases k with k | k
  .show((Prod.mk.inj k.2.2).1).symm
  .show((Prod.mk.inj k.2.2.2).1).symm
 have t:=JdJ B v;have m:=JdJ u r;have A:=JdJ h' c;have e:∀ q∈ls.filter (λx=>decide (x.nm≠i)),q.st≠q.en:=λq C=>hne q (mem_filter.mp C).1;have l:Conn (ls.filter λx=>decide (x.nm≠i)) f g:=((t.symm e).trans A).trans (m.symm e);show ht p j ?_;rw[en];rcases k with k | k
 .rw[k.1,k.2.1];show l
 .rw[k.2.1,k.2.2.1];show l.symm e
theorem Jka(ht:Tree ls)(hne:∀ p∈ls,p.st≠p.en)(nd:(ls.map (·.nm)).Nodup){a b:Str}{w w':List Pr}(h:JaQ ls a w b)(hn:(w.map (·.1)).Nodup)(h':JaQ ls a w' b)(hn':(w'.map (·.1)).Nodup):(w.map (·.1)).Perm (w'.map (·.1)) :=
 (List.perm_ext_iff_of_nodup hn hn').mpr λ_=>⟨Jjl ht hne nd h hn h',Jjl ht hne nd h' hn' h⟩
noncomputable def wayN(ls:List PD)(g:GD):List Str:=open Classical in if h:∃ w:List Pr,JaQ ls g.st w g.en/\(w.map (·.1)).Nodup then h.choose.map (·.1)else[]
theorem Jju(ht:Tree ls)(hne:∀ p∈ls,p.st≠p.en)(nd:(ls.map (·.nm)).Nodup){g:GD}{w:List Pr}(h:JaQ ls g.st w g.en)(hn:(w.map (·.1)).Nodup):(wayN ls g).Perm (w.map (·.1)):=by
 have a:∃ w:List Pr,JaQ ls g.st w g.en/\(w.map (·.1)).Nodup:=⟨w,h,hn⟩;unfold wayN;rw[dif_pos a];show Jka ht hne nd a.choose_spec.1 a.choose_spec.2 h hn
def Sk(ks ls:List PD):Prop:=∀ p∈ks, ∃ q∈ls,q.nm=p.nm/\q.st=p.st/\q.en=p.en
theorem Jig(h:Sk ks ls){a b:Str}(c:Conn ks a b):Conn ls a b:=by
 let(w,c):=c;show(w,?_);induction c with
 | nil=>show .nil
 | snoc _ hm ih=>
  let(p,d,k):=Ja0.mp hm;let(q,g,e,i,f):=h p d;show .snoc ih (Ja0.mpr ⟨q,g,by rw[e,i,f];show k⟩)
theorem JlT(h:Sk ks ls)(ht:Tree ls):Tree ks:=λp e c=>by
 let(q,l,i,m,j):=h p e;show ht q l ?_;rw[m,j];show Jig (λx f=>?_) c;let(b,a):=mem_filter.mp f;let(y,n,d,k,g):=h x b;show(y,mem_filter.mpr ⟨n,?_⟩,d,k,g);rw[decide_eq_true_iff]at a ⊢;rw[d,i];show a
def spR(st:Nat)(ms:List (Int × Int)):List SpD:=ms.zipIdx.map λx=>⟨nmK 102 st x.2,nmK 102 st 0,x.1⟩
variable{st:Nat}{ms:List (Int × Int)}
theorem Jj8{m:Int × Int}:spR st (ms++[m])=spR st ms++[⟨nmK 102 st ms.length,nmK 102 st 0,m⟩]:=by
 unfold spR;rw[List.zipIdx_append,map_append];simp
theorem Jhu{i:Nat}{m:Int × Int}(h:ms[i]?=some m):(⟨nmK 102 st i,nmK 102 st 0,m⟩:SpD)∈spR st ms:=by
 unfold spR;show mem_map.mpr ⟨(m,i),?_,rfl⟩;rw[List.mem_iff_getElem?];show(i,by rw[List.getElem?_zipIdx,h];simp)
theorem JlQ:(spR st ms).length=ms.length:=by
 unfold spR;simp
structure Rw(st:Nat)(ls:List PD)(ms:List (Int × Int)):Prop where
 s2:st<=2
 G:Grn st ls (spR st ms)
 len:ms.length=ls.length+1
 wt:∀ p∈ls,Mth.Sz 21 p.wt
 zb:∀ p∈ls,FB 133 4 p.sz/\FB 100 6 p.mo
 mf:∀ i m,ms[i]?=some m->FB (134+5*i) (4*i+1) m
 fc:∀ i p,ls[i]?=some p->(p.st=nmK 102 st i/\p.en=nmK 102 st (i+1))\/(p.st=nmK 102 st (i+1)/\p.en=nmK 102 st i)
theorem Rw.start(h:st<=2):Rw st [] [(0,1)]:=⟨h,(Grn.nil (st:=st)).face,rfl,(λp a=>by cases a),(λp a=>by cases a),λi m h=>by
 have : i=0:=by
  have:=(List.getElem?_eq_some_iff.mp h).1;simp at this;show this
 subst this;cases h;show JeI.mono ⋯ ⋯,λi p h=>by simp at h⟩
theorem Rw.step{m:Int × Int}(h:Rw st ls ms)(hm:ms[ls.length]?=some m){p:PD}{d:Bool}(hnm:p.nm=nmK 112 st ls.length)(h1:p.st=if d then nmK 102 st ls.length else nmK 102 st (ls.length+1))(h2:p.en=if d then nmK 102 st (ls.length+1)else nmK 102 st ls.length)(hz:FB 133 4 p.sz)(hmo:FB 100 6 p.mo)(hok:POk p)(hw:Mth.Sz 21 p.wt) :
  Rw st (ls++[p]) (ms++[addF m (sgn d p.sz)]):=by
 have c:(spR st ms).length=ls.length+1:=by rw[JlQ];show h.len
 have f:=h.G.part (by have:=h.s2;ac_nf) (Jhu hm) hnm (d:=d) (by rw[c];show h1) (by rw[c];show h2) (hz.mono ⋯ ⋯) hok;show(h.s2,?_,by simp[h.len],λq a=>?_,λq a=>?_,λi x b=>?_,λi x b=>?_)
 .rw[Jj8,h.len];rw[c]at f;show f
 .rcases mem_append.mp a with a | a
  .show h.wt q a
  .rw[mem_singleton.mp a];show hw
 .rcases mem_append.mp a with a | a
  .show h.zb q a
  .rw[mem_singleton.mp a];show(hz,hmo)
 .rcases Ja1 b with b | ⟨q1,q2⟩
  .show h.mf i x b
  .rw[q1,q2,h.len];have e:FB 133 4 (sgn d p.sz):=by
    cases d
    .show hz.neg
    .show hz
   show(FB.add (n:=138+5*ls.length) (m:=4*ls.length+5) (h.mf _ _ hm) e ∅ ∅ ∅).mono ∅ ∅
 .rcases Ja1 b with b | ⟨q1,q2⟩
  .show h.fc i x b
  .rw[q1,q2,h1,h2];cases d
   .show .inr ⟨rfl,rfl⟩
   .show .inl ⟨rfl,rfl⟩
variable{a:Int × Int}
theorem Rw.at_{i:Nat}(h:Rw st ls ms)(hi:ms[i]?=some a):spOf (spR st ms) (nmK 102 st i)=a:=h.G.pl_at (Jhu hi)
theorem Rw.mb(h:Rw st ls ms)(l:ls.length<=8){i:Nat}{a:Int × Int}(hi:ms[i]?=some a):FB 302 161 a:=by
 rw[<- h.at_ hi];show h.G.plb l _
theorem Rw.gap{i:Nat}{b:Int × Int}(h:Rw st ls ms)(hi:ms[i]?=some a)(hj:ms[j]?=some b){g:GD}(h1:g.st=nmK 102 st i)(h2:g.en=nmK 102 st j):Conn ls g.st g.en/\mid (spOf (spR st ms)) g=addF b (negF a):=by
 show(?_,?_)
 .rw[h1,h2];show h.G.joined (Jhu hi) (Jhu hj) rfl
 .unfold mid;rw[h1,h2,h.at_ hi,h.at_ hj]
variable{u v:Int × Int}
theorem JlI{m:Int × Int}{g:GD}{D E F:Nat}(hm:FB A B m)(hu:FB C D u)(hv:FB E F v)(e:mid pl g=m)(e1:g.lo=addF m (negF u))(e2:g.hi=addF m v):(roomF pl g=u\/roomF pl g=v)/\(0<=vl u->0<=vl v->0<=vl (roomF pl g))/\(vl u<0\/vl v<0->vl (roomF pl g)<0):=by
 have d:roomF pl g=if lessF v u then v else u:=by
  unfold roomF;rw[e,e1,e2,JkQ hm hv,JkR hm hu]
 have b:=Jcm (a:=v) (c:=u) hv.b1 hu.b1;rw[d];by_cases c:lessF v u=true
 .rw[if_pos c];have:=b.mp c;show(.inr rfl,λ_ h=>h,λh=>h.elim (λh=>?_) id);grind
 .rw[if_neg c];have : ¬ vl v<vl u:=λz=>c (b.mpr z);show(.inl rfl,λh _=>h,λh=>h.elim id λh=>?_);grind
theorem pick9{n:Nat}(h:n<2):∃ om:Int,[V.int 9, .int 10000000000000000000000000000000000000000][n]?=some (.int om)/\1<=om/\om<=10000000000000000000000000000000000000000:=by
 match n,h with
 | 0,_ | 1,_=>show(_,rfl,by decide,by decide)
 | n+2,h=>ac_nf
structure ThO(ks:List PD)(gs:List GD)(pl:Str->Int × Int):Prop where
 l8:ks.length<=8
 g6:gs.length<=6
 nd:(ks.map (·.nm)).Nodup
 gnd:(gs.map (·.nm)).Nodup
 pok:∀ p∈ks,POk p
 zb:∀ p∈ks,FB 133 4 p.sz/\FB 100 6 p.mo
 wt:∀ p∈ks,Mth.Sz 21 p.wt
 tr:Tree ks
 con:∀ g∈gs,Conn ks g.st g.en
 tok:∀ g∈gs,TOk g.td
 gb:∀ g∈gs,(1<=g.lo.2/\Mth.Sz 70 g.lo.2)/\1<=g.hi.2/\Mth.Sz 70 g.hi.2
 rb:∀ g∈gs,FB 200 16 (roomF pl g)
 plb:∀ f,FB 302 161 (pl f)
 pls:∀ p∈ks,vl (pl p.en)=vl (pl p.st)+vl p.sz
noncomputable def esN(ks:List PD)(gs:List GD):List (GD × List Str):=gs.map λg=>(g,wayN ks g)
variable{gs:List GD}
theorem Jiq:(esN ks gs).map (·.1)=gs:=by
 unfold esN;rw[map_map];show List.map_id _
theorem JdX:∀{gs:List GD}{p q:GD},(gs.map (·.nm)).Nodup->p∈gs->q∈gs->p.nm=q.nm->p=q
 | [],_,_,_,hp,_,_=>by cases hp
 | a::gs,p,q,hn,hp,hq,e=>by
  rw[map_cons,nodup_cons]at hn;rcases mem_cons.mp hp with h1 | h1 <;> rcases mem_cons.mp hq with h2 | h2
  .rw[h1,h2]
  .subst h1;show absurd (e ▸ mem_map.mpr ⟨q,h2,rfl⟩) hn.1
  .subst h2;show absurd (e ▸ mem_map.mpr ⟨p,h1,rfl⟩) hn.1
  .show JdX hn.2 h1 h2 e
theorem ThO.shc(h:ThO ks gs pl):SHC ks (esN ks gs) pl:=by
 have a:∀ e∈esN ks gs,e.1∈gs/\e.2=wayN ks e.1:=λe b=>by
  let(g,k,rfl):=mem_map.mp b;show(k,rfl)
 have l:=h.l8;have m:=h.g6;have n:(esN ks gs).length=gs.length:=by unfold esN;rw[length_map]
 show(by ac_nf,by ac_nf,by ac_nf,h.nd,λe b u d f=>?_,h.pok,λp c=>⟨⟨(h.zb p c).1.b1,(h.zb p c).1.s2.mono ⋯⟩,(h.zb p c).2.mono ⋯ ⋯⟩,h.wt,λe b=>h.tok _ (a e b).1,λe b=>h.gb _ (a e b).1,λe b=>h.rb _ (a e b).1,h.plb,h.pls,λe b w j i=>?_)
 .rw[Jiq]at d;show JdX h.gnd d (a e b).1 f
 .rw[(a e b).2];show Jju h.tr (λp c=>(h.pok p c).ne) h.nd j i
theorem fcK{i:Nat}:(⟨#[102+i]⟩:PySem.Str)=nmK 102 st i:=by
 unfold nmK;simp
variable{z1 z2:Str}
theorem nm_eq{i:Nat}(h1:z1.cps.toList=List.replicate st 120++[97+i])(h2:z2.cps.toList=List.replicate (2-st) 120):z1++z2=nmK 112 st i:=by
 have : (z1++z2).cps=(nmK 112 st i).cps:=by
  apply Array.toList_inj.mp;rw[JdU,h1,h2];unfold nmK;simp
 cases a:z1++z2;cases b:nmK 112 st i;rw[a,b]at this
 congr
def GOq(st:Nat)(ms:List (Int × Int))(g:GD)(u v:Int × Int):Prop:=∃ i j a b,i≠j/\ms[i]?=some a/\ms[j]?=some b/\g.st=nmK 102 st i/\g.en=nmK 102 st j/\FB 6 3 u/\FB 6 3 v/\g.lo=addF (addF b (negF a)) (negF u)/\g.hi=addF (addF b (negF a)) v/\0<=vl u+vl v
section
variable{g:GD}
theorem Rw.mm(hC:Rw st ls ms)(l7:ls.length<=8){i j:Nat}{a b:Int × Int}(hi:ms[i]?=some a)(hj:ms[j]?=some b):FB 208 66 (addF b (negF a)):=by
 have d:=(List.getElem?_eq_some_iff.mp hi).1;have e:=(List.getElem?_eq_some_iff.mp hj).1;have c:=hC.len;show FB.add (n:=207) (m:=66) ((hC.mf _ _ hj).mono (C:=174) (D:=33) ∅ ∅) ((hC.mf _ _ hi).mono (C:=174) (D:=33) ∅ ∅).neg ⋯ ⋯ ⋯
theorem GOq.room(hC:Rw st ls ms)(l7:ls.length<=8)(h:GOq st ms g u v):(roomF (spOf (spR st ms)) g=u\/roomF (spOf (spR st ms)) g=v)/\(0<=vl u->0<=vl v->0<=vl (roomF (spOf (spR st ms)) g))/\(vl u<0\/vl v<0->vl (roomF (spOf (spR st ms)) g)<0):=by
 let(i,j,a,b,_,c,d,k,e,m,f,l,n,_):=h;show JlI (hC.mm l7 c d) m f (hC.gap c d k e).2 l n
theorem JmR(hC:Rw st ls ms)(l7:ls.length<=8)(kl:ks.length<=8)(knd:(ks.map (·.nm)).Nodup)(pok:∀ p∈ks,POk p)(zb:∀ p∈ks,FB 133 4 p.sz/\FB 100 6 p.mo)(wt:∀ p∈ks,Mth.Sz 21 p.wt)(hk:∀ p∈ks, ∃ q∈ls,q.nm=p.nm/\q.st=p.st/\q.en=p.en/\q.sz=p.sz)(hk':Sk ls ks)
  (g6:gs.length<=6) (gnd:(gs.map (·.nm)).Nodup) (hg:∀ g∈gs,nameS g.nm=true/\∃ u v,GOq st ms g u v):ThO ks gs (spOf (spR st ms)):=by
 have F:Sk ks ls:=λp D=>by
  let(q,s,m,d,B,_):=hk p D;show(q,s,m,d,B)
 have N:=hC.s2;have J:=hC.len;show(by ac_nf,g6,knd,gnd,pok,zb,wt,JlT F hC.G.tr,λg h=>?_,λg h=>?_,λg h=>?_,λg h=>?_,λf=>hC.G.plb ∅ f,λp D=>?_)
 .let(_,u,v,i,j,a,b,_,r,n,y,x,_):=hg g h;show Jig hk' (hC.gap r n y x).1
 .let(E,u,v,i,j,a,b,A,r,n,y,x,t,o,m,d,K):=hg g h;have fm:=hC.mm l7 r n;have L:=(List.getElem?_eq_some_iff.mp r).1;have M:=(List.getElem?_eq_some_iff.mp n).1;have k:=FB.add' fm t.neg;have l:=FB.add' fm o;rw[<- m]at k;rw[<- d]at l;show(E,by show nameS g.st=true;rw[y];show Jdi ⋯ ∅ ∅,by show nameS g.en=true;rw[x];show Jdi ⋯ ∅ ∅,λz=>?_,λw C=>?_,λw C=>?_,?_)
  .have z:g.st=g.en:=z;rw[y,x]at z;show A (Jdx z)
  .cases C;show k.ok ⋯ ⋯
  .cases C;show l.ok ⋯ ⋯
  .have I:=Jcm (a:=g.hi) (c:=g.lo) l.b1 k.b1;show lessD (bD (some g.hi)) (bD (some g.lo))=false;cases c:lessF g.hi g.lo with
   | false=>show c
   | true=>
    exfalso;have:=I.mp c;rw[m,d,fm.vadd t.neg,fm.vadd o,Jc1]at this;grind
 .let(E,u,v,i,j,a,b,A,r,n,y,x,t,o,m,d,K):=hg g h;have fm:=hC.mm l7 r n;have k:=FB.add' fm t.neg;have l:=FB.add' fm o;rw[<- m]at k;rw[<- d]at l;show(⟨k.b1,k.s2.mono ⋯⟩,l.b1,l.s2.mono ⋯)
 .let(E,u,v,s):=hg g h;let(_,_,_,_,_,_,_,_,_,t,o,_):=id s;rcases(s.room hC l7).1 with e | e
  .rw[e];show t.mono ⋯ ⋯
  .rw[e];show o.mono ⋯ ⋯
 .let(q,s,m,d,B,H):=hk p D;rw[<- d, <- B, <- H];show hC.G.pls q s
end
section
variable{Q:VK}{k:Nat}{g:TG}
end
theorem JiG:negF (negF a)=a:=by
 unfold negF;simp
theorem ThO.isc(h:ThO ks gs pl)(l7:ks.length<=8):ISC ks (esN ks gs) pl:=by
 have s:=h.shc;show(l7,by unfold esN;rw[length_map];show h.g6,s.nd,s.gn,s.pok,λp a=>⟨(h.zb p a).1.mono ⋯ ⋯,(h.zb p a).2⟩,s.tok,s.gb,s.rb,s.plb,s.pls,s.way)
def gnS(st k:Nat):Str:=⟨(List.replicate st 120++([111+k]++List.replicate (2-st) 120)).toArray⟩
theorem gn_eq{i:Nat}(h1:z1.cps.toList=List.replicate st 120++[111+i])(h2:z2.cps.toList=List.replicate (2-st) 120):z1++z2=gnS st i:=by
 have : (z1++z2).cps=(gnS st i).cps:=by
  apply Array.toList_inj.mp;rw[JdU,h1,h2];unfold gnS;simp
 cases a:z1++z2;cases b:gnS st i;rw[a,b]at this
 congr
theorem Jmg:∀ st,st<=2->∀ k,k<6->nameS (gnS st k)=true:=by decide
theorem Jk2:∀ st,st<=2->∀ i,i<6->∀ j,j<6->gnS st i=gnS st j->i=j:=by decide
def GOm(st:Nat)(ms:List (Int × Int))(g:GD)(m u v:Int × Int):Prop:=∃ i j a b,i≠j/\ms[i]?=some a/\ms[j]?=some b/\g.st=nmK 102 st i/\g.en=nmK 102 st j/\m=addF b (negF a)/\FB 6 3 u/\FB 6 3 v/\g.lo=addF m (negF u)/\g.hi=addF m v/\0<=vl u+vl v
theorem GOm.q{g:GD}{m:Int × Int}(h:GOm st ms g m u v):GOq st ms g u v:=by
 let(i,j,a,b,p,e,n,o,r,rfl,k,f,d,l,c):=h;show(i,j,a,b,p,e,n,o,r,k,f,d,l,c)
structure GsM(s2 st:Nat)(ms:List (Int × Int))(gs:List GD)(ds:List (Int × Int)):Prop where
 s:s2<=2
 nm:∀(i:Nat) g,gs[i]?=some g->g.nm=gnS s2 i
 l1:1<=gs.length
 l6:gs.length<=6
 ld:ds.length=gs.length
 ok:∀(i:Nat) g m,gs[i]?=some g->ds[i]?=some m->∃ u v,GOm st ms g m u v
variable{s2:Nat}{ds:List (Int × Int)}
theorem GsM.nd(h:GsM s2 st ms gs ds):(gs.map (·.nm)).Nodup:=by
 have e:gs.map (·.nm)=(List.range gs.length).map (gnS s2):=by
  show List.ext_getElem? λi=>?_;rw[List.getElem?_map,List.getElem?_map];by_cases c:i<gs.length
  .rw[List.getElem?_range c,List.getElem?_eq_getElem c];show congrArg some (h.nm i _ (List.getElem?_eq_getElem c))
  .rw[List.getElem?_eq_none ∅,List.getElem?_eq_none (by rw[List.length_range];ac_nf)];rfl
 have d:=h.l6;rw[e];unfold List.Nodup;rw[List.pairwise_map];show List.Pairwise.imp_of_mem (R:=λa b=>a≠b) (λ{a b} ha hb hab q=>hab (Jk2 s2 h.s a (by have:=List.mem_range.mp ha;ac_nf) b (by have:=List.mem_range.mp hb;ac_nf) q)) List.nodup_range
theorem GsM.gok(h:GsM s2 st ms gs ds):∀ g∈gs,nameS g.nm=true/\∃ u v,GOq st ms g u v:=λg b=>by
 let(i,a):=List.getElem?_of_mem b;have e:=(List.getElem?_eq_some_iff.mp a).1;have c:=h.l6;have d:=h.ld;let(u,v,q):=h.ok i g ds[i] a (List.getElem?_eq_getElem ∅);show(by rw[h.nm i g a];show Jmg s2 h.s i ∅,u,v,q.q)
theorem JiC:∀{gs:List GD}{g n:GD}{i:Nat},(gs.map (·.nm)).Nodup->gs[i]?=some g->(gs.map λu=>if u.nm=g.nm then n else u)=gs.take i++[n]++gs.drop (i+1)
 | [],_,_,_,_,h=>by simp at h
 | a::gs,g,n,0,hn,h=>by
  have e:a=g:=by simpa using h
  subst e;rw[map_cons,nodup_cons]at hn;rw[map_cons,if_pos rfl];have : (gs.map λu=>if u.nm=a.nm then n else u)=gs:=by
   conv=>rhs;rw[<- List.map_id gs]
   show List.map_congr_left λu hu=>?_;rw[if_neg λz=>hn.1 (mem_map.mpr ⟨u,hu,z⟩)];rfl
  rw[this];simp
 | a::gs,g,n,i+1,hn,h=>by
  have h':gs[i]?=some g:=by simpa using h
  rw[map_cons,nodup_cons]at hn;have ne:a.nm≠g.nm:=λz=>hn.1 (mem_map.mpr ⟨g,List.mem_of_getElem? h',z.symm⟩);rw[map_cons,if_neg ne,JiC hn.2 h'];simp
theorem Jkx:∀{l:List α}{i:Nat}{n : α},i<l.length->l.take i++[n]++l.drop (i+1)=l.set i n
 | [],_,_,h=>by simp at h
 | a::l,0,n,_=>by simp
 | a::l,i+1,n,h=>by
  have:=Jkx (l:=l) (i:=i) (n:=n) (by simpa using h);simpa using this
theorem GsM.put{i:Nat}{g n:GD}{m:Int × Int}(h:GsM s2 st ms gs ds)(hi:gs[i]?=some g)(hm:ds[i]?=some m)(hn:n.nm=g.nm)(hq:∃ u v,GOm st ms n m u v):GsM s2 st ms (gs.take i++[n]++gs.drop (i+1)) ds:=by
 have e:=(List.getElem?_eq_some_iff.mp hi).1;rw[Jkx e];have d:∀(j:Nat) w,(gs.set i n)[j]?=some w->(j=i/\w=n)\/gs[j]?=some w:=λj w a=>by
  rw[List.getElem?_set]at a;by_cases c:i=j
  .rw[if_pos c,if_pos e]at a;show .inl ⟨c.symm,(Option.some.inj a).symm⟩
  .rw[if_neg c]at a;show .inr a
 show(h.s,λj w a=>?_,by rw[List.length_set];show h.l1,by rw[List.length_set];show h.l6,by rw[List.length_set];show h.ld,λj w f a b=>?_)
 .rcases d j w a with⟨rfl,rfl⟩ | a
  .rw[hn];show h.nm _ g hi
  .show h.nm j w a
 .rcases d j w a with⟨rfl,rfl⟩ | a
  .rw[hm]at b;cases b;show hq
  .show h.ok j w f a b
theorem GsM.mids(hC:Rw st ls ms)(l8:ls.length<=8)(h:GsM s2 st ms gs ds)(i:Nat)(g:GD)(m:Int × Int)(hi:gs[i]?=some g)(hm:ds[i]?=some m):mid (spOf (spR st ms)) g=m/\FB 300 80 m/\FB 300 80 g.lo/\FB 300 80 g.hi:=by
 let(u,v,p,o,a,b,_,c,d,k,e,rfl,n,f,l,j,_):=h.ok i g m hi hm;have fm:=hC.mm l8 c d;show((hC.gap c d k e).2,fm.mono ⋯ ⋯,?_,?_)
 .rw[l];show(FB.add' fm n.neg).mono ⋯ ⋯
 .rw[j];show(FB.add' fm f).mono ⋯ ⋯
theorem Jmc(p:PD):depD (pdD p)<=3:=by
 simp[pdD,frD,depD,depL]
variable{p:Addr}{ys:List V}
theorem eqPs{K:W.Frag}{q:Addr}(hp:SqL K H p xs)(hx:All2 (PDV K H) ls xs)(hq:SqL K H q ys)(hy:All2 (PDV K H) ls ys):Rep K H (.lst (ls.map pdD)) (.ref p)/\Rep K H (.lst (ls.map pdD)) (.ref q)/\depD (.lst (ls.map pdD))<=4:=by
 show(by simp only[Rep];show(p,xs,rfl,hp,All2.repL (f:=pdD) (λ_ _=>PDV.rep) hx),by simp only[Rep];show(q,ys,rfl,hq,All2.repL (f:=pdD) (λ_ _=>PDV.rep) hy),?_);rw[depD];have:=JdV Jmc ls;ac_nf
theorem nePs{K:W.Frag}{Q:VK}{q:Addr}(hp:SqL K H p xs)(hx:All2 (PDV K H) ls xs)(hq:SqL K H q ys)(hy:All2 (PDV K H) ls ys)(k:Q (.bl false) H):rNeU K (.ref p) (.ref q) H Q:=by
 let(a,b,c):=eqPs hp hx hq hy;show(_,_,a,b,by ac_nf,rfl,?_);rw[Jb8];show k
variable{n:Nat}{c x:Int}
theorem szF{m:Int}(hm:0<m)(h1 : -(2 ^ n)<c)(h2:c+m<=2 ^ n):Mth.Sz n (c+x.fmod m):=by
 have:=Mth.fm (x:=x) hm;show .lit ∅ ∅
theorem szG{m:Int}(hm:0<m)(h2:m<=2 ^ n):Mth.Sz n (x.fmod m):=by
 have:=szF (c:=0) (x:=x) hm ∅ (by ac_nf:0+m<=2 ^ n)
 rwa [Int.zero_add]at this
theorem szH{m:Int}(hm:0<m)(h1 : -(2 ^ n)<c)(h2:c+m<=2 ^ n):Mth.Sz n (x.fmod m+c):=by
 rw[Int.add_comm];show szF hm h1 h2
theorem fm1{m:Int}(hm:0<m):1<=1+x.fmod m:=Int.le_add_of_nonneg_right (Mth.fm hm).1
theorem tn2{s:Nat}(h:s<=2):((2:Int)-(s:Int)).toNat=2-s:=by ac_nf
end L2
open PySem L2
local macro_rules|`(tactic|rename_i $p:ident $h:ident $q:ident $H:ident $G:ident $S:ident $e:ident)=>`(tactic|(intro $p:ident $h:ident;generalize $q:ident:upd $H $p _=$G;have $S:ident:=newS $h $q;have $e:ident:=newE $q))
local macro_rules|`(tactic|bv_decide)=>`(tactic|exact ⟨rfl,rfl,rfl,by decide +kernel,rfl,by decide +kernel,by decide +kernel⟩)
local macro_rules|`(tactic|simpa! only [$xs,*])=>do let l<-(("y52y y54y y76y y2by y71y y85y y49y y2fy y7dy y99y y31y y3ey y77y y30y y8fy y23y y7ey y79y y2ay y7fy y7by y5ey y9by y26y y8dy y75y y4ey y6dy y82y y34y y4cy y73y y4dy y74y y72y y94y y68y y64y y96y y98y y25y y6cy y24y yby yay y17y y1dy y1fy y21y y1ey y22y y8by y81y y78y y92y y9cy y83y y27y V.int.injEq V.str.injEq V.bl.injEq y5ay y5cy y2dy y2ey y6fy y63y y7ay y69y y6by y3fy y40y y41y y48y y4ay y43y y80y y44y y35y y37y y3cy y42y y46y y55y y57y y5fy y3ay y91y y8ey y38y y92y y84y y6ay y2cy y8ay y50y".splitOn " ").map (`L2++·.toName)++("true_and if_true if_false Bool.not_true Bool.not_false Bool.false_eq_true List.set_cons_zero List.set_cons_succ List.getElem?_cons_zero List.getElem?_cons_succ Option.some.injEq exists_eq_left exists_eq_left' Int.reduceToNat Int.reducePow append_nil nil_append cons_append reduceCtorEq decide_false decide_true".splitOn " ").map (·.toName)).toArray.mapM fun s=>`(Lean.Parser.Tactic.simpLemma|$(Lean.mkIdent s):term);`(tactic|simp only [$(l.foldl (fun a x=>a.push ⟨x.raw⟩) xs.getElems),*])
local macro_rules|`(tactic|mstop)=>`(tactic|simpa! only [y88y])
local macro_rules|`(tactic|mstart)=>`(tactic|simpa! only [y88y,y4fy])
local macro_rules|`(tactic|cutsat)=>`(tactic|simpa! only [y88y,y89y])
local macro_rules|`(tactic|simp_all only [$xs,*])=>`(tactic|((try simpa! only [$xs,*]);repeat ((first|(with_reducible refine JfH fun _ _=>?_)|(with_reducible refine Nxt.go (by assumption) ?_));(try simpa! only [$xs,*]))))
local macro_rules|`(tactic|mvcgen)=>`(tactic|simp_all only [y4fy,y89y])
local macro_rules|`(tactic|mexact)=>`(tactic|simp_all only [y89y])
local macro_rules|`(tactic|mleave)=>`(tactic|simp_all only [y4fy])
local macro_rules|`(tactic|cbv)=>`(tactic|simp_all only [true_and])
local macro_rules|`(tactic|mspec)=>`(tactic|(try ((with_reducible refine Nxt.go (by assumption) ?_);cbv)))
local macro_rules|`(tactic|mframe)=>`(tactic|(mspec;cbv))
local macro_rules|`(tactic|mpure)=>`(tactic|repeat (refine And.intro (by first | exact Jbh ⋯ | exact Jbj ⋯ | exact Jbi ⋯ | exact JaW ⋯ | exact Int.one_ne_zero | decide) ?_))
local macro_rules|`(tactic|simpa only [$xs,*])=>`(tactic|simpa! only [y88y, $xs,*])
namespace Prg
open PySem L2 Ch
variable{fd:FuncData}{dV:Value}{f:Addr}
def top(i:Nat):Stmt:=PySem.Challenge.pw_slackchain_k62_a_gap_changed.main.body.getD i (.Pass ⟨0,0,0,0⟩)
set_option genInjectivity false in
structure Adr where
 SlackError:Addr
 NoNumber:Addr
 NoName:Addr
 NoGap:Addr
 Apart:Addr
 InRing:Addr
 NoPart:Addr
 NoRow:Addr
 Off:Addr
 Twice:Addr
 Tight:Addr
 Part:Addr
 Gap:Addr
 Joints:Addr
 Thing:Addr
 Scale:Addr
 Lid:Addr
 SMALL_LETTERS:Value
 LONGEST_NAME:Value
 ZERO:Addr
structure PartC(K:W.Frag)(C:Addr):Prop where
 cls:Cls K C
 n1:JaV K C "name"
 n2:JaV K C "start"
 n3:JaV K C "end"
 n4:JaV K C "size"
 n5:JaV K C "most"
 n6:JaV K C "weight"
def IsPart(Ad:Adr)(C:Addr):Prop:=C=Ad.Part
structure GapC(K:W.Frag)(C:Addr):Prop where
 cls:Cls K C
 n1:JaV K C "name"
 n2:JaV K C "one"
 n3:JaV K C "other"
 n4:JaV K C "low"
 n5:JaV K C "high"
def IsGap(Ad:Adr)(C:Addr):Prop:=C=Ad.Gap
structure JkN(K:W.Frag)(C:Addr):Prop where
 cls:Cls K C
 n1:JaV K C "leads"
def Jde(Ad:Adr)(C:Addr):Prop:=C=Ad.Joints
structure Jl0(K:W.Frag)(C:Addr):Prop where
 cls:Cls K C
 n1:JaV K C "parts_by_name"
 n2:JaV K C "gaps_by_name"
 n3:JaV K C "ways"
def JaH(Ad:Adr)(C:Addr):Prop:=C=Ad.Thing
structure JlZ(K:W.Frag)(C:Addr):Prop where
 cls:Cls K C
 n1:JaV K C "bottom"
 n2:JaV K C "factors"
def Jc2(Ad:Adr)(C:Addr):Prop:=C=Ad.Scale
structure LidC(K:W.Frag)(C:Addr):Prop where
 cls:Cls K C
 n1:JaV K C "name"
 n2:JaV K C "rest"
 n3:JaV K C "weights"
 n4:JaV K C "load"
 n5:JaV K C "last_level"
def IsLid(Ad:Adr)(C:Addr):Prop:=C=Ad.Lid
variable{H:Hp}{a C:Addr}{xs:List V}
theorem SqT.put{K:W.Frag}{x dx:Addr}{fs fs':List (Str × V)}(hx:H x=some (.ins C dx fs))(h:SqT K H a xs):SqT K (upd H x (.ins C dx fs')) a xs:=by
 rcases h with(h | ⟨o,h⟩) | h
 .show .inl (.inl (by rw[Jag (ne_of h hx (by intro z;cases z))];show h))
 .show .inl (.inr ⟨o,by rw[Jag (ne_of h hx (by intro z;cases z))];show h⟩)
 .show .inr h
def partF(n s e z m w:V):List (Str × V):=[("name",n),("start",s),("end",e),("size",z),("most",m),("weight",w)]
def gapF(n s e l g:V):List (Str × V):=[("name",n),("one",s),("other",e),("low",l),("high",g)]
structure Txt(K:W.Frag)(mg:Str->Option Value)(Ad:Adr):Prop where
 BdX:mg "abs"=none
 Bad:mg "isinstance"=none
 Bb5:mg "len"=none
 Bd8:mg "int"=none
 Bd9:mg "bool"=none
 Bdr:mg "tuple"=none
 Bee:mg "str"=none
 BcW:mg "range"=none
 Bd2:mg "list"=none
 Bef:mg "min"=none
 Bea:mg "sorted"=none
 Beg:mg "all"=none
 n_sum:mg "sum"=none
 n_dict:mg "dict"=none
 Beh:mg "zip"=none
 n_ValueError:mg "ValueError"=none
 m_SlackError:mg "SlackError"=some (.ref Ad.SlackError)
 m_NoNumber:mg "NoNumber"=some (.ref Ad.NoNumber)
 BcX:mg "NoName"=some (.ref Ad.NoName)
 BdN:mg "NoGap"=some (.ref Ad.NoGap)
 Bd3:mg "Apart"=some (.ref Ad.Apart)
 Beb:mg "InRing"=some (.ref Ad.InRing)
 BdY:mg "NoPart"=some (.ref Ad.NoPart)
 m_NoRow:mg "NoRow"=some (.ref Ad.NoRow)
 m_Off:mg "Off"=some (.ref Ad.Off)
 Bei:mg "Twice"=some (.ref Ad.Twice)
 m_Tight:mg "Tight"=some (.ref Ad.Tight)
 Bel:mg "Part"=some (.ref Ad.Part)
 Bem:mg "Gap"=some (.ref Ad.Gap)
 Bec:mg "Joints"=some (.ref Ad.Joints)
 Bej:mg "Thing"=some (.ref Ad.Thing)
 Bek:mg "Scale"=some (.ref Ad.Scale)
 m_Lid:mg "Lid"=some (.ref Ad.Lid)
 Bcn:mg "SMALL_LETTERS"=some Ad.SMALL_LETTERS
 Bco:RelV (.str "abcdefghijklmnopqrstuvwxyz") Ad.SMALL_LETTERS
 BcP:mg "LONGEST_NAME"=some Ad.LONGEST_NAME
 BcQ:RelV (.int 8) Ad.LONGEST_NAME
 Bcp:mg "ZERO"=some (.ref Ad.ZERO)
 Bcq:RelV (.ref Ad.ZERO) (.ref Ad.ZERO)
 Bcr:∀ H:Hp,SqT K H Ad.ZERO [.int 0, .int 1]
 x_SlackError:W.excIn K Ad.SlackError [.type "ValueError", .type "Exception", .type "BaseException", .type "object"] "ValueError.__new__"=true
 x_NoNumber:W.excIn K Ad.NoNumber [.type "ValueError", .type "Exception", .type "BaseException", .type "object"] "ValueError.__new__"=true
 BbW:W.excIn K Ad.NoName [.type "ValueError", .type "Exception", .type "BaseException", .type "object"] "ValueError.__new__"=true
 Bcs:W.excIn K Ad.NoGap [.type "ValueError", .type "Exception", .type "BaseException", .type "object"] "ValueError.__new__"=true
 BcR:∀ C,IsPart Ad C->PartC K C
 BdO:∀ C,IsGap Ad C->GapC K C
 Bb6:∀ C,Jde Ad C->JkN K C
 Bbi:∀ C,JaH Ad C->Jl0 K C
 Bct:∀ C,Jc2 Ad C->JlZ K C
 c_Lid:∀ C,IsLid Ad C->LidC K C
 xa:ExcA K Ad.Tight "tight_gap"
 xl:ExcL K Ad.Tight "tight_gap"
 slk:SlkI K Ad.SlackError
 xc:Jce K Ad.Tight Ad.Tight
 xs_NoGap:Jce K Ad.NoGap Ad.SlackError
 ex_NoGap:ExcC K Ad.NoGap
 k_NoGap_V:W.kitOne K (.ref Ad.NoGap) (.type "ValueError")=some true
 k_NoGap_NoGap:W.kitOne K (.ref Ad.NoGap) (.ref Ad.NoGap)=some true
 k_NoGap_NoName:W.kitOne K (.ref Ad.NoGap) (.ref Ad.NoName)=some false
 k_NoGap_NoPart:W.kitOne K (.ref Ad.NoGap) (.ref Ad.NoPart)=some false
 k_NoGap_Apart:W.kitOne K (.ref Ad.NoGap) (.ref Ad.Apart)=some false
 k_NoGap_NoRow:W.kitOne K (.ref Ad.NoGap) (.ref Ad.NoRow)=some false
 k_NoGap_Off:W.kitOne K (.ref Ad.NoGap) (.ref Ad.Off)=some false
 k_NoGap_Tight:W.kitOne K (.ref Ad.NoGap) (.ref Ad.Tight)=some false
 xs_NoName:Jce K Ad.NoName Ad.SlackError
 ex_NoName:ExcC K Ad.NoName
 k_NoName_V:W.kitOne K (.ref Ad.NoName) (.type "ValueError")=some true
 k_NoName_NoGap:W.kitOne K (.ref Ad.NoName) (.ref Ad.NoGap)=some false
 k_NoName_NoName:W.kitOne K (.ref Ad.NoName) (.ref Ad.NoName)=some true
 k_NoName_NoPart:W.kitOne K (.ref Ad.NoName) (.ref Ad.NoPart)=some false
 k_NoName_Apart:W.kitOne K (.ref Ad.NoName) (.ref Ad.Apart)=some false
 k_NoName_NoRow:W.kitOne K (.ref Ad.NoName) (.ref Ad.NoRow)=some false
 k_NoName_Off:W.kitOne K (.ref Ad.NoName) (.ref Ad.Off)=some false
 k_NoName_Tight:W.kitOne K (.ref Ad.NoName) (.ref Ad.Tight)=some false
def PEV(K:W.Frag)(H:Hp)(e:PD ⊕ D)(x:V):Prop:=match e with
 | .inl p=>PDV K H p x/\POk p
 | .inr c=>Rep K H c x/\szD c/\partB c=false
def GEV(K:W.Frag)(H:Hp)(e:GD ⊕ D)(x:V):Prop:=match e with
 | .inl g=>TV K H g.td x/\TOk g.td
 | .inr c=>Rep K H c x/\szD c/\gapB c=false
def POV(K:W.Frag)(Ad:Adr)(H:Hp)(p:PD)(v:V):Prop:=∃ q dx vz vm,v=.ref q/\H q=some (.ins Ad.Part dx (partF (.str p.nm) (.str p.st) (.str p.en) vz vm (.int p.wt)))/\FrV K H vz p.sz.1 p.sz.2/\FrV K H vm p.mo.1 p.mo.2
def GOV(K:W.Frag)(Ad:Adr)(H:Hp)(g:GD)(v:V):Prop:=∃ q dx vl vg,v=.ref q/\H q=some (.ins Ad.Gap dx (gapF (.str g.nm) (.str g.st) (.str g.en) vl vg))/\FrV K H vl g.lo.1 g.lo.2/\FrV K H vg g.hi.1 g.hi.2
section
variable{Ad:Adr}{H':Hp}{v x:V}{K:W.Frag}
def isTI:HO->Bool
 | .ins _ _ _=>true
 | u=>isTF u
def SameI(H H':Hp):Prop:=∀ b u,isTI u=true->H b=some u->H' b=some u
theorem SameI.t(S:SameI H H'):SameT H H':=λb u t h=>S b u (by cases u <;> first | show t | (simp[isTF]at t)) h
theorem Same.i(S:Same H H'):SameI H H':=λb u _ h=>S b u h
theorem PEV.same{e:PD ⊕ D}(S:Same H H')(h:PEV K H e x):PEV K H' e x:=by
 match e,h with
 | .inl t,h=>show(h.1.sameT S.t,h.2)
 | .inr c,h=>show(h.1.same S,h.2)
theorem GEV.same{e:GD ⊕ D}(S:Same H H')(h:GEV K H e x):GEV K H' e x:=by
 match e,h with
 | .inl t,h=>show(h.1.sameT S.t,h.2)
 | .inr c,h=>show(h.1.same S,h.2)
theorem POV.si{p:PD}(S:SameI H H'):POV K Ad H p v->POV K Ad H' p v:=by rintro⟨q,g,a,b,f,c,d,e⟩;show(q,g,a,b,f,S _ _ rfl c,d.sameT S.t,e.sameT S.t)
theorem GOV.si{g:GD}(S:SameI H H'):GOV K Ad H g v->GOV K Ad H' g v:=by rintro⟨q,h,a,b,f,c,d,e⟩;show(q,h,a,b,f,S _ _ rfl c,d.sameT S.t,e.sameT S.t)
end
def JK(Ad:Adr)(H0 H:Hp)(j d:Addr)(ls:List PD):Prop:=(∃ dx,H j=some (.ins Ad.Joints dx [("leads", .ref d)]))/\H0 d=none/\∃ kvs,H d=some (.dK kvs)/\kvs.length<=2*ls.length/\JD H0 H (JaB ls) kvs
variable{Ad:Adr}{H0 H':Hp}{d:Addr}{ls:List PD}
theorem JK.same{j:Addr}(S:Same H H'):JK Ad H0 H j d ls->JK Ad H0 H' j d ls:=λζ=>by let((g,f),b,a,c,e,h):=ζ;show(⟨g,S _ _ f⟩,b,a,S _ _ c,e,h.same S)
def TK(K:W.Frag)(Ad:Adr)(H:Hp)(x:Addr)(ls:List PD)(gs:List GD):Prop:=∃ dx d1 d2 d3 k1 k2 k3,H x=some (.ins Ad.Thing dx [("parts_by_name", .ref d1),("gaps_by_name", .ref d2),("ways", .ref d3)])/\H d1=some (.dK k1)/\BG (·.nm) (POV K Ad H) ls k1/\H d2=some (.dK k2)/\BG (·.nm) (GOV K Ad H) gs k2/\H d3=some (.dK k3)/\BG (·.nm) (WOV H ls) gs k3
variable{x:Addr}{gs:List GD}
theorem TK.same{K:W.Frag}(S:Same H H'):TK K Ad H x ls gs->TK K Ad H' x ls gs:=by rintro⟨m,h,o,a,d,e,n,f,l,c,b,k,j,g⟩;show(m,h,o,a,d,e,n,S _ _ f,S _ _ l,c.mono λ_ _ z=>z.si (Same.i S),S _ _ b,k.mono λ_ _ z=>z.si (Same.i S),S _ _ j,g.mono λ_ _ z=>z.same S)
def SameJ(d:Addr)(H H':Hp):Prop:=∀ b u,b≠d->(∀ xs,u≠.lst xs)->H b=some u->H' b=some u
def okG(g:GD):Bool:=!decide (g.hi.1*g.lo.2<g.lo.1*g.hi.2)
structure TOr(g:GD):Prop where
 n1:nameS g.nm=true
 n2:nameS g.st=true
 n3:nameS g.en=true
 ne:g.st≠g.en
 lo:FOk 600 g.lo
 hi:FOk 600 g.hi
theorem TOk.r{g:GD}(h:TOk g.td):TOr g/\okG g=true:=⟨⟨h.n1,h.n2,h.n3,h.ne,h.lo _ rfl,h.hi _ rfl⟩,by
 have this : decide (g.hi.1*g.lo.2<g.lo.1*g.hi.2)=false:=h.le;unfold okG;rw[this];rfl⟩
variable{n:Nat}
theorem JgD{α:Type}{f : α->Str}{ls l0:List α}{p : α}(h:ls++[p]=l0.take n)(hn:(l0.map f).Nodup):f p∉ls.map f:=λa=>by
 have:=((List.take_sublist n l0).map f).nodup hn;rw[<- h,map_append]at this;show(nodup_append.mp this).2.2 _ a _ (by simp) rfl
theorem Jg2(ht:Tree ls)(hn:(ls.map (·.nm)).Nodup)(i:Nat)(p:PD)(hp:ls[i]?=some p):¬ Conn (ls.take i) p.st p.en:=λz=>ht p (List.mem_of_getElem? hp) (z.sub λx a=>mem_filter.mpr ⟨List.mem_of_mem_take a,by
 rw[decide_eq_true_iff];showλe=>JgD (f:=(·.nm)) (p:=p) (n:=i+1) (by rw[take_succ,hp];rfl) hn (by rw[<- e];show mem_map.mpr ⟨x,a,rfl⟩)⟩)
theorem Jk3:∀ st,st<=2->∀ k,k<6->gnS st k≠Str.ofString "nobody":=by decide
theorem Jmf:∀ st,st<=2->∀ s2,s2<=2->∀ k,k<6->gnS s2 k≠nmK 112 st 0:=by decide
theorem Jmb(g:GD):depD (tdD g.td)<=3:=by
 simp[GD.td,tdD,bD,frD,depD,depL]
theorem neGs{K:W.Frag}{Q:VK}{p q:Addr}{ys:List V}(hp:SqL K H p xs)(hx:All2 (λ(g:GD) v=>TV K H g.td v) gs xs)(hq:SqL K H q ys)(hy:All2 (λ(g:GD) v=>TV K H g.td v) gs ys)(k:Q (.bl false) H):rNeU K (.ref p) (.ref q) H Q:=by
 show(.lst (gs.map λg=>tdD g.td), .lst (gs.map λg=>tdD g.td),by simp only[Rep];show(p,xs,rfl,hp,All2.repL (f:=λg:GD=>tdD g.td) (λ_ _=>TV.rep) hx),by simp only[Rep];show(q,ys,rfl,hq,All2.repL (f:=λg:GD=>tdD g.td) (λ_ _=>TV.rep) hy),?_,rfl,?_)
 .rw[depD];have:=JdV Jmb gs;ac_nf
 .rw[Jb8];show k
structure X2(K:W.Frag)(Ad:Adr)(C:Addr)(j:Nat):Prop where
 cat:Jce K C Ad.SlackError
 xc:ExcC K C
 k0:W.kitOne K (.ref C) (.ref Ad.NoGap)=some (decide (j=0))
 k1:W.kitOne K (.ref C) (.ref Ad.NoName)=some (decide (j=1))
 z0:W.kitOne K (.ref C) (.ref Ad.NoPart)=some false
 z1:W.kitOne K (.ref C) (.ref Ad.Apart)=some false
 z2:W.kitOne K (.ref C) (.ref Ad.NoRow)=some false
 z3:W.kitOne K (.ref C) (.ref Ad.Off)=some false
 z4:W.kitOne K (.ref C) (.ref Ad.Tight)=some false
 kv:W.kitOne K (.ref C) (.type "ValueError")=some true
 lt:j=0\/j=1
def SCK(Ad:Adr)(H:Hp)(x:Addr)(b:Int)(fs:List Int):Prop:=∃ dx fl,H x=some (.ins Ad.Scale dx [("bottom", .int b),("factors", .ref fl)])/\H fl=some (.lst (fs.map V.int))/\Scl b fs/\Mth.Sz 2000 b/\fs.length<=30
theorem SCK.same{b:Int}{fs:List Int}(S:Same H H'):SCK Ad H x b fs->SCK Ad H' x b fs:=by rintro⟨e,f,d,a,c⟩;show(e,f,S _ _ d,S _ _ a,c)
def LDV(K:W.Frag)(Ad:Adr)(H:Hp)(e:LidD)(v:V):Prop:=∃ q dx vr vt wd,v=.ref q/\H q=some (.ins Ad.Lid dx [("name", .str e.nm),("rest",vr),("weights", .ref wd),("load", .int e.load),("last_level",vt)])/\FrV K H vr e.rest.1 e.rest.2/\FrV K H vt e.last.1 e.last.2/\H wd=some (.dK (wsK e.ws))
variable{e:LidD}{v:V}
theorem LDV.same{K:W.Frag}(S:Same H H'):LDV K Ad H e v->LDV K Ad H' e v:=by rintro⟨q,g,h,i,f,d,a,b,c,j⟩;show(q,g,h,i,f,d,S _ _ a,b.same S,c.same S,S _ _ j)
theorem LDV.keep{K:W.Frag}{q dq:Addr}{fs:List (Str × V)}(S:∀ b u,b≠q->H b=some u->H' b=some u)(hq:H q=some (.ins C dq fs))(hne:v≠.ref q):LDV K Ad H e v->LDV K Ad H' e v:=by
 rintro⟨i,j,l,m,k,c,d,f,g,a⟩;have T:SameT H H':=λb u t h=>S b u (λz=>by rw[z,hq]at h;cases h;simp[isTF]at t) h;show(i,j,l,m,k,c,S _ _ (λz=>hne (by rw[c,z])) d,f.sameT T,g.sameT T,S _ _ (λz=>by rw[z,hq]at a;cases a) a)
theorem Same.cutN(S:Same H H')(hd:H d=none):Same H (cut d H'):=λb u h=>by
 rw[JbM (λz=>by rw[z,hd]at h;cases h)];show S b u h
theorem SameT.cutO{o:HO}(h:H d=some o)(ho:isTF o=false):SameT H (cut d H):=λb u t a=>by
 rw[JbM (λz=>by rw[z,h]at a;cases a;rw[ho]at t;cases t)];show a
theorem LDV.notin{K:W.Frag}{es:List LidD}{u:HO}(hX:All2 (LDV K Ad H) es xs)(h:H a=some u)(hu:∀ dx fs,u≠.ins Ad.Lid dx fs):V.ref a∉xs:=λz=>by
 let(i,c):=List.getElem?_of_mem z;let(e,_,q,dx,g,j,f,b,d,_):=hX.at_ c;have b:a=q:=by injection b
 rw[b,d]at h;show hu _ _ (Option.some.inj h).symm
theorem LDV.dict{K:W.Frag}{kv:List (Key × V)}(S:∀ b u,b≠d->H b=some u->H' b=some u)(hd:H d=some (.dK kv))(hn:∀ wd,v=.ref wd->True)(h0:∀ q dx vr vt wd,H q=some (.ins Ad.Lid dx [("name", .str e.nm),("rest",vr),("weights", .ref wd),("load", .int e.load),("last_level",vt)])->v=.ref q->wd≠d):LDV K Ad H e v->LDV K Ad H' e v:=by
 rintro⟨i,dx,vr,vt,wd,c,a,f,g,j⟩;have T:SameT H H':=λb u t h=>S b u (λz=>by rw[z,hd]at h;cases h;simp[isTF]at t) h;show(i,dx,vr,vt,wd,c,S _ _ (λz=>by rw[z,hd]at a;cases a) a,f.sameT T,g.sameT T,S _ _ (h0 _ _ _ _ _ a c) j)
def ShV(K:W.Frag)(H:Hp)(r:ShD)(v:V):Prop:=∃ p vs t,v=.ref p/\SqT K H p [.str r.nm,vs, .ref t]/\FrV K H vs r.sl.1 r.sl.2/\SqT K H t (match r.sp with | none=>[.str (Str.ofString "most")] | some g=>[.str (Str.ofString "gap"), .str g])
theorem ShV.sameT{K:W.Frag}{r:ShD}(S:SameT H H'):ShV K H r v->ShV K H' r v:=by rintro⟨p,b,t,e,a,c,d⟩;show(p,b,t,e,a.sameT S,c.sameT S,d.sameT S)
def shD(r:ShD):D:=.tup [.str r.nm,frD r.sl, .tup (match r.sp with | none=>[.str (Str.ofString "most")] | some g=>[.str (Str.ofString "gap"), .str g])]
theorem ShV.rep{K:W.Frag}{r:ShD}(h:ShV K H r v):Rep K H (shD r) v:=by
 let(p,d,t,rfl,c,a,b):=h;have a:=FrV.rep a;cases e:r.sp with
 | none=>
  rw[e]at b;unfold shD;rw[e];simp only[Rep,RepL];show(p,_,rfl,c,_,_,rfl,rfl,_,_,rfl,by simpa only[Rep,RepL,frD]using a,_,_,rfl,⟨t,_,rfl,b,_,_,rfl,rfl,rfl⟩,rfl)
 | some g=>
  rw[e]at b;unfold shD;rw[e];simp only[Rep,RepL];show(p,_,rfl,c,_,_,rfl,rfl,_,_,rfl,by simpa only[Rep,RepL,frD]using a,_,_,rfl,⟨t,_,rfl,b,_,_,rfl,rfl,_,_,rfl,rfl,rfl⟩,rfl)
section
variable{P:Program}{mg:Str->Option Value}{base:Heap}{w:World}{K:W.Frag}
seal PE PA PS PSs PT PW PG PGs PI PO
abbrev Bal:Stmt:=top 13
theorem JaP:Jan ["one","other","greater","lesser","rest"] ["one","other"] (Jae Bal):=by bv_decide
def JaA  : Sp:=λvs H Q E=>∃(a b:Int),vs=[.int a, .int b]/\Q (.int (Mth.g a b)) H
theorem JdC(F:FunD K "common_divisor" "common_divisor" Bal dV f fd)(T:Txt K mg Ad)  : FnOk P w K mg base (CX1 P w) 1 f fd ["one","other"] (JaA):=by
 show F.okn JaP (by subst_eqs) (λr A d s H n Q E o h=>?_)
 let(a,b,rfl,h):=h;have k:=o.units;show(_,(Jab (Jak 2 JaP.nd (Jay Jdf rfl T.BdX Jg9 (Jaa (pv 0) Jac))) (Jab (Jak 3 JaP.nd (Jay Jdf rfl T.BdX Jg9 (Jaa (pv 1) Jac))) (Jab (JdZ PassesOwn.never (Jaw (JbO k) (pv 3) Jad (Jax _)) (Jab (Jak 4 JaP.nd (pe_op JaD (pv 2) (pv 3))) (Jab (Jak 2 JaP.nd (pv 3)) (Jah (Jak 3 JaP.nd (pv 4)))))) (Jah (Jap (pv 2)))))),?_)
 clear k;show tSeq _ _ _ [some (.int a),some (.int b),none,none,none] H;try mstop
 show(λm σ j=>∃(x y:Int)(z:Option V),σ=[some (.int a),some (.int b),some (.int x),some (.int y),z]/\j=H/\0<=x/\0<=y/\Mth.g x y=Mth.g a b/\y.toNat=m,⟨_,_,_,none,rfl,rfl,Mth.Jkg a,Mth.Jkg b,Mth.Bed a b,rfl⟩,?_);rintro m σ j ⟨x,y,z,rfl,rfl,t,p,l,rfl⟩;try mstop
 by_cases c:y=0
 .subst c;rw[if_neg (by simp)];have e:Mth.g a b=x:=by rw[<- l,Mth.Jks];ac_nf
  rw[e]at h;show h
 .rw[if_pos (by simp[c])];have f:=Mth.fm (x:=x) (y:=y) ∅;show(_,λ_ _ q=>q,c,(x.fmod y).toNat,by ac_nf,y,x.fmod y,_,rfl,rfl,p,f.1,by rw[Mth.Jit ∅];show l,rfl)
abbrev BcS:Stmt:=top 14
theorem JfF:Jan ["one","other","shared","top","rest"] ["one","other"] (Jae BcS):=by bv_decide
def JeE(K:W.Frag):Sp:=λvs H Q E=>∃(x y:V)(a b c d:Int),vs=[x,y]/\FrV K H x a b/\FrV K H y c d/\Mth.Sz 4000 a/\Mth.Sz 4000 b/\Mth.Sz 4000 c/\Mth.Sz 4000 d/\1<=b/\1<=d/\Mth.g a b=1/\Mth.g c d=1/\∀ p H',Same H H'->H' p=some (.tup [.int (Mth.top (a*d+c*b) (b*d)), .int (Mth.bot (a*d+c*b) (b*d))])->Q (.ref p) H'
theorem Jlm(F:FunD K "plus" "plus" BcS dV f fd)(T:Txt K mg Ad)(Bac:Cal P w K mg base 1 "common_divisor" ["one","other"] [] (JaA)):FnOk P w K mg base (CX1 P w) 2 f fd ["one","other"] (JeE K):=by
 show F.okn JfF (by subst_eqs) (λN A l s H I Q E r h=>?_)
 let(x,y,a,b,c,d,rfl,h):=h;show(_,(Jab (Jak 2 JfF.nd (Bac.ev r ⋯ rfl passF (Jaa (pe_ix ix_U (pv 0) Jad) (Jaa (pe_ix ix_U (pv 1) Jad) Jac)))) (Jab (Jak 3 JfF.nd (pe_op JaI (pe_op JaC (pe_ix ix_U (pv 0) Jad) (pe_op Jas (pe_ix ix_U (pv 1) Jad) (pv 2))) (pe_op JaC (pe_ix ix_U (pv 1) Jad) (pe_op Jas (pe_ix ix_U (pv 0) Jad) (pv 2))))) (Jab (Jak 4 JfF.nd (Bac.ev r ⋯ rfl passF (Jaa (pv 3) (Jaa (pv 2) Jac)))) (Jah (Jap (JaJ (Jaa (pe_op Jas (pv 3) (pv 4)) (Jaa (pe_op JaC (pe_op Jas (pe_ix ix_U (pv 0) Jad) (pv 2)) (pe_op Jas (pe_ix ix_U (pv 1) Jad) (pv 4))) Jac)))))))),?_)
 let(e,j,D,U,B,n,L,M,W,X,k):=h;show tSeq _ _ _ [some x,some y,none,none,none] H;try mstop
 show ixF1 e (ixF1 j ?_);try mstop
 show(_,_,rfl,?_);try mstop
 have Z:=Mth.g_pos (a:=b) (b:=d) ∅;have O:=Mth.JcJ b d;have z:=Mth.JbN b d;have q:Mth.Sz 4000 (Mth.g b d):=Nat.lt_of_le_of_lt (by have:=Mth.g_le (a:=b) (b:=d) ∅;ac_nf:(Mth.g b d).natAbs<=d.natAbs) n;have o:DivOk (Mth.g b d):=divOk ∅ q;have v:=U.fdiv O ∅;have J:=n.fdiv z ∅;show ixF0 e (ixF1 j ?_);try mstop
 show(o,mulOk D J,ixF0 j (ixF1 e ?_));try mstop
 show(o,mulOk B v,?_);show(_,_,rfl,?_);have m:=Mth.JlB L M W X (s:=Mth.g b d) rfl rfl rfl;generalize ht:a*d.fdiv (Mth.g b d)+c*b.fdiv (Mth.g b d)=t at m ⊢;have Y:=Mth.g_pos (a:=t) (b:=Mth.g b d) ∅;have G:=Mth.JbN t (Mth.g b d);have C:Mth.Sz 4000 (Mth.g t (Mth.g b d)):=Nat.lt_of_le_of_lt (by have:=Mth.g_le (a:=t) (b:=Mth.g b d) ∅;ac_nf:(Mth.g t (Mth.g b d)).natAbs<=(Mth.g b d).natAbs) q;have u:DivOk (Mth.g t (Mth.g b d)):=divOk ∅ C;try mstop
 show(u,ixF1 e ?_);try mstop
 show(o,ixF1 j ?_);try mstop
 show(u,mulOk v (n.fdiv (Int.dvd_trans G z) ∅),len2,?_);show Jeh λp V S R=>k p V S ?_;rw[R,m.1,m.2]
abbrev Bb9:Stmt:=top 15
theorem Jj5:Jan ["one","other"] ["one","other"] (Jae Bb9):=by bv_decide
def Jds(K:W.Frag):Sp:=λvs H Q E=>∃(x y:V)(a b c d:Int),vs=[x,y]/\FrV K H x a b/\FrV K H y c d/\Mth.Sz 4000 a/\Mth.Sz 4000 b/\Mth.Sz 4000 c/\Mth.Sz 4000 d/\1<=b/\1<=d/\Mth.g a b=1/\Mth.g c d=1/\∀ p H',Same H H'->H' p=some (.tup [.int (Mth.top (a*d-c*b) (b*d)), .int (Mth.bot (a*d-c*b) (b*d))])->Q (.ref p) H'
theorem JjL(F:FunD K "minus" "minus" Bb9 dV f fd)(T:Txt K mg Ad)(Bb7:Cal P w K mg base 2 "plus" ["one","other"] [] (JeE K)):FnOk P w K mg base (CX1 P w) 3 f fd ["one","other"] (Jds K):=by
 show F.okn Jj5 (by subst_eqs) (λD A e s H o Q E q h=>?_)
 let(x,y,a,b,c,d,rfl,h):=h;show(_,(Jah (Jap (Bb7.ev q ⋯ rfl passF (Jaa (pv 0) (Jaa (JaJ (Jaa (pe_un JeH (pe_ix ix_U (pv 1) Jad)) (Jaa (pe_ix ix_U (pv 1) Jad) Jac))) Jac))))),?_);let(r,g,j,I,i,B,z,C,J,L,k):=h;show tRet _ _ [some x,some y] H;try mstop
 show ixF0 g ?_;try mstop
 show ixF1 g ?_;try mstop
 show(len2,?_);rename_i p m u H M S G;show(_,_,a,b, -c,d,rfl,r.same S,FrV.of G,j,I,i.neg,B,z,C,J,by rw[Mth.g_neg];show L,λn l t v=>k n l (S.trans t) ?_);rw[v,Int.neg_mul, <- Int.sub_eq_add_neg]
abbrev Bca:Stmt:=top 16
theorem JfG:Jan ["one","other","across","back"] ["one","other"] (Jae Bca):=by bv_decide
def Jdt(K:W.Frag):Sp:=λvs H Q E=>∃(x y:V)(a b c d:Int),vs=[x,y]/\FrV K H x a b/\FrV K H y c d/\Mth.Sz 4000 a/\Mth.Sz 4000 b/\Mth.Sz 4000 c/\Mth.Sz 4000 d/\1<=b/\1<=d/\Mth.g a b=1/\Mth.g c d=1/\∀ p H',Same H H'->H' p=some (.tup [.int (Mth.top (a*c) (b*d)), .int (Mth.bot (a*c) (b*d))])->Q (.ref p) H'
theorem JjN(F:FunD K "times" "times" Bca dV f fd)(T:Txt K mg Ad)(Bac:Cal P w K mg base 1 "common_divisor" ["one","other"] [] (JaA)):FnOk P w K mg base (CX1 P w) 2 f fd ["one","other"] (Jdt K):=by
 show F.okn JfG (by subst_eqs) (λN A l s H I Q E m h=>?_)
 let(x,y,a,b,c,d,rfl,h):=h;show(_,(Jab (Jak 2 JfG.nd (Bac.ev m ⋯ rfl passF (Jaa (pe_ix ix_U (pv 0) Jad) (Jaa (pe_ix ix_U (pv 1) Jad) Jac)))) (Jab (Jak 3 JfG.nd (Bac.ev m ⋯ rfl passF (Jaa (pe_ix ix_U (pv 1) Jad) (Jaa (pe_ix ix_U (pv 0) Jad) Jac)))) (Jah (Jap (JaJ (Jaa (pe_op JaC (pe_op Jas (pe_ix ix_U (pv 0) Jad) (pv 2)) (pe_op Jas (pe_ix ix_U (pv 1) Jad) (pv 3))) (Jaa (pe_op JaC (pe_op Jas (pe_ix ix_U (pv 0) Jad) (pv 3)) (pe_op Jas (pe_ix ix_U (pv 1) Jad) (pv 2))) Jac))))))),?_)
 let(e,j,C,r,z,q,J,L,V,W,k):=h;show tSeq _ _ _ [some x,some y,none,none] H;try mstop
 show ixF0 e (ixF1 j ?_);try mstop
 show(_,_,rfl,?_);show ixF0 j (ixF1 e ?_);try mstop
 show(_,_,rfl,?_);try mstop
 have Y:=Mth.g_pos (a:=a) (b:=d) ∅;have X:=Mth.g_pos (a:=c) (b:=b) ∅;have M:=Mth.JcJ a d;have G:=Mth.JbN a d;have R:=Mth.JcJ c b;have B:=Mth.JbN c b;have D:Mth.Sz 4000 (Mth.g a d):=Nat.lt_of_le_of_lt (by have:=Mth.g_le (a:=a) (b:=d) ∅;ac_nf:(Mth.g a d).natAbs<=d.natAbs) q;have vl:Mth.Sz 4000 (Mth.g c b):=Nat.lt_of_le_of_lt (by have:=Mth.g_le (a:=c) (b:=b) ∅;ac_nf:(Mth.g c b).natAbs<=b.natAbs) r;have n:DivOk (Mth.g a d):=divOk ∅ D;have t:DivOk (Mth.g c b):=divOk ∅ vl;have o:=Mth.Jj9 J L V W (u:=Mth.g a d) (v:=Mth.g c b) rfl rfl;show ixF0 e ?_;try mstop
 show(n,ixF0 j ?_);try mstop
 show(t,mulOk (C.fdiv M ∅) (z.fdiv R ∅),ixF1 e ?_);try mstop
 show(t,ixF1 j ?_);try mstop
 show(n,mulOk (r.fdiv B ∅) (q.fdiv G ∅),len2,?_);show Jeh λp U S O=>k p U S ?_;rw[O,o.1,o.2]
abbrev BcT:Stmt:=top 17
theorem JlK:Jan ["one","other"] ["one","other"] (Jae BcT):=by bv_decide
def JfK(K:W.Frag)(Ad:Adr):Sp:=λvs H Q E=>∃(x y:V)(a b c d:Int),vs=[x,y]/\FrV K H x a b/\FrV K H y c d/\Mth.Sz 4000 a/\Mth.Sz 4000 b/\Mth.Sz 4000 c/\Mth.Sz 4000 d/\1<=b/\1<=d/\Mth.g a b=1/\Mth.g c d=1/\(c=0->E (.ref Ad.NoNumber) none H)/\(c≠0->∀ p H',Same H H'->H' p=some (.tup [.int (Mth.top (a*d) (b*c)), .int (Mth.bot (a*d) (b*c))])->Q (.ref p) H')
theorem Jll(F:FunD K "over" "over" BcT dV f fd)(T:Txt K mg Ad)(Bbs:Cal P w K mg base 2 "times" ["one","other"] [] (Jdt K)):FnOk P w K mg base (CX1 P w) 3 f fd ["one","other"] (JfK K Ad):=by
 show F.okx JlK (λO H Q E h=>?_) (λU A l s H O Q E q h=>?_)
 .let(x,y,a,b,c,d,rfl,_):=h;rfl
 let(x,y,a,b,c,d,rfl,h):=h;have J:=q.units;show(_,(Jab (ps_if (Jaw (JcN J) (pe_ix ix_U (pv 1) Jad) Jad (Jax _)) (Jah (JdY PySem.F.excBase_ValueError T.x_NoNumber rfl T.m_NoNumber (Jaa JaY Jac)))
   Jat) (Jab (ps_if (Jaw Jep (pe_ix ix_U (pv 1) Jad) Jad (Jax _)) (Jah (Jap (Bbs.ev q ⋯ rfl pass1 (Jaa (pv 0) (Jaa (JaJ (Jaa (pe_un JeH (pe_ix ix_U (pv 1) Jad)) (Jaa (pe_un JeH (pe_ix ix_U (pv 1) Jad)) Jac))) Jac)))))
   Jat) (Jah (Jap (Bbs.ev q ⋯ rfl pass1 (Jaa (pv 0) (Jaa (JaJ (Jaa (pe_ix ix_U (pv 1) Jad) (Jaa (pe_ix ix_U (pv 1) Jad) Jac))) Jac))))))),?_)
 clear J;let(D,g,C,L,B,I,G,W,M,N,R,k):=h;show tSeq _ _ _ [some x,some y] H;try mstop
 show ixF0 g ?_;try mstop
 by_cases i:c=0
 .rw[if_pos (by simpa using i)];try mstop
  show(by decide,R i)
 .rw[if_neg (by simpa using i)];show ixF0 g ?_;try mstop
  by_cases o:c<0
  .rw[if_pos (by simpa using o)];show ixF1 g ?_;try mstop
   show ixF0 g ?_;try mstop
   show(len2,?_);rename_i p m u H V S z;show(_,_,a,b, -d, -c,rfl,D.same S,FrV.of z,C,L,I.neg,B.neg,G,by ac_nf,M,by rw[Mth.g_neg,Mth.Jmd,Mth.Jkr];show N,λn j r v=>k i n j (S.trans r) ?_);have e:=Mth.Jlg (t:=a*d) (b:=b*c) (Int.mul_neg_of_pos_of_neg ∅ o);rw[v,Int.mul_neg,Int.mul_neg,e.1,e.2]
  .rw[if_neg (by simpa using o)];show ixF1 g ?_;try mstop
   show ixF0 g ?_;try mstop
   show(len2,?_);rename_i p m u H V S z;show(_,_,a,b,d,c,rfl,D.same S,FrV.of z,C,L,I,B,G,by ac_nf,M,by rw[Mth.Jkr];show N,λn j r v=>k i n j (S.trans r) v)
abbrev Bcb:Stmt:=top 18
theorem Jj6:Jan ["one","other"] ["one","other"] (Jae Bcb):=by bv_decide
def JbV(K:W.Frag):Sp:=λvs H Q E=>∃(x y:V)(a b c d:Int),vs=[x,y]/\FrV K H x a b/\FrV K H y c d/\Mth.Sz 4000 a/\Mth.Sz 4000 b/\Mth.Sz 4000 c/\Mth.Sz 4000 d/\Q (.bl (decide (a*d<c*b))) H
theorem JjO(F:FunD K "under" "under" Bcb dV f fd)(T:Txt K mg Ad)  : FnOk P w K mg base (CX1 P w) 1 f fd ["one","other"] (JbV K):=by
 show F.okn Jj6 (by subst_eqs) (λo A e s H m Q E q h=>?_)
 let(x,y,a,b,c,d,rfl,h):=h;show(_,(Jah (Jap (Jby Jep (pe_op JaC (pe_ix ix_U (pv 0) Jad) (pe_ix ix_U (pv 1) Jad)) (pe_op JaC (pe_ix ix_U (pv 1) Jad) (pe_ix ix_U (pv 0) Jad)) (Jax _)))),?_);let(g,i,l,p,j,n,k):=h;show tRet _ _ [some x,some y] H;cbv;show ixF0 g (ixF1 i ?_);cbv;show(mulOk l n,ixF0 i (ixF1 g ?_));cbv;show(mulOk j p,k)
abbrev BbB:Stmt:=top 24
theorem JhX:Jan ["thing"] ["thing"] (Jae BbB):=by bv_decide
def Jct(K:W.Frag):Sp:=λvs H Q E=>∃(z:Str),vs=[.str z]/\nameS z=true/\∀ H',Same H H'->Q (.bl true) H'
theorem JhQ(F:FunD K "is_name" "is_name" BbB dV f fd)(T:Txt K mg Ad)  : FnOk P w K mg base (CX1 P w) 1 f fd ["thing"] (Jct K):=by
 show F.okn JhX (by subst_eqs) (λB A e s H u Q E D h=>?_)
 let(z,rfl,h):=h;show(_,(Jab (ps_if (Jbw (Jba (Jay JaX rfl T.Bad Jav (Jaa (pv 0) (Jaa (Jc4 (v:=.ty "str") rfl T.Bee Jl4 rfl) Jac))))) (Jah (Jap pe_bl))
   Jat) (Jab (ps_if (PW.pt (pw_or (Jaw Jep (Jay Ja8 rfl T.Bb5 Jb6 (Jaa (pv 0) Jac)) Jad (Jax _)) (Jca (Jaw Jhm (Jay Ja8 rfl T.Bb5 Jb6 (Jaa (pv 0) Jac)) (Jbk (v:=.int 8) rfl T.BcP T.BcQ) (Jax _))))) (Jah (Jap pe_bl))
   Jat) (Jah (Jap (Jay (Jh9 rfl) rfl T.Beg Jl2 (Jaa (Jer (own:=["sign"]) (cs:=[]) (cl:=[]) rfl (JmD (pv 0)) (λ_ _ _ _=>(Jaq 0 (show[("sign" : Str)].Nodup by decide))) (λ_ _ _ _=>(Jby (Jmx (K:=K) rfl) (pv 0) (Jbk (v:=.str "abcdefghijklmnopqrstuvwxyz") rfl T.Bcn T.Bco) (by with_unfolding_all rfl))) rfl ⋯ rfl ⋯ hcl0 (hhas0 ⋯) hcs0) Jac)))))),?_)
 let(b,k):=h;show tSeq _ _ _ [some (.str z)] H;cbv;have y:=len8 b;have l:z.length<=sizeLine:=Nat.le_trans y ⋯;unfold nameS at b;simp only[Bool.and_eq_true,decide_eq_true_eq]at b;let((M,C),a):=b
 mframe;show(l,?_);cbv;rw[if_neg (by simp;ac_nf)];cbv;show(l,?_);cbv;rw[if_neg (by simp;ac_nf)];cbv;cbv;simpa only[tComp,iStr];show(λi m o d=>d=H/\i<=z.cps.size/\m=z.cps.size-i/\o=(z.cps.toList.take i).map λc=>V.bl (lowB c),⟨_,rfl,Nat.zero_le _,rfl,by simp⟩,?_);rintro i m o d ⟨rfl,G,rfl,rfl⟩;have J:z.cps.size=z.length:=rfl;show(by simp;ac_nf,?_);by_cases g:i<z.cps.size
 .show .inr ⟨g,?_⟩;rintro x n ⟨rfl,c,t,rfl⟩;simpa only[length_singleton,List.replicate,Jaz,map_nil,y60y,JhJ];show(_,Nat.sub_lt_sub_left g (Nat.lt_succ_self i),g,rfl,?_);have j:z.cps.toList[i]?=some c:=by simpa using t
  rw[take_succ,j];simp
 .have q:i=z.cps.size:=by ac_nf
  show .inl ⟨q,?_⟩;subst q;rw[take_of_length_le (by simp)];rename_i p L I d n S r;show(p,z.cps.toList.map lowB,rfl,SqL.of (by rw[r,map_map];rfl),?_);have:=k n S;simpa[List.all_map,a]using this
abbrev Ba8:Stmt:=top 25
theorem JgY:Jan ["thing"] ["thing"] (Jae Ba8):=by bv_decide
def JcD(K:W.Frag):Sp:=λvs H Q E=>∃(i:Int),vs=[.int i]/\Q (.bl true) H
theorem JgI(F:FunD K "is_whole" "is_whole" Ba8 dV f fd)(T:Txt K mg Ad)  : FnOk P w K mg base (CX1 P w) 1 f fd ["thing"] (JcD K):=by
 show F.okn JgY (by subst_eqs) (λc A a s H b Q E d h=>?_)
 let(i,rfl,h):=h;show(_,(Jah (Jap (Jcq (Jay JaX rfl T.Bad Jav (Jaa (pv 0) (Jaa (Jc4 (v:=.ty "int") rfl T.Bd8 Jki rfl) Jac))) (Jdn (Jhq (Jay JaX rfl T.Bad Jav (Jaa (pv 0) (Jaa (Jc4 (v:=.ty "bool") rfl T.Bd9 JkT rfl) Jac)))))))),?_);show tRet _ _ [some (.int i)] H;cbv;show h
abbrev BaC:Stmt:=top 26
theorem JeS:Jan ["thing"] ["thing"] (Jae BaC):=by bv_decide
def JbI(K:W.Frag):Sp:=λvs H Q E=>∃(x:V)(a b:Int),vs=[x]/\FrV K H x a b/\1<=b/\Mth.g a b=1/\Q (.bl true) H
theorem JeN(F:FunD K "is_fraction" "is_fraction" BaC dV f fd)(T:Txt K mg Ad)(BaY:Cal P w K mg base 1 "is_whole" ["thing"] [] (JcD K))(Bac:Cal P w K mg base 1 "common_divisor" ["one","other"] [] (JaA)):FnOk P w K mg base (CX1 P w) 2 f fd ["thing"] (JbI K):=by
 show F.okn JeS (by subst_eqs) (λm A e s H l Q E d h=>?_)
 let(x,a,b,rfl,h):=h;have g:=d.units;show(_,(Jab (ps_if (PW.pt (pw_or (Jbw (Jba (Jay JaX rfl T.Bad Jav (Jaa (pv 0) (Jaa (Jc4 (v:=.ty "tuple") rfl T.Bdr Je7 rfl) Jac))))) (Jca (Jaw (JbO g) (Jay Ja8 rfl T.Bb5 Jb6 (Jaa (pv 0) Jac)) Jad (Jax _))))) (Jah (Jap pe_bl))
   Jat) (Jab (ps_if (PW.pt (pw_or (Jbw (Jba (BaY.ev d ⋯ rfl passF (Jaa (pe_ix ix_U (pv 0) Jad) Jac)))) (Jca (Jbw (Jba (BaY.ev d ⋯ rfl passF (Jaa (pe_ix ix_U (pv 0) Jad) Jac))))))) (Jah (Jap pe_bl))
   Jat) (Jah (Jap (Jcq (Jby Jkv (pe_ix ix_U (pv 0) Jad) Jad (Jax _)) (Jdn (Jby (JcN g) (Bac.ev d ⋯ rfl passF (Jaa (pe_ix ix_U (pv 0) Jad) (Jaa (pe_ix ix_U (pv 0) Jad) Jac))) Jad (Jax _)))))))),?_)
 clear g;let((p,rfl,c),j,i,k):=h;show tSeq _ _ _ [some (.ref p)] H;cbv;show(_, .inr ⟨rfl,_,c⟩,?_)
 mframe;show(_, .inr c,?_);simpa only[length_cons,length_nil]
 (rw[if_neg (by simp)])
 cbv;show ixT0 c ?_;show(a,rfl,?_);cbv;show ixT1 c ?_;show(b,rfl,?_);cbv;show ixT1 c ?_;cbv;rw[if_pos (by simpa using j)];cbv;show ixT0 c (ixT1 c ?_);show(_,_,rfl,?_);cbv;simpa[i]using k
abbrev Ba9:Stmt:=top 27
theorem JgX:Jan ["thing"] ["thing"] (Jae Ba9):=by bv_decide
def Jda(K:W.Frag):Sp:=λvs H Q E=>∃(x:V)(a b:Int),vs=[x]/\FrV K H x a b/\1<=b/\Mth.g a b=1/\Q (.bl true) H
theorem JgH(F:FunD K "is_bound" "is_bound" Ba9 dV f fd)(T:Txt K mg Ad)(Bat:Cal P w K mg base 2 "is_fraction" ["thing"] [] (JbI K)):FnOk P w K mg base (CX1 P w) 3 f fd ["thing"] (Jda K):=by
 show F.okn JgX (by subst_eqs) (λm A c s H j Q E l h=>?_)
 let(x,a,b,rfl,h):=h;show(_,(Jah (Jap (pe_or (Jby Jeo (pv 0) JcP (Jax _)) (Jdn (Bat.ev l ⋯ rfl passF (Jaa (pv 0) Jac)))))),?_);let(d,i,e,k):=h;show tRet _ _ [some x] H;cbv;have g:x≠.non:=by
  let(p,rfl,_):=d;intro z;cases z
 rw[if_neg (by simpa using g)];cbv;show(x,a,b,rfl,d,i,e,k)
abbrev BaZ:Stmt:=top 28
theorem Jgi:Jan ["one","other"] ["one","other"] (Jae BaZ):=by bv_decide
def Jcc(K:W.Frag):Sp:=λvs H Q E=>∃(z w:Str),vs=[.str z, .str w]/\nameS z=true/\nameS w=true/\z≠w/\∀ H',Same H H'->Q (.bl true) H'
theorem Jga(F:FunD K "are_faces" "are_faces" BaZ dV f fd)(T:Txt K mg Ad)(BaI:Cal P w K mg base 1 "is_name" ["thing"] [] (Jct K)):FnOk P w K mg base (CX1 P w) 2 f fd ["one","other"] (Jcc K):=by
 show F.okn Jgi (by subst_eqs) (λn A a s H j Q E b h=>?_)
 let(z,w,rfl,h):=h;have c:=b.units;show(_,(Jah (Jap (Jcq (BaI.ev b ⋯ rfl passF (Jaa (pv 0) Jac)) (Jcq (BaI.ev b ⋯ rfl passF (Jaa (pv 1) Jac)) (Jdn (Jby (JbO c) (pv 0) (pv 1) (Jax _))))))),?_);clear c;let(d,i,g,k):=h;show tRet _ _ [some (.str z),some (.str w)] H;cbv;show(z,rfl,d,λo m=>?_);cbv;show(w,rfl,i,λe l=>?_);cbv;have:=k e (m.trans l);simpa[g]using this
abbrev BaJ:Stmt:=top 29
theorem JfB:Jan ["least","greatest"] ["least","greatest"] (Jae BaJ):=by bv_decide
def JcC(K:W.Frag):Sp:=λvs H Q E=>∃(x y:V)(a b:Int × Int),vs=[x,y]/\FrV K H x a.1 a.2/\FrV K H y b.1 b.2/\FOk 600 a/\FOk 600 b/\Q (.bl (!decide (b.1*a.2<a.1*b.2))) H
theorem Jfn(F:FunD K "are_bounds" "are_bounds" BaJ dV f fd)(T:Txt K mg Ad)(BbX:Cal P w K mg base 3 "is_bound" ["thing"] [] (Jda K))(Baj:Cal P w K mg base 1 "under" ["one","other"] [] (JbV K)):FnOk P w K mg base (CX1 P w) 4 f fd ["least","greatest"] (JcC K):=by
 show F.okn JfB (by subst_eqs) (λn A e s H m Q E g h=>?_)
 let(x,y,a,b,rfl,h):=h;show(_,(Jab (ps_if (PW.pt (pw_or (Jbw (Jba (BbX.ev g ⋯ rfl passF (Jaa (pv 0) Jac)))) (Jca (Jbw (Jba (BbX.ev g ⋯ rfl passF (Jaa (pv 1) Jac))))))) (Jah (Jap pe_bl))
   Jat) (Jab (ps_if (PW.pt (pw_or (Jaw Jeo (pv 0) JcP (Jax _)) (Jca (Jaw Jeo (pv 1) JcP (Jax _))))) (Jah (Jap pe_bl))
   Jat) (Jah (Jap (Jhq (Baj.ev g ⋯ rfl passF (Jaa (pv 1) (Jaa (pv 0) Jac)))))))),?_)
 let(i,j,c,d,k):=h;show tSeq _ _ _ [some x,some y] H;cbv;show(x,_,_,rfl,i,c.b1,c.g1,?_);cbv;show(y,_,_,rfl,j,d.b1,d.g1,?_);cbv;have l:x≠.non:=by
  let(p,rfl,_):=i;intro z;cases z
 have o:y≠.non:=by
  let(p,rfl,_):=j;intro z;cases z
 rw[if_neg (by simpa using l),if_neg (by simpa using o)];cbv;cbv;show(y,x,_,_,_,_,rfl,j,i,d.s1.mono ⋯,d.s2.mono ⋯,c.s1.mono ⋯,c.s2.mono ⋯,?_);cbv;show k
abbrev BbY:Stmt:=top 30
theorem Ji5:Jan ["thing"] ["thing"] (Jae BbY):=by bv_decide
def JeD(K:W.Frag):Sp:=λvs H Q E=>∃(x:V)(g:GD),vs=[x]/\TV K H g.td x/\TOr g/\∀ H',Same H H'->Q (.bl (okG g)) H'
theorem JiL(F:FunD K "is_tie" "is_tie" BbY dV f fd)(T:Txt K mg Ad)(BaI:Cal P w K mg base 1 "is_name" ["thing"] [] (Jct K))(Ba0:Cal P w K mg base 2 "are_faces" ["one","other"] [] (Jcc K))(BbP:Cal P w K mg base 4 "are_bounds" ["least","greatest"] [] (JcC K)):FnOk P w K mg base (CX1 P w) 5 f fd ["thing"] (JeD K):=by
 show F.okn Ji5 (by subst_eqs) (λu A l s H r Q E e h=>?_)
 let(x,g,rfl,h):=h;have p:=e.units;show(_,(Jab (ps_if (PW.pt (pw_or (Jbw (Jba (Jay JaX rfl T.Bad Jav (Jaa (pv 0) (Jaa (Jc4 (v:=.ty "tuple") rfl T.Bdr Je7 rfl) Jac))))) (Jca (Jaw (JbO p) (Jay Ja8 rfl T.Bb5 Jb6 (Jaa (pv 0) Jac)) Jad (Jax _))))) (Jah (Jap pe_bl))
   Jat) (Jah (Jap (Jcq (BaI.ev e ⋯ rfl passF (Jaa (pe_ix ix_U (pv 0) Jad) Jac)) (Jcq (Ba0.ev e ⋯ rfl passF (Jaa (pe_ix ix_U (pv 0) Jad) (Jaa (pe_ix ix_U (pv 0) Jad) Jac))) (Jdn (BbP.ev e ⋯ rfl passF (Jaa (pe_ix ix_U (pv 0) Jad) (Jaa (pe_ix ix_U (pv 0) Jad) Jac))))))))),?_)
 clear p;let((a,vl,o,rfl,c,m,j),d,k):=h;replace m:FrV K H vl g.lo.1 g.lo.2:=m;replace j:FrV K H o g.hi.1 g.hi.2:=j;show tSeq _ _ _ [some (.ref a)] H;cbv;show(_, .inr ⟨rfl,_,c⟩,?_)
 mframe;show(_, .inr c,?_);simpa only[length_cons,length_nil]
 (rw[if_neg (by simp)])
 cbv;show ixT (i:=0) c rfl ?_;show(g.nm,rfl,d.n1,λy n=>?_);cbv;show ixT (i:=1) (c.same n) rfl ?_;show ixT (i:=2) (c.same n) rfl ?_;show(g.st,g.en,rfl,d.n2,d.n3,d.ne,λq t=>?_);cbv;have b:=n.trans t;show ixT (i:=3) (c.same b) rfl ?_;show ixT (i:=4) (c.same b) rfl ?_;show(vl,o,g.lo,g.hi,rfl,m.same b,j.same b,d.lo,d.hi,k q b)
abbrev Bar:Stmt:=inClass (top 48) 0
theorem JdS:Jan ["self","row"] ["self","row"] (Jae Bar):=by bv_decide
def JbK(K:W.Frag):Sp:=λvs H Q E=>∃(x C dx a:Addr)(n st en z m wt:V),vs=[.ref x, .ref a]/\H x=some (.ins C dx [])/\PartC K C/\SqT K H a [n,st,en,z,m,wt]/\∀ H',H' x=some (.ins C dx (partF n st en z m wt))->(∀ b,b≠x->H' b=H b)->Q .non H'
theorem JdQ(F:FunD K "__init__" "Part.__init__" Bar dV f fd)(T:Txt K mg Ad)  : FnOk P w K mg base (CX1 P w) 1 f fd ["self","row"] (JbK K):=by
 show F.okn JdS (by subst_eqs) (λV A u s H O Q E Y h=>?_)
 let(x,C,d,a,n,g,j,z,m,y,rfl,h):=h;show(_,(Jab (Ja5 (pv 0) (pe_ix ix_U (pv 1) Jad) rfl) (Jab (Ja5 (pv 0) (pe_ix ix_U (pv 1) Jad) rfl) (Jab (Ja5 (pv 0) (pe_ix ix_U (pv 1) Jad) rfl) (Jab (Ja5 (pv 0) (pe_ix ix_U (pv 1) Jad) rfl) (Jab (Ja5 (pv 0) (pe_ix ix_U (pv 1) Jad) rfl) (Jah (Ja5 (pv 0) (pe_ix ix_U (pv 1) Jad) rfl))))))),?_)
 let(L,e,t,k):=h;show tSeq _ _ _ [some (.ref x),some (.ref a)] H;mexact;show ixT (i:=0) t rfl ?_;mexact;show(x,C,d,_,rfl,L,e.cls,e.n1,by simp,?_);have q:=SqT.put (fs':=putF "name" n []) L t;generalize u0:upd H x _=H1 at q ⊢;mexact;have I:H1 x=some (.ins C d [("name",n)]):=by rw[<- u0];show Jaj.trans rfl
 have U:∀ b,b≠x->H1 b=H b:=λb c=>by rw[<- u0,Jag c]
 mexact;show ixT (i:=1) q rfl ?_;mexact;show(x,C,d,_,rfl,I,e.cls,e.n2,by simp,?_);have p:=SqT.put (fs':=putF "start" g [("name",n)]) I q;generalize u1:upd H1 x _=H2 at p ⊢;mexact;have D:H2 x=some (.ins C d [("name",n),("start",g)]):=by rw[<- u1];show Jaj.trans rfl
 have W:∀ b,b≠x->H2 b=H1 b:=λb c=>by rw[<- u1,Jag c]
 mexact;show ixT (i:=2) p rfl ?_;mexact;show(x,C,d,_,rfl,D,e.cls,e.n3,by simp,?_);have o:=SqT.put (fs':=putF "end" j [("name",n),("start",g)]) D p;generalize u2:upd H2 x _=H3 at o ⊢;mexact;have B:H3 x=some (.ins C d [("name",n),("start",g),("end",j)]):=by rw[<- u2];show Jaj.trans rfl
 have R:∀ b,b≠x->H3 b=H2 b:=λb c=>by rw[<- u2,Jag c]
 mexact;show ixT (i:=3) o rfl ?_;mexact;show(x,C,d,_,rfl,B,e.cls,e.n4,by simp,?_);have l:=SqT.put (fs':=putF "size" z [("name",n),("start",g),("end",j)]) B o;generalize u3:upd H3 x _=H4 at l ⊢;mexact;have G:H4 x=some (.ins C d [("name",n),("start",g),("end",j),("size",z)]):=by rw[<- u3];show Jaj.trans rfl
 have X:∀ b,b≠x->H4 b=H3 b:=λb c=>by rw[<- u3,Jag c]
 mexact;show ixT (i:=4) l rfl ?_;mexact;show(x,C,d,_,rfl,G,e.cls,e.n5,by simp,?_);have r:=SqT.put (fs':=putF "most" m [("name",n),("start",g),("end",j),("size",z)]) G l;generalize u4:upd H4 x _=H5 at r ⊢;mexact;have J:H5 x=some (.ins C d [("name",n),("start",g),("end",j),("size",z),("most",m)]):=by rw[<- u4];show Jaj.trans rfl
 have N:∀ b,b≠x->H5 b=H4 b:=λb c=>by rw[<- u4,Jag c]
 mexact;show ixT (i:=5) r rfl ?_;mexact;show(x,C,d,_,rfl,J,e.cls,e.n6,by simp,?_);have v:=SqT.put (fs':=putF "weight" y [("name",n),("start",g),("end",j),("size",z),("most",m)]) J r;generalize u5:upd H5 x _=H6 at v ⊢;mexact;have S:H6 x=some (.ins C d [("name",n),("start",g),("end",j),("size",z),("most",m),("weight",y)]):=by rw[<- u5];show Jaj.trans rfl
 have M:∀ b,b≠x->H6 b=H5 b:=λb c=>by rw[<- u5,Jag c]
 mexact;show k H6 S λb c=>by rw[M b c,N b c,X b c,R b c,W b c,U b c]
abbrev BaK:Stmt:=inClass (top 48) 1
theorem Jfz:Jan ["self"] ["self"] (Jae BaK):=by bv_decide
def JcB(K:W.Frag)(Ad:Adr):Sp:=λvs H Q E=>∃(p dx:Addr)(n st en z m wt:V),vs=[.ref p]/\H p=some (.ins Ad.Part dx (partF n st en z m wt))/\∀ q H',Same H H'->H' q=some (.tup [n,st,en,z,m,wt])->Q (.ref q) H'
theorem Jfk(F:FunD K "plain" "Part.plain" BaK dV f fd)(T:Txt K mg Ad)  : FnOk P w K mg base (CX1 P w) 1 f fd ["self"] (JcB K Ad):=by
 show F.okn Jfz (by subst_eqs) (λo A d s H l Q E t h=>?_)
 let(p,b,n,g,j,z,m,i,rfl,h):=h;show(_,(Jah (Jap (JaJ (Jaa (Jar (pv 0) rfl) (Jaa (Jar (pv 0) rfl) (Jaa (Jar (pv 0) rfl) (Jaa (Jar (pv 0) rfl) (Jaa (Jar (pv 0) rfl) (Jaa (Jar (pv 0) rfl) Jac))))))))),?_);let(c,k):=h;have a:=T.BcR Ad.Part rfl;show tRet _ _ [some (.ref p)] H;mleave;show(p,_,b,_,n,rfl,c,a.cls,a.n1,rfl,?_);show(p,_,b,_,g,rfl,c,a.cls,a.n2,rfl,?_);show(p,_,b,_,j,rfl,c,a.cls,a.n3,rfl,?_);show(p,_,b,_,z,rfl,c,a.cls,a.n4,rfl,?_);show(p,_,b,_,m,rfl,c,a.cls,a.n5,rfl,?_);show(p,_,b,_,i,rfl,c,a.cls,a.n6,rfl,?_);mleave;show(by show 6<=sizeLine;decide,?_);show Jeh λq r S e=>k q r S e
abbrev Bau:Stmt:=inClass (top 49) 0
theorem Jex:Jan ["self","row"] ["self","row"] (Jae Bau):=by bv_decide
def Jb1(K:W.Frag):Sp:=λvs H Q E=>∃(x C dx a:Addr)(n st en l g:V),vs=[.ref x, .ref a]/\H x=some (.ins C dx [])/\GapC K C/\SqT K H a [n,st,en,l,g]/\∀ H',H' x=some (.ins C dx (gapF n st en l g))->(∀ b,b≠x->H' b=H b)->Q .non H'
theorem Jei(F:FunD K "__init__" "Gap.__init__" Bau dV f fd)(T:Txt K mg Ad)  : FnOk P w K mg base (CX1 P w) 1 f fd ["self","row"] (Jb1 K):=by
 show F.okn Jex (by subst_eqs) (λN A u s H J Q E U h=>?_)
 let(x,C,d,a,n,j,r,l,g,rfl,h):=h;show(_,(Jab (Ja5 (pv 0) (pe_ix ix_U (pv 1) Jad) rfl) (Jab (Ja5 (pv 0) (pe_ix ix_U (pv 1) Jad) rfl) (Jab (Ja5 (pv 0) (pe_ix ix_U (pv 1) Jad) rfl) (Jab (Ja5 (pv 0) (pe_ix ix_U (pv 1) Jad) rfl) (Jah (Ja5 (pv 0) (pe_ix ix_U (pv 1) Jad) rfl)))))),?_)
 let(G,e,t,k):=h;show tSeq _ _ _ [some (.ref x),some (.ref a)] H;mexact;show ixT (i:=0) t rfl ?_;mexact;show(x,C,d,_,rfl,G,e.cls,e.n1,by simp,?_);have q:=SqT.put (fs':=putF "name" n []) G t;generalize u0:upd H x _=H1 at q ⊢;mexact;have D:H1 x=some (.ins C d [("name",n)]):=by rw[<- u0];show Jaj.trans rfl
 have M:∀ b,b≠x->H1 b=H b:=λb c=>by rw[<- u0,Jag c]
 mexact;show ixT (i:=1) q rfl ?_;mexact;show(x,C,d,_,rfl,D,e.cls,e.n2,by simp,?_);have p:=SqT.put (fs':=putF "one" j [("name",n)]) D q;generalize u1:upd H1 x _=H2 at p ⊢;mexact;have z:H2 x=some (.ins C d [("name",n),("one",j)]):=by rw[<- u1];show Jaj.trans rfl
 have O:∀ b,b≠x->H2 b=H1 b:=λb c=>by rw[<- u1,Jag c]
 mexact;show ixT (i:=2) p rfl ?_;mexact;show(x,C,d,_,rfl,z,e.cls,e.n3,by simp,?_);have o:=SqT.put (fs':=putF "other" r [("name",n),("one",j)]) z p;generalize u2:upd H2 x _=H3 at o ⊢;mexact;have y:H3 x=some (.ins C d [("name",n),("one",j),("other",r)]):=by rw[<- u2];show Jaj.trans rfl
 have L:∀ b,b≠x->H3 b=H2 b:=λb c=>by rw[<- u2,Jag c]
 mexact;show ixT (i:=3) o rfl ?_;mexact;show(x,C,d,_,rfl,y,e.cls,e.n4,by simp,?_);have m:=SqT.put (fs':=putF "low" l [("name",n),("one",j),("other",r)]) y o;generalize u3:upd H3 x _=H4 at m ⊢;mexact;have B:H4 x=some (.ins C d [("name",n),("one",j),("other",r),("low",l)]):=by rw[<- u3];show Jaj.trans rfl
 have S:∀ b,b≠x->H4 b=H3 b:=λb c=>by rw[<- u3,Jag c]
 mexact;show ixT (i:=4) m rfl ?_;mexact;show(x,C,d,_,rfl,B,e.cls,e.n5,by simp,?_);have v:=SqT.put (fs':=putF "high" g [("name",n),("one",j),("other",r),("low",l)]) B m;generalize u4:upd H4 x _=H5 at v ⊢;mexact;have R:H5 x=some (.ins C d [("name",n),("one",j),("other",r),("low",l),("high",g)]):=by rw[<- u4];show Jaj.trans rfl
 have I:∀ b,b≠x->H5 b=H4 b:=λb c=>by rw[<- u4,Jag c]
 mexact;show k H5 R λb c=>by rw[I b c,S b c,L b c,O b c,M b c]
abbrev Ba1:Stmt:=inClass (top 49) 1
theorem Jgg:Jan ["self"] ["self"] (Jae Ba1):=by bv_decide
def JcR(K:W.Frag)(Ad:Adr):Sp:=λvs H Q E=>∃(p dx:Addr)(n st en l g:V),vs=[.ref p]/\H p=some (.ins Ad.Gap dx (gapF n st en l g))/\∀ q H',Same H H'->H' q=some (.tup [n,st,en,l,g])->Q (.ref q) H'
theorem Jf8(F:FunD K "plain" "Gap.plain" Ba1 dV f fd)(T:Txt K mg Ad)  : FnOk P w K mg base (CX1 P w) 1 f fd ["self"] (JcR K Ad):=by
 show F.okn Jgg (by subst_eqs) (λo A d s H m Q E t h=>?_)
 let(p,b,n,i,j,l,g,rfl,h):=h;show(_,(Jah (Jap (JaJ (Jaa (Jar (pv 0) rfl) (Jaa (Jar (pv 0) rfl) (Jaa (Jar (pv 0) rfl) (Jaa (Jar (pv 0) rfl) (Jaa (Jar (pv 0) rfl) Jac)))))))),?_);let(c,k):=h;have a:=T.BdO Ad.Gap rfl;show tRet _ _ [some (.ref p)] H;mleave;show(p,_,b,_,n,rfl,c,a.cls,a.n1,rfl,?_);show(p,_,b,_,i,rfl,c,a.cls,a.n2,rfl,?_);show(p,_,b,_,j,rfl,c,a.cls,a.n3,rfl,?_);show(p,_,b,_,l,rfl,c,a.cls,a.n4,rfl,?_);show(p,_,b,_,g,rfl,c,a.cls,a.n5,rfl,?_);mleave;show(by show 5<=sizeLine;decide,?_);show Jeh λq r S e=>k q r S e
abbrev BbC:Stmt:=top 46
theorem JhY:Jan ["thing"] ["thing"] (Jae BbC):=by bv_decide
def JdG(K:W.Frag):Sp:=λvs H Q E=>∃(x:V)(p:PD),vs=[x]/\PDV K H p x/\POk p/\∀ H',Same H H'->Q (.bl true) H'
theorem JhR(F:FunD K "is_part" "is_part" BbC dV f fd)(T:Txt K mg Ad)(BaI:Cal P w K mg base 1 "is_name" ["thing"] [] (Jct K))(Ba0:Cal P w K mg base 2 "are_faces" ["one","other"] [] (Jcc K))(Bat:Cal P w K mg base 2 "is_fraction" ["thing"] [] (JbI K))(BaY:Cal P w K mg base 1 "is_whole" ["thing"] [] (JcD K))(Baj:Cal P w K mg base 1 "under" ["one","other"] [] (JbV K)):FnOk P w K mg base (CX1 P w) 5 f fd ["thing"] (JdG K):=by
 show F.okn JhY (by subst_eqs) (λB A g s H r Q E e h=>?_)
 let(x,p,rfl,h):=h;have o:=e.units;show(_,(Jab (ps_if (PW.pt (pw_or (Jbw (Jba (Jay JaX rfl T.Bad Jav (Jaa (pv 0) (Jaa (Jc4 (v:=.ty "tuple") rfl T.Bdr Je7 rfl) Jac))))) (Jca (Jaw (JbO o) (Jay Ja8 rfl T.Bb5 Jb6 (Jaa (pv 0) Jac)) Jad (Jax _))))) (Jah (Jap pe_bl))
   Jat) (Jab (ps_if (PW.pt (pw_or (Jbw (Jba (BaI.ev e ⋯ rfl passF (Jaa (pe_ix ix_U (pv 0) Jad) Jac)))) (Jca (Jbw (Jba (Ba0.ev e ⋯ rfl passF (Jaa (pe_ix ix_U (pv 0) Jad) (Jaa (pe_ix ix_U (pv 0) Jad) Jac)))))))) (Jah (Jap pe_bl))
   Jat) (Jab (ps_if (PW.pt (pw_or (Jbw (Jba (Bat.ev e ⋯ rfl passF (Jaa (pe_ix ix_U (pv 0) Jad) Jac)))) (pw_or (Jbw (Jba (Bat.ev e ⋯ rfl passF (Jaa (pe_ix ix_U (pv 0) Jad) Jac)))) (Jca (Jbw (Jba (BaY.ev e ⋯ rfl passF (Jaa (pe_ix ix_U (pv 0) Jad) Jac)))))))) (Jah (Jap pe_bl))
   Jat) (Jah (Jap (Jcq (Jhq (Baj.ev e ⋯ rfl passF (Jaa (pe_ix ix_U (pv 0) Jad) (Jaa (Jbk (v:=.ref _) rfl T.Bcp T.Bcq) Jac)))) (Jdn (Jby Jkv (pe_ix ix_U (pv 0) Jad) Jad (Jax _))))))))),?_)
 clear o;let((a,y,l,rfl,d,t,n),c,k):=h;show tSeq _ _ _ [some (.ref a)] H;cbv;show(_, .inr ⟨rfl,_,d⟩,?_)
 mframe;show(_, .inr d,?_);simpa only[length_cons,length_nil]
 (rw[if_neg (by simp)])
 cbv;show ixT (i:=0) d rfl ?_;show(p.nm,rfl,c.n1,λD j=>?_);cbv;show ixT (i:=1) (d.same j) rfl ?_;show ixT (i:=2) (d.same j) rfl ?_;show(p.st,p.en,rfl,c.n2,c.n3,c.ne,λq u=>?_);cbv;have b:=j.trans u;show ixT (i:=3) (d.same b) rfl ?_;show(y,_,_,rfl,t.same b,c.z.b1,c.z.g1,?_);cbv;show ixT (i:=4) (d.same b) rfl ?_;show(l,_,_,rfl,n.same b,c.m.b1,c.m.g1,?_);cbv;show ixT (i:=5) (d.same b) rfl ?_;show(p.wt,rfl,?_);cbv;show ixT (i:=4) (d.same b) rfl ?_;show(l, .ref Ad.ZERO,p.mo.1,p.mo.2,0,1,rfl,n.same b,⟨Ad.ZERO,rfl,T.Bcr _⟩,c.m.s1.mono ⋯,c.m.s2.mono ⋯, .lit ⋯ ⋯, .lit ⋯ ⋯,?_);cbv;have C:=c.m0;rw[if_pos (by simp;ac_nf)];cbv;show ixT (i:=5) (d.same b) rfl ?_;cbv;have:=k q b;simpa[c.w]using this
abbrev BbZ:Stmt:=top 47
theorem Ji4:Jan ["thing"] ["thing"] (Jae BbZ):=by bv_decide
def JeC(K:W.Frag):Sp:=λvs H Q E=>∃(x:V)(g:GD),vs=[x]/\TV K H g.td x/\TOr g/\∀ H',Same H H'->Q (.bl (okG g)) H'
theorem JiK(F:FunD K "is_gap" "is_gap" BbZ dV f fd)(T:Txt K mg Ad)(BcY:Cal P w K mg base 5 "is_tie" ["thing"] [] (JeD K)):FnOk P w K mg base (CX1 P w) 6 f fd ["thing"] (JeC K):=by
 show F.okn Ji4 (by subst_eqs) (λo A d s H m Q E n h=>?_)
 let(x,g,rfl,h):=h;show(_,(Jah (Jap (Jcq (BcY.ev n ⋯ rfl passF (Jaa (pv 0) Jac)) (Jcq (Jby Jfu (pe_ix ix_U (pv 0) Jad) JcP (Jax _)) (Jdn (Jby Jfu (pe_ix ix_U (pv 0) Jad) JcP (Jax _))))))),?_);let(e,p,k):=h;show tRet _ _ [some x] H;cbv;show(x,g,rfl,e,p,λj b=>?_);let(a,vl,q,rfl,l,(_,rfl,_),(_,rfl,_)):=e;by_cases c:okG g=false
 .rw[c];cbv;have:=k j b;rw[c]at this;show this
 replace c:okG g=true:=by simpa using c
 rw[c];rw[c]at k;cbv;show ixT (i:=3) (l.same b) rfl ?_;cbv;show ixT (i:=4) (l.same b) rfl ?_;cbv;show k j b
abbrev BbD:Stmt:=top 50
theorem JhZ:Jan ["thing"] ["thing"] (Jae BbD):=by bv_decide
def JdI(K:W.Frag)(Ad:Adr):Sp:=λvs H Q E=>∃(x:V)(p:PD),vs=[x]/\PDV K H p x/\POk p/\∀ v H',Same H H'->POV K Ad H' p v->Q v H'
theorem JhU(F:FunD K "part_of" "part_of" BbD dV f fd)(T:Txt K mg Ad)(Bcu:Cal P w K mg base 5 "is_part" ["thing"] [] (JdG K))(BdP:KCal P w K mg base 1 "Part" Ad.Part ["self","row"] (JbK K)):FnOk P w K mg base (CX1 P w) 6 f fd ["thing"] (JdI K Ad):=by
 show F.okn JhZ (by subst_eqs) (λG A c s H C Q E l h=>?_)
 let(x,p,rfl,h):=h;show(_,(Jab (ps_if (Jbw (Jba (Bcu.ev l ⋯ rfl passF (Jaa (pv 0) Jac)))) (Jah ps_no)
   Jat) (Jah (Jap (BdP.ev l ⋯ rfl passF (Jaa (pv 0) Jac))))),?_)
 let(v,I,k):=h;show tSeq _ _ _ [some x] H;cbv;show(x,p,rfl,v,I,λz t=>?_);cbv;let(b,r,i,rfl,J,B,D):=v;intro y a n g L;have m:Same z (upd (upd z a (.own y)) y (.ins Ad.Part a [])):=λb u q=>by rw[Jag (Jai q n),Jag (Jai q g)];show q
 show(y,_,a,b,_,_,_,r,i,_,rfl,Jaj,T.BcR _ rfl,(J.same t).same m,λj e o=>⟨rfl,?_⟩);have d:Same H j:=t.trans λb u q=>by rw[o b (Jai q n)];show m _ _ q
 show k _ j d ⟨y,a,r,i,rfl,e,B.same d,D.same d⟩
abbrev Bb0:Stmt:=top 51
theorem Ji3:Jan ["thing"] ["thing"] (Jae Bb0):=by bv_decide
def JeB(K:W.Frag)(Ad:Adr):Sp:=λvs H Q E=>∃(x:V)(g:GD),vs=[x]/\TV K H g.td x/\TOr g/\(okG g=false->∀ H',Same H H'->E (.ref Ad.NoGap) none H')/\(okG g=true->∀ v H',Same H H'->GOV K Ad H' g v->Q v H')
theorem JiJ(F:FunD K "gap_of" "gap_of" Bb0 dV f fd)(T:Txt K mg Ad)(BcZ:Cal P w K mg base 6 "is_gap" ["thing"] [] (JeC K))(Bd4:KCal P w K mg base 1 "Gap" Ad.Gap ["self","row"] (Jb1 K)):FnOk P w K mg base (CX1 P w) 7 f fd ["thing"] (JeB K Ad):=by
 show F.okx Ji3 (λI H Q E h=>?_) (λJ A j s H I Q E z h=>?_)
 .let(x,g,rfl,_):=h;rfl
 let(x,g,rfl,h):=h;show(_,(Jab (ps_if (Jbw (Jba (BcZ.ev z ⋯ rfl pass1 (Jaa (pv 0) Jac)))) (Jah (JdY PySem.F.excBase_ValueError T.Bcs rfl T.BdN (Jaa JaY Jac)))
   Jat) (Jah (Jap (Bd4.ev z ⋯ rfl pass1 (Jaa (pv 0) Jac))))),?_)
 let(D,L,G,k):=h;show tSeq _ _ _ [some x] H;cbv;show(x,g,rfl,D,L,λt p=>?_);by_cases c:okG g=false
 .rw[c];cbv;show(by show 1<=sizeLine;decide,G c t p)
 replace c:okG g=true:=by simpa using c
 replace k:=k c;rw[c];cbv;let(b,n,d,rfl,M,i,m):=D;replace i:FrV K H n g.lo.1 g.lo.2:=i;replace m:FrV K H d g.hi.1 g.hi.2:=m;intro y a C r N;have B:Same t (upd (upd t a (.own y)) y (.ins Ad.Gap a [])):=λb u q=>by rw[Jag (Jai q C),Jag (Jai q r)];show q
 show(y,_,a,b,_,_,_,n,d,rfl,Jaj,T.BdO _ rfl,(M.same p).same B,λv e o=>⟨rfl,?_⟩);have l:Same H v:=p.trans λb u q=>by rw[o b (Jai q C)];show B _ _ q
 show k _ v l ⟨y,a,n,d,rfl,e,i.same l,m.same l⟩
abbrev Bah:Stmt:=inClass (top 52) 0
theorem Jdp:Jan ["self"] ["self"] (Jae Bah):=by bv_decide
def Jbr(K:W.Frag)(Ad:Adr):Sp:=λvs H Q E=>∃(x dx:Addr),vs=[.ref x]/\H x=some (.ins Ad.Joints dx [])/\∀ d H',H d=none->d≠x->H' x=some (.ins Ad.Joints dx [("leads", .ref d)])->H' d=some (.dK [])->(∀ b u,b≠x->H b=some u->H' b=some u)->Q .non H'
theorem Jdj(F:FunD K "__init__" "Joints.__init__" Bah dV f fd)(T:Txt K mg Ad)  : FnOk P w K mg base (CX1 P w) 1 f fd ["self"] (Jbr K Ad):=by
 show F.okn Jdp (by subst_eqs) (λp A c s H m Q E r h=>?_)
 let(x,i,rfl,h):=h;show(_,(Jah (Ja5 (pv 0) JbQ rfl)),?_);let(g,k):=h;have l:=T.Bb6 _ rfl;show sFld _ _ _ _ _ [some (.ref x)] H;mexact;rename_i d a o H t j q;mexact;show(x,_,i,_,rfl,j _ _ g,l.cls,l.n1,by simp,?_);have e:d≠x:=λz=>by rw[z,g]at a;cases a
 show k d _ a e (Jaj.trans rfl) (by rw[Jag e];show q) λb u n h=>by rw[Jag n];show j _ _ h
abbrev BaD:Stmt:=inClass (top 52) 1
theorem JeQ:Jan ["self","part"] ["self","part"] (Jae BaD):=by bv_decide
def Jcj(K:W.Frag)(Ad:Adr):Sp:=λvs H Q E=>∃(j d:Addr)(v:V)(ls:List PD)(p:PD)(H0:Hp),vs=[.ref j,v]/\JK Ad H0 H j d ls/\Same H0 H/\POV K Ad H p v/\p.st≠p.en/\ls.length<=20/\∀ H',Same H0 H'->SameJ d H H'->JK Ad H0 H' j d (ls++[p])->Q .non H'
theorem JeK(F:FunD K "link" "Joints.link" BaD dV f fd)(T:Txt K mg Ad)  : FnOk P w K mg base (CX1 P w) 1 f fd ["self","part"] (Jcj K Ad):=by
 show F.okn JeQ (by subst_eqs) (λf4 A e8 s H vs Q E hr h=>?_)
 let(j,d,v,ls,p,Y,rfl,h):=h;show(_,(Jab (Ja6 (pe_bm PySem.F.plainAttrs_list PySem.F.slot_list_append PySem.F.type_list_append Ja9 (JiR (Jar (pv 0) rfl) (Jar (pv 1) rfl) (Jbc Jac) ⟨rfl,rfl,rfl,rfl⟩) (Jaa (JaJ (Jaa (Jar (pv 1) rfl) (Jaa (JaJ (Jaa (Jar (pv 1) rfl) (Jaa pe_bl Jac))) Jac))) Jac) (hs:=by show Jaf rfl))) (Jah (Ja6 (pe_bm PySem.F.plainAttrs_list PySem.F.slot_list_append PySem.F.type_list_append Ja9 (JiR (Jar (pv 0) rfl) (Jar (pv 1) rfl) (Jbc Jac) ⟨rfl,rfl,rfl,rfl⟩) (Jaa (JaJ (Jaa (Jar (pv 1) rfl) (Jaa (JaJ (Jaa (Jar (pv 1) rfl) (Jaa pe_bl Jac))) Jac))) Jac) (hs:=by show Jaf rfl))))),?_)
 let(((dx,b6),b5,a2,D,hk,b4),b8,hv,e7,hl,k):=h;let(q,dq,vz,vm,rfl,I,hz,hm):=hv;have sl:(1000:Nat)<=sizeLine:=by decide
 have jc:=T.Bb6 _ rfl;have C:=T.BcR _ rfl;have nj:j≠d:=λz=>by rw[z,D]at b6;cases b6
 have nq:q≠d:=λz=>by rw[z,D]at I;cases I
 have e5:∀ f,(JaB ls f).length<=20:=λf=>by have:=Jhk ls f;ac_nf
 show tSeq _ _ _ [some (.ref j),some (.ref q)] H;mleave;rename_i R hR;obtain⟨H1,hH⟩:∃ H',H'=H:=⟨_,rfl⟩;subst hH;have key:∀(t:Hp)(kv:List (Key × V)),SameJ d H1 t->Same Y t->t d=some (.dK kv)->kv.length<=2*ls.length+1->JD Y t (addL (JaB ls) p.st (p.en,(p.nm,true))) kv->R [some (.ref j),some (.ref q)] t:=by
  intro t kv J W r f5 L;show hR.go ?_;clear hR;have c7:=J _ _ nj (by intro x z;cases z) b6;have a4:=J _ _ nq (by intro x z;cases z) I;have e4:∀ f,(addL (JaB ls) p.st (p.en,(p.nm,true)) f).length<=21:=λf=>by
   have:=Jhk ls f;unfold addL;split
   .rw[length_append,length_singleton];ac_nf
   .ac_nf
  mleave;show(j,_,dx,_, .ref d,rfl,c7,jc.cls,jc.n1,rfl,?_);mleave;show(d,rfl, .inl ⟨kv, .inl r⟩,?_);show(q,_,dq,_, .str p.en,rfl,a4,C.cls,C.n3,rfl,?_);mleave;show(len0,?_);rename_i l2 B f2 t e6 Z f0;mleave;show(kv,Sum.inr p.en,Z _ _ r,rfl,by ac_nf,λv hv=>?_,λhv=>?_)
  .obtain⟨l,x,d6,d1,a9,c3⟩:∃ l x,v=.ref l/\Y l=none/\t l=some (.lst x)/\All2 (LeV t) ((addL (JaB ls) p.st (p.en,(p.nm,true))) p.en) x:=by
    rcases L.at_ p.en with⟨h1,_⟩ | ⟨l,x,h1,h2,h3,h4⟩
    .rw[hv]at h1;cases h1
    .rw[hv]at h1;cases h1;show(l,x,rfl,h2,h3,h4)
   subst d6;have f1:x.length<=21:=by rw[c3.length];show e4 _
   show(.inl ⟨rfl,_,SqL.of (Z _ _ a9)⟩,?_);mleave;have a:=Z _ _ a4;obtain⟨U,N⟩:∃ H',H'=e6:=⟨_,rfl⟩;rw[<- N]at a ⊢;show(q,_,dq,_, .str p.st,rfl,a,C.cls,C.n2,rfl,?_);mleave;show(q,_,dq,_, .str p.nm,rfl,a,C.cls,C.n1,rfl,?_);mleave;show(len2,?_);rename_i d8 d7 d5 U c5 c9 c6;mleave;show(len2,?_);rename_i a7 e1 c4 c5 O a3 c1;mleave;have a1:LeV O (p.st,(p.nm,false)) (.ref a7):=⟨a7,d8,rfl,c1,a3 _ _ c6⟩;have n:=c9.trans a3;have c:=n _ _ (by rw[N];show Z _ _ a9:U l=some (.lst x));show(l,x,_,rfl,rfl,c,by ac_nf,?_);generalize u3:upd O l _=H3;mleave;have i:Same t O:=λb u h=>n _ _ (by rw[N];show Z _ _ h);have a8:=(L.same i).more hv c a1 u3;have b3:SameJ d t H3:=λb u _ hu h=>by rw[<- u3,Jag (λz=>by have:=i _ _ h;rw[z,c]at this;cases this;show hu _ rfl)];show i _ _ h
   have b7:H3 d=some (.dK kv):=by rw[<- u3,Jag (λz=>by have:=i _ _ r;rw[z,c]at this;cases this)];show i _ _ r
   have d9:Same Y H3:=λb u h=>by rw[<- u3,Jag (Jai h d1)];show i _ _ (W _ _ h)
   rw[JfP e7]at a8;show k H3 d9 (λb u hb hu h=>b3 b u hb hu (J b u hb hu h)) ⟨⟨dx,b3 _ _ nj (by intro x z;cases z) c7⟩,b5,_,b7,?_,a8⟩;rw[length_append,length_singleton];ac_nf
  .have a5:Y l2=none:=by
    cases e:Y l2 with
    | none=>rfl
    | some o=>rw[W _ _ e]at B;cases B
   generalize uc:upd e6 d _=U;mleave;have nd:l2≠d:=λz=>by rw[z,r]at B;cases B
   have a6:U l2=some (.lst []):=by rw[<- uc,Jag nd];show f0
   have G:∀ b u,b≠d->t b=some u->U b=some u:=λb u hb h=>by rw[<- uc,Jag hb];show Z _ _ h
   have e2:U d=some (.dK (putK kv (Sum.inr p.en) (.ref l2))):=by rw[<- uc,Jaj]
   show(.inl ⟨rfl,_,SqL.of a6⟩,?_);mleave;have a:=G _ _ (λz=>by rw[z,r]at a4;cases a4) a4;show(q,_,dq,_, .str p.st,rfl,a,C.cls,C.n2,rfl,?_);mleave;show(q,_,dq,_, .str p.nm,rfl,a,C.cls,C.n1,rfl,?_);mleave;show(len2,?_);rename_i d8 d7 d5 U c5 c9 c6;mleave;show(len2,?_);rename_i a7 e1 c4 c5 O a3 c1;mleave;have a1:LeV O (p.st,(p.nm,false)) (.ref a7):=⟨a7,d8,rfl,c1,a3 _ _ c6⟩;have n:=c9.trans a3;have c:=n _ _ a6;show(l2,[],_,rfl,rfl,c,by show 0<sizeLine;ac_nf,?_);generalize u3:upd O l2 _=H3;mleave;have a8:=((L.sx G r).same n).first hv a5 (λg l' b0 z=>by
    rcases L.at_ g with⟨h1,_⟩ | ⟨l2,xs2,h1,_,h3,_⟩
    .rw[b0]at h1;cases h1
    .rw[b0]at h1;cases h1;rw[z,B]at h3;cases h3) c a1 u3
   have b3:SameJ d t H3:=λb u hb hu h=>by rw[<- u3,Jag (λz=>by rw[z,B]at h;cases h)];show n _ _ (G _ _ hb h)
   have b7:=n _ _ e2;rw[show O d=H3 d by rw[<- u3,Jag (Ne.symm nd)]]at b7;have d9:Same Y H3:=λb u h=>by rw[<- u3,Jag (Jai h a5)];show n _ _ (G _ _ (Jai h b5) (W _ _ h))
   have lp:=Jbx kv (Sum.inr p.en) (V.ref l2);rw[JfP e7]at a8;show k H3 d9 (λb u hb hu h=>b3 b u hb hu (J b u hb hu h)) ⟨⟨dx,b3 _ _ nj (by intro x z;cases z) c7⟩,b5,_,b7,?_,a8⟩;rw[length_append,length_singleton];ac_nf
 clear hR;show(j,_,dx,_, .ref d,rfl,b6,jc.cls,jc.n1,rfl,?_);mleave;show(d,rfl, .inl ⟨a2, .inl D⟩,?_);show(q,_,dq,_, .str p.st,rfl,I,C.cls,C.n2,rfl,?_);mleave;show(len0,?_);rename_i l1 y f3 H1 e3 X e9;mleave;show(a2,Sum.inr p.st,X _ _ D,rfl,by ac_nf,λv hv=>?_,λhv=>?_)
 .obtain⟨l,x,d6,d1,a9,c3⟩:∃ l x,v=.ref l/\Y l=none/\H1 l=some (.lst x)/\All2 (LeV H1) ((JaB ls) p.st) x:=by
   rcases b4.at_ p.st with⟨h1,_⟩ | ⟨l,x,h1,h2,h3,h4⟩
   .rw[hv]at h1;cases h1
   .rw[hv]at h1;cases h1;show(l,x,rfl,h2,h3,h4)
  subst d6;have f1:x.length<=20:=by rw[c3.length];show e5 _
  show(.inl ⟨rfl,_,SqL.of (X _ _ a9)⟩,?_);mleave;have a:=X _ _ I;obtain⟨S,N⟩:∃ H',H'=e3:=⟨_,rfl⟩;rw[<- N]at a ⊢;show(q,_,dq,_, .str p.en,rfl,a,C.cls,C.n3,rfl,?_);mleave;show(q,_,dq,_, .str p.nm,rfl,a,C.cls,C.n1,rfl,?_);mleave;show(len2,?_);rename_i e0 c0 d3 S d2 c2 b9;mleave;show(len2,?_);rename_i b2 d4 c8 d2 M b1 d0;mleave;have a0:LeV M (p.en,(p.nm,true)) (.ref b2):=⟨b2,e0,rfl,d0,b1 _ _ b9⟩;have m:=c2.trans b1;have c:=m _ _ (by rw[N];show X _ _ a9:S l=some (.lst x));show(l,x,_,rfl,rfl,c,by ac_nf,?_);generalize u2:upd M l _=t;mleave;have i:Same H1 M:=λb u h=>m _ _ (by rw[N];show X _ _ h);have L:=(b4.same i).more hv c a0 u2;have J:SameJ d H1 t:=λb u _ hu h=>by rw[<- u2,Jag (λz=>by have:=i _ _ h;rw[z,c]at this;cases this;show hu _ rfl)];show i _ _ h
  have r:t d=some (.dK a2):=by rw[<- u2,Jag (λz=>by have:=i _ _ D;rw[z,c]at this;cases this)];show i _ _ D
  have W:Same Y t:=λb u h=>by rw[<- u2,Jag (Jai h d1)];show i _ _ (b8 _ _ h)
  show key t _ J W r ∅ L
 .have a5:Y l1=none:=by
   cases e:Y l1 with
   | none=>rfl
   | some o=>rw[b8 _ _ e]at y;cases y
  generalize uc:upd e3 d _=S;mleave;have nd:l1≠d:=λz=>by rw[z,D]at y;cases y
  have a6:S l1=some (.lst []):=by rw[<- uc,Jag nd];show e9
  have G:∀ b u,b≠d->H1 b=some u->S b=some u:=λb u hb h=>by rw[<- uc,Jag hb];show X _ _ h
  have e2:S d=some (.dK (putK a2 (Sum.inr p.st) (.ref l1))):=by rw[<- uc,Jaj]
  show(.inl ⟨rfl,_,SqL.of a6⟩,?_);mleave;have a:=G _ _ (λz=>by rw[z,D]at I;cases I) I;show(q,_,dq,_, .str p.en,rfl,a,C.cls,C.n3,rfl,?_);mleave;show(q,_,dq,_, .str p.nm,rfl,a,C.cls,C.n1,rfl,?_);mleave;show(len2,?_);rename_i e0 c0 d3 S d2 c2 b9;mleave;show(len2,?_);rename_i b2 d4 c8 d2 M b1 d0;mleave;have a0:LeV M (p.en,(p.nm,true)) (.ref b2):=⟨b2,e0,rfl,d0,b1 _ _ b9⟩;have m:=c2.trans b1;have c:=m _ _ a6;show(l1,[],_,rfl,rfl,c,by show 0<sizeLine;ac_nf,?_);generalize u2:upd M l1 _=t;mleave;have L:=((b4.sx G D).same m).first hv a5 (λg l' b0 z=>by
   rcases b4.at_ g with⟨h1,_⟩ | ⟨l2,xs2,h1,_,h3,_⟩
   .rw[b0]at h1;cases h1
   .rw[b0]at h1;cases h1;rw[z,y]at h3;cases h3) c a0 u2
  have J:SameJ d H1 t:=λb u hb hu h=>by rw[<- u2,Jag (λz=>by rw[z,y]at h;cases h)];show m _ _ (G _ _ hb h)
  have r:=m _ _ e2;rw[show M d=t d by rw[<- u2,Jag (Ne.symm nd)]]at r;have W:Same Y t:=λb u h=>by rw[<- u2,Jag (Jai h a5)];show m _ _ (G _ _ (Jai h b5) (b8 _ _ h))
  have lp:=Jbx a2 (Sum.inr p.st) (V.ref l1);show key t _ J W r ∅ L
abbrev Baf:Stmt:=inClass (top 52) 2
theorem JaK:Jan ["self","one","other","found","waiting","face","lead"] ["self","one","other"] (Jae Baf):=by bv_decide
def Jbd(K:W.Frag)(Ad:Adr):Sp:=λvs H Q E=>∃(j d:Addr)(one other:Str)(ls:List PD)(H0:Hp),vs=[.ref j, .str one, .str other]/\JK Ad H0 H j d ls/\ls.length<=20/\(ls.map (·.nm)).Nodup/\(¬ Conn ls one other->∀ H',Same H H'->Q .non H')/\(∀ w l xs H',Same H H'->H l=none->H' l=some (.lst xs)->All2 (CV H') w xs->JaQ ls one w other->(w.map (·.1)).Nodup->Q (.ref l) H')
theorem JcM(F:FunD K "way_between" "Joints.way_between" Baf dV f fd)(T:Txt K mg Ad)  : FnOk P w K mg base (CX1 P w) 1 f fd ["self","one","other"] (Jbd K Ad):=by
 show F.okn JaK (by subst_eqs) (λi5 A d7 s H vs Q E hr h=>?_)
 let(j,d,one,other,M,H0,rfl,h):=h;have hu:=hr.units;show(_,(Jab (Jak 3 JaK.nd (Jlv (JjY (pv 1) (Jbc Jac) JlC) rfl rfl (by simp) ⋯)) (Jab (Jak 4 JaK.nd (Jbc (Jaa (pv 1) Jac))) (Jab (JdZ PassesOwn.never (Jaw Jhm (Jay Ja8 rfl T.Bb5 Jb6 (Jaa (pv 4) Jac)) Jad (Jax _)) (Jab (Jak 5 JaK.nd (Jkw PySem.F.plainAttrs_list PySem.F.slot_list_pop PySem.F.type_list_pop Jms (pv 4))) (Jah (Ja2 PassesOwn.never rfl (pi_U (JjS (hu1 hu) (Jar (pv 0) rfl) (pv 5) (Jbc Jac) ⟨rfl,rfl,rfl,rfl⟩)) (Jaq 6 JaK.nd) (Jah (ps_if (Jew (Jdl (hu1 hu) (pe_ix ix_U (pv 6) Jad) (pv 3)) (by with_unfolding_all rfl)) (Jab (Jcx (hu1 hu) (pv 3) (pe_ix ix_U (pv 6) Jad) (pe_op JaI (Jch (hu1 hu) (pv 3) (pv 5) (λ_ _=>rfl)) (Jbc (Jaa (pe_ix ix_U (pv 6) Jad) Jac))) rfl) (Jah (Ja6 (pe_bm PySem.F.plainAttrs_list PySem.F.slot_list_append PySem.F.type_list_append Ja9 (pv 4) (Jaa (pe_ix ix_U (pv 6) Jad) Jac) (hs:=by show Jaf rfl)))))
   Jat)))))) (Jah (Jap (JjR (hu1 hu) (pv 3) (pv 2) ⟨rfl,rfl,rfl,rfl⟩)))))),?_)
 clear hu;let(((dx,hj),i8,b6,hd,hk,hJ),hl,f1,k1,k2):=h;have sl:(1000:Nat)<=sizeLine:=by decide
 have jc:=T.Bb6 _ rfl;show tSeq _ _ _ [some (.ref j),some (.str one),some (.str other),none,none,none,none] H;mleave;rename_i fd b0 h7 H H1 S1 e1;mleave;show(len0,?_);rename_i l0 N i1 H1 H2 S2 e2;mleave;show(S2 _ _ e1,[(Sum.inr one, .ref l0)],rfl,by show 1<=15;ac_nf,?_);generalize u3:upd H2 fd _=H3;mleave;have e3:H3 fd=some (.dK [(Sum.inr one, .ref l0)]):=by rw[<- u3];show Jaj.trans rfl
 have f9:l0≠fd:=λz=>by rw[z,e1]at N;cases N
 have b9:H3 l0=some (.lst []):=by rw[<- u3,Jag f9];show e2
 have d6:Same H H3:=λb u h=>by rw[<- u3,Jag (Jai h b0)];show S2 _ _ (S1 _ _ h)
 have f5:H l0=none:=by
  cases e:H l0 with
  | none=>rfl
  | some o=>rw[S1 _ _ e]at N;cases N
 show(by show 1<=sizeLine;ac_nf,?_);rename_i I G i0 H3 H4 S4 e4;mleave;have b4:H I=none:=by
  cases e:H I with
  | none=>rfl
  | some o=>rw[d6 _ _ e]at G;cases G
 have g1:l0≠I:=λz=>by rw[<- z,b9]at G;cases G
 have i3:fd≠I:=λz=>by rw[<- z,e3]at G;cases G
 have e5:Srch H M one fd I H4 [(one,[])] [one]:=⟨d6.trans S4,⟨_,S4 _ _ e3,rfl, .ref l0,[],rfl,⟨l0,[],rfl,f5,g1,S4 _ _ b9,rfl⟩,rfl⟩,by simp,by simp,λa J=>by rw[mem_singleton.mp J];show .nil,e4,by simp,by simp,λa J=>by rw[mem_singleton.mp J];simp⟩;show(λm σ H'=>∃(v5 v6:Option V)(ws:List (Str × List Pr))(wt:List Str),σ=[some (.ref j),some (.str one),some (.str other),some (.ref fd),some (.ref I),v5,v6]/\Srch H M one fd I H' ws wt/\(∀ a∈ws,a.1∉wt->∀ e∈JaB M a.1,e.1∈ws.map (·.1))/\m=2*(41-ws.length)+wt.length/\m<=81,⟨_,none,none,[(one,[])],[one],rfl,e5,λa J W=>absurd (by rw[mem_singleton.mp J];simp) W,rfl,by simp⟩,?_);rintro m σ H5 ⟨v5,v6,ws,wt,rfl,S,cl,rfl,b3⟩;mleave;show(_, .inl (SqL.of S.wait),?_);mleave;rcases List.eq_nil_or_concat wt with rfl | ⟨wt',face,rfl⟩
 .rw[if_neg (by simp)];mleave;let(e8,d4,g0):=S.dict;mleave;show(fd,rfl, .inl ⟨e8, .inl d4⟩,_,DGet.k (k:=Sum.inr other) d4,?_);rcases g0.get (z:=other)with⟨a,v,R,h2,h3,l,xs,rfl,h4,_,h5,h6⟩ | ⟨R,h2⟩
  .rw[h3];show k2 a.2 l xs H5 S.same h4 h5 h6 (by rw[<- h2];show S.walk a R) (S.sim a R).1
  .rw[h2];show k1 (λhc=>R (JkX S.here (λf hf e he=>?_) hc)) H5 S.same;let(a,J,rfl):=mem_map.mp hf;show cl a J (by simp) e he
 .rw[if_pos (by simp)];mleave;rw[List.concat_eq_append]at S cl b3 ⊢;show(_,λ_ _ q=>q,?_);mleave;show(.inl ⟨rfl,_,SqL.of S.wait⟩,?_);show(I,_, .str face,rfl,rfl,S.wait,by simp,?_);generalize u6:upd H5 I _=H6;mleave;have ed:((wt'++[face]).map V.str).dropLast=wt'.map V.str:=by simp
  rw[ed]at u6;have a6:Srch H M one fd I H6 ws wt':=S.wait' b4 u6 λf hf=>S.sub f (by simp[hf]);have b5:=S.sub face (by simp);mleave;show(j,_,dx,_, .ref d,rfl,a6.same _ _ hj,jc.cls,jc.n1,rfl,?_);mleave;show(d,rfl, .inl ⟨b6, .inl (a6.same _ _ hd)⟩,len0,?_);rename_i le c6 h8 H6 H7 S7 e7;mleave;have a0:=a6.grow S7;have e0:le≠I:=λz=>by have:=a6.wait;rw[<- z,c6]at this;cases this
  show(_,DGet.k (k:=Sum.inr face) (a0.same _ _ hd),?_);obtain⟨la,xs,d9,d3,d0,g7⟩:∃ la xs,(valV b6 (Sum.inr face)).getD (.ref le)=.ref la/\H7 la=some (.lst xs)/\All2 (LeV H7) (JaB M face) xs/\la≠I:=by
   rcases hJ.at_ face with⟨R,h2⟩ | ⟨l,xs,R,h2,h3,h4⟩
   .show(le,[],by rw[R];rfl,e7,by rw[h2];rfl,e0)
   .show(l,xs,by rw[R];rfl,a0.same _ _ h3,h4.mono λ_ _ z=>z.sameT a0.same.t,Jai h3 b4)
  have lx:=d0.length;have j2:=a0.len hl;show(la,d9,ForA.byL (xs:=xs) (SqL.of d3) (λi σ H'=>i<=xs.length/\∃(v6:Option V)(r:List (Str × List Pr))(C:List Str),σ=[some (.ref j),some (.str one),some (.str other),some (.ref fd),some (.ref I),some (.str face),v6]/\Srch H M one fd I H' r C/\H' la=some (.lst xs)/\SameT H7 H'/\(∀ a∈r,a.1∉C->a.1≠face->∀ e∈JaB M a.1,e.1∈r.map (·.1))/\(∀ e∈(JaB M face).take i,e.1∈r.map (·.1))/\face∈r.map (·.1)/\2*(41-r.length)+C.length<=2*(41-ws.length)+wt'.length) ⟨Nat.zero_le _,v6,ws,wt',rfl,a0,d3,SameT.refl _,λa J R h2=>cl a J (by simp[R,h2]),by simp,b5,Nat.le_refl _⟩ (λi σ H' z=>by let(_,_,_,_,_,_,z,_):=z;show SqL.of z) ?_ ?_)
  .rintro i y σ H8 hy ⟨hi,v6,r,C,rfl,B,a3,Y,a4,a2,X,c0⟩;have li:i<xs.length:=(List.getElem?_eq_some_iff.mp hy).1;let(e,he,b,c,rfl,f2,e6):=d0.at_ hy;have a7:=Y _ _ rfl f2;have g4:=Y _ _ rfl e6;have d2:(JaB M face).take (i+1)=(JaB M face).take i++[e]:=by rw[take_succ,he];rfl
   have b7:e∈JaB M face:=List.mem_of_getElem? he;let(i6,U,a9):=B.dict;mleave;show ixT (i:=0) (SqT.of a7) rfl ?_;show(fd,_,rfl,DGet.k (k:=Sum.inr e.1) U,?_);rw[a9.val];by_cases O:e.1∈r.map (·.1)
   .rw[decide_eq_true O];mleave;show(li,_,r,C,rfl,B,a3,Y,a4,λe' L=>?_,X,c0);rw[d2]at L;rcases mem_append.mp L with h' | h'
    .show a2 e' h'
    .rw[mem_singleton.mp h'];show O
   .rw[decide_eq_false O];mleave;let(a,v,J,g8,hv,l,xw,rfl,j0,i4,c4,c1):=a9.some X;have j1:=B.lw a J;have i7:=B.len hl;have i9:=c1.length;show(fd, .ref l,rfl,by rw[<- hv];show DGet.k (k:=Sum.inr face) U,?_);show ixT (i:=1) (SqT.of a7) rfl ?_;show(by show 1<=sizeLine;ac_nf,?_);rename_i ln h9 i2 H8 H9 S9 e9;mleave;show .inl ⟨l,ln,xw,_,rfl,rfl,S9 _ _ c4,e9,by simp;ac_nf,?_⟩;rename_i lr a1 h0 H9 Z g6 f6;mleave;mleave;have n:=S9.trans g6;have c2:=B.grow n;show ixT (i:=0) (SqT.of (n _ _ a7)) rfl ?_;have lk:=a9.length;show(fd,_,rfl,DPut.k (k:=Sum.inr e.1) (n _ _ U) ∅,?_);generalize b2:upd Z fd _=a8;mleave;have n0:H lr=none:=by
     cases e:H lr with
     | none=>rfl
     | some o=>rw[S9 _ _ (B.same _ _ e)]at a1;cases a1
    have f8:lr≠I:=λz=>by have:=(B.grow S9).wait;rw[<- z,a1]at this;cases this
    have f3:JaQ M one (a.2++[e.2]) e.1:=.snoc (by rw[<- g8];show B.walk a J) b7;have b1:=n _ _ U;have d1:=a9.mono (P':=PWy H Z I) λa v ζ=>(by let(l,xs,e1,W,g9,hx,J):=ζ;show(l,xs,e1,W,g9,n _ _ hx,J.mono λ_ _ z=>z.sameT n.t));have cv:CV Z e.2 (.ref c):=⟨c,rfl,n _ _ g4⟩;let(pp,b8,c7):=(Ja0 (g:=e.1) (pr:=e.2)).mp b7;have d5:e.2.1=pp.nm:=by rcases c7 with h | h;rw[h.2.2];rw[h.2.2.2]
    have c8:(pp.st=face/\pp.en=e.1)\/(pp.en=face/\pp.st=e.1):=by rcases c7 with h | h;show .inl ⟨h.1,h.2.1⟩;show .inr ⟨h.2.1,h.2.2.1⟩
    have g3:((a.2++[e.2]).map (·.1)).Nodup/\∀ p∈M,p.nm∈(a.2++[e.2]).map (·.1)->p.st∈(r++[(e.1,a.2++[e.2])]).map (·.1)/\p.en∈(r++[(e.1,a.2++[e.2])]).map (·.1):=by
     have sm:=B.sim a J;have g5:e.2.1∉a.2.map (·.1):=λz=>by
      have:=sm.2 pp b8 (d5 ▸ z);rcases c8 with h | h
      .show O (h.2 ▸ this.2)
      .show O (h.2 ▸ this.1)
     rw[map_append,map_append,map_cons,map_nil,map_cons,map_nil];show(nodup_append.mpr ⟨sm.1,by simp,λx hx y hy z=>g5 (by rw[mem_singleton]at hy;rw[<- hy, <- z];show hx)⟩,λp hp W=>?_);rcases mem_append.mp W with W | W
     .have:=sm.2 p hp W;show(mem_append.mpr (.inl this.1),mem_append.mpr (.inl this.2))
     .have ep:=JgF f1 hp b8 ((mem_singleton.mp W).trans d5);subst ep;have m1:e.1∈r.map (·.1)++[e.1]:=mem_append.mpr (.inr (by simp));have m2:face∈r.map (·.1)++[e.1]:=mem_append.mpr (.inl X);rcases c8 with h | h
      .rw[h.1,h.2];show(m2,m1)
      .rw[h.1,h.2];show(m1,m2)
    have D:=c2.find b1 d1 b0 O f3 (by simp;ac_nf) g3 n0 f8 f6 ((c1.mono (P':=CV Z) λ_ _ z=>z.sameT n.t).append (.one cv)) b2;have c5:SameT Z a8:=SameT.put b2 b1 rfl;have f4:la≠fd:=λz=>by rw[z,U]at a3;cases a3
    have c9:a8 la=some (.lst xs):=by rw[<- b2,Jag f4];show n _ _ a3
    have g2:=D.len hl;rw[length_append,length_singleton]at g2;have j3:(C.map V.str).length<=81:=by
     rw[length_map];rw[length_append,length_singleton]at b3;ac_nf
    show(.inl ⟨rfl,_,SqL.of D.wait⟩,?_);show ixT (i:=0) (SqT.of (c5 _ _ rfl (n _ _ a7))) rfl ?_;show(I,_,_,rfl,rfl,D.wait,by ac_nf,?_);generalize a5:upd a8 I _=f7;mleave;have ea:C.map V.str++[V.str e.1]=(C++[e.1]).map V.str:=by simp
    rw[ea]at a5;have c3:=D.wait' b4 a5 (λf hf=>by
     rcases mem_append.mp hf with h' | h'
     .show D.sub f h'
     .rw[mem_singleton.mp h',map_append];simp)
    have f0:SameT a8 f7:=SameT.put a5 D.wait rfl;show(li,_,r++[(e.1,a.2++[e.2])],C++[e.1],rfl,c3,by rw[<- a5,Jag g7];show c9,Y.trans (n.t.trans (c5.trans f0)),λa' d8 R h2 e' L=>?_,λe' L=>?_,?_,?_)
    .rw[map_append];rcases mem_append.mp d8 with h' | h'
     .show mem_append.mpr (.inl (a4 a' h' (λz=>R (by simp[z])) h2 e' L))
     .show absurd ?_ R;rw[mem_singleton.mp h'];simp
    .rw[map_append];rw[d2]at L;rcases mem_append.mp L with h' | h'
     .show mem_append.mpr (.inl (a2 e' h'))
     .rw[mem_singleton.mp h'];simp
    .rw[map_append];show mem_append.mpr (.inl X)
    .rw[length_append,length_append,length_singleton,length_singleton];ac_nf
  .rintro σ H8 ⟨hi,v6,r,C,rfl,B,a3,Y,a4,a2,X,c0⟩;rw[length_append,length_singleton]at b3;show(_,by rw[length_append,length_singleton];ac_nf,some (.str face),v6,r,C,rfl,B,λa J W e he=>?_,rfl,by ac_nf);by_cases c:a.1=face
   .rw[take_of_length_le ∅]at a2;rw[c]at he;show a2 e he
   .show a4 a J W c e he
abbrev Bam:Stmt:=inClass (top 53) 0
theorem JaE:Jan ["self","parts","gaps","joints","row","part","gap","found"] ["self","parts","gaps"] (Jae Bam):=by bv_decide
def Jbf(K:W.Frag)(Ad:Adr):Sp:=λvs H Q E=>∃(x dx a c:Addr)(xs zs:List V)(ls0:List PD)(gs0:List GD)(H0:Hp),vs=[.ref x, .ref a, .ref c]/\H x=some (.ins Ad.Thing dx [])/\H0 x=none/\Same H0 H/\SqL K H0 a xs/\All2 (PDV K H0) ls0 xs/\SqL K H0 c zs/\All2 (λ(g:GD) v=>TV K H0 g.td v) gs0 zs/\ls0.length<=20/\gs0.length<=20/\(∀ p∈ls0,POk p)/\(∀ g∈gs0,TOr g)/\(ls0.map (·.nm)).Nodup/\(gs0.map (·.nm)).Nodup/\(∀(i:Nat) p,ls0[i]?=some p->¬ Conn (ls0.take i) p.st p.en)/\(∀ g∈gs0,Conn ls0 g.st g.en)/\((∃ g∈gs0,okG g=false)->∀ H',Same H0 H'->E (.ref Ad.NoGap) none H')/\((∀ g∈gs0,okG g=true)->∀ H',Same H0 H'->TK K Ad H' x ls0 gs0->Q .non H')
theorem JdA(F:FunD K "__init__" "Thing.__init__" Bam dV f fd)(T:Txt K mg Ad)(Bc0:KCal P w K mg base 1 "Joints" Ad.Joints ["self"] (Jbr K Ad))(Bcv:Cal P w K mg base 6 "part_of" ["thing"] [] (JdI K Ad))(Bc1:Cal P w K mg base 7 "gap_of" ["thing"] [] (JeB K Ad))(Ba7:MCal P w K mg base 1 "way_between" (Jde Ad) ["self","one","other"] (Jbd K Ad))(BdQ:MCal P w K mg base 1 "link" (Jde Ad) ["self","part"] (Jcj K Ad)):FnOk P w K mg base (CX1 P w) 9 f fd ["self","parts","gaps"] (Jbf K Ad):=by
 show F.okx JaE (λvs H Q E h=>?_) (λo0 A k5 s H vs Q E hr h=>?_)
 .let(x,X,a,c,xs,zs,d9,f9,N,rfl,_):=h;rfl
 let(x,X,a,c,xs,zs,d9,f9,N,rfl,h):=h;have hu:=hr.units;show(_,(Jab (Jak 3 JaE.nd (Bc0.ev0 hr ⋯ rfl pass1)) (Jab (Ja5 (pv 0) JbQ rfl) (Jab (Ja2 PassesOwn.leaving rfl (pi_U (pv 1)) (Jaq 4 JaE.nd) (Jab (Jak 5 JaE.nd (Bcv.ev hr ⋯ rfl pass1 (Jaa (pv 4) Jac))) (Jab (ps_if (Jew (Jho (hu1 hu) (Jar (pv 5) rfl) (Jar (pv 0) rfl)) (by with_unfolding_all rfl)) (Jah ps_no)
   Jat) (Jab (ps_if (Jaw Jfu (Ba7.m hr ⋯ pass1 (pv 3) (Jaa (Jar (pv 5) rfl) (Jaa (Jar (pv 5) rfl) Jac))) JcP (Jax _)) (Jah ps_no)
   Jat) (Jab (Ja6 (BdQ.m hr ⋯ pass1 (pv 3) (Jaa (pv 5) Jac))) (Jah (Jcx (hu1 hu) (Jar (pv 0) rfl) (Jar (pv 5) rfl) (pv 5) rfl))))))) (Jab (Ja5 (pv 0) JbQ rfl) (Jab (Ja5 (pv 0) JbQ rfl) (Jah (Ja2 PassesOwn.leaving rfl (pi_U (pv 2)) (Jaq 4 JaE.nd) (Jab (Jak 6 JaE.nd (Bc1.ev hr ⋯ rfl pass1 (Jaa (pv 4) Jac))) (Jab (ps_if (Jew (Jho (hu1 hu) (Jar (pv 6) rfl) (Jar (pv 0) rfl)) (by with_unfolding_all rfl)) (Jah ps_no)
   Jat) (Jab (Jak 7 JaE.nd (Ba7.m hr ⋯ pass1 (pv 3) (Jaa (Jar (pv 6) rfl) (Jaa (Jar (pv 6) rfl) Jac)))) (Jab (ps_if (Jaw Jeo (pv 7) JcP (Jax _)) (Jah ps_no)
   Jat) (Jab (Jcx (hu1 hu) (Jar (pv 0) rfl) (Jar (pv 6) rfl) (pv 6) rfl) (Jah (Jcx (hu1 hu) (Jar (pv 0) rfl) (Jar (pv 6) rfl) (pv 7) rfl)))))))))))))),?_)
 clear hu;let(hx,e1,S0,hS,hE,hC,hG,hl,hg,l5,m3,m6,m8,m5,k0,kE,k):=h;have Y:=T.Bbi _ rfl;have pc:=T.BcR _ rfl;have gc:=T.BdO _ rfl;have sl:(1000:Nat)<=sizeLine:=by decide
 have le:=hE.length;have lg:=hG.length;show tSeq _ _ _ [some (.ref x),some (.ref a),some (.ref c),none,none,none,none,none] H;mvcgen;intro j dj hj m1 nj;have Sm:Same H (upd (upd H dj (.own j)) j (.ins Ad.Joints dj [])):=λb u q=>by rw[Jag (Jai q hj),Jag (Jai q m1)];show q
 generalize um:upd (upd H dj (.own j)) j (.ins Ad.Joints dj [])=Hm at Sm ⊢;mvcgen;have em:Hm j=some (.ins Ad.Joints dj []):=by rw[<- um,Jaj]
 show(j,dj,rfl,em,λd H1 l1 o3 l4 c0 j6=>⟨rfl,?_⟩);have J:∀{H:Hp}{b:Addr},Same N H->H b=none->N b=none:=λ{H b} S h=>by
  cases e:N b with
  | none=>rfl
  | some o=>rw[S _ _ e]at h;cases h
 have f6:∀{H B:Hp}{d:Addr}{kv:List (Key × V)},(∀ b u,b≠d->H b=some u->B b=some u)->H d=some (.dK kv)->SameI H B:=λ{H B d kv} S hd b u t h=>S b u (λz=>by rw[z,hd]at h;cases h;simp[isTI,isTF]at t) h;have h9:∀{H B:Hp}{d b:Addr}{kv:List (Key × V)}{ys:List V},(∀ b u,b≠d->H b=some u->B b=some u)->H d=some (.dK kv)->H b=some (.lst ys)->B b=some (.lst ys):=λ{H B d b kv ys} S hd h=>S _ _ (λz=>by rw[z,hd]at h;cases h) h;have f3:∀{H B:Hp}{e:Addr}{kv:List (Key × V)}{D:List PD},(∀ b u,b≠e->H b=some u->B b=some u)->H e=some (.dK kv)->e≠d->JK Ad N H j d D->JK Ad N B j d D:=λ{H B e kv D} S he ne ζ=>(by let((dj,h1),h2,kvs,h3,h4,h5):=ζ;show(⟨dj,S _ _ (λz=>by rw[z,he]at h1;cases h1) h1⟩,h2,kvs,S _ _ (Ne.symm ne) h3,h4,h5.sx S he));have j0:=J S0 hj;have g5:Same N H1:=λb u h=>j6 b u (Jai h j0) (Sm _ _ (S0 _ _ h));have e4:x≠j:=Jai hx hj;have d5:H1 x=some (.ins Ad.Thing X []):=j6 x _ e4 (Sm _ _ hx);have d0:N d=none:=J (S0.trans Sm) l1
 (try ((with_reducible show Nxt.go (by assumption) ?_);mvcgen))
 rename_i O U n9 H1 H2 S2 e2;mvcgen;mvcgen;show(x,_,X,_,rfl,S2 _ _ d5,Y.cls,Y.n1,by simp,?_);generalize u3:upd H2 x _=H3;mvcgen;have e3:H3 x=some (.ins Ad.Thing X [("parts_by_name", .ref O)]):=by rw[<- u3];show Jaj.trans rfl
 have b8:∀ b u,b≠x->H2 b=some u->H3 b=some u:=λb u hb h=>by rw[<- u3,Jag hb];show h
 have j5:Same N H3:=λb u h=>b8 _ _ (Jai h e1) (S2 _ _ (g5 _ _ h));have f1:d≠x:=λz=>by rw[z,d5]at c0;cases c0
 have a4:O≠x:=λz=>by rw[z,d5]at U;cases U
 have c6:O≠d:=λz=>by rw[z,c0]at U;cases U
 have h6:H3 O=some (.dK []):=b8 _ _ a4 e2;have l3:=J g5 U;have k4:JK Ad N H3 j d []:=⟨⟨dj,b8 _ _ (Ne.symm e4) (S2 _ _ l4)⟩,d0,[],b8 _ _ f1 (S2 _ _ c0),by simp,JD.nil⟩;show(a,rfl,ForA.byL (xs:=xs) (hS.same j5) (λi σ B=>i<=xs.length/\∃(v4 v5:Option V)(k1:List (Key × V))(D:List PD),σ=[some (.ref x),some (.ref a),some (.ref c),some (.ref j),v4,v5,none,none]/\Same N B/\B x=some (.ins Ad.Thing X [("parts_by_name", .ref O)])/\JK Ad N B j d D/\B O=some (.dK k1)/\BG (·.nm) (POV K Ad B) D k1/\D.length=i/\(D.map (·.nm)).Nodup/\D=d9.take i) ⟨Nat.zero_le _,none,none,[],[],rfl,j5,e3,k4,h6,⟨rfl,rfl⟩,rfl, .nil,rfl⟩ (λi σ B z=>by let(_,_,_,_,_,_,z,_):=z;show hS.same z) ?_ ?_)
 .rintro i y σ H4 hy ⟨hi,v4,v5,k1,D,rfl,S4,a1,d8,a6,b7,i4,b9,hw⟩;have li:i<xs.length:=(List.getElem?_eq_some_iff.mp hy).1;let(p,hp,e9):=hE.at_ hy;have ok:=l5 p (List.mem_of_getElem? hp);have j2:D++[p]=d9.take (i+1):=by rw[hw,take_succ,hp];rfl
  have cn:p.nm∉D.map (·.nm):=JgD j2 m6;have lk:=b7.length;mvcgen;show(y,p,rfl,e9.sameT S4.t,ok,λv H5 S5 pv=>?_);let(q,dq,vz,vm,rfl,b6,hz,hm):=id pv;have f8:=S5 _ _ a1;have j9:=S5 _ _ a6;have d6:=d8.same S5;have h7:=b7.mono (P':=POV K Ad H5) λ_ _ z=>z.si (Same.i S5);let((i1,g7),_):=id d6;mvcgen;show(q,_,dq,_, .str p.nm,rfl,b6,pc.cls,pc.n1,rfl,?_);show(x,_,X,_, .ref O,rfl,f8,Y.cls,Y.n1,rfl,?_);show(O,_,rfl,DGet.k (k:=Sum.inr p.nm) j9,?_);rw[h7.val];rw[decide_eq_false cn];mvcgen;show(j,_,i1,_,rfl,g7,rfl,rfl,?_);mvcgen;show(q,_,dq,_, .str p.st,rfl,b6,pc.cls,pc.n2,rfl,?_);show(q,_,dq,_, .str p.en,rfl,b6,pc.cls,pc.n3,rfl,?_);show(j,d,p.st,p.en,D,N,rfl,d6,by ac_nf,b9,λhc H6 S6=>?_,λw l yy H6 S6 o2 e6 j4 f0 _=>absurd (show Conn D p.st p.en from⟨w,f0⟩) (by rw[hw];show m5 i p hp));mvcgen;have g2:=d6.same S6;have f7:=S4.trans (S5.trans S6);show(j,_,i1,_,rfl,S6 _ _ g7,rfl,rfl,?_);mvcgen;show(j,d, .ref q,D,p,N,rfl,g2,f7,pv.si (Same.i S6),ok.ne,by ac_nf,λH7 m2 sj l2=>?_);have nd:∀{b:Addr}{C dd:Addr}{ff:List (Str × V)},H6 b=some (.ins C dd ff)->H7 b=some (.ins C dd ff):=λ{b C dd ff} h=>by
   let(_,_,_,d7,_):=g2;show sj _ _ (λz=>by rw[z,d7]at h;cases h) (by intro xs z;cases z) h
  have SI:SameI H6 H7:=λb u t h=>by
   let(_,_,_,d7,_):=g2;show sj b u (λz=>by rw[z,d7]at h;cases h;simp[isTI,isTF]at t) (λxs z=>by rw[z]at t;simp[isTI,isTF]at t) h
  have f4:H7 O=some (.dK k1):=sj _ _ c6 (by intro xs z;cases z) (S6 _ _ j9);have l8:=h7.mono (P':=POV K Ad H7) λ_ _ z=>(z.si (Same.i S6)).si SI;have l6:=(pv.si (Same.i S6)).si SI;mvcgen;show(x,_,X,_, .ref O,rfl,nd (S6 _ _ f8),Y.cls,Y.n1,rfl,?_);show(q,_,dq,_, .str p.nm,rfl,nd (S6 _ _ b6),pc.cls,pc.n1,rfl,?_);show(O,_,rfl,DPut.k (k:=Sum.inr p.nm) f4 ∅,?_);generalize u8:upd H7 O _=H8;mvcgen;have e8:=putE u8;have c2:∀ b u,b≠O->H7 b=some u->H8 b=some u:=λb u hb h=>by rw[<- u8,Jag hb];show h
  have k9:=f6 c2 f4;show(li,_,_,_,D++[p],rfl,λb u h=>c2 _ _ (Jai h l3) (m2 _ _ h),c2 _ _ (Ne.symm a4) (nd (S6 _ _ f8)),f3 c2 f4 c6 l2,e8,?_,by simp[i4],by rw[map_append];show nodup_append.mpr ⟨b9,by simp,λu hu v hv z=>cn (by have e:v=p.nm:=mem_singleton.mp hv;rw[<- e, <- z];show hu)⟩,j2);show(l8.new (a:=p) cn l6).mono λ_ _ z=>z.si k9
 .rintro σ H4 ⟨hi,v4,v5,k1,D,rfl,S4,a1,d8,a6,b7,i4,b9,hw⟩;rw[take_of_length_le ∅]at hw;subst hw;mvcgen;let((k8,n5),_,k7,a7,i0,l9):=id d8;rename_i d2 L n7 H4 H5 S5 e5;mvcgen;show(x,_,X,_,rfl,S5 _ _ a1,Y.cls,Y.n2,by simp,?_);generalize u6:upd H5 x _=H6;mvcgen;have e6:H6 x=some (.ins Ad.Thing X [("parts_by_name", .ref O),("gaps_by_name", .ref d2)]):=by rw[<- u6];show Jaj.trans rfl
  have b5:∀ b u,b≠x->H5 b=some u->H6 b=some u:=λb u hb h=>by rw[<- u6,Jag hb];show h
  mvcgen;rename_i d3 r n6 H6 H7 S7 e7;mvcgen;show(x,_,X,_,rfl,S7 _ _ e6,Y.cls,Y.n3,by simp,?_);generalize u8:upd H7 x _=H8;mvcgen;have e8:H8 x=some (.ins Ad.Thing X [("parts_by_name", .ref O),("gaps_by_name", .ref d2),("ways", .ref d3)]):=by rw[<- u8];show Jaj.trans rfl
  have d4:∀ b u,b≠x->H7 b=some u->H8 b=some u:=λb u hb h=>by rw[<- u8,Jag hb];show h
  have Z:∀ b u,b≠x->H4 b=some u->H8 b=some u:=λb u hb h=>d4 _ _ hb (S7 _ _ (b5 _ _ hb (S5 _ _ h)));have b4:d2≠x:=λz=>by rw[z,a1]at L;cases L
  have e0:d2≠O:=λz=>by rw[z,a6]at L;cases L
  have j7:d2≠d:=λz=>by rw[z,a7]at L;cases L
  have c8:d3≠x:=λz=>by rw[z,e6]at r;cases r
  have g3:=b5 _ _ a4 (S5 _ _ a6);have m9:=b5 _ _ f1 (S5 _ _ a7);have c5:=b5 _ _ b4 e5;have g0:d3≠O:=λz=>by rw[z,g3]at r;cases r
  have j1:d3≠d:=λz=>by rw[z,m9]at r;cases r
  have b1:d3≠d2:=λz=>by rw[z,c5]at r;cases r
  have m0:=J S4 L;have f7:Same N H6:=λb u h=>b5 _ _ (Jai h e1) (S5 _ _ (S4 _ _ h));have m7:=J f7 r;have i6:Same N H8:=λb u h=>Z _ _ (Jai h e1) (S4 _ _ h);have g9:SameT H4 H8:=λb u t h=>Z _ _ (λz=>by rw[z,a1]at h;cases h;simp[isTF]at t) h;have n0:JK Ad N H8 j d D:=⟨⟨k8,Z _ _ (Ne.symm e4) n5⟩,d0,k7,Z _ _ f1 a7,i0,l9.sy Z a1 (by intro xs z;cases z) rfl⟩;have n4:BG (·.nm) (POV K Ad H8) D k1:=b7.mono λp v ⟨q,dq,vz,vm,h1,h2,h3,h4⟩=>⟨q,dq,vz,vm,h1,Z _ _ (ne_of h2 a1 (by
   intro z;injection z with _ _ z3
   have:=congrArg List.length z3;simp[partF]at this)) h2,h3.sameT g9,h4.sameT g9⟩
  show(c,rfl,ForA.byL (xs:=zs) (hC.same i6) (λi σ B=>i<=zs.length/\∃(v4 v6 v7:Option V)(k2 k3:List (Key × V))(gs:List GD),σ=[some (.ref x),some (.ref a),some (.ref c),some (.ref j),v4,v5,v6,v7]/\Same N B/\B x=some (.ins Ad.Thing X [("parts_by_name", .ref O),("gaps_by_name", .ref d2),("ways", .ref d3)])/\JK Ad N B j d D/\B O=some (.dK k1)/\BG (·.nm) (POV K Ad B) D k1/\B d2=some (.dK k2)/\BG (·.nm) (GOV K Ad B) gs k2/\B d3=some (.dK k3)/\BG (·.nm) (WOV B D) gs k3/\gs.length=i/\gs=f9.take i/\∀ g∈gs,okG g=true) ⟨Nat.zero_le _,v4,none,none,[],[],[],rfl,i6,e8,n0,Z _ _ a4 a6,n4,d4 _ _ b4 (S7 _ _ c5),⟨rfl,rfl⟩,d4 _ _ c8 e7,⟨rfl,rfl⟩,rfl,rfl,λu hu=>by cases hu⟩ (λi σ B z=>by let(_,_,_,_,_,_,_,_,z,_):=z;show hC.same z) ?_ ?_)
  .rintro i y σ H9 hy ⟨hi,v4,v6,v7,k2,k3,gs,rfl,S9,b3,g4,a9,g1,a3,a8,b0,c4,i5,c1,c9⟩;have li:i<zs.length:=(List.getElem?_eq_some_iff.mp hy).1;let(g,c3,e9):=hG.at_ hy;have ok:=m3 g (List.mem_of_getElem? c3);have i8:gs++[g]=f9.take (i+1):=by rw[c1,take_succ,c3];rfl
   have cn:g.nm∉gs.map (·.nm):=JgD i8 m8;have lk:=a8.length;have o1:=c4.length;mvcgen;show(y,g,rfl,TV.sameT S9.t e9,ok,λc i3 a5=>kE ⟨g,List.mem_of_getElem? c3,c⟩ i3 (S9.trans a5),λc v i3 a5 gv=>?_);let(q,dq,vl,vg,rfl,M,hz,hm):=id gv;have h8:=a5 _ _ b3;have i7:=a5 _ _ a3;have b2:=g4.same a5;let((g8,j8),_):=id b2;mvcgen;show(q,_,dq,_, .str g.nm,rfl,M,gc.cls,gc.n1,rfl,?_);show(x,_,X,_, .ref d2,rfl,h8,Y.cls,Y.n2,rfl,?_);show(d2,_,rfl,DGet.k (k:=Sum.inr g.nm) i7,?_);rw[a8.val];rw[decide_eq_false cn];mvcgen;show(j,_,g8,_,rfl,j8,rfl,rfl,?_);mvcgen;show(q,_,dq,_, .str g.st,rfl,M,gc.cls,gc.n2,rfl,?_);show(q,_,dq,_, .str g.en,rfl,M,gc.cls,gc.n3,rfl,?_);show(j,d,g.st,g.en,D,N,rfl,b2,by ac_nf,b9,λhc a2 a0=>absurd (k0 g (List.mem_of_getElem? c3)) hc,λw l yy a2 a0 n8 l0 j4 f0 m4=>?_);mvcgen;have n:=a5.trans a0;have W:=n _ _ a3;show(x,_,X,_, .ref d2,rfl,n _ _ b3,Y.cls,Y.n2,rfl,?_);show(q,_,dq,_, .str g.nm,rfl,a0 _ _ M,gc.cls,gc.n1,rfl,?_);show(d2,_,rfl,DPut.k (k:=Sum.inr g.nm) W ∅,?_);generalize h0:upd a2 d2 _=f2;mvcgen;have k6:=putE h0;have G:∀ b u,b≠d2->a2 b=some u->f2 b=some u:=λb u hb h=>by rw[<- h0,Jag hb];show h
   have i2:=f6 G W;have c7:=G _ _ (Ne.symm b4) (n _ _ b3);have j3:=G _ _ (λz=>by have:=a0 _ _ M;rw[z,W]at this;cases this) (a0 _ _ M);have R:=G _ _ b1 (n _ _ b0);mvcgen;show(x,_,X,_, .ref d3,rfl,c7,Y.cls,Y.n3,rfl,?_);show(q,_,dq,_, .str g.nm,rfl,j3,gc.cls,gc.n1,rfl,?_);show(d3,_,rfl,DPut.k (k:=Sum.inr g.nm) R ∅,?_);generalize g6:upd f2 d3 _=f5;mvcgen;have l7:=putE g6;have I:∀ b u,b≠d3->f2 b=some u->f5 b=some u:=λb u hb h=>by rw[<- g6,Jag hb];show h
   have i9:=f6 I R;have SI:SameI a2 f5:=λb u t h=>i9 b u t (i2 b u t h);have wv:∀{g:GD}{v:V},WOV a2 D g v->WOV f5 D g v:=λ{g v} ζ=>(by let(l,xs,w,h1,h2,h3,h4):=ζ;show(l,xs,w,h1,h9 I R (h9 G W h2),h3.mono λ_ _ z=>z.sameT SI.t,h4));show(li,_,_,_,_,_,gs++[g],rfl,λb u h=>I _ _ (Jai h m7) (G _ _ (Jai h m0) (n _ _ (S9 _ _ h))),I _ _ (Ne.symm c8) c7,f3 I R j1 (f3 G W j7 (b2.same a0)),I _ _ (Ne.symm g0) (G _ _ (Ne.symm e0) (n _ _ a9)),g1.mono λ_ _ z=>(z.si (Same.i n)).si SI,I _ _ (Ne.symm b1) k6,?_,l7,?_,by simp[i5],⟨i8,λu hu=>by rcases mem_append.mp hu with h | h;show c9 u h;rw[mem_singleton.mp h];show c⟩)
   .show((a8.mono (P':=GOV K Ad a2) λ_ _ z=>z.si (Same.i n)).new (a:=g) cn (gv.si (Same.i a0))).mono λ_ _ z=>z.si SI
   .show((c4.mono (P':=WOV a2 D) λ_ _ z=>z.same n).new (a:=g) cn ⟨l,yy,w,rfl,l0,j4,f0,m4⟩).mono λ_ _ z=>wv z
  .rintro σ H9 ⟨hi,v4,v6,v7,k2,k3,gs,rfl,S9,b3,g4,a9,g1,a3,a8,b0,c4,i5,c1,c9⟩;rw[take_of_length_le ∅]at c1;subst c1;mvcgen;show k c9 H9 S9 ⟨X,O,d2,d3,k1,k2,k3,b3,a9,g1,a3,a8,b0,c4⟩
abbrev BaE:Stmt:=inClass (top 53) 1
theorem JeR:Jan ["self"] ["self"] (Jae BaE):=by bv_decide
def JaG(K:W.Frag)(Ad:Adr):Sp:=λvs H Q E=>∃(x:Addr)(ls:List PD)(gs:List GD),vs=[.ref x]/\TK K Ad H x ls gs/\ls.length<=20/\∀ l ys H',Same H H'->H l=none->H' l=some (.lst ys)->All2 (PDV K H') ls ys->Q (.ref l) H'
theorem JeL(F:FunD K "parts" "Thing.parts" BaE dV f fd)(T:Txt K mg Ad)(Bds:MCal P w K mg base 1 "plain" (IsPart Ad) ["self"] (JcB K Ad)):FnOk P w K mg base (CX1 P w) 2 f fd ["self"] (JaG K Ad):=by
 show F.okn JeR (by subst_eqs) (λa0 A O s H vs Q E hr h=>?_)
 let(x,Y,gs,rfl,h):=h;show(_,(Jah (Jap (JgR (Jer (own:=["part"]) (cs:=[]) (cl:=[]) rfl (JiU (Jar (pv 0) rfl)) (λ_ _ _ _=>(Jaq 0 (show[("part" : Str)].Nodup by decide))) (λ_ _ _ _=>(Bds.m0 hr ⋯ passF (pv 0))) rfl ⋯ rfl ⋯ hcl0 (hhas0 ⋯) hcs0)))),?_);let((dx,a,d2,d3,l,k2,k3,hx,g,b1,_),hl,k):=h;have tc:=T.Bbi _ rfl;have sl:(1000:Nat)<=sizeLine:=by decide
 have lk:=b1.length;show tRet _ _ [some (.ref x)] H;mleave;show(a,l,g,x,_,dx,_, .ref a,rfl,hx,tc.cls,tc.n1,rfl,a,l,rfl,g,λJ=>?_);generalize uf:upd H a (.frz J (.dK l))=H1;mleave;have f1:H1 a=some (.frz J (.dK l)):=by rw[<- uf,Jaj]
 have o1:∀ b u,b≠a->H b=some u->H1 b=some u:=λb u X h=>by rw[<- uf,Jag X];show h
 show CompJ.vals (λi m C=>C a=some (.frz J (.dK l))/\(∀ b u,b≠a->H b=some u->C b=some u)/\(∀ b u,b≠a->C b=some u->H b=none->True)/\All2 (PDV K C) (Y.take i) m) ⟨f1,o1,λ_ _ _ _ _=>trivial,rfl⟩ (λi m C hi z=>⟨z.1,by have:=z.2.2.2.length;rw[length_take]at this;ac_nf⟩) ?_ ?_
 .rintro i v m G hv ⟨B,n,_,N⟩;simpa only[length_singleton,List.replicate,Jaz,map_cons,map_nil,Option.join_some];let(p,hp,q,dq,I,L,rfl,hq,hz,hm):=b1.2.at_ hv;have U:∀{b:Addr}{u:HO},H b=some u->isTI u=true->G b=some u:=λ{b u} h t=>n _ _ (λz=>by rw[z,g]at h;cases h;simp[isTI,isTF]at t) h;have T2:SameT H G:=λb u t h=>U h (by cases u <;> first | show t | (simp[isTF]at t));show(q,_,dq,_,rfl,U hq rfl,rfl,rfl,q,dq,_,_,_,I,L,_,rfl,U hq rfl,λr y d S=>?_);show(d _ _ B,λb u X h=>d _ _ (n _ _ X h),λ_ _ _ _ _=>trivial,?_);rw[take_succ,hp];show(N.mono (P':=PDV K y) λ_ _ z=>z.sameT d.t).append (.one ⟨r,I,L,rfl,SqT.of S,(hz.sameT T2).sameT d.t,(hm.sameT T2).sameT d.t⟩)
 .rintro m G ⟨B,n,_,N⟩;rw[take_of_length_le ∅]at N;rename_i r j a1 G y d S;mleave;show(J,l,d _ _ B,?_);generalize D:upd y a (.dK l)=M;mleave;have Z:r≠a:=λz=>by rw[z,B]at j;cases j
  have e4:M r=some (.lst m):=by rw[<- D,Jag Z];show S
  have W:Same H M:=λb u h=>by
   by_cases c:b=a
   .subst c;rw[g]at h;cases h;rw[<- D,Jaj]
   .rw[<- D,Jag c];show d _ _ (n _ _ c h)
  have f3:=d _ _ B;have R:∀{b:Addr}{xs:List V},SqT K y b xs->SqT K M b xs:=λ{b xs} h=>by
   rcases h with(h | ⟨o,h⟩) | h
   .show .inl (.inl (by rw[<- D,Jag (λz=>by rw[z,f3]at h;cases h)];show h))
   .show .inl (.inr ⟨o,by rw[<- D,Jag (λz=>by rw[z,f3]at h;cases h)];show h⟩)
   .show .inr h
  have hn:H r=none:=by
   cases e:H r with
   | none=>rfl
   | some o=>rw[n _ _ Z e]at j;cases j
  show k r m M W hn e4 ((N.mono (P':=PDV K y) λ_ _ z=>z.sameT d.t).mono λp v ζ=>by let(b,I,L,h1,h2,(pz,h3,h4),(pm,h5,h6)):=ζ;show(b,I,L,h1,R h2,⟨pz,h3,R h4⟩,⟨pm,h5,R h6⟩))
abbrev BaL:Stmt:=inClass (top 53) 2
theorem JfA:Jan ["self"] ["self"] (Jae BaL):=by bv_decide
def JaZ(K:W.Frag)(Ad:Adr):Sp:=λvs H Q E=>∃(x:Addr)(ls:List PD)(gs:List GD),vs=[.ref x]/\TK K Ad H x ls gs/\gs.length<=20/\∀ l ys H',Same H H'->H l=none->H' l=some (.lst ys)->All2 (λ(g:GD) v=>TV K H' g.td v) gs ys->Q (.ref l) H'
theorem Jfl(F:FunD K "gaps" "Thing.gaps" BaL dV f fd)(T:Txt K mg Ad)(Bcw:MCal P w K mg base 1 "plain" (IsGap Ad) ["self"] (JcR K Ad)):FnOk P w K mg base (CX1 P w) 2 f fd ["self"] (JaZ K Ad):=by
 show F.okn JfA (by subst_eqs) (λa0 A R s H vs Q E hr h=>?_)
 let(x,ls,gs,rfl,h):=h;show(_,(Jah (Jap (JgR (Jer (own:=["gap"]) (cs:=[]) (cl:=[]) rfl (JiU (Jar (pv 0) rfl)) (λ_ _ _ _=>(Jaq 0 (show[("gap" : Str)].Nodup by decide))) (λ_ _ _ _=>(Bcw.m0 hr ⋯ passF (pv 0))) rfl ⋯ rfl ⋯ hcl0 (hhas0 ⋯) hcs0)))),?_);let((dx,d1,a,d3,k1,m,k3,hx,_,_,l,b2,_),hl,k):=h;have tc:=T.Bbi _ rfl;have sl:(1000:Nat)<=sizeLine:=by decide
 have lk:=b2.length;show tRet _ _ [some (.ref x)] H;mleave;show(a,m,l,x,_,dx,_, .ref a,rfl,hx,tc.cls,tc.n2,rfl,a,m,rfl,l,λJ=>?_);generalize uf:upd H a (.frz J (.dK m))=H1;mleave;have f1:H1 a=some (.frz J (.dK m)):=by rw[<- uf,Jaj]
 have o1:∀ b u,b≠a->H b=some u->H1 b=some u:=λb u Y h=>by rw[<- uf,Jag Y];show h
 show CompJ.vals (λi n O=>O a=some (.frz J (.dK m))/\(∀ b u,b≠a->H b=some u->O b=some u)/\All2 (λ(g:GD) v=>TV K O g.td v) (gs.take i) n) ⟨f1,o1,rfl⟩ (λi n O hi z=>⟨z.1,by have:=z.2.2.length;rw[length_take]at this;ac_nf⟩) ?_ ?_
 .rintro i v n G hv ⟨C,y,N⟩;simpa only[length_singleton,List.replicate,Jaz,map_cons,map_nil,Option.join_some];let(p,hp,q,dq,I,L,rfl,hq,hz,hm):=b2.2.at_ hv;have W:∀{b:Addr}{u:HO},H b=some u->isTI u=true->G b=some u:=λ{b u} h t=>y _ _ (λz=>by rw[z,l]at h;cases h;simp[isTI,isTF]at t) h;have T2:SameT H G:=λb u t h=>W h (by cases u <;> first | show t | (simp[isTF]at t));show(q,_,dq,_,rfl,W hq rfl,rfl,rfl,q,dq,_,_,_,I,L,rfl,W hq rfl,λr B d U=>?_);show(d _ _ C,λb u Y h=>d _ _ (y _ _ Y h),?_);rw[take_succ,hp];show(N.mono (P':=λ(g:GD) v=>TV K B g.td v) λ_ _ z=>z.sameT d.t).append (.one ⟨r,I,L,rfl,SqT.of U,(hz.sameT T2).sameT d.t,(hm.sameT T2).sameT d.t⟩)
 .rintro n G ⟨C,y,N⟩;rw[take_of_length_le ∅]at N;rename_i r j a1 G B d U;mleave;show(J,m,d _ _ C,?_);generalize D:upd B a (.dK m)=M;mleave;have Z:r≠a:=λz=>by rw[z,C]at j;cases j
  have e4:M r=some (.lst n):=by rw[<- D,Jag Z];show U
  have X:Same H M:=λb u h=>by
   by_cases c:b=a
   .subst c;rw[l]at h;cases h;rw[<- D,Jaj]
   .rw[<- D,Jag c];show d _ _ (y _ _ c h)
  have f3:=d _ _ C;have S:∀{b:Addr}{xs:List V},SqT K B b xs->SqT K M b xs:=λ{b xs} h=>by
   rcases h with(h | ⟨o,h⟩) | h
   .show .inl (.inl (by rw[<- D,Jag (λz=>by rw[z,f3]at h;cases h)];show h))
   .show .inl (.inr ⟨o,by rw[<- D,Jag (λz=>by rw[z,f3]at h;cases h)];show h⟩)
   .show .inr h
  have hn:H r=none:=by
   cases e:H r with
   | none=>rfl
   | some o=>rw[y _ _ Z e]at j;cases j
  show k r n M X hn e4 ((N.mono (P':=λ(g:GD) v=>TV K B g.td v) λ_ _ z=>z.sameT d.t).mono λp v ζ=>by let(b,I,L,h1,h2,(pz,h3,h4),(pm,h5,h6)):=ζ;show(b,I,L,h1,S h2,⟨pz,h3,S h4⟩,⟨pm,h5,S h6⟩))
abbrev Ba2:Stmt:=inClass (top 53) 3
theorem Jgh:Jan ["self","name"] ["self","name"] (Jae Ba2):=by bv_decide
def Jcb(K:W.Frag)(Ad:Adr):Sp:=λvs H Q E=>∃(x:Addr)(z:Str)(ls:List PD)(gs:List GD),vs=[.ref x, .str z]/\TK K Ad H x ls gs/\(z∉gs.map (·.nm)->E (.ref Ad.NoName) none H)/\(∀ g∈gs,g.nm=z->∀ l xs w H',Same H H'->H l=none->H' l=some (.lst xs)->All2 (CV H') w xs->JaQ ls g.st w g.en->(w.map (·.1)).Nodup->Q (.ref l) H')
theorem Jf9(F:FunD K "way" "Thing.way" Ba2 dV f fd)(T:Txt K mg Ad)  : FnOk P w K mg base (CX1 P w) 1 f fd ["self","name"] (Jcb K Ad):=by
 show F.okx Jgh (λI H Q E h=>?_) (λO A j s H I Q E J h=>?_)
 .let(x,z,N,y,rfl,_):=h;rfl
 let(x,z,N,y,rfl,h):=h;have o:=J.units;show(_,(Jab (ps_if (Jew (Jdl (hu1 o) (pv 1) (Jar (pv 0) rfl)) (by with_unfolding_all rfl)) (Jah (JdY PySem.F.excBase_ValueError T.BbW rfl T.BcX (Jaa JaY Jac)))
   Jat) (Jah (Jap (Jdm JhF rfl T.Bd2 Jh8 (Jaa (Jch (hu1 o) (Jar (pv 0) rfl) (pv 1) (λ_ _=>rfl)) Jac))))),?_)
 clear o;let((r,d1,d2,b,Z,k2,k3,q,D,Y,U,b2,a,p),L,k):=h;have d:=T.Bbi _ rfl;show tSeq _ _ _ [some (.ref x),some (.str z)] H;mleave;show(x,_,r,_, .ref b,rfl,q,d.cls,d.n3,rfl,?_);show(b,_,rfl,DGet.k (k:=Sum.inr z) a,?_);rw[p.val];by_cases c:z∈y.map (·.nm)
 .rw[decide_eq_true c];mleave;let(g,v,X,C,S,R,B,w,rfl,i,m,G,e):=p.some c;show(x,_,r,_, .ref b,rfl,q,d.cls,d.n3,rfl,?_);show(b,_,rfl,by rw[<- S];show DGet.k (k:=Sum.inr z) a,?_);show(R,B,rfl, .inl (SqL.of i),?_);rename_i l n M H W u V;mleave;show k g X C l B w W u n V (m.mono λ_ _ z=>z.sameT u.t) G e
 .rw[decide_eq_false c];mleave;show(by show 1<=sizeLine;decide,L c)
abbrev Bav:Stmt:=inClass (top 53) 4
theorem Ja3:Jan ["self","name","total","part","forward","size"] ["self","name"] (Jae Bav):=by bv_decide
def Jbt(K:W.Frag)(Ad:Adr):Sp:=λvs H Q E=>∃(x:Addr)(z:Str)(ls:List PD)(gs:List GD),vs=[.ref x, .str z]/\TK K Ad H x ls gs/\(z∉gs.map (·.nm)->E (.ref Ad.NoName) none H)/\(∀ g∈gs,g.nm=z->∃ pl:Str->Fr2,(∀ u∈gs,u.nm=z->u=g)/\(∀ p∈ls, ∀ q∈ls,p.nm=q.nm->p=q)/\(∀ p∈ls,POk p)/\(∀ f,FB 302 161 (pl f))/\(∀ p∈ls,vl (pl p.en)=vl (pl p.st)+vl p.sz)/\∀ v H',Same H H'->FrV K H' v (mid pl g).1 (mid pl g).2->Q v H')
theorem Jel(F:FunD K "middle" "Thing.middle" Bav dV f fd)(T:Txt K mg Ad)(BdM:MCal P w K mg base 1 "way" (JaH Ad) ["self","name"] (Jcb K Ad))(Bb7:Cal P w K mg base 2 "plus" ["one","other"] [] (JeE K))(Bbt:Cal P w K mg base 3 "minus" ["one","other"] [] (Jds K)):FnOk P w K mg base (CX1 P w) 4 f fd ["self","name"] (Jbt K Ad):=by
 show F.okx Ja3 (λvs H Q E h=>?_) (λa2 A O s H vs Q E L h=>?_)
 .let(x,z,B,gs,rfl,_):=h;rfl
 let(x,z,B,gs,rfl,h):=h;have hu:=L.units;show(_,(Jab (Jak 2 Ja3.nd (Jbk (v:=.ref _) rfl T.Bcp T.Bcq)) (Jab (Ja2 PassesOwn.leaving rfl (pi_U (BdM.m L ⋯ pass1 (pv 0) (Jaa (pv 1) Jac))) (Jes rfl (Jbb (Jaq 3 Ja3.nd) (Jbb (Jaq 4 Ja3.nd) Jc5))) (Jab (Jak 5 Ja3.nd (Jar (Jch (hu1 hu) (Jar (pv 0) rfl) (pv 3) (λ_ _=>rfl)) rfl)) (Jah (Jak 2 Ja3.nd (Jfw (Jba (pv 4)) (Bb7.ev L ⋯ rfl pass1 (Jaa (pv 2) (Jaa (pv 5) Jac))) (Bbt.ev L ⋯ rfl pass1 (Jaa (pv 2) (Jaa (pv 5) Jac)))))))) (Jah (Jap (pv 2))))),?_)
 clear hu;let(ht,kn,k):=h;let(dx,d1,d2,d3,k1,k2,k3,hx,Y,b1,_):=id ht;have tc:=T.Bbi _ rfl;have pc:=T.BcR _ rfl;show tSeq _ _ _ [some (.ref x),some (.str z),none,none,none,none] H;mleave;show(x,_,dx,_,rfl,hx,rfl,rfl,x,z,B,gs,rfl,ht,kn,λg hg hz l xs w H1 S1 a4 e1 J hw _=>?_);let(c,a3,hN,hP,u,hV,k):=k g hg hz;have lg:=Jlc hV hw;have lx:=J.length;show(l,rfl,ForA.byL (xs:=xs) (SqL.of e1) (λi σ H'=>i<=xs.length/\∃(v3 W S:Option V)(t:V)(f:Str),σ=[some (.ref x),some (.str z),some t,v3,W,S]/\Same H1 H'/\FrV K H' t (addF (c f) (negF (c g.st))).1 (addF (c f) (negF (c g.st))).2/\Legs B c f (w.drop i) g.en) ⟨Nat.zero_le _,none,none,none, .ref Ad.ZERO,g.st,rfl,Same.refl _,by rw[JjH (u _)];show(Ad.ZERO,rfl,T.Bcr _),lg⟩ (λi σ H' q=>by let(_,_,_,_,_,_,_,q,_):=q;show SqL.of (q _ _ e1)) ?_ ?_)
 .rintro i y σ X hy ⟨hi,v3,W,S,t,f,rfl,o,N,G⟩;have li:i<xs.length:=(List.getElem?_eq_some_iff.mp hy).1;let(pr,I,b,rfl,hb):=J.at_ hy;have D:i<w.length:=by ac_nf
  have R:w.drop i=pr::w.drop (i+1):=by
   rw[List.drop_eq_getElem_cons D];rw[List.getElem?_eq_getElem D]at I;rw[Option.some.inj I]
  rw[R]at G;have d:=S1.trans o;obtain⟨p,j,n,rfl,hp,hv,C⟩:∃ p j n,pr=(p.nm,j)/\p∈B/\vl (c n)=vl (c f)+vl (sgn j p.sz)/\Legs B c n (w.drop (i+1)) g.en:=by
   cases G with
   | cons h1 h2 h3=>show(_,_,_,rfl,h1,h2,h3)
  mleave;show(b,_,rfl,SqT.of (o _ _ hb),rfl,?_);mleave;let(q,v,hq,U,a1,qa,dq,M,vm,rfl,Z,a0,hm):=b1.some (z:=p.nm) (mem_map.mpr ⟨p,hp,rfl⟩);have eq:=hN q hq p hp U;subst eq;show(x,_,dx,_, .ref d1,rfl,d _ _ hx,tc.cls,tc.n1,rfl,?_);show(d1,_,rfl,by rw[<- a1];show DGet.k (k:=Sum.inr q.nm) (d _ _ Y),?_);show(qa,_,dq,_,M,rfl,d _ _ Z,pc.cls,pc.n4,rfl,?_);have a:=(hP q hq).z;have e:FB 464 322 (addF (c f) (negF (c g.st))):=FB.add (u _) (u _).neg ⋯ ⋯ ⋯;have fz:FrV K X M q.sz.1 q.sz.2:=a0.same d;have st:=Jlb (u f) (u n) (z:=sgn j q.sz) (by cases j;show(L2.FOk.fb a).neg;show L2.FOk.fb a) (u g.st) hv;mleave;cases j with
  | true=>
   mleave;show(t,M,_,_,_,_,rfl,N,fz,e.s1.mono ⋯,e.s2.mono ⋯,a.s1.mono ⋯,a.s2.mono ⋯,e.b1,a.b1,e.g1,a.g1,λr H3 S3 e3=>?_);show(li,_,_,_, .ref r,n,rfl,o.trans S3,by rw[<- st];show FrV.of e3,C)
  | false=>
   mleave;show(t,M,_,_,_,_,rfl,N,fz,e.s1.mono ⋯,e.s2.mono ⋯,a.s1.mono ⋯,a.s2.mono ⋯,e.b1,a.b1,e.g1,a.g1,λr H3 S3 e3=>?_);show(li,_,_,_, .ref r,n,rfl,o.trans S3,?_,C);rw[<- st];show FrV.of ?_;rw[e3];show _=some (HO.tup [.int (Mth.top (_*q.sz.2 + -q.sz.1*_) _), .int (Mth.bot (_*q.sz.2 + -q.sz.1*_) _)]);rw[Int.neg_mul, <- Int.sub_eq_add_neg];rfl
 .rintro σ X ⟨hi,v3,W,S,t,f,rfl,o,N,G⟩;rw[List.drop_eq_nil_of_le ∅]at G;cases G;mleave;show k t X (S1.trans o) N
abbrev BaM:Stmt:=inClass (top 53) 5
theorem Jbp:Jan ["self","name","middle","gap","above","below"] ["self","name"] (Jae BaM):=by bv_decide
def Jbu(K:W.Frag)(Ad:Adr):Sp:=λvs H Q E=>∃(x:Addr)(z:Str)(ls:List PD)(gs:List GD),vs=[.ref x, .str z]/\TK K Ad H x ls gs/\(z∉gs.map (·.nm)->E (.ref Ad.NoName) none H)/\(∀ g∈gs,g.nm=z->∃ pl:Str->Fr2,(∀ u∈gs,u.nm=z->u=g)/\(∀ p∈ls, ∀ q∈ls,p.nm=q.nm->p=q)/\(∀ p∈ls,POk p)/\(∀ f,FB 302 161 (pl f))/\(∀ p∈ls,vl (pl p.en)=vl (pl p.st)+vl p.sz)/\TOk g.td/\∀ v H',Same H H'->FrV K H' v (roomF pl g).1 (roomF pl g).2->Q v H')
theorem Jfm(F:FunD K "room" "Thing.room" BaM dV f fd)(T:Txt K mg Ad)(Bb1:MCal P w K mg base 4 "middle" (JaH Ad) ["self","name"] (Jbt K Ad))(Bbt:Cal P w K mg base 3 "minus" ["one","other"] [] (Jds K))(Baj:Cal P w K mg base 1 "under" ["one","other"] [] (JbV K)):FnOk P w K mg base (CX1 P w) 5 f fd ["self","name"] (Jbu K Ad):=by
 show F.okx Jbp (λvs H Q E h=>?_) (λa1 A D s H vs Q E l h=>?_)
 .let(x,z,ls,gs,rfl,_):=h;rfl
 let(x,z,ls,gs,rfl,h):=h;have hu:=l.units;show(_,(Jab (Jak 2 Jbp.nd (Bb1.m l ⋯ pass1 (pv 0) (Jaa (pv 1) Jac))) (Jab (Jak 3 Jbp.nd (Jch (hu1 hu) (Jar (pv 0) rfl) (pv 1) (λ_ _=>rfl))) (Jab (Jak 4 Jbp.nd (Bbt.ev l ⋯ rfl pass1 (Jaa (Jar (pv 3) rfl) (Jaa (pv 2) Jac)))) (Jab (Jak 5 Jbp.nd (Bbt.ev l ⋯ rfl pass1 (Jaa (pv 2) (Jaa (Jar (pv 3) rfl) Jac)))) (Jah (Jap (Jfw (Jba (Baj.ev l ⋯ rfl pass1 (Jaa (pv 4) (Jaa (pv 5) Jac)))) (pv 4) (pv 5)))))))),?_)
 clear hu;let(ht,kn,k):=h;let(Y,d1,d2,d3,k1,k2,k3,X,a0,b1,M,b2,_):=id ht;have tc:=T.Bbi _ rfl;have u:=T.BdO _ rfl;show tSeq _ _ _ [some (.ref x),some (.str z),none,none,none,none] H;mleave;show(x,_,Y,_,rfl,X,rfl,rfl,x,z,ls,gs,rfl,ht,kn,λg hg O=>?_);let(pl,e,hN,hP,S,hV,N,k):=k g hg O;show(pl,e,hN,hP,S,hV,λv H1 p fm=>?_);have b:=Jmr (g:=g) S;unfold roomF at k;generalize mid pl g=m at *;mleave;let(a,v',J,L,C,R,W,j,n,rfl,q,I,y):=b2.some (z:=z) (mem_map.mpr ⟨g,hg,O⟩);have eg:=e a J L;subst eg;have r:=N.lo _ rfl;have o:=N.hi _ rfl;show(x,_,Y,_, .ref d2,rfl,p _ _ X,tc.cls,tc.n2,rfl,?_);show(d2,_,rfl,by rw[<- C];show DGet.k (k:=Sum.inr z) (p _ _ M),?_);mleave;show(R,_,W,_,n,rfl,p _ _ q,u.cls,u.n5,rfl,?_);show(n,v,_,_,_,_,rfl,y.same p,fm,o.s1.mono ⋯,o.s2.mono ⋯,b.s1.mono ⋯,b.s2.mono ⋯,o.b1,b.b1,o.g1,b.g1,λU H2 Z e2=>?_);mleave;have d:=p.trans Z;show(R,_,W,_,j,rfl,d _ _ q,u.cls,u.n4,rfl,?_);show(v,j,_,_,_,_,rfl,fm.same Z,I.same d,b.s1.mono ⋯,b.s2.mono ⋯,r.s1.mono ⋯,r.s2.mono ⋯,b.b1,r.b1,b.g1,r.g1,λV t G e3=>?_);mleave;have ea:addF a.hi (negF m)=(Mth.top (a.hi.1*m.2-m.1*a.hi.2) (a.hi.2*m.2),Mth.bot (a.hi.1*m.2-m.1*a.hi.2) (a.hi.2*m.2)):=by
  unfold addF negF;dsimp only;rw[Int.neg_mul, <- Int.sub_eq_add_neg]
 have eb:addF m (negF a.lo)=(Mth.top (m.1*a.lo.2-a.lo.1*m.2) (m.2*a.lo.2),Mth.bot (m.1*a.lo.2-a.lo.1*m.2) (m.2*a.lo.2)):=by
  unfold addF negF;dsimp only;rw[Int.neg_mul, <- Int.sub_eq_add_neg]
 have fa:FrV K t (.ref U) (addF a.hi (negF m)).1 (addF a.hi (negF m)).2:=by rw[ea];show FrV.of (G _ _ e2)
 have fb:FrV K t (.ref V) (addF m (negF a.lo)).1 (addF m (negF a.lo)).2:=by rw[eb];show FrV.of e3
 have ba:=FB.add' (L2.FOk.fb o) b.neg;have bb:=FB.add' b (L2.FOk.fb r).neg;generalize addF a.hi (negF m)=A at *;generalize addF m (negF a.lo)=B at *;show(.ref U, .ref V,A.1,A.2,B.1,B.2,rfl,fa,fb,ba.s1.mono ⋯,ba.s2.mono ⋯,bb.s1.mono ⋯,bb.s2.mono ⋯,?_);mleave;by_cases c:lessF A B=true
 .rw[if_pos c]at k;rw[if_pos (show decide (A.1*B.2<B.1*A.2)=true from c)];mleave;show k _ t (d.trans G) fa
 .rw[if_neg c]at k;rw[if_neg (show¬ decide (A.1*B.2<B.1*A.2)=true from c)];mleave;show k _ t (d.trans G) fb
abbrev Ban:Stmt:=inClass (top 19) 0
theorem Jbz:Jan ["self","numbers","number","factor"] ["self","numbers"] (Jae Ban):=by bv_decide
def JbC(K:W.Frag)(Ad:Adr):Sp:=λvs H Q E=>∃(x dx a:Addr)(xs:List V)(ns:List Fr2),vs=[.ref x, .ref a]/\H x=some (.ins Ad.Scale dx [])/\H a=some (.lst xs)/\All2 (FLV K H) ns xs/\ns.length<=28/\(∀ n∈ns,1<=n.2/\Mth.Sz 70 n.2)/\∀ b fs fl H',H' x=some (.ins Ad.Scale dx [("bottom", .int b),("factors", .ref fl)])->H fl=none->H' fl=some (.lst (fs.map V.int))->(∀ c u,c≠x->H c=some u->H' c=some u)->Scl b fs->Mth.Sz 2000 b->fs.length<=30->Q .non H'
theorem Jdz(F:FunD K "__init__" "Scale.__init__" Ban dV f fd)(T:Txt K mg Ad)(Bac:Cal P w K mg base 1 "common_divisor" ["one","other"] [] (JaA)):FnOk P w K mg base (CX1 P w) 2 f fd ["self","numbers"] (JbC K Ad):=by
 show F.okn Jbz (by subst_eqs) (λa3 A Z s H vs Q E hr h=>?_)
 let(x,j,a,xs,ns,rfl,h):=h;show(_,(Jab (Ja5 (pv 0) Jad rfl) (Jab (Ja5 (pv 0) (Jbc Jac) rfl) (Jah (Ja2 PassesOwn.never rfl (pi_U (pv 1)) (Jaq 2 Jbz.nd) (Jab (Jak 3 Jbz.nd (pe_op Jas (pe_ix ix_U (pv 2) Jad) (Bac.ev hr ⋯ rfl passF (Jaa (Jar (pv 0) rfl) (Jaa (pe_ix ix_U (pv 2) Jad) Jac))))) (Jah (ps_if (Jaw Jhm (pv 3) Jad (Jax _)) (Jab (Ja5 (pv 0) (pe_op JaC (Jar (pv 0) rfl) (pv 3)) rfl) (Jah (Ja6 (pe_bm PySem.F.plainAttrs_list PySem.F.slot_list_append PySem.F.type_list_append Ja9 (Jar (pv 0) rfl) (Jaa (pv 3) Jac) (hs:=by show Jaf rfl)))))
   Jat))))))),?_)
 let(e0,W,hN,hl,a0,k):=h;have e:=T.Bct Ad.Scale rfl;have sl:(1000:Nat)<=sizeLine:=by decide
 have lx:=hN.length;show tSeq _ _ _ [some (.ref x),some (.ref a),none,none] H;mvcgen;show(x,_,j,_,rfl,e0,e.cls,e.n1,by simp,?_);generalize u1:upd H x _=H1;mvcgen;have e1:H1 x=some (.ins Ad.Scale j [("bottom", .int 1)]):=by rw[<- u1];show Jaj.trans rfl
 have o1:∀ b,b≠x->H1 b=H b:=λb hb=>by rw[<- u1,Jag hb]
 mvcgen;show(len0,?_);rename_i d l a2 H1 H2 N e2;mvcgen;mvcgen;show(x,_,j,_,rfl,N _ _ e1,e.cls,e.n2,by simp,?_);generalize S:upd H2 x _=R;mvcgen;have e3:R x=some (.ins Ad.Scale j [("bottom", .int 1),("factors", .ref d)]):=by rw[<- S];show Jaj.trans rfl
 have Y:d≠x:=λz=>by rw[z,e1]at l;cases l
 have f3:R d=some (.lst []):=by rw[<- S,Jag Y];show e2
 have o3:∀ c u,c≠x->H c=some u->R c=some u:=λc u D h=>by rw[<- S,Jag D];show N _ _ (by rw[o1 c D];show h)
 have o:H d=none:=by rw[<- o1 d Y];show l
 have C:a≠x:=λz=>by rw[z,e0]at W;cases W
 have a1:SameT H R:=(SameT.put u1 e0 rfl).trans (N.t.trans (SameT.put S (N _ _ e1) rfl));mvcgen;show(a,rfl,ForA.byL (xs:=xs) (SqL.of (o3 _ _ C W)) (λi σ I=>i<=xs.length/\∃(v2 v3:Option V)(b:Int)(m:List Int),σ=[some (.ref x),some (.ref a),v2,v3]/\I x=some (.ins Ad.Scale j [("bottom", .int b),("factors", .ref d)])/\I d=some (.lst (m.map V.int))/\(∀ c u,c≠x->H c=some u->I c=some u)/\SameT H I/\Scl b m/\Mth.Sz (1+70*i) b/\m.length<=i) ⟨Nat.zero_le _,none,none,1,[],rfl,e3,f3,o3,a1,Scl.nil, .lit ⋯ ⋯,Nat.le_refl _⟩ (λi σ I q=>by let(_,_,_,_,_,_,_,_,q,_):=q;show SqL.of (q _ _ C W)) ?_ ?_)
 .rintro i y σ G hy ⟨hi,v2,v3,b,m,rfl,p,X,L,O,hs,B,lf⟩;have li:=(List.getElem?_eq_some_iff.mp hy).1;let(n,hn,U):=hN.at_ hy;have U:FrV K G y n.1 n.2:=FrV.sameT O U;have r:=a0 n (List.mem_of_getElem? hn);have B:Mth.Sz 2000 b:=B.mono ∅;have gp:=Mth.g_pos (a:=b) (b:=n.2) ∅;have gd:=Mth.JbN b n.2;have gl:=Mth.g_le (a:=b) (b:=n.2) ∅;have d1:DivOk (Mth.g b n.2):=divOk (n:=70) ∅ (Nat.lt_of_le_of_lt (by ac_nf:(Mth.g b n.2).natAbs<=n.2.natAbs) r.2);have f1:=Mth.Jb9 gd ∅ r.1;have sf:Mth.Sz 70 (n.2.fdiv (Mth.g b n.2)):=r.2.fdiv gd ∅;mvcgen;show ixF1 U ?_;show(x,_,j,_, .int b,rfl,p,e.cls,e.n1,rfl,?_);show ixF1 U ?_;mvcgen;show(_,_,rfl,?_);mvcgen;show(d1,?_);generalize n.2.fdiv (Mth.g b n.2)=f at *;mvcgen;by_cases c:1<f
  .rw[if_pos (by simpa using c)];mvcgen;try simpa only[y4fy,y89y]
   show(x,_,j,_, .int b,rfl,p,e.cls,e.n1,rfl,?_);try simpa only[y4fy,y89y]
   show(mulOk B sf,?_);show(x,_,j,_,rfl,p,e.cls,e.n1,by simp,?_);generalize M:upd G x _=v;mvcgen;have e5:v x=some (.ins Ad.Scale j [("bottom", .int (b*f)),("factors", .ref d)]):=by rw[<- M];show Jaj.trans rfl
   have f5:v d=some (.lst (m.map V.int)):=by rw[<- M,Jag Y];show X
   have T5:SameT G v:=SameT.put M p rfl;try simpa only[y4fy,y89y]
   show(x,_,j,_, .ref d,rfl,e5,e.cls,e.n2,rfl,?_);show(.inl ⟨rfl,_,SqL.of f5⟩,?_);mvcgen;show(d,_,_,rfl,rfl,f5,by rw[length_map];ac_nf,?_);generalize J:upd v d _=H6;mvcgen;have f6:=putE J;have T6:SameT v H6:=SameT.put J f5 rfl;mvcgen;show(li,_,_,b*f,m++[f],rfl,by rw[<- J,Jag (Ne.symm Y)];show e5,by rw[f6];simp,λc u D h=>by rw[<- J,Jag (Jai h o), <- M,Jag D];show L c u D h,O.trans (T5.trans T6),hs.snoc ∅,?_,by simp;ac_nf);have:=(show Mth.Sz (1+70*i) b by assumption).mul sf;show this.mono ∅
  .rw[if_neg (by simpa using c)];mvcgen;mvcgen;show(li,_,_,b,m,rfl,p,X,L,O,hs,(show Mth.Sz (1+70*i) b by assumption).mono ∅,by ac_nf)
 .rintro σ G ⟨hi,v2,v3,b,m,rfl,p,X,L,O,hs,B,lf⟩;mvcgen;show k b m d G p o X L hs (B.mono ∅) ∅
abbrev Baw:Stmt:=inClass (top 19) 1
theorem JaS:Jan ["self","number","top","rest","factor","shared"] ["self","number"] (Jae Baw):=by bv_decide
def Jbe(K:W.Frag)(Ad:Adr):Sp:=λvs H Q E=>∃(x:Addr)(v:V)(n:Fr2)(b:Int)(fs:List Int),vs=[.ref x,v]/\SCK Ad H x b fs/\FrV K H v n.1 n.2/\FB 200 56 n/\∀ p (t:Fr2) H',Same H H'->H' p=some (.tup [.int t.1, .int t.2])->LInv n b t->Q (.ref p) H'
theorem Jek(F:FunD K "lifted" "Scale.lifted" Baw dV f fd)(T:Txt K mg Ad)(Bac:Cal P w K mg base 1 "common_divisor" ["one","other"] [] (JaA)):FnOk P w K mg base (CX1 P w) 2 f fd ["self","number"] (Jbe K Ad):=by
 show F.okn JaS (by subst_eqs) (λa1 A G s H vs Q E Z h=>?_)
 let(x,v,n,b,d,rfl,h):=h;have hu:=Z.units;show(_,(Jab (ps_if (Jaw (JcN hu) (pe_op JaD (Jar (pv 0) rfl) (pe_ix ix_U (pv 1) Jad)) Jad (Jax _)) (Jah (Jap (JaJ (Jaa (pe_op JaC (pe_ix ix_U (pv 1) Jad) (pe_op Jas (Jar (pv 0) rfl) (pe_ix ix_U (pv 1) Jad))) (Jaa Jad Jac)))))
   Jat) (Jab (Jak 2 JaS.nd (pe_ix ix_U (pv 1) Jad)) (Jab (Jak 3 JaS.nd (pe_ix ix_U (pv 1) Jad)) (Jab (Ja2 PassesOwn.never rfl (pi_U (Jar (pv 0) rfl)) (Jaq 4 JaS.nd) (Jab (Jak 5 JaS.nd (Bac.ev Z ⋯ rfl passF (Jaa (pv 3) (Jaa (pv 4) Jac)))) (Jab (Jak 2 JaS.nd (pe_op JaC (pv 2) (pe_op Jas (pv 4) (pv 5)))) (Jah (Jak 3 JaS.nd (pe_op Jas (pv 3) (pv 5))))))) (Jah (Jap (JaJ (Jaa (pv 2) (Jaa (pv 3) Jac))))))))),?_)
 clear hu;let((L,Y,J,X,B,W,a0),u,z,k):=h;have l:=T.Bct Ad.Scale rfl;have sl:(1000:Nat)<=sizeLine:=by decide
 have N:=z.b1;have b1:=B.b1;have d1:DivOk n.2:=divOk (n:=56) ∅ z.s2;show tSeq _ _ _ [some (.ref x),some v,none,none,none,none] H;mleave;show(x,_,L,_, .int b,rfl,J,l.cls,l.n1,rfl,?_);show ixF1 u ?_;mleave;show(by ac_nf,?_);by_cases c:b.fmod n.2=0
 .rw[if_pos (by simpa using c)];mleave;mleave;show ixF0 u ?_;show(x,_,L,_, .int b,rfl,J,l.cls,l.n1,rfl,?_);show ixF1 u ?_;mleave;have dv:n.2∣b:=by
   rw[Int.fmod_eq_emod_of_nonneg _ ∅]at c;show Int.dvd_of_emod_eq_zero c
  show(d1,mulOk z.s1 (W.fdiv dv N),len2,?_);rename_i p I M H U R S;mleave;show k p (n.1*b.fdiv n.2,1) U R S (LInv.all N c)
 .rw[if_neg (by simpa using c)];mleave;mleave;show ixF0 u ?_;mleave;show ixF1 u ?_;mleave;show(x,_,L,_, .ref Y,rfl,J,l.cls,l.n2,rfl,?_);show(Y,rfl,ForA.byL (xs:=d.map V.int) (SqL.of X) (λi σ o=>i<=(d.map V.int).length/\o=H/\∃(t:Fr2)(D O:Option V),σ=[some (.ref x),some v,some (.int t.1),some (.int t.2),D,O]/\LInv n (prodI (d.take i)) t) ⟨Nat.zero_le _,rfl,n,none,none,rfl,LInv.nil N z.g1⟩ (λi σ o q=>by rw[q.2.1];show SqL.of X) ?_ ?_)
  .rintro i y σ o j ⟨hi,rfl,t,D,O,rfl,r⟩;have C:=(List.getElem?_eq_some_iff.mp j).1;rw[length_map]at C;rw[List.getElem?_map,List.getElem?_eq_getElem C]at j;obtain⟨f,e⟩:∃ f,f=d[i]:=⟨_,rfl⟩;rw[<- e]at j;have j:y=.int f:=(Option.some.inj j).symm;subst j;have fm:f∈d:=by rw[e];show List.getElem_mem C
   have f1:=B.f1 f fm;have m:Mth.Sz 2000 f:=sz_le W ∅ (B.mem fm);have tk:=B.take i;have tb:=r.fb z (sz_le W ∅ tk.2);have gp:=Mth.g_pos (a:=t.2) (b:=f) ∅;have gl:=Mth.g_le (a:=t.2) (b:=f) ∅;have dg:DivOk (Mth.g t.2 f):=divOk (n:=2000) ∅ (Nat.lt_of_le_of_lt (by ac_nf:(Mth.g t.2 f).natAbs<=f.natAbs) m);have qf:=m.fdiv (Mth.JbN t.2 f) ∅;have st:=r.step f1;have et:prodI (d.take (i+1))=prodI (d.take i)*f:=by
    rw[take_succ,List.getElem?_eq_getElem C, <- e];show Jcr f _
   mleave;show(_,_,rfl,?_);mleave;show(dg,mulOk tb.s1 qf,?_);mleave;show(dg,?_);mleave;show(by rw[length_map];ac_nf,(t.1*f.fdiv (Mth.g t.2 f),t.2.fdiv (Mth.g t.2 f)),_,_,rfl,by rw[et];show st)
  .rintro σ o ⟨hi,rfl,t,D,O,rfl,r⟩;rw[take_of_length_le (by rw[length_map];ac_nf),B.pr]at r;mleave;show(len2,?_);rename_i p I M o U R S;mleave;show k p t U R S r
abbrev Bas:Stmt:=inClass (top 19) 2
theorem JaN:Jan ["self","number","top","bottom","factor","shared"] ["self","number"] (Jae Bas):=by bv_decide
def JbL(K:W.Frag)(Ad:Adr):Sp:=λvs H Q E=>∃(x:Addr)(v:V)(n:Fr2)(b:Int)(fs:List Int),vs=[.ref x,v]/\SCK Ad H x b fs/\FrV K H v n.1 n.2/\FB 3000 1000 n/\∀ p (t:Fr2) H',Same H H'->H' p=some (.tup [.int t.1, .int t.2])->LoInv n b t->Q (.ref p) H'
theorem JdR(F:FunD K "lowered" "Scale.lowered" Bas dV f fd)(T:Txt K mg Ad)(Bac:Cal P w K mg base 1 "common_divisor" ["one","other"] [] (JaA)):FnOk P w K mg base (CX1 P w) 2 f fd ["self","number"] (JbL K Ad):=by
 show F.okn JaN (by subst_eqs) (λa1 A z s H U Q E W h=>?_)
 let(x,v,n,b,c,rfl,h):=h;show(_,(Jab (Jak 2 JaN.nd (pe_ix ix_U (pv 1) Jad)) (Jab (Jak 3 JaN.nd (pe_ix ix_U (pv 1) Jad)) (Jab (Ja2 PassesOwn.never rfl (pi_U (Jar (pv 0) rfl)) (Jaq 4 JaN.nd) (Jab (Jak 5 JaN.nd (Bac.ev W ⋯ rfl passF (Jaa (pv 2) (Jaa (pv 4) Jac)))) (Jab (Jak 2 JaN.nd (pe_op Jas (pv 2) (pv 5))) (Jah (Jak 3 JaN.nd (pe_op JaC (pv 3) (pe_op Jas (pv 4) (pv 5)))))))) (Jah (Jap (JaJ (Jaa (pv 2) (Jaa (pv 3) Jac)))))))),?_)
 let((Y,G,X,D,o,M,a0),I,C,k):=h;have L:=T.Bct Ad.Scale rfl;have n1:=C.b1;have b1:=o.b1;show tSeq _ _ _ [some (.ref x),some v,none,none,none,none] H;mleave;show ixF0 I ?_;mleave;show ixF1 I ?_;mleave;show(x,_,Y,_, .ref G,rfl,X,L.cls,L.n2,rfl,?_);show(G,rfl,ForA.byL (xs:=c.map V.int) (SqL.of D) (λi σ l=>i<=(c.map V.int).length/\l=H/\∃(t:Fr2)(u B:Option V),σ=[some (.ref x),some v,some (.int t.1),some (.int t.2),u,B]/\LoInv n (prodI (c.take i)) t) ⟨Nat.zero_le _,rfl,n,none,none,rfl,LoInv.nil C.lo⟩ (λi σ l q=>by rw[q.2.1];show SqL.of D) ?_ ?_)
 .rintro i y σ l e ⟨hi,rfl,t,u,B,rfl,m⟩;have r:=(List.getElem?_eq_some_iff.mp e).1;rw[length_map]at r;rw[List.getElem?_map,List.getElem?_eq_getElem r]at e;obtain⟨f,d⟩:∃ f,f=c[i]:=⟨_,rfl⟩;rw[<- d]at e;have e:y=.int f:=(Option.some.inj e).symm;subst e;have fm:f∈c:=by rw[d];show List.getElem_mem r
  have N:=o.f1 f fm;have j:Mth.Sz 2000 f:=sz_le M ∅ (o.mem fm);have tk:=o.take i;have R:Mth.Sz 2000 (prodI (c.take i)):=sz_le M ∅ tk.2;have t2:Mth.Sz 3000 t.2:=by
   show Nat.lt_of_le_of_lt m.le2 ?_;have:=C.s2.mul R;unfold Mth.Sz at this;rw[Int.natAbs_mul]at this;show this
  have gp:=Mth.g_pos (a:=t.1) (b:=f) ∅;have gl:=Mth.g_le (a:=t.1) (b:=f) ∅;have J:DivOk (Mth.g t.1 f):=divOk (n:=2000) ∅ (Nat.lt_of_le_of_lt (by ac_nf:(Mth.g t.1 f).natAbs<=f.natAbs) j);have qf:=j.fdiv (Mth.JbN t.1 f) ∅;have O:=m.step N;have et:prodI (c.take (i+1))=prodI (c.take i)*f:=by
   rw[take_succ,List.getElem?_eq_getElem r, <- d];show Jcr f _
  mleave;show(_,_,rfl,?_);mleave;show(J,?_);mleave;show(J,mulOk t2 qf,?_);mleave;show(by rw[length_map];ac_nf,(t.1.fdiv (Mth.g t.1 f),t.2*f.fdiv (Mth.g t.1 f)),_,_,rfl,by rw[et];show O)
 .rintro σ l ⟨hi,rfl,t,u,B,rfl,m⟩;rw[take_of_length_le (by rw[length_map];ac_nf),o.pr]at m;mleave;show(len2,?_);rename_i p S Z l H1 S1 e1;mleave;show k p t H1 S1 e1 m
abbrev Bba:Stmt:=top 32
theorem Jcz:Jan ["thing","numbers","part","gap"] ["thing"] (Jae Bba):=by bv_decide
def JcG(K:W.Frag)(Ad:Adr):Sp:=λvs H Q E=>∃(x:Addr)(ls:List PD)(gs:List GD),vs=[.ref x]/\TK K Ad H x ls gs/\ls.length<=12/\gs.length<=7/\ls.length+gs.length<=14/\(∀ p∈ls,(1<=p.sz.2/\Mth.Sz 70 p.sz.2)/\1<=p.mo.2/\Mth.Sz 70 p.mo.2)/\(∀ g∈gs,(1<=g.lo.2/\Mth.Sz 70 g.lo.2)/\1<=g.hi.2/\Mth.Sz 70 g.hi.2)/\∀ s b fs H',Same H H'->SCK Ad H' s b fs->Q (.ref s) H'
theorem JgN(F:FunD K "scale_of" "scale_of" Bba dV f fd)(T:Txt K mg Ad)(Bak:MCal P w K mg base 2 "parts" (JaH Ad) ["self"] (JaG K Ad))(BaX:MCal P w K mg base 2 "gaps" (JaH Ad) ["self"] (JaZ K Ad))(Bdt:KCal P w K mg base 2 "Scale" Ad.Scale ["self","numbers"] (JbC K Ad)):FnOk P w K mg base (CX1 P w) 4 f fd ["thing"] (JcG K Ad):=by
 show F.okn Jcz (by subst_eqs) (λb8 A a6 s H vs Q E hr h=>?_)
 let(x,ls,gs,rfl,h):=h;show(_,(Jab (Jak 1 Jcz.nd (Jbc Jac)) (Jab (Ja2 PassesOwn.never rfl (pi_U (Bak.m0 hr ⋯ passF (pv 0))) (Jaq 2 Jcz.nd) (Jah (Ja6 (pe_bm PySem.F.plainAttrs_list PySem.F.slot_list_extend PySem.F.type_list_extend Jf7 (pv 1) (Jaa (Jbc (Jaa (pe_ix ix_U (pv 2) Jad) (Jaa (pe_ix ix_U (pv 2) Jad) Jac))) Jac))))) (Jab (Ja2 PassesOwn.never rfl (pi_U (BaX.m0 hr ⋯ passF (pv 0))) (Jaq 3 Jcz.nd) (Jah (Ja6 (pe_bm PySem.F.plainAttrs_list PySem.F.slot_list_extend PySem.F.type_list_extend Jf7 (pv 1) (Jaa (Jbc (Jaa (pe_ix ix_U (pv 3) Jad) (Jaa (pe_ix ix_U (pv 3) Jad) Jac))) Jac))))) (Jah (Jap (Bdt.ev hr ⋯ rfl passF (Jaa (pv 1) Jac))))))),?_)
 let(ht,h7,h6,b7,a9,a7,k):=h;let(dx,d1,d2,d3,k1,k2,k3,hx,_):=id ht;have sl:(1000:Nat)<=sizeLine:=by decide
 show tSeq _ _ _ [some (.ref x),none,none,none] H;cbv;show(len0,?_);rename_i r N b5 H H1 S1 e1;cbv;cbv;show(x,_,dx,_,rfl,S1 _ _ hx,rfl,rfl,x,ls,gs,rfl,ht.same S1,by ac_nf,λl ys H2 S2 a2 e2 hY=>?_);have lY:=hY.length;have a8:l≠r:=λz=>by rw[z,e1]at a2;cases a2
 cbv;show(l,rfl,ForA.byL (xs:=ys) (SqL.of e2) (λi σ B=>i<=ys.length/\∃(L M:Option V)(j:List V)(e:List Fr2),σ=[some (.ref x),some (.ref r),L,M]/\(∀ c u,c≠r->H2 c=some u->B c=some u)/\SameT H2 B/\B r=some (.lst j)/\All2 (FLV K B) e j/\(∀ n∈e,1<=n.2/\Mth.Sz 70 n.2)/\e.length=2*i) ⟨Nat.zero_le _,none,none,[],[],rfl,λ_ _ _ h=>h,(Same.refl _).t,S2 _ _ e1,rfl,(λn d=>by cases d),rfl⟩ (λi σ B q=>by let(_,_,_,_,_,_,q,_):=q;show SqL.of (q _ _ a8 e2)) ?_ ?_)
 .rintro i y σ H3 U ⟨hi,L,M,j,e,rfl,ho,hT,o,v,a,X⟩;have li:=(List.getElem?_eq_some_iff.mp U).1;have la:=v.length;let(p,hp,b,Y,vm,rfl,hb,hz,hm):=hY.at_ U;have a4:=a9 p (List.mem_of_getElem? hp);have S:=hb.sameT hT;cbv;show(.inl ⟨rfl,_,SqL.of o⟩,?_);show ixT (i:=3) S rfl ?_;show ixT (i:=4) S rfl ?_;cbv;show(len2,?_);rename_i tl a3 Z H3 H4 J e4;cbv;show(r,tl,j,_,rfl,rfl,J _ _ o,e4,by simp only[length_cons,length_nil];ac_nf,?_);generalize u5:upd H4 r _=D;cbv;have e5:=putE u5;have T5:SameT H4 D:=SameT.put u5 (J _ _ o) rfl;have I:SameT H3 D:=J.t.trans T5;cbv;show(li,_,_,j++[Y,vm],e++[p.sz,p.mo],rfl,λc u hc h=>by rw[<- u5,Jag hc];show J _ _ (ho c u hc h),hT.trans I,e5,(v.mono (P':=FLV K D) λ_ _ z=>z.sameT I).append ⟨Y,_,rfl,FrV.sameT (hT.trans I) hz,vm,_,rfl,FrV.sameT (hT.trans I) hm,rfl⟩,λn d=>?_,by simp;ac_nf);rcases mem_append.mp d with d | d
  .show a n d
  .rcases mem_cons.mp d with rfl | d
   .show a4.1
   .rw[mem_singleton.mp d];show a4.2
 .rintro σ H3 ⟨hi,L,M,j,e,rfl,ho,hT,o,v,a,X⟩;have R:Same H H3:=λc u h=>ho c u (Jai h N) (S2 _ _ (S1 _ _ h));cbv;show(x,_,dx,_,rfl,R _ _ hx,rfl,rfl,x,ls,gs,rfl,ht.same R,by ac_nf,λm zs H4 J a5 e4 hZ=>?_);have lZ:=hZ.length;have b0:m≠r:=λz=>by rw[z,o]at a5;cases a5
  have la:=v.length;cbv;show(m,rfl,ForA.byL (xs:=zs) (SqL.of e4) (λi σ B=>i<=zs.length/\∃(L M:Option V)(j:List V)(e:List Fr2),σ=[some (.ref x),some (.ref r),L,M]/\(∀ c u,c≠r->H4 c=some u->B c=some u)/\SameT H4 B/\B r=some (.lst j)/\All2 (FLV K B) e j/\(∀ n∈e,1<=n.2/\Mth.Sz 70 n.2)/\e.length<=2*ls.length+2*i) ⟨Nat.zero_le _,L,M,j,e,rfl,λ_ _ _ h=>h,(Same.refl _).t,J _ _ o,v.mono (λ_ _ z=>z.sameT J.t),a,by ac_nf⟩ (λi σ B q=>by let(_,_,_,_,_,_,q,_):=q;show SqL.of (q _ _ b0 e4)) ?_ ?_)
  .clear v a X o la;rintro i y σ D U ⟨hi,L,M,j,e,rfl,O,C,o,v,a,X⟩;have li:=(List.getElem?_eq_some_iff.mp U).1;have la:=v.length;let(g,hg,b,Y,vm,rfl,hb,hz,hm):=hZ.at_ U;have W:=a7 g (List.mem_of_getElem? hg);have a0:=hb.sameT C;cbv;show(.inl ⟨rfl,_,SqL.of o⟩,?_);show ixT (i:=3) a0 rfl ?_;show ixT (i:=4) a0 rfl ?_;cbv;show(len2,?_);rename_i tl a3 Z D H6 S6 e6;cbv;show(r,tl,j,_,rfl,rfl,S6 _ _ o,e6,by simp only[length_cons,length_nil];ac_nf,?_);generalize u7:upd H6 r _=H7;cbv;have e7:=putE u7;have T7:SameT H6 H7:=SameT.put u7 (S6 _ _ o) rfl;have G:SameT D H7:=S6.t.trans T7;cbv;show(li,_,_,j++[Y,vm],e++[g.lo,g.hi],rfl,λc u hc h=>by rw[<- u7,Jag hc];show S6 _ _ (O c u hc h),C.trans G,e7,(v.mono (P':=FLV K H7) λ_ _ z=>z.sameT G).append ⟨Y,_,rfl,FrV.sameT (C.trans G) hz,vm,_,rfl,FrV.sameT (C.trans G) hm,rfl⟩,λn d=>?_,by simp;ac_nf);rcases mem_append.mp d with d | d
   .show a n d
   .rcases mem_cons.mp d with rfl | d
    .show W.1
    .rw[mem_singleton.mp d];show W.2
  .clear v a X o la;rintro σ D ⟨hi,L,M,j,e,rfl,O,C,o,v,a,X⟩;have a1:Same H D:=λc u h=>O c u (Jai h N) (J _ _ (R _ _ h));cbv;intro s ds hs b3 b6;have Sm:Same D (upd (upd D ds (.own s)) s (.ins Ad.Scale ds [])):=λb u q=>by rw[Jag (Jai q hs),Jag (Jai q b3)];show q
   show(s,ds,r,j,e,rfl,Jaj,Sm _ _ o,v.mono (λ_ _ z=>z.sameT Sm.t),by ac_nf,a,λb fs fl H6 h1 h2 h3 h4 b4 b1 b2=>⟨rfl,k s b fs H6 (λc u h=>?_) ⟨ds,fl,h1,h3,b4,b1,b2⟩⟩);show h4 c u (Jai (a1 _ _ h) hs) (Sm _ _ (a1 _ _ h))
abbrev BaN:Stmt:=top 33
theorem JfE:Jan ["thing","gap_name"] ["thing","gap_name"] (Jae BaN):=by bv_decide
def JbU(K:W.Frag)(Ad:Adr):Sp:=λvs H Q E=>∃(x:Addr)(ls:List PD)(gs:List GD)(g:GD),vs=[.ref x, .str g.nm]/\TK K Ad H x ls gs/\(ls.map (·.nm)).Nodup/\ls.length<=12/\g∈gs/\(∀ u∈gs,u.nm=g.nm->u=g)/\∀ l (w:List Pr) H',Same H H'->H' l=some (.lst ((w.map (·.1)).map V.str))->JaQ ls g.st w g.en->(w.map (·.1)).Nodup->Q (.ref l) H'
theorem Jfs(F:FunD K "part_names" "part_names" BaN dV f fd)(T:Txt K mg Ad)(BdM:MCal P w K mg base 1 "way" (JaH Ad) ["self","name"] (Jcb K Ad)):FnOk P w K mg base (CX1 P w) 2 f fd ["thing","gap_name"] (JbU K Ad):=by
 show F.okn JfE (by subst_eqs) (λa1 A o s H L Q E M h=>?_)
 let(x,u,D,g,rfl,h):=h;show(_,(Jah (Jap (Jer (own:=["name","forward"]) (cs:=[]) (cl:=[]) rfl (pi_U (BdM.m M ⋯ passF (pv 0) (Jaa (pv 1) Jac))) (λ_ _ _ _=>(JlA (K:=K) (n:=2) rfl rfl (Jbb (Jaq 0 (show[("name" : Str),("forward" : Str)].Nodup by decide) (hf:=Or.inr rfl)) (Jbb (Jaq 1 (show[("name" : Str),("forward" : Str)].Nodup by decide) (hf:=Or.inr rfl)) Jc5)))) (λ_ _ _ _=>(pv 0)) rfl ⋯ rfl ⋯ hcl0 (hhas0 ⋯) hcs0))),?_);let(C,X,h8,hg,j,k):=h;let(O,d1,d2,d3,k1,k2,k3,N,_):=id C;have sl:(1000:Nat)<=sizeLine:=by decide
 show tRet _ _ [some (.ref x),some (.str g.nm)] H;cbv;show(x,_,O,_,rfl,N,rfl,rfl,x,g.nm,u,D,rfl,C,λz=>absurd (mem_map.mpr ⟨g,hg,rfl⟩) z,λg' q I l xs w H1 Y a0 G d v a=>?_);have e:=j g' q I;subst e;have lx:=d.length;have lw:w.length<=12:=by
  have:=sub_len (w.map (·.1)) (u.map (·.nm)) a λn hn=>Jc0 (Jfv v) n hn;rw[length_map,length_map]at this;ac_nf
 cbv;show(l,rfl, .inl ⟨⟨xs,SqL.of G⟩,CompJ.list (xs:=xs) (λi B c=>c=H1/\B=((w.take i).map (·.1)).map V.str) ⟨rfl,rfl⟩ (λi B c hi z=>⟨by rw[z.1];show SqL.of G,by rw[z.2,length_map,length_map,length_take];ac_nf⟩) ?_ ?_⟩)
 .rintro i y t c W ⟨rfl,rfl⟩;let(pr,p,b,rfl,U):=d.at_ W;simpa only[length_singleton,length_cons,length_nil,List.replicate,Jaz,map_cons,map_nil,Option.join_some];show(b,_,rfl,SqT.of U,rfl,?_);cbv;rw[take_succ,p];simp
 .rintro t c ⟨rfl,rfl⟩;rw[take_of_length_le ∅];rename_i r a2 Z c J R S;cbv;show k r w J (Y.trans R) S v a
abbrev Bax:Stmt:=inClass (top 34) 0
theorem Jey:Jan ["self","name","rest","weights"] ["self","name","rest","weights"] (Jae Bax):=by bv_decide
def Jb2(K:W.Frag)(Ad:Adr):Sp:=λvs H Q E=>∃(x dx wd:Addr)(nm:Str)(vr:V)(ws:List (Str × Int)),vs=[.ref x, .str nm,vr, .ref wd]/\H x=some (.ins Ad.Lid dx [])/\H wd=some (.dK (wsK ws))/\∀ H',H' x=some (.ins Ad.Lid dx [("name", .str nm),("rest",vr),("weights", .ref wd),("load", .int (ws.map (·.2)).sum),("last_level", .ref Ad.ZERO)])->(∀ b,b≠x->H' b=H b)->Q .non H'
theorem Jej(F:FunD K "__init__" "Lid.__init__" Bax dV f fd)(T:Txt K mg Ad)  : FnOk P w K mg base (CX1 P w) 1 f fd ["self","name","rest","weights"] (Jb2 K Ad):=by
 show F.okn Jey (by subst_eqs) (λR A n s H L Q E X h=>?_)
 let(x,c,e,g,i,j,rfl,h):=h;show(_,(Jab (Ja5 (pv 0) (pv 1) rfl) (Jab (Ja5 (pv 0) (pv 2) rfl) (Jab (Ja5 (pv 0) (pv 3) rfl) (Jab (Ja5 (pv 0) (Jlz rfl rfl rfl T.n_sum Jl5 (pv 3)) rfl) (Jah (Ja5 (pv 0) (Jbk (v:=.ref _) rfl T.Bcp T.Bcq) rfl)))))),?_)
 let(I,p,k):=h;have d:=T.c_Lid Ad.Lid rfl;have m:e≠x:=λz=>by rw[z,I]at p;cases p
 show tSeq _ _ _ [some (.ref x),some (.str g),some i,some (.ref e)] H;mexact;show(x,_,c,_,rfl,I,d.cls,d.n1,by simp,?_);generalize C:upd H x _=r;mexact;have U:r x=some (.ins Ad.Lid c [("name", .str g)]):=by rw[<- C];show Jaj.trans rfl
 have N:∀ b,b≠x->r b=H b:=λb a=>by rw[<- C,Jag a]
 mexact;show(x,_,c,_,rfl,U,d.cls,d.n2,by simp,?_);generalize t:upd r x _=l;mexact;have M:l x=some (.ins Ad.Lid c [("name", .str g),("rest",i)]):=by rw[<- t];show Jaj.trans rfl
 have S:∀ b,b≠x->l b=H b:=λb a=>by rw[<- t,Jag a];show N b a
 mexact;show(x,_,c,_,rfl,M,d.cls,d.n3,by simp,?_);generalize u:upd l x _=o;mexact;have J:o x=some (.ins Ad.Lid c [("name", .str g),("rest",i),("weights", .ref e)]):=by rw[<- u];show Jaj.trans rfl
 have y:∀ b,b≠x->o b=H b:=λb a=>by rw[<- u,Jag a];show S b a
 mexact;show(e,wsK j,j.map (·.2),rfl,by rw[y e m];show p,Jkd j,?_);mexact;show(x,_,c,_,rfl,J,d.cls,d.n4,by simp,?_);generalize G:upd o x _=q;mexact;have O:q x=some (.ins Ad.Lid c [("name", .str g),("rest",i),("weights", .ref e),("load", .int (j.map (·.2)).sum)]):=by rw[<- G];show Jaj.trans rfl
 have W:∀ b,b≠x->q b=H b:=λb a=>by rw[<- G,Jag a];show y b a
 mexact;show(x,_,c,_,rfl,O,d.cls,d.n5,by simp,?_);generalize B:upd q x _=D;mexact;have V:D x=some (.ins Ad.Lid c [("name", .str g),("rest",i),("weights", .ref e),("load", .int (j.map (·.2)).sum),("last_level", .ref Ad.ZERO)]):=by rw[<- B];show Jaj.trans rfl
 show k D V λb a=>by rw[<- B,Jag a];show W b a
abbrev Bao:Stmt:=inClass (top 34) 1
theorem JdD:Jan ["self"] ["self"] (Jae Bao):=by bv_decide
def JbB(K:W.Frag)(Ad:Adr):Sp:=λvs H Q E=>∃(q:Addr)(e:LidD),vs=[.ref q]/\LDV K Ad H e (.ref q)/\FB 3000 1000 e.rest/\1<=e.load/\Mth.Sz 64 e.load/\∀ p H',Same H H'->H' p=some (.tup [.int (divF e.rest (e.load,1)).1, .int (divF e.rest (e.load,1)).2])->Q (.ref p) H'
theorem Jdy(F:FunD K "full_level" "Lid.full_level" Bao dV f fd)(T:Txt K mg Ad)(BcU:Cal P w K mg base 3 "over" ["one","other"] [] (JfK K Ad)):FnOk P w K mg base (CX1 P w) 4 f fd ["self"] (JbB K Ad):=by
 show F.okn JdD (by subst_eqs) (λB A c s H t Q E d h=>?_)
 let(q,e,rfl,h):=h;show(_,(Jah (Jap (BcU.ev d ⋯ rfl passF (Jaa (Jar (pv 0) rfl) (Jaa (JaJ (Jaa (Jar (pv 0) rfl) (Jaa Jad Jac))) Jac))))),?_);let((I,i,j,O,M,C,m,d,J,G),a,L,y,k):=h;cases C;have b:=T.c_Lid Ad.Lid rfl;show tRet _ _ [some (.ref q)] H;mleave;show(q,_,i,_,j,rfl,m,b.cls,b.n2,rfl,?_);show(q,_,i,_, .int e.load,rfl,m,b.cls,b.n4,rfl,?_);mleave;show(len2,?_);rename_i p o v H N l D;mleave;show(j, .ref p,_,_,e.load,1,rfl,d.same l,FrV.of D,a.s1.mono ⋯,a.s2.mono ⋯,y.mono ⋯, .lit ⋯ ⋯,a.b1,by decide,a.g1,by unfold Mth.g;simp,λz=>absurd z ∅,λ_ r n u x=>?_);show k r n (l.trans u) x
abbrev BaO:Stmt:=inClass (top 34) 2
theorem Jdr:Jan ["self","part","level","weight"] ["self","part","level"] (Jae BaO):=by bv_decide
def JcA(K:W.Frag)(Ad:Adr):Sp:=λvs H Q E=>∃(q:Addr)(n:Str)(lv:V)(e:LidD)(L:Fr2),vs=[.ref q, .str n,lv]/\LDV K Ad H e (.ref q)/\FrV K H lv L.1 L.2/\FB 3000 1000 e.rest/\FB 3000 1000 L/\(∀ x∈e.ws,Mth.Sz 64 x.2)/\∀ H',(∀ b u,b≠q->H b=some u->H' b=some u)->LDV K Ad H' (e.settle n L) (.ref q)->(∀ d kv,H d=some (.dK kv)->LDV K Ad (cut d H) e (.ref q)->LDV K Ad (cut d H') (e.settle n L) (.ref q))->Q .non H'
theorem Jfj(F:FunD K "settle" "Lid.settle" BaO dV f fd)(T:Txt K mg Ad)(Bbt:Cal P w K mg base 3 "minus" ["one","other"] [] (Jds K))(Bbs:Cal P w K mg base 2 "times" ["one","other"] [] (Jdt K)):FnOk P w K mg base (CX1 P w) 4 f fd ["self","part","level"] (JcA K Ad):=by
 show F.okn Jdr (by subst_eqs) (λa7 A a0 s H vs Q E O h=>?_)
 let(q,n,G,e,L,rfl,h):=h;have hu:=O.units;show(_,(Jah (ps_if (Jew (Jho (hu1 hu) (pv 1) (Jar (pv 0) rfl)) (by with_unfolding_all rfl)) (Jab (Jak 3 Jdr.nd (Jch (hu1 hu) (Jar (pv 0) rfl) (pv 1) (λ_ _=>rfl))) (Jab (Ja5 (pv 0) (Bbt.ev O ⋯ rfl passF (Jaa (Jar (pv 0) rfl) (Jaa (Bbs.ev O ⋯ rfl passF (Jaa (pv 2) (Jaa (JaJ (Jaa (pv 3) (Jaa Jad Jac))) Jac))) Jac))) rfl) (Jab (Ja5 (pv 0) (pe_op JdM (Jar (pv 0) rfl) (pv 3)) rfl) (Jah (Ja5 (pv 0) (pv 2) rfl)))))
   Jat)),?_)
 clear hu;let(hd,hl,Z,r,a4,k):=h;let(q',l,vr,vt,m,hv,v,O,ht,J):=id hd;cases hv;have j:=T.c_Lid Ad.Lid rfl;have M:m≠q:=λz=>by rw[z,v]at J;cases J
 have gw:=DGet.k (k:=Sum.inr n) J;rw[Jg4]at gw;show tIfS _ _ _ _ [some (.ref q),some (.str n),some G,none] H;try simpa only[y4fy,y89y]
 show(q,_,l,_, .ref m,rfl,v,j.cls,j.n3,rfl,?_);show(m,_,rfl,gw,?_);cases hwt:wtOf e.ws n with
 | none=>
  rw[show((none:Option Int).map V.int).isSome=false from rfl];try simpa only[y4fy,y89y]
  have S:e.settle n L=e:=by unfold LidD.settle;rw[hwt]
  show k H (λb u _ h=>h) (by rw[S];show hd) (λd kv _ h=>by rw[S];show h)
 | some w=>
  rw[hwt]at gw;have S:e.settle n L={ e with rest:=subF e.rest (mulF L (w,1)),load:=e.load-w,last:=L }:=by unfold LidD.settle;rw[hwt]
  have sw:=a4 _ (Jjw hwt);rw[show((some w).map V.int).isSome=true from rfl];try simpa only[y4fy,y89y]
  show(q,_,l,_, .ref m,rfl,v,j.cls,j.n3,rfl,?_);show(m, .int w,rfl,gw,?_);try simpa only[y4fy,y89y]
  show(q,_,l,_,vr,rfl,v,j.cls,j.n2,rfl,?_);try simpa only[y4fy,y89y]
  show(len2,?_);rename_i p b3 a8 H H1 S1 e1;mvcgen;show(G, .ref p,_,_,w,1,rfl,hl.same S1,FrV.of e1,r.s1.mono ⋯,r.s2.mono ⋯,sw.mono ⋯, .lit ⋯ ⋯,r.b1,by decide,r.g1,by unfold Mth.g;simp,λp2 H2 S2 e2=>?_);have Y:=S1.trans S2;have ml:=Jfh (a:=L) (c:=(w,1)) r.b1 (Int.le_refl 1);have a2:Mth.Sz 4000 (mulF L (w,1)).1:=(Mth.Sz.top (by have:=r.b1;show L.2*1≠0;ac_nf) (r.s1.mul sw)).mono ⋯;have a3:Mth.Sz 4000 (mulF L (w,1)).2:=(Mth.Sz.bot (t:=L.1*w) (b:=L.2*1) (by have:=r.b1;ac_nf) (by rw[Int.mul_one];show r.s2)).mono ⋯;have e2:H2 p2=some (.tup [.int (mulF L (w,1)).1, .int (mulF L (w,1)).2]):=e2;try simpa only[y4fy,y89y]
  show(vr, .ref p2,_,_,_,_,rfl,O.same Y,FrV.of e2,Z.s1.mono ⋯,Z.s2.mono ⋯,a2,a3,Z.b1,ml.b1,Z.g1,ml.g1,λW H3 S3 e3=>?_);have C:=Y.trans S3;have N:=C _ _ v;try simpa only[y4fy,y89y]
  show(q,_,l,_,rfl,N,j.cls,j.n2,by simp,?_);generalize u4:upd H3 q _=U;mvcgen;have e4:U q=some (.ins Ad.Lid l [("name", .str e.nm),("rest", .ref W),("weights", .ref m),("load", .int e.load),("last_level",vt)]):=by rw[<- u4];show Jaj.trans rfl
  have o4:∀ b u,b≠q->H b=some u->U b=some u:=λb u X h=>by rw[<- u4,Jag X];show C _ _ h
  have T4:SameT H3 U:=SameT.put u4 N rfl;try simpa only[y4fy,y89y]
  show(q,_,l,_, .int e.load,rfl,e4,j.cls,j.n4,rfl,?_);try simpa only[y4fy,y89y]
  show(q,_,l,_,rfl,e4,j.cls,j.n4,by simp,?_);generalize u5:upd U q _=H5;mvcgen;have e5:H5 q=some (.ins Ad.Lid l [("name", .str e.nm),("rest", .ref W),("weights", .ref m),("load", .int (e.load-w)),("last_level",vt)]):=by rw[<- u5];show Jaj.trans rfl
  have T5:SameT U H5:=SameT.put u5 e4 rfl;try simpa only[y4fy,y89y]
  show(q,_,l,_,rfl,e5,j.cls,j.n5,by simp,?_);generalize u6:upd H5 q _=D;mvcgen;have e6:D q=some (.ins Ad.Lid l [("name", .str e.nm),("rest", .ref W),("weights", .ref m),("load", .int (e.load-w)),("last_level",G)]):=by rw[<- u6];show Jaj.trans rfl
  have T6:SameT H5 D:=SameT.put u6 e5 rfl;have I:=T4.trans (T5.trans T6);have o6:∀ b u,b≠q->H b=some u->D b=some u:=λb u X h=>by rw[<- u6,Jag X, <- u5,Jag X];show o4 b u X h
  have f3:=FrV.of (K:=K) (I _ _ rfl e3);have fl:=(hl.same C).sameT I;show k D o6 ?_ λd a9 R a5=>?_
  .rw[S];show(q,l, .ref W,G,m,rfl,e6,f3,fl,o6 _ _ M J)
  .let(q',b2,b0,b4,a1,y,B,_,_,o):=a5;have y:q=q':=by injection y
   subst y;have x:q≠d:=λz=>by rw[z,R]at v;cases v
   rw[JbM x,v]at B;simp only[Option.some.injEq,HO.ins.injEq,List.cons.injEq,Prod.mk.injEq,V.ref.injEq,true_and,and_true]at B;have ew:m=a1:=B.2.2.1;subst ew;have a6:m≠d:=λz=>by
    rw[z]at o;unfold cut at o;rw[if_pos rfl]at o;cases o
   have Tc:SameT D (cut d D):=SameT.cutO (o6 _ _ x.symm R) rfl;rw[S];show(q,l, .ref W,G,m,rfl,by rw[JbM x];show e6,f3.sameT Tc,fl.sameT Tc,by rw[JbM a6];show o6 _ _ M J)
abbrev Bai:Stmt:=inClass (top 34) 3
theorem Jdq:Jan ["self","part","level"] ["self","part","level"] (Jae Bai):=by bv_decide
def Jbs(K:W.Frag)(Ad:Adr):Sp:=λvs H Q E=>∃(q:Addr)(n:Str)(lv:V)(e:LidD)(L:Fr2),vs=[.ref q, .str n,lv]/\LDV K Ad H e (.ref q)/\FrV K H lv L.1 L.2/\Q (.bl ((wtOf e.ws n).isSome&&(decide (e.rest=(0,1))&&decide (e.last=L)))) H
theorem Jdk(F:FunD K "has_stopped" "Lid.has_stopped" Bai dV f fd)(T:Txt K mg Ad)  : FnOk P w K mg base (CX1 P w) 1 f fd ["self","part","level"] (Jbs K Ad):=by
 show F.okn Jdq (by subst_eqs) (λx A c s H p Q E d h=>?_)
 let(q,n,j,e,L,rfl,h):=h;have b:=d.units;show(_,(Jah (Jap (Jcq (JmB (Jho (hu1 b) (pv 1) (Jar (pv 0) rfl)) (by with_unfolding_all rfl)) (Jcq (Jby (JcN b) (Jar (pv 0) rfl) (Jbk (v:=.ref _) rfl T.Bcp T.Bcq) (Jax _)) (Jdn (Jby (JcN b) (Jar (pv 0) rfl) (pv 2) (Jax _))))))),?_);clear b;let((D,g,r,C,m,z,i,d,u,o),y,k):=h;cases z;have a:=T.c_Lid Ad.Lid rfl;have l:=DGet.k (k:=Sum.inr n) o;rw[Jg4]at l;have B:decide (e.rest=(0,1))=(decide (e.rest.1=0)&&decide (e.rest.2=1)):=by
  rw[<- Bool.decide_and];show decide_eq_decide.mpr Prod.ext_iff
 have t:decide (e.last=L)=(decide (e.last.1=L.1)&&decide (e.last.2=L.2)):=by
  rw[<- Bool.decide_and];show decide_eq_decide.mpr Prod.ext_iff
 rw[B,t]at k;show tRet _ _ [some (.ref q),some (.str n),some j] H;mleave;show(q,_,g,_, .ref m,rfl,i,a.cls,a.n3,rfl,?_);show(m,_,rfl,l,?_);rw[show((wtOf e.ws n).map V.int).isSome=(wtOf e.ws n).isSome by cases wtOf e.ws n <;> rfl];cases c1:(wtOf e.ws n).isSome with
 | false=>
  rw[c1]at k;mleave;show k
 | true=>
  rw[c1]at k;mleave;show(q,_,g,_,r,rfl,i,a.cls,a.n2,rfl,?_);show eqF d ⟨Ad.ZERO,rfl,T.Bcr _⟩ ?_;cases c2:(decide (e.rest.1=0)&&decide (e.rest.2=1))with
  | false=>
   rw[c2]at k;mleave;show k
  | true=>
   rw[c2]at k;mleave;show(q,_,g,_,C,rfl,i,a.cls,a.n5,rfl,?_);show eqF u y ?_;show k
abbrev Bap:Stmt:=inClass (top 9) 0
theorem JdE:Jan ["self","words","tight_gap"] ["self","words","tight_gap"] (Jae Bap):=by bv_decide
def JbD(K:W.Frag)(Ad:Adr):Sp:=λvs H Q E=>∃(e:Addr)(w z:Str)(S f:Addr),vs=[.ref e, .str w, .str z]/\H e=some (ExcN e Ad.Tight none)/\ExcI K Ad.Tight S f/\∀(dx:Addr)(H':Hp),(∀ b u,b≠e->H b=some u->H' b=some u)->H dx=none->dx≠e->H' e=some (ExcN e Ad.Tight (some dx))->H' dx=some (.xd [("tight_gap", .str z)])->Q .non H'
theorem JdB(F:FunD K "__init__" "Tight.__init__" Bap dV f fd)(T:Txt K mg Ad)  : FnOk P w K mg base (CX1 P w) 1 f fd ["self","words","tight_gap"] (JbD K Ad):=by
 show F.okn JdE (by subst_eqs) (λo A g s H l Q E p h=>?_)
 let(e,w,z,S,f,rfl,h):=h;show(_,(Jab (Ja6 (JjQ T.slk rfl T.m_SlackError (Jaa (pv 0) (Jaa (pv 1) Jac)))) (Jah (JlD (pv 0) (pv 2) rfl))),?_)
 let(i,j,k):=h;show tSeq _ _ _ [some (.ref e),some (.str w),some (.str z)] H;cbv;show(e,_,_,_,_,_,rfl,by show 1<=sizeLine;decide,i,j,?_);rw[show upd H e (ExcN e Ad.Tight none)=H from funext λb=>by
  by_cases c:b=e
  .rw[c,Jaj,i]
  .rw[Jag c]]
 mframe;show(e,_,S,f,rfl,i,j,T.xa,λm a d=>?_);show k m _ (λb u n h=>by rw[Jag (Jai h a),Jag n];show h) a d (by rw[Jag (Ne.symm d),Jaj]) Jaj
abbrev BbE:Stmt:=top 35
theorem JbA:Jan ["thing","scale","weights","part","lids","gap","room","on_way"] ["thing","scale"] (Jae BbE):=by bv_decide
def JdH(K:W.Frag)(Ad:Adr):Sp:=λvs H Q E=>∃(x sc:Addr)(ls:List PD)(es:List (GD × List Str))(pl:Str->Fr2)(b:Int)(fs:List Int),vs=[.ref x, .ref sc]/\TK K Ad H x ls (es.map (·.1))/\SCK Ad H sc b fs/\SHC ls es pl/\((∀ e∈es,0<=vl (roomF pl e.1))->∀ ll xs lds H',Same H H'->H ll=none->H' ll=some (.lst xs)->All2 (LDV K Ad H') lds xs->xs.Nodup->(∀ v∈xs, ∃ q,v=.ref q/\H q=none)->lds.length=es.length->(∀(i:Nat) e l,es[i]?=some e->lds[i]?=some l->LSt b ls pl e l)->Q (.ref ll) H')/\∀(i:Nat)(e:GD × List Str),es[i]?=some e->vl (roomF pl e.1)<0->(∀ e'∈es.take i,0<=vl (roomF pl e'.1))->∀(dx:Addr)(H':Hp),Same H H'->H dx=none->H' dx=some (.xd [("tight_gap", .str e.1.nm)])->E (.ref Ad.Tight) (some dx) H'
theorem JhT(F:FunD K "lids_of" "lids_of" BbE dV f fd)(T:Txt K mg Ad)(Bak:MCal P w K mg base 2 "parts" (JaH Ad) ["self"] (JaG K Ad))(BaX:MCal P w K mg base 2 "gaps" (JaH Ad) ["self"] (JaZ K Ad))(Bb8:MCal P w K mg base 5 "room" (JaH Ad) ["self","name"] (Jbu K Ad))(Baj:Cal P w K mg base 1 "under" ["one","other"] [] (JbV K))(BaP:Cal P w K mg base 2 "part_names" ["thing","gap_name"] [] (JbU K Ad))(k_Lid:KCal P w K mg base 1 "Lid" Ad.Lid ["self","name","rest","weights"] (Jb2 K Ad))(Ba6:MCal P w K mg base 2 "lifted" (Jc2 Ad) ["self","number"] (Jbe K Ad))(k_Tight:XCal P w K mg base 1 "Tight" Ad.Tight Ad.SlackError ["self","words","tight_gap"] (JbD K Ad)):FnOk P w K mg base (CX1 P w) 7 f fd ["thing","scale"] (JdH K Ad):=by
 show F.okx JbA (λvs H Q E h=>?_) (λk8 A g5 s H vs Q E hr h=>?_)
 .let(x,sc,ls,es,pl,b,fs,rfl,_):=h;rfl
 let(x,sc,ls,es,pl,b,fs,rfl,h):=h;have hu:=hr.units;show(_,(Jab (Jak 2 JbA.nd JbQ rfl (Or.inr rfl)) (Jab (Ja2 PassesOwn.leaving rfl (pi_U (Bak.m0 hr ⋯ pass1 (pv 0))) (Jaq 3 JbA.nd) (Jah (Jcx (hu1 hu) (pv 2) (pe_ix ix_U (pv 3) Jad) (pe_ix ix_U (pv 3) Jad) rfl))) (Jab (Jak 4 JbA.nd (Jbc Jac)) (Jab (Ja2 PassesOwn.leaving rfl (pi_U (BaX.m0 hr ⋯ pass1 (pv 0))) (Jaq 5 JbA.nd) (Jab (Jak 6 JbA.nd (Bb8.m hr ⋯ pass1 (pv 0) (Jaa (pe_ix ix_U (pv 5) Jad) Jac))) (Jab (ps_if (Jba (Baj.ev hr ⋯ rfl pass1 (Jaa (pv 6) (Jaa (Jbk (v:=.ref _) rfl T.Bcp T.Bcq) Jac)))) (Jah (JiY (k_Tight.ev hr ⋯ rfl pass1 (Jaa JaY (Jaa (pe_ix ix_U (pv 5) Jad) Jac)))))
   Jat) (Jab (Jak 7 JbA.nd (Jdm (JhD rfl) rfl T.n_dict JkU (Jaa (Jhp (own:=["name"]) (cs:=[(2,"weights")]) rfl (pi_U (BaP.ev hr ⋯ rfl pass1 (Jaa (pv 0) (Jaa (pe_ix ix_U (pv 5) Jad) Jac)))) (λ_ _ _ _=>(Jaq 0 (show[("name" : Str),("weights" : Str)].Nodup by decide))) (λ_ _ _ _=>(JaJ (Jaa (pv 0) (Jaa (Jch (hu1 hu) (pv 1) (pv 0) (λ_ _=>rfl)) Jac)))) (Jd6 rfl) ⋯ rfl ⋯
   (hcs1 rfl rfl rfl)) Jac))) (Jah (Ja6 (pe_bm PySem.F.plainAttrs_list PySem.F.slot_list_append PySem.F.type_list_append Ja9 (pv 4) (Jaa (k_Lid.ev hr ⋯ rfl pass1 (Jaa (pe_ix ix_U (pv 5) Jad) (Jaa (Ba6.m hr ⋯ pass1 (pv 1) (Jaa (pv 6) Jac)) (Jaa (pv 7) Jac)))) Jac) (hs:=by show Jaf rfl)))))))) (Jah (Jap (pv 4))))))),?_)
 clear hu;let(ht,f7,N,k,kT):=h;let(dx,d1,d2,d3,k1,k2,k3,hx,_):=id ht;let(i2,fl,g3,_,j3,sb,_):=id f7;have sl:(1000:Nat)<=sizeLine:=by decide
 have k0:=N.l12;have l7:=N.l7;show tSeq _ _ _ [some (.ref x),some (.ref sc),none,none,none,none,none,none] H;cbv;rename_i wd e6 j5 H H1 S1 e1;cbv;show(x,_,dx,_,rfl,S1 _ _ hx,rfl,rfl,x,ls,_,rfl,ht.same S1,by ac_nf,λl ys H2 S2 f3 e2 hY=>?_);have lY:=hY.length;have i3:l≠wd:=λz=>by rw[z,e1]at f3;cases f3
 have h9:=S1.trans S2;cbv;show(l,rfl,ForA.byLN (xs:=ys) (SqL.of e2) (λi σ O=>i<=ys.length/\∃(v3:Option V)(kv:List (Key × V)),σ=[some (.ref x),some (.ref sc),some (.ref wd),v3,none,none,none,none]/\(∀ c u,c≠wd->H2 c=some u->O c=some u)/\SameT H2 O/\O wd=some (.dK kv)/\BG (·.nm) (λp v=>v=.int p.wt) (ls.take i) kv) ⟨Nat.zero_le _,none,[],rfl,λ_ _ _ h=>h,SameT.refl _,S2 _ _ e1,⟨rfl,rfl⟩⟩ (λi σ O q=>by let(_,_,_,_,q,_):=q;show SqL.of (q _ _ i3 e2)) ?_ ?_)
 .rintro i y σ H3 R ⟨hi,v3,kv,rfl,ho,hT,X,hB⟩ N0 c4;have li:=(List.getElem?_eq_some_iff.mp R).1;let(p,hp,b_,vz,vm,rfl,hb,_,_):=hY.at_ R;have lB:=hB.length;rw[length_take]at lB;have c9:=hb.sameT hT;cbv;show ixT (i:=5) c9 rfl ?_;cbv;show ixT (i:=0) c9 rfl ?_;show(wd,_,rfl,DPut.k (k:=Sum.inr p.nm) X ∅,?_);generalize u4:upd H3 wd _=H4;cbv;have e4:=putE u4;have T4:SameT H3 H4:=SameT.put u4 X rfl;show c4 _ _ ⟨li,_,_,rfl,λc u a2 h=>by rw[<- u4,Jag a2];show ho c u a2 h,hT.trans T4,e4,?_⟩;rw[take_succ,hp];show hB.new (a:=p) (JgE N.nd hp) rfl
 .rintro σ H3 ⟨hi,v3,kv,rfl,ho,hT,X,hB⟩;rw[take_of_length_le ∅]at hB;have g0:Same H H3:=λc u h=>ho c u (Jai h e6) (h9 _ _ h);cbv;show(len0,?_);rename_i D a3 j4 H3 H4 S4 e4;cbv;have c5:=g0.trans S4;have a0:H D=none:=JcL g0 a3;show(x,_,dx,_,rfl,c5 _ _ hx,rfl,rfl,x,ls,_,rfl,ht.same c5,by rw[length_map];ac_nf,λm zs H5 S5 g2 e5 hZ=>?_);have lZ:=hZ.length;rw[length_map]at lZ;have i1:m≠D:=λz=>by rw[z,e4]at g2;cases g2
  have f2:=c5.trans S5;have c8:=S5 _ _ (S4 _ _ X);cbv;show(m,rfl,ForA.byLN (xs:=zs) (SqL.of e5) (λi σ O=>i<=zs.length/\(∀ e∈es.take i,0<=vl (roomF pl e.1))/\∃(v5 v6 v7:Option V)(xs:List V)(L:List LidD),σ=[some (.ref x),some (.ref sc),some (.ref wd),v3,some (.ref D),v5,v6,v7]/\(∀ c u,c≠D->H5 c=some u->O c=some u)/\O D=some (.lst xs)/\All2 (LDV K Ad (cut D O)) L xs/\xs.Nodup/\(∀ v∈xs, ∃ q,v=.ref q/\H q=none/\O q≠none)/\L.length=i/\∀(j:Nat) e l,es[j]?=some e->L[j]?=some l->LSt b ls pl e l) ⟨Nat.zero_le _,(λe he=>by simp at he),none,none,none,[],[],rfl,λ_ _ _ h=>h,S5 _ _ e4,rfl, .nil,(λv hv=>by cases hv),rfl,λj e l _ h=>by simp at h⟩ (λi σ O q=>by let(_,_,_,_,_,_,_,_,q,_):=q;show SqL.of (q _ _ i1 e5)) ?_ ?_)
  .rintro i y σ H6 R ⟨hi,a9,v5,v6,v7,xs,L,rfl,W,Z,hX,b8,b2,c2,b9⟩ N0 c4;have li:=(List.getElem?_eq_some_iff.mp R).1;have lX:=hX.length;let(g,a5,a_,k4,k7,rfl,hb,_,_):=hZ.at_ R;obtain⟨e,a6,rfl⟩:∃ e,es[i]?=some e/\e.1=g:=by
    rw[List.getElem?_map]at a5;show Option.map_eq_some_iff.mp a5
   have he:=List.mem_of_getElem? a6;have gm:e.1∈es.map (·.1):=mem_map.mpr ⟨e,he,rfl⟩;have C:Same H H6:=λc u h=>W c u (Jai h a0) (f2 _ _ h);have j0:SameT H5 H6:=λc u t h=>W c u (λz=>by have:=S5 _ _ e4;rw[<- z,h]at this;cases this;simp[isTF]at t) h;have i5:wd≠D:=λz=>by rw[<- z,X]at a3;cases a3
   have f8:=W _ _ i5 c8;have a4:=hb.sameT j0;cbv;show(x,_,dx,_,rfl,C _ _ hx,rfl,rfl,?_);show ixT (i:=0) a4 rfl ?_;show(x,e.1.nm,ls,es.map (·.1),rfl,ht.same C,λz=>absurd (mem_map.mpr ⟨e.1,gm,rfl⟩) z,λg' a5 hz=>?_);have i8:=N.gn e he g' a5 hz;subst i8;show(pl,N.gn e he,λp hp q hq h=>JgQ N.nd hp hq h,N.pok,N.plb,N.pls,N.tok e he,λv H7 S7 fv=>?_);have rb:=N.rb e he;have l0:=Jcm (a:=roomF pl e.1) (c:=(0,1)) rb.b1 ⋯;rw[Jg6]at l0;unfold lessF at l0;cbv;show(v, .ref Ad.ZERO,_,_,0,1,rfl,fv,⟨Ad.ZERO,rfl,T.Bcr _⟩,rb.s1.mono ⋯,rb.s2.mono ⋯, .lit ⋯ ⋯, .lit ⋯ ⋯,?_);cbv;by_cases Y:vl (roomF pl e.1)<0
   .rw[if_pos (l0.mpr Y)];cbv;show ixT (i:=0) (a4.same S7) rfl ?_;show(by show 2<=sizeLine;ac_nf,λZ d5=>?_);let(fI,l1,_,_,hI,_):=k_Tight.ex;have f6:=JcL (C.trans S7) d5;show(Z,_,_,_,fI,rfl,Jaj,hI,λg1 H8 i7 f4 f9 h7 h4=>⟨rfl,Z,_,_,fI,some g1,rfl,h7,hI,f6,?_⟩);rw[Jag f9]at f4;have S8:∀ b u,H7 b=some u->unt H8 Z b=some u:=λb u h=>by
     have hb:=Jai h d5;rw[Jdu hb];show i7 b u hb (by rw[Jag hb];show h)
    show kT i e a6 Y a9 g1 (unt H8 Z) (λb u h=>S8 _ _ ((C.trans S7) _ _ h)) (JcL (C.trans S7) f4) (by rw[Jdu f9];show h4)
   have e7:0<=vl (roomF pl e.1):=Rat.not_lt.mp Y;have h8:∀ e'∈es.take (i+1),0<=vl (roomF pl e'.1):=λe' d0=>by
    rw[take_succ,a6]at d0;rcases mem_append.mp d0 with q | q
    .show a9 e' q
    .rw[mem_singleton.mp q];show e7
   rw[if_neg (λz=>absurd (l0.mp z) (Rat.not_lt.mpr e7))];cbv;have i4:=C.trans S7;show ixT (i:=0) (a4.same S7) rfl ?_;show(x,ls,es.map (·.1),e.1,rfl,ht.same i4,N.nd,by ac_nf,gm,N.gn e he,λnl w H8 S8 e8 hw c7=>?_);have b7:=S7.trans S8;have d6:=b7 _ _ f8;have g4:∀ n∈w.map (·.1),n∈ls.map (·.nm):=λn hn=>Jc0 (Jfv hw) n hn;have lw:w.length<=12:=by
    have:=sub_len (w.map (·.1)) (ls.map (·.nm)) c7 λn hn=>g4 n hn;rw[length_map,length_map]at this;ac_nf
   cbv;show(nl,rfl, .inl ⟨⟨_,SqL.of e8⟩,CompJ.list (xs:=(w.map (·.1)).map V.str) (λj qs O=>Same H8 O/\∃(as:List Addr)(G:List (Str × Int)),qs=as.map V.ref/\as.length=G.length/\(∀(i:Nat)(a:Addr)(p:Str × Int),as[i]?=some a->G[i]?=some p->O a=some (.tup [.str p.1, .int p.2]))/\G.map (·.1)=(w.map (·.1)).take j/\∀ y∈G, ∃ p∈ls,p.nm=y.1/\p.wt=y.2) ⟨Same.refl _,[],[],rfl,rfl,(λi a p h=>by simp at h),rfl,(λy R=>by cases R)⟩ (λj qs O hj z=>by
    let(z1,as,G,rfl,r,_,d,_):=z;have:=congrArg List.length d;rw[length_map,length_take,length_map]at this;show(SqL.of (z1 _ _ e8),by rw[length_map];ac_nf)) ?_ ?_⟩)
   .rintro j y' qs H9 S ⟨S9,as,G,rfl,b6,c0,o,c6⟩;have lj:=(List.getElem?_eq_some_iff.mp S).1;rw[length_map]at lj;rw[List.getElem?_map,List.getElem?_eq_getElem lj]at S;obtain⟨n,hn⟩:∃ n,n=(w.map (·.1))[j]:=⟨_,rfl⟩;rw[<- hn]at S;have S:y'=.str n:=(Option.some.inj S).symm;subst S;have i0:n∈ls.map (·.nm):=g4 n (by rw[hn];show List.getElem_mem lj);let(p,v',i9,j1,hv,j2):=hB.some (z:=n) i0;simpa only[length_singleton,length_cons,length_nil,List.replicate,Jaz,map_cons,map_nil,Option.join_some];show(wd,_,rfl,by rw[<- hv];show DGet.k (k:=Sum.inr n) (S9 _ _ d6),?_);rw[j2];show(by show 2<=sizeLine;ac_nf,?_);rename_i t k5 k6 H9 d9 U c1;cbv;show(S9.trans U,as++[t],G++[(n,p.wt)],by simp,by simp[b6],λi' a' p' r d=>?_,?_,λy R=>?_)
    .rcases Ja1 r with r | ⟨q1,q2⟩
     .rcases Ja1 d with d | ⟨q3,q4⟩
      .show U _ _ (c0 i' a' p' r d)
      .have:=(List.getElem?_eq_some_iff.mp r).1;ac_nf
     .rcases Ja1 d with d | ⟨q3,q4⟩
      .have:=(List.getElem?_eq_some_iff.mp d).1;ac_nf
      .rw[q2,q4];show c1
    .rw[map_append,o,take_succ,List.getElem?_eq_getElem lj, <- hn];rfl
    .rcases mem_append.mp R with R | R
     .show c6 y R
     .rw[mem_singleton.mp R];show(p,i9,j1,rfl)
   .rintro qs H9 ⟨S9,as,G,rfl,b6,c0,o,c6⟩;rw[length_map,take_of_length_le (Nat.le_refl _)]at o;have k9:G.length<=12:=by have:=congrArg List.length o;rw[length_map,length_map]at this;ac_nf
    have d8:(G.map (·.1)).Nodup:=by rw[o];show c7
    rename_i ql j6 j8 H9 d9 U c1;cbv;show(ql,as,G.map λp=>(p.1,V.int p.2),rfl,c1,by rw[length_map];show b6,λi' a' p' r d=>?_,?_)
    .rw[List.getElem?_map]at d;let(h6,h3,rfl):=Option.map_eq_some_iff.mp d;show U _ _ (c0 i' a' h6 r h3)
    have g9:JdN (G.map λp=>(p.1,V.int p.2))=wsK G:=by
     rw[JiP (by rw[map_map];show d8),map_map];rfl
    rw[g9];rename_i od b5 j7 d9 l2 i6 d7;cbv;have b4:=S9.trans (U.trans i6);have B:=b7.trans b4;have d4:=C.trans B;have e9:=B _ _ Z;show(.inl ⟨rfl,_,SqL.of e9⟩,?_);show ixT (i:=0) (a4.same B) rfl ?_;show(sc,_,i2,_,rfl,d4 _ _ g3,rfl,rfl,?_);show(sc,v,roomF pl e.1,b,fs,rfl,f7.same d4,FrV.same (S8.trans b4) fv,rb.mono ⋯ ⋯,λpr t c3 b0 g6 hL=>?_);cbv;intro q dq hq h0 j9;have f0:Same c3 (upd (upd c3 dq (.own q)) q (.ins Ad.Lid dq [])):=λb u z=>by rw[Jag (Jai z hq),Jag (Jai z h0)];show z
    show(q,dq,od,e.1.nm, .ref pr,G,rfl,Jaj,f0 _ _ (b0 _ _ d7),λa8 f1 h5=>⟨rfl,?_⟩);have I:Same c3 a8:=λb u z=>by rw[h5 b (Jai z hq)];show f0 _ _ z
    have M:=B.trans (b0.trans I);have b3:=M _ _ Z;have a7:H6 q=none:=JcL (B.trans b0) hq;show(D,xs,_,rfl,rfl,b3,by ac_nf,?_);generalize a1:upd a8 D _=e3;cbv;have f5:=putE a1;have ec:cut D e3=cut D a8:=by rw[<- a1];show Jgs
    have e0:q≠D:=λz=>by rw[z,Z]at a7;cases a7
    have g8:od≠D:=λz=>by rw[z,(b7.trans (S9.trans U)) _ _ Z]at b5;cases b5
    show c4 _ _ ⟨li,h8,_,_,_,xs++[.ref q],L++[⟨e.1.nm,t,G,(G.map (·.2)).sum,(0,1)⟩],rfl,λc u a2 h=>by rw[<- a1,Jag a2];show M _ _ (W c u a2 h),f5,?_,?_,λv' J=>?_,by simp[c2],λj e' l' r d=>?_⟩
    .rw[ec];show(hX.mono (P':=LDV K Ad (cut D a8)) λ_ _ z=>z.same M.cut).append (.one ⟨q,dq, .ref pr, .ref Ad.ZERO,od,rfl,?_,?_,⟨Ad.ZERO,rfl,T.Bcr _⟩,?_⟩)
     .rw[JbM e0];show f1
     .show(FrV.of (I _ _ g6)).cut b3
     .rw[JbM g8];show I _ _ (b0 _ _ d7)
    .show nodup_append.mpr ⟨b8,by simp,λu hu v' J z=>?_⟩;rw[mem_singleton.mp J]at z;let(q',r,_,d):=b2 u hu;rw[r]at z;cases z;show d a7
    .have g7:∀ c,H6 c≠none->e3 c≠none:=λc h=>by
      by_cases cc:c=D
      .rw[cc,f5];intro y;cases y
      .cases hh:H6 c with
       | none=>show absurd hh h
       | some u=>rw[<- a1,Jag cc,M _ _ hh];intro y;cases y
     rcases mem_append.mp J with J | J
     .let(q',r,d,h3):=b2 v' J;show(q',r,d,g7 q' h3)
     .rw[mem_singleton.mp J];show(q,rfl,JcL C a7,by rw[<- a1,Jag e0,f1];intro y;cases y)
    .rcases Ja1 d with d | ⟨q1,q2⟩
     .show b9 j e' l' r d
     .rw[q1,c2,a6]at r;cases r;rw[q2];show(rfl,hL.vl rb.b1,(hL.fb rb sb).mono ⋯ ⋯,by rw[o];show(N.way e he w hw c7).symm,d8,c6,rfl,rfl)
  .rintro σ H6 ⟨hi,a9,v5,v6,v7,xs,L,rfl,W,Z,hX,b8,b2,c2,b9⟩;cbv;show k (λe he=>a9 e (by rw[take_of_length_le ∅];show he)) D xs L H6 (λc u h=>W c u (Jai h a0) (f2 _ _ h)) a0 Z (hX.mono λ_ _ z=>z.same Jdg) b8 (λv hv=>by let(q,r,d,_):=b2 v hv;show(q,r,d)) ∅ b9
abbrev BaF:Stmt:=top 36
theorem Jci:Jan ["thing","scale","told","part"] ["thing","scale"] (Jae BaF):=by bv_decide
def Jcl(K:W.Frag)(Ad:Adr):Sp:=λvs H Q E=>∃(x sc:Addr)(ls:List PD)(gs:List GD)(b:Int)(fs:List Int),vs=[.ref x, .ref sc]/\TK K Ad H x ls gs/\SCK Ad H sc b fs/\ls.length<=12/\(ls.map (·.nm)).Nodup/\(∀ p∈ls,FB 200 12 p.mo/\1<=p.wt/\Mth.Sz 21 p.wt)/\∀ md kv ms H',Same H H'->H md=none->H' md=some (.dK kv)->BG (·.1) (NFV K H') ms kv->ms.length=ls.length->(∀(i:Nat) p m,ls[i]?=some p->ms[i]?=some m->MSt b p m)->Q (.ref md) H'
theorem JeP(F:FunD K "most_levels" "most_levels" BaF dV f fd)(T:Txt K mg Ad)(Bak:MCal P w K mg base 2 "parts" (JaH Ad) ["self"] (JaG K Ad))(Ba6:MCal P w K mg base 2 "lifted" (Jc2 Ad) ["self","number"] (Jbe K Ad))(BcU:Cal P w K mg base 3 "over" ["one","other"] [] (JfK K Ad)):FnOk P w K mg base (CX1 P w) 4 f fd ["thing","scale"] (Jcl K Ad):=by
 show F.okn Jci (by subst_eqs) (λb2 A a0 s H vs Q E hr h=>?_)
 let(x,N,X,gs,b,fs,rfl,h):=h;have hu:=hr.units;show(_,(Jab (Jak 2 Jci.nd JbQ) (Jab (Ja2 PassesOwn.never rfl (pi_U (Bak.m0 hr ⋯ passF (pv 0))) (Jaq 3 Jci.nd) (Jah (Jcx (hu1 hu) (pv 2) (pe_ix ix_U (pv 3) Jad) (BcU.ev hr ⋯ rfl passF (Jaa (Ba6.m hr ⋯ passF (pv 1) (Jaa (pe_ix ix_U (pv 3) Jad) Jac)) (Jaa (JaJ (Jaa (pe_ix ix_U (pv 3) Jad) (Jaa Jad Jac))) Jac))) rfl))) (Jah (Jap (pv 2))))),?_)
 clear hu;let(ht,S,b0,a3,a1,k):=h;let(dx,d1,d2,d3,k1,k2,k3,hx,_):=id ht;let(a4,fl,W,_,G,sb,_):=id S;have sl:(1000:Nat)<=sizeLine:=by decide
 have b1:=G.b1;show tSeq _ _ _ [some (.ref x),some (.ref N),none,none] H;cbv;rename_i D n a8 H H1 S1 e1;cbv;show(x,_,dx,_,rfl,S1 _ _ hx,rfl,rfl,x,X,_,rfl,ht.same S1,by ac_nf,λl ys H2 S2 L e2 hY=>?_);have lY:=hY.length;have a6:l≠D:=λz=>by rw[z,e1]at L;cases L
 have I:=S1.trans S2;cbv;show(l,rfl,ForA.byLN (xs:=ys) (SqL.of e2) (λi σ O=>i<=ys.length/\∃(v3:Option V)(R:List (Key × V))(v:List (Str × Fr2)),σ=[some (.ref x),some (.ref N),some (.ref D),v3]/\(∀ c u,c≠D->H2 c=some u->O c=some u)/\SameT H2 O/\O D=some (.dK R)/\BG (·.1) (NFV K O) v R/\v.map (·.1)=(X.take i).map (·.nm)/\∀(j:Nat) p m,X[j]?=some p->v[j]?=some m->MSt b p m) ⟨Nat.zero_le _,none,[],[],rfl,λ_ _ _ h=>h,SameT.refl _,S2 _ _ e1,⟨rfl,rfl⟩,rfl,λj p m _ h=>by simp at h⟩ (λi σ O q=>by let(_,_,_,_,_,q,_):=q;show SqL.of (q _ _ a6 e2)) ?_ ?_)
 .rintro i y σ H3 hy ⟨hi,v3,R,v,rfl,Z,hT,r,hB,d,B⟩ N0 a5;have li:=(List.getElem?_eq_some_iff.mp hy).1;let(p,Y,b_,vz,vm,rfl,hb,_,hm):=hY.at_ hy;let(mb,w1,ws):=a1 p (List.mem_of_getElem? Y);have lB:=hB.length;have a2:v.length=i:=by have:=congrArg List.length d;rw[length_map,length_map,length_take]at this;ac_nf
  have C:=hb.sameT hT;have U:Same H H3:=λc u h=>Z c u (Jai h n) (I _ _ h);cbv;show(N,_,a4,_,rfl,U _ _ W,rfl,rfl,?_);show ixT (i:=4) C rfl ?_;show(N,vm,p.mo,b,fs,rfl,S.same U,hm.sameT hT,mb.mono ⋯ ⋯,λpr t H4 S4 e4 hL=>?_);cbv;show ixT (i:=5) (C.same S4) rfl ?_;cbv;show(len2,?_);rename_i wp a9 a7 H4 H5 S5 e5;cbv;have o:=hL.fb mb sb;show(.ref pr, .ref wp,_,_,p.wt,1,rfl,FrV.of (S5 _ _ e4),FrV.of e5,o.s1.mono ⋯,o.s2.mono ⋯,ws.mono ⋯, .lit ⋯ ⋯,o.b1,by decide,o.g1,by unfold Mth.g;simp,λz=>absurd z ∅,λ_ p2 H6 S6 e6=>?_);have e6:H6 p2=some (.tup [.int (divF t (p.wt,1)).1, .int (divF t (p.wt,1)).2]):=e6;have e:=S4.trans (S5.trans S6);cbv;show ixT (i:=0) (C.same e) rfl ?_;show(D,_,rfl,DPut.k (k:=Sum.inr p.nm) (e _ _ r) ∅,?_);generalize u7:upd H6 D _=H7;cbv;have e7:=putE u7;have T7:SameT H6 H7:=SameT.put u7 (e _ _ r) rfl;have M:SameT H3 H7:=e.t.trans T7;have nn:p.nm∉v.map (·.1):=by rw[d];show JgE a3 Y
  show a5 _ _ ⟨li,_,_,v++[(p.nm,divF t (p.wt,1))],rfl,λc u J h=>by rw[<- u7,Jag J];show e _ _ (Z c u J h),hT.trans M,e7,?_,?_,λj p' m' h1 h2=>?_⟩
  .show(hB.mono (P':=NFV K H7) λ_ _ z=>z.sameT M).new (a:=(p.nm,divF t (p.wt,1))) nn (FrV.of (T7 _ _ rfl e6))
  .rw[map_append,d,take_succ,Y,map_append];rfl
  .rcases Ja1 h2 with h2 | ⟨q1,q2⟩
   .show B j p' m' h1 h2
   .rw[q1,a2,Y]at h1;cases h1;rw[q2];have dl:=JkZ (a:=t) (c:=(p.wt,1)) o.b1 w1;show(rfl,?_,?_,?_,dl.b1,dl.g1)
    .show vl (divF t (p.wt,1))=_;rw[JkJ o.b1 w1 (Int.le_refl 1),Jgo,hL.vl mb.b1]
    .show Mth.Sz.top (by have:=Jcp o.b1 w1;show t.2*p.wt≠0;ac_nf) (by rw[Int.mul_one];show o.s1)
    .show(Mth.Sz.bot (t:=t.1*1) (b:=t.2*p.wt) (by have:=Jcp o.b1 w1;ac_nf) (o.s2.mul ws)).mono ⋯
 .rintro σ H3 ⟨hi,v3,R,v,rfl,Z,hT,r,hB,d,B⟩;rw[take_of_length_le ∅]at d;cbv;show k D R v H3 (λc u h=>Z c u (Jai h n) (I _ _ h)) n r hB (by simpa using congrArg List.length d) B
abbrev Bay:Stmt:=top 37
theorem Jb0:Jan ["mosts","lids","levels","stops","lid"] ["mosts","lids","levels"] (Jae Bay):=by bv_decide
def Jb3(K:W.Frag)(Ad:Adr):Sp:=λvs H Q E=>∃(md ll ld:Addr)(kvm:List (Key × V))(ms:List (Str × Fr2))(xs:List V)(lds:List LidD)(kvl:List (Key × V))(lvs:List (Str × Fr2)),vs=[.ref md, .ref ll, .ref ld]/\H md=some (.dK kvm)/\BG (·.1) (NFV K H) ms kvm/\H ll=some (.lst xs)/\All2 (LDV K Ad H) lds xs/\H ld=some (.dK kvl)/\BG (·.1) (NFV K H) lvs kvl/\ms.length<=12/\lds.length<=7/\(∀ e∈lds,FB 3000 1000 e.rest/\Mth.Sz 64 e.load/\e.ws.length<=12)/\(ms.map (·.1)).Nodup/\∀ sl ys H',Same H H'->H' sl=some (.lst ys)->All2 (StV K H') (stF ms lds (lvs.map (·.1))) ys->Q (.ref sl) H'
theorem Jem(F:FunD K "coming_stops" "coming_stops" Bay dV f fd)(T:Txt K mg Ad)(m_full_level:MCal P w K mg base 4 "full_level" (IsLid Ad) ["self"] (JbB K Ad)):FnOk P w K mg base (CX1 P w) 5 f fd ["mosts","lids","levels"] (Jb3 K Ad):=by
 show F.okn Jb0 (by subst_eqs) (λe0 A b8 s H vs Q E hr h=>?_)
 let(r,ll,ld,c,ms,xs,L,c6,a,rfl,h):=h;have hu:=hr.units;show(_,(Jab (JlE (Jev (j:=3) (own:=["name"]) (cs:=[(0,"mosts"),(2,"levels")]) Jb0.nd rfl (Or.inl rfl) rfl (JiS (pv 0)) (λ_ _ _ _=>(Jaq 0 (show[("name" : Str),("mosts" : Str),("levels" : Str)].Nodup by decide))) (λ_ _ _ _=>(Jew (Jdl (hu1 hu) (pv 0) (pv 2)) (by with_unfolding_all rfl))) (λ_ _ _ _=>(JaJ (Jaa (Jch (hu1 hu) (pv 1) (pv 0) (λ_ _=>rfl)) (Jaa (Jbc (Jaa (pv 0) Jac)) Jac)))) (Jd6 rfl) ⋯ rfl ⋯ (hcs2 rfl rfl rfl rfl rfl rfl))) (Jab (Ja2 PassesOwn.never rfl (pi_U (pv 1)) (Jaq 4 Jb0.nd) (Jah (ps_if (Jaw Jhm (Jar (pv 4) rfl) Jad (Jax _)) (Jah (Ja6 (pe_bm PySem.F.plainAttrs_list PySem.F.slot_list_append PySem.F.type_list_append Ja9 (pv 3) (Jaa (JaJ (Jaa (m_full_level.m0 hr ⋯ passF (pv 4)) (Jaa (JgR (JiQ (own:=["name"]) (cs:=[(2,"levels")]) rfl (JiS (Jar (pv 4) rfl)) (λ_ _ _ _=>(Jaq 0 (show[("name" : Str),("levels" : Str)].Nodup by decide))) (λ_ _ _ _=>(Jew (Jdl (hu1 hu) (pv 0) (pv 1)) (by with_unfolding_all rfl))) (λ_ _ _ _=>(pv 0)) (Jd6 rfl) ⋯ rfl ⋯ (hcs1 rfl rfl rfl))) Jac))) Jac) (hs:=by show Jaf rfl))))
   Jat))) (Jah (Jap (pv 3))))),?_)
 clear hu;let(hm,bm,hl,hX,hv,bl,b7,l7,d3,b6,k):=h;have sz:(1000:Nat)<=sizeLine:=by decide
 have lX:=hX.length;show tSeq _ _ _ [some (.ref r),some (.ref ll),some (.ref ld),none,none] H;mleave;show(r,c,hm,r,c,ms.map (·.1),rfl,hm,bm.keysS,λod=>?_);generalize uf:upd H r (.frz od (.dK c))=H1;mleave;have f1:H1 r=some (.frz od (.dK c)):=by rw[<- uf,Jaj]
 have t1:thw r c H1=H:=by rw[<- uf];show Jjj hm
 show JcK.keys (λi ys C=>C r=some (.frz od (.dK c))/\Same H (thw r c C)/\All2 (StV K (thw r c C)) (((ms.take i).filter λm=>decide (m.1∉a.map (·.1))).map λm=>(m.2,[m.1])) ys) ⟨f1,by rw[t1];show Same.refl _,rfl⟩ (λi ys C hi z=>⟨z.1,by
  have h1:=z.2.2.length;rw[length_map]at h1;have h2:=List.length_filter_le (λm:Str × Fr2=>decide (m.1∉a.map (·.1))) (ms.take i);rw[length_take]at h2;ac_nf⟩) ?_ ?_
 .rintro i z ys H2 hz ⟨J,Z,hA⟩;rw[List.getElem?_map]at hz;let(m,X,W):=Option.map_eq_some_iff.mp hz;have W:m.1=z:=W;subst W;have a9:=List.mem_of_getElem? X;simpa only[length_singleton,length_cons,length_nil,List.replicate,Jaz,map_cons,map_nil,Option.join_some];show(ld,_,rfl,Jjk (k:=Sum.inr m.1) J (Z _ _ hv),?_);rw[bl.val];by_cases g:m.1∈a.map (·.1)
  .rw[decide_eq_true g];mleave;show(J,Z,?_);rw[take_succ,X,filter_append,map_append];have : [m].filter (λm=>decide (m.1∉a.map (·.1)))=[]:=List.filter_eq_nil_iff.mpr λx D=>by rw[mem_singleton.mp D];simpa using g
   rw[show(some m).toList=[m]from rfl,this,map_nil,append_nil];show hA
  .rw[decide_eq_false g];mleave;let(a',v,b9,d1,d6,c5):=bm.some (z:=m.1) (mem_map.mpr ⟨m,a9,rfl⟩);have ea:=Jhg b6 b9 a9 d1;subst ea;show(r,v,rfl,by rw[<- d6];show DGet.f (k:=Sum.inr a'.1) J,?_);mleave;show(by show 1<=sizeLine;ac_nf,?_);rename_i l b1 d4 H2 H3 S3 e3;mleave;show(by show 2<=sizeLine;ac_nf,?_);rename_i t c3 c4 H3 H4 S4 e4;mleave;have a5:=S3.trans S4;have f4:=a5 _ _ J;have St:=JfN (d:=r) (kv:=c) a5;show(f4,Z.trans St,?_);rw[take_succ,X,filter_append,map_append];have : [a'].filter (λm=>decide (m.1∉a.map (·.1)))=[a']:=List.filter_eq_self.mpr λx D=>by rw[mem_singleton.mp D];simpa using g
   rw[show(some a').toList=[a']from rfl,this];show(hA.mono (P':=StV K (thw r c H4)) λ_ _ z=>z.same St).append (.one ⟨t,v,l,rfl,SqT.of (Jhv f4 e4 (by intro o w z;cases z)),FrV.same (Z.trans St) c5,Jhv f4 (S4 _ _ e3) (by intro o w z;cases z)⟩)
 .rintro ys H2 ⟨J,Z,hA⟩;rw[length_map,take_of_length_le (Nat.le_refl _)]at hA;rename_i B O d7 H2 H3 S3 e3;mleave;show(od,c,S3 _ _ J,?_);obtain⟨H4,a2⟩:∃ H4,H4=thw r c H3:=⟨_,rfl⟩;rw[show upd H3 r (.dK c)=H4 from a2.symm];mleave;have St:=JfN (d:=r) (kv:=c) S3;rw[<- a2]at St;have b3:=Z.trans St;have e4:H4 B=some (.lst ys):=by rw[a2];show Jhv (S3 _ _ J) e3 (by intro o w z;cases z)
  have N:H B=none:=JcL Z (JfM J O);have d0:All2 (StV K (cut B H4)) ((ms.filter λm=>decide (m.1∉a.map (·.1))).map λm=>(m.2,[m.1])) ys:=hA.mono λ_ _ z=>z.same λb u h=>by
   rw[JbM (λy=>by rw[y,JfM J O]at h;cases h)];show St b u h
  have d8:(ms.filter λm=>decide (m.1∉a.map (·.1))).length<=12:=Nat.le_trans (List.length_filter_le _ _) b7;have e2:ll≠B:=λz=>by rw[z,N]at hl;cases hl
  show(ll,rfl,ForA.byLN (xs:=xs) (SqL.of (b3 _ _ hl)) (λi σ C=>i<=xs.length/\∃(v4:Option V)(R:List V)(st:List (Fr2 × List Str)),σ=[some (.ref r),some (.ref ll),some (.ref ld),some (.ref B),v4]/\Same H C/\C B=some (.lst R)/\All2 (StV K (cut B C)) st R/\st.length<=12+i/\st=(ms.filter λm=>decide (m.1∉a.map (·.1))).map (λm=>(m.2,[m.1]))++((L.take i).filter λe=>decide (0<e.load)).map λe=>(divF e.rest (e.load,1),(e.ws.map (·.1)).filter λn=>decide (n∉a.map (·.1)))) ⟨Nat.zero_le _,none,ys,_,rfl,b3,e4,d0,by rw[length_map];ac_nf,by rw[take_zero];simp⟩ (λi σ C q=>by let(_,_,_,_,_,q,_):=q;show SqL.of (q _ _ hl)) ?_ ?_)
  .rintro i y σ H5 hy ⟨hi,v4,R,st,rfl,S5,ez,hZ,d2,G⟩ N0 b0;have li:=(List.getElem?_eq_some_iff.mp hy).1;let(e,a8,hd):=hX.at_ hy;have c2:=List.mem_of_getElem? a8;let(d5,c7,d9):=d3 e c2;have b5:=hd.same S5;let(q,dx,vr,vt,M,rfl,hq,hr,e1,hw):=id b5;have tc:=T.c_Lid Ad.Lid rfl;have lZ:=hZ.length;mleave;show(q,_,dx,_, .int e.load,rfl,hq,tc.cls,tc.n4,rfl,?_);mleave;have b4:L.take (i+1)=L.take i++[e]:=by rw[take_succ,a8];rfl
   by_cases c0:0<e.load
   .rw[if_pos (by simpa using c0)];mleave;show(.inl ⟨rfl,_,SqL.of ez⟩,?_);show(q,_,dx,_,rfl,hq,rfl,rfl,?_);show(q,e,rfl,b5,d5,by ac_nf,c7,λp H6 S6 e6=>?_);mleave;have a3:=S6 _ _ hw;show(M,_,a3,q,_,dx,_, .ref M,rfl,S6 _ _ hq,tc.cls,tc.n3,rfl,M,wsK e.ws,e.ws.map (·.1),rfl,a3,Jkc e.ws,λa4=>?_);generalize ug:upd H6 M (.frz a4 (.dK (wsK e.ws)))=H7;mleave;have f7:H7 M=some (.frz a4 (.dK (wsK e.ws))):=by rw[<- ug,Jaj]
    have t7:thw M (wsK e.ws) H7=H6:=by rw[<- ug];show Jjj a3
    have c8:=S5.trans S6;show JcK.keys (λj qs C=>C=H7/\qs=(((e.ws.map (·.1)).take j).filter λn=>decide (n∉a.map (·.1))).map V.str) ⟨rfl,by rw[take_zero];rfl⟩ (λj qs C hj z=>⟨by rw[z.1];show f7,by
     rw[z.2,length_map];have h2:=List.length_filter_le (λn:Str=>decide (n∉a.map (·.1))) ((e.ws.map (·.1)).take j);rw[length_take,length_map]at h2;ac_nf⟩) ?_ ?_
    .rintro j z qs H8 hz ⟨a0,I⟩;subst a0;subst I;simpa only[length_singleton,length_cons,length_nil,List.replicate,Jaz,map_cons,map_nil,Option.join_some];show(ld,_,rfl,Jjk (k:=Sum.inr z) f7 (by rw[t7];show c8 _ _ hv),?_);rw[bl.val];have b2:(e.ws.map (·.1)).take (j+1)=(e.ws.map (·.1)).take j++[z]:=by rw[take_succ,hz];rfl
     by_cases g:z∈a.map (·.1)
     .rw[decide_eq_true g];mleave;rw[b2,filter_append,show[z].filter (λn=>decide (n∉a.map (·.1)))=[]from List.filter_eq_nil_iff.mpr λx D=>by rw[mem_singleton.mp D];simpa using g,append_nil]
     .rw[decide_eq_false g];mleave;rw[b2,filter_append,show[z].filter (λn=>decide (n∉a.map (·.1)))=[z]from List.filter_eq_self.mpr λx D=>by rw[mem_singleton.mp D];simpa using g,map_append];rfl
    .rintro qs H8 ⟨a0,I⟩;subst a0;rw[take_of_length_le (Nat.le_refl _)]at I;subst I;rename_i l b1 d4 H8 H9 S9 e9;mleave;show(a4,_,S9 _ _ f7,?_);obtain⟨HA,S⟩:∃ HA,HA=thw M (wsK e.ws) H9:=⟨_,rfl⟩;rw[show upd H9 M (.dK (wsK e.ws))=HA from S.symm];have Su:=JfN (d:=M) (kv:=wsK e.ws) S9;rw[t7, <- S]at Su;have eA:HA l=some (.lst (((e.ws.map (·.1)).filter λn=>decide (n∉a.map (·.1))).map V.str)):=by rw[S];show Jhv (S9 _ _ f7) e9 (by intro o w z;cases z)
     mleave;show(len2,?_);rename_i t c3 c4 HA HB SB eB;mleave;have U:=S6.trans (Su.trans SB);have a1:=U _ _ ez;show(B,R,_,rfl,rfl,a1,by ac_nf,?_);generalize Y:upd HB B _=c9;mleave;have c1:=putE Y;have ec:cut B c9=cut B HB:=by rw[<- Y];show Jgs
     have a6:H6 l=none:=by rw[<- t7];show JfM f7 b1
     have a7:l≠B:=λz=>by rw[z,S6 _ _ ez]at a6;cases a6
     show b0 _ _ ⟨li,_,R++[.ref t],st++[(divF e.rest (e.load,1),(e.ws.map (·.1)).filter λn=>decide (n∉a.map (·.1)))],rfl,λb u h=>by rw[<- Y,Jag (Jai h N)];show U _ _ (S5 _ _ h),c1,?_,by simp;ac_nf,?_⟩
     .rw[ec];show(hZ.mono (P':=StV K (cut B HB)) λ_ _ z=>z.same U.cut).append (.one ⟨t, .ref p,l,rfl,SqT.cut a1 (SqT.of eB),FrV.cut a1 (FrV.of (SB _ _ (Su _ _ e6))),?_⟩);rw[JbM a7];show SB _ _ eA
     .rw[G,b4,filter_append,show[e].filter (λe=>decide (0<e.load))=[e]from List.filter_eq_self.mpr λx D=>by rw[mem_singleton.mp D];simpa using c0,map_append, <- List.append_assoc];rfl
   .rw[if_neg (by simpa using c0)];mleave;show b0 _ _ ⟨li,_,R,st,rfl,S5,ez,hZ,by ac_nf,?_⟩;rw[G,b4,filter_append,show[e].filter (λe=>decide (0<e.load))=[]from List.filter_eq_nil_iff.mpr λx D=>by rw[mem_singleton.mp D];simpa using c0,append_nil]
  .rintro σ H5 ⟨hi,v4,R,st,rfl,S5,ez,hZ,d2,G⟩;rw[take_of_length_le ∅]at G;mleave;show k B R H5 S5 ez ?_;unfold stF;rw[<- G];show hZ.mono λ_ _ z=>z.cut
abbrev BaG:Stmt:=top 38
theorem JbE:Jan ["stops","found","stop"] ["stops"] (Jae BaG):=by bv_decide
def Jck(K:W.Frag):Sp:=λvs H Q E=>∃(sl:Addr)(ys:List V)(st:List (Fr2 × List Str)),vs=[.ref sl]/\SqL K H sl ys/\All2 (StV K H) st ys/\st≠[]/\(∀ s∈st,FB 3000 1200 s.1)/\∀ v (L:Fr2),L∈st.map (·.1)->(∀ s∈st,vl L<=vl s.1)->FrV K H v L.1 L.2->Q v H
theorem JeM(F:FunD K "first_level" "first_level" BaG dV f fd)(T:Txt K mg Ad)(Baj:Cal P w K mg base 1 "under" ["one","other"] [] (JbV K)):FnOk P w K mg base (CX1 P w) 2 f fd ["stops"] (Jck K):=by
 show F.okn JbE (by subst_eqs) (λa1 A I s H vs Q E hr h=>?_)
 let(p,O,G,rfl,h):=h;show(_,(Jab (Jak 1 JbE.nd (pe_ix ix_U (pe_ix ix_U (pv 0) Jad) Jad)) (Jab (Ja2 PassesOwn.never rfl (pi_U (pv 0)) (Jaq 2 JbE.nd) (Jah (ps_if (Jba (Baj.ev hr ⋯ rfl passF (Jaa (pe_ix ix_U (pv 2) Jad) (Jaa (pv 1) Jac)))) (Jah (Jak 1 JbE.nd (pe_ix ix_U (pv 2) Jad)))
   Jat))) (Jah (Jap (pv 1))))),?_)
 let(J,D,Y,n,k):=h;have lA:=D.length;obtain⟨g,r,rfl⟩:∃ g r,G=g::r:=by cases G with | nil=>show absurd rfl Y | cons a b=>show(a,b,rfl)
 let(y0,R,t0,v0,l0,rfl,N,X,_):=D.get (i:=0) rfl;show tSeq _ _ _ [some (.ref p),none,none] H;cbv;show ixL (i:=0) J R ?_;cbv;show ixT (i:=0) N rfl ?_;cbv;show(p,rfl,ForA.byLN (xs:=O) J (λi σ u=>i<=O.length/\u=H/\∃(v:V)(L:Fr2)(C:Option V),σ=[some (.ref p),some v,C]/\FrV K H v L.1 L.2/\L∈(g::r).map (·.1)/\∀ s∈(g::r).take i,vl L<=vl s.1) ⟨Nat.zero_le _,rfl,v0,g.1,none,rfl,X,by simp,(λs o=>by simp at o)⟩ (λi σ u q=>by rw[q.2.1];show J) ?_ ?_)
 .rintro i y σ u hy ⟨hi,rfl,v,L,C,rfl,B,x,d⟩ N0 m;have li:=(List.getElem?_eq_some_iff.mp hy).1;let(s,o,t,w,l,rfl,ht,hw,_):=D.at_ hy;have Z:=n s (List.mem_of_getElem? o);let(sL,a0,S):=mem_map.mp x;have M:FB 3000 1200 L:=S ▸ n sL a0;have j:(g::r).take (i+1)=(g::r).take i++[s]:=by rw[take_succ,o];rfl
  have W:=Jcm (a:=s.1) (c:=L) Z.b1 M.b1;unfold lessF at W;cbv;show ixT (i:=0) ht rfl ?_;show(w,v,_,_,_,_,rfl,hw,B,Z.s1.mono ⋯,Z.s2.mono ⋯,M.s1.mono ⋯,M.s2.mono ⋯,?_);cbv;by_cases c:decide (s.1.1*L.2<L.1*s.1.2)=true
  .rw[if_pos c];cbv;show ixT (i:=0) ht rfl ?_;cbv;have lt:=W.mp c;show m _ _ ⟨li,rfl,w,s.1,_,rfl,hw,mem_map.mpr ⟨s,List.mem_of_getElem? o,rfl⟩,λU e=>?_⟩;rw[j]at e;rcases mem_append.mp e with h | h
   .show Rat.le_trans (Rat.le_of_lt lt) (d U h)
   .rw[mem_singleton.mp h];show Rat.le_refl
  .rw[if_neg c];cbv;show m _ _ ⟨li,rfl,v,L,_,rfl,B,x,λU e=>?_⟩;rw[j]at e;rcases mem_append.mp e with h | h
   .show d U h
   .rw[mem_singleton.mp h];show Rat.not_lt.mp λz=>c (W.mpr z)
 .rintro σ u ⟨hi,rfl,v,L,C,rfl,B,x,d⟩;rw[take_of_length_le ∅]at d;cbv;show k v L x d B
abbrev BaQ:Stmt:=top 39
theorem JbS:Jan ["stops","level","names","stop","name"] ["stops","level"] (Jae BaQ):=by bv_decide
def JcH(K:W.Frag):Sp:=λvs H Q E=>∃(sl:Addr)(lv:V)(ys:List V)(st:List (Fr2 × List Str))(L:Fr2)(N:List Str),vs=[.ref sl,lv]/\SqL K H sl ys/\All2 (StV K H) st ys/\FrV K H lv L.1 L.2/\N.length<=20/\(∀ s∈st, ∀ n∈s.2,n∈N)/\∀(l:Addr)(ns:List Str)(H':Hp),Same H H'->H' l=some (.lst (ns.map V.str))->ns.Nodup->(∀ n,n∈ns↔∃ s∈st,s.1=L/\n∈s.2)->Q (.ref l) H'
theorem Jft(F:FunD K "stopped_at" "stopped_at" BaQ dV f fd)(T:Txt K mg Ad)  : FnOk P w K mg base (CX1 P w) 1 f fd ["stops","level"] (JcH K):=by
 show F.okn JbS (by subst_eqs) (λa6 A a2 s H vs Q E hr h=>?_)
 let(sl,lv,ys,st,L,N,rfl,h):=h;have W:=hr.units;show(_,(Jab (Jak 2 JbS.nd JbQ) (Jab (Ja2 PassesOwn.never rfl (pi_U (pv 0)) (Jaq 3 JbS.nd) (Jah (ps_if (Jaw (JcN W) (pe_ix ix_U (pv 3) Jad) (pv 1) (Jax _)) (Jah (Ja2 PassesOwn.never rfl (pi_U (pe_ix ix_U (pv 3) Jad)) (Jaq 4 JbS.nd) (Jah (Jcx (hu1 W) (pv 2) (pv 4) pe_bl rfl))))
   Jat))) (Jah (Jap (Jdm (JhE rfl) rfl T.Bd2 Jh8 (Jaa (pv 2) Jac)))))),?_)
 clear W;let(hS,hA,hL,a5,hN,k):=h;have sz:(1000:Nat)<=sizeLine:=by decide
 have lA:=hA.length;show tSeq _ _ _ [some (.ref sl),some lv,none,none,none] H;cbv;rename_i R O a4 H H1 S1 e1;cbv;show(sl,rfl,ForA.byLN (xs:=ys) (hS.same S1) (λi σ U=>i<=ys.length/\∃(v3 M:Option V)(B:List (Key × V))(r:List Str),σ=[some (.ref sl),some lv,some (.ref R),v3,M]/\Same H U/\U R=some (.dK B)/\B.map (·.1)=r.map Sum.inr/\r.Nodup/\∀ n,n∈r↔∃ s∈st.take i,s.1=L/\n∈s.2) ⟨Nat.zero_le _,none,none,[],[],rfl,S1,e1,rfl, .nil,λn=>by simp⟩ (λi σ U q=>by let(_,_,_,_,_,_,q,_):=q;show hS.same q) ?_ ?_)
 .rintro i y σ H2 hy ⟨hi,v3,M,B,r,rfl,D,e2,hk,G,d⟩ N0 a0;have li:=(List.getElem?_eq_some_iff.mp hy).1;let(s,hs,t,w,l,rfl,ht,hw,hl):=hA.at_ hy;have a3:=List.mem_of_getElem? hs;have a1:st.take (i+1)=st.take i++[s]:=by rw[take_succ,hs];rfl
  cbv;show ixT (i:=0) (ht.same D) rfl ?_;show eqF (hw.same D) (hL.same D) ?_;have ee:(decide (s.1.1=L.1)&&decide (s.1.2=L.2))=decide (s.1=L):=by
   rw[<- Bool.decide_and];show decide_eq_decide.mpr Prod.ext_iff.symm
  rw[ee];cbv;by_cases c:s.1=L
  .rw[if_pos (by simpa using c)];cbv;show ixT (i:=1) (ht.same D) rfl ?_;cbv;have a7:l≠R:=Jai hl O;show(l,rfl,ForA.byLN (xs:=s.2.map V.str) (SqL.of (D _ _ hl)) (λj σ U=>j<=(s.2.map V.str).length/\∃(M:Option V)(B:List (Key × V))(ns':List Str),σ=[some (.ref sl),some lv,some (.ref R),some (.ref t),M]/\Same H U/\U R=some (.dK B)/\B.map (·.1)=ns'.map Sum.inr/\ns'.Nodup/\∀ n,n∈ns'↔n∈r\/n∈s.2.take j) ⟨Nat.zero_le _,M,B,r,rfl,D,e2,hk,G,λn=>by simp⟩ (λj σ U q=>by let(_,_,_,_,_,q,_):=q;show SqL.of (q _ _ hl)) ?_ ?_)
   .rintro j z σ H3 hz ⟨hj,M,C,g,rfl,S3,Z,o,m,a⟩ N1 X;have lj:=(List.getElem?_eq_some_iff.mp hz).1;rw[List.getElem?_map]at hz;let(n,hn,rfl):=Option.map_eq_some_iff.mp hz;have lk:C.length=g.length:=by simpa using congrArg List.length o
    have lN:g.length<=N.length:=sub_len g N m λx hx=>by
     rcases(a x).mp hx with h | h
     .let(I,e,_,p):=(d x).mp h;show hN I (List.mem_of_mem_take e) x p
     .show hN s a3 x (List.mem_of_mem_take h)
    cbv;show(R,_,rfl,DPut.k (k:=Sum.inr n) Z ∅,?_);generalize u4:upd H3 R _=H4;cbv;have e4:=putE u4;have Y:s.2.take (j+1)=s.2.take j++[n]:=by rw[take_succ,hn];rfl
    have S4:Same H H4:=λb u h=>by rw[<- u4,Jag (Jai h O)];show S3 _ _ h
    have S:=Jiy (kvs:=C) (k:=Sum.inr n);rw[o]at S;by_cases cn:n∈g
    .show X _ _ ⟨lj,_,_,g,rfl,S4,e4,?_,m,λx=>?_⟩
     .rw[Jiz,if_pos (S.mpr (mem_map.mpr ⟨n,cn,rfl⟩))];show o
     .rw[a x,Y,mem_append,mem_singleton];show(λh=>h.elim .inl λh=>.inr (.inl h),λh=>?_);rcases h with h | h | h
      .show .inl h
      .show .inr h
      .rw[h];show(a n).mp cn
    .show X _ _ ⟨lj,_,_,g++[n],rfl,S4,e4,?_,?_,λx=>?_⟩
     .rw[Jiz,if_neg (λz=>cn (by let(q,hq,eq):=mem_map.mp (S.mp z);have eq:q=n:=(by injection eq);show eq ▸ hq)),o,map_append];rfl
     .show nodup_append.mpr ⟨m,by simp,λu W v hv z=>cn (by rw[mem_singleton.mp hv]at z;rw[<- z];show W)⟩
     .rw[mem_append,mem_singleton,a x,Y,mem_append,mem_singleton];grind
   .rintro σ H3 ⟨hj,M,C,g,rfl,S3,Z,o,m,a⟩;rw[length_map,take_of_length_le (Nat.le_refl _)]at a;show a0 _ _ ⟨li,_,_,C,g,rfl,S3,Z,o,m,λn=>?_⟩;rw[a n,d n,a1];constructor
    .rintro(⟨I,e,p,J⟩ | h)
     .show(I,mem_append.mpr (.inl e),p,J)
     .show(s,mem_append.mpr (.inr (by simp)),c,h)
    .rintro⟨I,e,p,J⟩;rcases mem_append.mp e with e | e
     .show .inl ⟨I,e,p,J⟩
     .rw[mem_singleton.mp e]at J;show .inr J
  .rw[if_neg (by simpa using c)];cbv;show a0 _ _ ⟨li,_,_,B,r,rfl,D,e2,hk,G,λn=>?_⟩;rw[d n,a1];constructor
   .rintro⟨I,e,p,J⟩;show(I,mem_append.mpr (.inl e),p,J)
   .rintro⟨I,e,p,J⟩;rcases mem_append.mp e with e | e
    .show(I,e,p,J)
    .rw[mem_singleton.mp e]at p;show absurd p c
 .rintro σ H2 ⟨hi,v3,M,B,r,rfl,D,e2,hk,G,d⟩;rw[take_of_length_le ∅]at d;cbv;show(R,B,r,rfl,e2,hk,?_);rename_i l a8 a9 H2 H3 S3 Z;cbv;show k l r H3 (D.trans S3) Z G d
abbrev Baz:Stmt:=top 40
theorem Ja4:Jan ["mosts","lids","levels","stops","level","name","lid"] ["mosts","lids"] (Jae Baz):=by bv_decide
def Jb5(K:W.Frag)(Ad:Adr):Sp:=λvs H Q E=>∃(md ll:Addr)(kvm:List (Key × V))(ms:List (Str × Fr2))(xs:List V)(lds:List LidD)(b q0:Int)(N:List Str)(w M:Str->Rat)(gs:List Gp),vs=[.ref md, .ref ll]/\H md=some (.dK kvm)/\BG (·.1) (NFV K H) ms kvm/\H ll=some (.lst xs)/\All2 (LDV K Ad H) lds xs/\xs.Nodup/\lds.length<=7/\RC b q0 N w M gs ms/\RSt b N w M gs [] lds/\∀(ld:Addr)(kv:List (Key × V))(lvs:List (Str × Fr2))(lds':List LidD)(H':Hp),(∀ a u,V.ref a∉xs->H a=some u->H' a=some u)->H ld=none->H' ld=some (.dK kv)->BG (·.1) (NFV K H') lvs kv->All2 (LDV K Ad H') lds' xs->RSt b N w M gs lvs lds'->N.length<=lvs.length->lds'.map (·.nm)=lds.map (·.nm)->Q (.ref ld) H'
theorem Jen(F:FunD K "risen_levels" "risen_levels" Baz dV f fd)(T:Txt K mg Ad)(Bbu:Cal P w K mg base 5 "coming_stops" ["mosts","lids","levels"] [] (Jb3 K Ad))(BbH:Cal P w K mg base 2 "first_level" ["stops"] [] (Jck K))(BbQ:Cal P w K mg base 1 "stopped_at" ["stops","level"] [] (JcH K))(m_settle:MCal P w K mg base 4 "settle" (IsLid Ad) ["self","part","level"] (JcA K Ad)):FnOk P w K mg base (CX1 P w) 7 f fd ["mosts","lids"] (Jb5 K Ad):=by
 show F.okn Ja4 (by subst_eqs) (λf7 A c5 s H vs Q E hr h=>?_)
 let(md,Z,R,ms,xs,G,b,q0,N,w,M,gs,rfl,h):=h;have hu:=hr.units;show(_,(Jab (Jak 2 Ja4.nd JbQ) (Jab (JdZ PassesOwn.never (Jaw Jep (Jay JfU rfl T.Bb5 Jb6 (Jaa (pv 2) Jac)) (Jay JfU rfl T.Bb5 Jb6 (Jaa (pv 0) Jac)) (Jax _)) (Jab (Jak 3 Ja4.nd (Bbu.ev hr ⋯ rfl passF (Jaa (pv 0) (Jaa (pv 1) (Jaa (pv 2) Jac))))) (Jab (Jak 4 Ja4.nd (BbH.ev hr ⋯ rfl passF (Jaa (pv 3) Jac))) (Jah (Ja2 PassesOwn.never rfl (pi_U (BbQ.ev hr ⋯ rfl passF (Jaa (pv 3) (Jaa (pv 4) Jac)))) (Jaq 5 Ja4.nd) (Jab (Jcx (hu1 hu) (pv 2) (pv 5) (pv 4) rfl) (Jah (Ja2 PassesOwn.never rfl (pi_U (pv 1)) (Jaq 6 Ja4.nd) (Jah (Ja6 (m_settle.m hr ⋯ passF (pv 6) (Jaa (pv 5) (Jaa (pv 4) Jac))))))))))))) (Jah (Jap (pv 2))))),?_)
 clear hu;let(hm,bm,hl,hX,c6,l7,U,c9,k):=h;show tSeq _ _ _ [some (.ref md),some (.ref Z),none,none,none,none,none] H;cbv;rename_i g W f5 H H1 S1 e1;cbv;show(λm σ C=>∃(v3 v4 v5 v6:Option V)(kv:List (Key × V))(d:List (Str × Fr2))(o:List LidD),σ=[some (.ref md),some (.ref Z),some (.ref g),v3,v4,v5,v6]/\(∀ a u,V.ref a∉xs->H a=some u->C a=some u)/\C g=some (.dK kv)/\BG (·.1) (NFV K C) d kv/\All2 (LDV K Ad (cut g C)) o xs/\RSt b N w M gs d o/\o.map (·.nm)=G.map (·.nm)/\m=N.length-d.length,⟨_,none,none,none,none,[],[],G,rfl,λa u _ h=>S1 _ _ h,e1,⟨rfl,rfl⟩,hX.mono λ_ _ h=>h.same (Same.cutN S1 W),c9,rfl,rfl⟩,?_);rintro m σ H2 ⟨v3,v4,v5,v6,kv,d,o,rfl,S2,e2,b2,a9,st,b7,rfl⟩;have x2:All2 (LDV K Ad H2) o xs:=a9.mono λ_ _ z=>z.same Jdg;cbv;have f6:=U.l12;have b8:=S2 md _ (LDV.notin hX hm (λ_ _ z=>by cases z)) hm;have S:=S2 Z _ (LDV.notin hX hl (λ_ _ z=>by cases z)) hl;have T2:SameT H H2:=λc u t h=>S2 c u (LDV.notin hX h (λ_ _ z=>by rw[z]at t;simp[isTF]at t)) h;have d5:BG (·.1) (NFV K H2) ms R:=bm.mono λ_ _ z=>z.sameT T2;have lk:=b2.length;have lm:=bm.length;have lN:ms.length=N.length:=by rw[<- U.nm,length_map]
 have sz:(1000:Nat)<=sizeLine:=by decide
 have g0:=hX.length;have g2:=x2.length;show(g,kv,rfl,e2,md,R,rfl,b8,?_);cbv;by_cases c:d.length<N.length
 .rw[if_pos (by simpa using(by ac_nf:kv.length<R.length))];cbv;show(_,λσ' C h=>h,?_);cbv;show(md,Z,g,R,ms,xs,o,kv,d,rfl,b8,d5,S,x2,e2,b2,by ac_nf,by ac_nf,st.lids U,by rw[U.nm];show U.nd,λsl ys H3 S3 e3 hY=>?_);cbv;have x:=st.stops U;show(sl,ys,_,rfl,SqL.of e3,hY,st.some U c,λs hs=>⟨(x s hs).1.s1,(x s hs).1.s2.mono ⋯,(x s hs).1.b1,(x s hs).1.g1⟩,λv L hL c0 hv=>?_);cbv;show(sl,v,ys,_,L,N,rfl,SqL.of e3,hY,hv,by ac_nf,λs hs n hn=>((x s hs).2 n hn).1,λl O H4 S4 e4 b4 c7=>?_);let(f1,f0,d1,D,d4):=st.first U c hL c0 b4 c7;have I:=S3.trans S4;have x4:All2 (LDV K Ad H4) o xs:=x2.mono λ_ _ z=>z.same I;have a1:=I _ _ e2;have f4:l≠g:=λz=>by rw[z,a1]at e4;cases e4
  have f3:=LDV.notin x4 e4 (λ_ _ z=>by cases z);have a5:=LDV.notin x4 a1 (λ_ _ z=>by cases z);have c4:Z≠g:=λz=>by rw[z,e2]at S;cases S
  have a3:=LDV.notin x2 S (λ_ _ z=>by cases z);have f2:=hv.same S4;cbv;show(l,rfl,ForA.byLN (xs:=O.map V.str) (SqL.of e4) (λi σ C=>i<=(O.map V.str).length/\∃(v5 v6:Option V)(kv':List (Key × V))(lds':List LidD),σ=[some (.ref md),some (.ref Z),some (.ref g),some (.ref sl),some v,v5,v6]/\(∀ a u,V.ref a∉xs->a≠g->H4 a=some u->C a=some u)/\C g=some (.dK kv')/\BG (·.1) (NFV K C) (d++(O.take i).map λn=>(n,L)) kv'/\All2 (LDV K Ad (cut g C)) lds' xs/\RMd b N w M gs L D (d.length+1) (d++(O.take i).map λn=>(n,L)) lds'/\lds'.map (·.nm)=G.map (·.nm)) ⟨Nat.zero_le _,v5,v6,kv,o,rfl,λ_ _ _ _ h=>h,a1,by rw[take_zero,map_nil,append_nil];show b2.mono λ_ _ z=>z.sameT λc u _ h=>I _ _ h,a9.mono (λ_ _ z=>z.same I.cut),by rw[take_zero,map_nil,append_nil];show d4,b7⟩ (λi σ C q=>by let(_,_,_,_,_,_,q,_):=q;show SqL.of (q _ _ f3 f4 e4)) ?_ ?_)
  .rintro i y σ H5 hy ⟨hi,d6,b9,a6,p,rfl,S5,e5,b5,J,B,Y⟩ N0 d7;have li:=(List.getElem?_eq_some_iff.mp hy).1;rw[length_map]at li;rw[List.getElem?_map]at hy;let(n,hn,rfl):=Option.map_eq_some_iff.mp hy;have e9:=List.mem_of_getElem? hn;have hN:=f0 n e9;have d2:O.take (i+1)=O.take i++[n]:=by rw[take_succ,hn];rfl
   have a4:(d++(O.take (i+1)).map λn=>(n,L))=(d++(O.take i).map λn=>(n,L))++[(n,L)]:=by rw[d2,map_append, <- List.append_assoc];rfl
   have hS:n∉(d++(O.take i).map λn=>(n,L)).map (·.1):=by
    rw[Jbl];intro z;rcases mem_append.mp z with z | z
    .show hN.2 z
    .show Jjx b4 hn z
   have T5:SameT H4 H5:=λc u t h=>S5 c u (LDV.notin x4 h (λ_ _ z=>by rw[z]at t;simp[isTF]at t)) (λz=>by rw[z,a1]at h;cases h;simp[isTF]at t) h;have f8:=b5.length;have l5:(d++(O.take i).map λn=>(n,L)).length<=N.length:=by
    have:=sub_len _ _ B.inv.nd B.inv.sub;simpa using this
   have f9:=J.length;cbv;show(g,_,rfl,DPut.k (k:=Sum.inr n) e5 ∅,?_);generalize u6:upd H5 g _=H6;cbv;have e6:=putE u6;have T6:SameT H5 H6:=SameT.put u6 e5 rfl;have o6:∀ a u,a≠g->H5 a=some u->H6 a=some u:=λa u ne h=>by rw[<- u6,Jag ne];show h
   have d3:cut g H6=cut g H5:=by rw[<- u6];show Jgs
   rw[<- d3]at J;have x6:All2 (LDV K Ad H6) p xs:=J.mono λ_ _ z=>z.same Jdg;have c1:=(f2.sameT T5).sameT T6;have b6:BG (·.1) (NFV K H6) (d++(O.take (i+1)).map λn=>(n,L)) (putK a6 (Sum.inr n) v):=by
    rw[a4];show(b5.mono (P':=NFV K H6) λ_ _ z=>z.sameT T6).new (a:=(n,L)) hS c1
   have c3:H6 Z=some (.lst xs):=o6 _ _ c4 (S5 _ _ a3 c4 (I _ _ S));have X:=B.rest U;have c8:=B.step U hN.1 hS;cbv;show(Z,rfl,ForA.byLN (xs:=xs) (SqL.of c3) (λj σ C=>j<=xs.length/\∃(v6:Option V),σ=[some (.ref md),some (.ref Z),some (.ref g),some (.ref sl),some v,some (.str n),v6]/\(∀ a u,V.ref a∉xs->H6 a=some u->C a=some u)/\All2 (LDV K Ad (cut g C)) ((p.take j).map (λe=>e.settle n L)++p.drop j) xs) ⟨Nat.zero_le _,b9,rfl,λ_ _ _ h=>h,by rw[take_zero,map_nil,List.drop_zero,nil_append];show J⟩ (λj σ C q=>by let(_,_,_,q,_):=q;show SqL.of (q _ _ a3 c3)) ?_ ?_)
   .rintro j z σ H7 hz ⟨hj,a8,rfl,S7,x7⟩ N1 d0;have lj:=(List.getElem?_eq_some_iff.mp hz).1;let(e,a7,a2):=x7.at_ hz;rw[Jk4]at a7;have b0:=List.mem_of_getElem? a7;have c2:=a2.same Jdg;let(q,dx,vr,vt,wd,rfl,hq,_):=id c2;have T7:SameT H6 H7:=λc u t h=>S7 c u (LDV.notin x6 h (λ_ _ z=>by rw[z]at t;simp[isTF]at t)) h;have e7:=S7 _ _ a5 e6;have d8:V.ref q∈xs:=List.mem_of_getElem? hz;cbv;show(q,_,dx,_,rfl,hq,rfl,rfl,?_);show(q,n,v,e,L,rfl,c2,c1.sameT T7,(X e b0).1,B.fL,(X e b0).2,λH8 S8 _ d9=>?_);cbv;have b3:g≠q:=λz=>by rw[<- z,e7]at hq;cases hq
    have e8:=S8 _ _ b3 e7;show d0 _ _ ⟨lj,_,rfl,λa u hx h=>S8 a u (λz=>hx (z ▸ d8)) (S7 a u hx h),?_⟩;rw[<- Jhh a7];show x7.put hz (d9 g _ e7 a2) λi' a y ne ha hy a0=>?_;have qc:cut g H7 q=_:=(JbM b3.symm).trans hq;show a0.keep (q:=q) (λb u nb h=>?_) qc (λz=>ne ?_)
    .have e0:b≠g:=λz=>by rw[z]at h;unfold cut at h;rw[if_pos rfl]at h;cases h
     rw[JbM e0]at h ⊢;show S8 b u nb h
    .rw[z, <- hz]at hy;show((List.getElem?_inj lj c6).mp hy.symm).symm
   .rintro σ H7 ⟨hj,a8,rfl,S7,x7⟩;rw[take_of_length_le ∅,List.drop_eq_nil_of_le ∅,append_nil]at x7;have T7:SameT H6 H7:=λc u t h=>S7 c u (LDV.notin x6 h (λ_ _ z=>by rw[z]at t;simp[isTF]at t)) h;show d7 _ _ ⟨by rw[length_map];ac_nf,_,_,_,_,rfl,λa u hx a0 h=>S7 a u hx (o6 a u a0 (S5 a u hx a0 h)),S7 _ _ a5 e6,b6.mono λ_ _ z=>z.sameT T7,x7,by rw[a4];show c8,Jh1.trans Y⟩
  .rintro σ H5 ⟨hi,d6,b9,a6,p,rfl,S5,e5,b5,J,B,Y⟩;rw[length_map,take_of_length_le (Nat.le_refl _)]at b5 B;have ln:1<=O.length:=by cases O with | nil=>show absurd rfl f1 | cons a r=>simp
   show(_,?_,_,_,_,_,a6,_,p,rfl,λa u hx h=>S5 a u hx (λz=>by rw[z,W]at h;cases h) (I _ _ (S2 a u hx h)),e5,b5,J,B.next U d1 st.lo ∅,Y,rfl);rw[length_append,length_map];ac_nf
 .rw[if_neg (by simpa using(by ac_nf:¬ kv.length<R.length))];cbv;show k g kv d o H2 S2 W e2 b2 x2 st ∅ b7
abbrev Bbb:Stmt:=top 41
theorem Jez:Jan ["lids","name","level","full"] ["lids","name","level"] (Jae Bbb):=by bv_decide
def Jc9(K:W.Frag)(Ad:Adr):Sp:=λvs H Q E=>∃(ll:Addr)(n:Str)(lv:V)(xs:List V)(lds:List LidD)(L:Fr2)(e:LidD),vs=[.ref ll, .str n,lv]/\H ll=some (.lst xs)/\All2 (LDV K Ad H) lds xs/\lds.length<=7/\FrV K H lv L.1 L.2/\lds.find? (λl=>(wtOf l.ws n).isSome&&(decide (l.rest=(0,1))&&decide (l.last=L)))=some e/\∀ p H',Same H H'->H' p=some (.tup [.str (Str.ofString "gap"), .str e.nm])->Q (.ref p) H'
theorem JgG(F:FunD K "gap_stop" "gap_stop" Bbb dV f fd)(T:Txt K mg Ad)(m_has_stopped:MCal P w K mg base 1 "has_stopped" (IsLid Ad) ["self","part","level"] (Jbs K Ad)):FnOk P w K mg base (CX1 P w) 2 f fd ["lids","name","level"] (Jc9 K Ad):=by
 show F.okn Jez (by subst_eqs) (λa1 A u s H vs Q E hr h=>?_)
 let(o,n,r,xs,a,L,e,rfl,h):=h;show(_,(Jab (Jev (j:=3) (own:=["lid"]) (cs:=[(1,"name"),(2,"level")]) Jez.nd rfl (Or.inl rfl) rfl (pi_U (pv 0)) (λ_ _ _ _=>(Jaq 0 (show[("lid" : Str),("name" : Str),("level" : Str)].Nodup by decide))) (λ_ _ _ _=>(Jba (m_has_stopped.m hr ⋯ passF (pv 0) (Jaa (pv 1) (Jaa (pv 2) Jac))))) (λ_ _ _ _=>(Jlw (K:=K) rfl (pv 0) rfl)) (Jd6 rfl) ⋯ rfl ⋯ (hcs2 rfl rfl rfl rfl rfl rfl)) (Jah (Jap (JaJ (Jaa JaY (Jaa (pe_ix ix_U (pv 3) Jad) Jac)))))),?_)
 let(O,D,l7,hv,G,k):=h;have lX:=D.length;have sz:(1000:Nat)<=sizeLine:=by decide
 show tSeq _ _ _ [some (.ref o),some (.str n),some r,none] H;mleave;obtain⟨P,B⟩:∃ P:LidD->Bool,P=λl=>(wtOf l.ws n).isSome&&(decide (l.rest=(0,1))&&decide (l.last=L)):=⟨_,rfl⟩;rw[<- B]at G;show(o,rfl, .inl ⟨⟨xs,SqL.of O⟩,JcK.list (xs:=xs) (λi g I=>I=H/\g=((a.take i).filter P).map λe=>V.str e.nm) ⟨rfl,by rw[take_zero];rfl⟩ (λi g I hi z=>⟨by rw[z.1];show SqL.of O,by
  rw[z.2,length_map];have W:=List.length_filter_le P (a.take i);rw[length_take]at W;ac_nf⟩) ?_ ?_⟩)
 .rintro i y g C hy ⟨c,b⟩;subst c;subst b;let(l,t,N):=D.at_ hy;let(q,M,vr,vt,wd,rfl,U,_):=id N;have S:=T.c_Lid Ad.Lid rfl;have d:a.take (i+1)=a.take i++[l]:=by rw[take_succ,t];rfl
  simpa only[length_singleton,length_cons,length_nil,List.replicate,Jaz,map_cons,map_nil,Option.join_some];show(q,_,M,_,rfl,U,rfl,rfl,?_);show(q,n,r,l,L,rfl,N,hv,?_);mleave;rw[show((wtOf l.ws n).isSome&&(decide (l.rest=(0,1))&&decide (l.last=L)))=P l by rw[B]];cases cp:P l with
  | false=>
   mleave;rw[d,filter_append,show[l].filter P=[]from List.filter_eq_nil_iff.mpr λx v=>by rw[mem_singleton.mp v,cp];decide,append_nil]
  | true=>
   mleave;show(q,_,M,_, .str l.nm,rfl,U,S.cls,S.n1,rfl,?_);mleave;rw[d,filter_append,show[l].filter P=[l]from List.filter_eq_self.mpr λx v=>by rw[mem_singleton.mp v,cp],map_append];rfl
 .rintro g C ⟨c,b⟩;subst c;rw[take_of_length_le ∅]at b;have h0:g[0]?=some (.str e.nm):=by
   have h1:(a.filter P).head?=some e:=by rw[List.head?_filter];show G
   rw[b,List.getElem?_map, <- List.head?_eq_getElem?,h1];rfl
  rename_i fl R J C Z S3 X;mleave;mleave;show ixL (i:=0) (SqL.of X) h0 ?_;mleave;show(len2,?_);rename_i p Y a0 Z H4 S4 e4;mleave;show k p H4 (S3.trans S4) e4
abbrev Bcc:Stmt:=top 42
theorem JbG:Jan ["thing","scale","lids","mosts","levels","told","part","name","level","slack"] ["thing"] (Jae Bcc):=by bv_decide
def JfL(K:W.Frag)(Ad:Adr):Sp:=λvs H Q E=>∃(x:Addr)(ls:List PD)(es:List (GD × List Str))(pl:Str->Fr2),vs=[.ref x]/\TK K Ad H x ls (es.map (·.1))/\SHC ls es pl/\((∀ e∈es,0<=vl (roomF pl e.1))->∀(tl:Addr)(zs:List V)(rs:List ShD)(H':Hp),Same H H'->H tl=none->H' tl=some (.lst zs)->All2 (ShV K H') rs zs->ShR ls es pl rs->Q (.ref tl) H')/\∀(i:Nat)(e:GD × List Str),es[i]?=some e->vl (roomF pl e.1)<0->(∀ e'∈es.take i,0<=vl (roomF pl e'.1))->∀(dx:Addr)(H':Hp),Same H H'->H dx=none->H' dx=some (.xd [("tight_gap", .str e.1.nm)])->E (.ref Ad.Tight) (some dx) H'
theorem JjM(F:FunD K "share" "share" Bcc dV f fd)(T:Txt K mg Ad)(Bbc:Cal P w K mg base 4 "scale_of" ["thing"] [] (JcG K Ad))(Bcx:Cal P w K mg base 7 "lids_of" ["thing","scale"] [] (JdH K Ad))(BbI:Cal P w K mg base 4 "most_levels" ["thing","scale"] [] (Jcl K Ad))(Bbv:Cal P w K mg base 7 "risen_levels" ["mosts","lids"] [] (Jb5 K Ad))(Bak:MCal P w K mg base 2 "parts" (JaH Ad) ["self"] (JaG K Ad))(m_lowered:MCal P w K mg base 2 "lowered" (Jc2 Ad) ["self","number"] (JbL K Ad))(Bbs:Cal P w K mg base 2 "times" ["one","other"] [] (Jdt K))(Bcd:Cal P w K mg base 2 "gap_stop" ["lids","name","level"] [] (Jc9 K Ad)):FnOk P w K mg base (CX1 P w) 9 f fd ["thing"] (JfL K Ad):=by
 show F.okx JbG (λvs H Q E h=>?_) (λj2 A e7 s H vs Q E hr h=>?_)
 .let(x,X,es,pl,rfl,_):=h;rfl
 let(x,X,es,pl,rfl,h):=h;have hu:=hr.units;show(_,(Jab (Jak 1 JbG.nd (Bbc.ev hr ⋯ rfl pass1 (Jaa (pv 0) Jac))) (Jab (Jak 2 JbG.nd (Bcx.ev hr ⋯ rfl pass1 (Jaa (pv 0) (Jaa (pv 1) Jac)))) (Jab (Jak 3 JbG.nd (BbI.ev hr ⋯ rfl pass1 (Jaa (pv 0) (Jaa (pv 1) Jac)))) (Jab (Jak 4 JbG.nd (Bbv.ev hr ⋯ rfl pass1 (Jaa (pv 3) (Jaa (pv 2) Jac)))) (Jab (Jak 5 JbG.nd (Jbc Jac)) (Jab (Ja2 PassesOwn.leaving rfl (pi_U (Bak.m0 hr ⋯ pass1 (pv 0))) (Jaq 6 JbG.nd) (Jab (Jak 7 JbG.nd (pe_ix ix_U (pv 6) Jad)) (Jab (Jak 8 JbG.nd (Jch (hu1 hu) (pv 4) (pv 7) (λ_ _=>rfl))) (Jah (ps_if (Jaw (JcN hu) (pv 8) (Jch (hu1 hu) (pv 3) (pv 7) (λ_ _=>rfl)) (Jax _)) (Jah (Ja6 (pe_bm PySem.F.plainAttrs_list PySem.F.slot_list_append PySem.F.type_list_append Ja9 (pv 5) (Jaa (JaJ (Jaa (pv 7) (Jaa (pe_ix ix_U (pv 6) Jad) (Jaa (JaJ (Jaa JaY Jac)) Jac)))) Jac) (hs:=by show Jaf rfl)))) (Jab (Jak 9 JbG.nd (m_lowered.m hr ⋯ pass1 (pv 1) (Jaa (Bbs.ev hr ⋯ rfl pass1 (Jaa (pv 8) (Jaa (JaJ (Jaa (pe_ix ix_U (pv 6) Jad) (Jaa Jad Jac))) Jac))) Jac))) (Jah (Ja6 (pe_bm PySem.F.plainAttrs_list PySem.F.slot_list_append PySem.F.type_list_append Ja9 (pv 5) (Jaa (JaJ (Jaa (pv 7) (Jaa (pv 9) (Jaa (Bcd.ev hr ⋯ rfl pass1 (Jaa (pv 2) (Jaa (pv 7) (Jaa (pv 8) Jac)))) Jac)))) Jac) (hs:=by show Jaf rfl)))))))))) (Jah (Jap (pv 5))))))))),?_)
 clear hu;let(ht,n,k,kT):=h;let(dx,d1,d2,d3,k1,k2,k3,hx,_):=id ht;have sl:(1000:Nat)<=sizeLine:=by decide
 have i9:=n.l12;have l7:=n.l7;show tSeq _ _ _ [some (.ref x),none,none,none,none,none,none,none,none,none] H;cbv;show(x,X,_,rfl,ht,n.l12,by rw[length_map];show n.l7,by rw[length_map];show n.l14,λp N=>⟨(n.pb p N).1,(n.pb p N).2.b1,(n.pb p N).2.s2.mono ⋯⟩,λg hg=>by let(e,he,rfl):=mem_map.mp hg;show n.gb e he,λsc b fs H1 S1 a3=>?_);let(g0,fl,c1,_,c0,sb,_):=id a3;have b1:=c0.b1;cbv;show(x,sc,X,es,pl,b,fs,rfl,ht.same S1,a3,n,λc6 ll xs b7 H2 S2 i8 e2 hX f0 h0 c5 b8=>?_,λi e Z h2 h3 i0 H2 S2 h4 h5=>kT i e Z h2 h3 i0 H2 (S1.trans S2) (JcL S1 h4) h5);cbv;have i2:=S1.trans S2;show(x,sc,X,_,b,fs,rfl,ht.same i2,a3.same S2,n.l12,n.nd,λp N=>⟨(n.pb p N).2,(n.pok p N).w,n.wt p N⟩,λmd d7 ms H3 S3 i6 e3 bm f6 i1=>?_);let(q0,rc,e1):=Jj7 b1 sb n c6 c5 b8 f6 i1;have hw:=Jky c5 b8;cbv;have x3:All2 (LDV K Ad H3) b7 xs:=hX.mono λ_ _ z=>z.same S3;show(md,ll,d7,ms,xs,b7,b,q0,_,_,_,_,rfl,e3,bm,S3 _ _ e2,x3,f0,by ac_nf,rc,e1,λld kv f4 U H4 S4 i7 e4 b4 x4 Y S f1=>?_);have b3:Same H1 H4:=λc u h=>S4 c u (λz=>by let(q,eq,hq):=h0 _ z;have eq:c=q:=(by injection eq);rw[<- eq,h]at hq;cases hq) (S3 _ _ (S2 _ _ h));have a1:=S1.trans b3;have T4:SameT H3 H4:=λc u t h=>S4 c u (LDV.notin x3 h (λ_ _ z=>by rw[z]at t;simp[isTF]at t)) h;have g3:=S4 _ _ (LDV.notin x3 e3 (λ_ _ z=>by cases z)) e3;have f7:=S4 _ _ (LDV.notin x3 (S3 _ _ e2) (λ_ _ z=>by cases z)) (S3 _ _ e2);have g2:BG (·.1) (NFV K H4) ms d7:=bm.mono λ_ _ z=>z.sameT T4;have d4:U.map (·.nm)=es.map (·.1.nm):=by
  rw[f1];show List.ext_getElem? λi=>?_;rw[List.getElem?_map,List.getElem?_map];by_cases c:i<es.length
  .rw[List.getElem?_eq_getElem c,List.getElem?_eq_getElem (by ac_nf:i<b7.length)];show congrArg some (b8 i _ _ (List.getElem?_eq_getElem c) (List.getElem?_eq_getElem ∅)).nm
  .rw[List.getElem?_eq_none ∅,List.getElem?_eq_none ∅];rfl
 have j4:U.length=es.length:=by simpa using congrArg List.length d4
 cbv;show(Nat.zero_le _,?_);rename_i W a7 i5 H4 H5 S5 e5;cbv;have a4:H W=none:=JcL a1 a7;show(x,_,dx,_,rfl,S5 _ _ (a1 _ _ hx),rfl,rfl,x,X,_,rfl,ht.same (a1.trans S5),by ac_nf,λl ys H6 S6 c9 e6 hY=>?_);have lY:=hY.length;have h6:l≠W:=λz=>by rw[z,e5]at c9;cases c9
 have c4:=Same.trans S5 S6;cbv;show(l,rfl,ForA.byLN (xs:=ys) (SqL.of e6) (λi σ H'=>i<=ys.length/\∃(v6 v7 v8 v9:Option V)(zs:List V)(Y:List ShD),σ=[some (.ref x),some (.ref sc),some (.ref ll),some (.ref md),some (.ref ld),some (.ref W),v6,v7,v8,v9]/\(∀ c u,c≠W->H6 c=some u->H' c=some u)/\SameT H6 H'/\H' W=some (.lst zs)/\All2 (ShV K H') Y zs/\Y.length=i/\∀(j:Nat) p r,X[j]?=some p->Y[j]?=some r->ShRow X es pl (lvf b f4) p r) ⟨Nat.zero_le _,none,none,none,none,[],[],rfl,λ_ _ _ h=>h,SameT.refl _,S6 _ _ e5,rfl,rfl,λj p r _ h=>by simp at h⟩ (λi σ H' q=>by let(_,_,_,_,_,_,_,_,q,_):=q;show SqL.of (q _ _ h6 e6)) ?_ ?_)
 .rintro i y σ H7 hy ⟨hi,v6,v7,v8,v9,zs,a0,rfl,ho,hT,ez,hZ,L,I⟩ N0 c8;have li:=(List.getElem?_eq_some_iff.mp hy).1;let(p,N,b_,vz,vm,rfl,hb,_,hm):=hY.at_ hy;have a2:=List.mem_of_getElem? N;have b2:=hb.sameT hT;have o:Same H4 H7:=λc u h=>ho c u (Jai h a7) (c4 _ _ h);have d8:p.nm∈X.map (·.nm):=mem_map.mpr ⟨p,a2,rfl⟩;let(a,M,ha,J,c2,f2):=b4.some (z:=p.nm) (Y.all rc S _ d8);have J:a.1=p.nm:=J;let(m,b5,g5,a9,b0,g6):=g2.some (z:=p.nm) (by rw[rc.nm];show d8);have a9:m.1=p.nm:=a9;have fa:=sh_lv rc Y ha;have ml:=rc.ml m g5;have d5:vl m.2=moF X a.1*(b:Rat):=by rw[ml.1,a9,J]
  have g7:DGet H7 ld (.str p.nm) (some M):=by rw[<- c2];show DGet.k (k:=Sum.inr p.nm) (o _ _ e4)
  have f8:DGet H7 md (.str p.nm) (some b5):=by rw[<- b0];show DGet.k (k:=Sum.inr p.nm) (o _ _ g3)
  have b6:FrV K H7 M a.2.1 a.2.2:=FrV.same o f2;have f9:FrV K H7 b5 m.2.1 m.2.2:=FrV.same o g6;have lZ:=hZ.length;cbv;show ixT (i:=0) b2 rfl ?_;cbv;show(ld,M,rfl,g7,?_);cbv;show(md,b5,rfl,f8,?_);show eqF b6 f9 ?_;have ee:(decide (a.2.1=m.2.1)&&decide (a.2.2=m.2.2))=decide (a.2=m.2):=by
   rw[<- Bool.decide_and];show decide_eq_decide.mpr Prod.ext_iff.symm
  rw[ee];cbv;by_cases c:a.2=m.2
  .rw[if_pos (by simpa using c)];cbv;show(.inl ⟨rfl,_,SqL.of ez⟩,?_);show ixT (i:=4) b2 rfl ?_;cbv;show(by show 1<=sizeLine;ac_nf,?_);rename_i t j0 j1 H7 H8 S8 e8;cbv;cbv;show(by show 3<=sizeLine;ac_nf,?_);rename_i pr c7 d9 H8 H9 S9 e9;cbv;have v:=Same.trans S8 S9;have O:=v _ _ ez;cbv;show(W,zs,_,rfl,rfl,O,by ac_nf,?_);generalize C:upd H9 W _=G;cbv;have a8:=putE C;have d:SameT H9 G:=SameT.put C O rfl;have T7:=v.t.trans d;show c8 _ _ ⟨li,_,_,_,_,_,a0++[(⟨p.nm,p.mo,none⟩:ShD)],rfl,λc u R h=>by rw[<- C,Jag R];show v _ _ (ho c u R h),hT.trans T7,a8,(hZ.mono (P':=ShV K G) λ_ _ z=>z.sameT T7).append (.one (show ShV K G (⟨p.nm,p.mo,none⟩:ShD) (.ref pr)from⟨pr,_,t,rfl,SqT.of (d _ _ rfl e9),((hm.sameT hT).same v).sameT d,SqT.of (d _ _ rfl (S9 _ _ e8))⟩)),by rw[length_append,L];rfl,λj p' r' Z h2=>?_⟩;rcases Ja1 h2 with h2 | ⟨q1,q2⟩
   .show I j p' r' Z h2
   .rw[q1,L,N]at Z;cases Z;rw[q2];show JlO n rc Y a2 ha J (by rw[c];show d5)
  .rw[if_neg (by simpa using c)];cbv;have d0:vl a.2≠moF X a.1*(b:Rat):=λz=>c (fa.lo.inj ml.2.1.lo (z.trans d5.symm));let(l0,e0,f5,f3,h9):=JlM hw rc Y S d4 ha d0;have wp:=n.wt p a2;show(sc,_,g0,_,rfl,o _ _ (b3 _ _ c1),rfl,rfl,?_);show ixT (i:=5) b2 rfl ?_;cbv;show(len2,?_);rename_i w1 i4 i3 H7 H8 S8 e8;cbv;show(M, .ref w1,_,_,p.wt,1,rfl,b6.same S8,FrV.of e8,fa.s1.mono ⋯,fa.s2.mono ⋯,wp.mono ⋯, .lit ⋯ ⋯,fa.b1,by decide,fa.g1,by unfold Mth.g;simp,λp2 H9 S9 e9=>?_);have e9:H9 p2=some (.tup [.int (mulF a.2 (p.wt,1)).1, .int (mulF a.2 (p.wt,1)).2]):=e9;have a5:=Same.trans S8 S9;have j5:=Jfh (a:=a.2) (c:=(p.wt,1)) fa.b1 (Int.le_refl 1);have g9:FB 3000 1000 (mulF a.2 (p.wt,1)):=by
    show FB.low (Jcp fa.b1 (Int.le_refl 1)) ((fa.s1.mul wp).mono ⋯) ?_;show Mth.Sz 1000 (a.2.2*1);rw[Int.mul_one];show fa.s2.mono ⋯
   cbv;show(sc, .ref p2,_,b,fs,rfl,a3.same (b3.trans (o.trans a5)),FrV.of e9,g9,λp3 tt j3 h7 g4 g8=>?_);have B:=a5.trans h7;cbv;show(.inl ⟨rfl,_,SqL.of (B _ _ ez)⟩,?_);cbv;show(ll,p.nm,M,xs,U,a.2,l0,rfl,B _ _ (o _ _ f7),x4.mono (λ_ _ z=>z.same (o.trans B)),by ac_nf,b6.same B,by rw[<- J];show f5,λt h8 d6 c3=>?_);cbv;show(by show 3<=sizeLine;ac_nf,?_);rename_i pr c7 d9 h8 a6 b9 e9;cbv;have v:=B.trans (d6.trans b9);have O:=v _ _ ez;cbv;show(W,zs,_,rfl,rfl,O,by ac_nf,?_);generalize C:upd a6 W _=G;cbv;have a8:=putE C;have d:SameT a6 G:=SameT.put C O rfl;have T7:=v.t.trans d;show c8 _ _ ⟨li,_,_,_,_,_,a0++[(⟨p.nm,tt,some e0.1.nm⟩:ShD)],rfl,λc u R h=>by rw[<- C,Jag R];show v _ _ (ho c u R h),hT.trans T7,a8,(hZ.mono (P':=ShV K G) λ_ _ z=>z.sameT T7).append (.one (show ShV K G (⟨p.nm,tt,some e0.1.nm⟩:ShD) (.ref pr)from⟨pr,_,t,rfl,SqT.of (d _ _ rfl e9),FrV.of (d _ _ rfl (b9 _ _ (d6 _ _ g4))),by rw[h9]at c3;show SqT.of (d _ _ rfl (b9 _ _ c3))⟩)),by rw[length_append,L];rfl,λj p' r' Z h2=>?_⟩;rcases Ja1 h2 with h2 | ⟨q1,q2⟩
   .show I j p' r' Z h2
   .rw[q1,L,N]at Z;cases Z;rw[q2];show JlN n rc Y a2 ha J d0 g8 f3
 .rintro σ H7 ⟨hi,v6,v7,v8,v9,zs,a0,rfl,ho,hT,ez,hZ,L,I⟩;cbv;let(D,F):=Ji8 hw rc Y S;show k c6 W zs a0 H7 (λc u h=>ho c u (Jai h a4) (c4 _ _ (a1 _ _ h))) a4 ez hZ ⟨by have:=hZ.length;ac_nf,_,D,F,I⟩
abbrev BcV:Stmt:=top 43
theorem JfC:Jan ["room","slacks","total","slack"] ["room","slacks"] (Jae BcV):=by bv_decide
def Jg1(K:W.Frag):Sp:=λvs H Q E=>∃(r:V)(l:Addr)(xs:List V)(ts:List Fr2)(m:Fr2),vs=[r, .ref l]/\FrV K H r m.1 m.2/\FB 2200 56 m/\SqL K H l xs/\All2 (FLV K H) ts xs/\(∀ t∈ts,FB 2200 56 t)/\ts.length<=8/\∀(b:Bool) H',Same H H'->(b=true↔smF ts<=vl m)->Q (.bl b) H'
theorem Jlk(F:FunD K "fits" "fits" BcV dV f fd)(T:Txt K mg Ad)(Bb7:Cal P w K mg base 2 "plus" ["one","other"] [] (JeE K))(Baj:Cal P w K mg base 1 "under" ["one","other"] [] (JbV K)):FnOk P w K mg base (CX1 P w) 3 f fd ["room","slacks"] (Jg1 K):=by
 show F.okn JfC (by subst_eqs) (λa0 A o s H W Q E I h=>?_)
 let(r,l,xs,N,m,rfl,h):=h;show(_,(Jab (Jak 2 JfC.nd (Jbk (v:=.ref _) rfl T.Bcp T.Bcq)) (Jab (Ja2 PassesOwn.never rfl (pi_U (pv 1)) (Jaq 3 JfC.nd) (Jah (Jak 2 JfC.nd (Bb7.ev I ⋯ rfl passF (Jaa (pv 2) (Jaa (pv 3) Jac)))))) (Jah (Jap (Jhq (Baj.ev I ⋯ rfl passF (Jaa (pv 0) (Jaa (pv 2) Jac)))))))),?_)
 let(S,fm,M,G,U,l8,k):=h;have lx:=G.length;show tSeq _ _ _ [some r,some (.ref l),none,none] H;cbv;show(l,rfl,ForA.byL (xs:=xs) M (λi σ x=>i<=xs.length/\∃(t:V)(u:Fr2)(D:Option V),σ=[some r,some (.ref l),some t,D]/\Same H x/\FrV K x t u.1 u.2/\FB (2700+57*i) (1+56*i) u/\vl u=smF (N.take i)) ⟨Nat.zero_le _, .ref Ad.ZERO,(0,1),none,rfl,Same.refl _,⟨Ad.ZERO,rfl,T.Bcr _⟩,JeI.mono ∅ ∅,by rw[take_zero];unfold vl smF;grind⟩ (λi σ x q=>by let(_,_,_,_,_,q,_):=q;show M.same q) ?_ ?_)
 .rintro i y σ O J ⟨hi,t,u,D,rfl,g,B,b,j⟩;have Z:=(List.getElem?_eq_some_iff.mp J).1;let(s,L,fs):=G.at_ J;have d:=U s (List.mem_of_getElem? L);have R:i<8:=by ac_nf
  cbv;show(t,y,_,_,_,_,rfl,B,FrV.same g fs,b.s1.mono ∅,b.s2.mono ∅,d.s1.mono ∅,d.s2.mono ∅,b.b1,d.b1,b.g1,d.g1,λp H2 X Y=>?_);cbv;show(Z, .ref p,addF u s,_,rfl,g.trans X,FrV.of Y,?_,?_)
  .have:=FB.add (n:=2700+57*i+56) (m:=1+56*(i+1)) b d ∅ ∅ ∅;show this.mono ∅ ∅
  .rw[Jjr b.b1 d.b1,j,take_succ,L];show(JfJ s _).symm
 .rintro σ O ⟨hi,t,u,D,rfl,g,B,b,j⟩;rw[take_of_length_le ∅]at j;have R:xs.length<=8:=by ac_nf
  cbv;show(r,t,m.1,m.2,u.1,u.2,rfl,FrV.same g S,B,fm.s1.mono ∅,fm.s2.mono ∅,b.s1.mono ∅,b.s2.mono ∅,?_);cbv;have C:=Jcm (a:=m) (c:=u) fm.b1 b.b1;unfold lessF at C;show k _ O g ?_;rw[<- j];by_cases c:vl m<vl u
  .rw[C.mpr c];constructor
   .intro z;cases z
   .intro z;show absurd c (Rat.not_lt.mpr z)
  .have e:decide (m.1*u.2<u.1*m.2)=false:=by
    cases q:decide (m.1*u.2<u.1*m.2)with
    | false=>rfl
    | true=>show absurd (C.mp q) c
   rw[e];show(λ_=>Rat.not_lt.mp c,λ_=>rfl)
abbrev BaR:Stmt:=top 44
theorem Ja7:Jan ["thing","slacks","scale","by_name","part","slack","gap","on_way"] ["thing","slacks"] (Jae BaR):=by bv_decide
def Jbv(K:W.Frag)(Ad:Adr):Sp:=λvs H Q E=>∃(x sl:Addr)(ls:List PD)(es:List (GD × List Str))(sx:List V)(ss:List Fr2)(pl:Str->Fr2),vs=[.ref x, .ref sl]/\TK K Ad H x ls (es.map (·.1))/\SqL K H sl sx/\All2 (FLV K H) ss sx/\ss.length=ls.length/\(∀ s∈ss,FB 200 56 s)/\ISC ls es pl/\∀(b:Bool) H',Same H H'->(b=true↔ShP ls es ss pl)->Q (.bl b) H'
theorem Jfo(F:FunD K "is_sharing" "is_sharing" BaR dV f fd)(T:Txt K mg Ad)(Bbc:Cal P w K mg base 4 "scale_of" ["thing"] [] (JcG K Ad))(Bak:MCal P w K mg base 2 "parts" (JaH Ad) ["self"] (JaG K Ad))(BaX:MCal P w K mg base 2 "gaps" (JaH Ad) ["self"] (JaZ K Ad))(Baj:Cal P w K mg base 1 "under" ["one","other"] [] (JbV K))(Ba6:MCal P w K mg base 2 "lifted" (Jc2 Ad) ["self","number"] (Jbe K Ad))(BaP:Cal P w K mg base 2 "part_names" ["thing","gap_name"] [] (JbU K Ad))(BdR:Cal P w K mg base 3 "fits" ["room","slacks"] [] (Jg1 K))(Bb8:MCal P w K mg base 5 "room" (JaH Ad) ["self","name"] (Jbu K Ad)):FnOk P w K mg base (CX1 P w) 7 f fd ["thing","slacks"] (Jbv K Ad):=by
 show F.okn Ja7 (by subst_eqs) (λh8 A f4 s H vs Q E X h=>?_)
 let(x,sl,o,es,sx,ss,pl,rfl,h):=h;have hu:=X.units;show(_,(Jab (Jak 2 Ja7.nd (Bbc.ev X ⋯ rfl passF (Jaa (pv 0) Jac))) (Jab (Jak 3 Ja7.nd JbQ rfl (Or.inr rfl)) (Jab (Ja2 PassesOwn.never rfl (JmE rfl T.Beh Jl6 (Jaa (Bak.m0 X ⋯ passF (pv 0)) (Jaa (pv 1) Jac))) (Jes rfl (Jbb (Jaq 4 Ja7.nd) (Jbb (Jaq 5 Ja7.nd) Jc5))) (Jab (ps_if (PW.pt (pw_or (Jba (Baj.ev X ⋯ rfl passF (Jaa (pv 5) (Jaa (Jbk (v:=.ref _) rfl T.Bcp T.Bcq) Jac)))) (Jca (Jba (Baj.ev X ⋯ rfl passF (Jaa (pe_ix ix_U (pv 4) Jad) (Jaa (pv 5) Jac))))))) (Jah (Jap pe_bl))
   Jat) (Jah (Jcx (hu1 hu) (pv 3) (pe_ix ix_U (pv 4) Jad) (Ba6.m X ⋯ passF (pv 2) (Jaa (pv 5) Jac)) rfl)))) (Jab (Ja2 PassesOwn.never rfl (pi_U (BaX.m0 X ⋯ passF (pv 0))) (Jaq 6 Ja7.nd) (Jab (Je1 (j:=7) (own:=["name"]) (cs:=[(3,"by_name")]) Ja7.nd rfl (Or.inl rfl) rfl (pi_U (BaP.ev X ⋯ rfl passF (Jaa (pv 0) (Jaa (pe_ix ix_U (pv 6) Jad) Jac)))) (λ_ _ _ _=>(Jaq 0 (show[("name" : Str),("by_name" : Str)].Nodup by decide))) (λ_ _ _ _=>(Jch (hu1 hu) (pv 1) (pv 0) (λ_ _=>rfl))) (Jd6 rfl) ⋯ rfl ⋯ (hcs1 rfl rfl rfl)) (Jah (ps_if (Jbw (Jba (BdR.ev X ⋯ rfl passF (Jaa (Ba6.m X ⋯ passF (pv 2) (Jaa (Bb8.m X ⋯ passF (pv 0) (Jaa (pe_ix ix_U (pv 6) Jad) Jac)) Jac)) (Jaa (pv 7) Jac))))) (Jah (Jap pe_bl))
   Jat)))) (Jah (Jap pe_bl)))))),?_)
 clear hu;let(ht,c6,hA,f9,d4,d,k):=h;let(dx,d1,d2,d3,k1,k2,k3,hx,_):=id ht;have i1:(1000:Nat)<=sizeLine:=by decide
 have l7:=d.l7;have l6:=d.l6;have h9:=hA.length;show tSeq _ _ _ [some (.ref x),some (.ref sl),none,none,none,none,none,none] H;cbv;show(x,o,es.map (·.1),rfl,ht,by ac_nf,by rw[length_map];show Nat.le_trans d.l6 ⋯,by rw[length_map];have:=d.l6;ac_nf,λp O=>⟨⟨(d.pb p O).1.b1,(d.pb p O).1.s2.mono ⋯⟩,(d.pb p O).2.b1,(d.pb p O).2.s2.mono ⋯⟩,λg hg=>by let(e,he,rfl):=mem_map.mp hg;show d.gb e he,λsc b fs H1 S1 b6=>?_);let(d6,fl,I,_,c5,sb,_):=id b6;cbv;rename_i S L h3 H1 H2 S2 e2;cbv;cbv;have c3:=S1.trans S2;show(x,_,dx,_,rfl,c3 _ _ hx,rfl,rfl,x,o,_,rfl,ht.same c3,by ac_nf,λl ys H3 S3 e0 e3 hY=>?_);have lY:=hY.length;have a2:=c3.trans S3;have f5:l≠S:=λz=>by rw[z,e2]at e0;cases e0
 have f0:=c6.same a2;have Z:H S=none:=JcL S1 L;have J:sc≠S:=λz=>by rw[z,L]at I;cases I
 have ez:(o.zip ss).map (·.1.nm)=o.map (·.nm):=JkM f9;cbv;show(l,sl,rfl,⟨ys,SqL.of e3⟩,⟨sx,f0⟩,ForJ.zip (xs:=ys) (ys:=sx) (λi σ G=>i<=o.length/\∃(v4 v5:Option V)(kv:List (Key × V)),σ=[some (.ref x),some (.ref sl),some (.ref sc),some (.ref S),v4,v5,none,none]/\(∀ c u,c≠S->H3 c=some u->G c=some u)/\SameT H3 G/\G S=some (.dK kv)/\BG (·.1.nm) (LFV K G b) ((o.zip ss).take i) kv/\∀(j:Nat)(p:PD)(s:Fr2),j<i->o[j]?=some p->ss[j]?=some s->0<=vl s/\vl s<=vl p.mo) ⟨Nat.zero_le _,none,none,[],rfl,λ_ _ _ h=>h,(Same.refl _).t,S3 _ _ e2,⟨rfl,rfl⟩,λj p s M=>absurd M (Nat.not_lt_zero _)⟩ (λi σ G q=>by
  let(_,_,_,_,_,q,_):=q;have S0:Same H G:=λc u h=>q c u (Jai h Z) (a2 _ _ h);show(SqL.of (q _ _ f5 e3),c6.same S0)) ?_ ?_)
 .rintro i y z σ H4 pp H5 hy hz ⟨hi,v4,v5,kv,rfl,ho,hT,a3,hB,hg⟩ hn N e5;have li:=(List.getElem?_eq_some_iff.mp hy).1;let(p,O,a_,vz,vm,rfl,hb,i3,hm):=hY.at_ hy;let(s,hs,g6):=hA.at_ hz;have B:=d4 s (List.mem_of_getElem? hs);have pb:=d.pb p (List.mem_of_getElem? O);have b8:SameT H3 H5:=hT.trans N.t;have d7:=hb.sameT b8;have b2:FrV K H5 z s.1 s.2:=FrV.sameT (a2.t.trans b8) g6;have r:Same H H4:=λc u h=>ho c u (Jai h Z) (a2 _ _ h);have lk:=hB.length;rw[length_take]at lk;cbv;show(pp,_,rfl,SqT.of e5,rfl,?_);cbv;have z0:vl (0,1)=0:=by unfold vl;grind
  have l1:=Jcm (a:=s) (c:=(0,1)) B.b1 ⋯;rw[z0]at l1;have l2:=Jcm (a:=p.mo) (c:=s) pb.2.b1 B.b1;unfold lessF at l1 l2;show(z, .ref Ad.ZERO,s.1,s.2,0,1,rfl,b2,⟨Ad.ZERO,rfl,T.Bcr _⟩,B.s1.mono ⋯,B.s2.mono ⋯, .lit ⋯ ⋯, .lit ⋯ ⋯,?_);cbv;by_cases c1:decide (s.1*1<0*s.2)=true
  .rw[if_pos c1];cbv;cbv;show k false _ (r.trans N) ⟨λz=>(by cases z),λz=>absurd (l1.mp c1) (Rat.not_lt.mpr (z.1 i p s O hs).1)⟩
  .rw[if_neg c1];cbv;cbv;show ixT (i:=4) d7 rfl ?_;show(vm,z,p.mo.1,p.mo.2,s.1,s.2,rfl,FrV.sameT b8 hm,b2,pb.2.s1.mono ⋯,pb.2.s2.mono ⋯,B.s1.mono ⋯,B.s2.mono ⋯,?_);cbv;by_cases c2:decide (p.mo.1*s.2<s.1*p.mo.2)=true
   .rw[if_pos c2];cbv;cbv;show k false _ (r.trans N) ⟨λz=>(by cases z),λz=>absurd (l2.mp c2) (Rat.not_lt.mpr (z.1 i p s O hs).2)⟩
   .rw[if_neg c2];cbv;cbv;have e1:SCK Ad H5 sc b fs:=by
     let(Y,W,q1,q2,q3):=b6;have nf:W≠S:=λz=>by rw[z,L]at q2;cases q2
     show(Y,W,N _ _ (ho _ _ J (S3 _ _ (S2 _ _ q1))),N _ _ (ho _ _ nf (S3 _ _ (S2 _ _ q2))),q3)
    have c0:=N _ _ (ho _ _ J (S3 _ _ (S2 _ _ I)));show(sc,_,d6,_,rfl,c0,rfl,rfl,?_);show(sc,z,s,b,fs,rfl,e1,b2,B,λq t H6 U e6 hL=>?_);cbv;show ixT (i:=0) (d7.same U) rfl ?_;show(S,_,rfl,DPut.k (k:=Sum.inr p.nm) (U _ _ (N _ _ a3)) ∅,?_);generalize u7:upd H6 S _=H7;cbv;have e7:=putE u7;have T7:SameT H6 H7:=SameT.put u7 (U _ _ (N _ _ a3)) rfl;have c7:SameT H4 H7:=N.t.trans (U.t.trans T7);have nw:p.nm∉((o.zip ss).take i).map (·.1.nm):=λz=>by
     have e:=List.map_take (f:=λ(x:PD × Fr2)=>x.1.nm) (l:=o.zip ss) (i:=i);rw[e,ez, <- List.map_take]at z;show JgE d.nd O z
    have g4:(o.zip ss)[i]?=some (p,s):=List.getElem?_zip_eq_some.mpr ⟨O,hs⟩;show(by ac_nf,_,_,_,rfl,λc u d9 h=>by rw[<- u7,Jag d9];show U _ _ (N _ _ (ho c u d9 h)),hT.trans c7,e7,?_,λj p' s' M b7 b9=>?_)
    .rw[take_succ,g4];show(hB.mono (P':=LFV K H7 b) λ_ _ z=>z.sameT c7).new (a:=(p,s)) nw ⟨t,hL,FrV.of (T7 _ _ rfl e6)⟩
    .rcases Nat.lt_succ_iff_lt_or_eq.mp M with M | rfl
     .show hg j p' s' M b7 b9
     .rw[O]at b7;rw[hs]at b9;cases b7;cases b9;show(Rat.not_lt.mp λq=>c1 (l1.mpr q),Rat.not_lt.mp λq=>c2 (l2.mpr q))
 .rintro σ H4 ⟨hi,v4,v5,kv,rfl,ho,hT,a3,hB,hg⟩;have em:min ys.length sx.length=o.length:=by ac_nf
  rw[em]at hB hg;rw[take_of_length_le (by rw[List.length_zip];ac_nf)]at hB;have d0:∀(i:Nat)(p:PD)(s:Fr2),o[i]?=some p->ss[i]?=some s->0<=vl s/\vl s<=vl p.mo:=λi p s h1 h2=>hg i p s (List.getElem?_eq_some_iff.mp h1).1 h1 h2;have r:Same H H4:=λc u h=>ho c u (Jai h Z) (a2 _ _ h);have f3:SCK Ad H4 sc b fs:=by
   let(Y,W,q1,q2,q3):=b6;have nf:W≠S:=λz=>by rw[z,L]at q2;cases q2
   show(Y,W,ho _ _ J (S3 _ _ (S2 _ _ q1)),ho _ _ nf (S3 _ _ (S2 _ _ q2)),q3)
  have b0:=ho _ _ J (S3 _ _ (S2 _ _ I));have bq:(0:Rat)<(b:Rat):=by exact_mod_cast (show 0<b by have:=c5.b1;ac_nf)
  cbv;show(x,_,dx,_,rfl,r _ _ hx,rfl,rfl,x,o,_,rfl,ht.same r,by rw[length_map];ac_nf,λm zs H5 N i4 e5 hZ=>?_);have lZ:=hZ.length;rw[length_map]at lZ;have d8:=r.trans N;cbv;show(m,rfl,ForA.byL (xs:=zs) (SqL.of e5) (λi σ G=>i<=zs.length/\∃(v6 v7:Option V),σ=[some (.ref x),some (.ref sl),some (.ref sc),some (.ref S),v4,v5,v6,v7]/\Same H5 G/\∀(j:Nat)(e:GD × List Str),j<i->es[j]?=some e->sm (svl o ss) e.2<=vl (roomF pl e.1)) ⟨Nat.zero_le _,none,none,rfl,Same.refl _,λj e M=>absurd M (Nat.not_lt_zero _)⟩ (λi σ G q=>by let(_,_,_,_,q,_):=q;show SqL.of (q _ _ e5)) ?_ ?_)
  .rintro i y σ H6 hy ⟨hi,v6,v7,rfl,U,b5⟩;have li:=(List.getElem?_eq_some_iff.mp hy).1;let(g,a5,a_,h6,h7,rfl,hb,_,_):=hZ.at_ hy;obtain⟨e,d5,rfl⟩:∃ e,es[i]?=some e/\e.1=g:=by
    rw[List.getElem?_map]at a5;show Option.map_eq_some_iff.mp a5
   have he:=List.mem_of_getElem? d5;have g8:=d8.trans U;have g0:=N.trans U;have c9:=hb.same U;have gm:e.1∈es.map (·.1):=mem_map.mpr ⟨e,he,rfl⟩;cbv;show ixT (i:=0) c9 rfl ?_;show(x,o,es.map (·.1),e.1,rfl,ht.same g8,d.nd,by ac_nf,gm,d.gn e he,λnl w H7 S7 e7 hw f2=>?_);have lw:w.length<=8:=by
    have:=sub_len (w.map (·.1)) (o.map (·.nm)) f2 λn hn=>Jc0 (Jfv hw) n hn;rw[length_map,length_map]at this;ac_nf
   have a7:=g0.trans S7;have g9:=hB.mono (P':=LFV K H7 b) λ_ _ z=>z.sameT a7.t;have f1:=a7 _ _ a3;show(nl,rfl, .inl ⟨⟨_,SqL.of e7⟩,CompJ.list (xs:=(w.map (·.1)).map V.str) (λi ys G=>G=H7/\∃ ts:List Fr2,All2 (FLV K H7) ts ys/\ts.length=i/\(∀ t∈ts,FB 2200 56 t)/\smF ts=sm (svl o ss) ((w.map (·.1)).take i)*(b:Rat)) ⟨rfl,[],rfl,rfl,(λt ht=>by cases ht),by rw[take_zero];unfold smF sm;grind⟩ (λi ys G hi z=>by
    let(rfl,ts,a0,i2,_):=z;have:=a0.length;rw[length_map,length_map]at hi;show(SqL.of e7,by ac_nf)) ?_ ?_⟩)
   .rintro j y' g1 G R ⟨rfl,ts,a0,a4,b4,a1⟩;have lj:=(List.getElem?_eq_some_iff.mp R).1;rw[length_map]at lj;rw[List.getElem?_map,List.getElem?_eq_getElem lj]at R;obtain⟨n,hn⟩:∃ n,n=(w.map (·.1))[j]:=⟨_,rfl⟩;rw[<- hn]at R;have R:y'=.str n:=(Option.some.inj R).symm;subst R;have g2:n∈o.map (·.nm):=Jc0 (Jfv hw) n (by rw[hn];show List.getElem_mem lj);let(x',v,c4,f6,hv,t,hL,ft):=g9.some (z:=n) (by rw[ez];show g2);have g5:=(List.of_mem_zip c4).2;have xb:=d4 _ g5;simpa only[length_singleton,length_cons,length_nil,List.replicate,Jaz,map_cons,map_nil,Option.join_some];show(S,_,rfl,by rw[<- hv];show DGet.k (k:=Sum.inr n) f1,?_);show(ts++[t],a0.append (.one ft),by simp[a4],λt' f8=>?_,?_)
    .rcases mem_append.mp f8 with h | h
     .show b4 t' h
     .rw[mem_singleton.mp h];show hL.fb xb sb
    .rw[JfJ,a1,hL.vl xb.b1,take_succ,List.getElem?_eq_getElem lj, <- hn];show _=sm _ (_++[n])*_;rw[Jjb, <- f6,JmP d.nd c4];grind
   .rintro g1 G ⟨rfl,ts,a0,a4,b4,a1⟩;rw[length_map]at a4 a1;rw[take_of_length_le (Nat.le_refl _)]at a1;rw[length_map]at a4;rename_i ow h4 h5 G H8 S8 e8;cbv;cbv;have a9:=a7.trans S8;have e4:=r.trans a9;show(sc,_,d6,_,rfl,a9 _ _ b0,rfl,rfl,?_);show(x,_,dx,_,rfl,e4 _ _ hx,rfl,rfl,?_);show ixT (i:=0) ((c9.same S7).same S8) rfl ?_;show(x,e.1.nm,o,es.map (·.1),rfl,ht.same e4,λz=>absurd (mem_map.mpr ⟨e.1,gm,rfl⟩) z,λg' a5 hz=>?_);have g7:=d.gn e he g' a5 hz;subst g7;show(pl,d.gn e he,λp O q hq h=>JgQ d.nd O hq h,d.pok,d.plb,d.pls,d.tok e he,λv H9 S9 fv=>?_);have c8:=a9.trans S9;show(sc,v,roomF pl e.1,b,fs,rfl,f3.same c8,fv,(d.rb e he).mono ⋯ ⋯,λq t i0 a6 g3 hL=>?_);have f7:=c8.trans a6;have tb:=hL.fb (d.rb e he) sb |>.mono (C:=2200) (D:=56) ⋯ ⋯
    show(.ref q,ow,_,ts,t,rfl,FrV.of g3,tb,SqL.of (a6 _ _ (S9 _ _ e8)),a0.mono (λ_ _ z=>z.sameT (S8.trans (S9.trans a6)).t),b4,by ac_nf,λbb h0 e9 b3=>?_);rw[a1,hL.vl (d.rb e he).b1,scaled bq, <- Jja (d.way e he w hw f2)]at b3;cases bb with
    | true=>
     cbv;show(li,_,_,rfl,U.trans (S7.trans (S8.trans (S9.trans (a6.trans e9)))),λj e' M a8=>?_);rcases Nat.lt_succ_iff_lt_or_eq.mp M with M | rfl
     .show b5 j e' M a8
     .rw[d5]at a8;cases a8;show b3.mp rfl
    | false=>
     cbv;show k false h0 (r.trans (f7.trans e9)) ⟨λz=>(by cases z),λz=>?_⟩;show(Bool.false_ne_true (b3.mpr (z.2 e he))).elim
  .rintro σ H6 ⟨hi,v6,v7,rfl,U,b5⟩;cbv;show k true H6 (d8.trans U) ⟨λ_=>⟨d0,λe he=>?_⟩,λ_=>rfl⟩;let(j,M):=List.getElem?_of_mem he;show b5 j e (by have:=(List.getElem?_eq_some_iff.mp M).1;ac_nf) M
abbrev Ba3:Stmt:=top 55
theorem JdO:Jan ["thing","name","gap"] ["thing","name"] (Jae Ba3):=by bv_decide
def JcS(K:W.Frag)(Ad:Adr):Sp:=λvs H Q E=>∃(x:Addr)(z:Str)(ls:List PD)(gs:List GD),vs=[.ref x, .str z]/\TK K Ad H x ls gs/\gs.length<=20/\((∀ g∈gs,g.nm≠z)->∀ H',Same H H'->E (.ref Ad.NoName) none H')/\(∀ g∈gs,g.nm=z->∀ v H',Same H H'->TV K H' g.td v->Q v H')
theorem Jgb(F:FunD K "gap_named" "gap_named" Ba3 dV f fd)(T:Txt K mg Ad)(BaX:MCal P w K mg base 2 "gaps" (JaH Ad) ["self"] (JaZ K Ad)):FnOk P w K mg base (CX1 P w) 3 f fd ["thing","name"] (JcS K Ad):=by
 show F.okx JdO (λO H Q E h=>?_) (λa1 A n s H O Q E t h=>?_)
 .let(x,z,I,o,rfl,_):=h;rfl
 let(x,z,I,o,rfl,h):=h;have a:=t.units;show(_,(Jab (Ja2 PassesOwn.leaving rfl (pi_U (BaX.m0 t ⋯ pass1 (pv 0))) (Jaq 2 JdO.nd) (Jah (ps_if (Jaw (JcN a) (pe_ix ix_U (pv 2) Jad) (pv 1) (Jax _)) (Jah (Jap (pv 2)))
   Jat))) (Jah (JdY PySem.F.excBase_ValueError T.BbW rfl T.BcX (Jaa JaY Jac)))),?_)
 clear a;let(D,hl,N,k):=h;have sl:(1000:Nat)<=sizeLine:=by decide
 let(S,d1,d2,d3,k1,k2,k3,R,_):=id D;show tSeq _ _ _ [some (.ref x),some (.str z),none] H;cbv;show(x,_,S,_,rfl,R,rfl,rfl,?_);cbv;show(x,I,o,rfl,D,hl,λl B H1 G a0 J p=>?_);have lg:=p.length;cbv;show(l,rfl,ForA.byL (xs:=B) (SqL.of J) (λi σ r=>i<=B.length/\(∀ g∈o.take i,g.nm≠z)/\∃ j:Option V,σ=[some (.ref x),some (.str z),j]/\r=H1) ⟨Nat.zero_le _,(λg d=>by simp at d),none,rfl,rfl⟩ (λi σ r q=>by let(_,_,_,_,rfl):=q;show SqL.of J) ?_ ?_)
 .rintro i y σ m C ⟨Z,e,j,rfl,rfl⟩;have Y:=(List.getElem?_eq_some_iff.mp C).1;let(g,d,v):=p.at_ C;let(b,X,M,rfl,W,U,L):=id v;cbv;show ixT (i:=0) W rfl ?_;cbv;by_cases c:g.td.nm=z
  .rw[if_pos (decide_eq_true c)];cbv;cbv;show k g (List.mem_of_getElem? d) c _ m G v
  .rw[if_neg (λh=>c (of_decide_eq_true h))];cbv;cbv;show(Y,λu a=>?_,_,rfl,trivial);rw[take_succ,d]at a;rcases mem_append.mp a with h | h
   .show e u h
   .rw[mem_singleton.mp h];show c
 .rintro σ m ⟨Z,e,j,rfl,rfl⟩;rw[take_of_length_le ∅]at e;cbv;show(by show 1<=sizeLine;ac_nf,N e m G)
abbrev Bbd:Stmt:=top 56
theorem Jg0:Jan ["rows","row"] ["rows","row"] (Jae Bbd):=by bv_decide
def Jdd(K:W.Frag):Sp:=λvs H Q E=>∃(a b:Addr)(gs:List GD)(g:GD)(zs:List V),vs=[.ref a, .ref b]/\H a=some (.lst zs)/\All2 (λ(g:GD) v=>TV K H g.td v) gs zs/\gs.length<=20/\TV K H g.td (.ref b)/\∀ l ys H',Same H H'->H' l=some (.lst ys)->All2 (λ(g:GD) v=>TV K H' g.td v) (gs.map λu=>if u.nm=g.nm then g else u) ys->Q (.ref l) H'
theorem JgO(F:FunD K "with_row" "with_row" Bbd dV f fd)(T:Txt K mg Ad)  : FnOk P w K mg base (CX1 P w) 1 f fd ["rows","row"] (Jdd K):=by
 show F.okn Jg0 (by subst_eqs) (λR A n s H I Q E J h=>?_)
 let(a,b,C,g,D,rfl,h):=h;have m:=J.units;show(_,(Jah (Jap (Jhp (own:=["other"]) (cs:=[(1,"row")]) rfl (pi_U (pv 0)) (λ_ _ _ _=>(Jaq 0 (show[("other" : Str),("row" : Str)].Nodup by decide))) (λ_ _ _ _=>(Jfw (Jaw (Jmw (K:=K) rfl m) (pe_ix (ix_UK (K:=K) rfl) (pv 0) Jad) (pe_ix (ix_UK (K:=K) rfl) (pv 1) Jad) (Jax _)) (pv 1) (pv 0))) (Jd6 rfl) ⋯ rfl ⋯
   (hcs1 rfl rfl rfl)))),?_)
 clear m;let(x,q,hl,G,k):=h;have V:(1000:Nat)<=sizeLine:=by decide
 have X:=q.length;show tRet _ _ [some (.ref a),some (.ref b)] H;cbv;show(a,rfl, .inl ⟨⟨_,SqL.of x⟩,CompJ.list (xs:=D) (λi j d=>d=H/\All2 (λ(g:GD) v=>TV K H g.td v) ((C.take i).map λu=>if u.nm=g.nm then g else u) j) ⟨rfl,rfl⟩ (λi j d Y z=>⟨by rw[z.1];show SqL.of x,by have:=z.2.length;rw[length_map,length_take]at this;ac_nf⟩) ?_ ?_⟩)
 .rintro i y j d M ⟨rfl,e⟩;simpa only[length_singleton,length_cons,length_nil,List.replicate,Jaz,map_cons,map_nil,Option.join_some];let(u,m,r):=q.at_ M;let(W,_,_,rfl,p,_,_):=id r;let(Z,_,_,L,o,_,_):=id G;cases L;show ixT (i:=0) p rfl ?_;show ixT (i:=0) o rfl ?_;cbv;rw[take_succ,m,Option.toList_some,map_append];by_cases c:u.td.nm=g.td.nm
  .rw[if_pos (decide_eq_true c)];cbv;show e.append (All2.one ?_)
   (show TV K d (if u.nm=g.nm then g else u).td _)
   (rw[if_pos (show u.nm=g.nm from c)])
   show G
  .rw[if_neg (λh=>c (of_decide_eq_true h))];cbv;show e.append (All2.one ?_)
   (show TV K d (if u.nm=g.nm then g else u).td _)
   (rw[if_neg (show¬ u.nm=g.nm from c)])
   show r
 rintro j d ⟨rfl,e⟩;rw[take_of_length_le ∅]at e;rename_i l N O d U B S;cbv;show k l j U B S (e.mono λ_ _ z=>TV.sameT B.t z)
abbrev BbF:Stmt:=top 57
theorem JdF:Jan ["thing","name","low","high","gap","row"] ["thing","name","low","high"] (Jae BbF):=by bv_decide
def Jcs(K:W.Frag)(Ad:Adr):Sp:=λvs H Q E=>∃(x:Addr)(z:Str)(vl_ vh_:V)(lo hi:Int × Int)(ls:List PD)(gs:List GD),vs=[.ref x, .str z,vl_,vh_]/\TK K Ad H x ls gs/\FrV K H vl_ lo.1 lo.2/\FrV K H vh_ hi.1 hi.2/\FOk 600 lo/\FOk 600 hi/\ls.length<=20/\gs.length<=20/\(∀ p∈ls,POk p)/\(∀ g∈gs,TOk g.td)/\(ls.map (·.nm)).Nodup/\(gs.map (·.nm)).Nodup/\Tree ls/\(∀ g∈gs,Conn ls g.st g.en)/\((∀ g∈gs,g.nm≠z)->∀ H',Same H H'->E (.ref Ad.NoName) none H')/\(∀ g∈gs,g.nm=z->(okG ⟨g.nm,g.st,g.en,lo,hi⟩=false->∀ H',Same H H'->E (.ref Ad.NoGap) none H')/\(okG ⟨g.nm,g.st,g.en,lo,hi⟩=true->∀ y H',Same H H'->TK K Ad H' y ls (gs.map λu=>if u.nm=g.nm then⟨g.nm,g.st,g.en,lo,hi⟩else u)->Q (.ref y) H'))
theorem JhP(F:FunD K "changed" "changed" BbF dV f fd)(T:Txt K mg Ad)(Bb2:Cal P w K mg base 3 "gap_named" ["thing","name"] [] (JcS K Ad))(Bce:Cal P w K mg base 1 "with_row" ["rows","row"] [] (Jdd K))(Bb3:KCal P w K mg base 9 "Thing" Ad.Thing ["self","parts","gaps"] (Jbf K Ad))(Bak:MCal P w K mg base 2 "parts" (JaH Ad) ["self"] (JaG K Ad))(BaX:MCal P w K mg base 2 "gaps" (JaH Ad) ["self"] (JaZ K Ad)):FnOk P w K mg base (CX1 P w) 11 f fd ["thing","name","low","high"] (Jcs K Ad):=by
 show F.okx JdF (λvs H Q E h=>?_) (λa8 A X s H vs Q E N h=>?_)
 .let(x,z,j,B,n,o,M,d,rfl,_):=h;rfl
 let(x,z,j,B,n,o,M,d,rfl,h):=h;show(_,(Jab (Jak 4 JdF.nd (Bb2.ev N ⋯ rfl pass1 (Jaa (pv 0) (Jaa (pv 1) Jac)))) (Jab (Jak 5 JdF.nd (JaJ (Jaa (pe_ix ix_U (pv 4) Jad) (Jaa (pe_ix ix_U (pv 4) Jad) (Jaa (pe_ix ix_U (pv 4) Jad) (Jaa (pv 2) (Jaa (pv 3) Jac))))))) (Jah (Jap (Bb3.ev N ⋯ rfl pass1 (Jaa (Bak.m0 N ⋯ pass1 (pv 0)) (Jaa (Bce.ev N ⋯ rfl pass1 (Jaa (BaX.m0 N ⋯ pass1 (pv 0)) (Jaa (pv 5) Jac))) Jac))))))),?_)
 let(W,a5,a2,fl,fh,J,e,a4,m,I,a1,tr,U,kE,k):=h;have sl:(1000:Nat)<=sizeLine:=by decide
 show tSeq _ _ _ [some (.ref x),some (.str z),some j,some B,none,none] H;cbv;show(x,z,M,d,rfl,W,e,kE,λg V hz v H1 S1 tv=>?_);let(a0,k2):=k g V hz;let(b,vo,vp,rfl,C,_,_):=tv
 mframe;show ixT (i:=0) C rfl ?_;show ixT (i:=1) C rfl ?_;show ixT (i:=2) C rfl ?_;cbv;show(by show 5<=sizeLine;decide,?_);rename_i q b0 b1 H1 H2 S2 e2;cbv
 mframe;have G:=S1.trans S2;let(dx,d1,d2,d3,k1,a9,k3,hx,_):=id W;show(x,_,dx,_,rfl,G _ _ hx,rfl,rfl,?_);cbv;show(x,M,d,rfl,W.same G,J,λpl px H3 S3 a6 ep hP=>?_);have D:=G.trans S3;cbv;show(x,_,dx,_,rfl,D _ _ hx,rfl,rfl,?_);cbv;show(x,M,d,rfl,W.same D,e,λgl gx H4 S4 a7 eg hG=>?_);have p:=D.trans S4;cbv;have hq:TV K H4 (GD.td ⟨g.nm,g.st,g.en,n,o⟩) (.ref q):=⟨q,j,B,rfl,SqT.of ((S3.trans S4) _ _ e2),a5.same p,a2.same p⟩;show(gl,q,d,⟨g.nm,g.st,g.en,n,o⟩,gx,rfl,eg,hG,e,hq,λrl rx H5 S5 er hR=>?_);have R:=p.trans S5;have L:=S4.trans S5;cbv;have a:=m g V;have Y:(d.map λu=>if u.nm=g.nm then(⟨g.nm,g.st,g.en,n,o⟩:GD)else u).map (·.nm)=d.map (·.nm):=by
  rw[map_map];show List.map_congr_left λu _=>?_
  (show(if u.nm=g.nm then(⟨g.nm,g.st,g.en,n,o⟩:GD)else u).nm=u.nm)
  by_cases c:u.nm=g.nm
  .rw[if_pos c];show c.symm
  .rw[if_neg c];cbv
 have mm:∀ u∈d.map (λu=>if u.nm=g.nm then(⟨g.nm,g.st,g.en,n,o⟩:GD)else u),u=⟨g.nm,g.st,g.en,n,o⟩\/u∈d:=λu l=>by
  let(w,hw,rfl):=mem_map.mp l;by_cases c:w.nm=g.nm
  .show .inl (if_pos c)
  .show .inr (by rw[if_neg c];show hw)
 intro y dy hy a3 b2;have Sm:Same H5 (upd (upd H5 dy (.own y)) y (.ins Ad.Thing dy [])):=λb u q=>by rw[Jag (Jai q hy),Jag (Jai q a3)];show q
 show(y,dy,pl,rl,px,rx,M,_,H5,rfl,Jaj,hy,Sm,SqL.of (L _ _ ep),hP.mono (λ_ _ z=>z.sameT L.t),SqL.of er,hR,J,by rw[length_map];show e,a4,λu l=>?_,I,by rw[Y];show a1,Jg2 tr I,λu l=>?_,λO Z S6=>?_,λS Z S6 tk=>⟨rfl,?_⟩)
 .rcases mm u l with rfl | h
  .show(a.n1,a.n2,a.n3,a.ne,fl,fh)
  .show(TOk.r (m u h)).1
 .rcases mm u l with rfl | h
  .show U g V
  .show U u h
 .show a0 ?_ Z (R.trans S6);let(u,l,C):=O;rcases mm u l with rfl | h
  .show C
  .rw[(TOk.r (m u h)).2]at C;cases C
 .show k2 ?_ y Z (R.trans S6) tk;show S _ (mem_map.mpr ⟨g,V,if_pos rfl⟩)
abbrev Bbe:Stmt:=top 59
theorem Jcy:Jan ["_law_script","_law_k","_law_total","_law_j"] ["_law_script","_law_k"] (Jae Bbe):=by bv_decide
def Jb4(K:W.Frag):Sp:=λvs H Q E=>∃(a:Addr)(ns:List Int)(k:Int),vs=[.ref a, .int k]/\SqL K H a (ns.map V.int)/\ns.length<=63/\0<=k/\k<=1000/\∀ v:Int,Q (.int v) H
theorem JgJ(F:FunD K "_law_cell" "_law_cell" Bbe dV f fd)(T:Txt K mg Ad)  : FnOk P w K mg base (CX1 P w) 1 f fd ["_law_script","_law_k"] (Jb4 K):=by
 show F.okn Jcy (by subst_eqs) (λo A b s H m Q E p h=>?_)
 let(a,g,k,rfl,h):=h;show(_,(Jab (Jak 2 Jcy.nd Jad) (Jab (Ja2 PassesOwn.never rfl (JiT rfl T.BcW (Jaa (pv 1) (Jaa (Jay (Jid rfl) rfl T.Bef Jl3 (Jaa (Jay Ja8 rfl T.Bb5 Jb6 (Jaa (pv 0) Jac)) (Jaa Jad Jac))) (Jaa Jad Jac)))) (Jaq 3 Jcy.nd) (Jah (Jak 2 Jcy.nd (pe_op JaI (pv 2) (pe_op JaC (pe_ix ix_U (pv 0) (pv 3)) (pe_op JaI Jad (pv 3))))))) (Jah (Jap (pv 2))))),?_)
 let(e,r,l,u,q):=h;let(k,rfl):=Int.eq_ofNat_of_zero_le l;show tSeq _ _ _ [some (.ref a),some (.int (k:Int)),none,none] H;cbv;show(_, .inl e,?_);simpa only[length_map];show(_,_,_,rfl,⟨by ac_nf,by ac_nf,by split <;> ac_nf,by split <;> ac_nf,by decide,by decide⟩,?_);show ForQ.by (λi σ c=>∃(t:Int)(v:Option V),σ=[some (.ref a),some (.int (k:Int)),some (.int t),v]/\c=H) ⟨0,none,rfl,rfl⟩ ?_ ?_
 .rintro i σ c d ⟨t,v,rfl,rfl⟩;have n:k+i*30<g.length:=by
   unfold rsz at d;split at d <;> split at d <;> ac_nf
  have j:(k:Int)+(i:Int)*30=((k+i*30:Nat):Int):=by ac_nf
  rw[j];cbv;show ixL e (by rw[List.getElem?_map,List.getElem?_eq_getElem n];rfl) ?_;cbv;show(Jku (.lit ∅ ∅),_,_,rfl,trivial)
 .rintro σ c ⟨t,v,rfl,rfl⟩;cbv;show q t
abbrev BaS:Stmt:=top 60
theorem JfD:Jan ["_law_cell_here","_law_most"] ["_law_cell_here","_law_most"] (Jae BaS):=by bv_decide
def JcF  : Sp:=λvs H Q E=>∃(c m:Int),vs=[.int c, .int m]/\1<=m/\∀ v:Int, -m<v->v<m->Q (.int v) H
theorem Jfr(F:FunD K "_law_signed" "_law_signed" BaS dV f fd)(T:Txt K mg Ad)  : FnOk P w K mg base (CX1 P w) 1 f fd ["_law_cell_here","_law_most"] (JcF):=by
 show F.okn JfD (by subst_eqs) (λd A a s H b Q E e h=>?_)
 let(c,m,rfl,h):=h;show(_,(Jab (ps_if (Jaw Jep (pv 0) Jad (Jax _)) (Jah (Jap (pe_op JdM Jad (pe_op JaD (pe_op JdM Jad (pv 0)) (pv 1)))))
   Jat) (Jah (Jap (pe_op JaD (pv 0) (pv 1))))),?_)
 let(g,k):=h;show tSeq _ _ _ [some (.int c),some (.int m)] H;cbv;by_cases z:c<0
 .rw[if_pos (by simpa using z)];cbv;cbv;have f:=Mth.fm (x:=0-c) (y:=m) (by omega);show(by omega,k _ (by omega) (by omega))
 .rw[if_neg (by simpa using z)];cbv;cbv;have f:=Mth.fm (x:=c) (y:=m) (by omega);show(by omega,k _ (by omega) (by omega))
abbrev BbG:Stmt:=top 61
theorem JbX:Jan ["_law_top","_law_bottom","_law_one","_law_other","_law_rest"] ["_law_top","_law_bottom"] (Jae BbG):=by bv_decide
def JbY  : Sp:=λvs H Q E=>∃(t b:Int),vs=[.int t, .int b]/\1<=b/\Mth.Sz 8000 b/\∀ p H',Same H H'->H' p=some (.tup [.int (Mth.top t b), .int (Mth.bot t b)])->Q (.ref p) H'
theorem JhS(F:FunD K "_law_low" "_law_low" BbG dV f fd)(T:Txt K mg Ad)  : FnOk P w K mg base (CX1 P w) 1 f fd ["_law_top","_law_bottom"] (JbY):=by
 show F.okn JbX (by subst_eqs) (λD A j s H v Q E B h=>?_)
 let(t,b,rfl,h):=h;have r:=B.units;show(_,(Jab (Jak 2 JbX.nd (pv 0)) (Jab (Jak 3 JbX.nd (pv 1)) (Jab (JdZ PassesOwn.never (Jaw (JbO r) (pv 3) Jad (Jax _)) (Jab (Jak 4 JbX.nd (pe_op JaD (pv 2) (pv 3))) (Jab (Jak 2 JbX.nd (pv 3)) (Jah (Jak 3 JbX.nd (pv 4)))))) (Jah (Jap (JaJ (Jaa (pe_op Jas (pv 0) (Jay Jdf rfl T.BdX Jg9 (Jaa (pv 2) Jac))) (Jaa (pe_op Jas (pv 1) (Jay Jdf rfl T.BdX Jg9 (Jaa (pv 2) Jac))) Jac)))))))),?_)
 clear r;let(L,C,k):=h;show tSeq _ _ _ [some (.int t),some (.int b),none,none,none] H;cbv;show(λm σ l=>∃(x y:Int)(z:Option V),σ=[some (.int t),some (.int b),some (.int x),some (.int y),z]/\l=H/\0<=y/\Mth.g x y=Mth.g t b/\y.toNat=m,⟨_,_,_,none,rfl,rfl,by ac_nf,rfl,rfl⟩,?_);rintro m σ l ⟨x,y,z,rfl,rfl,M,u,rfl⟩;cbv;by_cases c:y=0
 .subst c;rw[if_neg (by simp)];cbv;have N:=Mth.g_pos (a:=t) (b:=b) ∅;have J:=Mth.g_le (a:=t) (b:=b) ∅;have o:DivOk (Mth.g t b):=divOk (n:=8000) ∅ (Nat.lt_of_le_of_lt (by ac_nf:(Mth.g t b).natAbs<=b.natAbs) C);have e:(if x<0 then -x else x)=Mth.g t b:=by
   rw[<- u,Mth.Jks];split <;> ac_nf
  cbv;rw[e];show(o,o,len2,?_);show Jeh λp I S G=>k p I S ?_;rw[G];unfold Mth.top Mth.bot Mth.by_;rw[if_neg ∅];cbv
 .rw[if_pos (by simp[c])];cbv;have f:=Mth.fm (x:=x) (y:=y) ∅;show(_,λ_ _ q=>q,?_);cbv;have d:Mth.g y (x.fmod y)=Mth.g t b:=by rw[Mth.Jit ∅];show u
  show(c,?_);cbv;first
   | show((x.fmod y).toNat,by ac_nf,y,x.fmod y,_,rfl,f.1,d,rfl)
   | show((x.fmod y).toNat,by ac_nf,y,x.fmod y,_,rfl,rfl,f.1,d,rfl)
abbrev Bbf:Stmt:=top 62
theorem JgZ:Jan ["_law_one","_law_other","_law_sign"] ["_law_one","_law_other","_law_sign"] (Jae Bbf):=by bv_decide
def Jbn(K:W.Frag):Sp:=λvs H Q E=>∃(x y:V)(g:Int)(a c:Fr2)(s:Bool),vs=[x,y, .int g]/\(g=if s then 1 else -1)/\FrV K H x a.1 a.2/\FrV K H y c.1 c.2/\FW 3000 3000 a/\FW 3000 3000 c/\∀ p H',Same H H'->H' p=some (.tup [.int (addF a (sgn s c)).1, .int (addF a (sgn s c)).2])->Q (.ref p) H'
theorem JgL(F:FunD K "_law_plus" "_law_plus" Bbf dV f fd)(T:Txt K mg Ad)(Baq:Cal P w K mg base 1 "_law_low" ["_law_top","_law_bottom"] [] (JbY)):FnOk P w K mg base (CX1 P w) 2 f fd ["_law_one","_law_other","_law_sign"] (Jbn K):=by
 show F.okn JgZ (by subst_eqs) (λt A j s H o Q E q h=>?_)
 let(x,y,g,a,c,s,rfl,h):=h;show(_,(Jah (Jap (Baq.ev q ⋯ rfl passF (Jaa (pe_op JaI (pe_op JaC (pe_ix ix_U (pv 0) Jad) (pe_ix ix_U (pv 1) Jad)) (pe_op JaC (pe_op JaC (pv 2) (pe_ix ix_U (pv 1) Jad)) (pe_ix ix_U (pv 0) Jad))) (Jaa (pe_op JaC (pe_ix ix_U (pv 0) Jad) (pe_ix ix_U (pv 1) Jad)) Jac))))),?_);let(n,l,m,i,b,k):=h;have d:Mth.Sz 4 g:=by
  rw[n];cases s
  .show .lit ⋯ ⋯
  .show .lit ⋯ ⋯
 have u:(sgn s c).1=g*c.1:=by
  rw[n];cases s
  .show -c.1 = -1*c.1;ac_nf
  .show c.1=1*c.1;ac_nf
 have r:(sgn s c).2=c.2:=by cases s <;> rfl
 unfold addF at k;rw[u,r]at k;show tRet _ _ [some x,some y,some (.int g)] H;cbv;show ixF0 l (ixF1 m ?_);cbv;show(mulOk i.s1 b.s2,ixF0 m ?_);cbv;show(mulOk d b.s1,ixF1 l ?_);cbv;show(mulOk (d.mul b.s1) i.s2,ixF1 l (ixF1 m ?_));cbv;show(mulOk i.s2 b.s2,_,_,rfl,?_,(i.s2.mul b.s2).mono ⋯,λp v S e=>k p v S e);have:=Int.mul_pos (show 0<a.2 by have:=i.b1;ac_nf) (show 0<c.2 by have:=b.b1;ac_nf);ac_nf
abbrev Ba4:Stmt:=top 63
theorem JaL:Jan ["_law_script","_law_parts_here","_law_places","_law_style","_law_k","_law_cell_here","_law_mixed","_law_size","_law_faces","_law_sign","_law_name"] ["_law_script"] (Jae Ba4):=by bv_decide
def JcT(K:W.Frag):Sp:=λvs H Q E=>∃(a:Addr)(ns:List Int),vs=[.ref a]/\SqL K H a (ns.map V.int)/\ns.length<=63/\∀(q pl ml:Addr)(px mx:List V)(st:Nat)(ls:List PD)(ms:List Fr2)(H':Hp),Same H H'->H' q=some (.tup [.ref pl, .ref ml])->H' pl=some (.lst px)->All2 (PDV K H') ls px->H' ml=some (.lst mx)->All2 (λ(m:Fr2) v=>FrV K H' v m.1 m.2) ms mx->Rw st ls ms->1<=ls.length->ls.length<=8->Q (.ref q) H'
theorem Jgc(F:FunD K "_law_parts" "_law_parts" Ba4 dV f fd)(T:Txt K mg Ad)(Bag:Cal P w K mg base 1 "_law_cell" ["_law_script","_law_k"] [] (Jb4 K))(BbR:Cal P w K mg base 1 "_law_signed" ["_law_cell_here","_law_most"] [] (JcF))(Baq:Cal P w K mg base 1 "_law_low" ["_law_top","_law_bottom"] [] (JbY))(Bae:Cal P w K mg base 2 "_law_plus" ["_law_one","_law_other","_law_sign"] [] (Jbn K)):FnOk P w K mg base (CX1 P w) 3 f fd ["_law_script"] (JcT K):=by
 show F.okn JaL (by subst_eqs) (λg8 A d6 s H vs Q E hr h=>?_)
 let(a,ns,rfl,h):=h;show(_,(Jab (Jak 1 JaL.nd (Jbc Jac)) (Jab (Jak 2 JaL.nd (Jbc (Jaa (JaJ (Jaa Jad (Jaa Jad Jac))) Jac))) (Jab (Jak 3 JaL.nd (pe_op JaD (Bag.ev hr ⋯ rfl passF (Jaa (pv 0) (Jaa Jad Jac))) Jad)) (Jab (Ja2 PassesOwn.never rfl (Jet rfl T.BcW (Jaa (pe_op JaI Jad (pe_op JaD (Bag.ev hr ⋯ rfl passF (Jaa (pv 0) (Jaa Jad Jac))) Jad)) Jac)) (Jaq 4 JaL.nd) (Jab (Jak 5 JaL.nd (Bag.ev hr ⋯ rfl passF (Jaa (pv 0) (Jaa (pe_op JaI Jad (pv 4)) Jac)))) (Jab (Jak 6 JaL.nd (pe_op Jas (pe_op JaD (pe_op JaC (pv 5) Jad) Jad) Jad)) (Jab (Jak 7 JaL.nd (Baq.ev hr ⋯ rfl passF (Jaa (BbR.ev hr ⋯ rfl passF (Jaa (pv 5) (Jaa (pe_ix ix_U (Jbc (Jaa Jad (Jaa (pe_op Jls Jad Jad) Jac))) (pe_op JaD (pe_op Jas (pv 6) Jad) Jad)) Jac))) (Jaa (pe_op JaI Jad (pe_op JaD (pe_op Jas (pv 6) Jad) Jad)) Jac)))) (Jab (Jak 8 JaL.nd (Jbc (Jaa (pe_ix ix_U JaY (pv 4)) (Jaa (pe_ix ix_U JaY (pe_op JaI (pv 4) Jad)) Jac)))) (Jab (Jak 9 JaL.nd (pe_op JdM Jad (pe_op JaC Jad (pe_op JaD (pe_op Jas (pv 6) Jad) Jad)))) (Jab (ps_if (Jaw Jep (pv 9) Jad (Jax _)) (Jah (Ja6 (Jkw PySem.F.plainAttrs_list PySem.F.slot_list_reverse PySem.F.type_list_reverse JhO (pv 8))))
   Jat) (Jab (Jak 10 JaL.nd (pe_op JaI (pe_op JaI (pe_op JaC JaY (pv 3)) (pe_ix ix_U JaY (pv 4))) (pe_op JaC JaY (pe_op JdM Jad (pv 3))))) (Jab (Ja6 (pe_bm PySem.F.plainAttrs_list PySem.F.slot_list_append PySem.F.type_list_append Ja9 (pv 1) (Jaa (JaJ (Jaa (pv 10) (Jaa (pe_ix ix_U (pv 8) Jad) (Jaa (pe_ix ix_U (pv 8) Jad) (Jaa (pv 7) (Jaa (Baq.ev hr ⋯ rfl passF (Jaa (pe_op JaD (pv 6) Jad) (Jaa Jad Jac))) (Jaa (pe_op JaI Jad (pe_op JaD (pe_op Jas (pv 6) Jad) Jad)) Jac))))))) Jac) (hs:=by show Jaf rfl))) (Jah (Ja6 (pe_bm PySem.F.plainAttrs_list PySem.F.slot_list_append PySem.F.type_list_append Ja9 (pv 2) (Jaa (Bae.ev hr ⋯ rfl passF (Jaa (pe_ix ix_U (pv 2) (pv 4)) (Jaa (pv 7) (Jaa (pv 9) Jac)))) Jac) (hs:=by show Jaf rfl))))))))))))) (Jah (Jap (JaJ (Jaa (pv 1) (Jaa (pv 2) Jac))))))))),?_)
 let(hS,hl,k):=h;have sl:(1000:Nat)<=sizeLine:=by decide
 have Z:(Str.ofString "x").cps.toList=[120]:=by decide
 have g4:(Str.ofString "x").length=1:=by decide
 have c7:(Str.ofString "fghijklmn").cps.toList=List.range' 102 9:=by decide
 have f2:(Str.ofString "abcdefgh").cps.toList=List.range' 97 8:=by decide
 show tSeq _ _ _ [some (.ref a),none,none,none,none,none,none,none,none,none,none] H;cbv;show(len0,?_);rename_i pl c8 g5 H H1 S1 e1;cbv
 mframe;show(len2,?_);rename_i m0 f8 g3 H1 H2 S2 e2;cbv;show(by show 1<=sizeLine;ac_nf,?_);rename_i S C g6 H2 H3 S3 e3;cbv
 mframe;have a8:=S1.trans (S2.trans S3);show(a,ns,1,rfl,hS.same a8,hl,by decide,by decide,λcs=>?_);cbv;mpure
 have q3:=Mth.fm (x:=cs) (y:=3) ⋯;let(st,b7):=Int.eq_ofNat_of_zero_le q3.1;rw[b7]at q3 ⊢
 mframe;show(a,ns,0,rfl,hS.same a8,hl,by decide,by decide,λc0=>?_);cbv;mpure
 have q0:=Mth.fm (x:=c0) (y:=8) ⋯;show(_,rfl,by ac_nf,by ac_nf,?_);have b9:st<=2:=by ac_nf
 have c9:pl≠S:=λz=>by rw[<- z,S2 _ _ e1]at C;cases C
 have d3:=JcL (S1.trans S2) C;clear q3 b7;show ForR.byN (λi σ H'=>∃(v4 v5 v6 v7 v8 v9 R:Option V)(X B:List V)(ls:List PD)(ms:List Fr2),σ=[some (.ref a),some (.ref pl),some (.ref S),some (.int (st:Int)),v4,v5,v6,v7,v8,v9,R]/\Same H H'/\H' pl=some (.lst X)/\All2 (PDV K H') ls X/\H' S=some (.lst B)/\All2 (λ(m:Fr2) v=>FrV K H' v m.1 m.2) ms B/\Rw st ls ms/\ls.length=i) ⟨none,none,none,none,none,none,none,[],[.ref m0],[],[(0,1)],rfl,a8,S3 _ _ (S2 _ _ e1),rfl,e3, .one (FrV.of (S3 _ _ e2)),Rw.start b9,rfl⟩ ?_ ?_
 .rintro i σ H4 hi ⟨v4,v5,v6,v7,v8,v9,R,X,B,ls,ms,rfl,S4,ep,hP,em,hM,hC,r⟩ N0 f1;have i7:i<8:=by ac_nf
  clear hi q0;have lp:=hP.length;have lm:=hM.length;have g9:=hC.len;cbv;try simp only[Int.zero_add]
  show(a,ns,_,rfl,hS.same S4,hl,by ac_nf,by ac_nf,λc1=>?_)
  mframe;mpure
  mspec
  generalize((c1*48271).fmod 2147483647).fdiv 37=w;cbv;mpure
  rename_i ol g0 f9 H4 H6 S6 e6;cbv;mpure
  have q5:=Mth.fm (x:=w.fdiv 64) (y:=2) ⋯;let(n5,c3):=Int.eq_ofNat_of_zero_le q5.1;rw[c3]at q5 ⊢;obtain⟨mo,d5,m1,m2⟩:∃ mo:Int,[V.int 9, .int 10000000000000000000000000000000000000000][n5]?=some (.int mo)/\1<=mo/\mo<=10000000000000000000000000000000000000000:=pick9 ∅;show ixL (i:=n5) (SqL.of e6) d5 ?_;clear q5 c3;cbv;show(c1,mo,rfl,by ac_nf,λsg f7 D=>?_);cbv;mpure
  have b1:1<=1+(w.fdiv 128).fmod 12:=fm1 ⋯;have b2:Mth.Sz 4 (1+(w.fdiv 128).fmod 12):=szF ⋯ ⋯ ⋯;have zb:=FB.low (A:=133) b1 (.lit ∅ ∅:Mth.Sz 133 sg) b2;show(_,_,rfl,b1,b2.mono ⋯,λfz H7 S7 e7=>?_);obtain⟨L,o⟩:∃ L:Fr2,L=(Mth.top sg (1+(w.fdiv 128).fmod 12),Mth.bot sg (1+(w.fdiv 128).fmod 12)):=⟨_,rfl⟩;rw[<- o]at zb;have e7:H7 fz=some (.tup [.int L.1, .int L.2]):=by rw[e7,o]
  clear b1 b2 m1 m2 o f7 D
  mframe;show(102+i,by decide,by rw[c7];show Jcf (by rw[List.getElem?_range' ∅,Nat.one_mul]),?_);cbv;rw[show(i:Int)+1=((i+1:Nat):Int)from rfl];show(102+(i+1),by decide,by rw[c7];show Jcf (by rw[List.getElem?_range' ∅,Nat.one_mul]),?_);rw[fcK (st:=st),fcK (st:=st)];cbv;show(len2,?_);rename_i fl d2 g2 H7 Hf Sf ef
  mframe;mpure
  have q2:=Mth.fm (x:=w.fdiv 2048) (y:=2) ⋯;obtain⟨d,hd⟩:∃ d:Bool,1-2*(w.fdiv 2048).fmod 2=if d=true then 1 else -1:=by
   by_cases c:(w.fdiv 2048).fmod 2=0
   .show(true,by rw[c];rfl)
   .show(false,by rw[show(w.fdiv 2048).fmod 2=1 by ac_nf];rfl)
  (rw[hd])
  clear q2 hd;obtain⟨D,U⟩:∃ D:Int,D=if d=true then 1 else -1:=⟨_,rfl⟩
  (rw[<- U])
  mframe;rename_i N1 h0;have c5:∀ H8:Hp,Same H7 H8->H8 fl=some (.lst [.str (if d then nmK 102 st i else nmK 102 st (i+1)), .str (if d then nmK 102 st (i+1)else nmK 102 st i)])->N1 [some (.ref a),some (.ref pl),some (.ref S),some (.int (st:Int)),some (.int (i:Int)),some (.int c1),some (.int w),some (.ref fz),some (.ref fl),some (.int D),R] H8:=by
   intro H8 S8 b5
   mframe;show(by ac_nf,by ac_nf,by ac_nf,λz1 o=>?_);have a7:z1.cps.toList=List.replicate st 120:=by
    rw[o,Z];simp
   show(97+i,by decide,by rw[f2];show Jcf (by rw[List.getElem?_range' ∅,Nat.one_mul]),?_);cbv;have l1:z1.length=st:=by rw[JcY,a7,List.length_replicate]
   have a4:(z1++(⟨#[97+i]⟩:Str)).cps.toList=List.replicate st 120++[97+i]:=by rw[JdU,a7]
   have e4:(z1++(⟨#[97+i]⟩:Str)).length=st+1:=by rw[JcY,a4];simp
   have lc:(⟨#[97+i]⟩:Str).length=1:=rfl;show(by ac_nf,?_);cbv;show(by ac_nf,by ac_nf,by ac_nf,λz2 j=>?_);have a5:z2.cps.toList=List.replicate (2-st) 120:=by
    rw[j,Z];have:=tn2 b9;rw[this];simp
   have l3:z2.length=2-st:=by rw[JcY,a5,List.length_replicate]
   cbv;show(by ac_nf,?_);rw[nm_eq a4 a5];clear l3 a5 lc e4 a4 l1 a7 o j
   mframe;have b4:=S6.trans (S7.trans S8);show(.inl ⟨rfl,_,SqL.of (b4 _ _ ep)⟩,?_);cbv;show ixL (i:=0) (SqL.of b5) rfl ?_;show ixL (i:=1) (SqL.of b5) rfl ?_;cbv;mpure
   have q7:=Mth.fm (x:=w) (y:=7) ⋯;have b3:Mth.Sz 6 (3:Int):=.lit ⋯ ⋯;have mb:=FB.low (A:=100) (by decide:(1:Int)<=3) (szG ⋯ ⋯:Mth.Sz 100 (w.fmod 7)) b3;have mn:=JmT q7.1 (by decide:(1:Int)<=3);show(_,_,rfl,by decide,b3.mono ⋯,λfm H9 S9 e9=>?_);obtain⟨J,j⟩:∃ J:Fr2,J=(Mth.top (w.fmod 7) 3,Mth.bot (w.fmod 7) 3):=⟨_,rfl⟩;rw[<- j]at mb;have mn:0<=J.1:=by rw[j];show mn
   have e9:H9 fm=some (.tup [.int J.1, .int J.2]):=by rw[e9,j]
   clear j q7 b3;cbv;mpure
   have qw:=Mth.fm (x:=w.fdiv 8) (y:=5) ⋯;obtain⟨wt,a3⟩:∃ wt:Int,wt=1+(w.fdiv 8).fmod 5:=⟨_,rfl⟩
   (rw[<- a3])
   show(by show 6<=sizeLine;ac_nf,?_);rename_i pt g1 g7 H9 c4 d0 d8;cbv;have g:=b4.trans (S9.trans d0);show(pl,X,_,rfl,rfl,g _ _ ep,by ac_nf,?_);generalize N:upd c4 pl _=l;cbv;have f0:l pl=some (.lst (X++[.ref pt])):=putE N;have a2:SameT c4 l:=SameT.put N (g _ _ ep) rfl;have n:l S=some (.lst B):=by rw[<- N,Jag (Ne.symm c9)];show g _ _ em
   have Y:SameT H9 l:=d0.t.trans a2;have a1:FrV K l (.ref fz) L.1 L.2:=FrV.of (Y _ _ rfl (S9 _ _ (S8 _ _ e7)));have d1:FrV K l (.ref fm) J.1 J.2:=FrV.of (Y _ _ rfl e9);have G:SameT H4 l:=g.t.trans a2;obtain⟨mv,b8⟩:∃ mv,B[i]?=some mv:=⟨_,List.getElem?_eq_getElem (by ac_nf:i<B.length)⟩;let(m,b0,e8):=hM.at_ b8
   mframe;show(.inl ⟨rfl,_,SqL.of n⟩,?_);cbv;show ixL (i:=i) (SqL.of n) b8 ?_;cbv;show(mv, .ref fz,_,m,L,d,rfl,U,FrV.sameT G e8,a1,(hC.mb ∅ b0).w.mono ⋯ ⋯,zb.w.mono ⋯ ⋯,λnp c2 I f3=>?_);cbv;show(S,B,_,rfl,rfl,I _ _ n,by ac_nf,?_);generalize M:upd c2 S _=O;cbv;have d4:O S=some (.lst (B++[.ref np])):=putE M;have c6:SameT c2 O:=SameT.put M (I _ _ n) rfl;have a6:nameS (nmK 112 st i)=true:=Jdi ⋯ ∅ ∅;have b6:nameS (nmK 102 st i)=true:=Jdi ⋯ ∅ ∅;have a9:nameS (nmK 102 st (i+1))=true:=Jdi ⋯ ∅ ∅;have nw:nmK 102 st i≠nmK 102 st (i+1):=λz=>by have:=Jdx z;ac_nf
   have d9:nameS (if d then nmK 102 st i else nmK 102 st (i+1))=true:=by cases d;show a9;show b6
   have e0:nameS (if d then nmK 102 st (i+1)else nmK 102 st i)=true:=by cases d;show b6;show a9
   have f6:(if d then nmK 102 st i else nmK 102 st (i+1))≠(if d then nmK 102 st (i+1)else nmK 102 st i):=by cases d;show nw.symm;show nw
   have W:Mth.Sz 21 wt:=a3 ▸ szF ⋯ ⋯ ⋯;have d7:1<=wt:=a3 ▸ fm1 ⋯;have f4:POk ⟨nmK 112 st i,if d then nmK 102 st i else nmK 102 st (i+1),if d then nmK 102 st (i+1)else nmK 102 st i,L,J,wt⟩:=⟨a6,d9,e0,f6,zb.ok ⋯ ⋯,mb.ok ⋯ ⋯,mn,d7,W.mono ⋯⟩;have f5:=hC.step (m:=m) (by rw[r];show b0) (p:=⟨nmK 112 st i,if d then nmK 102 st i else nmK 102 st (i+1),if d then nmK 102 st (i+1)else nmK 102 st i,L,J,wt⟩) (d:=d) (by rw[r]) (by rw[r]) (by rw[r]) zb mb f4 W;have e:=I.t.trans c6;show f1 _ _ ⟨_,_,_,_,_,_,_,X++[.ref pt],B++[.ref np],ls++[⟨nmK 112 st i,if d then nmK 102 st i else nmK 102 st (i+1),if d then nmK 102 st (i+1)else nmK 102 st i,L,J,wt⟩],_,rfl,λb w h=>?_,?_,?_,d4,?_,f5,by simp[r]⟩
   .rw[<- M,Jag (Jai h d3)];show I _ _ ?_;rw[<- N,Jag (Jai h c8)];show g _ _ (S4 _ _ h)
   .rw[<- M,Jag c9];show I _ _ f0
   .show(hP.mono (P':=PDV K O) λ_ _ z=>z.sameT (G.trans e)).append (.one ⟨pt,_,_,rfl,SqT.of ((a2.trans e) _ _ rfl d8),a1.sameT e,d1.sameT e⟩)
   .show(hM.mono (P':=λ(m:Fr2) v=>FrV K O v m.1 m.2) λ_ _ z=>FrV.sameT (G.trans e) z).append (.one (FrV.of (c6 _ _ rfl f3)))
  by_cases cd:d=true
  .subst cd
   (rw[if_neg (by rw[U];decide)])
   show c5 Hf Sf ef
  .have cd:d=false:=by simpa using cd
   subst cd
   (rw[if_pos (by rw[U];decide)])
   show(.inl ⟨rfl,_,SqL.of ef⟩,?_);show(fl,_,rfl,rfl,ef,?_);generalize a0:upd Hf fl _=Hr;have er:=putE a0;show c5 Hr (λb u h=>by rw[<- a0,Jag (Jai h d2)];show Sf _ _ h) er
 .rintro σ H4 ⟨v4,v5,v6,v7,v8,v9,R,X,B,ls,ms,rfl,S4,ep,hP,em,hM,hC,r⟩;cbv;show(len2,?_);rename_i q h1 h2 H4 H5 S5 e5;cbv;show k q pl S X B st ls ms H5 (S4.trans S5) e5 (S5 _ _ ep) (hP.mono λ_ _ z=>z.sameT S5.t) (S5 _ _ em) (hM.mono λ_ _ z=>FrV.same S5 z) hC ∅ ∅
abbrev BaT:Stmt:=top 64
theorem JbR:Jan ["_law_middle","_law_cell_here","_law_mixed","_law_below","_law_above"] ["_law_middle","_law_cell_here"] (Jae BaT):=by bv_decide
def JbT(K:W.Frag):Sp:=λvs H Q E=>∃(x:V)(c:Int)(m:Fr2),vs=[x, .int c]/\FrV K H x m.1 m.2/\FW 3000 3000 m/\∀(q p1 p2:Addr) (u v:Fr2) H',Same H H'->H' q=some (.tup [.ref p1, .ref p2])->FrV K H' (.ref p1) (addF m (negF u)).1 (addF m (negF u)).2->FrV K H' (.ref p2) (addF m v).1 (addF m v).2->FB 6 3 u->FB 6 3 v->0<=vl u+vl v->Q (.ref q) H'
theorem Jfp(F:FunD K "_law_bounds" "_law_bounds" BaT dV f fd)(T:Txt K mg Ad)(Baq:Cal P w K mg base 1 "_law_low" ["_law_top","_law_bottom"] [] (JbY))(Bae:Cal P w K mg base 2 "_law_plus" ["_law_one","_law_other","_law_sign"] [] (Jbn K)):FnOk P w K mg base (CX1 P w) 3 f fd ["_law_middle","_law_cell_here"] (JbT K):=by
 show F.okn JbR (by subst_eqs) (λX A l s H R Q E e h=>?_)
 let(x,c,m,rfl,h):=h;show(_,(Jab (Jak 2 JbR.nd (pe_op Jas (pe_op JaD (pe_op JaC (pv 1) Jad) Jad) Jad)) (Jab (Jak 3 JbR.nd (Baq.ev e ⋯ rfl passF (Jaa (pe_op JdM (pe_op JaD (pv 2) Jad) Jad) (Jaa (pe_op JaI Jad (pe_op JaD (pe_op Jas (pv 2) Jad) Jad)) Jac)))) (Jab (Jak 4 JbR.nd (Baq.ev e ⋯ rfl passF (Jaa (pe_op JaI (pe_op JaD (pe_op Jas (pv 2) Jad) Jad) Jad) (Jaa (pe_op JaI Jad (pe_op JaD (pe_op Jas (pv 2) Jad) Jad)) Jac)))) (Jah (Jap (JaJ (Jaa (Bae.ev e ⋯ rfl passF (Jaa (pv 0) (Jaa (pv 3) (Jaa (pe_un JeH Jad) Jac)))) (Jaa (Bae.ev e ⋯ rfl passF (Jaa (pv 0) (Jaa (pv 4) (Jaa Jad Jac)))) Jac)))))))),?_)
 let(D,fm,k):=h;show tSeq _ _ _ [some x,some (.int c),none,none,none] H;cbv;mpure
 mspec
 generalize((c*16807).fmod 2147483587).fdiv 37=w;cbv;mpure
 obtain⟨d,j⟩:∃ d:Int,d=1+(w.fdiv 64).fmod 5:=⟨_,rfl⟩;have b:1<=d:=j ▸ fm1 ⋯;have g:Mth.Sz 3 d:=j ▸ szF ⋯ ⋯ ⋯;have L:Mth.Sz 6 (w.fmod 19-2):=szH (c:=-2) ⋯ ⋯ ⋯;have C:=FB.low b L g;have U:Mth.Sz 6 ((w.fdiv 512).fmod 19+2):=szH ⋯ ⋯ ⋯;have p:=FB.low b U g;have B:=Jlh (t:=w.fmod 19-2) (u:=(w.fdiv 512).fmod 19+2) b (by have:=(Mth.fm (x:=w) (y:=19) ⋯).1;have:=(Mth.fm (x:=w.fdiv 512) (y:=19) ⋯).1;ac_nf)
 (rw[<- j])
 show(_,_,rfl,b,g.mono ⋯,λG H1 W z=>?_)
 mframe;mpure
 (rw[<- j])
 show(_,_,rfl,b,g.mono ⋯,λpv M I o=>?_);generalize hu:(Mth.top (w.fmod 19-2) d,Mth.bot (w.fmod 19-2) d)=u at C B;generalize hv:(Mth.top ((w.fdiv 512).fmod 19+2) d,Mth.bot ((w.fdiv 512).fmod 19+2) d)=v at p B;have z:H1 G=some (.tup [.int u.1, .int u.2]):=by rw[z, <- hu]
 have o:M pv=some (.tup [.int v.1, .int v.2]):=by rw[o, <- hv]
 mframe;have a:=W.trans I;show(x, .ref G,_,m,u,false,rfl,rfl,D.same a,FrV.of (I _ _ z),fm,C.w.mono ⋯ ⋯,λp1 H3 n N=>?_);cbv;show(x, .ref pv,_,m,v,true,rfl,rfl,D.same (a.trans n),FrV.of (n _ _ o),fm,p.w.mono ⋯ ⋯,λO S J Y=>?_);cbv;show(len2,?_);rename_i q V a0 S Z r e5;cbv;show k q p1 O u v Z (a.trans (n.trans (J.trans r))) e5 (FrV.of ((J.trans r) _ _ N)) (FrV.of (r _ _ Y)) C p B
abbrev Bbg:Stmt:=top 65
theorem JaT:Jan ["_law_script","_law_places","_law_gaps_here","_law_middles","_law_style","_law_k","_law_mixed","_law_one","_law_two","_law_low_here","_law_high","_law_name"] ["_law_script","_law_places"] (Jae Bbg):=by bv_decide
def Jdb(K:W.Frag):Sp:=λvs H Q E=>∃(a ml:Addr)(ns:List Int)(mx:List V)(ms:List Fr2)(ls:List PD)(st:Nat),vs=[.ref a, .ref ml]/\SqL K H a (ns.map V.int)/\ns.length<=63/\H ml=some (.lst mx)/\All2 (λ(m:Fr2) v=>FrV K H v m.1 m.2) ms mx/\Rw st ls ms/\1<=ls.length/\ls.length<=8/\∀(q gl tl:Addr)(gx dx:List V)(gs:List GD)(ds:List Fr2)(s2:Nat)(H':Hp),Same H H'->H' q=some (.tup [.ref gl, .ref tl])->H' gl=some (.lst gx)->All2 (λ(g:GD) v=>TV K H' g.td v) gs gx->H' tl=some (.lst dx)->All2 (λ(m:Fr2) v=>FrV K H' v m.1 m.2) ds dx->GsM s2 st ms gs ds->Q (.ref q) H'
theorem JgK(F:FunD K "_law_gaps" "_law_gaps" Bbg dV f fd)(T:Txt K mg Ad)(Bag:Cal P w K mg base 1 "_law_cell" ["_law_script","_law_k"] [] (Jb4 K))(Bae:Cal P w K mg base 2 "_law_plus" ["_law_one","_law_other","_law_sign"] [] (Jbn K))(BaU:Cal P w K mg base 3 "_law_bounds" ["_law_middle","_law_cell_here"] [] (JbT K)):FnOk P w K mg base (CX1 P w) 4 f fd ["_law_script","_law_places"] (Jdb K):=by
 show F.okn JaT (by subst_eqs) (λf0 A c9 s H vs Q E hr h=>?_)
 let(a,ml,ns,mx,ms,ls,st,rfl,h):=h;show(_,(Jab (Jak 2 JaT.nd (Jbc Jac)) (Jab (Jak 3 JaT.nd (Jbc Jac)) (Jab (Jak 4 JaT.nd (pe_op JaD (pe_op Jas (Bag.ev hr ⋯ rfl passF (Jaa (pv 0) (Jaa Jad Jac))) Jad) Jad)) (Jab (Ja2 PassesOwn.never rfl (Jet rfl T.BcW (Jaa (pe_op JaI Jad (pe_op JaD (Bag.ev hr ⋯ rfl passF (Jaa (pv 0) (Jaa Jad Jac))) Jad)) Jac)) (Jaq 5 JaT.nd) (Jab (Jak 6 JaT.nd (pe_op Jas (pe_op JaD (pe_op JaC (Bag.ev hr ⋯ rfl passF (Jaa (pv 0) (Jaa (pe_op JaI Jad (pe_op JaC Jad (pv 5))) Jac))) Jad) Jad) Jad)) (Jab (Jak 7 JaT.nd (pe_op JaD (pv 6) (Jay Ja8 rfl T.Bb5 Jb6 (Jaa (pv 1) Jac)))) (Jab (Jak 8 JaT.nd (pe_op JaD (pe_op JaI (pe_op JaI (pv 7) Jad) (pe_op JaD (pe_op Jas (pv 6) Jad) (pe_op JdM (Jay Ja8 rfl T.Bb5 Jb6 (Jaa (pv 1) Jac)) Jad))) (Jay Ja8 rfl T.Bb5 Jb6 (Jaa (pv 1) Jac)))) (Jab (Ja6 (pe_bm PySem.F.plainAttrs_list PySem.F.slot_list_append PySem.F.type_list_append Ja9 (pv 3) (Jaa (Bae.ev hr ⋯ rfl passF (Jaa (pe_ix ix_U (pv 1) (pv 8)) (Jaa (pe_ix ix_U (pv 1) (pv 7)) (Jaa (pe_un JeH Jad) Jac)))) Jac) (hs:=by show Jaf rfl))) (Jab (Jhs (BaU.ev hr ⋯ rfl passF (Jaa (pe_ix ix_U (pv 3) (pv 5)) (Jaa (Bag.ev hr ⋯ rfl passF (Jaa (pv 0) (Jaa (pe_op JaI Jad (pe_op JaC Jad (pv 5))) Jac))) Jac))) (Jes rfl (Jbb (Jaq 9 JaT.nd) (Jbb (Jaq 10 JaT.nd) Jc5)))) (Jab (Jak 11 JaT.nd (pe_op JaI (pe_op JaI (pe_op JaC JaY (pv 4)) (pe_ix ix_U JaY (pv 5))) (pe_op JaC JaY (pe_op JdM Jad (pv 4))))) (Jah (Ja6 (pe_bm PySem.F.plainAttrs_list PySem.F.slot_list_append PySem.F.type_list_append Ja9 (pv 2) (Jaa (JaJ (Jaa (pv 11) (Jaa (pe_ix ix_U JaY (pv 7)) (Jaa (pe_ix ix_U JaY (pv 8)) (Jaa (pv 9) (Jaa (pv 10) Jac)))))) Jac) (hs:=by show Jaf rfl))))))))))) (Jah (Jap (JaJ (Jaa (pv 2) (Jaa (pv 3) Jac))))))))),?_)
 let(hS,hl,em,hM,hC,l1,l7,k):=h;have sl:(1000:Nat)<=sizeLine:=by decide
 have I:(Str.ofString "x").cps.toList=[120]:=by decide
 have e7:(Str.ofString "x").length=1:=by decide
 have c3:(Str.ofString "fghijklmn").cps.toList=List.range' 102 9:=by decide
 have d4:(Str.ofString "opqrst").cps.toList=List.range' 111 6:=by decide
 have lm:=hM.length;have f4:=hC.len;show tSeq _ _ _ [some (.ref a),some (.ref ml),none,none,none,none,none,none,none,none,none,none] H;cbv;show(len0,?_);rename_i gl c7 e9 H H1 S1 e1;cbv
 mframe;show(len0,?_);rename_i L o e6 H1 f3 b9 d2;cbv
 mframe;have M:=S1.trans b9;have b3:gl≠L:=λz=>by rw[<- z,e1]at o;cases o
 have a6:=JcL S1 o;show(a,ns,1,rfl,hS.same M,hl,by decide,by decide,λcs=>?_);cbv;mpure
 have q3:=Mth.fm (x:=cs.fdiv 3) (y:=3) ⋯;let(p,c5):=Int.eq_ofNat_of_zero_le q3.1;rw[c5]at q3 ⊢;have b1:p<=2:=by ac_nf
 mframe;show(a,ns,2,rfl,hS.same M,hl,by decide,by decide,λc0=>?_);cbv;mpure
 have q0:=Mth.fm (x:=c0) (y:=6) ⋯;show(_,rfl,by ac_nf,by ac_nf,?_);clear q3 c5;show ForR.byN (λi σ H'=>∃(v5 v6 v7 v8 v9 Z U:Option V)(D r:List V)(G:List GD)(ds:List Fr2),σ=[some (.ref a),some (.ref ml),some (.ref gl),some (.ref L),some (.int (p:Int)),v5,v6,v7,v8,v9,Z,U]/\Same H H'/\H' gl=some (.lst D)/\All2 (λ(g:GD) v=>TV K H' g.td v) G D/\H' L=some (.lst r)/\All2 (λ(m:Fr2) v=>FrV K H' v m.1 m.2) ds r/\G.length=i/\ds.length=i/\(∀(j:Nat) g,G[j]?=some g->g.nm=gnS p j)/\∀(j:Nat) g m,G[j]?=some g->ds[j]?=some m->∃ u v,GOm st ms g m u v) ⟨none,none,none,none,none,none,none,[],[],[],[],rfl,M,b9 _ _ e1,rfl,d2,rfl,rfl,rfl,(λj g h=>by simp at h),(λj g m h=>by simp at h)⟩ ?_ ?_
 .rintro i σ H2 hi ⟨v5,v6,v7,v8,v9,Z,U,D,r,G,ds,rfl,R,eg,hX,et,hD,a2,a7,a3,Y⟩ N0 d7;have i7:i<6:=by ac_nf
  have lX:=hX.length;have lD:=hD.length;clear hi q0;rw[Int.zero_add];cbv;mpure
  show(a,ns,_,rfl,hS.same R,hl,by ac_nf,by ac_nf,λc1=>?_);cbv;mpure
  mspec
  generalize((c1*39373).fmod 2147483629).fdiv 37=w;cbv;have l:=R _ _ em;show(_, .inl (SqL.of l),?_);cbv;show(by ac_nf,?_)
  mframe;mpure
  show(_, .inl (SqL.of l),?_);cbv;show(by ac_nf,_, .inl (SqL.of l),?_);cbv;show(by ac_nf,?_);obtain⟨f,hf⟩:∃ f,f=mx.length:=⟨_,rfl⟩;rw[<- hf];have q1:=Mth.fm (x:=w) (y:=(f:Int)) ∅;have q2:=Mth.fm (x:=w.fdiv 64) (y:=(f:Int)-1) ∅;have b6:=JjC (x:=w.fmod (f:Int)+1+(w.fdiv 64).fmod ((f:Int)-1)) (f:=(f:Int)) ∅ ∅;have q7:=Mth.fm (x:=w.fmod (f:Int)+1+(w.fdiv 64).fmod ((f:Int)-1)) (y:=(f:Int)) ∅;let(sI,b5):=Int.eq_ofNat_of_zero_le q1.1;let(eI,c8):=Int.eq_ofNat_of_zero_le q7.1;have e0:sI≠eI:=λz=>by
   have : w.fmod (f:Int)=(w.fmod (f:Int)+1+(w.fdiv 64).fmod ((f:Int)-1)).fmod (f:Int):=by rw[c8,b5,z]
   rcases b6 with e | e <;> ac_nf
  rw[c8,b5];have d9:sI<mx.length:=by ac_nf
  have d5:eI<mx.length:=by ac_nf
  obtain⟨va,S⟩:∃ va,mx[sI]?=some va:=⟨_,List.getElem?_eq_getElem d9⟩;obtain⟨vb,X⟩:∃ vb,mx[eI]?=some vb:=⟨_,List.getElem?_eq_getElem d5⟩;let(ma,a1,fa):=hM.at_ S;let(mb,N,fb):=hM.at_ X;clear b6 q2 q7 q1
  mframe;show(.inl ⟨rfl,_,SqL.of (xs:=r) et⟩,?_);cbv;show ixL (i:=eI) (SqL.of l) X ?_;cbv;show ixL (i:=sI) (SqL.of l) S ?_;cbv;show(vb,va,_,mb,ma,false,rfl,rfl,FrV.same R fb,FrV.same R fa,(hC.mb ∅ N).w.mono ⋯ ⋯,(hC.mb ∅ a1).w.mono ⋯ ⋯,λpm H3 B e3=>?_);have fm:=hC.mm l7 a1 N;obtain⟨m,hm⟩:∃ m,m=addF mb (negF ma):=⟨_,rfl⟩;have e3:H3 pm=some (.tup [.int m.1, .int m.2]):=by rw[e3,hm];rfl
  rw[<- hm]at fm;clear S X fa fb;cbv;have a8:=B _ _ et;show(L,r,_,rfl,rfl,a8,by ac_nf,?_);generalize u4:upd H3 L _=H4;cbv;have e4:H4 L=some (.lst (r++[.ref pm])):=putE u4;have T4:SameT H3 H4:=SameT.put u4 a8 rfl;have c4:Same H H4:=λb u h=>by rw[<- u4,Jag (Jai h a6)];show B _ _ (R _ _ h)
  have a4:H4 gl=some (.lst D):=by rw[<- u4,Jag b3];show B _ _ eg
  have b4:=T4 _ _ rfl e3
  mframe;show ixL (i:=i) (SqL.of e4) (v:=.ref pm) (by rw[List.getElem?_append_right ∅,show i-r.length=0 by ac_nf];rfl) ?_;cbv;mpure
  show(a,ns,_,rfl,hS.same c4,hl,by ac_nf,by ac_nf,λc2=>?_);cbv;show(.ref pm,c2,m,rfl,FrV.of b4,fm.w.mono ⋯ ⋯,λq p1 p2 u v H5 S5 e5 f1 f2 fu fv uv=>?_);cbv;show(q,_,rfl,SqT.of e5,rfl,?_);cbv
  mframe;show(by ac_nf,by ac_nf,by ac_nf,λz1 b7=>?_);have a5:z1.cps.toList=List.replicate p 120:=by
   rw[b7,I];simp
  show(111+i,by decide,by rw[d4];show Jcf (by rw[List.getElem?_range' ∅,Nat.one_mul]),?_);cbv;have d0:z1.length=p:=by rw[JcY,a5,List.length_replicate]
  have O:(z1++(⟨#[111+i]⟩:Str)).cps.toList=List.replicate p 120++[111+i]:=by rw[JdU,a5]
  have d1:(z1++(⟨#[111+i]⟩:Str)).length=p+1:=by rw[JcY,O];simp
  have lc:(⟨#[111+i]⟩:Str).length=1:=rfl;show(by ac_nf,?_);cbv;show(by ac_nf,by ac_nf,by ac_nf,λz2 b0=>?_);have W:z2.cps.toList=List.replicate (2-p) 120:=by
   rw[b0,I];have:=tn2 b1;rw[this];simp
  have l3:z2.length=2-p:=by rw[JcY,W,List.length_replicate]
  cbv;show(by ac_nf,?_);rw[gn_eq O W];clear l3 W lc d1 O d0 a5 b7 b0
  mframe;have d3:=S5 _ _ a4;show(.inl ⟨rfl,_,SqL.of d3⟩,?_);cbv;show(102+sI,by decide,by rw[c3];show Jcf (by rw[List.getElem?_range' ∅,Nat.one_mul]),?_);cbv;show(102+eI,by decide,by rw[c3];show Jcf (by rw[List.getElem?_range' ∅,Nat.one_mul]),?_);rw[fcK (st:=st),fcK (st:=st)];cbv;show(len5,?_);rename_i px e2 e8 H5 c6 a0 d6;cbv;have c:=S5.trans a0;show(gl,D,_,rfl,rfl,c _ _ a4,by ac_nf,?_);generalize C:upd c6 gl _=n;cbv;have d8:=putE C;have a9:SameT c6 n:=SameT.put C (c _ _ a4) rfl;have b8:SameT H4 n:=c.t.trans a9;have b2:SameT H2 n:=(B.t.trans T4).trans b8;show d7 _ _ ⟨_,_,_,_,_,_,_,D++[.ref px],r++[.ref pm],G++[⟨gnS p i,nmK 102 st sI,nmK 102 st eI,addF m (negF u),addF m v⟩],ds++[m],rfl,λb w h=>?_,d8,?_,?_,?_,by simp[a2],by simp[a7],λj g J=>?_,λj g m' J d=>?_⟩
  .rw[<- C,Jag (Jai h c7)];show c _ _ (c4 _ _ h)
  .show(hX.mono (P':=λ(g:GD) v=>TV K n g.td v) λ_ _ z=>TV.sameT b2 z).append (.one ?_);show TV.sameT a9 ⟨px,_,_,rfl,SqT.of d6,f1.same a0,f2.same a0⟩
  .rw[<- C,Jag (Ne.symm b3)];show c _ _ e4
  .show(hD.mono (P':=λ(m:Fr2) v=>FrV K n v m.1 m.2) λ_ _ z=>FrV.sameT b2 z).append (.one (FrV.of (b8 _ _ rfl b4)))
  .rcases Ja1 J with J | ⟨q1,q2⟩
   .show a3 j g J
   .rw[q1,q2,a2]
  .rcases Ja1 J with J | ⟨q1,q2⟩
   .rcases Ja1 d with d | ⟨q3,q4⟩
    .show Y j g m' J d
    .have:=(List.getElem?_eq_some_iff.mp J).1;ac_nf
   .rcases Ja1 d with d | ⟨q3,q4⟩
    .have:=(List.getElem?_eq_some_iff.mp d).1;ac_nf
    .rw[q2,q4];show(u,v,sI,eI,ma,mb,e0,a1,N,rfl,rfl,hm,fu,fv,rfl,rfl,uv)
 .rintro σ H2 ⟨v5,v6,v7,v8,v9,Z,U,D,r,G,ds,rfl,R,eg,hX,et,hD,a2,a7,a3,Y⟩;cbv;show(len2,?_);rename_i q f5 f6 H2 H3 B e3;cbv;show k q gl L D r G ds p H3 (R.trans B) e3 (B _ _ eg) (hX.mono λ_ _ z=>TV.sameT B.t z) (B _ _ et) (hD.mono λ_ _ z=>FrV.same B z) ⟨b1,a3,by ac_nf,by ac_nf,by ac_nf,Y⟩
abbrev BaV:Stmt:=top 67
theorem Jbq:Jan ["_law_thing","_law_told","_law_tight","e"] ["_law_thing"] (Jae BaV):=by bv_decide
def JcE(K:W.Frag)(Ad:Adr):Sp:=λvs H Q E=>∃(x:Addr)(ls:List PD)(es:List (GD × List Str))(pl:Str->Fr2),vs=[.ref x]/\TK K Ad H x ls (es.map (·.1))/\SHC ls es pl/\((∀ e∈es,0<=vl (roomF pl e.1))->∀(q tl:Addr) (zs:List V) (rs:List ShD) H',Same H H'->H' q=some (.tup [.ref tl, .non])->H' tl=some (.lst zs)->All2 (ShV K H') rs zs->ShR ls es pl rs->Q (.ref q) H')/\(∀ z,(∃(i:Nat)(e:GD × List Str),es[i]?=some e/\vl (roomF pl e.1)<0/\(∀ e'∈es.take i,0<=vl (roomF pl e'.1))/\e.1.nm=z)->∀ q H',Same H H'->H' q=some (.tup [.non, .str z])->Q (.ref q) H')
theorem Jfq(F:FunD K "_law_shared" "_law_shared" BaV dV f fd)(T:Txt K mg Ad)(Bdu:Cal P w K mg base 9 "share" ["thing"] [] (JfL K Ad)):FnOk P w K mg base (CX1 P w) 10 f fd ["_law_thing"] (JcE K Ad):=by
 show F.okn Jbq (by subst_eqs) (λa0 A j s H R Q E m h=>?_)
 let(x,D,u,y,rfl,h):=h;show(_,(Jab (Jak 1 Jbq.nd JcP) (Jab (Jak 2 Jbq.nd JcP) (Jab (JiZ (i:=3) (k:=1) Jbq.nd rfl rfl rfl (Or.inl rfl) (Bdu.tr m ⋯ rfl (Jaa (pv 0) Jac)) rfl T.m_Tight (λ_=>
   (Jah (Jak 2 Jbq.nd (JjT (K:=K) rfl (pv 3) rfl))))) (Jah (Jap (JaJ (Jaa (pv 1) (Jaa (pv 2) Jac)))))))),?_)
 let(Y,M,k,U):=h;show tSeq _ _ _ [some (.ref x),none,none,none] H;cbv
 mframe
 mframe;rename_i N hN;have key:∀(p g:V)(d:Hp),(∀ q a,Same d a->a q=some (.tup [p,g])->Q (.ref q) a)->N [some (.ref x),some p,some g,none] d:=by
  intro p g d kk
  mframe;show(len2,?_);rename_i q X a1 d H1 S1 e1;cbv;show kk q H1 S1 e1
 rw[y93y];cbv;show(x,D,u,y,rfl,Y,M,λO r zs rs l n v L I m=>?_,λi e h1 G v S l n h4 B=>?_)
 .show key (.ref r) .non l λq a c o=>k O q r zs rs a (n.trans c) o (c _ _ L) (I.mono λ_ _ z=>ShV.sameT c.t z) m
 .show(_,rfl,T.xc,λC b=>?_);cbv;show(C,_,S,_, .str e.1.nm,rfl,Jaj,T.xl,by rw[Jag (Jai B b)];show B,rfl,?_);generalize W:upd l C _=Z;have J:=newS b W;show key .non (.str e.1.nm) Z λq a c o=>U _ ⟨i,e,h1,G,v,rfl⟩ q a (n.trans (J.trans c)) o
abbrev Bbh:Stmt:=top 66
theorem Jc7:Jan ["_law_middle","_law_low_here","_law_high","_law_below","_law_above"] ["_law_middle","_law_low_here","_law_high"] (Jae Bbh):=by bv_decide
def Jdc(K:W.Frag):Sp:=λvs H Q E=>∃(x y z:V)(m lo hi:Fr2),vs=[x,y,z]/\FrV K H x m.1 m.2/\FrV K H y lo.1 lo.2/\FrV K H z hi.1 hi.2/\FB 300 80 m/\FB 300 80 lo/\FB 300 80 hi/\∀ v H',Same H H'->(∀ r:Fr2,r=(if lessF (addF hi (negF m)) (addF m (negF lo))then addF hi (negF m)else addF m (negF lo))->FrV K H' v r.1 r.2)->Q v H'
theorem JgM(F:FunD K "_law_room" "_law_room" Bbh dV f fd)(T:Txt K mg Ad)(Bae:Cal P w K mg base 2 "_law_plus" ["_law_one","_law_other","_law_sign"] [] (Jbn K)):FnOk P w K mg base (CX1 P w) 3 f fd ["_law_middle","_law_low_here","_law_high"] (Jdc K):=by
 show F.okn Jc7 (by subst_eqs) (λY A n s H W Q E d h=>?_)
 let(x,y,z,m,C,u,rfl,h):=h;show(_,(Jab (Jak 3 Jc7.nd (Bae.ev d ⋯ rfl passF (Jaa (pv 0) (Jaa (pv 1) (Jaa (pe_un JeH Jad) Jac))))) (Jab (Jak 4 Jc7.nd (Bae.ev d ⋯ rfl passF (Jaa (pv 2) (Jaa (pv 0) (Jaa (pe_un JeH Jad) Jac))))) (Jah (Jap (pe_ix ix_U (Jbc (Jaa (pv 3) (Jaa (pv 4) Jac))) (Jdm Jib rfl T.Bd8 Jki (Jaa (Jby Jep (pe_op JaC (pe_ix ix_U (pv 4) Jad) (pe_ix ix_U (pv 3) Jad)) (pe_op JaC (pe_ix ix_U (pv 3) Jad) (pe_ix ix_U (pv 4) Jad)) (Jax _)) Jac))))))),?_)
 let(M,X,S,fm,J,O,k):=h;show tSeq _ _ _ [some x,some y,some z,none,none] H;cbv;show(x,y,_,m,C,false,rfl,rfl,M,X,fm.w.mono ⋯ ⋯,J.w.mono ⋯ ⋯,λU Z v B=>?_)
 mframe;show(z,x,_,u,m,false,rfl,rfl,S.same v,M.same v,O.w.mono ⋯ ⋯,fm.w.mono ⋯ ⋯,λV D N j=>?_);have t:=FB.add' fm J.neg;have p:=FB.add' O fm.neg;obtain⟨b,o⟩:∃ b,b=addF m (negF C):=⟨_,rfl⟩;obtain⟨a,q⟩:∃ a,a=addF u (negF m):=⟨_,rfl⟩;rw[<- o, <- q]at k;rw[<- o]at t;rw[<- q]at p;have B:Z U=some (.tup [.int b.1, .int b.2]):=by rw[B,o];rfl
 have j:D V=some (.tup [.int a.1, .int a.2]):=by rw[j,q];rfl
 have e:=N _ _ B
 mframe;show(len2,?_);rename_i ol I R D L g G;cbv;have l:=v.trans (N.trans g);show ixT (i:=0) (SqT.of (g _ _ j)) rfl ?_;cbv;show ixT (i:=1) (SqT.of (g _ _ e)) rfl ?_;cbv;show(mulOk p.s1 t.s2,?_);show ixT (i:=0) (SqT.of (g _ _ e)) rfl ?_;cbv;show ixT (i:=1) (SqT.of (g _ _ j)) rfl ?_;cbv;show(mulOk t.s1 p.s2,?_);cbv;show .inr ⟨_,rfl,?_⟩;by_cases c:a.1*b.2<b.1*a.2
 .rw[decide_eq_true c];show ixL (i:=1) (SqL.of G) rfl ?_;show k _ L l λr d=>?_;rw[show lessF a b=true from decide_eq_true c]at d;rw[d];show FrV.of (g _ _ j)
 .rw[decide_eq_false c];show ixL (i:=0) (SqL.of G) rfl ?_;show k _ L l λr d=>?_;rw[show lessF a b=false from decide_eq_false c]at d;rw[d];show FrV.of (g _ _ e)
abbrev BaH:Stmt:=top 68
theorem JbF:Jan ["_law_thing","_law_name","_law_low_here","_law_high","_law_caught","e"] ["_law_thing","_law_name","_law_low_here","_law_high"] (Jae BaH):=by bv_decide
def JbJ(K:W.Frag)(Ad:Adr):Sp:=λvs H Q E=>∃(x:Addr)(z:Str)(vl_ vh_:V)(lo hi:Int × Int)(ls:List PD)(gs:List GD)(j:Nat),vs=[.ref x, .str z,vl_,vh_]/\TK K Ad H x ls gs/\FrV K H vl_ lo.1 lo.2/\FrV K H vh_ hi.1 hi.2/\FOk 600 lo/\FOk 600 hi/\ls.length<=20/\gs.length<=20/\(∀ p∈ls,POk p)/\(∀ g∈gs,TOk g.td)/\(ls.map (·.nm)).Nodup/\(gs.map (·.nm)).Nodup/\Tree ls/\(∀ g∈gs,Conn ls g.st g.en)/\((j=1/\∀ g∈gs,g.nm≠z)\/(j=0/\lessF hi lo=true/\∃ g∈gs,g.nm=z))/\∀ H',Same H H'->Q (.str (if j=0 then Str.ofString "gap" else Str.ofString "name")) H'
theorem JeO(F:FunD K "_law_refused" "_law_refused" BaH dV f fd)(T:Txt K mg Ad)(Bbj:Cal P w K mg base 11 "changed" ["thing","name","low","high"] [] (Jcs K Ad)):FnOk P w K mg base (CX1 P w) 12 f fd ["_law_thing","_law_name","_law_low_here","_law_high"] (JbJ K Ad):=by
 show F.okn JbF (by subst_eqs) (λa9 A B s H vs Q E hr h=>?_)
 let(x,z,c,e,r,t,ls,gs,j,rfl,h):=h;have hu:=hr.units;show(_,(Jab (Jak 4 JbF.nd JcP) (Jab (JjZ (i:=5) JbF.nd rfl rfl (Bbj.tr hr ⋯ rfl (Jaa (pv 0) (Jaa (pv 1) (Jaa (pv 2) (Jaa (pv 3) Jac))))) rfl T.m_SlackError (λ_=>
   (Jah (Jak 4 JbF.nd (Jbc (Jaa (JcO (K:=K) rfl rfl T.Bad Jav (Jaa (pv 5) (Jaa (Jc4 (v:=.ty "ValueError") rfl T.n_ValueError Je6 rfl) Jac))) (Jaa (JcO (K:=K) rfl rfl T.Bad Jav (Jaa (pv 5) (Jaa (Jbk (v:=.ref _) rfl T.BdN rfl) Jac))) (Jaa (JcO (K:=K) rfl rfl T.Bad Jav (Jaa (pv 5) (Jaa (Jbk (v:=.ref _) rfl T.BcX rfl) Jac))) (Jaa (JcO (K:=K) rfl rfl T.Bad Jav (Jaa (pv 5) (Jaa (Jbk (v:=.ref _) rfl T.BdY rfl) Jac))) (Jaa (JcO (K:=K) rfl rfl T.Bad Jav (Jaa (pv 5) (Jaa (Jbk (v:=.ref _) rfl T.Bd3 rfl) Jac))) (Jaa (JcO (K:=K) rfl rfl T.Bad Jav (Jaa (pv 5) (Jaa (Jbk (v:=.ref _) rfl T.m_NoRow rfl) Jac))) (Jaa (JcO (K:=K) rfl rfl T.Bad Jav (Jaa (pv 5) (Jaa (Jbk (v:=.ref _) rfl T.m_Off rfl) Jac))) (Jaa (JcO (K:=K) rfl rfl T.Bad Jav (Jaa (pv 5) (Jaa (Jbk (v:=.ref _) rfl T.m_Tight rfl) Jac))) Jac))))))))))))) (Jab (ps_if (PW.pt (pw_or (Jaw Jeo (pv 4) JcP (Jax _)) (pw_or (Jbw (Jba (pe_ix ix_U (pv 4) Jad))) (Jca (Jaw (JbO hu) (pe_bm PySem.F.plainAttrs_list PySem.F.slot_list_count PySem.F.type_list_count JjJ (pv 4) (Jaa pe_bl Jac)) Jad (Jax _)))))) (Jah (Jap JaY))
   Jat) (Jah (Jap (pe_ix ix_U (Jbc (Jaa JaY (Jaa JaY (Jaa JaY (Jaa JaY (Jaa JaY (Jaa JaY (Jaa JaY Jac)))))))) (pe_bm PySem.F.plainAttrs_list PySem.F.slot_list_index PySem.F.type_list_index JiE (Jfx sl_V (pv 4) (JgT Jad) JgS) (Jaa pe_bl Jac)))))))),?_)
 clear hu;let(ht,a2,Z,fl,fh,I,W,a0,J,u,O,tr,a1,hj,k):=h;have sl:(1000:Nat)<=sizeLine:=by decide
 have x0:X2 K Ad Ad.NoGap 0:=⟨T.xs_NoGap,T.ex_NoGap,T.k_NoGap_NoGap,T.k_NoGap_NoName,T.k_NoGap_NoPart,T.k_NoGap_Apart,T.k_NoGap_NoRow,T.k_NoGap_Off,T.k_NoGap_Tight,T.k_NoGap_V,by decide⟩;have x1:X2 K Ad Ad.NoName 1:=⟨T.xs_NoName,T.ex_NoName,T.k_NoName_NoGap,T.k_NoName_NoName,T.k_NoName_NoPart,T.k_NoName_Apart,T.k_NoName_NoRow,T.k_NoName_Off,T.k_NoName_Tight,T.k_NoName_V,by decide⟩;have Y:∀(Q':VK)(E':XK),(∀ C n,X2 K Ad C j->Same H n->E' (.ref C) none n)->Jcs K Ad [.ref x, .str z,c,e] H Q' E':=λQ' E' hE=>⟨x,z,c,e,r,t,ls,gs,rfl,ht,a2,Z,fl,fh,I,W,a0,J,u,O,tr,a1,λM n S=>by
  rcases hj with⟨rfl,_⟩ | ⟨_,_,g,L,R⟩
  .show hE _ n x1 S
  .show absurd R (M g L),λg L R=>by
  rcases hj with⟨_,M⟩ | ⟨rfl,hlt,_⟩
  .show absurd R (M g L)
  .have hb:okG ⟨g.nm,g.st,g.en,r,t⟩=false:=by
    show(!(lessF t r))=false;rw[hlt];rfl
   show(λ_ n S=>hE _ n x0 S,λq=>by rw[hb]at q;cases q)⟩
 show tSeq _ _ _ [some (.ref x),some (.str z),some c,some e,none,none] H;cbv
 mframe;show Y _ _ λC H3 a S3=>⟨C,rfl,a.cat,λea G=>?_⟩;generalize qe:upd H3 ea _=HE;have SE:=newS G qe;have l:=newE qe;show isiXt l a.xc a.kv ?_;cbv;show isiXr l a.xc a.k0 ?_;cbv;show isiXr l a.xc a.k1 ?_;cbv;show isiXr l a.xc a.z0 ?_;cbv;show isiXr l a.xc a.z1 ?_;cbv;show isiXr l a.xc a.z2 ?_;cbv;show isiXr l a.xc a.z3 ?_;cbv;show isiXr l a.xc a.z4 ?_;cbv;show(by show 8<=sizeLine;ac_nf,?_);rename_i X a3 a6 HE H4 S4 e4;cbv;obtain⟨b,o,U,N,D⟩:∃ b:List Bool,[true,decide (j=0),decide (j=1),false,false,false,false,false]=true::b/\(true::b).count true=2/\b[j]?=some true/\∀ m,m<j->b[m]?≠some true:=by
  show(_,rfl,?_);rcases a.lt with rfl | rfl
  .show(by decide,rfl,λm hm=>absurd hm (Nat.not_lt_zero m))
  .show(by decide,rfl,by decide)
 have d:H4 X=some (.lst ((true::b).map V.bl)):=by rw[e4, <- o];rfl
 have b0:b.length=7:=by
  have:=congrArg List.length o;simpa using this.symm
 mframe;show ixL (i:=0) (SqL.of d) rfl ?_;cbv;show(.inl ⟨rfl,_,SqL.of d⟩,?_);show(X,true::b,true,rfl,rfl,d,?_)
 (rw[U])
 cbv;rw[if_neg ⋯];cbv
 mframe;show(by show 7<=sizeLine;ac_nf,?_);rename_i wl a7 a5 H4 H5 S5 e5;cbv;cbv;show .inl (.inl ⟨X,_,rfl,SqL.of (S5 _ _ d),?_⟩);rw[show cutV ((true::b).map V.bl) (some 1) none=((true::b).map V.bl).drop 1 from Jhb (j:=1) (by simp)];rename_i cl a4 a8 H5 H6 S6 e6;cbv;have p:H6 cl=some (.lst (b.map V.bl)):=by rw[e6];rfl
 show(.inl ⟨rfl,_,SqL.of p⟩,?_);show(cl,b,true,j,rfl,rfl,p,N,D,?_);have y:[V.str (Str.ofString "gap"), .str (Str.ofString "name"), .str (Str.ofString "part"), .str (Str.ofString "apart"), .str (Str.ofString "row"), .str (Str.ofString "off"), .str (Str.ofString "tight")][j]?=some (.str (if j=0 then Str.ofString "gap" else Str.ofString "name")):=by
  rcases a.lt with rfl | rfl <;> rfl
 show ixL (i:=j) (SqL.of (S6 _ _ e5)) y ?_;show k H6 (S3.trans (SE.trans (S4.trans (S5.trans S6))))
abbrev Ba5:Stmt:=top 69
theorem JcQ:Jan ["_law_found","_law_gaps_here","_law_middles","_law_k","_law_room_here"] ["_law_found","_law_gaps_here","_law_middles"] (Jae Ba5):=by bv_decide
def Jcd(K:W.Frag)(Ad:Adr):Sp:=λvs H Q E=>∃(x gl tl:Addr)(gx dx:List V)(ls:List PD)(gs:List GD)(ds:List Fr2)(pl:Str->Fr2),vs=[.ref x, .ref gl, .ref tl]/\TK K Ad H x ls gs/\H gl=some (.lst gx)/\All2 (λ(g:GD) v=>TV K H g.td v) gs gx/\H tl=some (.lst dx)/\All2 (λ(m:Fr2) v=>FrV K H v m.1 m.2) ds dx/\gs.length<=6/\ds.length=gs.length/\(∀ g∈gs, ∀ u∈gs,u.nm=g.nm->u=g)/\(∀ p∈ls, ∀ q∈ls,p.nm=q.nm->p=q)/\(∀ p∈ls,POk p)/\(∀ f,FB 302 161 (pl f))/\(∀ p∈ls,vl (pl p.en)=vl (pl p.st)+vl p.sz)/\(∀ g∈gs,TOk g.td)/\(∀(i:Nat) g m,gs[i]?=some g->ds[i]?=some m->mid pl g=m/\FB 300 80 m/\FB 300 80 g.lo/\FB 300 80 g.hi)/\∀ H',Same H H'->Q (.bl true) H'
theorem Jgd(F:FunD K "_law_right" "_law_right" Ba5 dV f fd)(T:Txt K mg Ad)(BaX:MCal P w K mg base 2 "gaps" (JaH Ad) ["self"] (JaZ K Ad))(Bcf:Cal P w K mg base 3 "_law_room" ["_law_middle","_law_low_here","_law_high"] [] (Jdc K))(Bb1:MCal P w K mg base 4 "middle" (JaH Ad) ["self","name"] (Jbt K Ad))(Bb8:MCal P w K mg base 5 "room" (JaH Ad) ["self","name"] (Jbu K Ad)):FnOk P w K mg base (CX1 P w) 6 f fd ["_law_found","_law_gaps_here","_law_middles"] (Jcd K Ad):=by
 show F.okn JcQ (by subst_eqs) (λa5 A a0 s H vs Q E I h=>?_)
 let(x,gl,tl,gx,dx,Y,C,ds,pl,rfl,h):=h;have n:=I.units;show(_,(Jab (ps_if (Jaw (JbO n) (BaX.m0 I ⋯ passF (pv 0)) (pv 1) (Jax _)) (Jah (Jap pe_bl))
   Jat) (Jab (Ja2 PassesOwn.never rfl (Jet rfl T.BcW (Jaa (Jay Ja8 rfl T.Bb5 Jb6 (Jaa (pv 1) Jac)) Jac)) (Jaq 3 JcQ.nd) (Jab (Jak 4 JcQ.nd (Bcf.ev I ⋯ rfl passF (Jaa (pe_ix ix_U (pv 2) (pv 3)) (Jaa (pe_ix ix_U (pe_ix ix_U (pv 1) (pv 3)) Jad) (Jaa (pe_ix ix_U (pe_ix ix_U (pv 1) (pv 3)) Jad) Jac))))) (Jah (ps_if (PW.pt (pw_or (Jaw (JbO n) (Bb1.m I ⋯ passF (pv 0) (Jaa (pe_ix ix_U (pe_ix ix_U (pv 1) (pv 3)) Jad) Jac)) (pe_ix ix_U (pv 2) (pv 3)) (Jax _)) (Jca (Jaw (JbO n) (Bb8.m I ⋯ passF (pv 0) (Jaa (pe_ix ix_U (pe_ix ix_U (pv 1) (pv 3)) Jad) Jac)) (pv 4) (Jax _))))) (Jah (Jap pe_bl))
   Jat)))) (Jah (Jap pe_bl)))),?_)
 clear n;let(ht,M,hX,et,hD,g6,ld,a4,S,W,D,N,a1,U,k):=h;have sl:(1000:Nat)<=sizeLine:=by decide
 have lX:=hX.length;have lD:=hD.length;let(B,d1,d2,d3,k1,k2,k3,hx,_):=id ht;show tSeq _ _ _ [some (.ref x),some (.ref gl),some (.ref tl),none,none] H;cbv;show(x,_,B,_,rfl,hx,rfl,rfl,?_);cbv;show(x,Y,C,rfl,ht,by ac_nf,λl ys H1 S1 a6 e1 hG=>?_);cbv;show neGs (SqL.of e1) hG (SqL.of (S1 _ _ M)) (hX.mono λ_ _ z=>TV.sameT S1.t z) ?_
 mframe;show(_, .inl (SqL.of (S1 _ _ M)),?_);cbv;show(_,rfl,by ac_nf,by ac_nf,?_);rw[Int.toNat_natCast];show ForR.byN (λi σ H'=>Same H H'/\∃(v3 v4:Option V),σ=[some (.ref x),some (.ref gl),some (.ref tl),v3,v4]) ⟨S1,none,none,rfl⟩ ?_ ?_
 .rintro i σ H2 hi ⟨o,v3,v4,rfl⟩ N0 a2;obtain⟨vg,d⟩:∃ vg,gx[i]?=some vg:=⟨_,List.getElem?_eq_getElem hi⟩;let(g,hg,b,vo,vp,rfl,hb,y,r):=hX.at_ d;replace y:FrV K H vo g.lo.1 g.lo.2:=y;replace r:FrV K H vp g.hi.1 g.hi.2:=r;obtain⟨vm,q⟩:∃ vm,dx[i]?=some vm:=⟨_,List.getElem?_eq_getElem ∅⟩;let(m,hm,O):=hD.at_ q;let(R,fm,fl,fh):=U i g m hg hm;have gm:=List.mem_of_getElem? hg;have G:=o _ _ M;have a3:=o _ _ et;have L:=hb.same o;rw[Int.zero_add];cbv;show ixL (i:=i) (SqL.of a3) q ?_;cbv;show ixL (i:=i) (SqL.of G) d ?_;cbv;show ixT (i:=3) L rfl ?_;cbv;show ixL (i:=i) (SqL.of G) d ?_;cbv;show ixT (i:=4) L rfl ?_;cbv;show(vm,vo,vp,m,g.lo,g.hi,rfl,FrV.same o O,y.same o,r.same o,fm,fl,fh,λv H3 S3 hv=>?_)
  mframe;have j:=o.trans S3;have X:g.nm∉C.map (·.nm)->False:=λh=>h (mem_map.mpr ⟨g,gm,rfl⟩);have c:∀ u∈C,u.nm=g.nm->u=g:=λu n e=>a4 g gm u n e;show(x,_,B,_,rfl,j _ _ hx,rfl,rfl,?_);show ixL (i:=i) (SqL.of (j _ _ M)) d ?_;show ixT (i:=0) (hb.same j) rfl ?_;show(x,g.nm,Y,C,rfl,ht.same j,λh=>(X h).elim,λg' J e'=>⟨pl,λu n e=>(c u n e).trans (c g' J e').symm,S,W,D,N,λv1 H4 S4 f1=>?_⟩);obtain rfl:=c g' J e';have a:=j.trans S4;cbv;show ixL (i:=i) (SqL.of (a _ _ et)) q ?_;rw[R]at f1;show neF f1 (FrV.same a O) ?_;simp only[decide_true,Bool.and_self,Bool.not_true];cbv;show(x,_,B,_,rfl,a _ _ hx,rfl,rfl,?_);show ixL (i:=i) (SqL.of (a _ _ M)) d ?_;show ixT (i:=0) (hb.same a) rfl ?_;show(x,g'.nm,Y,C,rfl,ht.same a,λh=>(X h).elim,λZ p e2=>⟨pl,λu n e=>(c u n e).trans (c Z p e2).symm,S,W,D,N,a1 Z p,λv2 H5 S5 f2=>?_⟩);obtain rfl:=c Z p e2;cbv;have f3:=hv (roomF pl Z) (by unfold roomF;rw[R]);show neF f2 (FrV.same (S4.trans S5) f3) ?_;simp only[decide_true,Bool.and_self,Bool.not_true];cbv;show a2 _ _ ⟨a.trans S5,_,_,rfl⟩
 .rintro σ H2 ⟨o,v3,v4,rfl⟩;cbv;show k H2 o
abbrev Bc2:Stmt:=top 70
theorem JbP:Jan ["_law_script","_law_parts_here","_law_places","_law_gaps_here","_law_middles","_law_thing","_law_cell_here","_law_at","_law_low_here","_law_high","_law_over_high","_law_found","_law_due","_law_anew","_law_slacks"] ["_law_script"] (Jae Bc2):=by bv_decide
def Bdq(K:W.Frag):Sp:=λvs H Q E=>∃(a:Addr)(ns:List Int),vs=[.ref a]/\SqL K H a (ns.map V.int)/\ns.length<=63/\∀ H',Q (.bl true) H'
theorem Jmt(F:FunD K "law" "law" Bc2 dV f fd)(T:Txt K mg Ad)(Bb4:Cal P w K mg base 3 "_law_parts" ["_law_script"] [] (JcT K))(Bcg:Cal P w K mg base 4 "_law_gaps" ["_law_script","_law_places"] [] (Jdb K))(Bb3:KCal P w K mg base 9 "Thing" Ad.Thing ["self","parts","gaps"] (Jbf K Ad))(Bag:Cal P w K mg base 1 "_law_cell" ["_law_script","_law_k"] [] (Jb4 K))(BaU:Cal P w K mg base 3 "_law_bounds" ["_law_middle","_law_cell_here"] [] (JbT K))(Bae:Cal P w K mg base 2 "_law_plus" ["_law_one","_law_other","_law_sign"] [] (Jbn K))(Baq:Cal P w K mg base 1 "_law_low" ["_law_top","_law_bottom"] [] (JbY))(BaW:Cal P w K mg base 12 "_law_refused" ["_law_thing","_law_name","_law_low_here","_law_high"] [] (JbJ K Ad))(Bbj:Cal P w K mg base 11 "changed" ["thing","name","low","high"] [] (Jcs K Ad))(Bak:MCal P w K mg base 2 "parts" (JaH Ad) ["self"] (JaG K Ad))(Bbk:Cal P w K mg base 6 "_law_right" ["_law_found","_law_gaps_here","_law_middles"] [] (Jcd K Ad))(Bbq:Cal P w K mg base 10 "_law_shared" ["_law_thing"] [] (JcE K Ad))(Bbr:Cal P w K mg base 7 "is_sharing" ["thing","slacks"] [] (Jbv K Ad)):FnOk P w K mg base (CX1 P w) 13 f fd ["_law_script"] (Bdq K):=by
 show F.okn JbP (by subst_eqs) (λy5 A n2 s H vs Q E U h=>?_)
 let(a,ns,rfl,h):=h;have hu:=U.units;show(_,(Jab (Jhs (Bb4.ev U ⋯ rfl passF (Jaa (pv 0) Jac)) (Jes rfl (Jbb (Jaq 1 JbP.nd) (Jbb (Jaq 2 JbP.nd) Jc5)))) (Jab (Jhs (Bcg.ev U ⋯ rfl passF (Jaa (pv 0) (Jaa (pv 2) Jac))) (Jes rfl (Jbb (Jaq 3 JbP.nd) (Jbb (Jaq 4 JbP.nd) Jc5)))) (Jab (Jak 5 JbP.nd (Bb3.ev U ⋯ rfl passF (Jaa (pv 1) (Jaa (pv 3) Jac)))) (Jab (Jak 6 JbP.nd (pe_op Jas (Bag.ev U ⋯ rfl passF (Jaa (pv 0) (Jaa Jad Jac))) Jad)) (Jab (Jak 7 JbP.nd (pe_op JaD (pv 6) (Jay Ja8 rfl T.Bb5 Jb6 (Jaa (pv 3) Jac)))) (Jab (Jhs (BaU.ev U ⋯ rfl passF (Jaa (pe_ix ix_U (pv 4) (pv 7)) (Jaa (pe_op Jas (pv 6) Jad) Jac))) (Jes rfl (Jbb (Jaq 8 JbP.nd) (Jbb (Jaq 9 JbP.nd) Jc5)))) (Jab (ps_if (Jaw (JcN hu) (pe_op JaD (pe_op Jas (pv 6) Jad) Jad) Jad (Jax _)) (Jah (Jak 8 JbP.nd (pv 9)))
   Jat) (Jab (Jak 10 JbP.nd (Bae.ev U ⋯ rfl passF (Jaa (pv 9) (Jaa (Baq.ev U ⋯ rfl passF (Jaa Jad (Jaa (pe_op JaI Jad (pe_op JaD (pe_op Jas (pv 6) Jad) Jad)) Jac))) (Jaa Jad Jac))))) (Jab (ps_if (Jaw (JbO hu) (BaW.ev U ⋯ rfl passF (Jaa (pv 5) (Jaa (pe_ix ix_U (pe_ix ix_U (pv 3) (pv 7)) Jad) (Jaa (pv 10) (Jaa (pv 9) Jac))))) JaY (Jax _)) (Jah (Jap pe_bl))
   Jat) (Jab (ps_if (Jaw (JbO hu) (BaW.ev U ⋯ rfl passF (Jaa (pv 5) (Jaa JaY (Jaa (pv 10) (Jaa (pv 9) Jac))))) JaY (Jax _)) (Jah (Jap pe_bl))
   Jat) (Jab (ps_if (Jaw (JbO hu) (BaW.ev U ⋯ rfl passF (Jaa (pv 5) (Jaa (pe_ix ix_U (pe_ix ix_U (pv 1) Jad) Jad) (Jaa (pv 8) (Jaa (pv 9) Jac))))) JaY (Jax _)) (Jah (Jap pe_bl))
   Jat) (Jab (Jak 11 JbP.nd (Bbj.ev U ⋯ rfl passF (Jaa (pv 5) (Jaa (pe_ix ix_U (pe_ix ix_U (pv 3) (pv 7)) Jad) (Jaa (pv 8) (Jaa (pv 9) Jac)))))) (Jab (Jak 12 JbP.nd (pe_op JaI (pe_op JaI (Jfx sl_V (pv 3) JgS (JgT (pv 7))) (Jbc (Jaa (JaJ (Jaa (pe_ix ix_U (pe_ix ix_U (pv 3) (pv 7)) Jad) (Jaa (pe_ix ix_U (pe_ix ix_U (pv 3) (pv 7)) Jad) (Jaa (pe_ix ix_U (pe_ix ix_U (pv 3) (pv 7)) Jad) (Jaa (pv 8) (Jaa (pv 9) Jac)))))) Jac))) (Jfx sl_V (pv 3) (JgT (pe_op JaI (pv 7) Jad)) JgS))) (Jab (ps_if (PW.pt (pw_or (Jaw (JbO hu) (Bak.m0 U ⋯ passF (pv 11)) (pv 1) (Jax _)) (Jca (Jbw (Jba (Bbk.ev U ⋯ rfl passF (Jaa (pv 11) (Jaa (pv 12) (Jaa (pv 4) Jac))))))))) (Jah (Jap pe_bl))
   Jat) (Jab (Jak 13 JbP.nd (Bb3.ev U ⋯ rfl passF (Jaa (pv 1) (Jaa (pv 12) Jac)))) (Jab (Je1 (j:=14) (own:=["_law_part"]) (cs:=[]) JbP.nd rfl (Or.inl rfl) rfl (pi_U (pv 1)) (λ_ _ _ _=>(Jaq 0 (show[("_law_part" : Str)].Nodup by decide))) (λ_ _ _ _=>(pe_ix (ix_UK (K:=K) rfl) (pv 0) Jad)) (Jd6 rfl) ⋯ rfl ⋯ hcs0) (Jab (ps_if (PW.pt (pw_or (Jaw (JbO hu) (Bbq.ev U ⋯ rfl passF (Jaa (pv 11) Jac)) (Bbq.ev U ⋯ rfl passF (Jaa (pv 13) Jac)) (Jax _)) (Jca (Jaw (JbO hu) (Bbr.ev U ⋯ rfl passF (Jaa (pv 11) (Jaa (pv 14) Jac))) (Bbr.ev U ⋯ rfl passF (Jaa (pv 13) (Jaa (pv 14) Jac))) (Jax _))))) (Jah (Jap pe_bl))
   Jat) (Jab (Ja6 (Bbj.ev U ⋯ rfl passF (Jaa (pv 5) (Jaa (pe_ix ix_U (pe_ix ix_U (pv 3) Jad) Jad) (Jaa (pv 9) (Jaa (pv 10) Jac)))))) (Jah (Jap (Jcq (Bbk.ev U ⋯ rfl passF (Jaa (pv 5) (Jaa (pv 3) (Jaa (pv 4) Jac)))) (Jcq (Bbk.ev U ⋯ rfl passF (Jaa (pv 11) (Jaa (pv 12) (Jaa (pv 4) Jac)))) (Jdn (Jby (JcN hu) (Bak.m0 U ⋯ passF (pv 5)) (pv 1) (Jax _))))))))))))))))))))))))),?_)
 clear hu;let(hS,hl,k):=h;have sl:(1000:Nat)<=sizeLine:=by decide
 show tSeq _ _ _ [some (.ref a),none,none,none,none,none,none,none,none,none,none,none,none,none,none] H;cbv;show(a,ns,rfl,hS,hl,λq pl ml px mx st D ms H1 S1 eq ep hP em hM hC l1 l8=>?_);cbv;show(q,_,rfl,SqT.of eq,rfl,?_);cbv
 mframe;show(a,ml,ns,mx,ms,D,st,rfl,hS.same S1,hl,em,hM,hC,l1,l8,λq2 gl tl gx dx gs ds s2 H3 S3 c5 m1 b9 et hD hG=>?_);cbv;show(q2,_,rfl,SqT.of c5,rfl,?_);cbv
 mframe;have d3:All2 (PDV K H3) D px:=hP.mono λ_ _ z=>z.sameT S3.t;have j9:=S3 _ _ ep;have lP:=d3.length;have lX:=b9.length;have g1:=hG.l1;have g6:=hG.l6;have ld:=hG.ld;have q3:(D.map (·.nm)).Nodup:=JiH hC.G.nm;have p3:∀ p∈D, ∃ q∈D,q.nm=p.nm/\q.st=p.st/\q.en=p.en/\q.sz=p.sz:=λp hp=>⟨p,hp,rfl,rfl,rfl,rfl⟩;have q9:Sk D D:=λp hp=>⟨p,hp,rfl,rfl,rfl⟩;have f8:∀ d0:List GD,d0.length<=6->(d0.map (·.nm)).Nodup->(∀ g∈d0,nameS g.nm=true/\∃ u v,GOq st ms g u v)->ThO D d0 (spOf (spR st ms)):=λd0 h1 h2 h3=>JmR hC l8 l8 q3 (λp hp=>hC.G.ok p hp) hC.zb hC.wt p3 q9 h1 h2 h3;have d:=f8 gs g6 hG.nd hG.gok;intro x1 h9 j7 k0 u8;have o2:Same H3 (upd (upd H3 h9 (.own x1)) x1 (.ins Ad.Thing h9 [])):=λb u q=>by rw[Jag (Jai q j7),Jag (Jai q k0)];show q
 show(x1,h9,pl,gl,px,gx,D,gs,H3,rfl,Jaj,j7,o2,SqL.of j9,d3,SqL.of m1,b9,Nat.le_trans d.l8 ⋯,Nat.le_trans d.g6 ⋯,d.pok,λg hg=>(TOk.r (d.tok g hg)).1,d.nd,d.gnd,Jg2 d.tr d.nd,d.con,λ⟨g,hg,hb⟩=>?_,λ_ H4 S4 d9=>⟨rfl,?_⟩)
 .rw[(TOk.r (d.tok g hg)).2]at hb;cases hb
 mframe;show(a,ns,2,rfl,hS.same (S1.trans (S3.trans S4)),hl,by decide,by decide,λc2=>?_);cbv;mpure
 mspec
 generalize c2.fdiv 6=cc;cbv;have b7:=S4 _ _ m1;have k7:=S4 _ _ et;show(_, .inl (SqL.of b7),?_);cbv;show(by ac_nf,?_);have qa:=Mth.fm (x:=cc) (y:=(gx.length:Int)) ∅;let(C,m4):=Int.eq_ofNat_of_zero_le qa.1;rw[m4]at qa ⊢;have t7:C<gx.length:=by ac_nf
 obtain⟨vg,b6⟩:∃ vg,gx[C]?=some vg:=⟨_,List.getElem?_eq_getElem t7⟩;let(g,hg,o5):=b9.at_ b6;have lD:=hD.length;obtain⟨vm,m7⟩:∃ vm,dx[C]?=some vm:=⟨_,List.getElem?_eq_getElem ∅⟩;let(m,hm,r0):=hD.at_ m7;let(u0,v0,gi,gj,ga,gb,n9,i8,m2,o3,p9,l2,_,_,_,_,_):=hG.ok C g m hg hm;have fm:FB 208 66 m:=by rw[l2];show hC.mm l8 i8 m2
 clear m4 qa
 mframe;show ixL (i:=C) (SqL.of k7) m7 ?_;cbv;mpure
 show(vm,_,m,rfl,FrV.same S4 r0,fm.w.mono ⋯ ⋯,λq5 p1 p2 u v H5 S5 e5 f1 f2 fu fv uv=>?_);cbv;show(q5,_,rfl,SqT.of e5,rfl,?_);cbv
 mframe;mpure
 rename_i N hN;have key:∀(pL:Addr)(u:Fr2),FrV K H5 (.ref pL) (addF m (negF u)).1 (addF m (negF u)).2->FB 6 3 u->0<=vl u+vl v->N [some (.ref a),some (.ref pl),some (.ref ml),some (.ref gl),some (.ref tl),some (.ref x1),some (.int cc),some (.int (C:Int)),some (.ref pL),some (.ref p2),none,none,none,none,none] H5:=by
  clear f1 fu uv u;intro pL u f1 fu uv
  mframe;mpure
  have qk:=Mth.fm (x:=cc.fdiv 256) (y:=1000) ⋯;obtain⟨bd,e4⟩:∃ bd:Int,bd=1+(cc.fdiv 256).fmod 1000:=⟨_,rfl⟩
  (rw[<- e4])
  have g9:1<=bd:=e4 ▸ fm1 ⋯;have l3:Mth.Sz 10 bd:=e4 ▸ szF ⋯ ⋯ ⋯;show(1,bd,rfl,g9,l3.mono ⋯,λpo H6 S6 e6=>?_);have fo:=FB.low (A:=1) (t:=1) g9 (.lit ⋯ ⋯) l3;have o0:0<vl (Mth.top 1 bd,Mth.bot 1 bd):=by
   rw[Je4 g9];have : (0:Rat)<(bd:Rat):=Rat.intCast_pos.mpr ∅;rw[Rat.div_def,Rat.intCast_one,Rat.one_mul];show Rat.inv_pos.mpr this
  obtain⟨o,ho⟩:∃ o:Fr2,o=(Mth.top 1 bd,Mth.bot 1 bd):=⟨_,rfl⟩;rw[<- ho]at fo o0;have e6:H6 po=some (.tup [.int o.1, .int o.2]):=by rw[e6,ho]
  clear ho e4 qk;cbv;have R:=FB.add' fm fv;have i7:=FB.add' fm fu.neg;show(.ref p2, .ref po,_,addF m v,o,true,rfl,rfl,f2.same S6,FrV.of e6,R.w.mono ⋯ ⋯,fo.w.mono ⋯ ⋯,λpO H7 S7 e7=>?_);have d5:=FB.add' R fo;have q8:lessF (addF m v) (addF (addF m v) o)=true:=(Jcm R.b1 d5.b1).mpr (by rw[R.vadd fo];grind);have rf:∀(z:Str)(va vb:V)(lo hi:Fr2)(j:Nat)(Hx:Hp)(Q':VK)(E':XK),Same H4 Hx->FrV K Hx va lo.1 lo.2->FrV K Hx vb hi.1 hi.2->FOk 600 lo->FOk 600 hi->((j=1/\∀ g∈gs,g.nm≠z)\/(j=0/\lessF hi lo=true/\∃ g∈gs,g.nm=z))->(∀ W,Same Hx W->Q' (.str (if j=0 then Str.ofString "gap" else Str.ofString "name")) W)->JbJ K Ad [.ref x1, .str z,va,vb] Hx Q' E':=λz va vb lo hi j Hx Q' E' S ha hb fa fb hj kk=>⟨x1,z,va,vb,lo,hi,D,gs,j,rfl,d9.same S,ha,hb,fa,fb,by ac_nf,by ac_nf,d.pok,d.tok,d.nd,d.gnd,d.tr,d.con,hj,kk⟩;let(b,vo,vp,rfl,hb,x6,x5):=o5;have gm:=List.mem_of_getElem? hg;have e2:=S5.trans (S6.trans S7);have k6:∀ u∈gs, ∃ i,i<6/\u.nm=gnS s2 i:=λu hu=>by
   let(i,hi):=List.getElem?_of_mem hu;have:=(List.getElem?_eq_some_iff.mp hi).1;show(i,by ac_nf,hG.nm i u hi)
  mframe;show ixL (i:=C) (SqL.of (e2 _ _ b7)) b6 ?_;show ixT (i:=0) (hb.same (S4.trans e2)) rfl ?_;show rf g.nm _ _ (addF (addF m v) o) (addF m v) 0 H7 _ _ e2 (FrV.of e7) (f2.same (S6.trans S7)) (d5.ok ⋯ ⋯) (R.ok ⋯ ⋯) (.inr ⟨rfl,q8,g,gm,rfl⟩) λH8 S8=>?_;have l0:=e2.trans S8;try simpa only[decide_true,Bool.not_true]
  mframe;show rf (Str.ofString "nobody") _ _ (addF (addF m v) o) (addF m v) 1 H8 _ _ l0 (FrV.of (S8 _ _ e7)) (f2.same (S6.trans (S7.trans S8))) (d5.ok ⋯ ⋯) (R.ok ⋯ ⋯) (.inl ⟨rfl,λu hu z=>by let(i,hi,e):=k6 u hu;show Jk3 s2 hG.s i hi (e.symm.trans z)⟩) λH9 S9=>?_;have e1:=l0.trans S9;try simpa only[decide_true,Bool.not_true]
  mframe;obtain⟨m9,g2⟩:∃ m9,px[0]?=some m9:=⟨_,List.getElem?_eq_getElem ∅⟩;let(p0,u1,b0,x2,w6,rfl,r9,_,_):=d3.at_ g2;have e8:=S4 _ _ j9;show ixL (i:=0) (SqL.of (e1 _ _ e8)) g2 ?_;show ixT (i:=0) (r9.same (S4.trans e1)) rfl ?_;have h7:=f1.same (S6.trans (S7.trans (S8.trans S9)));have i1:=f2.same (S6.trans (S7.trans (S8.trans S9)));show rf p0.nm _ _ (addF m (negF u)) (addF m v) 1 H9 _ _ e1 h7 i1 (i7.ok ⋯ ⋯) (R.ok ⋯ ⋯) (.inl ⟨rfl,λw hw z=>by let(i,hi,e):=k6 w hw;show Jmf st hC.s2 s2 hG.s i hi (e.symm.trans (z.trans (hC.G.nm 0 p0 u1)))⟩) λx4 b8=>?_;have b5:=e1.trans b8;try simpa only[decide_true,Bool.not_true]
  mframe;show ixL (i:=C) (SqL.of (b5 _ _ b7)) b6 ?_;show ixT (i:=0) (hb.same (S4.trans b5)) rfl ?_;have p6:okG ⟨g.nm,g.st,g.en,addF m (negF u),addF m v⟩=true:=by
   show(!(lessF (addF m v) (addF m (negF u))))=true;cases c:lessF (addF m v) (addF m (negF u))with
   | false=>rfl
   | true=>
    have:=(Jcm R.b1 i7.b1).mp c;rw[fm.vadd fv,fm.vadd fu.neg,Jc1]at this;grind
  show(x1,g.nm,_,_,addF m (negF u),addF m v,D,gs,rfl,d9.same b5,h7.same b8,i1.same b8,i7.ok ⋯ ⋯,R.ok ⋯ ⋯,by ac_nf,by ac_nf,d.pok,d.tok,d.nd,d.gnd,d.tr,d.con,λhn=>absurd rfl (hn g gm),λg' t3 e'=>?_);obtain rfl:=JdX d.gnd t3 gm e';show(λa2=>(by rw[p6]at a2;cases a2),λ_ y q0 e9 i2=>?_)
  mframe;have d8:=b5.trans e9;have a1:=d8 _ _ b7;have c9:=hb.same (S4.trans d8);show .inl (.inl ⟨gl,gx,rfl,SqL.of a1,?_⟩);rw[Jl8 (j:=C) ∅];rename_i s1 v9 w4 q0 r4 a9 s7;cbv;cbv;show ixL (i:=C) (SqL.of (a9 _ _ a1)) b6 ?_;show ixT (i:=0) (c9.same a9) rfl ?_;show ixL (i:=C) (SqL.of (a9 _ _ a1)) b6 ?_;show ixT (i:=1) (c9.same a9) rfl ?_;show ixL (i:=C) (SqL.of (a9 _ _ a1)) b6 ?_;show ixT (i:=2) (c9.same a9) rfl ?_;show(len5,?_);rename_i nt v7 v1 r4 u2 p5 o1;cbv;show(by show 1<=sizeLine;ac_nf,?_);rename_i p4 t6 n3 u2 n6 m8 s0;cbv;have c6:=p5.trans m8;show .inl ⟨s1,p4,_,_,rfl,rfl,c6 _ _ s7,s0,by rw[length_take];simp;ac_nf,?_⟩;rename_i s3 v2 u6 n6 n7 m3 q4;cbv;cbv;have c8:=a9.trans (c6.trans m3);have l7:=c8 _ _ a1;rw[show(C:Int)+1=((C+1:Nat):Int)from rfl];show .inl (.inl ⟨gl,gx,rfl,SqL.of l7,?_⟩);rw[Jhb (j:=C+1) ∅];rename_i s4 v6 u9 n7 s9 i3 u5;cbv;show .inl ⟨s3,s4,_,_,rfl,rfl,i3 _ _ q4,u5,by simp;ac_nf,?_⟩;obtain⟨gn,a4⟩:∃ gn:GD,gn=⟨g'.nm,g'.st,g'.en,addF m (negF u),addF m v⟩:=⟨_,rfl⟩;obtain⟨L,c7⟩:∃ L,L=gs.take C++[gn]++gs.drop (C+1):=⟨_,rfl⟩;have o7:(gs.map λw=>if w.nm=g'.nm then(⟨g'.nm,g'.st,g'.en,addF m (negF u),addF m v⟩:GD)else w)=L:=by rw[c7,a4];show JiC d.gnd hg
  rw[o7]at i2;rename_i du v5 v8 s9 c3 l4 g8;cbv;have O:=c8.trans (i3.trans l4);have Z:=d8.trans O;have g4:All2 (λ(g:GD) v=>TV K c3 g.td v) gs gx:=b9.mono λ_ _ z=>TV.sameT (S4.trans Z).t z;have t8:TV K c3 gn.td (.ref nt):=by
   rw[a4];show(nt,_,_,rfl,SqT.of ((m8.trans (m3.trans (i3.trans l4))) _ _ o1),h7.same (b8.trans (e9.trans O)),i1.same (b8.trans (e9.trans O)))
  have h5:All2 (λ(g:GD) v=>TV K c3 g.td v) L (gx.take C++[.ref nt]++gx.drop (C+1)):=by
   rw[c7];show((g4.take C).append (All2.one t8)).append (g4.drop (C+1))
  have a8:GsM s2 st ms L ds:=by
   rw[c7];show hG.put hg hm (by rw[a4]) ⟨u,v,gi,gj,ga,gb,n9,i8,m2,by rw[a4];show o3,by rw[a4];show p9,l2,fu,fv,by rw[a4],by rw[a4],uv⟩
  have B:=f8 L a8.l6 a8.nd a8.gok;have y6:=a8.l6;have w8:=a8.ld;have r6:∀ p∈D, ∀ q∈D,p.nm=q.nm->p=q:=λp hp q hq e=>JgF d.nd hp hq e;have f9:All2 (PDV K c3) D px:=d3.mono λ_ _ z=>z.sameT (S4.trans Z).t;have f7:=Z _ _ e8;have Y:=i2.same O;let(dy,y1,y2,y3,w1,w2,w3,hy,_):=id Y
  mframe;show(y,_,dy,_,rfl,hy,rfl,rfl,?_);cbv;show(y,D,L,rfl,Y,by ac_nf,λw9 yp s5 a3 v3 q6 m6=>?_);cbv;show nePs (SqL.of q6) m6 (SqL.of (a3 _ _ f7)) (f9.mono λ_ _ z=>z.sameT a3.t) ?_;cbv;have rt:∀(xx ll:Addr)(gy:List V)(gt:List GD)(Hx:Hp)(Q':VK)(E':XK),Same H4 Hx->TK K Ad Hx xx D gt->Hx ll=some (.lst gy)->All2 (λ(g:GD) v=>TV K Hx g.td v) gt gy->GsM s2 st ms gt ds->ThO D gt (spOf (spR st ms))->(∀ W,Same Hx W->Q' (.bl true) W)->Jcd K Ad [.ref xx, .ref ll, .ref tl] Hx Q' E':=λxx ll gy gt Hx Q' E' S tk el hA i6 th kk=>⟨xx,ll,tl,gy,dx,D,gt,ds,spOf (spR st ms),rfl,tk,el,hA,S _ _ k7,hD.mono (λ_ _ z=>FrV.same (S4.trans S) z),i6.l6,i6.ld,λg hg w hw e=>JdX th.gnd hw hg e,r6,th.pok,th.plb,th.pls,th.tok,i6.mids hC l8,kk⟩;have j3:=Z.trans a3;show rt y du _ L s5 _ _ j3 (Y.same a3) (a3 _ _ g8) (h5.mono λ_ _ z=>TV.sameT a3.t z) a8 B λc4 u4=>?_;have I:=a3.trans u4;have j4:=Z.trans I;cbv
  mframe;have t0:=I _ _ g8;have j6:All2 (λ(g:GD) v=>TV K c4 g.td v) L (gx.take C++[.ref nt]++gx.drop (C+1)):=h5.mono λ_ _ z=>TV.sameT I.t z;have g7:All2 (PDV K c4) D px:=f9.mono λ_ _ z=>z.sameT I.t;intro x3 i0 j1 j5 v4;have n8:Same c4 (upd (upd c4 i0 (.own x3)) x3 (.ins Ad.Thing i0 [])):=λb u q=>by rw[Jag (Jai q j1),Jag (Jai q j5)];show q
  show(x3,i0,pl,du,px,_,D,L,c4,rfl,Jaj,j1,n8,SqL.of (I _ _ f7),g7,SqL.of t0,j6,Nat.le_trans B.l8 ⋯,Nat.le_trans B.g6 ⋯,B.pok,λg hg=>(TOk.r (B.tok g hg)).1,B.nd,B.gnd,Jg2 B.tr B.nd,B.con,λ⟨g,hg,hb⟩=>?_,λ_ h8 d1 r7=>⟨rfl,?_⟩)
  .rw[(TOk.r (B.tok g hg)).2]at hb;cases hb
  mframe;have f3:=j4.trans d1;have f4:=f3 _ _ e8;have k9:All2 (PDV K h8) D px:=g7.mono λ_ _ z=>z.sameT d1.t;show(pl,rfl, .inl ⟨⟨_,SqL.of f4⟩,CompJ.list (xs:=px) (λi ys W=>W=h8/\All2 (FLV K h8) ((D.take i).map (·.mo)) ys) ⟨rfl,rfl⟩ (λi ys W hi z=>⟨by rw[z.1];show SqL.of f4,by have:=z.2.length;rw[length_map,length_take]at this;ac_nf⟩) ?_ ?_⟩)
  .rintro i yv ys W n4 ⟨rfl,hA⟩;simpa only[length_singleton,length_cons,length_nil,List.replicate,Jaz,map_cons,map_nil,Option.join_some];let(p,hp,b_,w7,x9,rfl,p8,_,o9):=k9.at_ n4;show ixT (i:=4) p8 rfl ?_;rw[take_succ,hp,Option.toList_some,map_append];show(rfl,hA.append (All2.one o9))
  rintro sy W ⟨rfl,i5⟩;rw[take_of_length_le ∅]at i5;rename_i sk w0 u7 W n0 a6 j0;cbv;have l5:=f3.trans a6;have c0:=i2.same (O.trans (I.trans (d1.trans a6)));have a7:=r7.same a6;have d2:∀{ks:List PD}{gs:List GD}{W:Hp}{x:Addr},TK K Ad W x ks gs->TK K Ad W x ks ((esN ks gs).map (·.1)):=λh=>by rw[Jiq];show h
  mframe;rename_i N2 x7;have k5:∀ W,Same n0 W->N2 [some (.ref a),some (.ref pl),some (.ref ml),some (.ref gl),some (.ref tl),some (.ref x1),some (.int cc),some (.int (C:Int)),some (.ref pL),some (.ref p2),some (.ref pO),some (.ref y),some (.ref du),some (.ref x3),some (.ref sk)] W:=by
   intro f0 J;have f5:Same H7 f0:=S8.trans (S9.trans (b8.trans (e9.trans (O.trans (I.trans (d1.trans (a6.trans J)))))));have b4:=l5.trans J;obtain⟨j8,g5⟩:∃ j8,gx[0]?=some j8:=⟨_,List.getElem?_eq_getElem ∅⟩;let(g0,t4,b3,_,_,rfl,s8,_,_):=b9.at_ g5
   mframe;show ixL (i:=0) (SqL.of (b4 _ _ b7)) g5 ?_;show ixT (i:=0) (s8.same (S4.trans b4)) rfl ?_;show(x1,g0.nm,_,_,addF m v,addF (addF m v) o,D,gs,rfl,d9.same b4,f2.same (S6.trans (S7.trans f5)),FrV.of (f5 _ _ e7),R.ok ⋯ ⋯,d5.ok ⋯ ⋯,by ac_nf,by ac_nf,d.pok,d.tok,d.nd,d.gnd,d.tr,d.con,λhn=>absurd rfl (hn g0 (List.mem_of_getElem? t4)),λg3 y4 e3=>⟨λa2=>?_,λ_ y2 a0 M _=>?_⟩)
   .have a2:(!(lessF (addF (addF m v) o) (addF m v)))=false:=a2;have a2:lessF (addF (addF m v) o) (addF m v)=true:=by simpa using a2
    have:=(Jcm d5.b1 R.b1).mp a2;rw[R.vadd fo]at this;grind
   have X:=b4.trans M
   mframe;have h6:Same c3 a0:=I.trans (d1.trans (a6.trans (J.trans M)));show rt x1 gl gx gs a0 _ _ X (d9.same X) (X _ _ b7) (b9.mono λ_ _ z=>TV.sameT (S4.trans X).t z) hG d λe0 d4=>?_;show(true,rfl,?_)
   (rw[if_pos rfl])
   have a5:=h6.trans d4;show rt y du _ L e0 _ _ (X.trans d4) (Y.same a5) (a5 _ _ g8) (h5.mono λ_ _ z=>TV.sameT a5.t z) a8 B λy0 t9=>?_;show(true,rfl,?_)
   (rw[if_pos rfl])
   have d6:=X.trans (d4.trans t9);have d7:=d9.same d6;let(t5,_,_,_,_,_,_,o4,_):=id d7;show(x1,_,t5,_,rfl,o4,rfl,rfl,?_);show(x1,D,gs,rfl,d7,by ac_nf,λl9 y9 x0 k8 _ q7 j2=>?_);let(r1,r2,r3):=eqPs (SqL.of q7) j2 (SqL.of ((d6.trans k8) _ _ e8)) (d3.mono λ_ _ z=>z.sameT (S4.trans (d6.trans k8)).t);show(_,_,r1,r2,by ac_nf,rfl,?_);rw[Jb8];show k _
  have m5:∀ s∈D.map (·.mo),FB 200 56 s:=λs hs=>by
   let(p,hp,rfl):=mem_map.mp hs;show(hC.zb p hp).2.mono ⋯ ⋯
  have f6:∀ W,Same n0 W->Jbv K Ad [.ref y, .ref sk] W (λx H1=>Jbv K Ad [.ref x3, .ref sk] H1 (λy2 H2=>rNeU K x y2 H2 λx W=>∃ k,x=.bl k/\if k=true then Q (.bl false) W else N2 [some (.ref a),some (.ref pl),some (.ref ml),some (.ref gl),some (.ref tl),some (.ref x1),some (.int cc),some (.int (C:Int)),some (.ref pL),some (.ref p2),some (.ref pO),some (.ref y),some (.ref du),some (.ref x3),some (.ref sk)] W) E0) E0:=by
   intro f0 J;show(y,sk,D,esN D L,sy,D.map (·.mo),_,rfl,d2 (c0.same J),SqL.of (J _ _ j0),i5.mono (λ_ _ z=>FLV.sameT (a6.trans J).t z),length_map _,m5,B.isc l8,λb1 a0 M r8=>?_);show(x3,sk,D,esN D L,sy,D.map (·.mo),_,rfl,d2 (a7.same (J.trans M)),SqL.of ((J.trans M) _ _ j0),i5.mono (λ_ _ z=>FLV.sameT (a6.trans (J.trans M)).t z),length_map _,m5,B.isc l8,λb2 e0 d4 n5=>?_);have x8:=r8.trans n5.symm;have : b1=b2:=by cases b1 <;> cases b2 <;> simp_all
   subst this
   (show rNeU K (.bl b1) (.bl b1) e0 _)
   (rw[y72y])
   show(_,rfl,?_)
   (rw[if_neg (by simp)])
   show k5 e0 (J.trans (M.trans d4))
  show(y,D,esN D L,_,rfl,d2 c0,B.shc,λr1 q1 t1 z1 h0 f0 J i4 p7 o8 r5=>?_,λz1 i9 q1 f0 J i4=>?_)
  .show(x3,D,esN D L,_,rfl,d2 (a7.same J),B.shc,λ_ q2 t2 z2 w5 a0 M c5 s6 o6 n1=>?_,λz2 ζ=>by let(i,e,h1,h2,_):=ζ;show absurd h2 (Rat.not_lt.mpr (r1 e (List.mem_of_getElem? h1))));obtain rfl:=ShR.uniq B.nd (λp hp=>(B.pok p hp).w) r5 n1;show(.tup [.lst (h0.map shD), .non], .tup [.lst (h0.map shD), .non],?_,?_,?_,rfl,?_)
   .simp only[Rep,RepL];show(q1,_,rfl,SqT.of (M _ _ i4),_,_,rfl,⟨t1,z1,rfl,SqL.of (M _ _ p7),(o8.mono (P':=ShV K a0) λ_ _ z=>z.sameT M.t).repL λ_ _ z=>z.rep⟩,_,_,rfl,rfl,rfl)
   .simp only[Rep,RepL];show(q2,_,rfl,SqT.of c5,_,_,rfl,⟨t2,z2,rfl,SqL.of s6,o6.repL λ_ _ z=>z.rep⟩,_,_,rfl,rfl,rfl)
   .have:=JdV (n:=10) (f:=shD) (λa=>by unfold shD;cases a.sp <;> simp[frD,depD,depL]) h0;simp[depD,depL];ac_nf
   .rw[Jb8];show(_,rfl,?_)
    (rw[if_neg (by simp)])
    show f6 a0 (J.trans M)
  .show(x3,D,esN D L,_,rfl,d2 (a7.same J),B.shc,λr1=>?_,λz2 u3 q2 a0 M c5=>?_)
   .let(i,e,h1,h2,_):=i9;show absurd h2 (Rat.not_lt.mpr (r1 e (List.mem_of_getElem? h1)))
   .obtain rfl:z1=z2:=by
     let(i,e,h1,h2,h3,h4):=i9;let(i',e',k1,k2,k3,k4):=u3;have mt:∀{l:List (GD × List Str)}{i j:Nat}{e:GD × List Str},l[i]?=some e->i<j->e∈l.take j:=λ{l i j e} h hl=>List.mem_of_getElem? (i:=i) (by rw[List.getElem?_take_of_lt hl];show h);rcases Nat.lt_trichotomy i i' with c | c | c
     .show absurd h2 (Rat.not_lt.mpr (k3 e (mt h1 c)))
     .subst c;rw[h1]at k1;cases k1;rw[<- h4, <- k4]
     .show absurd k2 (Rat.not_lt.mpr (h3 e' (mt k1 c)))
    show(.tup [.non, .str z1], .tup [.non, .str z1],?_,?_,by simp[depD,depL],rfl,?_)
    .simp only[Rep,RepL];show(q1,_,rfl,SqT.of (M _ _ i4),_,_,rfl,rfl,_,_,rfl,rfl,rfl)
    .simp only[Rep,RepL];show(q2,_,rfl,SqT.of c5,_,_,rfl,rfl,_,_,rfl,rfl,rfl)
    .rw[Jb8];show(_,rfl,?_)
     (rw[if_neg (by simp)])
     show f6 a0 (J.trans M)
 by_cases c1:(cc.fdiv 64).fmod 4=1
 ·(rw[if_pos (by simpa using c1)])
  show key p2 (negF v) (by rw[JiG];show f2) fv.neg (by rw[Jc1];grind)
 ·(rw[if_neg (by simpa using c1)])
  show key p1 u f1 fu uv
end
theorem lenE1{α}{P:List α->Prop}(h:∀ a,P [a]):∀ us:List α,us.length=1->P us|[a],_=>h a
theorem lenE2{α}{P:List α->Prop}(h:∀ a b,P [a,b]):∀ us:List α,us.length=2->P us|[a,b],_=>h a b
theorem lenE3{α}{P:List α->Prop}(h:∀ a b c,P [a,b,c]):∀ us:List α,us.length=3->P us|[a,b,c],_=>h a b c
theorem lenE4{α}{P:List α->Prop}(h:∀ a b c d,P [a,b,c,d]):∀ us:List α,us.length=4->P us|[a,b,c,d],_=>h a b c d
theorem lenD3{α}{P:List α->Prop}{ds:List α}(h:∀ a b c,P [a,b,c])(e:ds.length+3=n)(us:List α)(k:(us++ds).length=n):P us:=lenE3 h us (by rw[length_append]at k;ac_nf)
def FnG(K:W.Frag)(f:Addr)(n q:Str)(s:Stmt)(d:Value):Prop:=∃ fd,FunD K n q s d f fd/\W.keepIn K (.ref f)=true
def FnA(K:W.Frag)(f:Addr)(n:Str)(s:Stmt):Prop:=∃ fd,FunD K n n s .none f fd/\W.keepIn K (.ref f)=true/\W.nsIn K mainGlobals n=some (some (.ref f))
variable{x:Str}{st:Stmt}{oc dc pm cd ct:Value}{od an:Option Addr}{sl:Array (Option Value)}
theorem fnG{K:W.Frag}{f:Addr}{q:Str}{d:Value}{kV:Value}(l:K.lookup f=some ⟨oc,od, .func (W.fnOf x q (Jam st) (Jal st) (Jae st) d kV dc pm an cd ct),sl⟩)(c:W.codeIn K cd q=true)(k:W.keepIn K (.ref f)=true):FnG K f x q st d:=⟨_,Jao l c k,k⟩
theorem fnA{K:W.Frag}{f:Addr}{kV:Value}(a:W.nsIn K mainGlobals x=some (some (.ref f)))(l:K.lookup f=some ⟨oc,od, .func (W.fnOf x x (Jam st) (Jal st) (Jae st) .none kV dc pm an cd ct),sl⟩)(c:W.codeIn K cd x=true)(k:W.keepIn K (.ref f)=true):FnA K f x st:=⟨_,Jao l c k,k,a⟩
local macro_rules|`(∅)=>`(⟨$(Lean.mkIdent `SlackError),$(Lean.mkIdent `NoNumber),$(Lean.mkIdent `NoName),$(Lean.mkIdent `NoGap),$(Lean.mkIdent `Apart),$(Lean.mkIdent `InRing),$(Lean.mkIdent `NoPart),$(Lean.mkIdent `NoRow),$(Lean.mkIdent `Off),$(Lean.mkIdent `Twice),$(Lean.mkIdent `Tight),$(Lean.mkIdent `Part),$(Lean.mkIdent `Gap),$(Lean.mkIdent `Joints),$(Lean.mkIdent `Thing),$(Lean.mkIdent `Scale),$(Lean.mkIdent `Lid),(.str "abcdefghijklmnopqrstuvwxyz" $(Lean.mkIdent `Baa)),(.int 8 $(Lean.mkIdent `Bab)),$(Lean.mkIdent `ZERO)⟩)
local macro_rules|`($f:ident∘$n:str)=>`(W.nsIn $(Lean.mkIdent `K) mainGlobals $n=some (some (.ref $f)))|`($i:num∘$n:str∘$t:ident)=>`(FnA $(Lean.mkIdent `K) $(Lean.mkIdent (.mkSimple s!"f{i.getNat}")) $n $t)|`($i:num∘$n:str∘$q:str∘$t:ident)=>`(FnG $(Lean.mkIdent `K) $(Lean.mkIdent (.mkSimple s!"f{i.getNat}")) $n $q $t .none)
local macro_rules|`($c:ident∣$n:str)=>`(W.codeIn $(Lean.mkIdent `K) $c $n=true)
local macro_rules|`(-$f)=>`(W.keepIn $(Lean.mkIdent `K) (.ref $f)=true)
local macro_rules|`($f:ident/$n:str)=>`(W.findIn $(Lean.mkIdent `K) (.ref $f) $n=some none)|`($f:ident/$n:str/$g:ident)=>`(W.findIn $(Lean.mkIdent `K) (.ref $f) $n=some (some (.ref $g)))
local macro_rules|`(!$f:ident)=>`(FunD.binds $f (by bv_omega))
local macro_rules|`(tactic|bv_omega)=>`(tactic|first|exact fun _ _ _ _ _ _=>lenE1 fun _=>rfl|exact fun _ _ _ _ _ _=>lenE2 fun _ _=>rfl|exact fun _ _ _ _ _ _=>lenE3 fun _ _ _=>rfl|exact fun _ _ _ _ _ _=>lenE4 fun _ _ _ _=>rfl)
theorem all_mk{l:W.OpenLaw}{w:World}{K:W.Frag}{h:Heap}{mg:Str->Option Value}{fa:Addr}{SlackError NoNumber NoName NoGap Apart InRing NoPart NoRow Off Twice Tight Part Gap Joints Thing Scale Lid f1 f2 f3 f4 f5 f6 f7 f8 f9 f10 f11 f12 f13 f14 f15 f16 f17 f18 f19 f20 f21 f22 f23 f24 f25 f26 f27 f28 f29 f30 f31 f32 f33 f34 f35 f36 f37 f38 f39 f40 T40 f41 f42 f43 f44 f45 f46 f47 f48 f49 f50 f51 f52 f53 f54 f55 f56 f57 f58 f59 f60 f61 f62 f63 f64 f65 ZERO xN_Tight:Addr}{tc40:Value}{td40:Option Addr}{tn40:Nat}{ts40:Array (Option Value)}{tk40a tk40b:Tok}{od65 an65:Option Addr}{sl65:Array (Option Value)}{oc65 kV65 dc65 pm65 cd65 ct65:Value}{Baa:Tok}{Bab:Tok}{Bd5:Option Addr}{Bd6:Nat}{Bd7:Array (Option Value)}{BdZ Bd0:Tok}{xd_Tight:Option Addr}{xnm_Tight xq_Tight:Str}{xbs_Tight xsub_Tight:List Value}{xsn_Tight:List Str}{xab_Tight:Bool}{xcol_Tight:Option Bool}{xk0_Tight xk1_Tight xk2_Tight xk3_Tight xk5_Tight:Option Value}(X:K.In h)(G:h.Ns mainGlobals mg)(hfa:mg "law"=some (.ref fa))
 (aa:SlackError∘"SlackError") (ab:NoNumber∘"NoNumber") (ac:NoName∘"NoName") (ad:NoGap∘"NoGap") (ae:Apart∘"Apart") (af:InRing∘"InRing") (ag:NoPart∘"NoPart") (ah:NoRow∘"NoRow") (ai:Off∘"Off") (aj:Twice∘"Twice") (ak:Tight∘"Tight") (al:Part∘"Part") (am:Gap∘"Gap") (an:Joints∘"Joints") (ao:Thing∘"Thing") (ap:Scale∘"Scale") (aq:Lid∘"Lid") (l1:1∘"common_divisor"∘Bal) (l2:2∘"plus"∘BcS) (l3:3∘"minus"∘Bb9) (l4:4∘"times"∘Bca) (l5:5∘"over"∘BcT) (l6:6∘"under"∘Bcb) (l7:7∘"is_name"∘BbB) (l8:8∘"is_whole"∘Ba8) (l9:9∘"is_fraction"∘BaC) (l10:10∘"is_bound"∘Ba9) (l11:11∘"are_faces"∘BaZ) (l12:12∘"are_bounds"∘BaJ) (l13:13∘"is_tie"∘BbY) (a14:Part/"__init__"/f14) (l14:14∘"__init__"∘"Part.__init__"∘Bar) (a15:Part/"plain"/f15) (l15:15∘"plain"∘"Part.plain"∘BaK) (a16:Gap/"__init__"/f16) (l16:16∘"__init__"∘"Gap.__init__"∘Bau) (a17:Gap/"plain"/f17) (l17:17∘"plain"∘"Gap.plain"∘Ba1) (l18:18∘"is_part"∘BbC) (l19:19∘"is_gap"∘BbZ) (l20:20∘"part_of"∘BbD) (l21:21∘"gap_of"∘Bb0) (a22:Joints/"__init__"/f22) (l22:22∘"__init__"∘"Joints.__init__"∘Bah) (a23:Joints/"link"/f23) (l23:23∘"link"∘"Joints.link"∘BaD) (a24:Joints/"way_between"/f24) (l24:24∘"way_between"∘"Joints.way_between"∘Baf) (a25:Thing/"__init__"/f25) (l25:25∘"__init__"∘"Thing.__init__"∘Bam) (a26:Thing/"parts"/f26) (l26:26∘"parts"∘"Thing.parts"∘BaE) (a27:Thing/"gaps"/f27) (l27:27∘"gaps"∘"Thing.gaps"∘BaL) (a28:Thing/"way"/f28) (l28:28∘"way"∘"Thing.way"∘Ba2) (a29:Thing/"middle"/f29) (l29:29∘"middle"∘"Thing.middle"∘Bav) (a30:Thing/"room"/f30) (l30:30∘"room"∘"Thing.room"∘BaM) (a31:Scale/"__init__"/f31) (l31:31∘"__init__"∘"Scale.__init__"∘Ban) (a32:Scale/"lifted"/f32) (l32:32∘"lifted"∘"Scale.lifted"∘Baw) (a33:Scale/"lowered"/f33) (l33:33∘"lowered"∘"Scale.lowered"∘Bas) (l34:34∘"scale_of"∘Bba) (l35:35∘"part_names"∘BaN) (a36:Lid/"__init__"/f36) (l36:36∘"__init__"∘"Lid.__init__"∘Bax) (a37:Lid/"full_level"/f37) (l37:37∘"full_level"∘"Lid.full_level"∘Bao) (a38:Lid/"settle"/f38) (l38:38∘"settle"∘"Lid.settle"∘BaO) (a39:Lid/"has_stopped"/f39) (l39:39∘"has_stopped"∘"Lid.has_stopped"∘Bai) (a40:Tight/"__init__"/f40) (l40:FnG K f40 "__init__" "Tight.__init__" Bap (.ref T40)) (t40:K.lookup T40=some ⟨tc40,td40, .seq #[.str "" tk40a, .str "" tk40b] tn40,ts40⟩) (l41:41∘"lids_of"∘BbE) (l42:42∘"most_levels"∘BaF) (l43:43∘"coming_stops"∘Bay) (l44:44∘"first_level"∘BaG) (l45:45∘"stopped_at"∘BaQ) (l46:46∘"risen_levels"∘Baz) (l47:47∘"gap_stop"∘Bbb) (l48:48∘"share"∘Bcc) (l49:49∘"fits"∘BcV) (l50:50∘"is_sharing"∘BaR) (l51:51∘"gap_named"∘Ba3) (l52:52∘"with_row"∘Bbd) (l53:53∘"changed"∘BbF) (l54:54∘"_law_cell"∘Bbe) (l55:55∘"_law_signed"∘BaS) (l56:56∘"_law_low"∘BbG) (l57:57∘"_law_plus"∘Bbf) (l58:58∘"_law_parts"∘Ba4) (l59:59∘"_law_bounds"∘BaT) (l60:60∘"_law_gaps"∘Bbg) (l61:61∘"_law_shared"∘BaV) (l62:62∘"_law_room"∘Bbh) (l63:63∘"_law_refused"∘BaH) (l64:64∘"_law_right"∘Ba5) (a65:f65∘"law") (l65:K.lookup f65=some ⟨oc65,od65, .func (W.fnOf "law" "law" (Jam Bc2) (Jal Bc2) (Jae Bc2) .none kV65 dc65 pm65 an65 cd65 ct65),sl65⟩) (c65:cd65∣"law") (k65:-f65) (ar:W.nsIn K mainGlobals "abs"=some none) (au:W.nsIn K mainGlobals "isinstance"=some none) (av:W.nsIn K mainGlobals "len"=some none) (aw:W.nsIn K mainGlobals "int"=some none) (ax:W.nsIn K mainGlobals "bool"=some none) (ay:W.nsIn K mainGlobals "tuple"=some none) (az:W.nsIn K mainGlobals "str"=some none) (aA:W.nsIn K mainGlobals "range"=some none) (aB:W.nsIn K mainGlobals "list"=some none) (aC:W.nsIn K mainGlobals "min"=some none) (aD:W.nsIn K mainGlobals "sorted"=some none) (aE:W.nsIn K mainGlobals "all"=some none) (aF:W.nsIn K mainGlobals "sum"=some none) (aG:W.nsIn K mainGlobals "dict"=some none) (aH:W.nsIn K mainGlobals "zip"=some none) (aI:W.nsIn K mainGlobals "ValueError"=some none) (aJ:W.nsIn K mainGlobals "SMALL_LETTERS"=some (some (.str "abcdefghijklmnopqrstuvwxyz" Baa))) (aK:W.nsIn K mainGlobals "LONGEST_NAME"=some (some (.int 8 Bab))) (aL:ZERO∘"ZERO") (aM:K.lookup ZERO=some ⟨.type "tuple",Bd5, .seq #[.int 0 BdZ, .int 1 Bd0] Bd6,Bd7⟩) (aN:W.excIn K SlackError [.type "ValueError", .type "Exception", .type "BaseException", .type "object"] "ValueError.__new__"=true) (aO:W.excIn K NoNumber [.type "ValueError", .type "Exception", .type "BaseException", .type "object"] "ValueError.__new__"=true) (aP:W.excIn K NoName [.type "ValueError", .type "Exception", .type "BaseException", .type "object"] "ValueError.__new__"=true) (aQ:W.excIn K NoGap [.type "ValueError", .type "Exception", .type "BaseException", .type "object"] "ValueError.__new__"=true) (aR:K.lookup Tight=some (excClassObj xnm_Tight xq_Tight Tight xN_Tight xbs_Tight (.ref SlackError::BMV) true xsn_Tight xsub_Tight xab_Tight xcol_Tight xd_Tight xk0_Tight xk1_Tight xk2_Tight xk3_Tight xk5_Tight "ValueError.__new__")) (aS:Mk K Part f14) (aT:Mk K Gap f16) (aU:Mk K Joints f22) (aV:Mk K Thing f25) (aW:Mk K Scale f31) (aX:Mk K Lid f36) (aY:W.isFn K (.ref f15)=true) (aZ:W.isFn K (.ref f17)=true) (a0:W.isFn K (.ref f23)=true) (ba:W.isFn K (.ref f24)=true) (bb:W.isFn K (.ref f26)=true) (bc:W.isFn K (.ref f27)=true) (bd:W.isFn K (.ref f28)=true) (be:W.isFn K (.ref f29)=true) (bf:W.isFn K (.ref f30)=true) (bg:W.isFn K (.ref f32)=true) (bh:W.isFn K (.ref f33)=true) (bi:W.isFn K (.ref f37)=true) (bj:W.isFn K (.ref f38)=true) (bk:W.isFn K (.ref f39)=true) (bl:W.isFn K (.ref f40)=true) (bm:-Tight) (bn:PartC K Part) (bo:GapC K Gap) (bp:JkN K Joints) (bq:Jl0 K Thing) (br:JlZ K Scale) (bs:LidC K Lid) (bt:W.findIn K (.ref Tight) "__setattr__"=some (some (.builtin "object.__setattr__"))) (bu:Tight/"tight_gap") (bv:W.hasDictIn K Tight=true) (bw:W.findIn K (.ref Tight) "__getattribute__"=some (some (.builtin "BaseException.__getattribute__"))) (bx:Tight/"__getattr__") (bz:W.mroIn K Tight (.type "BaseException")=some true) (bA:W.specialIn K (.ref SlackError) "__getattribute__"=some (some (.builtin "type.__getattribute__"))) (bB:W.readsIn K SlackError (.type "type")=true) (bC:W.findCls K (.ref SlackError) (.type "type") "__init__"=some (.val (.builtin "ValueError.__init__"))) (bD:W.typeIn K (.ref Tight)=some (.type "type")) (bE:W.mroIn K Tight (.ref Tight)=some true) (bF:W.hasDictIn K SlackError=true) (bG:W.typeIn K (.ref SlackError)=some (.type "type")) (bH:W.mroIn K SlackError (.type "BaseException")=some true) (bI:W.specialIn K (.builtin "object.__class__") "__get__"=some (some (.builtin "getset_descriptor.__get__"))) (bJ:W.takesIn K (.builtin "object.__class__")=some true) (bK:W.mroIn K NoGap (.ref SlackError)=some true) (bL:W.hasDictIn K NoGap=true) (bM:W.findIn K (.ref NoGap) "__getattribute__"=some (some (.builtin "BaseException.__getattribute__"))) (bN:NoGap/"__getattr__") (bO:W.findIn K (.ref NoGap) "__class__"=some (some (.builtin "object.__class__"))) (bP:W.mroIn K NoGap (.type "object")=some true) (bQ:W.mroIn K NoGap (.type "BaseException")=some true) (bR:W.kitOne K (.ref NoGap) (.type "ValueError")=some true) (bS:W.kitOne K (.ref NoGap) (.ref NoGap)=some true) (bT:W.kitOne K (.ref NoGap) (.ref NoName)=some false) (bU:W.kitOne K (.ref NoGap) (.ref NoPart)=some false) (bV:W.kitOne K (.ref NoGap) (.ref Apart)=some false) (bW:W.kitOne K (.ref NoGap) (.ref NoRow)=some false) (bX:W.kitOne K (.ref NoGap) (.ref Off)=some false) (bY:W.kitOne K (.ref NoGap) (.ref Tight)=some false) (bZ:W.mroIn K NoName (.ref SlackError)=some true) (b0:W.hasDictIn K NoName=true) (ca:W.findIn K (.ref NoName) "__getattribute__"=some (some (.builtin "BaseException.__getattribute__"))) (cb:NoName/"__getattr__") (cc:W.findIn K (.ref NoName) "__class__"=some (some (.builtin "object.__class__"))) (cd:W.mroIn K NoName (.type "object")=some true) (ce:W.mroIn K NoName (.type "BaseException")=some true) (cf:W.kitOne K (.ref NoName) (.type "ValueError")=some true) (cg:W.kitOne K (.ref NoName) (.ref NoGap)=some false) (ch:W.kitOne K (.ref NoName) (.ref NoName)=some true) (ci:W.kitOne K (.ref NoName) (.ref NoPart)=some false) (cj:W.kitOne K (.ref NoName) (.ref Apart)=some false) (ck:W.kitOne K (.ref NoName) (.ref NoRow)=some false) (cl:W.kitOne K (.ref NoName) (.ref Off)=some false) (cm:W.kitOne K (.ref NoName) (.ref Tight)=some false)
  : ∃ fd:FuncData,(∀(s:Shared)(v:Value),BindsTo s fd ⟨[v],[]⟩ [("_law_script",v)])/\∀ base:Heap,K.In base->base.Ns mainGlobals mg->FnOk l.prog w K mg base (CX1 l.prog w) 13 fa fd ["_law_script"] (Bdq K):=by
 have e:=hfa.symm.trans (W.mg_of X G a65);cases e;have o:∀{x:Str}{v:Value},W.nsIn K mainGlobals x=some (some v)->mg x=some v:=λh=>W.mg_of X G h;have n:∀{x:Str},W.nsIn K mainGlobals x=some none->mg x=none:=λh=>W.mg_none_of X G h;have T:Txt K mg ∅:=⟨n ar,n au,n av,n aw,n ax,n ay,n az,n aA,n aB,n aC,n aD,n aE,n aF,n aG,n aH,n aI,o aa,o ab,o ac,o ad,o ae,o af,o ag,o ah,o ai,o aj,o ak,o al,o am,o an,o ao,o ap,o aq,o aJ,⟨_,rfl⟩,o aK,⟨_,rfl⟩,o aL,rfl,λH=>.inr ⟨_,_,_,aM,rfl,rfl,by show 2<=sizeLine;decide, .cons ⟨_,rfl⟩ (.cons ⟨_,rfl⟩ (.nil))⟩,aN,aO,aP,aQ,(λC hC=>by cases hC;show bn),(λC hC=>by cases hC;show bo),(λC hC=>by cases hC;show bp),(λC hC=>by cases hC;show bq),(λC hC=>by cases hC;show br),(λC hC=>by cases hC;show bs),⟨bt,bu⟩,⟨bv,bw,bx,bu,bz⟩,⟨bA,bB,bC⟩,⟨bv,bD,bz,bE⟩,⟨bF,bG,bH,bK⟩,⟨bL,bM,bN,bO,bI,bJ,bP,bQ⟩,bR,bS,bT,bU,bV,bW,bX,bY,⟨bF,bG,bH,bZ⟩,⟨b0,ca,cb,cc,bI,bJ,cd,ce⟩,cf,cg,ch,ci,cj,ck,cl,cm⟩;let(_,F1,k1,a1):=l1;let(_,F2,k2,a2):=l2;let(_,F3,k3,a3):=l3;let(_,F4,k4,a4):=l4;let(_,F5,k5,a5):=l5;let(_,F6,k6,a6):=l6;let(_,F7,k7,a7):=l7;let(_,F8,k8,a8):=l8;let(_,F9,k9,a9):=l9;let(_,F10,k10,a10):=l10;let(_,F11,k11,a11):=l11;let(_,F12,k12,a12):=l12;let(_,F13,k13,a13):=l13;let(_,F14,k14):=l14;let(_,F15,k15):=l15;let(_,F16,k16):=l16;let(_,F17,k17):=l17;let(_,F18,k18,a18):=l18;let(_,F19,k19,a19):=l19;let(_,F20,k20,a20):=l20;let(_,F21,k21,a21):=l21;let(_,F22,k22):=l22;let(_,F23,k23):=l23;let(_,F24,k24):=l24;let(_,F25,k25):=l25;let(_,F26,k26):=l26;let(_,F27,k27):=l27;let(_,F28,k28):=l28;let(_,F29,k29):=l29;let(_,F30,k30):=l30;let(_,F31,k31):=l31;let(_,F32,k32):=l32;let(_,F33,k33):=l33;let(_,F34,k34,a34):=l34;let(_,F35,k35,a35):=l35;let(_,F36,k36):=l36;let(_,F37,k37):=l37;let(_,F38,k38):=l38;let(_,F39,k39):=l39;let(_,F40,k40):=l40;have b40:=F40.bindsD (ps:=["self","words","tight_gap"]) t40 rfl [] λ_ _ _ _ _ _=>lenD3 (λ_ _ _=>⟨_,rfl,rfl⟩) rfl;let(_,F41,k41,a41):=l41;let(_,F42,k42,a42):=l42;let(_,F43,k43,a43):=l43;let(_,F44,k44,a44):=l44;let(_,F45,k45,a45):=l45;let(_,F46,k46,a46):=l46;let(_,F47,k47,a47):=l47;let(_,F48,k48,a48):=l48;let(_,F49,k49,a49):=l49;let(_,F50,k50,a50):=l50;let(_,F51,k51,a51):=l51;let(_,F52,k52,a52):=l52;let(_,F53,k53,a53):=l53;let(_,F54,k54,a54):=l54;let(_,F55,k55,a55):=l55;let(_,F56,k56,a56):=l56;let(_,F57,k57,a57):=l57;let(_,F58,k58,a58):=l58;let(_,F59,k59,a59):=l59;let(_,F60,k60,a60):=l60;let(_,F61,k61,a61):=l61;let(_,F62,k62,a62):=l62;let(_,F63,k63,a63):=l63;let(_,F64,k64,a64):=l64;have F65:=Jao l65 c65 k65;show(W.fnOf "law" "law" (Jam Bc2) (Jal Bc2) (Jae Bc2) .none kV65 dc65 pm65 an65 cd65 ct65,λs v=>.of_eq rfl,λbase _ _=>?_);have cC:∀{ps:List Str}{sp:Sp}{fd:FuncData}{k:Nat}{x:Str}{f:Addr},FnOk l.prog w K mg base (CX1 l.prog w) k f fd ps sp->W.nsIn K mainGlobals x=some (some (.ref f))->W.keepIn K (.ref f)=true->Binds K fd ps []->Cal l.prog w K mg base k x ps [] sp:=λh a c b=>⟨_,_,[],h,o a,c,b, .nil⟩;have cK:∀{ps:List Str}{sp:Sp}{fd:FuncData}{k:Nat}{x:Str}{f C:Addr},FnOk l.prog w K mg base (CX1 l.prog w) k f fd ps sp->W.nsIn K mainGlobals x=some (some (.ref C))->Mk K C f->Binds K fd ps []->KCal l.prog w K mg base k x C ps sp:=λh a c b=>⟨_,_,h,o a,c,b⟩;have cM:∀{ps:List Str}{sp:Sp}{fd:FuncData}{k:Nat}{m:Str}{Cs:Addr->Prop}{f:Addr},FnOk l.prog w K mg base (CX1 l.prog w) k f fd ps sp->(∀ C,Cs C->Cls K C/\Meth K C m f)->W.keepIn K (.ref f)=true->Binds K fd ps []->MCal l.prog w K mg base k m Cs ps sp:=λh a c b=>⟨_,_,h,a,c,b⟩;have cn:=cC (JdC F1 T) a1 k1 (!F1);have co:=cC (Jlm F2 T cn) a2 k2 (!F2);have cp:=cC (JjL F3 T co) a3 k3 (!F3);have cq:=cC (JjN F4 T cn) a4 k4 (!F4);have cr:=cC (Jll F5 T cq) a5 k5 (!F5);have cs:=cC (JjO F6 T) a6 k6 (!F6);have ct:=cC (JhQ F7 T) a7 k7 (!F7);have cu:=cC (JgI F8 T) a8 k8 (!F8);have cv:=cC (JeN F9 T cu cn) a9 k9 (!F9);have cw:=cC (JgH F10 T cv) a10 k10 (!F10);have cx:=cC (Jga F11 T ct) a11 k11 (!F11);have cy:=cC (Jfn F12 T cw cs) a12 k12 (!F12);have cz:=cC (JiL F13 T ct cx cy) a13 k13 (!F13);have cA:=cK (JdQ F14 T) al aS (!F14);have cD:=cM (m:="plain") (Cs:=IsPart ∅) (Jfk F15 T) (λC hC=>⟨(T.BcR C hC).cls,(by cases hC;show(a15,aY,k15))⟩) k15 (!F15);have cE:=cK (Jei F16 T) am aT (!F16);have cF:=cM (m:="plain") (Cs:=IsGap ∅) (Jf8 F17 T) (λC hC=>⟨(T.BdO C hC).cls,(by cases hC;show(a17,aZ,k17))⟩) k17 (!F17);have cG:=cC (JhR F18 T ct cx cv cu cs) a18 k18 (!F18);have cH:=cC (JiK F19 T cz) a19 k19 (!F19);have cI:=cC (JhU F20 T cG cA) a20 k20 (!F20);have cJ:=cC (JiJ F21 T cH cE) a21 k21 (!F21);have cL:=cK (Jdj F22 T) an aU (!F22);have cN:=cM (m:="link") (Cs:=Jde ∅) (JeK F23 T) (λC hC=>⟨(T.Bb6 C hC).cls,(by cases hC;show(a23,a0,k23))⟩) k23 (!F23);have cO:=cM (m:="way_between") (Cs:=Jde ∅) (JcM F24 T) (λC hC=>⟨(T.Bb6 C hC).cls,(by cases hC;show(a24,ba,k24))⟩) k24 (!F24);have cP:=cK (JdA F25 T cL cI cJ cO cN) ao aV (!F25);have cQ:=cM (m:="parts") (Cs:=JaH ∅) (JeL F26 T cD) (λC hC=>⟨(T.Bbi C hC).cls,(by cases hC;show(a26,bb,k26))⟩) k26 (!F26);have cR:=cM (m:="gaps") (Cs:=JaH ∅) (Jfl F27 T cF) (λC hC=>⟨(T.Bbi C hC).cls,(by cases hC;show(a27,bc,k27))⟩) k27 (!F27);have cS:=cM (m:="way") (Cs:=JaH ∅) (Jf9 F28 T) (λC hC=>⟨(T.Bbi C hC).cls,(by cases hC;show(a28,bd,k28))⟩) k28 (!F28);have cT:=cM (m:="middle") (Cs:=JaH ∅) (Jel F29 T cS co cp) (λC hC=>⟨(T.Bbi C hC).cls,(by cases hC;show(a29,be,k29))⟩) k29 (!F29);have cU:=cM (m:="room") (Cs:=JaH ∅) (Jfm F30 T cT cp cs) (λC hC=>⟨(T.Bbi C hC).cls,(by cases hC;show(a30,bf,k30))⟩) k30 (!F30);have cV:=cK (Jdz F31 T cn) ap aW (!F31);have cW:=cM (m:="lifted") (Cs:=Jc2 ∅) (Jek F32 T cn) (λC hC=>⟨(T.Bct C hC).cls,(by cases hC;show(a32,bg,k32))⟩) k32 (!F32);have cX:=cM (m:="lowered") (Cs:=Jc2 ∅) (JdR F33 T cn) (λC hC=>⟨(T.Bct C hC).cls,(by cases hC;show(a33,bh,k33))⟩) k33 (!F33);have cY:=cC (JgN F34 T cQ cR cV) a34 k34 (!F34);have cZ:=cC (Jfs F35 T cS) a35 k35 (!F35);have c0:=cK (Jej F36 T) aq aX (!F36);have c1:=cM (m:="full_level") (Cs:=IsLid ∅) (Jdy F37 T cr) (λC hC=>⟨(T.c_Lid C hC).cls,(by cases hC;show(a37,bi,k37))⟩) k37 (!F37);have c2:=cM (m:="settle") (Cs:=IsLid ∅) (Jfj F38 T cp cq) (λC hC=>⟨(T.c_Lid C hC).cls,(by cases hC;show(a38,bj,k38))⟩) k38 (!F38);have c3:=cM (m:="has_stopped") (Cs:=IsLid ∅) (Jdk F39 T) (λC hC=>⟨(T.c_Lid C hC).cls,(by cases hC;show(a39,bk,k39))⟩) k39 (!F39);have K40:=JdB (P:=l.prog) (w:=w) (base:=base) F40 T;have c4:XCal l.prog w K mg base 1 "Tight" Tight SlackError ["self","words","tight_gap"] (JbD K ∅):=⟨f40,_,K40,W.mg_of X G ak,⟨aN,⟨_,_,_,_,_,_,_,_,_,_,_,_,_,_,aR⟩,a40,bl,bm⟩,b40⟩;have c5:=cC (JhT F41 T cQ cR cU cs cZ c0 cW c4) a41 k41 (!F41);have c6:=cC (JeP F42 T cQ cW cr) a42 k42 (!F42);have c7:=cC (Jem F43 T c1) a43 k43 (!F43);have c8:=cC (JeM F44 T cs) a44 k44 (!F44);have c9:=cC (Jft F45 T) a45 k45 (!F45);have da:=cC (Jen F46 T c7 c8 c9 c2) a46 k46 (!F46);have db:=cC (JgG F47 T c3) a47 k47 (!F47);have dc:=cC (JjM F48 T cY c5 c6 da cQ cX cq db) a48 k48 (!F48);have dd:=cC (Jlk F49 T co cs) a49 k49 (!F49);have de:=cC (Jfo F50 T cY cQ cR cs cW cZ dd cU) a50 k50 (!F50);have df:=cC (Jgb F51 T cR) a51 k51 (!F51);have dg:=cC (JgO F52 T) a52 k52 (!F52);have dh:=cC (JhP F53 T df dg cP cQ cR) a53 k53 (!F53);have di:=cC (JgJ F54 T) a54 k54 (!F54);have dj:=cC (Jfr F55 T) a55 k55 (!F55);have dk:=cC (JhS F56 T) a56 k56 (!F56);have dl:=cC (JgL F57 T dk) a57 k57 (!F57);have dm:=cC (Jgc F58 T di dj dk dl) a58 k58 (!F58);have dn:=cC (Jfp F59 T dk dl) a59 k59 (!F59);have dp:=cC (JgK F60 T di dl dn) a60 k60 (!F60);have dq:=cC (Jfq F61 T dc) a61 k61 (!F61);have dr:=cC (JgM F62 T dl) a62 k62 (!F62);have ds:=cC (JeO F63 T dh) a63 k63 (!F63);have dt:=cC (Jgd F64 T cR dr cT cU) a64 k64 (!F64);show Jmt F65 T dm dp cP di dn dl dk ds dh cQ dt dq de
theorem walk{l:PySem.W.OpenLaw}{q:Program}{loose:List Str}{XP:(Str->Option Value)->Heap->Prop}{YP:World->Heap->Prop}{d:DefRec}{K:Params->PySem.W.Frag}(hn:l.most=some 63)(hdf:d.params.defaults=[])
  (hY:∀(w:World)(h:Heap),YP w h->(K w.params).In h)
  (F:∀(w:World)(mg:Str->Option Value)(fa:Addr)(h:Heap),(K w.params).In h->h.Ns mainGlobals mg->mg d.name=some (.ref fa) ->
   ∃ fd:FuncData,(∀(s:Shared)(u:Value),BindsTo s fd ⟨[u],[]⟩ [("_law_script",u)])/\∀ base:Heap,(K w.params).In base->base.Ns mainGlobals mg->FnOk l.prog w (K w.params) mg base (CX1 l.prog w) 13 fa fd ["_law_script"] (Bdq (K w.params))) :
  PySem.W.WalkO q loose XP YP l.row.toRowW d [] (λf vs=>PySem.call f vs) :=
 L2.Jjt (n:=63) (k:=13) (x:="_law_script") (CX:=λw=>CX1 l.prog w) (sp:=λw=>Bdq (K w.params)) hn (by decide) hdf ⟨rfl,by decide,by decide⟩ hY F (λ_ _ a ns hl _ hS=>⟨a,ns,rfl,hS,hl,λ_=>rfl⟩) λ_ _ _ _ _ z=>by
  let(_,_,_,_,_,_,_,_,_,_,_,_,z):=z;show z
end Prg
open PySem PySem.W PyProof.Rows
local macro_rules|`(command|universe $xs*)=>do return Lean.mkNullNode (<-xs.mapM fun x=>`(command|noncomputable def $(Lean.mkIdent (.str `PySem.W.Fast s!"tw{x.getId.toString.foldl (fun a c=>a*52+(c.toNat-if c.toNat<97 then 39 else 97)) 0}")):ident:Nat:=0))
universe brlUalLjZUcd brpgYQpBTWjY gWGrOOqagnn bruihPzVrjQV brDbkqvUHFNo brNxJUxxjeOm brZNfHDGuOpo bshhbucajNhm bsnLzCFzWtHf bsrDgdSODCRk bsCkSHesXJnK bsFoThQvdiPA btjrwTLLGLFe btkHQGMvakIp btlJaUtknhZh btBrLreCxVjk btLoctWdRHBP btRTtScGoKar bubEmaFKCrmX buXTmpCSoLnZ buYLUltqeOLJ bvOwfzfBQtML bvYJxVeZZtBO huMKDfwEnkZ bwmeuQXByzyM bwmJRVSocoUG bwwYensBhpqF bwDKoZyeHbWA bwDNepTCwqRZ bwQCpfozpkSU bxfJUCuNXduD hBLeaGAVlow bxsFarRhSHoe bxCPXvcKYMNH bycpyoVEkIOy bygcwsbGsbEL hGnjLioTZBJ byRRFOIkTDIm byXloyYvBQBi byYQIaGnWQxI bzjnvQDODHIl bzrSGBaaZxqp bzMvDKsDjcMe bzOelEZNdFuj bzVgcCAwWgJw bAejROWxFpAX bAeVcezWDqhT bAhgbSlXYBgx bAogWeerGUcd bArCINOkPTba bAvZqkFBuSVC bAKoPIrYRvhP bANLgzYlhsUo bBhoMjpHWKXw bBmypTwBehZU bBoqqdFixjFU bBpwGKizXidC bBAUCTBoGzYn bBLxkJXOvQby bBZhqsrOVqpB bCaNzAhzhEUv bCtwWoWKPjJC bCBwrBvwrbUb bCDyfeRsmSZn bCDTPFbjvGuU bCEUiRjAKgQD bCLjsbEzFzzR bDjMrIhApWLU iinqPfexbja bDIlsOBRCxZm bEajhFQplPhv bElaIXHOyGba bFdgiqbWMkmn bFkWiayZSYbq bFnuGbJOkMwL irXbBVNWNPu bFGPUJiOdZVj bFLtXCESsgOq bFZeuKJJNJlZ bFZmOGcZoCsV bGdVpVajjgDR bGkgtuuMMIId bGpxfBEQOcHt bGvrxzFRRmxy bGBdqEXQvqjZ bGFEETwSsCyx bGFZlBGlMAoc bGGJcIQsIlwt bGSjwUJmFRVB bGTakzqYwZOR bGZksjxZTnYK bHbujjjSNYor bHhdElOPPOnG bHygCoMUMqsm bHJPCKsoCOdb bHQytxExrEGO bHTKnnbLnELK bHXhEaruxxvF bIaztuHpHsZh bIhHEFXoyKES iGerybxeyGW bIqznXiPWmwL bIxUrGCtBBcf bIBtkRXWzkaE bIIgQKGXHZop iKyxMHSmRQN bJeOWXTabxkw bJoetbyQiIDg iPmQScvuEQG bKCwmDZXiUqh bKNFjnudKote bKWxUyhHrFMG bKZidqNrOhOg bLCpRGphODil bLCKYwoPXHmq bLJWdpKludPa bLLYPkCdirFu bMaMwPReBYDM bMeuEYsYfycf bMwEtRIXfYoW bMAapcNioaJU bMRHWRKGXmni bNedmsYrKGkx bNmZRJcHEtKJ bNEEsROmhXut bNHLgKYCZdaq bNIdkNHfrAng bOgVhDUIdStc bOpZWwfnBMES bOvcmywPRUaQ bOMoifvSUhgK bONpoeGQoxAp bOPOhmHRosSE bOQUhjbyuBHH bOSEvPYaBXjg bPmsVmHmprgA bPrcqNvsFrst bPDejslZeHCy bPDESgDyKPyj bPGLPBPozXfu bPYZZsnAlFlL bQbknmDybHwr bQCHllFWiYUy bQEtURWlcbss bQESuamXaiGE bQVxWuIllyRt bRgissHIkyaV jCnVeWoEuuT bRyjEmhxCrIG bRJfmGPhHzpE bROkfFXyiZdP bRQRCWXoLEOp bSdOlBnJpzth bShlDieprIaO bSjRzeArPgRX bSBiWdgitlZJ bSSbXCKyRiGJ bTgsTZhvMOfI bTrmWwXjgbiB bUbYflfKJjMm bUomXWRgUbQQ bUMdxsWkThQZ bUVIeiKYMoDF bVeUKIcZntMG bVskznWtwyVz bVyFVLCqUBXM bVJuoziLBZLm jZaryVuUJiV bVSyknWtFqlF bVYKqZLZVIiG bWiloOmnUgOs baesoOZKcFg bWtEbwZoJWuG kcnJKiEaYgR bWzHTCasRRMB bWCagrIDOmqx bWDySYNGZLVt bWGnSviGPlkr bWLgMYSSzJRl bXizPyJIcCgB bXvaloUBHtDa bXLfioJWiXTT bXMDLjanTIta bYdxhShgGfMX kluliNPNOBm kmAfWDUzIbJ bYwhaIWiBpfh bYBEuUDChBaq bYVLlpMDVNCb bZfHKzvhoPWB bZBJKjrpAZlK caijTAAeeGGr calqGRgCjDoo camvFOnfBtTz capQesdDwiUi casxOKRnLuHB caOvJNPrEGhA caUWaMMJqrNO caWbZUJQNSJd caXhBbkMUEda cchedsfAeRvN cckgcImyUlum ccunENYwVPSo ccuoxicjTlsr cczAGLhkrAsX ccHANluikOhg kIKYvkKAZJs cdlrAsNPpLIR cdpaOwLGADVc cdyOPgLLJOTj cdBcAyCWkezj cdGrIupCXoqR cdPdcIZqkGCQ cdXUgPnMoqfd cemZPuwmKfSa cerlWfmsGkqa cetYzcqLvzSM ceBqfUhfObeE ceIZdoaSvChE cflMCCInwZuh kWruLvMxFov cfEyhIUoqIND cfMxQPjojENo cfQhpWscEabe cgfksVKzLFkf cghXwzlCKiBj cgiCGDVzlBWw cgzVSqPuNvJm cgEBcXRhZEqa cgFultXlvhHm cgOIhHQXWWHJ cgPjSEAVPSVk cgVpaJvSzTnZ chwXGYxcXklM chKvJZgThxCH chPRAkDdFOwD ciaofiBYfesR cibOuPLLvcSW cidSJVNAADDx llHmoQPDZcv ciqzmcyMNlUA lmwJYrTsRrk ciHhVyUQpoog ciHicDeQVBHk ciPdcsyxaKoE cjazTFWQQjbs cjhDQJbsAkBR cjpsxLdYyRQK cjrdzWctyMxT cjCuqKyUrXgl cjCWheIODpnp cjIPBRdyqpSA cjTvPcFjJsXr cjYBaTCYjGCM cjZmmXiUfyhD ckaXDpfvhruR ckcMUWOwPfri ckiZgvFwsDnW lwohOoBrziZ ckxlXEPkFDNZ ckxXxxrTavqm ckzszYBackhm ckEeLYrYeZOu ckOuWMoUQRyg ckRFSgLJcsXB ckUMGndczQEm clehdAilzilP clrwrMmJYZtd clBsUAtSfZVG clHelDVftsqF lEguMXwzVLW clYUolQKkUFi cmipFgUxSnmc cmpdPzNbzJNv cmsjJNfgOXGI cmwzXbNcyeja cmxtILHMaKdP cmBodiptimxC cmBtzJYxaxkh cmIvrlyRdCyy cmPYeWAOatTh cmWPhAebyfDC cmYeYpTgcYjz cnwiDpbcRotA cnxcexGxdHVZ cnLMAmLosjQL cnPbEUQkHjCl cnRrZDHgJMzZ coaMsfYSnxDV covzorzPuTJj cowxjlDXTTUF coLocFpdHFhA cpbJrBzIPQaY cpeaqpZdhczZ cpfeWmYVnULU cprljcKqamdf cpEnWOFJOuOn cpKJNLVXsMHa cpWuwMJflrXQ cqkFagJFWkrp cqmiNnioquqG cqBSnWqjZaDK cqKDZhcOwtgf cqSzadQkYELg cqSCltlDdqBk csczpdjcqOdo cselRbceMfzC csggUqxmNSOM csnfKPaXZsEM cswWmYgkaIEp ctaUGYztxJss ctcZimIxFpVv mqcStlOPAfU ctBXJjTOToUP ctGCvZiBIMXB ctGEEgFXQlpP cudXxaHTeRWk culsaofnATdf mxQpOiggEny cvBHIEiEAoBS cvBJQFYjKedU cvDiyhMXxIYT cvMaTKRJhAJY cvSfgKvlLXba cweBwqXKcKDU cwmDkExccEdE cwBTjJLAdaoK cwHkCDdNWouK cwJWSWxAZEGX cwKfimmNWYzZ cwXYUNzhdVoF cxgdXobuyuYP mLCuqXPgOLD cxoXZVCzHIUJ cxrXFjptJrVE mQpnsHbKXcE mWtoEtFGMOP nuChxvWXmtb brJyhxYAukq oabuIoOfrND ofXJbicFoHL oqwQVluzdKo oucomJOoUmW ouOrRktMjJq oFteVfvRjBV oKMgQOhPPXm oQzlJuTUYBD oUIXQAIDkMW oVcpzryHFOs oWuvASitNpt paPCPJnmwCl pkAexYImigA pmQwHzeeQFR pydfvewdYUN pHyysGgrYqB pLjMZkvMwIk pTtgECuNPtR qgMsUUxGvSM qsbPXeujqSi qsRufPoGmhR qLSEdFvBzhh qSOnaInzAwj qYfmiyQsogQ rhVKuRxVPMx rsjpBLURcPZ rKtmOYpSAVU rUPrpKYddXT rWWsmZJNIwY slxyodwVwrA soIENJmeIrA sqsaNhzuQfx syOVRPfrhMN sFDqWAWRQQN tdGDAUhDLXv tfXWdNkiRNL tIhfYStMaVY udhDEkepIOH uirxpTJGKUj utPeKsCdQqt uuNcXkAbZHC uwCJGblXkNO uytFKuZqQgL uyvjUjHFanf uVQGSNEbghk uXSDpBvkQeH vcCbLCMMsKO vgpAqqRAeJJ viLWLHhhuLb lbLEmtuZWB lfjUNNlbxa vvSYHTcDdXd vGTWdjVhvbi vHboPKGVSDI wesbmUxLzfW wfOGegbsbaR wjadUIRqrTb woajXpTcjDd wpcndgrvJOA wtUinNDxDYi xqJnnowJNJI xBuqrJFuYIE xQXRacCwzZN ybCQWuGAqGJ yeODmibrVGk yqRQVppTpii yVGhPGdDJmp yXjGKTZPMhk yXPNInduEgr zcmKINHPFTO zgDixygCFEh AgJdynsjPgU AzijJrCzRNt AEjvbDDntXx ALfDgAjbwJc AMMwZRKQrCK AQBGvHkKexu AXgGDKUGUYT BeYVxKSNGDy BmlJjlhfqrA BtUXhiagEXq onFYHbmgKV BwQdzktZLiv BLWmVqiVBkP CxfoiCTWlIy COlPwSXreDw CYxRslIEKNo DecMdQumnAD DBlRwerrDBL DQPrcBCSijy DXkaFnFojYI EojtgLeCSEc ErtZrYmRjQn EBteHCmXhYe FfjCUzFarRx FrztZsLVBLF FynfHqCLJVh FCZiPRcDWCm FQBPsqClrXY FTgIWIXzAWx FVJCmoQeRVb FZmGvTxBYko GoBfNZoTyuU GttDaZmUUPa GARvBAyxuPv GEjuSqEifDw GNALUYBkwMb HpiQYtPQFiq HrYbJqPozrW HzyprlRkohc dsVEKCsXywW HRGrHrzqwfe IahwfRkgJDV IgvSlqKCHdn IQdlKvDTdiE dAHVcVDkasP JCSELCFATSP JStDiOszocM KfOcztWUAZT KuibDjNrSxZ KAuQvZUXtmW LcfJBleTaIm LePkOunGunS LobAvCiIbXI LDnlbmOyjln LQsXUllNRyy LZrLquukmjY MmbXPcXtRMt dSECaKjlrDz MNrwgcEIxZd MQxDyivtYRA MZVswjAuBtj NbtQkUCrTep NvBYqEimeDV NyqnlbachVd NBiaVHXxnau NKBEvzptZxh dZmqlQjuIrY dZEXeNnUaAP dZXeUdNXrmN OfygDrzTaDh OjHpNplWXpJ ebsuqnwVezs OzysKTzyHMs OAsGDoOrCQf PFNtGcidgdk PKclETSPFfj PLEuNsyotpm ejxBiVrJFbf ektntWZxwGf QeNuUuBCvZD QowYztayhiO QGfzhOtLAjR QPZVjSTUFLG QRoXcPDQCPX QTPfVkvuOpJ QVVJSHEqyUH RacvksgbluF RbnGAgMqdIX RfscHmVBkis RgMibEOmVqC eqTNQLNkXxW RqhlKqNZFpc RvcOqiQRqIc RGIPnQcRsAP SasAgJNhghY ScRcajBubjR SlgavBTCgeY SphjoJAdxOx eAapIKbYDUQ eAjnRlDZsbn TcvuKjuTjuC eCrWsGYZFni TFXoTdIDHfJ TJXOKdtZmdU UJlYRsEBOiX UYLnnirZdsz VkosXhCfhZu VmNJlhmyklz VmYBcUgkxZH VITEsdPTcEB VMpwWPTpPYK eOIHZYDfdaj WflscyCLqKj WjaPSpmOKHV WmEsVdrCsMS WpgokNdmgSi WpoRINgmFkI WwmwpdKpTsp WHwYQJqNLSD ztTUPlmdVe WQIKFcNPicD WReHHTayRGG WWYnOlwBtfj XcuEMdIMCtx XmOPuAMoZuw XATVFMiYMyJ XHRCsccPYEM XIFOgnuIJTb XKxriJkVqJZ XSBhjbAnqVj XWCQGMsVAmz XXjySuIiMIm YkIIyxWXicg AkvWmKigON YIRDlJbnvQQ YNtfSxkkHZd YPzMVnYzrXm YQzGaAjbpMY YYuNamYevvU YZXDPkNmjaI ZcCmkKgMMVv ZixbpxUfoCN ZiAEHQkpdwm ZorFFqJdaCR ZHgAHPMsLgJ ZMVnlBHyzmM bamxfaGFeuGZ batBMmbermwe fmJfkIRdBhP bbduVzSuZtlR bbjCGIdCVHjY bbjGojHuyKfg bbjSKTmYWjRU bbnImNplSrFh bboEzFuTKiUa bbuUfKAJjbcU bbCbeZhCgtoN bbOOpkWqWjWK fwevPMmXATj bcBhEhrMCJos bcBvnwsLKbHB bcGOkBKQIlqn bcJcyGSEcCSN bcRnsYreZrTZ bcTrBxaecSEu fzzelwUegBX bddVfCPqoSEn fCUGTWLOuOU bdPjETasHtEm bdUWSxBlJQSs bdXWOFcFhxcL bdZviRrKnJhR begWBIsuJsuP bejpHuyfmknQ beoCkUyRwvJW bewctUZkTlFe beEnwDWYKcpG beGjhrtYSwDH beGwOEBZqIVm beKEuKeFfCsA beLJDYsSHJqt bfmrMPMvYXEw bfpTiakFIzVR bfrAzUJPMMXg bfHhipaGRTRu bfJBNvySDhKd bgDqfxcFAgTg bgVkyFiRVEyy bgZEjCVVCAln bhasSUOUEIGu fWXLlrHIvRa bhNylFtLCIpw biaeffAmrueQ biaijtPekqMX binGSFmxJjQW biPcYLFNbber biRBAbujrGmL ggKZWqSefvU bjGfkKWtItfq bjPknXEaClvf bjRUYXKJmvNo bjUZBIkswDEY bjYmLmYRwZiI bkcjjQbZvPYS bklUpmuOWHTE bkFLfywFtkzo bkHsEurDcpeW bkKQAHqTXtKQ bkXWllIZQUEc gpJBjjzBJan blbQLPSVpRKc blmwGRfJWmtb blqzlBpvzWZF blAjoJoEHkdN blFQOyeHqqHn blLACkCUoKZy blSGWOIkTZAh blUaXWRTZvQN blUhvnmBSSrG bmblZgVTgvhE bmgyZKBySFeu bmhXenxQPsMD bmqEvclpAiAc bmxoDMpWUsjR gxAgMGidIeC bmJLAiCzpxcg bmXLkwDXyFkZ bnfaGVtsezqj bngVXuxQHjuw bnnaDFtuaYBY bnpYGURFlRbZ bntRKIVHNBSk bnIeIdBqDpXf bnVmPqXYUezR bnVuHmBeLODX gGMhGofgOIO boILogtrokjM boOsubcYnKUF bpdaVGRgfQoN gNVCYlCbzJD bqbBdvTXgyeo bqrPAhQVfEpn JLsDzcYIsa bqRkYolwYuCZ gVbQRmoNoiV brgNBPIYbQXe
set_option maxRecDepth 100000 in
set_option maxHeartbeats 0 in
theorem PySem.Challenge.cw_slackchain_k62_a_gap_changed_holds : PySem.Challenge.rw_slackchain_k62_a_gap_changed.Holds := by
 w_on;o_law;k_head;(case hw=>w_witness2)
 k_fill
 refine Prg.walk (l:=PySem.Challenge.rw_slackchain_k62_a_gap_changed) rfl rfl (fun w h Y=>PySem.W.kIn_of Y) ?F;case F=>
  intro w mg fa h KX G hmg;refine' Prg.all_mk KX G hmg ?_ ?_ ?_ ?_ ?_ ?_ ?_ ?_ ?_ ?_ ?_ ?_ ?_ ?_ ?_ ?_ ?_ (Prg.fnA ?_ ?_ ?_ ?_) (Prg.fnA ?_ ?_ ?_ ?_) (Prg.fnA ?_ ?_ ?_ ?_) (Prg.fnA ?_ ?_ ?_ ?_) (Prg.fnA ?_ ?_ ?_ ?_) (Prg.fnA ?_ ?_ ?_ ?_) (Prg.fnA ?_ ?_ ?_ ?_) (Prg.fnA ?_ ?_ ?_ ?_) (Prg.fnA ?_ ?_ ?_ ?_) (Prg.fnA ?_ ?_ ?_ ?_) (Prg.fnA ?_ ?_ ?_ ?_) (Prg.fnA ?_ ?_ ?_ ?_) (Prg.fnA ?_ ?_ ?_ ?_) ?_ (Prg.fnG ?_ ?_ ?_) ?_ (Prg.fnG ?_ ?_ ?_) ?_ (Prg.fnG ?_ ?_ ?_) ?_ (Prg.fnG ?_ ?_ ?_) (Prg.fnA ?_ ?_ ?_ ?_) (Prg.fnA ?_ ?_ ?_ ?_) (Prg.fnA ?_ ?_ ?_ ?_) (Prg.fnA ?_ ?_ ?_ ?_) ?_ (Prg.fnG ?_ ?_ ?_) ?_ (Prg.fnG ?_ ?_ ?_) ?_ (Prg.fnG ?_ ?_ ?_) ?_ (Prg.fnG ?_ ?_ ?_) ?_ (Prg.fnG ?_ ?_ ?_) ?_ (Prg.fnG ?_ ?_ ?_) ?_ (Prg.fnG ?_ ?_ ?_) ?_ (Prg.fnG ?_ ?_ ?_) ?_ (Prg.fnG ?_ ?_ ?_) ?_ (Prg.fnG ?_ ?_ ?_) ?_ (Prg.fnG ?_ ?_ ?_) ?_ (Prg.fnG ?_ ?_ ?_) (Prg.fnA ?_ ?_ ?_ ?_) (Prg.fnA ?_ ?_ ?_ ?_) ?_ (Prg.fnG ?_ ?_ ?_) ?_ (Prg.fnG ?_ ?_ ?_) ?_ (Prg.fnG ?_ ?_ ?_) ?_ (Prg.fnG ?_ ?_ ?_) ?_ (Prg.fnG ?_ ?_ ?_) ?_ (Prg.fnA ?_ ?_ ?_ ?_) (Prg.fnA ?_ ?_ ?_ ?_) (Prg.fnA ?_ ?_ ?_ ?_) (Prg.fnA ?_ ?_ ?_ ?_) (Prg.fnA ?_ ?_ ?_ ?_) (Prg.fnA ?_ ?_ ?_ ?_) (Prg.fnA ?_ ?_ ?_ ?_) (Prg.fnA ?_ ?_ ?_ ?_) (Prg.fnA ?_ ?_ ?_ ?_) (Prg.fnA ?_ ?_ ?_ ?_) (Prg.fnA ?_ ?_ ?_ ?_) (Prg.fnA ?_ ?_ ?_ ?_) (Prg.fnA ?_ ?_ ?_ ?_) (Prg.fnA ?_ ?_ ?_ ?_) (Prg.fnA ?_ ?_ ?_ ?_) (Prg.fnA ?_ ?_ ?_ ?_) (Prg.fnA ?_ ?_ ?_ ?_) (Prg.fnA ?_ ?_ ?_ ?_) (Prg.fnA ?_ ?_ ?_ ?_) (Prg.fnA ?_ ?_ ?_ ?_) (Prg.fnA ?_ ?_ ?_ ?_) (Prg.fnA ?_ ?_ ?_ ?_) (Prg.fnA ?_ ?_ ?_ ?_) (Prg.fnA ?_ ?_ ?_ ?_) ?_ ?_ ?_ ?_ ?_ ?_ ?_ ?_ ?_ ?_ ?_ ?_ ?_ ?_ ?_ ?_ ?_ ?_ ?_ ?_ ?_ ?_ ?_ ?_ ?_ ?_ ?_ ?_ ?_ ⟨?_,?_,?_,?_⟩ ⟨?_,?_,?_,?_⟩ ⟨?_,?_,?_,?_⟩ ⟨?_,?_,?_,?_⟩ ⟨?_,?_,?_,?_⟩ ⟨?_,?_,?_,?_⟩ ?_ ?_ ?_ ?_ ?_ ?_ ?_ ?_ ?_ ?_ ?_ ?_ ?_ ?_ ?_ ?_ ⟨⟨?_,?_,?_,?_⟩,?_,?_,?_,?_,?_,?_⟩ ⟨⟨?_,?_,?_,?_⟩,?_,?_,?_,?_,?_⟩ ⟨⟨?_,?_,?_,?_⟩,?_⟩ ⟨⟨?_,?_,?_,?_⟩,?_,?_,?_⟩ ⟨⟨?_,?_,?_,?_⟩,?_,?_⟩ ⟨⟨?_,?_,?_,?_⟩,?_,?_,?_,?_,?_⟩ ?_ ?_ ?_ ?_ ?_ ?_ ?_ ?_ ?_ ?_ ?_ ?_ ?_ ?_ ?_ ?_ ?_ ?_ ?_ ?_ ?_ ?_ ?_ ?_ ?_ ?_ ?_ ?_ ?_ ?_ ?_ ?_ ?_ ?_ ?_ ?_ ?_ ?_ ?_ ?_ ?_ ?_ ?_ ?_ ?_ ?_;all_goals try first|k_is|k_exc|(show _=_;k_is)|kit_is
