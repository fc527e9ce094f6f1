import PyProof.Rows.All
import Wide.All
import OpenK.AllK
import Wide.FinOn
import Lean
import PyProof.EqAt
import PyProof.EqKinds
import PyProof.TupleCall
import PyProof.ZipIter
import PyProof.Rows.SetFrom
import PyProof.Rows.SortStr
import KE.KDictList
import PyProof.AttrMissHeap
import KE.KDictOf
import KE.KDictLaws
import KE.KRevIter
import PyProof.CollectIter
import PyProof.FactsAll.range_2
import PyProof.FactsAll.range_iterator_1
import PyProof.WalksEnum
import PyProof.EnumMake
import PyProof.Rows.Range3
import PySem.Challenge.RW_slackchain_k64_whole_wider_is_no_less_fa
set_option Elab.async false
set_option linter.all false
set_option maxRecDepth 100000
open List (mem_filter mem_cons_self mem_cons_of_mem mem_cons mem_append mem_append_right length_cons map_cons length_map append_nil nodup_cons of_mem_zip length_take length_append size_toArray any_cons length_singleton map_nil cons_append length_nil not_mem_nil mem_singleton mem_map take_of_length_le take_zero take_succ map_append mem_flatMap nodup_append mem_of_mem_take nil_append filter_append map_map map_congr_left length_filter_le)
local macro_rules(kind:=Lean.Parser.Command.declaration)|s=>do
  let m:=s[0]
  if m.getArgs.all (·.getNumArgs==0)&&(s[1].isOfKind `Lean.Parser.Command.definition||s[1].isOfKind `Lean.Parser.Command.abbrev)&&s.getHeadInfo matches .original .. then return s.setArg 0 (m.setArg 4 (Lean.mkNullNode #[Lean.mkNode `Lean.Parser.Command.noncomputable #[Lean.mkAtom "noncomputable"]])) else Lean.Macro.throwUnsupported
local macro_rules(kind:=Lean.Parser.Tactic.tacticLet__)|s=>do
  let m x:=Lean.mkNode `Lean.Parser.Tactic.rcasesPatMed #[Lean.mkNullNode #[x]]
  let g(r:Lean.Syntax->Lean.Syntax)(x:Lean.Syntax):Lean.Syntax:=if x.isIdent then Lean.mkNode `Lean.Parser.Tactic.rcasesPat.one #[x] else if x.isOfKind `Lean.Parser.Term.tuple then Lean.mkNode `Lean.Parser.Tactic.rcasesPat.tuple #[Lean.mkAtom "⟨",Lean.mkNullNode ((#[x[1][0],x[1][1]]++x[1][2].getArgs).map λy=>if y.isAtom then y else Lean.mkNode `Lean.Parser.Tactic.rcasesPatLo #[m (r y),Lean.mkNullNode]),Lean.mkAtom "⟩"] else Lean.mkNode `Lean.Parser.Tactic.rcasesPat.ignore #[x[0]]
  let d:=s[2][0]
  if !d[0].isOfKind `Lean.Parser.Term.tuple then Lean.Macro.throwUnsupported
  let h p v:Lean.TSyntax `tactic:=⟨Lean.mkNode `Lean.Parser.Tactic.obtain #[Lean.mkAtom "obtain",Lean.mkNullNode #[m (g (g (g (g id))) p)],Lean.mkNullNode,Lean.mkNullNode #[Lean.mkAtom ":=",Lean.mkNullNode #[v]]]⟩
  let o:=h d[0] d[4]
  let e:Array Lean.Term:=((#[d[0][1][0]]++d[0][1][2].getArgs).filter (!·.isAtom)).map (⟨·⟩)
  let i(x:Lean.Term):=x.raw.isIdent&&x.raw.getId != `rfl||x.raw.isOfKind `Lean.Parser.Term.hole
  let w:=(e.takeWhile i).size
  if e.size<4 then return o
  let f(c:Lean.Name)(k:Nat):Lean.MacroM (Lean.TSyntax `tactic):=do
    if w<k&&k != 1||e.size<=k||e.size==k+1&&w<=k then return<-`(tactic|fail)
    let mut b:=e.extract 0 k
    let mut u:Lean.TSyntax `tactic<-`(tactic|skip)
    if w==0 then
      let x<-`(x)
      u:=h b[0]! x
      b:=#[x]
    let(r,t):Lean.Term×Lean.TSyntax `tactic<-if e.size==k+1 then pure (e[k]!,<-`(tactic|skip)) else pure (<-`(r),<-`(tactic|let ($(e[k]!),$(e.extract (k+1) e.size),*):=r))
    let v:Lean.Term:=⟨d[4]⟩
    if v.raw.isIdent then `(tactic|(revert $(⟨v.raw⟩):ident;refine fun q=>$(Lean.mkIdent c) q fun $b* $r=>?_;clear q;$u;$t)) else `(tactic|(refine $(Lean.mkIdent c) $v fun $b* $r=>?_;$u;$t))
  `(tactic|first|($(<-f `L2.ex6 6):tactic)|($(<-f `L2.an6 6):tactic)|($(<-f `L2.ex3 3):tactic)|($(<-f `L2.an3 3):tactic)|($(<-f `Exists.elim 1):tactic)|($(<-f `L2.an1 1):tactic)|($o:tactic))
local macro_rules|`(tactic|show $t:term)=>do
  let x:=t.raw
  if !x.isOfKind `Lean.Parser.Term.tuple then return<-`(tactic|first|refine $t|change $t)
  let a:=#[x[1][0],x[1][1]]++x[1][2].getArgs
  let c(a:Array Lean.Syntax):Lean.Term:=⟨Lean.mkNode `Lean.Parser.Term.anonymousCtor #[Lean.mkAtom "⟨",Lean.mkNullNode a,Lean.mkAtom "⟩"]⟩
  let f(n:Lean.Name)(k:Nat):Lean.MacroM (Lean.TSyntax `tactic):=if a.size<2*k+1 then `(tactic|fail) else
    let e:Array Lean.Term:=((Array.range k).map λi=>⟨a[2*i]!⟩).push (if a.size==2*k+1 then ⟨a[2*k]!⟩ else c (a.extract (2*k) a.size))
    `(tactic|refine $(Lean.mkIdent n) $e*)
  if a.size<6 then `(tactic|first|refine $(c a)|change $t) else `(tactic|first|($(<-f `L2.xi6 6):tactic)|($(<-f `L2.xi3 3):tactic)|refine $(c a)|change $t)
local macro_rules|`(tactic|ac_nf)=>`(tactic|first|lia|omega)
local macro_rules|`(⋯)=>`(by decide)
local macro_rules|`(∅)=>`(by ac_nf)
local macro_rules|`(tactic|subst_eqs)=>`(tactic|(intro _ _ _ _ h;(repeat obtain ⟨_,h⟩:=h);subst_vars;rfl))
local macro_rules|`(tactic|decreasing_tactic)=>`(tactic|first|exact $(Lean.mkIdent `L2.Jaf) rfl|rfl|exact .inl rfl|exact .inr rfl|exact .inr (.inl rfl)|exact .inr (.inr rfl)|exact fun _=>rfl|exact fun _ _=>rfl|assumption|decide)
namespace L2
theorem xi3{α β γ:Sort _}{p:α->β->γ->Prop}(a b c)(h:p a b c):∃ a b c,p a b c:=⟨a,b,c,h⟩
theorem xi6{α β γ δ ε ζ:Sort _}{p:α->β->γ->δ->ε->ζ->Prop}(a b c d e f)(h:p a b c d e f):∃ a b c d e f,p a b c d e f:=⟨a,b,c,d,e,f,h⟩
theorem Au0(_:True:=by decreasing_tactic):True:=⟨⟩
@[reducible]def Au:=Au0._auto_1
theorem ex3{α β γ:Sort _}{p:α->β->γ->Prop}{r:Prop}:(∃ a b c,p a b c)->(∀ a b c,p a b c->r)->r:=λ⟨a,b,c,h⟩ k=>k a b c h
theorem ex6{α β γ δ ε ζ:Sort _}{p:α->β->γ->δ->ε->ζ->Prop}{r:Prop}:(∃ a b c d e f,p a b c d e f)->(∀ a b c d e f,p a b c d e f->r)->r:=λ⟨a,b,c,d,e,f,h⟩ k=>k a b c d e f h
theorem an1{a b r:Prop}(h:a/\b)(k:a->b->r):r:=k h.1 h.2
theorem an3{a b c d r:Prop}:a/\b/\c/\d->(a->b->c->d->r)->r:=λh k=>k h.1 h.2.1 h.2.2.1 h.2.2.2
theorem an6{a b c d e f g r:Prop}:a/\b/\c/\d/\e/\f/\g->(a->b->c->d->e->f->g->r)->r:=λh k=>an3 h λx y z h=>an3 h (k x y z)
open PySem PySem.Spec PyProof.Rows
abbrev Key:=Sum Bool Str
def isBoolOf:Bool->Value->Bool
 | b, .bool c=>b == c
 | _,_=>false
variable{b:Bool}
theorem JeS{v:Value}(h:isBoolOf b v=true):v=.bool b:=by
 cases v <;> simp_all [isBoolOf]
def keyIs:Key->Value->Bool
 | .inl k,v=>isBoolOf k v
 | .inr x,v=>Value.isStrOf x v
def keyH(w:World):Key->Int
 | .inl k=>hashInt (if k then 1 else 0)
 | .inr x=>hashStr w x
theorem JaR:∀{k:Key}{v:Value},keyIs k v=true->(∃ i,k=Sum.inl i/\v=Value.bool i)\/(∃ x t,k=Sum.inr x/\v=Value.str x t)
 | .inl i,v,h=>.inl ⟨i,rfl,JeS h⟩
 | .inr x,v,h=>by
  let(t,e):=Value.isStrOf_shape (x:=x) (v:=v) h;show .inr ⟨x,t,rfl,e⟩
theorem JhS(i:Bool):keyIs (.inl i) (.bool i)=true:=by simp[keyIs,isBoolOf]
theorem JiH(x:Str)(t:Tok):keyIs (.inr x) (.str x t)=true:=by simp[keyIs,Value.isStrOf]
theorem Jl3(a b:Bool):decide ((Sum.inl a:Key)=Sum.inl b)=(a == b):=by cases a <;> cases b <;> rfl
theorem Jl6(a b:Str):decide ((Sum.inr a:Key)=Sum.inr b)=decide (a=b):=by
 by_cases e:a=b
 .subst e;simp
 .have h:¬(Sum.inr a:Key)=Sum.inr b:=λq=>e (Sum.inr.inj q);rw[decide_eq_false h,decide_eq_false e]
theorem Jl4(a:Bool)(b:Str):decide ((Sum.inl a:Key)=Sum.inr b)=false:=decide_eq_false (λq=>nomatch q)
theorem Jl5(a:Str)(b:Bool):decide ((Sum.inr a:Key)=Sum.inl b)=false:=decide_eq_false (λq=>nomatch q)
variable{prog:Program}{A:Around}{E:Value->Shared->Prop}
theorem Jg3{w:World}{s:Shared}{Q:Int->Shared->Prop}(h:Q (hashInt (if b then 1 else 0)) { s with toks:=s.toks+1 }) :
  wpAny (model prog w) A (pyHash (.bool b)) Q E s:=by
 have c:=rawHash_range (if b then 1 else 0);have a:s.TypeIs (.bool b) "bool":=rfl;unfold pyHash;have d:[Value.bool b].any Value.onHeap=false:=rfl;show wpAny_bind ?_;rw[cRoomFor,if_neg (by rw[d];show Bool.false_ne_true)];show wpAny_pure ?_;show wpAny_bind (wpAny_specialOf a F.slot_bool_hash.lookup ?_);show wpAny _ _ (if(some (Value.builtin "int.__hash__") == some Value.none)=true then _ else _) Q E s;rw[if_neg (by rw[beq_builtin_none];show Bool.false_ne_true)];show wpAny_bind (wpAny_specialOf a F.slot_bool_hash.lookup ?_);show wpAny _ _ (callSpecialIfBoundUnlessNone? (.bool b) "__hash__" _ >>= _) Q E s;show wpAny_bind (wpAny_callSpecialIfBoundUnlessNone?_slot a F.slot_bool_hash
  (wpAny_call_entry F.slot_bool_hash a entry_int_hash
   (show wpAny _ _ (do ret (<- mkInt (rawHash (if b then 1 else 0)))) _ _ s from wpAny_ret_mkInt ?_) (args_int_hash _)))
 show wpAny _ _ (if(decide (-(2:Int) ^ 63<=rawHash (if b then 1 else 0))&&decide (rawHash (if b then 1 else 0)<2 ^ 63))=true then _ else _) Q E _;rw[if_pos (by rw[decide_eq_true c.1,decide_eq_true c.2];rfl)];show wpAny_pure h
def Jax(prog:Program)(w:World):PySem.KeyKind prog w Key where
 is:=keyIs
 hash:=keyH w
 inj:=λv a b ha hb=>by
  rcases JaR ha with⟨i,rfl,rfl⟩ | ⟨x,t,rfl,rfl⟩
  .rcases JaR hb with⟨j,rfl,e⟩ | ⟨y,u,rfl,e⟩
   .injection e with e1;rw[e1]
   .show nomatch e
  .rcases JaR hb with⟨j,rfl,e⟩ | ⟨y,u,rfl,e⟩
   .show nomatch e
   .injection e with e1 _;rw[e1]
 byValue:=λk v h=>by
  rcases JaR h with⟨i,rfl,rfl⟩ | ⟨x,t,rfl,rfl⟩ <;> rfl
 pyHash:=λhv h=>by
  rcases JaR hv with⟨i,rfl,rfl⟩ | ⟨x,t,rfl,rfl⟩
  .show Jg3 h
  .show wpAny_pyHash_str h
 eqBool:=λhu hv h=>by
  rcases JaR hu with⟨i,rfl,rfl⟩ | ⟨x,t,rfl,rfl⟩
  .rcases JaR hv with⟨j,rfl,rfl⟩ | ⟨y,u,rfl,rfl⟩
   .rw[Jl3]at h;show SeqAt.EqAt.bool_bool i j _ _ _ _ h
   .rw[Jl4]at h;show SeqAt.EqAt.bool_str i y u _ _ _ _ h
  .rcases JaR hv with⟨j,rfl,rfl⟩ | ⟨y,u,rfl,rfl⟩
   .rw[Jl5]at h;show SeqAt.EqAt.str_bool x t j _ _ _ _ h
   .rw[Jl6]at h;show wpAny_eqBool_str h
 «strs»:=λk x t v h=>by
  rcases JaR h with⟨i,rfl,e⟩ | ⟨y,u,rfl,e⟩
  .show nomatch e
  .injection e with e1 _
   subst e1;cases v <;> rfl
theorem Jge(prog:Program)(w:World)(i:Bool):(Jax prog w).is (.inl i) (.bool i)=true:=JhS i
theorem JgP(prog:Program)(w:World)(x:Str)(t:Tok):(Jax prog w).is (.inr x) (.str x t)=true:=JiH x t
inductive V where
 | non | bl (b:Bool) | int (i:Int) | str (x:Str) | byt (b:Array UInt8) | flt (b:UInt64) | ref (a:Addr) | ty (n:String)
 deriving DecidableEq
def RelV:V->Value->Prop
 | .non,u=>u=Value.none
 | .bl b,u=>u=Value.bool b
 | .int i,u=>∃ t,u=Value.int i t
 | .str x,u=>∃ t,u=Value.str x t
 | .byt b,u=>∃ t,u=Value.bytes b t
 | .flt b,u=>∃ t,u=Value.float b t
 | .ref a,u=>u=Value.ref a
 | .ty n,u=>u=Value.type n
abbrev Vals:List V->List Value->Prop:=Paired RelV
variable{xs:List V}{us:List Value}
theorem Vals.length(r:Vals xs us):xs.length=us.length:=Paired.length r
theorem Vals.get{i:Nat}{x:V}(h:Vals xs us):xs[i]?=some x->∃ u,us[i]?=some u/\RelV x u:=by
 induction h generalizing i with
 | nil=>showλe=>by cases e
 | cons r _ ih=>
  cases i with
  | zero=>showλe=>by cases e;show(_,rfl,r)
  | succ i=>showλe=>ih e
variable{ys:List V}
theorem Vals.append{ws:List Value}(h:Vals xs us)(s:Vals ys ws):Vals (xs++ys) (us++ws):=by
 induction h with
 | nil=>show s
 | cons r _ ih=>show .cons r ih
theorem Vals.take(n:Nat)(h:Vals xs us):Vals (xs.take n) (us.take n):=by
 induction h generalizing n with
 | nil=>cases n <;> show .nil
 | cons r _ ih=>
  cases n with
  | zero=>show .nil
  | succ n=>show .cons r (ih n)
theorem Vals.drop:∀{xs:List V}{us:List Value}(n:Nat),Vals xs us->Vals (xs.drop n) (us.drop n)
 | _,_,0,r=>r
 | _,_,_+1, .nil=>.nil
 | _,_,n+1, .cons _ t=>Vals.drop n t
def RelO:Option V->Option Value->Prop
 | some v,some u=>RelV v u
 | none,none=>True
 | _,_=>False
def KV{κ:Type}:List (κ × V)->List (κ × Value)->Prop:=Paired λ(p : κ × V)(q : κ × Value)=>p.1=q.1/\RelV p.2 q.2
def kV:Key->V
 | .inl i=>.bl i
 | .inr x=>.str x
inductive HO where
 | lst (xs:List V)
 | tup (xs:List V)
 | dK (kvs:List (Key × V)) | dT (kvs:List (List Key × V))
 | set (S:Int->Bool) (n:Nat)
 | ins (C dx:Addr) (fs:List (Str × V))
 | own (x:Addr)
 | xd (fs:List (Str × V))
 | met (f x:Addr)
 | rng (lo hi:Int)
 | frz (o:Obj) (u:HO)
 | tbl (ps:Array Value)
 | ext (φ : Heap->Prop)
abbrev Hp:=Addr->Option HO
def upd(H:Hp)(a:Addr)(o:HO):Hp:=λb=>if b=a then some o else H b
variable{H:Hp}{a:Addr}{o:HO}
theorem Jam:upd H a o a=some o:=by unfold upd;rw[if_pos rfl]
variable{b:Addr}
theorem Jah(h:b≠a):upd H a o b=H b:=by unfold upd;rw[if_neg h]
variable{u:HO}
theorem ne_of(h:H a=some o)(h':H b=some u)(d:o≠u):a≠b:=by
 intro e;subst e;rw[h]at h';show d (Option.some.inj h')
theorem Jai(h:H a=some o)(h':H b=none):a≠b:=by
 intro e;subst e;rw[h]at h';cases h'
section
variable(P:Program)(w:World)
def ObjOk(H:Hp)(h:Heap)(a:Addr):HO->Prop
 | .lst xs=>xs.length<=sizeLine/\∃(its:List Value)(n:Nat),Vals xs its/\h.get? a=some { cls:=.type "list",data:=.seq its.toArray n }
 | .tup xs=>xs.length<=sizeLine/\∃ its:List Value,Vals xs its/\IsTup h a its.toArray
 | .dK kvs=>kvs.length<=sizeLine/\(a == sysModules)=false/\∃ vs,KV kvs vs/\h.DictOf (Jax P w) a vs
 | .dT kvs=>kvs.length<=sizeLine/\(a == sysModules)=false/\∃ xs:List (List Key × Addr × Value),
   Paired (λ(p:List Key × V)(q:List Key × Addr × Value)=>p.1=q.1/\H q.2.1=some (.tup (p.1.map kV))/\RelV p.2 q.2.2) kvs xs /\
   ∃ o es ep,h.get? a=some o/\o.ExactDict/\o.data=.dict es ep/\es.toList=xs.map (entryOfKey (tupleKind (Jax P w)))/\(xs.map (·.1)).Nodup
 | .set S n=>h.SetOf (intKind P w) a S n
 | .ins C dx fs=>H dx=some (.own a)/\fs.length<=1000/\dx≠a/\h.get? a=some (W.instObj C dx) /\
   ∃ mA,h.Ns1 dx mA/\(∀ f,RelO (fs.lookup f) (mA f))/\PySem.Within mA (fs.map (·.1))
 | .own _=>∃ o,h.get? a=some o
 | .xd fs=>∃ mA,h.Ns1 a mA/\∀ f,RelO (fs.lookup f) (mA f)
 | .rng lo hi=>∃ t u v,h.get? a=some { cls:=.type "range",data:=.fields #[.int lo t, .int hi u, .int 1 v] }
 | .frz o u=>h.get? a=some o/\ObjOk H h a u
 | .tbl ps=>h.get? a=some { cls:=.none,data:=.fields ps }
 | .met f x=>h.get? a=some (W.methodObj (.ref f) (.ref x))
 | .ext φ=>φ h/\(∃ o,h.get? a=some o)/\∀ h1 h2:Heap,φ h1->(∀ o,h1.get? a=some o->h2.get? a=some o)->φ h2
def HOk(H:Hp)(h:Heap):Prop:=∀ a o,H a=some o->ObjOk P w H h a o
end
section
variable{P:Program}{H':Hp}{h h':Heap}{w:World}
theorem ObjOk.lt(x:ObjOk P w H h a o):a<h.objs.size:=by
 cases o with
 | lst xs=>let(_,_,_,_,e):=x;show Heap.lt_size e
 | tup xs=>let(_,_,_,p):=x;show p.lt
 | dK kvs=>let(_,_,_,_,o,_,_,e,_):=x;show Heap.lt_size e
 | dT kvs=>let(_,_,_,_,o,_,_,e,_):=x;show Heap.lt_size e
 | set S n=>let(o,_,_,_,e,_):=x;show Heap.lt_size e
 | ins C dx fs=>let(_,_,_,e,_):=x;show Heap.lt_size e
 | own y=>let(_,e):=x;show Heap.lt_size e
 | xd fs=>let(_,(_,_,_,e,_),_):=x;show Heap.lt_size e
 | rng lo hi=>let(_,_,_,e):=x;show Heap.lt_size e
 | frz ob u=>let(e,_):=x;show Heap.lt_size e
 | tbl ps=>show Heap.lt_size (show h.get? a=some _ from x)
 | met f y=>show Heap.lt_size (show h.get? a=some _ from x)
 | ext φ=>let(_,(_,e),_):=x;show Heap.lt_size e
variable{α:Type}
theorem Paired.mapP{β:Type}{F G : α->β->Prop}{l₁ : List α}{l₂ : List β}(h:Paired F l₁ l₂)(f:∀ a b,F a b->G a b):Paired G l₁ l₂:=by
 induction h with
 | nil=>show .nil
 | cons r _ ih=>show .cons (f _ _ r) ih
theorem ObjOk.stay(x:ObjOk P w H h a o)(k:∀ b u,(b=a\/H b=some (.own a))->h.get? b=some u->h'.get? b=some u)
  (ho:∀ b,H b=some (.own a)->H' b=some (.own a)) (ht:∀ b xs,H b=some (.tup xs)->H' b=some (.tup xs)):ObjOk P w H' h' a o:=by
 induction o with
 | lst xs=>let(z,l,n,r,e):=x;show(z,l,n,r,k _ _ (.inl rfl) e)
 | tup xs=>let(z,l,r,g,e,c):=x;show(z,l,r,g,k _ _ (.inl rfl) e,c)
 | dK kvs=>let(z,y,E,r,g,j,i,e,c):=x;show(z,y,E,r,g,j,i,k _ _ (.inl rfl) e,c)
 | dT kvs=>
  let(z,y,xs,r,g,j,i,e,c):=x;show(z,y,xs,Paired.mapP r λp q z=>⟨z.1,ht _ _ z.2.1,z.2.2⟩,g,j,i,k _ _ (.inl rfl) e,c)
 | set S n=>let(g,j,i,t,e,c):=x;show(g,j,i,t,k _ _ (.inl rfl) e,c)
 | ins C dx fs=>
  let(d,z,D,e,m,(s,j,i,B,c),r):=x;show(ho _ d,z,D,k _ _ (.inl rfl) e,m,⟨s,j,i,k _ _ (.inr d) B,c⟩,r)
 | own y=>let(g,e):=x;show(g,k _ _ (.inl rfl) e)
 | xd fs=>let(m,(s,j,i,e,c),r):=x;show(m,⟨s,j,i,k _ _ (.inl rfl) e,c⟩,r)
 | rng lo hi=>let(t,u,v,e):=x;show(t,u,v,k _ _ (.inl rfl) e)
 | frz g u ih=>let(e,q):=x;show(k _ _ (.inl rfl) e,ih q)
 | tbl ps=>
  have e:h.get? a=some { cls:=.none,data:=.fields ps }:=x;show h'.get? a=some { cls:=.none,data:=.fields ps };show k a _ (.inl rfl) e
 | met f y=>
  have e:h.get? a=some (W.methodObj (.ref f) (.ref y)):=x;show h'.get? a=some (W.methodObj (.ref f) (.ref y));show k a _ (.inl rfl) e
 | ext φ=>let(p,(o,e),A):=x;show(A _ _ p λo q=>k _ _ (.inl rfl) q,⟨o,k _ _ (.inl rfl) e⟩,A)
theorem HOk.lt(x:HOk P w H h)(e:H a=some o):a<h.objs.size:=(x a o e).lt
theorem HOk.fresh(x:HOk P w H h)(e:h.objs.size<=a):H a=none:=by
 cases q:H a with
 | none=>rfl
 | some u=>show absurd (Nat.lt_of_lt_of_le (x.lt q) e) (Nat.lt_irrefl _)
theorem HOk.kept(x:HOk P w H h)(k:∀ b u,h.get? b=some u->h'.get? b=some u):HOk P w H h':=λa o e=>
 (x a o e).stay (λb u _ q=>k b u q) (λ_ q=>q) λ_ _ q=>q
theorem HOk.laid(x:HOk P w H h)(k:∀ b u,h.get? b=some u->h'.get? b=some u)(hp:h.objs.size<=a)(new:ObjOk P w (upd H a o) h' a o):HOk P w (upd H a o) h':=λb u e=>by
 have d:=x.fresh hp;by_cases f:b=a
 .subst f;rw[Jam]at e;cases e;show new
 .rw[Jah f]at e;show(x b u e).stay (λc v _ q=>k c v q) (λc q=>by rw[Jah (Jai q d)];show q) λc g q=>by rw[Jah (Jai q d)];show q
end
def Rd(H:Hp)(a:Addr)(u:HO):Prop:=H a=some u\/∃ o,H a=some (.frz o u)
variable{P:Program}{h:Heap}
theorem Rd.ok{w:World}(r:Rd H a u)(x:HOk P w H h):ObjOk P w H h a u:=by
 rcases r with r | ⟨o,r⟩
 .show x a u r
 .let(_,q):=x a _ r;show q
def Mut:Option HO->Prop
 | some (.lst _)=>True
 | some (.dK _)=>True
 | some (.dT _)=>True
 | some (.set _ _)=>True
 | some (.ins _ _ _)=>True
 | some (.ext _)=>True
 | _=>False
section
variable{h':Heap}{x e:Addr}{o':HO}{w:World}
theorem HOk.write(ok:HOk P w H h)(mu:Mut (H x))(he:e=x\/H e=some (.own x))(k:∀ b u,b≠e->h.get? b=some u->h'.get? b=some u)(heo:∃ u,h'.get? e=some u)
  (new:ObjOk P w (upd H x o') h' x o'):HOk P w (upd H x o') h':=λb u q=>by
 have d:∀ c y,H c=some (.own y)->c≠x:=λc y r z=>by subst z;rw[r]at mu;show mu
 have f:∀ c i,H c=some (.tup i)->c≠x:=λc i r z=>by subst z;rw[r]at mu;show mu
 by_cases j:b=x
 .subst j;rw[Jam]at q;cases q;show new
 .rw[Jah j]at q;by_cases a:b=e
  .have l:H b=some (.own x):=by
    rcases he with z | z
    .show absurd (a.trans z) j
    .rw[a];show z
   rw[q]at l;cases l;let(v,m):=heo;show(v,by rw[a];show m)
  .show(ok b u q).stay (λc v g r=>k c v ?_ r) (λc r=>by rw[Jah (d c b r)];show r) λc i r=>by rw[Jah (f c i r)];show r
   rcases g with rfl | g
   .show a
   .rintro rfl;rcases he with z | z
    .show d c b g z
    .rw[g]at z;cases z;show j rfl
end
structure Un(fs ex:List Addr)(H H':Hp)(h h':Heap):Prop where
 keep:∀ b o,h.get? b=some o->H b=none->b∉fs->b∉ex->h'.get? b=some o
 slot:∀ b o,h.get? b=some o->H b=none->b∈fs->b∉ex->∃ sl,h'.get? b=some { o with slots:=sl }
 free:∀ b o,h.get? b=some o->H b=none->b∉ex->H' b=none
 there:∀ b o,h.get? b=some o->b∉ex->∃ o',h'.get? b=some o'
 tups:∀ b xs,H b=some (.tup xs)->H' b=some (.tup xs)
 frzs:∀ b o u,H b=some (.frz o u)->H' b=some (.frz o u)
 tbls:∀ b ps,H b=some (.tbl ps)->∃ more,H' b=some (.tbl (ps++more))
section
variable{fs' ex ex':List Addr}{H1 H2:Hp}{h1 h2 h':Heap}{x e:Addr}{fs:List Addr}
theorem Un.any(u:Un fs ex H H1 h h1){b:Addr}{ob:Obj}(q:h.get? b=some ob)(n:H b=none)(hx:b∉ex):∃ sl,h1.get? b=some { ob with slots:=sl }:=by
 by_cases a:b∈fs
 .show u.slot b ob q n a hx
 .show(ob.slots,u.keep b ob q n a hx)
theorem Un.kept(k:∀ b u,h.get? b=some u->h'.get? b=some u):Un fs ex H H h h' :=
 ⟨λb a q _ _ _=>k b a q,λb a q _ _ _=>⟨a.slots,k b a q⟩,λ_ _ _ n _=>n,λb a q _=>⟨a,k b a q⟩,λ_ _ q=>q,λ_ _ _ q=>q,λ_ c q=>⟨#[],by rw[q];simp⟩⟩
theorem Un.refl:Un fs ex H H h h:=Un.kept λ_ _ q=>q
theorem Un.laid(k:∀ b u,h.get? b=some u->h'.get? b=some u)(hp:h.objs.size<=a)(hn:H a=none):Un fs ex H (upd H a o) h h' where
 keep:=λb u q _ _ _=>k b u q
 slot:=λb u q _ _ _=>⟨u.slots,k b u q⟩
 free:=λb u q n _=>by rw[Jah (Nat.ne_of_lt (Nat.lt_of_lt_of_le (Heap.lt_size q) hp))];show n
 there:=λb u q _=>⟨u,k b u q⟩
 tups:=λb c q=>by rw[Jah (Jai q hn)];show q
 frzs:=λb u c q=>by rw[Jah (Jai q hn)];show q
 tbls:=λb d q=>⟨#[],by rw[Jah (Jai q hn),q];simp⟩
theorem Un.write(mu:Mut (H x))(he:e=x\/H e=some (.own x))(k:∀ b u,b≠e->h.get? b=some u->h'.get? b=some u)(heo:∃ u,h'.get? e=some u):Un fs ex H (upd H x o) h h':=by
 have d:∀ b,H b=none->b≠x:=λb n z=>by subst z;rw[n]at mu;show mu
 have f:∀ b,H b=none->b≠e:=λb n z=>by
  subst z;rcases he with r | r
  .show d b n r
  .rw[n]at r;cases r
 have c:∀ b u,H b=some u->¬ Mut (some u)->b≠x:=λb u q i z=>by subst z;rw[q]at mu;show i mu
 show(λb u q n _ _=>k b u (f b n) q,λb u q n _ _=>⟨u.slots,k b u (f b n) q⟩,λb u q n _=>by rw[Jah (d b n)];show n,λb u q _=>?_,
  λb g q=>by rw[Jah (c b _ q λz=>z)];show q,λb u g q=>by rw[Jah (c b _ q λz=>z)];show q,λb j q=>⟨#[],by rw[Jah (c b _ q λz=>z),q];simp⟩)
 by_cases a:b=e
 .subst a;show heo
 .show(u,k b u a q)
end
def trk(h:Heap)(H:Hp):List Addr:=(List.range h.objs.size).filter λa=>(H a).isSome
def hidT(h:Heap)(H:Hp):Heap:=W.hideAll h (trk h H)
theorem JiF(h:Heap)(H:Hp):(hidT h H).objs.size=h.objs.size:=W.hideAll_size _ _
variable{o:Obj}
theorem JjH(e:h.get? b=some o)(n:H b=none):(hidT h H).get? b=some o :=
 W.hideAll_get _ e λa=>by
  have q:(H b).isSome=true:=(mem_filter.mp a).2;rw[n]at q;simp at q
theorem Jlm(e:(hidT h H).get? b=some o):h.get? b=some o/\H b=none:=by
 have a:h.get? b=some o:=W.of_hideAll (trk h H) e;show(a,?_);cases q:H b with
 | none=>rfl
 | some x=>
  have c:b∈trk h H:=mem_filter.mpr ⟨List.mem_range.mpr (Heap.lt_size a),by simp[q]⟩;have z:(hidT h H).get? b=none:=W.hideAll_none (trk h H) c;rw[z]at e;cases e
def JkQ(g h:Heap)(L:Addr):List (Addr × Obj):=(List.range h.objs.size).filterMap λa=>if a=L\/(g.get? a).isSome=true then none else(h.get? a).map λo=>(a,o)
def rest(g h:Heap)(L d:Addr):List (Addr × Obj):=(JkQ g h L).filter λp=>decide (p.1≠d)
structure Mod(K:W.Frag)(mg:Str->Option Value)(base:Heap):Prop where
 kin:K.In base
 glob:base.Ns mainGlobals mg
 blt:∃ mb,base.Ns builtinsNs mb/\∀ x:Str,x≠"__name__"->mb x=bootBuiltins x
 nolimit:base.NoLimit
set_option genInjectivity false in
structure Cx where
 prog:Program
 w:World
 K:W.Frag
 mg:Str->Option Value
 base:Heap
 A:Around
 N:List Str
 s₀ : Shared
 H₀ : Hp
 env:Env
 outer:List Env
 stack:List Env
 ex:List Addr
 fn:Str->Bool
 calm:Bool
 pn:List (Addr × Obj)
 xe:Value->Shared->Prop
def frs(l:List Env):List Addr:=l.filterMap (·.frame)
abbrev Cx.fs(X:Cx):List Addr:=frs X.outer
def Vis(sc:Scope)(x:Str):Prop:=sc.names.lookup x=some .local\/sc.names.lookup x=some .cell\/sc.names.lookup x=some .free
def Loc(sc:Scope)(x:Str):Prop:=sc.names.lookup x=some .local\/sc.names.lookup x=some .cell
def Look(env:Env)(h:Heap)(m:Str->Option Value)(x:Str)(u:Value):Prop :=
 (env.kindOf x=some .local/\m x=some u)\/((env.kindOf x=some .cell\/env.kindOf x=some .free)/\∃ c,env.cells.lookup x=some c/\h.IsCell c (some u))
structure Cx.Ok(X:Cx):Prop where
 mod:Mod X.K X.mg X.base
 kind:X.env.scope.kind=.function
 glob:X.env.globals=mainGlobals
 blt:X.env.builtins=builtinsNs
 above:X.s₀.heap.objs.size<=X.env.locals
 inj:∀ x y c,X.env.cells.lookup x=some c->X.env.cells.lookup y=some c->x=y
 has:∀ x,(X.env.kindOf x=some .cell\/X.env.kindOf x=some .free)->∃ c,X.env.cells.lookup x=some c
 cab:∀ x c,X.fn x=true->X.env.cells.lookup x=some c->X.s₀.heap.objs.size<=c
 hd:X.calm=true->X.A.handled=none
 frames:X.A.frames=some X.stack
 stk:X.stack=X.outer\/(X.stack=X.env::X.outer/\X.env.frame=some X.env.locals)
 exf:∀ b∈X.ex,b≠X.env.locals/\∀ x c,X.env.cells.lookup x=some c->c≠b
 bs:∀ b o,X.base.get? b=some o->X.s₀.heap.get? b=some o/\X.H₀ b=none
 bsz:X.base.objs.size<=X.s₀.heap.objs.size
 noex:∀ b o,X.base.get? b=some o->b∉X.ex
 exfs:∀ b∈X.ex,b∉X.fs
 funs:X.s₀.heap.FunFrames X.base X.outer
 frf:∀ b∈X.fs,X.H₀ b=none
structure Inv(X:Cx)(pins:List (Addr × Obj))(σ : List (Option V))(H:Hp)(s:Shared):Prop where
 ok:X.Ok
 os:s.os=X.s₀.os
 bare:AllBare s.gens
 base:Un X.fs X.ex X.H₀ H X.s₀.heap s.heap
 loc:∃ m,s.heap.Ns X.env.locals m/\∀(i:Nat)(x:Str)(v:V),X.N[i]?=some x->σ[i]?=some (some v)->Vis X.env.scope x->∃ u,RelV v u/\Look X.env s.heap m x u
 cell:∀ x c,X.env.cells.lookup x=some c->∃ v,s.heap.IsCell c v
 free:H X.env.locals=none
 freeC:∀ x c,X.env.cells.lookup x=some c->H c=none
 pin:∀ p∈X.pn++pins,s.heap.get? p.1=some p.2/\H p.1=none/\p.1≠X.env.locals/\p.1∉X.fs/\∀ v,p.2.data≠.cell v
 hok:HOk X.prog X.w H s.heap
 len : σ.length=X.N.length
section
variable{X:Cx}{pins:List (Addr × Obj)}{σ:List (Option V)}{H':Hp}{h':Heap}{s:Shared}
theorem Cx.Ok.nofr(ok:X.Ok){b:Addr}{o:Obj}(e:X.base.get? b=some o):b∉X.fs:=λa=>by
 have:=(ok.funs.mem a).1;rw[e]at this;cases this
theorem Inv.bs(I:Inv X pins σ H s):∀ b o,X.base.get? b=some o->s.heap.get? b=some o/\H b=none:=λb o e=>
 ⟨I.base.keep b o (I.ok.bs b o e).1 (I.ok.bs b o e).2 (I.ok.nofr e) (I.ok.noex b o e),I.base.free b o (I.ok.bs b o e).1 (I.ok.bs b o e).2 (I.ok.noex b o e)⟩
theorem Inv.bk(I:Inv X pins σ H s):∀ b o,X.base.get? b=some o->s.heap.get? b=some o:=λb o e=>(I.bs b o e).1
theorem Inv.mod(I:Inv X pins σ H s):Mod X.K X.mg X.base:=I.ok.mod
theorem Inv.kIn(I:Inv X pins σ H s):X.K.In s.heap:=I.ok.mod.kin.keeps I.bk
theorem Inv.lt(I:Inv X pins σ H s):X.env.locals<s.heap.objs.size:=let⟨_,hn,_⟩:=I.loc;hn.lt
theorem Inv.sz(I:Inv X pins σ H s):X.s₀.heap.objs.size<=s.heap.objs.size:=Nat.le_trans I.ok.above (Nat.le_of_lt I.lt)
theorem Inv.nofs(I:Inv X pins σ H s){a:Addr}(h:s.heap.objs.size<=a):a∉X.fs:=λb=>by
 let(_,o,c,_):=I.ok.funs.mem b;show absurd (Nat.lt_of_lt_of_le (Heap.lt_size c) (Nat.le_trans I.sz h)) (Nat.lt_irrefl _)
theorem Inv.cne(I:Inv X pins σ H s):∀ x c,X.env.cells.lookup x=some c->c≠X.env.locals:=λx c e z=>by
 let(v,o,f,d):=I.cell x c e;let(m,(i,h,g,b,a,_),_):=I.loc;rw[z,b]at f;cases f;rw[a]at d;cases d
theorem Inv.funs(I:Inv X pins σ H s):s.heap.FunFrames X.base X.outer:=by
 have all:∀(l:List Env),(∀ b∈frs l,b∈X.fs)->X.s₀.heap.FunFrames X.base l->s.heap.FunFrames X.base l:=by
  intro l;induction l with
  | nil=>intro _ _;trivial
  | cons env r ih=>
   intro f k;let(m,(L,o,c,j,i,h),g):=k;have a:L∈X.fs:=f L (by unfold frs;rw[List.filterMap_cons,c];show mem_cons_self);let(n,e):=I.base.slot L o i (I.ok.frf L a) a λz=>I.ok.exfs L z a;show(m,⟨L,_,c,j,e,h⟩,ih (λb d=>f b (by unfold frs;rw[List.filterMap_cons,c];show mem_cons_of_mem _ d)) g)
 show all X.outer (λ_ d=>d) I.ok.funs
theorem Inv.stack(I:Inv X pins σ H s):s.heap.FunFrames X.base X.stack:=by
 rcases I.ok.stk with e | ⟨e,hf⟩
 .rw[e];show I.funs
 .rw[e];let(m,a,_):=I.loc;show .cons (by rw[I.ok.kind];decide) hf a ?_ I.funs;show Heap.get?_none_of_le (Nat.le_trans I.ok.bsz I.ok.above)
theorem Inv.stkSub(I:Inv X pins σ H s):∀ b∈frs X.stack,b∈X.env.locals::X.fs:=λb a=>by
 rcases I.ok.stk with e | ⟨e,hf⟩
 .rw[e]at a;show mem_cons_of_mem _ a
 .rw[e]at a;unfold frs at a;rw[List.filterMap_cons,hf]at a;show a
theorem Inv.stkFree(I:Inv X pins σ H s):∀ b∈frs X.stack,H b=none:=λb a=>by
 rcases mem_cons.mp (I.stkSub b a)with e | a
 .rw[e];show I.free
 .let(_,o,c,_):=I.ok.funs.mem a;show I.base.free b o c (I.ok.frf b a) λz=>I.ok.exfs b z a
variable{g':Array GenState}{t':Nat}{d':Drawn}{ch:List Addr}
theorem Inv.step(I:Inv X pins σ H s)
  (hch:∀ b∈ch,(b∈X.ex\/X.s₀.heap.objs.size<=b)/\b≠X.env.locals/\(∀ x c,X.env.cells.lookup x=some c->c≠b)/\∀ p∈X.pn++pins,p.1≠b)
  (keep:∀ b o,b≠X.env.locals->b∉X.fs->b∉ch->s.heap.get? b=some o->H b=none->h'.get? b=some o)
  (slot:∀ b o,b≠X.env.locals->b∈X.fs->b∉ch->s.heap.get? b=some o->H b=none->∃ sl,h'.get? b=some { o with slots:=sl }) (free:∀ b o,b∉ch->s.heap.get? b=some o->H b=none->H' b=none)
  (there:∀ b o,b∉ch->s.heap.get? b=some o->∃ o',h'.get? b=some o')
  (tups:∀ b xs,H b=some (.tup xs)->H' b=some (.tup xs)) (frzs:∀ b o u,H b=some (.frz o u)->H' b=some (.frz o u)) (tbls:∀ b ps,H b=some (.tbl ps)->∃ more,H' b=some (.tbl (ps++more)))
  (ns:∀ m,s.heap.Ns X.env.locals m->h'.Ns X.env.locals m) (hok:HOk X.prog X.w H' h') (hg:AllBare g') :
  Inv X pins σ H' { s with heap:=h',gens:=g',drawn:=d',toks:=t' }:=by
 have B:∀ b o,X.s₀.heap.get? b=some o->b≠X.env.locals:=λb o e=>Nat.ne_of_lt (Nat.lt_of_lt_of_le (Heap.lt_size e) I.ok.above);have h:∀ b o,X.s₀.heap.get? b=some o->b∉X.ex->b∉ch:=λb o e a t=>by
  rcases(hch b t).1 with z | z
  .show a z
  .show absurd (Nat.lt_of_lt_of_le (Heap.lt_size e) z) (Nat.lt_irrefl _)
 have g:∀ x c,X.env.cells.lookup x=some c->∀ v,s.heap.IsCell c v->h'.IsCell c v:=λx c e v ⟨o,y,C⟩=>by
  have f:c∉ch:=λz=>(hch c z).2.2.1 x c e rfl;by_cases E:c∈X.fs
  .let(sl,q):=slot c o (I.cne x c e) E f y (I.freeC x c e);show(_,q,C)
  .show(o,keep c o (I.cne x c e) E f y (I.freeC x c e),C)
 show(I.ok,I.os,hg,⟨λb o e n t a=>?_,λb o e n t a=>?_,λb o e n a=>?_,λb o e a=>?_,λb xs e=>tups b xs (I.base.tups b xs e),λb o xs e=>frzs b o xs (I.base.frzs b o xs e),λb ps e=>?_⟩,?_,λx c e=>?_,?_,λx c e=>?_,λp J=>?_,hok,I.len)
 .show keep b o (B b o e) t (h b o e a) (I.base.keep b o e n t a) (I.base.free b o e n a)
 .let(sl,j):=I.base.slot b o e n t a;let(D,A):=slot b _ (B b o e) t (h b o e a) j (I.base.free b o e n a);show(D,A)
 .let(o',j):=I.base.there b o e a;show free b o' (h b o e a) j (I.base.free b o e n a)
 .let(o',j):=I.base.there b o e a;show there b o' (h b o e a) j
 .let(N,j):=I.base.tbls b ps e;let(L,A):=tbls b _ j;show(N++L,by rw[A,Array.append_assoc])
 .let(m,M,K):=I.loc;show(m,ns m M,λi x v j A O=>?_);let(u,r,l):=K i x v j A O;show(u,r,?_);rcases l with l | ⟨k,c,e,z⟩
  .show .inl l
  .show .inr ⟨k,c,e,g x c e _ z⟩
 .let(v,z):=I.cell x c e;show(v,g x c e v z)
 .let(m,(o,_,_,y,_),_):=I.loc;show free _ o (λz=>(hch _ z).2.1 rfl) y I.free
 .let(v,o,y,C):=I.cell x c e;show free c o (λz=>(hch c z).2.2.1 x c e rfl) y (I.freeC x c e)
 .let(e,n,G,F,d):=I.pin p J;have f:p.1∉ch:=λz=>(hch p.1 z).2.2.2 p J rfl;show(keep p.1 p.2 G F f e n,free p.1 p.2 f e n,G,F,d)
theorem Inv.un(I:Inv X pins σ H s)(u:Un X.fs [] H H' s.heap h')(hok:HOk X.prog X.w H' h'):Inv X pins σ H' { s with heap:=h',toks:=t' }:=by
 let(m,(o,q,p,g,r),_):=id I.loc;let(k,j):=u.any g I.free (by simp);show I.step (g':=s.gens) (d':=s.drawn) (ch:=[]) (λ_ z=>nomatch z) (λb o _ f _ e n=>u.keep b o e n f (by simp)) (λb o _ f _ e n=>u.slot b o e n f (by simp)) (λb o _ e n=>u.free b o e n (by simp)) (λb o _ e=>u.there b o e (by simp)) u.tups u.frzs u.tbls (λt i=>by
  let(l,d,c,a,h):=i;rw[g]at a;cases a;show(_,d,c,j,h)) hok I.bare
theorem Inv.call(I:Inv X pins σ H s)(u:Un (frs X.stack) ch H H' s.heap h')(hok:HOk X.prog X.w H' h')(hg:AllBare g')
  (hch:∀ b∈ch,(b∈X.ex\/X.s₀.heap.objs.size<=b)/\b≠X.env.locals/\(∀ x c,X.env.cells.lookup x=some c->c≠b)/\∀ p∈X.pn++pins,p.1≠b) :
  Inv X pins σ H' { s with heap:=h',gens:=g',drawn:=d',toks:=t' }:=by
 let(m,(o,y,v,i,r),_):=id I.loc;let(q,h):=u.any i I.free λz=>(hch _ z).2.1 rfl;show I.step (ch:=ch) hch (λb o h l a e n=>u.keep b o e n (λz=>(mem_cons.mp (I.stkSub b z)).elim h l) a) (λb o _ _ a e n=>u.any e n a) (λb o a e n=>u.free b o e n a) (λb o a e=>u.there b o e a) u.tups u.frzs u.tbls (λA k=>by
  let(t,g,f,d,j):=k;rw[i]at d;cases d;show(_,g,f,h,j)) hok hg
variable{it:Addr}
theorem Inv.turned(I:Inv X pins σ H s)(k:∀ b o,b≠it->s.heap.get? b=some o->h'.get? b=some o)(hn:H it=none)(hL:it≠X.env.locals)
  (h1:it∈X.ex\/X.s₀.heap.objs.size<=it) (h2:∀ x c,X.env.cells.lookup x=some c->c≠it) (h3:∀ p∈X.pn++pins,p.1≠it):Inv X pins σ H { s with heap:=h',toks:=t' }:=by
 have d:∀ b u,H b=some u->b≠it:=λb u e z=>by rw[z,hn]at e;cases e
 show I.step (g':=s.gens) (d':=s.drawn) (ch:=[it]) (λb j=>?_) (λb o _ _ a e _=>k b o (λz=>a (by simp[z])) e) (λb o _ _ a e _=>⟨o.slots,k b o (λz=>a (by simp[z])) e⟩) (λ_ _ _ _ n=>n)
  (λb o a e=>⟨o,k b o (λz=>a (by simp[z])) e⟩) (λ_ _ e=>e) (λ_ _ _ e=>e) (λb l e=>⟨#[],by rw[e];simp⟩) (λm f=>?_) (λb u e=>?_) I.bare
 .have e:b=it:=by simpa using j
  subst e;show(h1,hL,h2,h3)
 .let(o,i,g,h,r):=f;show(o,i,g,k _ o (Ne.symm hL) h,r)
 .show(I.hok b u e).stay (λc v a q=>k c v ?_ q) (λ_ q=>q) λ_ _ q=>q;rcases a with z | z
  .rw[z];show d b u e
  .show d c _ z
theorem Inv.tok(I:Inv X pins σ H s)(t:Nat):Inv X pins σ H { s with toks:=t }:=I.un (h':=s.heap) (t':=t) Un.refl I.hok
theorem Inv.kept(I:Inv X pins σ H s)(k:∀ b u,s.heap.get? b=some u->h'.get? b=some u):Inv X pins σ H { s with heap:=h',toks:=t' }:=I.un (Un.kept k) (I.hok.kept k)
variable{o:HO}
theorem Inv.laid(I:Inv X pins σ H s)(k:∀ b u,s.heap.get? b=some u->h'.get? b=some u)(hp:s.heap.objs.size<=a)(new:ObjOk X.prog X.w (upd H a o) h' a o) :
  Inv X pins σ (upd H a o) { s with heap:=h',toks:=t' }:=I.un (Un.laid k hp (I.hok.fresh hp)) (I.hok.laid k hp new)
theorem Inv.write{x e:Addr}(I:Inv X pins σ H s)(mu:Mut (H x))(he:e=x\/H e=some (.own x))(k:∀ b u,b≠e->s.heap.get? b=some u->h'.get? b=some u)(heo:∃ u,h'.get? e=some u)
  (new:ObjOk X.prog X.w (upd H x o) h' x o):Inv X pins σ (upd H x o) { s with heap:=h',toks:=t' }:=I.un (Un.write mu he k heo) (I.hok.write mu he k heo new)
theorem Inv.pins_of{pins':List (Addr × Obj)}(I:Inv X pins σ H s)(h:∀ p∈pins',s.heap.get? p.1=some p.2/\H p.1=none/\p.1≠X.env.locals/\p.1∉X.fs/\∀ v,p.2.data≠.cell v):Inv X pins' σ H s :=
 ⟨I.ok,I.os,I.bare,I.base,I.loc,I.cell,I.free,I.freeC,λp a=>(mem_append.mp a).elim (λz=>I.pin p (List.mem_append_left _ z)) (h p),I.hok,I.len⟩
variable{N:List Str}
theorem Jhv(hN:N.Nodup){i j:Nat}{x:Str}(a:N[i]?=some x)(b:N[j]?=some x):i=j:=by
 let(f,c):=List.getElem?_eq_some_iff.mp a;let(e,d):=List.getElem?_eq_some_iff.mp b;show(List.getElem_inj hN).mp (c.trans d.symm)
variable{M:Model}{x:Str}{v:V}{u:Value}{Q:Unit->Shared->Prop}
theorem Jgw{i:Nat}(I:Inv X pins σ H s)(hN:X.N.Nodup)(hi:X.N[i]?=some x)(hx:Loc X.env.scope x)(r:RelV v u)
  (h:∀ s',Inv X pins (σ.set i (some v)) H s'->(∃ a,Heap.SameBut a s.heap s'.heap/\(a=X.env.locals\/X.env.cells.lookup x=some a))->Q () s') (hf:autoParam (X.fn x=true\/X.env.scope.names.lookup x=some .local) Au):wpAny M A (storeName X.env x u) Q E s:=by
 let(m,hn,hl):=id I.loc;have P:(X.env.scope.kind == .class||(X.env.scope.kind == .module&&X.env.locals != X.env.globals))=false:=by rw[I.ok.kind];rfl
 have hiσ : i<σ.length:=by rw[I.len];show(List.getElem?_eq_some_iff.mp hi).1
 have G:=I.cne;have g:∀{a:Addr}{K:Heap},(∃ o,s.heap.get? a=some o/\H a=none)->Heap.SameBut a s.heap K->HOk X.prog X.w H K:=λ{a K} ha f b ob e=>by
  let(_,_,B):=ha;show(I.hok b ob e).stay (λc W t q=>(f.2 c ?_).trans q) (λ_ q=>q) λ_ _ q=>q;rintro rfl;rcases t with rfl | t
  .rw[B]at e;cases e
  .rw[B]at t;cases t
 rcases hx with hk | hk
 .show wpAny_storeName_local hk hn (λK a0 f=>?_) P;let(oL,_,_,a1,_):=id hn;show h _ ⟨I.ok,I.os,I.bare,⟨λb o e n J hx=>?_,λb o e n J hx=>?_,I.base.free,λb o e hx=>?_,I.base.tups,I.base.frzs,I.base.tbls⟩,⟨_,a0,λj y v' l C e3=>?_⟩,λy c e=>?_,I.free,I.freeC,λp hp=>?_,g ⟨oL,a1,I.free⟩ f,by simpa using I.len⟩ ⟨_,f, .inl rfl⟩
  .show(f.2 b (Nat.ne_of_lt (Nat.lt_of_lt_of_le (Heap.lt_size e) I.ok.above))).trans (I.base.keep b o e n J hx)
  .let(Y,l):=I.base.slot b o e n J hx;show(Y,(f.2 b (Nat.ne_of_lt (Nat.lt_of_lt_of_le (Heap.lt_size e) I.ok.above))).trans l)
  .let(o',l):=I.base.there b o e hx;show(o',(f.2 b (Nat.ne_of_lt (Nat.lt_of_lt_of_le (Heap.lt_size e) I.ok.above))).trans l)
  .by_cases F:j=i
   .subst F;rw[hi]at l;cases l;rw[List.getElem?_set_self hiσ]at C;cases C;show(u,r, .inl ⟨hk,by simp⟩)
   .rw[List.getElem?_set_ne (Ne.symm F)]at C;let(u',r',q):=hl j y v' l C e3;show(u',r',?_);rcases q with⟨k,e⟩ | ⟨k,c,e,z⟩
    .show .inl ⟨k,?_⟩;have : y≠x:=λe=>F (Jhv hN l (e ▸ hi));simp[this,e]
    .show .inr ⟨k,c,e,z.sameBut f (G y c e)⟩
  .let(W,z):=I.cell y c e;show(W,z.sameBut f (G y c e))
  .let(e,n,T,Z,d):=I.pin p hp;show((f.2 p.1 T).trans e,n,T,Z,d)
 .have D:X.fn x=true:=by
   rcases hf with z | z
   .show z
   .rw[z]at hk;cases hk
  let(c,t):=I.ok.has x (.inl hk);let(W,z):=I.cell x c t;show wpAny_storeName_cell I.ok.kind hk t z (λK S f=>?_);let(oc,O,L):=id z;show h { s with heap:=K } ⟨I.ok,I.os,I.bare,⟨λb o e n J hx=>?_,λb o e n J hx=>?_,I.base.free,λb o e hx=>?_,I.base.tups,I.base.frzs,I.base.tbls⟩,⟨m,hn.sameBut f (Ne.symm (G x c t)),λj y v' l C e3=>?_⟩,λy U e=>?_,I.free,I.freeC,λp hp=>?_,g ⟨oc,O,I.freeC x c t⟩ f,by simpa using I.len⟩ ⟨c,f, .inr t⟩
  .show(f.2 b (Nat.ne_of_lt (Nat.lt_of_lt_of_le (Heap.lt_size e) (I.ok.cab x c D t)))).trans (I.base.keep b o e n J hx)
  .let(Y,l):=I.base.slot b o e n J hx;show(Y,(f.2 b (Nat.ne_of_lt (Nat.lt_of_lt_of_le (Heap.lt_size e) (I.ok.cab x c D t)))).trans l)
  .let(o',l):=I.base.there b o e hx;show(o',(f.2 b (Nat.ne_of_lt (Nat.lt_of_lt_of_le (Heap.lt_size e) (I.ok.cab x c D t)))).trans l)
  .by_cases F:j=i
   .subst F;rw[hi]at l;cases l;rw[List.getElem?_set_self hiσ]at C;cases C;show(u,r, .inr ⟨.inl hk,c,t,S⟩)
   .rw[List.getElem?_set_ne (Ne.symm F)]at C;let(u',r',q):=hl j y v' l C e3;show(u',r',?_);rcases q with q | ⟨k,U,e,z'⟩
    .show .inl q
    .show .inr ⟨k,U,e,z'.sameBut f ?_⟩;rintro rfl;show F (Jhv hN l (I.ok.inj _ _ _ e t ▸ hi))
  .by_cases R:U=c
   .subst R;show(_,S)
   .let(w2,z2):=I.cell y U e;show(w2,z2.sameBut f R)
  .let(e,n,T,Z,d):=I.pin p hp;show((f.2 p.1 ?_).trans e,n,T,Z,d);intro q;rw[q,O]at e;have q':oc=p.2:=Option.some.inj e;show d W (by rw[<- q'];show L)
theorem Jd9{i:Nat}(I:Inv X pins σ H s)(hN:X.N.Nodup)(hi:X.N[i]?=some x)(hx:Loc X.env.scope x)(r:RelV v u)
  (h:∀ s',Inv X pins (σ.set i (some v)) H s'->Q () s') (hf:autoParam (X.fn x=true\/X.env.scope.names.lookup x=some .local) Au):wpAny M A (storeName X.env x u) Q E s :=
 Jgw I hN hi hx r (λs' I' _=>h s' I') hf
variable{s':Shared}
theorem Inv.call'(I:Inv X pins σ H s)(ho:s'.os=s.os)(u:Un (frs X.stack) ch H H' s.heap s'.heap)(hok:HOk X.prog X.w H' s'.heap)(hg:AllBare s'.gens)
  (hch:∀ b∈ch,(b∈X.ex\/X.s₀.heap.objs.size<=b)/\b≠X.env.locals/\(∀ x c,X.env.cells.lookup x=some c->c≠b)/\∀ p∈X.pn++pins,p.1≠b):Inv X pins σ H' s':=by
 let(d,g',d',t',a):=s';have e:a=s.os:=ho;subst e;show I.call (g':=g') (t':=t') (d':=d') u hok hg hch
end
abbrev XK:=Value->Option Addr->Hp->Prop
abbrev St:=List (Option V)
abbrev VK:=V->Hp->Prop
abbrev TE:=St->Hp->VK->Prop
abbrev TT:=St->Hp->(Bool->Hp->Prop)->Prop
abbrev TA:=St->Hp->(List V->Hp->Prop)->Prop
structure Ends where
 nx:St->Hp->Prop
 rt:VK
 bk:St->Hp->Prop:=λ_ _=>False
 ct:St->Hp->Prop:=λ_ _=>False
abbrev TS:=Ends->St->Hp->Prop
def EP(X:Cx)(pins:List (Addr × Obj))(σ : St)(Q:VK)(u:Value)(s':Shared):Prop:=∃ v H',Inv X pins σ H' s'/\RelV v u/\Q v H'
def TP(X:Cx)(pins:List (Addr × Obj))(σ : St)(Q:Bool->Hp->Prop)(b:Bool)(s':Shared):Prop:=∃ H',Inv X pins σ H' s'/\Q b H'
def AP(X:Cx)(pins:List (Addr × Obj))(σ : St)(Q:List V->Hp->Prop)(us:List Value)(s':Shared):Prop:=∃ vs H',Inv X pins σ H' s'/\Vals vs us/\Q vs H'
def SP(X:Cx)(pins:List (Addr × Obj))(D:Ends)(f:Flow)(s':Shared):Prop :=
 match f with
 | .next=>∃ σ' H',Inv X pins σ' H' s'/\D.nx σ' H'
 | .brk=>∃ σ' H',Inv X pins σ' H' s'/\D.bk σ' H'
 | .cont=>∃ σ' H',Inv X pins σ' H' s'/\D.ct σ' H'
 | .ret u=>∃ v σ' H',Inv X pins σ' H' s'/\RelV v u/\D.rt v H'
def PE(X:Cx)(e:Expr)(t:TE):Prop :=
 ∀(pins:List (Addr × Obj))(s:Shared)(σ : St)(H:Hp)(Q:VK),Inv X pins σ H s->t σ H Q->wpAny (model X.prog X.w) X.A (eval e X.env) (EP X pins σ Q) X.xe s
def PT(X:Cx)(e:Expr)(t:TT):Prop :=
 ∀(pins:List (Addr × Obj))(s:Shared)(σ : St)(H:Hp)(Q:Bool->Hp->Prop),Inv X pins σ H s->t σ H Q->wpAny (model X.prog X.w) X.A (isTrue e X.env (eval e X.env)) (TP X pins σ Q) X.xe s
def PW(X:Cx)(e:Expr)(t:TT):Prop :=
 ∀(whole:Sem Value)(pins:List (Addr × Obj))(s:Shared)(σ : St)(H:Hp)(Q:Bool->Hp->Prop),Inv X pins σ H s->t σ H Q->wpAny (model X.prog X.w) X.A (isTrue e X.env whole) (TP X pins σ Q) X.xe s
variable{X:Cx}{e:Expr}
theorem PW.pt{t:TT}(h:PW X e t):PT X e t:=h _
def PA(X:Cx)(es:List Expr)(t:TA):Prop :=
 ∀(pos:Pos)(pins:List (Addr × Obj))(s:Shared)(σ : St)(H:Hp)(Q:List V->Hp->Prop),Inv X pins σ H s->t σ H Q->wpAny (model X.prog X.w) X.A (spliced (backTo pos (starEach es X.env))) (AP X pins σ Q) X.xe s
def PS(X:Cx)(st:Stmt)(t:TS):Prop :=
 ∀(pins:List (Addr × Obj))(s:Shared)(σ : St)(H:Hp)(D:Ends),Inv X pins σ H s->t D σ H->wpAny (model X.prog X.w) X.A (exec st X.env) (SP X pins D) X.xe s
def PSs(X:Cx)(st:List Stmt)(t:TS):Prop :=
 ∀(pins:List (Addr × Obj))(s:Shared)(σ : St)(H:Hp)(D:Ends),Inv X pins σ H s->t D σ H->wpAny (model X.prog X.w) X.A (execs st X.env) (SP X pins D) X.xe s
variable{M:Model}
theorem thn{α:Type}{t:Sem α}{Q Q' : α->Shared->Prop}{s:Shared}(h:wpAny M A t Q E s)(hQ:∀ a s,Q a s->Q' a s):wpAny M A t Q' E s:=wpAny_mono h hQ λ_ _ x=>x
section
def tVar(i:Nat):TE:=λσ H Q=>∃ v,σ[i]?=some (some v)/\Q v H
def tC(v:V):TE:=λ_ H Q=>Q v H
variable{x:Str}{pos:Pos}
theorem Jml{i:Nat}(hN:X.N[i]?=some x)(hv:Vis X.env.scope x)(hd:autoParam ((x == ("__debug__" : Str))=false) Au)(hcd:autoParam ((x == ("__classdict__" : Str))=false) Au):PE X (.Name x pos) (tVar i):=by
 intro b s σ H Q I h;let(v,e,h):=h;let(m,d,f):=I.loc;let(u,r,l):=f i x v hN e hv;have a:EP X b σ Q u s:=⟨v,H,I,r,h⟩;rcases l with⟨hk,hm⟩ | ⟨hk,c,hc,hcell⟩
 .show wpAny_Name (wpAny_loadName_local I.ok.kind hk d hm a) hd
 .rcases hk with hk | hk
  .show wpAny_Name (wpAny_loadName_cell I.ok.kind hk hc hcell a) hd
  .show wpAny_Name (wpAny_loadName_free I.ok.kind hk hc hcell a hcd) hd
theorem Jad{i j pos}:PE X (.Constant (.int i) j pos) (tC (.int i)):=λ_ _ _ H _ I h=>wpAny_Constant_int ⟨.int i,H,I.tok _,⟨_,rfl⟩,h⟩
theorem pe_bl{b j pos}:PE X (.Constant (.bool b) j pos) (tC (.bl b)):=λ_ _ _ H _ I h=>Constant_bool ⟨.bl b,H,I,rfl,h⟩
theorem Jcp{j pos}:PE X (.Constant .none j pos) (tC .non):=λ_ _ _ H _ I h=>Constant_none ⟨.non,H,I,rfl,h⟩
theorem Jc1{x j pos}:PE X (.Constant (.str x) j pos) (tC (.str x)):=λ_ _ _ H _ I h=>Calls.Constant_str ⟨.str x,H,I.tok _,⟨_,rfl⟩,h⟩
def Gl(X:Cx)(x:Str):Prop:=X.env.kindOf x=some .globalImplicit
variable{pins:List (Addr × Obj)}{σ:St}{u:Value}{Q:Value->Shared->Prop}
theorem Jel{s:Shared}(I:Inv X pins σ H s)(hg:Gl X x)(hm:X.mg x=some u)(h:Q u s)
  (hd:autoParam ((x == ("__debug__" : Str))=false) Au):wpAny (model X.prog X.w) X.A (eval (.Name x pos) X.env) Q E s :=
 Calls.Name_function_global I.ok.kind hg (Calls.loadGlobal_global (by rw[I.ok.glob];show I.mod.glob.keeps I.bk) hm h) hd
theorem Jfa{s:Shared}(I:Inv X pins σ H s)(hg:Gl X x)(hm:X.mg x=none)(hv:bootBuiltins x=some u)(h:Q u s)
  (hn:autoParam (x≠"__name__") Au) (hd:autoParam ((x == ("__debug__" : Str))=false) Au):wpAny (model X.prog X.w) X.A (eval (.Name x pos) X.env) Q E s:=by
 let(c,b,a):=I.mod.blt;show Calls.Name_function_global I.ok.kind hg (Calls.loadGlobal_builtin (by rw[I.ok.glob];show I.mod.glob.keeps I.bk) hm (by rw[I.ok.blt];show b.keeps I.bk) ((a x hn).trans hv) h) hd
variable{v:V}
theorem Jcv(hg:Gl X x)(hm:X.mg x=some u)(r:RelV v u)(hd:autoParam ((x == ("__debug__" : Str))=false) Au):PE X (.Name x pos) (tC v) :=
 λ_ _ _ H _ I h=>Jel I hg hm ⟨v,H,I,r,h⟩ hd
theorem JdE(hg:Gl X x)(hm:X.mg x=none)(hv:bootBuiltins x=some u)(r:RelV v u)(hn:autoParam (x≠"__name__") Au)(hd:autoParam ((x == ("__debug__" : Str))=false) Au):PE X (.Name x pos) (tC v) :=
 λ_ _ _ H _ I h=>Jfa I hg hm hv ⟨v,H,I,r,h⟩ hn hd
variable{a b:Expr}{ta tb:TE}
def PC(X:Cx)(op:CmpOp)(a b:Expr)(t:TE):Prop :=
 ∀(pins:List (Addr × Obj))(s:Shared)(σ : St)(H:Hp)(Q:VK),Inv X pins σ H s->t σ H Q ->
  wpAny (model X.prog X.w) X.A (eval a X.env) (λv s₁=>wpAny (model X.prog X.w) X.A (eval b X.env) (λu s₂=>wpAny (model X.prog X.w) X.A (compareOp op v u) (EP X pins σ Q) X.xe s₂) X.xe s₁) X.xe s
def tB(t:TE):TT:=λσ H Q=>t σ H λx H1=>∃ c,x=.bl c/\Q c H1
variable{op:CmpOp}
theorem Jmk{t:TE}(h:PC X op a b t)(h1:autoParam (behindInMarks op b=false) Au):PE X (.Compare a [op] [b] pos) t:=λc s σ H Q I d=>wpAny_Compare1 (h c s σ H Q I d) h1
theorem JeI{t:TE}(h:PC X op a b t)(h1:autoParam (behindInMarks op b=false) Au):PT X (.Compare a [op] [b] pos) (tB t):=by
 intro e s σ H Q I g;show wpAny_isTrue_Compare1 (thn (h e s σ H _ I g) λv n h1=>thn h1 λu l k=>thn k λc m ζ=>?_) h1;let(x,f,I1,j,i):=ζ;let(d,rfl,q):=i;cases j;show wpAny_truthy_bool ⟨f,I1,q⟩
theorem Ja1{t:TE}(h:PE X e t)(he:autoParam (∀ whole,isTrue e X.env whole=(do let v <- whole;standAt e.pos;holding [v] (truthy v))) Au):PT X e (tB t):=by
 intro a s σ H Q I b;show isTrue_plain (thn (h a s σ H _ I b) λv i ζ=>?_) (he _);let(x,f,I1,g,c):=ζ;let(d,rfl,q):=c;cases g;show wpAny_truthy_bool ⟨f,I1,q⟩
variable{tA tB':TT}{rest:List Expr}
def tAnd(t u:TT):TT:=λσ H Q=>t σ H λc H1=>if c=true then u σ H1 Q else Q false H1
def tOr(t u:TT):TT:=λσ H Q=>t σ H λc H1=>if c=true then Q true H1 else u σ H1 Q
def tNot(t:TT):TT:=λσ H Q=>t σ H λc H1=>Q (!c) H1
theorem JdF(ha:PT X a tA):PW X (.BoolOp .And [a] pos) tA:=by
 intro d b s σ H Q I h;show isTrue_and (thn (ha b s σ H Q I h) λc f e=>?_);cases c with
 | true=>show isTrue_and_nil e
 | false=>show e
theorem JcJ(ha:PT X a tA):PW X (.BoolOp .Or [a] pos) tA:=by
 intro d b s σ H Q I h;show isTrue_or (thn (ha b s σ H Q I h) λc f e=>?_);cases c with
 | false=>show isTrue_or_nil e
 | true=>show e
theorem Jfe(ha:PT X a tA)(hb:PW X (.BoolOp .And (b::rest) pos) tB'):PW X (.BoolOp .And (a::b::rest) pos) (tAnd tA tB'):=by
 intro g d s σ H Q I h;show isTrue_and (thn (ha d s σ H _ I h) λc i ζ=>?_);let(f,I1,e):=ζ;cases c with
 | true=>show hb g d i σ f Q I1 e
 | false=>show(f,I1,e)
theorem pw_or(ha:PT X a tA)(hb:PW X (.BoolOp .Or (b::rest) pos) tB'):PW X (.BoolOp .Or (a::b::rest) pos) (tOr tA tB'):=by
 intro g d s σ H Q I h;show isTrue_or (thn (ha d s σ H _ I h) λc i ζ=>?_);let(f,I1,e):=ζ;cases c with
 | true=>show(f,I1,e)
 | false=>show hb g d i σ f Q I1 e
theorem JbB(ha:PT X a tA):PT X (.UnaryOp .Not a pos) (tNot tA):=by
 intro b s σ H Q I h;show isTrue_not (ha b s σ H (λc d=>Q (!c) d) I h)
def tAndV(ta tb:TE):TE:=λσ H Q=>ta σ H λx H1=>∃ c,x=.bl c/\if c=true then tb σ H1 Q else Q (.bl false) H1
def tOrV(ta tb:TE):TE:=λσ H Q=>ta σ H λx H1=>∃ c,x=.bl c/\if c=true then Q (.bl true) H1 else tb σ H1 Q
def tNotV(ta:TE):TE:=λσ H Q=>ta σ H λx H1=>∃ c,x=.bl c/\Q (.bl (!c)) H1
theorem JdT{op}{t:TE}(h:PE X a t):PE X (.BoolOp op [a] pos) t:=λb s σ H Q I c=>BoolOp_one (h b s σ H Q I c)
theorem JcL(ha:PE X a ta)(hb:PE X (.BoolOp .And (b::rest) pos) tb):PE X (.BoolOp .And (a::b::rest) pos) (tAndV ta tb):=by
 intro d s σ H Q I h;show BoolOp_and (thn (ha d s σ H _ I h) λv g ζ=>?_);let(x,f,I1,i,e):=ζ;let(c,rfl,e):=e;cases i;show wpAny_truthy_bool ?_;cases c with
 | true=>show hb d g σ f Q I1 e
 | false=>show(.bl false,f,I1,rfl,e)
theorem pe_or(ha:PE X a ta)(hb:PE X (.BoolOp .Or (b::rest) pos) tb):PE X (.BoolOp .Or (a::b::rest) pos) (tOrV ta tb):=by
 intro d s σ H Q I h;show BoolOp_or (thn (ha d s σ H _ I h) λv g ζ=>?_);let(x,f,I1,i,e):=ζ;let(c,rfl,e):=e;cases i;show wpAny_truthy_bool ?_;cases c with
 | false=>show hb d g σ f Q I1 e
 | true=>show(.bl true,f,I1,rfl,e)
theorem JhA(ha:PE X a ta):PE X (.UnaryOp .Not a pos) (tNotV ta):=by
 intro b s σ H Q I h;show UnaryOp_ (thn (ha b s σ H _ I h) λv g ζ=>?_);let(x,e,I1,f,d):=ζ;let(c,rfl,d):=d;cases f;show not_of (wpAny_truthy_bool ⟨.bl (!c),e,I1,rfl,d⟩)
def tIf(t:TT)(ta tb:TE):TE:=λσ H Q=>t σ H λc H1=>if c=true then ta σ H1 Q else tb σ H1 Q
variable{c:Expr}
theorem JfF(hc:PT X c tA)(ha:PE X a ta)(hb:PE X b tb):PE X (.IfExp c a b pos) (tIf tA ta tb):=by
 intro e s σ H Q I h;show wpAny_IfExp (thn (hc e s σ H _ I h) λd i ζ=>?_);let(g,I1,f):=ζ;cases d with
 | true=>show ha e i σ g Q I1 f
 | false=>show hb e i σ g Q I1 f
end
def SqL(K:W.Frag)(H:Hp)(a:Addr)(xs:List V):Prop :=
 Rd H a (.lst xs) \/
  ∃(o:Obj)(its:Array Value)(n:Nat),K.lookup a=some o/\o.cls=.type "list"/\o.dict=none/\o.data=.seq its n/\its.size<=sizeLine/\Vals xs its.toList
def SqT(K:W.Frag)(H:Hp)(a:Addr)(xs:List V):Prop :=
 Rd H a (.tup xs) \/
  ∃(o:Obj)(its:Array Value)(n:Nat),K.lookup a=some o/\o.cls=.type "tuple"/\o.data=.seq its n/\its.size<=sizeLine/\Vals xs its.toList
def absV:Value->Option V
 | .none=>some .non
 | .bool b=>some (.bl b)
 | .int i _=>some (.int i)
 | .str x _=>some (.str x)
 | .bytes b _=>some (.byt b)
 | .float b _=>some (.flt b)
 | .ref a=>some (.ref a)
 | .type n=>some (.ty n)
 | _=>none
variable{x:V}{u:Value}
theorem RelV.abs(r:RelV x u):absV u=some x:=by
 cases x with
 | non=>cases r;rfl
 | bl _=>cases r;rfl
 | int _=>let(t,rfl):=r;rfl
 | str _=>let(t,rfl):=r;rfl
 | byt _=>let(t,rfl):=r;rfl
 | flt _=>let(t,rfl):=r;rfl
 | ref _=>cases r;rfl
 | ty _=>cases r;rfl
theorem RelV.inj{y:V}(r:RelV x u)(q:RelV y u):x=y:=Option.some.inj (r.abs.symm.trans q.abs)
theorem Vals.inj(h:Vals xs us)(k:Vals ys us):xs=ys:=by
 induction h generalizing ys with
 | nil=>cases k;rfl
 | cons r _ ih=>
  cases k with
  | cons q s=>rw[r.inj q,ih s]
section
variable{pins:List (Addr × Obj)}{σ:St}{s:Shared}
theorem SqL.of{K:W.Frag}(h:H a=some (.lst xs)):SqL K H a xs:=.inl (.inl h)
theorem SqT.of{K:W.Frag}(h:H a=some (.tup xs)):SqT K H a xs:=.inl (.inl h)
theorem Inv.list(I:Inv X pins σ H s)(h:SqL X.K H a xs):∃ its:List Value,Vals xs its/\PlainL s.heap a its.toArray/\xs.length<=sizeLine:=by
 rcases h with h | ⟨o,its,n,hk,hc,hd,hs,hz,r⟩
 .let(z,its,n,r,e):=h.ok I.hok;show(its,r,⟨_,n,e,rfl,rfl,rfl⟩,z)
 .show(its.toList,r,⟨o,n,I.kIn a o hk,hc,hd,by simpa using hs⟩,?_);have e:=r.length;simp only[Array.length_toList]at e;ac_nf
theorem Inv.tuple(I:Inv X pins σ H s)(h:SqT X.K H a xs):∃ its:List Value,Vals xs its/\IsTup s.heap a its.toArray/\xs.length<=sizeLine:=by
 rcases h with h | ⟨o,its,n,hk,hc,hs,hz,r⟩
 .let(z,its,r,p):=h.ok I.hok;show(its,r,p,z)
 .show(its.toList,r,⟨o,I.kIn a o hk,hc,n,by simpa using hs⟩,?_);have e:=r.length;simp only[Array.length_toList]at e;ac_nf
theorem Inv.list_inj(I:Inv X pins σ H s)(h:SqL X.K H a xs)(h':SqL X.K H a ys):xs=ys:=by
 let(c,r,(o,n,e,_,_,d),_):=I.list h;let(b,i,(j,k,f,_,_,g),_):=I.list h';rw[e]at f;cases f;rw[d]at g;injection g with d1 _
 have : c=b:=by simpa using congrArg Array.toList d1
 subst this;show r.inj i
theorem Inv.tuple_inj(I:Inv X pins σ H s)(h:SqT X.K H a xs)(h':SqT X.K H a ys):xs=ys:=by
 let(c,r,(o,e,_,n,d),_):=I.tuple h;let(b,i,(j,f,_,k,g),_):=I.tuple h';rw[e]at f;cases f;rw[d]at g;injection g with d1 _
 have : c=b:=by simpa using congrArg Array.toList d1
 subst this;show r.inj i
end
abbrev Cx.wish(X:Cx)(E:Value->Shared->Prop):Cx:={ X with xe:=E }
abbrev Cx.nox(X:Cx):Cx:=X.wish λ_ _=>False
theorem Cx.Ok.wish(ok:X.Ok)(E:Value->Shared->Prop):(X.wish E).Ok :=
 ⟨ok.mod,ok.kind,ok.glob,ok.blt,ok.above,ok.inj,ok.has,ok.cab,ok.hd,ok.frames,ok.stk,ok.exf,ok.bs,ok.bsz,ok.noex,ok.exfs,ok.funs,ok.frf⟩
theorem Cx.Ok.unwish(ok:(X.wish E).Ok):X.Ok :=
 ⟨ok.mod,ok.kind,ok.glob,ok.blt,ok.above,ok.inj,ok.has,ok.cab,ok.hd,ok.frames,ok.stk,ok.exf,ok.bs,ok.bsz,ok.noex,ok.exfs,ok.funs,ok.frf⟩
section
variable{pins:List (Addr × Obj)}{σ:St}{s:Shared}
theorem Inv.wish(I:Inv X pins σ H s)(E:Value->Shared->Prop):Inv (X.wish E) pins σ H s:=⟨I.ok.wish E,I.os,I.bare,I.base,I.loc,I.cell,I.free,I.freeC,I.pin,I.hok,I.len⟩
theorem Inv.unwish(I:Inv (X.wish E) pins σ H s):Inv X pins σ H s:=⟨I.ok.unwish,I.os,I.bare,I.base,I.loc,I.cell,I.free,I.freeC,I.pin,I.hok,I.len⟩
variable{s':Shared}
theorem SP.unwish{D:Ends}{f:Flow}(h:SP (X.wish E) pins D f s'):SP X pins D f s':=by
 cases f with
 | next=>let(σ',a,I,q):=h;show(σ',a,I.unwish,q)
 | brk=>let(σ',a,I,q):=h;show(σ',a,I.unwish,q)
 | cont=>let(σ',a,I,q):=h;show(σ',a,I.unwish,q)
 | ret u=>let(v,σ',a,I,r,q):=h;show(v,σ',a,I.unwish,r,q)
theorem PSs.nox{st:List Stmt}{t:TS}(h:PSs X.nox st t):PSs X st t:=λa s σ H D I b=>
 wpAny_mono (h a s σ H D (I.wish _) b) (λ_ _ q=>q.unwish) λ_ _ z=>False.elim z
end
section
variable{st:Stmt}{u:TS}{te:TE}{pos:Pos}{rest:List Stmt}{t:TS}
def tNext:TS:=λD σ H=>D.nx σ H
def tSeq(t u:TS):TS:=λD σ H=>t { D with nx:=u D } σ H
theorem Jat:PSs X [] tNext:=λ_ _ σ H _ I h=>wpAny_execs_nil ⟨σ,H,I,h⟩
theorem Jab(h1:PS X st t)(h2:PSs X rest u):PSs X (st::rest) (tSeq t u):=by
 intro a s σ H D I h;show wpAny_execs_cons (thn (h1 a s σ H { D with nx:=u D } I h) λf c q=>?_);cases f with
 | next=>
  let(σ',b,I',q):=q;show h2 a c σ' b D I' q
 | ret v=>show q
 | brk=>show q
 | cont=>show q
theorem Jag(h1:PS X st t):PSs X [st] t:=by
 intro a s σ H D I h;show wpAny_execs_cons (thn (h1 a s σ H D I h) λf b q=>?_);cases f with
 | next=>show wpAny_execs_nil q
 | ret v=>show q
 | brk=>show q
 | cont=>show q
variable{pins:List (Addr × Obj)}{σ:St}
theorem Inv.quiet{s:Shared}(I:Inv X pins σ H s):interactive X.env=false:=by simp[interactive,I.ok.kind]
def tDrop(te:TE):TS:=λD σ H=>te σ H λ_ H1=>D.nx σ H1
theorem Ja6(he:PE X e te)(hs:autoParam (swapsWith e none pos.line X.env=pure false) Au):PS X (.Expr e pos) (tDrop te):=by
 intro a s σ H D I h;show wpAny_Expr_any (thn (he a s σ H _ I h) λv d ζ=>by let(x,c,I1,f,b):=ζ;show(σ,c,I1,b)) I.quiet hs
def tRet(te:TE):TS:=λD σ H=>te σ H D.rt
theorem Jaq(he:PE X e te):PS X (.Return (some e) pos) (tRet te):=by
 intro a s σ H D I h;show wpAny_Return_some (thn (he a s σ H _ I h) λv f ζ=>by let(x,c,I1,d,b):=ζ;show(x,σ,c,I1,d,b))
def tIfS(c:TT)(t u:TS):TS:=λD σ H=>c σ H λb H1=>if b=true then t D σ H1 else u D σ H1
variable{c:Expr}{tc:TT}
theorem ps_if{a b:List Stmt}(hc:PT X c tc)(ha:PSs X a t)(hb:PSs X b u):PS X (.If c a b pos) (tIfS tc t u):=by
 intro e s σ H D I h;show wpAny_If (thn (hc e s σ H _ I h) λd i ζ=>?_);let(g,I1,f):=ζ;cases d with
 | true=>show ha e i σ g D I1 f
 | false=>show hb e i σ g D I1 f
end
abbrev TG:=V->St->Hp->(St->Hp->Prop)->Prop
abbrev TGs:=List V->St->Hp->(St->Hp->Prop)->Prop
def PG(X:Cx)(target:Expr)(t:TG):Prop :=
 ∀(pins:List (Addr × Obj))(s:Shared)(σ : St)(H:Hp)(v:V)(u:Value)(Q:St->Hp->Prop),Inv X pins σ H s->RelV v u->t v σ H Q ->
  wpAny (model X.prog X.w) X.A (assign target X.env u) (λ_ s'=>∃ σ' H',Inv X pins σ' H' s'/\Q σ' H') X.xe s
def PGs(X:Cx)(ts:List Expr)(t:TGs):Prop :=
 ∀(pins:List (Addr × Obj))(s:Shared)(σ : St)(H:Hp)(vs:List V)(us:List Value)(Q:St->Hp->Prop),Inv X pins σ H s->Vals vs us->t vs σ H Q ->
  wpAny (model X.prog X.w) X.A (assignInOrder ((assignEach ts X.env).map (·.2)) us) (λ_ s'=>∃ σ' H',Inv X pins σ' H' s'/\Q σ' H') X.xe s
variable{pos:Pos}
def gName(i:Nat):TG:=λv σ H Q=>Q (σ.set i (some v)) H
variable{x:Str}
theorem Jap(i:Nat)(hN:X.N.Nodup)(hi:autoParam (X.N[i]?=some x) Au)(hx:autoParam (Loc X.env.scope x) Au)(hf:autoParam (X.fn x=true\/X.env.scope.names.lookup x=some .local) Au):PG X (.Name x pos) (gName i):=by
 intro a s σ H v u Q I r h;show wpAny_assign_Name (Jd9 I hN hi hx r (λb I'=>⟨_,H,I',h⟩) hf)
def gNil:TGs:=λvs σ H Q=>vs=[]/\Q σ H
def gCons(t:TG)(u:TGs):TGs:=λvs σ H Q=>∃ v r,vs=v::r/\t v σ H λσ' H'=>u r σ' H' Q
theorem JcN:PGs X [] gNil:=by
 intro a s σ H c b Q I r h;let(e,h):=h;subst e;cases r;show assignInOrder_nil ⟨σ,H,I,h⟩
variable{es:List Expr}
theorem JaX{t:TG}{u:TGs}(h1:PG X e t)(h2:PGs X es u)
  (hs:autoParam ((assignEach (e::es) X.env).map (·.2)=assign e X.env::(assignEach es X.env).map (·.2)) Au):PGs X (e::es) (gCons t u):=by
 intro a s σ H j i Q I r h;let(v,g,b,h):=h;subst b;cases r with
 | cons r rr=>
  rw[hs];show assignInOrder_cons (thn (h1 a s σ H _ _ _ I r h) λ_ f ζ=>?_);let(σ1,d,I1,c):=ζ;show h2 a f σ1 d _ _ Q I1 rr c
def gTup(K:W.Frag)(n:Nat)(t:TGs):TG:=λv σ H Q=>∃ a xs,v=.ref a/\SqT K H a xs/\xs.length=n/\t xs σ H Q
theorem Jgq{k:Nat}{t:TGs}{n:Nat}(hc:X.calm=true)(h:PGs X es t)
  (hn:autoParam ((assignEach es X.env).length=n) Au) (hst:autoParam ((assignEach es X.env).findIdx? (·.1)=none) Au):PG X (.Tuple es k pos) (gTup X.K n t):=by
 intro c s σ H v u Q I r d;let(a,p,l,g,j,d):=d;subst l;cases r;let(w,f,m,x):=I.tuple g;show assign_Tuple_tuple (I.ok.hd hc) m (by simp[hn, <- j,f.length]) hst λi q=>?_;have I1:Inv X c σ H { s with heap:=i }:=I.kept (t':=s.toks) λb o e=>q b o (Nat.ne_of_lt (Heap.lt_size e)) e;show h c _ σ H p _ Q I1 (by simpa using f) d
def tAsg(te:TE)(g:TG):TS:=λD σ H=>te σ H λx H1=>g x σ H1 D.nx
variable{tg:Expr}{te:TE}
theorem Jky{g:TG}(he:PE X e te)(hg:PG X tg g)(hs:autoParam (swapsWithSole [tg] e pos.line X.env=pure false) Au)(hw:autoParam (swappedStores [tg] e X.env=pure none) Au)
  (h1:autoParam ((assignEach [tg] X.env).map (·.2)=[assign tg X.env]) Au):PS X (.Assign [tg] e pos) (tAsg te g):=by
 intro a s σ H D I h;show wpAny_Assign_stores (thn (he a s σ H _ I h) λv f ζ=>?_) hs hw;let(x,c,I1,d,b):=ζ;rw[h1];show thn (hg a f σ c x v _ I1 d b) λ_ i q=>q
variable{pos':Pos}
theorem Jaj(i:Nat)(hN:X.N.Nodup)(he:PE X e te)(hi:autoParam (X.N[i]?=some x) Au)(hx:autoParam (Loc X.env.scope x) Au)(hs:autoParam (swapsWith e (some (.Name x pos')) pos.line X.env=pure false) Au)(hf:autoParam (X.fn x=true\/X.env.scope.names.lookup x=some .local) Au) :
  PS X (.Assign [.Name x pos'] e pos) (tAsg te (gName i)):=by
 intro a s σ H D I h;show wpAny_Assign_Name (thn (he a s σ H _ I h) λv g ζ=>?_) hs;let(y,c,I1,d,b):=ζ;show Jd9 I1 hN hi hx d (λf I2=>⟨_,c,I2,b⟩) hf
def tPar(i j:Nat)(ta:TA):TS:=λD σ H=>ta σ H λvs H1=>∃ v w,vs=[v,w]/\D.nx ((σ.set i (some v)).set j (some w)) H1
variable{a:Expr}{ta:TA}
theorem Jmo{i j:Nat}{y:Str}{b:Expr}{px py pt:Pos}{kt k2 pt2}(hc:X.calm=true)(hN:X.N.Nodup)(hi:X.N[i]?=some x)(hj:X.N[j]?=some y)(hij:i≠j)
  (hx:X.env.scope.names.lookup x=some .local) (hy:X.env.scope.names.lookup y=some .local) (ha:PA X [a,b] ta)
  (hw:swappedStores [.Tuple [.Name x px, .Name y py] kt pt] (.Tuple [a,b] k2 pt2) X.env=pure (some [x,y]))
  (hs:autoParam (swapsWithSole [.Tuple [.Name x px, .Name y py] kt pt] (.Tuple [a,b] k2 pt2) pos.line X.env=pure false) Au) :
  PS X (.Assign [.Tuple [.Name x px, .Name y py] kt pt] (.Tuple [a,b] k2 pt2) pos) (tPar i j ta):=by
 intro c s σ H D I h;rw[exec_Assign_arm];show wpAny_bind (wpAny_standAt ?_);rw[hs];show wpAny_bind (wpAny_pure ?_);rw[if_neg ⋯];show wpAny_bind (Tuple_ (thn (ha _ c s σ H _ I h) λr f ζ=>?_));let(C,n,I1,z,m):=ζ;let(v,w,u,m):=m;subst u;obtain⟨d,g,rfl,t,k⟩:∃ d g,r=[d,g]/\RelV v d/\RelV w g:=by
  cases z with
  | cons p q=>
   cases q with
   | cons p' q'=>
    cases q';show(_,_,rfl,p,p')
 show wpAny_newObj_type ?_ (by show 2<=sizeLine;decide);have I2:Inv X c σ n { f with heap:=f.heap.push { cls:=.type "tuple",data:=.seq [d,g].toArray } }:=I1.kept (t':=f.toks) λb o e=>Heap.get?_push_of_some _ e;rw[hw];show wpAny_bind (wpAny_pure ?_);show wpAny (model X.prog X.w) X.A (do rule "assign.swapped-stores";let items <- unpackItems (.ref f.heap.objs.size) 2 none;assignInOrder [λv=>bindName X.env y v,λv=>bindName X.env x v] items.reverse;pure Flow.next) _ _ _;show wpAny_bind (wpAny_rule (wpAny_bind (unpackItems_tuple (items:=#[d,g]) (I.ok.hd hc) (IsTup.new f.heap _) λh' l=>?_)));have I3:=I2.kept (h':=h') (t':=f.toks) λb o e=>l b o (Nat.ne_of_lt (Heap.lt_size e)) e;show wpAny _ _ (assignInOrder [λv=>bindName X.env y v,λv=>bindName X.env x v] [g,d] >>= λ_=>pure Flow.next) _ _ _;show wpAny_bind (assignInOrder_cons (wpAny_bindName (Jd9 I3 hN hj (.inl hy) k (λB I4=>?_) (.inr hy))));show assignInOrder_cons (wpAny_bindName (Jd9 I4 hN hi (.inl hx) t (λE I5=>assignInOrder_nil (wpAny_pure ?_)) (.inr hx)));rw[List.set_comm _ _ (Ne.symm hij)]at I5;show(_,n,I5,m)
def Jmy(c:TT)(tb:TS):TS:=λD σ H=>∃ W:Nat->St->Hp->Prop,(∃ m,W m σ H)/\∀ m σ H,W m σ H ->
 c σ H λb H1=>if b=true then∃ N:St->Hp->Prop,(∀ σ' H',N σ' H'->∃ m',m'<m/\W m' σ' H')/\tb { D with nx:=N,ct:=N,bk:=D.nx } σ H1 else D.nx σ H1
variable{c:Expr}{body:List Stmt}{tb:TS}
theorem Jdm{tc:TT}(hp:PassesOwn (model X.prog X.w) X.A X.env X.xe)(hc:PT X c tc)(hb:PSs X body tb):PS X (.While c body [] pos) (Jmy tc tb):=by
 intro a s σ H D I h;let(W,(u,t),e):=h;show wpAny_While (codeAny_whileLoop (λn z=>∃ σ' H',Inv X a σ' H' z/\W n σ' H') ?_ u ⟨σ,H,I,t⟩);rintro n y ⟨σ1,p,I1,x⟩;show wpAny_passesOwn hp (thn (hc a y σ1 p _ I1 (e n σ1 p x)) λb r ζ=>?_);let(q,I2,i):=ζ;cases b with
 | true=>
  let(N,o,i):=i;rw[if_pos rfl];show wpAny_passesOwn hp (thn (hb a r σ1 q _ I2 i) λf B g=>?_);cases f with
  | next=>
   let(σ3,d,I3,j):=g;let(l,k,m):=o σ3 d j;show(l,k,σ3,d,I3,m)
  | cont=>
   let(σ3,d,I3,j):=g;let(l,k,m):=o σ3 d j;show(l,k,σ3,d,I3,m)
  | brk=>show g
  | ret v=>show g
 | false=>
  rw[if_neg Bool.false_ne_true];show wpAny_execs_nil ⟨σ1,q,I2,i⟩
structure It where
 go:Nat->Hp->Prop
 yld:Nat->Hp->V->Hp->Prop
 stop:Nat->Hp->Prop
def FpOk(X:Cx)(pins:List (Addr × Obj))(H:Hp)(b:Addr):Prop :=
 H b=none/\b≠X.env.locals/\b∉X.fs/\(b∈X.ex\/X.s₀.heap.objs.size<=b)/\(∀ x c,X.env.cells.lookup x=some c->c≠b)/\∀ p∈X.pn++pins,p.1≠b
variable{pins:List (Addr × Obj)}{σ:St}{H':Hp}
theorem Inv.fpOk{s:Shared}(I:Inv X pins σ H s)(hb:s.heap.objs.size<=b)(hn:H' b=none):FpOk X pins H' b:=by
 show(hn,Nat.ne_of_gt (Nat.lt_of_lt_of_le I.lt hb),I.nofs hb, .inr (Nat.le_trans I.sz hb),λx c e z=>?_,λp a z=>?_)
 .let(v,q):=I.cell x c e;show absurd (Nat.lt_of_lt_of_le q.lt (by rw[z];show hb)) (Nat.lt_irrefl _)
 .show absurd (Nat.lt_of_lt_of_le (Heap.lt_size (I.pin p a).1) (by rw[z];show hb)) (Nat.lt_irrefl _)
structure Turn(P:Program)(w:World)(K:W.Frag)(tg:Expr)(J:It)(fp:List Addr)(it:Addr)(tn:Nat->Heap->Prop):Prop where
 mem:it∈fp
 obj:∀ i h,tn i h->∀ b∈fp, ∃ o,h.get? b=some o/\∀ v,o.data≠.cell v
 keep:∀ i h h',tn i h->(∀ b∈fp, ∀ o,h.get? b=some o->h'.get? b=some o)->tn i h'
 item:∀(X:Cx),X.prog=P->X.w=w->X.K=K->X.calm=true->∀(i:Nat)(pins:List (Addr × Obj))(s:Shared)(σ : St)(H:Hp)(E:Value->Shared->Prop),Inv X pins σ H s->(∀ b∈fp,FpOk X pins H b)->tn i s.heap->J.go i H ->
  wpAny (model P w) X.A (pyNext (.ref it)) (λr s1=>∃ u,r=some u /\
   wpAny (model P w) X.A (letOwnedTupleGo tg (.ref it) u) (λ_ s2=>∃ x H',Inv X pins σ H' s2/\RelV x u/\J.yld i H x H'/\tn (i+1) s2.heap/\∀ b∈fp,H' b=none) E s1) E s
 done:∀(X:Cx),X.prog=P->X.w=w->X.K=K->X.calm=true->∀(i:Nat)(pins:List (Addr × Obj))(s:Shared)(σ : St)(H:Hp)(E:Value->Shared->Prop),Inv X pins σ H s->(∀ b∈fp,FpOk X pins H b)->tn i s.heap->J.stop i H ->
  wpAny (model P w) X.A (pyNext (.ref it)) (λr s1=>r=none/\Inv X pins σ H s1) E s
 self:∀(A:Around)(i:Nat)(s:Shared)(Q:Value->Shared->Prop)(E:Value->Shared->Prop),tn i s.heap->Q (.ref it) s->wpAny (model P w) A (pyIter (.ref it)) Q E s
abbrev TI:=St->Hp->(It->Hp->Prop)->Prop
def PIE(X:Cx)(pins:List (Addr × Obj))(σ : St)(tg:Expr)(R:It->Hp->Prop)(itv:Value)(s2:Shared):Prop :=
 ∃(it:Addr)(fp:List Addr)(tn:Nat->Heap->Prop)(J:It)(H':Hp),itv=.ref it/\Inv X pins σ H' s2/\Turn X.prog X.w X.K tg J fp it tn/\tn 0 s2.heap/\(∀ b∈fp,FpOk X pins H' b)/\R J H'
def PI(X:Cx)(tg iter:Expr)(wi:TI):Prop :=
 ∀(pins:List (Addr × Obj))(s:Shared)(σ : St)(H:Hp)(R:It->Hp->Prop),Inv X pins σ H s->wi σ H R ->
  wpAny (model X.prog X.w) X.A (eval iter X.env) (λv s1=>wpAny (model X.prog X.w) X.A (pyIter v) (PIE X pins σ tg R) X.xe s1) X.xe s
theorem go_of{s:Shared}{it:Addr}{n:String}{vs:Array Value}{Q:Unit->Shared->Prop}(ho:s.heap.get? it=some o)(hc:o.cls=.type n)(hd:o.data=.fields vs)
    (hn:["enumerate","zip","dict_itemiterator","dict_reverseitemiterator","odict_iterator","itertools.zip_longest","itertools.pairwise"].contains n=false) (hQ:Q () s):wpAny M A (letOwnedTupleGo tg (.ref it) u) Q E s:=by
  unfold letOwnedTupleGo;cases tg <;> first
    | show wpAny_pure hQ
    | (cases u <;> first
        | show wpAny_pure hQ
        | (show wpAny_bind (wpAny_load ho ?_)
           rw[hc,hd];show wpAny M A (if(["enumerate","zip","dict_itemiterator","dict_reverseitemiterator","odict_iterator","itertools.zip_longest","itertools.pairwise"].contains n&&vs[0]? == some (rawInt _))=true then _ else _) Q E s;rw[if_neg (by intro h;rw[hn,Bool.false_and]at h;cases h)];show wpAny_pure hQ))
def Itl(K:W.Frag)(a:Addr):It :=
 ⟨λi H=>∃ xs x,SqL K H a xs/\xs[i]?=some x,λi H x H'=>H'=H/\∀ xs,SqL K H a xs->xs[i]?=some x,λi H=>∃ xs,SqL K H a xs/\xs.length<=i⟩
def Itt(K:W.Frag)(a:Addr):It :=
 ⟨λi H=>∃ xs x,SqT K H a xs/\xs[i]?=some x,λi H x H'=>H'=H/\∀ xs,SqT K H a xs->xs[i]?=some x,λi H=>∃ xs,SqT K H a xs/\xs.length<=i⟩
def Itr(lo:Int)(n:Nat):It:=⟨λi _=>i<n,λi H x H'=>H'=H/\x=.int (lo+i),λi _=>n<=i⟩
theorem Jjs{w:World}{K:W.Frag}(a it:Addr):Turn P w K tg (Itl K a) [it] it (λi h=>h.IsListIter it a i) where
 mem:=by simp
 obj:=λi h f b j=>by
  have e:b=it:=by simpa using j
  subst e;let(o,e,c,d):=f;show(o,e,λv z=>by rw[d]at z;cases z)
 keep:=λi h n f k=>f.at λo e=>k it (by simp) o e
 item:=by
  intro X L B M N i g s σ H E I q f t;subst L B M;let(V,x,m,D):=t;let(F,y,p,O):=I.list m;let(u,U,Y):=y.get D;let(G,C,S,r,A,J):=q it (by simp);show wpAny_pyNext_list_item f p.isList (x:=u) (by simpa using U) λn l R=>?_;have I1:Inv X g σ H { s with heap:=n }:=I.turned (t':=s.toks) (λb o j e=>(R.2 b j).trans e) G C r A J;let(o,e,c,d):=id l;show(u,rfl,go_of (s:={ s with heap:=n }) e c d ⋯ ⟨x,H,I1,Y,⟨rfl,λZ T=>by rw[I.list_inj T m];show D⟩,l,λb j=>(q b j).1⟩)
 done:=by
  intro X L B M N i g s σ H E I q f t;subst L B M;let(V,m,D):=t;let(F,y,p,O):=I.list m;let(G,C,S,r,A,J):=q it (by simp);have hl:=y.length;show wpAny_pyNext_list_end (I.ok.hd N) f p.isList (by simp;ac_nf) λn Q=>⟨rfl,I.turned (t':=s.toks) (λb o j e=>Q b o j e) G C r A J⟩
 self:=λ_ _ _ _ _ f h=>wpAny_pyIter_listiter f h
theorem Jib{w:World}{K:W.Frag}(a it:Addr):Turn P w K tg (Itt K a) [it] it (λi h=>h.IsTupleIter it a i) where
 mem:=by simp
 obj:=λi h f b l=>by
  have e:b=it:=by simpa using l
  subst e;let(o,e,c,d):=f;show(o,e,λv z=>by rw[d]at z;cases z)
 keep:=λi h q f k=>f.at λo e=>k it (by simp) o e
 item:=by
  intro X L C M N i g s σ H E I r f y;subst L C M;let(V,x,n,F):=y;let(j,A,p,O):=I.tuple n;let(u,U,Y):=A.get F;let(G,D,S,t,B,J):=r it (by simp);show wpAny_pyNext_tuple_item f (show s.heap.IsTuple a j.toArray from p) (x:=u) (by simpa using U) λq m R=>?_;have I1:Inv X g σ H { s with heap:=q }:=I.turned (t':=s.toks) (λb o l e=>(R.2 b l).trans e) G D t B J;let(o,e,c,d):=id m;show(u,rfl,go_of (s:={ s with heap:=q }) e c d ⋯ ⟨x,H,I1,Y,⟨rfl,λZ T=>by rw[I.tuple_inj T n];show F⟩,m,λb l=>(r b l).1⟩)
 done:=by
  intro X L C M N i g s σ H E I r f y;subst L C M;let(V,n,F):=y;let(j,A,p,O):=I.tuple n;let(G,D,S,t,B,J):=r it (by simp);have hl:=A.length;show wpAny_pyNext_tuple_end (I.ok.hd N) f (show s.heap.IsTuple a j.toArray from p) (by simp;ac_nf) λq Q=>⟨rfl,I.turned (t':=s.toks) (λb o l e=>Q b o l e) G D t B J⟩
 self:=λ_ _ _ _ _ f h=>wpAny_pyIter_tupleiter f h
theorem Jia{w:World}{K:W.Frag}(it:Addr)(lo:Int)(n:Nat):Turn P w K tg (Itr lo n) [it] it (λi h=>IsRangeIter h it (lo+(i:Nat)*1) ((n:Int)-(i:Nat)) 1) where
 mem:=by simp
 obj:=λi h a b d=>by
  have e:b=it:=by simpa using d
  subst e;show(_,a,λv z=>by
   have J:Data.fields _=Data.cell v:=z;cases J)
 keep:=λi h g a k=>k it (by simp) _ a
 item:=by
  intro X A r B l i c s σ H E I j a p;subst A r B;let(x,u,F,m,q,y):=j it (by simp);have W:=Walks.range (prog:=X.prog) (w:=X.w) (I.ok.hd l) it lo 1 n;show W.item i s _ _ p a λv g C L f G=>?_;let(t,rfl):=L;have I1:Inv X c σ H { s with heap:=g,toks:=C }:=I.turned (λb o d e=>G b o (by simpa using d) e) x u m q y;show(_,rfl,go_of (s:={ s with heap:=g,toks:=C }) (n:="range_iterator") f rfl rfl ⋯ ⟨.int (lo+i),H,I1,⟨t,?_⟩,⟨rfl,rfl⟩,f,λb d=>(j b d).1⟩);rw[Int.mul_one]
 done:=by
  intro X A r B l i c s σ H E I j a p;subst A r B;let(x,u,F,m,q,y):=j it (by simp);show wpAny_pyNext_range_end (I.ok.hd l) a (by have : n<=i:=p;ac_nf) λg D=>⟨rfl,I.turned (t':=s.toks) (λb o d e=>D b o d e) x u m q y⟩
 self:=λ_ _ _ _ _ a h=>wpAny_pyIter_rangeiter a h
theorem Jj2{s:Shared}{R:It->Hp->Prop}{lo hi:Int}{t u v:Tok}{tk:Nat}(I:Inv X pins σ H s)(h1 : -(2 ^ 62)<=lo)(h2:lo<2 ^ 62)(h3 : -(2 ^ 62)<=hi)(h4:hi<2 ^ 62)
  (q:R (Itr lo (hi-lo).toNat) H):wpAny (model X.prog X.w) X.A (pyIter (.ref s.heap.objs.size)) (PIE X pins σ tg R) E { s with heap:=s.heap.push { cls:=.type "range",data:=.fields #[.int lo t, .int hi u, .int 1 v] },toks:=tk }:=by
 show wpAny_pyIter_range (IsRange.new ..) (small_one h1 h2 h3 h4) ?_;have I1:Inv X pins σ H { s with heap:=s.heap.push { cls:=.type "range",data:=.fields #[.int lo t, .int hi u, .int 1 v] },toks:=tk }:=I.kept λb o e=>Heap.get?_push_of_some _ e;show((s.heap.push { cls:=.type "range",data:=.fields #[.int lo t, .int hi u, .int 1 v] }).objs.size,[(s.heap.push { cls:=.type "range",data:=.fields #[.int lo t, .int hi u, .int 1 v] }).objs.size],_,_,H,rfl,
  I1.kept (t':=tk) λb o e=>Heap.get?_push_of_some _ e,Jia _ lo (hi-lo).toNat,?_,λb d=>?_,q)
 .have a:lo+((0:Nat):Int)*1=lo:=by simp
  have c:(((hi-lo).toNat:Nat):Int)-((0:Nat):Int)=Builtin.Range.rangeSize lo hi 1:=by rw[rangeSize_one];split <;> ac_nf
  show IsRangeIter _ _ (lo+((0:Nat):Int)*1) ((((hi-lo).toNat:Nat):Int)-((0:Nat):Int)) 1;rw[a,c];show Heap.get?_push_size _ rfl
 .have e:b=(s.heap.push { cls:=.type "range",data:=.fields #[.int lo t, .int hi u, .int 1 v] }).objs.size:=by simpa using d
  subst e;show I1.fpOk (Nat.le_refl _) (I1.hok.fresh (Nat.le_refl _))
def iRng1(ta:TA):TI:=λσ H R=>ta σ H λvs H1=>∃ j:Int,vs=[.int j]/\-(2 ^ 62)<=j/\j<2 ^ 62/\R (Itr 0 j.toNat) H1
def iRng2(ta:TA):TI:=λσ H R=>ta σ H λvs H1=>∃ i j:Int,vs=[.int i, .int j]/\(-(2 ^ 62)<=i/\i<2 ^ 62/\-(2 ^ 62)<=j/\j<2 ^ 62)/\R (Itr i (j-i).toNat) H1
theorem JbP{p:Pos}(hg:Gl X "range")(hm:X.mg "range"=none)(ha:PA X [a] ta)(hs:autoParam (starEach [a] X.env=[(false,eval a X.env)]) Au):PI X tg (.Call (.Name "range" p) [a] [] pos) (iRng1 ta):=by
 intro b s σ H R I h;show Call_ (Jfa I hg hm boot_range (PyProof.Rows.callWith_type1 (thn (ha pos b s σ H _ I h) λg l ζ=>?_) hs rfl));let(k,i,I1,f,c):=ζ;let(j,e,c,d,q):=c;subst e;cases f with
 | cons r rr=>
  cases rr;let(t,rfl):=r;show call_range_1 (Jj2 I1 ∅ ∅ c d (by simpa using q))
def tFor(wi:TI)(g:TG)(tb:TS):TS:=λD σ H=>wi σ H λJ H1=>∃ W:Nat->Nat->St->Hp->Prop,(∃ m,W 0 m σ H1)/\∀ i m σ H,W i m σ H ->
 (J.stop i H/\D.nx σ H)\/(J.go i H/\∃ N:St->Hp->Prop,(∀ σ' H',N σ' H'->∃ m',m'<m/\W (i+1) m' σ' H')/\∀ x H',J.yld i H x H'->g x σ H' λσ2 H2=>tb { D with nx:=N,ct:=N,bk:=D.nx } σ2 H2)
def JhB(fp:List Addr)(h:Heap):List (Addr × Obj):=fp.filterMap λb=>(h.get? b).map λo=>(b,o)
variable{fp:List Addr}
theorem JcZ(hb:b∈fp)(e:h.get? b=some o):(b,o)∈JhB fp h:=List.mem_filterMap.mpr ⟨b,hb,by rw[e];rfl⟩
theorem JiO{p:Addr × Obj}(hp:p∈JhB fp h):p.1∈fp/\h.get? p.1=some p.2:=by
 let(b,c,e):=List.mem_filterMap.mp hp;cases q:h.get? b with
 | none=>rw[q]at e;cases e
 | some o=>
  rw[q]at e;have a:(b,o)=p:=Option.some.inj e;subst a;show(c,q)
theorem Inv.pinned{s:Shared}(I:Inv X pins σ H s)(hf:∀ b∈fp,FpOk X pins H b)(ho:∀ b∈fp, ∃ o,s.heap.get? b=some o/\∀ v,o.data≠.cell v):Inv X (pins++JhB fp s.heap) σ H s :=
 I.pins_of λp g=>(mem_append.mp g).elim (λz=>I.pin p (mem_append_right _ z)) λz=>by
  let(c,e):=JiO z;let(i,h,f,_):=hf p.1 c;let(o,a,d):=ho p.1 c;rw[e]at a;cases a;show(e,i,h,f,d)
theorem Inv.unpinned{pl:List (Addr × Obj)}{s:Shared}(I:Inv X (pins++pl) σ H s):Inv X pins σ H s:=I.pins_of λp a=>I.pin p (mem_append_right _ (List.mem_append_left _ a))
theorem JaN{iter:Expr}{wi:TI}{g:TG}(hp:PassesOwn (model X.prog X.w) X.A X.env X.xe)(hc:X.calm=true)(hi:PI X tg iter wi)(hg:PG X tg g)(hb:PSs X body tb)
  (hs:autoParam (∀ x,foldedSetIterable iter X.env x=pure x) Au):PS X (.For tg iter body [] pos) (tFor wi g tb):=by
 intro a s σ H D I h;show wpAny_For (thn (hi a s σ H _ I h) λv s1 V=>thn V λa0 s2 h2=>?_) hs;let(it,q,O,J,H2,e,I2,T,E,L,W,(m0,w0),y):=h2;subst e;have c:∀{H':Hp},(∀ b∈q,H' b=none)->∀ b∈q,FpOk X a H' b:=λhn b hb=>⟨hn b hb,(L b hb).2⟩;show codeAny_forLoop_any (λn Q=>∃ i σ' H',Inv X a σ' H' Q/\O i Q.heap/\(∀ b∈q,H' b=none)/\W i n σ' H') ?_ m0 ⟨0,σ,H2,I2,E,λb hb=>(L b hb).1,w0⟩;intro n P z_;let(i,σ3,C,I3,B,t,w3):=z_;rcases y i n σ3 C w3 with⟨stop,qn⟩ | ⟨go,N,hN,step⟩
 .show wpAny_passesOwn hp (thn (T.done X rfl rfl rfl hc i a P σ3 C X.xe I3 (c t) B stop) λr s4 ⟨G,I4⟩=>?_);subst G;show wpAny_execs_nil ⟨σ3,C,I4,qn⟩
 .show wpAny_passesOwn hp (thn (T.item X rfl rfl rfl hc i a P σ3 C X.xe I3 (c t) B go) λr s4 ζ=>?_);let(u,G,Z):=ζ;subst G;show wpAny_passesOwn hp (thn Z λ_ R ζ=>?_);let(x,M,I5,r5,y5,p,K):=ζ;have I5':=I5.pinned (c K) (T.obj _ _ p);show wpAny_passesOwn hp (thn (hg _ R σ3 M x u _ I5' r5 (step x M y5)) λ_ s6 ζ=>?_);let(σ6,U,I6,q6):=ζ;show wpAny_passesOwn hp (thn (hb _ s6 σ6 U _ I6 q6) λf F l=>?_);have j:∀{σ7:St}{k:Hp},Inv X (a++JhB q R.heap) σ7 k F->N σ7 k->∃ m,m<n/\∃ i σ' H',Inv X a σ' H' F/\O i F.heap/\(∀ b∈q,H' b=none)/\W i m σ' H':=λ{σ7 k} I7 z=>by
   let(m',hm,w7):=hN σ7 k z;show(m',hm,i+1,σ7,k,I7.unpinned,T.keep _ _ _ p λb hb o e=>(I7.pin (b,o) (mem_append_right _ (mem_append_right _ (JcZ hb e)))).1,λb hb=>?_,w7);let(o,e,d):=T.obj _ _ p b hb;show(I7.pin (b,o) (mem_append_right _ (mem_append_right _ (JcZ hb e)))).2.1
  cases f with
  | next=>let(σ7,k,I7,z):=l;show j I7 z
  | cont=>let(σ7,k,I7,z):=l;show j I7 z
  | brk=>let(σ7,k,I7,l):=l;show(σ7,k,I7.unpinned,l)
  | ret v=>let(Y,σ7,k,I7,S,l):=l;show(Y,σ7,k,I7.unpinned,S,l)
variable{n:Nat}
theorem JiB{lo:Int}{g:TG}{D:Ends}(Pv:Nat->St->Hp->Prop)(h0:Pv 0 σ H)
  (hs:∀ i σ H,i<n->Pv i σ H->g (.int (lo+i)) σ H λσ2 H2=>tb { D with nx:=Pv (i+1),ct:=Pv (i+1),bk:=D.nx } σ2 H2) (hd:∀ σ H,Pv n σ H->D.nx σ H) :
  ∃ W:Nat->Nat->St->Hp->Prop,(∃ m,W 0 m σ H)/\∀ i m σ H,W i m σ H ->
   ((Itr lo n).stop i H/\D.nx σ H)\/((Itr lo n).go i H/\∃ N:St->Hp->Prop,(∀ σ' H',N σ' H'->∃ m',m'<m/\W (i+1) m' σ' H')/\∀ x H',(Itr lo n).yld i H x H'->g x σ H' λσ2 H2=>tb { D with nx:=N,ct:=N,bk:=D.nx } σ2 H2):=by
 show(λi m σ H=>m=n-i/\i<=n/\Pv i σ H,⟨n,by simp,Nat.zero_le _,h0⟩,?_);rintro i m σ H ⟨rfl,c,p⟩;by_cases a:i<n
 .show .inr ⟨a,Pv (i+1),λσ' H' b=>⟨n-(i+1),by ac_nf,rfl,a,b⟩,λx H' y=>?_⟩;let(e,y):=y;subst e y;show hs i σ _ a p
 .have e:i=n:=by ac_nf
  subst e;show .inl ⟨Nat.le_refl _,hd σ H p⟩
abbrev R2:=V->V->Hp->VK->Prop
def OpR(X:Cx)(f:Value->Value->Sem Value)(r:R2):Prop :=
 ∀(pins:List (Addr × Obj))(s:Shared)(σ : St)(H:Hp)(x y:V)(v u:Value)(Q:VK),Inv X pins σ H s->RelV x v->RelV y u->r x y H Q ->
  wpAny (model X.prog X.w) X.A (f v u) (EP X pins σ Q) X.xe s
def UnR(X:Cx)(f:Value->Sem Value)(r:V->Hp->VK->Prop):Prop :=
 ∀(pins:List (Addr × Obj))(s:Shared)(σ : St)(H:Hp)(x:V)(v:Value)(Q:VK),Inv X pins σ H s->RelV x v->r x H Q ->
  wpAny (model X.prog X.w) X.A (f v) (EP X pins σ Q) X.xe s
def CallR(X:Cx)(f:Value)(r:List V->Hp->VK->Prop):Prop :=
 ∀(pins:List (Addr × Obj))(s:Shared)(σ : St)(H:Hp)(xs:List V)(us:List Value)(Q:VK),Inv X pins σ H s->Vals xs us->r xs H Q ->
  wpAny (model X.prog X.w) X.A (call f us) (EP X pins σ Q) X.xe s
def tOp(r:R2)(ta tb:TE):TE:=λσ H Q=>ta σ H λx H1=>tb σ H1 λy H2=>r x y H2 Q
def tUn(r:V->Hp->VK->Prop)(ta:TE):TE:=λσ H Q=>ta σ H λx H1=>r x H1 Q
def rI(C:Int->Int->Prop)(g:Int->Int->V):R2:=λx y H Q=>∃ i j,x=.int i/\y=.int j/\C i j/\Q (g i j) H
def rI0(g:Int->Int->V):R2:=λx y H Q=>∃ i j,x=.int i/\y=.int j/\Q (g i j) H
def rU(g:Int->V):V->Hp->VK->Prop:=λx H Q=>∃ i,x=.int i/\Q (g i) H
variable{b:Expr}{ta tb tc:TE}
theorem binT(ha:PE X a ta)(hb:PE X b tb){pins:List (Addr × Obj)}{s:Shared}{σ : St}{H:Hp}{R:V->V->Hp->Prop}(I:Inv X pins σ H s)
  (h:ta σ H λx H1=>tb σ H1 λy H2=>R x y H2) {Q:Value->Shared->Prop} {f:Value->Value->Sem Value}
  (hf:∀ v u s2 x y H2,Inv X pins σ H2 s2->RelV x v->RelV y u->R x y H2->wpAny (model X.prog X.w) X.A (f v u) Q X.xe s2) :
  wpAny (model X.prog X.w) X.A (eval a X.env) (λv s₁=>wpAny (model X.prog X.w) X.A (eval b X.env) (λu s₂=>wpAny (model X.prog X.w) X.A (f v u) Q X.xe s₂) X.xe s₁) X.xe s:=by
 show thn (ha pins s σ H _ I h) λv g ζ=>?_;let(x,H1,I1,i,d):=ζ;show thn (hb pins g σ H1 _ I1 d) λu s2 ζ=>?_;let(y,H2,I2,c,e):=ζ;show hf v u s2 x y H2 I2 i c e
theorem pe_op{op:Operator}{r:R2}(ho:OpR X (binaryOp op) r)(ha:PE X a ta)(hb:PE X b tb):PE X (.BinOp a op b pos) (tOp r ta tb):=by
 intro c s σ H Q I h;show wpAny_BinOp (binT ha hb I h λv u f x y g I2 e d q=>ho c f σ g x y v u Q I2 e d q)
theorem pe_un{op:UnaryOp}{r:V->Hp->VK->Prop}(ho:UnR X (unaryOp op) r)(ha:PE X a ta):PE X (.UnaryOp op a pos) (tUn r ta):=by
 intro b s σ H Q I h;show UnaryOp_ (thn (ha b s σ H _ I h) λv e ζ=>by let(x,d,I1,f,c):=ζ;show ho b e σ d x v Q I1 f c)
theorem opI{f:Value->Value->Sem Value}{C:Int->Int->Prop}{g:Int->Int->Int}
  (rule:∀(i j:Int)(t u:Tok)(s:Shared)(Q:Value->Shared->Prop)(E:Value->Shared->Prop),C i j->Q (.int (g i j) s.toks) { s with toks:=s.toks+1 }->wpAny (model X.prog X.w) X.A (f (.int i t) (.int j u)) Q E s) :
  OpR X f (rI C λi j=>.int (g i j)):=by
 intro a s σ H x y v u Q I c b h;let(i,j,rfl,rfl,d,q):=h;let(t,rfl):=c;let(e,rfl):=b;show rule i j t e s _ _ d ⟨.int (g i j),H,I.tok _,⟨_,rfl⟩,q⟩
theorem opI0{f:Value->Value->Sem Value}{g:Int->Int->Int}
  (rule:∀(i j:Int)(t u:Tok)(s:Shared)(Q:Value->Shared->Prop)(E:Value->Shared->Prop),Q (.int (g i j) s.toks) { s with toks:=s.toks+1 }->wpAny (model X.prog X.w) X.A (f (.int i t) (.int j u)) Q E s) :
  OpR X f (rI0 λi j=>.int (g i j)):=by
 intro a s σ H x y v u Q I c b h;let(i,j,rfl,rfl,q):=h;let(t,rfl):=c;let(d,rfl):=b;show rule i j t d s _ _ ⟨.int (g i j),H,I.tok _,⟨_,rfl⟩,q⟩
theorem opB0{f:Value->Value->Sem Value}{g:Int->Int->Bool}
  (rule:∀(i j:Int)(t u:Tok)(s:Shared)(Q:Value->Shared->Prop)(E:Value->Shared->Prop),Q (.bool (g i j)) s->wpAny (model X.prog X.w) X.A (f (.int i t) (.int j u)) Q E s) :
  OpR X f (rI0 λi j=>.bl (g i j)):=by
 intro a s σ H x y v u Q I c b h;let(i,j,rfl,rfl,q):=h;let(t,rfl):=c;let(d,rfl):=b;show rule i j t d s _ _ ⟨.bl (g i j),H,I,rfl,q⟩
def CPow(i j:Int):Prop:=0<=j/\j<=1000000/\i.natAbs<2 ^ 64
theorem Jme:OpR X (binaryOp .Add) (rI0 λi j=>.int (i+j)):=opI0 λ_ _ _ _ _ _ _ q=>add_int q
theorem JiW:OpR X (binaryOp .Sub) (rI0 λi j=>.int (i-j)):=opI0 λ_ _ _ _ _ _ _ q=>sub_int q
theorem Jlr:OpR X (binaryOp .Mod) (rI (λ_ j=>j≠0) λi j=>.int (i.fmod j)):=opI λ_ _ _ _ _ _ _ a q=>mod_int' a q
theorem Jmj:OpR X (binaryOp .Pow) (rI CPow λi j=>.int (i ^ j.toNat)):=opI λ_ _ _ _ _ _ _ a q=>pow_int_small a.1 a.2.1 a.2.2 q
theorem unI{f:Value->Sem Value}{g:Int->Int}
  (rule:∀(i:Int)(t:Tok)(s:Shared)(Q:Value->Shared->Prop)(E:Value->Shared->Prop),Q (.int (g i) s.toks) { s with toks:=s.toks+1 }->wpAny (model X.prog X.w) X.A (f (.int i t)) Q E s) :
  UnR X f (rU λi=>.int (g i)):=by
 intro a s σ H x v Q I b h;let(i,rfl,q):=h;let(t,rfl):=b;show rule i t s _ _ ⟨.int (g i),H,I.tok _,⟨_,rfl⟩,q⟩
theorem Jgz:UnR X (unaryOp .USub) (rU λi=>.int (-i)):=unI λ_ _ _ _ _ q=>neg_int q
def scal:V->V->Bool
 | .non, .non=>true | .non, .int _=>true | .int _, .non=>true | .non, .bl _=>true | .bl _, .non=>true | .non, .str _=>true | .str _, .non=>true
 | .int _, .int _=>true | .bl _, .bl _=>true | .str _, .str _=>true | .byt _, .byt _=>true
 | .int _, .str _=>true | .str _, .int _=>true | .bl _, .str _=>true | .str _, .bl _=>true
 | _,_=>false
def rEq:R2:=λx y H Q=>scal x y=true/\Q (.bl (decide (x=y))) H
def rNe:R2:=λx y H Q=>scal x y=true/\Q (.bl (!decide (x=y))) H
theorem Jit{i j:Int}:decide (V.int i=V.int j)=(i == j):=by
 rw[Bool.eq_iff_iff];simp
theorem Jki{i j:Bool}:decide (V.bl i=V.bl j)=(i == j):=by
 rw[Bool.eq_iff_iff];simp
theorem Jiu{i j:Str}:decide (V.str i=V.str j)=(i == j):=by
 rw[Bool.eq_iff_iff];simp
theorem Jis{i j:Array UInt8}:decide (V.byt i=V.byt j)=(i.toList == j.toList):=by
 rw[Bool.eq_iff_iff];cases i;cases j;simp
theorem JaM{s:Shared}{Q:VK}{k k':Bool}(I:Inv X pins σ H s)(q:Q (.bl k) H)(e:k=k'):EP X pins σ Q (.bool k') s:=by
 subst e;show(.bl k,H,I,rfl,q)
theorem op_eq:OpR X (compareOp .Eq) rEq:=by
 intro e s σ H x y v u Q I d a h;let(c,q):=h;cases x with
 | non=>
  cases d;cases y with
  | non=>cases a;show PySem.EqNone.eq_none_none (JaM I q (by simp))
  | bl j=>cases a;show PySem.EqNone.eq_none_bool (JaM I q (by simp))
  | int j=>let(b,rfl):=a;show PySem.EqNone.eq_none_int (JaM I q (by simp))
  | str j=>let(b,rfl):=a;show PySem.EqNone.eq_none_str (JaM I q (by simp))
  | _=>show absurd (show false=true from c) Bool.false_ne_true
 | bl i=>
  cases d;cases y with
  | non=>cases a;show PySem.EqNone.eq_bool_none (JaM I q (by simp))
  | bl j=>cases a;show eq_bool (JaM I q Jki)
  | str j=>let(b,rfl):=a;show PySem.EqMixed.eq_bool_str (JaM I q (by simp))
  | _=>show absurd (show false=true from c) Bool.false_ne_true
 | int i=>
  let(t,rfl):=d;cases y with
  | non=>cases a;show PySem.EqNone.eq_int_none (JaM I q (by simp))
  | int j=>let(b,rfl):=a;show eq_int (JaM I q Jit)
  | str j=>let(b,rfl):=a;show PySem.EqMixed.eq_int_str (JaM I q (by simp))
  | _=>show absurd (show false=true from c) Bool.false_ne_true
 | str i=>
  let(t,rfl):=d;cases y with
  | non=>cases a;show PySem.EqNone.eq_str_none (JaM I q (by simp))
  | bl j=>cases a;show PySem.EqMixed.eq_str_bool (JaM I q (by simp))
  | int j=>let(b,rfl):=a;show PySem.EqMixed.eq_str_int (JaM I q (by simp))
  | str j=>let(b,rfl):=a;show eq_str (JaM I q Jiu)
  | _=>show absurd (show false=true from c) Bool.false_ne_true
 | byt i=>
  let(t,rfl):=d;cases y with
  | byt j=>let(b,rfl):=a;show W.eq_bytes (JaM I q Jis)
  | _=>show absurd (show false=true from c) Bool.false_ne_true
 | _=>cases y <;> show absurd (show false=true from c) Bool.false_ne_true
theorem op_ne:OpR X (compareOp .NotEq) rNe:=by
 intro e s σ H x y v u Q I d a h;let(c,q):=h;cases x with
 | non=>
  cases d;cases y with
  | non=>cases a;show PySem.EqNone.ne_none_none (JaM I q (by simp))
  | bl j=>cases a;show PySem.EqNone.ne_none_bool (JaM I q (by simp))
  | int j=>let(b,rfl):=a;show PySem.EqNone.ne_none_int (JaM I q (by simp))
  | str j=>let(b,rfl):=a;show PySem.EqNone.ne_none_str (JaM I q (by simp))
  | _=>show absurd (show false=true from c) Bool.false_ne_true
 | bl i=>
  cases d;cases y with
  | non=>cases a;show PySem.EqNone.ne_bool_none (JaM I q (by simp))
  | bl j=>cases a;show ne_bool (JaM I q (congrArg not Jki))
  | str j=>let(b,rfl):=a;show PySem.EqMixed.ne_bool_str (JaM I q (by simp))
  | _=>show absurd (show false=true from c) Bool.false_ne_true
 | int i=>
  let(t,rfl):=d;cases y with
  | non=>cases a;show PySem.EqNone.ne_int_none (JaM I q (by simp))
  | int j=>let(b,rfl):=a;show ne_int (JaM I q (congrArg not Jit))
  | str j=>let(b,rfl):=a;show PySem.EqMixed.ne_int_str (JaM I q (by simp))
  | _=>show absurd (show false=true from c) Bool.false_ne_true
 | str i=>
  let(t,rfl):=d;cases y with
  | non=>cases a;show PySem.EqNone.ne_str_none (JaM I q (by simp))
  | bl j=>cases a;show PySem.EqMixed.ne_str_bool (JaM I q (by simp))
  | int j=>let(b,rfl):=a;show PySem.EqMixed.ne_str_int (JaM I q (by simp))
  | str j=>let(b,rfl):=a;show ne_str (JaM I q (congrArg not Jiu))
  | _=>show absurd (show false=true from c) Bool.false_ne_true
 | byt i=>
  let(t,rfl):=d;cases y with
  | byt j=>let(b,rfl):=a;show W.ne_bytes (JaM I q (congrArg not Jis))
  | _=>show absurd (show false=true from c) Bool.false_ne_true
 | _=>cases y <;> show absurd (show false=true from c) Bool.false_ne_true
theorem op_lt:OpR X (compareOp .Lt) (rI0 λi j=>.bl (decide (i<j))):=opB0 λ_ _ _ _ _ _ _ q=>lt_int q
theorem op_gt:OpR X (compareOp .Gt) (rI0 λi j=>.bl (decide (j<i))):=opB0 λ_ _ _ _ _ _ _ q=>gt_int q
theorem op_ge:OpR X (compareOp .GtE) (rI0 λi j=>.bl (decide (j<=i))):=opB0 λ_ _ _ _ _ _ _ q=>ge_int q
theorem JiT:OpR X (compareOp .In) (λx y H Q=>∃ i j,x=.str i/\y=.str j/\Q (.bl (!(Builtin.Str.occurrences j i 0 j.length 1).isEmpty)) H):=by
 intro a s σ H x y v u Q I c b h;let(i,j,rfl,rfl,q):=h;let(t,rfl):=c;let(d,rfl):=b;show in_str (JaM I q rfl)
theorem Jmi:OpR X (compareOp .Is) (λx y H Q=>y=.non/\Q (.bl (decide (x=.non))) H):=by
 intro b s σ H x y v u Q I a c h;let(rfl,q):=h;cases c;show is_none_gen (JaM I q ?_);cases x <;> first
  | (cases a;rfl)
  | (let(t,rfl):=a;rfl)
theorem Jlu:OpR X (compareOp .IsNot) (λx y H Q=>y=.non/\Q (.bl (!decide (x=.non))) H):=by
 intro b s σ H x y v u Q I a c h;let(rfl,q):=h;cases c;show isnot_none_gen (JaM I q ?_);cases x <;> first
  | (cases a;rfl)
  | (let(t,rfl):=a;rfl)
theorem Jav(b:Expr){op:CmpOp}(h:autoParam (op≠.In) Au)(h2:autoParam (op≠.NotIn) Au):behindInMarks op b=false:=by
 have a:(op == CmpOp.In)=false:=by cases op <;> first | rfl | show absurd rfl h
 have c:(op == CmpOp.NotIn)=false:=by cases op <;> first | rfl | show absurd rfl h2
 cases b <;> simp[behindInMarks,a,c]
variable{op:CmpOp}{r:R2}
theorem JbD(ho:OpR X (compareOp op) r)(ha:PE X a ta)(hb:PE X b tb)(hm:behindInMarks op b=false):PE X (.Compare a [op] [b] pos) (tOp r ta tb):=by
 intro c s σ H Q I h;show wpAny_Compare1 (binT ha hb I h λv u f x y g I2 e d q=>ho c f σ g x y v u Q I2 e d q) hm
def tTest(t:TE):TT:=λσ H Q=>t σ H λx H'=>∃ k,x=.bl k/\Q k H'
theorem Jar(ho:OpR X (compareOp op) r)(ha:PE X a ta)(hb:PE X b tb)(hm:behindInMarks op b=false):PT X (.Compare a [op] [b] pos) (tTest (tOp r ta tb)):=by
 intro d s σ H Q I h;show wpAny_isTrue_Compare1 (thn (ha d s σ H _ I h) λv q ζ=>?_) hm;let(x,i,I1,t,p):=ζ;show thn (hb d q σ i _ I1 p) λu g ζ=>?_;let(y,o,I2,m,n):=ζ;show thn (ho d g σ o x y v u _ I2 t m n) λc w ζ=>?_;let(z,f,I3,l,k,e,j):=ζ
 subst e;cases l;show wpAny_truthy_bool ⟨f,I3,j⟩
theorem Jfb:(sizeLine:Nat)<2 ^ 63:=by rw[sizeLine_eq];decide
theorem Jh3:OpR X (binaryOp .Add) (λx y H Q=>∃ i j,x=.str i/\y=.str j/\i.length+j.length<=sizeLine/\Q (.str (i++j)) H):=by
 intro a s σ H x y v u Q I c d h;let(i,j,rfl,rfl,b,q):=h;let(t,rfl):=c;let(e,rfl):=d;show add_str (λe f=>⟨.str (i++j),H,I.tok _,⟨_,rfl⟩,q⟩) b
variable{x:V}
theorem vals1(r:Vals [x] us):∃ u,us=[u]/\RelV x u:=by
 cases r with
 | cons r1 r2=>cases r2;show(_,rfl,r1)
variable{y:V}
theorem vals2(r:Vals [x,y] us):∃ u w',us=[u,w']/\RelV x u/\RelV y w':=by
 cases r with
 | cons r1 r2=>
  cases r2 with
  | cons r3 r4=>cases r4;show(_,_,rfl,r1,r3)
theorem JjA:CallR X (.builtin "abs") (λxs H Q=>∃ i,xs=[.int i]/\Q (.int (if i<0 then -i else i)) H):=by
 intro a s σ H xs c Q I r h;let(i,rfl,q):=h;let(u,rfl,t,rfl):=vals1 r;show call_abs_int λu b=>⟨.int (if i<0 then -i else i),H,I.tok _,⟨_,rfl⟩,q⟩
structure ObjM(h:Heap)(x dx C:Addr)(mA:Str->Option Value):Prop where
 obj:h.get? x=some (W.instObj C dx)
 ns:h.Ns1 dx mA
 ne:dx≠x
variable{dx:Addr}{mA:Str->Option Value}
theorem Jgd(n:h.Ns1 dx mA):∃ od,h.get? dx=some od/\∀ name,W.lookIn name od=some (mA name):=by
 let(o,c,l,f,d,j,_,i):=n;show(o,f,λname=>?_);have e:=i name;unfold nsFind findBy at e;rw[<- Array.find?_toList]at e;unfold W.lookIn;rw[d];dsimp only;split
 .rename_i y q;rw[q]at e;show congrArg some e
 .rename_i q;rw[q]at e;have a:c.toList.any (·.refKey)=false:=by
   rw[List.any_eq_false];intro y g;let(z,t,b):=j y (Array.mem_toList_iff.mp g);simp[DictEntry.refKey,b]
  have k:¬ c.toList.any (·.refKey)=true:=by rw[a];show Bool.false_ne_true
  rw[if_neg k];show congrArg some e
variable{x C:Addr}
theorem ObjM.look(I:ObjM h x dx C mA):∃ od,W.InstAt h x (W.instObj C dx) C (some od)/\∀ name,W.lookIn name od=some (mA name) :=
 let⟨od,ho,hl⟩:=Jgd I.ns
 ⟨od,⟨I.obj,rfl,rfl,ho⟩,hl⟩
section
variable{name:Str}{v:Value}{w:World}{s:Shared}{K:W.Frag}{f:Addr}
theorem get_map{expr:Bool}{Q:Value->Shared->Prop}(X:K.In s.heap)(I:ObjM s.heap x dx C mA)(hg:W.plainGet K C name=true)(hh:W.hasDictIn K C=true)
  (ha:W.findIn K (.ref C) name=some none) (hv:mA name=some v) (hv':W.handedIn v=true) (h:Q v { s with toks:=s.toks+1 }) :
  wpAny (model prog w) A (getAttr (.ref x) name expr) Q E s:=by
 let(b,J,a):=I.look;show W.get_value X J (W.plainGet_of hg).1 (W.findObj_own hh ha rfl (by rw[a,hv])) hv' h
variable{pl:Sem Bool}
theorem JjG{Q:Value × List Value->Shared->Prop}(X:K.In s.heap)(I:ObjM s.heap x dx C mA)(hg:W.plainGet K C name=true)
  (hf:W.findIn K (.ref C) name=some (some (.ref f))) (ht:W.isFn K (.ref f)=true) (hv:mA name=none) (h:Q (.ref f,[.ref x]) s) :
  wpAny (model prog w) A (getMethod (.ref x) name pl) Q E s:=by
 let(a,J,b):=I.look;show W.method_fn X J (W.plainGet_of hg).1 (W.plainGet_of hg).2 hf (beq_iff_eq.mp ht) (by show(W.lookIn name a).map (·.isSome)=some false;rw[b,hv];rfl) h
theorem JlI{ns:List Str}{Q:Unit->Shared->Prop}(X:K.In s.heap)(I:ObjM s.heap x dx C mA)
  (hs:W.findIn K (.ref C) "__setattr__"=some (some (.builtin "object.__setattr__"))) (hp:W.plainOver K C=true) (ht:W.takerIn K C name=some none) (hh:W.hasDictIn K C=true)
  (hw:PySem.Within mA ns) (hsz:ns.length<=sizeLine)
  (h:∀ h',ObjM h' x dx C (λy=>if y=name then some v else mA y)->Heap.SameBut dx s.heap h'->Q () { s with heap:=h',toks:=s.toks+2 }) :
  wpAny (model prog w) A (setAttr (.ref x) name v) Q E s:=by
 let(p,J,q):=I.look;show W.set_plain X J hs (W.osa_open (s:={ s with toks:=s.toks+1 }) (r:=none) X J hp ht λb=>?_);let(o,j,e):=W.any_some hh;have k:s.heap.get? x=some ⟨.ref C,some dx, .plain, #[]⟩:=I.obj;show wpAny_bind (wpAny_pure (wpAny_bind (wpAny_bind (wpAny_loadPart k (wpAny_bind (W.Looks.here (s:={ s with toks:=s.toks+1 }) (W.looks_clsIn X j) ?_))))));rw[e];show wpAny_pure (a:=some dx) (wpAny_bind (wpAny_pure (wpAny_bind ?_)));show wpAny_nsSet1 (s:={ s with toks:=s.toks+1 }) I.ns λh' d c=>?_;let(n,l,m,f,i,g):=d.count (PySem.Within.cons name v hw);show wpAny_bind (wpAny_lookBehind f (by rw[i];show pastItsLine_dict (Nat.le_trans g (by rw[length_cons];ac_nf))) ?_);show wpAny_pure (h _ ⟨(c.2 _ (Ne.symm I.ne)).trans I.obj,d,I.ne⟩ c)
variable{kw:List (Str × Value)}
theorem JjN{R:Result->Shared->Prop}{vs:List Value}(X:K.In s.heap)(hm:W.makesIn K C=true)
  (hi:W.findIn K (.ref C) "__init__"=some (some (.ref f))) (hf:W.typeIn K (.ref f)=some (.type "function"))
  (h:codeAny (model prog w) (A.under (.builtin "type.__call__" ⟨.ref C::vs,kw⟩)) (.call (.ref f) ⟨.ref (s.heap.objs.size+1)::vs,kw⟩) (W.InitBack (s.heap.objs.size+1) R)
   { s with heap:=(s.heap.push W.emptyDict).push (W.instObj C s.heap.objs.size) }) :
  codeAny (model prog w) A (.call (.ref C) ⟨vs,kw⟩) R s:=by
 let(b,g,d,t,c):=s;show W.make_core (W.makes_of X hm) (W.looks_findIn X hi) (λa=>W.bind_fn X a hf) (.inl rfl) h
end
def putF(f:Str)(v:V):List (Str × V)->List (Str × V)
 | []=>[(f,v)]
 | (g,x)::r=>if g=f then(g,v)::r else(g,x)::putF f v r
theorem Jep(f g:Str)(v:V):∀ fs:List (Str × V),(putF f v fs).lookup g=if g=f then some v else fs.lookup g
 | []=>by
  show List.lookup g [(f,v)]=_;by_cases h:g=f
  .have hb:(g == f)=true:=beq_iff_eq.mpr h;simp only[List.lookup,hb,if_pos h]
  .have hb:(g == f)=false:=beq_eq_false_iff_ne.mpr h;simp only[List.lookup,hb,if_neg h]
 | (k,x)::r=>by
  have ih:=Jep f g v r;rw[show putF f v ((k,x)::r)=(if k=f then(k,v)::r else(k,x)::putF f v r)from rfl];by_cases hk:k=f
  .rw[if_pos hk];by_cases h:g=k
   .have hb:(g == k)=true:=beq_iff_eq.mpr h;simp only[List.lookup,hb,if_pos (h.trans hk)]
   .have hb:(g == k)=false:=beq_eq_false_iff_ne.mpr h;simp only[List.lookup,hb,if_neg (λe:g=f=>h (e.trans hk.symm))]
  .rw[if_neg hk];by_cases h:g=k
   .have hb:(g == k)=true:=beq_iff_eq.mpr h;simp only[List.lookup,hb,if_neg (λe:g=f=>hk (h.symm.trans e))]
   .have hb:(g == k)=false:=beq_eq_false_iff_ne.mpr h;simp only[List.lookup,hb];show ih
theorem Jek(f:Str)(v:V):∀ fs:List (Str × V),f∈(putF f v fs).map (·.1)/\∀ g,g∈fs.map (·.1)->g∈(putF f v fs).map (·.1)
 | []=>⟨by simp[putF],λg h=>by simp at h⟩
 | (k,x)::r=>by
  let(i1,i2):=Jek f v r;rw[show putF f v ((k,x)::r)=(if k=f then(k,v)::r else(k,x)::putF f v r)from rfl];by_cases hk:k=f
  .rw[if_pos hk];subst hk;show(by simp,λg h=>by simpa using h)
  .rw[if_neg hk];show(?_,λg h=>?_)
   .rw[map_cons];show mem_cons_of_mem _ i1
   .rw[map_cons]at h ⊢;rcases mem_cons.mp h with e | e
    .show mem_cons.mpr (.inl e)
    .show mem_cons_of_mem _ (i2 g e)
theorem Jeo(f:Str)(v:V):∀ fs:List (Str × V),(putF f v fs).length<=fs.length+1
 | []=>by simp[putF]
 | (k,x)::r=>by
  have ih:=Jeo f v r;rw[show putF f v ((k,x)::r)=(if k=f then(k,v)::r else(k,x)::putF f v r)from rfl];by_cases hk:k=f
  .rw[if_pos hk,length_cons,length_cons];ac_nf
  .rw[if_neg hk,length_cons,length_cons];ac_nf
variable{v:V}{o:Option Value}
theorem RelO.some_of(r:RelO (some v) o):∃ u,o=some u/\RelV v u:=by
 cases o with
 | none=>show(show False from r).elim
 | some u=>show(u,rfl,r)
theorem RelO.none_of(r:RelO none o):o=none:=by
 cases o with
 | none=>rfl
 | some u=>show(show False from r).elim
theorem JiE(r:RelV v u):W.handedIn u=true:=by
 cases v with
 | non=>cases(show u=Value.none from r);rfl
 | bl b=>cases(show u=Value.bool b from r);rfl
 | int i=>let(t,e):=(show∃ t,u=Value.int i t from r);cases e;rfl
 | str x=>let(t,e):=(show∃ t,u=Value.str x t from r);cases e;rfl
 | byt b=>let(t,e):=(show∃ t,u=Value.bytes b t from r);cases e;rfl
 | flt b=>let(t,e):=(show∃ t,u=Value.float b t from r);cases e;rfl
 | ref a=>cases(show u=Value.ref a from r);rfl
 | ty n=>cases(show u=Value.type n from r);rfl
section
variable{h':Heap}{a:Addr}{fs':List (Str × V)}{w:World}{fs:List (Str × V)}
theorem JgL(hok:HOk P w H h)(e:H a=some (.ins C dx fs)):∃ mA,ObjM h a dx C mA/\(∀ f,RelO (fs.lookup f) (mA f))/\PySem.Within mA (fs.map (·.1))/\fs.length<=1000/\H dx=some (.own a):=by
 let(d,z,b,c,mA,n,r,q):=(show ObjOk P w H h a (.ins C dx fs)from hok a _ e);show(mA,⟨c,n,b⟩,r,q,z,d)
end
structure Cls(K:W.Frag)(C:Addr):Prop where
 pg:W.plainGet K C Str.empty=true
 hd:W.hasDictIn K C=true
 po:W.plainOver K C=true
 sa:W.findIn K (.ref C) "__setattr__"=some (some (.builtin "object.__setattr__"))
theorem Cls.get{K:W.Frag}(c:Cls K C)(f:Str):W.plainGet K C f=true:=c.pg
def JaU(K:W.Frag)(C:Addr)(f:Str):Prop:=W.findIn K (.ref C) f=some none
theorem JaU.taker{K:W.Frag}{f:Str}(n:JaU K C f):W.takerIn K C f=some none:=by
 unfold W.takerIn;rw[show W.findIn K (.ref C) f=some none from n];rfl
structure Meth(K:W.Frag)(C:Addr)(m:Str)(f:Addr):Prop where
 at_:W.findIn K (.ref C) m=some (some (.ref f))
 fn:W.isFn K (.ref f)=true
 kp:W.keepIn K (.ref f)=true
section
variable{a:Addr}{s:Shared}{fs:List (Str × V)}{f:Str}{b:Bool}
theorem JhQ{Q:Value->Shared->Prop}(I:Inv X pins σ H s)(e:H a=some (.ins C dx fs))(c:Cls X.K C)(n:JaU X.K C f)(l:fs.lookup f=some v)
  (h:∀ u s',Inv X pins σ H s'->RelV v u->Q u s'):wpAny (model X.prog X.w) A (getAttr (.ref a) f b) Q E s:=by
 let(g,O,r,_,_,_):=JgL I.hok e;let(u,i,d):=RelO.some_of (v:=v) (o:=g f) (by rw[<- l];show r f);show get_map I.kIn O (c.get f) c.hd n i (JiE d) (h u _ (I.tok _) d)
theorem Je9{m:Str}{g:Addr}{pl:Sem Bool}{Q:Value × List Value->Shared->Prop}(I:Inv X pins σ H s)(e:H a=some (.ins C dx fs))(c:Cls X.K C)(k:Meth X.K C m g)(l:fs.lookup m=none)
  (h:Q (.ref g,[.ref a]) s):wpAny (model X.prog X.w) A (getMethod (.ref a) m pl) Q E s:=by
 let(b,O,r,_,_,_):=JgL I.hok e;have d:b m=none:=RelO.none_of (by rw[<- l];show r m);show JjG I.kIn O (c.get m) k.at_ k.fn d h
theorem Jh8{Q:Unit->Shared->Prop}(I:Inv X pins σ H s)(e:H a=some (.ins C dx fs))(c:Cls X.K C)(n:JaU X.K C f)(hl:fs.length<1000)(ry:RelV y u)
  (h:∀ s',Inv X pins σ (upd H a (.ins C dx (putF f y fs))) s'->Q () s'):wpAny (model X.prog X.w) A (setAttr (.ref a) f u) Q E s:=by
 let(i,O,r,d,_,j):=JgL I.hok e;have m:(fs.map (·.1)).length<=sizeLine:=by rw[length_map,sizeLine_eq];ac_nf
 show JlI I.kIn O c.sa c.po n.taker c.hd d m λl O' p=>h _ ?_;have k:∃ o,l.get? dx=some o:=let⟨o,_,_,e',_⟩:=O'.ns;⟨o,e'⟩;show I.write (x:=a) (e:=dx) (by rw[e];show True.intro) (.inr j) (λb q v z=>(p.2 b v).trans z) k ?_;show(by rw[Jah O.ne];show j,?_,O.ne,O'.obj,_,O'.ns,λg=>?_,λg t=>?_)
 .have:=Jeo f y fs;ac_nf
 .show RelO ((putF f y fs).lookup g) (if g=f then some u else i g);rw[Jep];by_cases q:g=f
  .rw[if_pos q,if_pos q];show ry
  .rw[if_neg q,if_neg q];show r g
 .by_cases q:g=f
  .rw[q];show(Jek f y fs).1
  .show(Jek f y fs).2 g (d g λz=>t ?_);show(if g=f then some u else i g)=none;rw[if_neg q];show z
theorem Inv.made(I:Inv X pins σ H s):Inv X pins σ (upd (upd H s.heap.objs.size (.own (s.heap.objs.size+1))) (s.heap.objs.size+1) (.ins C s.heap.objs.size []))
  { s with heap:=(s.heap.push W.emptyDict).push (W.instObj C s.heap.objs.size) }:=by
 have d:(s.heap.push W.emptyDict).get? s.heap.objs.size=some W.emptyDict:=Heap.get?_push_size s.heap rfl;have i:((s.heap.push W.emptyDict).push (W.instObj C s.heap.objs.size)).get? (s.heap.objs.size+1)=some (W.instObj C s.heap.objs.size):=by
  have:=Heap.get?_push_size (s.heap.push W.emptyDict) (o:=W.instObj C s.heap.objs.size) rfl
  rwa [Heap.size_push]at this
 have f:(s.heap.push W.emptyDict).Ns s.heap.objs.size (λ_=>none):=⟨W.emptyDict, #[],_,d,rfl,(λe g=>absurd g (by simp)),λ_=>rfl⟩;have I1:=I.laid (a:=s.heap.objs.size) (o:=.own (s.heap.objs.size+1)) (h':=s.heap.push W.emptyDict) (t':=s.toks) (λb u q=>Heap.get?_push_of_some _ q) (Nat.le_refl _) ⟨_,d⟩;show I1.laid (a:=s.heap.objs.size+1) (o:=.ins C s.heap.objs.size []) (t':=s.toks) (λb u q=>Heap.get?_push_of_some _ q) (Nat.le_of_eq (Heap.size_push _ _)) ?_;have c:s.heap.objs.size≠s.heap.objs.size+1:=Nat.ne_of_lt (Nat.lt_succ_self _);show(by rw[Jah c,Jam],Nat.zero_le _,c,i,λ_=>none,(Heap.Ns1.of_empty f).at λo q=>Heap.get?_push_of_some _ q,λ_=>True.intro,λy h=>absurd rfl h)
variable{Q:Value->Shared->Prop}
theorem JkR{w:World}{env:Env}{f:Str}{s:Shared}(hb:attributeBase e f env (eval e env)=eval e env)
  (h:wpAny (model prog w) A (eval e env) (λo s₁=>wpAny (model prog w) A (getAttr o f true) Q E s₁) E s):wpAny (model prog w) A (eval (.Attribute e f pos) env) Q E s :=
 Attribute_any_ h (by rw[arm_eval_Attribute,hb])
end
def tFld(K:W.Frag)(ta:TE)(f:Str):TE:=λσ H Q=>ta σ H λx H1=>∃ a C dx fs v,x=.ref a/\H1 a=some (.ins C dx fs)/\Cls K C/\JaU K C f/\fs.lookup f=some v/\Q v H1
def sFld(K:W.Frag)(ta tv:TE)(f:Str):TS:=λD σ H=>tv σ H λy H1=>ta σ H1 λx H2=>∃ a C dx fs,x=.ref a/\H2 a=some (.ins C dx fs)/\Cls K C/\JaU K C f/\fs.length<1000 /\
 D.nx σ (upd H2 a (.ins C dx (putF f y fs)))
section
variable{o value:Expr}{tpos:Pos}{tv:TE}{f:Str}
theorem Jas(he:PE X e ta)(hb:attributeBase e f X.env (eval e X.env)=eval e X.env):PE X (.Attribute e f pos) (tFld X.K ta f):=by
 intro b s σ H Q I h;show JkR hb (thn (he b s σ H _ I h) λu t ζ=>?_);let(x,g,I1,d,a,C,o,p,v,k,i,c,n,l,q):=ζ;subst k;obtain rfl:u=Value.ref a:=d;show JhQ I1 i c n l λr m I2 j=>⟨v,g,I2,j,q⟩
theorem Ja5(ha:PE X o ta)(hv:PE X value tv)(hs:swapsWith value (some (.Attribute o f pos')) pos.line X.env=pure false):PS X (.Assign [.Attribute o f pos'] value pos) (sFld X.K ta tv f):=by
 intro b s σ H D I h;show plainObj_wpAny_Assign_Attribute (thn (hv b s σ H _ I h) λu m ζ=>?_) hs;let(y,e,I1,g,q):=ζ;show thn (ha b m σ e _ I1 q) λj r ζ=>?_;let(x,w,I2,d,a,C,t,v,p,k,c,n,l,i):=ζ;subst p;obtain rfl:j=Value.ref a:=d;show Jh8 I2 k c n l g λz I3=>⟨σ,_,I3,i⟩
end
section
variable{Q:Value->Shared->Prop}{c:Value}{b:Bool}{s:Shared}
end
structure Room(k:Nat)(A:Around):Prop where
 hd:A.handled=none
 dp:A.depth+3*k+5<recursionLimit
 un:A.units+16*k+200<cLine
theorem Room.mono{j k:Nat}(r:Room k A)(h:j<=k):Room j A:=⟨r.hd,by have:=r.dp;ac_nf,by have:=r.un;ac_nf⟩
theorem Room.deeper{k:Nat}(r:Room (k+1) A)(env:Env):Room k (A.deeper env) :=
 ⟨r.hd,by have:=r.dp;show A.depth+1+3*k+5<_;ac_nf,by have:=r.un;show A.units+3+16*k+200<_;ac_nf⟩
variable{kw:List (Str × Value)}
theorem JhU:(A.under (.builtin "type.__call__" ⟨.ref C::us,kw⟩)).depth=A.depth+1:=by
 first | rfl | simp[Around.under,Code.weight,Code.isCreation,Code.isGuard,Code.isCaller,Code.frames,Code.isFrame,guardIds]
theorem JhV:(A.under (.builtin "type.__call__" ⟨.ref C::us,kw⟩)).units=A.units+1:=by
 first | rfl | simp[Around.under,Code.cUnits,Code.frames,Code.isFrame]
theorem Room.make{k:Nat}(r:Room (k+1) A)(C:Addr)(us:List Value)(kw:List (Str × Value)):Room k (A.under (.builtin "type.__call__" ⟨.ref C::us,kw⟩)) :=
 ⟨r.hd,by have:=r.dp;rw[JhU];ac_nf,by have:=r.un;rw[JhV];ac_nf⟩
theorem Room.depth{k:Nat}(r:Room k A):A.depth<recursionLimit:=by have:=r.dp;ac_nf
theorem Room.units{k:Nat}(r:Room k A):A.units+64<cLine:=by have:=r.un;ac_nf
def tNil:TA:=λ_ H Q=>Q [] H
def tCons(ta:TE)(tr:TA):TA:=λσ H Q=>ta σ H λx H1=>tr σ H1 λxs H2=>Q (x::xs) H2
section
variable{t:TA}
theorem Jac:PA X [] tNil:=λ_ _ _ _ H Q I h=>Calls.spliced_nil ⟨[],H,I, .nil,h⟩
theorem Jlw(ha:PE X e te)(hr:PA X es t)(hs:autoParam (starEach (e::es) X.env=(false,eval e X.env)::starEach es X.env) Au):PA X (e::es) (tCons te t):=by
 intro b a s σ H Q I h;rw[hs];show wpAny _ _ (spliced ((false,eval e X.env)::backTo b (starEach es X.env))) _ _ s;show Calls.spliced_cons (thn (ha a s σ H _ I h) λu k ζ=>?_);let(x,c,I1,l,i):=ζ;show thn (hr b a k σ c _ I1 i) λm n ζ=>by let(j,g,I2,d,f):=ζ;show(x::j,g,I2, .cons l d,f)
def tTup(t:TA):TE:=λσ H Q=>t σ H λxs H1=>xs.length<=sizeLine/\∀ p,H1 p=none->Q (.ref p) (upd H1 p (.tup xs))
def tLst(t:TA):TE:=λσ H Q=>t σ H λxs H1=>xs.length<=sizeLine/\∀ p,H1 p=none->Q (.ref p) (upd H1 p (.lst xs))
theorem JaE{x1}(h:PA X es t):PE X (.Tuple es x1 pos) (tTup t):=by
 intro a s σ H Q I f;show wpAny_Tuple_spliced (thn (h pos a s σ H _ I f) λi c ζ=>?_);let(g,d,I1,r,z,q):=ζ;show(by rw[<- r.length];show z,?_);have j:d c.heap.objs.size=none:=I1.hok.fresh (Nat.le_refl _);show(.ref c.heap.objs.size,upd d c.heap.objs.size (.tup g),I1.laid (t':=c.toks) (λb u e=>Heap.get?_push_of_some _ e) (Nat.le_refl _) ?_,rfl,q _ j);show(z,i,r,⟨_,Heap.get?_push_size _ rfl,rfl,_,rfl⟩)
theorem Jbj(h:PA X es t):PE X (.List es pos) (tLst t):=by
 intro a s σ H Q I f;show wpAny_List_spliced (thn (h pos a s σ H _ I f) λi c ζ=>?_);let(g,d,I1,r,z,q):=ζ;show(by rw[<- r.length];show z,?_);have j:d c.heap.objs.size=none:=I1.hok.fresh (Nat.le_refl _);show(.ref c.heap.objs.size,upd d c.heap.objs.size (.lst g),I1.laid (t':=c.toks) (λb u e=>Heap.get?_push_of_some _ e) (Nat.le_refl _) ?_,rfl,q _ j);show(z,i,0,r,Heap.get?_push_size _ rfl)
end
abbrev Sp:=List V->Hp->VK->XK->Prop
abbrev CXT:=List Env->Hp->Shared->XK->Value->Shared->Prop
structure Env0(P:Program)(w:World)(K:W.Frag)(mg:Str->Option Value)(base:Heap)(A:Around)(outer:List Env)(s:Shared)(H:Hp):Prop where
 frames:A.frames=some outer
 mod:Mod K mg base
 bs:∀ b o,base.get? b=some o->s.heap.get? b=some o/\H b=none
 bsz:base.objs.size<=s.heap.objs.size
 funs:s.heap.FunFrames base outer
 frf:∀ b∈frs outer,H b=none
 hok:HOk P w H s.heap
 bare:AllBare s.gens
def CE(outer:List Env)(P:Program)(w:World)(H:Hp)(s:Shared)(Q:VK)(u:Value)(s':Shared):Prop :=
 ∃ v H',s'.os=s.os/\AllBare s'.gens/\Un (frs outer) [] H H' s.heap s'.heap/\HOk P w H' s'.heap/\RelV v u/\Q v H'
def CR(CX:CXT)(outer:List Env)(P:Program)(w:World)(H:Hp)(s:Shared)(Q:VK)(E:XK)(r:Result)(s':Shared):Prop :=
 match r with
 | .ok (.ret u)=>CE outer P w H s Q u s'
 | .ok _=>False
 | .error e=>CX outer H s E e s'
structure FnOk(P:Program)(w:World)(K:W.Frag)(mg:Str->Option Value)(base:Heap)(CX:CXT)(k:Nat)(f:Addr)(fd:FuncData)(ps:List Str)(sp:Sp):Prop where
 len:∀ vs H Q E,sp vs H Q E->vs.length=ps.length
 run:∀(A:Around)(outer:List Env)(s:Shared)(H:Hp)(args:Args)(us:List Value)(vs:List V)(Q:VK)(E:XK),Room k A->Env0 P w K mg base A outer s H->BindsTo s fd args (ps.zip us)->Vals vs us->sp vs H Q E ->
  codeAny (model P w) A (.call (.ref f) args) (CR CX outer P w H s Q E) s
variable{mg:Str->Option Value}{base:Heap}{outer:List Env}
theorem Env0.make{w:World}{K:W.Frag}{s:Shared}(e:Env0 P w K mg base A outer s H)(C:Addr)(us:List Value)(kw:List (Str × Value)) :
  Env0 P w K mg base (A.under (.builtin "type.__call__" ⟨.ref C::us,kw⟩)) outer s H:=⟨by first | show e.frames | (simpa[Around.under,Code.envs,Code.isFrame,pushEnvs]using e.frames),e.mod,e.bs,e.bsz,e.funs,e.frf,e.hok,e.bare⟩
section
variable{s':Shared}{s:Shared}
theorem Inv.env0(I:Inv X pins σ H s):Env0 X.prog X.w X.K X.mg X.base X.A X.stack s H :=
 ⟨I.ok.frames,I.ok.mod,I.bs,Nat.le_trans I.ok.bsz I.sz,I.stack,I.stkFree,I.hok,I.bare⟩
variable{Q:VK}
theorem Inv.after(I:Inv X pins σ H s)(h:CE X.stack X.prog X.w H s Q u s'):EP X pins σ Q u s':=by
 let(v,i,k,a,j,e,r,q):=h;let(f,g,d,t,c):=s';obtain rfl:c=s.os:=k;show(v,i,I.call (h':=f) (g':=g) (d':=d) (t':=t) (ch:=[]) j e a (λb z=>absurd z (by simp)),r,q)
end
def tCall(sp:Sp)(dvs:List V)(E:XK)(t:TA):TE:=λσ H Q=>t σ H λvs H1=>sp (vs++dvs) H1 Q E
def tMake(C:Addr)(sp:Sp)(dvs:List V)(E:XK)(t:TA):TE:=λσ H Q=>t σ H λvs H1=>∀ x dx,H1 x=none->H1 dx=none->dx≠x ->
 sp (.ref x::(vs++dvs)) (upd (upd H1 dx (.own x)) x (.ins C dx [])) (λv H2=>v=.non/\Q (.ref x) H2) E
def Binds(K:W.Frag)(fd:FuncData)(ps:List Str)(ds:List Value):Prop :=
 ∀(s:Shared)(us:List Value),K.In s.heap->(us++ds).length=ps.length->BindsTo s fd ⟨us,[]⟩ (ps.zip (us++ds))
variable{fd:FuncData}{ps:List Str}
theorem Binds.all{K:W.Frag}(h:∀ us:List Value,us.length=ps.length->bindArgs fd ⟨us,[]⟩=pure (ps.zip us)):Binds K fd ps []:=λs us _ a=>by
 rw[append_nil]at a ⊢;show .of_eq (h us a)
def JcH(CX:CXT)(X:Cx)(E:XK):Prop:=∀(pins:List (Addr × Obj))(σ : St)(H:Hp)(s:Shared)(e:Value)(s':Shared),Inv X pins σ H s->CX X.stack H s E e s'->X.xe e s'
section
variable{CX:CXT}{sp:Sp}{dvs:List V}{ds:List Value}{E:XK}{x:Str}{p apos:Pos}{o:Expr}{k:Nat}{f:Addr}{m:Str}{t:TA}{Q:VK}{vs:List V}
theorem Ji7{s:Shared}(F:FnOk X.prog X.w X.K X.mg X.base CX k f fd ps sp)(hr:Room k X.A)(hb:Binds X.K fd ps ds)(hd:Vals dvs ds)(hx:JcH CX X E)
  (I:Inv X pins σ H s) (r:Vals vs us) (h:sp (vs++dvs) H Q E):wpAny (model X.prog X.w) X.A (call (.ref f) us) (EP X pins σ Q) X.xe s:=by
 have b:Vals (vs++dvs) (us++ds):=r.append hd;have d:(us++ds).length=ps.length:=by rw[<- b.length];show F.len _ _ _ _ h
 show wpAny_call (codeAny_mono (F.run X.A X.stack s H ⟨us,[]⟩ (us++ds) (vs++dvs) Q E hr I.env0 (hb s us I.kIn d) b h) λr c a=>?_);cases r with
 | error e=>show hx pins σ H s e c I a
 | ok fl=>
  cases fl with
  | ret u=>show I.after a
  | next=>show False.elim a
  | brk=>show False.elim a
  | cont=>show False.elim a
theorem Jlx(F:FnOk X.prog X.w X.K X.mg X.base CX k f fd ps sp)(hr:Room k X.A)(hg:Gl X x)(hm:X.mg x=some (.ref f))(hk:W.keepIn X.K (.ref f)=true)(hb:Binds X.K fd ps ds)(hd:Vals dvs ds)(hx:JcH CX X E)
  (ha:PA X (e::es) t) (hdb:autoParam ((x == ("__debug__" : Str))=false) Au) (he:autoParam (starEach (e::es) X.env=(false,eval e X.env)::starEach es X.env) Au) (hpl:autoParam ((backTo pos (starEach es X.env)).any (·.1)=false) Au) :
  PE X (.Call (.Name x p) (e::es) [] pos) (tCall sp dvs E t):=by
 intro a s σ H Q I h;show wpAny_Call_Name_kw (Jel I hg hm ?_ hdb);show W.callWith_K (h₀:=X.base) I.ok.mod.kin hk (thn (ha pos a s σ H _ I h) λb g ζ=>?_) he hpl;let(c,d,I1,r,q):=ζ;show(I1.kIn,?_);show Ji7 F hr hb hd hx I1 r q
structure Mk(K:W.Frag)(C f:Addr):Prop where
 makes:W.makesIn K C=true
 init:W.findIn K (.ref C) "__init__"=some (some (.ref f))
 fn:W.isFn K (.ref f)=true
 kp:W.keepIn K (.ref C)=true
theorem JhC{s:Shared}(M:Mk X.K C f)(F:FnOk X.prog X.w X.K X.mg X.base CX k f fd ps sp)(hr:Room (k+1) X.A)(hb:Binds X.K fd ps ds)(hd:Vals dvs ds)
  (hx:JcH CX X E) (I:Inv X pins σ H s) (r:Vals vs us)
  (h:∀ x dx,H x=none->H dx=none->dx≠x->sp (.ref x::(vs++dvs)) (upd (upd H dx (.own x)) x (.ins C dx [])) (λv H2=>v=.non/\Q (.ref x) H2) E) :
  wpAny (model X.prog X.w) X.A (call (.ref C) us) (EP X pins σ Q) X.xe s:=by
 have b:=h (s.heap.objs.size+1) s.heap.objs.size (I.hok.fresh (Nat.le_succ _)) (I.hok.fresh (Nat.le_refl _)) (Nat.ne_of_lt (Nat.lt_succ_self _));have I2:=Inv.made (C:=C) I;have c:Vals (V.ref (s.heap.objs.size+1)::(vs++dvs)) (Value.ref (s.heap.objs.size+1)::(us++ds)):=.cons rfl (r.append hd);have m:(Value.ref (s.heap.objs.size+1)::us++ds).length=ps.length:=by
  have e:=c.length;rw[F.len _ _ _ _ b]at e;show e.symm
 show wpAny_call (JjN (f:=f) I.kIn M.makes M.init (beq_iff_eq.mp M.fn) (codeAny_mono (F.run _ X.stack _ _ ⟨Value.ref (s.heap.objs.size+1)::us,[]⟩ (Value.ref (s.heap.objs.size+1)::(us++ds)) _ _ E (hr.make C us [])
  (I2.env0.make C us []) (hb _ (Value.ref (s.heap.objs.size+1)::us) I2.kIn m) c b) λr j a=>?_))
 cases r with
 | error e=>show hx pins σ _ _ e j I2 a
 | ok fl=>
  cases fl with
  | ret u=>
   let(v,i,I3,g,l,d):=I2.after a;subst l;show(g,⟨V.ref (s.heap.objs.size+1),i,I3,rfl,d⟩)
  | next=>show False.elim a
  | brk=>show False.elim a
  | cont=>show False.elim a
theorem JlA(M:Mk X.K C f)(F:FnOk X.prog X.w X.K X.mg X.base CX k f fd ps sp)(hr:Room (k+1) X.A)(hg:Gl X x)(hm:X.mg x=some (.ref C))(hb:Binds X.K fd ps ds)(hd:Vals dvs ds)(hx:JcH CX X E)
  (ha:PA X (e::es) t) (hdb:autoParam ((x == ("__debug__" : Str))=false) Au) (he:autoParam (starEach (e::es) X.env=(false,eval e X.env)::starEach es X.env) Au) (hpl:autoParam ((backTo pos (starEach es X.env)).any (·.1)=false) Au) :
  PE X (.Call (.Name x p) (e::es) [] pos) (tMake C sp dvs E t):=by
 intro a s σ H Q I h;show wpAny_Call_Name_kw (Jel I hg hm ?_ hdb);show W.callWith_K (h₀:=X.base) I.ok.mod.kin M.kp (thn (ha pos a s σ H _ I h) λb g ζ=>?_) he hpl;let(c,d,I1,r,q):=ζ;show(I1.kIn,?_);show JhC M F hr hb hd hx I1 r q
theorem JjX(M:Mk X.K C f)(F:FnOk X.prog X.w X.K X.mg X.base CX k f fd ps sp)(hr:Room (k+1) X.A)(hg:Gl X x)(hm:X.mg x=some (.ref C))(hb:Binds X.K fd ps ds)(hd:Vals dvs ds)(hx:JcH CX X E)
  (hdb:autoParam ((x == ("__debug__" : Str))=false) Au):PE X (.Call (.Name x p) [] [] pos) (tMake C sp dvs E tNil):=by
 intro a s σ H Q I h;show wpAny_Call_Name_kw (Jel I hg hm ?_ hdb);show W.callWith_K0 I.kIn M.kp (JhC (us:=[]) M F hr hb hd hx I .nil h)
end
section
variable{CX:CXT}{ks:List Str}{sp:Sp}{E:XK}{x:Str}{p apos kpos:Pos}{o:Expr}{kws:List Keyword}{tk:TA}{nm:Option Str}{k:Nat}{f:Addr}{m:Str}{t:TA}{gV:List V->List V->List V}{g:List Value->List Value->List Value}
end
structure Jan(N P:List Str)(sc:Scope):Prop where
 kind:sc.kind=.function
 co:sc.isCoroutine=false
 gen:sc.isGenerator=false
 nd:N.Nodup
 pre:N.take P.length=P
 par:∀ x∈P,sc.names.lookup x=some .local\/sc.names.lookup x=some .cell
 nofree:∀ y∈sc.names,y.2≠.free
variable{kindOf:Str->Option NameKind}{x:Str}
theorem Jf3:∀{binds:List (Str × Value)}{m:Str->Option Value},(∀ v,(x,v)∉binds)->bindL kindOf binds m x=m x
 | [],_,_=>rfl
 | (n,v)::r,m,h=>by
  unfold bindL;rw[Jf3 λw hw=>h w (mem_cons_of_mem _ hw)];split
  .have : x≠n:=by rintro rfl;show h v mem_cons_self
   simp[this]
  .rfl
theorem Jf1:∀{binds:List (Str × Value)}{m:Str->Option Value},(∀ v,(x,v)∉binds)->bindC kindOf binds m x=m x
 | [],_,_=>rfl
 | (n,v)::r,m,h=>by
  unfold bindC;rw[Jf1 λw hw=>h w (mem_cons_of_mem _ hw)];split
  .rfl
  .have : x≠n:=by rintro rfl;show h v mem_cons_self
   simp[this]
variable{v:Value}
theorem Jf2:∀{P:List Str}{vs:List Value}{i:Nat}{m:Str->Option Value},P.Nodup->P[i]?=some x->vs[i]?=some v->kindOf x=some .local ->
  bindL kindOf (P.zip vs) m x=some v
 | [],_,_,_,_,h,_,_=>by simp at h
 | _::_,[],_,_,_,_,h,_=>by simp at h
 | p::P,w::vs,0,m,nd,h1,h2,hk=>by
  simp at h1 h2;subst h1;subst h2;show bindL kindOf ((p,w)::P.zip vs) m p=_;unfold bindL;rw[Jf3 λv hv=>(nodup_cons.mp nd).1 (of_mem_zip hv).1,if_pos hk];simp
 | p::P,w::vs,i+1,m,nd,h1,h2,hk=>by
  show bindL kindOf ((p,w)::P.zip vs) m x=_;unfold bindL;show Jf2 (i:=i) (nodup_cons.mp nd).2 (by simpa using h1) (by simpa using h2) hk
theorem Jf0:∀{P:List Str}{vs:List Value}{i:Nat}{m:Str->Option Value},P.Nodup->P[i]?=some x->vs[i]?=some v->kindOf x≠some .local ->
  bindC kindOf (P.zip vs) m x=some v
 | [],_,_,_,_,h,_,_=>by simp at h
 | _::_,[],_,_,_,_,h,_=>by simp at h
 | p::P,w::vs,0,m,nd,h1,h2,hk=>by
  simp at h1 h2;subst h1;subst h2;show bindC kindOf ((p,w)::P.zip vs) m p=_;unfold bindC;rw[Jf1 λv hv=>(nodup_cons.mp nd).1 (of_mem_zip hv).1,if_neg hk];simp
 | p::P,w::vs,i+1,m,nd,h1,h2,hk=>by
  show bindC kindOf ((p,w)::P.zip vs) m x=_;unfold bindC;show Jf0 (i:=i) (nodup_cons.mp nd).2 (by simpa using h1) (by simpa using h2) hk
def start(N:List Str)(vs:List V):St:=vs.map some++List.replicate (N.length-vs.length) none
def cxOf(CX:CXT)(P:Program)(w:World)(K:W.Frag)(mg:Str->Option Value)(base:Heap)(N:List Str)(qual:Str)(scope:Scope)(f:Addr)(cd:Value)(A:Around)(outer:List Env)(s:Shared)(H:Hp)(E:XK):Cx where
 prog:=P
 w:=w
 K:=K
 mg:=mg
 base:=base
 A:=A.deeper (envOfC qual scope s.heap.objs.size f cd)
 N:=N
 s₀:=s
 H₀:=H
 env:=envOfC qual scope s.heap.objs.size f cd
 outer:=outer
 stack:=envOfC qual scope s.heap.objs.size f cd::outer
 ex:=[]
 calm:=true
 fn:=λ_=>true
 pn:=[]
 xe:=λe s'=>wpAny (model P w) (A.deeper (envOfC qual scope s.heap.objs.size f cd)) (leaving (envOfC qual scope s.heap.objs.size f cd) e) (λ_ s''=>CX outer H s E e s'') (λe' s''=>CX outer H s E e' s'') s'
theorem Jhf{sc:Scope}(h:sc.names.lookup x=some .cell):∃ c,(cellsFrom n sc.names []).lookup x=some c:=by
 have q:=W.cellsFrom_some sc.names n [] (.inl h);show Option.isSome_iff_exists.mp q
variable{CX:CXT}{qual:Str}{scope:Scope}
theorem JiG{w:World}{K:W.Frag}{N:List Str}{f:Addr}{cd:Value}{s s1:Shared}{E:XK}{vs:List V}
  (S:Jan N ps scope) (hd:A.handled=none) (e0:Env0 P w K mg base A outer s H) (hl:vs.length=ps.length) (r:Vals vs us)
  (x:InCallC s s.heap.objs.size (bindL (envOfC qual scope s.heap.objs.size f cd).kindOf (ps.zip us) λ_=>none) (cellsFrom (s.heap.objs.size+1) scope.names []) (bindC (envOfC qual scope s.heap.objs.size f cd).kindOf (ps.zip us) λ_=>none) s1) :
  Inv (cxOf CX P w K mg base N qual scope f cd A outer s H E) [] (start N vs) H s1:=by
 have F:ps.length<=N.length:=by have:=congrArg List.length S.pre;rw[length_take]at this;ac_nf
 let(o,I,rfl,C):=x.done;have j:∀ b:Addr,b∉(cxOf CX P w K mg base N qual scope f cd A outer s H E).ex:=λb z=>absurd (show b∈([]:List Addr)from z) (by simp);show(⟨e0.mod,S.kind,rfl,rfl,Nat.le_refl _,λy z c o d=>?_,λy g=>?_,λy c _ h=>?_,λ_=>hd,Around.frames_deeper e0.frames, .inr ⟨rfl,rfl⟩,λb z=>absurd z (j b),e0.bs,e0.bsz,λb _ _=>j b,λb z=>absurd z (j b),e0.funs,e0.frf⟩,
  rfl,e0.bare,Un.kept C,⟨_,x.toInCall.ns,λi y v o d J=>?_⟩,λy c h=>⟨_,x.cell y c h⟩,e0.hok.fresh (Nat.le_refl _),λy c h=>?_,λp l=>absurd (show p∈([]:List (Addr × Obj))from l) (by simp),e0.hok.kept C,?_)
 .show name_of_addr x.apart (PySem.mem_of_lookup o) (PySem.mem_of_lookup d)
 .have g:scope.names.lookup y=some .cell\/scope.names.lookup y=some .free:=g;rcases g with g | g
  .show Jhf g
  .show absurd rfl (S.nofree _ (PySem.mem_of_lookup g))
 .show Nat.le_of_lt (x.above y c (PySem.mem_of_lookup h))
 .have t:i<vs.length:=by
   unfold start at d;by_cases t:i<vs.length
   .show t
   .rw[List.getElem?_append_right (by simpa using t)]at d;rw[List.getElem?_replicate]at d;split at d <;> cases d
  have G:vs[i]?=some v:=by
   unfold start at d;rw[List.getElem?_append_left (by simpa using t),List.getElem?_map]at d;cases e:vs[i]? with
   | none=>rw[e]at d;cases d
   | some a=>rw[e]at d;cases d;rfl
  let(u,B,D):=r.get G;have l:ps[i]?=some y:=by
   rw[<- S.pre,List.getElem?_take_of_lt ∅];show o
  have m:ps.Nodup:=by rw[<- S.pre];show S.nd.sublist (List.take_sublist _ _)
  show(u,D,?_);rcases S.par y (List.mem_of_getElem? l)with k | k
  .show .inl ⟨k,Jf2 m l B k⟩
  .let(c,e):=Jhf (n:=s.heap.objs.size+1) k;show .inr ⟨.inl k,c,e,?_⟩;have q:=x.cell y c e;rw[Jf0 m l B (by show scope.names.lookup y≠_;rw[k];decide)]at q;show q
 .show e0.hok.fresh (Nat.le_of_lt (x.above y c (PySem.mem_of_lookup h)))
 .unfold start;show _=N.length;rw[length_append,length_map,List.length_replicate];ac_nf
theorem fn_of{w:World}{K:W.Frag}{k:Nat}{f:Addr}{name:Str}{params:Arguments}{dV kV doc pm cdv ct oc:Value}{an od:Option Addr}
  {osl:Array (Option Value)} {N ps:List Str} {sp:Sp} (lk:K.lookup f=some ⟨oc,od, .func (W.fnOf name qual params body scope dV kV doc pm an cdv ct),osl⟩) (hcd:W.codeIn K cdv qual=true) (S:Jan N ps scope)
  (len:∀ vs H Q E,sp vs H Q E->vs.length=ps.length)
  (hbody:∀(A:Around)(outer:List Env)(s:Shared)(H:Hp)(vs:List V)(Q:VK)(E:XK),Room k (A.deeper (envOfC qual scope s.heap.objs.size f cdv))->sp vs H Q E ->
   ∃ t,PSs (cxOf CX P w K mg base N qual scope f cdv A outer s H E) body t/\t { nx:=λ_ H'=>Q .non H',rt:=Q } (start N vs) H) :
  FnOk P w K mg base CX (k+1) f (W.fnOf name qual params body scope dV kV doc pm an cdv ct) ps sp:=by
 show(len,λA outer s H p C vs Q E l d R r g=>?_);have D:=len _ _ _ _ g;have KX:K.In s.heap:=d.mod.kin.keeps λb o e=>(d.bs b o e).1;have j:s.heap.NoLimit:=d.mod.nolimit.keeps λb o e=>(d.bs b o e).1;have a:∀ y∈ps.zip C,scope.names.lookup y.1=some .local\/(scope.names.lookup y.1=some .cell/\((cellsFrom (s.heap.objs.size+1) scope.names []).lookup y.1).isSome=true):=λ⟨n,v⟩ G=>by
  rcases S.par n (of_mem_zip G).1 with q | q
  .show .inl q
  .show .inr ⟨q,W.cellsFrom_some _ _ _ (.inl q)⟩
 show codeAny_call_function l.depth (KX _ _ lk) rfl S.co S.gen rfl (W.codeRec_of KX hcd) (R _ _ _ _ ?_);show wpAny_newFunctionEnv_cells S.kind a λL O z x=>?_;subst O;show(j.keeps x.toInCall.keep,codeAny_func ?_);let(t,F,B):=hbody A outer s H vs Q E (l.deeper _) g;have I:Inv (cxOf CX P w K mg base N qual scope f cdv A outer s H E) [] (start N vs) H z:=JiG S l.hd d D r x;show wpAny_mono (F [] z (start N vs) H _ I B) (λM m c=>?_) λe m c=>c;have h:∀{σ':St}{H':Hp}{v:V}{u:Value},Inv (cxOf CX P w K mg base N qual scope f cdv A outer s H E) [] σ' H' m->RelV v u->Q v H'->CE outer P w H s Q u m :=
  λ{σ' H' v u} J i q=>⟨v,H',J.os,J.bare,J.base,J.hok,i,q⟩
 cases M with
 | ret u=>
  let(v,σ',H',J,i,q):=c;show h J i q
 | next=>
  let(σ',H',J,q):=c;show h (v:=V.non) (u:=Value.none) J rfl q
 | brk=>
  let(_,_,_,q):=c;show False.elim q
 | cont=>
  let(_,_,_,q):=c;show False.elim q
section
variable{p:Pos}{id T:String}{r:List V->Hp->VK->Prop}{t:TA}
def tCB(r:List V->Hp->VK->Prop)(t:TA):TE:=λσ H Q=>t σ H λvs H1=>r vs H1 Q
theorem Jaw(hc:CallR X (.builtin id) r)(hg:Gl X x)(hm:X.mg x=none)(hv:bootBuiltins x=some (.builtin id))(ha:PA X (e::es) t)(hn:autoParam (x≠"__name__") Au)(hdb:autoParam ((x == ("__debug__" : Str))=false) Au)
  (he:autoParam (starEach (e::es) X.env=(false,eval e X.env)::starEach es X.env) Au) (hpl:autoParam ((backTo pos (starEach es X.env)).any (·.1)=false) Au):PE X (.Call (.Name x p) (e::es) [] pos) (tCB r t):=by
 intro a s σ H Q I h;show wpAny_Call_Name_kw (Jfa I hg hm hv ?_ hn hdb);show PyProof.Rows.callWith_builtin1 (thn (ha pos a s σ H _ I h) λc g ζ=>by let(d,f,I1,i,b):=ζ;show hc a g σ f d c Q I1 i b) he hpl
theorem JeF(hc:CallR X (.type T) r)(hg:Gl X x)(hm:X.mg x=none)(hv:bootBuiltins x=some (.type T))(ha:PA X (e::es) t)(hn:autoParam (x≠"__name__") Au)(hdb:autoParam ((x == ("__debug__" : Str))=false) Au)
  (he:autoParam (starEach (e::es) X.env=(false,eval e X.env)::starEach es X.env) Au) (hpl:autoParam ((backTo pos (starEach es X.env)).any (·.1)=false) Au):PE X (.Call (.Name x p) (e::es) [] pos) (tCB r t):=by
 intro a s σ H Q I h;show wpAny_Call_Name_kw (Jfa I hg hm hv ?_ hn hdb);show PyProof.Rows.callWith_type1 (thn (ha pos a s σ H _ I h) λc g ζ=>by let(d,f,I1,i,b):=ζ;show hc a g σ f d c Q I1 i b) he hpl
end
end L2
namespace HT
open PySem PyProof.Rows
section
open PySem.SeqAt
open PySem.AutoSeq1 (wpAny_loadPart')
open PySem.MeetsSeq PySem.MeetsSeq2 PySem.MeetsSeq3
end
section
variable{prog:Program}{A:Around}{E:Value->Shared->Prop}{w:World}{s:Shared}
theorem cat_tup{t b:Addr}{vs ws:List Value}{Q:Value->Shared->Prop}(ht:IsTup s.heap t vs.toArray)(hb:IsTup s.heap b ws.toArray)(hv:vs≠[])
  (h1:ws=[]->Q (.ref t) s) (h2:ws≠[]->Q (.ref s.heap.objs.size) { s with heap:=s.heap.push { cls:=.type "tuple",data:=.seq (vs++ws).toArray } })
  (hsz:vs.length+ws.length<=sizeLine):wpAny (model prog w) A (binaryOp .Add (.ref t) (.ref b)) Q E s:=by
 let((cls,q,data,k),i,p,n,m):=id ht;let((l,d,j,c),a,f,o,g):=id hb;simp only at p m f g;subst p m f g;have e:vs.toArray++ws.toArray=(vs++ws).toArray:=by simp
 by_cases h:ws=[]
 .show concat_meets ⟨_,i,rfl⟩ ⟨_,a,rfl⟩ noFill_tuple_add seq_tuple_add PySem.F.slot_tuple_add PySem.F.entry_tuple_add (PySem.F.args_tuple_add_2 _ _)
   (tuple_addW1 t b vs.toArray ws.toArray n o q d k c (by simpa using hv) (by simp[h])) ⟨i,a,h1 h⟩
 .show concat_meets ⟨_,i,rfl⟩ ⟨_,a,rfl⟩ noFill_tuple_add seq_tuple_add PySem.F.slot_tuple_add PySem.F.entry_tuple_add (PySem.F.args_tuple_add_2 _ _)
   (tuple_addW2 t b vs.toArray ws.toArray n o q d k c (by simpa using hv) (by simpa using h) (by rw[size_toArray,size_toArray];show hsz)) ⟨i,a,?_⟩
  rw[e];show h2 h
def sIx(n d:Nat):Option Int->Nat
 | none=>d
 | some v=>if v<0 then(v+(n:Int)).toNat else min v.toNat n
theorem sIx_nat(n d k:Nat):sIx n d (some (k:Int))=min k n:=by
 show(if(k:Int)<0 then((k:Int)+(n:Int)).toNat else min (k:Int).toNat n)=min k n;rw[if_neg ∅,Int.toNat_natCast]
theorem Jms(n d:Nat)(hd:d<=n)(o:Option Int):sIx n d o<=n:=by
 cases o with
 | none=>show hd
 | some v=>
  show(if v<0 then(v+(n:Int)).toNat else min v.toNat n)<=n;by_cases a:v<0
  .rw[if_pos a];ac_nf
  .rw[if_neg a];show Nat.min_le_right _ _
theorem Jik(v:Int)(n d:Nat):(if v<0 then max (v+(n:Int)) 0 else min v (n:Int))=((sIx n d (some v):Nat):Int):=by
 show(if v<0 then max (v+(n:Int)) 0 else min v (n:Int))=(((if v<0 then(v+(n:Int)).toNat else min v.toNat n):Nat):Int);by_cases a:v<0
 .simp only[if_pos a];ac_nf
 .simp only[if_neg a];ac_nf
theorem JhK(lo hi:Option Int)(n:Nat):Builtin.Slice.sliceAdjust lo hi 1 (n:Int)=(((sIx n 0 lo:Nat):Int),((sIx n n hi:Nat):Int)):=by
 have a:¬((1:Int)<0):=by ac_nf
 unfold Builtin.Slice.sliceAdjust;simp only[a,if_false];show Prod.ext ?_ ?_
 .cases lo with
  | none=>rfl
  | some v=>show Jik v n 0
 .cases hi with
  | none=>rfl
  | some v=>show Jik v n n
theorem Jh4(i j:Nat):Builtin.Slice.slicePlaces (i:Int) (j:Int) 1=j-i:=by
 unfold Builtin.Slice.slicePlaces;have a:(1:Int) > 0:=by ac_nf
 simp only[a,if_true,Int.ediv_one];split <;> ac_nf
theorem Jff{v:Value}{o:Option Int}{Q:Option Int->Shared->Prop}(p:IsPart v o)(h:Q o s):wpAny (model prog w) A (Builtin.Slice.slicePartIndex v) Q E s:=by
 cases p with
 | none=>show slicePart_none h
 | int i t=>show slicePart_int h
variable{sl:Addr}{vu:Value}{hi:Option Int}
theorem Jd0{vl:Value}{lo:Option Int}{n:Nat}{Q:Int × Int × Nat->Shared->Prop}(hs:s.heap.IsSliceOf sl vl vu .none)(pl:IsPart vl lo)(pu:IsPart vu hi)
  (h:Q (((sIx n 0 lo:Nat):Int),1,sIx n n hi-sIx n 0 lo) s):wpAny (model prog w) A (Builtin.Slice.sliceApplied (.ref sl) (pure (n:Int))) Q E s:=by
 let(d,b,c,a):=id hs;unfold Builtin.Slice.sliceApplied Builtin.Slice.sliceFields;show wpAny_bind (wpAny_bind (wpAny_field b a (x:=vl) rfl (wpAny_bind (wpAny_field b a (x:=vu) rfl (wpAny_bind (wpAny_field b a (x:=.none) rfl (wpAny_pure ?_)))))));show wpAny_bind (slicePart_none ?_);show wpAny _ _ (if((1:Int) == 0)=true then _ else _) _ _ s;rw[if_neg ⋯];show wpAny_bind (Jff pl (wpAny_bind (Jff pu (wpAny_bind (wpAny_pure ?_)))));show wpAny _ _ (match Builtin.Slice.sliceAdjust lo hi 1 (n:Int)with | (lo,hi)=>pure (lo,(1:Int),Builtin.Slice.slicePlaces lo hi 1)) _ _ s;rw[JhK lo hi n];show wpAny _ _ (pure (((sIx n 0 lo:Nat):Int),(1:Int),Builtin.Slice.slicePlaces ((sIx n 0 lo:Nat):Int) ((sIx n n hi:Nat):Int) 1)) _ _ s;rw[Jh4];show wpAny_pure h
theorem JjY(xs:Array Value)(i k:Nat):((List.range k).filterMap λ(m:Nat)=>xs[((i:Int)+(m:Int)*1).toNat]?).toArray=((xs.toList.drop i).take k).toArray:=by
 have e:(λ(m:Nat)=>xs[((i:Int)+(m:Int)*1).toNat]?)=λm=>xs[i+m]?:=by
  funext m
  have : ((i:Int)+(m:Int)*1).toNat=i+m:=by ac_nf
  rw[this]
 rw[e];have:=pick_run xs i k;rw[List.filterMap_map]at this;have a:((λx=>xs[x]?) ∘ λx=>i+x)=λm=>xs[i+m]?:=rfl;rw[a]at this;rw[this]
theorem getItem_tuple_cut{t:Addr}{items:Array Value}{vl:Value}{lo:Option Int}{Q:Value->Shared->Prop}(ht:IsTup s.heap t items)(hs:s.heap.IsSliceOf sl vl vu .none)(pl:IsPart vl lo)(pu:IsPart vu hi)
  (hw:¬(sIx items.size 0 lo=0/\sIx items.size items.size hi=items.size))
  (h:Q (.ref s.heap.objs.size) { s with heap:=s.heap.push { cls:=.type "tuple",data:=.seq ((items.toList.drop (sIx items.size 0 lo)).take (sIx items.size items.size hi-sIx items.size 0 lo)).toArray } })
  (hsz:items.size<=sizeLine):wpAny (model prog w) A (getItem (.ref t) (.ref sl)) Q E s:=by
 have a:sizeOk (.seq ((items.toList.drop (sIx items.size 0 lo)).take (sIx items.size items.size hi-sIx items.size 0 lo)).toArray):=by
  show((items.toList.drop (sIx items.size 0 lo)).take (sIx items.size items.size hi-sIx items.size 0 lo)).toArray.size<=sizeLine;rw[size_toArray,length_take,List.length_drop,Array.length_toList];omega
 have i:sIx items.size items.size hi<=items.size:=Jms _ _ (Nat.le_refl _) hi;let(g,e,b,f):=id hs;have d:s.TypeIs (.ref sl) "slice":=⟨g,e,b⟩;unfold getItem;try with_reducible show wpAny_holding ?_
 first | show wpAny_bind (wpAny_pure ?_) | skip
 show wpAny_bind (wpAny_sequenceKey ht.typeIs ⋯ ?_);show wpAny_bind (wpAny_callSpecial?_slot (name:=Str.ofString "__getitem__") ht.typeIs PyProof.Rows.slot_tuple_getitem
  (wpAny_call_entry PyProof.Rows.slot_tuple_getitem ht.typeIs entry_tuple_getitem ?_ (args_tuple_getitem _ _)))
 show wpAny _ _ (Builtin.Tuple.tupleItemsOf (.ref t) >>= _) _ _ s;show wpAny_bind (tupleItemsOf_ ht ?_);show wpAny_bind (wpAny_typeOf d ?_);rw[if_pos ⋯];show wpAny_bind (Jd0 hs pl pu ?_);have c:¬((((sIx items.size 0 lo:Nat):Int) == 0&&(1:Int) == 1&&(sIx items.size items.size hi-sIx items.size 0 lo) == items.size)=true):=by
  intro q;rw[Bool.and_eq_true,Bool.and_eq_true]at q;have j:((sIx items.size 0 lo:Nat):Int)=0:=eq_of_beq q.1.1;have k:sIx items.size items.size hi-sIx items.size 0 lo=items.size:=eq_of_beq q.2;show hw ⟨by omega,by omega⟩
 show wpAny _ _ (if(((sIx items.size 0 lo:Nat):Int) == 0&&(1:Int) == 1&&(sIx items.size items.size hi-sIx items.size 0 lo) == items.size)=true then _ else _) _ _ s;rw[if_neg c,JjY];first
  | show wpAny_bind (m:=Builtin.Tuple.tupleExact _) (wpAny_newObj_type (wpAny_pure ⟨_,rfl,wpAny_pure h⟩) a)
  | show wpAny_bind (m:=Builtin.Tuple.tupleExact _) (wpAny_newObj_type (wpAny_bind (wpAny_pure (wpAny_pure ⟨_,rfl,wpAny_pure h⟩))) a)
  | show wpAny_bind (wpAny_bind (m:=Builtin.Tuple.tupleExact _) (wpAny_newObj_type (wpAny_pure (wpAny_pure ⟨_,rfl,wpAny_pure h⟩)) a))
  | show wpAny_bind (wpAny_bind (m:=Builtin.Tuple.tupleExact _) (wpAny_newObj_type (wpAny_pure ⟨_,rfl,wpAny_pure h⟩) a))
end
end HT
namespace L2
open PySem PySem.Spec PyProof.Rows
abbrev TO:=St->Hp->(Option Int->Hp->Prop)->Prop
def PO(X:Cx)(e:Option Expr)(t:TO):Prop :=
 ∀(pins:List (Addr × Obj))(s:Shared)(σ : St)(H:Hp)(Q:Option Int->Hp->Prop),Inv X pins σ H s->t σ H Q ->
  wpAny (model X.prog X.w) X.A (evalPart e X.env) (λu s'=>∃ o H',Inv X pins σ H' s'/\IsPart u o/\Q o H') X.xe s
def Jjm:TO:=λ_ H Q=>Q none H
def tPart(t:TE):TO:=λσ H Q=>t σ H λx H1=>∃ i,x=.int i/\Q (some i) H1
section
variable{X:Cx}{e:Expr}{te:TE}{hi:Option Expr}{tl th:TO}{pos p2:Pos}{lo:Option Expr}
theorem Jg2:PO X none Jjm:=by
 intro a s σ H Q I h;rw[evalPart_none];show wpAny_pure ⟨none,H,I, .none,h⟩
theorem JeG(h:PE X e te):PO X (some e) (tPart te):=by
 intro a s σ H Q I b;rw[evalPart_some];show thn (h a s σ H _ I b) λu g ζ=>?_;let(x,d,I1,f,c):=ζ;let(i,rfl,q):=c;let(t,rfl):=f;show(some i,d,I1, .int i t,q)
def SlR(X:Cx)(r:V->Option Int->Option Int->Hp->VK->Prop):Prop :=
 ∀(pins:List (Addr × Obj))(s:Shared)(σ : St)(H:Hp)(x:V)(v vl vu:Value)(lo hi:Option Int)(sl:Addr)(Q:VK),Inv X pins σ H s->RelV x v->s.heap.IsSliceOf sl vl vu .none->IsPart vl lo->IsPart vu hi->r x lo hi H Q ->
  ∃ T id,typeLookup (.type T) "__getitem__"=pure (some (.builtin id))/\s.TypeIs v T/\wpAny (model X.prog X.w) X.A (getItem v (.ref sl)) (EP X pins σ Q) X.xe s
variable{r:V->Option Int->Option Int->Hp->VK->Prop}
theorem SlR.or{r':V->Option Int->Option Int->Hp->VK->Prop}(h:SlR X r)(h':SlR X r'):SlR X (λx lo hi H Q=>r x lo hi H Q\/r' x lo hi H Q):=by
 intro a s σ H x v vl f lo hi c Q I e d b g q;rcases q with q | q
 .show h a s σ H x v vl f lo hi c Q I e d b g q
 .show h' a s σ H x v vl f lo hi c Q I e d b g q
def tSl(r:V->Option Int->Option Int->Hp->VK->Prop)(te:TE)(tl th:TO):TE:=λσ H Q=>te σ H λx H1=>tl σ H1 λl H2=>th σ H2 λu H3=>r x l u H3 Q
theorem Jd7(hr:SlR X r)(he:PE X e te)(hl:PO X lo tl)(hu:PO X hi th):PE X (.Subscript e (.Slice lo hi none p2) pos) (tSl r te tl th):=by
 intro a s σ H Q I h;show Subscript_ (thn (he a s σ H _ I h) λv z ζ=>?_);let(x,i,I1,B,y):=ζ;show wpAny_Slice (thn (hl a z σ i _ I1 y) λvl g ζ=>?_);let(l,p,I2,t,m):=ζ;show thn (hu a g σ p _ I2 m) λd c ζ=>?_;let(u,f,I3,C,k):=ζ;rw[evalPart_none];show wpAny_pure ?_;have I4:Inv X a σ f { c with heap:=c.heap.push { cls:=.type "slice",data:=.fields #[vl,d, .none] } }:=I3.kept (t':=c.toks) λb D q=>Heap.get?_push_of_some _ q;let(T,id,o,n,j):=hr a { c with heap:=c.heap.push { cls:=.type "slice",data:=.fields #[vl,d, .none] } } σ f x v vl d l u c.heap.objs.size Q I4 B (Heap.IsSliceOf.new ..) t C k;show wpAny (model X.prog X.w) X.A (subscriptTail e (.Slice lo hi none p2) v (.ref c.heap.objs.size)) (EP X a σ Q) X.xe { c with heap:=c.heap.push { cls:=.type "slice",data:=.fields #[vl,d, .none] } };show tail_any (ops:=[.ref c.heap.objs.size,v]) n o j (by with_unfolding_all rfl)
def cutV(xs:List V)(lo hi:Option Int):List V:=(xs.drop (HT.sIx xs.length 0 lo)).take (HT.sIx xs.length xs.length hi-HT.sIx xs.length 0 lo)
theorem Jee(xs:List V)(lo hi:Option Int):(cutV xs lo hi).length<=xs.length:=by
 unfold cutV;rw[length_take,List.length_drop];ac_nf
def rSlT(K:W.Frag):V->Option Int->Option Int->Hp->VK->Prop:=λx lo hi H Q=>∃ a xs,x=.ref a/\SqT K H a xs /\
 ¬(HT.sIx xs.length 0 lo=0/\HT.sIx xs.length xs.length hi=xs.length)/\∀ p,H p=none->Q (.ref p) (upd H p (.tup (cutV xs lo hi)))
theorem Jmv:SlR X (rSlT X.K):=by
 intro j s σ H x v vl z e g w Q I m l n u h;let(a,d,rfl,t,p,q):=h;cases m;let(f,r,k,i):=I.tuple t;have c:f.toArray.size=d.length:=by rw[size_toArray];show r.length.symm
 show("tuple",_,PyProof.Rows.slot_tuple_getitem.lookup,k.typeIs,?_);show HT.getItem_tuple_cut k l n u (by rw[c];show p) ?_ (by rw[c];show i);rw[c];show(.ref s.heap.objs.size,_,I.laid (t':=s.toks) (o:=.tup (cutV d e g)) (λb y q=>Heap.get?_push_of_some _ q) (Nat.le_refl _) ?_,rfl,q _ (I.hok.fresh (Nat.le_refl _)));show(Nat.le_trans (Jee d e g) i,_,(r.drop (HT.sIx d.length 0 e)).take (HT.sIx d.length d.length g-HT.sIx d.length 0 e),IsTup.new _ _)
def rCatT(K:W.Frag):R2:=λx y H Q=>∃ a b xs ys,x=.ref a/\y=.ref b/\SqT K H a xs/\SqT K H b ys/\xs≠[]/\xs.length+ys.length<=sizeLine /\
 (ys=[]->Q (.ref a) H)/\(ys≠[]->∀ p,H p=none->Q (.ref p) (upd H p (.tup (xs++ys))))
variable{xs:List V}{us:List Value}
theorem Vals.nil_iff(r:Vals xs us):us=[]↔xs=[]:=by
 cases r with
 | nil=>simp
 | cons _ _=>simp
theorem Jlq:OpR X (binaryOp .Add) (rCatT X.K):=by
 intro f s σ H x y v u Q I j l h;let(a,b,r,i,rfl,rfl,n,C,t,e,p,m):=h;cases j;cases l;let(A,d,k,_):=I.tuple n;let(g,c,B,_):=I.tuple C;show HT.cat_tup k B (λz=>t (d.nil_iff.mp z)) (λz=>⟨.ref a,H,I,rfl,p (c.nil_iff.mp z)⟩) (λz=>?_) (by rw[<- d.length, <- c.length];show e);show(.ref s.heap.objs.size,_,I.laid (t':=s.toks) (o:=.tup (r++i)) (λb D q=>Heap.get?_push_of_some _ q) (Nat.le_refl _) ?_,rfl,m (λw=>z (c.nil_iff.mpr w)) _ (I.hok.fresh (Nat.le_refl _)));show(by rw[length_append];show e,_,d.append c,IsTup.new _ _)
end
def ixN(n:Nat)(i:Int):Option Nat:=if 0<=i then(if i<n then some i.toNat else none)else if -(n:Int)<=i then some (i+n).toNat else none
variable{α:Type}
def atI(xs:List α)(i:Int):Option α:=(ixN xs.length i).bind λj=>xs[j]?
variable{n j:Nat}
theorem Jk8{i:Int}(h:ixN n i=some j):seqIndex? i n=some j/\j<n/\-(n:Int)<=i/\i<n:=by
 unfold ixN at h;by_cases b:0<=i
 .rw[if_pos b]at h;by_cases a:i<n
  .rw[if_pos a]at h;have e:i.toNat=j:=Option.some.inj h;show(by rw[seqIndex_of b a,e],by ac_nf,by ac_nf,a)
  .rw[if_neg a]at h;cases h
 .rw[if_neg b]at h;by_cases a : -(n:Int)<=i
  .rw[if_pos a]at h;have e:(i+n).toNat=j:=Option.some.inj h;show(by rw[seqIndex_neg ∅ a,e],by ac_nf,a,by ac_nf)
  .rw[if_neg a]at h;cases h
theorem JgE{xs:List α}{i:Int}{v : α}(h:atI xs i=some v):∃ j,seqIndex? i xs.length=some j/\xs[j]?=some v/\j<xs.length/\-(xs.length:Int)<=i/\i<xs.length:=by
 unfold atI at h;cases e:ixN xs.length i with
 | none=>rw[e]at h;cases h
 | some j=>
  rw[e]at h;let(d,c,a,b):=Jk8 e;show(j,d,h,c,a,b)
theorem Jch{xs:List α}{v : α}(h:xs[j]?=some v):atI xs (j:Int)=some v:=by
 have a:j<xs.length:=(List.getElem?_eq_some_iff.mp h).1;have e:ixN xs.length (j:Int)=some j:=by
  unfold ixN;rw[if_pos ∅,if_pos ∅];simp
 unfold atI;rw[e];show h
def JkP(b:Expr):Prop:=∀ o i,subscripted b false o i=operate [o,i] (getItem o i)
def IxR(X:Cx)(r:R2):Prop :=
 ∀(value slice:Expr)(pins:List (Addr × Obj))(s:Shared)(σ : St)(H:Hp)(x y:V)(v u:Value)(Q:VK),Inv X pins σ H s->RelV x v->RelV y u->r x y H Q ->
  subscripted slice false v u=operate [v,u] (getItem v u)->wpAny (model X.prog X.w) X.A (subscriptTail value slice v u) (EP X pins σ Q) X.xe s
def MtR(X:Cx)(id:String)(r:V->List V->Hp->VK->Prop):Prop :=
 ∀(pins:List (Addr × Obj))(s:Shared)(σ : St)(H:Hp)(x:V)(xs:List V)(v:Value)(us:List Value)(Q:VK),Inv X pins σ H s->RelV x v->Vals xs us->r x xs H Q ->
  wpAny (model X.prog X.w) X.A (call (.builtin id) (v::us)) (EP X pins σ Q) X.xe s
section
variable{X:Cx}{a b:Expr}{ta tb:TE}{pos:Pos}
theorem pe_ix{r:R2}(hr:IxR X r)(ha:PE X a ta)(hb:PE X b tb)(hs:autoParam (JkP b) Au):PE X (.Subscript a b pos) (tOp r ta tb):=by
 intro c s σ H Q I h;show Subscript_ (binT ha hb I h λv u f x y g I2 e d q=>hr a b c f σ g x y v u Q I2 e d q (hs _ _))
def rIxL(K:W.Frag):R2:=λx y H Q=>∃ p xs i v,x=.ref p/\y=.int i/\SqL K H p xs/\atI xs i=some v/\Q v H
def rIxT(K:W.Frag):R2:=λx y H Q=>∃ p xs i v,x=.ref p/\y=.int i/\SqT K H p xs/\atI xs i=some v/\Q v H
def rIxS:R2:=λx y H Q=>∃ z i c,x=.str z/\y=.int i/\z.length<=sizeLine/\atI z.cps.toList i=some c/\Q (.str ⟨#[c]⟩) H
theorem Jk9:IxR X (rIxL X.K):=by
 intro d k a s σ H x y v u Q I C E h m;let(p,O,i,z,rfl,rfl,B,F,q):=h;cases C;let(t,rfl):=E;let(l,r,g,M):=I.list B;let(j,c,L,P,J,A):=JgE F;let(w,n,e):=r.get L;have D:=r.length;have N:=Jfb;have b:EP X a σ Q w s:=⟨z,H,I,e,q⟩;by_cases o:0<=i
 .have f:i.toNat=j:=by
   rw[seqIndex_of o A]at c;show Option.some.inj c
  show item_listR g.isList o ∅ (by rw[f];simpa using n) b m
 .have f:(i+(l.toArray.size:Int)).toNat=j:=by
   rw[seqIndex_neg ∅ J]at c;rw[size_toArray, <- D];show Option.some.inj c
  show subscriptTail_builtinR (x:=w) g.isList.typeIs slot_list_getitem.lookup
   (wpAny_getItem_list_neg (Q:=λr G=>r=w/\EP X a σ Q r G) g.isList ∅ (by rw[size_toArray] <;> ac_nf) ∅ (by rw[f];simpa using n) ⟨rfl,b⟩) m
theorem Jl2:IxR X (rIxT X.K):=by
 intro b d a s σ H x y v u Q I l o h k;let(p,L,i,z,rfl,rfl,g,C,q):=h;cases l;let(t,rfl):=o;let(B,r,f,G):=I.tuple g;let(j,n,E,M,N,F):=JgE C;let(w,A,c):=r.get E;have m:=r.length;have J:=Jfb;have e:EP X a σ Q w s:=⟨z,H,I,c,q⟩;show subscriptTail_builtinR (x:=w) f.typeIs slot_tuple_getitem.lookup
  (getItem_tuple (j:=j) (Q:=λr D=>r=w/\EP X a σ Q r D) f ∅ ∅ (by rw[size_toArray, <- m];show n) (by simpa using A) ⟨rfl,e⟩) k
theorem Jl1:IxR X rIxS:=by
 intro a b d s σ H x y v u Q I k n h g;let(z,i,c,rfl,rfl,A,p,q):=h;let(t,rfl):=k;let(C,rfl):=n;let(j,e,w,D,r,f):=JgE p;have m:z.cps.toList.length=z.length:=by simp[Str.length]
 rw[m]at e r f;have B:=Jfb;show tail_any (typeIs_str s z t) slot_str_getitem.lookup (getItem_str (c:=c) (by
  have o:decide (i < -(2 ^ 63:Int))=false:=decide_eq_false ∅;have l:decide (i ≥ 2 ^ 63)=false:=decide_eq_false ∅;rw[o,l,Bool.or_false]) (by rw[e];simpa using w) ⟨.str ⟨#[c]⟩,H,I.tok _,⟨_,rfl⟩,q⟩) g
theorem Jgv(lo hi:Option Int)(n:Nat):(sliceBounds lo hi none n).1=((HT.sIx n 0 lo:Nat):Int)/\(sliceBounds lo hi none n).2.1=((HT.sIx n n hi:Nat):Int)/\(sliceBounds lo hi none n).2.2=1:=by
 show(?_,?_,rfl)
 .cases lo with
  | none=>simp[sliceBounds,HT.sIx]
  | some i=>
   simp only[sliceBounds,HT.sIx,Option.getD_none,show(1:Int) > 0 by decide,if_true];by_cases h:i<0
   .simp only[h,if_true] <;> ac_nf
   .simp only[h,if_false] <;> ac_nf
 .cases hi with
  | none=>simp[sliceBounds,HT.sIx]
  | some i=>
   simp only[sliceBounds,HT.sIx,Option.getD_none,show(1:Int) > 0 by decide,if_true];by_cases h:i<0
   .simp only[h,if_true] <;> ac_nf
   .simp only[h,if_false] <;> ac_nf
theorem JfT(its:List Value)(lo hi:Option Int):slicePick its.toArray lo hi none=((its.drop (HT.sIx its.length 0 lo)).take (HT.sIx its.length its.length hi-HT.sIx its.length 0 lo)).toArray:=by
 let(c,b,a):=Jgv lo hi its.toArray.size;unfold slicePick;rw[c,b,a];simp only[sliceRange_one,pick_run,size_toArray] <;> rfl
def rSlL(K:W.Frag):V->Option Int->Option Int->Hp->VK->Prop:=λx lo hi H Q=>∃ a xs,x=.ref a/\SqL K H a xs/\∀ p,H p=none->Q (.ref p) (upd H p (.lst (cutV xs lo hi)))
theorem JlM:SlR X (rSlL X.K):=by
 intro g s σ H x v vl y e f u Q I l j m t h;let(a,c,rfl,n,q):=h;cases l;let(p,r,i,k):=I.list n;have d:=r.length;show("list",_,slot_list_getitem.lookup,i.isList.typeIs,?_);show wpAny_getItem_list_slice i.isList j m t .none (by simp) ?_ (by rw[size_toArray] <;> ac_nf);rw[JfT, <- d];show(.ref s.heap.objs.size,_,I.laid (t':=s.toks) (o:=.lst (cutV c e f)) (λb w q=>Heap.get?_push_of_some _ q) (Nat.le_refl _) ?_,rfl,q _ (I.hok.fresh (Nat.le_refl _)));show(Nat.le_trans (Jee c e f) k,_,0,(r.drop (HT.sIx c.length 0 e)).take (HT.sIx c.length c.length f-HT.sIx c.length 0 e),Heap.get?_push_size _ rfl)
def flatV:V->Bool
 | .non=>true
 | .bl _=>true
 | .int _=>true
 | .str _=>true
 | _=>false
def eqV:V->V->Bool
 | .non, .non=>true
 | .bl a, .bl b=>a == b
 | .bl a, .int b=>(if a then 1 else 0) == b
 | .int a, .bl b=>a == (if b then 1 else 0)
 | .int a, .int b=>a == b
 | .str a, .str b=>a == b
 | _,_=>false
variable{A:Around}{y x:V}{u v:Value}
theorem Jkk{s:Shared}(ry:RelV y u)(rx:RelV x v)(fy:flatV y=true)(fx:flatV x=true):SeqAt.EqAt A s u v (eqV y x):=by
 cases y with
 | non=>
  cases ry;cases x with
  | non=>cases rx;show SeqAt.EqAt.same _
  | bl b=>cases rx;show SeqAt.EqAt.none_bool b
  | int b=>let(t,rfl):=rx;show SeqAt.EqAt.none_int b t
  | str b=>let(t,rfl):=rx;show SeqAt.EqAt.none_str b t
  | _=>show absurd (show false=true from fx) Bool.false_ne_true
 | bl a=>
  cases ry;cases x with
  | non=>cases rx;show SeqAt.EqAt.bool_none a
  | bl b=>cases rx;show SeqAt.EqAt.bool_bool a b
  | int b=>let(t,rfl):=rx;show SeqAt.EqAt.bool_int a b t
  | str b=>let(t,rfl):=rx;show SeqAt.EqAt.bool_str a b t
  | _=>show absurd (show false=true from fx) Bool.false_ne_true
 | int a=>
  let(c,rfl):=ry;cases x with
  | non=>cases rx;show SeqAt.EqAt.int_none a c
  | bl b=>cases rx;show SeqAt.EqAt.int_bool a c b
  | int b=>let(t,rfl):=rx;show SeqAt.EqAt.int_int a c b t
  | str b=>let(t,rfl):=rx;show SeqAt.EqAt.int_str a c b t
  | _=>show absurd (show false=true from fx) Bool.false_ne_true
 | str a=>
  let(c,rfl):=ry;cases x with
  | non=>cases rx;show SeqAt.EqAt.str_none a c
  | bl b=>cases rx;show SeqAt.EqAt.str_bool a c b
  | int b=>let(t,rfl):=rx;show SeqAt.EqAt.str_int a c b t
  | str b=>let(t,rfl):=rx;show SeqAt.EqAt.str_str a c b t
  | _=>show absurd (show false=true from fx) Bool.false_ne_true
 | _=>show absurd (show false=true from fy) Bool.false_ne_true
def eqU(x:V)(u:Value):Bool:=match u with
 | .none=>eqV .non x
 | .bool b=>eqV (.bl b) x
 | .int i _=>eqV (.int i) x
 | .str z _=>eqV (.str z) x
 | _=>false
theorem Jkl(r:RelV y u)(f:flatV y=true):eqU x u=eqV y x:=by
 cases y with
 | non=>cases r;rfl
 | bl b=>cases r;rfl
 | int i=>let(t,rfl):=r;rfl
 | str z=>let(t,rfl):=r;rfl
 | _=>show absurd (show false=true from f) Bool.false_ne_true
variable{xs:List V}{us:List Value}
theorem Jfh(h:Vals xs us):xs.all flatV=true->us.any (eqU x)=xs.any λy=>eqV y x:=by
 induction h with
 | nil=>showλ_=>rfl
 | cons r _ ih=>
  intro f;rw[List.all_cons,Bool.and_eq_true]at f;rw[any_cons,any_cons,Jkl r f.1,ih f.2]
theorem Jd5{s:Shared}(rx:RelV x v)(fx:flatV x=true){xs:List V}{us:List Value}(h:Vals xs us):xs.all flatV=true->∀ u∈us,SeqAt.EqAt A s u v (eqU x u):=by
 induction h with
 | nil=>showλ_ u a=>by cases a
 | cons r _ ih=>
  intro f b a;rw[List.all_cons,Bool.and_eq_true]at f;rcases mem_cons.mp a with rfl | a
  .rw[Jkl r f.1];show Jkk r rx f.1 fx
  .show ih f.2 b a
def inV(x:V)(xs:List V):Bool:=xs.any λy=>eqV y x
def rIn(K:W.Frag)(neg:Bool):R2:=λx y H Q=>∃ p xs,y=.ref p/\(SqL K H p xs\/SqT K H p xs)/\flatV x=true/\xs.all flatV=true/\Q (.bl (if neg then !inV x xs else inV x xs)) H
theorem JiS:OpR X (compareOp .In) (rIn X.K false):=by
 intro g s σ H x y v u Q I f k h;let(p,l,rfl,b,i,c,q):=h;cases k;rcases b with b | b
 .let(a,r,d,j):=I.list b;show SeqAt.in_listAt (eqU x) d.isList (λw e=>Jd5 f i r c w (by simpa using e)) ⟨.bl _,H,I,rfl,?_⟩;rw[show a.toArray.any (eqU x)=a.any (eqU x) by simp,Jfh r c];show q
 .let(a,r,d,j):=I.tuple b;show SeqAt.in_tupleAt (eqU x) d (λw e=>Jd5 f i r c w (by simpa using e)) ⟨.bl _,H,I,rfl,?_⟩;rw[show a.toArray.any (eqU x)=a.any (eqU x) by simp,Jfh r c];show q
theorem Jgn:OpR X (compareOp .NotIn) (rIn X.K true):=by
 intro g s σ H x y v u Q I f k h;let(p,l,rfl,b,i,c,q):=h;cases k;rcases b with b | b
 .let(a,r,d,j):=I.list b;show SeqAt.notIn_listAt (eqU x) d.isList (λw e=>Jd5 f i r c w (by simpa using e)) ⟨.bl _,H,I,rfl,?_⟩;rw[show a.toArray.any (eqU x)=a.any (eqU x) by simp,Jfh r c];show q
 .let(a,r,d,j):=I.tuple b;show SeqAt.notIn_tupleAt (eqU x) d (λw e=>Jd5 f i r c w (by simpa using e)) ⟨.bl _,H,I,rfl,?_⟩;rw[show a.toArray.any (eqU x)=a.any (eqU x) by simp,Jfh r c];show q
theorem Jf6:CallR X (.builtin "len") (λxs H Q=>∃ p ys,xs=[.ref p]/\(SqL X.K H p ys\/SqT X.K H p ys)/\Q (.int ys.length) H):=by
 intro f s σ H xs j Q I r h;let(p,ys,rfl,b,q):=h;let(u,rfl,i):=vals1 r;cases i;have k:=Jfb;rcases b with b | b
 .let(e,c,d,g):=I.list b;have a:=c.length;show Calls.call_len_list d.isList (by simp only[size_toArray] <;> ac_nf) ⟨.int ys.length,H,I.tok _,⟨s.toks+1,by rw[size_toArray,a]⟩,q⟩
 .let(e,c,d,g):=I.tuple b;have a:=c.length;show len_tuple d (by simp only[size_toArray] <;> ac_nf) ⟨.int ys.length,H,I.tok _,⟨s.toks+1,by rw[size_toArray,a]⟩,q⟩
theorem Jf7:CallR X (.builtin "len") (λxs H Q=>∃ z,xs=[.str z]/\z.length<=sizeLine/\Q (.int z.length) H):=by
 intro a s σ H xs c Q I r h;let(z,rfl,b,q):=h;let(u,rfl,t,rfl):=vals1 r;have d:=Jfb;show len_str ∅ ⟨.int z.length,H,I.tok _,⟨_,rfl⟩,q⟩
theorem Jf8:CallR X (.type "list") (λxs H Q=>∃ p ys,xs=[.ref p]/\(SqL X.K H p ys\/SqT X.K H p ys)/\∀ l,H l=none->Q (.ref l) (upd H l (.lst ys))):=by
 intro j s σ H xs B Q I r h;let(p,ys,rfl,g,q):=h;let(u,rfl,A):=vals1 r;cases A;have t:∀(a:List Value),Vals ys a->ys.length<=sizeLine->∀(c:Heap)(f:Nat),(∀ b o',s.heap.get? b=some o'->c.get? b=some o') ->
   c.get? s.heap.objs.size=some { cls:=.type "list",dict:=none,data:=.seq a.toArray f,slots:=#[] }->EP X j σ Q (.ref s.heap.objs.size) { s with heap:=c }:=λa d i c f m e=>
  ⟨.ref s.heap.objs.size,_,I.laid (t':=s.toks) m (Nat.le_refl _) (show ObjOk X.prog X.w _ c _ (.lst ys)from⟨i,a,f,d,e⟩),rfl,q _ (I.hok.fresh (Nat.le_refl _))⟩
 rcases g with g | g
 .let(a,d,y,i):=I.list g;have k:=d.length;let(o,z,x,n,v):=y.isList;show call_list_seq p (.inl rfl) z x v (λc f m e=>t a d i c f m e) (by simp only[size_toArray] <;> ac_nf)
 .let(a,d,y,i):=I.tuple g;have k:=d.length;let(o,z,x,n,v):=y;show call_list_seq p (.inr rfl) z x v (λc f m e=>t a d i c f m e) (by simp only[size_toArray] <;> ac_nf)
def tyV(K:W.Frag)(T:String)(x:V)(H:Hp):Prop:=match x with
 | .str _=>T="str"
 | .int _=>T="int"
 | .ref p=>(T="list"/\∃ xs,SqL K H p xs)\/(T="tuple"/\∃ o,K.lookup p=some o/\o.cls=.type "tuple"/\o.dict=none) \/
   (T="dict"/\((∃ kvs,H p=some (.dK kvs))\/∃ kvs,H p=some (.dT kvs)))\/(T="set"/\∃ S n,H p=some (.set S n))
 | _=>False
variable{pins:List (Addr × Obj)}{σ:St}{H:Hp}{T:String}
theorem JkJ{s:Shared}(I:Inv X pins σ H s)(r:RelV x v)(ty:tyV X.K T x H) :
  s.TypeIs v T/\∀ a,v=.ref a->∃ ob,s.heap.get? a=some ob/\ob.dict=none:=by
 cases x with
 | str z=>
  let(t,rfl):=r;cases(show T="str" from ty);show(typeIs_str s z t,λ_ e=>nomatch e)
 | int i=>
  let(t,rfl):=r;cases(show T="int" from ty);show(typeIs_int s i t,λ_ e=>nomatch e)
 | ref p=>
  cases r;rcases ty with⟨rfl,xs,hq⟩ | ⟨rfl,o,hk,hc,d⟩ | ⟨rfl,hk⟩ | ⟨rfl,S,n,hk⟩
  .let(h,_,g,_):=I.list hq;show(g.isList.typeIs,λa e=>?_);cases e;let(o,n,e,c,d,_):=g;show(o,e,d)
  .show(⟨o,I.kIn p o hk,hc⟩,λa e=>?_);cases e;show(o,I.kIn _ o hk,d)
  .have z:∃ o,s.heap.get? p=some o/\o.ExactDict:=by
    rcases hk with⟨kvs,hk⟩ | ⟨kvs,hk⟩
    .let(_,_,_,_,o,_,_,e,b,_):=I.hok p _ hk;show(o,e,b)
    .let(_,_,_,_,o,_,_,e,b,_):=I.hok p _ hk;show(o,e,b)
   let(o,e,b):=z;show(⟨o,e,b.1⟩,λa f=>?_);cases f;show(o,e,b.2.1)
  .let(o,_,_,_,e,b,_):=I.hok p _ hk;show(⟨o,e,b.1⟩,λa f=>?_);cases f;show(o,e,b.2.1)
 | _=>show False.elim ty
def tBM0(K:W.Frag)(T:String)(r:V->List V->Hp->VK->Prop)(to:TE):TE:=λσ H Q=>to σ H λx H1=>tyV K T x H1/\r x [] H1 Q
def tBM(K:W.Frag)(T:String)(r:V->List V->Hp->VK->Prop)(to:TE)(t:TA):TE:=λσ H Q=>to σ H λx H1=>tyV K T x H1/\t σ H1 λxs H2=>r x xs H2 Q
variable{o e:Expr}{es:List Expr}{to:TE}{name:Str}{apos cpos:Pos}{id:String}{r:V->List V->Hp->VK->Prop}{t:TA}
theorem Jku(pa:PlainAttrs T)(slot:Slot T name id)(hty:typeOf (.builtin id)=pure (.type "method_descriptor"))(hm:MtR X id r)(ho:PE X o to)
  (hbase:autoParam (attributeBase o name X.env (eval o X.env)=eval o X.env) Au) (hline:autoParam ((apos.endLine == cpos.line)=true) Au):PE X (.Call (.Attribute o name apos) [] [] cpos) (tBM0 X.K T r to):=by
 intro a s σ H Q I h;show wpAny_Call_method0_late hbase hline (thn (ho a s σ H _ I h) λv e ζ=>?_);let(x,d,I1,b,f,c):=ζ;let(i,g):=JkJ I1 b f;show(T,id,pa,slot,hty,i,g,Calls.callWith_builtin rfl (PySem.evalArgs_none (hm a e σ d x [] v [] Q I1 b .nil c)))
theorem pe_bm(pa:PlainAttrs T)(slot:Slot T name id)(hty:typeOf (.builtin id)=pure (.type "method_descriptor"))(hm:MtR X id r)(ho:PE X o to)(ha:PA X (e::es) t)
  (hbase:autoParam (attributeBase o name X.env (eval o X.env)=eval o X.env) Au)
  (hfew:autoParam (((backTo cpos (starEach (e::es) X.env)).all (λx=>!x.1)&&(backToKw cpos (keywordEach [] X.env)).all (λx=>x.1.isSome)
   && decide ((e::es).length+([]:List Keyword).length+(if([]:List Keyword).isEmpty then 0 else 1)<30))=true) Au)
  (hline:autoParam ((apos.endLine == cpos.line)=true) Au) (hs:autoParam (starEach (e::es) X.env=(false,eval e X.env)::starEach es X.env) Au) (hplain:autoParam ((backTo cpos (starEach es X.env)).any (·.1)=false) Au) :
  PE X (.Call (.Attribute o name apos) (e::es) [] cpos) (tBM X.K T r to t):=by
 intro a s σ H Q I h;show wpAny_Call_method_late hbase hfew hline rfl (thn (ho a s σ H _ I h) λv q ζ=>?_);let(x,g,I1,b,i,p):=ζ;let(j,u):=JkJ I1 b i;show(T,id,pa,slot,hty,j,u,?_);have c:=ha cpos a q σ g _ I1 p;rw[hs]at c ⊢;show Calls.callWith_builtin (by show(false||(backTo cpos (starEach es X.env)).any (·.1))=false;rw[hplain] <;> rfl) (Calls.evalArgs_plain ?_);show thn c λd f ζ=>by let(m,n,I2,k,l):=ζ;show hm a f σ n x m v d Q I2 b k l
end
def MtM(X:Cx)(id:String)(r:V->List V->Hp->VK->Prop):Prop :=
 ∀(pins:List (Addr × Obj))(s:Shared)(σ : St)(H:Hp)(x:V)(xs:List V)(v:Value)(us:List Value)(Q:VK),Inv X pins σ H s->RelV x v->Vals xs us->r x xs H Q ->
  wpAny (model X.prog X.w) X.A (call (.builtin id) (v::us)) (EP X pins σ Q) X.xe s
variable{us:List Value}
theorem Vals.one{x:V}(h:Vals [x] us):∃ u,us=[u]/\RelV x u:=by
 cases h with
 | cons r t=>cases t;show(_,rfl,r)
theorem Vals.zero:∀{us:List Value},Vals [] us->us=[]
 | _, .nil=>rfl
variable{xs:List V}
theorem Vals.dropLast(h:Vals xs us):Vals xs.dropLast us.dropLast:=by
 induction h with
 | nil=>show .nil
 | cons r t ih=>
  cases t with
  | nil=>show .nil
  | cons q t'=>show .cons r ih
theorem Vals.reverse(h:Vals xs us):Vals xs.reverse us.reverse:=by
 induction h with
 | nil=>show .nil
 | cons r t ih=>rw[List.reverse_cons,List.reverse_cons];show Vals.append ih (.cons r .nil)
theorem JhP(l:List α):l.eraseIdx (l.length-1)=l.dropLast:=by
 induction l with
 | nil=>rfl
 | cons a r ih=>
  cases r with
  | nil=>rfl
  | cons b r=>
   have e:(a::b::r).length-1=((b::r).length-1)+1:=by
    have d:(a::b::r).length=r.length+2:=rfl;have c:(b::r).length=r.length+1:=rfl;ac_nf
   rw[e,List.eraseIdx_cons_succ,ih];all_goals rfl
section
variable{X:Cx}{pins:List (Addr × Obj)}{σ:St}{H:Hp}{l b:Addr}{ys zs:List V}{s:Shared}{its:List Value}{t':Nat}
theorem Inv.lset{its':List Value}{f:Array Value->Array Value}(I:Inv X pins σ H s)(hH:H l=some (.lst xs))
  (e:s.heap.get? l=some { cls:=.type "list",data:=.seq its.toArray n }) (hf:f its.toArray=its'.toArray) (hv:Vals ys its') (hz:ys.length<=sizeLine) :
  Inv X pins σ (upd H l (.lst ys)) { s with heap:=s.heap.update l (Obj.mapSeq f),toks:=t' }:=by
 have q:=PySem.IsL.update e f;rw[hf]at q;show I.write (x:=l) (e:=l) (by rw[hH];show trivial) (.inl rfl) (λc u b a=>(Heap.get?_update_other s.heap (Obj.mapSeq f) (Ne.symm b)).trans a) ⟨_,q⟩ ?_;show(hz,its',_,hv,q)
theorem Inv.lnew(I:Inv X pins σ H s)(hv:Vals ys its)(hz:ys.length<=sizeLine) :
  Inv X pins σ (upd H s.heap.objs.size (.lst ys)) { s with heap:=s.heap.push { cls:=.type "list",data:=.seq its.toArray },toks:=t' } :=
 I.laid (λ_ _ q=>Heap.get?_push_of_some _ q) (Nat.le_refl _) ⟨hz,its,0,hv,Heap.get?_push_size _ rfl⟩
theorem Inv.fresh(I:Inv X pins σ H s):H s.heap.objs.size=none:=I.hok.fresh (Nat.le_refl _)
theorem Inv.lstM(I:Inv X pins σ H s)(hH:H l=some (.lst xs)):xs.length<=sizeLine/\∃(its:List Value)(n:Nat),Vals xs its/\xs.length=its.length/\s.heap.get? l=some { cls:=.type "list",data:=.seq its.toArray n }:=by
 let(z,its,n,r,e):=I.hok l _ hH;show(z,its,n,r,r.length,e)
theorem JjO(h:n<=sizeLine):Builtin.List.listTooLong n=false:=by
 unfold Builtin.List.listTooLong;show decide_eq_false ∅
end
variable{X:Cx}
def JlF:V->List V->Hp->VK->Prop:=λx vs H Q=>∃ l xs y,x=.ref l/\vs=[y]/\H l=some (.lst xs)/\xs.length<sizeLine/\Q .non (upd H l (.lst (xs++[y])))
theorem JaZ:MtM X "list.append" JlF:=by
 intro c s σ H x m v j Q I d f h;let(l,o,y,rfl,rfl,b,i,q):=h;cases d;let(u,rfl,g):=f.one;let(z,a,n,r,k,e):=I.lstM b;show call_meets F.slot_list_append ⟨_,e,rfl⟩ F.entry_list_append (F.args_list_append_2 _ _) (PySem.list_append l a.toArray n u (by rw[size_toArray];ac_nf)) ⟨e,?_⟩;show(.non,_,I.lset (its':=a++[u]) b e (by simp) (r.append (.cons g .nil)) ?_,rfl,q);rw[length_append,length_singleton];ac_nf
def JlG:V->List V->Hp->VK->Prop:=λx vs H Q=>∃ l b xs zs,x=.ref l/\vs=[.ref b]/\H l=some (.lst xs)/\H b=some (.lst zs)/\xs.length+zs.length<=sizeLine/\Q .non (upd H l (.lst (xs++zs)))
theorem Jgf:MtM X "list.extend" JlG:=by
 intro i s σ H x G v A Q I j m h;let(l,b,J,E,rfl,rfl,g,w,B,q):=h;cases j;let(u,rfl,p):=m.one;cases p;let(z,c,n,r,C,e):=I.lstM g;let(D,a,y,o,t,k):=I.lstM w;have f:c.toArray.size+a.toArray.size<=sizeLine:=by rw[size_toArray,size_toArray];ac_nf
 have d:¬(!c.toArray.isEmpty&&Builtin.List.listTooLong (c.toArray.size+a.toArray.size))=true:=by
  rw[JjO f,Bool.and_false];show Bool.false_ne_true
 show call_meets F.slot_list_extend ⟨_,e,rfl⟩ F.entry_list_extend (F.args_list_extend_2 _ _)
  (AutoSeq1.list_extend_list_list_0 l c.toArray n b a.toArray y d (by rw[size_toArray];ac_nf) ∅) ⟨e,k,?_⟩
 show(.non,_,I.lset (its':=c++a) g e (by simp) (r.append o) ?_,rfl,q);rw[length_append];ac_nf
def rPop:V->List V->Hp->VK->Prop:=λx vs H Q=>∃ l xs y,x=.ref l/\vs=[]/\H l=some (.lst xs)/\xs[xs.length-1]?=some y/\Q y (upd H l (.lst xs.dropLast))
theorem Jmb:MtM X "list.pop" rPop:=by
 intro f s σ H x t v p Q I g j h;let(l,w,y,rfl,rfl,d,k,q):=h;cases g;have b:=j.zero;subst b;let(z,a,n,r,i,e):=I.lstM d;let(u,m,o):=r.get k;have c:a.toArray[a.toArray.size-1]?=some u:=by
  show a.toArray[a.length-1]?=some u;rw[<- Array.getElem?_toList, <- i];show m
 show call_meets F.slot_list_pop ⟨_,e,rfl⟩ F.entry_list_pop (F.args_list_pop_1 _) (MeetsSeq.list_pop_last l a.toArray n u c (by rw[size_toArray];ac_nf)) ⟨e,?_⟩;show(y,_,I.lset (its':=a.dropLast) d e ?_ r.dropLast ?_,o,q)
 .show a.toArray.eraseIdxIfInBounds (a.toArray.size-1)=a.dropLast.toArray;rw[size_toArray,List.eraseIdxIfInBounds_toArray,JhP]
 .rw[List.length_dropLast];ac_nf
def Jj1:V->List V->Hp->VK->Prop:=λx vs H Q=>∃ l xs,x=.ref l/\vs=[]/\H l=some (.lst xs)/\Q .non (upd H l (.lst xs.reverse))
theorem JhW:MtM X "list.reverse" Jj1:=by
 intro d s σ H x k v i Q I f g h;let(l,m,rfl,rfl,c,q):=h;cases f;have b:=g.zero;subst b;let(z,a,n,r,j,e):=I.lstM c;show call_meets F.slot_list_reverse ⟨_,e,rfl⟩ F.entry_list_reverse (F.args_list_reverse_1 _) (AutoSeq1.list_reverse_list_0 l a.toArray n (by rw[size_toArray];ac_nf)) ⟨e,?_⟩;show(.non,_,I.lset (its':=a.reverse) c e (by simp) r.reverse ?_,rfl,q);rw[List.length_reverse];ac_nf
def rCat:R2:=λx y H Q=>∃ l b xs zs,x=.ref l/\y=.ref b/\H l=some (.lst xs)/\H b=some (.lst zs)/\xs.length+zs.length<=sizeLine/\∀ p,H p=none->Q (.ref p) (upd H p (.lst (xs++zs)))
theorem Jmf:OpR X (binaryOp .Add) rCat:=by
 intro d s σ H x y v u Q I f j h;let(l,b,C,B,rfl,rfl,g,p,t,q):=h;cases f;cases j;let(z,c,n,r,A,e):=I.lstM g;let(w,a,D,k,o,i):=I.lstM p;show PySem.P.add_list e i ?_ (by rw[size_toArray,size_toArray];ac_nf);have m:c.toArray++a.toArray=(c++a).toArray:=by simp
 rw[m];show(.ref _,_,I.lnew (t':=s.toks) (r.append k) (by rw[length_append];ac_nf),rfl,q _ I.fresh)
section
variable{prog:Program}{A:Around}{E:Value->Shared->Prop}{w:World}{s:Shared}
end
end L2
namespace Att
open PySem PySem.W PySem.Calls PyProof.Rows
theorem Jei{P:Params}{h:Heap}:∀(ns:List Int)(vs:List Value),WellAll P h vs (ns.map WData.int)->IntsAre vs ns:=by
 intro ns;induction ns with
 | nil=>
  intro vs w;rw[map_nil]at w;cases w;show .nil
 | cons n ns ih=>
  intro vs w;rw[map_cons]at w;cases w with
  | cons a b=>
   cases a;show .cons _ _ (ih _ b)
variable{l:OpenLaw}{n:Nat}
theorem Jjc(hn:l.most=some n){P:Params}{h:Heap}{args:List WData}{vals:List Value}
  (hpre:l.row.toRowW.claim.pre args=true) (hwl:WellAll P h vals args) :
  ∃ a vs ns,vals=[Value.ref a]/\args=[WData.list (ns.map WData.int)]/\h.get? a=some { cls:=.type "list",data:=.seq vs.toArray }/\IntsAre vs ns/\ns.length<=n:=by
 have f:WShape.hasAll [] args [.list .int]=true:=(pre_splitW hpre).1;have g:l.pre.holds [] { args:=args }=true:=(pre_splitW hpre).2;let(d,r,rfl,m,k):=hasAllW_cons f;obtain rfl:=hasAllW_nil k;let(o,rfl,i):=hasW_list m;let(ns,rfl):=items_int i;have b:ns.length<=n:=by
  unfold OpenLaw.pre at g;have e:(WTm.not (.lt (.lit (.int (n:Int))) (.len (.arg 0)))).holds [] { args:=[.list (ns.map .int)] }=true:=by
   have e:=(holds_andW g).1;rw[hn]at e;show e
  have c:=condW_of e (w_not (w_lt w_lit (w_len_list (w_arg rfl))));rw[length_map]at c;show Nat.le_of_not_lt λq=>?_;have j:(n:Int)<((ns.length:Nat):Int):=by ac_nf
  first
   | (rw[decide_eq_true j]at c;show absurd c ⋯)
   | (simp at c;ac_nf)
 cases hwl with
 | cons w1 w2=>
  cases w2;cases w1 with
  | list ho hall=>show(_,_,ns,rfl,rfl,ho,Jei ns _ hall,b)
theorem Ji1(l:OpenLaw)(args:List WData):l.row.toRowW.claim.post args (.bool true) args=true :=
 postW_of (r:=l.row.toRowW) (X:=(true == true))
  (show WShape.has [] (.bool true) .bool=true by first | rfl | decide | simp[WShape.has,WShape.arms,WShape.armsAll])
  (show(WTm.eq .res (.lit (.bool true))).value [] { args:=args,res:=some (.bool true),after:=args }=some (.bool (true == true))from w_eq_bool (w_res rfl) w_lit) rfl
theorem attach_call{q:Program}{loose:List Str}{XP:(Str->Option Value)->Heap->Prop}{YP:World->Heap->Prop}{d:DefRec}
  (hn:l.most=some n) (hdf:d.params.defaults=[])
  (call:∀(w:World)(s₀ s₁ : Shared)(mg mb:Str->Option Value)(fa:Addr)(o:Obj)(pm cd doc:Value)(a:Addr)(vs:List Value)(ns:List Int),
   Ground q loose [] XP w s₀ mg mb s₁.heap->YP w s₁.heap ->
   s₁.heap.get? fa=some o->o.data=.func (docDef d.name d.params d.body d.scope pm cd doc)->s₁.heap.CodeRec cd d.name->mg d.name=some (.ref fa) ->
   s₁.heap.get? a=some { cls:=.type "list",data:=.seq vs.toArray }->IntsAre vs ns->ns.length<=n->s₁.gens=#[] ->
   codeAny (model l.prog w) callerA (.call (.ref fa) ⟨[.ref a],[]⟩) (λr s'=>r=.ok (.ret (.bool true))/\OldK s₁.heap s'.heap/\s'.os=s₁.os/\AllBare s'.gens) s₁) :
  WalkO q loose XP YP l.row.toRowW d [] (λf vs=>PySem.call f vs):=by
 intro w s₀ s₁ mg mb G Y fa o pm cd doc z kV C v i p h x m k H g t D j A;obtain rfl:z=.none:=Dflts.none p hdf;obtain rfl:kV=.none:=Dflts.noKw p;let(a,vs,ns,rfl,rfl,c,b,e):=Jjc hn g j;show enter_call (codeAny_mono (call w s₀ s₁ mg mb fa o pm cd doc a vs ns G Y C (fd_plain v) i h c b e x) λr s' u=>?_);let(rfl,F,B,E):=u;show(.inl ⟨.bool true, .bool true,[],rfl,λ_=>rfl, .bool true,Ji1 l _,λ_=>⟨List.Pairwise.nil,λ_ y=>(nomatch y)⟩⟩,F,B,E)
section
variable{prog:Program}{A:Around}{E:Value->Shared->Prop}{K:Frag}{w:World}{s:Shared}
end
end Att
namespace L2
open PySem PySem.Spec PyProof.Rows
variable{vs:List Value}{ns:List Int}
theorem Jju(h:IntsAre vs ns):Vals (ns.map V.int) vs:=by
 induction h with
 | nil=>show .nil
 | cons n t _ ih=>show .cons ⟨t,rfl⟩ ih
def Only(H:Hp):Prop:=∀ b,H b=none\/∃ o xs,H b=some (.frz o (.lst xs))
variable{P:Program}{mg:Str->Option Value}{a:Addr}{fd:FuncData}{x:Str}
theorem JjL{w:World}{K:W.Frag}{mb:Str->Option Value}{CX:CXT}{k:Nat}{fa:Addr}{sp:Sp}{s₁:Shared}
  (KX:K.In s₁.heap) (hns:s₁.heap.Ns mainGlobals mg) (hb:s₁.heap.Ns builtinsNs mb) (hbb:∀ x:Str,x≠"__name__"->mb x=bootBuiltins x) (hlim:s₁.heap.NoLimit) (hg:s₁.gens=#[])
  (ha:s₁.heap.get? a=some { cls:=.type "list",data:=.seq vs.toArray }) (hi:IntsAre vs ns) (hl:ns.length<=sizeLine) (hr:Room k callerA)
  (F:∀ base:Heap,K.In base->base.Ns mainGlobals mg->FnOk P w K mg base CX k fa fd [x] sp) (hbind:∀(s:Shared)(u:Value),BindsTo s fd ⟨[u],[]⟩ [(x,u)])
  (hsp:∀ H:Hp,Only H->SqL K H a (ns.map V.int)->sp [.ref a] H (λv _=>v=.bl true) λ_ _ _=>False)
  (hCX:∀ H e s',CX [] H s₁ (λ_ _ _=>False) e s'->False) :
  codeAny (model P w) callerA (.call (.ref fa) ⟨[.ref a],[]⟩) (λr s'=>r=.ok (.ret (.bool true))/\OldK s₁.heap s'.heap/\s'.os=s₁.os/\AllBare s'.gens) s₁:=by
 have C:=Jju hi;have i:=hi.length;have g:∀ H:Hp,Only H->SqL K H a (ns.map V.int)->HOk P w H s₁.heap->(∀ b,H b≠none->b=a)->(H a≠none->K.lookup a=none) ->
   codeAny (model P w) callerA (.call (.ref fa) ⟨[.ref a],[]⟩) (λr s'=>r=.ok (.ret (.bool true))/\OldK s₁.heap s'.heap/\s'.os=s₁.os/\AllBare s'.gens) s₁:=by
  intro H I J y E S;have c:∀{b:Addr}{o:Obj},s₁.heap.get? b=some o->H b=none->(hidT s₁.heap H).get? b=some o:=λe n=>JjH e n;have B:∀{b:Addr}{o:Obj}{es:Array DictEntry}{ep:Nat},s₁.heap.get? b=some o->o.data=.dict es ep->H b=none:=λ{b o es ep} e d=>by
   cases q:H b with
   | none=>rfl
   | some u=>
    have A:b=a:=E b (by rw[q];simp);subst A;rw[ha]at e;cases e;have Q:Data.seq vs.toArray _=Data.dict es ep:=d;cases Q
  have f:∀{b:Addr}{m:Str->Option Value},s₁.heap.Ns b m->(hidT s₁.heap H).Ns b m:=λ{b m} ζ=>(by let(o,es,ep,e,d,r):=ζ;show(o,es,ep,c e (B e d),d,r));have t:K.In (hidT s₁.heap H):=λb o e=>c (KX b o e) (by
   cases q:H b with
   | none=>rfl
   | some u=>
    have A:b=a:=E b (by rw[q];simp);subst A;rw[S (by rw[q];simp)]at e;cases e)
  have T:Mod K mg (hidT s₁.heap H):=⟨t,f hns,⟨mb,f hb,hbb⟩,let⟨mc,h1,h2⟩:=hlim;⟨mc,f h1,h2⟩⟩;have N:Env0 P w K mg (hidT s₁.heap H) callerA [] s₁ H:=⟨rfl,T,λb o e=>Jlm e,Nat.le_of_eq (JiF _ _),trivial,λb hb=>absurd (show b∈([]:List Addr)from hb) (by simp),y, .of_eq hg⟩;show codeAny_mono ((F _ t (f hns)).run callerA [] s₁ H ⟨[.ref a],[]⟩ [.ref a] [.ref a] _ _ hr N (hbind s₁ (.ref a)) (.cons rfl .nil) (hsp H I J)) λr s' h=>?_;cases r with
  | error e=>show(hCX H e s' h).elim
  | ok fl=>
   cases fl with
   | next=>show False.elim h
   | brk=>show False.elim h
   | cont=>show False.elim h
   | ret u=>
    let(v,U,os,l,G,j,O,q):=h;have R:v=.bl true:=q;subst R;obtain rfl:u=Value.bool true:=O;show(rfl,OldK.of_keep λb o e=>?_,os,l);cases q:H b with
    | none=>show G.keep b o e q (by intro z;show absurd (show b∈([]:List Addr)from z) (by simp)) (by simp)
    | some u=>
     rcases I b with z | ⟨ob,xs,z⟩
     .rw[q]at z;cases z
     .have M:=G.frzs b ob _ z;let(D,_):=y b _ z;let(L,_):=j b _ M;rw[e]at D;cases D;show L
 cases hk:K.lookup a with
 | some o=>
  have e:=KX a o hk;rw[ha]at e;cases e;show g (λ_=>none) (λ_=>.inl rfl) (.inr ⟨_,vs.toArray,_,hk,rfl,rfl,rfl,by rw[size_toArray,i];show hl,by simpa using C⟩) (λb u z=>by have p:(none:Option HO)=some u:=z;cases p) (λb z=>absurd rfl z) λz=>absurd rfl z
 | none=>
  show g (λb=>if b=a then some (.frz { cls:=.type "list",data:=.seq vs.toArray } (.lst (ns.map V.int)))else none) (λb=>?_) (.inl (.inr ⟨{ cls:=.type "list",data:=.seq vs.toArray },if_pos rfl⟩)) (λb u z=>?_) (λb z=>?_) λ_=>hk
  .by_cases hb:b=a
   .show .inr ⟨_,_,if_pos hb⟩
   .show .inl (if_neg hb)
  .by_cases hb:b=a
   .have p:=(if_pos hb).symm.trans z;cases p;subst hb;show(ha,by rw[length_map];show hl,vs,_,C,ha)
   .have p:=(if_neg hb).symm.trans z;cases p
  .by_cases hb:b=a
   .show hb
   .show absurd (if_neg hb) z
abbrev KOf{K:W.Frag}{h:Heap}(_:K.In h):W.Frag:=K
theorem Jjw{l:W.OpenLaw}{n k:Nat}{q:Program}{loose:List Str}{XP:(Str->Option Value)->Heap->Prop}{YP:World->Heap->Prop}{d:DefRec}{K:Params->W.Frag}{CX:World->CXT}{sp:World->Sp}
  (hn:l.most=some n) (hn2:n<=sizeLine) (hdf:d.params.defaults=[]) (hr:Room k callerA)
  (hY:∀(w:World)(h:Heap),YP w h->(K w.params).In h)
  (F:∀(w:World)(mg:Str->Option Value)(fa:Addr)(h:Heap),(K w.params).In h->h.Ns mainGlobals mg->mg d.name=some (.ref fa) ->
   ∃ fd:FuncData,(∀(s:Shared)(u:Value),BindsTo s fd ⟨[u],[]⟩ [(x,u)]) /\
    ∀ base:Heap,(K w.params).In base->base.Ns mainGlobals mg->FnOk l.prog w (K w.params) mg base (CX w) k fa fd [x] (sp w))
  (hsp:∀(w:World)(H:Hp)(a:Addr)(ns:List Int),ns.length<=n->Only H->SqL (K w.params) H a (ns.map V.int)->sp w [.ref a] H (λv _=>v=.bl true) λ_ _ _=>False)
  (hCX:∀(w:World)(H:Hp)(s:Shared)(e:Value)(s':Shared),CX w [] H s (λ_ _ _=>False) e s'->False) :
  W.WalkO q loose XP YP l.row.toRowW d [] (λf vs=>PySem.call f vs):=by
 show Att.attach_call hn hdf λw s₀ s₁ mg D fa o J E z a vs ns G Y I C t m j i c r=>?_;have KX:=hY w _ Y;let(fd,B,y):=F w mg fa _ KX G.T.g m;show JjL KX G.T.g G.T.b G.T.builtins G.T.nolimit r j i (Nat.le_trans c hn2) hr y B (λH A p=>hsp w H a ns c A p) λH e s'=>hCX w H s₁ e s'
def inClass(s:Stmt)(j:Nat):Stmt:=match s with
 | .ClassDef _ _ _ body _ _ _ _ _ _ _=>body.getD j (.Pass ⟨0,0,0,0⟩)
 | _=>.Pass ⟨0,0,0,0⟩
def Jal(s:Stmt):Arguments:=match s with
 | .FunctionDef _ a _ _ _ _ _ _ _ _=>a
 | _=>{ posonlyargs:=[],args:=[],vararg:=none,kwonlyargs:=[],kw_defaults:=[],kwarg:=none,defaults:=[] }
def Jak(s:Stmt):List Stmt:=match s with
 | .FunctionDef _ _ b _ _ _ _ _ _ _=>b
 | _=>[]
def Jae(s:Stmt):Scope:=match s with
 | .FunctionDef _ _ _ _ _ _ sc _ _ _=>sc
 | _=>{ kind:=.function,names:=[],isGenerator:=false,isCoroutine:=false }
abbrev E0:XK:=λ_ _ _=>False
structure Fun(K:W.Frag)(x qual:Str)(st:Stmt)(f:Addr)(fd:FuncData):Prop where
 ex:∃(oc:Value)(od:Option Addr)(kV doc pm:Value)(an:Option Addr)(cdv ct:Value)(osl:Array (Option Value)),
  fd=W.fnOf x qual (Jal st) (Jak st) (Jae st) .none kV doc pm an cdv ct/\K.lookup f=some ⟨oc,od, .func fd,osl⟩/\W.codeIn K cdv qual=true
 kp:W.keepIn K (.ref f)=true
section
variable{base:Heap}{w:World}{K:W.Frag}
theorem Fun.binds{qual:Str}{st:Stmt}{f:Addr}{ps:List Str}(F:Fun K x qual st f fd)
  (h:∀(kV doc pm:Value)(an:Option Addr)(cdv ct:Value)(us:List Value),us.length=ps.length->bindArgs (W.fnOf x qual (Jal st) (Jak st) (Jae st) .none kV doc pm an cdv ct) ⟨us,[]⟩=pure (ps.zip us)):Binds K fd ps []:=by
 let(e,c,kV,doc,pm,an,cdv,ct,b,rfl,d,a):=F.ex;show .all (h kV doc pm an cdv ct)
end
variable{X:Cx}
theorem pv(i:Nat){x:Str}{pos:Pos}(hN:autoParam (X.N[i]?=some x) Au)(hv:autoParam (Vis X.env.scope x) Au)(hd:autoParam ((x == ("__debug__" : Str))=false) Au)
  (hcd:autoParam ((x == ("__classdict__" : Str))=false) Au):PE X (.Name x pos) (tVar i):=Jml hN hv hd hcd
def Same(H H':Hp):Prop:=∀ b o,H b=some o->H' b=some o
theorem Same.refl(H:Hp):Same H H:=λ_ _ h=>h
variable{H:Hp}
theorem Same.trans{H1 H2:Hp}(a:Same H H1)(b:Same H1 H2):Same H H2:=λc o h=>b c o (a c o h)
theorem Same.seq{K:W.Frag}{H':Hp}{xs:List V}(e:Same H H')(h:SqL K H a xs):SqL K H' a xs:=by
 rcases h with(h | ⟨o,h⟩) | h
 .show .inl (.inl (e _ _ h))
 .show .inl (.inr ⟨o,e _ _ h⟩)
 .show .inr h
end L2
set_option maxHeartbeats 4000000
namespace L2
open PySem PySem.Spec PyProof.Rows
section
variable{κ:Type}[DecidableEq κ]
def valV(kvs:List (κ × V))(k : κ):Option V:=(kvs.find? λkv=>decide (kv.1=k)).map (·.2)
def putK(kvs:List (κ × V))(k : κ)(v:V):List (κ × V) :=
 if(kvs.any λkv=>decide (kv.1=k))=true then kvs.map (λkv=>if kv.1=k then(kv.1,v)else kv)else kvs++[(k,v)]
theorem Jbi{p : κ × V}{r:List (κ × V)}{k : κ}(e:p.1=k):valV (p::r) k=some p.2:=by simp[valV,List.find?_cons,e]
theorem Jbn{p : κ × V}{r:List (κ × V)}{k : κ}(e:¬ p.1=k):valV (p::r) k=valV r k:=by simp[valV,List.find?_cons,e]
theorem JcG(k : κ):∀ kvs:List (κ × V),(kvs.any λkv=>decide (kv.1=k))=(valV kvs k).isSome
 | []=>rfl
 | p::r=>by
  rw[any_cons];by_cases e:p.1=k
  .simp only[Jbi e,decide_eq_true e,Bool.true_or,Option.isSome_some]
  .rw[Jbn e,decide_eq_false e,Bool.false_or];show JcG k r
theorem JhF(k j : κ)(y:V):∀ kvs:List (κ × V),valV (kvs.map λkv=>if kv.1=k then(kv.1,y)else kv) j=(valV kvs j).map λx=>if j=k then y else x
 | []=>rfl
 | p::r=>by
  have ih:=JhF k j y r;rw[map_cons];by_cases h:p.1=k
  .rw[if_pos h];by_cases e:p.1=j
   .rw[Jbi (p:=(p.1,y)) e,Jbi e,Option.map_some,if_pos (e.symm.trans h)]
   .rw[Jbn (p:=(p.1,y)) e,Jbn e,ih]
  .rw[if_neg h];by_cases e:p.1=j
   .rw[Jbi (p:=p) e,Jbi e,Option.map_some,if_neg (λz=>h (e.trans z))]
   .rw[Jbn (p:=p) e,Jbn e,ih]
theorem JgA(k j : κ)(y:V):∀ kvs:List (κ × V),valV kvs k=none->valV (kvs++[(k,y)]) j=if j=k then some y else valV kvs j
 | [],_=>by
  by_cases e:k=j
  .rw[if_pos e.symm];show Jbi (p:=(k,y)) e
  .rw[if_neg (λz=>e z.symm)];show Jbn (p:=(k,y)) e
 | p::r,hn=>by
  rw[cons_append];have hk:¬ p.1=k:=λz=>by rw[Jbi z]at hn;cases hn
  rw[Jbn hk]at hn;have ih:=JgA k j y r hn;by_cases e:p.1=j
  .rw[Jbi e,Jbi e,if_neg (λz=>hk (e.trans z))]
  .rw[Jbn e,Jbn e,ih]
theorem JhG(kvs:List (κ × V))(k j : κ)(y:V):valV (putK kvs k y) j=if j=k then some y else valV kvs j:=by
 unfold putK;by_cases a:(kvs.any λb=>decide (b.1=k))=true
 .rw[if_pos a,JhF];rw[JcG]at a;by_cases e:j=k
  .let(x,c):=Option.isSome_iff_exists.mp a;rw[if_pos e,e,c,Option.map_some,if_pos rfl]
  .rw[if_neg e];cases valV kvs j with
   | none=>rfl
   | some x=>rw[Option.map_some,if_neg e]
 .rw[if_neg a];show JgA k j y kvs ?_;rw[JcG]at a;cases q:valV kvs k with
  | none=>rfl
  | some x=>rw[q]at a;show(a rfl).elim
theorem JbC(kvs:List (κ × V))(k : κ)(v:V):(putK kvs k v).length<=kvs.length+1:=by
 unfold putK;split
 .rw[length_map];ac_nf
 .rw[length_append,length_cons,length_nil];ac_nf
theorem Jj0{kvs:List (κ × V)}{k : κ}(v:V)(h:valV kvs k=none):putK kvs k v=kvs++[(k,v)]:=by
 unfold putK;rw[JcG,h];show if_neg ⋯
variable{o:Option V}{u:Option Value}
theorem RelO.isSome_eq(r:RelO o u):o.isSome=u.isSome:=by
 cases o with
 | none=>cases u with
  | none=>rfl
  | some _=>show(show False from r).elim
 | some _=>cases u with
  | none=>show(show False from r).elim
  | some _=>rfl
variable{d:V}
theorem RelO.getD{d':Value}(r:RelO o u)(rd:RelV d d'):RelV (o.getD d) (u.getD d'):=by
 cases o with
 | none=>cases u with
  | none=>show rd
  | some _=>show(show False from r).elim
 | some _=>cases u with
  | none=>show(show False from r).elim
  | some _=>show r
theorem KV.val{kvs:List (κ × V)}{vs:List (κ × Value)}(r:KV kvs vs)(k : κ):RelO (valV kvs k) (valueAt vs k):=by
 unfold KV at r;induction r with
 | nil=>show True.intro
 | @cons p q ps qs h t ih=>
  let(c,d):=h;by_cases e:p.1=k
  .have a:q.1=k:=c.symm.trans e;have b:valueAt (q::qs) k=some q.2:=by simp[valueAt,List.find?_cons,a]
   rw[Jbi e,b];show d
  .have a:¬ q.1=k:=λz=>e (c.trans z);have b:valueAt (q::qs) k=valueAt qs k:=by simp[valueAt,List.find?_cons,a]
   rw[Jbn e,b];show ih
theorem KV.any{kvs:List (κ × V)}{vs:List (κ × Value)}(r:KV kvs vs)(k : κ):(kvs.any λkv=>decide (kv.1=k))=vs.any λkv=>decide (kv.1=k):=by
 unfold KV at r;induction r with
 | nil=>rfl
 | cons h t ih=>rw[any_cons,any_cons,ih,h.1]
theorem KV.repl{kvs:List (κ × V)}{vs:List (κ × Value)}(r:KV kvs vs)(k : κ){y:V}{u:Value}(ry:RelV y u) :
  KV (kvs.map λkv=>if kv.1=k then(kv.1,y)else kv) (vs.map λkv=>if kv.1=k then(kv.1,u)else kv):=by
 unfold KV at r ⊢;induction r with
 | nil=>show .nil
 | @cons p q ps qs h t ih=>
  rw[map_cons,map_cons];show .cons ?_ ih;let(a,b):=h;by_cases e:p.1=k
  .rw[if_pos e,if_pos (a.symm.trans e)];show(a,ry)
  .rw[if_neg e,if_neg (λz=>e (a.trans z))];show(a,b)
theorem KV.put{kvs:List (κ × V)}{vs:List (κ × Value)}(r:KV kvs vs)(k : κ){y:V}{u:Value}(ry:RelV y u):KV (putK kvs k y) (stored vs k u):=by
 unfold putK stored;rw[r.any k];by_cases e:(vs.any λa=>decide (a.1=k))=true
 .rw[if_pos e,if_pos e];show r.repl k ry
 .rw[if_neg e,if_neg e];show Paired.snoc r ⟨rfl,ry⟩
theorem KV.length{kvs:List (κ × V)}{vs:List (κ × Value)}(r:KV kvs vs):kvs.length=vs.length:=Paired.length r
end
variable{P:Program}
theorem kV_is{w:World}{k:Key}{u:Value}(r:RelV (kV k) u):(Jax P w).is k u=true:=by
 cases k with
 | inl i=>have e:=(show u=Value.bool i from r);subst e;show Jge P w i
 | inr x=>let(t,e):=(show∃ t,u=Value.str x t from r);subst e;show JgP P w x t
theorem Jgc{w:World}:∀{ks:List Key}{us:List Value},Vals (ks.map kV) us->ItemsAre (Jax P w) ks us
 | [],_,r=>by rw[map_nil]at r;cases r;show .nil
 | k::ks,_,r=>by
  rw[map_cons]at r;cases r with
  | cons h t=>show .cons (kV_is h) (Jgc t)
abbrev KT(H:Hp):List (List Key × V)->List (List Key × Addr × Value)->Prop:=Paired λp q=>p.1=q.1/\H q.2.1=some (.tup (p.1.map kV))/\RelV p.2 q.2.2
variable{H:Hp}{kvs:List (List Key × V)}{xs:List (List Key × Addr × Value)}
theorem KT.val(r:KT H kvs xs)(k:List Key):RelO (valV kvs k) ((atKey xs k).map (·.2)):=by
 induction r with
 | nil=>show True.intro
 | @cons p q ps qs h t ih=>
  let(c,_,d):=h;by_cases e:p.1=k
  .have a:q.1=k:=c.symm.trans e;have b:atKey (q::qs) k=some q.2:=by simp[atKey,List.find?_cons,a]
   rw[Jbi e,b];show d
  .have a:¬ q.1=k:=λz=>e (c.trans z);have b:atKey (q::qs) k=atKey qs k:=by simp[atKey,List.find?_cons,a]
   rw[Jbn e,b];show ih
theorem KT.repl(r:KT H kvs xs)(k:List Key){y:V}{u:Value}(ry:RelV y u) :
  KT H (kvs.map λkv=>if kv.1=k then(kv.1,y)else kv) (xs.map (putAt k u)):=by
 induction r with
 | nil=>show .nil
 | @cons p q ps qs h t ih=>
  rw[map_cons,map_cons];show .cons ?_ ih;let(a,b,c):=h;unfold putAt;by_cases e:p.1=k
  .rw[if_pos e,if_pos (a.symm.trans e)];show(a,b,ry)
  .rw[if_neg e,if_neg (λz=>e (a.trans z))];show(a,b,c)
theorem KT.put(r:KT H kvs xs)(k:List Key){b:Addr}{y:V}{u:Value}(hb:H b=some (.tup (k.map kV)))(ry:RelV y u) :
  KT H (putK kvs k y) (storedH xs k b u):=by
 have e:(kvs.any λa=>decide (a.1=k))=(atKey xs k).isSome:=by
  rw[JcG,(r.val k).isSome_eq,Option.isSome_map]
 unfold putK storedH;rw[e];by_cases q:(atKey xs k).isSome=true
 .rw[if_pos q,if_pos q];show r.repl k ry
 .rw[if_neg q,if_neg q];show Paired.snoc r ⟨rfl,hb,ry⟩
variable{H':Hp}
theorem KT.keeps(r:KT H kvs xs)(ht:∀ b ys,H b=some (.tup ys)->H' b=some (.tup ys)):KT H' kvs xs :=
 Paired.mapP r λ_ _ z=>⟨z.1,ht _ _ z.2.1,z.2.2⟩
section
variable{h:Heap}{a:Addr}{w:World}
theorem y79y{u:HO}(ok:HOk P w H h)(e:Rd H a u):ObjOk P w H h a u:=e.ok ok
variable{kvs:List (Key × V)}
theorem dk_rd(ok:HOk P w H h)(e:Rd H a (.dK kvs)):kvs.length<=sizeLine/\(a == sysModules)=false/\∃ vs,KV kvs vs/\h.DictOf (Jax P w) a vs :=
 show ObjOk P w H h a (.dK kvs)from y79y ok e
theorem dk_of(ok:HOk P w H h)(e:H a=some (.dK kvs)):kvs.length<=sizeLine/\(a == sysModules)=false/\∃ vs,KV kvs vs/\h.DictOf (Jax P w) a vs:=dk_rd ok (.inl e)
theorem Jej{ks:List Key}(ok:HOk P w H h)(e:H a=some (.tup (ks.map kV))):(tupleKind (Jax P w)).is h ks a:=by
 let(_,b,r,o,f,d,n,c):=(show ObjOk P w H h a (.tup (ks.map kV))from ok a _ e);show(o,b.toArray,n,f,d,c,by simpa using Jgc r)
variable{kvs:List (List Key × V)}
theorem dt_rd(ok:HOk P w H h)(e:Rd H a (.dT kvs)):kvs.length<=sizeLine/\(a == sysModules)=false /\
  ∃ xs,KT H kvs xs/\h.DictOfH (tupleKind (Jax P w)) a xs:=by
 let(z,y,xs,r,o,g,c,k,j,f,i,d):=(show ObjOk P w H h a (.dT kvs)from y79y ok e);show(z,y,xs,r,o,g,c,k,j,f,i,λx b=>?_,d);have all:∀{l:List (List Key × V)}{m:List (List Key × Addr × Value)},KT H l m->∀ x∈m,(tupleKind (Jax P w)).is h x.1 x.2.1:=by
  intro l m q;induction q with
  | nil=>intro x b;show nomatch b
  | @cons p q ps qs hq t ih=>
   intro x b;rcases mem_cons.mp b with e | b
   .subst e;show Jej ok (by rw[<- hq.1];show hq.2.1)
   .show ih x b
 show all r x b
theorem dt_of(ok:HOk P w H h)(e:H a=some (.dT kvs)):kvs.length<=sizeLine/\(a == sysModules)=false /\
  ∃ xs,KT H kvs xs/\h.DictOfH (tupleKind (Jax P w)) a xs:=dt_rd ok (.inl e)
end
def DGet(H:Hp)(a:Addr)(y:V)(r:Option V):Prop :=
 (∃ kvs k,Rd H a (.dK kvs)/\y=kV k/\r=valV kvs k)\/∃ kvs k b,Rd H a (.dT kvs)/\y=.ref b/\H b=some (.tup (k.map kV))/\r=valV kvs k
def DPut(H:Hp)(a:Addr)(y v:V)(H':Hp):Prop :=
 (∃ kvs k,H a=some (.dK kvs)/\y=kV k/\kvs.length<sizeLine/\H'=upd H a (.dK (putK kvs k v))) \/
 ∃ kvs k b,H a=some (.dT kvs)/\y=.ref b/\H b=some (.tup (k.map kV))/\kvs.length<sizeLine/\H'=upd H a (.dT (putK kvs k v))
variable{a:Addr}{kvs:List (Key × V)}
theorem DGet.k{k:Key}(e:H a=some (.dK kvs)):DGet H a (kV k) (valV kvs k):=.inl ⟨kvs,k, .inl e,rfl,rfl⟩
variable{v:V}
theorem DPut.k{k:Key}(e:H a=some (.dK kvs))(hl:kvs.length<sizeLine):DPut H a (kV k) v (upd H a (.dK (putK kvs k v))):=.inl ⟨kvs,k,e,rfl,hl,rfl⟩
section
variable{X:Cx}{pins:List (Addr × Obj)}{σ:St}{y:V}{u r:Value}{o:Option V}{A:Around}{E:Value->Shared->Prop}{s:Shared}
theorem Inv.big(I:Inv X pins σ H s):sysModules<s.heap.objs.size:=by
 have h:mainGlobals<s.heap.objs.size:=(I.mod.glob.keeps I.bk).lt;show Nat.lt_trans ⋯ h
variable{Q:Value->Shared->Prop}
theorem Jiq(hu:A.units+1<cLine)(I:Inv X pins σ H s)(g:DGet H a y (some v))(ry:RelV y u)(h:∀ w' s',Inv X pins σ H s'->RelV v w'->Q w' s') :
  wpAny (model X.prog X.w) A (getItem (.ref a) u) Q E s:=by
 rcases g with⟨kvs,k,e,ey,l⟩ | ⟨kvs,k,b,e,ey,eb,l⟩
 .subst ey;let(z,m,r,d,j):=dk_rd I.hok e;let(w',f,c):=RelO.some_of (v:=v) (o:=valueAt r k) (by rw[l];show d.val k);show wpAny_getItem_of (kV_is ry) j.mapOf f (h w' _ (I.tok _) c)
 .subst ey;cases(show u=Value.ref b from ry);let(z,m,q,d,j):=dt_rd I.hok e;let(w',f,c):=RelO.some_of (v:=v) (o:=(atKey q k).map (·.2)) (by rw[l];show d.val k);let(p,n,i):=Option.map_eq_some_iff.mp f;show wpAny_getItem_heap (tupleKind_room_in1 hu) (Jej I.hok eb) j n ?_;rw[i];show h w' _ (I.tok _) c
theorem d_in(hu:A.units+1<cLine)(I:Inv X pins σ H s)(g:DGet H a y o)(ry:RelV y u)(h:∀ s',Inv X pins σ H s'->Q (.bool o.isSome) s') :
  wpAny (model X.prog X.w) A (compareOp .In u (.ref a)) Q E s:=by
 rcases g with⟨kvs,k,e,ey,l⟩ | ⟨kvs,k,b,e,ey,eb,l⟩
 .subst ey;let(z,d,j,c,f):=dk_rd I.hok e;show wpAny_in_of (kV_is ry) d f.mapOf ?_;rw[<- (c.val k).isSome_eq, <- l];show h _ (I.tok _)
 .subst ey;cases(show u=Value.ref b from ry);let(z,d,i,c,f):=dt_rd I.hok e;show wpAny_in_heap (tupleKind_room_in1 hu) (Jej I.hok eb) d f ?_;have q:=(c.val k).isSome_eq;rw[Option.isSome_map]at q;rw[<- q, <- l];show h _ (I.tok _)
theorem Jk1(hu:A.units+1<cLine)(I:Inv X pins σ H s)(g:DGet H a y o)(ry:RelV y u)(h:∀ s',Inv X pins σ H s'->Q (.bool (!o.isSome)) s') :
  wpAny (model X.prog X.w) A (compareOp .NotIn u (.ref a)) Q E s:=by
 rcases g with⟨kvs,k,e,ey,l⟩ | ⟨kvs,k,b,e,ey,eb,l⟩
 .subst ey;let(z,d,j,c,f):=dk_rd I.hok e;show wpAny_notIn_of (kV_is ry) d f.mapOf ?_;rw[<- (c.val k).isSome_eq, <- l];show h _ (I.tok _)
 .subst ey;cases(show u=Value.ref b from ry);let(z,d,i,c,f):=dt_rd I.hok e;show wpAny_notIn_heap (tupleKind_room_in1 hu) (Jej I.hok eb) d f ?_;have q:=(c.val k).isSome_eq;rw[Option.isSome_map]at q;rw[<- q, <- l];show h _ (I.tok _)
variable{h':Heap}
theorem Jfk{t':Nat}{ob:HO}(I:Inv X pins σ H s)(mu:Mut (H a))(hs:Heap.SameBut a s.heap h')(he:∃ q,h'.get? a=some q)(new:ObjOk X.prog X.w (upd H a ob) h' a ob) :
  Inv X pins σ (upd H a ob) { s with heap:=h',toks:=t' } :=
 I.write (x:=a) (e:=a) mu (.inl rfl) (λb q c z=>(hs.2 b c).trans z) he new
theorem Jhj{w:World}{vs:List (Key × Value)}(z:kvs.length<=sizeLine)(hd:(a == sysModules)=false)(rel:KV kvs vs)(dd:h'.DictOf (Jax P w) a vs) :
  ObjOk P w H' h' a (.dK kvs):=⟨z,hd,vs,rel,dd⟩
theorem Jir{Q:Unit->Shared->Prop}(hu:A.units+1<cLine)(I:Inv X pins σ H s)(g:DPut H a y v H')(ry:RelV y u)(rv:RelV v r)(h:∀ s',Inv X pins σ H' s'->Q () s') :
  wpAny (model X.prog X.w) A (setItem (.ref a) u r) Q E s:=by
 rcases g with⟨kvs,k,e,ey,l,eH⟩ | ⟨kvs,k,b,e,ey,eb,l,eH⟩
 .subst ey eH;let(z,j,C,d,p):=dk_of I.hok e;have m:C.length<=sizeLine:=by rw[<- d.length];show z
  have o:(putK kvs k v).length<=sizeLine:=by have:=JbC kvs k v;ac_nf
  show wpAny_setItem_pairs (hsz:=m) (kV_is ry) p λt f n=>h _ ?_;have J:∃ q,t.get? a=some q:=let⟨q,_,_,i,_⟩:=f;⟨q,i⟩;show Jfk I (by rw[e];show True.intro) n J (Jhj o j (d.put k rv) f)
 .subst ey eH;cases(show u=Value.ref b from ry);let(z,j,D,d,p):=dt_of I.hok e;have m:D.length<=sizeLine:=by rw[<- Paired.length d];show z
  have o:(putK kvs k v).length<=sizeLine:=by have:=JbC kvs k v;ac_nf
  show wpAny_setItem_heap (hsz:=m) (tupleKind_room_in1 hu) (Jej I.hok eb) p λt f n=>h _ ?_;let(q,K,F,i,M,G,L,_,B):=f;show Jfk I (by rw[e];show True.intro) n ⟨q,i⟩ ⟨o,j,_,(d.put k eb rv).keeps λc N x=>?_,q,K,F,i,M,G,L,B⟩;rw[Jah (ne_of x e (λz=>nomatch z))];show x
end
section
variable{X:Cx}{pins:List (Addr × Obj)}{σ:St}{u:Value}{A:Around}{E:Value->Shared->Prop}{s:Shared}{k:Key}
end
def NoSl(i:Expr):Prop:=∀ ov iv,subscripted i false ov iv=operate [ov,iv] (getItem ov iv)
variable{A:Around}{E Q:Value->Shared->Prop}{env:Env}{value:Expr}{pos:Pos}
theorem JlN{prog:Program}{w:World}{s:Shared}{slice:Expr}{T id:String}
  (hl:typeLookup (.type T) "__getitem__"=pure (some (.builtin id))) (hs:NoSl slice)
  (h:wpAny (model prog w) A (eval value env) (λo s₁=>wpAny (model prog w) A (eval slice env) (λi s₂=>s₂.TypeIs o T/\wpAny (model prog w) A (getItem o i) Q E s₂) E s₁) E s) :
  wpAny (model prog w) A (eval (.Subscript value slice pos) env) Q E s:=by
 show Subscript_ (wpAny_mono h (λo s₁ h₁=>wpAny_mono h₁ (λi s₂ h₂=>?_) λ_ _ x=>x) λ_ _ x=>x);let(b,h₂):=h₂;unfold subscriptTail;show wpAny_bind ?_;rw[getitemInPython_of_ne b.not_modules];show wpAny_bind (wpAny_specialOf b hl ?_);have a:wpAny (model prog w) A (subscripted slice false o i) (λr s₃=>wpAny (model prog w) A (letTemporaryGo value o r >>= λ_=>pure r) Q E s₃) E s₂:=by
  rw[hs o i];show wpAny_operating (wpAny_mono h₂ (λr s₃ h₃=>wpAny_bind (wpAny_letTemporaryGo (wpAny_pure h₃))) λ_ _ x=>x)
 first
  | show wpAny_pure (wpAny_bind a)
  | show wpAny_bind (wpAny_pure (wpAny_bind a))
  | show wpAny_bind a
variable{X:Cx}{pins:List (Addr × Obj)}{σ:St}{y:V}
theorem JgI{s:Shared}{o:Option V}(I:Inv X pins σ H s)(g:DGet H a y o):s.TypeIs (.ref a) "dict":=by
 rcases g with⟨kvs,k,e,_,_⟩ | ⟨kvs,k,b,e,_,_,_⟩
 .let(_,_,d,_,c):=dk_rd I.hok e;show c.typeIs
 .let(_,_,f,_,c):=dt_rd I.hok e;show c.typeIs
def tDGet(td ty:TE):TE:=λσ H Q=>td σ H λx H1=>ty σ H1 λy H2=>∃ a v,x=.ref a/\DGet H2 a y (some v)/\Q v H2
def tDIn(ty td:TE):TE:=λσ H Q=>ty σ H λy H1=>td σ H1 λx H2=>∃ a o,x=.ref a/\DGet H2 a y o/\Q (.bl o.isSome) H2
def Jjk(ty td:TE):TE:=λσ H Q=>ty σ H λy H1=>td σ H1 λx H2=>∃ a o,x=.ref a/\DGet H2 a y o/\Q (.bl (!o.isSome)) H2
def sDPut(td ty tv:TE):TS:=λD σ H=>tv σ H λv H1=>td σ H1 λx H2=>ty σ H2 λy H3=>∃ a H4,x=.ref a/\DPut H3 a y v H4/\D.nx σ H4
section
variable{o e:Expr}{pos' tpos:Pos}{ty tv:TE}{i:Expr}{td:TE}
theorem Jb6(hu:X.A.units+1<cLine)(ho:PE X o td)(hi:PE X i ty)(hs:NoSl i):PE X (.Subscript o i pos) (tDGet td ty):=by
 intro b s σ H Q I h;show JlN PySem.F.slot_dict_getitem.lookup hs (thn (ho b s σ H _ I h) λu m ζ=>?_);let(x,e,I1,d,l):=ζ;show thn (hi b m σ e _ I1 l) λr p ζ=>?_;let(y,k,I2,f,a,v,n,g,j):=ζ;subst n;obtain rfl:u=Value.ref a:=d;show(JgI I2 g,Jiq hu I2 g f λt q I3 c=>⟨v,k,I3,c,j⟩)
theorem Jhz(hu:X.A.units+1<cLine)(hi:PE X i ty)(ho:PE X o td):PC X .In i o (tDIn ty td):=by
 intro b s σ H Q I h;show thn (hi b s σ H _ I h) λr m ζ=>?_;let(y,d,I1,e,k):=ζ;show thn (ho b m σ d _ I1 k) λu p ζ=>?_;let(x,j,I2,c,a,l,n,g,f):=ζ;subst n;obtain rfl:u=Value.ref a:=c;show d_in hu I2 g e λq I3=>⟨.bl l.isSome,j,I3,rfl,f⟩
theorem Jdk(hu:X.A.units+1<cLine)(hi:PE X i ty)(ho:PE X o td):PC X .NotIn i o (Jjk ty td):=by
 intro b s σ H Q I h;show thn (hi b s σ H _ I h) λr m ζ=>?_;let(y,d,I1,e,k):=ζ;show thn (ho b m σ d _ I1 k) λu p ζ=>?_;let(x,j,I2,c,a,l,n,g,f):=ζ;subst n;obtain rfl:u=Value.ref a:=c;show Jk1 hu I2 g e λq I3=>⟨.bl (!l.isSome),j,I3,rfl,f⟩
theorem Jcj(hu:X.A.units+1<cLine)(ho:PE X o td)(hi:PE X i ty)(hv:PE X value tv)(hs:swapsWith value (some (.Subscript o i pos')) pos.line X.env=pure false) :
  PS X (.Assign [.Subscript o i pos'] value pos) (sDPut td ty tv):=by
 intro b s σ H D I h;show wpAny_Assign_Subscript (thn (hv b s σ H _ I h) λr q ζ=>?_) hs;let(v,e,I1,k,p):=ζ;show thn (ho b q σ e _ I1 p) λu d ζ=>?_;let(x,n,I2,c,m):=ζ;show thn (hi b d σ n _ I2 m) λB z ζ=>?_;let(y,w,I3,l,a,f,t,g,j):=ζ;subst t;obtain rfl:u=Value.ref a:=c;show Jir hu I3 g l k λC I4=>⟨σ,f,I4,j⟩
end
theorem Jhi{w:World}(h:Heap)(hb:sysModules<h.objs.size):ObjOk P w H (h.push { cls:=.type "dict",data:=.dict #[] }) h.objs.size (.dK []) :=
 ⟨Nat.zero_le _,beq_eq_false_iff_ne.mpr (Ne.symm (Nat.ne_of_lt hb)),[], .nil,Heap.DictOf.new h⟩
def JkG:TE:=λ_ H Q=>∀ p,H p=none->Q (.ref p) (upd H p (.dK []))
theorem JbK:PE X (.Dict [] [] pos) JkG:=λb s σ H Q I h=>
 wpAny_Dict_empty ⟨.ref s.heap.objs.size,_,I.laid (a:=s.heap.objs.size) (o:=.dK []) (t':=s.toks) (λ_ _ q=>Heap.get?_push_of_some _ q) (Nat.le_refl _) (Jhi s.heap I.big),rfl,h _ (I.hok.fresh (Nat.le_refl _))⟩
def Jgx:List (TE × TE)->St->Hp->(List (V × V)->Hp->Prop)->Prop
 | [],_,H,Q=>Q [] H
 | (tk,tv)::r,σ,H,Q=>tk σ H λx H1=>tv σ H1 λy H2=>Jgx r σ H2 λps H3=>Q ((x,y)::ps) H3
abbrev VV:List (V × V)->List (Value × Value)->Prop:=Paired λp q=>RelV p.1 q.1/\RelV p.2 q.2
def PPs(X:Cx)(pos:Pos)(keys:List (Option Expr))(values:List Expr)(trs:List (TE × TE)):Prop :=
 ∀(pins:List (Addr × Obj))(s:Shared)(σ : St)(H:Hp)(Q:List (V × V)->Hp->Prop),Inv X pins σ H s->Jgx trs σ H Q ->
  wpAny (model X.prog X.w) X.A (evalPairs (pairTrees keys values X.env pos)) (λvs s'=>∃ ps H',Inv X pins σ H' s'/\VV ps vs/\Q ps H') X.xe s
theorem JlD:PPs X pos [] [] []:=λa s σ H Q I h=>pairTrees_nil_walk ⟨[],H,I, .nil,h⟩
variable{trs:List (TE × TE)}
theorem JjZ{k v:Expr}{ks:List (Option Expr)}{vs:List Expr}{tk tv:TE}(hk:PE X k tk)(hv:PE X v tv)(hr:PPs X pos ks vs trs) :
  PPs X pos (some k::ks) (v::vs) ((tk,tv)::trs):=λa s σ H Q I h=>
 pairTrees_cons_walk (thn (hk a s σ H _ I h) λu o ζ=>by let(x,f,I1,d,n):=ζ;show thn (hv a o σ f _ I1 n) λr e ζ=>by let(y,l,I2,i,j):=ζ;show thn (hr a e σ l _ I2 j) λp q ζ=>by let(m,c,I3,b,g):=ζ;show((x,y)::m,c,I3, .cons ⟨d,i⟩ b,g))
def Jfd(kvs more:List (Key × V)):List (Key × V):=more.foldl (λacc kv=>putK acc kv.1 kv.2) kvs
theorem KV.merge:∀{more:List (Key × V)}{rs:List (Key × Value)}{kvs:List (Key × V)}{vs:List (Key × Value)},KV more rs->KV kvs vs->KV (Jfd kvs more) (merged vs rs):=by
 intro more rs kvs vs r;unfold KV at r;induction r generalizing kvs vs with
 | nil=>intro q;show q
 | @cons p q ps qs h t ih=>
  intro a;have e:KV (putK kvs p.1 p.2) (stored vs q.1 q.2):=by
   have:=a.put p.1 h.2;rw[<- h.1];show this
  show ih e
theorem Jdg:∀(more kvs:List (Key × V)),(Jfd kvs more).length<=kvs.length+more.length
 | [],kvs=>by show kvs.length<=kvs.length+0;ac_nf
 | p::r,kvs=>by
  have h1:=Jdg r (putK kvs p.1 p.2);have h2:=JbC kvs p.1 p.2;show(Jfd (putK kvs p.1 p.2) r).length<=_;rw[length_cons];ac_nf
theorem Je3{P:Program}{w:World}:∀{kvs:List (Key × V)}{ws:List (Value × Value)},VV (kvs.map λkv=>(kV kv.1,kv.2)) ws->∃ rs,Carries (Jax P w) ws rs/\KV kvs rs
 | [],_,r=>by rw[map_nil]at r;cases r;show([],True.intro, .nil)
 | p::kvs,_,r=>by
  rw[map_cons]at r;cases r with
  | @cons a b as bs h t=>
   let(rs,c,q):=Je3 (P:=P) (w:=w) t;let(b1,b2):=b;show((p.1,b2)::rs,⟨kV_is h.1,rfl,c⟩, .cons ⟨rfl,h.2⟩ q)
def tDisp(trs:List (TE × TE)):TE:=λσ H Q=>∀ p,H p=none->Jgx trs σ (upd H p (.dK [])) λps H2=>H2 p=some (.dK [])/\∃ kvs:List (Key × V),ps=kvs.map (λkv=>(kV kv.1,kv.2))/\kvs.length<=15/\Q (.ref p) (upd H2 p (.dK (Jfd [] kvs)))
theorem Jly{keys:List (Option Expr)}{values:List Expr}(h:PPs X pos keys values trs)(hall:keys.all (·.isSome)=true)(hl:keys.length=values.length)(h0:keys≠[])
  (h15:keys.length<=15):PE X (.Dict keys values pos) (tDisp trs):=by
 intro b s σ H Q I q;have p:=I.hok.fresh (Nat.le_refl s.heap.objs.size);have I1:=I.laid (a:=s.heap.objs.size) (o:=.dK []) (h':=s.heap.push { cls:=.type "dict",data:=.dict #[] }) (t':=s.toks) (λ_ _ q=>Heap.get?_push_of_some _ q) (Nat.le_refl _) (Jhi s.heap I.big);show wpAny_Dict_walk (knd:=Jax X.prog X.w) hall hl h0 h15 (thn (h b _ σ _ _ I1 (q _ p)) λC A ζ=>?_);let(D,B,I2,g,e,f,x,E,n):=ζ;subst x;let(k,c,v):=Je3 (P:=X.prog) (w:=X.w) g;let(z,i,r,t,u):=dk_of I2.hok e;cases t;show(k,c,u,λh' d l=>⟨.ref s.heap.objs.size,_,?_,rfl,n⟩);have j:(Jfd [] f).length<=sizeLine:=by
  have m:=Jdg f [];rw[length_nil]at m;rw[sizeLine_eq];ac_nf
 have y:∃ q,h'.get? s.heap.objs.size=some q:=let⟨q,_,_,hq,_⟩:=d;⟨q,hq⟩;show Jfk I2 (by rw[e];show True.intro) l y (Jhj j i (v.merge .nil) d)
structure M1(X:Cx)(o:Expr)(m:Str)(apos:Pos)(e:Expr)(cpos:Pos):Prop where
 base:attributeBase o m X.env (eval o X.env)=eval o X.env
 few:((backTo cpos (starEach [e] X.env)).all (λx=>!x.1)&&(backToKw cpos (keywordEach [] X.env)).all (λx=>x.1.isSome)
  && decide (([e]:List Expr).length+([]:List Keyword).length+(if([]:List Keyword).isEmpty then 0 else 1)<30))=true
 line:(apos.endLine == cpos.line)=true
 trees:backTo cpos (starEach [e] X.env)=[(false,eval e X.env)]
structure M2(X:Cx)(o:Expr)(m:Str)(apos:Pos)(e f:Expr)(cpos:Pos):Prop where
 base:attributeBase o m X.env (eval o X.env)=eval o X.env
 few:((backTo cpos (starEach [e,f] X.env)).all (λx=>!x.1)&&(backToKw cpos (keywordEach [] X.env)).all (λx=>x.1.isSome)
  && decide (([e,f]:List Expr).length+([]:List Keyword).length+(if([]:List Keyword).isEmpty then 0 else 1)<30))=true
 line:(apos.endLine == cpos.line)=true
 trees:backTo cpos (starEach [e,f] X.env)=[(false,eval e X.env),(false,eval f X.env)]
def IsD(H:Hp)(a:Addr):Prop:=(∃ kvs,Rd H a (.dK kvs))\/∃ kvs,Rd H a (.dT kvs)
theorem Jgb{s:Shared}(I:Inv X pins σ H s)(d:IsD H a) :
  s.TypeIs (.ref a) "dict"/\(∀ b,Value.ref a=.ref b->∃ ob,s.heap.get? b=some ob/\ob.dict=none)/\(a == sysModules)=false:=by
 rcases d with⟨kvs,e⟩ | ⟨kvs,e⟩
 .let(_,f,j,_,c):=dk_rd I.hok e;show(c.typeIs,λb q=>?_,f);cases q;let(ob,_,_,h,g,_):=c;show(ob,h,g.2.1)
 .let(_,f,i,_,c):=dt_rd I.hok e;show(c.typeIs,λb q=>?_,f);cases q;let(ob,_,_,h,g,_):=c;show(ob,h,g.2.1)
section
variable{d:V}{u r:Value}{o:Option V}{s:Shared}
theorem JlW(hu:A.units+1<cLine)(I:Inv X pins σ H s)(g:DGet H a y o)(ry:RelV y u)(h:∀ w' s',Inv X pins σ H s'->RelV (o.getD .non) w'->Q w' s') :
  wpAny (model X.prog X.w) A (call (.builtin "dict.get") [.ref a,u]) Q E s:=by
 rcases g with⟨kvs,k,e,ey,l⟩ | ⟨kvs,k,b,e,ey,eb,l⟩
 .subst ey;let(z,f,j,c,d):=dk_rd I.hok e;show call_meetsIn PySem.F.slot_dict_get d.typeIs PySem.F.entry_dict_get (PySem.F.args_dict_get_2 _ _) (meets_dict_get (Jax X.prog X.w) a (kV_is ry) f) ⟨_,d.mapOf,h _ _ (I.tok _) ?_⟩;rw[l];show(c.val k).getD rfl
 .subst ey;cases(show u=Value.ref b from ry);let(z,f,i,c,d):=dt_rd I.hok e;show call_meetsIn PySem.F.slot_dict_get d.typeIs PySem.F.entry_dict_get (PySem.F.args_dict_get_2 _ _) (meetsH_dict_get (tupleKind (Jax X.prog X.w)) a b f) ⟨tupleKind_room_in1 hu,k,i,Jej I.hok eb,d,h _ _ (I.tok _) ?_⟩;rw[l];show(c.val k).getD rfl
theorem JlX(hu:A.units+1<cLine)(I:Inv X pins σ H s)(g:DGet H a y o)(ry:RelV y u)(rd:RelV d r)(h:∀ w' s',Inv X pins σ H s'->RelV (o.getD d) w'->Q w' s') :
  wpAny (model X.prog X.w) A (call (.builtin "dict.get") [.ref a,u,r]) Q E s:=by
 rcases g with⟨kvs,k,e,ey,l⟩ | ⟨kvs,k,b,e,ey,eb,l⟩
 .subst ey;let(z,i,m,c,f):=dk_rd I.hok e;show call_meetsIn PySem.F.slot_dict_get f.typeIs PySem.F.entry_dict_get (PySem.F.args_dict_get_3 _ _ _) (meets_dict_get_default (Jax X.prog X.w) a (kV_is ry) i r) ⟨_,f.mapOf,h _ _ (I.tok _) ?_⟩;rw[l];show(c.val k).getD rd
 .subst ey;cases(show u=Value.ref b from ry);let(z,i,j,c,f):=dt_rd I.hok e;show call_meetsIn PySem.F.slot_dict_get f.typeIs PySem.F.entry_dict_get (PySem.F.args_dict_get_3 _ _ _) (meetsH_dict_get_default (tupleKind (Jax X.prog X.w)) a b i r) ⟨tupleKind_room_in1 hu,k,j,Jej I.hok eb,f,h _ _ (I.tok _) ?_⟩;rw[l];show(c.val k).getD rd
end
def JkE(td ty:TE):TE:=λσ H Q=>td σ H λx H1=>∃ a,x=.ref a/\IsD H1 a/\ty σ H1 λy H2=>∃ o,DGet H2 a y o/\Q (o.getD .non) H2
def JkF(td ty tx:TE):TE:=λσ H Q=>td σ H λx H1=>∃ a,x=.ref a/\IsD H1 a/\ty σ H1 λy H2=>tx σ H2 λz H3=>∃ o,DGet H3 a y o/\Q (o.getD z) H3
section
variable{o e:Expr}{apos cpos:Pos}{ty tx:TE}{f:Expr}{td:TE}
theorem JjV(hu:X.A.units+1<cLine)(ho:PE X o td)(he:PE X e ty)(m:M1 X o "get" apos e cpos):PE X (.Call (.Attribute o "get" apos) [e] [] cpos) (JkE td ty):=by
 intro b s σ H Q I h;show wpAny_Call_method m.base m.few m.line PySem.F.plainAttrs_dict PySem.F.slot_dict_get PySem.F.type_dict_get (thn (ho b s σ H _ I h) λu p ζ=>?_);let(x,i,I1,f,a,q,d,n):=ζ;subst q;obtain rfl:u=Value.ref a:=f;let(t,r,_):=Jgb I1 d;show(t,r,?_);rw[m.trees];show Calls.callWith_builtin rfl (Calls.evalArgs_plain (Calls.spliced_cons (thn (he b p σ i _ I1 n) λz v ζ=>?_)));let(y,l,I2,j,B,g,k):=ζ;show Calls.spliced_nil ?_;show JlW hu I2 g j λC w I3 c=>⟨_,l,I3,c,k⟩
theorem JjW(hu:X.A.units+1<cLine)(ho:PE X o td)(he:PE X e ty)(hf:PE X f tx)(m:M2 X o "get" apos e f cpos):PE X (.Call (.Attribute o "get" apos) [e,f] [] cpos) (JkF td ty tx):=by
 intro b s σ H Q I h;show wpAny_Call_method m.base m.few m.line PySem.F.plainAttrs_dict PySem.F.slot_dict_get PySem.F.type_dict_get (thn (ho b s σ H _ I h) λu v ζ=>?_);let(x,l,I1,j,a,w,d,t):=ζ;subst w;obtain rfl:u=Value.ref a:=j;let(C,B,_):=Jgb I1 d;show(C,B,?_);rw[m.trees];show Calls.callWith_builtin rfl (Calls.evalArgs_plain (Calls.spliced_cons (thn (he b v σ l _ I1 t) λJ k ζ=>?_)));let(y,r,I2,p,q):=ζ;show Calls.spliced_cons (thn (hf b k σ r _ I2 q) λE G ζ=>?_);let(z,i,I3,D,K,g,n):=ζ;show Calls.spliced_nil ?_
 show JlX hu I3 g p D λL M I4 c=>⟨_,i,I4,c,n⟩
end
section
variable{s:Shared}
end
section
variable{u:Value}{s:Shared}
end
section
variable{κ:Type}[DecidableEq κ]
end
def DictAt(h:Heap)(e:Addr)(od:Option Addr):Prop:=∃ o,h.get? e=some o/\o.dict=od
theorem Jiw(o:Obj)(f):(o.mapFields f).dict=o.dict:=by
 let(c,d,a,b):=o;cases a <;> rfl
section
variable{M:Model}{base:Heap}{outer l:List Env}{L e:Addr}{oe:Obj}{vs:Array Value}{head a0 cls fl:Value}{od:Option Addr}{Q:Unit->Shared->Prop}{s:Shared}
theorem Jkj{hadNext:Bool}(hfr:A.frames=some (env::outer))(hl:s.heap.FunFrames base (env::outer))(hf:env.frame=some L)
  (he:s.heap.get? e=some oe) (hkb:base.StaysIn s.heap) (hen:base.get? e=none) (hd:oe.data=.fields vs) (hsz:1<vs.size) (h0:vs[0]?=some a0)
  (h:∀ h',Heap.NotedW base (env::outer) e oe.cls a0 (rawInt L) s.heap h'->DictAt h' e oe.dict->Q () { s with heap:=h' }) :
  wpAny M A (do let a <- frameOf env;let pl <- entryPlaceOf L hadNext;let b <- EntryCells.newEntry head a .none (rawInt L) .none pl;setField (.ref e) 1 b) Q E s:=by
 have C:e∉(env::outer).filterMap (·.frame):=λu=>by
  let(_,o,y,f):=hl.mem u;rw[he]at y;cases y;show f vs hd
 show wpAny_bind (wpAny_frameOf_fun hfr hl hf λh₁ p=>wpAny_bind (wpAny_entryPlaceOf λpl k=>?_));unfold EntryCells.newEntry newFields;show wpAny_bind (wpAny_newObj_type ?_ (k.sizeOk5 _ _ _ _ _));have g:h₁.get? e=some oe:=(p.2.1 e C).trans he;have l:base.StaysIn h₁:=λb o c=>(p.2.1 b λu=>by rw[(hl.mem u).1]at c;cases c).trans (hkb b o c);generalize x:({ cls:=.type "traceback",dict:=none,data:=.fields ([head, .ref L, .none,rawInt L, .none]++(if pl.isEmpty then List.replicate 6 Value.none else pl)).toArray }:Obj)=r;have i:=Heap.get?_push_of_some (h:=h₁) r g;show wpAny_setField i hd hsz ?_;have w:h₁.objs.size≠e:=Nat.ne_of_gt (Heap.lt_size g);have j:=Obj.data_mapFields hd (·.setIfInBounds 1 (Value.ref h₁.objs.size));have m:=Heap.get?_update_self (Obj.mapFields (·.setIfInBounds 1 (Value.ref h₁.objs.size))) i (Obj.isFreed_of_fields j);have t:=(Heap.get?_update_other (h₁.push r) (Obj.mapFields (·.setIfInBounds 1 (Value.ref h₁.objs.size))) (Ne.symm w)).trans (Heap.get?_push_size h₁ (by rw[<- x];rfl));have d:∀ b o,b≠e->h₁.get? b=some o->((h₁.push r).update e (Obj.mapFields (·.setIfInBounds 1 (Value.ref h₁.objs.size)))).get? b=some o:=λb o n c=>by
  rw[Heap.get?_update_other _ _ (Ne.symm n)];show Heap.get?_push_of_some _ c
 have B:∀ b o,s.heap.get? b=some o->(∀ vs,o.data≠.fields vs)->b≠e:=λb o c f q=>by
  rw[q,he]at c;cases c;show f vs hd
 show h _ ⟨λb o c=>d b o (λq=>by rw[q,hen]at c;cases c) (l b o c),hl.of_keeps λb o c f=>?_,?_,λb o c f=>?_⟩ ⟨_,m,Jiw _ _⟩
 .let(v,z):=p.2.2 b o c;show(_,d b _ (B b o c f) z,rfl)
 .show(_,_,h₁.objs.size,r,_,m,⟨Obj.cls_mapFields _ _,by rw[Array.getElem?_setIfInBounds_ne ⋯];show h0⟩,j,by simp[hsz],l.fresh,w,t,by rw[<- x],?_);first | (simp;done) | (rcases k with rfl | ⟨_,_,_,_,_,_,_,rfl⟩ <;> simp)
 .let(v,z):=p.2.2 b o c;show(v,d b _ (B b o c f) z)
theorem noteD(hfr:A.frames=some (env::outer))(hf:env.frame=some L)(hfl:Heap.FlyingW base (env::outer) e cls a0 s.heap)(hdc:DictAt s.heap e od)
  (h:∀ h',Heap.HeldW base (env::outer) e cls a0 L h'->s.heap.UpToSlots h'->DictAt h' e od->Q () { s with heap:=h' }):wpAny M A (noteFrame (.ref e) env) Q E s:=by
 let(r,g,B,J,v,T,K,G,p,(i,H),t,u,m,n,l,d,w):=hfl;subst i;let(z,j,k):=hdc;rw[p]at j;cases j;unfold noteFrame;simp only[hf];show wpAny_bind (wpAny_field p t u ?_);rw[if_pos (show(Value.ref T != Value.none)=true from by simp)];show wpAny_bind (wpAny_field l d w ?_);rw[if_neg (show¬((Value.none == rawInt L)=true)from by simp[rawInt])];show wpAny_bind (wpAny_setField l d (Array.getElem?_eq_some_iff.mp w).1 ?_);have a:∀ b,b≠T->(s.heap.update T (Obj.mapFields (·.setIfInBounds 3 Value.none))).get? b=s.heap.get? b:=λb c=>Heap.get?_update_other _ _ (Ne.symm c);have x:∀ b o,s.heap.get? b=some o->(∀ v,o.data≠.fields v)->b≠T:=λb o c f q=>by
  rw[q,l]at c;cases c;show f G d
 show Jkj hfr (B.of_keeps λb o c f=>⟨o,(a b (x b o c f)).trans c,rfl⟩) hf ((a e (Ne.symm n)).trans p)
  (λb o c=>(a b λq=>by rw[q,m]at c;cases c).trans (r b o c)) g t (Array.getElem?_eq_some_iff.mp u).1 H λh' ⟨y,C,I,D⟩ F=>?_
 show h h' ⟨y,g,C,I⟩ (λb o c f=>D b o ((a b (x b o c f)).trans c) f) (k ▸ F)
theorem JiA(hkb:base.StaysIn s.heap)(hl:s.heap.FunFrames base l)(ht:s.heap.TracedAtW base e cls a0 fl)(hdc:DictAt s.heap e od)
  (h:∀ h',base.StaysIn h'->h'.FunFrames base l->h'.TracedW base e cls a0->s.heap.UpToSlots h'->DictAt h' e od->Q () { s with heap:=h' }):wpAny M A (setFlight (.ref e) none) Q E s:=by
 let(w,p,T,B,x,u,j,t,n,m,g,r,d,y):=ht;have i:=(Array.getElem?_eq_some_iff.mp y).1;have a:∀ b,b≠T->(s.heap.update T (Obj.mapFields (·.setIfInBounds 3 ((none:Option Addr).elim Value.none λf=>rawInt f)))).get? b=s.heap.get? b:=λb c=>Heap.get?_update_other _ _ (Ne.symm c);have v:∀ b o,s.heap.get? b=some o->(∀ p,o.data≠.fields p)->b≠T:=λb o c k q=>by
  rw[q,r]at c;cases c;show k x d
 unfold setFlight;show wpAny_bind (wpAny_field u t n ?_);rw[if_pos (show(Value.ref T != Value.none)=true from by simp)];show wpAny_setField r d i (h _ (λb o c=>(a b λq=>by rw[q,m]at c;cases c).trans (hkb b o c)) (hl.of_keeps λb o c k=>⟨o,(a b (v b o c k)).trans c,rfl⟩) ?_ (λb o c k=>⟨o.slots,(a b (v b o c k)).trans c⟩) ?_)
 .show(w,p,T,_,_,(a e (Ne.symm g)).trans u,j,t,n,m,g,Heap.get?_update_self _ r (Obj.isFreed_of_fields (Obj.data_mapFields d _)),Obj.data_mapFields d _,by simp[i])
 .let(o,n,z):=hdc;show(o,(a e (Ne.symm g)).trans n,z)
theorem Jld(hfr:A.frames=some (env::outer))(hf:env.frame=some L)(hfl:Heap.FlyingW base (env::outer) e cls a0 s.heap)(hdc:DictAt s.heap e od)
  (hQ:∀ h',Heap.FlyingW base outer e cls a0 h'->s.heap.UpToSlots h'->DictAt h' e od->Q () { s with heap:=h' }):wpAny M A (leaving env (.ref e)) Q E s:=by
 unfold leaving;show wpAny_bind (noteD hfr hf hfl hdc λh d f m=>?_);let(a,k,l,j):=d;show JiA (s:={ s with heap:=h }) a l j m λn c ⟨_,_,o⟩ g b i=>hQ n ⟨c,k,o,g⟩ (f.trans b) i
theorem JlY(hfr:A.frames=some (env::outer))(hl:s.heap.FunFrames base (env::outer))(hf:env.frame=some L)(he:s.heap.get? e=some oe)(hkb:base.StaysIn s.heap)(hen:base.get? e=none)(hd:oe.data=.fields vs)(h1:vs[1]?=some .none)(h0:vs[0]?=some a0)
  (hQ:∀ h',Heap.FlyingW base outer e oe.cls a0 h'->s.heap.UpToSlots h'->DictAt h' e oe.dict->Q () { s with heap:=h' }):wpAny M A (leaving env (.ref e)) Q E s:=by
 unfold leaving noteFrame;simp only[hf];show wpAny_bind (wpAny_bind (wpAny_field he hd h1 ?_));rw[if_neg ⋯];show Jkj hfr hl hf he hkb hen hd (Array.getElem?_eq_some_iff.mp h1).1 h0 λl ⟨b,k,j,a⟩ i=>?_;show JiA (s:={ s with heap:=l }) b k j i λf d ⟨_,_,m⟩ g c h=>hQ f ⟨d,hen,m,g⟩ (Heap.UpToSlots.trans a c) h
end
variable{h:Heap}
theorem ObjOk.is_there{w:World}{o:HO}(x:ObjOk P w H h a o):∃ ob,h.get? a=some ob:=by
 cases o with
 | lst xs=>let(_,_,_,_,e):=x;show(_,e)
 | tup xs=>let(_,_,_,p):=x;let(o,e,_):=p;show(_,e)
 | dK kvs=>let(_,_,_,_,o,_,_,e,_):=x;show(_,e)
 | dT kvs=>let(_,_,_,_,o,_,_,e,_):=x;show(_,e)
 | set S n=>
  let(o,_,_,_,e,_):=x;show(_,e)
 | ins C dx fs=>let(_,_,_,e,_):=x;show(_,e)
 | own y=>show x
 | xd fs=>let(b,n,_):=x;let(c,e,_):=Jgd n;show(_,e)
 | rng lo hi=>let(_,_,_,e):=x;show(_,e)
 | frz ob u=>show(_,x.1)
 | tbl ps=>show(_,x)
 | met f y=>show(_,x)
 | ext φ=>show x.2.1
theorem HOk.isnone{w:World}(x:HOk P w H h)(e:h.get? a=none):H a=none:=by
 cases q:H a with
 | none=>rfl
 | some u=>
  let(b,z):=(x a u q).is_there;rw[e]at z;cases z
structure Fly(l:List Env)(H':Hp)(h0:Heap)(ea:Addr)(od:Option Addr)(cls a0:Value)(B h:Heap):Prop where
 fly:Heap.FlyingW B l ea cls a0 h
 free:H' ea=none
 new:h0.get? ea=none
 dct:DictAt h ea od
 kept:∀ b o,h.get? b=some o->((∃ o',h0.get? b=some o')\/∃ u,H' b=some u)->b∉frs l->B.get? b=some o
def CX1(P:Program)(w:World):CXT:=λouter H s E e s'=>
 ∃(ea:Addr)(od:Option Addr)(cls a0:Value)(B:Heap)(H':Hp),e=.ref ea/\s'.os=s.os/\AllBare s'.gens/\Un (frs outer) [] H H' s.heap s'.heap/\HOk P w H' s'.heap /\
  Fly outer H' s.heap ea od cls a0 B s'.heap/\E cls od H'
section
variable{l l':List Env}{h0 h' B:Heap}{ea:Addr}{od:Option Addr}{cls a0:Value}{w:World}
theorem Fly.next(u:Un (frs l) [] H H' h0 h)(hok:HOk P w H' h)(F:Fly l H' h0 ea od cls a0 B h)(fr:∀ b∈frs l,H' b=none)(k:B.StaysIn h')(sl:h.UpToSlots h') :
  HOk P w H' h'/\Un (frs l) [] H H' h0 h'/\∀ b o,h.get? b=some o->((∃ o',h0.get? b=some o')\/∃ u,H' b=some u)->b∉frs l->h'.get? b=some o:=by
 have c:∀ b o,h.get? b=some o->((∃ o',h0.get? b=some o')\/∃ u,H' b=some u)->b∉frs l->h'.get? b=some o:=λb o q r n=>k b o (F.kept b o q r n);have d:∀ b o,b∈frs l->h.get? b=some o->∃ f,h'.get? b=some { o with slots:=f }:=λb o m q=>by
  let(_,o',t,x):=F.fly.2.2.1.mem m;rw[q]at t;cases t;show sl b o q x
 show(λa o e=>?_,⟨λb o q n s _=>?_,λb o q n m _=>?_,u.free,λb o q y=>?_,u.tups,u.frzs,u.tbls⟩,c)
 .have p:∀ b u,H' b=some u->b∉frs l:=λb u q m=>by
   rw[fr b m]at q;cases q
  show(hok a o e).stay (λb v i q=>?_) (λ_ r=>r) (λ_ _ r=>r);rcases i with rfl | i
  .show c _ _ q (.inr ⟨_,e⟩) (p _ _ e)
  .show c _ _ q (.inr ⟨_,i⟩) (p _ _ i)
 .show c b o (u.keep b o q n s (by simp)) (.inl ⟨o,q⟩) s
 .let(z,g):=u.slot b o q n m (by simp);let(f,j):=d b _ m g;show(f,j)
 .let(o',g):=u.there b o q (by simp);by_cases m:b∈frs l
  .let(f,j):=d b _ m g;show(_,j)
  .show(o',c b o' g (.inl ⟨o,q⟩) m)
end
section
variable{h' B:Heap}{ea:Addr}{od:Option Addr}{cls a0:Value}{s:Shared}
theorem Inv.out(I:Inv X pins σ H s)(hex:X.ex=[])(u:Un (frs X.stack) [] H H' s.heap h'):Un X.fs [] X.H₀ H' X.s₀.heap h':=by
 have J:=I.base;rw[hex]at J;have h:∀ b o,X.s₀.heap.get? b=some o->b≠X.env.locals:=λb o q z=>by
  have f:=Heap.lt_size q;have r:=I.ok.above;rw[z]at f;show absurd (Nat.lt_of_lt_of_le f r) (Nat.lt_irrefl _)
 have j:∀ b o,X.s₀.heap.get? b=some o->b∉X.fs->b∉frs X.stack:=λb o q c m=>by
  rcases mem_cons.mp (I.stkSub b m)with z | z
  .show h b o q z
  .show c z
 show(λb o q n c _=>?_,λb o q n m _=>?_,λb o q n _=>?_,λb o q _=>?_,λb g q=>u.tups b g (J.tups b g q),λb o v q=>u.frzs b o v (J.frzs b o v q),λb l q=>?_)
 .show u.keep b o (J.keep b o q n c (by simp)) (J.free b o q n (by simp)) (j b o q c) (by simp)
 .let(t,a):=J.slot b o q n m (by simp);let(i,d):=u.any a (J.free b o q n (by simp)) (by simp);show(i,d)
 .let(e,a):=J.there b o q (by simp);show u.free b e a (J.free b o q n (by simp)) (by simp)
 .let(e,a):=J.there b o q (by simp);show u.there b e a (by simp)
 .let(p,a):=J.tbls b l q;let(k,d):=u.tbls b _ a;show(p++k,by rw[d,Array.append_assoc])
theorem Inv.stkFree'(I:Inv X pins σ H s)(u:Un (frs X.stack) [] H H' s.heap h):∀ b∈frs X.stack,H' b=none:=λb m=>by
 let(_,o,q,_):=I.stack.mem m;show u.free b o q (I.stkFree b m) (by simp)
end
section
variable{mg:Str->Option Value}{base:Heap}{N:List Str}{qual:Str}{scope:Scope}{cdv:Value}{outer:List Env}{s0:Shared}{H0:Hp}{E:XK}{w:World}{K:W.Frag}{f:Addr}
theorem pass1:JcH (CX1 P w) (cxOf (CX1 P w) P w K mg base N qual scope f cdv A outer s0 H0 E) E:=by
 intro x σ H s e J I W;let(i,Y,cls,a0,B,D,rfl,t,Q,u,l,F,X):=W;have G:=I.stkFree' u;show wpAny (model P w) (A.deeper (envOfC qual scope s0.heap.objs.size f cdv)) (leaving (envOfC qual scope s0.heap.objs.size f cdv) (.ref i)) (λ_ g=>CX1 P w outer H0 s0 E (.ref i) g) (λS g=>CX1 P w outer H0 s0 E S g) J;show Jld (base:=B) (cls:=cls) (a0:=a0) I.ok.frames rfl F.fly F.dct λL h n p=>?_;let(j,U,Z):=F.next u l G h.1 n;have k:s0.heap.get? i=none:=by
  cases q:s0.heap.get? i with
  | none=>rfl
  | some o=>
   let(a,T):=I.base.there i o q (by intro z;cases z);have:=F.new;rw[T]at this;cases this
 show(i,Y,cls,a0,B,D,rfl,t.trans I.os,Q,I.out rfl U,j,⟨h,F.free,k,p,λb o q r V=>?_⟩,X);have M:b≠s0.heap.objs.size:=λz=>by
  rcases r with⟨a,c⟩ | ⟨v,c⟩
  .have:=Heap.lt_size c;rw[z]at this;show absurd this (Nat.lt_irrefl _)
  .have R:=G s0.heap.objs.size (by
    show s0.heap.objs.size∈frs (envOfC qual scope s0.heap.objs.size f cdv::outer);show List.mem_filterMap.mpr ⟨_,mem_cons_self ..,rfl⟩)
   rw[z,R]at c;cases c
 have O:b∉frs (envOfC qual scope s0.heap.objs.size f cdv::outer):=λm=>by
  rcases mem_cons.mp (I.stkSub b m)with z | z
  .show M z
  .show V z
 have C:(∃ a,s.heap.get? b=some a)\/∃ v,D b=some v:=by
  rcases r with⟨a,c⟩ | r
  .show .inl (I.base.there b a c (by intro z;cases z))
  .show .inr r
 have d:∃ a,J.heap.get? b=some a:=by
  rcases C with⟨a,c⟩ | ⟨v,c⟩
  .show u.there b a c (by simp)
  .show(l b v c).is_there
 let(a,c):=d;have z:=F.kept b a c C O;have y:=h.1 b a z;rw[show L.get? b=some o from q]at y;cases y;show z
end
theorem passF{w:World}:JcH (CX1 P w) X E0:=λ_ _ _ _ _ _ _ h=>by
 let(_,_,_,_,_,_,_,_,_,_,_,_,z):=h;show False.elim z
variable{C:Addr}{bmB:List Value}{newId:String}
theorem Jk5{K:W.Frag}(X:K.In h)(q:W.excIn K C bmB newId=true) :
  ∃(bm:List Value)(N:Addr)(nm qn:Str)(bs:List Value)(hdct:Bool)(sn:List Str)(sub:List Value)(ab:Bool)(col:Option Bool)(dd:Option Addr)(k0 k1 k2 k3 k5:Option Value)(mN:Str->Option Value),
   h.get? C=some (excClassObj nm qn C N bs bm hdct sn sub ab col dd k0 k1 k2 k3 k5 newId)/\h.Ns N mN/\mN "__init__"=none/\OwnTail h bmB bm:=by
 unfold W.excIn at q;split at q
 next dd cd sl ho=>
  split at q
  next C' bm k0 k1 k2 k3 n k5 hm hs=>
   have m:((((C'=C/\n=newId)/\cd.hasDel=false)/\W.tailIn K bmB bm=true)/\W.nsOkIn K cd.ns=true)/\W.nsIn K cd.ns "__init__"=some none:=by simpa using q
   obtain⟨⟨⟨⟨⟨k,g⟩,p⟩,o⟩,e⟩,l⟩:=m;let(nm,bs,a,j,qn,f,sn,sub,ab,col,b):=cd;have i:sl=#[k0,k1,k2,k3,some (.builtin n),k5]:=by
    cases sl;show congrArg Array.mk hs
   subst k;subst g;subst i;have c:a=.ref C'::bm:=hm;subst c;have d:b=false:=p;subst d;show(bm,j,nm,qn,bs,f,sn,sub,ab,col,dd,k0,k1,k2,k3,k5,_,X _ _ ho, .of_isNs (W.isNs_of_in X e),W.nsMap_none_of_in X e l,W.tail_of_in X o)
  next=>cases q
 next=>cases q
section
variable{mg:Str->Option Value}{base:Heap}{N:List Str}{qual:Str}{scope:Scope}{cdv:Value}{outer:List Env}{s0:Shared}{H0:Hp}{E:XK}{w:World}{K:W.Frag}{f:Addr}{h':Heap}{cls:Value}
theorem Jl7{s:Shared}{e:Addr}{us:List Value}
  (I:Inv (cxOf (CX1 P w) P w K mg base N qual scope f cdv A outer s0 H0 E) pins σ H s) (hm:Heap.MadeExcOf s.heap h' e cls us) (q:E cls none H) :
  (cxOf (CX1 P w) P w K mg base N qual scope f cdv A outer s0 H0 E).xe (.ref e) { s with heap:=h' }:=by
 show wpAny (model P w) (A.deeper (envOfC qual scope s0.heap.objs.size f cdv)) (leaving (envOfC qual scope s0.heap.objs.size f cdv) (.ref e)) (λ_ h=>CX1 P w outer H0 s0 E (.ref e) h) (λU h=>CX1 P w outer H0 s0 E U h) { s with heap:=h' };have Y:=I.stkFree;have F:∀ i∈(envOfC qual scope s0.heap.objs.size f cdv::outer), ∀ b,i.frame=some b->b∈frs (envOfC qual scope s0.heap.objs.size f cdv::outer):=λi L b k=>List.mem_filterMap.mpr ⟨i,L,k⟩;let(t,L,_,_):=hm.there;show JlY (s:={ s with heap:=h' }) (base:=W.hideAll s.heap (frs (envOfC qual scope s0.heap.objs.size f cdv::outer))) I.ok.frames ((W.funFrames_hide I.stack F).of_keeps λb o k hn=>⟨o,hm.keeps b o k,rfl⟩) rfl L (λb o z=>hm.keeps b o (W.of_hideAll _ z)) ?_ rfl rfl rfl λC x p J=>?_
 .cases z:(W.hideAll s.heap (frs (envOfC qual scope s0.heap.objs.size f cdv::outer))).get? e with
  | none=>rfl
  | some o=>
   have R:=W.of_hideAll _ z;rw[hm.new]at R;cases R
 have j:H e=none:=I.hok.isnone hm.new;have c:∀ b o,s.heap.get? b=some o->b∉frs (envOfC qual scope s0.heap.objs.size f cdv::outer)->C.get? b=some o:=λb o z n=>x.1 b o (W.hideAll_get _ z n);have u:Un (frs (envOfC qual scope s0.heap.objs.size f cdv::outer)) [] H H s.heap C:=by
  show(λb o z _ n _=>c b o z n,λb o z _ m _=>?_,λ_ _ _ n _=>n,λb o z _=>?_,λ_ _ z=>z,λ_ _ _ z=>z,λ_ ps z=>⟨#[],by rw[z];simp⟩)
  .let(_,g,d,D):=I.stack.mem m;rw[z]at d;cases d;show p b o (hm.keeps b o z) D
  .by_cases m:b∈frs (envOfC qual scope s0.heap.objs.size f cdv::outer)
   .let(_,g,d,D):=I.stack.mem m;rw[z]at d;cases d;let(Z,S):=p b o (hm.keeps b o z) D;show(_,S)
   .show(o,c b o z m)
 have G:∀ b v,H b=some v->b∉frs (envOfC qual scope s0.heap.objs.size f cdv::outer):=λb v z m=>by
  rw[Y b m]at z;cases z
 have M:HOk P w H C:=λa o z=>by
  show(I.hok a o z).stay (λb v k l=>?_) (λ_ r=>r) (λ_ _ r=>r);rcases k with rfl | k
  .show c _ _ l (G _ _ z)
  .show c _ _ l (G _ _ k)
 have B:s0.heap.get? e=none:=by
  cases z:s0.heap.get? e with
  | none=>rfl
  | some o=>
   let(g,V):=I.base.there e o z (by intro z;cases z);have:=hm.new;rw[V]at this;cases this
 show(e,none,cls, .ref t,_,H,rfl,I.os,I.bare,I.out rfl u,M,⟨x,j,B,J,λb o z r X=>?_⟩,q);have T:∃ g,s.heap.get? b=some g:=by
  rcases r with⟨g,d⟩ | ⟨v,d⟩
  .show I.base.there b g d (by intro z;cases z)
  .show(I.hok b v d).is_there
 have O:b∉frs (envOfC qual scope s0.heap.objs.size f cdv::outer):=λm=>by
  rcases mem_cons.mp (I.stkSub b m)with y | y
  .rcases r with⟨g,d⟩ | ⟨v,d⟩
   .have Q:=Heap.lt_size d;rw[y]at Q;show absurd Q (Nat.lt_irrefl _)
   .show G b v d m
  .show X y
 let(g,d):=T;have l:=c b g d O;rw[show C.get? b=some o from z]at l;cases l;show W.hideAll_get _ d O
def JkH(E:XK)(C:Addr)(ta:TA):TS:=λ_ σ H=>ta σ H λvs H1=>vs.length<=sizeLine/\E (.ref C) none H1
variable{x:Str}{np:Pos}{e:Expr}{es:List Expr}
theorem JfI{cpos:Pos}{B initId:String}{ta:TA}(FB:ExcBaseFacts B newId initId bmB)(hx:W.excIn K C bmB newId=true)
  (hg:Gl (cxOf (CX1 P w) P w K mg base N qual scope f cdv A outer s0 H0 E) x) (hm:mg x=some (.ref C)) (ha:PA (cxOf (CX1 P w) P w K mg base N qual scope f cdv A outer s0 H0 E) (e::es) ta)
  (he:autoParam (starEach (e::es) (envOfC qual scope s0.heap.objs.size f cdv)=(false,eval e (envOfC qual scope s0.heap.objs.size f cdv))::starEach es (envOfC qual scope s0.heap.objs.size f cdv)) Au)
  (hpl:autoParam ((backTo cpos (starEach es (envOfC qual scope s0.heap.objs.size f cdv))).any (·.1)=false) Au) (hdb:autoParam ((x == ("__debug__" : Str))=false) Au) :
  PS (cxOf (CX1 P w) P w K mg base N qual scope f cdv A outer s0 H0 E) (.Raise (some (.Call (.Name x np) (e::es) [] cpos)) none pos) (JkH E C ta):=by
 intro a s σ H D I h;let(bm,j,nm,m,bs,hdct,sn,sub,ab,col,dd,k0,k1,k2,k3,k5,mN,i,d,b,T):=Jk5 I.mod.kin hx;have k:(A.deeper (envOfC qual scope s0.heap.objs.size f cdv)).handled=none:=I.ok.hd rfl;show wpAny_Raise_call_subT (C:=C) (nm:=nm) (q:=m) (N:=j) (bs:=bs) (bm:=bm) (hdct:=hdct) (sn:=sn) (sub:=sub) (ab:=ab) (col:=col) (dd:=dd) (k0:=k0) (k1:=k1) (k2:=k2) (k3:=k3) (k5:=k5)
  FB (mN:=mN) (T.hasType FB.hasBase) k ?_ b (Jel I hg hm ⟨rfl,?_⟩ hdb)
 .show(backTo cpos (starEach (e::es) (envOfC qual scope s0.heap.objs.size f cdv))).any (·.1)=false;rw[he];show(false||(backTo cpos (starEach es (envOfC qual scope s0.heap.objs.size f cdv))).any (·.1))=false;rw[hpl];rfl
 .have z:=ha cpos a s σ H _ I h;show wpAny _ _ (evalArgs (.ref C) true (backTo cpos (starEach (e::es) (envOfC qual scope s0.heap.objs.size f cdv))) []) _ _ _;have l:=he;rw[he];show Calls.evalArgs_plain ?_;have c:wpAny (model P w) (A.deeper (envOfC qual scope s0.heap.objs.size f cdv)) (spliced (backTo cpos (starEach (e::es) (envOfC qual scope s0.heap.objs.size f cdv)))) _ _ s:=z;rw[he]at c;show thn c λo p ζ=>?_;let(u,t,I1,r,g,q):=ζ;show(rfl,by rw[<- r.length];show g,I1.bk _ _ i,d.keeps I1.bk,T.keeps I1.bk,λn e hm=>Jl7 I1 hm q)
end
def xCall(sp:Sp)(dvs:List V)(t:TA):St->Hp->VK->XK->Prop:=λσ H Q E=>t σ H λvs H1=>sp (vs++dvs) H1 Q E
section
variable{fd:FuncData}{ps:List Str}{sp:Sp}{dvs:List V}{ds:List Value}{E:XK}{x:Str}{p apos:Pos}{e o:Expr}{es:List Expr}{ta:TE}{k:Nat}{f:Addr}{m:Str}{t:TA}
end
section
variable{s':Shared}{h' B:Heap}{ea:Addr}{od:Option Addr}{cls a0:Value}{s:Shared}
theorem Inv.track{o:HO}(I:Inv X pins σ H s)(hn:H a=none)(h1:X.s₀.heap.get? a=none)(h2:a≠X.env.locals)(h3:∀ x c,X.env.cells.lookup x=some c->c≠a)(h4:∀ p∈X.pn++pins,p.1≠a)
  (ok:ObjOk X.prog X.w (upd H a o) s.heap a o):Inv X pins σ (upd H a o) s:=by
 have d:∀ b u,H b=some u->b≠a:=λb u q=>Jai q hn;show(I.ok,I.os,I.bare,⟨I.base.keep,I.base.slot,λb f q n l=>?_,I.base.there,λb i q=>?_,λb f u q=>?_,λb j q=>?_⟩,I.loc,I.cell,?_,λx c e=>?_,λp h=>?_,λb u q=>?_,I.len)
 .have : b≠a:=λz=>by rw[z,h1]at q;cases q
  rw[Jah this];show I.base.free b f q n l
 .have z:=I.base.tups b i q;rw[Jah (d _ _ z)];show z
 .have z:=I.base.frzs b f u q;rw[Jah (d _ _ z)];show z
 .let(k,z):=I.base.tbls b j q;show(k,by rw[Jah (d _ _ z)];show z)
 .rw[Jah (Ne.symm h2)];show I.free
 .rw[Jah (h3 x c e)];show I.freeC x c e
 .let(e,n,r):=I.pin p h;show(e,by rw[Jah (h4 p h)];show n,r)
 .by_cases g:b=a
  .subst g;rw[Jam]at q;cases q;show ok
  .rw[Jah g]at q;show(I.hok b u q).stay (λ_ _ _ z=>z) (λc z=>by rw[Jah (d _ _ z)];show z) (λc i z=>by rw[Jah (d _ _ z)];show z)
def ExcO(e C:Addr)(od:Option Addr:=none):HO:=.ext λh=>∃ ox vs,h.get? e=some ox/\ox.cls=.ref C/\ox.data=.fields vs/\ox.dict=od
end
structure Jie(K:W.Frag)(C D:Addr):Prop where
 cl:W.hasDictIn K D=true
 ty:W.typeIn K (.ref D)=some (.type "type")
 ex:W.mroIn K D (.type "BaseException")=some true
 ab:W.mroIn K C (.ref D)=some true
section
variable{ce:Expr}{epos hpos np:Pos}{x n:Str}{b0:Stmt}{suite:List Stmt}{ts:TS}{D:Addr}{t:St->Hp->VK->XK->Prop}
def Jmx(K:W.Frag)(D:Addr)(i:Nat)(t:St->Hp->VK->XK->Prop)(ts:TS):TS:=λDn σ H=>t σ H (λ_ H1=>Dn.nx σ H1) λcls od H1=>∃ C,cls=.ref C/\Jie K C D /\
 ∀ ea,H1 ea=none->ts { nx:=λσ' H'=>Dn.nx (σ'.set i none) H',rt:=Dn.rt,bk:=λσ' H'=>Dn.bk (σ'.set i none) H',ct:=λσ' H'=>Dn.ct (σ'.set i none) H' } (σ.set i (some (.ref ea))) (upd H1 ea (ExcO ea C od))
end
inductive D where
 | non | bl (b:Bool) | int (i:Int) | str (x:Str) | tup (xs:List D) | lst (xs:List D)
mutual
def Rep(K:W.Frag)(H:Hp):D->V->Prop
 | .non,v=>v=.non
 | .bl b,v=>v=.bl b
 | .int i,v=>v=.int i
 | .str x,v=>v=.str x
 | .tup ds,v=>∃ a xs,v=.ref a/\SqT K H a xs/\RepL K H ds xs
 | .lst ds,v=>∃ a xs,v=.ref a/\SqL K H a xs/\RepL K H ds xs
def RepL(K:W.Frag)(H:Hp):List D->List V->Prop
 | [],vs=>vs=[]
 | d::ds,vs=>∃ v r,vs=v::r/\Rep K H d v/\RepL K H ds r
end
mutual
def eqD:D->D->Bool
 | .non, .non=>true
 | .bl a, .bl b=>a == b
 | .int a, .int b=>a == b
 | .bl a, .int b=>(if a then 1 else 0) == b
 | .int a, .bl b=>a == (if b then 1 else 0)
 | .str a, .str b=>a == b
 | .tup xs, .tup ys=>eqL xs ys
 | .lst xs, .lst ys=>eqL xs ys
 | _,_=>false
def eqL:List D->List D->Bool
 | [],[]=>true
 | x::xs,y::ys=>eqD x y&&eqL xs ys
 | _,_=>false
end
mutual
def depD:D->Nat
 | .tup xs=>depL xs+1
 | .lst xs=>depL xs+1
 | _=>0
def depL:List D->Nat
 | []=>0
 | x::xs=>max (depD x) (depL xs)
end
theorem Je7:∀{xs ys:List D},eqL xs ys=true->xs.length=ys.length
 | [],[],_=>rfl
 | [],_::_,h=>by simp[eqL]at h
 | _::_,[],h=>by simp[eqL]at h
 | x::xs,y::ys,h=>by
  simp only[eqL,Bool.and_eq_true]at h;simp only[length_cons,Je7 h.2]
mutual
theorem Jdf:∀ d:D,eqD d d=true
 | .non=>by simp[eqD]
 | .bl b=>by simp[eqD]
 | .int i=>by simp[eqD]
 | .str x=>by simp[eqD]
 | .tup xs=>by simp only[eqD];show Jfm xs
 | .lst xs=>by simp only[eqD];show Jfm xs
theorem Jfm:∀ d:List D,eqL d d=true
 | []=>by simp[eqL]
 | x::xs=>by simp only[eqL,Bool.and_eq_true];show(Jdf x,Jfm xs)
end
theorem RepL.length{K:W.Frag}:∀{ds:List D}{vs:List V},RepL K H ds vs->ds.length=vs.length
 | [],vs,h=>by
  simp only[RepL]at h;rw[h];rfl
 | d::ds,vs,h=>by
  simp only[RepL]at h;let(v,r,rfl,_,h2):=h;simp only[length_cons,RepL.length h2]
theorem RepL.get{K:W.Frag}:∀{ds:List D}{vs:List V}{i:Nat}{d:D},RepL K H ds vs->ds[i]?=some d->∃ v,vs[i]?=some v/\Rep K H d v
 | [],_,_,_,_,e=>by simp at e
 | d::ds,vs,i,d',h,e=>by
  simp only[RepL]at h;let(v,r,rfl,h1,h2):=h;cases i with
  | zero=>simp at e;subst e;show(v,rfl,h1)
  | succ i=>
   let(v',e',h'):=RepL.get h2 (by simpa using e);show(v',by simpa using e',h')
variable{xs:List V}
theorem SqL.same{K:W.Frag}(e:Same H H')(h:SqL K H a xs):SqL K H' a xs:=e.seq h
theorem SqT.same{K:W.Frag}(e:Same H H')(h:SqT K H a xs):SqT K H' a xs:=by
 rcases h with(h | ⟨o,h⟩) | h
 .show .inl (.inl (e _ _ h))
 .show .inl (.inr ⟨o,e _ _ h⟩)
 .show .inr h
mutual
theorem Rep.same{K:W.Frag}(e:Same H H'):∀{d:D}{v:V},Rep K H d v->Rep K H' d v
 | .non,_,h=>by simpa only[Rep]using h
 | .bl _,_,h=>by simpa only[Rep]using h
 | .int _,_,h=>by simpa only[Rep]using h
 | .str _,_,h=>by simpa only[Rep]using h
 | .tup ds,_,h=>by
  simp only[Rep]at h ⊢;let(a,xs,h1,h2,h3):=h;show(a,xs,h1,h2.same e,RepL.same e h3)
 | .lst ds,_,h=>by
  simp only[Rep]at h ⊢;let(a,xs,h1,h2,h3):=h;show(a,xs,h1,h2.same e,RepL.same e h3)
theorem RepL.same{K:W.Frag}(e:Same H H'):∀{d:List D}{v:List V},RepL K H d v->RepL K H' d v
 | [],_,h=>by simpa only[RepL]using h
 | x::xs,_,h=>by
  simp only[RepL]at h ⊢;let(v,r,h1,h2,h3):=h;show(v,r,h1,Rep.same e h2,RepL.same e h3)
end
section
variable{s:Shared}
theorem Inv.list_tuple(I:Inv X pins σ H s){a:Addr}{xs ys:List V}(h:SqL X.K H a xs)(h':SqT X.K H a ys):False:=by
 let(_,_,p,_):=I.list h;let(_,_,q,_):=I.tuple h';let(o,_,d,e,_):=p;let(f,b,c,_):=q;rw[d]at b;cases b;rw[e]at c;show absurd c ⋯
mutual
theorem Inv.rep_inj(I:Inv X pins σ H s):∀{d e:D}{v:V},Rep X.K H d v->Rep X.K H e v->d=e
 | .non,e,v,h,h'=>by
  simp only[Rep]at h;subst h;cases e <;> simp[Rep]at h' ⊢
 | .bl _,e,v,h,h'=>by
  simp only[Rep]at h;subst h;cases e <;> simp[Rep]at h' ⊢
  show h'
 | .int _,e,v,h,h'=>by
  simp only[Rep]at h;subst h;cases e <;> simp[Rep]at h' ⊢
  show h'
 | .str _,e,v,h,h'=>by
  simp only[Rep]at h;subst h;cases e <;> simp[Rep]at h' ⊢
  show h'
 | .tup ds,e,v,h,h'=>by
  simp only[Rep]at h;let(a,xs,rfl,h2,h3):=h;cases e with
  | tup es=>
   simp only[Rep]at h';let(a',ys,q,g2,g3):=h';cases q;have:=I.tuple_inj h2 g2;subst this;rw[Inv.repL_inj I h3 g3]
  | lst es=>
   simp only[Rep]at h';let(a',ys,q,g2,g3):=h';cases q;show(I.list_tuple g2 h2).elim
  | _=>simp[Rep]at h'
 | .lst ds,e,v,h,h'=>by
  simp only[Rep]at h;let(a,xs,rfl,h2,h3):=h;cases e with
  | lst es=>
   simp only[Rep]at h';let(a',ys,q,g2,g3):=h';cases q;have:=I.list_inj h2 g2;subst this;rw[Inv.repL_inj I h3 g3]
  | tup es=>
   simp only[Rep]at h';let(a',ys,q,g2,g3):=h';cases q;show(I.list_tuple h2 g2).elim
  | _=>simp[Rep]at h'
theorem Inv.repL_inj(I:Inv X pins σ H s):∀{d e:List D}{v:List V},RepL X.K H d v->RepL X.K H e v->d=e
 | [],e,v,h,h'=>by
  simp only[RepL]at h;subst h;cases e <;> simp[RepL]at h' ⊢
 | x::xs,e,v,h,h'=>by
  simp only[RepL]at h;let(u,r,rfl,h1,h2):=h;cases e with
  | nil=>simp[RepL]at h'
  | cons y ys=>
   simp only[RepL]at h';let(u',r',q,g1,g2):=h';cases q;rw[Inv.rep_inj I h1 g1,Inv.repL_inj I h2 g2]
end
end
variable{α β:Type}
def JcW(f : α->β->Bool):List α->List β->Bool
 | [],[]=>true
 | x::xs,y::ys=>f x y&&JcW f xs ys
 | _,_=>false
def atB(f : α->β->Bool)(xs:List α)(ys:List β)(j:Nat):Bool:=match xs[j]?,ys[j]? with
 | some x,some y=>f x y
 | _,_=>true
theorem JcX(f : α->β->Bool):∀(xs:List α)(ys:List β),
  ((List.range (min xs.length ys.length)).all (atB f xs ys)&&(xs.length == ys.length))=JcW f xs ys
 | [],[]=>by simp[JcW]
 | [],_::_=>by simp[JcW]
 | _::_,[]=>by simp[JcW]
 | x::xs,y::ys=>by
  have ih:=JcX f xs ys;simp only[JcW,length_cons];rw[<- ih,Nat.succ_min_succ,List.range_succ_eq_map,List.all_cons,List.all_map];have e:((List.range (min xs.length ys.length)).all (atB f (x::xs) (y::ys) ∘ Nat.succ))=(List.range (min xs.length ys.length)).all (atB f xs ys):=by
   congr 1
  rw[e];have e0:atB f (x::xs) (y::ys) 0=f x y:=by unfold atB;simp
  rw[e0,Bool.and_assoc]
  congr 2
  simp
theorem JgK:∀ xs ys:List D,eqL xs ys=JcW eqD xs ys
 | [],[]=>by simp[eqL,JcW]
 | [],_::_=>by simp[eqL,JcW]
 | _::_,[]=>by simp[eqL,JcW]
 | x::xs,y::ys=>by simp only[eqL,JcW,JgK xs ys]
theorem Jhh:∀{ds:List D}{d:D},d∈ds->depD d<=depL ds
 | [],_,h=>by simp at h
 | x::xs,d,h=>by
  simp only[depL];rcases mem_cons.mp h with rfl | h
  .show Nat.le_max_left ..
  .show Nat.le_trans (Jhh h) (Nat.le_max_right ..)
def flatD:D->Bool
 | .tup _=>false
 | .lst _=>false
 | _=>true
def valD:D->V
 | .bl b=>.bl b
 | .int i=>.int i
 | .str x=>.str x
 | _=>.non
variable{d:D}
theorem JfJ{K:W.Frag}(f:flatD d=true)(h:Rep K H d v):v=valD d:=by
 cases d <;> simp_all [flatD,Rep,valD]
theorem Jhk(f:flatD d=true):flatV (valD d)=true:=by
 cases d <;> simp_all [flatD,valD,flatV]
theorem Jk3{e:D}(f:flatD d=true)(g:flatD e=true):eqV (valD d) (valD e)=eqD d e:=by
 cases d <;> cases e <;> simp_all [flatD,valD,eqV,eqD]
section
variable{s:Shared}
theorem in1_units(A:Around):A.in1.units=A.units+1:=rfl
def EqP(X:Cx)(H:Hp)(s:Shared)(n:Nat):Prop:=∀(d e:D)(A:Around)(x y:V)(u v:Value),depD d<=n->Rep X.K H d x->Rep X.K H e y->RelV x u->RelV y v->A.units+n<cLine->SeqAt.EqAt A s u v (eqD d e)
variable{n:Nat}
theorem Jho(ih:EqP X H s n){ds es:List D}{xs ys:List V}{its jts:List Value}(h3:RepL X.K H ds xs)(g3:RepL X.K H es ys)(vi:Vals xs its)(vj:Vals ys jts)(hds:depL ds<=n){A:Around}(hA:A.units+n<cLine) :
  ∀ j (p1:j<its.toArray.size) (p2:j<jts.toArray.size),SeqAt.EqAt A s its.toArray[j] jts.toArray[j] (atB eqD ds es j):=by
 intro j p1 p2;have d:its.length=ds.length:=by rw[h3.length,vi.length]
 have f:jts.length=es.length:=by rw[g3.length,vj.length]
 have a:j<ds.length:=by rw[<- d];simpa using p1
 have b:j<es.length:=by rw[<- f];simpa using p2
 let(v,l,r):=h3.get (List.getElem?_eq_getElem a);let(u,g,k):=g3.get (List.getElem?_eq_getElem b);let(m,o,q):=vi.get l;let(t,i,e):=vj.get g;have p:its.toArray[j]=m:=by
  have:=o;rw[List.getElem?_eq_getElem (by simpa using p1)]at this;simpa using this
 have h:jts.toArray[j]=t:=by
  have:=i;rw[List.getElem?_eq_getElem (by simpa using p2)]at this;simpa using this
 rw[p,h];have c:atB eqD ds es j=eqD ds[j] es[j]:=by
  unfold atB;rw[List.getElem?_eq_getElem a,List.getElem?_eq_getElem b]
 rw[c];show ih _ _ _ _ _ _ _ (Nat.le_trans (Jhh (List.getElem_mem a)) hds) r k q e hA
theorem JmB(I:Inv X pins σ H s){n:Nat}(ih:EqP X H s n){ds es:List D}{a b:Addr}{xs ys:List V}(h2:SqT X.K H a xs)(h3:RepL X.K H ds xs)(g2:SqT X.K H b ys)(g3:RepL X.K H es ys)(hds:depL ds<=n){A:Around}(hA:A.units+(n+1)<cLine) :
  SeqAt.RcAt A s (.ref a) (.ref b) (eqD (.tup ds) (.tup es))/\SeqAt.RcNeAt A s (.ref a) (.ref b) (!eqD (.tup ds) (.tup es)):=by
 let(d,f,h,_):=I.tuple h2;let(c,e,i,_):=I.tuple g2;have k:d.length=ds.length:=by rw[h3.length,f.length]
 have l:c.length=es.length:=by rw[g3.length,e.length]
 have g:=Jho ih h3 g3 f e hds (A:=A.in1) (by rw[in1_units];ac_nf);have j:eqD (.tup ds) (.tup es)=((List.range (min d.toArray.size c.toArray.size)).all (atB eqD ds es)&&d.toArray.size == c.toArray.size):=by
  simp only[eqD,JgK];rw[<- JcX];simp only[size_toArray,k,l]
 rw[j];show(SeqAt.RcAt.tuples h i ∅ g,SeqAt.RcNeAt.tuples h i ∅ g)
theorem Jl8(I:Inv X pins σ H s){n:Nat}(ih:EqP X H s n){ds es:List D}{a b:Addr}{xs ys:List V}(h2:SqL X.K H a xs)(h3:RepL X.K H ds xs)(g2:SqL X.K H b ys)(g3:RepL X.K H es ys)(hds:depL ds<=n){A:Around}(hA:A.units+(n+1)<cLine) :
  SeqAt.RcAt A s (.ref a) (.ref b) (eqD (.lst ds) (.lst es))/\SeqAt.RcNeAt A s (.ref a) (.ref b) (!eqD (.lst ds) (.lst es)):=by
 let(e,m,f,_):=I.list h2;let(j,k,h,_):=I.list g2;have d:e.length=ds.length:=by rw[h3.length,m.length]
 have g:j.length=es.length:=by rw[g3.length,k.length]
 have l:=Jho ih h3 g3 m k hds (A:=A.in1) (by rw[in1_units];ac_nf);by_cases c:ds.length=es.length
 .have i:eqD (.lst ds) (.lst es)=(List.range e.toArray.size).all (atB eqD ds es):=by
   simp only[eqD,JgK];rw[<- JcX];simp[d,c]
  rw[i];show(SeqAt.RcAt.lists f.isList h.isList (by simp[d,g,c]) ∅ l,SeqAt.RcNeAt.lists f.isList h.isList (by simp[d,g,c]) ∅ l)
 .have i:eqD (.lst ds) (.lst es)=false:=by
   cases q:eqD (.lst ds) (.lst es)with
   | false=>rfl
   | true=>simp only[eqD]at q;show absurd (Je7 q) c
  rw[i];show(SeqAt.RcAt.lists_lengths f.isList h.isList (by simp[d,g,c]) ∅,SeqAt.RcNeAt.lists_lengths f.isList h.isList (by simp[d,g,c]) ∅)
theorem Jc6{K:W.Frag}{x:V}(h:Rep K H d x):(flatD d=true/\x=valD d)\/(∃ ds a xs,d=.tup ds/\x=.ref a/\SqT K H a xs/\RepL K H ds xs)\/∃ ds a xs,d=.lst ds/\x=.ref a/\SqL K H a xs/\RepL K H ds xs:=by
 cases d with
 | tup ds=>simp only[Rep]at h;let(a,xs,e,c,b):=h;show .inr (.inl ⟨ds,a,xs,rfl,e,c,b⟩)
 | lst ds=>simp only[Rep]at h;let(a,xs,e,c,b):=h;show .inr (.inr ⟨ds,a,xs,rfl,e,c,b⟩)
 | _=>show .inl ⟨rfl,JfJ rfl h⟩
theorem Jc0(I:Inv X pins σ H s){d e:D}{x y:V}{u v:Value}(hd:Rep X.K H d x)(he:Rep X.K H e y)(ru:RelV x u)(rv:RelV y v)(m:flatD d=!flatD e){A:Around}(hA:A.units<cLine) :
  eqD d e=false/\SeqAt.EqAt A s u v false/\SeqAt.RcAt A s u v false/\SeqAt.RcNeAt A s u v true:=by
 rcases Jc6 hd with⟨fd,rfl⟩ | ⟨ds,a,xs,rfl,rfl,h2,h3⟩ | ⟨ds,a,xs,rfl,rfl,h2,h3⟩
 .rcases Jc6 he with⟨fe,rfl⟩ | ⟨es,b,ys,rfl,rfl,g2,g3⟩ | ⟨es,b,ys,rfl,rfl,g2,g3⟩
  .rw[fd,fe]at m;cases m
  .obtain rfl:v=Value.ref b:=rv;let(f,g,c,_):=I.tuple g2;show(by cases d <;> simp[eqD,flatD]at fd ⊢,?_);cases d <;> simp only[valD,RelV]at ru <;> first | (simp[flatD]at fd;done) | skip
   .subst ru;show(SeqAt.EqAt.none_tuple c hA,SeqAt.RcAt.none_tuple c hA,SeqAt.RcNeAt.none_tuple c hA)
   .subst ru;show(SeqAt.EqAt.bool_tuple _ c hA,SeqAt.RcAt.bool_tuple _ c hA,SeqAt.RcNeAt.bool_tuple _ c hA)
   .let(t,rfl):=ru;show(SeqAt.EqAt.int_tuple _ _ c hA,SeqAt.RcAt.int_tuple _ _ c hA,SeqAt.RcNeAt.int_tuple _ _ c hA)
   .let(t,rfl):=ru;show(SeqAt.EqAt.str_tuple _ _ c hA,SeqAt.RcAt.str_tuple _ _ c hA,SeqAt.RcNeAt.str_tuple _ _ c hA)
  .obtain rfl:v=Value.ref b:=rv;let(f,g,c,_):=I.list g2;have c:=c.isList;show(by cases d <;> simp[eqD,flatD]at fd ⊢,?_);cases d <;> simp only[valD,RelV]at ru <;> first | (simp[flatD]at fd;done) | skip
   .subst ru;show(SeqAt.EqAt.none_list c hA,SeqAt.RcAt.none_list c hA,SeqAt.RcNeAt.none_list c hA)
   .subst ru;show(SeqAt.EqAt.bool_list _ c hA,SeqAt.RcAt.bool_list _ c hA,SeqAt.RcNeAt.bool_list _ c hA)
   .let(t,rfl):=ru;show(SeqAt.EqAt.int_list _ _ c hA,SeqAt.RcAt.int_list _ _ c hA,SeqAt.RcNeAt.int_list _ _ c hA)
   .let(t,rfl):=ru;show(SeqAt.EqAt.str_list _ _ c hA,SeqAt.RcAt.str_list _ _ c hA,SeqAt.RcNeAt.str_list _ _ c hA)
 .rcases Jc6 he with⟨fe,rfl⟩ | ⟨es,b,ys,rfl,rfl,g2,g3⟩ | ⟨es,b,ys,rfl,rfl,g2,g3⟩
  .obtain rfl:u=Value.ref a:=ru;let(f,g,c,_):=I.tuple h2;show(by cases e <;> simp[eqD,flatD]at fe ⊢,?_);cases e <;> simp only[valD,RelV]at rv <;> first | (simp[flatD]at fe;done) | skip
   .subst rv;show(SeqAt.EqAt.tuple_none c hA,SeqAt.RcAt.tuple_none c hA,SeqAt.RcNeAt.tuple_none c hA)
   .subst rv;show(SeqAt.EqAt.tuple_bool _ c hA,SeqAt.RcAt.tuple_bool _ c hA,SeqAt.RcNeAt.tuple_bool _ c hA)
   .let(t,rfl):=rv;show(SeqAt.EqAt.tuple_int _ _ c hA,SeqAt.RcAt.tuple_int _ _ c hA,SeqAt.RcNeAt.tuple_int _ _ c hA)
   .let(t,rfl):=rv;show(SeqAt.EqAt.tuple_str _ _ c hA,SeqAt.RcAt.tuple_str _ _ c hA,SeqAt.RcNeAt.tuple_str _ _ c hA)
  .simp[flatD]at m
  .simp[flatD]at m
 .rcases Jc6 he with⟨fe,rfl⟩ | ⟨es,b,ys,rfl,rfl,g2,g3⟩ | ⟨es,b,ys,rfl,rfl,g2,g3⟩
  .obtain rfl:u=Value.ref a:=ru;let(f,g,c,_):=I.list h2;have c:=c.isList;show(by cases e <;> simp[eqD,flatD]at fe ⊢,?_);cases e <;> simp only[valD,RelV]at rv <;> first | (simp[flatD]at fe;done) | skip
   .subst rv;show(SeqAt.EqAt.list_none c hA,SeqAt.RcAt.list_none c hA,SeqAt.RcNeAt.list_none c hA)
   .subst rv;show(SeqAt.EqAt.list_bool _ c hA,SeqAt.RcAt.list_bool _ c hA,SeqAt.RcNeAt.list_bool _ c hA)
   .let(t,rfl):=rv;show(SeqAt.EqAt.list_int _ _ c hA,SeqAt.RcAt.list_int _ _ c hA,SeqAt.RcNeAt.list_int _ _ c hA)
   .let(t,rfl):=rv;show(SeqAt.EqAt.list_str _ _ c hA,SeqAt.RcAt.list_str _ _ c hA,SeqAt.RcNeAt.list_str _ _ c hA)
  .simp[flatD]at m
  .simp[flatD]at m
theorem seq_eq(I:Inv X pins σ H s){n:Nat}(ih:EqP X H s n){d e:D}{x y:V}{u v:Value}(hn:depD d<=n+1)(hd:Rep X.K H d x)(he:Rep X.K H e y)(ru:RelV x u)(rv:RelV y v)(fd:flatD d=false)(fe:flatD e=false){A:Around}(hA:A.units+(n+1)<cLine) :
  SeqAt.EqAt A s u v (eqD d e)/\SeqAt.RcAt A s u v (eqD d e)/\SeqAt.RcNeAt A s u v (!eqD d e):=by
 have k:=hd;have j:=he;rcases Jc6 hd with⟨f,_⟩ | ⟨ds,a,xs,rfl,rfl,h2,h3⟩ | ⟨ds,a,xs,rfl,rfl,h2,h3⟩
 .rw[f]at fd;cases fd
 .obtain rfl:u=Value.ref a:=ru;have g:depL ds<=n:=by simp only[depD]at hn;ac_nf
  rcases Jc6 he with⟨f,_⟩ | ⟨es,b,ys,rfl,rfl,g2,g3⟩ | ⟨es,b,ys,rfl,rfl,g2,g3⟩
  .rw[f]at fe;cases fe
  .obtain rfl:v=Value.ref b:=rv;have R:=JmB I ih h2 h3 g2 g3 g hA;show(?_,R.1,R.2);by_cases c:a=b
   .subst c;rw[I.rep_inj k j,Jdf];show SeqAt.EqAt.same _
   .show SeqAt.EqAt.of_refs c R.1
  .obtain rfl:v=Value.ref b:=rv;let(m,_,h,_):=I.tuple h2;let(l,_,i,_):=I.list g2;show(SeqAt.EqAt.tuple_list h i.isList ∅,SeqAt.RcAt.tuple_list h i.isList ∅,SeqAt.RcNeAt.tuple_list h i.isList ∅)
 .obtain rfl:u=Value.ref a:=ru;have g:depL ds<=n:=by simp only[depD]at hn;ac_nf
  rcases Jc6 he with⟨f,_⟩ | ⟨es,b,ys,rfl,rfl,g2,g3⟩ | ⟨es,b,ys,rfl,rfl,g2,g3⟩
  .rw[f]at fe;cases fe
  .obtain rfl:v=Value.ref b:=rv;let(m,_,h,_):=I.list h2;let(l,_,i,_):=I.tuple g2;show(SeqAt.EqAt.list_tuple h.isList i ∅,SeqAt.RcAt.list_tuple h.isList i ∅,SeqAt.RcNeAt.list_tuple h.isList i ∅)
  .obtain rfl:v=Value.ref b:=rv;have R:=Jl8 I ih h2 h3 g2 g3 g hA;show(?_,R.1,R.2);by_cases c:a=b
   .subst c;rw[I.rep_inj k j,Jdf];show SeqAt.EqAt.same _
   .show SeqAt.EqAt.of_refs c R.1
theorem Inv.eqP(I:Inv X pins σ H s):∀ n,EqP X H s n
 | 0=>λd e A x y u v hn hd he ru rv hA=>by
  have fd:flatD d=true:=by
   cases d <;> simp[depD,flatD]at hn ⊢
  cases fe:flatD e with
  | true=>
   have ex:=JfJ fd hd;have ey:=JfJ fe he;subst ex ey;rw[<- Jk3 fd fe];show Jkk ru rv (Jhk fd) (Jhk fe)
  | false=>
   let(e1,e2,_):=Jc0 I hd he ru rv (by rw[fd,fe];rfl) (A:=A) ∅;rw[e1];show e2
 | n+1=>λd e A x y u v hn hd he ru rv hA=>by
  cases fd:flatD d with
  | true=>
   have h0:depD d<=n:=by cases d <;> simp[depD,flatD]at fd ⊢
   show Inv.eqP I n d e A x y u v h0 hd he ru rv ∅
  | false=>
   cases fe:flatD e with
   | true=>
    let(e1,e2,_):=Jc0 I hd he ru rv (by rw[fd,fe];rfl) (A:=A) ∅;rw[e1];show e2
   | false=>show(seq_eq I (Inv.eqP I n) hn hd he ru rv fd fe hA).1
def rEqU(K:W.Frag):R2:=λx y H Q=>match x,y with
 | .int i, .int j=>Q (.bl (decide (i=j))) H
 | .str i, .str j=>Q (.bl (decide (i=j))) H
 | .bl i, .bl j=>Q (.bl (decide (i=j))) H
 | .non, .non=>Q (.bl true) H
 | x,y=>∃ d e,Rep K H d x/\Rep K H e y/\depD d<=50/\(flatD d&&flatD e)=false/\Q (.bl (eqD d e)) H
def rNeU(K:W.Frag):R2:=λx y H Q=>match x,y with
 | .int i, .int j=>Q (.bl (!decide (i=j))) H
 | .str i, .str j=>Q (.bl (!decide (i=j))) H
 | .bl i, .bl j=>Q (.bl (!decide (i=j))) H
 | .non, .non=>Q (.bl false) H
 | x,y=>∃ d e,Rep K H d x/\Rep K H e y/\depD d<=50/\(flatD d&&flatD e)=false/\Q (.bl (!eqD d e)) H
theorem JbO(hu:X.A.units+64<cLine):OpR X (compareOp .Eq) (rEqU X.K):=λa s σ H x y v u Q I b c q=>by
 unfold rEqU at q;split at q
 .rename_i i j;show op_eq a s σ H _ _ v u Q I b c ⟨rfl,by rw[show decide (V.int i=V.int j)=decide (i=j)from by simp];show q⟩
 .rename_i i j;show op_eq a s σ H _ _ v u Q I b c ⟨rfl,by rw[show decide (V.str i=V.str j)=decide (i=j)from by simp];show q⟩
 .rename_i i j;show op_eq a s σ H _ _ v u Q I b c ⟨rfl,by rw[show decide (V.bl i=V.bl j)=decide (i=j)from by simp];show q⟩
 .show op_eq a s σ H _ _ v u Q I b c ⟨rfl,by simpa using q⟩
 .let(d,e,f,k,m,l,q):=q;show wpAny (model X.prog X.w) X.A (richCompare .Eq v u) (EP X a σ Q) X.xe s;cases fd:flatD d with
  | true=>
   cases fe:flatD e with
   | true=>rw[fd,fe]at l;cases l
   | false=>
    let(g,_,h,_):=Jc0 I f k b c (by rw[fd,fe];rfl) (A:=X.A) ∅;rw[g]at q;show h _ _ _ _ ⟨V.bl _,H,I,rfl,q⟩
  | false=>
   cases fe:flatD e with
   | true=>
    let(g,_,h,_):=Jc0 I f k b c (by rw[fd,fe];rfl) (A:=X.A) ∅;rw[g]at q;show h _ _ _ _ ⟨V.bl _,H,I,rfl,q⟩
   | false=>show(seq_eq I (I.eqP 49) m f k b c fd fe ∅).2.1 _ _ _ _ ⟨V.bl _,H,I,rfl,q⟩
theorem Jb5(hu:X.A.units+64<cLine):OpR X (compareOp .NotEq) (rNeU X.K):=λa s σ H x y v u Q I b c q=>by
 unfold rNeU at q;split at q
 .rename_i i j;show op_ne a s σ H _ _ v u Q I b c ⟨rfl,by rw[show decide (V.int i=V.int j)=decide (i=j)from by simp];show q⟩
 .rename_i i j;show op_ne a s σ H _ _ v u Q I b c ⟨rfl,by rw[show decide (V.str i=V.str j)=decide (i=j)from by simp];show q⟩
 .rename_i i j;show op_ne a s σ H _ _ v u Q I b c ⟨rfl,by rw[show decide (V.bl i=V.bl j)=decide (i=j)from by simp];show q⟩
 .show op_ne a s σ H _ _ v u Q I b c ⟨rfl,by simpa using q⟩
 .let(d,e,f,k,m,l,q):=q;show wpAny (model X.prog X.w) X.A (richCompare .NotEq v u) (EP X a σ Q) X.xe s;cases fd:flatD d with
  | true=>
   cases fe:flatD e with
   | true=>rw[fd,fe]at l;cases l
   | false=>
    let(g,_,_,h):=Jc0 I f k b c (by rw[fd,fe];rfl) (A:=X.A) ∅;rw[g]at q;show h _ _ _ _ ⟨V.bl _,H,I,rfl,q⟩
  | false=>
   cases fe:flatD e with
   | true=>
    let(g,_,_,h):=Jc0 I f k b c (by rw[fd,fe];rfl) (A:=X.A) ∅;rw[g]at q;show h _ _ _ _ ⟨V.bl _,H,I,rfl,q⟩
   | false=>show(seq_eq I (I.eqP 49) m f k b c fd fe ∅).2.2 _ _ _ _ ⟨V.bl _,H,I,rfl,q⟩
end
def DivOk(j:Int):Prop:=j≠0/\j.natAbs.log2<9000
def rAddU(K:W.Frag):R2:=λx y H Q=>match x,y with
 | .int i, .int j=>Q (.int (i+j)) H
 | .str i, .str j=>i.length+j.length<=sizeLine/\Q (.str (i++j)) H
 | .ref a, .ref b=>rCat (.ref a) (.ref b) H Q\/rCatT K (.ref a) (.ref b) H Q
 | _,_=>False
theorem Ja0:OpR X (binaryOp .Add) (rAddU X.K):=λa s σ H x y v u Q I c b q=>by
 unfold rAddU at q;split at q
 .show Jme a s σ H _ _ v u Q I c b ⟨_,_,rfl,rfl,q⟩
 .show Jh3 a s σ H _ _ v u Q I c b ⟨_,_,rfl,rfl,q.1,q.2⟩
 .rcases q with q | q
  .show Jmf a s σ H _ _ v u Q I c b q
  .show Jlq a s σ H _ _ v u Q I c b q
 .show q.elim
def rMulU:R2:=λx y H Q=>match x,y with
 | .int i, .int j=>IntMulOk i j/\Q (.int (i*j)) H
 | _,_=>False
theorem Jls:OpR X (binaryOp .Mult) (rI IntMulOk λi j=>.int (i*j)):=opI λ_ _ _ _ _ _ _ a q=>mul_int q a
theorem Jlt:OpR X (binaryOp .Mult) rMulU:=λa s σ H x y v u Q I c b q=>by
 unfold rMulU at q;split at q
 .show Jls a s σ H _ _ v u Q I c b ⟨_,_,rfl,rfl,q.1,q.2⟩
 .show q.elim
def Ji4:R2:=λx y H Q=>match x,y with
 | .int i, .int j=>DivOk j/\Q (.int (i.fdiv j)) H
 | _,_=>False
theorem JjT:OpR X (binaryOp .FloorDiv) (rI (λ_ j=>DivOk j) λi j=>.int (i.fdiv j)):=opI λ_ _ _ _ _ _ _ a q=>floordiv_int a.1 q (.inl (PyProof.noPylong_of_log2 a.2))
theorem Jau:OpR X (binaryOp .FloorDiv) Ji4:=λa s σ H x y v u Q I c b q=>by
 unfold Ji4 at q;split at q
 .show JjT a s σ H _ _ v u Q I c b ⟨_,_,rfl,rfl,q.1,q.2⟩
 .show q.elim
def rModU:R2:=λx y H Q=>match x,y with
 | .int i, .int j=>j≠0/\Q (.int (i.fmod j)) H
 | _,_=>False
theorem JaI:OpR X (binaryOp .Mod) rModU:=λa s σ H x y v u Q I c b q=>by
 unfold rModU at q;split at q
 .show Jlr a s σ H _ _ v u Q I c b ⟨_,_,rfl,rfl,q.1,q.2⟩
 .show q.elim
def rPowU:R2:=λx y H Q=>match x,y with
 | .int i, .int j=>CPow i j/\Q (.int (i ^ j.toNat)) H
 | _,_=>False
theorem Jlv:OpR X (binaryOp .Pow) rPowU:=λa s σ H x y v u Q I c b q=>by
 unfold rPowU at q;split at q
 .show Jmj a s σ H _ _ v u Q I c b ⟨_,_,rfl,rfl,q.1,q.2⟩
 .show q.elim
def rCmpU(p:Int->Int->Bool):R2:=λx y H Q=>match x,y with
 | .int i, .int j=>Q (.bl (p i j)) H
 | _,_=>False
theorem Jg0{op:CmpOp}{p:Int->Int->Bool}(h:OpR X (compareOp op) (rI0 λi j=>.bl (p i j))):OpR X (compareOp op) (rCmpU p):=λa s σ H x y v u Q I c b q=>by
 unfold rCmpU at q;split at q
 .show h a s σ H _ _ v u Q I c b ⟨_,_,rfl,rfl,q⟩
 .show q.elim
theorem JdR:OpR X (compareOp .Lt) (rCmpU λi j=>decide (i<j)):=Jg0 op_lt
theorem JeC:OpR X (compareOp .Gt) (rCmpU λi j=>decide (j<i)):=Jg0 op_gt
theorem Jkr:OpR X (compareOp .GtE) (rCmpU λi j=>decide (j<=i)):=Jg0 op_ge
def SqA(K:W.Frag)(H:Hp)(a:Addr)(xs:List V):Prop:=SqL K H a xs\/SqT K H a xs
def rIxU(K:W.Frag):R2:=λx y H Q=>match x,y with
 | .ref p, .int i=>∃ xs v,SqA K H p xs/\atI xs i=some v/\Q v H
 | .str z, .int i=>∃ c,z.length<=sizeLine/\atI z.cps.toList i=some c/\Q (.str ⟨#[c]⟩) H
 | _,_=>False
theorem ix_U:IxR X (rIxU X.K):=λa b d s σ H x y v u Q I g i q f=>by
 unfold rIxU at q;split at q
 .obtain⟨l,w,h | h,e,q⟩:=q
  .show Jk9 a b d s σ H _ _ v u Q I g i ⟨_,_,_,_,rfl,rfl,h,e,q⟩ f
  .show Jl2 a b d s σ H _ _ v u Q I g i ⟨_,_,_,_,rfl,rfl,h,e,q⟩ f
 .let(c,j,k,q):=q;show Jl1 a b d s σ H _ _ v u Q I g i ⟨_,_,_,rfl,rfl,j,k,q⟩ f
 .show q.elim
def rLen(K:W.Frag):List V->Hp->VK->Prop:=λxs H Q=>match xs with
 | [.ref p]=>∃ ys,SqA K H p ys/\Q (.int ys.length) H
 | [.str z]=>z.length<=sizeLine/\Q (.int z.length) H
 | _=>False
theorem Jay:CallR X (.builtin "len") (rLen X.K):=λa s σ H d b Q I r q=>by
 unfold rLen at q;split at q
 .let(c,h,q):=q;show Jf6 a s σ H _ b Q I r ⟨_,_,rfl,h,q⟩
 .show Jf7 a s σ H _ b Q I r ⟨_,rfl,q.1,q.2⟩
 .show q.elim
def rAbs:List V->Hp->VK->Prop:=λxs H Q=>match xs with
 | [.int i]=>Q (.int (if i<0 then -i else i)) H
 | _=>False
theorem Jeb:CallR X (.builtin "abs") rAbs:=λa s σ H c b Q I r q=>by
 unfold rAbs at q;split at q
 .show JjA a s σ H _ b Q I r ⟨_,rfl,q⟩
 .show q.elim
def rMin:List V->Hp->VK->Prop:=λxs H Q=>match xs with
 | [.int i, .int j]=>Q (.int (if j<i then j else i)) H
 | _=>False
def rSlU(K:W.Frag):V->Option Int->Option Int->Hp->VK->Prop:=λx lo hi H Q=>rSlL K x lo hi H Q\/rSlT K x lo hi H Q
theorem sl_U:SlR X (rSlU X.K):=SlR.or JlM Jmv
def isiB(t T:String):Bool:=t == T||(t == "bool"&&T == "int")
def tyN(K:W.Frag)(H:Hp)(x:V)(t:String):Prop:=match x with
 | .int _=>t="int"
 | .str _=>t="str"
 | .bl _=>t="bool"
 | .non=>t="NoneType"
 | .ref a=>(t="list"/\∃ xs,SqL K H a xs)\/(t="tuple"/\∃ xs,SqT K H a xs)
 | _=>False
theorem kit_b(K:W.Frag){t T:String}(ht:t∈["int","str","bool","NoneType","list","tuple"])(hT:T∈["int","str","bool","list","tuple"]):W.kitOne K (.type t) (.type T)=some (isiB t T):=by
 simp only[mem_cons,not_mem_nil,or_false]at ht hT;rcases ht with rfl | rfl | rfl | rfl | rfl | rfl <;> rcases hT with rfl | rfl | rfl | rfl | rfl <;> with_unfolding_all rfl
def rIsi(K:W.Frag):List V->Hp->VK->Prop:=λxs H Q=>match xs with
 | [x, .ty T]=>T∈["int","str","bool","list","tuple"]/\∃ t,tyN K H x t/\Q (.bl (isiB t T)) H
 | _=>False
theorem JaW:CallR X (.builtin "isinstance") (rIsi X.K):=λf s σ H v n Q I r q=>by
 unfold rIsi at q;split at q
 .rename_i x T;let(e,t,d,q):=q;let(u,c,rfl,g,m):=vals2 r;obtain rfl:c=Value.type T:=m;have b:∀ k,EP X f σ Q (.bool (isiB t T)) { s with toks:=k }:=λk=>⟨V.bl _,H,I.tok k,rfl,q⟩;unfold tyN at d;split at d
  .subst d;let(_,rfl):=g;show W.kia_one W.kitx_int I.kIn True.intro (kit_b _ ⋯ e) (λz=>nomatch z) b
  .subst d;let(_,rfl):=g;show W.kia_one W.kitx_str I.kIn True.intro (kit_b _ ⋯ e) (λz=>nomatch z) b
  .subst d;cases(show u=Value.bool _ from g);show W.kia_one W.kitx_bool I.kIn True.intro (kit_b _ ⋯ e) (λz=>nomatch z) b
  .subst d;cases(show u=Value.none from g);show W.kia_one W.kitx_none I.kIn True.intro (kit_b _ ⋯ e) (λz=>nomatch z) b
  .rename_i a;cases(show u=Value.ref a from g);rcases d with⟨rfl,ys,h⟩ | ⟨rfl,ys,h⟩
   .let(j,_,p,_):=I.list h;let(o,_,i,l,_):=p;show W.kia_one W.kitx_list I.kIn ⟨o,i,l⟩ (kit_b _ ⋯ e) (λz=>nomatch z) b
   .let(j,_,p,_):=I.tuple h;let(o,i,l,_):=p;show W.kia_one W.kitx_tuple I.kIn ⟨o,i,l⟩ (kit_b _ ⋯ e) (λz=>nomatch z) b
  .show d.elim
 .show q.elim
variable{tg:Expr}
def iAny(K:W.Frag)(tl:TE):TI:=λσ H R=>tl σ H λx H1=>∃ a,x=.ref a/\(((∃ xs,SqL K H1 a xs)/\R (Itl K a) H1)\/((∃ xs,SqT K H1 a xs)/\R (Itt K a) H1))
theorem pi_U{l:Expr}{tl:TE}(hl:PE X l tl):PI X tg l (iAny X.K tl):=λd s σ H R I h=>by
 show thn (hl d s σ H _ I h) λv c ζ=>?_;let(x,i,I1,m,a,n,q):=ζ;subst n;cases m;rcases q with⟨⟨xs,hq⟩,q⟩ | ⟨⟨xs,hq⟩,q⟩
 .let(f,k,p,j):=I1.list hq;show wpAny_pyIter_list p.isList ?_;show(c.heap.objs.size,[c.heap.objs.size],_,_,i,rfl,I1.kept (t':=c.toks) λb o e=>Heap.get?_push_of_some _ e,Jjs a _,⟨_,Heap.get?_push_size _ rfl,rfl,rfl⟩,λb g=>?_,q);have e:b=c.heap.objs.size:=by simpa using g
  subst e;show I1.fpOk (Nat.le_refl _) (I1.hok.fresh (Nat.le_refl _))
 .let(f,k,p,j):=I1.tuple hq;show wpAny_pyIter_tuple (show c.heap.IsTuple a f.toArray from p) ?_;show(c.heap.objs.size,[c.heap.objs.size],_,_,i,rfl,I1.kept (t':=c.toks) λb o e=>Heap.get?_push_of_some _ e,Jib a _,⟨_,Heap.get?_push_size _ rfl,rfl,rfl⟩,λb g=>?_,q);have e:b=c.heap.objs.size:=by simpa using g
  subst e;show I1.fpOk (Nat.le_refl _) (I1.hok.fresh (Nat.le_refl _))
structure FunD(K:W.Frag)(x qual:Str)(st:Stmt)(dV:Value)(f:Addr)(fd:FuncData):Prop where
 ex:∃(oc:Value)(od:Option Addr)(kV doc pm:Value)(an:Option Addr)(cdv ct:Value)(osl:Array (Option Value)),
  fd=W.fnOf x qual (Jal st) (Jak st) (Jae st) dV kV doc pm an cdv ct/\K.lookup f=some ⟨oc,od, .func fd,osl⟩/\W.codeIn K cdv qual=true
 kp:W.keepIn K (.ref f)=true
section
variable{mg:Str->Option Value}{base:Heap}{w:World}{K:W.Frag}{x qual:Str}{st:Stmt}{dV:Value}{fd:FuncData}{N ps:List Str}{sp:Sp}
theorem FunD.okn{f:Addr}{k:Nat}(F:FunD K x qual st dV f fd)(S:Jan N ps (Jae st))(len:∀ vs H Q E,sp vs H Q E->vs.length=ps.length)
  (hbody:∀(cdv:Value)(A:Around)(outer:List Env)(s:Shared)(H:Hp)(vs:List V)(Q:VK)(E:XK),Room k (A.deeper (envOfC qual (Jae st) s.heap.objs.size f cdv))->sp vs H Q E ->
   ∃ t,PSs (cxOf (CX1 P w) P w K mg base N qual (Jae st) f cdv A outer s H E).nox (Jak st) t/\t { nx:=λ_ H'=>Q .non H',rt:=Q } (start N vs) H):FnOk P w K mg base (CX1 P w) (k+1) f fd ps sp:=by
 let(j,m,kV,c,n,l,cdv,i,d,rfl,g,a):=F.ex;show fn_of g a S len λA outer s H vs Q E e b=>?_;let(t,h,q):=hbody cdv A outer s H vs Q E e b;show(t,h.nox,q)
theorem FunD.okx{f:Addr}{k:Nat}(F:FunD K x qual st dV f fd)(S:Jan N ps (Jae st))(len:∀ vs H Q E,sp vs H Q E->vs.length=ps.length)
  (hbody:∀(cdv:Value)(A:Around)(outer:List Env)(s:Shared)(H:Hp)(vs:List V)(Q:VK)(E:XK),Room k (A.deeper (envOfC qual (Jae st) s.heap.objs.size f cdv))->sp vs H Q E ->
   ∃ t,PSs (cxOf (CX1 P w) P w K mg base N qual (Jae st) f cdv A outer s H E) (Jak st) t/\t { nx:=λ_ H'=>Q .non H',rt:=Q } (start N vs) H):FnOk P w K mg base (CX1 P w) (k+1) f fd ps sp:=by
 let(i,l,kV,g,m,j,cdv,h,c,rfl,e,a):=F.ex;show fn_of e a S len λA outer s H vs Q E d b=>hbody cdv A outer s H vs Q E d b
theorem FunD.binds{f:Addr}(F:FunD K x qual st dV f fd)
  (h:∀(kV doc pm:Value)(an:Option Addr)(cdv ct:Value)(us:List Value),us.length=ps.length->bindArgs (W.fnOf x qual (Jal st) (Jak st) (Jae st) dV kV doc pm an cdv ct) ⟨us,[]⟩=pure (ps.zip us)):Binds K fd ps []:=by
 let(e,c,kV,doc,pm,an,cdv,ct,b,rfl,d,a):=F.ex;show .all (h kV doc pm an cdv ct)
theorem FunD.bindsD{T:Addr}{f:Addr}{o:Obj}{items:Array Value}{n:Nat}(F:FunD K x qual st (.ref T) f fd)(hT:K.lookup T=some o)(hs:o.data=.seq items n)(ds:List Value)
  (h:∀(kV doc pm:Value)(an:Option Addr)(cdv ct:Value)(us:List Value),(us++ds).length=ps.length->∃ k,bindArgs (W.fnOf x qual (Jal st) (Jak st) (Jae st) (.ref T) kV doc pm an cdv ct) ⟨us,[]⟩=seqItems? (.ref T) >>= k/\k (some items)=pure (ps.zip (us++ds))):Binds K fd ps ds:=by
 let(j,g,kV,doc,pm,an,cdv,ct,b,rfl,i,a):=F.ex;intro s us X c;let(k,e,d):=h kV doc pm an cdv ct us c;show BindsTo.of_defaults (T:=T) rfl (X _ _ hT) hs e d
theorem Jao{f:Addr}{oc:Value}{od an:Option Addr}{osl:Array (Option Value)}{kV doc pm cdv ct:Value}(l:K.lookup f=some ⟨oc,od, .func (W.fnOf x qual (Jal st) (Jak st) (Jae st) dV kV doc pm an cdv ct),osl⟩)
  (c:W.codeIn K cdv qual=true) (k:W.keepIn K (.ref f)=true):FunD K x qual st dV f (W.fnOf x qual (Jal st) (Jak st) (Jae st) dV kV doc pm an cdv ct):=⟨⟨oc,od,kV,doc,pm,an,cdv,ct,osl,rfl,l,c⟩,k⟩
end
structure Cal(P:Program)(w:World)(K:W.Frag)(mg:Str->Option Value)(base:Heap)(k:Nat)(x:Str)(ps:List Str)(dvs:List V)(sp:Sp):Prop where
 ex:∃(f:Addr)(fd:FuncData)(ds:List Value),FnOk P w K mg base (CX1 P w) k f fd ps sp/\mg x=some (.ref f)/\W.keepIn K (.ref f)=true/\Binds K fd ps ds/\Vals dvs ds
section
variable{k':Nat}{x:Str}{ps:List Str}{dvs:List V}{sp:Sp}{E:XK}{p:Pos}{e:Expr}{es:List Expr}{k:Nat}{t:TA}
theorem Cal.ev(G:Cal X.prog X.w X.K X.mg X.base k x ps dvs sp)(hr:Room k' X.A)(hk:k<=k')(hg:Gl X x)(hx:JcH (CX1 X.prog X.w) X E)(ha:PA X (e::es) t)
  (hdb:autoParam ((x == ("__debug__" : Str))=false) Au) (he:autoParam (starEach (e::es) X.env=(false,eval e X.env)::starEach es X.env) Au) (hpl:autoParam ((backTo pos (starEach es X.env)).any (·.1)=false) Au) :
  PE X (.Call (.Name x p) (e::es) [] pos) (tCall sp dvs E t):=by
 let(f,g,h,F,c,b,d,a):=G.ex;show Jlx F (hr.mono hk) hg c b d a hx ha hdb he hpl
end
end L2
namespace Mth
def g(a b:Int):Int:=(Int.gcd a b:Nat)
theorem Jko(a:Int):g a 0=(a.natAbs:Int):=by unfold g;rw[Int.gcd_zero_right]
theorem g_pos{a b:Int}(h:b≠0):0<g a b:=by
 unfold g;show Int.natCast_pos.mpr (Int.gcd_pos_of_ne_zero_right a h)
theorem JcI(a b:Int):g a b∣a:=Int.gcd_dvd_left ..
theorem JbW(a b:Int):g a b∣b:=Int.gcd_dvd_right ..
theorem Jl0(a b:Int):g b (a % b)=g a b:=by
 unfold g;rw[Int.gcd_comm b (a % b)];first
  | rw[Int.gcd_emod_left]
  | (rw[Int.emod_def];simp[Int.gcd_comm])
theorem Bd2(a b:Int):g (if a<0 then -a else a) (if b<0 then -b else b)=g a b:=by
 unfold g;split <;> split <;> simp[Int.neg_gcd,Int.gcd_neg]
theorem Jif(a:Int):0<=(if a<0 then -a else a):=by split <;> ac_nf
theorem g_le{a b:Int}(h:b≠0):g a b<=(b.natAbs:Int):=by
 unfold g;show Int.ofNat_le.mpr (Nat.le_of_dvd ∅ (Int.natAbs_dvd_natAbs.mpr (by simpa using Int.gcd_dvd_right (a:=a) (b:=b)) |> λz=>by simpa using z))
theorem fm{x y:Int}(h:0<y):0<=x.fmod y/\x.fmod y<y:=by
 rw[Int.fmod_eq_emod_of_nonneg _ ∅];show(Int.emod_nonneg _ ∅,Int.emod_lt_of_pos _ h)
theorem JiD{x y:Int}(h:0<y):g y (x.fmod y)=g x y:=by
 rw[Int.fmod_eq_emod_of_nonneg _ ∅];show Jl0 x y
def by_(t b:Int):Int:=if b<0 then -(g t b)else g t b
def top(t b:Int):Int:=t.fdiv (by_ t b)
def bot(t b:Int):Int:=b.fdiv (by_ t b)
theorem by_ne{t b:Int}(h:b≠0):by_ t b≠0:=by
 have:=g_pos (a:=t) h;unfold by_;split <;> ac_nf
theorem JkX(t b:Int):by_ t b∣t:=by
 unfold by_;split
 .show Int.neg_dvd.mpr (JcI t b)
 .show JcI t b
theorem JkY(t b:Int):by_ t b∣b:=by
 unfold by_;split
 .show Int.neg_dvd.mpr (JbW t b)
 .show JbW t b
theorem JaK{a d:Int}(h:d∣a)(hd:d≠0):a.fdiv d*d=a:=by
 let(k,rfl):=h;rw[Int.mul_comm d k,Int.mul_fdiv_cancel _ hd]
theorem JeR{t b:Int}(h:b≠0):top t b*by_ t b=t:=JaK (JkX t b) (by_ne h)
theorem Jea{t b:Int}(h:b≠0):bot t b*by_ t b=b:=JaK (JkY t b) (by_ne h)
theorem Jcs{t b:Int}(h:b≠0):1<=bot t b:=by
 have c:=Jea (t:=t) h;have d:=g_pos (a:=t) h;by_cases f:b<0
 .have e:by_ t b = -(g t b):=by unfold by_;rw[if_pos f]
  rw[e]at c;have i:bot t b*g t b = -b:=by rw[Int.mul_neg]at c;ac_nf
  rcases Int.lt_trichotomy (bot t b) 0 with z | z | z
  .have:=Int.mul_neg_of_neg_of_pos z d;ac_nf
  .rw[z]at i;ac_nf
  .ac_nf
 .have e:by_ t b=g t b:=by unfold by_;rw[if_neg f]
  rw[e]at c;rcases Int.lt_trichotomy (bot t b) 0 with z | z | z
  .have:=Int.mul_neg_of_neg_of_pos z d;ac_nf
  .rw[z]at c;ac_nf
  .ac_nf
theorem cross{t b:Int}(h:b≠0):top t b*b=t*bot t b:=by
 have c:=JeR (t:=t) h;have a:=Jea (t:=t) h
 calc top t b*b=top t b*(bot t b*by_ t b):=by rw[a]
  _=(top t b*by_ t b)*bot t b:=by rw[Int.mul_comm (bot t b),Int.mul_assoc]
  _=t*bot t b:=by rw[c]
theorem JiM(t b:Int):(by_ t b).natAbs=Int.gcd t b:=by
 unfold by_ g;split <;> simp
theorem g_low{t b:Int}(h:b≠0):g (top t b) (bot t b)=1:=by
 have a:0<Int.gcd t b:=Int.gcd_pos_of_ne_zero_right t h;have e:Int.gcd (top t b*by_ t b) (bot t b*by_ t b)=Int.gcd (top t b) (bot t b)*(by_ t b).natAbs:=Int.gcd_mul_right ..;rw[JeR h,Jea h,JiM]at e;have : Int.gcd (top t b) (bot t b)=1:=by
  rcases Nat.lt_trichotomy (Int.gcd (top t b) (bot t b)) 1 with z | z | z
  .have : Int.gcd (top t b) (bot t b)=0:=by ac_nf
   rw[this]at e;ac_nf
  .show z
  .have:=Nat.mul_le_mul_right (Int.gcd t b) z;ac_nf
 unfold g;rw[this];rfl
theorem Jdw{a b d:Int}(g1:Int.gcd a b=1)(h:b∣a*d):b∣d:=by
 have e:b.natAbs∣a.natAbs*d.natAbs:=by rw[<- Int.natAbs_mul];show Int.natAbs_dvd_natAbs.mpr h
 have c:Nat.Coprime b.natAbs a.natAbs:=by
  unfold Nat.Coprime;rw[Nat.gcd_comm];show g1
 show Int.natAbs_dvd_natAbs.mp (c.dvd_of_dvd_mul_left e)
theorem Jdx{a b c d:Int}(hb:1<=b)(hd:1<=d)(h1:g a b=1)(h2:g c d=1)(e:a*d=c*b):a=c/\b=d:=by
 have f:Int.gcd a b=1:=by unfold g at h1;ac_nf
 have k:Int.gcd c d=1:=by unfold g at h2;ac_nf
 have j:b∣d:=by
  have : b∣a*d:=⟨c,by rw[e,Int.mul_comm]⟩;show Jdw f this
 have i:d∣b:=by
  have : d∣c*b:=⟨a,by rw[<- e,Int.mul_comm]⟩;show Jdw k this
 have h:b=d:=Int.dvd_antisymm ∅ ∅ j i;subst h;show(?_,rfl);show Int.eq_of_mul_eq_mul_right ∅ e
theorem Jmz{t b:Int}(h:b≠0):(top t b).natAbs<=t.natAbs:=by
 have c:=JeR (t:=t) h;have d:(by_ t b).natAbs≠0:=by have:=by_ne (t:=t) h;ac_nf
 have a:=congrArg Int.natAbs c;rw[Int.natAbs_mul]at a;rw[<- a];show Nat.le_mul_of_pos_right _ ∅
theorem bot_le{t b:Int}(h:b≠0):(bot t b).natAbs<=b.natAbs:=by
 have c:=Jea (t:=t) h;have d:(by_ t b).natAbs≠0:=by have:=by_ne (t:=t) h;ac_nf
 have a:=congrArg Int.natAbs c;rw[Int.natAbs_mul]at a
 calc (bot t b).natAbs<=(bot t b).natAbs*(by_ t b).natAbs:=Nat.le_mul_of_pos_right _ ∅
  _=b.natAbs:=a
theorem Jkq{t b:Int}(h:b≠0):(if b<0 then -t else t).fdiv (g (if b<0 then -t else t) (if b<0 then -b else b))=top t b/\(if b<0 then -b else b).fdiv (g (if b<0 then -t else t) (if b<0 then -b else b))=bot t b:=by
 have i:=JeR (t:=t) h;have f:=Jea (t:=t) h;have j:=g_pos (a:=t) h;by_cases c:b<0
 .have e:by_ t b = -(g t b):=by unfold by_;rw[if_pos c]
  simp only[if_pos c];have d:g (-t) (-b)=g t b:=by unfold g;simp[Int.neg_gcd,Int.gcd_neg]
  rw[d];rw[e,Int.mul_neg]at i f;constructor
  .have : -t=top t b*g t b:=by ac_nf
   rw[this,Int.mul_fdiv_cancel _ ∅]
  .have : -b=bot t b*g t b:=by ac_nf
   rw[this,Int.mul_fdiv_cancel _ ∅]
 .have e:by_ t b=g t b:=by unfold by_;rw[if_neg c]
  simp only[if_neg c];unfold top bot;rw[e];show(rfl,rfl)
theorem Jli{n k:Nat}(h:n<2 ^ k)(hk:k<9000):n.log2<9000:=by
 by_cases z:n=0
 .rw[z];decide
 .show Nat.lt_trans ((Nat.log2_lt z).mpr h) hk
def Sz(n:Nat)(i:Int):Prop:=i.natAbs<2 ^ n
theorem Sz.mono{m n:Nat}{i:Int}(h:Sz m i)(k:m<=n):Sz n i:=Nat.lt_of_lt_of_le h (Nat.pow_le_pow_right ⋯ k)
theorem Sz.mul{m n:Nat}{i j:Int}(h:Sz m i)(k:Sz n j):Sz (m+n) (i*j):=by
 unfold Sz at *;rw[Int.natAbs_mul,Nat.pow_add];show Nat.mul_lt_mul'' h k
theorem Sz.add{n:Nat}{i j:Int}(h:Sz n i)(k:Sz n j):Sz (n+1) (i+j):=by
 unfold Sz at *;have:=Int.natAbs_add_le i j;rw[Nat.pow_succ];ac_nf
theorem Sz.neg{n:Nat}{i:Int}(h:Sz n i):Sz n (-i):=by
 unfold Sz at *;rw[Int.natAbs_neg];show h
theorem Sz.top{n:Nat}{t b:Int}(hb:b≠0)(h:Sz n t):Sz n (Mth.top t b):=Nat.lt_of_le_of_lt (Jmz hb) h
theorem Sz.bot{n:Nat}{t b:Int}(hb:b≠0)(h:Sz n b):Sz n (Mth.bot t b):=Nat.lt_of_le_of_lt (bot_le hb) h
theorem Sz.lit{n:Nat}{i:Int}(h1 : -(2 ^ n)<i)(h2:i<2 ^ n):Sz n i:=by
 unfold Sz;have e:((2 ^ n:Nat):Int)=2 ^ n:=by simp
 ac_nf
end Mth
namespace Mth
theorem Jct{a b:Int}(h:g a b=1):Int.gcd a b=1:=by unfold g at h;ac_nf
theorem Jd2{a b:Int}(h:Int.gcd a b=1):g a b=1:=by unfold g;rw[h];rfl
theorem Jce{t x y:Int}(h1:Int.gcd t x=1)(h2:Int.gcd t y=1):Int.gcd t (x*y)=1:=by
 unfold Int.gcd at *;rw[Int.natAbs_mul];show Nat.Coprime.mul_right h1 h2
theorem Je5{x y:Int}(h:∀ k:Int,k∣x->k∣y->k∣1):Int.gcd x y=1:=by
 have:=h (Int.gcd x y:Nat) (Int.gcd_dvd_left ..) (Int.gcd_dvd_right ..);have z:=Int.natAbs_dvd_natAbs.mpr this;simp at z;show z
theorem Je6{k x y:Int}(h:Int.gcd x y=1)(h1:k∣x)(h2:k∣y):k∣1:=by
 have z:=Int.dvd_coe_gcd h1 h2;rw[h]at z;show z
theorem Jci{t u x:Int}(h:Int.gcd t x=1)(d:u∣t):Int.gcd u x=1:=Je5 λk b a=>Je6 h (Int.dvd_trans b d) a
theorem JaT{x y:Int}(h:Int.gcd x y=1):Int.gcd y x=1:=by rw[Int.gcd_comm];show h
theorem Jip{a b c d:Int}(h1:Int.gcd a b=1)(h2:Int.gcd d b=1):Int.gcd (a*d+c*b) b=1:=by
 have : Int.gcd b (a*d)=1:=Jce (JaT h1) (JaT h2);show Je5 λk g f=>Je6 this f ?_;have : k∣(a*d+c*b)-c*b:=Int.dvd_sub g (Int.dvd_mul_of_dvd_right f);have e:(a*d+c*b)-c*b=a*d:=by ac_nf
 rwa [e]at this
theorem Jcf{a d:Int}(h:d∣a)(hd:1<=d)(ha:1<=a):1<=a.fdiv d:=by
 have e:=JaK h ∅;rcases Int.lt_trichotomy (a.fdiv d) 0 with z | z | z
 .have:=Int.mul_neg_of_neg_of_pos z (show 0<d by ac_nf);ac_nf
 .rw[z]at e;ac_nf
 .ac_nf
theorem JcY{b d s:Int}(hs:s=g b d)(p:1<=s):Int.gcd (b.fdiv s) (d.fdiv s)=1:=by
 have a:b.fdiv s*s=b:=JaK (by rw[hs];show JcI ..) ∅;have f:d.fdiv s*s=d:=JaK (by rw[hs];show JbW ..) ∅;have e:Int.gcd (b.fdiv s*s) (d.fdiv s*s)=Int.gcd (b.fdiv s) (d.fdiv s)*s.natAbs:=Int.gcd_mul_right ..;rw[a,f]at e;have c:Int.gcd b d=s.natAbs:=by rw[hs];unfold g;simp
 rw[c]at e;rcases Nat.lt_trichotomy (Int.gcd (b.fdiv s) (d.fdiv s)) 1 with z | z | z
 .have : Int.gcd (b.fdiv s) (d.fdiv s)=0:=by ac_nf
  rw[this]at e;ac_nf
 .show z
 .have:=Nat.mul_le_mul_right s.natAbs z;ac_nf
theorem JlC{a b c d:Int}(hb:1<=b)(hd:1<=d)(h1:g a b=1)(h2:g c d=1){s t r:Int}(hs:s=g b d)(ht:t=a*d.fdiv s+c*b.fdiv s)(hr:r=g t s) :
  t.fdiv r=top (a*d+c*b) (b*d)/\b.fdiv s*d.fdiv r=bot (a*d+c*b) (b*d):=by
 have u:1<=s:=by rw[hs];have:=g_pos (a:=b) (b:=d) ∅;ac_nf
 have B:1<=r:=by rw[hr];have:=g_pos (a:=t) (b:=s) ∅;ac_nf
 have x:s∣b:=by rw[hs];show JcI ..
 have v:s∣d:=by rw[hs];show JbW ..
 have L:r∣t:=by rw[hr];show JcI ..
 have w:r∣s:=by rw[hr];show JbW ..
 have y:r∣d:=Int.dvd_trans w v;have j:=JaK x ∅;have o:=JaK v ∅;have A:=JaK L ∅;have z:=JaK y ∅;have K:=JaK w ∅;have N:=Jcf x u hb;have M:=Jcf v u hd;have J:=Jcf y B hd;have h:=JcY hs u;have p:Int.gcd (t.fdiv r) (s.fdiv r)=1:=JcY hr B;have m:d.fdiv r=d.fdiv s*s.fdiv r:=by
  show Int.eq_of_mul_eq_mul_right (a:=r) ∅ ?_;rw[z,Int.mul_assoc,K,o]
 have H:Int.gcd a (b.fdiv s)=1:=JaT (Jci (JaT (Jct h1)) ⟨s,j.symm⟩);have I:Int.gcd c (d.fdiv s)=1:=JaT (Jci (JaT (Jct h2)) ⟨s,o.symm⟩);have E:Int.gcd t (b.fdiv s)=1:=by rw[ht];show Jip H (JaT h)
 have D:Int.gcd t (d.fdiv s)=1:=by rw[ht,Int.add_comm];show Jip I h
 have q:g (t.fdiv r) (b.fdiv s*d.fdiv r)=1:=Jd2 (by
  rw[m];have k:t.fdiv r∣t:=⟨r,A.symm⟩;show Jce (Jci E k) (Jce (Jci D k) p))
 have e:b*d≠0:=Int.mul_ne_zero ∅ ∅;have i:=g_low (t:=a*d+c*b) e;have f:=Jcs (t:=a*d+c*b) e;have n:=cross (t:=a*d+c*b) e;have l:1<=b.fdiv s*d.fdiv r:=by
  have:=Int.mul_pos (show 0<b.fdiv s by ac_nf) (show 0<d.fdiv r by ac_nf);ac_nf
 have C:t*s=a*d+c*b:=by
  rw[ht,Int.add_mul,Int.mul_assoc,Int.mul_assoc,o,j]
 have G:t.fdiv r*(b*d)=(a*d+c*b)*(b.fdiv s*d.fdiv r):=by
  have F:(t.fdiv r*(b*d))*r=((a*d+c*b)*(b.fdiv s*d.fdiv r))*r:=by
   calc (t.fdiv r*(b*d))*r=(t.fdiv r*r)*(b*d):=by ac_rfl
    _=t*((b.fdiv s*s)*d):=by rw[A,j]
    _=(t*s)*(b.fdiv s*d):=by ac_rfl
    _=(a*d+c*b)*(b.fdiv s*(d.fdiv r*r)):=by rw[C,z]
    _=((a*d+c*b)*(b.fdiv s*d.fdiv r))*r:=by ac_rfl
  show Int.eq_of_mul_eq_mul_right ∅ F
 show Jdx l f q i ?_;show Int.eq_of_mul_eq_mul_right (a:=b*d) e ?_
 calc (t.fdiv r*bot (a*d+c*b) (b*d))*(b*d)=(t.fdiv r*(b*d))*bot (a*d+c*b) (b*d):=by ac_rfl
  _=((a*d+c*b)*bot (a*d+c*b) (b*d))*(b.fdiv s*d.fdiv r):=by rw[G];ac_rfl
  _=(top (a*d+c*b) (b*d)*(b*d))*(b.fdiv s*d.fdiv r):=by rw[n]
  _=(top (a*d+c*b) (b*d)*(b.fdiv s*d.fdiv r))*(b*d):=by ac_rfl
theorem Jef{a d:Int}(h:d∣a)(hd:1<=d):(a.fdiv d).natAbs<=a.natAbs:=by
 have e:=congrArg Int.natAbs (JaK h (show d≠0 by ac_nf));rw[Int.natAbs_mul]at e
 calc (a.fdiv d).natAbs<=(a.fdiv d).natAbs*d.natAbs:=Nat.le_mul_of_pos_right _ ∅
  _=a.natAbs:=e
theorem Sz.fdiv{n:Nat}{a d:Int}(h:Sz n a)(k:d∣a)(hd:1<=d):Sz n (a.fdiv d):=Nat.lt_of_le_of_lt (Jef k hd) h
theorem g_neg{a b:Int}:g (-a) b=g a b:=by unfold g;simp[Int.neg_gcd]
end Mth
namespace Mth
theorem Jj8{a b c d:Int}(hb:1<=b)(hd:1<=d)(h1:g a b=1)(h2:g c d=1){u v:Int}(hu:u=g a d)(hv:v=g c b) :
  a.fdiv u*c.fdiv v=top (a*c) (b*d)/\b.fdiv v*d.fdiv u=bot (a*c) (b*d):=by
 have s:1<=u:=by rw[hu];have:=g_pos (a:=a) (b:=d) ∅;ac_nf
 have r:1<=v:=by rw[hv];have:=g_pos (a:=c) (b:=b) ∅;ac_nf
 have x:u∣a:=by rw[hu];show JcI ..
 have q:u∣d:=by rw[hu];show JbW ..
 have C:v∣c:=by rw[hv];show JcI ..
 have n:v∣b:=by rw[hv];show JbW ..
 have p:=JaK x ∅;have o:=JaK q ∅;have m:=JaK C ∅;have l:=JaK n ∅;have E:=Jcf n r hb;have D:=Jcf q s hd;have w:=JcY hu s;have A:=JcY hv r;have y:Int.gcd (a.fdiv u) (b.fdiv v)=1:=JaT (Jci (JaT (Jci (Jct h1) ⟨u,p.symm⟩)) ⟨v,l.symm⟩);have B:Int.gcd (c.fdiv v) (d.fdiv u)=1:=JaT (Jci (JaT (Jci (Jct h2) ⟨v,m.symm⟩)) ⟨u,o.symm⟩);have k:g (a.fdiv u*c.fdiv v) (b.fdiv v*d.fdiv u)=1:=Jd2 (JaT (Jce (JaT (Jce y w)) (JaT (Jce A B))));have e:b*d≠0:=Int.mul_ne_zero ∅ ∅;have h:=g_low (t:=a*c) e;have f:=Jcs (t:=a*c) e;have j:=cross (t:=a*c) e;have i:1<=b.fdiv v*d.fdiv u:=by
  have:=Int.mul_pos (show 0<b.fdiv v by ac_nf) (show 0<d.fdiv u by ac_nf);ac_nf
 have z:(a.fdiv u*c.fdiv v)*(b*d)=(a*c)*(b.fdiv v*d.fdiv u):=by
  calc (a.fdiv u*c.fdiv v)*(b*d)=(a.fdiv u*c.fdiv v)*((b.fdiv v*v)*(d.fdiv u*u)):=by rw[l,o]
   _=((a.fdiv u*u)*(c.fdiv v*v))*(b.fdiv v*d.fdiv u):=by ac_rfl
   _=(a*c)*(b.fdiv v*d.fdiv u):=by rw[p,m]
 show Jdx i f k h ?_;show Int.eq_of_mul_eq_mul_right (a:=b*d) e ?_
 calc ((a.fdiv u*c.fdiv v)*bot (a*c) (b*d))*(b*d)=((a.fdiv u*c.fdiv v)*(b*d))*bot (a*c) (b*d):=by ac_rfl
  _=((a*c)*bot (a*c) (b*d))*(b.fdiv v*d.fdiv u):=by rw[z];ac_rfl
  _=(top (a*c) (b*d)*(b*d))*(b.fdiv v*d.fdiv u):=by rw[j]
  _=(top (a*c) (b*d)*(b.fdiv v*d.fdiv u))*(b*d):=by ac_rfl
theorem Jlj{t b:Int}(h:b<0):top (-t) (-b)=top t b/\bot (-t) (-b)=bot t b:=by
 have a:=Jkq (t:=t) (b:=b) ∅;have c:=Jkq (t:=-t) (b:=-b) ∅;rw[if_pos h,if_pos h]at a;rw[if_neg ∅,if_neg ∅]at c;show(c.1.symm.trans a.1,c.2.symm.trans a.2)
theorem JlZ{a b:Int}:g a (-b)=g a b:=by unfold g;simp[Int.gcd_neg]
theorem Jkn(a b:Int):g a b=g b a:=by unfold g;rw[Int.gcd_comm]
end Mth
namespace L2
open PySem PySem.Spec PyProof.Rows
section
variable{σ:St}{H:Hp}{Q:VK}{u:TS}{ta tb te:TE}{tA:TA}{r:R2}{E:XK}{sp:Sp}{D:Ends}{t:TS}{g:TG}{K:W.Frag}
theorem y84y:tSeq t u D σ H=t { D with nx:=u D } σ H:=rfl
theorem y73y:tNext D σ H=D.nx σ H:=rfl
theorem y2by:tAsg te g D σ H=te σ H λx H1=>g x σ H1 D.nx:=rfl
variable{v:V}
theorem y6ey{i:Nat}{R:St->Hp->Prop}:gName i v σ H R=R (σ.set i (some v)) H:=rfl
theorem y81y:tRet te D σ H=te σ H D.rt:=rfl
theorem y48y:tDrop te D σ H=te σ H λ_ H1=>D.nx σ H1:=rfl
theorem y2ey:tC v σ H Q=Q v H:=rfl
theorem y7ay:tOp r ta tb σ H Q=ta σ H λx H1=>tb σ H1 λy H2=>r x y H2 Q:=rfl
theorem y94y{f:V->Hp->VK->Prop}:tUn f ta σ H Q=ta σ H λx H1=>f x H1 Q:=rfl
theorem y30y{f:List V->Hp->VK->Prop}:tCB f tA σ H Q=tA σ H λvs H1=>f vs H1 Q:=rfl
variable{R:List V->Hp->Prop}
theorem y3dy:tCons ta tA σ H R=ta σ H λx H1=>tA σ H1 λxs H2=>R (x::xs) H2:=rfl
theorem y74y:tNil σ H R=R [] H:=rfl
variable{dvs:List V}
theorem y2fy:tCall sp dvs E tA σ H Q=tA σ H λvs H1=>sp (vs++dvs) H1 Q E:=rfl
variable{R:Bool->Hp->Prop}
theorem y8ay:tTest te σ H R=te σ H λx H'=>∃ k,x=.bl k/\R k H':=rfl
theorem y23y:tB te σ H R=te σ H λx H'=>∃ k,x=.bl k/\R k H':=rfl
variable{a b:TT}
theorem y29y:tAnd a b σ H R=a σ H λc H1=>if c=true then b σ H1 R else R false H1:=rfl
theorem y7by:tOr a b σ H R=a σ H λc H1=>if c=true then R true H1 else b σ H1 R:=rfl
theorem y76y:tNot a σ H R=a σ H λc H1=>R (!c) H1:=rfl
theorem y2ay:tAndV ta tb σ H Q=ta σ H λx H1=>∃ c,x=.bl c/\if c=true then tb σ H1 Q else Q (.bl false) H1:=rfl
theorem y7cy:tOrV ta tb σ H Q=ta σ H λx H1=>∃ c,x=.bl c/\if c=true then Q (.bl true) H1 else tb σ H1 Q:=rfl
theorem y78y:tNotV ta σ H Q=ta σ H λx H1=>∃ c,x=.bl c/\Q (.bl (!c)) H1:=rfl
theorem y5cy{c:TT}:tIfS c t u D σ H=c σ H λb H1=>if b=true then t D σ H1 else u D σ H1:=rfl
theorem y96y{i:Nat}:tVar i σ H Q=∃ v,σ[i]?=some (some v)/\Q v H:=rfl
theorem y26y{i j:Int}:rAddU K (.int i) (.int j) H Q=Q (.int (i+j)) H:=rfl
theorem y27y{i j:Str}:rAddU K (.str i) (.str j) H Q=(i.length+j.length<=sizeLine/\Q (.str (i++j)) H):=rfl
variable{j:Int}
theorem y88y{f:Int->Int->V}{i:Int}:rI0 f (.int i) (.int j) H Q=Q (f i j) H:=by
 unfold rI0;simp
theorem y72y{f:Int->V}{i:Int}:rU f (.int i) H Q=Q (f i) H:=by
 unfold rU;simp
theorem y4dy{i:Int}:Ji4 (.int i) (.int j) H Q=(DivOk j/\Q (.int (i.fdiv j)) H):=rfl
theorem y6ay{i:Int}:rModU (.int i) (.int j) H Q=(j≠0/\Q (.int (i.fmod j)) H):=rfl
theorem y7fy{i:Int}:rPowU (.int i) (.int j) H Q=(CPow i j/\Q (.int (i ^ j.toNat)) H):=rfl
theorem y33y{p:Int->Int->Bool}{i:Int}:rCmpU p (.int i) (.int j) H Q=Q (.bl (p i j)) H:=rfl
theorem y4by{i:Int}:rEqU K (.int i) (.int j) H Q=Q (.bl (decide (i=j))) H:=rfl
theorem y70y{i:Int}:rNeU K (.int i) (.int j) H Q=Q (.bl (!decide (i=j))) H:=rfl
variable{j:Str}
theorem y4cy{i:Str}:rEqU K (.str i) (.str j) H Q=Q (.bl (decide (i=j))) H:=rfl
theorem y71y{i:Str}:rNeU K (.str i) (.str j) H Q=Q (.bl (!decide (i=j))) H:=rfl
theorem y6fy{i j:Bool}:rNeU K (.bl i) (.bl j) H Q=Q (.bl (!decide (i=j))) H:=rfl
theorem y8fy:tTup tA σ H Q=tA σ H λxs H1=>xs.length<=sizeLine/\∀ p,H1 p=none->Q (.ref p) (upd H1 p (.tup xs)):=rfl
theorem y66y:tLst tA σ H Q=tA σ H λxs H1=>xs.length<=sizeLine/\∀ p,H1 p=none->Q (.ref p) (upd H1 p (.lst xs)):=rfl
variable{x:V}{T:String}
theorem y62y:rIsi K [x, .ty T] H Q=(T∈["int","str","bool","list","tuple"]/\∃ t,tyN K H x t/\Q (.bl (isiB t T)) H):=rfl
theorem y25y{i:Int}:rAbs [.int i] H Q=Q (.int (if i<0 then -i else i)) H:=rfl
variable{j:Int}
theorem y69y{i:Int}:rMin [.int i, .int j] H Q=Q (.int (if j<i then j else i)) H:=rfl
theorem y91y{i:Int}{s:String}:tyN K H (.int i) s=(s="int"):=rfl
theorem y93y{i:Str}{s:String}:tyN K H (.str i) s=(s="str"):=rfl
end
theorem Jih:bootBuiltins "abs"=some (.builtin "abs"):=by decide +kernel
theorem Ja8:bootBuiltins "len"=some (.builtin "len"):=by decide +kernel
theorem JlU:bootBuiltins "sum"=some (.builtin "sum"):=by decide +kernel
theorem Jbc:bootBuiltins "isinstance"=some (.builtin "isinstance"):=by decide +kernel
theorem JlR:bootBuiltins "all"=some (.builtin "all"):=by decide +kernel
theorem JlS:bootBuiltins "int"=some (.type "int"):=by decide +kernel
theorem JlT:bootBuiltins "str"=some (.type "str"):=by decide +kernel
theorem JkV:bootBuiltins "bool"=some (.type "bool"):=by decide +kernel
theorem Jii:bootBuiltins "list"=some (.type "list"):=by decide +kernel
theorem Jfi:bootBuiltins "tuple"=some (.type "tuple"):=by decide +kernel
theorem JkW:bootBuiltins "dict"=some (.type "dict"):=by decide +kernel
theorem JlV:bootBuiltins "zip"=some (.type "zip"):=by decide +kernel
theorem yby:isiB "int" "int"=true:=by decide
theorem yay:isiB "int" "bool"=false:=by decide
theorem y17y:isiB "str" "str"=true:=by decide
theorem y1dy:isiB "tuple" "tuple"=true:=by decide
theorem y1fy:("int"∈["int","str","bool","list","tuple"])=True:=by simp
theorem y21y:("str"∈["int","str","bool","list","tuple"])=True:=by simp
theorem y1ey:("bool"∈["int","str","bool","list","tuple"])=True:=by simp
theorem y22y:("tuple"∈["int","str","bool","list","tuple"])=True:=by simp
variable{P:Program}{scope:Scope}{A:Around}{H:Hp}
theorem y24y{CX:CXT}{w:World}{K:W.Frag}{mg:Str->Option Value}{base:Heap}{N:List Str}{qual:Str}{f:Addr}{cd:Value}{outer:List Env}{s:Shared}{E:XK}:(cxOf CX P w K mg base N qual scope f cd A outer s H E).K=K:=rfl
def ForR(lo:Int)(n:Nat)(g:TG)(tb:TS)(D:Ends)(σ : St)(H:Hp):Prop:=∃ W:Nat->Nat->St->Hp->Prop,(∃ m,W 0 m σ H)/\∀ i m σ H,W i m σ H ->
 ((Itr lo n).stop i H/\D.nx σ H)\/((Itr lo n).go i H/\∃ N:St->Hp->Prop,(∀ σ' H',N σ' H'->∃ m',m'<m/\W (i+1) m' σ' H')/\∀ x H',(Itr lo n).yld i H x H'->g x σ H' λσ2 H2=>tb { D with nx:=N,ct:=N,bk:=D.nx } σ2 H2)
def ForA(K:W.Frag)(a:Addr)(g:TG)(tb:TS)(D:Ends)(σ : St)(H:Hp):Prop :=
 ((∃ xs,SqL K H a xs)/\∃ W:Nat->Nat->St->Hp->Prop,(∃ m,W 0 m σ H)/\∀ i m σ H,W i m σ H ->
  ((Itl K a).stop i H/\D.nx σ H)\/((Itl K a).go i H/\∃ N:St->Hp->Prop,(∀ σ' H',N σ' H'->∃ m',m'<m/\W (i+1) m' σ' H')/\∀ x H',(Itl K a).yld i H x H'->g x σ H' λσ2 H2=>tb { D with nx:=N,ct:=N,bk:=D.nx } σ2 H2)) \/
 ((∃ xs,SqT K H a xs)/\∃ W:Nat->Nat->St->Hp->Prop,(∃ m,W 0 m σ H)/\∀ i m σ H,W i m σ H ->
  ((Itt K a).stop i H/\D.nx σ H)\/((Itt K a).go i H/\∃ N:St->Hp->Prop,(∀ σ' H',N σ' H'->∃ m',m'<m/\W (i+1) m' σ' H')/\∀ x H',(Itt K a).yld i H x H'->g x σ H' λσ2 H2=>tb { D with nx:=N,ct:=N,bk:=D.nx } σ2 H2))
variable{ta:TA}{tb:TS}{σ:St}
theorem y50y{g:TG}{D:Ends}:tFor (iRng1 ta) g tb D σ H=ta σ H λvs H1=>∃ j:Int,vs=[.int j]/\-(2 ^ 62)<=j/\j<2 ^ 62/\ForR 0 j.toNat g tb D σ H1:=rfl
theorem y51y{g:TG}{D:Ends}:tFor (iRng2 ta) g tb D σ H=ta σ H λvs H1=>∃ i j:Int,vs=[.int i, .int j]/\(-(2 ^ 62)<=i/\i<2 ^ 62/\-(2 ^ 62)<=j/\j<2 ^ 62)/\ForR i (j-i).toNat g tb D σ H1:=rfl
theorem y52y{K:W.Frag}{tl:TE}{g:TG}{D:Ends}:tFor (iAny K tl) g tb D σ H=tl σ H λx H1=>∃ a,x=.ref a/\ForA K a g tb D σ H1:=rfl
variable{n:Nat}
theorem ForR.by{lo:Int}{g:TG}{D:Ends}(Pv:Nat->St->Hp->Prop)(h0:Pv 0 σ H)
  (hs:∀ i σ H,i<n->Pv i σ H->g (.int (lo+i)) σ H λσ2 H2=>tb { D with nx:=Pv (i+1),ct:=Pv (i+1),bk:=D.nx } σ2 H2) (hd:∀ σ H,Pv n σ H->D.nx σ H):ForR lo n g tb D σ H:=JiB Pv h0 hs hd
variable{o:HO}
theorem Jes{R:V->Hp->Prop}(h:∀ p H1,Same H H1->H1 p=some o->R (.ref p) H1):∀ p,H p=none->R (.ref p) (upd H p o):=λp a=>
 h p _ (λb u q=>by rw[Jah (Jai q a)];show q) Jam
variable{H':Hp}{p:Addr}
theorem newS(h:H p=none)(e:upd H p o=H'):Same H H':=λb u q=>by rw[<- e,Jah (Jai q h)];show q
theorem newE(e:upd H p o=H'):H' p=some o:=by rw[<- e,Jam]
theorem JgF{i:Int}(h:Mth.Sz n i):Builtin.Int.intBits i<=n:=by
 unfold Builtin.Int.intBits;split
 .show Nat.zero_le _
 .rename_i z;have : i.natAbs.log2<n:=(Nat.log2_lt (by simpa using z)).mpr h;ac_nf
variable{j:Int}
theorem mulOk{m:Nat}{i:Int}(h:Mth.Sz m i)(k:Mth.Sz n j)(hm:autoParam (m<=2 ^ 20) Au)(hn:autoParam (n<=2 ^ 20) Au):IntMulOk i j:=IntMulOk.of_bits (Nat.le_trans (JgF h) hm) (Nat.le_trans (JgF k) hn)
theorem Jmc{i:Int}(h:Mth.Sz 64 j):IntMulOk i j:=IntMulOk.of_right (JgF h)
theorem divOk(h:j≠0)(k:Mth.Sz n j)(hn:autoParam (n<9000) Au):DivOk j:=⟨h,Mth.Jli k hn⟩
theorem len0:([]:List V).length<=sizeLine:=by decide
variable{a b:V}
theorem len2:[a,b].length<=sizeLine:=by show 2<=sizeLine;decide
theorem len5{c d e:V}:[a,b,c,d,e].length<=sizeLine:=by show 5<=sizeLine;decide
theorem Jbp(h:decide (j≠0/\j.natAbs<2 ^ 64)=true):DivOk j:=by
 have z:=of_decide_eq_true h;show divOk z.1 (n:=64) z.2
theorem Jbq{i:Int}(h:decide (j.natAbs<2 ^ 64)=true):IntMulOk i j:=by
 have z:j.natAbs<2 ^ 64:=of_decide_eq_true h;show Jmc z
theorem Jbr{i:Int}(h:decide (0<=j/\j<=1000000/\i.natAbs<2 ^ 64)=true):CPow i j:=by
 have z:0<=j/\j<=1000000/\i.natAbs<2 ^ 64:=of_decide_eq_true h;show z
def FrV(K:W.Frag)(H:Hp)(v:V)(a b:Int):Prop:=∃ p,v=.ref p/\SqT K H p [.int a, .int b]
variable{v:V}{a b:Int}
theorem FrV.same{K:W.Frag}(S:Same H H')(h:FrV K H v a b):FrV K H' v a b:=by
 let(p,e,q):=h;show(p,e,q.same S)
theorem FrV.of{K:W.Frag}(h:H p=some (.tup [.int a, .int b])):FrV K H (.ref p) a b:=⟨p,rfl,SqT.of h⟩
variable{x:V}{r:List V}{Q:VK}
theorem ixT0{K:W.Frag}(h:SqT K H p (x::r))(q:Q x H):rIxU K (.ref p) (.int 0) H Q:=⟨_,x, .inr h,Jch (j:=0) rfl,q⟩
variable{y:V}
theorem ixT1{K:W.Frag}(h:SqT K H p (x::y::r))(q:Q y H):rIxU K (.ref p) (.int 1) H Q:=⟨_,y, .inr h,Jch (j:=1) rfl,q⟩
theorem ixF0{K:W.Frag}(h:FrV K H v a b)(q:Q (.int a) H):rIxU K v (.int 0) H Q:=by
 let(p,rfl,z):=h;show ixT0 z q
theorem ixF1{K:W.Frag}(h:FrV K H v a b)(q:Q (.int b) H):rIxU K v (.int 1) H Q:=by
 let(p,rfl,z):=h;show ixT1 z q
theorem FrV.rep{K:W.Frag}(h:FrV K H v a b):Rep K H (.tup [.int a, .int b]) v:=by
 let(p,rfl,z):=h;simp only[Rep,RepL];show(p,_,rfl,z,_,_,rfl,rfl,_,_,rfl,rfl,rfl)
variable{c d:Int}
theorem eqF{K:W.Frag}(h:FrV K H x a b)(g:FrV K H y c d)(q:Q (.bl (decide (a=c)&&decide (b=d))) H):rEqU K x y H Q:=by
 have e:eqD (.tup [.int a, .int b]) (.tup [.int c, .int d])=(decide (a=c)&&decide (b=d)):=by
  simp only[eqD,eqL,Bool.and_true]
  congr 1 <;> simp[BEq.beq]
 have f:=h.rep;have i:=g.rep;let(p,rfl,_):=h;let(j,rfl,_):=g;show(_,_,f,i,by simp[depD,depL],rfl,by rw[e];show q)
theorem neF{K:W.Frag}(h:FrV K H x a b)(g:FrV K H y c d)(q:Q (.bl (!(decide (a=c)&&decide (b=d)))) H):rNeU K x y H Q:=by
 have e:eqD (.tup [.int a, .int b]) (.tup [.int c, .int d])=(decide (a=c)&&decide (b=d)):=by
  simp only[eqD,eqL,Bool.and_true]
  congr 1 <;> simp[BEq.beq]
 have f:=h.rep;have i:=g.rep;let(p,rfl,_):=h;let(j,rfl,_):=g;show(_,_,f,i,by simp[depD,depL],rfl,by rw[e];show q)
variable{xs:List V}
theorem ixT{K:W.Frag}{i:Nat}(h:SqT K H p xs)(e:xs[i]?=some v)(q:Q v H):rIxU K (.ref p) (.int (i:Int)) H Q:=⟨xs,v, .inr h,Jch e,q⟩
theorem ixL{K:W.Frag}{i:Nat}(h:SqL K H p xs)(e:xs[i]?=some v)(q:Q v H):rIxU K (.ref p) (.int (i:Int)) H Q:=⟨xs,v, .inl h,Jch e,q⟩
section
open PySem.W PySem.Builtin PySem.Builtin.ObjectAttr PySem.Builtin.Getset_descriptor
variable{prog:Program}{E:Value->Shared->Prop}{K:Frag}{x:Addr}{ox:Obj}{w:World}{s:Shared}{D:Addr}
end
variable{X:Cx}
section
variable{En:Ends}{u:TS}{ta tb te tc:TE}{gs:TGs}{tA:TA}{E:XK}{sp:Sp}{t:TS}{td:TE}{g:TG}{K:W.Frag}
theorem y86y{r:V->Option Int->Option Int->Hp->VK->Prop}{tl th:TO}:tSl r te tl th σ H Q=te σ H λx H1=>tl σ H1 λl H2=>th σ H2 λu H3=>r x l u H3 Q:=rfl
variable{R:Option Int->Hp->Prop}
theorem y7ey:tPart te σ H R=te σ H λx H1=>∃ i,x=.int i/\R (some i) H1:=rfl
theorem y75y:Jjm σ H R=R none H:=rfl
theorem y8dy{D0:Addr}{i:Nat}{tx:St->Hp->VK->XK->Prop}{ts:TS}:Jmx K D0 i tx ts En σ H=tx σ H (λ_ H1=>En.nx σ H1) λcls od H1=>∃ C,cls=.ref C/\Jie K C D0 /\
 ∀ ea,H1 ea=none->ts { nx:=λσ' H'=>En.nx (σ'.set i none) H',rt:=En.rt,bk:=λσ' H'=>En.bk (σ'.set i none) H',ct:=λσ' H'=>En.ct (σ'.set i none) H' } (σ.set i (some (.ref ea))) (upd H1 ea (ExcO ea C od)):=rfl
variable{dvs:List V}
theorem y97y{Qx:VK}{Ex:XK}:xCall sp dvs tA σ H Qx Ex=tA σ H λvs H1=>sp (vs++dvs) H1 Qx Ex:=rfl
variable{C:Addr}
theorem y80y:JkH E C tA En σ H=tA σ H λvs H1=>vs.length<=sizeLine/\E (.ref C) none H1:=rfl
end
def Its(x:Str):It:=⟨λi _=>i<x.cps.size,λi H v H'=>H'=H/\∃ c,x.cps[i]?=some c/\v=.str ⟨#[c]⟩,λi _=>i=x.cps.size⟩
variable{tg:Expr}{x:Str}
theorem Jgy{w:World}{K:W.Frag}{it:Addr}{n:String}{St:Nat->Heap->Prop}(hn:["enumerate","zip","dict_itemiterator","dict_reverseitemiterator","odict_iterator","itertools.zip_longest","itertools.pairwise"].contains n=false)
  (hst:∀ i h,St i h->∃ o vs,h.get? it=some o/\o.cls=.type n/\o.data=.fields vs) (mk:∀ A:Around,A.handled=none->Walks P w A it [it] [it] x.cps.size (SignAt x) St)
  (hself:∀(A:Around)(i:Nat)(s:Shared)(Q:Value->Shared->Prop)(E:Value->Shared->Prop),St i s.heap->Q (.ref it) s->wpAny (model P w) A (pyIter (.ref it)) Q E s):Turn P w K tg (Its x) [it] it St where
 mem:=by simp
 obj:=λi h g b a=>by
  obtain rfl:b=it:=by simpa using a
  let(o,vs,e,_,d):=hst i h g;show(o,e,λv z=>by rw[d]at z;cases z)
 keep:=λi h j g k=>(mk {} rfl).frame i h j g λb a o e=>k b a o e
 item:=by
  intro X L B N p i f s σ H E I m g r;subst L B N;let(F,D,R,q,t,J):=m it (by simp);show(mk X.A (I.ok.hd p)).item i s _ _ r g λv j G U l y=>?_;let(c,u,C,rfl):=U;have I1:Inv X f σ H { s with heap:=j,toks:=G }:=I.turned (λb o a e=>y b o (by simpa using a) e) F D q t J;let(o,vs,S,O,T):=hst _ _ l;show(_,rfl,go_of (s:={ s with heap:=j,toks:=G }) S O T hn ⟨.str ⟨#[c]⟩,H,I1,⟨u,rfl⟩,⟨rfl,c,C,rfl⟩,l,λb a=>(m b a).1⟩)
 done:=by
  intro X L B N p i f s σ H E I m g r;subst L B N;let(F,D,R,q,t,J):=m it (by simp);have M:i=x.cps.size:=r;subst M;show(mk X.A (I.ok.hd p)).done s _ _ g λj G y=>⟨rfl,I.turned (λb o a e=>y b o (by simpa using a) e) F D q t J⟩
 self:=hself
def iStr(tl:TE):TI:=λσ H R=>tl σ H λx H1=>∃ z,x=.str z/\R (Its z) H1
theorem Jmm{l:Expr}{tl:TE}(hl:PE X l tl):PI X tg l (iStr tl):=λf s σ H R I h=>by
 show thn (hl f s σ H _ I h) λv d ζ=>?_;let(x,k,I1,r,z,u,q):=ζ;subst u;let(t,rfl):=r;have key:∀(n:String),(n="str_ascii_iterator"\/n="str_iterator")->PIE X f σ tg R (.ref d.heap.objs.size) { d with heap:=d.heap.push { cls:=.type n,data:=.fields #[.str z t, .int 0 0] } }:=λn m=>by
  have p:Turn X.prog X.w X.K tg (Its z) [d.heap.objs.size] d.heap.objs.size (λi h=>h.IsStrIter d.heap.objs.size n z t i):=by
   rcases m with rfl | rfl
   .show Jgy (n:="str_ascii_iterator") ⋯ (λi h g=>let⟨o,a,b,c⟩:=g;⟨o,_,a,b,c⟩) (λA j=>Walks.strAscii j _ z t) λA i s Q E g q=>wpAny_pyIter_striter_ascii g q
   .show Jgy (n:="str_iterator") ⋯ (λi h g=>let⟨o,a,b,c⟩:=g;⟨o,_,a,b,c⟩) (λA j=>Walks.strWide j _ z t) λA i s Q E g q=>wpAny_pyIter_striter_wide g q
  show(d.heap.objs.size,[d.heap.objs.size],_,_,k,rfl,I1.kept (t':=d.toks) λb o e=>Heap.get?_push_of_some _ e,p,⟨_,Heap.get?_push_size _ rfl,rfl,rfl⟩,λb y=>?_,q);obtain rfl:b=d.heap.objs.size:=by simpa using y
  show I1.fpOk (Nat.le_refl _) (I1.hok.fresh (Nat.le_refl _))
 cases ha:z.cps.all (· < 128)
 .show wpAny_pyIter_wide ha (key _ (.inr rfl))
 .show wpAny_pyIter_ascii ha (key _ (.inl rfl))
abbrev Cx.inc(X:Cx)(N':List Str)(scope:Scope)(cl:List (Str × Addr))(fp:List Addr)(s2:Shared)(H2:Hp)(C:Addr):Cx :=
 { X with N:=N',s₀:=s2,H₀:=H2,env:=compEnvC scope cl C X.env,outer:=X.stack,ex:=fp,fn:=λ_=>false,pn:=[],xe:=λ_ _=>False }
variable{pins:List (Addr × Obj)}{H2:Hp}{s2:Shared}{N':List Str}{cl:List (Str × Addr)}{fp:List Addr}{C:Addr}
theorem Inv.incOk(I:Inv X pins σ H2 s2)(hf:∀ b∈fp,FpOk X pins H2 b)(hfp:∀ b∈fp,b<s2.heap.objs.size)(hk:scope.kind=.function)(hC:s2.heap.objs.size<=C)(hcl:∀ x c,cl.lookup x=some c->X.env.cells.lookup x=some c)
  (hhas:∀ y,((relabel scope X.env).names.lookup y=some .cell\/(relabel scope X.env).names.lookup y=some .free)->∃ c,cl.lookup y=some c):(X.inc N' scope cl fp s2 H2 C).Ok where
 mod:=I.ok.mod
 kind:=hk
 glob:=I.ok.glob
 blt:=I.ok.blt
 above:=hC
 inj:=λx y c g i=>I.ok.inj x y c (hcl x c g) (hcl y c i)
 has:=λy d=>hhas y d
 cab:=λx c h=>by cases h
 hd:=I.ok.hd
 frames:=I.ok.frames
 stk:=.inl rfl
 exf:=λb a=>⟨Nat.ne_of_lt (Nat.lt_of_lt_of_le (hfp b a) hC),λx c e=>(hf b a).2.2.2.2.1 x c (hcl x c e)⟩
 bs:=I.bs
 bsz:=Nat.le_trans I.ok.bsz I.sz
 noex:=λb o e a=>by
  rcases(hf b a).2.2.2.1 with z | z
  .show I.ok.noex b o e z
  .show absurd (Nat.lt_of_lt_of_le (Nat.lt_of_lt_of_le (Heap.lt_size e) I.ok.bsz) z) (Nat.lt_irrefl _)
 exfs:=λb a f=>by
  rcases mem_cons.mp (I.stkSub b f)with z | z
  .show(hf b a).2.1 z
  .show(hf b a).2.2.1 z
 funs:=I.stack
 frf:=I.stkFree
def Jaz(cs:List (Nat × Str))(σ : St):St:=cs.map λp=>(σ[p.1]?).join
variable{s4:Shared}{own:List Str}{cs:List (Nat × Str)}
theorem Inv.capsLoc{m:Str->Option Value}(I:Inv X pins σ H2 s2)(ok:(X.inc (own++cs.map (·.2)) scope cl fp s2 H2 C).Ok)(kept:∀ c v,(∃ x,cl.lookup x=some c)->s2.heap.IsCell c v->s4.heap.IsCell c v)
  (hcl:∀ x c,cl.lookup x=some c->X.env.cells.lookup x=some c) (hcs:∀ p∈cs,X.N[p.1]?=some p.2/\X.env.scope.names.lookup p.2=some .cell/\(relabel scope X.env).names.lookup p.2=some .cell) :
  ∀(i:Nat)(x:Str)(v:V),(own++cs.map (·.2))[i]?=some x->(List.replicate own.length none++Jaz cs σ)[i]?=some (some v)->∃ u,RelV v u/\Look (compEnvC scope cl C X.env) s4.heap m x u:=λi x v r e=>by
  by_cases l:i<own.length
  .rw[List.getElem?_append_left (by simpa using l),List.getElem?_replicate,if_pos l]at e;cases e
  .have b:(Jaz cs σ)[i-own.length]?=some (some v):=by rw[List.getElem?_append_right (by simp;ac_nf)]at e;simpa using e
   have a:(cs.map (·.2))[i-own.length]?=some x:=by
    rwa [List.getElem?_append_right ∅]at r
   unfold Jaz at b;rw[List.getElem?_map]at a b;cases q:cs[i-own.length]? with
   | none=>rw[q]at a;cases a
   | some p=>
    rw[q]at a b;obtain rfl:p.2=x:=by simpa using a
    have d:(σ[p.1]?).join=some v:=by simpa using b
    have g : σ[p.1]?=some (some v):=by
     cases z : σ[p.1]? with
     | none=>rw[z]at d;cases d
     | some o=>rw[z]at d;show congrArg some d
    let(w,j,h):=hcs p (List.mem_of_getElem? q);let(y,_,n):=I.loc;let(u,s,t):=n p.1 p.2 v w g (.inr (.inl j));show(u,s, .inr ⟨.inl h,?_⟩);let(c,f):=ok.has p.2 (.inl h);show(c,f,?_);rcases t with⟨k,_⟩ | ⟨_,c',e',hcell⟩
    .have k:X.env.scope.names.lookup p.2=some .local:=k;rw[j]at k;cases k
    .rw[hcl _ _ f]at e';cases e';show kept _ _ ⟨_,f⟩ hcell
theorem Inv.incStart{m:Str->Option Value}(I:Inv X pins σ H2 s2)(ok:(X.inc (own++cs.map (·.2)) scope cl fp s2 H2 C).Ok)(kept:∀ b o,s2.heap.get? b=some o->s4.heap.get? b=some o)(hos:s4.os=s2.os)(hg:s4.gens=s2.gens)(hm:s4.heap.Ns C m)
  (hC:s2.heap.objs.size<=C) (hcl:∀ x c,cl.lookup x=some c->X.env.cells.lookup x=some c)
  (hcs:∀ p∈cs,X.N[p.1]?=some p.2/\X.env.scope.names.lookup p.2=some .cell/\(relabel scope X.env).names.lookup p.2=some .cell) :
  Inv (X.inc (own++cs.map (·.2)) scope cl fp s2 H2 C) [] (List.replicate own.length none++Jaz cs σ) H2 s4 where
 ok:=ok
 os:=hos
 bare:=by rw[hg];show I.bare
 base:=Un.kept kept
 loc:=⟨m,hm,λi x v g h _=>I.capsLoc (m:=m) ok (λc v _ ⟨o,d,a⟩=>⟨o,kept _ _ d,a⟩) hcl hcs i x v g h⟩
 cell:=λx c e=>by
  let(v,o,d,a):=I.cell x c (hcl x c e);show(v,o,kept _ _ d,a)
 free:=I.hok.fresh hC
 freeC:=λx c e=>I.freeC x c (hcl x c e)
 pin:=λp f=>by simp at f
 hok:=I.hok.kept kept
 len:=by simp[Jaz]
theorem Inv.incAgain{s':Shared}{σ':St}{pl:List (Addr × Obj)}(I:Inv X pins σ H2 s2)(J:Inv (X.inc (own++cs.map (·.2)) scope cl fp s2 H2 C) pl σ' H' s')
  (hf:∀ b∈fp,FpOk X pins H2 b) (hcl:∀ x c,cl.lookup x=some c->X.env.cells.lookup x=some c) (hcs:∀ p∈cs,X.N[p.1]?=some p.2/\X.env.scope.names.lookup p.2=some .cell/\(relabel scope X.env).names.lookup p.2=some .cell) :
  Inv (X.inc (own++cs.map (·.2)) scope cl fp s2 H2 C) [] (List.replicate own.length none++Jaz cs σ) H' s' where
 ok:=J.ok
 os:=J.os
 bare:=J.bare
 base:=J.base
 loc:=by
  let(m,a,_):=J.loc;show(m,a,λi x v j k _=>I.capsLoc (m:=m) J.ok (λc v ⟨x,d⟩ ⟨o,f,e⟩=>?_) hcl hcs i x v j k);have g:c∉fp:=λz=>(hf c z).2.2.2.2.1 x c (hcl x c d) rfl;by_cases a:c∈frs X.stack
  .let(l,z):=J.base.slot c o f (I.freeC x c (hcl x c d)) a g;show(_,z,e)
  .show(o,J.base.keep c o f (I.freeC x c (hcl x c d)) a g,e)
 cell:=J.cell
 free:=J.free
 freeC:=J.freeC
 pin:=λp h=>by simp at h
 hok:=J.hok
 len:=by simp[Jaz]
section
variable{prog:Program}{E:Value->Shared->Prop}{R:Result->Shared->Prop}{w:World}{s:Shared}{elt iter:Expr}{ifs:List Expr}{pos:Pos}{env:Env}
theorem JhO{target:Expr}{it acc:Value}(J:Nat->Shared->Prop)
  (turn:∀ n s,J n s->wpAny (model prog w) A (pyNext it) (λr s1=>match r with
   | none=>R (.ok .next) s1
   | some v=>wpAny (model prog w) A (letOwnedTupleGo target it v) (λ_ s2=>wpAny (model prog w) A (assign target env v) (λ_ s3=>wpAny (model prog w) A (forIn ifs true λc r=>if r=true then do let ok <- isTrue c env (eval c env);pure (ForInStep.yield ok)else pure (ForInStep.yield r)) (λb s3'=>if b=true then wpAny (model prog w) A (eval elt env) (λx s4=>
     wpAny (model prog w) A (call (.builtin "list.append") [acc,x]) (λ_ s5=>∃ m,m<n/\J m s5) (λ_ _=>False) s4) (λ_ _=>False) s3' else∃ m,m<n/\J m s3') (λ_ _=>False) s3) (λ_ _=>False) s2) (λ_ _=>False) s1) (λ_ _=>False) s) (n:Nat) (h:J n s) :
  codeAny (model prog w) A (.compLoop (.ListComp elt [⟨target,iter,ifs,0⟩] scope pos) 0 it acc env) R s:=by
 show codeAny_loop rfl J (λn s g=>?_) n h;show wpAny _ A ((compTurn (.ListComp elt [⟨target,iter,ifs,0⟩] scope pos) 0 it acc env).onRaise (λy=>do noteFrame y env;theTreesLotGoes y)) _ _ s
 (show wpAny_noted ?_;rw[compTurn_list])
 show wpAny_bind (wpAny_standAt (wpAny_bind (wpAny_mono (turn n s g) (λr s1 d=>?_) λ_ _ z=>z.elim)));cases r with
 | none=>show wpAny_pure d
 | some v=>
  show wpAny_bind (wpAny_mono d (λ_ s2 f=>wpAny_bind (wpAny_mono f (λ_ s3 e=>?_) λ_ _ z=>z.elim)) λ_ _ z=>z.elim);show wpAny_bind (wpAny_mono e (λb s3' a=>?_) λ_ _ z=>z.elim);cases b with
  | true=>show wpAny_bind (wpAny_bind (wpAny_mono a (λx s4 j=>(wpAny_bind (wpAny_mono j (λ_ s5 i=>(wpAny_pure (wpAny_pure ⟨rfl,i⟩))) λ_ _ z=>z.elim))) λ_ _ z=>z.elim))
  | false=>show wpAny_bind (wpAny_pure (wpAny_pure ⟨rfl,a⟩))
end
def tComp(k:Nat)(cs:List (Nat × Str))(wi:TI)(g:TG)(te:TE):TE:=λσ H Q=>wi σ H λJ H1=>∃ W:Nat->Nat->List V->Hp->Prop,(∃ m,W 0 m [] H1)/\∀ i m ys H2,W i m ys H2->ys.length<=sizeLine /\
  ((J.stop i H2/\∀ p,H2 p=none->Q (.ref p) (upd H2 p (.lst ys))) \/
   (J.go i H2/\∀ x H3,J.yld i H2 x H3->g x (List.replicate k none++Jaz cs σ) H3 λσ4 H4=>te σ4 H4 λy H5=>∃ m',m'<m/\W (i+1) m' (ys++[y]) H5))
theorem lstP{us:List Value}{v:Value}:(us.toArray.push v)=(us++[v]).toArray:=by simp
def JdW(k:Nat)(cs:List (Nat × Str))(wi:TI)(g:TG)(tt:TT)(te:TE):TE:=λσ H Q=>wi σ H λJ H1=>∃ W:Nat->Nat->List V->Hp->Prop,(∃ m,W 0 m [] H1)/\∀ i m ys H2,W i m ys H2->ys.length<=sizeLine /\
  ((J.stop i H2/\∀ p,H2 p=none->Q (.ref p) (upd H2 p (.lst ys))) \/
   (J.go i H2/\∀ x H3,J.yld i H2 x H3->g x (List.replicate k none++Jaz cs σ) H3 λσ4 H4=>tt σ4 H4 λb H5=>if b=true then te σ4 H5 λy H6=>∃ m',m'<m/\W (i+1) m' (ys++[y]) H6 else∃ m',m'<m/\W (i+1) m' ys H5))
def PTs(X:Cx)(ifs:List Expr)(t:TT):Prop :=
 ∀(pins:List (Addr × Obj))(s:Shared)(σ : St)(H:Hp)(Q:Bool->Hp->Prop),Inv X pins σ H s->t σ H Q->wpAny (model X.prog X.w) X.A (forIn ifs true λc r=>if r=true then do let ok <- isTrue c X.env (eval c X.env);pure (ForInStep.yield ok)else pure (ForInStep.yield r)) (TP X pins σ Q) X.xe s
def tYes:TT:=λ_ H Q=>Q true H
theorem JbE:PTs X [] tYes:=λ_ _ _ H _ I h=>wpAny_tests_nil ⟨H,I,h⟩
theorem JcO{c:Expr}{t:TT}(h:PT X c t):PTs X [c] t:=λa s σ H Q I b=>wpAny_tests_one (h a s σ H Q I b)
variable{iter elt:Expr}{ifs:List Expr}{pos:Pos}{te:TE}{tt:TT}
theorem Je4{g:TG}{it:Addr}{tn:Nat->Heap->Prop}{J:It}
  {W:Nat->Nat->List V->Hp->Prop} {m0:Nat} {QN:List V->Hp->Prop} {RR:Value->Addr->Result->Shared->Prop} {E:Value->Shared->Prop} (hc:X.calm=true)
  (hg:∀ fp s2 H2 C,PG (X.inc (own++cs.map (·.2)) scope cl fp s2 H2 C) tg g) (ht:∀ fp s2 H2 C,PTs (X.inc (own++cs.map (·.2)) scope cl fp s2 H2 C) ifs tt) (he:∀ fp s2 H2 C,PE (X.inc (own++cs.map (·.2)) scope cl fp s2 H2 C) elt te)
  (hcell:∀ y∈scope.names,y.2≠.cell) (hkind:scope.kind=.function)
  (hcl:∀ x c,cl.lookup x=some c->X.env.cells.lookup x=some c) (hhas:∀ y,((relabel scope X.env).names.lookup y=some .cell\/(relabel scope X.env).names.lookup y=some .free)->∃ c,cl.lookup y=some c)
  (hcs:∀ p∈cs,X.N[p.1]?=some p.2/\X.env.scope.names.lookup p.2=some .cell/\(relabel scope X.env).names.lookup p.2=some .cell)
  (I2:Inv X pins σ H2 s2) (T:Turn X.prog X.w X.K tg J fp it tn) (st2:tn 0 s2.heap) (f2:∀ b∈fp,FpOk X pins H2 b) (w0:W 0 m0 [] H2)
  (turn:∀ i m ys H2,W i m ys H2->ys.length<=sizeLine/\((J.stop i H2/\QN ys H2)\/(J.go i H2/\∀ x H3,J.yld i H2 x H3->g x (List.replicate own.length none++Jaz cs σ) H3 λσ4 H4=>tt σ4 H4 λb H5=>if b=true then te σ4 H5 λy H6=>∃ m',m'<m/\W (i+1) m' (ys++[y]) H6 else∃ m',m'<m/\W (i+1) m' ys H5)))
  (hRR:∀(D C:Addr)(s6:Shared)(H5:Hp)(ys:List V),(∀ h7,Heap.SameBut C s6.heap h7->Inv X pins σ (upd H5 D (.lst ys)) { s6 with heap:=h7 })->H5 D=none->H5 C=none->D≠C->(∃ m,s6.heap.Ns C m)->s2.heap.objs.size<=C->QN ys H5->RR (.ref D) C (.ok .next) s6) :
  wpAny (model X.prog X.w) X.A (newList []) (λacc s₃=>wpAny (model X.prog X.w) X.A (newFunctionEnv scope X.env.globals cl [] X.env.qual none .none (some X.env)) (λcenv s₄=>
   codeAny (model X.prog X.w) X.A (.compStart (.ListComp elt [⟨tg,iter,ifs,0⟩] scope pos) 0 (.ref it) acc { cenv with scope:=relabel scope X.env }) (RR acc cenv.locals) s₄) E s₃) E s2:=by
 have M:∀ b∈fp,b<s2.heap.objs.size:=λb d=>by
  let(o,e,_):=T.obj _ _ st2 b d;show Heap.lt_size e
 show wpAny_newObj_type (wpAny_newFunctionEnv hcell (by intro y hy;simp at hy) (λh4 t j=>?_) hkind);dsimp only at t j ⊢;generalize hH3:s2.heap.push { cls:=.type "list",dict:=none,data:=.seq ([]:List Value).toArray }=H3 at t j ⊢;have a4:H3.objs.size=s2.heap.objs.size+1:=by rw[<- hH3,Heap.size_push]
 have hC:s2.heap.objs.size<=H3.objs.size:=by ac_nf
 have l:s2.heap.objs.size≠H3.objs.size:=by ac_nf
 have a0:∀ b o,s2.heap.get? b=some o->h4.get? b=some o:=λb o e=>j.extBut b o (by have:=Heap.lt_size e;show Nat.ne_of_lt (Nat.lt_of_lt_of_le this hC)) (Heap.get?_push_of_some _ (hH3 ▸ Heap.get?_push_of_some _ e));have a5:h4.get? s2.heap.objs.size=some { cls:=.type "list",data:=.seq ([]:List Value).toArray }:=j.extBut _ _ l (Heap.get?_push_of_some _ (hH3 ▸ Heap.get?_push_size _ rfl));obtain⟨D,h⟩:∃ D,D=s2.heap.objs.size:=⟨_,rfl⟩;obtain⟨C,a9⟩:∃ C,C=H3.objs.size:=⟨_,rfl⟩;rw[<- a9]at a4 t j hC l ⊢;rw[<- h]at M a4 hC l a5 ⊢;have O:=I2.incOk (N':=own++cs.map (·.2)) (C:=C) f2 (λb d=>by rw[<- h];show M b d) hkind (by rw[<- h];show hC) hcl hhas;have I4:Inv (X.inc (own++cs.map (·.2)) scope cl fp s2 H2 C) [] (List.replicate own.length none++Jaz cs σ) H2 { s2 with heap:=h4,toks:=s2.toks+([]:List (Str × Value)).length } :=
  I2.incStart (s4:={ s2 with heap:=h4,toks:=s2.toks+([]:List (Str × Value)).length }) O a0 rfl rfl t (by rw[<- h];show hC) hcl hcs
 have Dfree:H2 D=none:=I2.hok.fresh (Nat.le_of_eq h.symm);have L:∀ b o,s2.heap.get? b=some o->b≠D:=λb o e=>by
  rw[h];show Nat.ne_of_lt (Heap.lt_size e)
 have b0:∀ b o,s2.heap.get? b=some o->b≠C:=λb o e=>Nat.ne_of_lt (Nat.lt_of_lt_of_le (by rw[h];show Heap.lt_size e) hC);have Dfs:D∉frs X.stack:=λhm=>by
  let(_,o,e,_):=I2.stack.mem hm;show L _ _ e rfl
 have B:∀{σ':St}{H':Hp}{s':Shared}{us:List Value}{n:Nat}{pl:List (Addr × Obj)},Inv (X.inc (own++cs.map (·.2)) scope cl fp s2 H2 C) pl σ' H' s'->s'.heap.get? D=some { cls:=.type "list",data:=.seq us.toArray n }->H' D=none ->
   Inv (X.inc (own++cs.map (·.2)) scope cl fp s2 H2 C) [(D,{ cls:=.type "list",data:=.seq us.toArray n })] σ' H' s':=λ{σ' H' s' us n pl} J' e n'=>J'.pins_of λp U=>by
  rcases mem_singleton.mp U with rfl
  show(e,n',l,Dfs,λv z=>by cases z)
 have F:∀{H':Hp}{o:Obj},(∀ b∈fp,H' b=none)->∀ b∈fp,FpOk (X.inc (own++cs.map (·.2)) scope cl fp s2 H2 C) [(D,o)] H' b:=λ{H' o} hn b d=>by
  show(hn b d,(O.exf b d).1,O.exfs b d, .inl d,(O.exf b d).2,λp U=>?_);rcases mem_singleton.mp U with rfl
  show Nat.ne_of_gt (M b d)
 have Q:∀ s3:Shared,s3={ s2 with heap:=h4,toks:=s2.toks+([]:List (Str × Value)).length } ->
   codeAny (model X.prog X.w) X.A (.compLoop (.ListComp elt [⟨tg,iter,ifs,0⟩] scope pos) 0 (.ref it) (.ref D) (compEnvC scope cl C X.env)) (RR (.ref D) C) s3:=by
  rintro s3 rfl;show JhO (λn s'=>∃ i ys us I H',Inv (X.inc (own++cs.map (·.2)) scope cl fp s2 H2 C) [(D,{ cls:=.type "list",data:=.seq us.toArray I })] (List.replicate own.length none++Jaz cs σ) H' s'/\tn i s'.heap/\(∀ b∈fp,H' b=none)/\Vals ys us/\W i n ys H') ?_ m0
   ⟨0,[],[],0,H2,B (us:=[]) (n:=0) I4 a5 Dfree,T.keep _ _ _ st2 λb d o e=>a0 b o e,λb d=>(f2 b d).1, .nil,w0⟩
  intro n s5 z_;let(i,ys,us,I,H5,I5,a8,a7,vy,w5):=z_;obtain⟨hz,⟨stop,qn⟩ | ⟨go,a6⟩⟩:=turn i n ys H5 w5
  .show wpAny_mono (T.done (X.inc (own++cs.map (·.2)) scope cl fp s2 H2 C) rfl rfl rfl hc i _ s5 _ H5 (λ_ _=>False) I5 (F a7) a8 stop) (λr s6 z=>?_) λ_ _ z=>z;let(rfl,I6):=z;let(m6,b1,_):=id I6.loc;let(pD,Z,_,_,_):=I6.pin (D,{ cls:=.type "list",data:=.seq us.toArray I }) (by simp);have Cfree:H5 C=none:=I6.free;show hRR D C s6 H5 ys (λh7 b4=>?_) Z Cfree l ⟨m6,b1⟩ (by rw[<- h];show hC) qn;have k:∀ b,b≠C->h7.get? b=s6.heap.get? b:=λb d=>b4.2 b d;have Y:=b0;have u7:Un (frs X.stack) fp H2 H5 s2.heap h7:=⟨λb o e n1 n2 n3=>(k b (Y b o e)).trans (I6.base.keep b o e n1 n2 n3),λb o e n1 n2 n3=>by
     let(sl,z):=I6.base.slot b o e n1 n2 n3;show(sl,(k b (Y b o e)).trans z),I6.base.free,λb o e n1=>by
     let(o',z):=I6.base.there b o e n1;show(o',(k b (Y b o e)).trans z),I6.base.tups,I6.base.frzs,I6.base.tbls⟩
   have a2:HOk X.prog X.w H5 h7:=λa o e=>by
    show(I6.hok a o e).stay (λc v b2 q=>(k c ?_).trans q) (λ_ q=>q) λ_ _ q=>q;rintro rfl;rcases b2 with z | z
    .rw[<- z]at e;rw[Cfree]at e;cases e
    .rw[Cfree]at z;cases z
   have I7:Inv X pins σ H5 { s6 with heap:=h7 }:=I2.call' (s':={ s6 with heap:=h7 }) I6.os u7 a2 I6.bare λb d=>⟨(f2 b d).2.2.2.1,(f2 b d).2.1,(f2 b d).2.2.2.2.1,(f2 b d).2.2.2.2.2⟩;show I7.track (a:=D) (o:=.lst ys) Z (Heap.get?_none_of_le (by rw[h];show I2.sz)) (by rw[h];show Nat.ne_of_gt I2.lt) (λx c e z=>by
     let(v,o,ho,_):=I2.cell x c e;show L _ _ ho z) (λp U z=>L _ _ (I2.pin p U).1 z) ⟨hz,us,I,vy,(k D l).trans pD⟩
  .show wpAny_mono (T.item (X.inc (own++cs.map (·.2)) scope cl fp s2 H2 C) rfl rfl rfl hc i _ s5 _ H5 (λ_ _=>False) I5 (F a7) a8 go) (λr s6 z=>?_) λ_ _ z=>z;let(u,rfl,z):=z;show wpAny_mono z (λ_ s7 ζ=>?_) λ_ _ z=>z;let(x,H7,I7,r7,y7,G,b3):=ζ;have I7':=I7.pinned (F b3) (T.obj _ _ G);show wpAny_mono (hg fp s2 H2 C _ s7 _ H7 x u _ I7' r7 (a6 x H7 y7)) (λ_ s8 ⟨σ8,H8,I8,q8⟩=>?_) λ_ _ z=>z;show wpAny_mono (ht fp s2 H2 C _ s8 σ8 H8 _ I8 q8) (λbb S ⟨H,I8',a3⟩=>?_) λ_ _ z=>z;cases bb with
   | true=>
    show wpAny_mono (he fp s2 H2 C _ S σ8 H _ I8' a3) (λuy s9 ζ=>?_) λ_ _ z=>z;let(y,H9,I9,r9,m',a1,w9):=ζ;let(pD,Z,_,_,_):=I9.pin (D,{ cls:=.type "list",data:=.seq us.toArray I }) (by simp);show append_at (its:=us.toArray) (n:=I) pD (λb5 P R=>?_) (by rw[size_toArray, <- vy.length];show hz);have f:∀ b∈fp, ∀ o,s7.heap.get? b=some o->s9.heap.get? b=some o/\H9 b=none:=λb d o e=>by
     have z:=I9.pin (b,o) (mem_append_right _ (mem_append_right _ (JcZ d e)));show(z.1,z.2.1)
    have I9':Inv (X.inc (own++cs.map (·.2)) scope cl fp s2 H2 C) [] (List.replicate own.length none++Jaz cs σ) H9 s9:=I2.incAgain I9 f2 hcl hcs;have I10:Inv (X.inc (own++cs.map (·.2)) scope cl fp s2 H2 C) [] (List.replicate own.length none++Jaz cs σ) H9 { s9 with heap:=b5 }:=I9'.turned (it:=D) (t':=s9.toks) (λb o d e=>(P.2 b d).trans e) Z l (.inr (Nat.le_of_eq h.symm)) (λx c e z=>by
      let(v,o,ho,_):=I2.cell x c (hcl x c e);show L _ _ ho z) λp U=>by simp at U
    rw[lstP]at R;show(m',a1,i+1,ys++[y],us++[uy],I+1,H9,B I10 R Z,T.keep _ _ _ G λb d o e=>?_,λb d=>?_,vy.append (.cons r9 .nil),w9)
    .show(P.2 b (Nat.ne_of_lt (M b d))).trans (f b d o e).1
    .let(o,e,_):=T.obj _ _ G b d;show(f b d o e).2
   | false=>
    let(m',a1,w9):=a3;let(pD,Z,_,_,_):=I8'.pin (D,{ cls:=.type "list",data:=.seq us.toArray I }) (by simp);have f:∀ b∈fp, ∀ o,s7.heap.get? b=some o->S.heap.get? b=some o/\H b=none:=λb d o e=>by
     have z:=I8'.pin (b,o) (mem_append_right _ (mem_append_right _ (JcZ d e)));show(z.1,z.2.1)
    have I9':Inv (X.inc (own++cs.map (·.2)) scope cl fp s2 H2 C) [] (List.replicate own.length none++Jaz cs σ) H S:=I2.incAgain I8' f2 hcl hcs;show(m',a1,i+1,ys,us,I,H,B I9' pD Z,T.keep _ _ _ G λb d o e=>(f b d o e).1,λb d=>?_,vy,w9);let(o,e,_):=T.obj _ _ G b d;show(f b d o e).2
 show codeAny_compStart_list (Q _ rfl) (T.self _ 0 _ _ _ (T.keep _ _ _ st2 λb d o e=>a0 b o e) (Q _ rfl))
def rInU(K:W.Frag):R2:=λx y H Q=>match x,y with
 | .str i, .str j=>Q (.bl (!(Builtin.Str.occurrences j i 0 j.length 1).isEmpty)) H
 | x,y=>rIn K false x y H Q
theorem Jmh:OpR X (compareOp .In) (rInU X.K):=λa s σ H x y v u Q I c b q=>by
 unfold rInU at q;split at q
 .show JiT a s σ H _ _ v u Q I c b ⟨_,_,rfl,rfl,q⟩
 .show JiS a s σ H _ _ v u Q I c b q
theorem Jks{K:W.Frag}(hK:X.K=K):OpR X (compareOp .In) (rInU K):=hK ▸ Jmh
theorem ix_UK{K:W.Frag}(hK:X.K=K):IxR X (rIxU K):=hK ▸ ix_U
theorem Jmg{K:W.Frag}(hK:X.K=K)(hu:X.A.units+64<cLine):OpR X (compareOp .Eq) (rEqU K):=hK ▸ JbO hu
theorem Jkt{K:W.Frag}(hK:X.K=K)(hu:X.A.units+64<cLine):OpR X (compareOp .NotEq) (rNeU K):=hK ▸ Jb5 hu
theorem y5ey{K:W.Frag}{i j:Str}:rInU K (.str i) (.str j) H Q=Q (.bl (!(Builtin.Str.occurrences j i 0 j.length 1).isEmpty)) H:=rfl
theorem all_range:∀ bs:List Bool,(List.range bs.length).all (λi=>bs.getD i false)=bs.all id:=λbs=>by
 rw[Bool.eq_iff_iff];simp only[List.all_eq_true,List.mem_range,id];constructor
 .intro h x b;let(i,a,rfl):=List.mem_iff_getElem.mp b;have:=h i a;simpa[List.getD_eq_getElem?_getD,a]using this
 .intro h i a;have:=h bs[i] (List.getElem_mem a);simpa[List.getD_eq_getElem?_getD,a]using this
def rAll(K:W.Frag):List V->Hp->VK->Prop:=λxs H Q=>∃(p:Addr)(bs:List Bool),xs=[.ref p]/\SqL K H p (bs.map V.bl)/\Q (.bl (bs.all id)) H
theorem Jij(hc:X.calm=true):CallR X (.builtin "all") (rAll X.K):=λj s σ H M G Q I r q=>by
 let(p,c,rfl,C,q):=q;let(a,f,g,F):=I.list C;let(u,rfl,z):=vals1 r;cases(show u=Value.ref p from z);show call_all_walk (wpAny_pyIter_list g.isList ?_);have h:p<s.heap.objs.size:=by
  let(_,e,_):=g.isList;show Heap.lt_size e
 show(s.heap.objs.size,_,_,a.toArray.size,_,_,λi=>c.getD i false,rfl,Walks.list (by show X.A.handled=none;show I.ok.hd hc) s.heap.objs.size p (Nat.ne_of_lt h) a.toArray,⟨⟨_,Heap.get?_push_size _ rfl,rfl,rfl⟩,g.isList.push _⟩,?_,?_)
 .intro i v N Q' E' D w;have d:a[i]?=some v:=by simpa using D
  have n:i<c.length:=by
   let(J,_):=List.getElem?_eq_some_iff.mp d;have l:=f.length;rw[length_map]at l;ac_nf
  let(L,m,o):=f.get (i:=i) (x:=.bl c[i]) (by simp[n]);rw[d]at m;cases m;cases(show v=Value.bool c[i]from o);show wpAny_truthy_bool ?_;simpa[List.getD_eq_getElem?_getD,n]using w
 .intro E B k;have l:=f.length;rw[length_map]at l;have y:(List.range a.toArray.size).all (λi=>c.getD i false)=c.all id:=by rw[size_toArray, <- l];show all_range c
  rw[y];show(.bl _,H,I.kept (t':=B) λb t e=>k b t (by have:=Heap.lt_size e;simp;show Nat.ne_of_lt this) (Heap.get?_push_of_some _ e),rfl,q)
def rSlS:V->Option Int->Option Int->Hp->VK->Prop:=λx lo hi H Q=>∃ z,x=.str z/\z.length<=sizeLine/\Q (.str (Txt.slice z lo hi)) H
theorem Jmu:SlR X rSlS:=λb s σ H x v vl o f j n Q I g c i m h=>by
 let(z,rfl,d,q):=h;let(t,rfl):=g;show("str",_,F.slot_str_getitem.lookup,typeIs_str _ _ _,?_);have a:∀(e:Tok)(k:Nat),EP X b σ Q (.str (Txt.slice z f j) e) { s with toks:=k }:=λe k=>⟨.str _,H,I.tok k,⟨_,rfl⟩,q⟩;cases i <;> cases m
 .show wpAny_getItem_str_slice (l:=none) (u:=none) (st:=none) c rfl (post_val_or_str ⟨Nat.le_trans (Txt.slice_le z _ _) d,a⟩)
 .show wpAny_getItem_str_slice (l:=none) (u:=some (_,_)) (st:=none) c rfl (post_val_or_str ⟨Nat.le_trans (Txt.slice_le z _ _) d,a⟩)
 .show wpAny_getItem_str_slice (l:=some (_,_)) (u:=none) (st:=none) c rfl (post_val_or_str ⟨Nat.le_trans (Txt.slice_le z _ _) d,a⟩)
 .show wpAny_getItem_str_slice (l:=some (_,_)) (u:=some (_,_)) (st:=none) c rfl (post_val_or_str ⟨Nat.le_trans (Txt.slice_le z _ _) d,a⟩)
def rSlV(K:W.Frag):V->Option Int->Option Int->Hp->VK->Prop:=λx lo hi H Q=>rSlU K x lo hi H Q\/rSlS x lo hi H Q
theorem sl_V:SlR X (rSlV X.K):=SlR.or sl_U Jmu
theorem hcs0:∀ p∈([]:List (Nat × Str)),X.N[p.1]?=some p.2/\X.env.scope.names.lookup p.2=some .cell/\(relabel scope X.env).names.lookup p.2=some .cell:=λ_ h=>by simp at h
mutual
def szD:D->Prop
 | .int i=>Mth.Sz 4000 i
 | .str s=>s.length<=1000
 | .tup xs=>szL xs
 | .lst xs=>szL xs
 | _=>True
def szL:List D->Prop
 | []=>True
 | x::xs=>szD x/\szL xs
end
def lowB(c:Nat):Bool:=decide (97<=c/\c<=122)
def nameS(s:Str):Bool:=(decide (1<=s.length)&&decide (s.length<=8))&&s.cps.toList.all lowB
def nameB:D->Bool
 | .str s=>nameS s
 | _=>false
def JmE:D->Bool
 | .int _=>true
 | _=>false
def fracB:D->Bool
 | .tup [.int a, .int b]=>decide (1<=b)&&decide (Mth.g a b=1)
 | _=>false
def Jkf:D->Bool
 | .non=>true
 | d=>fracB d
def Jkm(d e:D):Bool:=nameB d&&nameB e&&!eqD d e
def lessD:D->D->Bool
 | .tup [.int a, .int b], .tup [.int c, .int d]=>decide (a*d<c*b)
 | _,_=>false
def JkU(l g:D):Bool:=Jkf l&&Jkf g&&!lessD g l
def tieB:D->Bool
 | .tup [n,s,e,l,g]=>nameB n&&Jkm s e&&JkU l g
 | _=>false
theorem JhT:(Str.ofString "abcdefghijklmnopqrstuvwxyz").cps.toList=List.range' 97 26:=by decide
theorem JhR(c:Nat):(!(Builtin.Str.occurrences (Str.ofString "abcdefghijklmnopqrstuvwxyz") ⟨#[c]⟩ 0 (Str.ofString "abcdefghijklmnopqrstuvwxyz").length 1).isEmpty)=lowB c:=by
 rw[StrLaws.found_one,JhT];unfold lowB
 congr 1
 rw[List.mem_range'];show propext ⟨λζ=>by let(i,a,e):=ζ;ac_nf,λh=>⟨c-97,by ac_nf,by ac_nf⟩⟩
structure KCal(P:Program)(w:World)(K:W.Frag)(mg:Str->Option Value)(base:Heap)(k:Nat)(x:Str)(C:Addr)(ps:List Str)(sp:Sp):Prop where
 ex:∃(f:Addr)(fd:FuncData),FnOk P w K mg base (CX1 P w) k f fd ps sp/\mg x=some (.ref C)/\Mk K C f/\Binds K fd ps []
structure MCal(P:Program)(w:World)(K:W.Frag)(mg:Str->Option Value)(base:Heap)(k:Nat)(m:Str)(Cs:Addr->Prop)(ps:List Str)(sp:Sp):Prop where
 ex:∃(f:Addr)(fd:FuncData),FnOk P w K mg base (CX1 P w) k f fd ps sp/\(∀ C,Cs C->Cls K C/\Meth K C m f)/\W.keepIn K (.ref f)=true/\Binds K fd ps []
def Jjl(Cs:Addr->Prop)(m:Str)(sp:Sp)(E:XK)(ta:TE)(t:TA):TE:=λσ H Q=>ta σ H λx H1=>∃ a C dx fs,x=.ref a/\H1 a=some (.ins C dx fs)/\Cs C/\fs.lookup m=none/\t σ H1 λvs H2=>sp (x::vs) H2 Q E
section
variable{k':Nat}{mn:Str}{Cs:Addr->Prop}{ps:List Str}{sp:Sp}{E:XK}{p apos:Pos}{e o:Expr}{es:List Expr}{ta:TE}{k:Nat}{t:TA}
theorem KCal.ev(G:KCal X.prog X.w X.K X.mg X.base k x C ps sp)(hr:Room k' X.A)(hk:k+1<=k')(hg:Gl X x)(hx:JcH (CX1 X.prog X.w) X E)(ha:PA X (e::es) t)
  (hdb:autoParam ((x == ("__debug__" : Str))=false) Au) (he:autoParam (starEach (e::es) X.env=(false,eval e X.env)::starEach es X.env) Au) (hpl:autoParam ((backTo pos (starEach es X.env)).any (·.1)=false) Au) :
  PE X (.Call (.Name x p) (e::es) [] pos) (tMake C sp [] E t):=by
 let(f,c,F,a,M,b):=G.ex;show JlA M F (hr.mono hk) hg a b .nil hx ha hdb he hpl
variable{pl:Sem Bool}
theorem MCal.m(G:MCal X.prog X.w X.K X.mg X.base k mn Cs ps sp)(hr:Room k' X.A)(hk:k<=k')(hx:JcH (CX1 X.prog X.w) X E)(ho:PE X o ta)(ha:PA X (e::es) t)
  (hst:autoParam (starEach (e::es) X.env=(false,eval e X.env)::starEach es X.env) Au) (hpl:autoParam ((backTo pos (starEach es X.env)).any (·.1)=false) Au)
  (ht:autoParam (eval (.Call (.Attribute o mn apos) (e::es) [] pos) X.env=(do
   let ov <- eval o X.env
   standAt apos.atName
   let(f,first) <- holding [ov] (getMethod ov mn pl)
   callWith pos f first (backTo pos (starEach (e::es) X.env)) (backToKw pos (keywordEach [] X.env)))) Au) :
  PE X (.Call (.Attribute o mn apos) (e::es) [] pos) (Jjl Cs mn sp E ta t):=by
 let(f,M,F,d,n,z):=G.ex;intro b s σ H Q I h;show W.methodCall_KW (pl:=pl) (thn (ho b s σ H _ I h) λu v ζ=>?_) ht;let(x,i,I1,g,a,C,D,J,y,p,c,l,q):=ζ;subst y;obtain rfl:u=Value.ref a:=g;show Je9 I1 p (d C c).1 (d C c).2 l ?_;show W.callWith_K (first:=[.ref a]) (h₀:=X.base) I.ok.mod.kin n (thn (ha pos b v σ i _ I1 q) λus B ζ=>?_) hst hpl;let(vs,L,I2,r,j):=ζ;show(I2.kIn,?_);show Ji7 (us:=.ref a::us) (vs:=.ref a::vs) F (hr.mono hk) z .nil hx I2 (.cons rfl r) (by simpa using j)
theorem MCal.m0(G:MCal X.prog X.w X.K X.mg X.base k mn Cs ps sp)(hr:Room k' X.A)(hk:k<=k')(hx:JcH (CX1 X.prog X.w) X E)(ho:PE X o ta)
  (ht:autoParam (eval (.Call (.Attribute o mn apos) [] [] pos) X.env=(do
   let ov <- eval o X.env
   standAt apos.atName
   let(f,first) <- holding [ov] (getMethod ov mn pl)
   callWith pos f first (backTo pos (starEach [] X.env)) (backToKw pos (keywordEach [] X.env)))) Au) :
  PE X (.Call (.Attribute o mn apos) [] [] pos) (Jjl Cs mn sp E ta tNil):=by
 let(f,v,F,d,i,n):=G.ex;intro b s σ H Q I h;show W.methodCall_KW (pl:=pl) (thn (ho b s σ H _ I h) λu t ζ=>?_) ht;let(x,g,I1,e,a,C,p,r,m,j,c,l,q):=ζ;subst m;obtain rfl:u=Value.ref a:=e;show Je9 I1 j (d C c).1 (d C c).2 l ?_;show W.callWith_K0 (first:=[.ref a]) I1.kIn i (Ji7 (us:=[.ref a]) (vs:=[.ref a]) F (hr.mono hk) n .nil hx I1 (.cons rfl .nil) (show sp ([.ref a]++[]) g Q E from q))
def rMulS:R2:=λx y H Q=>match x,y with
 | .str z, .int n=>0<n/\n<1000/\z.length<=1000/\∀ z':Str,z'.cps.toList=(List.replicate n.toNat z.cps.toList).flatten->Q (.str z') H
 | x,y=>rMulU x y H Q
theorem Jfj:∀(l:List (Array Nat))(acc:Array Nat),(l.foldl (· ++ ·) acc).toList=acc.toList++(l.map (·.toList)).flatten
 | [],acc=>by simp
 | x::l,acc=>by
  rw[List.foldl_cons,Jfj l];simp
theorem JiU:OpR X (binaryOp .Mult) rMulS:=λa s σ H x y v u Q I b d q=>by
 unfold rMulS at q;split at q
 .rename_i z n;let(h,j,i,q):=q;let(t,rfl):=b;let(k,rfl):=d;have f:z.cps.size=z.length:=rfl;have g:z.length*n.toNat<=1000*1000:=Nat.mul_le_mul i ∅;show PySem.P.mul_str (by simp;ac_nf) (λ_ _=>?_) (λ_ _=>?_) ?_
  .have : (1000:Int)<=(2 ^ 63-1)/n:=by
    rw[Int.le_ediv_iff_mul_le h];ac_nf
   ac_nf
  .unfold Builtin.Str.tooLong;simp;have : (1000*1000:Nat)<=sizeLine:=by decide
   ac_nf
  .rw[if_neg ∅];split
   .rename_i c;show(.str z,H,I,⟨_,rfl⟩,q z ?_);rcases Bool.or_eq_true _ _ |>.mp c with c | c
    .obtain rfl:n=1:=by simpa using c
     simp
    .have e:z.cps.toList=[]:=by
      have : z.length=0:=by simpa using c
      show List.eq_nil_of_length_eq_zero (by rw[Array.length_toList];show this)
     rw[e];simp
   .show(?_, .str _,H,I.tok _,⟨_,rfl⟩,q _ ?_)
    .show(Array.size _)<=sizeLine;rw[<- Array.length_toList,Jfj];simp;have : (1000*1000:Nat)<=sizeLine:=by decide
     rw[Nat.mul_comm,f];ac_nf
    .rw[Jfj];simp
 .show Jlt a s σ H _ _ v u Q I b d q
def rIsN:R2:=λx y H Q=>y=.non/\Q (.bl (decide (x=.non))) H
def rNotN:R2:=λx y H Q=>y=.non/\Q (.bl (!decide (x=.non))) H
theorem JeD:OpR X (compareOp .Is) rIsN:=Jmi
theorem JfD:OpR X (compareOp .IsNot) rNotN:=Jlu
def Jmr(K:W.Frag):List V->Hp->VK->Prop:=λxs H Q=>∃ p ys,xs=[.ref p]/\(SqL K H p ys\/SqT K H p ys)/\∀ l,H l=none->Q (.ref l) (upd H l (.lst ys))
theorem JhN:CallR X (.type "list") (Jmr X.K):=Jf8
end
section
variable{K:W.Frag}{x:V}
theorem y61y:rIsN x .non H Q=Q (.bl (decide (x=.non))) H:=by simp[rIsN]
theorem y77y:rNotN x .non H Q=Q (.bl (!decide (x=.non))) H:=by simp[rNotN]
variable{sp:Sp}{E:XK}
theorem y67y{dvs:List V}{t:TA}:tMake C sp dvs E t σ H Q=t σ H λvs H1=>∀ x dx,H1 x=none->H1 dx=none->dx≠x->sp (.ref x::(vs++dvs)) (upd (upd H1 dx (.own x)) x (.ins C dx [])) (λv H2=>v=.non/\Q (.ref x) H2) E:=rfl
variable{ta:TE}
theorem y68y{Cs:Addr->Prop}{mn:Str}{t:TA}:Jjl Cs mn sp E ta t σ H Q=ta σ H λx H1=>∃ a C dx fs,x=.ref a/\H1 a=some (.ins C dx fs)/\Cs C/\fs.lookup mn=none/\t σ H1 λvs H2=>sp (x::vs) H2 Q E:=rfl
theorem y4ey{f:Str}:tFld K ta f σ H Q=ta σ H λx H1=>∃ a C dx fs v,x=.ref a/\H1 a=some (.ins C dx fs)/\Cls K C/\JaU K C f/\fs.lookup f=some v/\Q v H1:=rfl
variable{tv:TE}{En:Ends}
theorem y85y{f:Str}:sFld K ta tv f En σ H=tv σ H λy H1=>ta σ H1 λx H2=>∃ a C dx fs,x=.ref a/\H2 a=some (.ins C dx fs)/\Cls K C/\JaU K C f/\fs.length<1000/\En.nx σ (upd H2 a (.ins C dx (putF f y fs))):=rfl
theorem y2cy{T:String}{r:V->List V->Hp->VK->Prop}{to:TE}{t:TA}:tBM K T r to t σ H Q=to σ H λx H1=>tyV K T x H1/\t σ H1 λvs H2=>r x vs H2 Q:=rfl
variable{R:St->Hp->Prop}
theorem y58y{g:TG}{gs:TGs}:gCons g gs (v::r) σ H R=g v σ H λσ' H'=>gs r σ' H' R:=by
 unfold gCons;show propext ⟨λ⟨a,b,e,h⟩=>?_,λh=>⟨v,r,rfl,h⟩⟩;cases e;show h
theorem y5ay:gNil [] σ H R=R σ H:=by unfold gNil;simp
def nonD:D->Bool
 | .non=>true
 | _=>false
theorem putE{l:Addr}(e:upd H l o=H'):H' l=some o:=by rw[<- e,Jam]
end
section
variable{En:Ends}{ta tb tc:TE}{td:TE}{K:W.Frag}
end
def JbU(cells:List (Str × Addr)):List (Str × NameKind)->List (Str × Addr)->List (Str × Addr)
 | [],acc=>acc
 | (n,k)::r,acc=>JbU cells r (if k == .free then(n,(cells.lookup n).getD 0)::acc else acc)
theorem JgG{env:Env}:∀(names:List (Str × NameKind))(acc:List (Str × Addr)),(∀ p∈names,p.2=.free->∃ c,env.cells.lookup p.1=some c) ->
  (forIn names acc λ(p:Str × NameKind) cs=>(if p.2 == .free then do let c <- cellOf env p.1;pure (ForInStep.yield ((p.1,c)::cs))else pure (ForInStep.yield cs):Sem (ForInStep (List (Str × Addr)))))=(pure (JbU env.cells names acc):Sem (List (Str × Addr)))
 | [],acc,_=>by simp[JbU]
 | (n,k)::r,acc,h=>by
  rw[List.forIn_cons];by_cases c:(k == .free)=true
  .let(a,ha):=h (n,k) mem_cons_self (beq_iff_eq.mp c);have e:cellOf env n=pure a:=by unfold cellOf;rw[ha]
   simp only[c,if_true,e,pure_bind];have:=JgG (env:=env) r ((n,a)::acc) λp hp=>h p (mem_cons_of_mem _ hp);simp only[JbU,c,if_true,ha,Option.getD_some];show this
  .have c':(k == .free)=false:=by simpa using c
   simp only[c',Bool.false_eq_true,if_false,pure_bind];have:=JgG (env:=env) r acc λp hp=>h p (mem_cons_of_mem _ hp);simp only[JbU,c',Bool.false_eq_true,if_false];show this
theorem Jim{env:Env}(h:∀ p∈scope.names,p.2=.free->∃ c,env.cells.lookup p.1=some c):closureFor scope env=pure (JbU env.cells scope.names []):=by
 have:=JgG (env:=env) scope.names [] h;unfold closureFor;simp only[pure_bind];show Eq.trans ?_ (congrArg (λm:Sem (List (Str × Addr))=>m >>= pure) this |>.trans (by simp));first | rfl | (congr 1)
variable{cells:List (Str × Addr)}
theorem Jdv:∀(names:List (Str × NameKind))(acc:List (Str × Addr)),(∀ x c,acc.lookup x=some c->cells.lookup x=some c)->(∀ p∈names,p.2=.free->∃ c,cells.lookup p.1=some c) ->
  ∀ x c,(JbU cells names acc).lookup x=some c->cells.lookup x=some c
 | [],acc,ha,_,x,c,h=>ha x c h
 | (n,k)::r,acc,ha,hf,x,c,h=>by
  simp only[JbU]at h;show Jdv r _ ?_ (λp hp=>hf p (mem_cons_of_mem _ hp)) x c h;intro y d hy;by_cases f:(k == .free)=true
  .rw[if_pos f]at hy;let(a,e):=hf (n,k) mem_cons_self (beq_iff_eq.mp f);rw[List.lookup_cons]at hy;by_cases q:(y == n)=true
   .rw[q]at hy;have q':y=n:=beq_iff_eq.mp q;subst q';have e':cells.lookup y=some a:=e;rw[e']at hy ⊢;simpa using hy
   .have q':(y == n)=false:=by simpa using q
    rw[q']at hy;show ha y d hy
  .rw[if_neg f]at hy;show ha y d hy
theorem Jdu:∀(names:List (Str × NameKind))(acc:List (Str × Addr))(y:Str),((∃ c,acc.lookup y=some c)\/(y,NameKind.free)∈names)->∃ c,(JbU cells names acc).lookup y=some c
 | [],acc,y,h=>by
  rcases h with h | h
  .show h
  .simp at h
 | (n,k)::r,acc,y,h=>by
  simp only[JbU];show Jdu r _ y ?_;rcases h with⟨c,h⟩ | h
  .show .inl ?_;split
   .rw[List.lookup_cons];cases(y == n)
    .show(c,h)
    .show(_,rfl)
   .show(c,h)
  .rcases mem_cons.mp h with e | h
   .cases e;show .inl ?_;rw[if_pos ⋯,List.lookup_cons];simp
   .show .inr h
theorem JiC(hcell:∀ y∈scope.names,y.2≠.cell){y:Str}(hy:(relabel scope X.env).names.lookup y=some .cell\/(relabel scope X.env).names.lookup y=some .free):(y,NameKind.free)∈scope.names:=by
 have d:∀ k,(k=.cell\/k=.free)->(relabel scope X.env).names.lookup y=some k->(y,NameKind.free)∈scope.names:=λk h e=>by
  have m:=PySem.mem_of_lookup e;let((n,f),a,g):=mem_map.mp (show(y,k)∈scope.names.map _ from m);have b:(if(f == NameKind.free&&X.env.scope.kind == .function&&X.env.kindOf n == some .cell)=true then(n,NameKind.cell)else(n,f))=(y,k):=g;split at b
  .rename_i c;rw[Bool.and_eq_true,Bool.and_eq_true]at c;have:=beq_iff_eq.mp c.1.1;subst this;cases b;show a
  .cases b;rcases h with rfl | rfl
   .show absurd rfl (hcell _ a)
   .show a
 rcases hy with hy | hy
 .show d _ (.inl rfl) hy
 .show d _ (.inr rfl) hy
variable{wi:TI}
theorem JaY{g:TG}(hc:X.calm=true)(hi:PI X tg iter wi)
  (hg:∀ fp s2 H2 C,PG (X.inc (own++cs.map (·.2)) scope (JbU X.env.cells scope.names []) fp s2 H2 C) tg g) (ht:∀ fp s2 H2 C,PTs (X.inc (own++cs.map (·.2)) scope (JbU X.env.cells scope.names []) fp s2 H2 C) ifs tt) (he:∀ fp s2 H2 C,PE (X.inc (own++cs.map (·.2)) scope (JbU X.env.cells scope.names []) fp s2 H2 C) elt te)
  (hfree:∀ p∈scope.names,p.2=.free->X.env.scope.names.lookup p.1=some .cell) (hcell:∀ y∈scope.names,y.2≠.cell) (hkind:scope.kind=.function) (hnames:∀ y∈scope.names,y.2=.local->scope.names.lookup y.1=some .local)
  (hcs:∀ p∈cs,X.N[p.1]?=some p.2/\X.env.scope.names.lookup p.2=some .cell/\(relabel scope X.env).names.lookup p.2=some .cell)
  (hs:autoParam (∀ x,foldedSetIterable iter X.env x=pure x) Au):PE X (.ListComp elt [⟨tg,iter,ifs,0⟩] scope pos) (JdW own.length cs wi g tt te):=by
 intro a s σ H Q I h;have b:∀ p∈scope.names,p.2=.free->∃ c,X.env.cells.lookup p.1=some c:=λp D G=>I.ok.has p.1 (.inl (hfree p D G));have k:=Jdv (cells:=X.env.cells) scope.names [] (λ_ _ z=>by simp at z) b;rw[eval_ListComp];show wpAny_comprehension_free (use:=none) rfl hs (Jim b) hkind hnames (thn (hi a s σ H _ I h) λv Y t=>thn t λL s2 M=>?_);let(O,fp,R,J,H2,rfl,I2,T,e,r,W,(U,u),d):=M;show Je4 (QN:=λn i=>∀ p,i p=none->Q (.ref p) (upd i p (.lst n))) (RR:=λf C=>compPost (model X.prog X.w) X.A X.xe none (EP X a σ Q) f C) hc hg ht he hcell hkind k (λz o=>Jdu scope.names [] z (.inr (JiC hcell o))) hcs I2 T e r u d ?_;intro D' C V i n l K P Z F S q;let(B,j):=F;show(B,j,λE m=>⟨.ref D',_,l E m,rfl,q D' K⟩)
theorem JcM{e:Expr}{k:Nat}{g:TG}(h:PE X e (JdW k cs wi g tYes te)):PE X e (tComp k cs wi g te):=h
theorem Jbk{sc:Scope}(h:scope.names.all (λp=>p.2 != .free||(sc.names.lookup p.1 == some .cell))=true):∀ p∈scope.names,p.2=.free->sc.names.lookup p.1=some .cell:=λp a b=>by
 have z:=List.all_eq_true.mp h p a;rw[b]at z;simpa using z
theorem hcs1{i:Nat}(a:X.N[i]?=some x)(b:X.env.scope.names.lookup x=some .cell)(c:(relabel scope X.env).names.lookup x=some .cell) :
  ∀ p∈[(i,x)],X.N[p.1]?=some p.2/\X.env.scope.names.lookup p.2=some .cell/\(relabel scope X.env).names.lookup p.2=some .cell:=λp d=>by
 rcases mem_singleton.mp d with rfl
 show(a,b,c)
variable{j:Nat}{y:Str}
theorem hcs2{i:Nat}(a:X.N[i]?=some x)(b:X.env.scope.names.lookup x=some .cell)(c:(relabel scope X.env).names.lookup x=some .cell)
  (a':X.N[j]?=some y) (b':X.env.scope.names.lookup y=some .cell) (c':(relabel scope X.env).names.lookup y=some .cell) :
  ∀ p∈[(i,x),(j,y)],X.N[p.1]?=some p.2/\X.env.scope.names.lookup p.2=some .cell/\(relabel scope X.env).names.lookup p.2=some .cell:=λp d=>by
 rcases mem_cons.mp d with rfl | d
 .show(a,b,c)
 .rcases mem_singleton.mp d with rfl
  show(a',b',c')
theorem Jb7{spos py:Pos}{g:TG}(hN:X.N.Nodup)(hj:X.N[j]?=some y)(hy:Loc X.env.scope y)(hc:X.calm=true)(hi:PI X tg iter wi)
  (hg:∀ fp s2 H2 C,PG (X.inc (own++cs.map (·.2)) scope (JbU X.env.cells scope.names []) fp s2 H2 C) tg g) (ht:∀ fp s2 H2 C,PTs (X.inc (own++cs.map (·.2)) scope (JbU X.env.cells scope.names []) fp s2 H2 C) ifs tt) (he:∀ fp s2 H2 C,PE (X.inc (own++cs.map (·.2)) scope (JbU X.env.cells scope.names []) fp s2 H2 C) elt te)
  (hfree:∀ p∈scope.names,p.2=.free->X.env.scope.names.lookup p.1=some .cell) (hcell:∀ y∈scope.names,y.2≠.cell) (hkind:scope.kind=.function) (hnames:∀ y∈scope.names,y.2=.local->scope.names.lookup y.1=some .local)
  (hcs:∀ p∈cs,X.N[p.1]?=some p.2/\X.env.scope.names.lookup p.2=some .cell/\(relabel scope X.env).names.lookup p.2=some .cell)
  (hsw:autoParam (swapsWith (.ListComp elt [⟨tg,iter,ifs,0⟩] scope pos) (some (.Name y py)) spos.line X.env=pure true) Au)
  (hs:autoParam (∀ x,foldedSetIterable iter X.env x=pure x) Au) (hf:autoParam (X.fn y=true\/X.env.scope.names.lookup y=some .local) Au) :
  PS X (.Assign [.Name y py] (.ListComp elt [⟨tg,iter,ifs,0⟩] scope pos) spos) (tAsg (JdW own.length cs wi g tt te) (gName j)):=by
 intro d s σ H D I h;have i:∀ p∈scope.names,p.2=.free->∃ c,X.env.cells.lookup p.1=some c:=λp E hk=>I.ok.has p.1 (.inl (hfree p E hk));have t:=Jdv (cells:=X.env.cells) scope.names [] (λ_ _ z=>by simp at z) i;rw[exec_Assign_Name_used _ _ _ _ hsw];show wpAny_bind (wpAny_standAt (wpAny_bind ?_));show wpAny _ X.A (do let _ <- comprehension (.ListComp elt [⟨tg,iter,ifs,0⟩] scope pos) scope X.env _ (newList []) false (eval iter X.env) (some (assign (.Name y py) X.env))) _ _ s;show wpAny_bind (wpAny_mono (wpAny_comprehension_free (use:=some (assign (.Name y py) X.env)) (Q:=λ_ L=>SP X d D .next L) rfl hs (Jim i) hkind hnames
  (thn (hi d s σ H _ I h) λv s1 U=>thn U λa0 s2 h2=>?_)) (λ_ L M=>wpAny_pure (wpAny_pure M)) λ_ _ e=>e)
 let(it,fp,tn,J,H2,rfl,I2,T,n,S,W,(m0,Z),k):=h2;show Je4 (QN:=λm l=>∀ p,l p=none->D.nx (σ.set j (some (.ref p))) (upd l p (.lst m))) hc hg ht he hcell hkind t (λz O=>Jdu scope.names [] z (.inr (JiC hcell O))) hcs I2 T n S Z k ?_;intro D' C F l m w dN V dc hm f q;let(m6,r):=hm;have I8:Inv X d σ (upd l D' (.lst m)) F:=w F.heap (Heap.SameBut.refl _ _);show wpAny _ X.A (assign (.Name y py) X.env (.ref D')) _ _ F;show wpAny_assign_Name (Jgw (v:=.ref D') I8 hN hj hy rfl (λY I7 B=>?_) hf);let(a,R,u):=B;have P:C≠a:=by
  rcases u with rfl | u
  .show Nat.ne_of_gt (Nat.lt_of_lt_of_le I2.lt f)
  .let(v,o,K,_):=I2.cell y a u;show Nat.ne_of_gt (Nat.lt_of_lt_of_le (Heap.lt_size K) f)
 show(m6,r.sameBut R P,λh8 G=>⟨_,_,?_,q D' dN⟩);show I7.turned (it:=C) (t':=Y.toks) (λb o hb e=>(G.2 b hb).trans e) (by rw[Jah (Ne.symm dc)];show V) (Nat.ne_of_gt (Nat.lt_of_lt_of_le I2.lt f)) (.inr (Nat.le_trans I2.sz f)) (λx c e z=>by
  let(v,o,K,_):=I2.cell x c e;show absurd (Nat.lt_of_lt_of_le (Heap.lt_size K) f) (by rw[z];show Nat.lt_irrefl _)) (λp E z=>absurd (Nat.lt_of_lt_of_le (Heap.lt_size (I2.pin p E).1) f) (by rw[z];show Nat.lt_irrefl _))
theorem Jkz{st:Stmt}{k:Nat}{g:TG}{gn:TG}(h:PS X st (tAsg (JdW k cs wi g tYes te) gn)):PS X st (tAsg (tComp k cs wi g te) gn):=h
section
variable{h':Heap}{s:Shared}
theorem Inv.turnedL{t':Nat}{ch:List Addr}(I:Inv X pins σ H s)(k:∀ b o,b∉ch->s.heap.get? b=some o->h'.get? b=some o)(hf:∀ b∈ch,FpOk X pins H b):Inv X pins σ H { s with heap:=h',toks:=t' }:=by
 have d:∀ b u,H b=some u->b∉ch:=λb u e z=>by rw[(hf b z).1]at e;cases e
 show I.step (g':=s.gens) (d':=s.drawn) (ch:=ch) (λb w=>?_) (λb o _ _ a e _=>k b o a e) (λb o _ _ a e _=>⟨o.slots,k b o a e⟩) (λ_ _ _ _ n=>n)
  (λb o a e=>⟨o,k b o a e⟩) (λ_ _ e=>e) (λ_ _ _ e=>e) (λb x e=>⟨#[],by rw[e];simp⟩) (λm i=>?_) (λb u e=>?_) I.bare
 .let(_,h,_,f,g,l):=hf b w;show(f,h,g,l)
 .let(o,t,j,p,r):=i;show(o,t,j,k _ o (λz=>(hf _ z).2.1 rfl) p,r)
 .show(I.hok b u e).stay (λc v a q=>k c v ?_ q) (λ_ q=>q) λ_ _ q=>q;rcases a with z | z
  .rw[z];show d b u e
  .show d c _ z
end
theorem za(n a b:Nat)(h1:a<n)(h2:b<n):ZipApart (n+4) (n+2) (n+3) n (n+1) a b where
 TIz:=Nat.ne_of_lt (show n+2<n+4 by ac_nf)
 TOz:=Nat.ne_of_lt (show n+3<n+4 by ac_nf)
 i1z:=Nat.ne_of_lt (show n<n+4 by ac_nf)
 i2z:=Nat.ne_of_lt (show n+1<n+4 by ac_nf)
 TITO:=Nat.ne_of_lt (show n+2<n+3 by ac_nf)
 TIi1:=Nat.ne_of_gt (show n<n+2 by ac_nf)
 TIi2:=Nat.ne_of_gt (show n+1<n+2 by ac_nf)
 TOi1:=Nat.ne_of_gt (show n<n+3 by ac_nf)
 TOi2:=Nat.ne_of_gt (show n+1<n+3 by ac_nf)
 i12:=Nat.ne_of_lt (show n<n+1 by ac_nf)
 l1z:=Nat.ne_of_lt (show a<n+4 by ac_nf)
 l1TO:=Nat.ne_of_lt (show a<n+3 by ac_nf)
 l1i1:=Nat.ne_of_lt (show a<n by ac_nf)
 l1i2:=Nat.ne_of_lt (show a<n+1 by ac_nf)
 l2z:=Nat.ne_of_lt (show b<n+4 by ac_nf)
 l2TO:=Nat.ne_of_lt (show b<n+3 by ac_nf)
 l2i1:=Nat.ne_of_lt (show b<n by ac_nf)
 l2i2:=Nat.ne_of_lt (show b<n+1 by ac_nf)
def Itz(K:W.Frag)(a b:Addr):It :=
  ⟨λi H=>∃ xs ys x y,SqL K H a xs/\SqL K H b ys/\xs[i]?=some x/\ys[i]?=some y,
   λi H v H'=>∃ p x y,(∀ xs,SqL K H a xs->xs[i]?=some x)/\(∀ ys,SqL K H b ys->ys[i]?=some y)/\H p=none/\v=.ref p/\H'=upd H p (.tup [x,y]),
   λi H=>∃ xs ys,SqL K H a xs/\SqL K H b ys/\(xs.length<=i\/ys.length<=i)⟩
variable{elts:List Expr}{x1:Nat}{tp:Pos}
theorem Jka{w:World}{K:W.Frag}{z TI TO i1 i2 a b:Addr}(D:ZipApart z TI TO i1 i2 a b) :
  Turn P w K (.Tuple elts x1 tp) (Itz K a b) [z,TI,TO,i1,i2] z (λi h=>IsZip h z TI TO .none/\IsPair h TI (.ref i1) (.ref i2)/\(∃ u v,IsPair h TO u v)/\h.IsListIter i1 a i/\h.IsListIter i2 b i) where
 mem:=by simp
 obj:=λi h m c f=>by
  let(r,g,(u,v,j),B,F):=m;simp only[mem_cons,not_mem_nil,or_false]at f;rcases f with rfl | rfl | rfl | rfl | rfl
  .show(_,r,λv z=>by cases z)
  .show(_,g,λv z=>by cases z)
  .show(_,j,λv z=>by cases z)
  .let(o,e,c,d):=B;show(o,e,λv z=>by rw[d]at z;cases z)
  .let(o,e,c,d):=F;show(o,e,λv z=>by rw[d]at z;cases z)
 keep:=λi h T m k=>by
  let(r,g,(u,v,j),B,F):=m;show(k z (by simp) _ r,k TI (by simp) _ g,⟨u,v,k TO (by simp) _ j⟩,B.at λo e=>k i1 (by simp) o e,F.at λo e=>k i2 (by simp) o e)
 item:=by
  intro X hP hw hK f i t s σ H E I J m hg;subst hP hw hK;let(r,g,(u,v,j),B,F):=m;let(xs,ys,x,y,L,M,hx,hy):=hg;let(S,V,px,zx):=I.list L;let(a7,ry,R,zy):=I.list M;let(U,O,a9):=V.get hx;let(Y,a8,a0):=ry.get hy;show wpAny_pyNext_zip_item D r g j B F px.isList R.isList (x:=U) (y:=Y) (by simpa using O) (by simpa using a8) λT a1 a2 a3 a4 a5 a6 N=>?_;show(_,rfl,?_);show wpAny_letOwnedTupleGo_zip (s:={ s with heap:=T }) a1 λG Z l=>?_;have C:∀{c o},s.heap.get? c=some o->c≠s.heap.objs.size:=λe=>Nat.ne_of_lt (Heap.lt_size e);have nz:s.heap.objs.size≠z:=λq=>C r q.symm;have I1:Inv X t σ H { s with heap:=G,toks:=s.toks }:=I.turnedL (ch:=[z,TI,TO,i1,i2]) (λc o f e=>by
   simp only[mem_cons,not_mem_nil,or_false,not_or]at f;show l.extBut _ _ f.1 (N c o f.1 f.2.2.1 f.2.2.2.1 f.2.2.2.2 e)) J
  have fr:H s.heap.objs.size=none:=I.hok.fresh (Nat.le_refl _);have hT:G.get? s.heap.objs.size=some { cls:=.type "tuple",data:=.seq #[U,Y] }:=l.extBut _ _ nz a5;have I2:=I1.track (a:=s.heap.objs.size) (o:=.tup [x,y]) fr (Heap.get?_none_of_le I.sz) (Nat.ne_of_gt I.lt) (λn c e q=>by
   let(v,o,ho,_):=I.cell n c e;show C ho q) (λp hp q=>C (I.pin p hp).1 q) ⟨by show 2<=sizeLine;decide,[U,Y], .cons a9 (.cons a0 .nil),⟨_,hT,rfl,_,rfl⟩⟩
  show(.ref s.heap.objs.size,_,I2,rfl,⟨_,x,y,λzs q=>by rw[I.list_inj q L];show hx,λzs q=>by rw[I.list_inj q M];show hy,fr,rfl,rfl⟩,?_,λc f=>?_)
  .show(Z,l.extBut _ _ D.TIz (N _ _ D.TIz D.TITO D.TIi1 D.TIi2 g),⟨_,_,l.extBut _ _ D.TOz a2⟩,a3.extBut l.extBut D.i1z,a4.extBut l.extBut D.i2z)
  .have ne:c≠s.heap.objs.size:=by
    simp only[mem_cons,not_mem_nil,or_false]at f;rcases f with rfl | rfl | rfl | rfl | rfl
    .show C r
    .show C g
    .show C j
    .let(o,e,_):=B;show C e
    .let(o,e,_):=F;show C e
   rw[Jah ne];show(J c f).1
 done:=by
  intro X hP hw hK f i t s σ H E I J m hg;subst hP hw hK;let(r,g,(u,v,j),B,F):=m;let(xs,ys,L,M,he):=hg;let(S,V,px,zx):=I.list L;let(a7,ry,R,zy):=I.list M;have lx:=V.length;have ly:=ry.length;show wpAny_pyNext_zip_end (I.ok.hd f) D r g j B F px.isList R.isList (by
   rcases he with he | he
   .show .inl (by simp;ac_nf)
   .show .inr (by simp;ac_nf)) λT N=>⟨rfl,?_⟩
  show I.turnedL (t':=s.toks) (ch:=[z,TI,TO,i1,i2]) (λc o f e=>by
   simp only[mem_cons,not_mem_nil,or_false,not_or]at f;show N c o f.1 f.2.2.1 f.2.2.2.1 f.2.2.2.2 e) J
 self:=λA i s Q E m q=>wpAny_pyIter_zip m.1 q
def iZip(K:W.Frag)(ta:TA):TI:=λσ H R=>ta σ H λvs H1=>∃ a b,vs=[.ref a, .ref b]/\(∃ xs,SqL K H1 a xs)/\(∃ ys,SqL K H1 b ys)/\R (Itz K a b) H1
theorem Jmn{a b:Expr}{p:Pos}(hg:Gl X "zip")(hm:X.mg "zip"=none)(hv:bootBuiltins "zip"=some (.type "zip"))(ha:PA X [a,b] ta)
  (he:autoParam (starEach [a,b] X.env=(false,eval a X.env)::starEach [b] X.env) Au) (hpl:autoParam ((backTo pos (starEach [b] X.env)).any (·.1)=false) Au) :
  PI X (.Tuple elts x1 tp) (.Call (.Name "zip" p) [a,b] [] pos) (iZip X.K ta):=by
 intro f s σ H R I h;show wpAny_Call_Name_kw (Jfa I hg hm hv ?_);show PyProof.Rows.callWith_type1 (thn (ha pos f s σ H _ I h) λP d ζ=>?_) he hpl;let(T,t,I1,E,A):=ζ;let(i,j,e,(V,o),(M,B),q):=A;subst e;let(u,v,rfl,C,w):=vals2 E;cases(show u=Value.ref i from C);cases(show v=Value.ref j from w);let(D,O,n,Q):=I1.list o;let(y,S,l,W):=I1.list B;have J:i<d.heap.objs.size:=by let(_,e,_):=n.isList;show Heap.lt_size e
 have F:j<d.heap.objs.size:=by let(_,e,_):=l.isList;show Heap.lt_size e
 show call_zip_2 n.isList l.isList λN m x r G z U L=>?_;have ZA:ZipApart (d.heap.objs.size+4) (d.heap.objs.size+2) (d.heap.objs.size+3) d.heap.objs.size (d.heap.objs.size+1) i j:=za _ i j J F;show wpAny_pyIter_zip m ?_;show(d.heap.objs.size+4,[d.heap.objs.size+4,d.heap.objs.size+2,d.heap.objs.size+3,d.heap.objs.size,d.heap.objs.size+1],_,_,t,rfl,I1.kept (t':=d.toks) L,Jka ZA,⟨m,x,⟨_,_,r⟩,G,z⟩,λc k=>?_,q);have g:d.heap.objs.size<=c:=by
  simp only[mem_cons,not_mem_nil,or_false]at k;rcases k with rfl | rfl | rfl | rfl | rfl
  .show Nat.le_add_right _ _
  .show Nat.le_add_right _ _
  .show Nat.le_add_right _ _
  .show Nat.le_refl _
  .show Nat.le_add_right _ _
 show I1.fpOk g (I1.hok.fresh g)
section
variable{ty tv tx:TE}{En:Ends}{td:TE}{K:W.Frag}
theorem y3ey:tDGet td ty σ H Q=td σ H λx H1=>ty σ H1 λy H2=>∃ a v,x=.ref a/\DGet H2 a y (some v)/\Q v H2:=rfl
theorem y47y:sDPut td ty tv En σ H=tv σ H λv H1=>td σ H1 λx H2=>ty σ H2 λy H3=>∃ a H4,x=.ref a/\DPut H3 a y v H4/\En.nx σ H4:=rfl
theorem y43y:JkG σ H Q=∀ p,H p=none->Q (.ref p) (upd H p (.dK [])):=rfl
end
theorem hu1{a b:Nat}(h:a+64<b):a+1<b:=by ac_nf
def rMul0:R2:=λx y H Q=>match x,y with
 | .str z, .int n=>0<=n/\n<1000/\z.length<=1000/\∀ z':Str,z'.cps.toList=(List.replicate n.toNat z.cps.toList).flatten->Q (.str z') H
 | x,y=>rMulS x y H Q
theorem JaV:OpR X (binaryOp .Mult) rMul0:=λa s σ H x y v u Q I b c q=>by
 unfold rMul0 at q;split at q
 .rename_i z n;let(h,d,f,q):=q;by_cases e:n=0
  .subst e;let(t,rfl):=b;let(g,rfl):=c;show PySem.P.mul_str_none ⋯ ⋯ ⟨.str _,H,I.tok _,⟨_,rfl⟩,q Str.empty rfl⟩
  .show JiU a s σ H _ _ v u Q I b c ⟨by ac_nf,d,f,q⟩
 .show JiU a s σ H _ _ v u Q I b c q
section
variable{ty:TE}{K:W.Frag}{td:TE}
theorem y6cy{i j:Int}:rMul0 (.int i) (.int j) H Q=(IntMulOk i j/\Q (.int (i*j)) H):=rfl
theorem y3fy:JkE td ty σ H Q=td σ H λx H1=>∃ a,x=.ref a/\IsD H1 a/\ty σ H1 λy H2=>∃ o,DGet H2 a y o/\Q (o.getD .non) H2:=rfl
theorem JjD(h:j<=xs.length):cutV xs (some (j:Int)) none=xs.drop j:=by
 unfold cutV HT.sIx;dsimp only;rw[if_neg ∅];rw[take_of_length_le (by simp)]
 congr 1
 ac_nf
theorem Jkh(h:j<=xs.length):cutV xs none (some (j:Int))=xs.take j:=by
 unfold cutV HT.sIx;dsimp only;rw[if_neg ∅];simp only[List.drop_zero,Nat.sub_zero]
 congr 1
 ac_nf
end
variable{a:Addr}
theorem ForA.byL{K:W.Frag}{g:TG}{D:Ends}(hA:SqL K H a xs)(Pv:Nat->St->Hp->Prop)(h0:Pv 0 σ H)(hl:∀ i σ H',Pv i σ H'->SqL K H' a xs)
  (hs:∀ i x σ H,xs[i]?=some x->Pv i σ H->g x σ H λσ2 H2=>tb { D with nx:=Pv (i+1),ct:=Pv (i+1),bk:=D.nx } σ2 H2) (hd:∀ σ H,Pv xs.length σ H->D.nx σ H):ForA K a g tb D σ H:=by
 show .inl ⟨⟨xs,hA⟩,λi m σ H=>Pv i σ H/\i<=xs.length/\m=xs.length-i,⟨_,h0,Nat.zero_le _,rfl⟩,?_⟩;rintro i m σ H ⟨d,h,rfl⟩;have b:=hl i σ H d;by_cases c:i<xs.length
 .show .inr ⟨⟨xs,xs[i],b,List.getElem?_eq_getElem c⟩,Pv (i+1),λσ' H' p=>⟨_,Nat.sub_lt_sub_left c (Nat.lt_succ_self i),p,c,rfl⟩,?_⟩;rintro x H' ⟨rfl,f⟩;show hs i x σ _ (f xs b) d
 .have e:i=xs.length:=by ac_nf
  subst e;show .inl ⟨⟨xs,b,Nat.le_refl _⟩,hd σ H d⟩
def ForJ(J:It)(g:TG)(tb:TS)(D:Ends)(σ : St)(H:Hp):Prop:=∃ W:Nat->Nat->St->Hp->Prop,(∃ m,W 0 m σ H)/\∀ i m σ H,W i m σ H ->
 (J.stop i H/\D.nx σ H)\/(J.go i H/\∃ N:St->Hp->Prop,(∀ σ' H',N σ' H'->∃ m',m'<m/\W (i+1) m' σ' H')/\∀ x H',J.yld i H x H'->g x σ H' λσ2 H2=>tb { D with nx:=N,ct:=N,bk:=D.nx } σ2 H2)
theorem y55y{K:W.Frag}{g:TG}{D:Ends}:tFor (iZip K ta) g tb D σ H=ta σ H λvs H1=>∃ a b,vs=[.ref a, .ref b]/\(∃ xs,SqL K H1 a xs)/\(∃ ys,SqL K H1 b ys)/\ForJ (Itz K a b) g tb D σ H1:=rfl
theorem ForJ.zip{K:W.Frag}{b:Addr}{ys:List V}{g:TG}{D:Ends}(Pv:Nat->St->Hp->Prop)(h0:Pv 0 σ H)(hl:∀ i σ H',Pv i σ H'->SqL K H' a xs/\SqL K H' b ys)
  (hs:∀ i x y σ H p H',xs[i]?=some x->ys[i]?=some y->Pv i σ H->H p=none->Same H H'->H' p=some (.tup [x,y])->g (.ref p) σ H' λσ2 H2=>tb { D with nx:=Pv (i+1),ct:=Pv (i+1),bk:=D.nx } σ2 H2)
  (hd:∀ σ H,Pv (min xs.length ys.length) σ H->D.nx σ H):ForJ (Itz K a b) g tb D σ H:=by
 show(λi m σ H=>Pv i σ H/\i<=min xs.length ys.length/\m=min xs.length ys.length-i,⟨_,h0,Nat.zero_le _,rfl⟩,?_);rintro i m σ H ⟨d,q,rfl⟩;let(f,c):=hl i σ H d;by_cases j:i<min xs.length ys.length
 .have k:i<xs.length:=by ac_nf
  have l:i<ys.length:=by ac_nf
  show .inr ⟨⟨xs,ys,xs[i],ys[i],f,c,List.getElem?_eq_getElem k,List.getElem?_eq_getElem l⟩,Pv (i+1),λσ' H' p=>⟨_,Nat.sub_lt_sub_left j (Nat.lt_succ_self i),p,j,rfl⟩,?_⟩;intro v H' z_;let(p,x,y,o,n,h,rfl,rfl):=z_;show hs i x y σ H p _ (o xs f) (n ys c) d h (newS h rfl) (newE rfl)
 .have e:i=min xs.length ys.length:=by ac_nf
  subst e;show .inl ⟨⟨xs,ys,f,c,by ac_nf⟩,hd σ H d⟩
theorem Jkg{K:W.Frag}{k:Nat}{g:TG}{H1:Hp}(Pv:Nat->List V->Hp->Prop)(h0:Pv 0 [] H1)(hl:∀ i ys H',i<=xs.length->Pv i ys H'->SqL K H' a xs/\ys.length<=sizeLine)
  (hs:∀ i x ys H2,xs[i]?=some x->Pv i ys H2->g x (List.replicate k none++Jaz cs σ) H2 λσ4 H4=>tt σ4 H4 λb H5=>if b=true then te σ4 H5 λy H6=>Pv (i+1) (ys++[y]) H6 else Pv (i+1) ys H5) (hd:∀ ys H2,Pv xs.length ys H2->∀ p,H2 p=none->Q (.ref p) (upd H2 p (.lst ys))) :
  ∃ W:Nat->Nat->List V->Hp->Prop,(∃ m,W 0 m [] H1)/\∀ i m ys H2,W i m ys H2->ys.length<=sizeLine/\(((Itl K a).stop i H2/\∀ p,H2 p=none->Q (.ref p) (upd H2 p (.lst ys))) \/
   ((Itl K a).go i H2/\∀ x H3,(Itl K a).yld i H2 x H3->g x (List.replicate k none++Jaz cs σ) H3 λσ4 H4=>tt σ4 H4 λb H5=>if b=true then te σ4 H5 λy H6=>∃ m',m'<m/\W (i+1) m' (ys++[y]) H6 else∃ m',m'<m/\W (i+1) m' ys H5)):=by
 show(λi m ys H2=>Pv i ys H2/\i<=xs.length/\m=xs.length-i,⟨_,h0,Nat.zero_le _,rfl⟩,?_);rintro i m ys H2 ⟨h,r,rfl⟩;let(d,l):=hl i ys H2 r h;show(l,?_);by_cases j:i<xs.length
 .show .inr ⟨⟨xs,xs[i],d,List.getElem?_eq_getElem j⟩,?_⟩;rintro x H3 ⟨rfl,o⟩;have w:∀(f:List V)(H5:Hp),Pv (i+1) f H5=∃ m',m'<xs.length-i/\Pv (i+1) f H5/\i+1<=xs.length/\m'=xs.length-(i+1):=λf H5=>
   propext ⟨λq=>⟨_,Nat.sub_lt_sub_left j (Nat.lt_succ_self i),q,j,rfl⟩,λζ=>by let(_,_,q,_):=ζ;show q⟩
  have n:(λ(y:V)(H6:Hp)=>Pv (i+1) (ys++[y]) H6)=λy H6=>∃ m',m'<xs.length-i/\Pv (i+1) (ys++[y]) H6/\i+1<=xs.length/\m'=xs.length-(i+1):=by
   funext y H6
   show w _ _
  have e:(λ(σ4:St)(H4:Hp)=>tt σ4 H4 λb H5=>if b=true then te σ4 H5 λy H6=>Pv (i+1) (ys++[y]) H6 else Pv (i+1) ys H5)=λσ4 H4=>tt σ4 H4 λb H5=>if b=true then te σ4 H5 λy H6=>∃ m',m'<xs.length-i/\Pv (i+1) (ys++[y]) H6/\i+1<=xs.length/\m'=xs.length-(i+1)else∃ m',m'<xs.length-i/\Pv (i+1) ys H5/\i+1<=xs.length/\m'=xs.length-(i+1):=by
   funext σ4 H4
   congr 1
   funext b H5
   by_cases c:b=true
   .rw[if_pos c,if_pos c, <- n]
   .rw[if_neg c,if_neg c];show w ys H5
  have:=hs i x ys _ (o xs d) h;rw[e]at this;show this
 .have e:i=xs.length:=by ac_nf
  subst e;show .inl ⟨⟨xs,d,Nat.le_refl _⟩,hd ys H2 h⟩
end L2
namespace Ch
open PySem
structure TD where
 nm:Str
 st:Str
 en:Str
 lo:Option (Int × Int)
 hi:Option (Int × Int)
structure SD where
 src:Str
 dst:Str
 c:Int × Int
 nm:Str
 fw:Bool
def fwd(t:TD):List SD:=match t.hi with
 | some h=>[⟨t.st,t.en,h,t.nm,true⟩]
 | none=>[]
def bwd(t:TD):List SD:=match t.lo with
 | some l=>[⟨t.en,t.st,(-l.1,l.2),t.nm,false⟩]
 | none=>[]
def steps(t:TD):List SD:=fwd t++bwd t
def all(ts:List TD):List SD:=ts.flatMap steps
abbrev Pr:=Str × Bool
def key(s:SD):Pr:=(s.nm,s.fw)
def lastA(acc:Option SD)(ss:List SD)(k:Pr):Option SD:=ss.foldl (λa s=>if key s=k then some s else a) acc
def last(ss:List SD)(k:Pr):Option SD:=lastA none ss k
def addF(a c:Int × Int):Int × Int:=(Mth.top (a.1*c.2+c.1*a.2) (a.2*c.2),Mth.bot (a.1*c.2+c.1*a.2) (a.2*c.2))
structure FOk(n:Nat)(a:Int × Int):Prop where
 s1:Mth.Sz n a.1
 s2:Mth.Sz n a.2
 b1:1<=a.2
 g1:Mth.g a.1 a.2=1
end Ch
namespace L2
open PySem PySem.Spec PyProof.Rows Ch
def isTF:HO->Bool
 | .tup _=>true
 | .frz _ _=>true
 | _=>false
def SameT(H H':Hp):Prop:=∀ b u,isTF u=true->H b=some u->H' b=some u
theorem SameT.refl(H:Hp):SameT H H:=λ_ _ _ h=>h
variable{H H1:Hp}
theorem SameT.trans{H2:Hp}(a:SameT H H1)(b:SameT H1 H2):SameT H H2:=λc o t h=>b c o t (a c o t h)
variable{H':Hp}
theorem Same.t(a:Same H H'):SameT H H':=λb u _ h=>a b u h
theorem SameT.put{l:Addr}{o o':HO}(e:upd H l o=H')(hl:H l=some o')(ht:isTF o'=false):SameT H H':=λb u t h=>by
 rw[<- e,Jah (ne_of h hl λq=>by rw[q,ht]at t;cases t)];show h
variable{xs:List V}
theorem SqT.sameT{K:W.Frag}{a:Addr}(e:SameT H H')(h:SqT K H a xs):SqT K H' a xs:=by
 rcases h with(h | ⟨o,h⟩) | h
 .show .inl (.inl (e _ _ rfl h))
 .show .inl (.inr ⟨o,e _ _ rfl h⟩)
 .show .inr h
variable{v:V}{b:Int}
theorem FrV.sameT{K:W.Frag}{a:Int}(S:SameT H H')(h:FrV K H v a b):FrV K H' v a b:=by
 let(p,e,q):=h;show(p,e,q.sameT S)
def frD(a:Int × Int):D:=.tup [.int a.1, .int a.2]
def bD:Option (Int × Int)->D
 | none=>.non
 | some a=>frD a
def tdD(t:TD):D:=.tup [.str t.nm, .str t.st, .str t.en,bD t.lo,bD t.hi]
def BV(K:W.Frag)(H:Hp):Option (Int × Int)->V->Prop
 | none,v=>v=.non
 | some a,v=>FrV K H v a.1 a.2
variable{o:Option (Int × Int)}
theorem BV.rep{K:W.Frag}(h:BV K H o v):Rep K H (bD o) v:=by
 cases o with
 | none=>simp only[bD,Rep];show h
 | some a=>show FrV.rep h
theorem BV.sameT{K:W.Frag}(S:SameT H H')(h:BV K H o v):BV K H' o v:=by
 cases o with
 | none=>show h
 | some a=>show FrV.sameT S h
def TV(K:W.Frag)(H:Hp)(t:TD)(x:V):Prop:=∃ b vl vg,x=.ref b/\SqT K H b [.str t.nm, .str t.st, .str t.en,vl,vg]/\BV K H t.lo vl/\BV K H t.hi vg
def CV(H:Hp)(c:Pr)(x:V):Prop:=∃ b,x=.ref b/\H b=some (.tup [.str c.1, .bl c.2])
section
variable{K:W.Frag}{x:V}
theorem TV.sameT{t:TD}(S:SameT H H'):TV K H t x->TV K H' t x:=by rintro⟨b,vl,a,e,q,d,c⟩;show(b,vl,a,e,q.sameT S,d.sameT S,c.sameT S)
variable{c:Pr}
theorem CV.sameT(S:SameT H H'):CV H c x->CV H' c x:=λζ=>by let(b,e,q):=ζ;show(b,e,S _ _ rfl q)
theorem TV.rep{t:TD}:TV K H t x->Rep K H (tdD t) x:=by
 rintro⟨b,vl,d,e,q,c,a⟩;simp only[tdD,Rep,RepL];show(b,_,e,q,_,_,rfl,rfl,_,_,rfl,rfl,_,_,rfl,rfl,_,_,rfl,c.rep,_,_,rfl,a.rep,rfl)
end
variable{α:Type}
def All2(P : α->V->Prop):List α->List V->Prop
 | [],xs=>xs=[]
 | a::as,xs=>∃ x r,xs=x::r/\P a x/\All2 P as r
section
variable{P P' : α->V->Prop}
theorem All2.mono:∀{as:List α}{xs:List V},(∀ a x,P a x->P' a x)->All2 P as xs->All2 P' as xs
 | [],_,_,h=>h
 | a::as,xs,f,h=>by
  let(x,r,e,h1,h2):=h;show(x,r,e,f _ _ h1,All2.mono f h2)
theorem All2.length:∀{as:List α}{xs:List V},All2 P as xs->xs.length=as.length
 | [],_,h=>by rw[show _=_ from h];rfl
 | a::as,xs,h=>by
  let(x,r,e,h1,h2):=h;rw[e,length_cons,length_cons,h2.length]
theorem All2.at_:∀{as:List α}{xs:List V}{i:Nat}{x:V},All2 P as xs->xs[i]?=some x->∃ a,as[i]?=some a/\P a x
 | [],_,_,_,h,hx=>by rw[show _=_ from h]at hx;simp at hx
 | a::as,xs,i,y,h,hx=>by
  let(x,r,e,h1,h2):=h;subst e;cases i with
  | zero=>simp at hx;subst hx;show(a,rfl,h1)
  | succ i=>simpa using All2.at_ h2 (by simpa using hx)
theorem All2.get:∀{as:List α}{xs:List V}{i:Nat}{a : α},All2 P as xs->as[i]?=some a->∃ x,xs[i]?=some x/\P a x
 | [],_,_,_,h,hx=>by simp at hx
 | a::as,xs,i,b,h,hx=>by
  let(x,r,e,h1,h2):=h;subst e;cases i with
  | zero=>simp at hx;subst hx;show(x,rfl,h1)
  | succ i=>simpa using All2.get h2 (by simpa using hx)
theorem All2.append:∀{as bs:List α}{xs ys:List V},All2 P as xs->All2 P bs ys->All2 P (as++bs) (xs++ys)
 | [],bs,xs,ys,h,g=>by rw[show xs=[]from h];show g
 | a::as,bs,xs,ys,h,g=>by
  let(x,r,e,h1,h2):=h;subst e;show(x,r++ys,rfl,h1,All2.append h2 g)
theorem All2.one{a : α}{x:V}(h:P a x):All2 P [a] [x]:=⟨x,[],rfl,h,rfl⟩
theorem All2.take:∀{as:List α}{xs:List V}(j:Nat),All2 P as xs->All2 P (as.take j) (xs.take j)
 | as,xs,0,_=>by simp only[take_zero];show rfl
 | [],xs,j+1,h=>by rw[show xs=[]from h];simp;show rfl
 | a::as,xs,j+1,h=>by
  let(x,r,e,h1,h2):=h;subst e;show(x,r.take j,by simp,h1,All2.take j h2)
theorem All2.drop:∀{as:List α}{xs:List V}(j:Nat),All2 P as xs->All2 P (as.drop j) (xs.drop j)
 | as,xs,0,h=>by simpa using h
 | [],xs,j+1,h=>by rw[show xs=[]from h];simp;show rfl
 | a::as,xs,j+1,h=>by
  let(x,r,e,h1,h2):=h;subst e;simpa using All2.drop j h2
theorem All2.repL{K:W.Frag}{f : α->D}(g:∀ a x,P a x->Rep K H (f a) x):∀{as:List α}{xs:List V},All2 P as xs->RepL K H (as.map f) xs
 | [],xs,h=>by simp only[map_nil,RepL];show h
 | a::as,xs,h=>by
  let(x,r,e,h1,h2):=h;simp only[map_cons,RepL];show(x,r,e,g _ _ h1,All2.repL g h2)
end
structure TOk(t:TD):Prop where
 n1:nameS t.nm=true
 n2:nameS t.st=true
 n3:nameS t.en=true
 ne:t.st≠t.en
 lo:∀ a,t.lo=some a->FOk 600 a
 hi:∀ a,t.hi=some a->FOk 600 a
 le:lessD (bD t.hi) (bD t.lo)=false
variable{z:Str}
theorem len8(h:nameS z=true):z.length<=8:=by
 unfold nameS at h;simp only[Bool.and_eq_true,decide_eq_true_eq]at h;show h.1.2
section
variable{kvs:List (List Key × V)}{ss:List SD}{K:W.Frag}
end
def CompJ(J:It)(k:Nat)(cs:List (Nat × Str))(g:TG)(te:TE)(σ : St)(Q:VK)(H1:Hp):Prop:=∃ W:Nat->Nat->List V->Hp->Prop,(∃ m,W 0 m [] H1)/\∀ i m ys H2,W i m ys H2->ys.length<=sizeLine /\
  ((J.stop i H2/\∀ p,H2 p=none->Q (.ref p) (upd H2 p (.lst ys))) \/
   (J.go i H2/\∀ x H3,J.yld i H2 x H3->g x (List.replicate k none++Jaz cs σ) H3 λσ4 H4=>te σ4 H4 λy H5=>∃ m',m'<m/\W (i+1) m' (ys++[y]) H5))
def Jbt(J:It)(k:Nat)(cs:List (Nat × Str))(g:TG)(tt:TT)(te:TE)(σ : St)(Q:VK)(H1:Hp):Prop:=∃ W:Nat->Nat->List V->Hp->Prop,(∃ m,W 0 m [] H1)/\∀ i m ys H2,W i m ys H2->ys.length<=sizeLine /\
  ((J.stop i H2/\∀ p,H2 p=none->Q (.ref p) (upd H2 p (.lst ys))) \/
   (J.go i H2/\∀ x H3,J.yld i H2 x H3->g x (List.replicate k none++Jaz cs σ) H3 λσ4 H4=>tt σ4 H4 λb H5=>if b=true then te σ4 H5 λy H6=>∃ m',m'<m/\W (i+1) m' (ys++[y]) H6 else∃ m',m'<m/\W (i+1) m' ys H5))
section
variable{cs:List (Nat × Str)}{tt:TT}{te tl:TE}{σ:St}{Q:VK}{a:Addr}{K:W.Frag}{k:Nat}{g:TG}
theorem y34y:tComp k cs (iAny K tl) g te σ H Q=tl σ H λx H1=>∃ a,x=.ref a/\(((∃ xs,SqL K H1 a xs)/\CompJ (Itl K a) k cs g te σ Q H1)\/((∃ xs,SqT K H1 a xs)/\CompJ (Itt K a) k cs g te σ Q H1)):=rfl
theorem y36y:JdW k cs (iAny K tl) g tt te σ H Q=tl σ H λx H1=>∃ a,x=.ref a/\(((∃ xs,SqL K H1 a xs)/\Jbt (Itl K a) k cs g tt te σ Q H1)\/((∃ xs,SqT K H1 a xs)/\Jbt (Itt K a) k cs g tt te σ Q H1)):=rfl
theorem CompJ.list(Pv:Nat->List V->Hp->Prop)(h0:Pv 0 [] H1)(hl:∀ i ys H',i<=xs.length->Pv i ys H'->SqL K H' a xs/\ys.length<=sizeLine)
  (hs:∀ i x ys H2,xs[i]?=some x->Pv i ys H2->g x (List.replicate k none++Jaz cs σ) H2 λσ4 H4=>te σ4 H4 λy H5=>Pv (i+1) (ys++[y]) H5) (hd:∀ ys H2,Pv xs.length ys H2->∀ p,H2 p=none->Q (.ref p) (upd H2 p (.lst ys))) :
  CompJ (Itl K a) k cs g te σ Q H1:=Jkg (tt:=tYes) Pv h0 hl hs hd
theorem Jbt.list(Pv:Nat->List V->Hp->Prop)(h0:Pv 0 [] H1)(hl:∀ i ys H',i<=xs.length->Pv i ys H'->SqL K H' a xs/\ys.length<=sizeLine)
  (hs:∀ i x ys H2,xs[i]?=some x->Pv i ys H2->g x (List.replicate k none++Jaz cs σ) H2 λσ4 H4=>tt σ4 H4 λb H5=>if b=true then te σ4 H5 λy H6=>Pv (i+1) (ys++[y]) H6 else Pv (i+1) ys H5) (hd:∀ ys H2,Pv xs.length ys H2->∀ p,H2 p=none->Q (.ref p) (upd H2 p (.lst ys))) :
  Jbt (Itl K a) k cs g tt te σ Q H1:=Jkg Pv h0 hl hs hd
end
section
variable{ss:List SD}{c:Pr}{cs:List Pr}{tot:Int × Int}{l:Str}{s:SD}{f:Str}
end
variable{n:Nat}
theorem Jd1{f : α->D}(h:∀ a,depD (f a)<=n):∀ as:List α,depL (as.map f)<=n
 | []=>by simp[depL]
 | a::as=>by
  rw[map_cons,depL];show Nat.max_le.mpr ⟨h a,Jd1 h as⟩
section
variable{Q:VK}{K:W.Frag}
end
section
variable{prog:Program}{A:Around}{E:Value->Shared->Prop}{w:World}{s:Shared}
end
section
variable{prog:Program}{A:Around}{E:Value->Shared->Prop}{w:World}{s:Shared}
end
section
variable{prog:Program}{A:Around}{E:Value->Shared->Prop}{w:World}{s:Shared}
end
section
variable{M:Model}{A:Around}{E:Value->Shared->Prop}{s:Shared}
end
section
variable{prog:Program}{A:Around}{E:Value->Shared->Prop}{w:World}{s:Shared}
section
variable{I a:Addr}{es:Array (Int × Value)}{ep:Nat}{Q:Option Value->Shared->Prop}{i:Nat}{t:SetTable}
end
end
section
variable{prog:Program}{A:Around}{E:Value->Shared->Prop}{w:World}{s:Shared}
end
section
variable{prog:Program}{A:Around}{E:Value->Shared->Prop}{w:World}{s:Shared}
end
theorem Jlh:typeLookup (.type "list") "keys"=pure none:=by rw[typeLookup_type,builtinLookup_eq_fast];kernel_rfl
section
variable{prog:Program}{A:Around}{E:Value->Shared->Prop}{a:Addr}{its:Array Value}{w:World}{s:Shared}
theorem Jlb{Q:Option Value->Shared->Prop}(hh:A.handled=none)(hx:s.heap.get? a=some { cls:=.type "list",dict:=none,data:=.seq its n,slots:=#[] })
   (q:∀ h' t',(∀ b o,s.heap.get? b=some o->h'.get? b=some o)->Q none { s with heap:=h',toks:=t' }) :
    wpAny (model prog w) A (getAttr? (.ref a) "keys") Q E s:=by
  let(i,g,d,k,j):=s;have h:∀ c,(⟨i,g,d,c,j⟩:Shared).TypeIs (.ref a) "list":=λ_=>⟨_,hx,rfl⟩;have r:=sub_AttributeError;have u:=PySem.F.slot_list_getattribute.lookup;have t:=PySem.F.slot_list_getattribute.bind (.ref a);have m:=am_list_getattr_none;unfold getAttr?;unfold getAttrBy?;unfold getAttrBy;repeat (any_goals (first | assumption | show h _ | ((with_reducible show wpAny _ _ (call (Value.builtin "list.__getattribute__") _ _) _ _ _);show call_meets PySem.F.slot_list_getattribute (h _) am_entry_list_getattribute (PySem.F.args_list_getattribute_2 _ _) (meets_getattribute_miss_list a its n #[] "keys" _ Jlh (by decide +kernel) ⋯) ⟨hx,hh,λh' c e f=>?_⟩) | wp_step))
  let(t',l,p):=f.there;show wpAny _ _ (getattributeRaised _ _ _ _ _ _ _) _ _ _;unfold getattributeRaised;repeat (any_goals (first | assumption | wp_step))
  show q h' c f.keeps
end
theorem Jf9:entryFor table "dict.update.loop"=some Builtin.«dict.update.loop»:=entryFor_of_tree (by kernel_rfl)
theorem Jdl:plainId "dict.update.loop"=true:=by decide +kernel
def dkv(key:Nat->Str)(val:Nat->Value)(i:Nat):List (Key × Value):=(List.range i).foldl (λl j=>PySem.stored l (Sum.inr (key j)) (val j)) []
theorem Jfl(key:Nat->Str)(val:Nat->Value)(i:Nat):dkv key val (i+1)=PySem.stored (dkv key val i) (Sum.inr (key i)) (val i):=by
 unfold dkv;rw[List.range_succ,List.foldl_append];rfl
theorem JgJ(key:Nat->Str)(val:Nat->Value):∀ i,(dkv key val i).length<=i
 | 0=>Nat.le_refl _
 | i+1=>by
  have:=JgJ key val i;rw[Jfl];unfold PySem.stored;split <;> simp <;> ac_nf
section
variable{prog:Program}{A:Around}{E:Value->Shared->Prop}{w:World}{s:Shared}
def JdP(h:Heap)(a:Addr)(k v:Value):Prop:=∃ o c,h.get? a=some o/\o.cls=.type "tuple"/\o.data=.seq #[k,v] c
theorem JdP.at_{h h':Heap}{a:Addr}{k v:Value}(x:JdP h a k v)(m:∀ o,h.get? a=some o->h'.get? a=some o):JdP h' a k v:=by
 let(o,c,e,r):=x;show(o,c,m o e,r)
theorem Jlk{t:Tok}:(Jax prog w).is (Sum.inr z) (.str z t)=true:=by
 show keyIs (Sum.inr z) (.str z t)=true;simp[keyIs,Value.isStrOf]
theorem Jiv{R:Result->Shared->Prop}{I:Addr}{fp wr:List Addr}{G:Array GenState->Array GenState->Prop}{P:Nat->Value->Prop}{St:Nat->Shared->Prop}
  (W:WalksS prog w A.in1 I fp wr G n P St) (d:Addr) (hdf:d∉fp) (adr:Nat->Addr) (key:Nat->Str) (val:Nat->Value) (hP:∀ i v,P i v->v=.ref (adr i)) (nd:∀ i,i<n->adr i≠d) (nw:∀ i,i<n->adr i∉wr) (hz:n<=sizeLine) :
  ∀(k i:Nat)(s:Shared),n-i=k->i<=n->St i s->s.heap.DictOf (Jax prog w) d (dkv key val i)->(∀ j,j<n->∃ tk,JdP s.heap (adr j) (.str (key j) tk) (val j)) ->
   (∀ s',Moved (d::wr) G s s'->s'.heap.DictOf (Jax prog w) d (dkv key val n)->R (.ok (.ret .none)) s') ->
   codeAny (model prog w) A (.builtin "dict.update.loop" ⟨[.ref d, .ref I, .int (i:Int) 0, .none],[]⟩) R s:=by
 have N:d∉wr:=λh=>hdf (W.sub _ h);have O:∀ b∈wr,b∈d::wr:=λb h=>mem_cons_of_mem _ h;intro k;induction k with
 | zero=>
  intro i s X Y u r l q;have : i=n:=by ac_nf
  subst this;show codeAny_builtin Jf9 ?_;rw[Around.under_plainId Jdl _];show wpAny_bind (m:=pyNext (.ref I)) (W.done s _ _ u λs' f=>?_);show wpAny_bind (m:=Builtin.Dict.addKeywords d []) (wpAny_pure (wpAny_pure ?_));show q s' (f.mono O) ?_;let(o,F,D,E,rest):=r;show(o,F,D,f.heap d o N E,rest)
 | succ k ih=>
  intro i s X Y u r l q;have c:i<n:=by ac_nf
  show codeAny_builtin Jf9 ?_;rw[Around.under_plainId Jdl _];show wpAny_bind (m:=pyNext (.ref I)) (W.item i s _ _ c u λv s' Z C f=>?_);rw[hP i v Z];have y:s'.heap.DictOf (Jax prog w) d (dkv key val i):=by
   let(o,F,D,E,rest):=r;show(o,F,D,f.heap d o N E,rest)
  have a:∀ j,j<n->∃ tk,JdP s'.heap (adr j) (.str (key j) tk) (val j):=λj g=>by
   let(tk,e):=l j g;show(tk,e.at_ λo z=>f.heap _ o (nw j g) z)
  let(tk,ot,ct,M,B,H):=a i c;have dl:=JgJ key val i;show wpAny_bind (wpAny_holding ?_);show wpAny_bind (wpAny_tryCatch ?_);unfold Builtin.Dict.pairItems;show wpAny_bind (wpAny_typeOf (T:="tuple") ⟨_,M,B⟩ ?_);rw[if_pos ⋯];unfold seqItems?;show wpAny_bind (wpAny_bind (wpAny_load M ?_));rw[H];show wpAny_pure (wpAny_pure ?_);show wpAny _ _ (holding [Value.str (key i) tk,val i] (dictSet d (.str (key i) tk) (val i))) _ _ _;show wpAny_holding (wpAny_dictSet_pairs (knd:=Jax prog w) (k:=Sum.inr (key i)) Jlk y (λL U t=>?_) ∅);have p:L.DictOf (Jax prog w) d (dkv key val (i+1)):=by
   rw[Jfl];show U
  show wpAny_pure ⟨plainId_quiet Jdl _,ih (i+1) { s' with heap:=L,toks:=s'.toks+1 } ∅ c (W.frame _ s' _ _ C (Nat.le_succ _) λb K o e=>?_) p (λj g=>?_) λQ V J=>?_⟩
  .rw[t.2 b (λh:b=d=>hdf (h ▸ K))];show e
  .let(x,S):=a j g;show(x,S.at_ λo z=>(t.2 _ (nd j g)).trans z)
  .show q Q (Moved.trans W.gtrans ((f.mono O).then_heap (Nat.le_succ _) λb o K e=>?_) V) J;rw[t.2 b (λh:b=d=>K (by rw[h];show mem_cons_self))];show e
variable{l:Addr}
theorem Jec{items:Array Value}{c0:Nat}{Q:Value->Shared->Prop}(hh:A.handled=none)(hl:s.heap.get? l=some { cls:=.type "list",dict:=none,data:=.seq items c0,slots:=#[] })(adr:Nat->Addr)(key:Nat->Str)(val:Nat->Value)
  (hP:∀(i:Nat)(v:Value),items[i]?=some v->v=.ref (adr i)) (tup:∀ j,j<items.size->∃ tk,JdP s.heap (adr j) (.str (key j) tk) (val j)) (hz:items.size<=sizeLine)
  (q:∀ h' tk,(∀ b o,s.heap.get? b=some o->h'.get? b=some o)->h'.DictOf (Jax prog w) s.heap.objs.size (dkv key val items.size)->Q (.ref s.heap.objs.size) { s with heap:=h',toks:=tk }) :
  wpAny (model prog w) A (call (.type "dict") [.ref l]) Q E s:=by
 show callType_codes (Q₁:=λf D=>f=.ref s.heap.objs.size/\D={ s with heap:=s.heap.push { cls:=.type "dict",data:=.dict #[] } }) (PySem.F.kt_called_dict) (PySem.F.kt_typeCall_dict_1 _) (PySem.F.entry_dict_init) (kt_code_dict_new _ ⟨rfl,rfl⟩) ?_;rintro f D ⟨rfl,rfl⟩;have k:(s.heap.push { cls:=.type "dict",data:=.dict #[] }).DictOf (Jax prog w) s.heap.objs.size []:=Heap.DictOf.new s.heap;show(k.typeIs,PySem.F.args_dict_init_2 _ _,?_);generalize m:({ cls:=.type "dict",data:=.dict #[] }:Obj)=o0 at k ⊢;have t:(s.heap.push o0).get? l=some { cls:=.type "list",dict:=none,data:=.seq items c0,slots:=#[] }:=Heap.get?_push_of_some _ hl;have J:=Heap.lt_size hl;have V:(s.heap.push o0).objs.size=s.heap.objs.size+1:=Heap.size_push ..;unfold Builtin.«dict.__init__»;show wpAny_bind ?_;unfold Builtin.Dict.selfAndRest;show wpAny_bind (wpAny_notOrdered_dict k.typeIs (wpAny_pure ?_));show wpAny _ _ (Builtin.Dict.updateFrom "dict.__init__" s.heap.objs.size (.ref l) [] Value.none) _ _ _;unfold Builtin.Dict.updateFrom;show wpAny_bind (wpAny_typeOf (T:="list") ⟨_,t,rfl⟩ ?_);rw[if_pos ⋯];have U:A.in1.in1.handled=none:=by simp[hh]
 show wpAny_bind (Jlb U t λd R g=>?_);show wpAny_ite_split (λ_=>?_) (λz=>absurd rfl z);show wpAny_bind (wpAny_rule ?_);have x:=g _ _ t;have I:d.DictOf (Jax prog w) s.heap.objs.size []:=by
  let(o,H,G,m,rest):=k;show(o,H,G,g _ _ m,rest)
 have dlt:s.heap.objs.size<d.objs.size:=by
  let(o,H,G,m,rest):=I;show Heap.lt_size m
 have C:d.IsList l items:=⟨_,x,rfl,c0,rfl⟩;show wpAny_bind (wpAny_pyIter_list (s:=⟨d,s.gens,s.drawn,R,s.os⟩) C ?_);have y:∀ j,j<items.size->adr j<s.heap.objs.size:=λj a=>by
  let(tk,o,c,e,_):=tup j a;show Heap.lt_size e
 have u:l<d.objs.size:=Heap.lt_size x;have r:A.in1.in1.handled=none:=by simp[hh]
 show wpAny_pure ⟨plainId_quiet Jdl _,?_⟩;show Jiv ((Walks.list r d.objs.size l (Nat.ne_of_lt u) items).toS) s.heap.objs.size (by simp only[mem_cons,not_mem_nil,or_false,not_or];show(Nat.ne_of_lt dlt,Nat.ne_of_gt J)) adr key val hP (λj a=>Nat.ne_of_lt (y j a)) (λj a=>by simp only[mem_cons,not_mem_nil,or_false];show Nat.ne_of_lt (Nat.lt_trans (y j a) dlt)) hz items.size 0 _ ∅ (Nat.zero_le _) ⟨⟨_,Heap.get?_push_size _ rfl,rfl,rfl⟩,C.push _⟩ (I.push _) (λj a=>?_) λS h L=>?_
 .let(tk,e):=tup j a;show(tk,e.at_ λo z=>Heap.get?_push_of_some _ (g _ _ (Heap.get?_push_of_some _ z)))
 .let(h',N,M,p,n):=S;have P:N=s.gens:=h.gens;have K:M=s.drawn:=h.drawn;have O:n=s.os:=h.os;subst P;subst K;subst O;show(rfl,q h' p (λb o e=>?_) L);have B:=Heap.lt_size e;show h.heap b o ?_ (Heap.get?_push_of_some _ (g _ _ (Heap.get?_push_of_some _ e)));simp only[mem_cons,not_mem_nil,or_false,not_or];show(Nat.ne_of_lt B,Nat.ne_of_lt (Nat.lt_trans B dlt))
end
section
variable{X:Cx}{pins:List (Addr × Obj)}{σ:List (Option V)}{s':Shared}{s:Shared}
def JdS(ps:List (Str × V)):List (Key × V):=ps.foldl (λl p=>putK l (Sum.inr p.1) p.2) []
def Jmp(xs:List V)(H:Hp)(Q:VK):Prop:=∃(l:Addr)(as:List Addr)(ps:List (Str × V)),xs=[.ref l]/\H l=some (.lst (as.map V.ref))/\as.length=ps.length/\(∀(i:Nat)(a:Addr)(p:Str × V),as[i]?=some a->ps[i]?=some p->H a=some (.tup [.str p.1,p.2]))/\∀ d,H d=none->Q (.ref d) (upd H d (.dK (JdS ps)))
theorem JhL(hc:X.calm=true):CallR X (.type "dict") Jmp:=by
 intro M s σ H xs us Q I r h;let(l,b,d,rfl,e,hl,hp,q):=h;let(u,rfl,U):=vals1 r;cases U;let(T,C,n,W,G,el):=I.lstM e;have F:b.length<=sizeLine:=by simpa using T
 have li:C.length=b.length:=by simpa using G.symm
 have pr:∀ j,j<b.length->∃ u a p f,b[j]?=some a/\d[j]?=some p/\RelV p.2 u/\JdP s.heap a (.str p.1 f) u:=λj A=>by
  have y:=List.getElem?_eq_getElem A;have w:=List.getElem?_eq_getElem (l:=d) (i:=j) ∅;let(_,ts,D,o,ho,J,Z,S):=I.hok _ _ (hp j _ _ y w);cases D with
  | cons r1 D=>
   cases D with
   | cons r2 D=>
    cases D;let(f,rfl):=r1;show(_,_,_,f,y,w,r2,o,Z,ho,J,S)
 let(B,g):=Classical.skolem.mp (show∀ j:Nat, ∃ u:Value,j<b.length->∃ a p f,b[j]?=some a/\d[j]?=some p/\RelV p.2 u/\JdP s.heap a (.str p.1 f) u fromλj=>by
  by_cases c:j<b.length
  .let(u,h):=pr j c;show(u,λ_=>h)
  .show(.none,λz=>absurd z c))
 have t:∀ j a,b[j]?=some a->b.getD j 0=a:=λj a h=>by rw[List.getD_eq_getElem?_getD,h];rfl
 have m:∀ j (p:Str × V),d[j]?=some p->(d.getD j (⟨#[]⟩, .non)).1=p.1:=λj p h=>by rw[List.getD_eq_getElem?_getD,h];rfl
 have E:C.toArray.size=b.length:=by rw[size_toArray];show li
 show Jec (I.ok.hd hc) el (λj=>b.getD j 0) (λj=>(d.getD j (⟨#[]⟩, .non)).1) B (λj v L=>?_) (λj A=>?_) ∅ λh' f k O=>?_
 .rw[List.getElem?_toArray]at L;have A:j<b.length:=by have:=(List.getElem?_eq_some_iff.mp L).1;ac_nf
  let(u,N,ru):=W.get (i:=j) (x:=.ref b[j]) (by rw[List.getElem?_map,List.getElem?_eq_getElem A];rfl);rw[L]at N;cases N;rw[t j _ (List.getElem?_eq_getElem A)];show ru
 .let(a,p,f,y,w,P,R):=g j ∅;show(f,?_);rw[t j a y,m j p w];show R
 .have K:∀ i,i<=b.length->KV (JdS (d.take i)) (dkv (λj=>(d.getD j (⟨#[]⟩, .non)).1) B i):=λi=>by
   induction i with
   | zero=>intro _;show .nil
   | succ i ih=>
    intro hi;let(a,p,f,y,w,P,R):=g i ∅;rw[Jfl,take_succ,w];unfold JdS;rw[List.foldl_append];rw[m i p w];show(ih ∅).put _ P
  have r:=K b.length (Nat.le_refl _);rw[take_of_length_le ∅]at r;have Y:(JdS d).length<=sizeLine:=by
   rw[r.length];show Nat.le_trans (JgJ _ _ _) F
  rw[E]at O;show(.ref s.heap.objs.size,_,I.laid (a:=s.heap.objs.size) (o:=.dK (JdS d)) (t':=f) k (Nat.le_refl _) (Jhj Y (beq_eq_false_iff_ne.mpr (Ne.symm (Nat.ne_of_lt I.big))) r O),rfl,q _ (I.hok.fresh (Nat.le_refl _)))
end
def negF(a:Int × Int):Int × Int:=(-a.1,a.2)
def lessF(a c:Int × Int):Bool:=decide (a.1*c.2<c.1*a.2)
structure FB(A B:Nat)(a:Int × Int):Prop where
 s1:Mth.Sz A a.1
 s2:Mth.Sz B a.2
 b1:1<=a.2
 g1:Mth.g a.1 a.2=1
variable{A B:Nat}{a:Int × Int}
theorem FB.neg(h:FB A B a):FB A B (negF a):=⟨by
 have:=h.s1;unfold Mth.Sz at this ⊢;unfold negF;rw[Int.natAbs_neg];show this,h.s2,h.b1,by
 have:=h.g1;unfold Mth.g negF at *;simpa using this⟩
variable{C:Nat}
theorem FB.add{D m:Nat}{c:Int × Int}(h:FB A B a)(k:FB C D c)(h1:A+D<=n)(h2:C+B<=n)(h3:B+D<=m):FB (n+1) m (addF a c):=by
 have b:a.2*c.2≠0:=Int.mul_ne_zero (by have:=h.b1;ac_nf) (by have:=k.b1;ac_nf);have e:=(h.s1.mul k.s2).mono h1;have d:=(k.s1.mul h.s2).mono h2;show(Mth.Sz.top b (e.add d),(Mth.Sz.bot b (h.s2.mul k.s2)).mono h3,Mth.Jcs b,Mth.g_low b)
theorem FB.low{t:Int}(hb:1<=b)(h1:Mth.Sz A t)(h2:Mth.Sz B b):FB A B (Mth.top t b,Mth.bot t b):=by
 have a:b≠0:=by ac_nf
 show(Mth.Sz.top a h1,Mth.Sz.bot a h2,Mth.Jcs a,Mth.g_low a)
variable{X:Cx}{e:Expr}{ta:TE}{pos:Pos}
theorem Jlz{K:W.Frag}{f:Str}(hK:X.K=K)(he:PE X e ta)(hb:attributeBase e f X.env (eval e X.env)=eval e X.env):PE X (.Attribute e f pos) (tFld K ta f):=by
 subst hK;show Jas he hb
structure FW(A B:Nat)(a:Int × Int):Prop where
 s1:Mth.Sz A a.1
 s2:Mth.Sz B a.2
 b1:1<=a.2
theorem FB.w(h:FB A B a):FW A B a:=⟨h.s1,h.s2,h.b1⟩
theorem FW.mono{D:Nat}(h:FW A B a)(h1:A<=C)(h2:B<=D):FW C D a:=⟨h.s1.mono h1,h.s2.mono h2,h.b1⟩
section
variable{o:Expr}{es:List Expr}{to:TE}{name:Str}{apos cpos:Pos}{T id:String}{r:V->List V->Hp->VK->Prop}{K:W.Frag}{t:TA}
end
variable{kvs:List (Key × V)}{vs:List (Key × Value)}
theorem Jjv(r:KV kvs vs):Vals (kvs.map (·.2)) (vs.map (·.2)):=by
 unfold KV at r;induction r with
 | nil=>show .nil
 | cons h _ ih=>show .cons h.2 ih
section
variable{prog:Program}{A:Around}{E:Value->Shared->Prop}{w:World}{s:Shared}
end
section
variable{k':Nat}{x mn:Str}{C:Addr}{Cs:Addr->Prop}{ps:List Str}{sp:Sp}{p apos:Pos}{o:Expr}{es:List Expr}{k:Nat}{t:TA}
abbrev TX:=St->Hp->VK->XK->Prop
end
theorem JiV:OpR X (compareOp .NotIn) (rIn X.K true):=Jgn
section
variable{σ:St}{Q:VK}{E:XK}{ty:TE}{ts:TA}{tc:TT}{u:TX}{C:Addr}{sp:Sp}{Cs:Addr->Prop}{td:TE}{t:TX}{m:Str}
theorem y41y:tDIn ty td σ H Q=ty σ H λy H1=>td σ H1 λx H2=>∃ a o,x=.ref a/\DGet H2 a y o/\Q (.bl o.isSome) H2:=rfl
theorem y45y:Jjk ty td σ H Q=ty σ H λy H1=>td σ H1 λx H2=>∃ a o,x=.ref a/\DGet H2 a y o/\Q (.bl (!o.isSome)) H2:=rfl
end
section
variable{κ:Type}[DecidableEq κ]{f : α->κ}{k : κ}{u y : α}
end
section
variable{P : α->V->Prop}
end
section
variable{P P':TD->V->Prop}{ts:List TD}{t:TD}
end
theorem sub_len[DecidableEq α]:∀(l m:List α),l.Nodup->l ⊆ m->l.length<=m.length
 | [],m,_,_=>by simp
 | a::l,m,hn,hs=>by
  rw[nodup_cons]at hn;have ha:a∈m:=hs (by simp);have:=sub_len l (m.erase a) hn.2 λx hx=>(List.mem_erase_of_ne (show x≠a fromλe=>hn.1 (e ▸ hx))).mpr (hs (by simp[hx]));rw[List.length_erase_of_mem ha]at this;have:=List.length_pos_of_mem ha;rw[length_cons];ac_nf
section
variable{pins:List (Addr × Obj)}{σ:St}{a:Addr}{u r:Value}{y:V}{A:Around}{E:Value->Shared->Prop}{s:Shared}{k:Key}{v:Option V}{o:Option Value}
theorem Jj4{w:Value}(h:RelO v o)(e:o=some w):∃ x,v=some x/\RelV x w:=by
 subst e;cases v with
 | none=>show absurd h (by simp[RelO])
 | some x=>show(x,rfl,h)
theorem Jj3(h:RelO v o)(e:o=none):v=none:=by
 subst e;cases v with
 | none=>rfl
 | some x=>show absurd h (by simp[RelO])
theorem JjF{Q:Value->Shared->Prop}(I:Inv X pins σ H s)(e:H a=some (.dK kvs))(ry:RelV (kV k) u)(rd:RelV y r)(hl:kvs.length<sizeLine)
  (h1:∀ v w' s',valV kvs k=some v->Inv X pins σ H s'->RelV v w'->Q w' s') (h2:∀ s',valV kvs k=none->Inv X pins σ (upd H a (.dK (putK kvs k y))) s'->Q r s') :
  wpAny (model X.prog X.w) A (call (.builtin "dict.setdefault") [.ref a,u,r]) Q E s:=by
 let(z,d,n,b,f):=dk_of I.hok e;show call_meetsIn PySem.F.slot_dict_setdefault f.typeIs PySem.F.entry_dict_setdefault (PySem.F.args_dict_setdefault_3 _ _ _) (PySem.kt_meets_setdefault (Jax X.prog X.w) a (kV_is ry) d r) ⟨n,f,by rw[<- b.length];show z,λw g=>?_,λo h c m=>?_⟩
 .let(x,p,j):=Jj4 (b.val k) g;show h1 x w _ p (I.tok _) j
 .have t:=Jj3 (b.val k) o;show h2 _ t ?_;have l:∃ q,h.get? a=some q:=let⟨q,_,_,hq,_⟩:=c;⟨q,hq⟩;have i:(putK kvs k y).length<=sizeLine:=by have:=JbC kvs k y;ac_nf
  show Jfk I (by rw[e];show True.intro) m l (Jhj i d (b.put k rd) c)
end
def tDSet(td ty tx:TE):TE:=λσ H Q=>td σ H λx H1=>∃ a,x=.ref a/\IsD H1 a/\ty σ H1 λy H2=>tx σ H2 λz H3=>∃ kvs k,H3 a=some (.dK kvs)/\y=kV k/\kvs.length<sizeLine /\
 (∀ v,valV kvs k=some v->Q v H3)/\(valV kvs k=none->Q z (upd H3 a (.dK (putK kvs k z))))
section
variable{o:Expr}{apos cpos:Pos}{ty tx:TE}{f:Expr}{td:TE}
theorem JiY(ho:PE X o td)(he:PE X e ty)(hf:PE X f tx)(m:M2 X o "setdefault" apos e f cpos):PE X (.Call (.Attribute o "setdefault" apos) [e,f] [] cpos) (tDSet td ty tx):=by
 intro b s σ H Q I h;show wpAny_Call_method m.base m.few m.line PySem.F.plainAttrs_dict PySem.F.slot_dict_setdefault PySem.F.type_dict_setdefault (thn (ho b s σ H _ I h) λu E ζ=>?_);let(x,p,I1,l,a,J,d,D):=ζ;subst J;obtain rfl:u=Value.ref a:=l;let(M,L,_):=Jgb I1 d;show(M,L,?_);rw[m.trees];show Calls.callWith_builtin rfl (Calls.evalArgs_plain (Calls.spliced_cons (thn (he b E σ p _ I1 D) λR n ζ=>?_)));let(y,C,I2,t,w):=ζ;show Calls.spliced_cons (thn (hf b n σ C _ I2 w) λO P ζ=>?_);let(z,j,I3,i,A,k,G,B,q,r,K):=ζ;show Calls.spliced_nil ?_
 subst B;show JjF I3 G t i q (λv S N g I4 c=>⟨v,j,I4,c,r v g⟩) λN g I4=>⟨z,_,I4,i,K g⟩
end
def Ji5:V->List V->Hp->VK->Prop:=λx vs H Q=>∃ l xs y n,x=.ref l/\vs=[.int ((n:Nat):Int),y]/\H l=some (.lst xs)/\n<=xs.length/\xs.length<sizeLine/\Q .non (upd H l (.lst (xs.take n++y::xs.drop n)))
theorem JiL:MtM X "list.insert" Ji5:=by
 intro f s σ H x J v D Q I m b h;let(l,K,y,i,rfl,rfl,c,L,E,q):=h;cases m;cases b with
 | cons r1 b=>
  let(t,rfl):=r1;let(u,rfl,B):=vals1 b;let(z,a,n,r,G,e):=I.lstM c;have g:=sizeLine_eq;have o:=fitsIndex_both (k:=(i:Int)) ∅ ∅;have d:¬(!Builtin.List.listFitsIndex (i:Int))=true:=by rw[o];decide
  have p:a.toArray.size<=sizeLine:=by rw[size_toArray];ac_nf
  clear g;generalize hj:(i:Int)=j at d ⊢;have A:=@AutoSeq1.list_insert_list_int_val_1 l a.toArray n j t u d p;show call_meets F.slot_list_insert ⟨_,e,rfl⟩ F.entry_list_insert (F.args_list_insert_3 _ _ _) A ⟨e,?_⟩;show(.non,_,I.lset (its':=a.take i++u::a.drop i) c e ?_ ?_ ?_,rfl,q)
  .subst hj;have C:min i a.length=i:=by ac_nf
   have w:(if(i:Int)<0 then((i:Int)+(a.toArray.size:Int)).toNat else min (i:Int).toNat a.toArray.size)=i:=by
    rw[if_neg ∅,Int.toNat_natCast,size_toArray,C]
   show(a.toArray.extract 0 (if(i:Int)<0 then((i:Int)+(a.toArray.size:Int)).toNat else min (i:Int).toNat a.toArray.size)).push u++a.toArray.extract (if(i:Int)<0 then((i:Int)+(a.toArray.size:Int)).toNat else min (i:Int).toNat a.toArray.size)=_;rw[w];apply Array.ext';simp;show take_of_length_le (by rw[List.length_drop];show Nat.le_refl _)
  .show(r.take i).append (.cons B (r.drop i))
  .rw[length_append,length_cons,length_take,List.length_drop];ac_nf
section
variable{σ:St}{Q:VK}{ty tx:TE}{td:TE}
theorem y49y:tDSet td ty tx σ H Q=td σ H λx H1=>∃ a,x=.ref a/\IsD H1 a/\ty σ H1 λy H2=>tx σ H2 λz H3=>∃ kvs k,H3 a=some (.dK kvs)/\y=kV k/\kvs.length<sizeLine/\(∀ v,valV kvs k=some v->Q v H3)/\(valV kvs k=none->Q z (upd H3 a (.dK (putK kvs k z)))):=rfl
theorem y40y:JkF td ty tx σ H Q=td σ H λx H1=>∃ a,x=.ref a/\IsD H1 a/\ty σ H1 λy H2=>tx σ H2 λz H3=>∃ o,DGet H3 a y o/\Q (o.getD z) H3:=rfl
theorem y42y{trs:List (TE × TE)}:tDisp trs σ H Q=∀ p,H p=none->Jgx trs σ (upd H p (.dK [])) λps H2=>H2 p=some (.dK [])/\∃ kvs:List (Key × V),ps=kvs.map (λkv=>(kV kv.1,kv.2))/\kvs.length<=15/\Q (.ref p) (upd H2 p (.dK (Jfd [] kvs))):=rfl
theorem y7dy{tk tv:TE}{R:List (V × V)->Hp->Prop}:Jgx [(tk,tv)] σ H R=tk σ H λx H1=>tv σ H1 λy H2=>R [(x,y)] H2:=rfl
theorem y2dy{K:W.Frag}{T:String}{r:V->List V->Hp->VK->Prop}{to:TE}:tBM0 K T r to σ H Q=to σ H λx H1=>tyV K T x H1/\r x [] H1 Q:=rfl
end
def BG(f : α->Str)(P : α->V->Prop)(as:List α)(kvs:List (Key × V)):Prop:=kvs.map (·.1)=as.map (λa=>Sum.inr (f a))/\All2 P as (kvs.map (·.2))
section
variable{f : α->Str}{P P' : α->V->Prop}{as:List α}{a : α}
theorem BG.mono(h:BG f P as kvs)(m:∀ a x,P a x->P' a x):BG f P' as kvs:=⟨h.1,h.2.mono m⟩
theorem BG.length(h:BG f P as kvs):kvs.length=as.length:=by simpa using congrArg List.length h.1
theorem BG.cons:BG f P (a::as) kvs↔∃ w r,kvs=(Sum.inr (f a),w)::r/\P a w/\BG f P as r:=by
 constructor
 .rintro⟨b,c⟩;match kvs,b,c with
  | (k,w)::r,b,c=>
   rw[map_cons,map_cons,List.cons.injEq]at b;let(y,g,e,p,c):=c;rw[map_cons,List.cons.injEq]at e;let(rfl,rfl):=e;let(d,b):=b;have d:k=Sum.inr (f a):=d;subst d;show(_,r,rfl,p,b,c)
 .rintro⟨w,r,rfl,p,h⟩;show(by rw[map_cons,map_cons,h.1],w,r.map (·.2),rfl,p,h.2)
theorem BG.nil:BG f P [] kvs↔kvs=[]:=by
 constructor
 .rintro⟨h,_⟩;simpa using h
 .rintro rfl;show(rfl,rfl)
theorem BG.any:∀{as:List α}{kvs:List (Key × V)}{z:Str},BG f P as kvs->(kvs.any λkv=>decide (kv.1=Sum.inr z))=decide (z∈as.map f)
 | [],kvs,z,h=>by rw[BG.nil.mp h];simp
 | a::as,kvs,z,h=>by
  let(w,r,rfl,_,h):=BG.cons.mp h;rw[any_cons,BG.any h];by_cases c:f a=z
  .subst c;simp
  .have c1:(Sum.inr (f a):Key)≠Sum.inr z:=λe=>c (by injection e);have c2:z≠f a:=λe=>c e.symm;simp[c1,c2]
theorem BG.get:∀{as:List α}{kvs:List (Key × V)}{z:Str},BG f P as kvs->(∃ a v,a∈as/\f a=z/\valV kvs (Sum.inr z)=some v/\P a v)\/(z∉as.map f/\valV kvs (Sum.inr z)=none)
 | [],kvs,z,h=>by
  rw[BG.nil.mp h];show .inr ⟨by simp,rfl⟩
 | a::as,kvs,z,h=>by
  let(w,r,rfl,p,h):=BG.cons.mp h;by_cases c:f a=z
  .subst c;show .inl ⟨a,w,by simp,rfl,Jbi rfl,p⟩
  .have c1:(Sum.inr (f a):Key)≠Sum.inr z:=λe=>c (by injection e);have c2:z≠f a:=λe=>c e.symm;have e:valV ((Sum.inr (f a),w)::r) (Sum.inr z)=valV r (Sum.inr z):=by simp[valV,List.find?_cons,c1]
   rw[e];rcases BG.get h (z:=z)with⟨b,v,h1,h2,h3,h4⟩ | ⟨h1,h2⟩
   .show .inl ⟨b,v,by simp[h1],h2,h3,h4⟩
   .show .inr ⟨by simp[c2];simpa using h1,h2⟩
theorem BG.some(h:BG f P as kvs)(hz:z∈as.map f):∃ a v,a∈as/\f a=z/\valV kvs (Sum.inr z)=some v/\P a v:=by
 rcases h.get (z:=z)with h | ⟨h,_⟩
 .show h
 .show absurd hz h
theorem BG.none(h:BG f P as kvs)(hz:z∉as.map f):valV kvs (Sum.inr z)=none:=by
 rcases h.get (z:=z)with⟨a,v,h1,h2,_⟩ | ⟨_,h⟩
 .show absurd (h2 ▸ List.mem_map_of_mem (f:=f) h1) hz
 .show h
theorem BG.val(h:BG f P as kvs):(valV kvs (Sum.inr z)).isSome=decide (z∈as.map f):=by
 by_cases c:z∈as.map f
 .let(a,v,_,_,e,_):=h.some c;rw[e,decide_eq_true c];rfl
 .rw[h.none c,decide_eq_false c];rfl
theorem BG.new(h:BG f P as kvs)(hn:f a∉as.map f)(p:P a v):BG f P (as++[a]) (putK kvs (Sum.inr (f a)) v):=by
 have e:putK kvs (Sum.inr (f a)) v=kvs++[(Sum.inr (f a),v)]:=by
  unfold putK;rw[h.any,if_neg (by simpa using hn)]
 rw[e];show(by rw[map_append,map_append,h.1];rfl,by rw[map_append];show h.2.append (.one p))
end
structure PD where
 nm:Str
 st:Str
 en:Str
 sz:Int × Int
 mo:Int × Int
 wt:Int
def JdQ(p:PD)(f:Str):List (Str × Pr):=if p.st=f then[(p.en,(p.nm,true))]else if p.en=f then[(p.st,(p.nm,false))]else[]
def JaC(ls:List PD)(f:Str):List (Str × Pr):=ls.flatMap λp=>JdQ p f
theorem Jem(ls:List PD)(p:PD)(f:Str):JaC (ls++[p]) f=JaC ls f++JdQ p f:=by simp[JaC]
variable{ls:List PD}{pr:Pr}
theorem Ja9{f g:Str}:(g,pr)∈JaC ls f↔∃ p∈ls,(p.st=f/\p.en=g/\pr=(p.nm,true))\/(p.st≠f/\p.en=f/\p.st=g/\pr=(p.nm,false)):=by
 unfold JaC;rw[mem_flatMap];show exists_congr λp=>and_congr_right λ_=>?_;unfold JdQ;by_cases a:p.st=f
 .rw[if_pos a,mem_singleton,Prod.mk.injEq];show(λh=>.inl ⟨a,h.1.symm,h.2⟩,λh=>h.elim (λh=>⟨h.2.1.symm,h.2.2⟩) λh=>absurd a h.1)
 .rw[if_neg a];by_cases b:p.en=f
  .rw[if_pos b,mem_singleton,Prod.mk.injEq];show(λh=>.inr ⟨a,b,h.1.symm,h.2⟩,λh=>h.elim (λh=>absurd h.1 a) λh=>⟨h.2.2.1.symm,h.2.2.2⟩)
  .rw[if_neg b];show(λh=>by simp at h,λh=>h.elim (λh=>absurd h.1 a) λh=>absurd h.2.1 b)
theorem JiN:∀{ls:List PD}{p q:PD},(ls.map (·.nm)).Nodup->p∈ls->q∈ls->p.nm=q.nm->p=q
 | [],_,_,_,hp,_,_=>by cases hp
 | a::ls,p,q,hn,hp,hq,e=>by
  rw[map_cons,nodup_cons]at hn;rcases mem_cons.mp hp with h1 | h1 <;> rcases mem_cons.mp hq with h2 | h2
  .rw[h1,h2]
  .subst h1;show absurd (e ▸ mem_map.mpr ⟨q,h2,rfl⟩) hn.1
  .subst h2;show absurd (e ▸ mem_map.mpr ⟨p,h1,rfl⟩) hn.1
  .show JiN hn.2 h1 h2 e
inductive JaP(ls:List PD)(a:Str):List Pr->Str->Prop
 | nil:JaP ls a [] a
 | snoc {w:List Pr} {f g:Str} {pr:Pr}:JaP ls a w f->(g,pr)∈JaC ls f->JaP ls a (w++[pr]) g
def Conn(ls:List PD)(a b:Str):Prop:=∃ w,JaP ls a w b
variable{a b:Str}{S:List Str}
theorem Jk0(ha:a∈S)(hc:∀ f∈S, ∀ e∈JaC ls f,e.1∈S)(h:Conn ls a b):b∈S:=by
 let(w,h):=h;induction h with
 | nil=>show ha
 | snoc _ hm ih=>show hc _ ih _ hm
def fcsOf(ls:List PD):List Str:=ls.flatMap λp=>[p.st,p.en]
theorem Jhp{f:Str}{e:Str × Pr}(h:e∈JaC ls f):e.1∈fcsOf ls:=by
 let(p,b,a):=mem_flatMap.mp h;show mem_flatMap.mpr ⟨p,b,?_⟩;unfold JdQ at a;split at a
 .rw[mem_singleton.mp a];simp
 .split at a
  .rw[mem_singleton.mp a];simp
  .simp at a
theorem JhJ{w:List Pr}(h:JaP ls a w b):b∈a::fcsOf ls:=by
 cases h with
 | nil=>simp
 | snoc _ hm=>show mem_cons_of_mem _ (Jhp hm)
theorem Jk6(ls:List PD):(fcsOf ls).length=2*ls.length:=by
 unfold fcsOf;induction ls with
 | nil=>rfl
 | cons p ls ih=>
  rw[List.flatMap_cons,length_append,ih];simp;ac_nf
section
variable{pins:List (Addr × Obj)}{σ:List (Option V)}{s':Shared}{d:Addr}{kvs':List (Key × V)}{od:Obj}{s:Shared}
theorem Inv.freeze(I:Inv X pins σ H s)(e:H d=some (.dK kvs))(ho:s.heap.get? d=some od):Inv X pins σ (upd H d (.frz od (.dK kvs))) s:=by
 show I.un (h':=s.heap) (t':=s.toks) ⟨λb o q _ _ _=>q,λb o q _ _ _=>⟨o.slots,q⟩,λb o q n _=>?_,λb o q _=>⟨o,q⟩,λb h q=>?_,λb o u q=>?_,λb j q=>⟨#[],?_⟩⟩ λa o q=>?_
 .rw[Jah (λz=>by rw[z,e]at n;cases n)];show n
 .rw[Jah (λz=>by rw[z,e]at q;cases q)];show q
 .rw[Jah (λz=>by rw[z,e]at q;cases q)];show q
 .rw[Jah (λz=>by rw[z,e]at q;cases q),Array.append_empty];show q
 .have f:∀ i b,H b=some (.own i)->upd H d (.frz od (.dK kvs)) b=some (.own i):=λi b q=>by
   rw[Jah (λz=>by rw[z,e]at q;cases q)];show q
  have g:∀ b h,H b=some (.tup h)->upd H d (.frz od (.dK kvs)) b=some (.tup h):=λb h q=>by
   rw[Jah (λz=>by rw[z,e]at q;cases q)];show q
  by_cases c:a=d
  .subst c;rw[Jam]at q;cases q;show(ho,(I.hok a _ e).stay (λ_ _ _ z=>z) (f a) g)
  .rw[Jah c]at q;show(I.hok a o q).stay (λ_ _ _ z=>z) (f a) g
theorem Inv.thaw{σ':St}(I:Inv X pins σ H s)(e:H d=some (.dK kvs))(I':Inv X pins σ' H' s')(e':H' d=some (.frz od (.dK kvs'))):Inv X pins σ' (upd H' d (.dK kvs')) s':=by
 have m:∀{b:Addr}{o:HO},H' b=some o->(∀ u v,o≠.frz u v)->b≠d:=λq h z=>by rw[z,e']at q;cases q;show h _ _ rfl
 show(I'.ok,I'.os,I'.bare,⟨I'.base.keep,I'.base.slot,λb o q n A=>?_,I'.base.there,λb l q=>?_,λb o u q=>?_,λb t q=>?_⟩,I'.loc,I'.cell,?_,λx c z=>?_,λp y=>?_,λa o q=>?_,I'.len)
 .have:=I'.base.free b o q n A;rw[Jah (λz=>by rw[z,e']at this;cases this)];show this
 .have:=I'.base.tups b l q;rw[Jah (m this (by intro u v z;cases z))];show this
 .have f:=I'.base.frzs b o u q;have g:=I.base.frzs b o u q;rw[Jah (λz=>by rw[z,e]at g;cases g)];show f
 .let(k,f):=I'.base.tbls b t q;show(k,by rw[Jah (m f (by intro u v z;cases z))];show f)
 .have:=I'.free;rw[Jah (λz=>by rw[z,e']at this;cases this)];show this
 .have:=I'.freeC x c z;rw[Jah (λz=>by rw[z,e']at this;cases this)];show this
 .let(f,g,B):=I'.pin p y;show(f,by rw[Jah (λz=>by rw[z,e']at g;cases g)];show g,B)
 .have j:∀ r b,H' b=some (.own r)->upd H' d (.dK kvs') b=some (.own r):=λr b q=>by
   rw[Jah (m q (by intro u v z;cases z))];show q
  have i:∀ b l,H' b=some (.tup l)->upd H' d (.dK kvs') b=some (.tup l):=λb l q=>by
   rw[Jah (m q (by intro u v z;cases z))];show q
  by_cases c:a=d
  .subst c;rw[Jam]at q;cases q;have f:ObjOk X.prog X.w H' s'.heap a (.dK kvs'):=(I'.hok a _ e').2;show f.stay (λ_ _ _ z=>z) (j a) i
  .rw[Jah c]at q;show(I'.hok a o q).stay (λ_ _ _ z=>z) (j a) i
end
def Itv(d:Addr)(od:Obj)(kvs:List (Key × V)):It :=
 ⟨λi H=>H d=some (.frz od (.dK kvs))/\i<kvs.length,λi H x H'=>H'=H/\(kvs.map (·.2))[i]?=some x,λi H=>H d=some (.frz od (.dK kvs))/\kvs.length<=i⟩
variable{P:Program}{tg:Expr}{d it:Addr}{od:Obj}{ep:Nat}
theorem Jjt{w:World}{K:W.Frag}(rel:KV kvs vs)(hd:∀ h:Heap,h.get? d=some od->h.DictAt (Jax P w) d vs ep) :
  Turn P w K tg (Itv d od kvs) [it] it (λi h=>h.IsValIter it d i vs.length ep) where
 mem:=by simp
 obj:=λi h a b l=>by
  obtain rfl:b=it:=by simpa using l
  let(o,e,c,z):=a;show(o,e,λv q=>by rw[z]at q;cases q)
 keep:=λi h n a k=>a.at λo e=>k it (by simp) o e
 item:=by
  intro X F A G J i f s σ H E I p a t;subst F A G;let(j,N):=t;let(C,B,R,r,y,D):=p it (by simp);have g:=(I.hok d _ j).1;have T:=rel.length;have S:=Jjv rel;obtain⟨x,M⟩:∃ x,(kvs.map (·.2))[i]?=some x:=⟨_,List.getElem?_eq_getElem (by rw[length_map];show N)⟩;let(u,L,U):=S.get M;rw[List.getElem?_map]at L;let((k,Z),Y,rfl):=Option.map_eq_some_iff.mp L;show wpAny_pyNext_values_item a (hd _ g) Y λn m Q=>?_;have I1:Inv X f σ H { s with heap:=n }:=I.turned (t':=s.toks) (λb o l e=>(Q.2 b l).trans e) C B r y D;let(o,e,c,z):=id m;show(_,rfl,go_of (s:={ s with heap:=n }) e c z ⋯ ⟨x,H,I1,U,⟨rfl,M⟩,m,λb l=>(p b l).1⟩)
 done:=by
  intro X F A G J i f s σ H E I p a t;subst F A G;let(j,N):=t;let(C,B,R,r,y,D):=p it (by simp);have g:=(I.hok d _ j).1;have T:=rel.length;show wpAny_pyNext_values_end (I.ok.hd J) a (hd _ g) (List.getElem?_eq_none ∅) λn O=>⟨rfl,I.turned (t':=s.toks) (λb o l e=>O b o l e) C B r y D⟩
 self:=λ_ _ _ _ _ a h=>wpAny_pyIter_valiter a h
def iVals(td:TE):TI:=λσ H R=>td σ H λx H1=>∃ d kvs,x=.ref d/\H1 d=some (.dK kvs)/\∀ od,R (Itv d od kvs) (upd H1 d (.frz od (.dK kvs)))
variable{apos cpos:Pos}
theorem Ji0{o:Expr}{td:TE}(ho:PE X o td)(hb:autoParam (attributeBase o "values" X.env (eval o X.env)=eval o X.env) Au)(hn:autoParam ((apos.endLine == cpos.line)=true) Au) :
  PI X tg (.Call (.Attribute o "values" apos) [] [] cpos) (iVals td):=by
 intro f s σ H R I h;show wpAny_Call_method0_late hb hn (thn (ho f s σ H _ I h) λv a ζ=>?_);let(y,D,I1,u,d,kvs,x,e,t):=ζ;subst x;obtain rfl:v=Value.ref d:=u;let(m,A,p):=Jgb I1 (.inl ⟨kvs, .inl e⟩);let(C,_,vs,i,j):=dk_of I1.hok e;show("dict","dict.values",PySem.F.plainAttrs_dict,PySem.F.slot_dict_values,PySem.F.type_dict_values,m,A,Calls.callWith_builtin rfl (PySem.evalArgs_none ?_));show call_meetsIn PySem.F.slot_dict_values m PySem.F.entry_dict_values (PySem.F.args_dict_values_1 _) (meets_dict_values (Jax X.prog X.w) d p) ⟨⟨vs,j⟩,?_⟩;let(ep,k):=j.dictAt;let(n,B,c,rest):=id k;show wpAny_pyIter_values (knd:=Jax X.prog X.w) (v:=a.heap.objs.size) (d:=d) (kvs:=vs) (ep:=ep) ⟨_,Heap.get?_push_size _ rfl,rfl,rfl⟩ (k.push _) ?_;have r:∀ b o,a.heap.get? b=some o->((a.heap.push { cls:=.type "dict_values",data:=.fields #[.ref d] }).push { cls:=.type "dict_valueiterator",data:=.fields #[.ref d, .int 0 0, .int vs.length 0, .int ep 0] }).get? b=some o:=λb o z=>Heap.get?_push_of_some _ (Heap.get?_push_of_some _ z);have I2:=(I1.freeze e c).kept (t':=a.toks) r;have l:a.heap.objs.size<=(a.heap.push { cls:=.type "dict_values",data:=.fields #[.ref d] }).objs.size:=by
  rw[Heap.size_push];show Nat.le_succ _
 show(_,[_],_,_,_,rfl,I2,Jjt (vs:=vs) (ep:=ep) i (λh q=>⟨n,B,q,rest⟩),⟨_,Heap.get?_push_size _ rfl,rfl,rfl⟩,λb g=>?_,t n);obtain rfl:=mem_singleton.mp g;show I1.fpOk l ((I1.freeze e c).hok.fresh l)
def tThaw(t:TE):TE:=λσ H Q=>∃ d kvs,H d=some (.dK kvs)/\t σ H λv H'=>∃ od kvs',H' d=some (.frz od (.dK kvs'))/\Q v (upd H' d (.dK kvs'))
theorem Jg1{t:TE}(h:PE X e t):PE X e (tThaw t):=by
 intro a s σ H Q I ⟨d,i,f,q⟩;show thn (h a s σ H _ I q) λv m ζ=>by let(x,l,I1,j,k,b,c,g):=ζ;show(x,_,I.thaw f I1 c,j,g)
section
variable{cs:List (Nat × Str)}{te tl:TE}{σ:St}{Q:VK}{k:Nat}{g:TG}{td:TE}
theorem y3by:tThaw (tComp k cs (iVals td) g te) σ H Q=∃ d kvs,H d=some (.dK kvs)/\td σ H λx H1=>∃ d1 kvs1,x=.ref d1/\H1 d1=some (.dK kvs1)/\∀ od,CompJ (Itv d1 od kvs1) k cs g te σ (λv H'=>∃ od kvs',H' d=some (.frz od (.dK kvs'))/\Q v (upd H' d (.dK kvs'))) (upd H1 d1 (.frz od (.dK kvs1))):=rfl
theorem CompJ.vals(Pv:Nat->List V->Hp->Prop)(h0:Pv 0 [] H1)(hl:∀ i ys H',i<=kvs.length->Pv i ys H'->H' d=some (.frz od (.dK kvs))/\ys.length<=sizeLine)
  (hs:∀ i x ys H2,(kvs.map (·.2))[i]?=some x->Pv i ys H2->g x (List.replicate k none++Jaz cs σ) H2 λσ4 H4=>te σ4 H4 λy H5=>Pv (i+1) (ys++[y]) H5) (hd:∀ ys H2,Pv kvs.length ys H2->∀ p,H2 p=none->Q (.ref p) (upd H2 p (.lst ys))) :
  CompJ (Itv d od kvs) k cs g te σ Q H1:=by
 show(λi m ys H'=>Pv i ys H'/\i<=kvs.length/\m=kvs.length-i,⟨_,h0,Nat.zero_le _,rfl⟩,?_);rintro i m ys H2 ⟨a,l,rfl⟩;let(b,n):=hl i ys H2 l a;show(n,?_);by_cases c:i<kvs.length
 .show .inr ⟨⟨b,c⟩,?_⟩;rintro x f ⟨rfl,h⟩;have e:(λ(σ4:St)(H4:Hp)=>te σ4 H4 λy H5=>Pv (i+1) (ys++[y]) H5)=λσ4 H4=>te σ4 H4 λy H5=>∃ m',m'<kvs.length-i/\Pv (i+1) (ys++[y]) H5/\i+1<=kvs.length/\m'=kvs.length-(i+1):=by
   funext σ4 H4
   congr 1
   funext y H5
   show propext ⟨λq=>⟨_,Nat.sub_lt_sub_left c (Nat.lt_succ_self i),q,c,rfl⟩,λζ=>by let(_,_,q,_):=ζ;show q⟩
  rw[<- e];show hs i x ys f h a
 .have j:i=kvs.length:=by ac_nf
  subst j;show .inl ⟨⟨b,Nat.le_refl _⟩,hd ys H2 a⟩
end
section
variable{k':Nat}{x:Str}{C:Addr}{ps:List Str}{sp:Sp}{E:XK}{p:Pos}{k:Nat}
theorem KCal.ev0(G:KCal X.prog X.w X.K X.mg X.base k x C ps sp)(hr:Room k' X.A)(hk:k+1<=k')(hg:Gl X x)(hx:JcH (CX1 X.prog X.w) X E)(hdb:autoParam ((x == ("__debug__" : Str))=false) Au) :
  PE X (.Call (.Name x p) [] [] pos) (tMake C sp [] E tNil):=by
 let(f,c,F,a,M,b):=G.ex;show JjX M F (hr.mono hk) hg a b .nil hx hdb
end
def wtB:D->Bool
 | .int i=>decide (1<=i)
 | _=>false
def partB:D->Bool
 | .tup [n,s,e,z,m,w]=>nameB n&&Jkm s e&&(fracB z&&fracB m&&JmE w)&&(!lessD m (.tup [.int 0, .int 1])&&wtB w)
 | _=>false
def gapB:D->Bool
 | .tup [n,s,e,l,g]=>tieB (.tup [n,s,e,l,g])&&!nonD l&&!nonD g
 | _=>false
structure POk(p:PD):Prop where
 n1:nameS p.nm=true
 n2:nameS p.st=true
 n3:nameS p.en=true
 ne:p.st≠p.en
 z:FOk 200 p.sz
 m:FOk 200 p.mo
 m0:0<=p.mo.1
 w:1<=p.wt
 ws:Mth.Sz 200 p.wt
structure GD where
 nm:Str
 st:Str
 en:Str
 lo:Int × Int
 hi:Int × Int
def GD.td(g:GD):TD:=⟨g.nm,g.st,g.en,some g.lo,some g.hi⟩
def PDV(K:W.Frag)(H:Hp)(p:PD)(x:V):Prop:=∃ b vz vm,x=.ref b/\SqT K H b [.str p.nm, .str p.st, .str p.en,vz,vm, .int p.wt]/\FrV K H vz p.sz.1 p.sz.2/\FrV K H vm p.mo.1 p.mo.2
section
variable{K:W.Frag}{p:PD}{x:V}
theorem PDV.sameT(S:SameT H H'):PDV K H p x->PDV K H' p x:=by rintro⟨b,c,a,e,q,f,d⟩;show(b,c,a,e,q.sameT S,f.sameT S,d.sameT S)
end
def LeV(H:Hp)(e:Str × Pr)(x:V):Prop:=∃ b c,x=.ref b/\H b=some (.tup [.str e.1, .ref c])/\H c=some (.tup [.str e.2.1, .bl e.2.2])
variable{e:Str × Pr}
theorem LeV.sameT{x:V}(S:SameT H H'):LeV H e x->LeV H' e x:=by rintro⟨b,c,f,d,a⟩;show(b,c,f,S _ _ rfl d,S _ _ rfl a)
structure JD(H0 H:Hp)(L:Str->List (Str × Pr))(kvs:List (Key × V)):Prop where
 at_:∀(f:Str),(valV kvs (Sum.inr f)=none/\L f=[])\/∃ l xs,valV kvs (Sum.inr f)=some (.ref l)/\H0 l=none/\H l=some (.lst xs)/\All2 (LeV H) (L f) xs
 inj:∀(f g:Str)(l:Addr),valV kvs (Sum.inr f)=some (.ref l)->valV kvs (Sum.inr g)=some (.ref l)->f=g
variable{H0:Hp}{L:Str->List (Str × Pr)}
theorem JD.same(S:Same H H')(h:JD H0 H L kvs):JD H0 H' L kvs where
 at_:=λf=>by
  rcases h.at_ f with h | ⟨l,xs,h1,h2,h3,h4⟩
  .show .inl h
  .show .inr ⟨l,xs,h1,h2,S _ _ h3,h4.mono λ_ _ z=>z.sameT S.t⟩
 inj:=h.inj
theorem JD.sx{kv2:List (Key × V)}(S:∀ b u,b≠d->H b=some u->H' b=some u)(hd:H d=some (.dK kv2))(h:JD H0 H L kvs):JD H0 H' L kvs where
 at_:=λf=>by
  have T:SameT H H':=λb u t q=>S b u (λz=>by rw[z,hd]at q;cases q;simp[isTF]at t) q;rcases h.at_ f with h | ⟨l,xs,h1,h2,h3,h4⟩
  .show .inl h
  .show .inr ⟨l,xs,h1,h2,S _ _ (λz=>by rw[z,hd]at h3;cases h3) h3,h4.mono λ_ _ z=>z.sameT T⟩
 inj:=h.inj
variable{o:HO}
theorem JD.sy{x:Addr}(S:∀ b u,b≠x->H b=some u->H' b=some u)(hx:H x=some o)(hn:∀ xs,o≠.lst xs)(ht:isTF o=false)(h:JD H0 H L kvs):JD H0 H' L kvs where
 at_:=λf=>by
  have T:SameT H H':=λb u t q=>S b u (λz=>by rw[z,hx]at q;cases q;rw[ht]at t;cases t) q;rcases h.at_ f with h | ⟨l,xs,h1,h2,h3,h4⟩
  .show .inl h
  .show .inr ⟨l,xs,h1,h2,S _ _ (λz=>by rw[z,hx]at h3;show hn _ (Option.some.inj h3)) h3,h4.mono λ_ _ z=>z.sameT T⟩
 inj:=h.inj
theorem JD.nil:JD H0 H (λ_=>[]) []:=⟨λf=>.inl ⟨rfl,rfl⟩,λf g l h=>by simp[valV]at h⟩
def addL(L:Str->List (Str × Pr))(f:Str)(e:Str × Pr):Str->List (Str × Pr):=λg=>if g=f then L g++[e]else L g
variable{l b:Addr}
theorem JD.more{f:Str}(h:JD H0 H L kvs)(hv:valV kvs (Sum.inr f)=some (.ref l))(hl:H l=some (.lst xs))(hb:LeV H e (.ref b))(e':upd H l (.lst (xs++[.ref b]))=H'):JD H0 H' (addL L f e) kvs where
 at_:=λg=>by
  have T:SameT H H':=SameT.put e' hl rfl;have a:H' l=some (.lst (xs++[.ref b])):=by rw[<- e',Jam]
  by_cases c:g=f
  .subst c;rcases h.at_ g with⟨h1,_⟩ | ⟨l2,xs2,h1,h2,h3,h4⟩
   .rw[hv]at h1;cases h1
   .rw[hv]at h1;cases h1;rw[hl]at h3;cases h3;show .inr ⟨l,_,hv,h2,a,?_⟩;unfold addL;rw[if_pos rfl];show(h4.mono λ_ _ z=>z.sameT T).append (.one (hb.sameT T))
  .unfold addL;rw[if_neg c];rcases h.at_ g with h1 | ⟨l2,xs2,h1,h2,h3,h4⟩
   .show .inl h1
   .have d:l2≠l:=λz=>c (h.inj g f l (by rw[h1,z]) hv);show .inr ⟨l2,xs2,h1,h2,by rw[<- e',Jah d];show h3,h4.mono λ_ _ z=>z.sameT T⟩
 inj:=h.inj
theorem JD.first{f:Str}(h:JD H0 H L kvs)(hv:valV kvs (Sum.inr f)=none)(h0:H0 l=none)(hn:∀ g l',valV kvs (Sum.inr g)=some (.ref l')->l'≠l)(hl:H l=some (.lst []))(hb:LeV H e (.ref b))(e':upd H l (.lst [.ref b])=H'):JD H0 H' (addL L f e) (putK kvs (Sum.inr f) (.ref l)) where
 at_:=λg=>by
  have T:SameT H H':=SameT.put e' hl rfl;have m:H' l=some (.lst [.ref b]):=by rw[<- e',Jam]
  rw[JhG];by_cases c:g=f
  .subst c;rw[if_pos rfl];show .inr ⟨l,_,rfl,h0,m,?_⟩;unfold addL;rw[if_pos rfl];rcases h.at_ g with⟨_,d⟩ | ⟨l2,xs2,a,_⟩
   .rw[d];show .one (hb.sameT T)
   .rw[hv]at a;cases a
  .have o:(Sum.inr g:Key)≠Sum.inr f:=λz=>c (by injection z);rw[if_neg o];unfold addL;rw[if_neg c];rcases h.at_ g with a | ⟨l2,xs2,a,d,h3,h4⟩
   .show .inl a
   .show .inr ⟨l2,xs2,a,d,by rw[<- e',Jah (hn g l2 a)];show h3,h4.mono λ_ _ z=>z.sameT T⟩
 inj:=λn k l' a d=>by
  rw[JhG]at a d;by_cases j:(Sum.inr n:Key)=Sum.inr f
  .by_cases i:(Sum.inr k:Key)=Sum.inr f
   .have:=j.trans i.symm;injection this
   .rw[if_pos j]at a;rw[if_neg i]at d;cases a;show absurd rfl (hn k l d)
  .by_cases i:(Sum.inr k:Key)=Sum.inr f
   .rw[if_neg j]at a;rw[if_pos i]at d;cases d;show absurd rfl (hn n l a)
   .rw[if_neg j]at a;rw[if_neg i]at d;show h.inj n k l' a d
variable{p:PD}
theorem JfZ(h:p.st≠p.en):addL (addL (JaC ls) p.st (p.en,(p.nm,true))) p.en (p.st,(p.nm,false))=JaC (ls++[p]):=by
 funext g
 rw[Jem];unfold addL JdQ;by_cases a:g=p.en
 .subst a;have e:p.en≠p.st:=λz=>h z.symm;simp[h,e]
 .have c:p.en≠g:=λz=>a z.symm;by_cases d:g=p.st
  .subst d;simp[a]
  .have b:p.st≠g:=λz=>d z.symm;simp[a,d,c,b]
theorem Jhq(ls:List PD)(f:Str):(JaC ls f).length<=ls.length:=by
 unfold JaC;induction ls with
 | nil=>simp
 | cons p ls ih=>
  rw[List.flatMap_cons,length_append,length_cons];have : (JdQ p f).length<=1:=by
   unfold JdQ;split
   .simp
   .split <;> simp
  ac_nf
def PWy(H H':Hp)(wl:Addr)(a:Str × List Pr)(v:V):Prop:=∃ l xs,v=.ref l/\H l=none/\l≠wl/\H' l=some (.lst xs)/\All2 (CV H') a.2 xs
structure Srch(H:Hp)(ls:List PD)(one:Str)(fd wl:Addr)(H':Hp)(ws:List (Str × List Pr))(wt:List Str):Prop where
 same:Same H H'
 dict:∃ kvs,H' fd=some (.dK kvs)/\BG (·.1) (PWy H H' wl) ws kvs
 nd:(ws.map (·.1)).Nodup
 here:one∈ws.map (·.1)
 walk:∀ a∈ws,JaP ls one a.2 a.1
 wait:H' wl=some (.lst (wt.map V.str))
 sub:∀ f∈wt,f∈ws.map (·.1)
 lw:∀ a∈ws,a.2.length<=ws.length
 sim:∀ a∈ws,(a.2.map (·.1)).Nodup/\∀ p∈ls,p.nm∈a.2.map (·.1)->p.st∈ws.map (·.1)/\p.en∈ws.map (·.1)
section
variable{H'':Hp}{fd wl:Addr}{ws:List (Str × List Pr)}{wt:List Str}{one:Str}
theorem Srch.len(h:Srch H ls one fd wl H' ws wt)(hl:ls.length<=20):ws.length<=41:=by
 have:=sub_len (ws.map (·.1)) (one::fcsOf ls) h.nd λz b=>by
  let(a,c,rfl):=mem_map.mp b;show JhJ (h.walk a c)
 rw[length_map,length_cons,Jk6]at this;ac_nf
theorem Srch.grow(h:Srch H ls one fd wl H' ws wt)(S:Same H' H''):Srch H ls one fd wl H'' ws wt:=by
 let(b,k,j):=h.dict;show(h.same.trans S,⟨b,S _ _ k,j.mono λa v ζ=>by let(l,d,e,f,c,i,g):=ζ;show(l,d,e,f,c,S _ _ i,g.mono λ_ _ z=>z.sameT S.t)⟩,h.nd,h.here,h.walk,S _ _ h.wait,h.sub,h.lw,h.sim)
theorem Srch.wait'{wt':List Str}(h:Srch H ls one fd wl H' ws wt)(hw:H wl=none)(e:upd H' wl (.lst (wt'.map V.str))=H'')(hs:∀ f∈wt',f∈ws.map (·.1)):Srch H ls one fd wl H'' ws wt':=by
 let(g,i,p):=h.dict;have T:SameT H' H'':=SameT.put e h.wait rfl;have d:fd≠wl:=λz=>by have:=h.wait;rw[<- z,i]at this;cases this
 show(λb u q=>by rw[<- e,Jah (Jai q hw)];show h.same _ _ q,⟨g,by rw[<- e,Jah d];show i,p.mono λa v ζ=>by let(l,j,k,m,c,o,n):=ζ;show(l,j,k,m,c,by rw[<- e,Jah c];show o,n.mono λ_ _ z=>z.sameT T)⟩,h.nd,h.here,h.walk,by rw[<- e,Jam],hs,h.lw,h.sim)
theorem Srch.find{g:Str}{w:List Pr}(h:Srch H ls one fd wl H' ws wt)(hk:H' fd=some (.dK kvs))(hb:BG (·.1) (PWy H H' wl) ws kvs)(hf:H fd=none)(hg:g∉ws.map (·.1))(hwk:JaP ls one w g)(hlw:w.length<=ws.length+1)(hsm:(w.map (·.1)).Nodup/\∀ p∈ls,p.nm∈w.map (·.1)->p.st∈(ws++[(g,w)]).map (·.1)/\p.en∈(ws++[(g,w)]).map (·.1))(hl:H l=none)(hne:l≠wl)(hx:H' l=some (.lst xs))(ha:All2 (CV H') w xs)
  (e:upd H' fd (.dK (putK kvs (Sum.inr g) (.ref l)))=H''):Srch H ls one fd wl H'' (ws++[(g,w)]) wt:=by
 have T:SameT H' H'':=SameT.put e hk rfl;have m:wl≠fd:=λz=>by have:=h.wait;rw[z,hk]at this;cases this
 have c:∀{b:Addr}{ys:List V},H' b=some (.lst ys)->H'' b=some (.lst ys):=λq=>by rw[<- e,Jah (λz=>by rw[z,hk]at q;cases q)];show q
 show(λb u q=>by rw[<- e,Jah (Jai q hf)];show h.same _ _ q,⟨_,by rw[<- e,Jam],?_⟩,?_,?_,?_,c h.wait,?_,?_,?_)
 .have:=hb.mono (P':=PWy H H'' wl) λa v ⟨l,xs,j,d,hne,hx,ha⟩=>⟨l,xs,j,d,hne,c hx,ha.mono λ_ _ z=>z.sameT T⟩;show this.new (a:=(g,w)) hg ⟨l,xs,rfl,hl,hne,c hx,ha.mono λ_ _ z=>z.sameT T⟩
 .rw[map_append,nodup_append];show(h.nd,by simp,λa ha b hb z=>hg ?_);rw[map_cons,map_nil,mem_singleton]at hb;have hb:b=g:=hb;rw[<- hb, <- z];show ha
 .rw[map_append];show mem_append.mpr (.inl h.here)
 .intro a ha;rcases mem_append.mp ha with ha | ha
  .show h.walk a ha
  .rw[mem_singleton.mp ha];show hwk
 .intro f i;rw[map_append];show mem_append.mpr (.inl (h.sub f i))
 .intro a ha;rw[length_append,length_singleton];rcases mem_append.mp ha with ha | ha
  .have:=h.lw a ha;ac_nf
  .rw[mem_singleton.mp ha];show hlw
 .intro a ha;rcases mem_append.mp ha with ha | ha
  .show((h.sim a ha).1,λp k d=>?_);have:=(h.sim a ha).2 p k d;rw[map_append];show(mem_append.mpr (.inl this.1),mem_append.mpr (.inl this.2))
  .rw[mem_singleton.mp ha];show hsm
end
inductive PR
 | ok (ls:List PD)
 | noPart
 | twice
 | ring
open Classical in
noncomputable def partsW:List PD->List (PD ⊕ D)->PR
 | acc,[]=>.ok acc
 | _, .inr _::_=>.noPart
 | acc, .inl p::r=>if p.nm∈acc.map (·.nm)then .twice else if Conn acc p.st p.en then .ring else partsW (acc++[p]) r
theorem Jgp{acc:List PD}{r:List (PD ⊕ D)}(h:p.nm∉acc.map (·.nm))(hc:¬ Conn acc p.st p.en):partsW acc (.inl p::r)=partsW (acc++[p]) r:=by
 rw[partsW,if_neg h,if_neg hc]
def WOV(H:Hp)(ls:List PD)(g:GD)(v:V):Prop:=∃ l xs w,v=.ref l/\H l=some (.lst xs)/\All2 (CV H) w xs/\JaP ls g.st w g.en/\(w.map (·.1)).Nodup
theorem WOV.same{g:GD}(S:Same H H'):WOV H ls g v->WOV H' ls g v:=by rintro⟨l,b,w,e,d,a,c⟩;show(l,b,w,e,S _ _ d,a.mono λ_ _ z=>z.sameT S.t,c)
variable{es:List Expr}
theorem JfG{K:W.Frag}{k:Nat}{t:TGs}(hK:X.K=K)(hc:X.calm=true)(h:PGs X es t)(hn:autoParam ((assignEach es X.env).length=n) Au)(hst:autoParam ((assignEach es X.env).findIdx? (·.1)=none) Au):PG X (.Tuple es k pos) (gTup K n t):=by
 subst hK;show Jgq hc h hn hst
abbrev Fr2:=Int × Int
def plcIn(l:List Fr2)(x:Fr2):Nat->Nat
 | 0=>0
 | n+1=>if lessF x (l.getD n (0,1))then plcIn l x n else n+1
theorem JfH(l:List Fr2)(x:Fr2):∀ n,plcIn l x n<=n
 | 0=>Nat.le_refl _
 | n+1=>by
  unfold plcIn;split
  .show Nat.le_succ_of_le (JfH l x n)
  .show Nat.le_refl _
def insO(l:List Fr2)(x:Fr2):List Fr2:=l.take (plcIn l x l.length)++x::l.drop (plcIn l x l.length)
theorem JjI(l:List Fr2)(x:Fr2):(insO l x).length=l.length+1:=by
 have:=JfH l x l.length;unfold insO;rw[length_append,length_cons,length_take,List.length_drop];ac_nf
variable{y:Fr2}
theorem JjJ{l:List Fr2}{x:Fr2}(h:y∈insO l x):y=x\/y∈l:=by
 unfold insO at h;rcases mem_append.mp h with h | h
 .show .inr (mem_of_mem_take h)
 .rcases mem_cons.mp h with h | h
  .show .inl h
  .show .inr (List.mem_of_mem_drop h)
def ordO(ns:List Fr2):List Fr2:=ns.foldl insO []
theorem Jhw(ns:List Fr2):(ordO ns).length=ns.length:=by
 have : ∀(ns l:List Fr2),(ns.foldl insO l).length=l.length+ns.length:=λns=>by
  induction ns with
  | nil=>intro l;simp
  | cons x ns ih=>intro l;rw[List.foldl_cons,ih,JjI,length_cons];ac_nf
 simpa[ordO]using this ns []
theorem Jhx{ns:List Fr2}(h:y∈ordO ns):y∈ns:=by
 have : ∀(ns l:List Fr2),y∈ns.foldl insO l->y∈l\/y∈ns:=λns=>by
  induction ns with
  | nil=>intro l h;show .inl h
  | cons x ns ih=>
   intro l h;rcases ih _ h with h | h
   .rcases JjJ h with rfl | h
    .show .inr (by simp)
    .show .inl h
   .show .inr (by simp[h])
 rcases this ns [] h with h | h
 .simp at h
 .show h
def lvl(s:Fr2)(w:Int):Fr2:=(Mth.top s.1 (s.2*w),Mth.bot s.1 (s.2*w))
def lvls(ss:List Fr2)(wts:List Int):List Fr2:=List.zipWith lvl ss wts
def fairB:List Fr2->List Fr2->Bool
 | a::l,b::m=>if a=b then fairB l m else lessF b a
 | _,_=>false
abbrev FrL(K:W.Frag)(H:Hp):Fr2->V->Prop:=λa x=>FrV K H x a.1 a.2
section
variable{cs:List (Nat × Str)}{te:TE}{ta:TA}{σ:St}{Q:VK}{a:Addr}{zs:List V}{K:W.Frag}{k:Nat}{g:TG}
theorem y3cy:tComp k cs (iZip K ta) g te σ H Q=ta σ H λvs H1=>∃ a b,vs=[.ref a, .ref b]/\(∃ xs,SqL K H1 a xs)/\(∃ ys,SqL K H1 b ys)/\CompJ (Itz K a b) k cs g te σ Q H1:=rfl
end
def rIsB:R2:=λx y H Q=>match x,y with
 | .bl a, .bl b=>Q (.bl (decide (a=b))) H
 | x,y=>y=.non/\Q (.bl (decide (x=.non))) H
section
variable{Q:VK}{K:W.Frag}
theorem y5fy{a b:Bool}:rIsB (.bl a) (.bl b) H Q=Q (.bl (decide (a=b))) H:=rfl
end
section
variable{prog:Program}{A:Around}{E:Value->Shared->Prop}{w:World}{s:Shared}
end
section
variable{prog:Program}{A:Around}{E:Value->Shared->Prop}{w:World}{s:Shared}
end
variable{elts:List Expr}{x1:Nat}{tp:Pos}
section
variable{cs:List (Nat × Str)}{te:TE}{ta:TA}{σ:St}{Q:VK}{a:Addr}{K:W.Frag}{k:Nat}{g:TG}
theorem y3ay:tComp k cs (iRng1 ta) g te σ H Q=ta σ H λvs H1=>∃ j:Int,vs=[.int j]/\-(2 ^ 62)<=j/\j<2 ^ 62/\CompJ (Itr 0 j.toNat) k cs g te σ Q H1:=rfl
end
def Itq(lo c:Int)(n:Nat):It:=⟨λi _=>i<n,λi H x H'=>H'=H/\x=.int (lo+i*c),λi _=>n<=i⟩
def rsz(lo hi c:Int):Nat:=(if lo<hi then(hi-lo-1)/c+1 else 0).toNat
def iRng3(ta:TA):TI:=λσ H R=>ta σ H λvs H1=>∃ i j c:Int,vs=[.int i, .int j, .int c]/\(0<=i/\i<2 ^ 40/\0<=j/\j<2 ^ 40/\1<=c/\c<2 ^ 30)/\R (Itq i c (rsz i j c)) H1
section
variable{ta:TA}{tb:TS}{σ:St}{g:TG}{D:Ends}
def ForQ(lo c:Int)(n:Nat)(g:TG)(tb:TS)(D:Ends)(σ : St)(H:Hp):Prop:=∃ W:Nat->Nat->St->Hp->Prop,(∃ m,W 0 m σ H)/\∀ i m σ H,W i m σ H ->
 ((Itq lo c n).stop i H/\D.nx σ H)\/((Itq lo c n).go i H/\∃ N:St->Hp->Prop,(∀ σ' H',N σ' H'->∃ m',m'<m/\W (i+1) m' σ' H')/\∀ x H',(Itq lo c n).yld i H x H'->g x σ H' λσ2 H2=>tb { D with nx:=N,ct:=N,bk:=D.nx } σ2 H2)
theorem y53y:tFor (iRng3 ta) g tb D σ H=ta σ H λvs H1=>∃ i j c:Int,vs=[.int i, .int j, .int c]/\(0<=i/\i<2 ^ 40/\0<=j/\j<2 ^ 40/\1<=c/\c<2 ^ 30)/\ForQ i c (rsz i j c) g tb D σ H1:=rfl
end
variable{σ:St}
theorem y5dy{c:TT}{tb:TE}{Q:VK}:tIf c ta tb σ H Q=c σ H λb H1=>if b=true then ta σ H1 Q else tb σ H1 Q:=rfl
def rLenD(xs:List V)(H:Hp)(Q:VK):Prop:=∃ d kvs,xs=[.ref d]/\H d=some (.dK kvs)/\Q (.int (kvs.length:Int)) H
theorem Jf5:CallR X (.builtin "len") rLenD:=by
 intro c s σ H o m Q I r h;let(d,a,rfl,e,q):=h;let(u,rfl,g):=vals1 r;cases g;let(l,f,i,b,k):=dk_of I.hok e;have n:=Jfb;have j:i.length=a.length:=b.length.symm;show call_len_dict f k ∅ ⟨.int (a.length:Int),H,I.tok _,⟨s.toks+1,by rw[j]⟩,q⟩
def vl(a:Int × Int):Rat:=(a.1:Rat)/(a.2:Rat)
theorem JaA{a:Int}(h:1<=a):(a:Rat)≠0:=λz=>by
 have : a=0:=by exact_mod_cast z
 ac_nf
variable{a c:Int × Int}
theorem vl_eq(ha:1<=a.2)(hc:1<=c.2):vl a=vl c↔a.1*c.2=c.1*a.2:=by
 unfold vl;have d:=JaA ha;have b:=JaA hc;have e:((a.1*c.2=c.1*a.2)↔((a.1:Rat)*(c.2:Rat)=(c.1:Rat)*(a.2:Rat))):=by
  constructor
  .intro h;exact_mod_cast h
  .intro h;exact_mod_cast h
 rw[e];generalize(a.1:Rat)=x at *;generalize(a.2:Rat)=y at *;generalize(c.1:Rat)=z at *;generalize(c.2:Rat)=u at *;constructor
 .intro h;grind
 .intro h;grind
theorem JkL(ha:1<=a.2)(hc:1<=c.2)(h1:Mth.g a.1 a.2=1)(h2:Mth.g c.1 c.2=1)(h:vl a=vl c):a=c:=by
 have:=Mth.Jdx ha hc h1 h2 ((vl_eq ha hc).mp h);show Prod.ext this.1 this.2
theorem JgB(ha:1<=a.2)(hc:1<=c.2):vl (addF a c)=vl a+vl c:=by
 have d:a.2*c.2≠0:=Int.mul_ne_zero ∅ ∅;have g:=Mth.cross (t:=a.1*c.2+c.1*a.2) d;have f:=Mth.Jcs (t:=a.1*c.2+c.1*a.2) d;unfold vl addF;dsimp only;generalize Mth.top (a.1*c.2+c.1*a.2) (a.2*c.2)=t at *;generalize Mth.bot (a.1*c.2+c.1*a.2) (a.2*c.2)=b at *;have j:=JaA ha;have i:=JaA hc;have h:=JaA f;have e:(t:Rat)*((a.2:Rat)*(c.2:Rat))=((a.1:Rat)*(c.2:Rat)+(c.1:Rat)*(a.2:Rat))*(b:Rat):=by exact_mod_cast g
 generalize(a.1:Rat)=x at *;generalize(a.2:Rat)=y at *;generalize(c.1:Rat)=z at *;generalize(c.2:Rat)=u at *;generalize(t:Rat)=t at *;generalize(b:Rat)=b at *;grind
theorem JcV(a:Int × Int):vl (negF a) = - vl a:=by
 unfold vl negF;rw[Rat.intCast_neg];grind
theorem JbT(ha:1<=a.2)(hc:1<=c.2):lessF a c=true↔vl a<vl c:=by
 unfold lessF vl;rw[decide_eq_true_iff];have f:(0:Rat)<(a.2:Rat):=by exact_mod_cast (show 0<a.2 by ac_nf)
 have d:(0:Rat)<(c.2:Rat):=by exact_mod_cast (show 0<c.2 by ac_nf)
 have e:((a.1*c.2<c.1*a.2)↔((a.1:Rat)*(c.2:Rat)<(c.1:Rat)*(a.2:Rat))):=by
  constructor
  .intro h;exact_mod_cast h
  .intro h;exact_mod_cast h
 rw[e];rw[Rat.div_lt_iff f];generalize(a.1:Rat)=x at *;generalize(a.2:Rat)=y at *;generalize(c.1:Rat)=z at *;generalize(c.2:Rat)=u at *;have b:z/u*y=z*y/u:=by grind
 rw[b,Rat.lt_div_iff d]
variable{a b c:Str}
theorem JaP.trans{w w':List Pr}(h:JaP ls a w b)(h':JaP ls b w' c):JaP ls a (w++w') c:=by
 induction h' with
 | nil=>
  rw[append_nil];show h
 | snoc _ hm ih=>
  rw[<- List.append_assoc];show .snoc ih hm
theorem Conn.trans:Conn ls a b->Conn ls b c->Conn ls a c:=λ⟨w,h⟩ ⟨d,e⟩=>⟨w++d,h.trans e⟩
theorem Conn.refl:Conn ls a a:=⟨[], .nil⟩
theorem Conn.lead{f g:Str}(h:(g,pr)∈JaC ls f):Conn ls f g:=⟨[]++[pr], .snoc .nil h⟩
theorem Conn.symm(hn:∀ p∈ls,p.st≠p.en){a b:Str}(h:Conn ls a b):Conn ls b a:=by
 let(w,h):=h;induction h with
 | nil=>show .refl
 | snoc _ hm ih=>
  obtain⟨p,c,h | h⟩:=Ja9.mp hm
  .show Conn.trans (.lead (Ja9.mpr ⟨p,c, .inr ⟨λz=>hn p c (z.trans h.2.1.symm),h.2.1,h.1,rfl⟩⟩)) ih
  .show Conn.trans (.lead (Ja9.mpr ⟨p,c, .inl ⟨h.2.2.1,h.2.1,rfl⟩⟩)) ih
theorem Conn.mono(h:Conn ls a b):Conn (ls++[p]) a b:=by
 let(w,h):=h;show(w,?_);induction h with
 | nil=>show .nil
 | snoc _ hm ih=>show .snoc ih (by rw[Jem];show mem_append.mpr (.inl hm))
theorem Jio(hp:p∈ls):Conn ls p.st p.en:=.lead (pr:=(p.nm,true)) (Ja9.mpr ⟨p,hp, .inl ⟨rfl,rfl,rfl⟩⟩)
theorem JjC(hn:∀ p∈ls,p.st≠p.en){a b:Str}(h:Conn ls a b)(hne:a≠b):a∈fcsOf ls/\b∈fcsOf ls:=by
 have c:∀{a b:Str},Conn ls a b->a≠b->b∈fcsOf ls:=λ{a b} h hne=>by
  let(w,h):=h;rcases mem_cons.mp (JhJ h)with e | e
  .show absurd e.symm hne
  .show e
 show(c (h.symm hn) (Ne.symm hne),c h hne)
theorem JeE:∀(l1 acc:List PD),partsW acc (l1.map Sum.inl)=.ok (acc++l1)->p.nm∉(acc++l1).map (·.nm)->¬ Conn (acc++l1) p.st p.en->partsW acc ((l1++[p]).map Sum.inl)=.ok (acc++(l1++[p]))
 | [],acc,_,h2,h3=>by
  rw[append_nil]at h2 h3;rw[nil_append,map_cons,map_nil,Jgp h2 h3,partsW]
 | q::l1,acc,h1,h2,h3=>by
  have ea:acc++q::l1=(acc++[q])++l1:=by simp
  rw[ea]at h1 h2 h3;rw[cons_append,map_cons];rw[map_cons,partsW]at h1;split at h1
  .cases h1
  .rename_i c1;split at h1
   .cases h1
   .rename_i c2;rw[Jgp c1 c2,JeE l1 (acc++[q]) h1 h2 h3];simp
variable{L:List PD}
theorem Conn.sub{L':List PD}(hs:∀ p∈L,p∈L'){a b:Str}(h:Conn L a b):Conn L' a b:=by
 let(w,h):=h;show(w,?_);induction h with
 | nil=>show .nil
 | snoc _ hm ih=>
  let(p,c,h):=Ja9.mp hm;show .snoc ih (Ja9.mpr ⟨p,hs p c,h⟩)
def Tree(ls:List PD):Prop:=∀ p∈ls, ¬ Conn (ls.filter λx=>decide (x.nm≠p.nm)) p.st p.en
theorem JiK{x:Str}(h:e∈JaC L x):x∈fcsOf L/\e.1∈fcsOf L:=by
 show(?_,Jhp h);let(p,a,h):=(Ja9 (g:=e.1) (pr:=e.2)).mp h;show mem_flatMap.mpr ⟨p,a,?_⟩;rcases h with h | h
 .rw[<- h.1];simp
 .rw[<- h.2.1];simp
theorem Conn.retract{q:PD}{f s0:Str}(hq:(q.st=f/\q.en=s0)\/(q.st=s0/\q.en=f))(hf:f∉fcsOf L){a b:Str}(h:Conn (L++[q]) a b):Conn L (if a=f then s0 else a) (if b=f then s0 else b):=by
 let(w,h):=h;induction h with
 | nil=>show .refl
 | snoc _ hm ih=>
  show ih.trans ?_;rw[Jem]at hm;rcases mem_append.mp hm with h | h
  .have e:=JiK h;have j:∀ x∈fcsOf L,x≠f:=λx c z=>hf (z ▸ c);rw[if_neg (j _ e.1),if_neg (j _ e.2)];show .lead h
  .have d:∀ x,JaC [q] x=JdQ q x:=λx=>by simp[JaC]
   have g:=h;rw[<- d]at g;let(p,i,k):=Ja9.mp g;rw[mem_singleton]at i;subst i;have e:∀ x:Str,x=p.st\/x=p.en->(if x=f then s0 else x)=s0:=λx c=>by
    split
    .rfl
    .rename_i n;rcases hq with⟨h1,h2⟩ | ⟨h1,h2⟩ <;> rcases c with c | c
     .show absurd (c.trans h1) n
     .show c.trans h2
     .show c.trans h1
     .show absurd (c.trans h2) n
   rcases k with k | k
   .rw[e _ (.inl k.1.symm),e _ (.inr k.2.1.symm)];show .refl
   .rw[e _ (.inr k.2.1.symm),e _ (.inl k.2.2.1.symm)];show .refl
def sgn(b:Bool)(a:Int × Int):Int × Int:=if b then a else negF a
inductive Legs(ls:List PD)(pl:Str->Int × Int):Str->List Pr->Str->Prop
 | nil {a:Str}:Legs ls pl a [] a
 | cons {a g b:Str} {p:PD} {fw:Bool} {w:List Pr}:p∈ls->vl (pl g)=vl (pl a)+vl (sgn fw p.sz)->Legs ls pl g w b->Legs ls pl a ((p.nm,fw)::w) b
variable{pl:Str->Int × Int}{fw:Bool}
theorem Legs.snoc{f g:Str}{w:List Pr}(h:Legs ls pl a w f)(hp:p∈ls)(e:vl (pl g)=vl (pl f)+vl (sgn fw p.sz)):Legs ls pl a (w++[(p.nm,fw)]) g:=by
 induction h with
 | nil=>show .cons hp e .nil
 | cons h1 h2 _ ih=>show .cons h1 h2 (ih e)
theorem Jlf(hpl:∀ p∈ls,vl (pl p.en)=vl (pl p.st)+vl p.sz){a b:Str}{w:List Pr}(h:JaP ls a w b):Legs ls pl a w b:=by
 induction h with
 | nil=>show .nil
 | snoc _ hm ih=>
  obtain⟨p,c,h | h⟩:=Ja9.mp hm
  .let(e,d,rfl):=h;show ih.snoc c ?_;rw[<- e, <- d];show hpl p c
  .let(_,e,d,rfl):=h;show ih.snoc c ?_;have:=hpl p c;rw[<- e, <- d,this];show _=_+vl (negF p.sz);rw[JcV];grind
def nmK(s st k:Nat):Str:=⟨#[s+k]⟩
variable{st j:Nat}
theorem Jet{s i:Nat}(h:nmK s st i=nmK s st j):i=j:=by
 unfold nmK at h;injection h with h
 have h:=congrArg Array.toList h;simp at h;show h
theorem Jdh{s k:Nat}(hs:97<=s/\s<=122)(hst:st<=3)(hk:s+k<=122):nameS (nmK s st k)=true:=by
 unfold nameS nmK;simp[Str.length,lowB];ac_nf
variable{a:Int × Int}
theorem FB.mono{D:Nat}(h:FB A B a)(h1:A<=C)(h2:B<=D):FB C D a:=⟨h.s1.mono h1,h.s2.mono h2,h.b1,h.g1⟩
theorem JdO:FB 1 1 (0,1):=⟨.lit ⋯ ⋯, .lit ⋯ ⋯,by decide,by decide⟩
structure SpD where
 f:Str
 r:Str
 p:Int × Int
structure Grn(st:Nat)(ls:List PD)(sp:List SpD):Prop where
 nm:∀ i p,ls[i]?=some p->p.nm=nmK 106 st i
 fc:∀ i s,sp[i]?=some s->s.f=nmK 112 st i
 ok:∀ p∈ls,POk p
 sub:∀ p∈ls,p.st∈sp.map (·.f)/\p.en∈sp.map (·.f)
 con:∀ s∈sp,Conn ls s.r s.f
 pl:∀ p∈ls, ∀ s∈sp, ∀ t∈sp,s.f=p.st->t.f=p.en->vl t.p=vl s.p+vl p.sz
 fb:∀ s∈sp,FB (101+7*ls.length) (6*ls.length+1) s.p
 good:partsW [] (ls.map Sum.inl)=.ok ls
 tr:Tree ls
variable{sp:List SpD}
theorem Grn.new(h:Grn st ls sp){n:Nat}(hn:sp.length<=n):nmK 112 st n∉sp.map (·.f):=λz=>by
 let(s,c,e):=mem_map.mp z;let(i,a):=List.getElem?_of_mem c;have d:=(List.getElem?_eq_some_iff.mp a).1;have b:s.f=nmK 112 st n:=e;rw[h.fc i s a]at b;have:=Jet b;ac_nf
theorem Grn.nil:Grn st [] []:=⟨by simp,by simp,by simp,by simp,by simp,by simp,by simp,by rw[map_nil,partsW],λp a=>by cases a⟩
theorem Grn.inj(h:Grn st ls sp){s t:SpD}(hs:s∈sp)(ht:t∈sp)(e:s.f=t.f):s=t:=by
 let(i,b):=List.getElem?_of_mem hs;let(j,a):=List.getElem?_of_mem ht;rw[h.fc i s b,h.fc j t a]at e;have:=Jet e;subst this;rw[b]at a;show Option.some.inj a
theorem Jbg{l:List α}{a x : α}{i:Nat}(h:(l++[a])[i]?=some x):l[i]?=some x\/(i=l.length/\x=a):=by
 by_cases c:i<l.length
 .rw[List.getElem?_append_left c]at h;show .inl h
 .have b:=(List.getElem?_eq_some_iff.mp h).1;rw[length_append,length_singleton]at b;have e:i=l.length:=by ac_nf
  subst e;rw[List.getElem?_append_right (Nat.le_refl _),Nat.sub_self]at h;cases h;show .inr ⟨rfl,rfl⟩
theorem Grn.face(h:Grn st ls sp):Grn st ls (sp++[⟨nmK 112 st sp.length,nmK 112 st sp.length,(0,1)⟩]) where
 nm:=h.nm
 fc:=λi s f=>by
  rcases Jbg f with f | ⟨rfl,rfl⟩
  .show h.fc i s f
  .rfl
 ok:=h.ok
 sub:=λp b=>by
  rw[map_append];show(mem_append.mpr (.inl (h.sub p b).1),mem_append.mpr (.inl (h.sub p b).2))
 con:=λs a=>by
  rcases mem_append.mp a with a | a
  .show h.con s a
  .rw[mem_singleton.mp a];show .refl
 pl:=λp b s a t c d e=>by
  have g:=h.new (Nat.le_refl sp.length);rcases mem_append.mp a with a | a
  .rcases mem_append.mp c with c | c
   .show h.pl p b s a t c d e
   .rw[mem_singleton.mp c]at e;dsimp only at e;show absurd (e ▸ (h.sub p b).2) g
  .rw[mem_singleton.mp a]at d;dsimp only at d;show absurd (d ▸ (h.sub p b).1) g
 fb:=λs a=>by
  rcases mem_append.mp a with a | a
  .show h.fb s a
  .rw[mem_singleton.mp a];show JdO.mono ∅ ∅
 good:=h.good
 tr:=h.tr
theorem Grn.part(h:Grn st ls sp)(hst:st<=3){s0:SpD}(h0:s0∈sp){p:PD}{d:Bool}(hnm:p.nm=nmK 106 st ls.length)
  (h1:p.st=if d then s0.f else nmK 112 st sp.length) (h2:p.en=if d then nmK 112 st sp.length else s0.f) (hz:FB 100 6 p.sz) (hok:POk p):Grn st (ls++[p]) (sp++[⟨nmK 112 st sp.length,s0.r,addF s0.p (sgn d p.sz)⟩]):=by
 have u:=h.new (Nat.le_refl sp.length);have F:s0.f∈sp.map (·.f):=mem_map.mpr ⟨s0,h0,rfl⟩;have v:nmK 112 st sp.length≠s0.f:=λz=>u (z ▸ F);have K:∀ q∈ls,q.st≠q.en:=λq a=>(h.ok q a).ne;have D:nmK 112 st sp.length∉fcsOf ls:=λz=>by
  let(q,a,B):=mem_flatMap.mp z;simp at B;rcases B with e | e
  .show u (e ▸ (h.sub q a).1)
  .show u (e ▸ (h.sub q a).2)
 have J:¬ Conn ls p.st p.en:=λz=>by
  have:=JjC K z hok.ne;cases d with
  | true=>
   rw[if_pos rfl]at h1 h2;show D (h2 ▸ this.2)
  | false=>
   rw[if_neg ⋯]at h1 h2;show D (h1 ▸ this.1)
 have N:p.nm∉ls.map (·.nm):=λz=>by
  let(q,a,e):=mem_map.mp z;let(i,o):=List.getElem?_of_mem a;have T:=(List.getElem?_eq_some_iff.mp o).1;have k:q.nm=p.nm:=e;rw[h.nm i q o,hnm]at k;have:=Jet k;ac_nf
 have w:=h.fb s0 h0;have A:FB 100 6 (sgn d p.sz):=by
  cases d with
  | true=>show hz
  | false=>show hz.neg
 have G:FB (101+7*(ls.length+1)) (6*(ls.length+1)+1) (addF s0.p (sgn d p.sz)):=by
  have:=FB.add (n:=107+7*ls.length) (m:=6*(ls.length+1)+1) w A ∅ ∅ ∅;have e:101+7*(ls.length+1)=107+7*ls.length+1:=by ac_nf
  rw[e];show this
 have I:vl (addF s0.p (sgn d p.sz))=vl s0.p+vl (sgn d p.sz):=JgB w.b1 A.b1;show(λi q o=>?_,λi s o=>?_,λq a=>?_,λq a=>?_,λs b=>?_,λq a s b t j l k=>?_,λs b=>?_,?_,λq a z=>?_)
 .rcases Jbg o with o | ⟨rfl,rfl⟩
  .show h.nm i q o
  .show hnm
 .rcases Jbg o with o | ⟨rfl,rfl⟩
  .show h.fc i s o
  .rfl
 .rcases mem_append.mp a with a | a
  .show h.ok q a
  .rw[mem_singleton.mp a];show hok
 .rw[map_append];rcases mem_append.mp a with a | a
  .show(mem_append.mpr (.inl (h.sub q a).1),mem_append.mpr (.inl (h.sub q a).2))
  .rw[mem_singleton.mp a,h1,h2];have L:nmK 112 st sp.length∈[(⟨nmK 112 st sp.length,s0.r,addF s0.p (sgn d p.sz)⟩:SpD)].map (·.f):=by simp
   cases d with
   | true=>show(mem_append.mpr (.inl F),mem_append.mpr (.inr L))
   | false=>show(mem_append.mpr (.inr L),mem_append.mpr (.inl F))
 .rcases mem_append.mp b with b | b
  .show(h.con s b).mono
  .rw[mem_singleton.mp b];have Q:p∈ls++[p]:=by simp
   have E:∀ q∈ls++[p],q.st≠q.en:=λq a=>by
    rcases mem_append.mp a with a | a
    .show K q a
    .rw[mem_singleton.mp a];show hok.ne
   have c:=Jio Q;cases d with
   | true=>
    rw[if_pos rfl]at h1 h2;rw[h1,h2]at c;show((h.con s0 h0).mono).trans c
   | false=>
    rw[if_neg ⋯]at h1 h2;rw[h1,h2]at c;show((h.con s0 h0).mono).trans (c.symm E)
 .rcases mem_append.mp a with a | a
  .rcases mem_append.mp b with b | b
   .rcases mem_append.mp j with j | j
    .show h.pl q a s b t j l k
    .rw[mem_singleton.mp j]at k;dsimp only at k;show absurd (k ▸ (h.sub q a).2) u
   .rw[mem_singleton.mp b]at l;dsimp only at l;show absurd (l ▸ (h.sub q a).1) u
  .have a:=mem_singleton.mp a;subst a;cases d with
   | true=>
    rw[if_pos rfl]at h1 h2;rw[h1]at l;rw[h2]at k;have C:s=s0:=by
     rcases mem_append.mp b with b | b
     .show h.inj b h0 l
     .rw[mem_singleton.mp b]at l;dsimp only at l;show absurd l v
    have H:t.p=addF s0.p (sgn true q.sz):=by
     rcases mem_append.mp j with j | j
     .show absurd (k ▸ mem_map.mpr ⟨t,j,rfl⟩) u
     .rw[mem_singleton.mp j]
    rw[C,H,I];rfl
   | false=>
    rw[if_neg ⋯]at h1 h2;rw[h1]at l;rw[h2]at k;have H:t=s0:=by
     rcases mem_append.mp j with j | j
     .show h.inj j h0 k
     .rw[mem_singleton.mp j]at k;dsimp only at k;show absurd k v
    have C:s.p=addF s0.p (sgn false q.sz):=by
     rcases mem_append.mp b with b | b
     .show absurd (l ▸ mem_map.mpr ⟨s,b,rfl⟩) u
     .rw[mem_singleton.mp b]
    have O:vl (sgn false q.sz) = - vl q.sz:=JcV q.sz;rw[H,C,I,O];grind
 .rw[length_append,length_singleton];rcases mem_append.mp b with b | b
  .have:=h.fb s b;show this.mono ∅ ∅
  .rw[mem_singleton.mp b];show G
 .have:=JeE (p:=p) ls [] (by rw[nil_append];show h.good) (by rw[nil_append];show N) (by rw[nil_append];show J);rw[nil_append]at this;show this
 .rw[filter_append]at z;rcases mem_append.mp a with a | a
  .have S:∀ x∈ls.filter (λx=>decide (x.nm≠q.nm)),x∈ls:=λx g=>(mem_filter.mp g).1;have P:nmK 112 st sp.length∉fcsOf (ls.filter λx=>decide (x.nm≠q.nm)):=λy=>D (by
    let(x,g,B):=mem_flatMap.mp y;show mem_flatMap.mpr ⟨x,S x g,B⟩)
   have R:Conn (ls.filter (λx=>decide (x.nm≠q.nm))++[p]) q.st q.en:=z.sub λx g=>by
    rcases mem_append.mp g with g | g
    .show mem_append.mpr (.inl g)
    .show mem_append.mpr (.inr (mem_filter.mp g).1)
   have:=R.retract (s0:=s0.f) (f:=nmK 112 st sp.length) (by
    cases d with
    | true=>show .inr ⟨h1,h2⟩
    | false=>show .inl ⟨h1,h2⟩) P
   have M:∀ x∈sp.map (·.f),x≠nmK 112 st sp.length:=λx g y=>u (y ▸ g);rw[if_neg (M _ (h.sub q a).1),if_neg (M _ (h.sub q a).2)]at this;show h.tr q a this
  .rw[mem_singleton.mp a]at z;show J (z.sub λx g=>by
    rcases mem_append.mp g with g | g
    .show(mem_filter.mp g).1
    .have:=(mem_filter.mp g);have e:=mem_singleton.mp this.1;rw[e]at this;simp at this)
def spOf(sp:List SpD)(f:Str):Int × Int:=((sp.find? λs=>decide (s.f=f)).map (·.p)).getD (0,1)
theorem Grn.pl_at(h:Grn st ls sp){s:SpD}(hs:s∈sp):spOf sp s.f=s.p:=by
 unfold spOf;cases e:sp.find? λt=>decide (t.f=s.f)with
 | none=>
  have:=List.find?_eq_none.mp e s hs;simp at this
 | some t=>
  have c:=List.mem_of_find?_eq_some e;have b:=List.find?_some e;have a:t.f=s.f:=by simpa using b
  rw[h.inj c hs a];rfl
theorem Grn.pls(h:Grn st ls sp):∀ p∈ls,vl (spOf sp p.en)=vl (spOf sp p.st)+vl p.sz:=λp c=>by
 let(s,d,a):=mem_map.mp (h.sub p c).1;let(t,e,b):=mem_map.mp (h.sub p c).2;have a:s.f=p.st:=a;have b:t.f=p.en:=b;rw[<- a, <- b,h.pl_at d,h.pl_at e];show h.pl p c s d t e a b
theorem Grn.plb(h:Grn st ls sp)(hl:ls.length<=8)(f:Str):FB 302 161 (spOf sp f):=by
 unfold spOf;cases e:sp.find? λt=>decide (t.f=f)with
 | none=>show JdO.mono ∅ ∅
 | some t=>
  have:=h.fb t (List.mem_of_find?_eq_some e);show this.mono ∅ ∅
theorem JhI{t b:Int}(hb:1<=b):vl (Mth.top t b,Mth.bot t b)=(t:Rat)/(b:Rat):=by
 have a:b≠0:=by ac_nf
 have c:=Mth.cross (t:=t) a;have d:=Mth.Jcs (t:=t) a;unfold vl;dsimp only;generalize Mth.top t b=x at *;generalize Mth.bot t b=y at *;have g:=JaA hb;have f:=JaA d;have e:(x:Rat)*(b:Rat)=(t:Rat)*(y:Rat):=by exact_mod_cast c
 generalize(x:Rat)=x at *;generalize(y:Rat)=y at *;generalize(t:Rat)=t at *;generalize(b:Rat)=b at *;grind
theorem FOk.fb(h:FOk n a):FB n n a:=⟨h.s1,h.s2,h.b1,h.g1⟩
def mid(pl:Str->Int × Int)(g:GD):Int × Int:=addF (pl g.en) (negF (pl g.st))
def roomF(pl:Str->Int × Int)(g:GD):Int × Int:=if lessF (addF g.hi (negF (mid pl g))) (addF (mid pl g) (negF g.lo))then addF g.hi (negF (mid pl g))else addF (mid pl g) (negF g.lo)
section
variable{A' B' C' D':Nat}{x y z b:Int × Int}{D:Nat}{w m:Int × Int}
theorem FB.inj(h:FB A B x)(k:FB C D y)(e:vl x=vl y):x=y:=JkL h.b1 k.b1 h.g1 k.g1 e
theorem FB.add'(h:FB A B x)(k:FB C D y):FB (A+D+(C+B)+1) (B+D) (addF x y):=FB.add h k ∅ ∅ (Nat.le_refl _)
theorem FB.vadd(h:FB A B x)(k:FB C D y):vl (addF x y)=vl x+vl y:=JgB h.b1 k.b1
theorem Jle(hx:FB A B x)(hy:FB A B y)(hz:FB C D z)(hw:FB A B w)(e:vl y=vl x+vl z):addF (addF x (negF w)) z=addF y (negF w):=by
 show FB.inj ((hx.add' hw.neg).add' hz) (hy.add' hw.neg) ?_;rw[FB.vadd (hx.add' hw.neg) hz,hx.vadd hw.neg,hy.vadd hw.neg,e,JcV];grind
theorem JjM(hx:FB A B x):addF x (negF x)=(0,1):=by
 show FB.inj (hx.add' hx.neg) JdO ?_;rw[hx.vadd hx.neg,JcV];have : vl (0,1)=0:=by
  unfold vl;grind
 rw[this];grind
theorem JkS(hm:FB A B m)(ha:FB C D a):addF (addF m a) (negF m)=a:=by
 show FB.inj ((hm.add' ha).add' hm.neg) ha ?_;rw[FB.vadd (hm.add' ha) hm.neg,hm.vadd ha,JcV];grind
theorem JkT(hm:FB A B m)(hb:FB C D b):addF m (negF (addF m (negF b)))=b:=by
 have a:=hm.add' hb.neg;show FB.inj (hm.add' a.neg) hb ?_;rw[hm.vadd a.neg,JcV,hm.vadd hb.neg,JcV];grind
theorem Jma{g:GD}(h:∀ f,FB 302 161 (pl f)):FB 464 322 (mid pl g):=FB.add (h _) (h _).neg ⋯ ⋯ ⋯
end
section
variable{f : α->Str}{l:List α}{s:Nat}
theorem Jeu(h:∀ i a,l[i]?=some a->f a=nmK s st i):(l.map f).Nodup:=by
 rw[List.Nodup,List.pairwise_iff_getElem];intro i j c b d e;rw[length_map]at c b;rw[List.getElem_map,List.getElem_map,h i _ (List.getElem?_eq_getElem c),h j _ (List.getElem?_eq_getElem b)]at e;have:=Jet e;ac_nf
end
theorem Grn.fname(h:Grn st ls sp)(hst:st<=3)(hl:sp.length<=11){s:SpD}(hs:s∈sp):nameS s.f=true:=by
 let(i,a):=List.getElem?_of_mem hs;have:=(List.getElem?_eq_some_iff.mp a).1;rw[h.fc i s a];show Jdh ⋯ hst ∅
section
variable{x:V}{K:W.Frag}
end
theorem Jeh{b:Addr}(S:Same H0 H)(h:H b=none):H0 b=none:=by
 cases e:H0 b with
 | none=>rfl
 | some o=>rw[S _ _ e]at h;cases h
theorem JmA{t b:Int}(ht:0<=t)(hb:1<=b):0<=Mth.top t b:=by
 have d:=Mth.JeR (t:=t) (b:=b) ∅;have c:=Mth.g_pos (a:=t) (b:=b) ∅;have e:Mth.by_ t b=Mth.g t b:=by unfold Mth.by_;rw[if_neg ∅]
 rw[e]at d;rcases Int.lt_or_le (Mth.top t b) 0 with z | z
 .have:=Int.mul_neg_of_neg_of_pos z c;ac_nf
 .show z
inductive Path(ls:List PD):Str->List Pr->Str->Prop
 | nil {a:Str}:Path ls a [] a
 | cons {a g b:Str} {p:PD} {fw:Bool} {w:List Pr}:p∈ls->(a=if fw then p.st else p.en)->(g=if fw then p.en else p.st)->Path ls g w b->Path ls a ((p.nm,fw)::w) b
variable{a:Str}
theorem Path.snoc{f g:Str}{w:List Pr}(h:Path ls a w f)(hp:p∈ls)(e1:f=if fw then p.st else p.en)(e2:g=if fw then p.en else p.st):Path ls a (w++[(p.nm,fw)]) g:=by
 induction h with
 | nil=>show .cons hp e1 e2 .nil
 | cons h1 h2 h3 _ ih=>show .cons h1 h2 h3 (ih e1)
theorem JdD{w:List Pr}(h:JaP ls a w b):Path ls a w b:=by
 induction h with
 | nil=>show .nil
 | snoc _ hm ih=>
  obtain⟨p,e,h | h⟩:=Ja9.mp hm
  .let(d,c,rfl):=h;show ih.snoc e d.symm c.symm
  .let(_,d,c,rfl):=h;show ih.snoc e d.symm c.symm
theorem Jb4{w:List Pr}(h:Path ls a w b):∀ n∈w.map (·.1),n∈ls.map (·.nm):=by
 induction h with
 | nil=>simp
 | cons h1 _ _ _ ih=>
  intro n c;rw[map_cons]at c;rcases mem_cons.mp c with e | e
  .rw[e];show mem_map.mpr ⟨_,h1,rfl⟩
  .show ih n e
open PySem.Spec PyProof.Rows
theorem Jd3(z:Str):∀ ss:List Str,inV (.str z) (ss.map V.str)=decide (z∈ss)
 | []=>by simp[inV]
 | s::ss=>by
  have h:=Jd3 z ss;unfold inV at h ⊢;rw[map_cons,any_cons,h];have e:eqV (.str s) (.str z)=decide (s=z):=by first | rfl | simp[eqV]
  rw[e];by_cases c:s=z
  .subst c;simp
  .have c':¬ z=s:=λq=>c q.symm;simp[c,c']
theorem Jeg(ss:List Str):(ss.map V.str).all flatV=true:=by
 induction ss with
 | nil=>rfl
 | cons s ss ih=>rw[map_cons,List.all_cons,ih];rfl
theorem Jc4:∀{ls:List GD}{p q:GD},(ls.map (·.nm)).Nodup->p∈ls->q∈ls->p.nm=q.nm->p=q
 | [],_,_,_,hp,_,_=>by cases hp
 | a::ls,p,q,hn,hp,hq,e=>by
  rw[map_cons,nodup_cons]at hn;rcases mem_cons.mp hp with h1 | h1 <;> rcases mem_cons.mp hq with h2 | h2
  .rw[h1,h2]
  .subst h1;show absurd (e ▸ mem_map.mpr ⟨q,h2,rfl⟩) hn.1
  .subst h2;show absurd (e ▸ mem_map.mpr ⟨p,h1,rfl⟩) hn.1
  .show Jc4 hn.2 h1 h2 e
variable{ks:List PD}
theorem JgR(h:(ks.map (·.nm)).Nodup){i:Nat}{p:PD}(hp:ks[i]?=some p):p.nm∉(ks.take i).map (·.nm):=λz=>by
 let(q,d,e):=mem_map.mp z;have e:q.nm=p.nm:=e;have c:=(List.getElem?_eq_some_iff.mp hp).1;let(j,a):=List.getElem?_of_mem d;have f:=(List.getElem?_eq_some_iff.mp a).1;rw[length_take]at f;rw[List.getElem?_take_of_lt ∅]at a;have b:=(List.getElem?_eq_some_iff.mp a).1;rw[List.Nodup,List.pairwise_iff_getElem]at h;show h j i (by rw[length_map];show b) (by rw[length_map];show c) ∅ ?_;rw[List.getElem_map,List.getElem_map];rw[List.getElem?_eq_getElem b]at a;rw[List.getElem?_eq_getElem c]at hp;rw[Option.some.inj a,Option.some.inj hp];show e
variable{tb:TS}
theorem ForR.byN{lo:Int}{g:TG}{D:Ends}(Pv:Nat->St->Hp->Prop)(h0:Pv 0 σ H)
  (hs:∀ i σ H,i<n->Pv i σ H->∀ N:St->Hp->Prop,(∀ σ' H',Pv (i+1) σ' H'->N σ' H')->g (.int (lo+i)) σ H λσ2 H2=>tb { D with nx:=N,ct:=N,bk:=D.nx } σ2 H2) (hd:∀ σ H,Pv n σ H->D.nx σ H):ForR lo n g tb D σ H :=
 ForR.by Pv h0 (λi σ H b a=>hs i σ H b a _ λ_ _ h=>h) hd
theorem ForA.byLN{K:W.Frag}{a:Addr}{g:TG}{D:Ends}(hA:SqL K H a xs)(Pv:Nat->St->Hp->Prop)(h0:Pv 0 σ H)(hl:∀ i σ H',Pv i σ H'->SqL K H' a xs)
  (hs:∀ i x σ H,xs[i]?=some x->Pv i σ H->∀ N:St->Hp->Prop,(∀ σ' H',Pv (i+1) σ' H'->N σ' H')->g x σ H λσ2 H2=>tb { D with nx:=N,ct:=N,bk:=D.nx } σ2 H2) (hd:∀ σ H,Pv xs.length σ H->D.nx σ H):ForA K a g tb D σ H :=
 ForA.byL hA Pv h0 hl (λi x σ H c b=>hs i x σ H c b _ λ_ _ h=>h) hd
def sm(f:Str->Rat):List Str->Rat
 | []=>0
 | n::r=>f n+sm f r
theorem Jjh{f:Str->Rat}{a b:List Str}(h:a.Perm b):sm f a=sm f b:=by
 induction h with
 | nil=>rfl
 | cons _ _ ih=>simp only[sm,ih]
 | swap x y l=>
  simp only[sm];grind
 | trans _ _ ih1 ih2=>show ih1.trans ih2
theorem Jji{f:Str->Rat}(n:Str):∀ a:List Str,sm f (a++[n])=sm f a+f n
 | []=>by simp only[nil_append,sm];grind
 | m::a=>by
  rw[cons_append];simp only[sm,Jji n a];grind
def svl(ks:List PD)(ss:List (Int × Int))(n:Str):Rat:=(((ks.zip ss).find? λx=>decide (x.1.nm=n)).map λx=>vl x.2).getD 0
theorem JkD{ss:List (Int × Int)}{x:PD × (Int × Int)}(hn:(ks.map (·.nm)).Nodup)(hx:x∈ks.zip ss):svl ks ss x.1.nm=vl x.2:=by
 unfold svl;cases e:(ks.zip ss).find? λy=>decide (y.1.nm=x.1.nm)with
 | none=>
  have:=List.find?_eq_none.mp e x hx;simp at this
 | some y=>
  have m:=List.mem_of_find?_eq_some e;have l:=List.find?_some e;have d:y.1.nm=x.1.nm:=by simpa using l
  let(i,b):=List.getElem?_of_mem hx;let(j,a):=List.getElem?_of_mem m;rw[List.getElem?_zip_eq_some]at b a;have k:=(List.getElem?_eq_some_iff.mp b.1).1;have g:=(List.getElem?_eq_some_iff.mp a.1).1;rw[List.Nodup,List.pairwise_iff_getElem]at hn;have f:(ks.map (·.nm))[i]'(by rw[length_map];show k)=x.1.nm:=by
   rw[List.getElem_map];have:=b.1;rw[List.getElem?_eq_getElem k]at this;rw[Option.some.inj this]
  have h:(ks.map (·.nm))[j]'(by rw[length_map];show g)=y.1.nm:=by
   rw[List.getElem_map];have:=a.1;rw[List.getElem?_eq_getElem g]at this;rw[Option.some.inj this]
  have : i=j:=by
   rcases Nat.lt_trichotomy i j with c | c | c
   .show absurd (f.trans (d.symm.trans h.symm)) (hn i j _ _ c)
   .show c
   .show absurd (h.trans (d.trans f.symm)) (hn j i _ _ c)
  subst this;have:=b.2.symm.trans a.2;show vl y.2=vl x.2;rw[Option.some.inj this]
def ShP(ks:List PD)(es:List (GD × List Str))(ss:List (Int × Int))(pl:Str->Int × Int):Prop:=(∀(i:Nat)(p:PD)(s:Int × Int),ks[i]?=some p->ss[i]?=some s->0<=vl s/\vl s<=vl p.mo)/\∀ e∈es,sm (svl ks ss) e.2<=vl (roomF pl e.1)
def prodI:List Int->Int
 | []=>1
 | f::r=>f*prodI r
theorem Jcq(f:Int):∀ fs:List Int,prodI (fs++[f])=prodI fs*f
 | []=>by simp[prodI]
 | g::fs=>by rw[cons_append];simp only[prodI,Jcq f fs];rw[Int.mul_assoc]
structure Scl(b:Int)(fs:List Int):Prop where
 b1:1<=b
 f1:∀ f∈fs,1<=f
 pr:prodI fs=b
theorem JeH:∀{fs:List Int},(∀ f∈fs,1<=f)->1<=prodI fs
 | [],_=>by simp[prodI]
 | f::fs,h=>by
  have h1:=h f (by simp);have h2:=JeH (fs:=fs) λg hg=>h g (by simp[hg]);have:=Int.mul_pos (show 0<f by ac_nf) (show 0<prodI fs by ac_nf);simp only[prodI];ac_nf
theorem Jgr:∀(as bs:List Int),prodI (as++bs)=prodI as*prodI bs
 | [],bs=>by simp[prodI]
 | a::as,bs=>by rw[cons_append];simp only[prodI,Jgr as bs];rw[Int.mul_assoc]
variable{a b:Int}
theorem Ji3(ha:1<=a)(hb:1<=b):a<=a*b/\b<=a*b:=by
 have d:=Int.mul_le_mul_of_nonneg_left hb (show 0<=a by ac_nf);have c:=Int.mul_le_mul_of_nonneg_right ha (show 0<=b by ac_nf);constructor <;> ac_nf
theorem Scl.take{fs:List Int}(h:Scl b fs)(i:Nat):1<=prodI (fs.take i)/\prodI (fs.take i)<=b:=by
 have d:=JeH (fs:=fs.take i) λf a=>h.f1 f (mem_of_mem_take a);have c:=JeH (fs:=fs.drop i) λf a=>h.f1 f (List.mem_of_mem_drop a);have e:=Jgr (fs.take i) (fs.drop i);rw[List.take_append_drop,h.pr]at e;have:=Ji3 d c;ac_nf
theorem Scl.mem{f:Int}{fs:List Int}(h:Scl b fs)(hf:f∈fs):f<=b:=by
 let(i,a):=List.getElem?_of_mem hf;have c:=(List.getElem?_eq_some_iff.mp a).1;have t:=h.take (i+1);rw[take_succ,a]at t;have e:=Jcq f (fs.take i);have:=Ji3 (h.take i).1 (h.f1 f hf);simp only[Option.toList_some]at t;ac_nf
theorem sz_le(h:Mth.Sz n b)(h0:0<=a)(h1:a<=b):Mth.Sz n a:=Nat.lt_of_le_of_lt (by ac_nf:a.natAbs<=b.natAbs) h
theorem Scl.nil:Scl 1 []:=⟨by decide,by simp,rfl⟩
theorem Scl.snoc{f:Int}{fs:List Int}(h:Scl b fs)(hf:1<=f):Scl (b*f) (fs++[f]):=⟨by
 have:=Int.mul_pos (show 0<b by have:=h.b1;ac_nf) (show 0<f by ac_nf);ac_nf,λg a=>by
 rcases mem_append.mp a with a | a
 .show h.f1 g a
 .rw[mem_singleton.mp a];show hf,by rw[Jcq,h.pr]⟩
structure LInv(n:Int × Int)(q:Int)(t:Int × Int):Prop where
 b1:1<=t.2
 g1:Mth.g t.1 t.2=1
 dv:t.2∣n.2
 cr:t.1*n.2=n.1*q*t.2
 ab:t.1.natAbs<=n.1.natAbs*q.natAbs
variable{n:Int × Int}
theorem LInv.nil(h:1<=n.2)(g:Mth.g n.1 n.2=1):LInv n 1 n:=⟨h,g,Int.dvd_refl _,by rw[Int.mul_one],by simp⟩
variable{q:Int}
theorem LInv.step{t:Int × Int}{f:Int}(h:LInv n q t)(hf:1<=f):LInv n (q*f) (t.1*f.fdiv (Mth.g t.2 f),t.2.fdiv (Mth.g t.2 f)):=by
 have v:0<Mth.g t.2 f:=Mth.g_pos ∅;have k:=Mth.JcI t.2 f;have j:=Mth.JbW t.2 f;have i:=Mth.JaK k ∅;have p:=Mth.JaK j ∅;have u:=Mth.JcY (b:=t.2) (d:=f) rfl ∅;have o:=Mth.Jcf k ∅ h.b1;have l:=Mth.Jef j ∅;have e:t.2.fdiv (Mth.g t.2 f)∣t.2:=⟨_,i.symm⟩;have m:Int.gcd t.1 (t.2.fdiv (Mth.g t.2 f))=1:=Mth.JaT (Mth.Jci (Mth.JaT (Mth.Jct h.g1)) e);have a:=h.cr;have c:=h.ab;generalize t.2.fdiv (Mth.g t.2 f)=r at *;generalize f.fdiv (Mth.g t.2 f)=f' at *;generalize Mth.g t.2 f=s at *;show(o,Mth.Jd2 (Mth.JaT (Mth.Jce (Mth.JaT m) u)),Int.dvd_trans e h.dv,?_,?_)
 .show t.1*f'*n.2=n.1*(q*f)*r;have : t.1*f'*n.2=(t.1*n.2)*f':=by rw[Int.mul_assoc,Int.mul_comm f', <- Int.mul_assoc]
  rw[this,a, <- i, <- p];simp only[Int.mul_assoc,Int.mul_comm,Int.mul_left_comm]
 .show(t.1*f').natAbs<=n.1.natAbs*(q*f).natAbs;rw[Int.natAbs_mul,Int.natAbs_mul, <- Nat.mul_assoc];show Nat.mul_le_mul c l
theorem LInv.all(h:1<=n.2)(hd:b.fmod n.2=0):LInv n b (n.1*b.fdiv n.2,1):=by
 have a:n.2∣b:=by
  rw[Int.fmod_eq_emod_of_nonneg _ ∅]at hd;show Int.dvd_of_emod_eq_zero hd
 have e:=Mth.JaK a ∅;have c:=Mth.Jef a h;show(Int.le_refl _,by unfold Mth.g;simp,Int.one_dvd _,?_,?_)
 .show n.1*b.fdiv n.2*n.2=n.1*b*1;rw[Int.mul_assoc,e,Int.mul_one]
 .show(n.1*b.fdiv n.2).natAbs<=_;rw[Int.natAbs_mul];show Nat.mul_le_mul_left _ c
theorem LInv.vl{t:Int × Int}(h:LInv n q t)(hn:1<=n.2):vl t=vl n*(q:Rat):=by
 have g:=JaA hn;have f:=JaA h.b1;have e:(t.1:Rat)*(n.2:Rat)=(n.1:Rat)*(q:Rat)*(t.2:Rat):=by exact_mod_cast h.cr
 unfold L2.vl;generalize(t.1:Rat)=a at *;generalize(t.2:Rat)=b at *;generalize(n.1:Rat)=c at *;generalize(n.2:Rat)=d at *;generalize(q:Rat)=q at *;grind
theorem LInv.fb{t:Int × Int}(h:LInv n q t)(hn:FB A B n)(hq:Mth.Sz C q):FB (A+C) B t:=by
 show(?_,?_,h.b1,h.g1)
 .show Nat.lt_of_le_of_lt h.ab ?_;have:=hn.s1.mul hq;unfold Mth.Sz at this;rw[Int.natAbs_mul]at this;show this
 .show Nat.lt_of_le_of_lt ?_ hn.s2;have:=Int.natAbs_dvd_natAbs.mpr h.dv;show Nat.le_of_dvd (by have:=hn.b1;ac_nf) this
def smF:List (Int × Int)->Rat
 | []=>0
 | a::r=>vl a+smF r
theorem JfU(n:Int × Int):∀ a,smF (a++[n])=smF a+vl n
 | []=>by simp only[nil_append,smF];grind
 | m::a=>by
  rw[cons_append];simp only[smF,JfU n a];grind
theorem scaled{x y q:Rat}(h:0<q):x*q<=y*q↔x<=y:=by
 constructor
 .intro a;show Rat.not_lt.mp λz=>?_;have:=Rat.mul_lt_mul_of_pos_right z h;show Rat.not_lt.mpr a this
 .intro a;show Rat.mul_le_mul_of_nonneg_right a (Rat.le_of_lt h)
def notStar:Expr->Bool
 | .Starred _ _=>false
 | _=>true
variable{e:Expr}
theorem Jaf{env:Env}(h:notStar e=true):starEach (e::es) env=(false,eval e env)::starEach es env:=by
 cases e <;> first | rfl | (simp[notStar]at h)
variable{te:TE}
theorem Jaa{t:TA}(ha:PE X e te)(hr:PA X es t)(hs:autoParam (notStar e=true) Au):PA X (e::es) (tCons te t):=Jlw ha hr (Jaf hs)
section
variable{x:V}{a c:Addr}{K:W.Frag}
def FLV(K:W.Frag)(H:Hp)(s:Int × Int)(x:V):Prop:=FrV K H x s.1 s.2
theorem FLV.sameT{s:Int × Int}(T:SameT H H')(h:FLV K H s x):FLV K H' s x:=FrV.sameT T h
def LFV(K:W.Frag)(H:Hp)(b:Int)(e:PD × (Int × Int))(x:V):Prop:=∃ t,LInv e.2 b t/\FrV K H x t.1 t.2
theorem LFV.sameT{e:PD × (Int × Int)}(T:SameT H H'):LFV K H b e x->LFV K H' b e x:=λζ=>by let(t,c,a):=ζ;show(t,c,a.sameT T)
end
theorem JkN:∀{ls:List PD}{ss:List (Int × Int)},ss.length=ls.length->(ls.zip ss).map (·.1.nm)=ls.map (·.nm)
 | [],ss,_=>by simp
 | p::ls,[],h=>by simp at h
 | p::ls,s::ss,h=>by
  rw[List.zip_cons_cons,map_cons,map_cons,JkN (by simpa using h)]
theorem JfE:∀{ls:List PD}{p q:PD},(ls.map (·.nm)).Nodup->p∈ls->q∈ls->p.nm=q.nm->p=q
 | [],_,_,_,hp,_,_=>by cases hp
 | a::ls,p,q,hn,hp,hq,e=>by
  rw[map_cons,nodup_cons]at hn;rcases mem_cons.mp hp with h1 | h1 <;> rcases mem_cons.mp hq with h2 | h2
  .rw[h1,h2]
  .subst h1;show absurd (e ▸ mem_map.mpr ⟨q,h2,rfl⟩) hn.1
  .subst h2;show absurd (e ▸ mem_map.mpr ⟨p,h1,rfl⟩) hn.1
  .show JfE hn.2 h1 h2 e
theorem Jgo{K:W.Frag}(hK:X.K=K):OpR X (compareOp .NotIn) (rIn K true):=hK ▸ JiV
theorem JhH:∀{xs:List V}{us:List Value},xs.length=us.length->(∀(i:Nat) x u,xs[i]?=some x->us[i]?=some u->RelV x u)->Vals xs us
 | [],[],_,_=>.nil
 | [],_::_,h,_=>by simp at h
 | _::_,[],h,_=>by simp at h
 | x::xs,u::us,h,k=>.cons (k 0 x u rfl rfl) (JhH (by simpa using h) λi x u h1 h2=>k (i+1) x u (by simpa using h1) (by simpa using h2))
def Jmq(xs:List V)(H:Hp)(Q:VK):Prop:=∃(d:Addr)(kvs:List (Key × V))(ss:List Str),xs=[.ref d]/\H d=some (.dK kvs)/\kvs.map (·.1)=ss.map Sum.inr/\∀ l,H l=none->Q (.ref l) (upd H l (.lst (ss.map V.str)))
theorem JhM(hc:X.calm=true):CallR X (.type "list") Jmq:=by
 intro D s σ H xs us Q I r h;let(d,kvs,l,rfl,e,A,q):=h;let(u,rfl,M):=vals1 r;cases M;let(K,L,j,f,F):=dk_of I.hok e;let(ep,G):=F.dictAt;have U:l.length=kvs.length:=by simpa using(congrArg List.length A).symm
 have S:j.length=kvs.length:=f.length.symm;have g:j.map (·.1)=kvs.map (·.1):=by
  clear F G A U S K q e;induction f with
  | nil=>rfl
  | cons n _ ih=>
   rw[map_cons,map_cons,ih,n.1]
 show W.kdl_call (W.kdl_dict (knd:=Jax X.prog X.w) (d:=d) (kvs:=j) (ep:=ep) L) (I.ok.hd hc) G ∅ λJ T a P k R c=>?_;have B:Vals (l.map V.str) a.toList:=JhH (by have n:=c.1;have Y:a.toList.length=a.size:=Array.length_toList;rw[length_map,Y,n];ac_nf) λi x v E B=>by
  rw[List.getElem?_map]at E;let(z,p,rfl):=Option.map_eq_some_iff.mp E;let(C,Z,O,N):=c.2 i v (by rw[<- Array.getElem?_toList];show B);have m:(j.map (·.1))[i]?=some C:=by rw[List.getElem?_map,O];rfl
  rw[g,A,List.getElem?_map,p]at m;have m:Sum.inr z=C:=Option.some.inj m;subst m;rcases JaR (show keyIs (Sum.inr z) v=true from N)with⟨b,hb,_⟩ | ⟨y,t,hy,rfl⟩
  .cases hb
  .cases hy;show(t,rfl)
 show(.ref _,_,I.laid (t':=T) (o:=.lst (l.map V.str)) k (Nat.le_refl _) (show ObjOk X.prog X.w _ J _ (.lst (l.map V.str))from⟨by rw[length_map];ac_nf,a.toList,P,B,by rw[Array.toArray_toList];show R⟩),rfl,q _ (I.hok.fresh (Nat.le_refl _)))
section
variable{prog:Program}{A:Around}{E:Value->Shared->Prop}{w:World}{s:Shared}
end
def ext(M:Str->Option Str)(f:Str):Str:=(M f).getD f
section
variable{M:Str->Option Str}{a b:Str}{f g:Str}
end
theorem JiJ(kvs:List (Key × V))(k:Key)(v:V):(putK kvs k v).map (·.1)=if(valV kvs k).isSome=true then kvs.map (·.1)else kvs.map (·.1)++[k]:=by
 unfold putK;rw[JcG];split
 .rw[map_map];show map_congr_left λa _=>?_;show(if a.1=k then(a.1,v)else a).1=a.1;split <;> rfl
 .rw[map_append];rfl
theorem JiI{k:Key}:(valV kvs k).isSome=true↔k∈kvs.map (·.1):=by
 rw[<- JcG,List.any_eq_true];constructor
 .rintro⟨b,c,a⟩;show mem_map.mpr ⟨b,c,by simpa using a⟩
 .intro h;let(b,c,a):=mem_map.mp h;show(b,c,by simpa using a)
section
variable{K:W.Frag}
def cut(p:Addr)(H:Hp):Hp:=λb=>if b=p then none else H b
variable{p:Addr}
theorem JbV{b:Addr}(h:b≠p):cut p H b=H b:=if_neg h
theorem Jde:Same (cut p H) H:=λb u h=>by
 unfold cut at h;split at h
 .cases h
 .show h
theorem Same.cut(S:Same H H'):Same (cut p H) (cut p H'):=λb u h=>by
 have e:b≠p:=λz=>by rw[z]at h;unfold L2.cut at h;rw[if_pos rfl]at h;cases h
 rw[JbV e]at h ⊢;show S _ _ h
theorem JgH:cut p (upd H p o)=cut p H:=by
 funext b
 by_cases c:b=p
 .rw[c];unfold cut;rw[if_pos rfl,if_pos rfl]
 .rw[JbV c,JbV c,Jah c]
variable{ys:List V}
theorem SqT.cut{a:Addr}(hp:H p=some (.lst ys))(h:SqT K H a xs):SqT K (cut p H) a xs:=by
 rcases h with(h | ⟨o,h⟩) | h
 .show .inl (.inl (by rw[JbV (λz=>by rw[z,hp]at h;cases h)];show h))
 .show .inl (.inr ⟨o,by rw[JbV (λz=>by rw[z,hp]at h;cases h)];show h⟩)
 .show .inr h
theorem FrV.cut(hp:H p=some (.lst ys))(h:FrV K H v a b):FrV K (cut p H) v a b:=by
 let(q,e,h):=h;show(q,e,h.cut hp)
end
variable{a b:Str->Rat}
theorem sm_le:∀{l:List Str},(∀ q∈l,a q<=b q)->sm a l<=sm b l
 | [],_=>Rat.le_refl
 | n::l,h=>by
  have h1:=h n (by simp);have h2:=sm_le (l:=l) λq hq=>h q (by simp[hq]);simp only[sm];grind
theorem sm_lt:∀{l:List Str}{n:Str},(∀ q∈l,a q<=b q)->n∈l->a n<b n->sm a l<sm b l
 | [],_,_,hn,_=>by cases hn
 | m::l,n,h,hn,lt=>by
  have h1:=h m (by simp);have h2:=sm_le (l:=l) λq hq=>h q (by simp[hq]);simp only[sm];rcases mem_cons.mp hn with e | hn
  .subst e;grind
  .have:=sm_lt (λq hq=>h q (by simp[hq])) hn lt;grind
theorem Jbm:∀{l:List Str},(∀ q∈l,a q=b q)->sm a l=sm b l
 | [],_=>rfl
 | n::l,h=>by simp only[sm,h n (by simp),Jbm (l:=l) λq hq=>h q (by simp[hq])]
theorem Jc7:∀{l:List Str},(∀ q∈l,a q=0)->sm a l=0
 | [],_=>rfl
 | n::l,h=>by
  simp only[sm,h n (by simp),Jc7 (l:=l) λq hq=>h q (by simp[hq])];grind
theorem sm_nn:∀{l:List Str},(∀ q∈l,0<=a q)->0<=sm a l
 | [],_=>Rat.le_refl
 | n::l,h=>by
  have h1:=h n (by simp);have h2:=sm_nn (l:=l) λq hq=>h q (by simp[hq]);simp only[sm];grind
theorem JeM(c:Rat):∀(l:List Str),sm (λn=>a n+c*b n) l=sm a l+c*sm b l
 | []=>by simp only[sm];grind
 | n::l=>by simp only[sm,JeM c l];grind
variable{n:Str}
theorem Jmw{l:List Str}(h:∀ q∈l,0<=a q)(hn:n∈l)(lt:0<a n):0<sm a l:=by
 have:=sm_lt (a:=λ_=>0) (b:=a) h hn lt;rw[Jc7 (a:=λ_=>0) λ_ _=>rfl]at this;show this
theorem JgO(f : α->Rat):∀{l:List α},l≠[]->∃ a∈l, ∀ b∈l,f a<=f b
 | [],h=>absurd rfl h
 | [a],_=>⟨a,by simp,λb hb=>by rw[mem_singleton.mp hb];show Rat.le_refl⟩
 | a::b::l,_=>by
  let(m,hm,h):=JgO f (l:=b::l) (by simp);by_cases c:f a<=f m
  .show(a,by simp,λx hx=>?_);rcases mem_cons.mp hx with rfl | hx
   .show Rat.le_refl
   .show Rat.le_trans c (h x hx)
  .show(m,mem_cons_of_mem _ hm,λx hx=>?_);rcases mem_cons.mp hx with rfl | hx
   .show Rat.le_of_lt (Rat.not_le.mp c)
   .show h x hx
structure Gp where
 R:Rat
 way:List Str
structure Fair(N:List Str)(w M:Str->Rat)(gs:List Gp)(lv:Str->Rat):Prop where
 lo:∀ n∈N,0<=lv n
 hi:∀ n∈N,lv n<=M n
 fit:∀ g∈gs,sm (λn=>lv n*w n) g.way<=g.R
 stop:∀ n∈N,lv n=M n\/∃ g∈gs,n∈g.way/\sm (λn=>lv n*w n) g.way=g.R/\∀ q∈g.way,lv q<=lv n
section
variable{N:List Str}{M f':Str->Rat}{gs:List Gp}{w:Str->Rat}{f:Str->Rat}
theorem Fair.less(hw:∀ n∈N,0<w n)(hs:∀ g∈gs, ∀ n∈g.way,n∈N)(h:Fair N w M gs f)(hi:∀ n∈N,f' n<=M n)(fit:∀ g∈gs,sm (λn=>f' n*w n) g.way<=g.R){n:Str}(hn:n∈N)(lt:f n<f' n):∃ q∈N,f' q<f q/\f q<=f n:=by
 rcases h.stop n hn with e | ⟨g,hg,hm,hR,hmax⟩
 .have:=hi n hn;grind
 .have j:=fit g hg;by_cases c:∃ q∈g.way,f' q<f q
  .let(q,d,i):=c;show(q,hs g hg q d,i,hmax q d)
  .have all:∀ q∈g.way,f q*w q<=f' q*w q:=λq d=>by
    have:=Rat.not_lt.mp λz=>c ⟨q,d,z⟩;show Rat.mul_le_mul_of_nonneg_right this (Rat.le_of_lt (hw q (hs g hg q d)))
   have:=sm_lt (a:=λn=>f n*w n) (b:=λn=>f' n*w n) all hm (Rat.mul_lt_mul_of_pos_right lt (hw n hn));grind
theorem Fair.uniq(hw:∀ n∈N,0<w n)(hs:∀ g∈gs, ∀ n∈g.way,n∈N)(h:Fair N w M gs f)(k:Fair N w M gs f'):∀ n∈N,f n=f' n:=by
 intro o m;show Classical.byContradiction λj=>?_;let(n,p,a):=JgO (λn=>if f n<=f' n then f n else f' n) (l:=N.filter λn=>decide (f n≠f' n)) (by
  intro z;have : o∈N.filter λn=>decide (f n≠f' n):=mem_filter.mpr ⟨m,by simpa using j⟩;rw[z]at this;cases this)
 have b:=mem_filter.mp p;have i:f n≠f' n:=by simpa using b.2
 by_cases c:f n<=f' n
 .have e:f n<f' n:=by grind
  let(q,d,s,r):=h.less hw hs k.hi k.fit b.1 e;have:=a q (mem_filter.mpr ⟨d,by simp;grind⟩);rw[if_pos c,if_neg (by grind)]at this;grind
 .have e:f' n<f n:=by grind
  let(q,d,s,r):=k.less hw hs h.hi h.fit b.1 e;have:=a q (mem_filter.mpr ⟨d,by simp;grind⟩);rw[if_neg c,if_pos (by grind)]at this;grind
end
def lvv(lvs:List (Str × (Int × Int)))(n:Str):Rat:=((lvs.find? λx=>decide (x.1=n)).map λx=>vl x.2).getD 0
def used(lvs:List (Str × (Int × Int)))(w:Str->Rat)(n:Str):Rat:=lvv lvs n*w n
def left(lvs:List (Str × (Int × Int)))(w:Str->Rat)(n:Str):Rat:=if n∈lvs.map (·.1)then 0 else w n
section
variable{lvs:List (Str × (Int × Int))}{L:Int × Int}{ns:List Str}{m:Str}{w:Str->Rat}
theorem Jcu(h:n∉lvs.map (·.1)):lvv lvs n=0:=by
 unfold lvv;rw[List.find?_eq_none.mpr λx a=>by
  have : x.1≠n:=λz=>h (mem_map.mpr ⟨x,a,z⟩);simpa using this]
 rfl
theorem Jeq(hn:(lvs.map (·.1)).Nodup){x:Str × (Int × Int)}(hx:x∈lvs):lvv lvs x.1=vl x.2:=by
 induction lvs with
 | nil=>cases hx
 | cons y r ih=>
  rw[map_cons,nodup_cons]at hn;unfold lvv;rw[List.find?_cons];rcases mem_cons.mp hx with e | hx
  .subst e;simp
  .have : y.1≠x.1:=λz=>hn.1 (z ▸ mem_map.mpr ⟨x,hx,rfl⟩);rw[decide_eq_false this];show ih hn.2 hx
theorem Jfp(h:n∈lvs.map (·.1)):lvv (lvs++ns.map λm=>(m,L)) n=lvv lvs n:=by
 unfold lvv;rw[List.find?_append];cases e:lvs.find? λx=>decide (x.1=n)with
 | none=>
  let(x,b,a):=mem_map.mp h;have:=List.find?_eq_none.mp e x b;simp[a]at this
 | some y=>rfl
theorem JgN(h:n∉lvs.map (·.1))(hn:n∈ns):lvv (lvs++ns.map λm=>(m,L)) n=vl L:=by
 have a:lvs.find? (λx=>decide (x.1=n))=none:=List.find?_eq_none.mpr λx b=>by
  have : x.1≠n:=λz=>h (mem_map.mpr ⟨x,b,z⟩);simpa using this
 unfold lvv;rw[List.find?_append,a,Option.none_or];cases e:(ns.map λm=>(m,L)).find? λx=>decide (x.1=n)with
 | none=>
  have:=List.find?_eq_none.mp e (n,L) (mem_map.mpr ⟨n,hn,rfl⟩);simp at this
 | some y=>
  have:=List.mem_of_find?_eq_some e;let(m,_,rfl):=mem_map.mp this;rfl
theorem Jbl:(lvs++ns.map λm=>(m,L)).map (·.1)=lvs.map (·.1)++ns:=by
 rw[map_append,map_map]
 congr 1
 show(map_congr_left λ_ _=>rfl).trans (List.map_id _)
def dlt(w:Str->Rat)(ns:List Str)(n:Str):Rat:=if n∈ns then w n else 0
theorem JfY(hd:∀ n∈ns,n∉lvs.map (·.1))(n:Str):used (lvs++ns.map λm=>(m,L)) w n=used lvs w n+vl L*dlt w ns n:=by
 unfold used dlt;by_cases c:n∈lvs.map (·.1)
 .rw[Jfp c,if_neg λz=>hd n z c];grind
 .by_cases d:n∈ns
  .rw[JgN c d,Jcu c,if_pos d];grind
  .have : n∉(lvs++ns.map λm=>(m,L)).map (·.1):=by
    rw[Jbl];simp only[mem_append];showλz=>z.elim c d
   rw[Jcu this,Jcu c,if_neg d];grind
theorem Jfo(hd:∀ n∈ns,n∉lvs.map (·.1))(n:Str):left (lvs++ns.map λm=>(m,L)) w n=left lvs w n+(-1)*dlt w ns n:=by
 unfold left dlt;rw[Jbl];simp only[mem_append];by_cases c:n∈lvs.map (·.1)
 .rw[if_pos (.inl c),if_pos c,if_neg λz=>hd n z c];grind
 .by_cases d:n∈ns
  .rw[if_pos (.inr d),if_neg c,if_pos d];grind
  .rw[if_neg (λz=>z.elim c d),if_neg c,if_neg d];grind
end
structure RInv(N:List Str)(w M:Str->Rat)(gs:List Gp)(lvs:List (Str × (Int × Int)))(c:Rat):Prop where
 nd:(lvs.map (·.1)).Nodup
 sub:∀ n∈lvs.map (·.1),n∈N
 c0:0<=c
 a:∀ x∈lvs,0<=vl x.2/\vl x.2<=c/\vl x.2<=M x.1
 b:∀ n∈N,n∉lvs.map (·.1)->c<=M n
 cc:∀ g∈gs,c*sm (left lvs w) g.way<=g.R-sm (used lvs w) g.way
 d:∀ x∈lvs,vl x.2=M x.1\/∃ g∈gs,x.1∈g.way/\(∀ q∈g.way,q∈lvs.map (·.1))/\g.R-sm (used lvs w) g.way=0/\∀ q∈g.way,lvv lvs q<=vl x.2
section
variable{N ns:List Str}{M:Str->Rat}{gs:List Gp}{lvs:List (Str × (Int × Int))}{c:Rat}{L:Int × Int}{w:Str->Rat}
theorem Jen(hw:∀ n∈N,0<w n){l:List Str}(hs:∀ n∈l,n∈N):∀ q∈l,0<=left lvs w q:=λq a=>by
 unfold left;split
 .show Rat.le_refl
 .show Rat.le_of_lt (hw q (hs q a))
theorem RInv.start(hM:∀ n∈N,0<=M n)(hR:∀ g∈gs,0<=g.R):RInv N w M gs [] 0 where
 nd:=.nil
 sub:=λn c=>by cases c
 c0:=Rat.le_refl
 a:=λx f=>by cases f
 b:=λn c _=>hM n c
 cc:=λg h=>by
  have e:sm (used [] w) g.way=0:=Jc7 λq _=>by
   unfold used;rw[Jcu (by simp)];grind
  have:=hR g h;rw[e];grind
 d:=λx f=>by cases f
theorem RInv.round(h:RInv N w M gs lvs c)(hw:∀ n∈N,0<w n)(hs:∀ g∈gs, ∀ n∈g.way,n∈N)
  (hnd:ns.Nodup) (hL1:∀ n∈N,n∉lvs.map (·.1)->vl L<=M n) (hL2:∀ g∈gs,0<sm (left lvs w) g.way->vl L*sm (left lvs w) g.way<=g.R-sm (used lvs w) g.way)
  (hns:∀ n,n∈ns↔n∈N/\n∉lvs.map (·.1)/\(M n=vl L\/∃ g∈gs,n∈g.way/\0<sm (left lvs w) g.way/\vl L*sm (left lvs w) g.way=g.R-sm (used lvs w) g.way)) (hc:c<=vl L) :
  RInv N w M gs (lvs++ns.map λn=>(n,L)) (vl L):=by
 have o:∀ n∈ns,n∉lvs.map (·.1):=λn i=>((hns n).mp i).2.1;have B:∀ n∈ns,n∈N:=λn i=>((hns n).mp i).1;have u:∀ l:List Str,sm (used (lvs++ns.map λn=>(n,L)) w) l=sm (used lvs w) l+vl L*sm (dlt w ns) l:=λl=>by
  rw[<- JeM];show Jbm λq _=>JfY o q
 have D:∀ l:List Str,sm (left (lvs++ns.map λn=>(n,L)) w) l=sm (left lvs w) l+(-1)*sm (dlt w ns) l:=λl=>by
  rw[<- JeM];show Jbm λq _=>Jfo o q
 have A:=λ(g:Gp)(f:g∈gs)=>sm_nn (Jen (lvs:=lvs) hw (hs g f));have r:∀ g∈gs, ¬ 0<sm (left lvs w) g.way->sm (left lvs w) g.way=0/\∀ q∈g.way,q∈lvs.map (·.1):=λg f z=>by
  have E:sm (left lvs w) g.way=0:=by have:=A g f;grind
  show(E,λq b=>Classical.byContradiction λy=>z ?_);show Jmw (Jen hw (hs g f)) b ?_;unfold left;rw[if_neg y];show hw q (hs g f q b)
 have key:∀ g∈gs,vl L*sm (left lvs w) g.way<=g.R-sm (used lvs w) g.way:=λg f=>by
  by_cases p:0<sm (left lvs w) g.way
  .show hL2 g f p
  .have:=h.cc g f;rw[(r g f p).1]at this ⊢;grind
 show(?_,?_,?_,?_,?_,?_,?_)
 .rw[Jbl];show nodup_append.mpr ⟨h.nd,hnd,λx j y G z=>o y G (z ▸ j)⟩
 .intro n i;rw[Jbl]at i;rcases mem_append.mp i with i | i
  .show h.sub n i
  .show B n i
 .show Rat.le_trans h.c0 hc
 .intro x j;rcases mem_append.mp j with j | j
  .have:=h.a x j;show(this.1,Rat.le_trans this.2.1 hc,this.2.2)
  .let(n,i,rfl):=mem_map.mp j;show(Rat.le_trans h.c0 hc,Rat.le_refl,hL1 n (B n i) (o n i))
 .intro n i k;rw[Jbl]at k;show hL1 n i λz=>k (mem_append.mpr (.inl z))
 .intro g f;rw[u,D];have:=key g f;grind
 .intro x j;rcases mem_append.mp j with j | j
  .rcases h.d x j with e | ⟨g,f,t,s,C,h4⟩
   .show .inl e
   .show .inr ⟨g,f,t,λq b=>?_,?_,λq b=>?_⟩
    .rw[Jbl];show mem_append.mpr (.inl (s q b))
    .rw[u,Jc7 (a:=dlt w ns) λq b=>if_neg λz=>o q z (s q b)];grind
    .rw[Jfp (s q b)];show h4 q b
  .let(n,i,rfl):=mem_map.mp j;obtain⟨H,F,e | ⟨g,f,t,s,C⟩⟩:=(hns n).mp i
   .show .inl e.symm
   .have m:∀ q∈g.way,q∉lvs.map (·.1)->q∈ns:=λq b v=>(hns q).mpr ⟨hs g f q b,v, .inr ⟨g,f,b,s,C⟩⟩;show .inr ⟨g,f,t,λq b=>?_,?_,λq b=>?_⟩
    .rw[Jbl];by_cases y:q∈lvs.map (·.1)
     .show mem_append.mpr (.inl y)
     .show mem_append.mpr (.inr (m q b y))
    .have e:sm (dlt w ns) g.way=sm (left lvs w) g.way:=Jbm λq b=>by
      unfold dlt left;by_cases y:q∈lvs.map (·.1)
      .rw[if_neg λz=>o q z y,if_pos y]
      .rw[if_pos (m q b y),if_neg y]
     rw[u,e];grind
    .by_cases y:q∈lvs.map (·.1)
     .rw[Jfp y];let(x,j,rfl):=mem_map.mp y;rw[Jeq h.nd j];show Rat.le_trans (h.a x j).2.1 hc
     .rw[JgN y (m q b y)];show Rat.le_refl
theorem RInv.le(h:RInv N w M gs lvs c)(hL:(∃ n∈N,n∉lvs.map (·.1)/\M n=vl L)\/∃ g∈gs,0<sm (left lvs w) g.way/\vl L*sm (left lvs w) g.way=g.R-sm (used lvs w) g.way):c<=vl L:=by
 rcases hL with⟨n,hn,hS,e⟩ | ⟨g,hg,p,e⟩
 .rw[<- e];show h.b n hn hS
 .have:=h.cc g hg;rw[<- e]at this;show(scaled p).mp this
theorem RInv.fair(h:RInv N w M gs lvs c)(hw:∀ n∈N,0<w n)(hs:∀ g∈gs, ∀ n∈g.way,n∈N)(hall:∀ n∈N,n∈lvs.map (·.1)):Fair N w M gs (lvv lvs):=by
 have f:∀ n∈N, ∃ x∈lvs,x.1=n/\lvv lvs n=vl x.2:=λn i=>by
  let(x,b,e):=mem_map.mp (hall n i);have e:x.1=n:=e;show(x,b,e,by rw[<- e];show Jeq h.nd b)
 show(λn i=>?_,λn i=>?_,λg k=>?_,λn i=>?_)
 .let(x,b,_,e):=f n i;rw[e];show(h.a x b).1
 .let(x,b,j,e):=f n i;rw[e, <- j];show(h.a x b).2.2
 .have:=h.cc g k;rw[Jc7 (a:=left lvs w) λq l=>if_pos (hall q (hs g k q l))]at this;show sm (used lvs w) g.way<=_;grind
 .let(x,b,j,e):=f n i;rcases h.d x b with q | ⟨g,k,h1,_,h3,h4⟩
  .show .inl (by rw[e,q,j])
  .show .inr ⟨g,k,j ▸ h1,?_,λq l=>?_⟩
   .show sm (used lvs w) g.way=_;grind
   .rw[e];show h4 q l
end
def Dv(D:Int)(r:Rat):Prop:=∃ k:Int,r*(D:Rat)=(k:Rat)
section
variable{E:Int}{r:Rat}{D:Int}{s:Rat}
theorem Dv.int(k:Int):Dv D (k:Rat):=⟨k*D,by push_cast;rfl⟩
theorem Dv.add(h:Dv D r)(k:Dv D s):Dv D (r+s):=by
 let(a,c):=h;let(b,d):=k;show(a+b,by push_cast;grind)
theorem Dv.sub(h:Dv D r)(k:Dv D s):Dv D (r-s):=by
 let(a,c):=h;let(b,d):=k;show(a-b,by push_cast;grind)
theorem Dv.mul(h:Dv D r)(k:Int):Dv D (r*(k:Rat)):=by
 let(a,b):=h;show(a*k,by push_cast;grind)
theorem Dv.more(h:Dv D r)(k:Int):Dv (D*k) r:=by
 let(a,b):=h;show(a*k,by push_cast;grind)
theorem Dv.over{k:Int}(hk:1<=k)(h:Dv D (r*(k:Rat))):Dv (D*k) r:=by
 let(a,b):=h;show(a,by push_cast;grind)
theorem Dv.den{t:Int × Int}(h:Dv D (vl t))(ht:1<=t.2)(hg:Mth.g t.1 t.2=1):t.2∣D:=by
 let(a,c):=h;have f:=JaA ht;have e:(t.1:Rat)*D=a*t.2:=by
  unfold vl at c;have : (t.1:Rat)=(t.1:Rat)/t.2*t.2:=by rw[Rat.div_mul_cancel f]
  rw[this];grind
 have e:t.1*D=a*t.2:=by exact_mod_cast e
 show Mth.Jdw (a:=t.1) (b:=t.2) (d:=D) (Mth.Jct hg) ⟨a,?_⟩;rw[e,Int.mul_comm]
theorem Dv.fb{t:Int × Int}{m n:Nat}{Q:Int}(h:Dv D (vl t))(ht:1<=t.2)(hg:Mth.g t.1 t.2=1)(hD:1<=D)(sD:Mth.Sz n D)(h0:0<=vl t)(h1:vl t<=(Q:Rat))(sQ:Mth.Sz m Q):FB (m+n) n t:=by
 have i:=h.den ht hg;have j:t.2<=D:=Int.le_of_dvd ∅ i;have c:Mth.Sz n t.2:=Nat.lt_of_le_of_lt (by ac_nf:t.2.natAbs<=D.natAbs) sD;have f:=JaA ht;have a:(0:Rat)<(t.2:Rat):=by exact_mod_cast (show 0<t.2 by ac_nf)
 have e:(t.1:Rat)=vl t*t.2:=by unfold vl;rw[Rat.div_mul_cancel f]
 have d:(0:Rat)<=(t.1:Rat):=by rw[e];show Rat.mul_nonneg h0 (Rat.le_of_lt a)
 have b:(t.1:Rat)<=(Q:Rat)*t.2:=by rw[e];show Rat.mul_le_mul_of_nonneg_right h1 (Rat.le_of_lt a)
 have d:0<=t.1:=by exact_mod_cast d
 have b:t.1<=Q*t.2:=by exact_mod_cast b
 show(Nat.lt_of_le_of_lt (?_:t.1.natAbs<=(Q*t.2).natAbs) (sQ.mul c),c,ht,hg);ac_nf
end
theorem Jlc(rel:KV kvs vs):vs.map (·.1)=kvs.map (·.1):=by
 unfold KV at rel;induction rel with
 | nil=>rfl
 | cons h1 _ ih=>rw[map_cons,map_cons,ih,h1.1]
theorem Jla{w:World}{v:Value}(h:(Jax P w).is (Sum.inr z) v=true):∃ t,v=.str z t:=by
 rcases JaR (show keyIs (Sum.inr z) v=true from h)with⟨b,hb,_⟩ | ⟨y,t,hy,rfl⟩
 .cases hb
 .cases hy;show(t,rfl)
def Itk(d:Addr)(od:Obj)(kvs:List (Key × V))(ss:List Str):It :=
 ⟨λi H=>H d=some (.frz od (.dK kvs))/\i<ss.length,λi H x H'=>H'=H/\(ss.map V.str)[i]?=some x,λi H=>H d=some (.frz od (.dK kvs))/\ss.length<=i⟩
variable{ss:List Str}
theorem Jjr{w:World}{K:W.Frag}(rel:KV kvs vs)(hk:kvs.map (·.1)=ss.map Sum.inr)(hd:∀ h:Heap,h.get? d=some od->h.DictAt (Jax P w) d vs ep) :
  Turn P w K tg (Itk d od kvs ss) [it] it (λi h=>h.IsKeyIter it d i vs.length ep) where
 mem:=by simp
 obj:=λi h a b l=>by
  obtain rfl:b=it:=by simpa using l
  let(o,e,c,z):=a;show(o,e,λv q=>by rw[z]at q;cases q)
 keep:=λi h u a k=>a.at λo e=>k it (by simp) o e
 item:=by
  intro X L D M O i f s σ H E I x a B;subst L D M;let(j,N):=B;let(G,F,S,A,C,J):=x it (by simp);have g:=(I.hok d _ j).1;have T:=rel.length;have U:kvs.length=ss.length:=by simpa using congrArg List.length hk
  obtain⟨⟨k,Y⟩,r⟩:∃ p,vs[i]?=some p:=⟨_,List.getElem?_eq_getElem (show i<vs.length by ac_nf)⟩;have y:(vs.map (·.1))[i]?=some k:=by rw[List.getElem?_map,r];rfl
  rw[Jlc rel,hk,List.getElem?_map,List.getElem?_eq_getElem N]at y;have y:Sum.inr ss[i]=k:=Option.some.inj y;subst y;show wpAny_pyNext_dict_item a (hd _ g) r λkey u m n R=>?_;let(t,rfl):=Jla m;have I1:Inv X f σ H { s with heap:=u }:=I.turned (t':=s.toks) (λb o l e=>(R.2 b l).trans e) G F A C J;let(o,e,c,z):=id n;show(_,rfl,go_of (s:={ s with heap:=u }) e c z ⋯ ⟨.str ss[i],H,I1,⟨t,rfl⟩,⟨rfl,by rw[List.getElem?_map,List.getElem?_eq_getElem N];rfl⟩,n,λb l=>(x b l).1⟩)
 done:=by
  intro X L D M O i f s σ H E I x a B;subst L D M;let(j,N):=B;let(G,F,S,A,C,J):=x it (by simp);have g:=(I.hok d _ j).1;have T:=rel.length;have U:kvs.length=ss.length:=by simpa using congrArg List.length hk
  show wpAny_pyNext_dict_end (I.ok.hd O) a (hd _ g) (List.getElem?_eq_none ∅) λu Q=>⟨rfl,I.turned (t':=s.toks) (λb o l e=>Q b o l e) G F A C J⟩
 self:=λ_ _ _ _ _ a h=>wpAny_pyIter_keyiter a h
def iKeys(td:TE):TI:=λσ H R=>td σ H λx H1=>∃(d:Addr)(kvs:List (Key × V))(ss:List Str),x=.ref d/\H1 d=some (.dK kvs)/\kvs.map (·.1)=ss.map Sum.inr/\∀ od,R (Itk d od kvs ss) (upd H1 d (.frz od (.dK kvs)))
variable{o:Expr}
theorem JiZ{td:TE}(ho:PE X o td):PI X tg o (iKeys td):=by
 intro c s σ H R I h;show thn (ho c s σ H _ I h) λv i ζ=>?_;let(y,B,I1,r,d,kvs,C,t,e,x,n):=ζ;subst t;obtain rfl:v=Value.ref d:=r;let(A,l,vs,g,p):=dk_of I1.hok e;let(ep,j):=p.dictAt;let(k,u,a,rest):=id j;show wpAny_pyIter_dict (knd:=Jax X.prog X.w) (d:=d) (kvs:=vs) (ep:=ep) l j ?_;have m:∀ b o,i.heap.get? b=some o->(i.heap.push { cls:=.type "dict_keyiterator",data:=.fields #[.ref d, .int 0 0, .int vs.length 0, .int ep 0] }).get? b=some o:=λb o z=>Heap.get?_push_of_some _ z;have I2:=(I1.freeze e a).kept (t':=i.toks) m;show(_,[_],_,_,_,rfl,I2,Jjr (vs:=vs) (ep:=ep) g x (λh q=>⟨k,u,q,rest⟩),⟨_,Heap.get?_push_size _ rfl,rfl,rfl⟩,λb f=>?_,n k);obtain rfl:=mem_singleton.mp f;show I1.fpOk (Nat.le_refl _) ((I1.freeze e a).hok.fresh (Nat.le_refl _))
def JkI(ts:TS):TS:=λD σ H=>∃ d kvs,H d=some (.dK kvs)/\ts { nx:=λσ' H'=>∃ od kvs',H' d=some (.frz od (.dK kvs'))/\D.nx σ' (upd H' d (.dK kvs')),rt:=λ_ _=>False } σ H
variable{st:Stmt}{ts:TS}
theorem JlE(h:PS X st ts):PS X st (JkI ts):=by
 intro b s σ H D I ⟨d,j,i,q⟩;show wpAny_mono (h b s σ H _ I q) (λf l z=>?_) λ_ _ z=>z;cases f with
 | next=>
  let(σ',c,I1,k,e,g,a):=z;show(σ',_,I.thaw i I1 g,a)
 | brk=>let(σ',c,I1,a):=z;show a.elim
 | cont=>let(σ',c,I1,a):=z;show a.elim
 | ret v=>let(y,σ',c,I1,r,a):=z;show a.elim
theorem ps_no:PS X st (λ_ _ _=>False):=λ_ _ _ _ _ _ h=>h.elim
def tSumV(td:TE):TE:=λσ H Q=>td σ H λx H1=>∃(d:Addr)(kvs:List (Key × V))(ns:List Int),x=.ref d/\H1 d=some (.dK kvs)/\kvs.map (·.2)=ns.map V.int/\Q (.int ns.sum) H1
theorem Ji2(ns:List Int):∀ k,k<=ns.length->preSum (λi=>ns.getD i 0) k=(ns.take k).sum
 | 0,_=>by simp[preSum]
 | k+1,h=>by
  rw[take_sum_succ ns k ∅, <- Ji2 ns k ∅];rfl
theorem JlB{td:TE}{p1:Pos}{x:Str}(hc:X.calm=true)(hx:x="sum")(hg:Gl X x)(hm:X.mg x=none)(hv:bootBuiltins x=some (.builtin "sum"))(ho:PE X o td)
  (hb:autoParam (attributeBase o "values" X.env (eval o X.env)=eval o X.env) Au) (hn:autoParam ((apos.endLine == cpos.line)=true) Au) :
  PE X (.Call (.Name x p1) [.Call (.Attribute o "values" apos) [] [] cpos] [] pos) (tSumV td):=by
 intro f s σ H Q I h;have N:x≠"__name__":=by rw[hx];decide
 have G:(x == ("__debug__" : Str))=false:=by rw[hx];decide
 show wpAny_Call_Name_kw (Jfa I hg hm hv ?_ N G);show PyProof.Rows.callWith_builtin1 ?_ rfl rfl;show wpAny _ _ (spliced ((false,eval (.Call (.Attribute o "values" apos) [] [] cpos) X.env)::backTo pos (starEach [] X.env))) _ _ s;show Calls.spliced_cons ?_;show wpAny_Call_method0_late hb hn (thn (ho f s σ H _ I h) λv n ζ=>?_);let(y,E,I1,P,d,kvs,a,R,e,m,M):=ζ;subst R;obtain rfl:v=Value.ref d:=P;let(B,U,D):=Jgb I1 (.inl ⟨kvs, .inl e⟩);let(V,_,j,l,t):=dk_of I1.hok e;show("dict","dict.values",PySem.F.plainAttrs_dict,PySem.F.slot_dict_values,PySem.F.type_dict_values,B,U,Calls.callWith_builtin rfl (PySem.evalArgs_none ?_));show call_meetsIn PySem.F.slot_dict_values B PySem.F.entry_dict_values (PySem.F.args_dict_values_1 _) (meets_dict_values (Jax X.prog X.w) d D) ⟨⟨j,t⟩,?_⟩;show Calls.spliced_nil ?_;let(ep,q):=t.dictAt;have T:X.A.in1.handled=none:=by have:=I.ok.hd hc;simp[this]
 have r:d<n.heap.objs.size:=q.lt_size;have p:(n.heap.push { cls:=.type "dict_values",data:=.fields #[.ref d] }).objs.size=n.heap.objs.size+1:=Heap.size_push ..;show call_sum_walkG (wpAny_pyIter_values (knd:=Jax X.prog X.w) (v:=n.heap.objs.size) (d:=d) (kvs:=j) (ep:=ep) ⟨_,Heap.get?_push_size _ rfl,rfl,rfl⟩ (q.push _) ?_);have lv:=l.length;have Y:a.length=kvs.length:=by simpa using(congrArg List.length m).symm
 show(_,_,_,_,_,_,λi=>a.getD i 0,rfl,Walks.dictValues (knd:=Jax X.prog X.w) T _ d (by rw[p];show Nat.ne_of_lt (Nat.lt_succ_of_lt r)) j ep,⟨⟨_,Heap.get?_push_size _ rfl,rfl,rfl⟩,(q.push _).push _⟩,λb g=>?_,λi u L=>?_,λW S t' k=>?_)
 .simp only[mem_cons,not_mem_nil,or_false]at g;show b<(Heap.push _ _).objs.size;rw[Heap.size_push];rcases g with rfl | rfl
  .show Nat.lt_succ_self _
  .rw[p];show Nat.lt_succ_of_lt (Nat.lt_succ_of_lt r)
 .let(Z,C):=L;have K:=Jjv l;have J:(j.map (·.2))[i]?=some u:=by rw[List.getElem?_map,C];rfl
  have li:i<kvs.length:=by
   have:=(List.getElem?_eq_some_iff.mp C).1;ac_nf
  let(u',c,O):=K.get (i:=i) (x:=.int (a.getD i 0)) (by rw[m,List.getElem?_map,List.getElem?_eq_getElem (show i<a.length by ac_nf)];simp[List.getD_eq_getElem?_getD,List.getElem?_eq_getElem (show i<a.length by ac_nf)]);rw[J]at c;cases c;show O
 .rw[show j.length=a.length by ac_nf,Ji2 a _ (Nat.le_refl _),take_of_length_le (Nat.le_refl _)];show(.int _,E,I1.kept (t':=S) (λb o z=>k b o (by simp only[mem_cons,not_mem_nil,or_false];have:=Heap.lt_size z;rw[p];show Nat.ne_of_lt (Nat.lt_succ_of_lt this)) (Heap.get?_push_of_some _ (Heap.get?_push_of_some _ z))),⟨_,rfl⟩,M)
section
variable{cs:List (Nat × Str)}{tl:TE}{tt:TT}{Q:VK}{k:Nat}{g:TG}{td:TE}
theorem y89y:tSumV td σ H Q=td σ H λx H1=>∃(d:Addr)(kvs:List (Key × V))(ns:List Int),x=.ref d/\H1 d=some (.dK kvs)/\kvs.map (·.2)=ns.map V.int/\Q (.int ns.sum) H1:=rfl
theorem y37y:JdW k cs (iKeys td) g tt te σ H Q=td σ H λx H1=>∃(d1:Addr)(kvs1:List (Key × V))(ss:List Str),x=.ref d1/\H1 d1=some (.dK kvs1)/\kvs1.map (·.1)=ss.map Sum.inr/\∀ od,Jbt (Itk d1 od kvs1 ss) k cs g tt te σ Q (upd H1 d1 (.frz od (.dK kvs1))):=rfl
theorem y39y:tThaw (JdW k cs (iKeys td) g tt te) σ H Q=∃ d kvs,H d=some (.dK kvs)/\td σ H λx H1=>∃(d1:Addr)(kvs1:List (Key × V))(ss:List Str),x=.ref d1/\H1 d1=some (.dK kvs1)/\kvs1.map (·.1)=ss.map Sum.inr/\∀ od,Jbt (Itk d1 od kvs1 ss) k cs g tt te σ (λv H'=>∃ od kvs',H' d=some (.frz od (.dK kvs'))/\Q v (upd H' d (.dK kvs'))) (upd H1 d1 (.frz od (.dK kvs1))):=rfl
theorem Jbt.keys(Pv:Nat->List V->Hp->Prop)(h0:Pv 0 [] H1)(hl:∀ i ys H',i<=ss.length->Pv i ys H'->H' d=some (.frz od (.dK kvs))/\ys.length<=sizeLine)
  (hs:∀ i z ys H2,ss[i]?=some z->Pv i ys H2->g (.str z) (List.replicate k none++Jaz cs σ) H2 λσ4 H4=>tt σ4 H4 λb H5=>if b=true then te σ4 H5 λy H6=>Pv (i+1) (ys++[y]) H6 else Pv (i+1) ys H5) (hd:∀ ys H2,Pv ss.length ys H2->∀ p,H2 p=none->Q (.ref p) (upd H2 p (.lst ys))) :
  Jbt (Itk d od kvs ss) k cs g tt te σ Q H1:=by
 show(λi m ys H'=>Pv i ys H'/\i<=ss.length/\m=ss.length-i,⟨_,h0,Nat.zero_le _,rfl⟩,?_);rintro i m ys H2 ⟨h,s,rfl⟩;let(j,t):=hl i ys H2 s h;show(t,?_);by_cases c:i<ss.length
 .show .inr ⟨⟨j,c⟩,?_⟩;rintro x u ⟨rfl,l⟩;rw[List.getElem?_map]at l;let(z,n,rfl):=Option.map_eq_some_iff.mp l;have w:∀(f:List V)(H5:Hp),Pv (i+1) f H5=∃ m',m'<ss.length-i/\Pv (i+1) f H5/\i+1<=ss.length/\m'=ss.length-(i+1):=λf H5=>
   propext ⟨λq=>⟨_,Nat.sub_lt_sub_left c (Nat.lt_succ_self i),q,c,rfl⟩,λζ=>by let(_,_,q,_):=ζ;show q⟩
  have o:(λ(y:V)(H6:Hp)=>Pv (i+1) (ys++[y]) H6)=λy H6=>∃ m',m'<ss.length-i/\Pv (i+1) (ys++[y]) H6/\i+1<=ss.length/\m'=ss.length-(i+1):=by
   funext y H6
   show w _ _
  have e:(λ(σ4:St)(H4:Hp)=>tt σ4 H4 λb H5=>if b=true then te σ4 H5 λy H6=>Pv (i+1) (ys++[y]) H6 else Pv (i+1) ys H5)=λσ4 H4=>tt σ4 H4 λb H5=>if b=true then te σ4 H5 λy H6=>∃ m',m'<ss.length-i/\Pv (i+1) (ys++[y]) H6/\i+1<=ss.length/\m'=ss.length-(i+1)else∃ m',m'<ss.length-i/\Pv (i+1) ys H5/\i+1<=ss.length/\m'=ss.length-(i+1):=by
   funext σ4 H4
   congr 1
   funext b H5
   by_cases a:b=true
   .rw[if_pos a,if_pos a, <- o]
   .rw[if_neg a,if_neg a];show w ys H5
  have:=hs i z ys _ n h;rw[e]at this;show this
 .have r:i=ss.length:=by ac_nf
  subst r;show .inl ⟨⟨j,Nat.le_refl _⟩,hd ys H2 h⟩
theorem y8cy{En:Ends}:JkI ts En σ H=∃ d kvs,H d=some (.dK kvs)/\ts { nx:=λσ' H'=>∃ od kvs',H' d=some (.frz od (.dK kvs'))/\En.nx σ' (upd H' d (.dK kvs')),rt:=λ_ _=>False } σ H:=rfl
theorem DGet.f{a:Addr}{k:Key}(e:H a=some (.frz od (.dK kvs))):DGet H a (kV k) (valV kvs k):=.inl ⟨kvs,k, .inr ⟨od,e⟩,rfl,rfl⟩
end
def mulF(a c:Int × Int):Int × Int:=(Mth.top (a.1*c.1) (a.2*c.2),Mth.bot (a.1*c.1) (a.2*c.2))
def divF(a c:Int × Int):Int × Int:=(Mth.top (a.1*c.2) (a.2*c.1),Mth.bot (a.1*c.2) (a.2*c.1))
def subF(a c:Int × Int):Int × Int:=(Mth.top (a.1*c.2-c.1*a.2) (a.2*c.2),Mth.bot (a.1*c.2-c.1*a.2) (a.2*c.2))
structure Lo(a:Int × Int):Prop where
 b1:1<=a.2
 g1:Mth.g a.1 a.2=1
variable{a:Int × Int}
theorem FB.lo(h:FB A B a):Lo a:=⟨h.b1,h.g1⟩
variable{c:Int × Int}
theorem Lo.inj(h:Lo a)(k:Lo c)(e:vl a=vl c):a=c:=JkL h.b1 k.b1 h.g1 k.g1 e
theorem Jfc{t b:Int}(hb:1<=b):Lo (Mth.top t b,Mth.bot t b):=⟨Mth.Jcs ∅,Mth.g_low ∅⟩
variable{y:Int}
theorem JbA{x:Int}(hx:1<=x)(hy:1<=y):1<=x*y:=by
 have:=Int.mul_pos (show 0<x by ac_nf) (show 0<y by ac_nf);ac_nf
theorem JkM(ha:1<=a.2)(hc:1<=c.2):vl (mulF a c)=vl a*vl c:=by
 unfold mulF;rw[JhI (JbA ha hc)];have d:=JaA ha;have b:=JaA hc;unfold vl;push_cast;generalize(a.1:Rat)=x at *;generalize(a.2:Rat)=y at *;generalize(c.1:Rat)=z at *;generalize(c.2:Rat)=t at *;grind
theorem JkK(ha:1<=a.2)(hc:1<=c.1)(hd:1<=c.2):vl (divF a c)=vl a/vl c:=by
 unfold divF;rw[JhI (JbA ha hc)];have e:=JaA ha;have d:=JaA hc;have b:=JaA hd;unfold vl;push_cast;generalize(a.1:Rat)=x at *;generalize(a.2:Rat)=y at *;generalize(c.1:Rat)=z at *;generalize(c.2:Rat)=t at *;grind
theorem JmD(ha:1<=a.2)(hc:1<=c.2):vl (subF a c)=vl a-vl c:=by
 unfold subF;rw[JhI (JbA ha hc)];have d:=JaA ha;have b:=JaA hc;unfold vl;push_cast;generalize(a.1:Rat)=x at *;generalize(a.2:Rat)=y at *;generalize(c.1:Rat)=z at *;generalize(c.2:Rat)=t at *;grind
theorem Jfq(ha:1<=a.2)(hc:1<=c.2):Lo (mulF a c):=Jfc (JbA ha hc)
theorem Jk2(ha:1<=a.2)(hc:1<=c.1):Lo (divF a c):=Jfc (JbA ha hc)
theorem JlO(ha:1<=a.2)(hc:1<=c.2):Lo (subF a c):=Jfc (JbA ha hc)
theorem JgC(k:Int):vl (k,1)=(k:Rat):=by
 unfold vl;have : ((1:Int):Rat)=1:=rfl;grind
theorem Jhc:vl (0,1)=0:=JgC 0
structure LidD where
 nm:Str
 rest:Int × Int
 ws:List (Str × Int)
 load:Int
 last:Int × Int
def wtOf(ws:List (Str × Int))(n:Str):Option Int:=(ws.find? λx=>decide (x.1=n)).map (·.2)
def LidD.settle(e:LidD)(n:Str)(L:Int × Int):LidD:=match wtOf e.ws n with
 | none=>e
 | some k=>{ e with rest:=subF e.rest (mulF L (k,1)),load:=e.load-k,last:=L }
variable{ws:List (Str × Int)}
theorem Jhe:wtOf ws n=none↔n∉ws.map (·.1):=by
 unfold wtOf;rw[Option.map_eq_none_iff,List.find?_eq_none];constructor
 .intro h z;let(x,a,e):=mem_map.mp z;have:=h x a;simp[e]at this
 .intro h x a;have : x.1≠n:=λz=>h (mem_map.mpr ⟨x,a,z⟩);simpa using this
theorem Jjy{k:Int}(h:wtOf ws n=some k):(n,k)∈ws:=by
 unfold wtOf at h;let(x,b,e):=Option.map_eq_some_iff.mp h;have d:=List.mem_of_find?_eq_some b;have c:=List.find?_some b;have a:x.1=n:=by simpa using c
 let(y,z):=x;have e:z=k:=e;have a:y=n:=a;subst e;subst a;show d
structure LidOk(w:Str->Rat)(g:Gp)(lvs:List (Str × (Int × Int)))(e:LidD):Prop where
 pm:(e.ws.map (·.1)).Perm g.way
 nd:(e.ws.map (·.1)).Nodup
 wt:∀ x∈e.ws,w x.1=(x.2:Rat)/\1<=x.2
 rest:vl e.rest=g.R-sm (used lvs w) g.way
 load:(e.load:Rat)=sm (left lvs w) g.way
 low:Lo e.rest
 llow:Lo e.last
 l1:∀ n∈g.way,n∈lvs.map (·.1)->lvv lvs n<=vl e.last
 l2:(∃ n∈g.way,n∈lvs.map (·.1))->∃ n∈g.way,n∈lvs.map (·.1)/\lvv lvs n=vl e.last
theorem JkC{w:Str->Rat}{m:Str}:∀{l:List Str},l.Nodup->sm (dlt w [m]) l=if m∈l then w m else 0
 | [],_=>by simp[sm]
 | n::l,h=>by
  rw[nodup_cons]at h;simp only[sm,JkC h.2];unfold dlt;by_cases c:n=m
  .subst c;rw[if_neg h.1];simp;grind
  .have c':m≠n:=λz=>c z.symm;simp only[mem_singleton,mem_cons,c,c',false_or,if_false];grind
section
variable{lvs:List (Str × (Int × Int))}{e:LidD}{L:Int × Int}{w:Str->Rat}{g:Gp}{m:Str}
theorem LidOk.settle(h:LidOk w g lvs e)(hnd:(lvs.map (·.1)).Nodup)(hm:m∉lvs.map (·.1))(hL:Lo L)(hle:∀ x∈lvs,vl x.2<=vl L):LidOk w g (lvs++[(m,L)]) (e.settle m L):=by
 have u:∀ n∈[m],n∉lvs.map (·.1):=λn d=>by rw[mem_singleton.mp d];show hm
 have t:g.way.Nodup:=h.pm.nodup_iff.mp h.nd;have o:sm (used (lvs++[(m,L)]) w) g.way=sm (used lvs w) g.way+vl L*sm (dlt w [m]) g.way:=by
  rw[<- JeM];show Jbm λq _=>JfY (ns:=[m]) u q
 have l:sm (left (lvs++[(m,L)]) w) g.way=sm (left lvs w) g.way+(-1)*sm (dlt w [m]) g.way:=by
  rw[<- JeM];show Jbm λq _=>Jfo (ns:=[m]) u q
 have f:(lvs++[(m,L)]).map (·.1)=lvs.map (·.1)++[m]:=Jbl (ns:=[m]);have j:∀ n∈lvs.map (·.1),lvv (lvs++[(m,L)]) n=lvv lvs n:=λn d=>Jfp (ns:=[m]) d;have p:lvv (lvs++[(m,L)]) m=vl L:=JgN (ns:=[m]) hm (by simp);rw[JkC t]at o l;unfold LidD.settle;cases hw:wtOf e.ws m with
 | none=>
  have r:m∉g.way:=λz=>(Jhe.mp hw) (h.pm.mem_iff.mpr z);rw[if_neg r]at o l;show(h.pm,h.nd,h.wt,?_,?_,h.low,h.llow,λn d b=>?_,λ⟨n,d,b⟩=>?_)
  .rw[o,h.rest];grind
  .rw[l,h.load];grind
  .rw[f]at b;rcases mem_append.mp b with b | b
   .rw[j n b];show h.l1 n d b
   .rw[mem_singleton.mp b]at d;show absurd d r
  .rw[f]at b;rcases mem_append.mp b with b | b
   .let(q,C,B,E):=h.l2 ⟨n,d,b⟩;show(q,C,by rw[f];show mem_append.mpr (.inl B),by rw[j q B];show E)
   .rw[mem_singleton.mp b]at d;show absurd d r
 | some k=>
  have i:=Jjy hw;have v:m∈g.way:=h.pm.mem_iff.mp (mem_map.mpr ⟨_,i,rfl⟩);have D:=h.wt _ i;have s:w m=(k:Rat):=D.1;rw[if_pos v,s]at o l;have y:=Jfq (a:=L) (c:=(k,1)) hL.b1 (Int.le_refl 1);show(h.pm,h.nd,h.wt,?_,?_,JlO h.low.b1 y.b1,hL,λn d b=>?_,λ_=>⟨m,v,by rw[f];simp,p⟩)
  .show vl (subF e.rest (mulF L (k,1)))=_;rw[JmD h.low.b1 y.b1,JkM hL.b1 (Int.le_refl 1),JgC,o,h.rest];grind
  .show((e.load-k:Int):Rat)=_;rw[l, <- h.load];push_cast;grind
  .rw[f]at b;rcases mem_append.mp b with b | b
   .rw[j n b];let(x,A,rfl):=mem_map.mp b;rw[Jeq hnd A];show hle x A
   .rw[mem_singleton.mp b,p];show Rat.le_refl
end
structure SInv(N:List Str)(w:Str->Rat)(gs:List Gp)(lvs:List (Str × (Int × Int)))(L:Int × Int):Prop where
 nd:(lvs.map (·.1)).Nodup
 sub:∀ n∈lvs.map (·.1),n∈N
 a:∀ x∈lvs,0<=vl x.2/\vl x.2<=vl L
 L0:0<=vl L
 cc:∀ g∈gs,vl L*sm (left lvs w) g.way<=g.R-sm (used lvs w) g.way
section
variable{N:List Str}{gs:List Gp}{lvs:List (Str × (Int × Int))}{L:Int × Int}{w:Str->Rat}{m:Str}
theorem SInv.step(h:SInv N w gs lvs L)(hg:∀ g∈gs,g.way.Nodup)(hm:m∈N)(hn:m∉lvs.map (·.1)):SInv N w gs (lvs++[(m,L)]) L:=by
 have f:∀ n∈[m],n∉lvs.map (·.1):=λn b=>by rw[mem_singleton.mp b];show hn
 have d:(lvs++[(m,L)]).map (·.1)=lvs.map (·.1)++[m]:=Jbl (ns:=[m]);show(?_,λn b=>?_,λx c=>?_,h.L0,λg e=>?_)
 .rw[d];show nodup_append.mpr ⟨h.nd,by simp,λx c y k z=>hn (by rw[mem_singleton.mp k]at z;rw[<- z];show c)⟩
 .rw[d]at b;rcases mem_append.mp b with q | q
  .show h.sub n q
  .rw[mem_singleton.mp q];show hm
 .rcases mem_append.mp c with c | c
  .show h.a x c
  .rw[mem_singleton.mp c];show(h.L0,Rat.le_refl)
 .have j:sm (used (lvs++[(m,L)]) w) g.way=sm (used lvs w) g.way+vl L*sm (dlt w [m]) g.way:=by
   rw[<- JeM];show Jbm λq _=>JfY (ns:=[m]) f q
  have i:sm (left (lvs++[(m,L)]) w) g.way=sm (left lvs w) g.way+(-1)*sm (dlt w [m]) g.way:=by
   rw[<- JeM];show Jbm λq _=>Jfo (ns:=[m]) f q
  have:=h.cc g e;rw[j,i];grind
theorem SInv.range(h:SInv N w gs lvs L)(hw:∀ n∈N,0<w n)(hs:∀ g∈gs, ∀ n∈g.way,n∈N){g:Gp}(hg:g∈gs):0<=g.R-sm (used lvs w) g.way/\g.R-sm (used lvs w) g.way<=g.R:=by
 have j:=h.cc g hg;have e:=sm_nn (Jen (lvs:=lvs) hw (hs g hg));have f:=Rat.mul_nonneg h.L0 e;have i:0<=sm (used lvs w) g.way:=sm_nn λq d=>by
  unfold used;show Rat.mul_nonneg ?_ (Rat.le_of_lt (hw q (hs g hg q d)));by_cases c:q∈lvs.map (·.1)
  .let(x,b,rfl):=mem_map.mp c;rw[Jeq h.nd b];show(h.a x b).1
  .rw[Jcu c];show Rat.le_refl
 grind
end
theorem Dv.sm{D:Int}{a:Str->Rat}:∀{l:List Str},(∀ q∈l,Dv D (a q))->Dv D (L2.sm a l)
 | [],_=>Dv.int 0
 | n::l,h=>(h n (by simp)).add (Dv.sm (l:=l) λq hq=>h q (by simp[hq]))
variable{lvs:List (Str × (Int × Int))}
theorem Jiy{D:Int}{b:Rat}{w:Str->Rat}{g:Gp}(hR:Dv D (g.R/b))(hw:∀ n∈g.way, ∃ k:Int,w n=(k:Rat))(hl:∀ x∈lvs,Dv D (vl x.2/b))(hnd:(lvs.map (·.1)).Nodup):Dv D ((g.R-sm (used lvs w) g.way)/b):=by
 have e:(g.R-sm (used lvs w) g.way)/b=g.R/b-sm (λn=>lvv lvs n/b*w n) g.way:=by
  have : sm (used lvs w) g.way/b=sm (λn=>lvv lvs n/b*w n) g.way:=by
   generalize g.way=l;induction l with
   | nil=>simp only[sm];grind
   | cons n l ih=>
    simp only[sm, <- ih];unfold used;grind
  rw[<- this];grind
 rw[e];show hR.sub (Dv.sm λq d=>?_);let(k,f):=hw q d;rw[f];show Dv.mul ?_ k;by_cases c:q∈lvs.map (·.1)
 .let(x,a,rfl):=mem_map.mp c;rw[Jeq hnd a];show hl x a
 .rw[Jcu c];have : (0:Rat)/b=((0:Int):Rat):=by
   show(0:Rat)/b=0;grind
  rw[this];show Dv.int 0
variable{b:Int}
theorem Dv.up{D:Int}{r:Rat}(hb:1<=b)(h:Dv D (r/(b:Rat))):Dv D r:=by
 have:=h.mul b
 rwa [Rat.div_mul_cancel (JaA hb)]at this
def wsK(ws:List (Str × Int)):List (Key × V):=ws.map λp=>(Sum.inr p.1, .int p.2)
theorem Jhb(n:Str):∀ ws:List (Str × Int),valV (wsK ws) (Sum.inr n)=(wtOf ws n).map V.int
 | []=>rfl
 | x::ws=>by
  have ih:=Jhb n ws;unfold wsK wtOf at ih ⊢;rw[map_cons,List.find?_cons];by_cases c:x.1=n
  .rw[Jbi (by rw[c]),decide_eq_true c];rfl
  .rw[Jbn (λz=>c (by injection z)),decide_eq_false c];show ih
theorem Jkd(ws:List (Str × Int)):(wsK ws).map (·.1)=(ws.map (·.1)).map Sum.inr:=by
 unfold wsK;rw[map_map,map_map];rfl
theorem Jke(ws:List (Str × Int)):(wsK ws).map (·.2)=(ws.map (·.2)).map V.int:=by
 unfold wsK;rw[map_map,map_map];rfl
theorem Jhy:∀(ps acc:List (Str × V)),((acc++ps).map (·.1)).Nodup->ps.foldl (λl p=>putK l (Sum.inr p.1) p.2) (acc.map λp=>((Sum.inr p.1:Key),p.2))=(acc++ps).map λp=>((Sum.inr p.1:Key),p.2)
 | [],acc,_=>by simp
 | p::ps,acc,h=>by
  have ea:acc++p::ps=(acc++[p])++ps:=by simp
  rw[List.foldl_cons];have nn:valV (acc.map λp=>((Sum.inr p.1:Key),p.2)) (Sum.inr p.1)=none:=by
   cases e:valV (acc.map λp=>((Sum.inr p.1:Key),p.2)) (Sum.inr p.1)with
   | none=>rfl
   | some v=>
    have:=JiI.mp (show(valV (acc.map λp=>((Sum.inr p.1:Key),p.2)) (Sum.inr p.1)).isSome=true by rw[e];rfl);rw[map_map]at this;let(q,hq,eq):=mem_map.mp this;have eq:(Sum.inr q.1:Key)=Sum.inr p.1:=eq;have eq:q.1=p.1:=by injection eq
    rw[map_append,map_cons,nodup_append]at h;show absurd rfl (h.2.2 p.1 (mem_map.mpr ⟨q,hq,eq⟩) p.1 (by simp))
  rw[Jj0 p.2 nn];have : (acc.map λp=>((Sum.inr p.1:Key),p.2))++[(Sum.inr p.1,p.2)]=(acc++[p]).map λp=>((Sum.inr p.1:Key),p.2):=by simp
  rw[this,Jhy ps (acc++[p]) (by rw[<- ea];show h),ea]
theorem JiX{ps:List (Str × V)}(h:(ps.map (·.1)).Nodup):JdS ps=ps.map λp=>((Sum.inr p.1:Key),p.2):=by
 unfold JdS;show(Jhy ps [] (by simpa using h)).trans (by rw[nil_append])
structure LoInv(n:Int × Int)(q:Int)(t:Int × Int):Prop where
 lo:Lo t
 cr:t.1*(n.2*q)=n.1*t.2
 le1:t.1.natAbs<=n.1.natAbs
 le2:t.2.natAbs<=n.2.natAbs*q.natAbs
variable{n:Int × Int}
theorem LoInv.nil(h:Lo n):LoInv n 1 n:=⟨h,by rw[Int.mul_one],Nat.le_refl _,by simp⟩
theorem LoInv.step{t:Int × Int}{f:Int}(h:LoInv n q t)(hf:1<=f):LoInv n (q*f) (t.1.fdiv (Mth.g t.1 f),t.2*f.fdiv (Mth.g t.1 f)):=by
 have w:0<Mth.g t.1 f:=Mth.g_pos ∅;have k:=Mth.JcI t.1 f;have i:=Mth.JbW t.1 f;have j:=Mth.JaK k ∅;have p:=Mth.JaK i ∅;have u:=Mth.JcY (b:=t.1) (d:=f) rfl ∅;have o:=Mth.Jcf i ∅ hf;have a:=Mth.Jef k ∅;have c:=Mth.Jef i ∅;have m:t.1.fdiv (Mth.g t.1 f)∣t.1:=⟨_,j.symm⟩;have l:Int.gcd (t.1.fdiv (Mth.g t.1 f)) t.2=1:=Mth.Jci (Mth.Jct h.lo.g1) m;have e:=h.cr;have v:=h.lo.b1;generalize t.1.fdiv (Mth.g t.1 f)=r at *;generalize f.fdiv (Mth.g t.1 f)=f' at *;generalize Mth.g t.1 f=s at *;show(⟨JbA v o,Mth.Jd2 (Mth.Jce l u)⟩,?_,?_,?_)
 .show r*(n.2*(q*f))=n.1*(t.2*f');have : r*(n.2*(q*f))=(t.1*(n.2*q))*f':=by
   rw[<- j, <- p];simp only[Int.mul_assoc,Int.mul_comm,Int.mul_left_comm]
  rw[this,e,Int.mul_assoc]
 .show Nat.le_trans a h.le1
 .show(t.2*f').natAbs<=n.2.natAbs*(q*f).natAbs;rw[Int.natAbs_mul,Int.natAbs_mul, <- Nat.mul_assoc];show Nat.mul_le_mul h.le2 c
theorem LoInv.vl{t:Int × Int}(h:LoInv n q t)(hn:1<=n.2)(hq:1<=q):vl t=vl n/(q:Rat):=by
 have i:=JaA hn;have g:=JaA h.lo.b1;have f:=JaA hq;have e:(t.1:Rat)*((n.2:Rat)*(q:Rat))=(n.1:Rat)*(t.2:Rat):=by exact_mod_cast h.cr
 unfold L2.vl;generalize(t.1:Rat)=a at *;generalize(t.2:Rat)=b at *;generalize(n.1:Rat)=c at *;generalize(n.2:Rat)=d at *;generalize(q:Rat)=q at *;grind
def stF(ms:List (Str × (Int × Int)))(lds:List LidD)(S:List Str):List ((Int × Int) × List Str) :=
 (ms.filter λm=>decide (m.1∉S)).map (λm=>(m.2,[m.1]))++(lds.filter λe=>decide (0<e.load)).map λe=>(divF e.rest (e.load,1),(e.ws.map (·.1)).filter λn=>decide (n∉S))
def StV(K:W.Frag)(H:Hp)(s:(Int × Int) × List Str)(x:V):Prop:=∃ t v l,x=.ref t/\SqT K H t [v, .ref l]/\FrV K H v s.1.1 s.1.2/\H l=some (.lst (s.2.map V.str))
variable{x:V}
theorem StV.same{K:W.Frag}{s:(Int × Int) × List Str}(S:Same H H'):StV K H s x->StV K H' s x:=by rintro⟨t,v,l,d,c,a,b⟩;show(t,v,l,d,c.same S,a.same S,S _ _ b)
def NFV(K:W.Frag)(H:Hp)(a:Str × (Int × Int))(x:V):Prop:=FrV K H x a.2.1 a.2.2
theorem NFV.sameT{K:W.Frag}{a:Str × (Int × Int)}(S:SameT H H')(h:NFV K H a x):NFV K H' a x:=FrV.sameT S h
def thw(d:Addr)(kv:List (Key × V))(H:Hp):Hp:=upd H d (.dK kv)
section
variable{a:Addr}{kv kw:List (Key × V)}{k:Key}
theorem Jjn(h:H d=some (.dK kv)):thw d kv (upd H d (.frz od (.dK kv)))=H:=by
 funext b
 unfold thw;by_cases c:b=d
 .subst c;rw[Jam,h]
 .rw[Jah c,Jah c]
theorem JfX(S:Same H H'):Same (thw d kv H) (thw d kv H'):=λb u h=>by
 unfold thw at h ⊢;by_cases c:b=d
 .subst c;rw[Jam]at h ⊢;show h
 .rw[Jah c]at h ⊢;show S _ _ h
theorem Jjo(hd:H d=some (.frz od (.dK kv)))(ha:thw d kv H a=some (.dK kw)):DGet H a (kV k) (valV kw k):=by
 unfold thw at ha;by_cases c:a=d
 .subst c;rw[Jam]at ha;cases ha;show DGet.f hd
 .rw[Jah c]at ha;show DGet.k ha
theorem JfW(hd:H d=some (.frz od (.dK kv)))(ha:H a=none):thw d kv H a=none:=by
 unfold thw;rw[Jah (λz=>by rw[z,hd]at ha;cases ha)];show ha
end
theorem StV.cut{K:W.Frag}{s:(Int × Int) × List Str}{p:Addr}(h:StV K (cut p H) s x):StV K H s x:=h.same Jde
structure SHC(ls:List PD)(es:List (GD × List Str))(pl:Str->Int × Int):Prop where
 l12:ls.length<=12
 l7:es.length<=7
 l14:ls.length+es.length<=9
 l5:ls.length<=5
 l4:es.length<=4
 nd:(ls.map (·.nm)).Nodup
 gn:∀ e∈es, ∀ u∈es.map (·.1),u.nm=e.1.nm->u=e.1
 pok:∀ p∈ls,POk p
 pb:∀ p∈ls,(1<=p.sz.2/\Mth.Sz 110 p.sz.2)/\FB 200 12 p.mo
 wt:∀ p∈ls,Mth.Sz 21 p.wt
 tok:∀ e∈es,TOk e.1.td
 gb:∀ e∈es,(1<=e.1.lo.2/\Mth.Sz 110 e.1.lo.2)/\1<=e.1.hi.2/\Mth.Sz 110 e.1.hi.2
 rb:∀ e∈es,FB 200 48 (roomF pl e.1)
 plb:∀ f,FB 302 161 (pl f)
 pls:∀ p∈ls,vl (pl p.en)=vl (pl p.st)+vl p.sz
 way:∀ e∈es, ∀ w:List Pr,JaP ls e.1.st w e.1.en->(w.map (·.1)).Nodup->e.2.Perm (w.map (·.1))
structure LSt(b:Int)(ls:List PD)(pl:Str->Int × Int)(e:GD × List Str)(l:LidD):Prop where
 nm:l.nm=e.1.nm
 rest:vl l.rest=vl (roomF pl e.1)*(b:Rat)
 fb:FB 2200 48 l.rest
 pm:(l.ws.map (·.1)).Perm e.2
 nd:(l.ws.map (·.1)).Nodup
 wt:∀ x∈l.ws, ∃ p∈ls,p.nm=x.1/\p.wt=x.2
 load:l.load=(l.ws.map (·.2)).sum
 last:l.last=(0,1)
structure MSt(b:Int)(p:PD)(m:Str × (Int × Int)):Prop where
 nm:m.1=p.nm
 vl:L2.vl m.2=L2.vl p.mo*(b:Rat)/(p.wt:Rat)
 fb:FB 2200 33 m.2
theorem JhE{a:Addr}{kv:List (Key × V)}{u:HO}(hd:H d=some (.frz od (.dK kv)))(ha:H a=some u)(hu:∀ o w,u≠.frz o w):thw d kv H a=some u:=by
 unfold thw;rw[Jah (λz=>by rw[z,hd]at ha;cases ha;show hu _ _ rfl)];show ha
variable{β:Type}
theorem Jhl:∀{ls:List (Str × β)}{p q:Str × β},(ls.map (·.1)).Nodup->p∈ls->q∈ls->p.1=q.1->p=q
 | [],_,_,_,hp,_,_=>by cases hp
 | a::ls,p,q,hn,hp,hq,e=>by
  rw[map_cons,nodup_cons]at hn;rcases mem_cons.mp hp with h1 | h1 <;> rcases mem_cons.mp hq with h2 | h2
  .rw[h1,h2]
  .subst h1;show absurd (e ▸ mem_map.mpr ⟨q,h2,rfl⟩) hn.1
  .subst h2;show absurd (e ▸ mem_map.mpr ⟨p,h1,rfl⟩) hn.1
  .show Jhl hn.2 h1 h2 e
theorem BG.keysS{P:(Str × (Int × Int))->V->Prop}{as:List (Str × (Int × Int))}(h:BG (·.1) P as kvs):kvs.map (·.1)=(as.map (·.1)).map Sum.inr:=by
 rw[h.1,map_map];rfl
structure RC(b Q:Int)(N:List Str)(w M:Str->Rat)(gs:List Gp)(ms:List (Str × (Int × Int))):Prop where
 b1:1<=b
 nm:ms.map (·.1)=N
 nd:N.Nodup
 l12:N.length<=12
 wt:∀ n∈N, ∃ k:Int,w n=(k:Rat)/\1<=k/\Mth.Sz 21 k
 ml:∀ m∈ms,vl m.2=M m.1/\FB 2200 33 m.2/\0<=M m.1
 gw:∀ g∈gs,(∀ n∈g.way,n∈N)/\g.way.Nodup/\0<=g.R/\g.R<=(Q:Rat)
 mq:∀ n∈N,M n<=(Q:Rat)
 sQ:Mth.Sz 2200 Q
def LOks(w:Str->Rat)(lvs:List (Str × (Int × Int)))(gs:List Gp)(lds:List LidD):Prop:=lds.length=gs.length/\∀(i:Nat) g e,gs[i]?=some g->lds[i]?=some e->LidOk w g lvs e
structure RB(b:Int)(N:List Str)(w M:Str->Rat)(gs:List Gp)(k:Nat)(lvs:List (Str × (Int × Int)))(D:Int):Prop where
 D1:1<=D
 sD:Mth.Sz (260+25*k) D
 dl:∀ x∈lvs,Dv D (vl x.2/(b:Rat))
 dr:∀ g∈gs,Dv D (g.R/(b:Rat))
 dm:∀ n∈N,Dv D (M n/(b:Rat)*w n)
structure RSt(b:Int)(N:List Str)(w M:Str->Rat)(gs:List Gp)(lvs:List (Str × (Int × Int)))(lds:List LidD):Prop where
 inv:∃ L,RInv N w M gs lvs (vl L)
 ok:LOks w lvs gs lds
 bt:∃ D,RB b N w M gs lvs.length lvs D
 lo:∀ x∈lvs,Lo x.2
structure RMd(b:Int)(N:List Str)(w M:Str->Rat)(gs:List Gp)(L:Int × Int)(D:Int)(k:Nat)(lvs:List (Str × (Int × Int)))(lds:List LidD):Prop where
 inv:SInv N w gs lvs L
 ok:LOks w lvs gs lds
 bt:RB b N w M gs k lvs D
 k12:k<=12
 dL:Dv D (vl L/(b:Rat))
 fL:FB 3000 1000 L
section
variable{Q:Int}{N ns:List Str}{M:Str->Rat}{gs:List Gp}{ms:List (Str × (Int × Int))}{lds:List LidD}{L:Int × Int}{w:Str->Rat}{D:Int}{k:Nat}
theorem LOks.fwd(h:LOks w lvs gs lds){g:Gp}(hg:g∈gs):∃ e∈lds,LidOk w g lvs e:=by
 let(i,b):=List.getElem?_of_mem hg;have c:=(List.getElem?_eq_some_iff.mp b).1;have a:i<lds.length:=by rw[h.1];show c
 show(lds[i],List.getElem_mem a,h.2 i g _ b (List.getElem?_eq_getElem a))
theorem LOks.bwd(h:LOks w lvs gs lds){e:LidD}(he:e∈lds):∃ g∈gs,LidOk w g lvs e:=by
 let(i,b):=List.getElem?_of_mem he;have c:=(List.getElem?_eq_some_iff.mp b).1;have a:i<gs.length:=by rw[<- h.1];show c
 show(gs[i],List.getElem_mem a,h.2 i _ e (List.getElem?_eq_getElem a) b)
theorem RC.wpos(hc:RC b Q N w M gs ms):∀ n∈N,0<w n:=λn a=>by
 let(k,c,d,_):=hc.wt n a;rw[c];exact_mod_cast (show 0<k by ac_nf)
theorem RInv.s(h:RInv N w M gs lvs (vl L)):SInv N w gs lvs L:=⟨h.nd,h.sub,λx b=>⟨(h.a x b).1,(h.a x b).2.1⟩,h.c0,h.cc⟩
theorem Jg4(hc:RC b Q N w M gs ms)(hi:SInv N w gs lvs L)(hb:RB b N w M gs k lvs D)(k12:k<=13){g:Gp}(hg:g∈gs){e:LidD}(he:LidOk w g lvs e):FB 2800 600 e.rest:=by
 have a:=hi.range hc.wpos (λg hg=>(hc.gw g hg).1) hg;have d:=hc.gw g hg;have c:=(Jiy (hb.dr g hg) (λn f=>by let(k,h,_):=hc.wt n (d.1 n f);show(k,h)) hb.dl hi.nd).up hc.b1;rw[<- he.rest]at c a;show c.fb (m:=2200) (n:=600) he.low.b1 he.low.g1 hb.D1 (hb.sD.mono ∅) a.1 (Rat.le_trans a.2 d.2.2.2) hc.sQ
theorem Jjg{a:Str->Rat}{B:Int}(hB:0<=B):∀{l:List Str}{n:Nat},(∀ q∈l,a q<=(B:Rat))->l.length<=n->sm a l<=((B*n:Int):Rat)
 | [],n,_,_=>by
  have : 0<=B*(n:Int):=Int.mul_nonneg hB ∅;simp only[sm];exact_mod_cast this
 | q::l,0,_,h=>by simp at h
 | q::l,n+1,h,hl=>by
  have h1:=h q (by simp);have h2:=Jjg hB (l:=l) (n:=n) (λr hr=>h r (by simp[hr])) (by simpa using hl);have e:((B*((n+1:Nat):Int):Int):Rat)=(B:Rat)+((B*(n:Int):Int):Rat):=by
   have : B*((n+1:Nat):Int)=B+B*(n:Int):=by push_cast;rw[Int.mul_add,Int.mul_one,Int.add_comm]
   rw[this];push_cast;rfl
  simp only[sm];rw[e];grind
theorem Jjx(hc:RC b Q N w M gs ms){g:Gp}(hg:g∈gs):g.way.length<=12:=Nat.le_trans (sub_len _ _ (hc.gw g hg).2.1 (hc.gw g hg).1) hc.l12
theorem JgM(hc:RC b Q N w M gs ms){g:Gp}(hg:g∈gs){e:LidD}(he:LidOk w g lvs e):0<=e.load/\Mth.Sz 25 e.load:=by
 have d:=hc.gw g hg;have a:=sm_nn (Jen (lvs:=lvs) hc.wpos d.1);obtain⟨B,l⟩:∃ B:Int,B=2097152:=⟨_,rfl⟩;have B0:0<=B:=by ac_nf
 have c:sm (left lvs w) g.way<=((B*(12:Nat):Int):Rat):=Jjg B0 (λq f=>by
  let(k,j,i,h):=hc.wt q (d.1 q f);have : k<=B:=by unfold Mth.Sz at h;ac_nf
  have : (k:Rat)<=(B:Rat):=by exact_mod_cast this
  unfold left;split
  .exact_mod_cast B0
  .rw[j];show this) (Jjx hc hg)
 rw[<- he.load]at a c;have a:0<=e.load:=by exact_mod_cast a
 have c:e.load<=B*(12:Nat):=Rat.intCast_le_intCast.mp c;show(a,?_);unfold Mth.Sz;ac_nf
theorem JcU{s:(Int × Int) × List Str}:s∈stF ms lds S↔(∃ m∈ms,m.1∉S/\s=(m.2,[m.1]))\/∃ e∈lds,0<e.load/\s=(divF e.rest (e.load,1),(e.ws.map (·.1)).filter λn=>decide (n∉S)):=by
 unfold stF;rw[mem_append,mem_map,mem_map];constructor
 .rintro(⟨m,b,rfl⟩ | ⟨e,a,rfl⟩)
  .have:=mem_filter.mp b;show .inl ⟨m,this.1,by simpa using this.2,rfl⟩
  .have:=mem_filter.mp a;show .inr ⟨e,this.1,by simpa using this.2,rfl⟩
 .rintro(⟨m,b,h,rfl⟩ | ⟨e,a,h,rfl⟩)
  .show .inl ⟨m,mem_filter.mpr ⟨b,by simpa using h⟩,rfl⟩
  .show .inr ⟨e,mem_filter.mpr ⟨a,by simpa using h⟩,rfl⟩
theorem RSt.len(hc:RC b Q N w M gs ms)(h:RSt b N w M gs lvs lds):lvs.length<=N.length:=by
 let(L,a):=h.inv;have:=sub_len _ _ a.nd a.sub;simpa using this
theorem RSt.all(hc:RC b Q N w M gs ms)(h:RSt b N w M gs lvs lds)(hl:N.length<=lvs.length):∀ n∈N,n∈lvs.map (·.1):=by
 let(L,c):=h.inv;intro n d;show Classical.byContradiction λz=>?_;have:=sub_len (n::lvs.map (·.1)) N (nodup_cons.mpr ⟨z,c.nd⟩) (λq a=>by
  rcases mem_cons.mp a with e | a
  .rw[e];show d
  .show c.sub q a)
 simp at this;ac_nf
theorem RSt.lids(hc:RC b Q N w M gs ms)(h:RSt b N w M gs lvs lds):∀ e∈lds,FB 3000 1000 e.rest/\Mth.Sz 64 e.load/\e.ws.length<=12:=by
 intro e d;let(L,i):=h.inv;let(D,j):=h.bt;let(g,c,a):=h.ok.bwd d;have f:=Jg4 hc i.s j (by have:=h.len hc;have:=hc.l12;ac_nf) c a;show(⟨f.s1.mono ⋯,f.s2.mono ⋯,f.b1,f.g1⟩,(JgM hc c a).2.mono ⋯,?_);have:=a.pm.length_eq;rw[length_map]at this;rw[this];show Jjx hc c
theorem RSt.some(hc:RC b Q N w M gs ms)(h:RSt b N w M gs lvs lds)(hl:lvs.length<N.length):stF ms lds (lvs.map (·.1))≠[]:=by
 intro z;have : ∀ n∈N,n∈lvs.map (·.1):=λn a=>by
  rw[<- hc.nm]at a;let(m,d,rfl):=mem_map.mp a;show Classical.byContradiction λy=>?_;have : ((m.2,[m.1]):(Int × Int) × List Str)∈stF ms lds (lvs.map (·.1)):=JcU.mpr (.inl ⟨m,d,y,rfl⟩);rw[z]at this;cases this
 have:=sub_len N (lvs.map (·.1)) hc.nd (λq c=>this q c);simp at this;ac_nf
theorem RSt.stops(hc:RC b Q N w M gs ms)(h:RSt b N w M gs lvs lds):∀ s∈stF ms lds (lvs.map (·.1)),FB 3000 1000 s.1/\∀ n∈s.2,n∈N/\n∉lvs.map (·.1):=by
 intro s i;rcases JcU.mp i with⟨m,hm,hS,rfl⟩ | ⟨e,he,hl,rfl⟩
 .have f:=(hc.ml m hm).2.1;show(⟨f.s1.mono ⋯,f.s2.mono ⋯,f.b1,f.g1⟩,λn c=>?_);rw[mem_singleton.mp c];show(hc.nm ▸ mem_map.mpr ⟨m,hm,rfl⟩,hS)
 .let(L,j):=h.inv;let(D,k):=h.bt;let(g,d,a):=h.ok.bwd he;have f:=Jg4 hc j.s k (by have:=h.len hc;have:=hc.l12;ac_nf) d a;have z:=JgM hc d a;show(?_,λn c=>?_)
  .show FB.low (JbA f.b1 ∅) ?_ ?_
   .show Mth.Sz 3000 (e.rest.1*1);rw[Int.mul_one];show f.s1.mono ⋯
   .show(f.s2.mul z.2).mono ⋯
  .have:=mem_filter.mp c;show((hc.gw g d).1 n (a.pm.mem_iff.mp this.1),by simpa using this.2)
theorem RSt.first(hc:RC b Q N w M gs ms)(h:RSt b N w M gs lvs lds)(hlt:lvs.length<N.length)(hL:L∈(stF ms lds (lvs.map (·.1))).map (·.1))(hmin:∀ s∈stF ms lds (lvs.map (·.1)),vl L<=vl s.1)(hnd:ns.Nodup)(hns:∀ n,n∈ns↔∃ s∈stF ms lds (lvs.map (·.1)),s.1=L/\n∈s.2) :
  ns≠[]/\(∀ n∈ns,n∈N/\n∉lvs.map (·.1))/\RInv N w M gs (lvs++ns.map λn=>(n,L)) (vl L)/\∃ D,RMd b N w M gs L D (lvs.length+1) lvs lds:=by
 let(L0,A):=h.inv;let(D,B):=h.bt;have T:=h.stops hc;let(s0,F,u):=mem_map.mp hL;have W:FB 3000 1000 L:=u ▸ (T s0 F).1;have Z:=hc.wpos;have O:=λ(g:Gp)(c:g∈gs)=>(hc.gw g c).1;have S:∀ n∈N,n∉lvs.map (·.1)->vl L<=M n:=λn f o=>by
  rw[<- hc.nm]at f;let(m,j,rfl):=mem_map.mp f;have:=hmin _ (JcU.mpr (.inl ⟨m,j,o,rfl⟩));rw[<- (hc.ml m j).1];show this
 have K:∀ e g,g∈gs->LidOk w g lvs e->0<e.load->vl (divF e.rest (e.load,1))*sm (left lvs w) g.way=g.R-sm (used lvs w) g.way:=λe g c d i=>by
  rw[JkK d.low.b1 (by show 1<=e.load;ac_nf) (Int.le_refl 1),JgC, <- d.load, <- d.rest];show Rat.div_mul_cancel (JaA ∅)
 have J:∀ g∈gs,0<sm (left lvs w) g.way->vl L*sm (left lvs w) g.way<=g.R-sm (used lvs w) g.way:=λg c l=>by
  let(e,E,d):=h.ok.fwd c;have i:0<e.load:=by rw[<- d.load]at l;exact_mod_cast l
  have:=hmin _ (JcU.mpr (.inr ⟨e,E,i,rfl⟩));rw[<- K e g c d i];show Rat.mul_le_mul_of_nonneg_right this (Rat.le_of_lt l)
 have key:∀ n,n∈ns↔n∈N/\n∉lvs.map (·.1)/\(M n=vl L\/∃ g∈gs,n∈g.way/\0<sm (left lvs w) g.way/\vl L*sm (left lvs w) g.way=g.R-sm (used lvs w) g.way):=λn=>by
  rw[hns n];constructor
  .rintro⟨s,H,e1,U⟩;have G:=(T s H).2 n U;show(G.1,G.2,?_);rcases JcU.mp H with⟨m,j,o,rfl⟩ | ⟨e,E,i,rfl⟩
   .left
    rw[mem_singleton.mp U, <- e1];show(hc.ml m j).1.symm
   .right
    let(g,c,d):=h.ok.bwd E;show(g,c,d.pm.mem_iff.mp (mem_filter.mp U).1,?_,?_)
    .rw[<- d.load];exact_mod_cast i
    .rw[<- e1];show K e g c d i
  .rintro⟨f,o,e | ⟨g,c,hw,l,e⟩⟩
   .rw[<- hc.nm]at f;let(m,j,rfl):=mem_map.mp f;show(_,JcU.mpr (.inl ⟨m,j,o,rfl⟩),(hc.ml m j).2.1.lo.inj W.lo ((hc.ml m j).1.trans e),by simp)
   .let(r,E,d):=h.ok.fwd c;have i:0<r.load:=by rw[<- d.load]at l;exact_mod_cast l
    have j:((divF r.rest (r.load,1),(r.ws.map (·.1)).filter λn=>decide (n∉lvs.map (·.1))):(Int × Int) × List Str)∈stF ms lds (lvs.map (·.1)):=JcU.mpr (.inr ⟨r,E,i,rfl⟩);show(_,j,(T _ j).1.lo.inj W.lo ?_,mem_filter.mpr ⟨d.pm.mem_iff.mpr hw,by simpa using o⟩);have:=K r g c d i;rw[<- e]at this;have p':sm (left lvs w) g.way≠0:=λz=>by rw[z]at l;show absurd l ⋯
    show vl (divF r.rest (r.load,1))=vl L;grind
 have t:(∃ n∈N,n∉lvs.map (·.1)/\M n=vl L)\/∃ g∈gs,0<sm (left lvs w) g.way/\vl L*sm (left lvs w) g.way=g.R-sm (used lvs w) g.way/\∃ e:LidD,LidOk w g lvs e/\0<e.load/\L=divF e.rest (e.load,1):=by
  rcases JcU.mp F with⟨m,j,o,rfl⟩ | ⟨e,E,i,rfl⟩
  .show .inl ⟨m.1,hc.nm ▸ mem_map.mpr ⟨m,j,rfl⟩,o,by rw[<- u];show(hc.ml m j).1.symm⟩
  .let(g,c,d):=h.ok.bwd E;show .inr ⟨g,c,?_,by rw[<- u];show K e g c d i,e,d,i,u.symm⟩;rw[<- d.load];exact_mod_cast i
 have C:vl L0<=vl L:=A.le (t.imp id λζ=>by let(g,c,V,X,_):=ζ;show(g,c,V,X));have ne:ns≠[]:=λz=>by
  rcases t with⟨n,f,o,e⟩ | ⟨g,c,l,e,_⟩
  .have:=(key n).mpr ⟨f,o, .inl e⟩;rw[z]at this;cases this
  .have : ∃ n∈g.way,n∉lvs.map (·.1):=Classical.byContradiction λy=>by
    rw[Jc7 (a:=left lvs w) λq hq=>if_pos (Classical.byContradiction λv=>y ⟨q,hq,v⟩)]at l;show absurd l ⋯
   let(n,f,o):=this;have:=(key n).mpr ⟨O g c n f,o, .inr ⟨g,c,f,l,e⟩⟩;rw[z]at this;cases this
 show(ne,λn f=>⟨((key n).mp f).1,((key n).mp f).2.1⟩,A.round Z O hnd S J key C,?_);have si:SInv N w gs lvs L:=by
  show(A.nd,A.sub,λx P=>⟨(A.a x P).1,Rat.le_trans (A.a x P).2.1 C⟩,Rat.le_trans A.c0 C,λg c=>?_);by_cases p:0<sm (left lvs w) g.way
  .show J g c p
  .have e0:sm (left lvs w) g.way=0:=by have:=sm_nn (Jen (lvs:=lvs) Z (O g c));grind
   have:=A.cc g c;rw[e0]at this ⊢;grind
 obtain⟨k,Y,ks,I⟩:∃ k:Int,1<=k/\Mth.Sz 25 k/\Dv D (vl L/(b:Rat)*(k:Rat)):=by
  rcases t with⟨n,f,o,e⟩ | ⟨g,c,l,e,r,d,i,eL⟩
  .let(k,I,V,X):=hc.wt n f;show(k,V,X.mono ⋯,?_);have:=B.dm n f;rw[e,I]at this;show this
  .show(r.load,by ac_nf,(JgM hc c d).2,?_);have h3:=Jiy (B.dr g c) (λn f=>by let(k,I,_):=hc.wt n (O g c n f);show(k,I)) B.dl A.nd;rw[<- e, <- d.load]at h3;have : vl L/(b:Rat)*(r.load:Rat)=vl L*(r.load:Rat)/(b:Rat):=by grind
   rw[this];show h3
 show(D*k,si,h.ok,⟨JbA B.D1 Y,?_,λx P=>(B.dl x P).more k,λg c=>(B.dr g c).more k,λn f=>(B.dm n f).more k⟩,by have:=hc.l12;ac_nf,I.over Y,W);have:=B.sD.mul ks;rw[show 260+25*(lvs.length+1)=260+25*lvs.length+25 by ac_nf];show this
theorem RMd.rest(hc:RC b Q N w M gs ms)(h:RMd b N w M gs L D k lvs lds):∀ e∈lds,FB 3000 1000 e.rest/\∀ x∈e.ws,Mth.Sz 64 x.2:=by
 intro e l;let(g,i,c):=h.ok.bwd l;have f:=Jg4 hc h.inv h.bt (by have:=h.k12;ac_nf) i c;show(⟨f.s1.mono ⋯,f.s2.mono ⋯,f.b1,f.g1⟩,λx d=>?_);have a:x.1∈N:=(hc.gw g i).1 _ (c.pm.mem_iff.mp (mem_map.mpr ⟨x,d,rfl⟩));let(k,m,_,j):=hc.wt _ a;have:=(c.wt x d).1;rw[m]at this;have : k=x.2:=by exact_mod_cast this
 rw[<- this];show j.mono ⋯
theorem RMd.step(hc:RC b Q N w M gs ms)(h:RMd b N w M gs L D k lvs lds){n:Str}(hn:n∈N)(hS:n∉lvs.map (·.1)):RMd b N w M gs L D k (lvs++[(n,L)]) (lds.map λe=>e.settle n L):=by
 show(h.inv.step (λg f=>(hc.gw g f).2.1) hn hS,⟨by rw[length_map];show h.ok.1,λi g e f j=>?_⟩,⟨h.bt.D1,h.bt.sD,λx c=>?_,h.bt.dr,h.bt.dm⟩,h.k12,h.dL,h.fL)
 .rw[List.getElem?_map]at j;let(l,d,rfl):=Option.map_eq_some_iff.mp j;show(h.ok.2 i g l f d).settle h.inv.nd hS h.fL.lo λx c=>(h.inv.a x c).2
 .rcases mem_append.mp c with c | c
  .show h.bt.dl x c
  .rw[mem_singleton.mp c];show h.dL
theorem RMd.next(hc:RC b Q N w M gs ms)(h:RMd b N w M gs L D k (lvs++ns.map λn=>(n,L)) lds)(hi:RInv N w M gs (lvs++ns.map λn=>(n,L)) (vl L))(hlo:∀ x∈lvs,Lo x.2)(hk:k<=lvs.length+ns.length):RSt b N w M gs (lvs++ns.map λn=>(n,L)) lds:=by
 show(⟨L,hi⟩,h.ok,⟨D,h.bt.D1,h.bt.sD.mono (by simp;ac_nf),h.bt.dl,h.bt.dr,h.bt.dm⟩,λx a=>?_);rcases mem_append.mp a with a | a
 .show hlo x a
 .let(n,_,rfl):=mem_map.mp a;show h.fL.lo
end
theorem All2.put{P P' : α->V->Prop}:∀{as:List α}{xs:List V}{j:Nat}{a' : α}{x:V},All2 P as xs->xs[j]?=some x->P' a' x->(∀(i:Nat) a y,i≠j->as[i]?=some a->xs[i]?=some y->P a y->P' a y)->All2 P' (as.set j a') xs
 | [],xs,j,a',x,h,hx,_,_=>by
  have h:xs=[]:=h;subst h;cases hx
 | a::as,xs,0,a',x,h,hx,p,m=>by
  let(y,r,rfl,h1,h2):=h;have hx:y=x:=by simpa using hx
  subst hx;show(y,r,rfl,p,?_);have go:∀{as:List α}{r:List V},All2 P as r->(∀(i:Nat) a y,as[i]?=some a->r[i]?=some y->P a y->P' a y)->All2 P' as r:=by
   intro as;induction as with
   | nil=>intro r h _;show h
   | cons b bs ih=>
    intro r h m;let(z,t,rfl,h1,h2):=h;show(z,t,rfl,m 0 b z rfl rfl h1,ih h2 λi a y ha hy=>m (i+1) a y (by simpa using ha) (by simpa using hy))
  show go h2 λi a y ha hy=>m (i+1) a y ∅ (by simpa using ha) (by simpa using hy)
 | a::as,xs,j+1,a',x,h,hx,p,m=>by
  let(y,r,rfl,h1,h2):=h;show(y,r,rfl,m 0 a y ∅ rfl rfl h1,All2.put h2 (by simpa using hx) p λi a y ne ha hy=>m (i+1) a y ∅ (by simpa using ha) (by simpa using hy))
theorem Jk7{f : α->α}{ls:List α}:((ls.take j).map f++ls.drop j)[j]?=ls[j]?:=by
 by_cases c:j<=ls.length
 .have e:((ls.take j).map f).length=j:=by rw[length_map,length_take];ac_nf
  rw[List.getElem?_append_right ∅,e,List.getElem?_drop];simp
 .have e:((ls.take j).map f++ls.drop j).length<=j:=by simp;ac_nf
  rw[List.getElem?_eq_none e,List.getElem?_eq_none ∅]
theorem Jhn{f : α->α}:∀{ls:List α}{j:Nat}{e : α},ls[j]?=some e->((ls.take j).map f++ls.drop j).set j (f e)=(ls.take (j+1)).map f++ls.drop (j+1)
 | [],j,e,h=>by simp at h
 | a::ls,0,e,h=>by
  have h:a=e:=by simpa using h
  subst h;simp
 | a::ls,j+1,e,h=>by
  have:=Jhn (f:=f) (ls:=ls) (j:=j) (e:=e) (by simpa using h);simp only[List.take_succ_cons,map_cons,List.drop_succ_cons,cons_append,List.set_cons_succ,this]
theorem Jjz{ns:List α}{i:Nat}{n : α}(h:ns.Nodup)(hn:ns[i]?=some n):n∉ns.take i:=by
 intro z;rw[<- List.take_append_drop i ns,nodup_append]at h;show h.2.2 n z n (List.mem_of_getElem? (i:=0) ?_) rfl;rw[List.getElem?_drop];show hn
variable{n:Str}{L:Int × Int}
theorem Jjd{e:LidD}:(e.settle n L).nm=e.nm:=by
 unfold LidD.settle;split <;> rfl
theorem Jh9{ls:List LidD}:(ls.map λe=>e.settle n L).map (·.nm)=ls.map (·.nm):=by
 rw[map_map];show map_congr_left λe _=>Jjd
structure ShD where
 nm:Str
 sl:Int × Int
 sp:Option Str
def wtF(ls:List PD)(n:Str):Rat:=((ls.find? λp=>decide (p.nm=n)).map λp=>(p.wt:Rat)).getD 0
def moF(ls:List PD)(n:Str):Rat:=((ls.find? λp=>decide (p.nm=n)).map λp=>vl p.mo/(p.wt:Rat)).getD 0
def gpF(es:List (GD × List Str))(pl:Str->Int × Int):List Gp:=es.map λe=>⟨vl (roomF pl e.1),e.2⟩
def gpB(b:Int)(es:List (GD × List Str))(pl:Str->Int × Int):List Gp:=es.map λe=>⟨vl (roomF pl e.1)*(b:Rat),e.2⟩
def stp(w f:Str->Rat)(pl:Str->Int × Int)(n:Str)(e:GD × List Str):Bool:=decide (n∈e.2)&&(decide (sm (λq=>f q*w q) e.2=vl (roomF pl e.1))&&decide (∀ q∈e.2,f q<=f n))
structure ShRow(ls:List PD)(es:List (GD × List Str))(pl:Str->Int × Int)(f:Str->Rat)(p:PD)(r:ShD):Prop where
 nm:r.nm=p.nm
 lo:Lo r.sl
 val:vl r.sl=f p.nm*(p.wt:Rat)
 sp:(r.sl=p.mo/\r.sp=none)\/(r.sl≠p.mo/\∃ e,es.find? (stp (wtF ls) f pl p.nm)=some e/\r.sp=some e.1.nm)
structure ShF(ls:List PD)(es:List (GD × List Str))(pl:Str->Int × Int)(f:Str->Rat)(D:Int):Prop where
 sub:∀ e∈es,(∀ n∈e.2,n∈ls.map (·.nm))/\e.2.Nodup
 fair:Fair (ls.map (·.nm)) (wtF ls) (moF ls) (gpF es pl) f
 D1:1<=D
 sD:Mth.Sz 600 D
 dv:∀ n∈ls.map (·.nm),Dv D (f n)
structure ShR(ls:List PD)(es:List (GD × List Str))(pl:Str->Int × Int)(rs:List ShD):Prop where
 len:rs.length=ls.length
 ex:∃ f D,ShF ls es pl f D/\∀(i:Nat) p r,ls[i]?=some p->rs[i]?=some r->ShRow ls es pl f p r
theorem Jfn:∀{ls:List PD}{p:PD},(ls.map (·.nm)).Nodup->p∈ls->ls.find? (λq=>decide (q.nm=p.nm))=some p
 | [],_,_,h=>by cases h
 | a::ls,p,hn,h=>by
  rw[map_cons,nodup_cons]at hn;rw[List.find?_cons];rcases mem_cons.mp h with e | h
  .subst e;simp
  .have : a.nm≠p.nm:=λz=>hn.1 (z ▸ mem_map.mpr ⟨p,h,rfl⟩);rw[decide_eq_false this];show Jfn hn.2 h
section
variable{es:List (GD × List Str)}{f':Str->Rat}{rs rs':List ShD}{f:Str->Rat}
theorem Jfg(hn:(ls.map (·.nm)).Nodup)(hp:p∈ls):wtF ls p.nm=(p.wt:Rat):=by
 unfold wtF;rw[Jfn hn hp];rfl
theorem Jer(hn:(ls.map (·.nm)).Nodup)(hp:p∈ls):moF ls p.nm=vl p.mo/(p.wt:Rat):=by
 unfold moF;rw[Jfn hn hp];rfl
theorem Jhd(hn:(ls.map (·.nm)).Nodup)(hk:∀ p∈ls,1<=p.wt):∀ n∈ls.map (·.nm),0<wtF ls n:=λn h=>by
 let(p,a,rfl):=mem_map.mp h;rw[Jfg hn a];have:=hk p a;exact_mod_cast (show 0<p.wt by ac_nf)
theorem Jc5{g:Gp}(h:g∈gpF es pl):∃ e∈es,g=⟨vl (roomF pl e.1),e.2⟩:=by
 let(e,a,rfl):=mem_map.mp h;show(e,a,rfl)
theorem ShR.uniq(hn:(ls.map (·.nm)).Nodup)(hk:∀ p∈ls,1<=p.wt)(h:ShR ls es pl rs)(k:ShR ls es pl rs'):rs=rs':=by
 let(Q,f,D,F,R):=h;let(T,o,D',F',K):=k;have G:=Jhd hn hk;have E:∀ g∈gpF es pl, ∀ n∈g.way,n∈ls.map (·.nm):=λg H=>by
  let(e,O,rfl):=Jc5 H;show(F.sub e O).1
 have e:=F.fair.uniq G E F'.fair;show List.ext_getElem? λi=>?_;by_cases c:i<ls.length
 .have P:i<rs.length:=by ac_nf
  have M:i<rs'.length:=by ac_nf
  have u:=List.getElem?_eq_getElem c;have w:=List.getElem?_eq_getElem P;have A:=List.getElem?_eq_getElem M;have s:=R i _ _ u w;have r:=K i _ _ u A;rw[w,A];generalize ls[i]=p at *;generalize rs[i]=a at *;generalize rs'[i]=b at *;have v:p∈ls:=List.mem_of_getElem? u;have m:p.nm∈ls.map (·.nm):=mem_map.mpr ⟨p,v,rfl⟩;have d:a.sl=b.sl:=s.lo.inj r.lo (by rw[s.val,r.val,e _ m]);have C:es.find? (stp (wtF ls) f pl p.nm)=es.find? (stp (wtF ls) o pl p.nm):=by
   have N:∀{t:List (GD × List Str)},(∀ x∈t,x∈es)->t.find? (stp (wtF ls) f pl p.nm)=t.find? (stp (wtF ls) o pl p.nm):=by
    intro t;induction t with
    | nil=>intro _;rfl
    | cons x t ih=>
     intro z;have : stp (wtF ls) f pl p.nm x=stp (wtF ls) o pl p.nm x:=by
      have l:=(F.sub x (z x (by simp))).1;have L:sm (λq=>f q*wtF ls q) x.2=sm (λq=>o q*wtF ls q) x.2:=Jbm λq j=>by rw[e q (l q j)]
      have I:(∀ q∈x.2,f q<=f p.nm)↔∀ q∈x.2,o q<=o p.nm:=by
       constructor
       .intro h q j;rw[<- e q (l q j), <- e _ m];show h q j
       .intro h q j;rw[e q (l q j),e _ m];show h q j
      unfold stp;rw[L,decide_eq_decide.mpr I]
     rw[List.find?_cons,List.find?_cons,this,ih λy J=>z y (by simp[J])]
   show N λ_ h=>h
  have B:a.sp=b.sp:=by
   rcases s.sp with⟨x1,x2⟩ | ⟨x1,e1,x2,x3⟩ <;> rcases r.sp with⟨y1,y2⟩ | ⟨y1,e2,y2,y3⟩
   .rw[x2,y2]
   .show absurd (d ▸ x1) y1
   .show absurd (d ▸ y1) x1
   .rw[C,y2]at x2;cases x2;rw[x3,y3]
  have nm:a.nm=b.nm:=s.nm.trans r.nm.symm;let(V,Y,W):=a;let(X,U,S):=b;simp only at nm d B;rw[nm,d,B]
 .rw[List.getElem?_eq_none ∅,List.getElem?_eq_none ∅]
end
theorem Jix{m:Nat}:∀(fs:List (Int × Int))(k:Nat),(∀ a∈fs,1<=a.2/\Mth.Sz m a.2)->fs.length<=k->∃ D:Int,1<=D/\Mth.Sz (m*k+1) D/\∀ a∈fs,Dv D (vl a)
 | [],k,_,_=>⟨1,by decide,by unfold Mth.Sz;show Nat.one_lt_two_pow ∅,λa ha=>by cases ha⟩
 | a::fs,0,_,h=>by simp at h
 | a::fs,k+1,h,hl=>by
  let(D,h1,h2,h3):=Jix fs k (λx hx=>h x (by simp[hx])) (by simpa using hl);let(a1,a2):=h a (by simp);show(D*a.2,JbA h1 a1,?_,λx hx=>?_)
  .have:=h2.mul a2;rw[show m*(k+1)+1=m*k+1+m by rw[Nat.mul_add];ac_nf];show this
  .rcases mem_cons.mp hx with e | hx
   .subst e;show Dv.over a1 ?_;have : vl x*(x.2:Rat)=(x.1:Rat):=by
     unfold vl;show Rat.div_mul_cancel (JaA a1)
    rw[this];show Dv.int _
   .show(h3 x hx).more _
theorem Jdt(h:1<=a.2)(h0:0<=a.1):vl a<=(a.1:Rat):=by
 unfold vl;have p:(0:Rat)<(a.2:Rat):=by exact_mod_cast (show 0<a.2 by ac_nf)
 have e:(a.1:Rat)/(a.2:Rat)*(a.2:Rat)=(a.1:Rat):=Rat.div_mul_cancel (JaA h);have q:(a.1:Rat)<=(a.1:Rat)*(a.2:Rat):=by
  have : a.1<=a.1*a.2:=by
   have:=Int.mul_le_mul_of_nonneg_left h h0;ac_nf
  exact_mod_cast this
 rw[<- scaled p,e];show q
theorem vl_nn(h:1<=a.2):0<=vl a↔0<=a.1:=by
 unfold vl;have p:(0:Rat)<(a.2:Rat):=by exact_mod_cast (show 0<a.2 by ac_nf)
 have e:(a.1:Rat)/(a.2:Rat)*(a.2:Rat)=(a.1:Rat):=Rat.div_mul_cancel (JaA h);rw[<- scaled p,e,Rat.zero_mul];exact_mod_cast Iff.rfl
theorem Jjj:∀(ws:List (Str × Int))(w:Str->Rat),(∀ x∈ws,w x.1=(x.2:Rat))->(((ws.map (·.2)).sum:Int):Rat)=sm w (ws.map (·.1))
 | [],_,_=>rfl
 | x::ws,w,h=>by
  have ih:=Jjj ws w λy hy=>h y (by simp[hy]);simp only[map_cons,List.sum_cons,sm,h x (by simp), <- ih];push_cast;rfl
variable{es:List (GD × List Str)}{lds:List LidD}{ms:List (Str × (Int × Int))}{q0:Int}
theorem LSt.way{e:GD × List Str}{l:LidD}(h:LSt b ls pl e l):(∀ n∈e.2,n∈ls.map (·.nm))/\e.2.Nodup:=by
 show(λn c=>?_,h.pm.nodup_iff.mp h.nd);let(x,d,rfl):=mem_map.mp (h.pm.mem_iff.mpr c);let(p,a,e,_):=h.wt x d;show mem_map.mpr ⟨p,a,e⟩
theorem JkA(hl:lds.length=es.length)(hls:∀(i:Nat) e l,es[i]?=some e->lds[i]?=some l->LSt b ls pl e l):∀ e∈es,(∀ n∈e.2,n∈ls.map (·.nm))/\e.2.Nodup:=λe c=>by
 let(i,a):=List.getElem?_of_mem c;have d:=(List.getElem?_eq_some_iff.mp a).1;show(hls i e _ a (List.getElem?_eq_getElem ∅)).way
theorem Jj7(b1:1<=b)(sb:Mth.Sz 2000 b)(hc:SHC ls es pl)(hr:∀ e∈es,0<=vl (roomF pl e.1))(hl:lds.length=es.length)(hls:∀(i:Nat) e l,es[i]?=some e->lds[i]?=some l->LSt b ls pl e l)(hm:ms.length=ls.length)(hms:∀(i:Nat) p m,ls[i]?=some p->ms[i]?=some m->MSt b p m):∃ q0,RC b q0 (ls.map (·.nm)) (wtF ls) (λn=>moF ls n*(b:Rat)) (gpB b es pl) ms/\RSt b (ls.map (·.nm)) (wtF ls) (λn=>moF ls n*(b:Rat)) (gpB b es pl) [] lds:=by
 have M:=JkA hl hls;have y:(0:Rat)<(b:Rat):=by exact_mod_cast (show 0<b by ac_nf)
 have bn:=JaA b1;have I:∀ m∈ms, ∃ p∈ls,MSt b p m:=λm r=>by
  let(i,O):=List.getElem?_of_mem r;have li:=(List.getElem?_eq_some_iff.mp O).1;show(ls[i]'∅,List.getElem_mem _,hms i _ m (List.getElem?_eq_getElem ∅) O)
 obtain⟨B,X,W,F⟩:∃ B:Int,Mth.Sz 200 B/\0<=B/\∀ x,Mth.Sz 200 x->x<=B:=⟨2 ^ 200-1,by unfold Mth.Sz;decide,by decide,λx k=>by unfold Mth.Sz at k;ac_nf⟩;have z:∀ g∈gpB b es pl, ∃ e∈es,g=⟨vl (roomF pl e.1)*(b:Rat),e.2⟩:=λg z=>by
  let(e,f,rfl):=mem_map.mp z;show(e,f,rfl)
 have A:∀ p∈ls,1<=p.wt:=λp d=>(hc.pok p d).w;have t:∀ p∈ls,0<=vl p.mo:=λp d=>(vl_nn (hc.pb p d).2.b1).mpr (hc.pok p d).m0;have M0:∀ p∈ls,0<=moF ls p.nm/\moF ls p.nm<=vl p.mo:=λp d=>by
  rw[Jer hc.nd d];have L:=A p d;have K:(0:Rat)<(p.wt:Rat):=by exact_mod_cast (show 0<p.wt by ac_nf)
  have e:vl p.mo/(p.wt:Rat)*(p.wt:Rat)=vl p.mo:=Rat.div_mul_cancel (JaA L);have P:=t p d;constructor
  .rw[<- scaled K,e,Rat.zero_mul];show P
  .rw[<- scaled K,e];have : (1:Rat)<=(p.wt:Rat):=by exact_mod_cast L
   have:=Rat.mul_le_mul_of_nonneg_left this P;rw[Rat.mul_one]at this;show this
 have top:∀ a:Int × Int,FB 200 48 a->0<=vl a->vl a<=(B:Rat):=λa H Z=>by
  show Rat.le_trans (Jdt H.b1 ((vl_nn H.b1).mp Z)) ?_;exact_mod_cast F _ H.s1
 have u:((B*b:Int):Rat)=(B:Rat)*(b:Rat):=by push_cast;rfl
 have N:RC b (B*b) (ls.map (·.nm)) (wtF ls) (λn=>moF ls n*(b:Rat)) (gpB b es pl) ms:=by
  show(b1,?_,hc.nd,by rw[length_map];show hc.l12,λn o=>?_,λm r=>?_,λg j=>?_,λn o=>?_,(X.mul sb))
  .show List.ext_getElem? λi=>?_;rw[List.getElem?_map,List.getElem?_map];by_cases c:i<ls.length
   .rw[List.getElem?_eq_getElem c,List.getElem?_eq_getElem (by ac_nf:i<ms.length)];show congrArg some (hms i _ _ (List.getElem?_eq_getElem c) (List.getElem?_eq_getElem ∅)).nm
   .rw[List.getElem?_eq_none ∅,List.getElem?_eq_none ∅];rfl
  .let(p,d,rfl):=mem_map.mp o;show(p.wt,Jfg hc.nd d,A p d,hc.wt p d)
  .let(p,d,h):=I m r;show(?_,h.fb,?_)
   .rw[h.vl,h.nm,Jer hc.nd d];grind
   .rw[h.nm];show Rat.mul_nonneg (M0 p d).1 (Rat.le_of_lt y)
  .let(e,f,rfl):=z g j;show((M e f).1,(M e f).2,Rat.mul_nonneg (hr e f) (Rat.le_of_lt y),?_);rw[u];show Rat.mul_le_mul_of_nonneg_right (top _ (hc.rb e f) (hr e f)) (Rat.le_of_lt y)
  .let(p,d,rfl):=mem_map.mp o;rw[u];show Rat.mul_le_mul_of_nonneg_right (Rat.le_trans (M0 p d).2 (top _ ((hc.pb p d).2.mono ⋯ ⋯) (t p d))) (Rat.le_of_lt y)
 show(_,N,⟨(0,1),?_⟩,⟨by unfold gpB;rw[length_map];show hl,λi g l s J=>?_⟩,?_,λx k=>by cases k)
 .rw[Jhc];show RInv.start (λn o=>?_) (λg j=>(N.gw g j).2.2.1);let(p,d,rfl):=mem_map.mp o;show Rat.mul_nonneg (M0 p d).1 (Rat.le_of_lt y)
 .unfold gpB at s;rw[List.getElem?_map]at s;let(e,f,rfl):=Option.map_eq_some_iff.mp s;have h:=hls i e l f J;have v:∀ x∈l.ws,wtF ls x.1=(x.2:Rat)/\1<=x.2:=λx k=>by
   let(p,d,U,T):=h.wt x k;rw[<- U, <- T];show(Jfg hc.nd d,A p d)
  have Y:sm (used [] (wtF ls)) e.2=0:=Jc7 λq _=>by
   unfold used;rw[Jcu (by simp),Rat.zero_mul]
  show(h.pm,h.nd,v,?_,?_,h.fb.lo,?_,(λn _ C=>by cases C),λζ=>by let(n,_,C):=ζ;cases C)
  .rw[h.rest];show _=_-sm (used [] (wtF ls)) e.2;rw[Y];grind
  .rw[h.load,Jjj l.ws (wtF ls) λx k=>(v x k).1,Jjh h.pm];show Jbm λq _=>by unfold left;rw[if_neg (by simp)]
  .rw[h.last];show(Int.le_refl 1,by unfold Mth.g;simp)
 .let(D,D1,Q,V):=Jix (m:=12) (ls.map (·.mo)) 5 (λa E=>by
   let(p,d,rfl):=mem_map.mp E;show((hc.pb p d).2.b1,(hc.pb p d).2.s2)) (by rw[length_map];show hc.l5)
  let(G,G1,S,R):=Jix (m:=48) (es.map λe=>roomF pl e.1) 4 (λa E=>by
   let(e,f,rfl):=mem_map.mp E;show((hc.rb e f).b1,(hc.rb e f).s2)) (by rw[length_map];show hc.l4)
  show(D*G,JbA D1 G1,(Q.mul S).mono (by simp),λx k=>(by cases k),λg j=>?_,λn o=>?_)
  .let(e,f,rfl):=z g j;show Dv (D*G) (vl (roomF pl e.1)*(b:Rat)/(b:Rat));rw[show vl (roomF pl e.1)*(b:Rat)/(b:Rat)=vl (roomF pl e.1) by grind,Int.mul_comm];show(R _ (mem_map.mpr ⟨e,f,rfl⟩)).more _
  .let(p,d,rfl):=mem_map.mp o;rw[Jer hc.nd d,Jfg hc.nd d];have wn:=JaA (A p d);rw[show vl p.mo/(p.wt:Rat)*(b:Rat)/(b:Rat)*(p.wt:Rat)=vl p.mo by grind];show(V _ (mem_map.mpr ⟨p,d,rfl⟩)).more _
theorem Jga{γ:Type}{P : α->Bool}{R : β->Bool}{f : α->γ}{g : β->γ}:∀{as:List α}{bs:List β},as.length=bs.length->(∀(i:Nat) a b,as[i]?=some a->bs[i]?=some b->P a=R b/\f a=g b)->(as.find? P).map f=(bs.find? R).map g
 | [],[],_,_=>rfl
 | [],b::bs,h,_=>by simp at h
 | a::as,[],h,_=>by simp at h
 | a::as,b::bs,h,k=>by
  let(h1,h2):=k 0 a b rfl rfl;have ih:=Jga (as:=as) (bs:=bs) (by simpa using h) λi x y hx hy=>k (i+1) x y (by simpa using hx) (by simpa using hy);rw[List.find?_cons,List.find?_cons,h1];cases R b with
  | true=>show congrArg some h2
  | false=>show ih
theorem Jjf{lv w:Str->Rat}{c:Rat}:∀(l:List Str),sm (λn=>lv n/c*w n) l=sm (λn=>lv n*w n) l/c
 | []=>by simp only[sm];grind
 | n::l=>by
  simp only[sm,Jjf l];grind
abbrev RCs(b q0:Int)(ls:List PD)(es:List (GD × List Str))(pl:Str->Int × Int)(ms:List (Str × (Int × Int))):Prop:=RC b q0 (ls.map (·.nm)) (wtF ls) (λn=>moF ls n*(b:Rat)) (gpB b es pl) ms
abbrev RSs(b:Int)(ls:List PD)(es:List (GD × List Str))(pl:Str->Int × Int)(lvs:List (Str × (Int × Int)))(lds:List LidD):Prop:=RSt b (ls.map (·.nm)) (wtF ls) (λn=>moF ls n*(b:Rat)) (gpB b es pl) lvs lds
def lvf(b:Int)(lvs:List (Str × (Int × Int)))(n:Str):Rat:=lvv lvs n/(b:Rat)
theorem Jmt(rc:RCs b q0 ls es pl ms)(rs:RSs b ls es pl lvs lds)(hl:(ls.map (·.nm)).length<=lvs.length){n:Str}(hn:n∈ls.map (·.nm)):∃ x∈lvs,x.1=n/\lvv lvs n=vl x.2:=by
 let(x,a,e):=mem_map.mp (rs.all rc hl n hn);let(L,c):=rs.inv;have e:x.1=n:=e;show(x,a,e,e ▸ Jeq c.nd a)
theorem sh_at(rs:RSs b ls es pl lvs lds){x:Str × (Int × Int)}(hx:x∈lvs):lvv lvs x.1=vl x.2:=by
 let(L,a):=rs.inv;show Jeq a.nd hx
theorem sh_lv(rc:RCs b q0 ls es pl ms)(rs:RSs b ls es pl lvs lds){x:Str × (Int × Int)}(hx:x∈lvs):FB 2800 600 x.2:=by
 let(L,f):=rs.inv;let(D,c):=rs.bt;have e:=f.a x hx;have h:=rc.mq x.1 (f.sub _ (mem_map.mpr ⟨x,hx,rfl⟩));have d:=rs.lo x hx;have i:=rs.len rc;have g:=rc.l12;show((c.dl x hx).up rc.b1).fb (m:=2200) (n:=600) d.b1 d.g1 c.D1 (c.sD.mono ∅) e.1 (Rat.le_trans e.2.2 h) rc.sQ
theorem Jje(hw:∀ e∈es,(∀ n∈e.2,n∈ls.map (·.nm))/\e.2.Nodup)(rc:RCs b q0 ls es pl ms)(rs:RSs b ls es pl lvs lds)(hl:(ls.map (·.nm)).length<=lvs.length):∃ D,ShF ls es pl (lvf b lvs) D:=by
 let(L,s):=rs.inv;let(D,j):=rs.bt;have F:=s.fair rc.wpos (λg c=>(rc.gw g c).1) (rs.all rc hl);have f:(0:Rat)<(b:Rat):=by have:=rc.b1;exact_mod_cast (show 0<b by ac_nf)
 have m:=JaA rc.b1;have e:∀ n,lvf b lvs n*(b:Rat)=lvv lvs n:=λn=>Rat.div_mul_cancel m;have t:=rs.len rc;have p:=rc.l12;have k:∀ l,sm (λn=>lvf b lvs n*wtF ls n) l*(b:Rat)=sm (λn=>lvv lvs n*wtF ls n) l:=λl=>by
  unfold lvf;rw[Jjf,Rat.div_mul_cancel m]
 show(D,hw,⟨λn a=>?_,λn a=>?_,λg c=>?_,λn a=>?_⟩,j.D1,j.sD.mono ∅,λn a=>?_)
 .rw[<- scaled f,e,Rat.zero_mul];show F.lo n a
 .rw[<- scaled f,e];show F.hi n a
 .let(x,d,rfl):=Jc5 c;rw[<- scaled f,k];show F.fit ⟨vl (roomF pl x.1)*(b:Rat),x.2⟩ (mem_map.mpr ⟨x,d,rfl⟩)
 .rcases F.stop n a with h | ⟨g,c,h1,i,h3⟩
  .left
   have:=e n;rw[h]at this;grind
  .right
   let(x,d,rfl):=mem_map.mp c;show(⟨vl (roomF pl x.1),x.2⟩,mem_map.mpr ⟨x,d,rfl⟩,h1,?_,λq o=>?_)
   .have i:sm (λn=>lvv lvs n*wtF ls n) x.2=vl (roomF pl x.1)*(b:Rat):=i;rw[<- k]at i;show sm (λn=>lvf b lvs n*wtF ls n) x.2=vl (roomF pl x.1);grind
   .rw[<- scaled f,e,e];show h3 q o
 .let(x,d,rfl,r):=Jmt rc rs hl a;unfold lvf;rw[r];show j.dl x d
theorem Jlg(rc:RCs b q0 ls es pl ms)(rs:RSs b ls es pl lvs lds)(hl:(ls.map (·.nm)).length<=lvs.length){i:Nat}{e:GD × List Str}{l:LidD}(he:es[i]?=some e)(hli:lds[i]?=some l){x:Str × (Int × Int)}(hx:x∈lvs):((wtOf l.ws x.1).isSome&&(decide (l.rest=(0,1))&&decide (l.last=x.2)))=stp (wtF ls) (lvf b lvs) pl x.1 e:=by
 have a:=rs.ok.2 i ⟨vl (roomF pl e.1)*(b:Rat),e.2⟩ l (by unfold gpB;rw[List.getElem?_map,he];rfl) hli;have s:(0:Rat)<(b:Rat):=by have:=rc.b1;exact_mod_cast (show 0<b by ac_nf)
 have t:=JaA rc.b1;have d:∀ n,lvf b lvs n*(b:Rat)=lvv lvs n:=λn=>Rat.div_mul_cancel t;have B:∀ l,sm (λn=>lvf b lvs n*wtF ls n) l*(b:Rat)=sm (λn=>lvv lvs n*wtF ls n) l:=λl=>by
  unfold lvf;rw[Jjf,Rat.div_mul_cancel t]
 have all:=rs.all rc hl;have m:=(rc.gw ⟨vl (roomF pl e.1)*(b:Rat),e.2⟩ (by unfold gpB;show mem_map.mpr ⟨e,List.mem_of_getElem? he,rfl⟩)).1;have o:=rs.lo x hx;have j:=sh_at rs hx;unfold stp;have A:(wtOf l.ws x.1).isSome=decide (x.1∈e.2):=by
  by_cases c:x.1∈e.2
  .rw[decide_eq_true c];cases h:wtOf l.ws x.1 with
   | none=>show absurd (a.pm.mem_iff.mpr c) (Jhe.mp h)
   | some k=>rfl
  .rw[decide_eq_false c,Jhe.mpr λz=>c (a.pm.mem_iff.mp z)];rfl
 have w:decide (l.rest=(0,1))=decide (sm (λq=>lvf b lvs q*wtF ls q) e.2=vl (roomF pl e.1)):=by
  show decide_eq_decide.mpr ?_;have p:l.rest=(0,1)↔vl l.rest=0:=by
   rw[<- Jhc];show(λh=>by rw[h],λh=>a.low.inj ⟨Int.le_refl 1,by unfold Mth.g;simp⟩ h)
  have f:vl l.rest=vl (roomF pl e.1)*(b:Rat)-sm (λn=>lvv lvs n*wtF ls n) e.2:=a.rest;rw[p,f, <- B];constructor <;> intro h <;> grind
 rw[A,w];by_cases c:x.1∈e.2
 .have u:decide (l.last=x.2)=decide (∀ q∈e.2,lvf b lvs q<=lvf b lvs x.1):=by
   show decide_eq_decide.mpr ?_;have p:l.last=x.2↔vl l.last=lvv lvs x.1:=by
    rw[j];show(λh=>by rw[h],λh=>a.llow.inj o h)
   rw[p];constructor
   .intro h q r;rw[<- scaled s,d,d, <- h];show a.l1 q r (all q (m q r))
   .intro h;let(n,y,_,v):=a.l2 ⟨x.1,c,all _ (m _ c)⟩;have f:=h n y;rw[<- scaled s,d,d,v]at f;have C:=a.l1 x.1 c (all _ (m _ c));grind
  rw[u]
 .rw[decide_eq_false c];rfl
theorem JlJ(hw:∀ e∈es,(∀ n∈e.2,n∈ls.map (·.nm))/\e.2.Nodup)(rc:RCs b q0 ls es pl ms)(rs:RSs b ls es pl lvs lds)(hl:(ls.map (·.nm)).length<=lvs.length)(hn:lds.map (·.nm)=es.map (·.1.nm)){x:Str × (Int × Int)}(hx:x∈lvs)(hne:vl x.2≠moF ls x.1*(b:Rat)):∃ l e,lds.find? (λl=>(wtOf l.ws x.1).isSome&&(decide (l.rest=(0,1))&&decide (l.last=x.2)))=some l/\es.find? (stp (wtF ls) (lvf b lvs) pl x.1)=some e/\l.nm=e.1.nm:=by
 have k:lds.length=es.length:=by simpa using congrArg List.length hn
 have m:=Jga (P:=λl:LidD=>(wtOf l.ws x.1).isSome&&(decide (l.rest=(0,1))&&decide (l.last=x.2))) (R:=stp (wtF ls) (lvf b lvs) pl x.1) (f:=λl:LidD=>l.nm) (g:=λe:GD × List Str=>e.1.nm) k λi l e c a=>⟨Jlg rc rs hl a c hx,by
  have:=congrArg (·[i]?) hn;simp only[List.getElem?_map,c,a]at this;show Option.some.inj this⟩
 let(D,F):=Jje hw rc rs hl;let(L,o):=rs.inv;have j:=o.sub _ (mem_map.mpr ⟨x,hx,rfl⟩);have p:=JaA rc.b1;have q:∃ e∈es,stp (wtF ls) (lvf b lvs) pl x.1 e=true:=by
  rcases F.fair.stop x.1 j with h | ⟨g,hg,c,a,h3⟩
  .show absurd ?_ hne;rw[<- h, <- sh_at rs hx];show(Rat.div_mul_cancel p).symm
  .let(e,d,rfl):=Jc5 hg;show(e,d,?_);unfold stp;rw[decide_eq_true c,decide_eq_true a,decide_eq_true h3];rfl
 cases hf:es.find? (stp (wtF ls) (lvf b lvs) pl x.1)with
 | none=>
  let(e,d,h):=q;have:=List.find?_eq_none.mp hf e d;show absurd h this
 | some e=>
  rw[hf]at m;let(l,c,a):=Option.map_eq_some_iff.mp m;show(l,e,c,rfl,a)
theorem JlL(hc:SHC ls es pl)(rc:RCs b q0 ls es pl ms)(rs:RSs b ls es pl lvs lds){p:PD}(hp:p∈ls){x:Str × (Int × Int)}(hx:x∈lvs)(e1:x.1=p.nm)(he:vl x.2=moF ls x.1*(b:Rat)):ShRow ls es pl (lvf b lvs) p ⟨p.nm,p.mo,none⟩:=by
 have a:=JaA rc.b1;have c:=JaA (hc.pok p hp).w;show(rfl,(hc.pb p hp).2.lo,?_, .inl ⟨rfl,rfl⟩);show vl p.mo=_;unfold lvf;rw[<- e1,sh_at rs hx,he,e1,Jer hc.nd hp];grind
theorem JlK(hc:SHC ls es pl)(rc:RCs b q0 ls es pl ms)(rs:RSs b ls es pl lvs lds){p:PD}(hp:p∈ls){x:Str × (Int × Int)}(hx:x∈lvs)(e1:x.1=p.nm)(hne:vl x.2≠moF ls x.1*(b:Rat)){t:Int × Int}(ht:LoInv (mulF x.2 (p.wt,1)) b t){e:GD × List Str}(hf:es.find? (stp (wtF ls) (lvf b lvs) pl x.1)=some e):ShRow ls es pl (lvf b lvs) p ⟨p.nm,t,some e.1.nm⟩:=by
 have j:=JaA rc.b1;have i:=JaA (hc.pok p hp).w;have g:=rs.lo x hx;have h:=Jfq (a:=x.2) (c:=(p.wt,1)) g.b1 (Int.le_refl 1);have d:=ht.vl h.b1 rc.b1;rw[JkM g.b1 (Int.le_refl 1),JgC]at d;have f:vl t=lvf b lvs p.nm*(p.wt:Rat):=by
  unfold lvf;rw[<- e1,sh_at rs hx,d];grind
 show(rfl,ht.lo,f, .inr ⟨λz=>hne ?_,e,by rw[<- e1];show hf,rfl⟩);have z:t=p.mo:=z;rw[z]at d;rw[e1,Jer hc.nd hp,d];grind
def rvl(rs:List ShD)(n:Str):Rat:=((rs.find? λr=>decide (r.nm=n)).map λr=>vl r.sl).getD 0
theorem Ji8:∀{rs:List ShD}{r:ShD},(rs.map (·.nm)).Nodup->r∈rs->rvl rs r.nm=vl r.sl
 | [],_,_,h=>by cases h
 | a::rs,r,hn,h=>by
  rw[map_cons,nodup_cons]at hn;unfold rvl;rw[List.find?_cons];rcases mem_cons.mp h with e | h
  .subst e;simp
  .have : a.nm≠r.nm:=λz=>hn.1 (z ▸ mem_map.mpr ⟨r,h,rfl⟩);rw[decide_eq_false this];show Ji8 hn.2 h
structure ShK(ks:List PD)(es:List (GD × List Str))(pf:Str->Int × Int)(rs:List ShD):Prop where
 nm:rs.map (·.nm)=ks.map (·.nm)
 fb:∀ r∈rs,FB 800 600 r.sl
 bd:∀(i:Nat) p r,ks[i]?=some p->rs[i]?=some r->0<=vl r.sl/\vl r.sl<=vl p.mo/\((∀ e∈es,p.nm∉e.2)->r.sl=p.mo)
 fit:∀ e∈es,sm (rvl rs) e.2<=vl (roomF pf e.1)
 par:∀ e∈es, ∀(j:Nat)(u:Int × Int),Lo u->vl u=sm (rvl rs) (e.2.take j)->FB 800 600 u
variable{pf:Str->Int × Int}{rs:List ShD}
theorem ShR.k(hc:SHC ks es pf)(hm:∀ p∈ks,FB 100 6 p.mo)(h:ShR ks es pf rs):ShK ks es pf rs:=by
 let(hl,f,D,F,R):=h;have Y:rs.map (·.nm)=ks.map (·.nm):=by
  show List.ext_getElem? λi=>?_;rw[List.getElem?_map,List.getElem?_map];by_cases c:i<ks.length
  .rw[List.getElem?_eq_getElem c,List.getElem?_eq_getElem (by ac_nf:i<rs.length)];show congrArg some (R i _ _ (List.getElem?_eq_getElem c) (List.getElem?_eq_getElem ∅)).nm
  .rw[List.getElem?_eq_none ∅,List.getElem?_eq_none ∅];rfl
 have N:(rs.map (·.nm)).Nodup:=Y ▸ hc.nd;have s:∀(i:Nat) p r,ks[i]?=some p->rs[i]?=some r->0<=vl r.sl/\vl r.sl<=vl p.mo:=λi p r o q=>by
  have d:=R i p r o q;have a:=List.mem_of_getElem? o;have y:p.nm∈ks.map (·.nm):=mem_map.mpr ⟨p,a,rfl⟩;have U:=(hc.pok p a).w;have X:(0:Rat)<(p.wt:Rat):=by exact_mod_cast (show 0<p.wt by ac_nf)
  have K:=F.fair.lo _ y;have W:=F.fair.hi _ y;rw[Jer hc.nd a]at W;have e:vl p.mo/(p.wt:Rat)*(p.wt:Rat)=vl p.mo:=Rat.div_mul_cancel (JaA U);rw[d.val];show(Rat.mul_nonneg K (Rat.le_of_lt X),by rw[<- e];show Rat.mul_le_mul_of_nonneg_right W (Rat.le_of_lt X))
 have v:∀ n∈ks.map (·.nm), ∃(i:Nat)(p:PD)(r:ShD),ks[i]?=some p/\rs[i]?=some r/\p.nm=n/\rvl rs n=vl r.sl/\rvl rs n=f n*wtF ks n:=λn b=>by
  let(p,o,rfl):=mem_map.mp b;let(i,C):=List.getElem?_of_mem o;have li:=(List.getElem?_eq_some_iff.mp C).1;have q:=List.getElem?_eq_getElem (by ac_nf:i<rs.length);have d:=R i p _ C q;have e:=Ji8 N (List.mem_of_getElem? q);rw[d.nm]at e;show(i,p,_,C,q,rfl,e,by rw[e,d.val,Jfg hc.nd o])
 have I:∀ n∈ks.map (·.nm),Dv D (rvl rs n):=λn b=>by
  let(i,p,r,o,q,e,G,E):=v n b;have a:=List.mem_of_getElem? o;rw[E, <- e,Jfg hc.nd a];show(F.dv _ (e ▸ b)).mul _
 have nn:∀ n∈ks.map (·.nm),0<=rvl rs n:=λn b=>by
  let(i,p,r,o,q,e,G,E):=v n b;rw[G];show(s i p r o q).1
 have P:∀ l:List Str,(∀ n∈l,n∈ks.map (·.nm))->sm (rvl rs) l=sm (λn=>f n*wtF ks n) l:=λl S=>Jbm λn b=>by
  let(i,p,r,o,q,e,G,E):=v n (S n b);show E
 show(Y,λr q=>?_,λi p r o q=>⟨(s i p r o q).1,(s i p r o q).2,λT=>?_⟩,λe z=>?_,λe z j u Z L=>?_)
 .let(i,C):=List.getElem?_of_mem q;have li:=(List.getElem?_eq_some_iff.mp C).1;have o:=List.getElem?_eq_getElem (by ac_nf:i<ks.length);have d:=R i _ r o C;have a:=List.mem_of_getElem? o;have b0:=s i _ r o C;generalize ks[i]=p at *;have H:=hm p a;have:=(F.dv p.nm (mem_map.mpr ⟨p,a,rfl⟩)).mul p.wt;rw[<- d.val]at this;have t:=this.fb (m:=100) (n:=600) d.lo.b1 d.lo.g1 F.D1 F.sD b0.1 (Rat.le_trans b0.2 (Jdt H.b1 (hc.pok p a).m0)) H.s1;show(t.s1.mono ⋯,t.s2,t.b1,t.g1)
 .have d:=R i p r o q;have a:=List.mem_of_getElem? o;have y:p.nm∈ks.map (·.nm):=mem_map.mpr ⟨p,a,rfl⟩;have U:=(hc.pok p a).w;rcases F.fair.stop _ y with h | ⟨g,hg,h,_⟩
  .show d.lo.inj (hm p a).lo ?_;rw[d.val,h,Jer hc.nd a];show Rat.div_mul_cancel (JaA U)
  .let(e,z,rfl):=Jc5 hg;show absurd h (T e z)
 .rw[P e.2 (F.sub e z).1];show F.fair.fit ⟨vl (roomF pf e.1),e.2⟩ (mem_map.mpr ⟨e,z,rfl⟩)
 .have A:∀ n∈e.2.take j,n∈ks.map (·.nm):=λn b=>(F.sub e z).1 n (mem_of_mem_take b);obtain⟨B,hB,O,Q⟩:∃ B:Int,Mth.Sz 100 B/\0<=B/\∀ x,Mth.Sz 100 x->x<=B:=⟨2 ^ 100-1,by unfold Mth.Sz;decide,by decide,λx hx=>by unfold Mth.Sz at hx;ac_nf⟩;have M:(e.2.take j).length<=12:=by
   have K:=sub_len _ _ (F.sub e z).2 (F.sub e z).1;rw[length_map]at K;have W:=hc.l12;rw[length_take];ac_nf
  have dv:Dv D (vl u):=by
   rw[L];show Dv.sm λn b=>I n (A n b)
  have up:vl u<=((B*(12:Nat):Int):Rat):=by
   rw[L];show Jjg O (λn b=>?_) M;let(i,p,r,o,q,e',G,E):=v n (A n b);have a:=List.mem_of_getElem? o;have H:=hm p a;rw[G];show Rat.le_trans (Rat.le_trans (s i p r o q).2 (Jdt H.b1 (hc.pok p a).m0)) ?_;exact_mod_cast Q _ H.s1
  have J:0<=vl u:=by
   rw[L];show sm_nn λn b=>nn n (A n b)
  have V:Mth.Sz 4 ((12:Nat):Int):=.lit ⋯ ⋯;have t:=dv.fb (m:=100+4) (n:=600) Z.b1 Z.g1 F.D1 F.sD J up (hB.mul V);show(t.s1.mono ⋯,t.s2,t.b1,t.g1)
section
variable{a b c d B:TS}{D:Ends}
end
structure Nxt(R:St->Hp->Prop)(b:TS)(D:Ends):Prop where
 go:∀{σ : St}{H:Hp},b D σ H->R σ H
theorem JfS{a b:TS}{D:Ends}(h:∀ R,Nxt R b D->a { D with nx:=R } σ H):tSeq a b D σ H:=h _ ⟨λz=>z⟩
section
variable{a c:Addr}{K:W.Frag}
end
def Srt:List Fr2->Prop
 | []=>True
 | a::l=>Lo a/\(∀ b∈l,vl a<=vl b)/\Srt l
def cnt(t:Rat)(l:List Fr2):Nat:=l.countP λa=>decide (vl a<=t)
def lexL:List Fr2->List Fr2->Prop
 | b::m,a::l=>vl b<vl a\/(b=a/\lexL m l)
 | _,_=>False
theorem JjB{t:Rat}{l:List Fr2}(h:∀ b∈l,t<vl b):cnt t l=0:=by
 unfold cnt;rw[List.countP_eq_zero];intro a c;have:=h a c;simp;grind
theorem Jkp:∀{A B:List Fr2}{u:Rat},Srt A->Srt B->A.length=B.length->(∀ t,t<u->cnt t A=cnt t B)->cnt u A<cnt u B->lexL B A
 | [],[],_,_,_,_,_,h=>by simp[cnt]at h
 | [],_::_,_,_,_,hl,_,_=>by simp at hl
 | _::_,[],_,_,_,hl,_,_=>by simp at hl
 | a::A,b::B,u,hA,hB,hl,he,hc=>by
  let(la,ga,sA):=hA;let(lb,gb,sB):=hB;have c1:∀ t,cnt t (a::A)=cnt t A+if vl a<=t then 1 else 0:=λt=>by simp only[cnt,List.countP_cons,decide_eq_true_eq]
  have c2:∀ t,cnt t (b::B)=cnt t B+if vl b<=t then 1 else 0:=λt=>by simp only[cnt,List.countP_cons,decide_eq_true_eq]
  by_cases e:vl a=vl b
  .have:=la.inj lb e;subst this;show .inr ⟨rfl,Jkp (u:=u) sA sB (by simpa using hl) (λt ht=>?_) ?_⟩
   .have:=he t ht;rw[c1,c2]at this;ac_nf
   .rw[c1,c2]at hc;ac_nf
  .by_cases l:vl b<vl a
   .show .inl l
   .have l:vl a<vl b:=by grind
    have z:∀ t,t<vl b->cnt t (b::B)=0:=λt ht=>JjB λy hy=>by
     rcases mem_cons.mp hy with rfl | hy
     .show ht
     .show Std.lt_of_lt_of_le ht (gb y hy)
    by_cases k:vl a<u
    .have h1:=he _ k;rw[z _ l,c1,if_pos (Rat.le_refl)]at h1;ac_nf
    .rw[z u (by grind)]at hc;ac_nf
theorem Jhg{t:Rat}{a b:List Fr2}(h:a.Perm b):cnt t a=cnt t b:=h.countP_eq _
theorem Jin{t:Rat}{f : α->Fr2}:∀ l:List α,cnt t (l.map f)=l.countP λn=>decide (vl (f n)<=t):=λl=>by
 unfold cnt;rw[List.countP_map];rfl
theorem Jed{p q : α->Bool}:∀{l:List α},(∀ n∈l,p n=true->q n=true)->(∃ n∈l,q n=true/\p n=false)->l.countP p<l.countP q
 | [],_,h=>by let(_,h,_):=h;cases h
 | a::l,h,⟨n,hn,h1,h2⟩=>by
  have mono:l.countP p<=l.countP q:=List.countP_mono_left λx hx=>h x (mem_cons_of_mem _ hx);rw[List.countP_cons,List.countP_cons];rcases mem_cons.mp hn with rfl | hn
  .rw[h1,h2];simp;ac_nf
  .have:=Jed (λx hx=>h x (mem_cons_of_mem _ hx)) ⟨n,hn,h1,h2⟩;have:=h a (by simp);cases e1:p a with
   | false=>cases e2:q a <;> simp <;> ac_nf
   | true=>rw[this e1];simp;ac_nf
variable{N:List Str}{M:Str->Rat}
theorem Fair.lex{w:Str->Rat}{gs:List Gp}{f f':Str->Rat}(hw:∀ n∈N,0<w n)(hs:∀ g∈gs, ∀ n∈g.way,n∈N)(h:Fair N w M gs f)(hi:∀ n∈N,f' n<=M n)(fit:∀ g∈gs,sm (λn=>f' n*w n) g.way<=g.R)
  {a b:Str->Fr2} (ha:∀ n∈N,vl (a n)=f n) (hb:∀ n∈N,vl (b n)=f' n) {A B:List Fr2} (sA:Srt A) (sB:Srt B) (pA:A.Perm (N.map a)) (pB:B.Perm (N.map b)):(∀ n∈N,f n=f' n)\/lexL B A:=by
 by_cases c:∀ n∈N,f n=f' n
 .show .inl c
 show .inr ?_;obtain⟨v,k,F⟩:∃ n∈N,f n≠f' n:=by
  show Classical.byContradiction λz=>c λn d=>Classical.byContradiction λy=>z ⟨n,d,y⟩
 have p:∃ q∈N,f' q<f q:=by
  by_cases l:f v<f' v
  .let(q,i,s,_):=h.less hw hs hi fit k l;show(q,i,s)
  .show(v,k,by grind)
 let(q,i,m):=JgO f' (l:=N.filter λn=>decide (f' n<f n)) (by
  intro z;let(q,i,j):=p;have : q∈N.filter λn=>decide (f' n<f n):=mem_filter.mpr ⟨i,by simpa using j⟩;rw[z]at this;cases this)
 have o:=mem_filter.mp i;have H:f' q<f q:=by simpa using o.2
 have C:∀ n∈N,f' n<f n->f' q<=f' n:=λn d j=>m n (mem_filter.mpr ⟨d,by simpa using j⟩);have E:∀ n∈N,f n<f' n->f' q<f n:=λn d j=>by
  let(r,G,s,J):=h.less hw hs hi fit d j;have:=C r G s;grind
 have D:∀ t,cnt t A=N.countP λn=>decide (f n<=t):=λt=>by
  rw[Jhg pA,Jin];show List.countP_congr λn d=>by rw[ha n d]
 have x:∀ t,cnt t B=N.countP λn=>decide (f' n<=t):=λt=>by
  rw[Jhg pB,Jin];show List.countP_congr λn d=>by rw[hb n d]
 show Jkp (u:=f' q) sA sB (by rw[pA.length_eq,pB.length_eq,length_map,length_map]) (λt I=>?_) ?_
 .rw[D,x];show List.countP_congr λn d=>?_;simp only[decide_eq_true_eq];by_cases e:f n=f' n
  .rw[e]
  .by_cases l:f n<f' n
   .have:=E n d l;grind
   .have:=C n d (by grind);grind
 .rw[D,x];show Jed (λn d z=>?_) ⟨q,o.1,by simp,by simp;grind⟩;simp only[decide_eq_true_eq]at z ⊢;by_cases l:f n<f' n
  .have:=E n d l;grind
  .grind
theorem Srt.perm_eq:∀{A B:List Fr2},Srt A->Srt B->A.Perm B->A=B
 | [],B,_,_,h=>by rw[List.nil_perm.mp h]
 | a::A,[],_,_,h=>by have:=h.length_eq;simp at this
 | a::A,b::B,hA,hB,h=>by
  let(la,ga,sA):=hA;let(lb,gb,sB):=hB;have e:vl a=vl b:=by
   have h1:a∈b::B:=h.mem_iff.mp (by simp);have h2:b∈a::A:=h.mem_iff.mpr (by simp);have l1:vl b<=vl a:=by
    rcases mem_cons.mp h1 with e | h1
    .rw[e];show Rat.le_refl
    .show gb a h1
   have l2:vl a<=vl b:=by
    rcases mem_cons.mp h2 with e | h2
    .rw[e];show Rat.le_refl
    .show ga b h2
   grind
  have:=la.inj lb e;subst this;rw[Srt.perm_eq sA sB (List.perm_cons a |>.mp h)]
theorem Jha:∀{A B:List Fr2},Srt (A++B)↔Srt A/\Srt B/\∀ a∈A, ∀ b∈B,vl a<=vl b
 | [],B=>by simp[Srt]
 | a::A,B=>by
  simp only[cons_append,Srt,Jha (A:=A),mem_append,mem_cons];constructor
  .rintro⟨h1,h2,h3,h4,h5⟩;show(⟨h1,λb hb=>h2 b (.inl hb),h3⟩,h4,λx hx b hb=>by
    rcases hx with rfl | hx
    .show h2 b (.inr hb)
    .show h5 x hx b hb)
  .rintro⟨⟨h1,h2,h3⟩,h4,h5⟩;show(h1,λb hb=>by
    rcases hb with hb | hb
    .show h2 b hb
    .show h5 a (.inl rfl) b hb,h3,h4,λx hx b hb=>h5 x (.inr hx) b hb)
variable{L:List Fr2}{x:Fr2}
theorem Srt.ins{p:Nat}(h:Srt L)(hx:Lo x)(h1:∀ y∈L.take p,vl y<=vl x)(h2:∀ y∈L.drop p,vl x<=vl y):Srt (L.take p++x::L.drop p)/\(L.take p++x::L.drop p).Perm (x::L):=by
 have e:=h;rw[<- List.take_append_drop p L]at e;let(a,b,c):=Jha.mp e;show(Jha.mpr ⟨a,⟨hx,h2,b⟩,λy f z d=>?_⟩,?_)
 .rcases mem_cons.mp d with rfl | d
  .show h1 y f
  .show c y f z d
 .show List.perm_middle.trans ?_;rw[List.take_append_drop]
theorem Srt.lo:∀{L:List Fr2},Srt L->∀ y∈L,Lo y
 | [],_,_,h=>by cases h
 | a::L,h,y,hy=>by
  rcases mem_cons.mp hy with rfl | hy
  .show h.1
  .show h.2.2.lo y hy
theorem Srt.le(h:Srt L){i j:Nat}{a b:Fr2}(ij:i<=j)(hi:L[i]?=some a)(hj:L[j]?=some b):vl a<=vl b:=by
 induction L generalizing i j with
 | nil=>simp at hi
 | cons c L ih=>
  cases i with
  | zero=>
   cases j with
   | zero=>rw[hi]at hj;cases hj;show Rat.le_refl
   | succ j=>
    have e:c=a:=by simpa using hi
    subst e;show h.2.1 b (List.mem_of_getElem? (by simpa using hj))
  | succ i=>
   cases j with
   | zero=>ac_nf
   | succ j=>show ih h.2.2 (i:=i) (j:=j) ∅ (by simpa using hi) (by simpa using hj)
theorem Jkv:∀{n i:Nat},plcIn L x n<=i->i<n->lessF x (L.getD i (0,1))=true
 | 0,_,_,h=>by ac_nf
 | n+1,i,h,hi=>by
  rw[plcIn]at h;by_cases c:lessF x (L.getD n (0,1))=true
  .rw[if_pos c]at h;by_cases e:i=n
   .rw[e];show c
   .show Jkv h ∅
  .rw[if_neg c]at h;ac_nf
theorem Jkw:∀{n p:Nat},plcIn L x n=p+1->lessF x (L.getD p (0,1))=false
 | 0,_,h=>by simp[plcIn]at h
 | n+1,p,h=>by
  rw[plcIn]at h;by_cases c:lessF x (L.getD n (0,1))=true
  .rw[if_pos c]at h;show Jkw h
  .rw[if_neg c]at h;have : n=p:=by ac_nf
   rw[<- this];simpa using c
theorem JjK(h:Srt L)(hx:Lo x):Srt (insO L x)/\(insO L x).Perm (x::L):=by
 have k:=JfH L x L.length;show h.ins hx (λy d=>?_) (λy d=>?_)
 .let(i,a):=List.getElem?_of_mem d;rw[List.getElem?_take]at a;split at a
  .rename_i l;obtain⟨p,f⟩:∃ p,plcIn L x L.length=p+1:=⟨plcIn L x L.length-1,by ac_nf⟩;have c:=Jkw f;have e:p<L.length:=by ac_nf
   rw[List.getD_eq_getElem?_getD,List.getElem?_eq_getElem e]at c;have b:=h.lo _ (List.getElem_mem e);have m:=h.le (i:=i) (j:=p) ∅ a (List.getElem?_eq_getElem e);have o:¬ vl x<vl L[p]:=λz=>by
    rw[<- JbT hx.b1 b.b1]at z;rw[show(some L[p]).getD (0,1)=L[p]from rfl,z]at c;cases c
   grind
  .cases a
 .let(i,a):=List.getElem?_of_mem d;rw[List.getElem?_drop]at a;have g:=(List.getElem?_eq_some_iff.mp a).1;have:=Jkv (L:=L) (x:=x) (n:=L.length) (i:=plcIn L x L.length+i) ∅ g;rw[List.getD_eq_getElem?_getD,a]at this;have b:=h.lo y (List.mem_of_getElem? a);show Rat.le_of_lt ((JbT hx.b1 b.b1).mp this)
theorem Jd6(ns:List Fr2)(h:∀ n∈ns,Lo n):Srt (ordO ns)/\(ordO ns).Perm ns:=by
 have : ∀(ns L:List Fr2),(∀ n∈ns,Lo n)->Srt L->Srt (ns.foldl insO L)/\(ns.foldl insO L).Perm (ns++L):=λns=>by
  induction ns with
  | nil=>intro L _ a;show(a,List.Perm.refl _)
  | cons x ns ih=>
   intro L b a;let(g,f):=JjK a (b x (by simp));let(c,e):=ih (insO L x) (λn d=>b n (by simp[d])) g;show(c,e.trans ?_);show(List.Perm.append_left ns f).trans ?_;simpa using List.perm_middle
 have:=this ns [] h trivial;simpa[ordO]using this
def notB:List Fr2->List Fr2->Bool
 | a::l,b::m=>if a=b then notB l m else lessF a b
 | _,_=>true
theorem Jhr:∀{A B:List Fr2},Srt A->Srt B->lexL B A->fairB B A=false/\fairB A B=true/\notB B A=true/\A≠B
 | a::A,b::B,hA,hB,h=>by
  rcases h with h | ⟨rfl,h⟩
  .have n1:b≠a:=λz=>by rw[z]at h;show absurd h (by grind)
   have n2:lessF b a=true:=(JbT hB.1.b1 hA.1.b1).mpr h;have n3:lessF a b=false:=by
    cases e:lessF a b with
    | false=>rfl
    | true=>have:=(JbT hA.1.b1 hB.1.b1).mp e;grind
   show(?_,?_,?_,λz=>n1 (by cases z;rfl))
   .rw[fairB,if_neg n1,n3]
   .rw[fairB,if_neg (Ne.symm n1),n2]
   .rw[notB,if_neg n1,n2]
  .let(h1,h2,h3,h4):=Jhr hA.2.2 hB.2.2 h;show(?_,?_,?_,λz=>h4 (by cases z;rfl))
   .rw[fairB,if_pos rfl,h1]
   .rw[fairB,if_pos rfl,h2]
   .rw[notB,if_pos rfl,h3]
 | [],_::_,_,_,h=>h.elim
 | [],[],_,_,h=>h.elim
 | _::_,[],_,_,h=>h.elim
theorem Jgg:∀ l:List Fr2,notB l l=true
 | []=>rfl
 | a::l=>by rw[notB,if_pos rfl];show Jgg l
variable{a b:Str}
theorem Jic{w1 w2:List Pr}(h:JaP ls a (w1++pr::w2) b):∃ f g,JaP ls a w1 f/\(g,pr)∈JaC ls f/\JaP ls g w2 b:=by
 generalize e:w1++pr::w2=w at h;induction h generalizing w2 with
 | nil=>simp at e
 | @snoc w f g' pr' hw hm ih=>
  rcases List.eq_nil_or_concat w2 with rfl | ⟨u,x,rfl⟩
  .let(c,d):=List.append_inj' e rfl;cases d;show(f,g',c ▸ hw,hm, .nil)
  .rw[List.concat_eq_append]at e ⊢;have i:(w1++pr::u)++[x]=w++[pr']:=by rw[<- e];simp
   let(c,d):=List.append_inj' i rfl;cases d;let(l,k,n,m,j):=ih c;show(l,k,n,m, .snoc j hm)
theorem JdN{w:List Pr}(h:JaP ls a w b)(hn:n∉w.map (·.1)):Conn (ls.filter λx=>decide (x.nm≠n)) a b:=by
 induction h with
 | nil=>show .refl
 | snoc _ hm ih=>
  rw[map_append]at hn;show(ih λz=>hn (List.mem_append_left _ z)).trans ?_;let(p,c,k):=Ja9.mp hm;show .lead (Ja9.mpr ⟨p,mem_filter.mpr ⟨c,?_⟩,k⟩);rw[decide_eq_true_iff];rintro rfl;show hn (mem_append_right _ ?_);rcases k with k | k
  .rw[k.2.2];simp
  .rw[k.2.2.2];simp
theorem Jjq(ht:Tree ls)(hne:∀ p∈ls,p.st≠p.en)(nd:(ls.map (·.nm)).Nodup){a b n:Str}{w w':List Pr}(h:JaP ls a w b)(hn:(w.map (·.1)).Nodup)(h':JaP ls a w' b)(hm:n∈w.map (·.1)):n∈w'.map (·.1):=by
 by_cases c:n∈w'.map (·.1)
 .show c
 exfalso;let((i,d),j,rfl):=mem_map.mp hm;let(s,y,rfl):=List.append_of_mem j;let(f,g,r,C,u):=Jic h;rw[map_append,map_cons,nodup_append]at hn;have B:i∉s.map (·.1):=λz=>hn.2.2 _ z _ mem_cons_self rfl;have v:i∉y.map (·.1):=(nodup_cons.mp hn.2.1).1;let(p,j,k):=Ja9.mp C;have en:p.nm=i:=by
  rcases k with k | k
  .show((Prod.mk.inj k.2.2).1).symm
  .show((Prod.mk.inj k.2.2.2).1).symm
 have A:=JdN r B;have t:=JdN u v;have o:=JdN h' c;have e:∀ q∈ls.filter (λx=>decide (x.nm≠i)),q.st≠q.en:=λq m=>hne q (mem_filter.mp m).1;have l:Conn (ls.filter λx=>decide (x.nm≠i)) f g:=((A.symm e).trans o).trans (t.symm e);show ht p j ?_;rw[en];rcases k with k | k
 .rw[k.1,k.2.1];show l
 .rw[k.2.1,k.2.2.1];show l.symm e
theorem Jj9(ht:Tree ls)(hne:∀ p∈ls,p.st≠p.en)(nd:(ls.map (·.nm)).Nodup){a b:Str}{w w':List Pr}(h:JaP ls a w b)(hn:(w.map (·.1)).Nodup)(h':JaP ls a w' b)(hn':(w'.map (·.1)).Nodup):(w.map (·.1)).Perm (w'.map (·.1)) :=
 (List.perm_ext_iff_of_nodup hn hn').mpr λ_=>⟨Jjq ht hne nd h hn h',Jjq ht hne nd h' hn' h⟩
noncomputable def wayN(ls:List PD)(g:GD):List Str:=open Classical in if h:∃ w:List Pr,JaP ls g.st w g.en/\(w.map (·.1)).Nodup then h.choose.map (·.1)else[]
theorem JgD(ht:Tree ls)(hne:∀ p∈ls,p.st≠p.en)(nd:(ls.map (·.nm)).Nodup){g:GD}{w:List Pr}(h:JaP ls g.st w g.en)(hn:(w.map (·.1)).Nodup):(wayN ls g).Perm (w.map (·.1)):=by
 have a:∃ w:List Pr,JaP ls g.st w g.en/\(w.map (·.1)).Nodup:=⟨w,h,hn⟩;unfold wayN;rw[dif_pos a];show Jj9 ht hne nd a.choose_spec.1 a.choose_spec.2 h hn
structure ThO(ks:List PD)(gs:List GD)(pl:Str->Int × Int):Prop where
 l8:ks.length<=5
 g6:gs.length<=4
 nd:(ks.map (·.nm)).Nodup
 gnd:(gs.map (·.nm)).Nodup
 pok:∀ p∈ks,POk p
 zb:∀ p∈ks,FB 145 13 p.sz/\FB 100 6 p.mo
 wt:∀ p∈ks,Mth.Sz 21 p.wt
 tr:Tree ks
 con:∀ g∈gs,Conn ks g.st g.en
 tok:∀ g∈gs,TOk g.td
 gb:∀ g∈gs,(1<=g.lo.2/\Mth.Sz 110 g.lo.2)/\1<=g.hi.2/\Mth.Sz 110 g.hi.2
 rb:∀ g∈gs,FB 200 48 (roomF pl g)
 plb:∀ f,FB 302 161 (pl f)
 pls:∀ p∈ks,vl (pl p.en)=vl (pl p.st)+vl p.sz
noncomputable def esN(ks:List PD)(gs:List GD):List (GD × List Str):=gs.map λg=>(g,wayN ks g)
variable{gs:List GD}
theorem Jc3:(esN ks gs).map (·.1)=gs:=by
 unfold esN;rw[map_map];show List.map_id _
theorem Jhm:∀{gs:List GD}{p q:GD},(gs.map (·.nm)).Nodup->p∈gs->q∈gs->p.nm=q.nm->p=q
 | [],_,_,_,hp,_,_=>by cases hp
 | a::gs,p,q,hn,hp,hq,e=>by
  rw[map_cons,nodup_cons]at hn;rcases mem_cons.mp hp with h1 | h1 <;> rcases mem_cons.mp hq with h2 | h2
  .rw[h1,h2]
  .subst h1;show absurd (e ▸ mem_map.mpr ⟨q,h2,rfl⟩) hn.1
  .subst h2;show absurd (e ▸ mem_map.mpr ⟨p,h1,rfl⟩) hn.1
  .show Jhm hn.2 h1 h2 e
theorem ThO.shc(h:ThO ks gs pl):SHC ks (esN ks gs) pl:=by
 have b:∀ e∈esN ks gs,e.1∈gs/\e.2=wayN ks e.1:=λe a=>by
  let(g,k,rfl):=mem_map.mp a;show(k,rfl)
 have m:=h.l8;have n:=h.g6;have l:(esN ks gs).length=gs.length:=by unfold esN;rw[length_map]
 show(by ac_nf,by ac_nf,by ac_nf,by ac_nf,by ac_nf,h.nd,λe a u d i=>?_,h.pok,λp c=>⟨⟨(h.zb p c).1.b1,(h.zb p c).1.s2.mono ⋯⟩,(h.zb p c).2.mono ⋯ ⋯⟩,h.wt,λe a=>h.tok _ (b e a).1,λe a=>h.gb _ (b e a).1,λe a=>h.rb _ (b e a).1,h.plb,h.pls,λe a w f j=>?_)
 .rw[Jc3]at d;show Jhm h.gnd d (b e a).1 i
 .rw[(b e a).2];show JgD h.tr (λp c=>(h.pok p c).ne) h.nd f j
theorem lowQ{x m n:Int}(A B:Nat)(hx:0<=x/\x<m)(hy:0<=y/\y<n)(hm:autoParam (m<=2 ^ A) Au)(hn:autoParam (n<2 ^ B) Au)(hb:autoParam (B<=8000) Au):1<=1+y/\Mth.Sz 8000 (1+y)/\FB A B (Mth.top x (1+y),Mth.bot x (1+y))/\0<=Mth.top x (1+y):=by
 let(c,d):=hx;let(f,g):=hy;have a:1<=1+y:=by ac_nf
 have h:(0:Int)<2 ^ B:=Int.lt_of_le_of_lt f (Int.lt_trans g hn);have b:Mth.Sz B (1+y):=.lit ∅ ∅;have i:(0:Int)<2 ^ A:=Int.lt_of_le_of_lt c (Int.lt_of_lt_of_le d hm);have e:Mth.Sz A x:=.lit ∅ ∅;show(a,b.mono hb,FB.low a e b,JmA c a)
def slOf(rs:List ShD)(n:Str):Int × Int:=((rs.find? λr=>decide (r.nm=n)).map (·.sl)).getD (0,1)
def unl(rs rk:List ShD):List Str:=(rs.filter λr=>!decide (r.sl=slOf rk r.nm)).map (·.nm)
theorem JcP:∀{rs:List ShD}{r:ShD},(rs.map (·.nm)).Nodup->r∈rs->slOf rs r.nm=r.sl
 | [],_,_,h=>by cases h
 | a::rs,r,hn,h=>by
  rw[map_cons,nodup_cons]at hn;unfold slOf;rw[List.find?_cons];rcases mem_cons.mp h with e | h
  .subst e;simp
  .have : a.nm≠r.nm:=λz=>hn.1 (z ▸ mem_map.mpr ⟨r,h,rfl⟩);rw[decide_eq_false this];show JcP hn.2 h
theorem ShR.nms(h:ShR ks es pf rs):rs.map (·.nm)=ks.map (·.nm):=by
 let(a,f,D,F,R):=h;show List.ext_getElem? λi=>?_;rw[List.getElem?_map,List.getElem?_map];by_cases c:i<ks.length
 .rw[List.getElem?_eq_getElem c,List.getElem?_eq_getElem (by ac_nf:i<rs.length)];show congrArg some (R i _ _ (List.getElem?_eq_getElem c) (List.getElem?_eq_getElem ∅)).nm
 .rw[List.getElem?_eq_none ∅,List.getElem?_eq_none ∅];rfl
theorem map_set:∀{gs:List GD}{g n:GD}{i:Nat},(gs.map (·.nm)).Nodup->gs[i]?=some g->(gs.map λu=>if u.nm=g.nm then n else u)=gs.take i++[n]++gs.drop (i+1)
 | [],_,_,_,_,h=>by simp at h
 | a::gs,g,n,0,hn,h=>by
  have e:a=g:=by simpa using h
  subst e;rw[map_cons,nodup_cons]at hn;rw[map_cons,if_pos rfl];have : (gs.map λu=>if u.nm=a.nm then n else u)=gs:=by
   conv=>rhs;rw[<- List.map_id gs]
   show map_congr_left λu hu=>?_;rw[if_neg λz=>hn.1 (mem_map.mpr ⟨u,hu,z⟩)];rfl
  rw[this];simp
 | a::gs,g,n,i+1,hn,h=>by
  have h':gs[i]?=some g:=by simpa using h
  rw[map_cons,nodup_cons]at hn;have ne:a.nm≠g.nm:=λz=>hn.1 (mem_map.mpr ⟨g,List.mem_of_getElem? h',z.symm⟩);rw[map_cons,if_neg ne,map_set hn.2 h'];simp
theorem JhD:∀{l:List α}{i:Nat}{n : α},i<l.length->l.take i++[n]++l.drop (i+1)=l.set i n
 | [],_,_,h=>by simp at h
 | a::l,0,n,_=>by simp
 | a::l,i+1,n,h=>by
  have:=JhD (l:=l) (i:=i) (n:=n) (by simpa using h);simpa using this
section
variable{cs:List (Nat × Str)}{tt:TT}{ta:TA}{Q:VK}{k:Nat}{g:TG}
theorem y38y:JdW k cs (iRng1 ta) g tt te σ H Q=ta σ H λvs H1=>∃ j:Int,vs=[.int j]/\-(2 ^ 62)<=j/\j<2 ^ 62/\Jbt (Itr 0 j.toNat) k cs g tt te σ Q H1:=rfl
variable{n:Nat}
theorem Jbt.range{lo:Int}(Pv:Nat->List V->Hp->Prop)(h0:Pv 0 [] H1)(hl:∀ i ys H',i<=n->Pv i ys H'->ys.length<=sizeLine)
  (hs:∀ i ys H2,i<n->Pv i ys H2->g (.int (lo+i)) (List.replicate k none++Jaz cs σ) H2 λσ4 H4=>tt σ4 H4 λb H5=>if b=true then te σ4 H5 λy H6=>Pv (i+1) (ys++[y]) H6 else Pv (i+1) ys H5) (hd:∀ ys H2,Pv n ys H2->∀ p,H2 p=none->Q (.ref p) (upd H2 p (.lst ys))) :
  Jbt (Itr lo n) k cs g tt te σ Q H1:=by
 show(λi m ys H'=>Pv i ys H'/\i<=n/\m=n-i,⟨_,h0,Nat.zero_le _,rfl⟩,?_);rintro i m ys H2 ⟨f,l,rfl⟩;show(hl i ys H2 l f,?_);by_cases c:i<n
 .show .inr ⟨c,?_⟩;rintro v o ⟨rfl,rfl⟩;have w:∀(d:List V)(H5:Hp),Pv (i+1) d H5=∃ m',m'<n-i/\Pv (i+1) d H5/\i+1<=n/\m'=n-(i+1):=λd H5=>
   propext ⟨λq=>⟨_,Nat.sub_lt_sub_left c (Nat.lt_succ_self i),q,c,rfl⟩,λζ=>by let(_,_,q,_):=ζ;show q⟩
  have h:(λ(y:V)(H6:Hp)=>Pv (i+1) (ys++[y]) H6)=λy H6=>∃ m',m'<n-i/\Pv (i+1) (ys++[y]) H6/\i+1<=n/\m'=n-(i+1):=by
   funext y H6
   show w _ _
  have e:(λ(σ4:St)(H4:Hp)=>tt σ4 H4 λb H5=>if b=true then te σ4 H5 λy H6=>Pv (i+1) (ys++[y]) H6 else Pv (i+1) ys H5)=λσ4 H4=>tt σ4 H4 λb H5=>if b=true then te σ4 H5 λy H6=>∃ m',m'<n-i/\Pv (i+1) (ys++[y]) H6/\i+1<=n/\m'=n-(i+1)else∃ m',m'<n-i/\Pv (i+1) ys H5/\i+1<=n/\m'=n-(i+1):=by
   funext σ4 H4
   congr 1
   funext b H5
   by_cases a:b=true
   .rw[if_pos a,if_pos a, <- h]
   .rw[if_neg a,if_neg a];show w ys H5
  have:=hs i ys _ c f;rw[e]at this;show this
 .have j:i=n:=by ac_nf
  subst j;show .inl ⟨Nat.le_refl _,hd ys H2 f⟩
end
section
variable{E:Int}{u:Fr2}{s:Str->Fr2}
theorem fb_le{a:Fr2}(h:FB A B a)(h0:0<=vl a)(hA:A<=101):vl a<=((2 ^ 101:Int):Rat):=by
 have z:=(vl_nn h.b1).mp h0;show Rat.le_trans (Jdt h.b1 z) ?_;have : a.1.natAbs<2 ^ 101:=Nat.lt_of_lt_of_le h.s1 (Nat.pow_le_pow_right ⋯ hA);have : a.1<=2 ^ 101:=by ac_nf
 exact_mod_cast this
structure FTS(E Qb:Int)(ts:List Fr2):Prop where
 E1:1<=E
 sE:Mth.Sz 800 E
 q0:0<=Qb
 sQ:Mth.Sz 2200 Qb
 t:∀ t∈ts,FB 3200 900 t/\Dv E (vl t)/\0<=vl t/\vl t<=(Qb:Rat)
variable{Qb:Int}
theorem JkB:∀{ts:List Fr2},(∀ t∈ts,Dv E (vl t)/\0<=vl t/\vl t<=(Qb:Rat))->Dv E (smF ts)/\0<=smF ts/\smF ts<=((ts.length:Int):Rat)*(Qb:Rat)
 | [],_=>⟨Dv.int 0,Rat.le_refl,by simp[smF]⟩
 | a::ts,h=>by
  let(h1,h2,h3):=JkB (ts:=ts) λt ht=>h t (mem_cons_of_mem _ ht);let(a1,a2,a3):=h a (by simp);simp only[smF];show(a1.add h1,by grind,?_);have : (((a::ts).length:Int):Rat)=((ts.length:Int):Rat)+1:=by simp
  rw[this];grind
variable{ts:List Fr2}
theorem FTS.fb(h:FTS E Qb ts)(l8:ts.length<=8){i:Nat}(lu:Lo u)(hu:vl u=smF (ts.take i)):FB 3100 800 u:=by
 let(c,b,a):=JkB (ts:=ts.take i) λt f=>(h.t t (mem_of_mem_take f)).2;rw[<- hu]at c b a;have l:(ts.take i).length<=8:=by rw[length_take];ac_nf
 have d:(0:Rat)<=(Qb:Rat):=by exact_mod_cast h.q0
 have e:vl u<=((8*Qb:Int):Rat):=by
  show Rat.le_trans a ?_;have g:(((ts.take i).length:Int):Rat)<=8:=by exact_mod_cast (by ac_nf:((ts.take i).length:Int)<=8)
  have:=Rat.mul_le_mul_of_nonneg_right g d;push_cast;show this
 have j:Mth.Sz (4+2200) (8*Qb):=Mth.Sz.mul (by unfold Mth.Sz;decide) h.sQ;show(c.fb (m:=4+2200) lu.b1 lu.g1 h.E1 h.sE b e j).mono ⋯ ⋯
variable{b:Int}
theorem FTS.nil(E1:1<=E)(sE:Mth.Sz 800 E)(b1:1<=b)(sb:Mth.Sz A b)(hA:A<=2000):FTS E (2 ^ 101*b) [] :=
 ⟨E1,sE,Int.mul_nonneg ⋯ ∅,(Mth.Sz.mul (m:=102) (i:=2 ^ 101) (by unfold Mth.Sz;decide) sb).mono ∅,λt a=>by cases a⟩
theorem FTS.snoc{t s:Fr2}(h:FTS E (2 ^ 101*b) ts)(ft:FB A B t)(e:vl t=vl s*(b:Rat))(d:Dv E (vl s))(b1:1<=b)(h0:0<=vl s)(h1:vl s<=((2 ^ 101:Int):Rat))(hA:A<=3200)(hB:B<=900):FTS E (2 ^ 101*b) (ts++[t]):=by
 have c:(0:Rat)<=(b:Rat):=by exact_mod_cast (by ac_nf:(0:Int)<=b)
 show(h.E1,h.sE,h.q0,h.sQ,λf a=>?_);rcases mem_append.mp a with a | a
 .show h.t f a
 .rw[mem_singleton.mp a];show(ft.mono hA hB,?_,?_,?_)
  .rw[e];show d.mul b
  .rw[e];show Rat.mul_nonneg h0 c
  .rw[e];have:=Rat.mul_le_mul_of_nonneg_right h1 c;push_cast at this ⊢;show this
theorem JmG{ss:List Fr2}(h:∀(i:Nat) (p:PD) (s:Fr2),ls[i]?=some p->ss[i]?=some s->0<=vl s/\vl s<=vl p.mo){y:PD × Fr2}(hy:y∈ls.zip ss):0<=vl y.2/\vl y.2<=vl y.1.mo:=by
 let(i,a):=List.getElem?_of_mem hy;have:=List.getElem?_zip_eq_some.mp a;show h i _ _ this.1 this.2
theorem JjU{ns:List Fr2}{p:Nat}(hn:∀ n∈ns,Lo n)(hx:Lo x)(h1:∀ y∈(ordO ns).take p,vl y<=vl x)(h2:∀ y∈(ordO ns).drop p,vl x<=vl y):ordO (ns++[x])=(ordO ns).take p++x::(ordO ns).drop p:=by
 let(c,d):=Jd6 (ns++[x]) λn h=>by
  rcases mem_append.mp h with h | h
  .show hn n h
  .rw[mem_singleton.mp h];show hx
 let(a,b):=Jd6 ns hn;let(e,f):=a.ins hx h1 h2;show c.perm_eq e (d.trans ?_);show List.Perm.trans ?_ f.symm;show List.Perm.trans ?_ (List.Perm.cons x b.symm);simpa using List.perm_append_comm (l₁:=ns) (l₂:=[x])
def lvP(s:Str->Fr2)(p:PD):Fr2:=lvl (s p.nm) p.wt
theorem Jl9(h:FB 910 800 (s p.nm))(hw:1<=p.wt)(sw:Mth.Sz 21 p.wt):FW 3000 3000 (lvP s p)/\Lo (lvP s p)/\1<=(s p.nm).2*p.wt:=by
 have a:=JbA h.b1 hw;show(⟨(Mth.Sz.top ∅ h.s1).mono ⋯,(Mth.Sz.bot ∅ (h.s2.mul sw)).mono ⋯,Mth.Jcs ∅⟩,Jfc a,a)
theorem Jht(f:PD->Fr2)(ls:List PD):lvls (ls.map f) (ls.map (·.wt))=ls.map λp=>lvl (f p) p.wt:=by
 unfold lvls;rw[List.zipWith_map,List.zipWith_self]
theorem Jhu(h:z∈ls.map (·.nm)):∃ p∈ls,p.nm=z:=by simpa using h
theorem Ji6{a b:Rat}(h:a=b):a<=b:=h ▸ Rat.le_refl
theorem Jiz:∀{A B:List Fr2},eqL (A.map frD) (B.map frD)=decide (A=B)
 | [],[]=>rfl
 | [],b::B=>by simp[eqL]
 | a::A,[]=>by simp[eqL]
 | a::A,b::B=>by
  simp only[map_cons,eqL,Jiz,frD,eqD];rw[Bool.eq_iff_iff];simp[Prod.ext_iff]
end
theorem SameT.of_nl(ho:∀ b u,b≠d->H b=some u->H' b=some u)(e:H d=some (.lst xs)):SameT H H':=λb u t h=>ho b u (λz=>by rw[z,e]at h;cases h;cases t) h
structure RtO(sp:List SpD)(rt:List Nat):Prop where
 len:sp.length=rt.length
 at_:∀(i:Nat) s r,sp[i]?=some s->rt[i]?=some r->s.r=nmK 112 0 r
theorem RtO.snoc{rt:List Nat}(h:RtO sp rt){s:SpD}{r:Nat}(e:s.r=nmK 112 0 r):RtO (sp++[s]) (rt++[r]):=by
 show(by rw[length_append,length_append,h.len];rfl,λi c d b a=>?_);have l:=h.len;rcases Jbg b with b | ⟨rfl,rfl⟩
 .have:=(List.getElem?_eq_some_iff.mp b).1;rw[List.getElem?_append_left ∅]at a;show h.at_ i c d b a
 .rw[l,List.getElem?_append_right (Nat.le_refl _),Nat.sub_self]at a;cases a;show e
section
variable{g':GD}{u v a c:Fr2}{pl:Str->Fr2}{g:GD}{D:Nat}
structure GpO(sp:List SpD)(j:Nat)(g:GD)(u v:Fr2):Prop where
 nm:∃ k,k<=5/\g.nm=nmK 114 0 k
 fs:∃ s∈sp, ∃ t∈sp,g.st=s.f/\g.en=t.f/\s.f≠t.f/\s.r=t.r
 fu:FB (100+7*j) (6+6*j) u
 fv:FB (100+7*j) (6+6*j) v
 u0:0<=vl u
 v0:0<=vl v
 lo:g.lo=addF (mid (spOf sp) g) (negF u)
 hi:g.hi=addF (mid (spOf sp) g) v
theorem Jkx(hG:Grn 0 ls sp)(l5:ls.length<=5)(f:Str):FB 136 31 (spOf sp f):=by
 unfold spOf;cases e:sp.find? λt=>decide (t.f=f)with
 | none=>show JdO.mono ∅ ∅
 | some t=>show(hG.fb t (List.mem_of_find?_eq_some e)).mono ∅ ∅
theorem midG(hG:Grn 0 ls sp)(l5:ls.length<=5)(g:GD):FB 168 62 (mid (spOf sp) g):=FB.add (n:=167) (m:=62) (Jkx hG l5 _) (Jkx hG l5 _).neg ⋯ ⋯ ⋯
theorem FB.fok{n:Nat}(h:FB A B a)(hA:A<=n)(hB:B<=n):FOk n a:=⟨h.s1.mono hA,h.s2.mono hB,by have:=h.b1;ac_nf,h.g1⟩
def mnF(u v:Fr2):Fr2:=if lessF v u then v else u
theorem mn_vl(hu:1<=u.2)(hv:1<=v.2):(mnF u v=u\/mnF u v=v)/\vl (mnF u v)<=vl u/\vl (mnF u v)<=vl v:=by
 have b:=JbT (a:=v) (c:=u) hv hu;unfold mnF;by_cases c:lessF v u=true
 .rw[if_pos c];have:=b.mp c;show(.inr rfl,by grind,Rat.le_refl)
 .rw[if_neg c];have : ¬ vl v<vl u:=λz=>c (b.mpr z);show(.inl rfl,Rat.le_refl,by grind)
theorem GpO.room(hG:Grn 0 ls sp)(l5:ls.length<=5)(h:GpO sp j g u v):roomF (spOf sp) g=mnF u v:=by
 have a:=midG hG l5 g;unfold roomF mnF;rw[h.lo,h.hi,JkS a h.fv,JkT a h.fu]
structure GpR(ls:List PD)(sp:List SpD)(g:GD):Prop where
 tok:TOk g.td
 con:Conn ls g.st g.en
 gb:(1<=g.lo.2/\Mth.Sz 110 g.lo.2)/\1<=g.hi.2/\Mth.Sz 110 g.hi.2
 rb:FB 200 48 (roomF (spOf sp) g)
 r0:0<=vl (roomF (spOf sp) g)
theorem GpO.ok(hG:Grn 0 ls sp)(l5:ls.length<=5)(l11:sp.length<=11)(j7:j<=7)(h:GpO sp j g u v):GpR ls sp g:=by
 have l:=midG hG l5 g;have d:FB 149 48 u:=h.fu.mono ∅ ∅;have b:FB 149 48 v:=h.fv.mono ∅ ∅;have i:FB 217 110 g.lo:=by rw[h.lo];show FB.add (n:=216) (m:=110) l d.neg ⋯ ⋯ ⋯
 have f:FB 217 110 g.hi:=by rw[h.hi];show FB.add (n:=216) (m:=110) l b ⋯ ⋯ ⋯
 have H:vl g.lo<=vl g.hi:=by
  rw[h.lo,h.hi,JgB l.b1 d.neg.b1,JgB l.b1 b.b1,JcV];have:=h.u0;have:=h.v0;grind
 let(s,x,t,z,q,o,E,F):=h.fs;let(k,I,D):=h.nm;have w:∀ p∈ls,p.st≠p.en:=λp G=>(hG.ok p G).ne;have y:=h.room hG l5;let(A,_,_):=mn_vl d.b1 b.b1;show(⟨?_,?_,?_,?_,λa r=>?_,λa r=>?_,?_⟩,?_,⟨⟨i.b1,i.s2⟩,f.b1,f.s2⟩,?_,?_)
 .show nameS g.nm=true;rw[D];show Jdh ⋯ ⋯ ∅
 .show nameS g.st=true;rw[q];show hG.fname ⋯ l11 x
 .show nameS g.en=true;rw[o];show hG.fname ⋯ l11 z
 .show g.st≠g.en;rw[q,o];show E
 .cases r;show i.fok ⋯ ⋯
 .cases r;show f.fok ⋯ ⋯
 .show lessF g.hi g.lo=false;have C:=JbT (a:=g.hi) (c:=g.lo) f.b1 i.b1;cases c:lessF g.hi g.lo with
  | false=>rfl
  | true=>show absurd (C.mp c) (Rat.not_lt.mpr H)
 .rw[q,o];have B:=(hG.con s x).symm w;rw[F]at B;show B.trans (hG.con t z)
 .rw[y];rcases A with e | e <;> rw[e]
  .show d.mono ⋯ ⋯
  .show b.mono ⋯ ⋯
 .rw[y];rcases A with e | e <;> rw[e]
  .show h.u0
  .show h.v0
theorem GpO.up{i:Nat}(h:GpO sp j g u v)(ij:j<=i):GpO sp i g u v:=⟨h.nm,h.fs,h.fu.mono ∅ ∅,h.fv.mono ∅ ∅,h.u0,h.v0,h.lo,h.hi⟩
theorem Jig{E F:Nat}(ha:FB A B a)(hu:FB C D u)(hc:FB E F c):addF (addF a u) c=addF a (addF u c):=by
 show FB.inj ((ha.add' hu).add' hc) (ha.add' (hu.add' hc)) ?_;rw[FB.vadd (ha.add' hu) hc,ha.vadd hu,ha.vadd (hu.add' hc),hu.vadd hc];grind
theorem Jll(hu:FB A B u)(hc:FB C D c):addF (negF u) (negF c)=negF (addF u c):=by
 show FB.inj (hu.neg.add' hc.neg) (hu.add' hc).neg ?_;rw[hu.neg.vadd hc.neg,JcV,JcV,JcV,hu.vadd hc];grind
theorem GpO.wide(hG:Grn 0 ls sp)(l5:ls.length<=5)(h:GpO sp j g u v)(hc:FB 100 6 c)(c0:0<=vl c)(d1 d2:Bool):∃ u' v',GpO sp (j+1) ⟨g.nm,g.st,g.en,if d1 then addF g.lo (negF c)else g.lo,if d2 then addF g.hi c else g.hi⟩ u' v'/\vl u<=vl u'/\vl v<=vl v':=by
 have e:=midG hG l5 g;have a:∀{x:Fr2},FB (100+7*j) (6+6*j) x->0<=vl x->FB (100+7*(j+1)) (6+6*(j+1)) (addF x c)/\vl x<=vl (addF x c)/\0<=vl (addF x c):=λ{x} fx x0=>by
  have:=FB.add (n:=106+7*j) (m:=6+6*(j+1)) fx hc ∅ ∅ ∅;rw[fx.vadd hc];show(this.mono ∅ ∅,by grind,by grind)
 have f:addF g.lo (negF c)=addF (mid (spOf sp) g) (negF (addF u c)):=by
  rw[h.lo,Jig e h.fu.neg hc.neg,Jll h.fu hc]
 have i:addF g.hi c=addF (mid (spOf sp) g) (addF v c):=by
  rw[h.hi,Jig e h.fv hc]
 have d:=h.fu.mono (C:=100+7*(j+1)) (D:=6+6*(j+1)) ∅ ∅;have b:=h.fv.mono (C:=100+7*(j+1)) (D:=6+6*(j+1)) ∅ ∅;show(if d1 then addF u c else u,if d2 then addF v c else v,⟨h.nm,h.fs,?_,?_,?_,?_,?_,?_⟩,?_,?_)
 .cases d1;show d;show(a h.fu h.u0).1
 .cases d2;show b;show(a h.fv h.v0).1
 .cases d1;show h.u0;show(a h.fu h.u0).2.2
 .cases d2;show h.v0;show(a h.fv h.v0).2.2
 .cases d1;show h.lo;show f
 .cases d2;show h.hi;show i
 .cases d1;show Rat.le_refl;show(a h.fu h.u0).2.1
 .cases d2;show Rat.le_refl;show(a h.fv h.v0).2.1
theorem mn_le{u' v':Fr2}(hu:1<=u.2)(hv:1<=v.2)(hu':1<=u'.2)(hv':1<=v'.2)(h1:vl u<=vl u')(h2:vl v<=vl v'):vl (mnF u v)<=vl (mnF u' v'):=by
 let(_,a,b):=mn_vl hu hv;let(e,_,_):=mn_vl hu' hv';rcases e with e | e <;> rw[e]
 .show Rat.le_trans a h1
 .show Rat.le_trans b h2
structure GsO(sp:List SpD)(j:Nat)(gs:List GD):Prop where
 nd:(gs.map (·.nm)).Nodup
 l4:gs.length<=4
 ok:∀ g∈gs, ∃ u v,GpO sp j g u v
theorem GsO.tho(hG:Grn 0 ls sp)(l5:ls.length<=5)(l11:sp.length<=11)(j7:j<=7)(hb:∀ p∈ls,FB 100 6 p.sz/\FB 100 6 p.mo/\Mth.Sz 21 p.wt)(h:GsO sp j gs):ThO ls gs (spOf sp)/\∀ g∈gs,0<=vl (roomF (spOf sp) g):=by
 have b:∀ g∈gs,GpR ls sp g:=λg a=>by
  let(u,v,z):=h.ok g a;show z.ok hG l5 l11 j7
 show(⟨l5,h.l4,Jeu hG.nm,h.nd,hG.ok,λp c=>⟨(hb p c).1.mono ⋯ ⋯,(hb p c).2.1⟩,λp c=>(hb p c).2.2,hG.tr,λg a=>(b g a).con,λg a=>(b g a).tok,λg a=>(b g a).gb,λg a=>(b g a).rb,λf=>hG.plb ∅ f,hG.pls⟩,λg a=>(b g a).r0)
end
theorem chF:∀ i,i<11->(Str.ofString "pqrstuvwxyzabcdefghi").cps.toList[i]?=some (112+i):=by decide
theorem chP:∀ i,i<8->(Str.ofString "jklmnopq").cps.toList[i]?=some (106+i):=by decide
theorem chG:∀ i,i<6->(Str.ofString "rstuvw").cps.toList[i]?=some (114+i):=by decide
theorem chK{s i:Nat}:(⟨#[s+i]⟩:PySem.Str)=nmK s 0 i:=rfl
def PrN(K:W.Frag)(H:Hp)(e:Nat × Nat)(y:V):Prop:=∃ b,y=.ref b/\SqT K H b [.int (e.1:Int), .int (e.2:Int)]
variable{y:V}
theorem PrN.sameT{K:W.Frag}{e:Nat × Nat}(T:SameT H H'):PrN K H e y->PrN K H' e y:=λ⟨b,c,a⟩=>⟨b,c,a.sameT T⟩
def lvZ(x:PD × Fr2):Fr2:=lvl x.2 x.1.wt
theorem Jd4:∀{ls:List PD}{ss:List Fr2},lvls ss (ls.map (·.wt))=(ls.zip ss).map lvZ:=λ{ls ss}=>by
 unfold lvls;induction ls generalizing ss with
 | nil=>cases ss <;> rfl
 | cons p ls ih=>
  cases ss with
  | nil=>rfl
  | cons s ss=>
   simp only[map_cons,List.zipWith_cons_cons,List.zip_cons_cons];rw[ih];rfl
theorem Jhs{s:Fr2}{w:Int}(h:FB 910 800 s)(hw:1<=w)(sw:Mth.Sz 21 w):FW 3000 3000 (lvl s w)/\Lo (lvl s w)/\1<=s.2*w:=by
 have a:=JbA h.b1 hw;show(⟨(Mth.Sz.top ∅ h.s1).mono ⋯,(Mth.Sz.bot ∅ (h.s2.mul sw)).mono ⋯,Mth.Jcs ∅⟩,Jfc a,a)
theorem pi_UK{K:W.Frag}(hK:X.K=K){l:Expr}{tl:TE}(hl:PE X l tl):PI X tg l (iAny K tl):=hK ▸ pi_U hl
def clo(ws:List (List Str))(p:List Str):Prop:=∀ w∈ws,(∃ n∈w,n∈p)->∀ n∈w,n∈p
def cntA(ws:List (List Str))(p:List Str):Nat:=ws.countP λw=>decide (∀ n∈w,n∈p)
variable{ws:List (List Str)}{p:List Str}
theorem Jil{q:List Str}(h1:∀ n∈p,n∈q)(h2:∀ w∈ws,(∃ n∈w,n∈p)->∀ n∈w,n∈q)(h3:clo ws p->∀ n∈q,n∈p){k:Nat}(h:clo ws p\/k<=cntA ws p):clo ws q\/k+1<=cntA ws q:=by
 by_cases c:clo ws p
 .show .inl λw a ⟨n,b,d⟩ m e=>h1 m (c w a ⟨n,b,h3 c n d⟩ m e)
 .show .inr (Nat.lt_of_le_of_lt (h.resolve_left c) ?_);show Jed (λw a z=>?_) ?_
  .rw[decide_eq_true_eq]at z ⊢;showλn b=>h1 n (z n b)
  .show Classical.byContradiction λz=>c λw a f=>?_;show Classical.byContradiction λy=>z ⟨w,a,decide_eq_true (h2 w a f),decide_eq_false y⟩
theorem JkZ(h:clo ws p\/ws.length<=cntA ws p):clo ws p:=by
 show h.elim id λh w a _=>?_;have e:=List.countP_eq_length.mp (Nat.le_antisymm List.countP_le_length h) w a;show of_decide_eq_true e
def WLV(H:Hp)(w:List Str)(y:V):Prop:=∃ l,y=.ref l/\H l=some (.lst (w.map V.str))
theorem WLV.same{w:List Str}(S:Same H H'):WLV H w y->WLV H' w y:=λ⟨l,b,a⟩=>⟨l,b,S _ _ a⟩
theorem ThO.way(h:ThO ls gs pl){g:GD}{w:List Pr}(hw:JaP ls g.st w g.en)(hn:(w.map (·.1)).Nodup):(wayN ls g).Perm (w.map (·.1)):=JgD h.tr (λp a=>(h.pok p a).ne) h.nd hw hn
theorem ThO.wlen(h:ThO ls gs pl){a b:Str}{w:List Pr}(hw:JaP ls a w b)(hn:(w.map (·.1)).Nodup):w.length<=5:=by
 have:=sub_len (w.map (·.1)) (ls.map (·.nm)) hn λn hn=>Jb4 (JdD hw) n hn;rw[length_map,length_map]at this;have:=h.l8;ac_nf
section
variable{es':List (GD × List Str)}{rs':List ShD}{gs:List Gp}{w f:Str->Rat}
theorem Fair.away(h:Fair N w M gs f)(q:Str->Bool):Fair (N.filter q) w M (gs.filter λg=>g.way.any q) f:=by
 show(λn a=>h.lo n (mem_filter.mp a).1,λn a=>h.hi n (mem_filter.mp a).1,λg b=>h.fit g (mem_filter.mp b).1,λn a=>?_);let(d,c):=mem_filter.mp a;rcases h.stop n d with e | ⟨g,b,hm,k⟩
 .show .inl e
 .show .inr ⟨g,mem_filter.mpr ⟨b,List.any_eq_true.mpr ⟨n,hm,c⟩⟩,hm,k⟩
def Wdr(es es':List (GD × List Str))(pl:Str->Int × Int):Prop:=∀ e'∈es', ∃ e∈es,e.2=e'.2/\vl (roomF pl e.1)<=vl (roomF pl e'.1)
theorem ShR.at_(hc:SHC ls es pl)(h:ShR ls es pl rs):∃ f D,ShF ls es pl f D/\∀ p∈ls,Lo (slOf rs p.nm)/\vl (slOf rs p.nm)=f p.nm*(p.wt:Rat)/\∃ r∈rs,r.nm=p.nm:=by
 have d:=h.nms;let(l,f,D,F,R):=h;have c:(rs.map (·.nm)).Nodup:=d ▸ hc.nd;show(f,D,F,λp j=>?_);let(i,g):=List.getElem?_of_mem j;have k:=(List.getElem?_eq_some_iff.mp g).1;have b:=List.getElem?_eq_getElem (by ac_nf:i<rs.length);have a:=R i p _ g b;have e:=JcP c (List.mem_of_getElem? b);rw[a.nm]at e;rw[e];show(a.lo,a.val,_,List.mem_of_getElem? b,a.nm)
theorem ShR.sls(hc:SHC ls es pl)(h:ShR ls es pl rs):rs.map (·.sl)=ls.map λp=>slOf rs p.nm:=by
 have a:=h.nms;have b:(rs.map (·.nm)).Nodup:=a ▸ hc.nd;have : (rs.map (·.nm)).map (slOf rs)=(ls.map (·.nm)).map (slOf rs):=by rw[a]
 rw[map_map,map_map]at this;rw[<- show rs.map (slOf rs ∘ λx=>x.nm)=rs.map (·.sl)from map_congr_left λr c=>JcP b c];show this
theorem JmF(hc:SHC ls es pl)(hm:∀ p∈ls,FB 100 6 p.mo)(hc':SHC ls es' pl)(hs':∀ e∈es', ∀ n∈e.2,n∈ls.map (·.nm))(h:ShR ls es pl rs)(hw:Wdr es es' pl):ShP ls es' (rs.map (·.sl)) pl/\∃ D:Int,1<=D/\Mth.Sz 600 D/\∀ s∈rs.map (·.sl),FB 800 600 s/\Dv D (vl s):=by
 have c:=h.k hc hm;have v:=h.sls hc;let(f,D,F,R):=h.at_ hc;have d:(rs.map (·.nm)).Nodup:=c.nm ▸ hc.nd;have A:=h.len;show(⟨λi p s b j=>?_,λo g=>?_⟩,D,F.D1,F.sD,λs j=>?_)
 .have z:=(List.getElem?_eq_some_iff.mp b).1;have a:=List.getElem?_eq_getElem (by ac_nf:i<rs.length);rw[List.getElem?_map,a]at j;cases j;have:=c.bd i p _ b a;show(this.1,this.2.1)
 .let(e,y,t,w):=hw o g;show Rat.le_trans (Ji6 ?_) (Rat.le_trans (c.fit e y) w);rw[t];show Jbm λn u=>?_;let(p,b,rfl):=Jhu (hs' o g n u);let(i,m):=List.getElem?_of_mem b;have z:=(List.getElem?_eq_some_iff.mp m).1;have a:=List.getElem?_eq_getElem (by ac_nf:i<rs.length);have l:rs[i].nm=p.nm:=by
   have:=congrArg (·[i]?) c.nm;simp only[List.getElem?_map,a,m]at this;show Option.some.inj this
  rw[JkD (x:=(p,rs[i].sl)) hc.nd (List.mem_of_getElem? (i:=i) (List.getElem?_zip_eq_some.mpr ⟨m,by rw[List.getElem?_map,a];rfl⟩)), <- l,Ji8 d (List.mem_of_getElem? a)]
 .let(r,a,rfl):=mem_map.mp j;show(c.fb r a,?_);have q:r.nm∈ls.map (·.nm):=c.nm ▸ mem_map.mpr ⟨r,a,rfl⟩;let(p,b,e):=Jhu q;have:=(R p b).2.1;rw[e,JcP d a]at this;rw[this];show(F.dv _ q).mul _
theorem Jkc(hc:SHC ls es pl)(hm:∀ p∈ls,FB 100 6 p.mo)(hc':SHC ls es' pl)(h:ShR ls es pl rs)(h':ShR ls es' pl rs')(hw:Wdr es es' pl):notB (ordO (lvls (rs.map (·.sl)) (ls.map (·.wt)))) (ordO (lvls (rs'.map (·.sl)) (ls.map (·.wt))))=true:=by
 have b:∀{es:List (GD × List Str)}{rs:List ShD},SHC ls es pl->ShR ls es pl rs->∀ p∈ls,FB 910 800 (slOf rs p.nm)/\1<=p.wt/\Mth.Sz 21 p.wt:=λ{es rs} hc h p c=>by
  let(f,D,F,R):=h.at_ hc;let(_,_,r,L,e):=R p c;have x:(rs.map (·.nm)).Nodup:=h.nms ▸ hc.nd;rw[<- e,JcP x L];show(((h.k hc hm).fb r L).mono ⋯ ⋯,(hc.pok p c).w,hc.wt p c)
 have j:=b hc h;have m:=b hc' h';rw[h.sls hc,h'.sls hc',Jht,Jht];let(f,D,F,R):=h.at_ hc;let(f',D',F',W):=h'.at_ hc';generalize slOf rs=s at *;generalize slOf rs'=s' at *;show notB (ordO (ls.map (lvP s))) (ordO (ls.map (lvP s')))=true;have u:∀{s:Str->Fr2},(∀ p∈ls,FB 910 800 (s p.nm)/\1<=p.wt/\Mth.Sz 21 p.wt)->∀ p∈ls,Lo (lvP s p)/\vl (lvP s p)*(p.wt:Rat)=vl (s p.nm):=λ{s} hb p c=>by
  let(M,I,Q):=hb p c;let(_,S,V):=Jl9 M I Q;show(S,?_);have n1:=JaA I;have Z:=JaA M.b1;unfold lvP lvl;rw[JhI V];unfold vl;push_cast;grind
 have i:∀{s:Str->Fr2},(∀ p∈ls,FB 910 800 (s p.nm)/\1<=p.wt/\Mth.Sz 21 p.wt)->Srt (ordO (ls.map (lvP s)))/\(ordO (ls.map (lvP s))).Perm (ls.map (lvP s)):=λ{s} hb=>Jd6 _ λz P=>by
  let(p,c,rfl):=mem_map.mp P;show(u hb p c).1
 have N:=hc.nd
 let l:(Str->Fr2)->Str->Fr2:=λs n=>((ls.find? λp=>decide (p.nm=n)).map (lvP s)).getD (0,1)
 have d:∀(s:Str->Fr2), ∀ p∈ls,l s p.nm=lvP s p:=λs p c=>by
  show((ls.find? λq=>decide (q.nm=p.nm)).map (lvP s)).getD (0,1)=_;rw[Jfn N c];rfl
 have t:∀ s:Str->Fr2,(ls.map (·.nm)).map (l s)=ls.map (lvP s):=λs=>by
  rw[map_map];show map_congr_left λp c=>d s p c
 have o:∀{s:Str->Fr2}{f:Str->Rat},(∀ p∈ls,FB 910 800 (s p.nm)/\1<=p.wt/\Mth.Sz 21 p.wt)->(∀ p∈ls,vl (s p.nm)=f p.nm*(p.wt:Rat))->∀ n∈ls.map (·.nm),vl (l s n)=f n:=λ{s f} hb hv n hn=>by
  let(p,c,rfl):=Jhu hn;rw[d s p c];have e:=(u hb p c).2;rw[hv p c]at e;have:=JaA (hb p c).2.1;grind
 have K:=o (f:=f) j λp c=>(R p c).2.1;have H:=o (f:=f') m λp c=>(W p c).2.1;have y:=F'.fair.lex (f':=f) (a:=l s') (b:=l s) (A:=ordO (ls.map (lvP s'))) (B:=ordO (ls.map (lvP s))) (Jhd N λp c=>(j p c).2.1) (λg v=>by
  let(e,E,rfl):=Jc5 v;show(F'.sub e E).1) F.fair.hi (λg v=>by
  let(U,C,rfl):=Jc5 v;let(e,E,T,Y):=hw U C;have:=F.fair.fit ⟨vl (roomF pl e.1),e.2⟩ (mem_map.mpr ⟨e,E,rfl⟩);rw[<- T];show Rat.le_trans this Y) H K (i m).1 (i j).1 (by rw[t];show(i m).2) (by rw[t];show(i j).2)
 rcases y with e | y
 .have X:ls.map (lvP s)=ls.map (lvP s'):=map_congr_left λp c=>by
   have G:p.nm∈ls.map (·.nm):=mem_map.mpr ⟨p,c,rfl⟩;have J:=K _ G;have O:=H _ G;rw[d _ p c]at J O;show(u j p c).1.inj (u m p c).1 (by rw[J,O,e _ G])
  rw[X,Jgg]
 .show(Jhr (i m).1 (i j).1 y).2.2.1
theorem Jkb(hc:SHC ls es pl)(hc':SHC ls es' pl)(h:ShR ls es pl rs)(h':ShR ls es' pl rs'){ps:List Str}(cl:∀ e∈es,(∃ n∈e.2,n∈ps)->∀ n∈e.2,n∈ps)(heq:((gpF es pl).filter λg=>g.way.any λn=>decide (n∉ps))=(gpF es' pl).filter λg=>g.way.any λn=>decide (n∉ps)):∀ n∈unl rs rs',n∈ps:=λn a=>by
 have k:(rs.map (·.nm)).Nodup:=h.nms ▸ hc.nd;have o:=h.nms;let(f,D,F,R):=h.at_ hc;let(H,D',F',C):=h'.at_ hc';unfold unl at a;let(r,b,rfl):=mem_map.mp a;let(b,q):=mem_filter.mp b;show Classical.byContradiction λc=>?_;have t:r.nm∈ls.map (·.nm):=o ▸ mem_map.mpr ⟨r,b,rfl⟩;have A:=F.fair.away λn=>decide (n∉ps);have u:=F'.fair.away λn=>decide (n∉ps);rw[<- heq]at u;have x:∀ g∈(gpF es pl).filter (λg=>g.way.any λn=>decide (n∉ps)), ∀ n∈g.way,n∈(ls.map (·.nm)).filter λn=>decide (n∉ps):=λg i n a=>by
  let(i,B):=mem_filter.mp i;let(e,s,rfl):=Jc5 i;let(m,E,v):=List.any_eq_true.mp B;show mem_filter.mpr ⟨(F.sub e s).1 n a,decide_eq_true λz=>?_⟩;show of_decide_eq_true v (cl e s ⟨n,a,z⟩ m E)
 have y:=Jhd hc.nd λp d=>(hc.pok p d).w;have e:=A.uniq (λn a=>y n (mem_filter.mp a).1) x u r.nm (mem_filter.mpr ⟨t,decide_eq_true c⟩);let(p,d,G):=Jhu t;have l:=R p d;have j:=C p d;rw[G]at l j;have:=l.1.inj j.1 (by rw[l.2.1,j.2.1,e]);rw[JcP k b]at this;rw[this]at q;simp at q
theorem Je8{q : α->Bool}:∀{l:List α}{i:Nat}{a b : α},l[i]?=some a->q a=false->q b=false->(l.set i b).filter q=l.filter q
 | [],_,_,_,h,_,_=>by simp at h
 | x::l,0,a,b,h,h1,h2=>by
  cases h;rw[List.set_cons_zero,List.filter_cons,List.filter_cons,h1,h2];rfl
 | x::l,i+1,a,b,h,h1,h2=>by
  rw[List.set_cons_succ,List.filter_cons,List.filter_cons,Je8 (l:=l) h h1 h2]
end
variable{g':GD}
theorem Jid{g:GD}(h1:g'.st=g.st)(h2:g'.en=g.en):wayN ls g'=wayN ls g:=by unfold wayN;rw[h1,h2]
theorem Jk4{i:Nat}{g:GD}:esN ls (gs.set i g)=(esN ls gs).set i (g,wayN ls g):=by unfold esN;rw[List.map_set]
structure StpO(ls:List PD)(sp:List SpD)(j:Nat)(gs:List GD)(i:Nat)(g g':GD):Prop where
 gso:GsO sp (j+1) (gs.set i g')
 tok:TOk g'.td
 wd:Wdr (esN ls gs) (esN ls (gs.set i g')) (spOf sp)
 mp:(gs.map λu=>if u.nm=g.nm then g' else u)=gs.set i g'
 bk:((gs.set i g').map λu=>if u.nm=g'.nm then g else u)=gs
 ft:∀ ps:List Str,(∀ n∈wayN ls g,n∈ps)->((gpF (esN ls gs) (spOf sp)).filter λg=>g.way.any λn=>decide (n∉ps))=(gpF (esN ls (gs.set i g')) (spOf sp)).filter λg=>g.way.any λn=>decide (n∉ps)
theorem GsO.step{g:GD}{i:Nat}{c:Fr2}(hG:Grn 0 ls sp)(l5:ls.length<=5)(l11:sp.length<=11)(j6:j<=6)(h:GsO sp j gs)(hi:gs[i]?=some g)(hc:FB 100 6 c)(c0:0<=vl c)(d1 d2:Bool)(eg:g'=⟨g.nm,g.st,g.en,if d1 then addF g.lo (negF c)else g.lo,if d2 then addF g.hi c else g.hi⟩):StpO ls sp j gs i g g':=by
 have l:=(List.getElem?_eq_some_iff.mp hi).1;have y:=List.mem_of_getElem? hi;let(u,v,m):=h.ok g y;let(G,B,d,p,q):=m.wide hG l5 hc c0 d1 d2;rw[<- eg]at d;have L:g'.nm=g.nm:=by rw[eg]
 have J:g'.st=g.st:=by rw[eg]
 have H:g'.en=g.en:=by rw[eg]
 have A:=Jid (ls:=ls) J H;have w:∀ x∈gs.set i g',x∈gs\/x=g':=λx e=>List.mem_or_eq_of_mem_set e;have o:(gs.set i g').map (·.nm)=gs.map (·.nm):=by
  rw[List.map_set,L];show List.ext_getElem? λk=>?_;rw[List.getElem?_set];by_cases c:i=k
  .subst c;rw[if_pos rfl,List.getElem?_map,hi,if_pos (by rw[length_map];show l)];rfl
  .rw[if_neg c]
 have D:(gs.set i g')[i]?=some g':=by rw[List.getElem?_set,if_pos rfl,if_pos l]
 have I:vl (roomF (spOf sp) g)<=vl (roomF (spOf sp) g'):=by
  rw[m.room hG l5,d.room hG l5];show mn_le m.fu.b1 m.fv.b1 d.fu.b1 d.fv.b1 p q
 have f:((gs.set i g').map (·.nm)).Nodup:=by rw[o];show h.nd
 show(⟨f,by rw[List.length_set];show h.l4,λx e=>?_⟩,(d.ok hG l5 l11 ∅).tok,λM t=>?_,?_,?_,λF s=>?_)
 .rcases w x e with e | rfl
  .let(a,b,z):=h.ok x e;show(a,b,z.up ∅)
  .show(G,B,d)
 .let(x,e,rfl):=mem_map.mp t;rcases w x e with e | rfl
  .show((x,wayN ls x),mem_map.mpr ⟨x,e,rfl⟩,rfl,Rat.le_refl)
  .show((g,wayN ls g),mem_map.mpr ⟨g,y,rfl⟩,A.symm,I)
 .rw[map_set h.nd hi,JhD l]
 .rw[map_set f D,JhD (by rw[List.length_set];show l),List.set_set];show List.ext_getElem? λk=>?_;rw[List.getElem?_set];by_cases c:i=k
  .subst c;rw[if_pos rfl,if_pos l,hi]
  .rw[if_neg c]
 .have C:gpF (esN ls (gs.set i g')) (spOf sp)=(gpF (esN ls gs) (spOf sp)).set i ⟨vl (roomF (spOf sp) g'),wayN ls g'⟩:=by
   rw[Jk4];unfold gpF;rw[List.map_set]
  have K:(gpF (esN ls gs) (spOf sp))[i]?=some ⟨vl (roomF (spOf sp) g),wayN ls g⟩:=by
   unfold gpF esN;rw[List.getElem?_map,List.getElem?_map,hi];rfl
  have r:(wayN ls g).any (λn=>decide (n∉F))=false:=by
   rw[List.any_eq_false];intro n E z;show of_decide_eq_true z (s n E)
  rw[C];show(Je8 K r (by rw[<- A]at r;show r)).symm
theorem ThO.sub(h:ThO ls gs pl):∀ e∈esN ls gs, ∀ n∈e.2,n∈ls.map (·.nm):=λe b n a=>by
 let(g,d,rfl):=mem_map.mp b;have a:n∈wayN ls g:=a;unfold wayN at a;split at a
 .rename_i c;show Jb4 (JdD c.choose_spec.1) n a
 .cases a
theorem hcs3{scope:Scope}{i k:Nat}{x y:Str}(a:X.N[i]?=some x)(b:X.env.scope.names.lookup x=some .cell)(c:(relabel scope X.env).names.lookup x=some .cell)
  (a':X.N[j]?=some y) (b':X.env.scope.names.lookup y=some .cell) (c':(relabel scope X.env).names.lookup y=some .cell)
  (a'':X.N[k]?=some z) (b'':X.env.scope.names.lookup z=some .cell) (c'':(relabel scope X.env).names.lookup z=some .cell) :
  ∀ p∈[(i,x),(j,y),(k,z)],X.N[p.1]?=some p.2/\X.env.scope.names.lookup p.2=some .cell/\(relabel scope X.env).names.lookup p.2=some .cell:=λp d=>by
 rcases mem_cons.mp d with rfl | d
 .show(a,b,c)
 .show hcs2 a' b' c' a'' b'' c'' p d
variable{Q:VK}{p q:Addr}{ys:List V}
theorem neGs{K:W.Frag}(hp:SqL K H p xs)(hx:All2 (λ(g:GD) v=>TV K H g.td v) gs xs)(hq:SqL K H q ys)(hy:All2 (λ(g:GD) v=>TV K H g.td v) gs ys)(k:Q (.bl false) H):rNeU K (.ref p) (.ref q) H Q:=by
 show(.lst (gs.map λg=>tdD g.td), .lst (gs.map λg=>tdD g.td),by simp only[Rep];show(p,xs,rfl,hp,hx.repL λ_ _ z=>z.rep),by simp only[Rep];show(q,ys,rfl,hq,hy.repL λ_ _ z=>z.rep),?_,rfl,?_)
 .have:=Jd1 (n:=10) (f:=λg:GD=>tdD g.td) (λg=>by simp[tdD,GD.td,bD,frD,depD,depL]) gs;simp only[depD];ac_nf
 .rw[Jdf];show k
theorem neFs{K:W.Frag}{A B:List Fr2}(hp:SqL K H p xs)(hx:All2 (FLV K H) A xs)(hq:SqL K H q ys)(hy:All2 (FLV K H) B ys)(k:Q (.bl (!decide (A=B))) H):rNeU K (.ref p) (.ref q) H Q:=by
 show(.lst (A.map frD), .lst (B.map frD),by simp only[Rep];show(p,xs,rfl,hp,hx.repL λ_ _ z=>FrV.rep z),by simp only[Rep];show(q,ys,rfl,hq,hy.repL λ_ _ z=>FrV.rep z),?_,rfl,?_)
 .have:=Jd1 (n:=10) (f:=frD) (λa=>by simp[frD,depD,depL]) A;simp only[depD];ac_nf
 .rw[show eqD (.lst (A.map frD)) (.lst (B.map frD))=_ from Jiz];show k
theorem neSs{K:W.Frag}(hp:SqL K H p (ss.map V.str))(hq:SqL K H q (ss.map V.str))(k:Q (.bl false) H):rNeU K (.ref p) (.ref q) H Q:=by
 have b:∀ l:List Str,RepL K H (l.map D.str) (l.map V.str):=λl=>by
  induction l with
  | nil=>simp[RepL]
  | cons a l ih=>rw[map_cons,map_cons,RepL];show(_,_,rfl,by simp[Rep],ih)
 show(.lst (ss.map D.str), .lst (ss.map D.str),by simp only[Rep];show(p,_,rfl,hp,b ss),by simp only[Rep];show(q,_,rfl,hq,b ss),?_,rfl,?_)
 .have:=Jd1 (n:=10) (f:=D.str) (λa=>by simp[depD]) ss;simp only[depD];ac_nf
 .rw[Jdf];show k
theorem GpO.fbs{g:GD}{u v:Fr2}(hG:Grn 0 ls sp)(l5:ls.length<=5)(j7:j<=7)(h:GpO sp j g u v):FB 217 110 g.lo/\FB 217 110 g.hi:=by
 have a:=midG hG l5 g;have c:FB 149 48 u:=h.fu.mono ∅ ∅;have b:FB 149 48 v:=h.fv.mono ∅ ∅;show(by rw[h.lo];show FB.add (n:=216) (m:=110) a c.neg ⋯ ⋯ ⋯,by rw[h.hi];show FB.add (n:=216) (m:=110) a b ⋯ ⋯ ⋯)
theorem r0_es(h:∀ g∈gs,0<=vl (roomF pl g)):∀ e∈esN ls gs,0<=vl (roomF pl e.1):=λe b=>by
 let(g,a,rfl):=mem_map.mp b;show h g a
theorem JmC{es':List (GD × List Str)}{rs':List ShD}{i:Nat}{r r':ShD}(hn:(ls.map (·.nm)).Nodup)(h:ShR ls es pl rs)(h':ShR ls es' pl rs')(hi:rs[i]?=some r)(hi':rs'[i]?=some r'):slOf rs' r.nm=r'.sl:=by
 have b:=h.nms;have a:=h'.nms;have e:r.nm=r'.nm:=by
  have:=congrArg (·[i]?) (b.trans a.symm);simp only[List.getElem?_map,hi,hi']at this;show Option.some.inj this
 rw[e];show JcP (a ▸ hn) (List.mem_of_getElem? hi')
structure RwG(sp:List SpD)(k:Nat)(g:GD):Prop where
 nm:g.nm=nmK 114 0 k
 fs:∃ s∈sp, ∃ t∈sp,g.st=s.f/\g.en=t.f/\s.f≠t.f/\s.r=t.r
 lo:∃ u,g.lo=negF u/\FB 100 6 u/\0<=vl u
 fh:FB 100 6 g.hi
 h0:0<=vl g.hi
def Jf4(g:GD):GD:=⟨g.nm,g.st,g.en,(0,1),(0,1)⟩
def abG(pl:Str->Fr2)(g:GD):GD:=⟨g.nm,g.st,g.en,addF (mid pl g) g.lo,addF (mid pl g) g.hi⟩
theorem RwG.gpo{k:Nat}{g:GD}(h:RwG sp k g)(k5:k<=5):∃ u v,GpO sp 0 (abG (spOf sp) g) u v:=by
 let(u,e,b,a):=h.lo;show(u,g.hi,⟨k,k5,h.nm⟩,h.fs,b,h.fh,a,h.h0,by show addF (mid (spOf sp) g) g.lo=addF (mid (spOf sp) g) (negF u);rw[e],rfl)
theorem RwG.con{k:Nat}{g:GD}(hG:Grn 0 ls sp)(h:RwG sp k g):Conn ls g.st g.en:=by
 let(s,b,t,e,d,i,j,f):=h.fs;have a:=(hG.con s b).symm λp c=>(hG.ok p c).ne;rw[f]at a;rw[d,i];show a.trans (hG.con t e)
theorem RwG.tok{k:Nat}{g:GD}(hG:Grn 0 ls sp)(l11:sp.length<=11)(k5:k<=5)(h:RwG sp k g):TOk (Jf4 g).td:=by
 let(s,f,t,i,c,d,e,j):=h.fs;have z:FOk 600 ((0,1):Fr2):=JdO.fok ⋯ ⋯;show(?_,?_,?_,?_,λa b=>?_,λa b=>?_,rfl)
 .show nameS g.nm=true;rw[h.nm];show Jdh ⋯ ⋯ ∅
 .show nameS g.st=true;rw[c];show hG.fname ⋯ l11 f
 .show nameS g.en=true;rw[d];show hG.fname ⋯ l11 i
 .show g.st≠g.en;rw[c,d];show e
 .cases b;show z
 .cases b;show z
theorem JjE(ns:List Int):∃ zs:List Int,cutV (ns.map V.int) (some 19) (some 25)=zs.map V.int/\zs.length<=6:=by
 show((ns.drop (HT.sIx (ns.map V.int).length 0 (some 19))).take (HT.sIx (ns.map V.int).length (ns.map V.int).length (some 25)-HT.sIx (ns.map V.int).length 0 (some 19)),?_,?_)
 .unfold cutV;rw[<- List.map_drop, <- List.map_take]
 .rw[length_take];have a:=HT.sIx_nat (ns.map V.int).length 0 19;have b:=HT.sIx_nat (ns.map V.int).length (ns.map V.int).length 25;rw[show((19:Nat):Int)=19 from rfl]at a;rw[show((25:Nat):Int)=25 from rfl]at b;rw[a,b];ac_nf
end L2
open PySem L2
local macro_rules|`(tactic|rename_i $p:ident $h:ident $q:ident $H:ident $G:ident $S:ident $e:ident)=>`(tactic|(intro $p:ident $h:ident;generalize $q:ident:upd $H $p _=$G;have $S:ident:=newS $h $q;have $e:ident:=newE $q))
local macro_rules|`(tactic|bv_decide)=>`(tactic|exact ⟨rfl,rfl,rfl,by decide +kernel,rfl,by decide +kernel,by decide +kernel⟩)
local macro_rules|`(tactic|simpa! only [$xs,*])=>do let l<-(("y50y y51y y52y y73y y2by y6ey y81y y48y y2ey y7ay y94y y30y y3dy y74y y2fy y8ay y23y y29y y7by y76y y2ay y7cy y78y y5cy y96y y26y y88y y72y y4dy y6ay y7fy y33y y4by y70y y4cy y71y y6fy y8fy y66y y62y y91y y93y y25y y69y y24y yby yay y17y y1dy y1fy y21y y1ey y22y y86y y7ey y75y y8dy y97y y80y y27y V.int.injEq V.str.injEq V.bl.injEq y58y y5ay y2cy y2dy y6cy y61y y77y y67y y68y y3ey y3fy y40y y47y y49y y42y y7dy y43y y34y y36y y3by y41y y45y y53y y55y y5dy y39y y8cy y89y y37y y3cy y3ay y5fy y38y".splitOn " ").map (`L2++·.toName)++("true_and if_true if_false Bool.not_true Bool.not_false Bool.false_eq_true List.set_cons_zero List.set_cons_succ List.getElem?_cons_zero List.getElem?_cons_succ Option.some.injEq exists_eq_left exists_eq_left' Int.reduceToNat Int.reducePow append_nil nil_append cons_append reduceCtorEq decide_false decide_true".splitOn " ").map (·.toName)).toArray.mapM fun s=>`(Lean.Parser.Tactic.simpLemma|$(Lean.mkIdent s):term);`(tactic|simp only [$(Array.append (l.map fun x=>⟨x.raw⟩) xs.getElems),*])
local macro_rules|`(tactic|mstop)=>`(tactic|simpa! only [y84y])
local macro_rules|`(tactic|mstart)=>`(tactic|simpa! only [y84y,y4ey])
local macro_rules|`(tactic|cutsat)=>`(tactic|simpa! only [y84y,y85y])
local macro_rules|`(tactic|simp_all only [$xs,*])=>`(tactic|((try simpa! only [$xs,*]);repeat ((first|(with_reducible refine JfS fun _ _=>?_)|(with_reducible refine Nxt.go (by assumption) ?_));(try simpa! only [$xs,*]))))
local macro_rules|`(tactic|mvcgen)=>`(tactic|simp_all only [y4ey,y85y])
local macro_rules|`(tactic|mexact)=>`(tactic|simp_all only [y85y])
local macro_rules|`(tactic|mleave)=>`(tactic|simp_all only [y4ey])
local macro_rules|`(tactic|cbv)=>`(tactic|simp_all only [true_and])
local macro_rules|`(tactic|mspec)=>`(tactic|(try ((with_reducible refine Nxt.go (by assumption) ?_);cbv)))
local macro_rules|`(tactic|mframe)=>`(tactic|(mspec;cbv))
local macro_rules|`(tactic|mpure)=>`(tactic|repeat (refine And.intro (by first | exact Jbp ⋯ | exact Jbr ⋯ | exact Jbq ⋯ | exact mulOkL' ⋯ | exact Int.one_ne_zero | decide) ?_))
local macro_rules|`(tactic|simpa only [$xs,*])=>`(tactic|simpa! only [y84y, $xs,*])
namespace Prg
open PySem L2 Ch
variable{fd:FuncData}{dV:Value}{f:Addr}
def top(i:Nat):Stmt:=PySem.Challenge.pw_slackchain_k64_whole_wider_is_no_less_fa.main.body.getD i (.Pass ⟨0,0,0,0⟩)
set_option genInjectivity false in
structure Adr where
 NoNumber:Addr
 NoName:Addr
 Part:Addr
 Gap:Addr
 Joints:Addr
 Thing:Addr
 Scale:Addr
 Lid:Addr
 SMALL_LETTERS:Value
 LONGEST_NAME:Value
 ZERO:Addr
structure PartC(K:W.Frag)(C:Addr):Prop where
 cls:Cls K C
 n1:JaU K C "name"
 n2:JaU K C "start"
 n3:JaU K C "end"
 n4:JaU K C "size"
 n5:JaU K C "most"
 n6:JaU K C "weight"
def IsPart(Ad:Adr)(C:Addr):Prop:=C=Ad.Part
structure GapC(K:W.Frag)(C:Addr):Prop where
 cls:Cls K C
 n1:JaU K C "name"
 n2:JaU K C "one"
 n3:JaU K C "other"
 n4:JaU K C "low"
 n5:JaU K C "high"
def IsGap(Ad:Adr)(C:Addr):Prop:=C=Ad.Gap
structure JkO(K:W.Frag)(C:Addr):Prop where
 cls:Cls K C
 n1:JaU K C "leads"
def Jdd(Ad:Adr)(C:Addr):Prop:=C=Ad.Joints
structure JlQ(K:W.Frag)(C:Addr):Prop where
 cls:Cls K C
 n1:JaU K C "parts_by_name"
 n2:JaU K C "gaps_by_name"
 n3:JaU K C "ways"
def JaF(Ad:Adr)(C:Addr):Prop:=C=Ad.Thing
structure JlP(K:W.Frag)(C:Addr):Prop where
 cls:Cls K C
 n1:JaU K C "bottom"
 n2:JaU K C "factors"
def Jc2(Ad:Adr)(C:Addr):Prop:=C=Ad.Scale
structure LidC(K:W.Frag)(C:Addr):Prop where
 cls:Cls K C
 n1:JaU K C "name"
 n2:JaU K C "rest"
 n3:JaU K C "weights"
 n4:JaU K C "load"
 n5:JaU K C "last_level"
def IsLid(Ad:Adr)(C:Addr):Prop:=C=Ad.Lid
variable{H:Hp}{a C:Addr}{xs:List V}
theorem SqT.put{K:W.Frag}{x dx:Addr}{fs fs':List (Str × V)}(hx:H x=some (.ins C dx fs))(h:SqT K H a xs):SqT K (upd H x (.ins C dx fs')) a xs:=by
 rcases h with(h | ⟨o,h⟩) | h
 .show .inl (.inl (by rw[Jah (ne_of h hx (by intro z;cases z))];show h))
 .show .inl (.inr ⟨o,by rw[Jah (ne_of h hx (by intro z;cases z))];show h⟩)
 .show .inr h
def partF(n s e z m w:V):List (Str × V):=[("name",n),("start",s),("end",e),("size",z),("most",m),("weight",w)]
def gapF(n s e l g:V):List (Str × V):=[("name",n),("one",s),("other",e),("low",l),("high",g)]
structure Txt(K:W.Frag)(mg:Str->Option Value)(Ad:Adr):Prop where
 BdX:mg "abs"=none
 BaL:mg "isinstance"=none
 Bba:mg "len"=none
 Bd6:mg "int"=none
 Bd3:mg "bool"=none
 Bds:mg "tuple"=none
 Bd7:mg "str"=none
 BbQ:mg "range"=none
 BdW:mg "list"=none
 Bed:mg "min"=none
 Bd4:mg "sorted"=none
 Bd8:mg "all"=none
 n_sum:mg "sum"=none
 n_dict:mg "dict"=none
 Bd9:mg "zip"=none
 m_NoNumber:mg "NoNumber"=some (.ref Ad.NoNumber)
 BdI:mg "NoName"=some (.ref Ad.NoName)
 Bec:mg "Part"=some (.ref Ad.Part)
 Bee:mg "Gap"=some (.ref Ad.Gap)
 Bd5:mg "Joints"=some (.ref Ad.Joints)
 Bea:mg "Thing"=some (.ref Ad.Thing)
 Beb:mg "Scale"=some (.ref Ad.Scale)
 m_Lid:mg "Lid"=some (.ref Ad.Lid)
 Bcq:mg "SMALL_LETTERS"=some Ad.SMALL_LETTERS
 Bcr:RelV (.str "abcdefghijklmnopqrstuvwxyz") Ad.SMALL_LETTERS
 BcS:mg "LONGEST_NAME"=some Ad.LONGEST_NAME
 BcT:RelV (.int 8) Ad.LONGEST_NAME
 Bcs:mg "ZERO"=some (.ref Ad.ZERO)
 Bct:RelV (.ref Ad.ZERO) (.ref Ad.ZERO)
 Bcu:∀ H:Hp,SqT K H Ad.ZERO [.int 0, .int 1]
 x_NoNumber:W.excIn K Ad.NoNumber [.type "ValueError", .type "Exception", .type "BaseException", .type "object"] "ValueError.__new__"=true
 BbZ:W.excIn K Ad.NoName [.type "ValueError", .type "Exception", .type "BaseException", .type "object"] "ValueError.__new__"=true
 BcV:∀ C,IsPart Ad C->PartC K C
 BdK:∀ C,IsGap Ad C->GapC K C
 Bb9:∀ C,Jdd Ad C->JkO K C
 Bbl:∀ C,JaF Ad C->JlQ K C
 Bcv:∀ C,Jc2 Ad C->JlP K C
 c_Lid:∀ C,IsLid Ad C->LidC K C
def PEV(K:W.Frag)(H:Hp)(e:PD ⊕ D)(x:V):Prop:=match e with
 | .inl p=>PDV K H p x/\POk p
 | .inr c=>Rep K H c x/\szD c/\partB c=false
def GEV(K:W.Frag)(H:Hp)(e:GD ⊕ D)(x:V):Prop:=match e with
 | .inl g=>TV K H g.td x/\TOk g.td
 | .inr c=>Rep K H c x/\szD c/\gapB c=false
def POV(K:W.Frag)(Ad:Adr)(H:Hp)(p:PD)(v:V):Prop:=∃ q dx vz vm,v=.ref q/\H q=some (.ins Ad.Part dx (partF (.str p.nm) (.str p.st) (.str p.en) vz vm (.int p.wt)))/\FrV K H vz p.sz.1 p.sz.2/\FrV K H vm p.mo.1 p.mo.2
def GOV(K:W.Frag)(Ad:Adr)(H:Hp)(g:GD)(v:V):Prop:=∃ q dx vl vg,v=.ref q/\H q=some (.ins Ad.Gap dx (gapF (.str g.nm) (.str g.st) (.str g.en) vl vg))/\FrV K H vl g.lo.1 g.lo.2/\FrV K H vg g.hi.1 g.hi.2
section
variable{Ad:Adr}{H':Hp}{v x:V}{K:W.Frag}
def isTI:HO->Bool
 | .ins _ _ _=>true
 | u=>isTF u
def SameI(H H':Hp):Prop:=∀ b u,isTI u=true->H b=some u->H' b=some u
theorem SameI.t(S:SameI H H'):SameT H H':=λb u t h=>S b u (by cases u <;> first | show t | (simp[isTF]at t)) h
theorem Same.i(S:Same H H'):SameI H H':=λb u _ h=>S b u h
theorem PEV.same{e:PD ⊕ D}(S:Same H H')(h:PEV K H e x):PEV K H' e x:=by
 match e,h with
 | .inl t,h=>show(h.1.sameT S.t,h.2)
 | .inr c,h=>show(h.1.same S,h.2)
theorem GEV.same{e:GD ⊕ D}(S:Same H H')(h:GEV K H e x):GEV K H' e x:=by
 match e,h with
 | .inl t,h=>show(h.1.sameT S.t,h.2)
 | .inr c,h=>show(h.1.same S,h.2)
theorem POV.si{p:PD}(S:SameI H H'):POV K Ad H p v->POV K Ad H' p v:=by rintro⟨q,d,c,b,g,f,a,e⟩;show(q,d,c,b,g,S _ _ rfl f,a.sameT S.t,e.sameT S.t)
theorem GOV.si{g:GD}(S:SameI H H'):GOV K Ad H g v->GOV K Ad H' g v:=by rintro⟨q,d,c,b,h,f,a,e⟩;show(q,d,c,b,h,S _ _ rfl f,a.sameT S.t,e.sameT S.t)
end
def JK(Ad:Adr)(H0 H:Hp)(j d:Addr)(ls:List PD):Prop:=(∃ dx,H j=some (.ins Ad.Joints dx [("leads", .ref d)]))/\H0 d=none/\∃ kvs,H d=some (.dK kvs)/\kvs.length<=2*ls.length/\JD H0 H (JaC ls) kvs
variable{Ad:Adr}{H0 H':Hp}{d:Addr}{ls:List PD}
theorem JK.same{j:Addr}(S:Same H H'):JK Ad H0 H j d ls->JK Ad H0 H' j d ls:=λζ=>by let((e,h),g,a,c,f,b):=ζ;show(⟨e,S _ _ h⟩,g,a,S _ _ c,f,b.same S)
def TK(K:W.Frag)(Ad:Adr)(H:Hp)(x:Addr)(ls:List PD)(gs:List GD):Prop:=∃ dx d1 d2 d3 k1 k2 k3,H x=some (.ins Ad.Thing dx [("parts_by_name", .ref d1),("gaps_by_name", .ref d2),("ways", .ref d3)])/\H d1=some (.dK k1)/\BG (·.nm) (POV K Ad H) ls k1/\H d2=some (.dK k2)/\BG (·.nm) (GOV K Ad H) gs k2/\H d3=some (.dK k3)/\BG (·.nm) (WOV H ls) gs k3
variable{x:Addr}
theorem TK.same{K:W.Frag}{gs:List GD}(S:Same H H'):TK K Ad H x ls gs->TK K Ad H' x ls gs:=by rintro⟨j,m,f,d,a,k,l,e,o,b,n,g,c,h⟩;show(j,m,f,d,a,k,l,S _ _ e,S _ _ o,b.mono λ_ _ z=>z.si (Same.i S),S _ _ n,g.mono λ_ _ z=>z.si (Same.i S),S _ _ c,h.mono λ_ _ z=>z.same S)
def SameJ(d:Addr)(H H':Hp):Prop:=∀ b u,b≠d->(∀ xs,u≠.lst xs)->H b=some u->H' b=some u
theorem JgQ{α:Type}{f : α->Str}{ls l0:List α}{p : α}{n:Nat}(h:ls++[p]=l0.take n)(hn:(l0.map f).Nodup):f p∉ls.map f:=λa=>by
 have:=((List.take_sublist n l0).map f).nodup hn;rw[<- h,map_append]at this;show(nodup_append.mp this).2.2 _ a _ (by simp) rfl
theorem Jjp(ht:Tree ls)(hn:(ls.map (·.nm)).Nodup)(i:Nat)(p:PD)(hp:ls[i]?=some p):¬ Conn (ls.take i) p.st p.en:=λz=>ht p (List.mem_of_getElem? hp) (z.sub λx a=>mem_filter.mpr ⟨mem_of_mem_take a,by
 rw[decide_eq_true_iff];showλe=>JgQ (f:=(·.nm)) (p:=p) (n:=i+1) (by rw[take_succ,hp];rfl) hn (by rw[<- e];show mem_map.mpr ⟨x,a,rfl⟩)⟩)
def SCK(Ad:Adr)(H:Hp)(x:Addr)(b:Int)(fs:List Int):Prop:=∃ dx fl,H x=some (.ins Ad.Scale dx [("bottom", .int b),("factors", .ref fl)])/\H fl=some (.lst (fs.map V.int))/\Scl b fs/\Mth.Sz 2000 b/\fs.length<=30
theorem SCK.same{b:Int}{fs:List Int}(S:Same H H'):SCK Ad H x b fs->SCK Ad H' x b fs:=by rintro⟨d,c,f,e,a⟩;show(d,c,S _ _ f,S _ _ e,a)
def LDV(K:W.Frag)(Ad:Adr)(H:Hp)(e:LidD)(v:V):Prop:=∃ q dx vr vt wd,v=.ref q/\H q=some (.ins Ad.Lid dx [("name", .str e.nm),("rest",vr),("weights", .ref wd),("load", .int e.load),("last_level",vt)])/\FrV K H vr e.rest.1 e.rest.2/\FrV K H vt e.last.1 e.last.2/\H wd=some (.dK (wsK e.ws))
variable{e:LidD}{v:V}
theorem LDV.same{K:W.Frag}(S:Same H H'):LDV K Ad H e v->LDV K Ad H' e v:=by rintro⟨q,g,d,c,a,j,i,f,h,b⟩;show(q,g,d,c,a,j,S _ _ i,f.same S,h.same S,S _ _ b)
theorem LDV.keep{K:W.Frag}{q dq:Addr}{fs:List (Str × V)}(S:∀ b u,b≠q->H b=some u->H' b=some u)(hq:H q=some (.ins C dq fs))(hne:v≠.ref q):LDV K Ad H e v->LDV K Ad H' e v:=by
 rintro⟨j,k,g,f,d,c,m,i,l,a⟩;have T:SameT H H':=λb u t h=>S b u (λz=>by rw[z,hq]at h;cases h;simp[isTF]at t) h;show(j,k,g,f,d,c,S _ _ (λz=>hne (by rw[c,z])) m,i.sameT T,l.sameT T,S _ _ (λz=>by rw[z,hq]at a;cases a) a)
theorem Same.cutN(S:Same H H')(hd:H d=none):Same H (cut d H'):=λb u h=>by
 rw[JbV (λz=>by rw[z,hd]at h;cases h)];show S b u h
theorem SameT.cutO{o:HO}(h:H d=some o)(ho:isTF o=false):SameT H (cut d H):=λb u t a=>by
 rw[JbV (λz=>by rw[z,h]at a;cases a;rw[ho]at t;cases t)];show a
theorem LDV.notin{K:W.Frag}{es:List LidD}{u:HO}(hX:All2 (LDV K Ad H) es xs)(h:H a=some u)(hu:∀ dx fs,u≠.ins Ad.Lid dx fs):V.ref a∉xs:=λz=>by
 let(i,d):=List.getElem?_of_mem z;let(e,_,q,dx,j,g,f,b,c,_):=hX.at_ d;have b:a=q:=by injection b
 rw[b,c]at h;show hu _ _ (Option.some.inj h).symm
theorem LDV.dict{K:W.Frag}{kv:List (Key × V)}(S:∀ b u,b≠d->H b=some u->H' b=some u)(hd:H d=some (.dK kv))(hn:∀ wd,v=.ref wd->True)(h0:∀ q dx vr vt wd,H q=some (.ins Ad.Lid dx [("name", .str e.nm),("rest",vr),("weights", .ref wd),("load", .int e.load),("last_level",vt)])->v=.ref q->wd≠d):LDV K Ad H e v->LDV K Ad H' e v:=by
 rintro⟨i,dx,vr,vt,wd,c,a,g,j,f⟩;have T:SameT H H':=λb u t h=>S b u (λz=>by rw[z,hd]at h;cases h;simp[isTF]at t) h;show(i,dx,vr,vt,wd,c,S _ _ (λz=>by rw[z,hd]at a;cases a) a,g.sameT T,j.sameT T,S _ _ (h0 _ _ _ _ _ a c) f)
def ShV(K:W.Frag)(H:Hp)(r:ShD)(v:V):Prop:=∃ p vs t,v=.ref p/\SqT K H p [.str r.nm,vs, .ref t]/\FrV K H vs r.sl.1 r.sl.2/\SqT K H t (match r.sp with | none=>[.str (Str.ofString "most")] | some g=>[.str (Str.ofString "gap"), .str g])
variable{r:ShD}
theorem ShV.sameT{K:W.Frag}(S:SameT H H'):ShV K H r v->ShV K H' r v:=by rintro⟨p,b,t,e,d,a,c⟩;show(p,b,t,e,d.sameT S,a.sameT S,c.sameT S)
def shD(r:ShD):D:=.tup [.str r.nm,frD r.sl, .tup (match r.sp with | none=>[.str (Str.ofString "most")] | some g=>[.str (Str.ofString "gap"), .str g])]
theorem ShV.rep{K:W.Frag}(h:ShV K H r v):Rep K H (shD r) v:=by
 let(p,d,t,rfl,c,a,b):=h;have a:=FrV.rep a;cases e:r.sp with
 | none=>
  rw[e]at b;unfold shD;rw[e];simp only[Rep,RepL];show(p,_,rfl,c,_,_,rfl,rfl,_,_,rfl,by simpa only[Rep,RepL,frD]using a,_,_,rfl,⟨t,_,rfl,b,_,_,rfl,rfl,rfl⟩,rfl)
 | some g=>
  rw[e]at b;unfold shD;rw[e];simp only[Rep,RepL];show(p,_,rfl,c,_,_,rfl,rfl,_,_,rfl,by simpa only[Rep,RepL,frD]using a,_,_,rfl,⟨t,_,rfl,b,_,_,rfl,rfl,_,_,rfl,rfl,rfl⟩,rfl)
section
variable{P:Program}{mg:Str->Option Value}{base:Heap}{w:World}{K:W.Frag}
seal PE PA PS PSs PT PW PG PGs PI PO
local macro_rules|`(%[$xs,*|0])=>do let r:Lean.Term<-xs.getElems.foldrM (fun x (a:Lean.Term)=>`(Jaa $x $a)) (<-`(Jac));return r
local macro_rules|`(!$n:num)=>`(pe_ix ix_U (pv $n) Jad)
local macro_rules|`($k:num∘[$xs,*]∘$s)=>`(FnOk $(Lean.mkIdent `P) $(Lean.mkIdent `w) $(Lean.mkIdent `K) $(Lean.mkIdent `mg) $(Lean.mkIdent `base) (CX1 $(Lean.mkIdent `P) $(Lean.mkIdent `w)) $k $(Lean.mkIdent `f) $(Lean.mkIdent `fd) [$xs,*] $s)|`($k:num∘$n:str∘[$xs,*]∘$s)=>`(Cal $(Lean.mkIdent `P) $(Lean.mkIdent `w) $(Lean.mkIdent `K) $(Lean.mkIdent `mg) $(Lean.mkIdent `base) $k $n [$xs,*] [] $s)|`($k:num∘$n:str∘($c)∘[$xs,*]∘$s)=>`(MCal $(Lean.mkIdent `P) $(Lean.mkIdent `w) $(Lean.mkIdent `K) $(Lean.mkIdent `mg) $(Lean.mkIdent `base) $k $n $c [$xs,*] $s)|`($n:str∘$t:ident)=>`(FunD $(Lean.mkIdent `K) $n $n $t $(Lean.mkIdent `dV) $(Lean.mkIdent `f) $(Lean.mkIdent `fd))|`($n:str∘$q:str∘$t:ident)=>`(FunD $(Lean.mkIdent `K) $n $q $t $(Lean.mkIdent `dV) $(Lean.mkIdent `f) $(Lean.mkIdent `fd))
abbrev Baj:Stmt:=top 11
theorem JaQ:Jan ["one","other","greater","lesser","rest"] ["one","other"] (Jae Baj):=by bv_decide
def JaB  : Sp:=λvs H Q E=>∃(a b:Int),vs=[.int a, .int b]/\Q (.int (Mth.g a b)) H
theorem JdB(F:"common_divisor"∘Baj)(T:Txt K mg Ad)  : 1∘["one","other"]∘(JaB):=by
 show F.okn JaQ (by subst_eqs) (λp A d s H o Q E r h=>?_)
 let(a,b,rfl,h):=h;have k:=r.units;show(_,(Jab (Jaj 2 JaQ.nd (Jaw Jeb rfl T.BdX Jih %[pv 0|0])) (Jab (Jaj 3 JaQ.nd (Jaw Jeb rfl T.BdX Jih %[pv 1|0])) (Jab (Jdm PassesOwn.never (Jar (Jb5 k) (pv 3) Jad (Jav _)) (Jab (Jaj 4 JaQ.nd (pe_op JaI (pv 2) (pv 3))) (Jab (Jaj 2 JaQ.nd (pv 3)) (Jag (Jaj 3 JaQ.nd (pv 4)))))) (Jag (Jaq (pv 2)))))),?_)
 clear k;show tSeq _ _ _ [some (.int a),some (.int b),none,none,none] H;try mstop
 show(λm σ l=>∃(x y:Int)(z:Option V),σ=[some (.int a),some (.int b),some (.int x),some (.int y),z]/\l=H/\0<=x/\0<=y/\Mth.g x y=Mth.g a b/\y.toNat=m,⟨_,_,_,none,rfl,rfl,Mth.Jif a,Mth.Jif b,Mth.Bd2 a b,rfl⟩,?_);intro m σ l z_;let(x,y,z,rfl,rfl,t,n,j,rfl):=z_;try mstop
 by_cases c:y=0
 .subst c;rw[if_neg (by simp)];have e:Mth.g a b=x:=by rw[<- j,Mth.Jko];ac_nf
  rw[e]at h;show h
 .rw[if_pos (by simp[c])];have f:=Mth.fm (x:=x) (y:=y) ∅;show(_,λ_ _ q=>q,c,(x.fmod y).toNat,by ac_nf,y,x.fmod y,_,rfl,rfl,n,f.1,by rw[Mth.JiD ∅];show j,rfl)
abbrev BcW:Stmt:=top 12
theorem JfQ:Jan ["one","other","shared","top","rest"] ["one","other"] (Jae BcW):=by bv_decide
def JeQ(K:W.Frag):Sp:=λvs H Q E=>∃(x y:V)(a b c d:Int),vs=[x,y]/\FrV K H x a b/\FrV K H y c d/\Mth.Sz 4000 a/\Mth.Sz 4000 b/\Mth.Sz 4000 c/\Mth.Sz 4000 d/\1<=b/\1<=d/\Mth.g a b=1/\Mth.g c d=1/\∀ p H',Same H H'->H' p=some (.tup [.int (Mth.top (a*d+c*b) (b*d)), .int (Mth.bot (a*d+c*b) (b*d))])->Q (.ref p) H'
theorem Jlp(F:"plus"∘BcW)(T:Txt K mg Ad)(Bac:1∘"common_divisor"∘["one","other"]∘(JaB)):2∘["one","other"]∘(JeQ K):=by
 show F.okn JfQ (by subst_eqs) (λO A o s H N Q E z h=>?_)
 let(x,y,a,b,c,d,rfl,h):=h;show(_,(Jab (Jaj 2 JfQ.nd (Bac.ev z ⋯ rfl passF %[!0,!1|0])) (Jab (Jaj 3 JfQ.nd (pe_op Ja0 (pe_op JaV (!0) (pe_op Jau (!1) (pv 2))) (pe_op JaV (!1) (pe_op Jau (!0) (pv 2))))) (Jab (Jaj 4 JfQ.nd (Bac.ev z ⋯ rfl passF %[pv 3,pv 2|0])) (Jag (Jaq (JaE %[pe_op Jau (pv 3) (pv 4),pe_op JaV (pe_op Jau (!0) (pv 2)) (pe_op Jau (!1) (pv 4))|0])))))),?_)
 let(j,e,M,D,V,n,X,C,J,B,k):=h;show tSeq _ _ _ [some x,some y,none,none,none] H;try mstop
 show ixF1 j (ixF1 e ?_);try mstop
 show(_,_,rfl,?_);try mstop
 have Z:=Mth.g_pos (a:=b) (b:=d) ∅;have U:=Mth.JcI b d;have r:=Mth.JbW b d;have q:Mth.Sz 4000 (Mth.g b d):=Nat.lt_of_le_of_lt (by have:=Mth.g_le (a:=b) (b:=d) ∅;ac_nf:(Mth.g b d).natAbs<=d.natAbs) n;have l:DivOk (Mth.g b d):=divOk ∅ q;have v:=D.fdiv U ∅;have I:=n.fdiv r ∅;show ixF0 j (ixF1 e ?_);try mstop
 show(l,mulOk M I,ixF0 e (ixF1 j ?_));try mstop
 show(l,mulOk V v,?_);show(_,_,rfl,?_);have m:=Mth.JlC X C J B (s:=Mth.g b d) rfl rfl rfl;generalize ht:a*d.fdiv (Mth.g b d)+c*b.fdiv (Mth.g b d)=t at m ⊢;have Y:=Mth.g_pos (a:=t) (b:=Mth.g b d) ∅;have L:=Mth.JbW t (Mth.g b d);have W:Mth.Sz 4000 (Mth.g t (Mth.g b d)):=Nat.lt_of_le_of_lt (by have:=Mth.g_le (a:=t) (b:=Mth.g b d) ∅;ac_nf:(Mth.g t (Mth.g b d)).natAbs<=(Mth.g b d).natAbs) q;have u:DivOk (Mth.g t (Mth.g b d)):=divOk ∅ W;try mstop
 show(u,ixF1 j ?_);try mstop
 show(l,ixF1 e ?_);try mstop
 show(u,mulOk v (n.fdiv (Int.dvd_trans L r) ∅),len2,?_);show Jes λp G S R=>k p G S ?_;rw[R,m.1,m.2]
abbrev Bcc:Stmt:=top 13
theorem Jj5:Jan ["one","other"] ["one","other"] (Jae Bcc):=by bv_decide
def Jdr(K:W.Frag):Sp:=λvs H Q E=>∃(x y:V)(a b c d:Int),vs=[x,y]/\FrV K H x a b/\FrV K H y c d/\Mth.Sz 4000 a/\Mth.Sz 4000 b/\Mth.Sz 4000 c/\Mth.Sz 4000 d/\1<=b/\1<=d/\Mth.g a b=1/\Mth.g c d=1/\∀ p H',Same H H'->H' p=some (.tup [.int (Mth.top (a*d-c*b) (b*d)), .int (Mth.bot (a*d-c*b) (b*d))])->Q (.ref p) H'
theorem JjP(F:"minus"∘Bcc)(T:Txt K mg Ad)(Bca:2∘"plus"∘["one","other"]∘(JeQ K)):3∘["one","other"]∘(Jdr K):=by
 show F.okn Jj5 (by subst_eqs) (λv A e s H r Q E z h=>?_)
 let(x,y,a,b,c,d,rfl,h):=h;show(_,(Jag (Jaq (Bca.ev z ⋯ rfl passF %[pv 0,JaE %[pe_un Jgz (!1),!1|0]|0]))),?_);let(D,g,q,m,G,I,L,j,o,i,k):=h;show tRet _ _ [some x,some y] H;try mstop
 show ixF0 g ?_;try mstop
 show ixF1 g ?_;try mstop
 show(len2,?_);rename_i p u l H M S B;show(_,_,a,b, -c,d,rfl,D.same S,FrV.of B,q,m,G.neg,I,L,j,o,by rw[Mth.g_neg];show i,λJ t C n=>k J t (S.trans C) ?_);rw[n,Int.neg_mul, <- Int.sub_eq_add_neg]
abbrev Bcd:Stmt:=top 14
theorem JfR:Jan ["one","other","across","back"] ["one","other"] (Jae Bcd):=by bv_decide
def Jds(K:W.Frag):Sp:=λvs H Q E=>∃(x y:V)(a b c d:Int),vs=[x,y]/\FrV K H x a b/\FrV K H y c d/\Mth.Sz 4000 a/\Mth.Sz 4000 b/\Mth.Sz 4000 c/\Mth.Sz 4000 d/\1<=b/\1<=d/\Mth.g a b=1/\Mth.g c d=1/\∀ p H',Same H H'->H' p=some (.tup [.int (Mth.top (a*c) (b*d)), .int (Mth.bot (a*c) (b*d))])->Q (.ref p) H'
theorem JjR(F:"times"∘Bcd)(T:Txt K mg Ad)(Bac:1∘"common_divisor"∘["one","other"]∘(JaB)):2∘["one","other"]∘(Jds K):=by
 show F.okn JfR (by subst_eqs) (λM A l s H L Q E r h=>?_)
 let(x,y,a,b,c,d,rfl,h):=h;show(_,(Jab (Jaj 2 JfR.nd (Bac.ev r ⋯ rfl passF %[!0,!1|0])) (Jab (Jaj 3 JfR.nd (Bac.ev r ⋯ rfl passF %[!1,!0|0])) (Jag (Jaq (JaE %[pe_op JaV (pe_op Jau (!0) (pv 2)) (pe_op Jau (!1) (pv 3)),pe_op JaV (pe_op Jau (!0) (pv 3)) (pe_op Jau (!1) (pv 2))|0]))))),?_)
 let(j,e,J,m,R,t,W,B,I,z,k):=h;show tSeq _ _ _ [some x,some y,none,none] H;try mstop
 show ixF0 j (ixF1 e ?_);try mstop
 show(_,_,rfl,?_);show ixF0 e (ixF1 j ?_);try mstop
 show(_,_,rfl,?_);try mstop
 have Y:=Mth.g_pos (a:=a) (b:=d) ∅;have X:=Mth.g_pos (a:=c) (b:=b) ∅;have N:=Mth.JcI a d;have U:=Mth.JbW a d;have G:=Mth.JcI c b;have C:=Mth.JbW c b;have V:Mth.Sz 4000 (Mth.g a d):=Nat.lt_of_le_of_lt (by have:=Mth.g_le (a:=a) (b:=d) ∅;ac_nf:(Mth.g a d).natAbs<=d.natAbs) t;have vl:Mth.Sz 4000 (Mth.g c b):=Nat.lt_of_le_of_lt (by have:=Mth.g_le (a:=c) (b:=b) ∅;ac_nf:(Mth.g c b).natAbs<=b.natAbs) m;have q:DivOk (Mth.g a d):=divOk ∅ V;have n:DivOk (Mth.g c b):=divOk ∅ vl;have o:=Mth.Jj8 W B I z (u:=Mth.g a d) (v:=Mth.g c b) rfl rfl;show ixF0 j ?_;try mstop
 show(q,ixF0 e ?_);try mstop
 show(n,mulOk (J.fdiv N ∅) (R.fdiv G ∅),ixF1 j ?_);try mstop
 show(n,ixF1 e ?_);try mstop
 show(q,mulOk (m.fdiv C ∅) (t.fdiv U ∅),len2,?_);show Jes λp D S O=>k p D S ?_;rw[O,o.1,o.2]
abbrev BcX:Stmt:=top 15
theorem JlH:Jan ["one","other"] ["one","other"] (Jae BcX):=by bv_decide
def JfV(K:W.Frag)(Ad:Adr):Sp:=λvs H Q E=>∃(x y:V)(a b c d:Int),vs=[x,y]/\FrV K H x a b/\FrV K H y c d/\Mth.Sz 4000 a/\Mth.Sz 4000 b/\Mth.Sz 4000 c/\Mth.Sz 4000 d/\1<=b/\1<=d/\Mth.g a b=1/\Mth.g c d=1/\(c=0->E (.ref Ad.NoNumber) none H)/\(c≠0->∀ p H',Same H H'->H' p=some (.tup [.int (Mth.top (a*d) (b*c)), .int (Mth.bot (a*d) (b*c))])->Q (.ref p) H')
theorem Jlo(F:"over"∘BcX)(T:Txt K mg Ad)(Bbs:2∘"times"∘["one","other"]∘(Jds K)):3∘["one","other"]∘(JfV K Ad):=by
 show F.okx JlH (λR H Q E h=>?_) (λU A u s H R Q E o h=>?_)
 .let(x,y,a,b,c,d,rfl,_):=h;rfl
 let(x,y,a,b,c,d,rfl,h):=h;have I:=o.units;show(_,(Jab (ps_if (Jar (JbO I) (!1) Jad (Jav _)) (Jag (JfI PySem.F.excBase_ValueError T.x_NoNumber rfl T.m_NoNumber %[Jc1|0]))
   Jat) (Jab (ps_if (Jar JdR (!1) Jad (Jav _)) (Jag (Jaq (Bbs.ev o ⋯ rfl pass1 %[pv 0,JaE %[pe_un Jgz (!1),pe_un Jgz (!1)|0]|0])))
   Jat) (Jag (Jaq (Bbs.ev o ⋯ rfl pass1 %[pv 0,JaE %[!1,!1|0]|0]))))),?_)
 clear I;let(J,g,G,C,L,M,N,W,D,B,V,k):=h;show tSeq _ _ _ [some x,some y] H;try mstop
 show ixF0 g ?_;try mstop
 by_cases i:c=0
 .rw[if_pos (by simpa using i)];try mstop
  show(by decide,V i)
 .rw[if_neg (by simpa using i)];show ixF0 g ?_;try mstop
  by_cases z:c<0
  .rw[if_pos (by simpa using z)];show ixF1 g ?_;try mstop
   show ixF0 g ?_;try mstop
   show(len2,?_);rename_i p n j H O S q;show(_,_,a,b, -d, -c,rfl,J.same S,FrV.of q,G,C,M.neg,L.neg,N,by ac_nf,D,by rw[Mth.g_neg,Mth.JlZ,Mth.Jkn];show B,λv m r l=>k i v m (S.trans r) ?_);have e:=Mth.Jlj (t:=a*d) (b:=b*c) (Int.mul_neg_of_pos_of_neg ∅ z);rw[l,Int.mul_neg,Int.mul_neg,e.1,e.2]
  .rw[if_neg (by simpa using z)];show ixF1 g ?_;try mstop
   show ixF0 g ?_;try mstop
   show(len2,?_);rename_i p n j H O S q;show(_,_,a,b,d,c,rfl,J.same S,FrV.of q,G,C,M,L,N,by ac_nf,D,by rw[Mth.Jkn];show B,λv m r l=>k i v m (S.trans r) l)
abbrev Bce:Stmt:=top 16
theorem Jj6:Jan ["one","other"] ["one","other"] (Jae Bce):=by bv_decide
def Jb3(K:W.Frag):Sp:=λvs H Q E=>∃(x y:V)(a b c d:Int),vs=[x,y]/\FrV K H x a b/\FrV K H y c d/\Mth.Sz 4000 a/\Mth.Sz 4000 b/\Mth.Sz 4000 c/\Mth.Sz 4000 d/\Q (.bl (decide (a*d<c*b))) H
theorem JjS(F:"under"∘Bce)(T:Txt K mg Ad)  : 1∘["one","other"]∘(Jb3 K):=by
 show F.okn Jj6 (by subst_eqs) (λn A e s H m Q E q h=>?_)
 let(x,y,a,b,c,d,rfl,h):=h;show(_,(Jag (Jaq (JbD JdR (pe_op JaV (!0) (!1)) (pe_op JaV (!1) (!0)) (Jav _)))),?_);let(i,g,l,j,o,p,k):=h;show tRet _ _ [some x,some y] H;cbv;show ixF0 i (ixF1 g ?_);cbv;show(mulOk l p,ixF0 g (ixF1 i ?_));cbv;show(mulOk o j,k)
abbrev BbC:Stmt:=top 22
theorem Jh5:Jan ["thing"] ["thing"] (Jae BbC):=by bv_decide
def Jcr(K:W.Frag):Sp:=λvs H Q E=>∃(z:Str),vs=[.str z]/\nameS z=true/\∀ H',Same H H'->Q (.bl true) H'
theorem JhY(F:"is_name"∘BbC)(T:Txt K mg Ad)  : 1∘["thing"]∘(Jcr K):=by
 show F.okn Jh5 (by subst_eqs) (λu A g s H t Q E I h=>?_)
 let(z,rfl,h):=h;show(_,(Jab (ps_if (JbB (Ja1 (Jaw JaW rfl T.BaL Jbc %[pv 0,JdE (v:=.ty "str") rfl T.Bd7 JlT rfl|0]))) (Jag (Jaq pe_bl))
   Jat) (Jab (ps_if (PW.pt (pw_or (Jar JdR (Jaw Jay rfl T.Bba Ja8 %[pv 0|0]) Jad (Jav _)) (JcJ (Jar JeC (Jaw Jay rfl T.Bba Ja8 %[pv 0|0]) (Jcv (v:=.int 8) rfl T.BcS T.BcT) (Jav _))))) (Jag (Jaq pe_bl))
   Jat) (Jag (Jaq (Jaw (Jij rfl) rfl T.Bd8 JlR %[JcM (JaY (own:=["sign"]) (cs:=[]) rfl (Jmm (pv 0)) (λ_ _ _ _=>(Jap 0 (show[("sign" : Str)].Nodup by decide))) (λ_ _ _ _=>JbE) (λ_ _ _ _=>(JbD (Jks (K:=K) rfl) (pv 0) (Jcv (v:=.str "abcdefghijklmnopqrstuvwxyz") rfl T.Bcq T.Bcr) (by with_unfolding_all rfl))) (Jbk rfl) ⋯ rfl ⋯ hcs0)|0]))))),?_)
 let(b,k):=h;show tSeq _ _ _ [some (.str z)] H;cbv;have y:=len8 b;have n:z.length<=sizeLine:=Nat.le_trans y ⋯;unfold nameS at b;simp only[Bool.and_eq_true,decide_eq_true_eq]at b;let((D,L),a):=b
 mframe;show(n,?_);cbv;rw[if_neg (by simp;ac_nf)];cbv;show(n,?_);cbv;rw[if_neg (by simp;ac_nf)];cbv;cbv;simpa only[tComp,iStr];show(λi m l d=>d=H/\i<=z.cps.size/\m=z.cps.size-i/\l=(z.cps.toList.take i).map λc=>V.bl (lowB c),⟨_,rfl,Nat.zero_le _,rfl,by simp⟩,?_);rintro i m l d ⟨rfl,M,rfl,rfl⟩;have C:z.cps.size=z.length:=rfl;show(by simp;ac_nf,?_);by_cases j:i<z.cps.size
 .show .inr ⟨j,?_⟩;rintro x o ⟨rfl,c,r,rfl⟩;simpa only[length_singleton,List.replicate,Jaz,map_nil,y5ey,JhR];show(_,Nat.sub_lt_sub_left j (Nat.lt_succ_self i),j,rfl,?_);have e:z.cps.toList[i]?=some c:=by simpa using r
  rw[take_succ,e];simp
 .have q:i=z.cps.size:=by ac_nf
  show .inl ⟨q,?_⟩;subst q;rw[take_of_length_le (by simp)];rename_i p J G d o S B;show(p,z.cps.toList.map lowB,rfl,SqL.of (by rw[B,map_map];rfl),?_);have:=k o S;simpa[List.all_map,a]using this
abbrev Bbc:Stmt:=top 23
theorem Jg6:Jan ["thing"] ["thing"] (Jae Bbc):=by bv_decide
def JcB(K:W.Frag):Sp:=λvs H Q E=>∃(i:Int),vs=[.int i]/\Q (.bl true) H
theorem JgU(F:"is_whole"∘Bbc)(T:Txt K mg Ad)  : 1∘["thing"]∘(JcB K):=by
 show F.okn Jg6 (by subst_eqs) (λb A a s H c Q E d h=>?_)
 let(i,rfl,h):=h;show(_,(Jag (Jaq (JcL (Jaw JaW rfl T.BaL Jbc %[pv 0,JdE (v:=.ty "int") rfl T.Bd6 JlS rfl|0]) (JdT (JhA (Jaw JaW rfl T.BaL Jbc %[pv 0,JdE (v:=.ty "bool") rfl T.Bd3 JkV rfl|0])))))),?_);show tRet _ _ [some (.int i)] H;cbv;show h
abbrev BaE:Stmt:=top 24
theorem Je1:Jan ["thing"] ["thing"] (Jae BaE):=by bv_decide
def JbN(K:W.Frag):Sp:=λvs H Q E=>∃(x:V)(a b:Int),vs=[x]/\FrV K H x a b/\1<=b/\Mth.g a b=1/\Q (.bl true) H
theorem JeW(F:"is_fraction"∘BaE)(T:Txt K mg Ad)(Ba0:1∘"is_whole"∘["thing"]∘(JcB K))(Bac:1∘"common_divisor"∘["one","other"]∘(JaB)):2∘["thing"]∘(JbN K):=by
 show F.okn Je1 (by subst_eqs) (λj A g s H i Q E d h=>?_)
 let(x,a,b,rfl,h):=h;have e:=d.units;show(_,(Jab (ps_if (PW.pt (pw_or (JbB (Ja1 (Jaw JaW rfl T.BaL Jbc %[pv 0,JdE (v:=.ty "tuple") rfl T.Bds Jfi rfl|0]))) (JcJ (Jar (Jb5 e) (Jaw Jay rfl T.Bba Ja8 %[pv 0|0]) Jad (Jav _))))) (Jag (Jaq pe_bl))
   Jat) (Jab (ps_if (PW.pt (pw_or (JbB (Ja1 (Ba0.ev d ⋯ rfl passF %[!0|0]))) (JcJ (JbB (Ja1 (Ba0.ev d ⋯ rfl passF %[!0|0])))))) (Jag (Jaq pe_bl))
   Jat) (Jag (Jaq (JcL (JbD Jkr (!0) Jad (Jav _)) (JdT (JbD (JbO e) (Bac.ev d ⋯ rfl passF %[!0,!0|0]) Jad (Jav _)))))))),?_)
 clear e;let((p,rfl,c),l,m,k):=h;show tSeq _ _ _ [some (.ref p)] H;cbv;show(_, .inr ⟨rfl,_,c⟩,?_)
 mframe;show(_, .inr c,?_);simpa only[length_cons,length_nil]
 (rw[if_neg (by simp)])
 cbv;show ixT0 c ?_;show(a,rfl,?_);cbv;show ixT1 c ?_;show(b,rfl,?_);cbv;show ixT1 c ?_;cbv;rw[if_pos (by simpa using l)];cbv;show ixT0 c (ixT1 c ?_);show(_,_,rfl,?_);cbv;simpa[m]using k
abbrev Bbd:Stmt:=top 25
theorem Jg5:Jan ["thing"] ["thing"] (Jae Bbd):=by bv_decide
def Jc9(K:W.Frag):Sp:=λvs H Q E=>∃(x:V)(a b:Int),vs=[x]/\FrV K H x a b/\1<=b/\Mth.g a b=1/\Q (.bl true) H
theorem JgT(F:"is_bound"∘Bbd)(T:Txt K mg Ad)(Bar:2∘"is_fraction"∘["thing"]∘(JbN K)):3∘["thing"]∘(Jc9 K):=by
 show F.okn Jg5 (by subst_eqs) (λg A c s H e Q E i h=>?_)
 let(x,a,b,rfl,h):=h;show(_,(Jag (Jaq (pe_or (JbD JeD (pv 0) Jcp (Jav _)) (JdT (Bar.ev i ⋯ rfl passF %[pv 0|0]))))),?_);let(d,j,m,k):=h;show tRet _ _ [some x] H;cbv;have l:x≠.non:=by
  let(p,rfl,_):=d;intro z;cases z
 rw[if_neg (by simpa using l)];cbv;show(x,a,b,rfl,d,j,m,k)
abbrev Ba1:Stmt:=top 26
theorem Jgu:Jan ["one","other"] ["one","other"] (Jae Ba1):=by bv_decide
def Jcg(K:W.Frag):Sp:=λvs H Q E=>∃(z w:Str),vs=[.str z, .str w]/\nameS z=true/\nameS w=true/\z≠w/\∀ H',Same H H'->Q (.bl true) H'
theorem Jgj(F:"are_faces"∘Ba1)(T:Txt K mg Ad)(BaK:1∘"is_name"∘["thing"]∘(Jcr K)):2∘["one","other"]∘(Jcg K):=by
 show F.okn Jgu (by subst_eqs) (λl A b s H i Q E a h=>?_)
 let(z,w,rfl,h):=h;have c:=a.units;show(_,(Jag (Jaq (JcL (BaK.ev a ⋯ rfl passF %[pv 0|0]) (JcL (BaK.ev a ⋯ rfl passF %[pv 1|0]) (JdT (JbD (Jb5 c) (pv 0) (pv 1) (Jav _))))))),?_);clear c;let(d,m,g,k):=h;show tRet _ _ [some (.str z),some (.str w)] H;cbv;show(z,rfl,d,λo e=>?_);cbv;show(w,rfl,m,λj n=>?_);cbv;have:=k j (e.trans n);simpa[g]using this
abbrev BaM:Stmt:=top 27
theorem JfM:Jan ["least","greatest"] ["least","greatest"] (Jae BaM):=by bv_decide
def Jcz(K:W.Frag):Sp:=λvs H Q E=>∃(x y:V)(a b:Int × Int),vs=[x,y]/\FrV K H x a.1 a.2/\FrV K H y b.1 b.2/\FOk 600 a/\FOk 600 b/\¬ b.1*a.2<a.1*b.2/\Q (.bl true) H
theorem Jfv(F:"are_bounds"∘BaM)(T:Txt K mg Ad)(Bb0:3∘"is_bound"∘["thing"]∘(Jc9 K))(Bai:1∘"under"∘["one","other"]∘(Jb3 K)):4∘["least","greatest"]∘(Jcz K):=by
 show F.okn JfM (by subst_eqs) (λn A j s H m Q E g h=>?_)
 let(x,y,a,b,rfl,h):=h;show(_,(Jab (ps_if (PW.pt (pw_or (JbB (Ja1 (Bb0.ev g ⋯ rfl passF %[pv 0|0]))) (JcJ (JbB (Ja1 (Bb0.ev g ⋯ rfl passF %[pv 1|0])))))) (Jag (Jaq pe_bl))
   Jat) (Jab (ps_if (PW.pt (pw_or (Jar JeD (pv 0) Jcp (Jav _)) (JcJ (Jar JeD (pv 1) Jcp (Jav _))))) (Jag (Jaq pe_bl))
   Jat) (Jag (Jaq (JhA (Bai.ev g ⋯ rfl passF %[pv 1,pv 0|0])))))),?_)
 let(i,e,d,c,l,k):=h;show tSeq _ _ _ [some x,some y] H;cbv;show(x,_,_,rfl,i,d.b1,d.g1,?_);cbv;show(y,_,_,rfl,e,c.b1,c.g1,?_);cbv;have q:x≠.non:=by
  let(p,rfl,_):=i;intro z;cases z
 have o:y≠.non:=by
  let(p,rfl,_):=e;intro z;cases z
 rw[if_neg (by simpa using q),if_neg (by simpa using o)];cbv;cbv;show(y,x,_,_,_,_,rfl,e,i,c.s1.mono ⋯,c.s2.mono ⋯,d.s1.mono ⋯,d.s2.mono ⋯,?_);cbv;simpa[l]using k
abbrev Bb1:Stmt:=top 28
theorem Jjb:Jan ["thing"] ["thing"] (Jae Bb1):=by bv_decide
def JeP(K:W.Frag):Sp:=λvs H Q E=>∃(x:V)(g:GD),vs=[x]/\TV K H g.td x/\TOk g.td/\∀ H',Same H H'->Q (.bl true) H'
theorem JiR(F:"is_tie"∘Bb1)(T:Txt K mg Ad)(BaK:1∘"is_name"∘["thing"]∘(Jcr K))(Ba2:2∘"are_faces"∘["one","other"]∘(Jcg K))(BbR:4∘"are_bounds"∘["least","greatest"]∘(Jcz K)):5∘["thing"]∘(JeP K):=by
 show F.okn Jjb (by subst_eqs) (λt A l s H q Q E e h=>?_)
 let(x,g,rfl,h):=h;have p:=e.units;show(_,(Jab (ps_if (PW.pt (pw_or (JbB (Ja1 (Jaw JaW rfl T.BaL Jbc %[pv 0,JdE (v:=.ty "tuple") rfl T.Bds Jfi rfl|0]))) (JcJ (Jar (Jb5 p) (Jaw Jay rfl T.Bba Ja8 %[pv 0|0]) Jad (Jav _))))) (Jag (Jaq pe_bl))
   Jat) (Jag (Jaq (JcL (BaK.ev e ⋯ rfl passF %[!0|0]) (JcL (Ba2.ev e ⋯ rfl passF %[!0,!0|0]) (JdT (BbR.ev e ⋯ rfl passF %[!0,!0|0]))))))),?_)
 clear p;let((a,vl,o,rfl,c,m,n),d,k):=h;replace m:FrV K H vl g.lo.1 g.lo.2:=m;replace n:FrV K H o g.hi.1 g.hi.2:=n;show tSeq _ _ _ [some (.ref a)] H;cbv;show(_, .inr ⟨rfl,_,c⟩,?_)
 mframe;show(_, .inr c,?_);simpa only[length_cons,length_nil]
 (rw[if_neg (by simp)])
 cbv;show ixT (i:=0) c rfl ?_;show(g.nm,rfl,d.n1,λy j=>?_);cbv;show ixT (i:=1) (c.same j) rfl ?_;show ixT (i:=2) (c.same j) rfl ?_;show(g.st,g.en,rfl,d.n2,d.n3,d.ne,λr u=>?_);cbv;have b:=j.trans u;show ixT (i:=3) (c.same b) rfl ?_;show ixT (i:=4) (c.same b) rfl ?_;show(vl,o,g.lo,g.hi,rfl,m.same b,n.same b,d.lo _ rfl,d.hi _ rfl,?_,k r b);have this : decide (g.hi.1*g.lo.2<g.lo.1*g.hi.2)=false:=d.le;simpa using this
abbrev Bap:Stmt:=inClass (top 46) 0
theorem JdZ:Jan ["self","row"] ["self","row"] (Jae Bap):=by bv_decide
def JbR(K:W.Frag):Sp:=λvs H Q E=>∃(x C dx a:Addr)(n st en z m wt:V),vs=[.ref x, .ref a]/\H x=some (.ins C dx [])/\PartC K C/\SqT K H a [n,st,en,z,m,wt]/\∀ H',H' x=some (.ins C dx (partF n st en z m wt))->(∀ b,b≠x->H' b=H b)->Q .non H'
theorem JdX(F:"__init__"∘"Part.__init__"∘Bap)(T:Txt K mg Ad)  : 1∘["self","row"]∘(JbR K):=by
 show F.okn JdZ (by subst_eqs) (λU A y s H O Q E Y h=>?_)
 let(x,C,d,a,n,g,j,z,m,v,rfl,h):=h;show(_,(Jab (Ja5 (pv 0) (!1) rfl) (Jab (Ja5 (pv 0) (!1) rfl) (Jab (Ja5 (pv 0) (!1) rfl) (Jab (Ja5 (pv 0) (!1) rfl) (Jab (Ja5 (pv 0) (!1) rfl) (Jag (Ja5 (pv 0) (!1) rfl))))))),?_)
 let(D,e,t,k):=h;show tSeq _ _ _ [some (.ref x),some (.ref a)] H;mexact;show ixT (i:=0) t rfl ?_;mexact;show(x,C,d,_,rfl,D,e.cls,e.n1,by simp,?_);have o:=SqT.put (fs':=putF "name" n []) D t;generalize u0:upd H x _=H1 at o ⊢;mexact;have G:H1 x=some (.ins C d [("name",n)]):=by rw[<- u0];show Jam.trans rfl
 have V:∀ b,b≠x->H1 b=H b:=λb c=>by rw[<- u0,Jah c]
 mexact;show ixT (i:=1) o rfl ?_;mexact;show(x,C,d,_,rfl,G,e.cls,e.n2,by simp,?_);have r:=SqT.put (fs':=putF "start" g [("name",n)]) G o;generalize u1:upd H1 x _=H2 at r ⊢;mexact;have B:H2 x=some (.ins C d [("name",n),("start",g)]):=by rw[<- u1];show Jam.trans rfl
 have N:∀ b,b≠x->H2 b=H1 b:=λb c=>by rw[<- u1,Jah c]
 mexact;show ixT (i:=2) r rfl ?_;mexact;show(x,C,d,_,rfl,B,e.cls,e.n3,by simp,?_);have p:=SqT.put (fs':=putF "end" j [("name",n),("start",g)]) B r;generalize u2:upd H2 x _=H3 at p ⊢;mexact;have L:H3 x=some (.ins C d [("name",n),("start",g),("end",j)]):=by rw[<- u2];show Jam.trans rfl
 have R:∀ b,b≠x->H3 b=H2 b:=λb c=>by rw[<- u2,Jah c]
 mexact;show ixT (i:=3) p rfl ?_;mexact;show(x,C,d,_,rfl,L,e.cls,e.n4,by simp,?_);have q:=SqT.put (fs':=putF "size" z [("name",n),("start",g),("end",j)]) L p;generalize u3:upd H3 x _=H4 at q ⊢;mexact;have J:H4 x=some (.ins C d [("name",n),("start",g),("end",j),("size",z)]):=by rw[<- u3];show Jam.trans rfl
 have W:∀ b,b≠x->H4 b=H3 b:=λb c=>by rw[<- u3,Jah c]
 mexact;show ixT (i:=4) q rfl ?_;mexact;show(x,C,d,_,rfl,J,e.cls,e.n5,by simp,?_);have l:=SqT.put (fs':=putF "most" m [("name",n),("start",g),("end",j),("size",z)]) J q;generalize u4:upd H4 x _=H5 at l ⊢;mexact;have I:H5 x=some (.ins C d [("name",n),("start",g),("end",j),("size",z),("most",m)]):=by rw[<- u4];show Jam.trans rfl
 have M:∀ b,b≠x->H5 b=H4 b:=λb c=>by rw[<- u4,Jah c]
 mexact;show ixT (i:=5) l rfl ?_;mexact;show(x,C,d,_,rfl,I,e.cls,e.n6,by simp,?_);have u:=SqT.put (fs':=putF "weight" v [("name",n),("start",g),("end",j),("size",z),("most",m)]) I l;generalize u5:upd H5 x _=H6 at u ⊢;mexact;have S:H6 x=some (.ins C d [("name",n),("start",g),("end",j),("size",z),("most",m),("weight",v)]):=by rw[<- u5];show Jam.trans rfl
 have X:∀ b,b≠x->H6 b=H5 b:=λb c=>by rw[<- u5,Jah c]
 mexact;show k H6 S λb c=>by rw[X b c,M b c,W b c,R b c,N b c,V b c]
abbrev BaN:Stmt:=inClass (top 46) 1
theorem JfK:Jan ["self"] ["self"] (Jae BaN):=by bv_decide
def Jcy(K:W.Frag)(Ad:Adr):Sp:=λvs H Q E=>∃(p dx:Addr)(n st en z m wt:V),vs=[.ref p]/\H p=some (.ins Ad.Part dx (partF n st en z m wt))/\∀ q H',Same H H'->H' q=some (.tup [n,st,en,z,m,wt])->Q (.ref q) H'
theorem Jfs(F:"plain"∘"Part.plain"∘BaN)(T:Txt K mg Ad)  : 1∘["self"]∘(Jcy K Ad):=by
 show F.okn JfK (by subst_eqs) (λr A d s H o Q E t h=>?_)
 let(p,b,n,g,i,z,m,j,rfl,h):=h;show(_,(Jag (Jaq (JaE %[Jas (pv 0) rfl,Jas (pv 0) rfl,Jas (pv 0) rfl,Jas (pv 0) rfl,Jas (pv 0) rfl,Jas (pv 0) rfl|0]))),?_);let(c,k):=h;have a:=T.BcV Ad.Part rfl;show tRet _ _ [some (.ref p)] H;mleave;show(p,_,b,_,n,rfl,c,a.cls,a.n1,rfl,?_);show(p,_,b,_,g,rfl,c,a.cls,a.n2,rfl,?_);show(p,_,b,_,i,rfl,c,a.cls,a.n3,rfl,?_);show(p,_,b,_,z,rfl,c,a.cls,a.n4,rfl,?_);show(p,_,b,_,m,rfl,c,a.cls,a.n5,rfl,?_);show(p,_,b,_,j,rfl,c,a.cls,a.n6,rfl,?_);mleave;show(by show 6<=sizeLine;decide,?_);show Jes λq l S e=>k q l S e
abbrev Bat:Stmt:=inClass (top 47) 0
theorem JeJ:Jan ["self","row"] ["self","row"] (Jae Bat):=by bv_decide
def Jb9(K:W.Frag):Sp:=λvs H Q E=>∃(x C dx a:Addr)(n st en l g:V),vs=[.ref x, .ref a]/\H x=some (.ins C dx [])/\GapC K C/\SqT K H a [n,st,en,l,g]/\∀ H',H' x=some (.ins C dx (gapF n st en l g))->(∀ b,b≠x->H' b=H b)->Q .non H'
theorem Jev(F:"__init__"∘"Gap.__init__"∘Bat)(T:Txt K mg Ad)  : 1∘["self","row"]∘(Jb9 K):=by
 show F.okn JeJ (by subst_eqs) (λN A v s H L Q E U h=>?_)
 let(x,C,d,a,n,j,m,l,g,rfl,h):=h;show(_,(Jab (Ja5 (pv 0) (!1) rfl) (Jab (Ja5 (pv 0) (!1) rfl) (Jab (Ja5 (pv 0) (!1) rfl) (Jab (Ja5 (pv 0) (!1) rfl) (Jag (Ja5 (pv 0) (!1) rfl)))))),?_)
 let(z,e,t,k):=h;show tSeq _ _ _ [some (.ref x),some (.ref a)] H;mexact;show ixT (i:=0) t rfl ?_;mexact;show(x,C,d,_,rfl,z,e.cls,e.n1,by simp,?_);have o:=SqT.put (fs':=putF "name" n []) z t;generalize u0:upd H x _=H1 at o ⊢;mexact;have B:H1 x=some (.ins C d [("name",n)]):=by rw[<- u0];show Jam.trans rfl
 have O:∀ b,b≠x->H1 b=H b:=λb c=>by rw[<- u0,Jah c]
 mexact;show ixT (i:=1) o rfl ?_;mexact;show(x,C,d,_,rfl,B,e.cls,e.n2,by simp,?_);have r:=SqT.put (fs':=putF "one" j [("name",n)]) B o;generalize u1:upd H1 x _=H2 at r ⊢;mexact;have y:H2 x=some (.ins C d [("name",n),("one",j)]):=by rw[<- u1];show Jam.trans rfl
 have J:∀ b,b≠x->H2 b=H1 b:=λb c=>by rw[<- u1,Jah c]
 mexact;show ixT (i:=2) r rfl ?_;mexact;show(x,C,d,_,rfl,y,e.cls,e.n3,by simp,?_);have p:=SqT.put (fs':=putF "other" m [("name",n),("one",j)]) y r;generalize u2:upd H2 x _=H3 at p ⊢;mexact;have G:H3 x=some (.ins C d [("name",n),("one",j),("other",m)]):=by rw[<- u2];show Jam.trans rfl
 have M:∀ b,b≠x->H3 b=H2 b:=λb c=>by rw[<- u2,Jah c]
 mexact;show ixT (i:=3) p rfl ?_;mexact;show(x,C,d,_,rfl,G,e.cls,e.n4,by simp,?_);have q:=SqT.put (fs':=putF "low" l [("name",n),("one",j),("other",m)]) G p;generalize u3:upd H3 x _=H4 at q ⊢;mexact;have D:H4 x=some (.ins C d [("name",n),("one",j),("other",m),("low",l)]):=by rw[<- u3];show Jam.trans rfl
 have S:∀ b,b≠x->H4 b=H3 b:=λb c=>by rw[<- u3,Jah c]
 mexact;show ixT (i:=4) q rfl ?_;mexact;show(x,C,d,_,rfl,D,e.cls,e.n5,by simp,?_);have u:=SqT.put (fs':=putF "high" g [("name",n),("one",j),("other",m),("low",l)]) D q;generalize u4:upd H4 x _=H5 at u ⊢;mexact;have R:H5 x=some (.ins C d [("name",n),("one",j),("other",m),("low",l),("high",g)]):=by rw[<- u4];show Jam.trans rfl
 have I:∀ b,b≠x->H5 b=H4 b:=λb c=>by rw[<- u4,Jah c]
 mexact;show k H5 R λb c=>by rw[I b c,S b c,M b c,J b c,O b c]
abbrev Ba3:Stmt:=inClass (top 47) 1
theorem Jgs:Jan ["self"] ["self"] (Jae Ba3):=by bv_decide
def JcQ(K:W.Frag)(Ad:Adr):Sp:=λvs H Q E=>∃(p dx:Addr)(n st en l g:V),vs=[.ref p]/\H p=some (.ins Ad.Gap dx (gapF n st en l g))/\∀ q H',Same H H'->H' q=some (.tup [n,st,en,l,g])->Q (.ref q) H'
theorem Jgh(F:"plain"∘"Gap.plain"∘Ba3)(T:Txt K mg Ad)  : 1∘["self"]∘(JcQ K Ad):=by
 show F.okn Jgs (by subst_eqs) (λr A d s H o Q E t h=>?_)
 let(p,b,n,i,j,l,g,rfl,h):=h;show(_,(Jag (Jaq (JaE %[Jas (pv 0) rfl,Jas (pv 0) rfl,Jas (pv 0) rfl,Jas (pv 0) rfl,Jas (pv 0) rfl|0]))),?_);let(c,k):=h;have a:=T.BdK Ad.Gap rfl;show tRet _ _ [some (.ref p)] H;mleave;show(p,_,b,_,n,rfl,c,a.cls,a.n1,rfl,?_);show(p,_,b,_,i,rfl,c,a.cls,a.n2,rfl,?_);show(p,_,b,_,j,rfl,c,a.cls,a.n3,rfl,?_);show(p,_,b,_,l,rfl,c,a.cls,a.n4,rfl,?_);show(p,_,b,_,g,rfl,c,a.cls,a.n5,rfl,?_);mleave;show(by show 5<=sizeLine;decide,?_);show Jes λq m S e=>k q m S e
abbrev BbD:Stmt:=top 44
theorem Jh6:Jan ["thing"] ["thing"] (Jae BbD):=by bv_decide
def JdJ(K:W.Frag):Sp:=λvs H Q E=>∃(x:V)(p:PD),vs=[x]/\PDV K H p x/\POk p/\∀ H',Same H H'->Q (.bl true) H'
theorem JhZ(F:"is_part"∘BbD)(T:Txt K mg Ad)(BaK:1∘"is_name"∘["thing"]∘(Jcr K))(Ba2:2∘"are_faces"∘["one","other"]∘(Jcg K))(Bar:2∘"is_fraction"∘["thing"]∘(JbN K))(Ba0:1∘"is_whole"∘["thing"]∘(JcB K))(Bai:1∘"under"∘["one","other"]∘(Jb3 K)):5∘["thing"]∘(JdJ K):=by
 show F.okn Jh6 (by subst_eqs) (λt A j s H q Q E e h=>?_)
 let(x,p,rfl,h):=h;have n:=e.units;show(_,(Jab (ps_if (PW.pt (pw_or (JbB (Ja1 (Jaw JaW rfl T.BaL Jbc %[pv 0,JdE (v:=.ty "tuple") rfl T.Bds Jfi rfl|0]))) (JcJ (Jar (Jb5 n) (Jaw Jay rfl T.Bba Ja8 %[pv 0|0]) Jad (Jav _))))) (Jag (Jaq pe_bl))
   Jat) (Jab (ps_if (PW.pt (pw_or (JbB (Ja1 (BaK.ev e ⋯ rfl passF %[!0|0]))) (JcJ (JbB (Ja1 (Ba2.ev e ⋯ rfl passF %[!0,!0|0])))))) (Jag (Jaq pe_bl))
   Jat) (Jab (ps_if (PW.pt (pw_or (JbB (Ja1 (Bar.ev e ⋯ rfl passF %[!0|0]))) (pw_or (JbB (Ja1 (Bar.ev e ⋯ rfl passF %[!0|0]))) (JcJ (JbB (Ja1 (Ba0.ev e ⋯ rfl passF %[!0|0]))))))) (Jag (Jaq pe_bl))
   Jat) (Jag (Jaq (JcL (JhA (Bai.ev e ⋯ rfl passF %[!0,Jcv (v:=.ref _) rfl T.Bcs T.Bct|0])) (JdT (JbD Jkr (!0) Jad (Jav _))))))))),?_)
 clear n;let((a,y,l,rfl,d,B,o),c,k):=h;show tSeq _ _ _ [some (.ref a)] H;cbv;show(_, .inr ⟨rfl,_,d⟩,?_)
 mframe;show(_, .inr d,?_);simpa only[length_cons,length_nil]
 (rw[if_neg (by simp)])
 cbv;show ixT (i:=0) d rfl ?_;show(p.nm,rfl,c.n1,λC g=>?_);cbv;show ixT (i:=1) (d.same g) rfl ?_;show ixT (i:=2) (d.same g) rfl ?_;show(p.st,p.en,rfl,c.n2,c.n3,c.ne,λr u=>?_);cbv;have b:=g.trans u;show ixT (i:=3) (d.same b) rfl ?_;show(y,_,_,rfl,B.same b,c.z.b1,c.z.g1,?_);cbv;show ixT (i:=4) (d.same b) rfl ?_;show(l,_,_,rfl,o.same b,c.m.b1,c.m.g1,?_);cbv;show ixT (i:=5) (d.same b) rfl ?_;show(p.wt,rfl,?_);cbv;show ixT (i:=4) (d.same b) rfl ?_;show(l, .ref Ad.ZERO,p.mo.1,p.mo.2,0,1,rfl,o.same b,⟨Ad.ZERO,rfl,T.Bcu _⟩,c.m.s1.mono ⋯,c.m.s2.mono ⋯, .lit ⋯ ⋯, .lit ⋯ ⋯,?_);cbv;have D:=c.m0;rw[if_pos (by simp;ac_nf)];cbv;show ixT (i:=5) (d.same b) rfl ?_;cbv;have:=k r b;simpa[c.w]using this
abbrev Bb2:Stmt:=top 45
theorem Jja:Jan ["thing"] ["thing"] (Jae Bb2):=by bv_decide
def JeO(K:W.Frag):Sp:=λvs H Q E=>∃(x:V)(g:GD),vs=[x]/\TV K H g.td x/\TOk g.td/\∀ H',Same H H'->Q (.bl true) H'
theorem JiQ(F:"is_gap"∘Bb2)(T:Txt K mg Ad)(Bc1:5∘"is_tie"∘["thing"]∘(JeP K)):6∘["thing"]∘(JeO K):=by
 show F.okn Jja (by subst_eqs) (λm A c s H l Q E n h=>?_)
 let(x,g,rfl,h):=h;show(_,(Jag (Jaq (JcL (Bc1.ev n ⋯ rfl passF %[pv 0|0]) (JcL (JbD JfD (!0) Jcp (Jav _)) (JdT (JbD JfD (!0) Jcp (Jav _))))))),?_);let(e,o,k):=h;show tRet _ _ [some x] H;cbv;show(x,g,rfl,e,o,λj b=>?_);let(a,vl,p,rfl,d,(_,rfl,_),(_,rfl,_)):=e;cbv;show ixT (i:=3) (d.same b) rfl ?_;cbv;show ixT (i:=4) (d.same b) rfl ?_;cbv;show k j b
abbrev BbE:Stmt:=top 48
theorem Jh7:Jan ["thing"] ["thing"] (Jae BbE):=by bv_decide
def JdM(K:W.Frag)(Ad:Adr):Sp:=λvs H Q E=>∃(x:V)(p:PD),vs=[x]/\PDV K H p x/\POk p/\∀ v H',Same H H'->POV K Ad H' p v->Q v H'
theorem Jh2(F:"part_of"∘BbE)(T:Txt K mg Ad)(Bcw:5∘"is_part"∘["thing"]∘(JdJ K))(BdL:KCal P w K mg base 1 "Part" Ad.Part ["self","row"] (JbR K)):6∘["thing"]∘(JdM K Ad):=by
 show F.okn Jh7 (by subst_eqs) (λG A g s H D Q E n h=>?_)
 let(x,p,rfl,h):=h;show(_,(Jab (ps_if (JbB (Ja1 (Bcw.ev n ⋯ rfl passF %[pv 0|0]))) (Jag ps_no)
   Jat) (Jag (Jaq (BdL.ev n ⋯ rfl passF %[pv 0|0])))),?_)
 let(z,J,k):=h;show tSeq _ _ _ [some x] H;cbv;show(x,p,rfl,z,J,λi j=>?_);cbv;let(b,v,l,rfl,B,C,I):=z;intro y a m c L;have t:Same i (upd (upd i a (.own y)) y (.ins Ad.Part a [])):=λb u q=>by rw[Jah (Jai q m),Jah (Jai q c)];show q
 show(y,_,a,b,_,_,_,v,l,_,rfl,Jam,T.BcV _ rfl,(B.same j).same t,λr e o=>⟨rfl,?_⟩);have d:Same H r:=j.trans λb u q=>by rw[o b (Jai q m)];show t _ _ q
 show k _ r d ⟨y,a,v,l,rfl,e,C.same d,I.same d⟩
abbrev Bb3:Stmt:=top 49
theorem Ji9:Jan ["thing"] ["thing"] (Jae Bb3):=by bv_decide
def JeN(K:W.Frag)(Ad:Adr):Sp:=λvs H Q E=>∃(x:V)(g:GD),vs=[x]/\TV K H g.td x/\TOk g.td/\∀ v H',Same H H'->GOV K Ad H' g v->Q v H'
theorem JiP(F:"gap_of"∘Bb3)(T:Txt K mg Ad)(Bc2:6∘"is_gap"∘["thing"]∘(JeO K))(BdY:KCal P w K mg base 1 "Gap" Ad.Gap ["self","row"] (Jb9 K)):7∘["thing"]∘(JeN K Ad):=by
 show F.okn Ji9 (by subst_eqs) (λI A n s H G Q E v h=>?_)
 let(x,g,rfl,h):=h;show(_,(Jab (ps_if (JbB (Ja1 (Bc2.ev v ⋯ rfl passF %[pv 0|0]))) (Jag ps_no)
   Jat) (Jag (Jaq (BdY.ev v ⋯ rfl passF %[pv 0|0])))),?_)
 let(C,J,k):=h;show tSeq _ _ _ [some x] H;cbv;show(x,g,rfl,C,J,λp r=>?_);cbv;let(b,m,i,rfl,D,c,l):=C;replace c:FrV K H m g.lo.1 g.lo.2:=c;replace l:FrV K H i g.hi.1 g.hi.2:=l;intro y a t d L;have B:Same p (upd (upd p a (.own y)) y (.ins Ad.Gap a [])):=λb u q=>by rw[Jah (Jai q t),Jah (Jai q d)];show q
 show(y,_,a,b,_,_,_,m,i,rfl,Jam,T.BdK _ rfl,(D.same r).same B,λz e o=>⟨rfl,?_⟩);have j:Same H z:=r.trans λb u q=>by rw[o b (Jai q t)];show B _ _ q
 show k _ z j ⟨y,a,m,i,rfl,e,c.same j,l.same j⟩
abbrev Bag:Stmt:=inClass (top 50) 0
theorem Jdn:Jan ["self"] ["self"] (Jae Bag):=by bv_decide
def Jbw(K:W.Frag)(Ad:Adr):Sp:=λvs H Q E=>∃(x dx:Addr),vs=[.ref x]/\H x=some (.ins Ad.Joints dx [])/\∀ d H',H d=none->d≠x->H' x=some (.ins Ad.Joints dx [("leads", .ref d)])->H' d=some (.dK [])->(∀ b u,b≠x->H b=some u->H' b=some u)->Q .non H'
theorem Jdi(F:"__init__"∘"Joints.__init__"∘Bag)(T:Txt K mg Ad)  : 1∘["self"]∘(Jbw K Ad):=by
 show F.okn Jdn (by subst_eqs) (λp A c s H o Q E t h=>?_)
 let(x,g,rfl,h):=h;show(_,(Jag (Ja5 (pv 0) JbK rfl)),?_);let(j,k):=h;have l:=T.Bb9 _ rfl;show sFld _ _ _ _ _ [some (.ref x)] H;mexact;rename_i d a m H r e n;mexact;show(x,_,g,_,rfl,e _ _ j,l.cls,l.n1,by simp,?_);have i:d≠x:=λz=>by rw[z,j]at a;cases a
 show k d _ a i (Jam.trans rfl) (by rw[Jah i];show n) λb u q h=>by rw[Jah q];show e _ _ h
abbrev BaF:Stmt:=inClass (top 50) 1
theorem JeZ:Jan ["self","part"] ["self","part"] (Jae BaF):=by bv_decide
def Jcl(K:W.Frag)(Ad:Adr):Sp:=λvs H Q E=>∃(j d:Addr)(v:V)(ls:List PD)(p:PD)(H0:Hp),vs=[.ref j,v]/\JK Ad H0 H j d ls/\Same H0 H/\POV K Ad H p v/\p.st≠p.en/\ls.length<=20/\∀ H',Same H0 H'->SameJ d H H'->JK Ad H0 H' j d (ls++[p])->Q .non H'
theorem JeT(F:"link"∘"Joints.link"∘BaF)(T:Txt K mg Ad)  : 1∘["self","part"]∘(Jcl K Ad):=by
 show F.okn JeZ (by subst_eqs) (λf5 A e9 s H vs Q E hr h=>?_)
 let(j,d,v,ls,p,H0,rfl,h):=h;show(_,(Jab (Ja6 (pe_bm PySem.F.plainAttrs_list PySem.F.slot_list_append PySem.F.type_list_append JaZ (JiY (Jas (pv 0) rfl) (Jas (pv 1) rfl) (Jbj Jac) ⟨rfl,rfl,rfl,rfl⟩) %[JaE %[Jas (pv 1) rfl,JaE %[Jas (pv 1) rfl,pe_bl|0]|0]|0] (hs:=by show Jaf rfl))) (Jag (Ja6 (pe_bm PySem.F.plainAttrs_list PySem.F.slot_list_append PySem.F.type_list_append JaZ (JiY (Jas (pv 0) rfl) (Jas (pv 1) rfl) (Jbj Jac) ⟨rfl,rfl,rfl,rfl⟩) %[JaE %[Jas (pv 1) rfl,JaE %[Jas (pv 1) rfl,pe_bl|0]|0]|0] (hs:=by show Jaf rfl))))),?_)
 let(((dx,b5),b4,a9,D,hk,b7),e1,hv,e6,hl,k):=h;let(q,dq,vz,vm,rfl,L,hz,hm):=hv;have sl:(1000:Nat)<=sizeLine:=by decide
 have jc:=T.Bb9 _ rfl;have B:=T.BcV _ rfl;have nj:j≠d:=λz=>by rw[z,D]at b5;cases b5
 have nq:q≠d:=λz=>by rw[z,D]at L;cases L
 have e4:∀ f,(JaC ls f).length<=20:=λf=>by have:=Jhq ls f;ac_nf
 show tSeq _ _ _ [some (.ref j),some (.ref q)] H;mleave;rename_i R hR;obtain⟨H1,hH⟩:∃ H',H'=H:=⟨_,rfl⟩;subst hH;have key:∀(t:Hp)(kv:List (Key × V)),SameJ d H1 t->Same H0 t->t d=some (.dK kv)->kv.length<=2*ls.length+1->JD H0 t (addL (JaC ls) p.st (p.en,(p.nm,true))) kv->R [some (.ref j),some (.ref q)] t:=by
  intro t kv J S r f4 I;show hR.go ?_;clear hR;have d6:=J _ _ nj (by intro x z;cases z) b5;have a6:=J _ _ nq (by intro x z;cases z) L;have e7:∀ f,(addL (JaC ls) p.st (p.en,(p.nm,true)) f).length<=21:=λf=>by
   have:=Jhq ls f;unfold addL;split
   .rw[length_append,length_singleton];ac_nf
   .ac_nf
  mleave;show(j,_,dx,_, .ref d,rfl,d6,jc.cls,jc.n1,rfl,?_);mleave;show(d,rfl, .inl ⟨kv, .inl r⟩,?_);show(q,_,dq,_, .str p.en,rfl,a6,B.cls,B.n3,rfl,?_);mleave;show(len0,?_);rename_i l2 C f2 t e5 X e8;mleave;show(kv,Sum.inr p.en,X _ _ r,rfl,by ac_nf,λv hv=>?_,λhv=>?_)
  .obtain⟨l,x,d1,e2,a3,c8⟩:∃ l x,v=.ref l/\H0 l=none/\t l=some (.lst x)/\All2 (LeV t) ((addL (JaC ls) p.st (p.en,(p.nm,true))) p.en) x:=by
    rcases I.at_ p.en with⟨h1,_⟩ | ⟨l,x,h1,h2,h3,h4⟩
    .rw[hv]at h1;cases h1
    .rw[hv]at h1;cases h1;show(l,x,rfl,h2,h3,h4)
   subst d1;have f1:x.length<=21:=by rw[c8.length];show e7 _
   show(.inl ⟨rfl,_,SqL.of (X _ _ a3)⟩,?_);mleave;have a:=X _ _ a6;obtain⟨M,N⟩:∃ H',H'=e5:=⟨_,rfl⟩;rw[<- N]at a ⊢;show(q,_,dq,_, .str p.st,rfl,a,B.cls,B.n2,rfl,?_);mleave;show(q,_,dq,_, .str p.nm,rfl,a,B.cls,B.n1,rfl,?_);mleave;show(len2,?_);rename_i d3 d7 c7 M c0 c4 c3;mleave;show(len2,?_);rename_i a4 c5 d0 c0 O b1 c9;mleave;have a7:LeV O (p.st,(p.nm,false)) (.ref a4):=⟨a4,d3,rfl,c9,b1 _ _ c3⟩;have m:=c4.trans b1;have c:=m _ _ (by rw[N];show X _ _ a3:M l=some (.lst x));show(l,x,_,rfl,rfl,c,by ac_nf,?_);generalize u3:upd O l _=H3;mleave;have i:Same t O:=λb u h=>m _ _ (by rw[N];show X _ _ h);have a0:=(I.same i).more hv c a7 u3;have a1:SameJ d t H3:=λb u _ hu h=>by rw[<- u3,Jah (λz=>by have:=i _ _ h;rw[z,c]at this;cases this;show hu _ rfl)];show i _ _ h
   have b6:H3 d=some (.dK kv):=by rw[<- u3,Jah (λz=>by have:=i _ _ r;rw[z,c]at this;cases this)];show i _ _ r
   have b9:Same H0 H3:=λb u h=>by rw[<- u3,Jah (Jai h e2)];show i _ _ (S _ _ h)
   rw[JfZ e6]at a0;show k H3 b9 (λb u Z hu h=>a1 b u Z hu (J b u Z hu h)) ⟨⟨dx,a1 _ _ nj (by intro x z;cases z) d6⟩,b4,_,b6,?_,a0⟩;rw[length_append,length_singleton];ac_nf
  .have b2:H0 l2=none:=by
    cases e:H0 l2 with
    | none=>rfl
    | some o=>rw[S _ _ e]at C;cases C
   generalize uc:upd e5 d _=M;mleave;have nd:l2≠d:=λz=>by rw[z,r]at C;cases C
   have a2:M l2=some (.lst []):=by rw[<- uc,Jah nd];show e8
   have G:∀ b u,b≠d->t b=some u->M b=some u:=λb u Z h=>by rw[<- uc,Jah Z];show X _ _ h
   have e0:M d=some (.dK (putK kv (Sum.inr p.en) (.ref l2))):=by rw[<- uc,Jam]
   show(.inl ⟨rfl,_,SqL.of a2⟩,?_);mleave;have a:=G _ _ (λz=>by rw[z,r]at a6;cases a6) a6;show(q,_,dq,_, .str p.st,rfl,a,B.cls,B.n2,rfl,?_);mleave;show(q,_,dq,_, .str p.nm,rfl,a,B.cls,B.n1,rfl,?_);mleave;show(len2,?_);rename_i d3 d7 c7 M c0 c4 c3;mleave;show(len2,?_);rename_i a4 c5 d0 c0 O b1 c9;mleave;have a7:LeV O (p.st,(p.nm,false)) (.ref a4):=⟨a4,d3,rfl,c9,b1 _ _ c3⟩;have m:=c4.trans b1;have c:=m _ _ a2;show(l2,[],_,rfl,rfl,c,by show 0<sizeLine;ac_nf,?_);generalize u3:upd O l2 _=H3;mleave;have a0:=((I.sx G r).same m).first hv b2 (λg l' a5 z=>by
    rcases I.at_ g with⟨h1,_⟩ | ⟨l2,xs2,h1,_,h3,_⟩
    .rw[a5]at h1;cases h1
    .rw[a5]at h1;cases h1;rw[z,C]at h3;cases h3) c a7 u3
   have a1:SameJ d t H3:=λb u Z hu h=>by rw[<- u3,Jah (λz=>by rw[z,C]at h;cases h)];show m _ _ (G _ _ Z h)
   have b6:=m _ _ e0;rw[show O d=H3 d by rw[<- u3,Jah (Ne.symm nd)]]at b6;have b9:Same H0 H3:=λb u h=>by rw[<- u3,Jah (Jai h b2)];show m _ _ (G _ _ (Jai h b4) (S _ _ h))
   have lp:=JbC kv (Sum.inr p.en) (V.ref l2);rw[JfZ e6]at a0;show k H3 b9 (λb u Z hu h=>a1 b u Z hu (J b u Z hu h)) ⟨⟨dx,a1 _ _ nj (by intro x z;cases z) d6⟩,b4,_,b6,?_,a0⟩;rw[length_append,length_singleton];ac_nf
 clear hR;show(j,_,dx,_, .ref d,rfl,b5,jc.cls,jc.n1,rfl,?_);mleave;show(d,rfl, .inl ⟨a9, .inl D⟩,?_);show(q,_,dq,_, .str p.st,rfl,L,B.cls,B.n2,rfl,?_);mleave;show(len0,?_);rename_i l1 y f3 H1 e3 Y f0;mleave;show(a9,Sum.inr p.st,Y _ _ D,rfl,by ac_nf,λv hv=>?_,λhv=>?_)
 .obtain⟨l,x,d1,e2,a3,c8⟩:∃ l x,v=.ref l/\H0 l=none/\H1 l=some (.lst x)/\All2 (LeV H1) ((JaC ls) p.st) x:=by
   rcases b7.at_ p.st with⟨h1,_⟩ | ⟨l,x,h1,h2,h3,h4⟩
   .rw[hv]at h1;cases h1
   .rw[hv]at h1;cases h1;show(l,x,rfl,h2,h3,h4)
  subst d1;have f1:x.length<=20:=by rw[c8.length];show e4 _
  show(.inl ⟨rfl,_,SqL.of (Y _ _ a3)⟩,?_);mleave;have a:=Y _ _ L;obtain⟨U,N⟩:∃ H',H'=e3:=⟨_,rfl⟩;rw[<- N]at a ⊢;show(q,_,dq,_, .str p.en,rfl,a,B.cls,B.n3,rfl,?_);mleave;show(q,_,dq,_, .str p.nm,rfl,a,B.cls,B.n1,rfl,?_);mleave;show(len2,?_);rename_i d4 d8 b8 U c6 c2 c1;mleave;show(len2,?_);rename_i a8 d9 d2 c6 W b3 d5;mleave;have b0:LeV W (p.en,(p.nm,true)) (.ref a8):=⟨a8,d4,rfl,d5,b3 _ _ c1⟩;have n:=c2.trans b3;have c:=n _ _ (by rw[N];show Y _ _ a3:U l=some (.lst x));show(l,x,_,rfl,rfl,c,by ac_nf,?_);generalize u2:upd W l _=t;mleave;have i:Same H1 W:=λb u h=>n _ _ (by rw[N];show Y _ _ h);have I:=(b7.same i).more hv c b0 u2;have J:SameJ d H1 t:=λb u _ hu h=>by rw[<- u2,Jah (λz=>by have:=i _ _ h;rw[z,c]at this;cases this;show hu _ rfl)];show i _ _ h
  have r:t d=some (.dK a9):=by rw[<- u2,Jah (λz=>by have:=i _ _ D;rw[z,c]at this;cases this)];show i _ _ D
  have S:Same H0 t:=λb u h=>by rw[<- u2,Jah (Jai h e2)];show i _ _ (e1 _ _ h)
  show key t _ J S r ∅ I
 .have b2:H0 l1=none:=by
   cases e:H0 l1 with
   | none=>rfl
   | some o=>rw[e1 _ _ e]at y;cases y
  generalize uc:upd e3 d _=U;mleave;have nd:l1≠d:=λz=>by rw[z,D]at y;cases y
  have a2:U l1=some (.lst []):=by rw[<- uc,Jah nd];show f0
  have G:∀ b u,b≠d->H1 b=some u->U b=some u:=λb u Z h=>by rw[<- uc,Jah Z];show Y _ _ h
  have e0:U d=some (.dK (putK a9 (Sum.inr p.st) (.ref l1))):=by rw[<- uc,Jam]
  show(.inl ⟨rfl,_,SqL.of a2⟩,?_);mleave;have a:=G _ _ (λz=>by rw[z,D]at L;cases L) L;show(q,_,dq,_, .str p.en,rfl,a,B.cls,B.n3,rfl,?_);mleave;show(q,_,dq,_, .str p.nm,rfl,a,B.cls,B.n1,rfl,?_);mleave;show(len2,?_);rename_i d4 d8 b8 U c6 c2 c1;mleave;show(len2,?_);rename_i a8 d9 d2 c6 W b3 d5;mleave;have b0:LeV W (p.en,(p.nm,true)) (.ref a8):=⟨a8,d4,rfl,d5,b3 _ _ c1⟩;have n:=c2.trans b3;have c:=n _ _ a2;show(l1,[],_,rfl,rfl,c,by show 0<sizeLine;ac_nf,?_);generalize u2:upd W l1 _=t;mleave;have I:=((b7.sx G D).same n).first hv b2 (λg l' a5 z=>by
   rcases b7.at_ g with⟨h1,_⟩ | ⟨l2,xs2,h1,_,h3,_⟩
   .rw[a5]at h1;cases h1
   .rw[a5]at h1;cases h1;rw[z,y]at h3;cases h3) c b0 u2
  have J:SameJ d H1 t:=λb u Z hu h=>by rw[<- u2,Jah (λz=>by rw[z,y]at h;cases h)];show n _ _ (G _ _ Z h)
  have r:=n _ _ e0;rw[show W d=t d by rw[<- u2,Jah (Ne.symm nd)]]at r;have S:Same H0 t:=λb u h=>by rw[<- u2,Jah (Jai h b2)];show n _ _ (G _ _ (Jai h b4) (e1 _ _ h))
  have lp:=JbC a9 (Sum.inr p.st) (V.ref l1);show key t _ J S r ∅ I
abbrev Bad:Stmt:=inClass (top 50) 2
theorem JaJ:Jan ["self","one","other","found","waiting","face","lead"] ["self","one","other"] (Jae Bad):=by bv_decide
def Jba(K:W.Frag)(Ad:Adr):Sp:=λvs H Q E=>∃(j d:Addr)(one other:Str)(ls:List PD)(H0:Hp),vs=[.ref j, .str one, .str other]/\JK Ad H0 H j d ls/\ls.length<=20/\(ls.map (·.nm)).Nodup/\(¬ Conn ls one other->∀ H',Same H H'->Q .non H')/\(∀ w l xs H',Same H H'->H l=none->H' l=some (.lst xs)->All2 (CV H') w xs->JaP ls one w other->(w.map (·.1)).Nodup->Q (.ref l) H')
theorem JcK(F:"way_between"∘"Joints.way_between"∘Bad)(T:Txt K mg Ad)  : 1∘["self","one","other"]∘(Jba K Ad):=by
 show F.okn JaJ (by subst_eqs) (λj1 A g3 s H vs Q E hr h=>?_)
 let(j,d,one,other,M,H0,rfl,h):=h;have hu:=hr.units;show(_,(Jab (Jaj 3 JaJ.nd (Jly (JjZ (pv 1) (Jbj Jac) JlD) rfl rfl (by simp) ⋯)) (Jab (Jaj 4 JaJ.nd (Jbj %[pv 1|0])) (Jab (Jdm PassesOwn.never (Jar JeC (Jaw Jay rfl T.Bba Ja8 %[pv 4|0]) Jad (Jav _)) (Jab (Jaj 5 JaJ.nd (Jku PySem.F.plainAttrs_list PySem.F.slot_list_pop PySem.F.type_list_pop Jmb (pv 4))) (Jag (JaN PassesOwn.never rfl (pi_U (JjW (hu1 hu) (Jas (pv 0) rfl) (pv 5) (Jbj Jac) ⟨rfl,rfl,rfl,rfl⟩)) (Jap 6 JaJ.nd) (Jag (ps_if (JeI (Jdk (hu1 hu) (!6) (pv 3)) (by with_unfolding_all rfl)) (Jab (Jcj (hu1 hu) (pv 3) (!6) (pe_op Ja0 (Jb6 (hu1 hu) (pv 3) (pv 5) (λ_ _=>rfl)) (Jbj %[!6|0])) rfl) (Jag (Ja6 (pe_bm PySem.F.plainAttrs_list PySem.F.slot_list_append PySem.F.type_list_append JaZ (pv 4) %[!6|0] (hs:=by show Jaf rfl)))))
   Jat)))))) (Jag (Jaq (JjV (hu1 hu) (pv 3) (pv 2) ⟨rfl,rfl,rfl,rfl⟩)))))),?_)
 clear hu;let(((dx,hj),i3,c9,hd,hk,hJ),hl,g4,k1,k2):=h;have sl:(1000:Nat)<=sizeLine:=by decide
 have jc:=T.Bb9 _ rfl;show tSeq _ _ _ [some (.ref j),some (.str one),some (.str other),none,none,none,none] H;mleave;rename_i fd b1 h9 H H1 S1 e1;mleave;show(len0,?_);rename_i l0 N h7 H1 H2 S2 e2;mleave;show(S2 _ _ e1,[(Sum.inr one, .ref l0)],rfl,by show 1<=15;ac_nf,?_);generalize u3:upd H2 fd _=H3;mleave;have e3:H3 fd=some (.dK [(Sum.inr one, .ref l0)]):=by rw[<- u3];show Jam.trans rfl
 have g0:l0≠fd:=λz=>by rw[z,e1]at N;cases N
 have d5:H3 l0=some (.lst []):=by rw[<- u3,Jah g0];show e2
 have b9:Same H H3:=λb u h=>by rw[<- u3,Jah (Jai h b1)];show S2 _ _ (S1 _ _ h)
 have f4:H l0=none:=by
  cases e:H l0 with
  | none=>rfl
  | some o=>rw[S1 _ _ e]at N;cases N
 show(by show 1<=sizeLine;ac_nf,?_);rename_i I G h0 H3 H4 S4 e4;mleave;have b3:H I=none:=by
  cases e:H I with
  | none=>rfl
  | some o=>rw[b9 _ _ e]at G;cases G
 have f7:l0≠I:=λz=>by rw[<- z,d5]at G;cases G
 have j2:fd≠I:=λz=>by rw[<- z,e3]at G;cases G
 have f5:Srch H M one fd I H4 [(one,[])] [one]:=⟨b9.trans S4,⟨_,S4 _ _ e3,rfl, .ref l0,[],rfl,⟨l0,[],rfl,f4,f7,S4 _ _ d5,rfl⟩,rfl⟩,by simp,by simp,λa J=>by rw[mem_singleton.mp J];show .nil,e4,by simp,by simp,λa J=>by rw[mem_singleton.mp J];simp⟩;show(λm σ H'=>∃(v5 v6:Option V)(ws:List (Str × List Pr))(wt:List Str),σ=[some (.ref j),some (.str one),some (.str other),some (.ref fd),some (.ref I),v5,v6]/\Srch H M one fd I H' ws wt/\(∀ a∈ws,a.1∉wt->∀ e∈JaC M a.1,e.1∈ws.map (·.1))/\m=2*(41-ws.length)+wt.length/\m<=81,⟨_,none,none,[(one,[])],[one],rfl,f5,λa J W=>absurd (by rw[mem_singleton.mp J];simp) W,rfl,by simp⟩,?_);intro m σ H5 z_;let(v5,v6,ws,wt,rfl,O,cl,rfl,b2):=z_;mleave;show(_, .inl (SqL.of O.wait),?_);mleave;rcases List.eq_nil_or_concat wt with rfl | ⟨wt',face,rfl⟩
 .rw[if_neg (by simp)];mleave;let(e5,b7,d9):=O.dict;mleave;show(fd,rfl, .inl ⟨e5, .inl b7⟩,_,DGet.k (k:=Sum.inr other) b7,?_);rcases d9.get (z:=other)with⟨a,v,R,h2,h3,l,xs,rfl,h4,_,h5,h6⟩ | ⟨R,h2⟩
  .rw[h3];show k2 a.2 l xs H5 O.same h4 h5 h6 (by rw[<- h2];show O.walk a R) (O.sim a R).1
  .rw[h2];show k1 (λhc=>R (Jk0 O.here (λf hf e he=>?_) hc)) H5 O.same;let(a,J,rfl):=mem_map.mp hf;show cl a J (by simp) e he
 .rw[if_pos (by simp)];mleave;rw[List.concat_eq_append]at O cl b2 ⊢;show(_,λ_ _ q=>q,?_);mleave;show(.inl ⟨rfl,_,SqL.of O.wait⟩,?_);show(I,_, .str face,rfl,rfl,O.wait,by simp,?_);generalize u6:upd H5 I _=H6;mleave;have ed:((wt'++[face]).map V.str).dropLast=wt'.map V.str:=by simp
  rw[ed]at u6;have a4:Srch H M one fd I H6 ws wt':=O.wait' b3 u6 λf hf=>O.sub f (by simp[hf]);have b4:=O.sub face (by simp);mleave;show(j,_,dx,_, .ref d,rfl,a4.same _ _ hj,jc.cls,jc.n1,rfl,?_);mleave;show(d,rfl, .inl ⟨c9, .inl (a4.same _ _ hd)⟩,len0,?_);rename_i le d4 i0 H6 H7 S7 e7;mleave;have a1:=a4.grow S7;have e0:le≠I:=λz=>by have:=a4.wait;rw[<- z,d4]at this;cases this
  show(_,DGet.k (k:=Sum.inr face) (a1.same _ _ hd),?_);obtain⟨la,xs,e6,d1,c3,g5⟩:∃ la xs,(valV c9 (Sum.inr face)).getD (.ref le)=.ref la/\H7 la=some (.lst xs)/\All2 (LeV H7) (JaC M face) xs/\la≠I:=by
   rcases hJ.at_ face with⟨R,h2⟩ | ⟨l,xs,R,h2,h3,h4⟩
   .show(le,[],by rw[R];rfl,e7,by rw[h2];rfl,e0)
   .show(l,xs,by rw[R];rfl,a1.same _ _ h3,h4.mono λ_ _ z=>z.sameT a1.same.t,Jai h3 b3)
  have lx:=c3.length;have i6:=a1.len hl;show(la,e6,ForA.byL (xs:=xs) (SqL.of d1) (λi σ H'=>i<=xs.length/\∃(v6:Option V)(r:List (Str × List Pr))(B:List Str),σ=[some (.ref j),some (.str one),some (.str other),some (.ref fd),some (.ref I),some (.str face),v6]/\Srch H M one fd I H' r B/\H' la=some (.lst xs)/\SameT H7 H'/\(∀ a∈r,a.1∉B->a.1≠face->∀ e∈JaC M a.1,e.1∈r.map (·.1))/\(∀ e∈(JaC M face).take i,e.1∈r.map (·.1))/\face∈r.map (·.1)/\2*(41-r.length)+B.length<=2*(41-ws.length)+wt'.length) ⟨Nat.zero_le _,v6,ws,wt',rfl,a1,d1,SameT.refl _,λa J R h2=>cl a J (by simp[R,h2]),by simp,b4,Nat.le_refl _⟩ (λi σ H' z=>by let(_,_,_,_,_,_,z,_):=z;show SqL.of z) ?_ ?_)
  .intro i y σ H8 hy z_;let(hi,v6,r,B,rfl,C,X,Z,a5,a3,a2,c2):=z_;have li:i<xs.length:=(List.getElem?_eq_some_iff.mp hy).1;let(e,he,b,c,rfl,g2,f1):=c3.at_ hy;have a8:=Z _ _ rfl g2;have g8:=Z _ _ rfl f1;have b6:(JaC M face).take (i+1)=(JaC M face).take i++[e]:=by rw[take_succ,he];rfl
   have c7:e∈JaC M face:=List.mem_of_getElem? he;let(i8,a0,a7):=C.dict;mleave;show ixT (i:=0) (SqT.of a8) rfl ?_;show(fd,_,rfl,DGet.k (k:=Sum.inr e.1) a0,?_);rw[a7.val];by_cases S:e.1∈r.map (·.1)
   .rw[decide_eq_true S];mleave;show(li,_,r,B,rfl,C,X,Z,a5,λe' L=>?_,a2,c2);rw[b6]at L;rcases mem_append.mp L with h' | h'
    .show a3 e' h'
    .rw[mem_singleton.mp h'];show S
   .rw[decide_eq_false S];mleave;let(a,v,J,e8,hv,l,xw,rfl,j3,i4,d2,c4):=a7.some a2;have i7:=C.lw a J;have j0:=C.len hl;have i5:=c4.length;show(fd, .ref l,rfl,by rw[<- hv];show DGet.k (k:=Sum.inr face) a0,?_);show ixT (i:=1) (SqT.of a8) rfl ?_;show(by show 1<=sizeLine;ac_nf,?_);rename_i ln h8 i1 H8 H9 S9 e9;mleave;show .inl ⟨l,ln,xw,_,rfl,rfl,S9 _ _ d2,e9,by simp;ac_nf,?_⟩;rename_i lr Y i2 H9 U g6 f6;mleave;mleave;have n:=S9.trans g6;have c8:=C.grow n;show ixT (i:=0) (SqT.of (n _ _ a8)) rfl ?_;have lk:=a7.length;show(fd,_,rfl,DPut.k (k:=Sum.inr e.1) (n _ _ a0) ∅,?_);generalize b5:upd U fd _=a6;mleave;have n0:H lr=none:=by
     cases e:H lr with
     | none=>rfl
     | some o=>rw[S9 _ _ (C.same _ _ e)]at Y;cases Y
    have f2:lr≠I:=λz=>by have:=(C.grow S9).wait;rw[<- z,Y]at this;cases this
    have f8:JaP M one (a.2++[e.2]) e.1:=.snoc (by rw[<- e8];show C.walk a J) c7;have b0:=n _ _ a0;have c6:=a7.mono (P':=PWy H U I) λa v ζ=>(by let(l,xs,e1,W,g1,hx,J):=ζ;show(l,xs,e1,W,g1,n _ _ hx,J.mono λ_ _ z=>z.sameT n.t));have cv:CV U e.2 (.ref c):=⟨c,rfl,n _ _ g8⟩;let(pp,b8,c0):=(Ja9 (g:=e.1) (pr:=e.2)).mp c7;have c5:e.2.1=pp.nm:=by rcases c0 with h | h;rw[h.2.2];rw[h.2.2.2]
    have c1:(pp.st=face/\pp.en=e.1)\/(pp.en=face/\pp.st=e.1):=by rcases c0 with h | h;show .inl ⟨h.1,h.2.1⟩;show .inr ⟨h.2.1,h.2.2.1⟩
    have d7:((a.2++[e.2]).map (·.1)).Nodup/\∀ p∈M,p.nm∈(a.2++[e.2]).map (·.1)->p.st∈(r++[(e.1,a.2++[e.2])]).map (·.1)/\p.en∈(r++[(e.1,a.2++[e.2])]).map (·.1):=by
     have sm:=C.sim a J;have f9:e.2.1∉a.2.map (·.1):=λz=>by
      have:=sm.2 pp b8 (c5 ▸ z);rcases c1 with h | h
      .show S (h.2 ▸ this.2)
      .show S (h.2 ▸ this.1)
     rw[map_append,map_append,map_cons,map_nil,map_cons,map_nil];show(nodup_append.mpr ⟨sm.1,by simp,λx hx y hy z=>f9 (by rw[mem_singleton]at hy;rw[<- hy, <- z];show hx)⟩,λp hp W=>?_);rcases mem_append.mp W with W | W
     .have:=sm.2 p hp W;show(mem_append.mpr (.inl this.1),mem_append.mpr (.inl this.2))
     .have ep:=JiN g4 hp b8 ((mem_singleton.mp W).trans c5);subst ep;have m1:e.1∈r.map (·.1)++[e.1]:=mem_append.mpr (.inr (by simp));have m2:face∈r.map (·.1)++[e.1]:=mem_append.mpr (.inl a2);rcases c1 with h | h
      .rw[h.1,h.2];show(m2,m1)
      .rw[h.1,h.2];show(m1,m2)
    have D:=c8.find b0 c6 b1 S f8 (by simp;ac_nf) d7 n0 f2 f6 ((c4.mono (P':=CV U) λ_ _ z=>z.sameT n.t).append (.one cv)) b5;have d6:SameT U a6:=SameT.put b5 b0 rfl;have f3:la≠fd:=λz=>by rw[z,a0]at X;cases X
    have d3:a6 la=some (.lst xs):=by rw[<- b5,Jah f3];show n _ _ X
    have d8:=D.len hl;rw[length_append,length_singleton]at d8;have i9:(B.map V.str).length<=81:=by
     rw[length_map];rw[length_append,length_singleton]at b2;ac_nf
    show(.inl ⟨rfl,_,SqL.of D.wait⟩,?_);show ixT (i:=0) (SqT.of (d6 _ _ rfl (n _ _ a8))) rfl ?_;show(I,_,_,rfl,rfl,D.wait,by ac_nf,?_);generalize a9:upd a6 I _=f0;mleave;have ea:B.map V.str++[V.str e.1]=(B++[e.1]).map V.str:=by simp
    rw[ea]at a9;have d0:=D.wait' b3 a9 (λf hf=>by
     rcases mem_append.mp hf with h' | h'
     .show D.sub f h'
     .rw[mem_singleton.mp h',map_append];simp)
    have g9:SameT a6 f0:=SameT.put a9 D.wait rfl;show(li,_,r++[(e.1,a.2++[e.2])],B++[e.1],rfl,d0,by rw[<- a9,Jah g5];show d3,Z.trans (n.t.trans (d6.trans g9)),λa' g7 R h2 e' L=>?_,λe' L=>?_,?_,?_)
    .rw[map_append];rcases mem_append.mp g7 with h' | h'
     .show mem_append.mpr (.inl (a5 a' h' (λz=>R (by simp[z])) h2 e' L))
     .show absurd ?_ R;rw[mem_singleton.mp h'];simp
    .rw[map_append];rw[b6]at L;rcases mem_append.mp L with h' | h'
     .show mem_append.mpr (.inl (a3 e' h'))
     .rw[mem_singleton.mp h'];simp
    .rw[map_append];show mem_append.mpr (.inl a2)
    .rw[length_append,length_append,length_singleton,length_singleton];ac_nf
  .intro σ H8 z_;let(hi,v6,r,B,rfl,C,X,Z,a5,a3,a2,c2):=z_;rw[length_append,length_singleton]at b2;show(_,by rw[length_append,length_singleton];ac_nf,some (.str face),v6,r,B,rfl,C,λa J W e he=>?_,rfl,by ac_nf);by_cases c:a.1=face
   .rw[take_of_length_le ∅]at a3;rw[c]at he;show a3 e he
   .show a5 a J W c e he
abbrev Bak:Stmt:=inClass (top 51) 0
theorem JaG:Jan ["self","parts","gaps","joints","row","part","gap","found"] ["self","parts","gaps"] (Jae Bak):=by bv_decide
def Ja4(K:W.Frag)(Ad:Adr):Sp:=λvs H Q E=>∃(x dx a c:Addr)(xs zs:List V)(ls0:List PD)(gs0:List GD)(H0:Hp),vs=[.ref x, .ref a, .ref c]/\H x=some (.ins Ad.Thing dx [])/\H0 x=none/\Same H0 H/\SqL K H0 a xs/\All2 (PDV K H0) ls0 xs/\SqL K H0 c zs/\All2 (λ(g:GD) v=>TV K H0 g.td v) gs0 zs/\ls0.length<=20/\gs0.length<=20/\(∀ p∈ls0,POk p)/\(∀ g∈gs0,TOk g.td)/\(ls0.map (·.nm)).Nodup/\(gs0.map (·.nm)).Nodup/\(∀(i:Nat) p,ls0[i]?=some p->¬ Conn (ls0.take i) p.st p.en)/\(∀ g∈gs0,Conn ls0 g.st g.en)/\∀ H',Same H0 H'->TK K Ad H' x ls0 gs0->Q .non H'
theorem JdA(F:"__init__"∘"Thing.__init__"∘Bak)(T:Txt K mg Ad)(Bc3:KCal P w K mg base 1 "Joints" Ad.Joints ["self"] (Jbw K Ad))(Bcx:6∘"part_of"∘["thing"]∘(JdM K Ad))(Bc4:7∘"gap_of"∘["thing"]∘(JeN K Ad))(Bbb:1∘"way_between"∘(Jdd Ad)∘["self","one","other"]∘(Jba K Ad))(BdM:1∘"link"∘(Jdd Ad)∘["self","part"]∘(Jcl K Ad)):9∘["self","parts","gaps"]∘(Ja4 K Ad):=by
 show F.okn JaG (by subst_eqs) (λo2 A m4 s H vs Q E hr h=>?_)
 let(x,Y,a,c,xs,zs,f6,d6,N,rfl,h):=h;have hu:=hr.units;show(_,(Jab (Jaj 3 JaG.nd (Bc3.ev0 hr ⋯ rfl passF)) (Jab (Ja5 (pv 0) JbK rfl) (Jab (JaN PassesOwn.never rfl (pi_U (pv 1)) (Jap 4 JaG.nd) (Jab (Jaj 5 JaG.nd (Bcx.ev hr ⋯ rfl passF %[pv 4|0])) (Jab (ps_if (JeI (Jhz (hu1 hu) (Jas (pv 5) rfl) (Jas (pv 0) rfl)) (by with_unfolding_all rfl)) (Jag ps_no)
   Jat) (Jab (ps_if (Jar JfD (Bbb.m hr ⋯ passF (pv 3) %[Jas (pv 5) rfl,Jas (pv 5) rfl|0]) Jcp (Jav _)) (Jag ps_no)
   Jat) (Jab (Ja6 (BdM.m hr ⋯ passF (pv 3) %[pv 5|0])) (Jag (Jcj (hu1 hu) (Jas (pv 0) rfl) (Jas (pv 5) rfl) (pv 5) rfl))))))) (Jab (Ja5 (pv 0) JbK rfl) (Jab (Ja5 (pv 0) JbK rfl) (Jag (JaN PassesOwn.never rfl (pi_U (pv 2)) (Jap 4 JaG.nd) (Jab (Jaj 6 JaG.nd (Bc4.ev hr ⋯ rfl passF %[pv 4|0])) (Jab (ps_if (JeI (Jhz (hu1 hu) (Jas (pv 6) rfl) (Jas (pv 0) rfl)) (by with_unfolding_all rfl)) (Jag ps_no)
   Jat) (Jab (Jaj 7 JaG.nd (Bbb.m hr ⋯ passF (pv 3) %[Jas (pv 6) rfl,Jas (pv 6) rfl|0])) (Jab (ps_if (Jar JeD (pv 7) Jcp (Jav _)) (Jag ps_no)
   Jat) (Jab (Jcj (hu1 hu) (Jas (pv 0) rfl) (Jas (pv 6) rfl) (pv 6) rfl) (Jag (Jcj (hu1 hu) (Jas (pv 0) rfl) (Jas (pv 6) rfl) (pv 7) rfl)))))))))))))),?_)
 clear hu;let(hx,e4,S0,hS,hE,hC,hG,hl,hg,l3,m3,k8,l1,l4,k7,k):=h;have X:=T.Bbl _ rfl;have pc:=T.BcV _ rfl;have gc:=T.BdK _ rfl;have sl:(1000:Nat)<=sizeLine:=by decide
 have le:=hE.length;have lg:=hG.length;show tSeq _ _ _ [some (.ref x),some (.ref a),some (.ref c),none,none,none,none,none] H;mvcgen;intro j dj hj m0 nj;have Sm:Same H (upd (upd H dj (.own j)) j (.ins Ad.Joints dj [])):=λb u q=>by rw[Jah (Jai q hj),Jah (Jai q m0)];show q
 generalize um:upd (upd H dj (.own j)) j (.ins Ad.Joints dj [])=Hm at Sm ⊢;mvcgen;have em:Hm j=some (.ins Ad.Joints dj []):=by rw[<- um,Jam]
 show(j,dj,rfl,em,λd H1 l8 o0 k6 b8 h0=>⟨rfl,?_⟩);have J:∀{H:Hp}{b:Addr},Same N H->H b=none->N b=none:=λ{H b} S h=>by
  cases e:N b with
  | none=>rfl
  | some o=>rw[S _ _ e]at h;cases h
 have e1:∀{H B:Hp}{d:Addr}{kv:List (Key × V)},(∀ b u,b≠d->H b=some u->B b=some u)->H d=some (.dK kv)->SameI H B:=λ{H B d kv} S hd b u t h=>S b u (λz=>by rw[z,hd]at h;cases h;simp[isTI,isTF]at t) h;have g6:∀{H B:Hp}{d b:Addr}{kv:List (Key × V)}{ys:List V},(∀ b u,b≠d->H b=some u->B b=some u)->H d=some (.dK kv)->H b=some (.lst ys)->B b=some (.lst ys):=λ{H B d b kv ys} S hd h=>S _ _ (λz=>by rw[z,hd]at h;cases h) h;have d9:∀{H B:Hp}{e:Addr}{kv:List (Key × V)}{D:List PD},(∀ b u,b≠e->H b=some u->B b=some u)->H e=some (.dK kv)->e≠d->JK Ad N H j d D->JK Ad N B j d D:=λ{H B e kv D} S he ne ζ=>(by let((dj,h1),h2,kvs,h3,h4,h5):=ζ;show(⟨dj,S _ _ (λz=>by rw[z,he]at h1;cases h1) h1⟩,h2,kvs,S _ _ (Ne.symm ne) h3,h4,h5.sx S he));have j0:=J S0 hj;have j6:Same N H1:=λb u h=>h0 b u (Jai h j0) (Sm _ _ (S0 _ _ h));have f5:x≠j:=Jai hx hj;have c9:H1 x=some (.ins Ad.Thing Y []):=h0 x _ f5 (Sm _ _ hx);have d0:N d=none:=J (S0.trans Sm) l8
 (try ((with_reducible show Nxt.go (by assumption) ?_);mvcgen))
 rename_i M W n4 H1 H2 S2 e2;mvcgen;mvcgen;show(x,_,Y,_,rfl,S2 _ _ c9,X.cls,X.n1,by simp,?_);generalize u3:upd H2 x _=H3;mvcgen;have e3:H3 x=some (.ins Ad.Thing Y [("parts_by_name", .ref M)]):=by rw[<- u3];show Jam.trans rfl
 have c0:∀ b u,b≠x->H2 b=some u->H3 b=some u:=λb u hb h=>by rw[<- u3,Jah hb];show h
 have g3:Same N H3:=λb u h=>c0 _ _ (Jai h e4) (S2 _ _ (j6 _ _ h));have f2:d≠x:=λz=>by rw[z,c9]at b8;cases b8
 have a4:M≠x:=λz=>by rw[z,c9]at W;cases W
 have c7:M≠d:=λz=>by rw[z,b8]at W;cases W
 have i1:H3 M=some (.dK []):=c0 _ _ a4 e2;have m7:=J j6 W;have l7:JK Ad N H3 j d []:=⟨⟨dj,c0 _ _ (Ne.symm f5) (S2 _ _ k6)⟩,d0,[],c0 _ _ f2 (S2 _ _ b8),by simp,JD.nil⟩;show(a,rfl,ForA.byL (xs:=xs) (hS.same g3) (λi σ B=>i<=xs.length/\∃(v4 v5:Option V)(k1:List (Key × V))(D:List PD),σ=[some (.ref x),some (.ref a),some (.ref c),some (.ref j),v4,v5,none,none]/\Same N B/\B x=some (.ins Ad.Thing Y [("parts_by_name", .ref M)])/\JK Ad N B j d D/\B M=some (.dK k1)/\BG (·.nm) (POV K Ad B) D k1/\D.length=i/\(D.map (·.nm)).Nodup/\D=f6.take i) ⟨Nat.zero_le _,none,none,[],[],rfl,g3,e3,l7,i1,⟨rfl,rfl⟩,rfl, .nil,rfl⟩ (λi σ B z=>by let(_,_,_,_,_,_,z,_):=z;show hS.same z) ?_ ?_)
 .intro i y σ H4 hy z_;let(hi,v4,v5,k1,D,rfl,S4,a1,g0,b4,b6,j7,b9,hw):=z_;have li:i<xs.length:=(List.getElem?_eq_some_iff.mp hy).1;let(p,hp,d5):=hE.at_ hy;have ok:=l3 p (List.mem_of_getElem? hp);have g2:D++[p]=f6.take (i+1):=by rw[hw,take_succ,hp];rfl
  have cn:p.nm∉D.map (·.nm):=JgQ g2 k8;have lk:=b6.length;mvcgen;show(y,p,rfl,d5.sameT S4.t,ok,λv H5 S5 pv=>?_);let(q,dq,vz,vm,rfl,c1,hz,hm):=id pv;have f9:=S5 _ _ a1;have h7:=S5 _ _ b4;have g1:=g0.same S5;have h8:=b6.mono (P':=POV K Ad H5) λ_ _ z=>z.si (Same.i S5);let((g9,i5),_):=id g1;mvcgen;show(q,_,dq,_, .str p.nm,rfl,c1,pc.cls,pc.n1,rfl,?_);show(x,_,Y,_, .ref M,rfl,f9,X.cls,X.n1,rfl,?_);show(M,_,rfl,DGet.k (k:=Sum.inr p.nm) h7,?_);rw[h8.val];rw[decide_eq_false cn];mvcgen;show(j,_,g9,_,rfl,i5,rfl,rfl,?_);mvcgen;show(q,_,dq,_, .str p.st,rfl,c1,pc.cls,pc.n2,rfl,?_);show(q,_,dq,_, .str p.en,rfl,c1,pc.cls,pc.n3,rfl,?_);show(j,d,p.st,p.en,D,N,rfl,g1,by ac_nf,b9,λhc H6 S6=>?_,λw l yy H6 S6 o1 e6 g4 f3 _=>absurd (show Conn D p.st p.en from⟨w,f3⟩) (by rw[hw];show l4 i p hp));mvcgen;have d4:=g1.same S6;have c8:=S4.trans (S5.trans S6);show(j,_,g9,_,rfl,S6 _ _ i5,rfl,rfl,?_);mvcgen;show(j,d, .ref q,D,p,N,rfl,d4,c8,pv.si (Same.i S6),ok.ne,by ac_nf,λH7 k4 sj j8=>?_);have nd:∀{b:Addr}{C dd:Addr}{ff:List (Str × V)},H6 b=some (.ins C dd ff)->H7 b=some (.ins C dd ff):=λ{b C dd ff} h=>by
   let(_,_,_,f7,_):=d4;show sj _ _ (λz=>by rw[z,f7]at h;cases h) (by intro xs z;cases z) h
  have SI:SameI H6 H7:=λb u t h=>by
   let(_,_,_,f7,_):=d4;show sj b u (λz=>by rw[z,f7]at h;cases h;simp[isTI,isTF]at t) (λxs z=>by rw[z]at t;simp[isTI,isTF]at t) h
  have e0:H7 M=some (.dK k1):=sj _ _ c7 (by intro xs z;cases z) (S6 _ _ h7);have m2:=h8.mono (P':=POV K Ad H7) λ_ _ z=>(z.si (Same.i S6)).si SI;have m8:=(pv.si (Same.i S6)).si SI;mvcgen;show(x,_,Y,_, .ref M,rfl,nd (S6 _ _ f9),X.cls,X.n1,rfl,?_);show(q,_,dq,_, .str p.nm,rfl,nd (S6 _ _ c1),pc.cls,pc.n1,rfl,?_);show(M,_,rfl,DPut.k (k:=Sum.inr p.nm) e0 ∅,?_);generalize u8:upd H7 M _=H8;mvcgen;have e8:=putE u8;have c2:∀ b u,b≠M->H7 b=some u->H8 b=some u:=λb u hb h=>by rw[<- u8,Jah hb];show h
  have k5:=e1 c2 e0;show(li,_,_,_,D++[p],rfl,λb u h=>c2 _ _ (Jai h m7) (k4 _ _ h),c2 _ _ (Ne.symm a4) (nd (S6 _ _ f9)),d9 c2 e0 c7 j8,e8,?_,by simp[j7],by rw[map_append];show nodup_append.mpr ⟨b9,by simp,λu hu v hv z=>cn (by have e:v=p.nm:=mem_singleton.mp hv;rw[<- e, <- z];show hu)⟩,g2);show(m2.new (a:=p) cn m8).mono λ_ _ z=>z.si k5
 .intro σ H4 z_;let(hi,v4,v5,k1,D,rfl,S4,a1,g0,b4,b6,j7,b9,hw):=z_;rw[take_of_length_le ∅]at hw;subst hw;mvcgen;let((l0,l9),_,k0,a6,h9,l6):=id g0;rename_i d2 I n6 H4 H5 S5 e5;mvcgen;show(x,_,Y,_,rfl,S5 _ _ a1,X.cls,X.n2,by simp,?_);generalize u6:upd H5 x _=H6;mvcgen;have e6:H6 x=some (.ins Ad.Thing Y [("parts_by_name", .ref M),("gaps_by_name", .ref d2)]):=by rw[<- u6];show Jam.trans rfl
  have a5:∀ b u,b≠x->H5 b=some u->H6 b=some u:=λb u hb h=>by rw[<- u6,Jah hb];show h
  mvcgen;rename_i d3 n n5 H6 H7 S7 e7;mvcgen;show(x,_,Y,_,rfl,S7 _ _ e6,X.cls,X.n3,by simp,?_);generalize u8:upd H7 x _=H8;mvcgen;have e8:H8 x=some (.ins Ad.Thing Y [("parts_by_name", .ref M),("gaps_by_name", .ref d2),("ways", .ref d3)]):=by rw[<- u8];show Jam.trans rfl
  have f0:∀ b u,b≠x->H7 b=some u->H8 b=some u:=λb u hb h=>by rw[<- u8,Jah hb];show h
  have a2:∀ b u,b≠x->H4 b=some u->H8 b=some u:=λb u hb h=>f0 _ _ hb (S7 _ _ (a5 _ _ hb (S5 _ _ h)));have b1:d2≠x:=λz=>by rw[z,a1]at I;cases I
  have f4:d2≠M:=λz=>by rw[z,b4]at I;cases I
  have i0:d2≠d:=λz=>by rw[z,a6]at I;cases I
  have c4:d3≠x:=λz=>by rw[z,e6]at n;cases n
  have j1:=a5 _ _ a4 (S5 _ _ b4);have j9:=a5 _ _ f2 (S5 _ _ a6);have c5:=a5 _ _ b1 e5;have f8:d3≠M:=λz=>by rw[z,j1]at n;cases n
  have g7:d3≠d:=λz=>by rw[z,j9]at n;cases n
  have b3:d3≠d2:=λz=>by rw[z,c5]at n;cases n
  have m9:=J S4 I;have c8:Same N H6:=λb u h=>a5 _ _ (Jai h e4) (S5 _ _ (S4 _ _ h));have m5:=J c8 n;have i9:Same N H8:=λb u h=>a2 _ _ (Jai h e4) (S4 _ _ h);have j3:SameT H4 H8:=λb u t h=>a2 _ _ (λz=>by rw[z,a1]at h;cases h;simp[isTF]at t) h;have l2:JK Ad N H8 j d D:=⟨⟨l0,a2 _ _ (Ne.symm f5) l9⟩,d0,k0,a2 _ _ f2 a6,h9,l6.sy a2 a1 (by intro xs z;cases z) rfl⟩;have l5:BG (·.nm) (POV K Ad H8) D k1:=b6.mono λp v ⟨q,dq,vz,vm,h1,h2,h3,h4⟩=>⟨q,dq,vz,vm,h1,a2 _ _ (ne_of h2 a1 (by
   intro z;injection z with _ _ z3
   have:=congrArg List.length z3;simp[partF]at this)) h2,h3.sameT j3,h4.sameT j3⟩
  show(c,rfl,ForA.byL (xs:=zs) (hC.same i9) (λi σ B=>i<=zs.length/\∃(v4 v6 v7:Option V)(k2 k3:List (Key × V))(gs:List GD),σ=[some (.ref x),some (.ref a),some (.ref c),some (.ref j),v4,v5,v6,v7]/\Same N B/\B x=some (.ins Ad.Thing Y [("parts_by_name", .ref M),("gaps_by_name", .ref d2),("ways", .ref d3)])/\JK Ad N B j d D/\B M=some (.dK k1)/\BG (·.nm) (POV K Ad B) D k1/\B d2=some (.dK k2)/\BG (·.nm) (GOV K Ad B) gs k2/\B d3=some (.dK k3)/\BG (·.nm) (WOV B D) gs k3/\gs.length=i/\gs=d6.take i) ⟨Nat.zero_le _,v4,none,none,[],[],[],rfl,i9,e8,l2,a2 _ _ a4 b4,l5,f0 _ _ b1 (S7 _ _ c5),⟨rfl,rfl⟩,f0 _ _ c4 e7,⟨rfl,rfl⟩,rfl,rfl⟩ (λi σ B z=>by let(_,_,_,_,_,_,_,_,z,_):=z;show hC.same z) ?_ ?_)
  .intro i y σ H9 hy z_;let(hi,v4,v6,v7,k2,k3,gs,rfl,S9,b0,i4,a7,d7,a3,a9,b2,b7,g5,b5):=z_;have li:i<zs.length:=(List.getElem?_eq_some_iff.mp hy).1;let(g,f1,d5):=hG.at_ hy;have ok:=m3 g (List.mem_of_getElem? f1);have g8:gs++[g]=d6.take (i+1):=by rw[b5,take_succ,f1];rfl
   have cn:g.nm∉gs.map (·.nm):=JgQ g8 l1;have lk:=a9.length;have n8:=b7.length;mvcgen;show(y,g,rfl,TV.sameT S9.t d5,ok,λv n9 c3 gv=>?_);let(q,dq,vl,vg,rfl,O,hz,hm):=id gv;have i8:=c3 _ _ b0;have h6:=c3 _ _ a3;have a8:=i4.same c3;let((j5,i3),_):=id a8;mvcgen;show(q,_,dq,_, .str g.nm,rfl,O,gc.cls,gc.n1,rfl,?_);show(x,_,Y,_, .ref d2,rfl,i8,X.cls,X.n2,rfl,?_);show(d2,_,rfl,DGet.k (k:=Sum.inr g.nm) h6,?_);rw[a9.val];rw[decide_eq_false cn];mvcgen;show(j,_,j5,_,rfl,i3,rfl,rfl,?_);mvcgen;show(q,_,dq,_, .str g.st,rfl,O,gc.cls,gc.n2,rfl,?_);show(q,_,dq,_, .str g.en,rfl,O,gc.cls,gc.n3,rfl,?_);show(j,d,g.st,g.en,D,N,rfl,a8,by ac_nf,b9,λhc Z a0=>absurd (k7 g (List.mem_of_getElem? f1)) hc,λw l yy Z a0 n7 n0 g4 f3 m6=>?_);mvcgen;have r:=c3.trans a0;have U:=r _ _ a3;show(x,_,Y,_, .ref d2,rfl,r _ _ b0,X.cls,X.n2,rfl,?_);show(q,_,dq,_, .str g.nm,rfl,a0 _ _ O,gc.cls,gc.n1,rfl,?_);show(d2,_,rfl,DPut.k (k:=Sum.inr g.nm) U ∅,?_);generalize j4:upd Z d2 _=d8;mvcgen;have k9:=putE j4;have G:∀ b u,b≠d2->Z b=some u->d8 b=some u:=λb u hb h=>by rw[<- j4,Jah hb];show h
   have j2:=e1 G U;have c6:=G _ _ (Ne.symm b1) (r _ _ b0);have i7:=G _ _ (λz=>by have:=a0 _ _ O;rw[z,U]at this;cases this) (a0 _ _ O);have R:=G _ _ b3 (r _ _ b2);mvcgen;show(x,_,Y,_, .ref d3,rfl,c6,X.cls,X.n3,rfl,?_);show(q,_,dq,_, .str g.nm,rfl,i7,gc.cls,gc.n1,rfl,?_);show(d3,_,rfl,DPut.k (k:=Sum.inr g.nm) R ∅,?_);generalize i6:upd d8 d3 _=e9;mvcgen;have m1:=putE i6;have L:∀ b u,b≠d3->d8 b=some u->e9 b=some u:=λb u hb h=>by rw[<- i6,Jah hb];show h
   have i2:=e1 L R;have SI:SameI Z e9:=λb u t h=>i2 b u t (j2 b u t h);have wv:∀{g:GD}{v:V},WOV Z D g v->WOV e9 D g v:=λ{g v} ζ=>(by let(l,xs,w,h1,h2,h3,h4):=ζ;show(l,xs,w,h1,g6 L R (g6 G U h2),h3.mono λ_ _ z=>z.sameT SI.t,h4));show(li,_,_,_,_,_,gs++[g],rfl,λb u h=>L _ _ (Jai h m5) (G _ _ (Jai h m9) (r _ _ (S9 _ _ h))),L _ _ (Ne.symm c4) c6,d9 L R g7 (d9 G U i0 (a8.same a0)),L _ _ (Ne.symm f8) (G _ _ (Ne.symm f4) (r _ _ a7)),d7.mono λ_ _ z=>(z.si (Same.i r)).si SI,L _ _ (Ne.symm b3) k9,?_,m1,?_,by simp[g5],g8)
   .show((a9.mono (P':=GOV K Ad Z) λ_ _ z=>z.si (Same.i r)).new (a:=g) cn (gv.si (Same.i a0))).mono λ_ _ z=>z.si SI
   .show((b7.mono (P':=WOV Z D) λ_ _ z=>z.same r).new (a:=g) cn ⟨l,yy,w,rfl,n0,g4,f3,m6⟩).mono λ_ _ z=>wv z
  .intro σ H9 z_;let(hi,v4,v6,v7,k2,k3,gs,rfl,S9,b0,i4,a7,d7,a3,a9,b2,b7,g5,b5):=z_;rw[take_of_length_le ∅]at b5;subst b5;mvcgen;show k H9 S9 ⟨Y,M,d2,d3,k1,k2,k3,b0,a7,d7,a3,a9,b2,b7⟩
abbrev BaG:Stmt:=inClass (top 51) 1
theorem Je0:Jan ["self"] ["self"] (Jae BaG):=by bv_decide
def JaH(K:W.Frag)(Ad:Adr):Sp:=λvs H Q E=>∃(x:Addr)(ls:List PD)(gs:List GD),vs=[.ref x]/\TK K Ad H x ls gs/\ls.length<=20/\∀ l ys H',Same H H'->H l=none->H' l=some (.lst ys)->All2 (PDV K H') ls ys->Q (.ref l) H'
theorem JeU(F:"parts"∘"Thing.parts"∘BaG)(T:Txt K mg Ad)(Bdt:1∘"plain"∘(IsPart Ad)∘["self"]∘(Jcy K Ad)):2∘["self"]∘(JaH K Ad):=by
 show F.okn Je0 (by subst_eqs) (λa0 A S s H vs Q E hr h=>?_)
 let(x,ls,gs,rfl,h):=h;show(_,(Jag (Jaq (Jg1 (JcM (JaY (own:=["part"]) (cs:=[]) rfl (Ji0 (Jas (pv 0) rfl)) (λ_ _ _ _=>(Jap 0 (show[("part" : Str)].Nodup by decide))) (λ_ _ _ _=>JbE) (λ_ _ _ _=>(Bdt.m0 hr ⋯ passF (pv 0))) (Jbk rfl) ⋯ rfl ⋯ hcs0))))),?_);let((dx,a,d2,d3,l,k2,k3,hx,j,b1,_),hl,k):=h;have Z:=T.Bbl _ rfl;have sl:(1000:Nat)<=sizeLine:=by decide
 have lk:=b1.length;show tRet _ _ [some (.ref x)] H;mleave;show(a,l,j,x,_,dx,_, .ref a,rfl,hx,Z.cls,Z.n1,rfl,a,l,rfl,j,λN=>?_);generalize uf:upd H a (.frz N (.dK l))=H1;mleave;have f1:H1 a=some (.frz N (.dK l)):=by rw[<- uf,Jam]
 have o1:∀ b u,b≠a->H b=some u->H1 b=some u:=λb u W h=>by rw[<- uf,Jah W];show h
 show CompJ.vals (λi m C=>C a=some (.frz N (.dK l))/\(∀ b u,b≠a->H b=some u->C b=some u)/\(∀ b u,b≠a->C b=some u->H b=none->True)/\All2 (PDV K C) (ls.take i) m) ⟨f1,o1,λ_ _ _ _ _=>trivial,rfl⟩ (λi m C hi z=>⟨z.1,by have:=z.2.2.2.length;rw[length_take]at this;ac_nf⟩) ?_ ?_
 .rintro i v m G hv ⟨B,y,_,L⟩;simpa only[length_singleton,List.replicate,Jaz,map_cons,map_nil,Option.join_some];let(p,hp,q,dq,I,M,rfl,Y,hz,hm):=b1.2.at_ hv;have U:∀{b:Addr}{u:HO},H b=some u->isTI u=true->G b=some u:=λ{b u} h t=>y _ _ (λz=>by rw[z,j]at h;cases h;simp[isTI,isTF]at t) h;have T2:SameT H G:=λb u t h=>U h (by cases u <;> first | show t | (simp[isTF]at t));show(q,_,dq,_,rfl,U Y rfl,rfl,rfl,q,dq,_,_,_,I,M,_,rfl,U Y rfl,λr n d X=>?_);show(d _ _ B,λb u W h=>d _ _ (y _ _ W h),λ_ _ _ _ _=>trivial,?_);rw[take_succ,hp];show(L.mono (P':=PDV K n) λ_ _ z=>z.sameT d.t).append (.one ⟨r,I,M,rfl,SqT.of X,(hz.sameT T2).sameT d.t,(hm.sameT T2).sameT d.t⟩)
 .rintro m G ⟨B,y,_,L⟩;rw[take_of_length_le ∅]at L;rename_i r g a1 G n d X;mleave;show(N,l,d _ _ B,?_);generalize D:upd n a (.dK l)=J;mleave;have nr:r≠a:=λz=>by rw[z,B]at g;cases g
  have e4:J r=some (.lst m):=by rw[<- D,Jah nr];show X
  have O:Same H J:=λb u h=>by
   by_cases c:b=a
   .subst c;rw[j]at h;cases h;rw[<- D,Jam]
   .rw[<- D,Jah c];show d _ _ (y _ _ c h)
  have f3:=d _ _ B;have R:∀{b:Addr}{xs:List V},SqT K n b xs->SqT K J b xs:=λ{b xs} h=>by
   rcases h with(h | ⟨o,h⟩) | h
   .show .inl (.inl (by rw[<- D,Jah (λz=>by rw[z,f3]at h;cases h)];show h))
   .show .inl (.inr ⟨o,by rw[<- D,Jah (λz=>by rw[z,f3]at h;cases h)];show h⟩)
   .show .inr h
  have hn:H r=none:=by
   cases e:H r with
   | none=>rfl
   | some o=>rw[y _ _ nr e]at g;cases g
  show k r m J O hn e4 ((L.mono (P':=PDV K n) λ_ _ z=>z.sameT d.t).mono λp v ζ=>by let(b,I,M,h1,h2,(pz,h3,h4),(pm,h5,h6)):=ζ;show(b,I,M,h1,R h2,⟨pz,h3,R h4⟩,⟨pm,h5,R h6⟩))
abbrev BaO:Stmt:=inClass (top 51) 2
theorem JfL:Jan ["self"] ["self"] (Jae BaO):=by bv_decide
def JaO(K:W.Frag)(Ad:Adr):Sp:=λvs H Q E=>∃(x:Addr)(ls:List PD)(gs:List GD),vs=[.ref x]/\TK K Ad H x ls gs/\gs.length<=20/\∀ l ys H',Same H H'->H l=none->H' l=some (.lst ys)->All2 (λ(g:GD) v=>TV K H' g.td v) gs ys->Q (.ref l) H'
theorem Jft(F:"gaps"∘"Thing.gaps"∘BaO)(T:Txt K mg Ad)(Bcy:1∘"plain"∘(IsGap Ad)∘["self"]∘(JcQ K Ad)):2∘["self"]∘(JaO K Ad):=by
 show F.okn JfL (by subst_eqs) (λa0 A U s H vs Q E hr h=>?_)
 let(x,ls,gs,rfl,h):=h;show(_,(Jag (Jaq (Jg1 (JcM (JaY (own:=["gap"]) (cs:=[]) rfl (Ji0 (Jas (pv 0) rfl)) (λ_ _ _ _=>(Jap 0 (show[("gap" : Str)].Nodup by decide))) (λ_ _ _ _=>JbE) (λ_ _ _ _=>(Bcy.m0 hr ⋯ passF (pv 0))) (Jbk rfl) ⋯ rfl ⋯ hcs0))))),?_);let((dx,d1,a,d3,k1,m,k3,hx,_,_,l,b2,_),hl,k):=h;have tc:=T.Bbl _ rfl;have sl:(1000:Nat)<=sizeLine:=by decide
 have lk:=b2.length;show tRet _ _ [some (.ref x)] H;mleave;show(a,m,l,x,_,dx,_, .ref a,rfl,hx,tc.cls,tc.n2,rfl,a,m,rfl,l,λO=>?_);generalize uf:upd H a (.frz O (.dK m))=H1;mleave;have f1:H1 a=some (.frz O (.dK m)):=by rw[<- uf,Jam]
 have o1:∀ b u,b≠a->H b=some u->H1 b=some u:=λb u X h=>by rw[<- uf,Jah X];show h
 show CompJ.vals (λi n L=>L a=some (.frz O (.dK m))/\(∀ b u,b≠a->H b=some u->L b=some u)/\All2 (λ(g:GD) v=>TV K L g.td v) (gs.take i) n) ⟨f1,o1,rfl⟩ (λi n L hi z=>⟨z.1,by have:=z.2.2.length;rw[length_take]at this;ac_nf⟩) ?_ ?_
 .rintro i v n G hv ⟨C,B,M⟩;simpa only[length_singleton,List.replicate,Jaz,map_cons,map_nil,Option.join_some];let(p,hp,q,dq,I,N,rfl,Z,hz,hm):=b2.2.at_ hv;have W:∀{b:Addr}{u:HO},H b=some u->isTI u=true->G b=some u:=λ{b u} h t=>B _ _ (λz=>by rw[z,l]at h;cases h;simp[isTI,isTF]at t) h;have T2:SameT H G:=λb u t h=>W h (by cases u <;> first | show t | (simp[isTF]at t));show(q,_,dq,_,rfl,W Z rfl,rfl,rfl,q,dq,_,_,_,I,N,rfl,W Z rfl,λr y d Y=>?_);show(d _ _ C,λb u X h=>d _ _ (B _ _ X h),?_);rw[take_succ,hp];show(M.mono (P':=λ(g:GD) v=>TV K y g.td v) λ_ _ z=>z.sameT d.t).append (.one ⟨r,I,N,rfl,SqT.of Y,(hz.sameT T2).sameT d.t,(hm.sameT T2).sameT d.t⟩)
 .rintro n G ⟨C,B,M⟩;rw[take_of_length_le ∅]at M;rename_i r j a1 G y d Y;mleave;show(O,m,d _ _ C,?_);generalize D:upd y a (.dK m)=J;mleave;have nr:r≠a:=λz=>by rw[z,C]at j;cases j
  have e4:J r=some (.lst n):=by rw[<- D,Jah nr];show Y
  have R:Same H J:=λb u h=>by
   by_cases c:b=a
   .subst c;rw[l]at h;cases h;rw[<- D,Jam]
   .rw[<- D,Jah c];show d _ _ (B _ _ c h)
  have f3:=d _ _ C;have S:∀{b:Addr}{xs:List V},SqT K y b xs->SqT K J b xs:=λ{b xs} h=>by
   rcases h with(h | ⟨o,h⟩) | h
   .show .inl (.inl (by rw[<- D,Jah (λz=>by rw[z,f3]at h;cases h)];show h))
   .show .inl (.inr ⟨o,by rw[<- D,Jah (λz=>by rw[z,f3]at h;cases h)];show h⟩)
   .show .inr h
  have hn:H r=none:=by
   cases e:H r with
   | none=>rfl
   | some o=>rw[B _ _ nr e]at j;cases j
  show k r n J R hn e4 ((M.mono (P':=λ(g:GD) v=>TV K y g.td v) λ_ _ z=>z.sameT d.t).mono λp v ζ=>by let(b,I,N,h1,h2,(pz,h3,h4),(pm,h5,h6)):=ζ;show(b,I,N,h1,S h2,⟨pz,h3,S h4⟩,⟨pm,h5,S h6⟩))
abbrev Ba4:Stmt:=inClass (top 51) 3
theorem Jgt:Jan ["self","name"] ["self","name"] (Jae Ba4):=by bv_decide
def JbQ(K:W.Frag)(Ad:Adr):Sp:=λvs H Q E=>∃(x:Addr)(z:Str)(ls:List PD)(gs:List GD),vs=[.ref x, .str z]/\TK K Ad H x ls gs/\(z∉gs.map (·.nm)->E (.ref Ad.NoName) none H)/\(∀ g∈gs,g.nm=z->∀ l xs w H',Same H H'->H l=none->H' l=some (.lst xs)->All2 (CV H') w xs->JaP ls g.st w g.en->(w.map (·.1)).Nodup->Q (.ref l) H')
theorem Jgi(F:"way"∘"Thing.way"∘Ba4)(T:Txt K mg Ad)  : 1∘["self","name"]∘(JbQ K Ad):=by
 show F.okx Jgt (λN H Q E h=>?_) (λU A m s H N Q E V h=>?_)
 .let(x,z,R,y,rfl,_):=h;rfl
 let(x,z,R,y,rfl,h):=h;have i:=V.units;show(_,(Jab (ps_if (JeI (Jdk (hu1 i) (pv 1) (Jas (pv 0) rfl)) (by with_unfolding_all rfl)) (Jag (JfI PySem.F.excBase_ValueError T.BbZ rfl T.BdI %[Jc1|0]))
   Jat) (Jag (Jaq (JeF JhN rfl T.BdW Jii %[Jb6 (hu1 i) (Jas (pv 0) rfl) (pv 1) (λ_ _=>rfl)|0])))),?_)
 clear i;let((q,d1,d2,d,Y,k2,k3,B,M,b1,W,Z,a,p),C,k):=h;have b:=T.Bbl _ rfl;show tSeq _ _ _ [some (.ref x),some (.str z)] H;mleave;show(x,_,q,_, .ref d,rfl,B,b.cls,b.n3,rfl,?_);show(d,_,rfl,DGet.k (k:=Sum.inr z) a,?_);rw[p.val];by_cases c:z∈y.map (·.nm)
 .rw[decide_eq_true c];mleave;let(g,v,I,D,X,O,u,w,rfl,o,j,S,e):=p.some c;show(x,_,q,_, .ref d,rfl,B,b.cls,b.n3,rfl,?_);show(d,_,rfl,by rw[<- X];show DGet.k (k:=Sum.inr z) a,?_);show(O,u,rfl, .inl (SqL.of o),?_);rename_i l n J H G r L;mleave;show k g I D l u w G r n L (j.mono λ_ _ z=>z.sameT r.t) S e
 .rw[decide_eq_false c];mleave;show(by show 1<=sizeLine;decide,C c)
abbrev Bau:Stmt:=inClass (top 51) 4
theorem Ja2:Jan ["self","name","total","part","forward","size"] ["self","name"] (Jae Bau):=by bv_decide
def Jby(K:W.Frag)(Ad:Adr):Sp:=λvs H Q E=>∃(x:Addr)(z:Str)(ls:List PD)(gs:List GD),vs=[.ref x, .str z]/\TK K Ad H x ls gs/\(z∉gs.map (·.nm)->E (.ref Ad.NoName) none H)/\(∀ g∈gs,g.nm=z->∃ pl:Str->Fr2,(∀ u∈gs,u.nm=z->u=g)/\(∀ p∈ls, ∀ q∈ls,p.nm=q.nm->p=q)/\(∀ p∈ls,POk p)/\(∀ f,FB 302 161 (pl f))/\(∀ p∈ls,vl (pl p.en)=vl (pl p.st)+vl p.sz)/\∀ v H',Same H H'->FrV K H' v (mid pl g).1 (mid pl g).2->Q v H')
theorem Jey(F:"middle"∘"Thing.middle"∘Bau)(T:Txt K mg Ad)(BcU:1∘"way"∘(JaF Ad)∘["self","name"]∘(JbQ K Ad))(Bca:2∘"plus"∘["one","other"]∘(JeQ K))(Bbt:3∘"minus"∘["one","other"]∘(Jdr K)):4∘["self","name"]∘(Jby K Ad):=by
 show F.okx Ja2 (λvs H Q E h=>?_) (λa4 A a0 s H vs Q E N h=>?_)
 .let(x,z,I,gs,rfl,_):=h;rfl
 let(x,z,I,gs,rfl,h):=h;have hu:=N.units;show(_,(Jab (Jaj 2 Ja2.nd (Jcv (v:=.ref _) rfl T.Bcs T.Bct)) (Jab (JaN PassesOwn.leaving rfl (pi_U (BcU.m N ⋯ pass1 (pv 0) %[pv 1|0])) (Jgq rfl (JaX (Jap 3 Ja2.nd) (JaX (Jap 4 Ja2.nd) JcN))) (Jab (Jaj 5 Ja2.nd (Jas (Jb6 (hu1 hu) (Jas (pv 0) rfl) (pv 3) (λ_ _=>rfl)) rfl)) (Jag (Jaj 2 Ja2.nd (JfF (Ja1 (pv 4)) (Bca.ev N ⋯ rfl pass1 %[pv 2,pv 5|0]) (Bbt.ev N ⋯ rfl pass1 %[pv 2,pv 5|0])))))) (Jag (Jaq (pv 2))))),?_)
 clear hu;let(ht,kn,k):=h;let(dx,d1,d2,d3,k1,k2,k3,hx,Z,b1,_):=id ht;have tc:=T.Bbl _ rfl;have pc:=T.BcV _ rfl;show tSeq _ _ _ [some (.ref x),some (.str z),none,none,none,none] H;mleave;show(x,_,dx,_,rfl,hx,rfl,rfl,x,z,I,gs,rfl,ht,kn,λg hg hz l xs w H1 S1 a3 e1 B hw _=>?_);let(a,a2,hN,hP,j,hV,k):=k g hg hz;have lg:=Jlf hV hw;have lx:=B.length;show(l,rfl,ForA.byL (xs:=xs) (SqL.of e1) (λi σ H'=>i<=xs.length/\∃(v3 O v5:Option V)(t:V)(f:Str),σ=[some (.ref x),some (.str z),some t,v3,O,v5]/\Same H1 H'/\FrV K H' t (addF (a f) (negF (a g.st))).1 (addF (a f) (negF (a g.st))).2/\Legs I a f (w.drop i) g.en) ⟨Nat.zero_le _,none,none,none, .ref Ad.ZERO,g.st,rfl,Same.refl _,by rw[JjM (j _)];show(Ad.ZERO,rfl,T.Bcu _),lg⟩ (λi σ H' q=>by let(_,_,_,_,_,_,_,q,_):=q;show SqL.of (q _ _ e1)) ?_ ?_)
 .intro i y σ W hy z_;let(hi,v3,O,v5,t,f,rfl,u,L,J):=z_;have li:i<xs.length:=(List.getElem?_eq_some_iff.mp hy).1;let(pr,D,b,rfl,hb):=B.at_ hy;have C:i<w.length:=by ac_nf
  have R:w.drop i=pr::w.drop (i+1):=by
   rw[List.drop_eq_getElem_cons C];rw[List.getElem?_eq_getElem C]at D;rw[Option.some.inj D]
  rw[R]at J;have d:=S1.trans u;obtain⟨p,n,o,rfl,hp,hv,G⟩:∃ p n o,pr=(p.nm,n)/\p∈I/\vl (a o)=vl (a f)+vl (sgn n p.sz)/\Legs I a o (w.drop (i+1)) g.en:=by
   cases J with
   | cons h1 h2 h3=>show(_,_,_,rfl,h1,h2,h3)
  mleave;show(b,_,rfl,SqT.of (u _ _ hb),rfl,?_);mleave;let(q,v,hq,a1,X,qa,dq,M,vm,rfl,Y,U,hm):=b1.some (z:=p.nm) (mem_map.mpr ⟨p,hp,rfl⟩);have eq:=hN q hq p hp a1;subst eq;show(x,_,dx,_, .ref d1,rfl,d _ _ hx,tc.cls,tc.n1,rfl,?_);show(d1,_,rfl,by rw[<- X];show DGet.k (k:=Sum.inr q.nm) (d _ _ Z),?_);show(qa,_,dq,_,M,rfl,d _ _ Y,pc.cls,pc.n4,rfl,?_);have c:=(hP q hq).z;have e:FB 464 322 (addF (a f) (negF (a g.st))):=FB.add (j _) (j _).neg ⋯ ⋯ ⋯;have fz:FrV K W M q.sz.1 q.sz.2:=U.same d;have st:=Jle (j f) (j o) (z:=sgn n q.sz) (by cases n;show(L2.FOk.fb c).neg;show L2.FOk.fb c) (j g.st) hv;mleave;cases n with
  | true=>
   mleave;show(t,M,_,_,_,_,rfl,L,fz,e.s1.mono ⋯,e.s2.mono ⋯,c.s1.mono ⋯,c.s2.mono ⋯,e.b1,c.b1,e.g1,c.g1,λr H3 S e3=>?_);show(li,_,_,_, .ref r,o,rfl,u.trans S,by rw[<- st];show FrV.of e3,G)
  | false=>
   mleave;show(t,M,_,_,_,_,rfl,L,fz,e.s1.mono ⋯,e.s2.mono ⋯,c.s1.mono ⋯,c.s2.mono ⋯,e.b1,c.b1,e.g1,c.g1,λr H3 S e3=>?_);show(li,_,_,_, .ref r,o,rfl,u.trans S,?_,G);rw[<- st];show FrV.of ?_;rw[e3];show _=some (HO.tup [.int (Mth.top (_*q.sz.2 + -q.sz.1*_) _), .int (Mth.bot (_*q.sz.2 + -q.sz.1*_) _)]);rw[Int.neg_mul, <- Int.sub_eq_add_neg];rfl
 .intro σ W z_;let(hi,v3,O,v5,t,f,rfl,u,L,J):=z_;rw[List.drop_eq_nil_of_le ∅]at J;cases J;mleave;show k t W (S1.trans u) L
abbrev BaP:Stmt:=inClass (top 51) 5
theorem Jbu:Jan ["self","name","middle","gap","above","below"] ["self","name"] (Jae BaP):=by bv_decide
def Jb0(K:W.Frag)(Ad:Adr):Sp:=λvs H Q E=>∃(x:Addr)(z:Str)(ls:List PD)(gs:List GD),vs=[.ref x, .str z]/\TK K Ad H x ls gs/\(z∉gs.map (·.nm)->E (.ref Ad.NoName) none H)/\(∀ g∈gs,g.nm=z->∃ pl:Str->Fr2,(∀ u∈gs,u.nm=z->u=g)/\(∀ p∈ls, ∀ q∈ls,p.nm=q.nm->p=q)/\(∀ p∈ls,POk p)/\(∀ f,FB 302 161 (pl f))/\(∀ p∈ls,vl (pl p.en)=vl (pl p.st)+vl p.sz)/\TOk g.td/\∀ v H',Same H H'->FrV K H' v (roomF pl g).1 (roomF pl g).2->Q v H')
theorem Jfu(F:"room"∘"Thing.room"∘BaP)(T:Txt K mg Ad)(Bb4:4∘"middle"∘(JaF Ad)∘["self","name"]∘(Jby K Ad))(Bbt:3∘"minus"∘["one","other"]∘(Jdr K))(Bai:1∘"under"∘["one","other"]∘(Jb3 K)):5∘["self","name"]∘(Jb0 K Ad):=by
 show F.okx Jbu (λvs H Q E h=>?_) (λa1 A I s H vs Q E o h=>?_)
 .let(x,z,ls,gs,rfl,_):=h;rfl
 let(x,z,ls,gs,rfl,h):=h;have hu:=o.units;show(_,(Jab (Jaj 2 Jbu.nd (Bb4.m o ⋯ pass1 (pv 0) %[pv 1|0])) (Jab (Jaj 3 Jbu.nd (Jb6 (hu1 hu) (Jas (pv 0) rfl) (pv 1) (λ_ _=>rfl))) (Jab (Jaj 4 Jbu.nd (Bbt.ev o ⋯ rfl pass1 %[Jas (pv 3) rfl,pv 2|0])) (Jab (Jaj 5 Jbu.nd (Bbt.ev o ⋯ rfl pass1 %[pv 2,Jas (pv 3) rfl|0])) (Jag (Jaq (JfF (Ja1 (Bai.ev o ⋯ rfl pass1 %[pv 4,pv 5|0])) (pv 4) (pv 5)))))))),?_)
 clear hu;let(Y,kn,k):=h;let(V,d1,d2,d3,k1,k2,k3,hx,a0,b1,D,b2,_):=id Y;have tc:=T.Bbl _ rfl;have t:=T.BdK _ rfl;show tSeq _ _ _ [some (.ref x),some (.str z),none,none,none,none] H;mleave;show(x,_,V,_,rfl,hx,rfl,rfl,x,z,ls,gs,rfl,Y,kn,λg W N=>?_);let(pl,l,hN,hP,hB,hV,Z,k):=k g W N;show(pl,l,hN,hP,hB,hV,λv H1 n fm=>?_);have b:=Jma (g:=g) hB;unfold roomF at k;generalize mid pl g=m at *;mleave;let(a,v',J,M,C,qa,R,j,r,rfl,p,G,L):=b2.some (z:=z) (mem_map.mpr ⟨g,W,N⟩);have eg:=l a J M;subst eg;have e:=Z.lo _ rfl;have q:=Z.hi _ rfl;show(x,_,V,_, .ref d2,rfl,n _ _ hx,tc.cls,tc.n2,rfl,?_);show(d2,_,rfl,by rw[<- C];show DGet.k (k:=Sum.inr z) (n _ _ D),?_);mleave;show(qa,_,R,_,r,rfl,n _ _ p,t.cls,t.n5,rfl,?_);show(r,v,_,_,_,_,rfl,L.same n,fm,q.s1.mono ⋯,q.s2.mono ⋯,b.s1.mono ⋯,b.s2.mono ⋯,q.b1,b.b1,q.g1,b.g1,λr1 H2 S2 e2=>?_);mleave;have d:=n.trans S2;show(qa,_,R,_,j,rfl,d _ _ p,t.cls,t.n4,rfl,?_);show(v,j,_,_,_,_,rfl,fm.same S2,G.same d,b.s1.mono ⋯,b.s2.mono ⋯,e.s1.mono ⋯,e.s2.mono ⋯,b.b1,e.b1,b.g1,e.g1,λX u y e3=>?_);mleave;have ea:addF a.hi (negF m)=(Mth.top (a.hi.1*m.2-m.1*a.hi.2) (a.hi.2*m.2),Mth.bot (a.hi.1*m.2-m.1*a.hi.2) (a.hi.2*m.2)):=by
  unfold addF negF;dsimp only;rw[Int.neg_mul, <- Int.sub_eq_add_neg]
 have eb:addF m (negF a.lo)=(Mth.top (m.1*a.lo.2-a.lo.1*m.2) (m.2*a.lo.2),Mth.bot (m.1*a.lo.2-a.lo.1*m.2) (m.2*a.lo.2)):=by
  unfold addF negF;dsimp only;rw[Int.neg_mul, <- Int.sub_eq_add_neg]
 have fa:FrV K u (.ref r1) (addF a.hi (negF m)).1 (addF a.hi (negF m)).2:=by rw[ea];show FrV.of (y _ _ e2)
 have O:FrV K u (.ref X) (addF m (negF a.lo)).1 (addF m (negF a.lo)).2:=by rw[eb];show FrV.of e3
 have S:=FB.add' (L2.FOk.fb q) b.neg;have U:=FB.add' b (L2.FOk.fb e).neg;generalize addF a.hi (negF m)=A at *;generalize addF m (negF a.lo)=B at *;show(.ref r1, .ref X,A.1,A.2,B.1,B.2,rfl,fa,O,S.s1.mono ⋯,S.s2.mono ⋯,U.s1.mono ⋯,U.s2.mono ⋯,?_);mleave;by_cases c:lessF A B=true
 .rw[if_pos c]at k;rw[if_pos (show decide (A.1*B.2<B.1*A.2)=true from c)];mleave;show k _ u (d.trans y) fa
 .rw[if_neg c]at k;rw[if_neg (show¬ decide (A.1*B.2<B.1*A.2)=true from c)];mleave;show k _ u (d.trans y) O
abbrev Bal:Stmt:=inClass (top 17) 0
theorem JbF:Jan ["self","numbers","number","factor"] ["self","numbers"] (Jae Bal):=by bv_decide
def JbI(K:W.Frag)(Ad:Adr):Sp:=λvs H Q E=>∃(x dx a:Addr)(xs:List V)(ns:List Fr2),vs=[.ref x, .ref a]/\H x=some (.ins Ad.Scale dx [])/\H a=some (.lst xs)/\All2 (FLV K H) ns xs/\ns.length<=18/\(∀ n∈ns,1<=n.2/\Mth.Sz 110 n.2)/\∀ b fs fl H',H' x=some (.ins Ad.Scale dx [("bottom", .int b),("factors", .ref fl)])->H fl=none->H' fl=some (.lst (fs.map V.int))->(∀ c u,c≠x->H c=some u->H' c=some u)->Scl b fs->Mth.Sz 2000 b->fs.length<=30->Q .non H'
theorem Jdz(F:"__init__"∘"Scale.__init__"∘Bal)(T:Txt K mg Ad)(Bac:1∘"common_divisor"∘["one","other"]∘(JaB)):2∘["self","numbers"]∘(JbI K Ad):=by
 show F.okn JbF (by subst_eqs) (λa4 A a2 s H vs Q E hr h=>?_)
 let(x,l,a,xs,ns,rfl,h):=h;show(_,(Jab (Ja5 (pv 0) Jad rfl) (Jab (Ja5 (pv 0) (Jbj Jac) rfl) (Jag (JaN PassesOwn.never rfl (pi_U (pv 1)) (Jap 2 JbF.nd) (Jab (Jaj 3 JbF.nd (pe_op Jau (!2) (Bac.ev hr ⋯ rfl passF %[Jas (pv 0) rfl,!2|0]))) (Jag (ps_if (Jar JeC (pv 3) Jad (Jav _)) (Jab (Ja5 (pv 0) (pe_op JaV (Jas (pv 0) rfl) (pv 3)) rfl) (Jag (Ja6 (pe_bm PySem.F.plainAttrs_list PySem.F.slot_list_append PySem.F.type_list_append JaZ (Jas (pv 0) rfl) %[pv 3|0] (hs:=by show Jaf rfl)))))
   Jat))))))),?_)
 let(e0,W,hN,hl,a0,k):=h;have e:=T.Bcv Ad.Scale rfl;have sl:(1000:Nat)<=sizeLine:=by decide
 have lx:=hN.length;show tSeq _ _ _ [some (.ref x),some (.ref a),none,none] H;mvcgen;show(x,_,l,_,rfl,e0,e.cls,e.n1,by simp,?_);generalize u1:upd H x _=H1;mvcgen;have e1:H1 x=some (.ins Ad.Scale l [("bottom", .int 1)]):=by rw[<- u1];show Jam.trans rfl
 have o1:∀ b,b≠x->H1 b=H b:=λb hb=>by rw[<- u1,Jah hb]
 mvcgen;show(len0,?_);rename_i d j a3 H1 H2 Y e2;mvcgen;mvcgen;show(x,_,l,_,rfl,Y _ _ e1,e.cls,e.n2,by simp,?_);generalize N:upd H2 x _=J;mvcgen;have e3:J x=some (.ins Ad.Scale l [("bottom", .int 1),("factors", .ref d)]):=by rw[<- N];show Jam.trans rfl
 have X:d≠x:=λz=>by rw[z,e1]at j;cases j
 have f3:J d=some (.lst []):=by rw[<- N,Jah X];show e2
 have o3:∀ c u,c≠x->H c=some u->J c=some u:=λc u B h=>by rw[<- N,Jah B];show Y _ _ (by rw[o1 c B];show h)
 have o:H d=none:=by rw[<- o1 d X];show j
 have I:a≠x:=λz=>by rw[z,e0]at W;cases W
 have a1:SameT H J:=(SameT.put u1 e0 rfl).trans (Y.t.trans (SameT.put N (Y _ _ e1) rfl));mvcgen;show(a,rfl,ForA.byL (xs:=xs) (SqL.of (o3 _ _ I W)) (λi σ D=>i<=xs.length/\∃(Z v3:Option V)(b:Int)(m:List Int),σ=[some (.ref x),some (.ref a),Z,v3]/\D x=some (.ins Ad.Scale l [("bottom", .int b),("factors", .ref d)])/\D d=some (.lst (m.map V.int))/\(∀ c u,c≠x->H c=some u->D c=some u)/\SameT H D/\Scl b m/\Mth.Sz (1+110*i) b/\m.length<=i) ⟨Nat.zero_le _,none,none,1,[],rfl,e3,f3,o3,a1,Scl.nil, .lit ⋯ ⋯,Nat.le_refl _⟩ (λi σ D q=>by let(_,_,_,_,_,_,_,_,q,_):=q;show SqL.of (q _ _ I W)) ?_ ?_)
 .intro i y σ C hy z_;let(hi,Z,v3,b,m,rfl,p,L,U,M,hs,G,lf):=z_;have li:=(List.getElem?_eq_some_iff.mp hy).1;let(n,hn,S):=hN.at_ hy;have S:FrV K C y n.1 n.2:=FrV.sameT M S;have r:=a0 n (List.mem_of_getElem? hn);have G:Mth.Sz 2000 b:=G.mono ∅;have gp:=Mth.g_pos (a:=b) (b:=n.2) ∅;have gd:=Mth.JbW b n.2;have gl:=Mth.g_le (a:=b) (b:=n.2) ∅;have d1:DivOk (Mth.g b n.2):=divOk (n:=110) ∅ (Nat.lt_of_le_of_lt (by ac_nf:(Mth.g b n.2).natAbs<=n.2.natAbs) r.2);have f1:=Mth.Jcf gd ∅ r.1;have sf:Mth.Sz 110 (n.2.fdiv (Mth.g b n.2)):=r.2.fdiv gd ∅;mvcgen;show ixF1 S ?_;show(x,_,l,_, .int b,rfl,p,e.cls,e.n1,rfl,?_);show ixF1 S ?_;mvcgen;show(_,_,rfl,?_);mvcgen;show(d1,?_);generalize n.2.fdiv (Mth.g b n.2)=f at *;mvcgen;by_cases c:1<f
  .rw[if_pos (by simpa using c)];mvcgen;try simpa only[y4ey,y85y]
   show(x,_,l,_, .int b,rfl,p,e.cls,e.n1,rfl,?_);try simpa only[y4ey,y85y]
   show(mulOk G sf,?_);show(x,_,l,_,rfl,p,e.cls,e.n1,by simp,?_);generalize O:upd C x _=v;mvcgen;have e5:v x=some (.ins Ad.Scale l [("bottom", .int (b*f)),("factors", .ref d)]):=by rw[<- O];show Jam.trans rfl
   have f5:v d=some (.lst (m.map V.int)):=by rw[<- O,Jah X];show L
   have T5:SameT C v:=SameT.put O p rfl;try simpa only[y4ey,y85y]
   show(x,_,l,_, .ref d,rfl,e5,e.cls,e.n2,rfl,?_);show(.inl ⟨rfl,_,SqL.of f5⟩,?_);mvcgen;show(d,_,_,rfl,rfl,f5,by rw[length_map];ac_nf,?_);generalize R:upd v d _=H6;mvcgen;have f6:=putE R;have T6:SameT v H6:=SameT.put R f5 rfl;mvcgen;show(li,_,_,b*f,m++[f],rfl,by rw[<- R,Jah (Ne.symm X)];show e5,by rw[f6];simp,λc u B h=>by rw[<- R,Jah (Jai h o), <- O,Jah B];show U c u B h,M.trans (T5.trans T6),hs.snoc ∅,?_,by simp;ac_nf);have:=(show Mth.Sz (1+110*i) b by assumption).mul sf;show this.mono ∅
  .rw[if_neg (by simpa using c)];mvcgen;mvcgen;show(li,_,_,b,m,rfl,p,L,U,M,hs,(show Mth.Sz (1+110*i) b by assumption).mono ∅,by ac_nf)
 .intro σ C z_;let(hi,Z,v3,b,m,rfl,p,L,U,M,hs,G,lf):=z_;mvcgen;show k b m d C p o L U hs (G.mono ∅) ∅
abbrev Bav:Stmt:=inClass (top 17) 1
theorem JaS:Jan ["self","number","top","rest","factor","shared"] ["self","number"] (Jae Bav):=by bv_decide
def Jbb(K:W.Frag)(Ad:Adr):Sp:=λvs H Q E=>∃(x:Addr)(v:V)(n:Fr2)(b:Int)(fs:List Int),vs=[.ref x,v]/\SCK Ad H x b fs/\FrV K H v n.1 n.2/\FB 1000 900 n/\∀ p (t:Fr2) H',Same H H'->H' p=some (.tup [.int t.1, .int t.2])->LInv n b t->Q (.ref p) H'
theorem Jex(F:"lifted"∘"Scale.lifted"∘Bav)(T:Txt K mg Ad)(Bac:1∘"common_divisor"∘["one","other"]∘(JaB)):2∘["self","number"]∘(Jbb K Ad):=by
 show F.okn JaS (by subst_eqs) (λa1 A U s H vs Q E Z h=>?_)
 let(x,v,n,b,d,rfl,h):=h;have Y:=Z.units;show(_,(Jab (ps_if (Jar (JbO Y) (pe_op JaI (Jas (pv 0) rfl) (!1)) Jad (Jav _)) (Jag (Jaq (JaE %[pe_op JaV (!1) (pe_op Jau (Jas (pv 0) rfl) (!1)),Jad|0])))
   Jat) (Jab (Jaj 2 JaS.nd (!1)) (Jab (Jaj 3 JaS.nd (!1)) (Jab (JaN PassesOwn.never rfl (pi_U (Jas (pv 0) rfl)) (Jap 4 JaS.nd) (Jab (Jaj 5 JaS.nd (Bac.ev Z ⋯ rfl passF %[pv 3,pv 4|0])) (Jab (Jaj 2 JaS.nd (pe_op JaV (pv 2) (pe_op Jau (pv 4) (pv 5)))) (Jag (Jaj 3 JaS.nd (pe_op Jau (pv 3) (pv 5))))))) (Jag (Jaq (JaE %[pv 2,pv 3|0]))))))),?_)
 clear Y;let((M,fl,S,X,o,J,a0),m,r,k):=h;have l:=T.Bcv Ad.Scale rfl;have sl:(1000:Nat)<=sizeLine:=by decide
 have W:=r.b1;have b1:=o.b1;have d1:DivOk n.2:=divOk (n:=900) ∅ r.s2;show tSeq _ _ _ [some (.ref x),some v,none,none,none,none] H;mleave;show(x,_,M,_, .int b,rfl,S,l.cls,l.n1,rfl,?_);show ixF1 m ?_;mleave;show(by ac_nf,?_);by_cases c:b.fmod n.2=0
 .rw[if_pos (by simpa using c)];mleave;mleave;show ixF0 m ?_;show(x,_,M,_, .int b,rfl,S,l.cls,l.n1,rfl,?_);show ixF1 m ?_;mleave;have dv:n.2∣b:=by
   rw[Int.fmod_eq_emod_of_nonneg _ ∅]at c;show Int.dvd_of_emod_eq_zero c
  show(d1,mulOk r.s1 (J.fdiv dv W),len2,?_);rename_i p O G H I L N;mleave;show k p (n.1*b.fdiv n.2,1) I L N (LInv.all W c)
 .rw[if_neg (by simpa using c)];mleave;mleave;show ixF0 m ?_;mleave;show ixF1 m ?_;mleave;show(x,_,M,_, .ref fl,rfl,S,l.cls,l.n2,rfl,?_);show(fl,rfl,ForA.byL (xs:=d.map V.int) (SqL.of X) (λi σ z=>i<=(d.map V.int).length/\z=H/\∃(t:Fr2)(D R:Option V),σ=[some (.ref x),some v,some (.int t.1),some (.int t.2),D,R]/\LInv n (prodI (d.take i)) t) ⟨Nat.zero_le _,rfl,n,none,none,rfl,LInv.nil W r.g1⟩ (λi σ z q=>by rw[q.2.1];show SqL.of X) ?_ ?_)
  .intro i y σ z j z_;let(hi,rfl,t,D,R,rfl,B):=z_;have C:=(List.getElem?_eq_some_iff.mp j).1;rw[length_map]at C;rw[List.getElem?_map,List.getElem?_eq_getElem C]at j;obtain⟨f,e⟩:∃ f,f=d[i]:=⟨_,rfl⟩;rw[<- e]at j;have j:y=.int f:=(Option.some.inj j).symm;subst j;have fm:f∈d:=by rw[e];show List.getElem_mem C
   have f1:=o.f1 f fm;have u:Mth.Sz 2000 f:=sz_le J ∅ (o.mem fm);have tk:=o.take i;have tb:=B.fb r (sz_le J ∅ tk.2);have gp:=Mth.g_pos (a:=t.2) (b:=f) ∅;have gl:=Mth.g_le (a:=t.2) (b:=f) ∅;have dg:DivOk (Mth.g t.2 f):=divOk (n:=2000) ∅ (Nat.lt_of_le_of_lt (by ac_nf:(Mth.g t.2 f).natAbs<=f.natAbs) u);have qf:=u.fdiv (Mth.JbW t.2 f) ∅;have st:=B.step f1;have et:prodI (d.take (i+1))=prodI (d.take i)*f:=by
    rw[take_succ,List.getElem?_eq_getElem C, <- e];show Jcq f _
   mleave;show(_,_,rfl,?_);mleave;show(dg,mulOk tb.s1 qf,?_);mleave;show(dg,?_);mleave;show(by rw[length_map];ac_nf,(t.1*f.fdiv (Mth.g t.2 f),t.2.fdiv (Mth.g t.2 f)),_,_,rfl,by rw[et];show st)
  .intro σ z z_;let(hi,rfl,t,D,R,rfl,B):=z_;rw[take_of_length_le (by rw[length_map];ac_nf),o.pr]at B;mleave;show(len2,?_);rename_i p O G z I L N;mleave;show k p t I L N B
abbrev Baq:Stmt:=inClass (top 17) 2
theorem JaL:Jan ["self","number","top","bottom","factor","shared"] ["self","number"] (Jae Baq):=by bv_decide
def JbS(K:W.Frag)(Ad:Adr):Sp:=λvs H Q E=>∃(x:Addr)(v:V)(n:Fr2)(b:Int)(fs:List Int),vs=[.ref x,v]/\SCK Ad H x b fs/\FrV K H v n.1 n.2/\FB 3000 1000 n/\∀ p (t:Fr2) H',Same H H'->H' p=some (.tup [.int t.1, .int t.2])->LoInv n b t->Q (.ref p) H'
theorem JdY(F:"lowered"∘"Scale.lowered"∘Baq)(T:Txt K mg Ad)(Bac:1∘"common_divisor"∘["one","other"]∘(JaB)):2∘["self","number"]∘(JbS K Ad):=by
 show F.okn JaL (by subst_eqs) (λa1 A C s H Z Q E hr h=>?_)
 let(x,v,n,b,c,rfl,h):=h;show(_,(Jab (Jaj 2 JaL.nd (!1)) (Jab (Jaj 3 JaL.nd (!1)) (Jab (JaN PassesOwn.never rfl (pi_U (Jas (pv 0) rfl)) (Jap 4 JaL.nd) (Jab (Jaj 5 JaL.nd (Bac.ev hr ⋯ rfl passF %[pv 2,pv 4|0])) (Jab (Jaj 2 JaL.nd (pe_op Jau (pv 2) (pv 5))) (Jag (Jaj 3 JaL.nd (pe_op JaV (pv 3) (pe_op Jau (pv 4) (pv 5)))))))) (Jag (Jaq (JaE %[pv 2,pv 3|0])))))),?_)
 let((U,J,hx,I,j,G,N),D,z,k):=h;have L:=T.Bcv Ad.Scale rfl;have n1:=z.b1;have b1:=j.b1;show tSeq _ _ _ [some (.ref x),some v,none,none,none,none] H;mleave;show ixF0 D ?_;mleave;show ixF1 D ?_;mleave;show(x,_,U,_, .ref J,rfl,hx,L.cls,L.n2,rfl,?_);show(J,rfl,ForA.byL (xs:=c.map V.int) (SqL.of I) (λi σ m=>i<=(c.map V.int).length/\m=H/\∃(t:Fr2)(u B:Option V),σ=[some (.ref x),some v,some (.int t.1),some (.int t.2),u,B]/\LoInv n (prodI (c.take i)) t) ⟨Nat.zero_le _,rfl,n,none,none,rfl,LoInv.nil z.lo⟩ (λi σ m q=>by rw[q.2.1];show SqL.of I) ?_ ?_)
 .intro i y σ m e z_;let(hi,rfl,t,u,B,rfl,o):=z_;have r:=(List.getElem?_eq_some_iff.mp e).1;rw[length_map]at r;rw[List.getElem?_map,List.getElem?_eq_getElem r]at e;obtain⟨f,d⟩:∃ f,f=c[i]:=⟨_,rfl⟩;rw[<- d]at e;have e:y=.int f:=(Option.some.inj e).symm;subst e;have fm:f∈c:=by rw[d];show List.getElem_mem r
  have f1:=j.f1 f fm;have l:Mth.Sz 2000 f:=sz_le G ∅ (j.mem fm);have tk:=j.take i;have pb:Mth.Sz 2000 (prodI (c.take i)):=sz_le G ∅ tk.2;have t2:Mth.Sz 3000 t.2:=by
   show Nat.lt_of_le_of_lt o.le2 ?_;have:=z.s2.mul pb;unfold Mth.Sz at this;rw[Int.natAbs_mul]at this;show this
  have gp:=Mth.g_pos (a:=t.1) (b:=f) ∅;have gl:=Mth.g_le (a:=t.1) (b:=f) ∅;have M:DivOk (Mth.g t.1 f):=divOk (n:=2000) ∅ (Nat.lt_of_le_of_lt (by ac_nf:(Mth.g t.1 f).natAbs<=f.natAbs) l);have X:=l.fdiv (Mth.JbW t.1 f) ∅;have S:=o.step f1;have et:prodI (c.take (i+1))=prodI (c.take i)*f:=by
   rw[take_succ,List.getElem?_eq_getElem r, <- d];show Jcq f _
  mleave;show(_,_,rfl,?_);mleave;show(M,?_);mleave;show(M,mulOk t2 X,?_);mleave;show(by rw[length_map];ac_nf,(t.1.fdiv (Mth.g t.1 f),t.2*f.fdiv (Mth.g t.1 f)),_,_,rfl,by rw[et];show S)
 .intro σ m z_;let(hi,rfl,t,u,B,rfl,o):=z_;rw[take_of_length_le (by rw[length_map];ac_nf),j.pr]at o;mleave;show(len2,?_);rename_i p a0 O m R W Y;mleave;show k p t R W Y o
abbrev Bbe:Stmt:=top 30
theorem Jcw:Jan ["thing","numbers","part","gap"] ["thing"] (Jae Bbe):=by bv_decide
def JcE(K:W.Frag)(Ad:Adr):Sp:=λvs H Q E=>∃(x:Addr)(ls:List PD)(gs:List GD),vs=[.ref x]/\TK K Ad H x ls gs/\ls.length<=12/\gs.length<=7/\ls.length+gs.length<=9/\(∀ p∈ls,(1<=p.sz.2/\Mth.Sz 110 p.sz.2)/\1<=p.mo.2/\Mth.Sz 110 p.mo.2)/\(∀ g∈gs,(1<=g.lo.2/\Mth.Sz 110 g.lo.2)/\1<=g.hi.2/\Mth.Sz 110 g.hi.2)/\∀ s b fs H',Same H H'->SCK Ad H' s b fs->Q (.ref s) H'
theorem JgY(F:"scale_of"∘Bbe)(T:Txt K mg Ad)(Bao:2∘"parts"∘(JaF Ad)∘["self"]∘(JaH K Ad))(BaA:2∘"gaps"∘(JaF Ad)∘["self"]∘(JaO K Ad))(Bdu:KCal P w K mg base 2 "Scale" Ad.Scale ["self","numbers"] (JbI K Ad)):4∘["thing"]∘(JcE K Ad):=by
 show F.okn Jcw (by subst_eqs) (λb8 A b3 s H vs Q E hr h=>?_)
 let(x,ls,gs,rfl,h):=h;show(_,(Jab (Jaj 1 Jcw.nd (Jbj Jac)) (Jab (JaN PassesOwn.never rfl (pi_U (Bao.m0 hr ⋯ passF (pv 0))) (Jap 2 Jcw.nd) (Jag (Ja6 (pe_bm PySem.F.plainAttrs_list PySem.F.slot_list_extend PySem.F.type_list_extend Jgf (pv 1) %[Jbj %[!2,!2|0]|0])))) (Jab (JaN PassesOwn.never rfl (pi_U (BaA.m0 hr ⋯ passF (pv 0))) (Jap 3 Jcw.nd) (Jag (Ja6 (pe_bm PySem.F.plainAttrs_list PySem.F.slot_list_extend PySem.F.type_list_extend Jgf (pv 1) %[Jbj %[!3,!3|0]|0])))) (Jag (Jaq (Bdu.ev hr ⋯ rfl passF %[pv 1|0])))))),?_)
 let(ht,h7,h6,b7,a7,b0,k):=h;let(dx,d1,d2,d3,k1,k2,k3,hx,_):=id ht;have sl:(1000:Nat)<=sizeLine:=by decide
 show tSeq _ _ _ [some (.ref x),none,none,none] H;cbv;show(len0,?_);rename_i r J b5 H H1 S1 e1;cbv;cbv;show(x,_,dx,_,rfl,S1 _ _ hx,rfl,rfl,x,ls,gs,rfl,ht.same S1,by ac_nf,λl ys H2 S2 a0 e2 hY=>?_);have lY:=hY.length;have b2:l≠r:=λz=>by rw[z,e1]at a0;cases a0
 cbv;show(l,rfl,ForA.byL (xs:=ys) (SqL.of e2) (λi σ C=>i<=ys.length/\∃(L N:Option V)(j:List V)(e:List Fr2),σ=[some (.ref x),some (.ref r),L,N]/\(∀ c u,c≠r->H2 c=some u->C c=some u)/\SameT H2 C/\C r=some (.lst j)/\All2 (FLV K C) e j/\(∀ n∈e,1<=n.2/\Mth.Sz 110 n.2)/\e.length=2*i) ⟨Nat.zero_le _,none,none,[],[],rfl,λ_ _ _ h=>h,(Same.refl _).t,S2 _ _ e1,rfl,(λn d=>by cases d),rfl⟩ (λi σ C q=>by let(_,_,_,_,_,_,q,_):=q;show SqL.of (q _ _ b2 e2)) ?_ ?_)
 .intro i y σ H3 U z_;let(hi,L,N,j,e,rfl,ho,W,o,v,a,S):=z_;have li:=(List.getElem?_eq_some_iff.mp U).1;have la:=v.length;let(p,hp,b,vz,vm,rfl,hb,hz,hm):=hY.at_ U;have a4:=a7 p (List.mem_of_getElem? hp);have a3:=hb.sameT W;cbv;show(.inl ⟨rfl,_,SqL.of o⟩,?_);show ixT (i:=3) a3 rfl ?_;show ixT (i:=4) a3 rfl ?_;cbv;show(len2,?_);rename_i tl Y a1 H3 H4 M e4;cbv;show(r,tl,j,_,rfl,rfl,M _ _ o,e4,by simp only[length_cons,length_nil];ac_nf,?_);generalize u5:upd H4 r _=D;cbv;have e5:=putE u5;have T5:SameT H4 D:=SameT.put u5 (M _ _ o) rfl;have I:SameT H3 D:=M.t.trans T5;cbv;show(li,_,_,j++[vz,vm],e++[p.sz,p.mo],rfl,λc u hc h=>by rw[<- u5,Jah hc];show M _ _ (ho c u hc h),W.trans I,e5,(v.mono (P':=FLV K D) λ_ _ z=>z.sameT I).append ⟨vz,_,rfl,FrV.sameT (W.trans I) hz,vm,_,rfl,FrV.sameT (W.trans I) hm,rfl⟩,λn d=>?_,by simp;ac_nf);rcases mem_append.mp d with d | d
  .show a n d
  .rcases mem_cons.mp d with rfl | d
   .show a4.1
   .rw[mem_singleton.mp d];show a4.2
 .intro σ H3 z_;let(hi,L,N,j,e,rfl,ho,W,o,v,a,S):=z_;have O:Same H H3:=λc u h=>ho c u (Jai h J) (S2 _ _ (S1 _ _ h));cbv;show(x,_,dx,_,rfl,O _ _ hx,rfl,rfl,x,ls,gs,rfl,ht.same O,by ac_nf,λm zs H4 M a5 e4 hZ=>?_);have lZ:=hZ.length;have b4:m≠r:=λz=>by rw[z,o]at a5;cases a5
  have la:=v.length;cbv;show(m,rfl,ForA.byL (xs:=zs) (SqL.of e4) (λi σ C=>i<=zs.length/\∃(L N:Option V)(j:List V)(e:List Fr2),σ=[some (.ref x),some (.ref r),L,N]/\(∀ c u,c≠r->H4 c=some u->C c=some u)/\SameT H4 C/\C r=some (.lst j)/\All2 (FLV K C) e j/\(∀ n∈e,1<=n.2/\Mth.Sz 110 n.2)/\e.length<=2*ls.length+2*i) ⟨Nat.zero_le _,L,N,j,e,rfl,λ_ _ _ h=>h,(Same.refl _).t,M _ _ o,v.mono (λ_ _ z=>z.sameT M.t),a,by ac_nf⟩ (λi σ C q=>by let(_,_,_,_,_,_,q,_):=q;show SqL.of (q _ _ b4 e4)) ?_ ?_)
  .clear v a S o la;intro i y σ D U z_;let(hi,L,N,j,e,rfl,R,B,o,v,a,S):=z_;have li:=(List.getElem?_eq_some_iff.mp U).1;have la:=v.length;let(g,hg,b,vz,vm,rfl,hb,hz,hm):=hZ.at_ U;have a2:=b0 g (List.mem_of_getElem? hg);have X:=hb.sameT B;cbv;show(.inl ⟨rfl,_,SqL.of o⟩,?_);show ixT (i:=3) X rfl ?_;show ixT (i:=4) X rfl ?_;cbv;show(len2,?_);rename_i tl Y a1 D H6 S6 e6;cbv;show(r,tl,j,_,rfl,rfl,S6 _ _ o,e6,by simp only[length_cons,length_nil];ac_nf,?_);generalize u7:upd H6 r _=H7;cbv;have e7:=putE u7;have T7:SameT H6 H7:=SameT.put u7 (S6 _ _ o) rfl;have G:SameT D H7:=S6.t.trans T7;cbv;show(li,_,_,j++[vz,vm],e++[g.lo,g.hi],rfl,λc u hc h=>by rw[<- u7,Jah hc];show S6 _ _ (R c u hc h),B.trans G,e7,(v.mono (P':=FLV K H7) λ_ _ z=>z.sameT G).append ⟨vz,_,rfl,FrV.sameT (B.trans G) hz,vm,_,rfl,FrV.sameT (B.trans G) hm,rfl⟩,λn d=>?_,by simp;ac_nf);rcases mem_append.mp d with d | d
   .show a n d
   .rcases mem_cons.mp d with rfl | d
    .show a2.1
    .rw[mem_singleton.mp d];show a2.2
  .clear v a S o la;intro σ D z_;let(hi,L,N,j,e,rfl,R,B,o,v,a,S):=z_;have Z:Same H D:=λc u h=>R c u (Jai h J) (M _ _ (O _ _ h));cbv;intro s ds hs b1 b6;have Sm:Same D (upd (upd D ds (.own s)) s (.ins Ad.Scale ds [])):=λb u q=>by rw[Jah (Jai q hs),Jah (Jai q b1)];show q
   show(s,ds,r,j,e,rfl,Jam,Sm _ _ o,v.mono (λ_ _ z=>z.sameT Sm.t),by ac_nf,a,λb fs fl H6 h1 h2 h3 h4 a9 a6 a8=>⟨rfl,k s b fs H6 (λc u h=>?_) ⟨ds,fl,h1,h3,a9,a6,a8⟩⟩);show h4 c u (Jai (Z _ _ h) hs) (Sm _ _ (Z _ _ h))
abbrev BaQ:Stmt:=top 31
theorem JfP:Jan ["thing","gap_name"] ["thing","gap_name"] (Jae BaQ):=by bv_decide
def Jb2(K:W.Frag)(Ad:Adr):Sp:=λvs H Q E=>∃(x:Addr)(ls:List PD)(gs:List GD)(g:GD),vs=[.ref x, .str g.nm]/\TK K Ad H x ls gs/\(ls.map (·.nm)).Nodup/\ls.length<=12/\g∈gs/\(∀ u∈gs,u.nm=g.nm->u=g)/\∀ l (w:List Pr) H',Same H H'->H' l=some (.lst ((w.map (·.1)).map V.str))->JaP ls g.st w g.en->(w.map (·.1)).Nodup->Q (.ref l) H'
theorem JfB(F:"part_names"∘BaQ)(T:Txt K mg Ad)(BcU:1∘"way"∘(JaF Ad)∘["self","name"]∘(JbQ K Ad)):2∘["thing","gap_name"]∘(Jb2 K Ad):=by
 show F.okn JfP (by subst_eqs) (λZ A t s H U Q E hr h=>?_)
 let(x,q,G,g,rfl,h):=h;show(_,(Jag (Jaq (JcM (JaY (own:=["name","forward"]) (cs:=[]) rfl (pi_U (BcU.m hr ⋯ passF (pv 0) %[pv 1|0])) (λ_ _ _ _=>(JfG (K:=K) (n:=2) rfl rfl (JaX (Jap 0 (show[("name" : Str),("forward" : Str)].Nodup by decide) (hf:=Or.inr rfl)) (JaX (Jap 1 (show[("name" : Str),("forward" : Str)].Nodup by decide) (hf:=Or.inr rfl)) JcN)))) (λ_ _ _ _=>JbE) (λ_ _ _ _=>(pv 0)) (Jbk rfl) ⋯ rfl ⋯ hcs0)))),?_);let(C,a1,h8,R,o,k):=h;let(O,d1,d2,d3,k1,k2,k3,hx,_):=id C;have sl:(1000:Nat)<=sizeLine:=by decide
 show tRet _ _ [some (.ref x),some (.str g.nm)] H;cbv;show(x,_,O,_,rfl,hx,rfl,rfl,x,g.nm,q,G,rfl,C,λz=>absurd (mem_map.mpr ⟨g,R,rfl⟩) z,λY u I l xs w L N a0 B d D a=>?_);have e:=o Y u I;subst e;have lx:=d.length;have lw:w.length<=12:=by
  have:=sub_len (w.map (·.1)) (q.map (·.nm)) a λn W=>Jb4 (JdD D) n W;rw[length_map,length_map]at this;ac_nf
 cbv;show(l,rfl, .inl ⟨⟨xs,SqL.of B⟩,CompJ.list (xs:=xs) (λi v c=>c=L/\v=((w.take i).map (·.1)).map V.str) ⟨rfl,rfl⟩ (λi v c hi z=>⟨by rw[z.1];show SqL.of B,by rw[z.2,length_map,length_map,length_take];ac_nf⟩) ?_ ?_⟩)
 .rintro i y j c S ⟨rfl,rfl⟩;let(pr,p,b,rfl,hb):=d.at_ S;simpa only[length_singleton,length_cons,length_nil,List.replicate,Jaz,map_cons,map_nil,Option.join_some];show(b,_,rfl,SqT.of hb,rfl,?_);cbv;rw[take_succ,p];simp
 .rintro j c ⟨rfl,rfl⟩;rw[take_of_length_le ∅];rename_i r J a2 c X S2 M;cbv;show k r w X (N.trans S2) M D a
abbrev Baw:Stmt:=inClass (top 32) 0
theorem JeK:Jan ["self","name","rest","weights"] ["self","name","rest","weights"] (Jae Baw):=by bv_decide
def Jca(K:W.Frag)(Ad:Adr):Sp:=λvs H Q E=>∃(x dx wd:Addr)(nm:Str)(vr:V)(ws:List (Str × Int)),vs=[.ref x, .str nm,vr, .ref wd]/\H x=some (.ins Ad.Lid dx [])/\H wd=some (.dK (wsK ws))/\∀ H',H' x=some (.ins Ad.Lid dx [("name", .str nm),("rest",vr),("weights", .ref wd),("load", .int (ws.map (·.2)).sum),("last_level", .ref Ad.ZERO)])->(∀ b,b≠x->H' b=H b)->Q .non H'
theorem Jew(F:"__init__"∘"Lid.__init__"∘Baw)(T:Txt K mg Ad)  : 1∘["self","name","rest","weights"]∘(Jca K Ad):=by
 show F.okn JeK (by subst_eqs) (λO A r s H N Q E X h=>?_)
 let(x,c,e,g,i,j,rfl,h):=h;show(_,(Jab (Ja5 (pv 0) (pv 1) rfl) (Jab (Ja5 (pv 0) (pv 2) rfl) (Jab (Ja5 (pv 0) (pv 3) rfl) (Jab (Ja5 (pv 0) (JlB rfl rfl rfl T.n_sum JlU (pv 3)) rfl) (Jag (Ja5 (pv 0) (Jcv (v:=.ref _) rfl T.Bcs T.Bct) rfl)))))),?_)
 let(u,p,k):=h;have d:=T.c_Lid Ad.Lid rfl;have q:e≠x:=λz=>by rw[z,u]at p;cases p
 show tSeq _ _ _ [some (.ref x),some (.str g),some i,some (.ref e)] H;mexact;show(x,_,c,_,rfl,u,d.cls,d.n1,by simp,?_);generalize C:upd H x _=m;mexact;have M:m x=some (.ins Ad.Lid c [("name", .str g)]):=by rw[<- C];show Jam.trans rfl
 have R:∀ b,b≠x->m b=H b:=λb a=>by rw[<- C,Jah a]
 mexact;show(x,_,c,_,rfl,M,d.cls,d.n2,by simp,?_);generalize G:upd m x _=o;mexact;have J:o x=some (.ins Ad.Lid c [("name", .str g),("rest",i)]):=by rw[<- G];show Jam.trans rfl
 have L:∀ b,b≠x->o b=H b:=λb a=>by rw[<- G,Jah a];show R b a
 mexact;show(x,_,c,_,rfl,J,d.cls,d.n3,by simp,?_);generalize I:upd o x _=l;mexact;have W:l x=some (.ins Ad.Lid c [("name", .str g),("rest",i),("weights", .ref e)]):=by rw[<- I];show Jam.trans rfl
 have B:∀ b,b≠x->l b=H b:=λb a=>by rw[<- I,Jah a];show L b a
 mexact;show(e,wsK j,j.map (·.2),rfl,by rw[B e q];show p,Jke j,?_);mexact;show(x,_,c,_,rfl,W,d.cls,d.n4,by simp,?_);generalize D:upd l x _=n;mexact;have V:n x=some (.ins Ad.Lid c [("name", .str g),("rest",i),("weights", .ref e),("load", .int (j.map (·.2)).sum)]):=by rw[<- D];show Jam.trans rfl
 have U:∀ b,b≠x->n b=H b:=λb a=>by rw[<- D,Jah a];show B b a
 mexact;show(x,_,c,_,rfl,V,d.cls,d.n5,by simp,?_);generalize t:upd n x _=y;mexact;have S:y x=some (.ins Ad.Lid c [("name", .str g),("rest",i),("weights", .ref e),("load", .int (j.map (·.2)).sum),("last_level", .ref Ad.ZERO)]):=by rw[<- t];show Jam.trans rfl
 show k y S λb a=>by rw[<- t,Jah a];show U b a
abbrev Bam:Stmt:=inClass (top 32) 1
theorem JdG:Jan ["self"] ["self"] (Jae Bam):=by bv_decide
def JbH(K:W.Frag)(Ad:Adr):Sp:=λvs H Q E=>∃(q:Addr)(e:LidD),vs=[.ref q]/\LDV K Ad H e (.ref q)/\FB 3000 1000 e.rest/\1<=e.load/\Mth.Sz 64 e.load/\∀ p H',Same H H'->H' p=some (.tup [.int (divF e.rest (e.load,1)).1, .int (divF e.rest (e.load,1)).2])->Q (.ref p) H'
theorem Jdy(F:"full_level"∘"Lid.full_level"∘Bam)(T:Txt K mg Ad)(BcY:3∘"over"∘["one","other"]∘(JfV K Ad)):4∘["self"]∘(JbH K Ad):=by
 show F.okn JdG (by subst_eqs) (λy A d s H t Q E c h=>?_)
 let(q,e,rfl,h):=h;show(_,(Jag (Jaq (BcY.ev c ⋯ rfl passF %[Jas (pv 0) rfl,JaE %[Jas (pv 0) rfl,Jad|0]|0]))),?_);let((O,l,j,L,J,D,i,c,M,N),a,G,x,k):=h;cases D;have b:=T.c_Lid Ad.Lid rfl;show tRet _ _ [some (.ref q)] H;mleave;show(q,_,l,_,j,rfl,i,b.cls,b.n2,rfl,?_);show(q,_,l,_, .int e.load,rfl,i,b.cls,b.n4,rfl,?_);mleave;show(len2,?_);rename_i p v n H I m r;mleave;show(j, .ref p,_,_,e.load,1,rfl,c.same m,FrV.of r,a.s1.mono ⋯,a.s2.mono ⋯,x.mono ⋯, .lit ⋯ ⋯,a.b1,by decide,a.g1,by unfold Mth.g;simp,λz=>absurd z ∅,λ_ C u B o=>?_);show k C u (m.trans B) o
abbrev BaR:Stmt:=inClass (top 32) 2
theorem Jdp:Jan ["self","part","level","weight"] ["self","part","level"] (Jae BaR):=by bv_decide
def Jcx(K:W.Frag)(Ad:Adr):Sp:=λvs H Q E=>∃(q:Addr)(n:Str)(lv:V)(e:LidD)(L:Fr2),vs=[.ref q, .str n,lv]/\LDV K Ad H e (.ref q)/\FrV K H lv L.1 L.2/\FB 3000 1000 e.rest/\FB 3000 1000 L/\(∀ x∈e.ws,Mth.Sz 64 x.2)/\∀ H',(∀ b u,b≠q->H b=some u->H' b=some u)->LDV K Ad H' (e.settle n L) (.ref q)->(∀ d kv,H d=some (.dK kv)->LDV K Ad (cut d H) e (.ref q)->LDV K Ad (cut d H') (e.settle n L) (.ref q))->Q .non H'
theorem Jfr(F:"settle"∘"Lid.settle"∘BaR)(T:Txt K mg Ad)(Bbt:3∘"minus"∘["one","other"]∘(Jdr K))(Bbs:2∘"times"∘["one","other"]∘(Jds K)):4∘["self","part","level"]∘(Jcx K Ad):=by
 show F.okn Jdp (by subst_eqs) (λb3 A a4 s H vs Q E S h=>?_)
 let(q,n,G,e,L,rfl,h):=h;have hu:=S.units;show(_,(Jag (ps_if (JeI (Jhz (hu1 hu) (pv 1) (Jas (pv 0) rfl)) (by with_unfolding_all rfl)) (Jab (Jaj 3 Jdp.nd (Jb6 (hu1 hu) (Jas (pv 0) rfl) (pv 1) (λ_ _=>rfl))) (Jab (Ja5 (pv 0) (Bbt.ev S ⋯ rfl passF %[Jas (pv 0) rfl,Bbs.ev S ⋯ rfl passF %[pv 2,JaE %[pv 3,Jad|0]|0]|0]) rfl) (Jab (Ja5 (pv 0) (pe_op JiW (Jas (pv 0) rfl) (pv 3)) rfl) (Jag (Ja5 (pv 0) (pv 2) rfl)))))
   Jat)),?_)
 clear hu;let(hd,hl,fr,o,a1,k):=h;let(q',l,vr,vt,m,hv,v,S,ht,U):=id hd;cases hv;have j:=T.c_Lid Ad.Lid rfl;have R:m≠q:=λz=>by rw[z,v]at U;cases U
 have Z:=DGet.k (k:=Sum.inr n) U;rw[Jhb]at Z;show tIfS _ _ _ _ [some (.ref q),some (.str n),some G,none] H;try simpa only[y4ey,y85y]
 show(q,_,l,_, .ref m,rfl,v,j.cls,j.n3,rfl,?_);show(m,_,rfl,Z,?_);cases hwt:wtOf e.ws n with
 | none=>
  rw[show((none:Option Int).map V.int).isSome=false from rfl];try simpa only[y4ey,y85y]
  have X:e.settle n L=e:=by unfold LidD.settle;rw[hwt]
  show k H (λb u _ h=>h) (by rw[X];show hd) (λd kv _ h=>by rw[X];show h)
 | some w=>
  rw[hwt]at Z;have X:e.settle n L={ e with rest:=subF e.rest (mulF L (w,1)),load:=e.load-w,last:=L }:=by unfold LidD.settle;rw[hwt]
  have sw:=a1 _ (Jjy hwt);rw[show((some w).map V.int).isSome=true from rfl];try simpa only[y4ey,y85y]
  show(q,_,l,_, .ref m,rfl,v,j.cls,j.n3,rfl,?_);show(m, .int w,rfl,Z,?_);try simpa only[y4ey,y85y]
  show(q,_,l,_,vr,rfl,v,j.cls,j.n2,rfl,?_);try simpa only[y4ey,y85y]
  show(len2,?_);rename_i p a9 b2 H H1 S1 e1;mvcgen;show(G, .ref p,_,_,w,1,rfl,hl.same S1,FrV.of e1,o.s1.mono ⋯,o.s2.mono ⋯,sw.mono ⋯, .lit ⋯ ⋯,o.b1,by decide,o.g1,by unfold Mth.g;simp,λp2 H2 S2 e2=>?_);have N:=S1.trans S2;have ml:=Jfq (a:=L) (c:=(w,1)) o.b1 (Int.le_refl 1);have a6:Mth.Sz 4000 (mulF L (w,1)).1:=(Mth.Sz.top (by have:=o.b1;show L.2*1≠0;ac_nf) (o.s1.mul sw)).mono ⋯;have a2:Mth.Sz 4000 (mulF L (w,1)).2:=(Mth.Sz.bot (t:=L.1*w) (b:=L.2*1) (by have:=o.b1;ac_nf) (by rw[Int.mul_one];show o.s2)).mono ⋯;have e2:H2 p2=some (.tup [.int (mulF L (w,1)).1, .int (mulF L (w,1)).2]):=e2;try simpa only[y4ey,y85y]
  show(vr, .ref p2,_,_,_,_,rfl,S.same N,FrV.of e2,fr.s1.mono ⋯,fr.s2.mono ⋯,a6,a2,fr.b1,ml.b1,fr.g1,ml.g1,λM H3 S3 e3=>?_);have x:=N.trans S3;have J:=x _ _ v;try simpa only[y4ey,y85y]
  show(q,_,l,_,rfl,J,j.cls,j.n2,by simp,?_);generalize u4:upd H3 q _=O;mvcgen;have e4:O q=some (.ins Ad.Lid l [("name", .str e.nm),("rest", .ref M),("weights", .ref m),("load", .int e.load),("last_level",vt)]):=by rw[<- u4];show Jam.trans rfl
  have o4:∀ b u,b≠q->H b=some u->O b=some u:=λb u Y h=>by rw[<- u4,Jah Y];show x _ _ h
  have T4:SameT H3 O:=SameT.put u4 J rfl;try simpa only[y4ey,y85y]
  show(q,_,l,_, .int e.load,rfl,e4,j.cls,j.n4,rfl,?_);try simpa only[y4ey,y85y]
  show(q,_,l,_,rfl,e4,j.cls,j.n4,by simp,?_);generalize u5:upd O q _=H5;mvcgen;have e5:H5 q=some (.ins Ad.Lid l [("name", .str e.nm),("rest", .ref M),("weights", .ref m),("load", .int (e.load-w)),("last_level",vt)]):=by rw[<- u5];show Jam.trans rfl
  have T5:SameT O H5:=SameT.put u5 e4 rfl;try simpa only[y4ey,y85y]
  show(q,_,l,_,rfl,e5,j.cls,j.n5,by simp,?_);generalize u6:upd H5 q _=D;mvcgen;have e6:D q=some (.ins Ad.Lid l [("name", .str e.nm),("rest", .ref M),("weights", .ref m),("load", .int (e.load-w)),("last_level",G)]):=by rw[<- u6];show Jam.trans rfl
  have T6:SameT H5 D:=SameT.put u6 e5 rfl;have W:=T4.trans (T5.trans T6);have o6:∀ b u,b≠q->H b=some u->D b=some u:=λb u Y h=>by rw[<- u6,Jah Y, <- u5,Jah Y];show o4 b u Y h
  have f3:=FrV.of (K:=K) (W _ _ rfl e3);have fl:=(hl.same x).sameT W;show k D o6 ?_ λd a8 I a0=>?_
  .rw[X];show(q,l, .ref M,G,m,rfl,e6,f3,fl,o6 _ _ R U)
  .let(q',a7,b0,b4,a3,y,B,_,_,r):=a0;have y:q=q':=by injection y
   subst y;have C:q≠d:=λz=>by rw[z,I]at v;cases v
   rw[JbV C,v]at B;simp only[Option.some.injEq,HO.ins.injEq,List.cons.injEq,Prod.mk.injEq,V.ref.injEq,true_and,and_true]at B;have ew:m=a3:=B.2.2.1;subst ew;have a5:m≠d:=λz=>by
    rw[z]at r;unfold cut at r;rw[if_pos rfl]at r;cases r
   have Tc:SameT D (cut d D):=SameT.cutO (o6 _ _ C.symm I) rfl;rw[X];show(q,l, .ref M,G,m,rfl,by rw[JbV C];show e6,f3.sameT Tc,fl.sameT Tc,by rw[JbV a5];show o6 _ _ R U)
abbrev Bah:Stmt:=inClass (top 32) 3
theorem Jdo:Jan ["self","part","level"] ["self","part","level"] (Jae Bah):=by bv_decide
def Jbx(K:W.Frag)(Ad:Adr):Sp:=λvs H Q E=>∃(q:Addr)(n:Str)(lv:V)(e:LidD)(L:Fr2),vs=[.ref q, .str n,lv]/\LDV K Ad H e (.ref q)/\FrV K H lv L.1 L.2/\Q (.bl ((wtOf e.ws n).isSome&&(decide (e.rest=(0,1))&&decide (e.last=L)))) H
theorem Jdj(F:"has_stopped"∘"Lid.has_stopped"∘Bah)(T:Txt K mg Ad)  : 1∘["self","part","level"]∘(Jbx K Ad):=by
 show F.okn Jdo (by subst_eqs) (λB A i s H y Q E g h=>?_)
 let(q,n,l,e,L,rfl,h):=h;have b:=g.units;show(_,(Jag (Jaq (JcL (Jmk (Jhz (hu1 b) (pv 1) (Jas (pv 0) rfl)) (by with_unfolding_all rfl)) (JcL (JbD (JbO b) (Jas (pv 0) rfl) (Jcv (v:=.ref _) rfl T.Bcs T.Bct) (Jav _)) (JdT (JbD (JbO b) (Jas (pv 0) rfl) (pv 2) (Jav _))))))),?_);clear b;let((D,d,o,t,j,C,c,g,x,z),r,k):=h;cases C;have a:=T.c_Lid Ad.Lid rfl;have m:=DGet.k (k:=Sum.inr n) z;rw[Jhb]at m;have u:decide (e.rest=(0,1))=(decide (e.rest.1=0)&&decide (e.rest.2=1)):=by
  rw[<- Bool.decide_and];show decide_eq_decide.mpr Prod.ext_iff
 have p:decide (e.last=L)=(decide (e.last.1=L.1)&&decide (e.last.2=L.2)):=by
  rw[<- Bool.decide_and];show decide_eq_decide.mpr Prod.ext_iff
 rw[u,p]at k;show tRet _ _ [some (.ref q),some (.str n),some l] H;mleave;show(q,_,d,_, .ref j,rfl,c,a.cls,a.n3,rfl,?_);show(j,_,rfl,m,?_);rw[show((wtOf e.ws n).map V.int).isSome=(wtOf e.ws n).isSome by cases wtOf e.ws n <;> rfl];cases c1:(wtOf e.ws n).isSome with
 | false=>
  rw[c1]at k;mleave;show k
 | true=>
  rw[c1]at k;mleave;show(q,_,d,_,o,rfl,c,a.cls,a.n2,rfl,?_);show eqF g ⟨Ad.ZERO,rfl,T.Bcu _⟩ ?_;cases c2:(decide (e.rest.1=0)&&decide (e.rest.2=1))with
  | false=>
   rw[c2]at k;mleave;show k
  | true=>
   rw[c2]at k;mleave;show(q,_,d,_,t,rfl,c,a.cls,a.n5,rfl,?_);show eqF x r ?_;show k
abbrev BbF:Stmt:=top 33
theorem JbG:Jan ["thing","scale","weights","part","lids","gap","room","on_way"] ["thing","scale"] (Jae BbF):=by bv_decide
def JdL(K:W.Frag)(Ad:Adr):Sp:=λvs H Q E=>∃(x sc:Addr)(ls:List PD)(es:List (GD × List Str))(pl:Str->Fr2)(b:Int)(fs:List Int),vs=[.ref x, .ref sc]/\TK K Ad H x ls (es.map (·.1))/\SCK Ad H sc b fs/\SHC ls es pl/\(∀ e∈es,0<=vl (roomF pl e.1))/\∀ ll xs lds H',Same H H'->H ll=none->H' ll=some (.lst xs)->All2 (LDV K Ad H') lds xs->xs.Nodup->(∀ v∈xs, ∃ q,v=.ref q/\H q=none)->lds.length=es.length->(∀(i:Nat) e l,es[i]?=some e->lds[i]?=some l->LSt b ls pl e l)->Q (.ref ll) H'
theorem Jh1(F:"lids_of"∘BbF)(T:Txt K mg Ad)(Bao:2∘"parts"∘(JaF Ad)∘["self"]∘(JaH K Ad))(BaA:2∘"gaps"∘(JaF Ad)∘["self"]∘(JaO K Ad))(BcZ:5∘"room"∘(JaF Ad)∘["self","name"]∘(Jb0 K Ad))(Bai:1∘"under"∘["one","other"]∘(Jb3 K))(BaS:2∘"part_names"∘["thing","gap_name"]∘(Jb2 K Ad))(k_Lid:KCal P w K mg base 1 "Lid" Ad.Lid ["self","name","rest","weights"] (Jca K Ad))(Ba8:2∘"lifted"∘(Jc2 Ad)∘["self","number"]∘(Jbb K Ad)):7∘["thing","scale"]∘(JdL K Ad):=by
 show F.okx JbG (λvs H Q E h=>?_) (λj4 A h4 s H vs Q E hr h=>?_)
 .let(x,sc,ls,es,pl,b,fs,rfl,_):=h;rfl
 let(x,sc,ls,es,pl,b,fs,rfl,h):=h;have hu:=hr.units;show(_,(Jab (Jaj 2 JbG.nd JbK rfl (Or.inr rfl)) (Jab (JaN PassesOwn.leaving rfl (pi_U (Bao.m0 hr ⋯ pass1 (pv 0))) (Jap 3 JbG.nd) (Jag (Jcj (hu1 hu) (pv 2) (!3) (!3) rfl))) (Jab (Jaj 4 JbG.nd (Jbj Jac)) (Jab (JaN PassesOwn.leaving rfl (pi_U (BaA.m0 hr ⋯ pass1 (pv 0))) (Jap 5 JbG.nd) (Jab (Jaj 6 JbG.nd (BcZ.m hr ⋯ pass1 (pv 0) %[!5|0])) (Jab (ps_if (Ja1 (Bai.ev hr ⋯ rfl pass1 %[pv 6,Jcv (v:=.ref _) rfl T.Bcs T.Bct|0])) (Jag ps_no)
   Jat) (Jab (Jaj 7 JbG.nd (JeF (JhL rfl) rfl T.n_dict JkW %[JcM (JaY (own:=["name"]) (cs:=[(2,"weights")]) rfl (pi_U (BaS.ev hr ⋯ rfl pass1 %[pv 0,!5|0])) (λ_ _ _ _=>(Jap 0 (show[("name" : Str),("weights" : Str)].Nodup by decide))) (λ_ _ _ _=>JbE) (λ_ _ _ _=>(JaE %[pv 0,Jb6 (hu1 hu) (pv 1) (pv 0) (λ_ _=>rfl)|0])) (Jbk rfl) ⋯ rfl ⋯ (hcs1 rfl rfl rfl))|0])) (Jag (Ja6 (pe_bm PySem.F.plainAttrs_list PySem.F.slot_list_append PySem.F.type_list_append JaZ (pv 4) %[k_Lid.ev hr ⋯ rfl pass1 %[!5,Ba8.m hr ⋯ pass1 (pv 1) %[pv 6|0],pv 7|0]|0] (hs:=by show Jaf rfl)))))))) (Jag (Jaq (pv 4))))))),?_)
 clear hu;let(ht,d6,M,f6,k):=h;let(dx,d1,d2,d3,k1,k2,k3,hx,_):=id ht;let(f5,fl,c9,_,i0,sb,_):=id d6;have sl:(1000:Nat)<=sizeLine:=by decide
 have j3:=M.l12;have l7:=M.l7;show tSeq _ _ _ [some (.ref x),some (.ref sc),none,none,none,none,none,none] H;cbv;rename_i wd d7 i5 H H1 S1 e1;cbv;show(x,_,dx,_,rfl,S1 _ _ hx,rfl,rfl,x,ls,_,rfl,ht.same S1,by ac_nf,λl ys H2 S2 e0 e2 hY=>?_);have lY:=hY.length;have h9:l≠wd:=λz=>by rw[z,e1]at e0;cases e0
 have g2:=S1.trans S2;cbv;show(l,rfl,ForA.byLN (xs:=ys) (SqL.of e2) (λi σ N=>i<=ys.length/\∃(v3:Option V)(kv:List (Key × V)),σ=[some (.ref x),some (.ref sc),some (.ref wd),v3,none,none,none,none]/\(∀ c u,c≠wd->H2 c=some u->N c=some u)/\SameT H2 N/\N wd=some (.dK kv)/\BG (·.nm) (λp v=>v=.int p.wt) (ls.take i) kv) ⟨Nat.zero_le _,none,[],rfl,λ_ _ _ h=>h,SameT.refl _,S2 _ _ e1,⟨rfl,rfl⟩⟩ (λi σ N q=>by let(_,_,_,_,q,_):=q;show SqL.of (q _ _ h9 e2)) ?_ ?_)
 .intro i y σ H3 O z_ N0 b4;let(hi,v3,kv,rfl,ho,hT,Y,hB):=z_;have li:=(List.getElem?_eq_some_iff.mp O).1;let(p,hp,b_,vz,vm,rfl,hb,_,_):=hY.at_ O;have lB:=hB.length;rw[length_take]at lB;have f0:=hb.sameT hT;cbv;show ixT (i:=5) f0 rfl ?_;cbv;show ixT (i:=0) f0 rfl ?_;show(wd,_,rfl,DPut.k (k:=Sum.inr p.nm) Y ∅,?_);generalize u4:upd H3 wd _=H4;cbv;have e4:=putE u4;have T4:SameT H3 H4:=SameT.put u4 Y rfl;show b4 _ _ ⟨li,_,_,rfl,λc u a1 h=>by rw[<- u4,Jah a1];show ho c u a1 h,hT.trans T4,e4,?_⟩;rw[take_succ,hp];show hB.new (a:=p) (JgR M.nd hp) rfl
 .intro σ H3 z_;let(hi,v3,kv,rfl,ho,hT,Y,hB):=z_;rw[take_of_length_le ∅]at hB;have c5:Same H H3:=λc u h=>ho c u (Jai h d7) (g2 _ _ h);cbv;show(len0,?_);rename_i D a0 i1 H3 H4 S4 e4;cbv;have b3:=c5.trans S4;have Z:H D=none:=Jeh c5 a0;show(x,_,dx,_,rfl,b3 _ _ hx,rfl,rfl,x,ls,_,rfl,ht.same b3,by rw[length_map];ac_nf,λm zs H5 S5 f3 e5 hZ=>?_);have lZ:=hZ.length;rw[length_map]at lZ;have h7:m≠D:=λz=>by rw[z,e4]at f3;cases f3
  have d9:=b3.trans S5;have e3:=S5 _ _ (S4 _ _ Y);cbv;show(m,rfl,ForA.byLN (xs:=zs) (SqL.of e5) (λi σ N=>i<=zs.length/\∃(v5 v6 v7:Option V)(xs:List V)(J:List LidD),σ=[some (.ref x),some (.ref sc),some (.ref wd),v3,some (.ref D),v5,v6,v7]/\(∀ c u,c≠D->H5 c=some u->N c=some u)/\N D=some (.lst xs)/\All2 (LDV K Ad (cut D N)) J xs/\xs.Nodup/\(∀ v∈xs, ∃ q,v=.ref q/\H q=none/\N q≠none)/\J.length=i/\∀(j:Nat) e l,es[j]?=some e->J[j]?=some l->LSt b ls pl e l) ⟨Nat.zero_le _,none,none,none,[],[],rfl,λ_ _ _ h=>h,S5 _ _ e4,rfl, .nil,(λv hv=>by cases hv),rfl,λj e l _ h=>by simp at h⟩ (λi σ N q=>by let(_,_,_,_,_,_,_,q,_):=q;show SqL.of (q _ _ h7 e5)) ?_ ?_)
  .intro i y σ H6 O z_ N0 b4;let(hi,v5,v6,v7,xs,J,rfl,U,ex,hX,b6,a2,c3,c1):=z_;have li:=(List.getElem?_eq_some_iff.mp O).1;have lX:=hX.length;let(g,a6,a_,j1,j0,rfl,hb,_,_):=hZ.at_ O;obtain⟨e,d0,rfl⟩:∃ e,es[i]?=some e/\e.1=g:=by
    rw[List.getElem?_map]at a6;show Option.map_eq_some_iff.mp a6
   have he:=List.mem_of_getElem? d0;have gm:e.1∈es.map (·.1):=mem_map.mpr ⟨e,he,rfl⟩;have W:Same H H6:=λc u h=>U c u (Jai h Z) (d9 _ _ h);have f7:SameT H5 H6:=λc u t h=>U c u (λz=>by have:=S5 _ _ e4;rw[<- z,h]at this;cases this;simp[isTF]at t) h;have g4:wd≠D:=λz=>by rw[<- z,Y]at a0;cases a0
   have f1:=U _ _ g4 e3;have b9:=hb.sameT f7;cbv;show(x,_,dx,_,rfl,W _ _ hx,rfl,rfl,?_);show ixT (i:=0) b9 rfl ?_;show(x,e.1.nm,ls,es.map (·.1),rfl,ht.same W,λz=>absurd (mem_map.mpr ⟨e.1,gm,rfl⟩) z,λg' a6 hz=>?_);have g9:=M.gn e he g' a6 hz;subst g9;show(pl,M.gn e he,λp hp q hq h=>JfE M.nd hp hq h,M.pok,M.plb,M.pls,M.tok e he,λv H7 S7 fv=>?_);have rb:=M.rb e he;have l0:=JbT (a:=roomF pl e.1) (c:=(0,1)) rb.b1 ⋯;rw[Jhc]at l0;unfold lessF at l0;cbv;show(v, .ref Ad.ZERO,_,_,0,1,rfl,fv,⟨Ad.ZERO,rfl,T.Bcu _⟩,rb.s1.mono ⋯,rb.s2.mono ⋯, .lit ⋯ ⋯, .lit ⋯ ⋯,?_);cbv;rw[if_neg (λz=>absurd (l0.mp z) (Rat.not_lt.mpr (f6 e he)))];cbv;have f9:=W.trans S7;show ixT (i:=0) (b9.same S7) rfl ?_;show(x,ls,es.map (·.1),e.1,rfl,ht.same f9,M.nd,by ac_nf,gm,M.gn e he,λnl w H8 S8 e8 hw c0=>?_);have c2:=S7.trans S8;have c8:=c2 _ _ f1;have e6:∀ n∈w.map (·.1),n∈ls.map (·.nm):=λn hn=>Jb4 (JdD hw) n hn;have lw:w.length<=12:=by
    have:=sub_len (w.map (·.1)) (ls.map (·.nm)) c0 λn hn=>e6 n hn;rw[length_map,length_map]at this;ac_nf
   cbv;show(nl,rfl, .inl ⟨⟨_,SqL.of e8⟩,CompJ.list (xs:=(w.map (·.1)).map V.str) (λj qs N=>Same H8 N/\∃(as:List Addr)(C:List (Str × Int)),qs=as.map V.ref/\as.length=C.length/\(∀(i:Nat)(a:Addr)(p:Str × Int),as[i]?=some a->C[i]?=some p->N a=some (.tup [.str p.1, .int p.2]))/\C.map (·.1)=(w.map (·.1)).take j/\∀ y∈C, ∃ p∈ls,p.nm=y.1/\p.wt=y.2) ⟨Same.refl _,[],[],rfl,rfl,(λi a p h=>by simp at h),rfl,(λy O=>by cases O)⟩ (λj qs N hj z=>by
    let(z1,as,C,rfl,B,_,d,_):=z;have:=congrArg List.length d;rw[length_map,length_take,length_map]at this;show(SqL.of (z1 _ _ e8),by rw[length_map];ac_nf)) ?_ ?_⟩)
   .intro j y' qs H9 R z_;let(S9,as,C,rfl,b0,b7,o,b2):=z_;have lj:=(List.getElem?_eq_some_iff.mp R).1;rw[length_map]at lj;rw[List.getElem?_map,List.getElem?_eq_getElem lj]at R;obtain⟨n,hn⟩:∃ n,n=(w.map (·.1))[j]:=⟨_,rfl⟩;rw[<- hn]at R;have R:y'=.str n:=(Option.some.inj R).symm;subst R;have h0:n∈ls.map (·.nm):=e6 n (by rw[hn];show List.getElem_mem lj);let(p,v',h8,g0,hv,g6):=hB.some (z:=n) h0;simpa only[length_singleton,length_cons,length_nil,List.replicate,Jaz,map_cons,map_nil,Option.join_some];show(wd,_,rfl,by rw[<- hv];show DGet.k (k:=Sum.inr n) (S9 _ _ c8),?_);rw[g6];show(by show 2<=sizeLine;ac_nf,?_);rename_i t j2 i8 H9 d5 S b8;cbv;show(S9.trans S,as++[t],C++[(n,p.wt)],by simp,by simp[b0],λi' a' p' B d=>?_,?_,λy O=>?_)
    .rcases Jbg B with B | ⟨q1,q2⟩
     .rcases Jbg d with d | ⟨q3,q4⟩
      .show S _ _ (b7 i' a' p' B d)
      .have:=(List.getElem?_eq_some_iff.mp B).1;ac_nf
     .rcases Jbg d with d | ⟨q3,q4⟩
      .have:=(List.getElem?_eq_some_iff.mp d).1;ac_nf
      .rw[q2,q4];show b8
    .rw[map_append,o,take_succ,List.getElem?_eq_getElem lj, <- hn];rfl
    .rcases mem_append.mp O with O | O
     .show b2 y O
     .rw[mem_singleton.mp O];show(p,h8,g0,rfl)
   .intro qs H9 z_;let(S9,as,C,rfl,b0,b7,o,b2):=z_;rw[length_map,take_of_length_le (Nat.le_refl _)]at o;have i9:C.length<=12:=by have:=congrArg List.length o;rw[length_map,length_map]at this;ac_nf
    have c6:(C.map (·.1)).Nodup:=by rw[o];show c0
    rename_i ql i4 i6 H9 d5 S b8;cbv;show(ql,as,C.map λp=>(p.1,V.int p.2),rfl,b8,by rw[length_map];show b0,λi' a' p' B d=>?_,?_)
    .rw[List.getElem?_map]at d;let(g5,h3,rfl):=Option.map_eq_some_iff.mp d;show S _ _ (b7 i' a' g5 B h3)
    have h5:JdS (C.map λp=>(p.1,V.int p.2))=wsK C:=by
     rw[JiX (by rw[map_map];show c6),map_map];rfl
    rw[h5];rename_i od a7 i3 d5 i7 g3 f4;cbv;have a8:=S9.trans (S.trans g3);have r:=c2.trans a8;have e9:=W.trans r;have c4:=r _ _ ex;show(.inl ⟨rfl,_,SqL.of c4⟩,?_);show ixT (i:=0) (b9.same r) rfl ?_;show(sc,_,f5,_,rfl,e9 _ _ c9,rfl,rfl,?_);show(sc,v,roomF pl e.1,b,fs,rfl,d6.same e9,FrV.same (S8.trans a8) fv,rb.mono ⋯ ⋯,λpr t b5 a4 g1 hL=>?_);cbv;intro q dq hq f8 i2;have c7:Same b5 (upd (upd b5 dq (.own q)) q (.ins Ad.Lid dq [])):=λb u z=>by rw[Jah (Jai z hq),Jah (Jai z f8)];show z
    show(q,dq,od,e.1.nm, .ref pr,C,rfl,Jam,c7 _ _ (a4 _ _ f4),λa3 e7 h6=>⟨rfl,?_⟩);have G:Same b5 a3:=λb u z=>by rw[h6 b (Jai z hq)];show c7 _ _ z
    have L:=r.trans (a4.trans G);have a9:=L _ _ ex;have a5:H6 q=none:=Jeh (r.trans a4) hq;show(D,xs,_,rfl,rfl,a9,by ac_nf,?_);generalize X:upd a3 D _=d4;cbv;have f2:=putE X;have ec:cut D d4=cut D a3:=by rw[<- X];show JgH
    have d8:q≠D:=λz=>by rw[z,ex]at a5;cases a5
    have g7:od≠D:=λz=>by rw[z,(c2.trans (S9.trans S)) _ _ ex]at a7;cases a7
    show b4 _ _ ⟨li,_,_,_,xs++[.ref q],J++[⟨e.1.nm,t,C,(C.map (·.2)).sum,(0,1)⟩],rfl,λc u a1 h=>by rw[<- X,Jah a1];show L _ _ (U c u a1 h),f2,?_,?_,λv' I=>?_,by simp[c3],λj e' l' B d=>?_⟩
    .rw[ec];show(hX.mono (P':=LDV K Ad (cut D a3)) λ_ _ z=>z.same L.cut).append (.one ⟨q,dq, .ref pr, .ref Ad.ZERO,od,rfl,?_,?_,⟨Ad.ZERO,rfl,T.Bcu _⟩,?_⟩)
     .rw[JbV d8];show e7
     .show(FrV.of (G _ _ g1)).cut a9
     .rw[JbV g7];show G _ _ (a4 _ _ f4)
    .show nodup_append.mpr ⟨b6,by simp,λu hu v' I z=>?_⟩;rw[mem_singleton.mp I]at z;let(q',B,_,d):=a2 u hu;rw[B]at z;cases z;show d a5
    .have g8:∀ c,H6 c≠none->d4 c≠none:=λc h=>by
      by_cases cc:c=D
      .rw[cc,f2];intro y;cases y
      .cases hh:H6 c with
       | none=>show absurd hh h
       | some u=>rw[<- X,Jah cc,L _ _ hh];intro y;cases y
     rcases mem_append.mp I with I | I
     .let(q',B,d,h3):=a2 v' I;show(q',B,d,g8 q' h3)
     .rw[mem_singleton.mp I];show(q,rfl,Jeh W a5,by rw[<- X,Jah d8,e7];intro y;cases y)
    .rcases Jbg d with d | ⟨q1,q2⟩
     .show c1 j e' l' B d
     .rw[q1,c3,d0]at B;cases B;rw[q2];show(rfl,hL.vl rb.b1,(hL.fb rb sb).mono ⋯ ⋯,by rw[o];show(M.way e he w hw c0).symm,c6,b2,rfl,rfl)
  .intro σ H6 z_;let(hi,v5,v6,v7,xs,J,rfl,U,ex,hX,b6,a2,c3,c1):=z_;cbv;show k D xs J H6 (λc u h=>U c u (Jai h Z) (d9 _ _ h)) Z ex (hX.mono λ_ _ z=>z.same Jde) b6 (λv hv=>by let(q,B,d,_):=a2 v hv;show(q,B,d)) ∅ c1
abbrev BaH:Stmt:=top 34
theorem Jck:Jan ["thing","scale","told","part"] ["thing","scale"] (Jae BaH):=by bv_decide
def Jco(K:W.Frag)(Ad:Adr):Sp:=λvs H Q E=>∃(x sc:Addr)(ls:List PD)(gs:List GD)(b:Int)(fs:List Int),vs=[.ref x, .ref sc]/\TK K Ad H x ls gs/\SCK Ad H sc b fs/\ls.length<=12/\(ls.map (·.nm)).Nodup/\(∀ p∈ls,FB 200 12 p.mo/\1<=p.wt/\Mth.Sz 21 p.wt)/\∀ md kv ms H',Same H H'->H md=none->H' md=some (.dK kv)->BG (·.1) (NFV K H') ms kv->ms.length=ls.length->(∀(i:Nat) p m,ls[i]?=some p->ms[i]?=some m->MSt b p m)->Q (.ref md) H'
theorem JeY(F:"most_levels"∘BaH)(T:Txt K mg Ad)(Bao:2∘"parts"∘(JaF Ad)∘["self"]∘(JaH K Ad))(Ba8:2∘"lifted"∘(Jc2 Ad)∘["self","number"]∘(Jbb K Ad))(BcY:3∘"over"∘["one","other"]∘(JfV K Ad)):4∘["thing","scale"]∘(Jco K Ad):=by
 show F.okn Jck (by subst_eqs) (λb2 A a5 s H vs Q E hr h=>?_)
 let(x,L,ls,gs,b,fs,rfl,h):=h;have hu:=hr.units;show(_,(Jab (Jaj 2 Jck.nd JbK) (Jab (JaN PassesOwn.never rfl (pi_U (Bao.m0 hr ⋯ passF (pv 0))) (Jap 3 Jck.nd) (Jag (Jcj (hu1 hu) (pv 2) (!3) (BcY.ev hr ⋯ rfl passF %[Ba8.m hr ⋯ passF (pv 1) %[!3|0],JaE %[!3,Jad|0]|0]) rfl))) (Jag (Jaq (pv 2))))),?_)
 clear hu;let(ht,N,b0,a6,a2,k):=h;let(dx,d1,d2,d3,k1,k2,k3,hx,_):=id ht;let(a1,fl,I,_,J,sb,_):=id N;have sl:(1000:Nat)<=sizeLine:=by decide
 have b1:=J.b1;show tSeq _ _ _ [some (.ref x),some (.ref L),none,none] H;cbv;rename_i C e a8 H H1 S1 e1;cbv;show(x,_,dx,_,rfl,S1 _ _ hx,rfl,rfl,x,ls,_,rfl,ht.same S1,by ac_nf,λl ys H2 S2 O e2 hY=>?_);have lY:=hY.length;have a4:l≠C:=λz=>by rw[z,e1]at O;cases O
 have R:=S1.trans S2;cbv;show(l,rfl,ForA.byLN (xs:=ys) (SqL.of e2) (λi σ S=>i<=ys.length/\∃(v3:Option V)(M:List (Key × V))(v:List (Str × Fr2)),σ=[some (.ref x),some (.ref L),some (.ref C),v3]/\(∀ c u,c≠C->H2 c=some u->S c=some u)/\SameT H2 S/\S C=some (.dK M)/\BG (·.1) (NFV K S) v M/\v.map (·.1)=(ls.take i).map (·.nm)/\∀(j:Nat) p m,ls[j]?=some p->v[j]?=some m->MSt b p m) ⟨Nat.zero_le _,none,[],[],rfl,λ_ _ _ h=>h,SameT.refl _,S2 _ _ e1,⟨rfl,rfl⟩,rfl,λj p m _ h=>by simp at h⟩ (λi σ S q=>by let(_,_,_,_,_,q,_):=q;show SqL.of (q _ _ a4 e2)) ?_ ?_)
 .intro i y σ X hy z_ N0 a3;let(hi,v3,M,v,rfl,ho,Y,r,hB,d,B):=z_;have li:=(List.getElem?_eq_some_iff.mp hy).1;let(p,Z,b_,vz,vm,rfl,hb,_,hm):=hY.at_ hy;let(mb,w1,ws):=a2 p (List.mem_of_getElem? Z);have lB:=hB.length;have a0:v.length=i:=by have:=congrArg List.length d;rw[length_map,length_map,length_take]at this;ac_nf
  have D:=hb.sameT Y;have G:Same H X:=λc u h=>ho c u (Jai h e) (R _ _ h);cbv;show(L,_,a1,_,rfl,G _ _ I,rfl,rfl,?_);show ixT (i:=4) D rfl ?_;show(L,vm,p.mo,b,fs,rfl,N.same G,hm.sameT Y,mb.mono ⋯ ⋯,λpr t H4 S4 e4 hL=>?_);cbv;show ixT (i:=5) (D.same S4) rfl ?_;cbv;show(len2,?_);rename_i wp a9 a7 H4 H5 S5 e5;cbv;have o:=hL.fb mb sb;show(.ref pr, .ref wp,_,_,p.wt,1,rfl,FrV.of (S5 _ _ e4),FrV.of e5,o.s1.mono ⋯,o.s2.mono ⋯,ws.mono ⋯, .lit ⋯ ⋯,o.b1,by decide,o.g1,by unfold Mth.g;simp,λz=>absurd z ∅,λ_ p2 H6 S6 e6=>?_);have e6:H6 p2=some (.tup [.int (divF t (p.wt,1)).1, .int (divF t (p.wt,1)).2]):=e6;have n:=S4.trans (S5.trans S6);cbv;show ixT (i:=0) (D.same n) rfl ?_;show(C,_,rfl,DPut.k (k:=Sum.inr p.nm) (n _ _ r) ∅,?_);generalize u7:upd H6 C _=H7;cbv;have e7:=putE u7;have T7:SameT H6 H7:=SameT.put u7 (n _ _ r) rfl;have W:SameT X H7:=n.t.trans T7;have nn:p.nm∉v.map (·.1):=by rw[d];show JgR a6 Z
  show a3 _ _ ⟨li,_,_,v++[(p.nm,divF t (p.wt,1))],rfl,λc u U h=>by rw[<- u7,Jah U];show n _ _ (ho c u U h),Y.trans W,e7,?_,?_,λj p' m' h1 h2=>?_⟩
  .show(hB.mono (P':=NFV K H7) λ_ _ z=>z.sameT W).new (a:=(p.nm,divF t (p.wt,1))) nn (FrV.of (T7 _ _ rfl e6))
  .rw[map_append,d,take_succ,Z,map_append];rfl
  .rcases Jbg h2 with h2 | ⟨q1,q2⟩
   .show B j p' m' h1 h2
   .rw[q1,a0,Z]at h1;cases h1;rw[q2];have dl:=Jk2 (a:=t) (c:=(p.wt,1)) o.b1 w1;show(rfl,?_,?_,?_,dl.b1,dl.g1)
    .show vl (divF t (p.wt,1))=_;rw[JkK o.b1 w1 (Int.le_refl 1),JgC,hL.vl mb.b1]
    .show Mth.Sz.top (by have:=JbA o.b1 w1;show t.2*p.wt≠0;ac_nf) (by rw[Int.mul_one];show o.s1)
    .show(Mth.Sz.bot (t:=t.1*1) (b:=t.2*p.wt) (by have:=JbA o.b1 w1;ac_nf) (o.s2.mul ws)).mono ⋯
 .intro σ X z_;let(hi,v3,M,v,rfl,ho,Y,r,hB,d,B):=z_;rw[take_of_length_le ∅]at d;cbv;show k C M v X (λc u h=>ho c u (Jai h e) (R _ _ h)) e r hB (by simpa using congrArg List.length d) B
abbrev Bax:Stmt:=top 35
theorem Jb8:Jan ["mosts","lids","levels","stops","lid"] ["mosts","lids","levels"] (Jae Bax):=by bv_decide
def Jcb(K:W.Frag)(Ad:Adr):Sp:=λvs H Q E=>∃(md ll ld:Addr)(kvm:List (Key × V))(ms:List (Str × Fr2))(xs:List V)(lds:List LidD)(kvl:List (Key × V))(lvs:List (Str × Fr2)),vs=[.ref md, .ref ll, .ref ld]/\H md=some (.dK kvm)/\BG (·.1) (NFV K H) ms kvm/\H ll=some (.lst xs)/\All2 (LDV K Ad H) lds xs/\H ld=some (.dK kvl)/\BG (·.1) (NFV K H) lvs kvl/\ms.length<=12/\lds.length<=7/\(∀ e∈lds,FB 3000 1000 e.rest/\Mth.Sz 64 e.load/\e.ws.length<=12)/\(ms.map (·.1)).Nodup/\∀ sl ys H',Same H H'->H' sl=some (.lst ys)->All2 (StV K H') (stF ms lds (lvs.map (·.1))) ys->Q (.ref sl) H'
theorem Jez(F:"coming_stops"∘Bax)(T:Txt K mg Ad)(m_full_level:4∘"full_level"∘(IsLid Ad)∘["self"]∘(JbH K Ad)):5∘["mosts","lids","levels"]∘(Jcb K Ad):=by
 show F.okn Jb8 (by subst_eqs) (λe5 A d2 s H vs Q E hr h=>?_)
 let(r,ll,ld,c,ms,xs,M,c1,a,rfl,h):=h;have hu:=hr.units;show(_,(Jab (JlE (Jb7 (j:=3) (own:=["name"]) (cs:=[(0,"mosts"),(2,"levels")]) Jb8.nd rfl (Or.inl rfl) rfl (JiZ (pv 0)) (λ_ _ _ _=>(Jap 0 (show[("name" : Str),("mosts" : Str),("levels" : Str)].Nodup by decide))) (λ_ _ _ _=>JcO (JeI (Jdk (hu1 hu) (pv 0) (pv 2)) (by with_unfolding_all rfl))) (λ_ _ _ _=>(JaE %[Jb6 (hu1 hu) (pv 1) (pv 0) (λ_ _=>rfl),Jbj %[pv 0|0]|0])) (Jbk rfl) ⋯ rfl ⋯ (hcs2 rfl rfl rfl rfl rfl rfl))) (Jab (JaN PassesOwn.never rfl (pi_U (pv 1)) (Jap 4 Jb8.nd) (Jag (ps_if (Jar JeC (Jas (pv 4) rfl) Jad (Jav _)) (Jag (Ja6 (pe_bm PySem.F.plainAttrs_list PySem.F.slot_list_append PySem.F.type_list_append JaZ (pv 3) %[JaE %[m_full_level.m0 hr ⋯ passF (pv 4),Jg1 (JaY (own:=["name"]) (cs:=[(2,"levels")]) rfl (JiZ (Jas (pv 4) rfl)) (λ_ _ _ _=>(Jap 0 (show[("name" : Str),("levels" : Str)].Nodup by decide))) (λ_ _ _ _=>JcO (JeI (Jdk (hu1 hu) (pv 0) (pv 1)) (by with_unfolding_all rfl))) (λ_ _ _ _=>(pv 0)) (Jbk rfl) ⋯ rfl ⋯ (hcs1 rfl rfl rfl))|0]|0] (hs:=by show Jaf rfl))))
   Jat))) (Jag (Jaq (pv 3))))),?_)
 clear hu;let(hm,bm,hl,hX,hv,bl,d6,l7,c8,d1,k):=h;have sz:(1000:Nat)<=sizeLine:=by decide
 have lX:=hX.length;show tSeq _ _ _ [some (.ref r),some (.ref ll),some (.ref ld),none,none] H;mleave;show(r,c,hm,r,c,ms.map (·.1),rfl,hm,bm.keysS,λod=>?_);generalize uf:upd H r (.frz od (.dK c))=H1;mleave;have f1:H1 r=some (.frz od (.dK c)):=by rw[<- uf,Jam]
 have t1:thw r c H1=H:=by rw[<- uf];show Jjn hm
 show Jbt.keys (λi Y C=>C r=some (.frz od (.dK c))/\Same H (thw r c C)/\All2 (StV K (thw r c C)) (((ms.take i).filter λm=>decide (m.1∉a.map (·.1))).map λm=>(m.2,[m.1])) Y) ⟨f1,by rw[t1];show Same.refl _,rfl⟩ (λi Y C hi z=>⟨z.1,by
  have h1:=z.2.2.length;rw[length_map]at h1;have h2:=length_filter_le (λm:Str × Fr2=>decide (m.1∉a.map (·.1))) (ms.take i);rw[length_take]at h2;ac_nf⟩) ?_ ?_
 .rintro i z Y H2 hz ⟨J,S2,hA⟩;rw[List.getElem?_map]at hz;let(m,a1,X):=Option.map_eq_some_iff.mp hz;have X:m.1=z:=X;subst X;have b2:=List.mem_of_getElem? a1;simpa only[length_singleton,length_cons,length_nil,List.replicate,Jaz,map_cons,map_nil,Option.join_some];show(ld,_,rfl,Jjo (k:=Sum.inr m.1) J (S2 _ _ hv),?_);rw[bl.val];by_cases g:m.1∈a.map (·.1)
  .rw[decide_eq_true g];mleave;show(J,S2,?_);rw[take_succ,a1,filter_append,map_append];have : [m].filter (λm=>decide (m.1∉a.map (·.1)))=[]:=List.filter_eq_nil_iff.mpr λx G=>by rw[mem_singleton.mp G];simpa using g
   rw[show(some m).toList=[m]from rfl,this,map_nil,append_nil];show hA
  .rw[decide_eq_false g];mleave;let(a',v,d7,d3,b8,d5):=bm.some (z:=m.1) (mem_map.mpr ⟨m,b2,rfl⟩);have ea:=Jhl d1 d7 b2 d3;subst ea;show(r,v,rfl,by rw[<- b8];show DGet.f (k:=Sum.inr a'.1) J,?_);mleave;show(by show 1<=sizeLine;ac_nf,?_);rename_i l b1 b7 H2 H3 S3 e3;mleave;show(by show 2<=sizeLine;ac_nf,?_);rename_i t d0 c7 H3 H4 S4 e4;mleave;have b4:=S3.trans S4;have f4:=b4 _ _ J;have St:=JfX (d:=r) (kv:=c) b4;show(f4,S2.trans St,?_);rw[take_succ,a1,filter_append,map_append];have : [a'].filter (λm=>decide (m.1∉a.map (·.1)))=[a']:=List.filter_eq_self.mpr λx G=>by rw[mem_singleton.mp G];simpa using g
   rw[show(some a').toList=[a']from rfl,this];show(hA.mono (P':=StV K (thw r c H4)) λ_ _ z=>z.same St).append (.one ⟨t,v,l,rfl,SqT.of (JhE f4 e4 (by intro o w z;cases z)),FrV.same (S2.trans St) d5,JhE f4 (S4 _ _ e3) (by intro o w z;cases z)⟩)
 .rintro Y H2 ⟨J,S2,hA⟩;rw[length_map,take_of_length_le (Nat.le_refl _)]at hA;rename_i B O d8 H2 H3 S3 e3;mleave;show(od,c,S3 _ _ J,?_);obtain⟨H4,U⟩:∃ H4,H4=thw r c H3:=⟨_,rfl⟩;rw[show upd H3 r (.dK c)=H4 from U.symm];mleave;have St:=JfX (d:=r) (kv:=c) S3;rw[<- U]at St;have a7:=S2.trans St;have e4:H4 B=some (.lst Y):=by rw[U];show JhE (S3 _ _ J) e3 (by intro o w z;cases z)
  have N:H B=none:=Jeh S2 (JfW J O);have d4:All2 (StV K (cut B H4)) ((ms.filter λm=>decide (m.1∉a.map (·.1))).map λm=>(m.2,[m.1])) Y:=hA.mono λ_ _ z=>z.same λb u h=>by
   rw[JbV (λy=>by rw[y,JfW J O]at h;cases h)];show St b u h
  have d9:(ms.filter λm=>decide (m.1∉a.map (·.1))).length<=12:=Nat.le_trans (length_filter_le _ _) d6;have e1:ll≠B:=λz=>by rw[z,N]at hl;cases hl
  show(ll,rfl,ForA.byLN (xs:=xs) (SqL.of (a7 _ _ hl)) (λi σ C=>i<=xs.length/\∃(v4:Option V)(R:List V)(S:List (Fr2 × List Str)),σ=[some (.ref r),some (.ref ll),some (.ref ld),some (.ref B),v4]/\Same H C/\C B=some (.lst R)/\All2 (StV K (cut B C)) S R/\S.length<=12+i/\S=(ms.filter λm=>decide (m.1∉a.map (·.1))).map (λm=>(m.2,[m.1]))++((M.take i).filter λe=>decide (0<e.load)).map λe=>(divF e.rest (e.load,1),(e.ws.map (·.1)).filter λn=>decide (n∉a.map (·.1)))) ⟨Nat.zero_le _,none,Y,_,rfl,a7,e4,d4,by rw[length_map];ac_nf,by rw[take_zero];simp⟩ (λi σ C q=>by let(_,_,_,_,_,q,_):=q;show SqL.of (q _ _ hl)) ?_ ?_)
  .intro i y σ H5 hy z_ N0 a9;let(hi,v4,R,S,rfl,S5,ez,hZ,c2,D):=z_;have li:=(List.getElem?_eq_some_iff.mp hy).1;let(e,a8,hd):=hX.at_ hy;have c9:=List.mem_of_getElem? a8;let(c3,c5,e0):=c8 e c9;have b0:=hd.same S5;let(q,dx,vr,vt,L,rfl,hq,hr,e2,hw):=id b0;have tc:=T.c_Lid Ad.Lid rfl;have lZ:=hZ.length;mleave;show(q,_,dx,_, .int e.load,rfl,hq,tc.cls,tc.n4,rfl,?_);mleave;have a6:M.take (i+1)=M.take i++[e]:=by rw[take_succ,a8];rfl
   by_cases c0:0<e.load
   .rw[if_pos (by simpa using c0)];mleave;show(.inl ⟨rfl,_,SqL.of ez⟩,?_);show(q,_,dx,_,rfl,hq,rfl,rfl,?_);show(q,e,rfl,b0,c3,by ac_nf,c5,λp H6 S6 e6=>?_);mleave;have a3:=S6 _ _ hw;show(L,_,a3,q,_,dx,_, .ref L,rfl,S6 _ _ hq,tc.cls,tc.n3,rfl,L,wsK e.ws,e.ws.map (·.1),rfl,a3,Jkd e.ws,λa5=>?_);generalize ug:upd H6 L (.frz a5 (.dK (wsK e.ws)))=H7;mleave;have f7:H7 L=some (.frz a5 (.dK (wsK e.ws))):=by rw[<- ug,Jam]
    have t7:thw L (wsK e.ws) H7=H6:=by rw[<- ug];show Jjn a3
    have b9:=S5.trans S6;show Jbt.keys (λj qs C=>C=H7/\qs=(((e.ws.map (·.1)).take j).filter λn=>decide (n∉a.map (·.1))).map V.str) ⟨rfl,by rw[take_zero];rfl⟩ (λj qs C hj z=>⟨by rw[z.1];show f7,by
     rw[z.2,length_map];have h2:=length_filter_le (λn:Str=>decide (n∉a.map (·.1))) ((e.ws.map (·.1)).take j);rw[length_take,length_map]at h2;ac_nf⟩) ?_ ?_
    .rintro j z qs H8 hz ⟨W,I⟩;subst W;subst I;simpa only[length_singleton,length_cons,length_nil,List.replicate,Jaz,map_cons,map_nil,Option.join_some];show(ld,_,rfl,Jjo (k:=Sum.inr z) f7 (by rw[t7];show b9 _ _ hv),?_);rw[bl.val];have b3:(e.ws.map (·.1)).take (j+1)=(e.ws.map (·.1)).take j++[z]:=by rw[take_succ,hz];rfl
     by_cases g:z∈a.map (·.1)
     .rw[decide_eq_true g];mleave;rw[b3,filter_append,show[z].filter (λn=>decide (n∉a.map (·.1)))=[]from List.filter_eq_nil_iff.mpr λx G=>by rw[mem_singleton.mp G];simpa using g,append_nil]
     .rw[decide_eq_false g];mleave;rw[b3,filter_append,show[z].filter (λn=>decide (n∉a.map (·.1)))=[z]from List.filter_eq_self.mpr λx G=>by rw[mem_singleton.mp G];simpa using g,map_append];rfl
    .rintro qs H8 ⟨W,I⟩;subst W;rw[take_of_length_le (Nat.le_refl _)]at I;subst I;rename_i l b1 b7 H8 H9 S9 e9;mleave;show(a5,_,S9 _ _ f7,?_);obtain⟨HA,a2⟩:∃ HA,HA=thw L (wsK e.ws) H9:=⟨_,rfl⟩;rw[show upd H9 L (.dK (wsK e.ws))=HA from a2.symm];have Su:=JfX (d:=L) (kv:=wsK e.ws) S9;rw[t7, <- a2]at Su;have eA:HA l=some (.lst (((e.ws.map (·.1)).filter λn=>decide (n∉a.map (·.1))).map V.str)):=by rw[a2];show JhE (S9 _ _ f7) e9 (by intro o w z;cases z)
     mleave;show(len2,?_);rename_i t d0 c7 HA HB SB eB;mleave;have a0:=S6.trans (Su.trans SB);have Z:=a0 _ _ ez;show(B,R,_,rfl,rfl,Z,by ac_nf,?_);generalize a4:upd HB B _=c4;mleave;have c6:=putE a4;have ec:cut B c4=cut B HB:=by rw[<- a4];show JgH
     have b5:H6 l=none:=by rw[<- t7];show JfW f7 b1
     have b6:l≠B:=λz=>by rw[z,S6 _ _ ez]at b5;cases b5
     show a9 _ _ ⟨li,_,R++[.ref t],S++[(divF e.rest (e.load,1),(e.ws.map (·.1)).filter λn=>decide (n∉a.map (·.1)))],rfl,λb u h=>by rw[<- a4,Jah (Jai h N)];show a0 _ _ (S5 _ _ h),c6,?_,by simp;ac_nf,?_⟩
     .rw[ec];show(hZ.mono (P':=StV K (cut B HB)) λ_ _ z=>z.same a0.cut).append (.one ⟨t, .ref p,l,rfl,SqT.cut Z (SqT.of eB),FrV.cut Z (FrV.of (SB _ _ (Su _ _ e6))),?_⟩);rw[JbV b6];show SB _ _ eA
     .rw[D,a6,filter_append,show[e].filter (λe=>decide (0<e.load))=[e]from List.filter_eq_self.mpr λx G=>by rw[mem_singleton.mp G];simpa using c0,map_append, <- List.append_assoc];rfl
   .rw[if_neg (by simpa using c0)];mleave;show a9 _ _ ⟨li,_,R,S,rfl,S5,ez,hZ,by ac_nf,?_⟩;rw[D,a6,filter_append,show[e].filter (λe=>decide (0<e.load))=[]from List.filter_eq_nil_iff.mpr λx G=>by rw[mem_singleton.mp G];simpa using c0,append_nil]
  .intro σ H5 z_;let(hi,v4,R,S,rfl,S5,ez,hZ,c2,D):=z_;rw[take_of_length_le ∅]at D;mleave;show k B R H5 S5 ez ?_;unfold stF;rw[<- D];show hZ.mono λ_ _ z=>z.cut
abbrev BaI:Stmt:=top 36
theorem JbL:Jan ["stops","found","stop"] ["stops"] (Jae BaI):=by bv_decide
def Jcm(K:W.Frag):Sp:=λvs H Q E=>∃(sl:Addr)(ys:List V)(st:List (Fr2 × List Str)),vs=[.ref sl]/\SqL K H sl ys/\All2 (StV K H) st ys/\st≠[]/\(∀ s∈st,FB 3000 1200 s.1)/\∀ v (L:Fr2),L∈st.map (·.1)->(∀ s∈st,vl L<=vl s.1)->FrV K H v L.1 L.2->Q v H
theorem JeV(F:"first_level"∘BaI)(T:Txt K mg Ad)(Bai:1∘"under"∘["one","other"]∘(Jb3 K)):2∘["stops"]∘(Jcm K):=by
 show F.okn JbL (by subst_eqs) (λa0 A W s H vs Q E hr h=>?_)
 let(p,C,M,rfl,h):=h;show(_,(Jab (Jaj 1 JbL.nd (pe_ix ix_U (!0) Jad)) (Jab (JaN PassesOwn.never rfl (pi_U (pv 0)) (Jap 2 JbL.nd) (Jag (ps_if (Ja1 (Bai.ev hr ⋯ rfl passF %[!2,pv 1|0])) (Jag (Jaj 1 JbL.nd (!2)))
   Jat))) (Jag (Jaq (pv 1))))),?_)
 let(I,X,U,m,k):=h;have lA:=X.length;obtain⟨g,r,rfl⟩:∃ g r,M=g::r:=by cases M with | nil=>show absurd rfl U | cons a b=>show(a,b,rfl)
 let(y0,S,t0,v0,l0,rfl,N,R,_):=X.get (i:=0) rfl;show tSeq _ _ _ [some (.ref p),none,none] H;cbv;show ixL (i:=0) I S ?_;cbv;show ixT (i:=0) N rfl ?_;cbv;show(p,rfl,ForA.byLN (xs:=C) I (λi σ u=>i<=C.length/\u=H/\∃(v:V)(L:Fr2)(J:Option V),σ=[some (.ref p),some v,J]/\FrV K H v L.1 L.2/\L∈(g::r).map (·.1)/\∀ s∈(g::r).take i,vl L<=vl s.1) ⟨Nat.zero_le _,rfl,v0,g.1,none,rfl,R,by simp,(λs n=>by simp at n)⟩ (λi σ u q=>by rw[q.2.1];show I) ?_ ?_)
 .intro i y σ u hy z_ N0 o;let(hi,rfl,v,L,J,rfl,x,B,d):=z_;have li:=(List.getElem?_eq_some_iff.mp hy).1;let(s,n,t,w,l,rfl,ht,hw,_):=X.at_ hy;have O:=m s (List.mem_of_getElem? n);let(sL,D,Y):=mem_map.mp B;have fL:FB 3000 1200 L:=Y ▸ m sL D;have j:(g::r).take (i+1)=(g::r).take i++[s]:=by rw[take_succ,n];rfl
  have G:=JbT (a:=s.1) (c:=L) O.b1 fL.b1;unfold lessF at G;cbv;show ixT (i:=0) ht rfl ?_;show(w,v,_,_,_,_,rfl,hw,x,O.s1.mono ⋯,O.s2.mono ⋯,fL.s1.mono ⋯,fL.s2.mono ⋯,?_);cbv;by_cases c:decide (s.1.1*L.2<L.1*s.1.2)=true
  .rw[if_pos c];cbv;show ixT (i:=0) ht rfl ?_;cbv;have lt:=G.mp c;show o _ _ ⟨li,rfl,w,s.1,_,rfl,hw,mem_map.mpr ⟨s,List.mem_of_getElem? n,rfl⟩,λZ e=>?_⟩;rw[j]at e;rcases mem_append.mp e with h | h
   .show Rat.le_trans (Rat.le_of_lt lt) (d Z h)
   .rw[mem_singleton.mp h];show Rat.le_refl
  .rw[if_neg c];cbv;show o _ _ ⟨li,rfl,v,L,_,rfl,x,B,λZ e=>?_⟩;rw[j]at e;rcases mem_append.mp e with h | h
   .show d Z h
   .rw[mem_singleton.mp h];show Rat.not_lt.mp λz=>c (G.mpr z)
 .intro σ u z_;let(hi,rfl,v,L,J,rfl,x,B,d):=z_;rw[take_of_length_le ∅]at d;cbv;show k v L B d x
abbrev BaT:Stmt:=top 37
theorem JbZ:Jan ["stops","level","names","stop","name"] ["stops","level"] (Jae BaT):=by bv_decide
def JcF(K:W.Frag):Sp:=λvs H Q E=>∃(sl:Addr)(lv:V)(ys:List V)(st:List (Fr2 × List Str))(L:Fr2)(N:List Str),vs=[.ref sl,lv]/\SqL K H sl ys/\All2 (StV K H) st ys/\FrV K H lv L.1 L.2/\N.length<=20/\(∀ s∈st, ∀ n∈s.2,n∈N)/\∀(l:Addr)(ns:List Str)(H':Hp),Same H H'->H' l=some (.lst (ns.map V.str))->ns.Nodup->(∀ n,n∈ns↔∃ s∈st,s.1=L/\n∈s.2)->Q (.ref l) H'
theorem JfC(F:"stopped_at"∘BaT)(T:Txt K mg Ad)  : 1∘["stops","level"]∘(JcF K):=by
 show F.okn JbZ (by subst_eqs) (λa9 A a3 s H vs Q E hr h=>?_)
 let(X,lv,ys,st,L,N,rfl,h):=h;have hu:=hr.units;show(_,(Jab (Jaj 2 JbZ.nd JbK) (Jab (JaN PassesOwn.never rfl (pi_U (pv 0)) (Jap 3 JbZ.nd) (Jag (ps_if (Jar (JbO hu) (!3) (pv 1) (Jav _)) (Jag (JaN PassesOwn.never rfl (pi_U (!3)) (Jap 4 JbZ.nd) (Jag (Jcj (hu1 hu) (pv 2) (pv 4) pe_bl rfl))))
   Jat))) (Jag (Jaq (JeF (JhM rfl) rfl T.BdW Jii %[pv 2|0]))))),?_)
 clear hu;let(hS,hA,hL,a5,hN,k):=h;have sz:(1000:Nat)<=sizeLine:=by decide
 have lA:=hA.length;show tSeq _ _ _ [some (.ref X),some lv,none,none,none] H;cbv;rename_i R O a4 H H1 S1 e1;cbv;show(X,rfl,ForA.byLN (xs:=ys) (hS.same S1) (λi σ U=>i<=ys.length/\∃(v3 M:Option V)(r:List (Key × V))(B:List Str),σ=[some (.ref X),some lv,some (.ref R),v3,M]/\Same H U/\U R=some (.dK r)/\r.map (·.1)=B.map Sum.inr/\B.Nodup/\∀ n,n∈B↔∃ s∈st.take i,s.1=L/\n∈s.2) ⟨Nat.zero_le _,none,none,[],[],rfl,S1,e1,rfl, .nil,λn=>by simp⟩ (λi σ U q=>by let(_,_,_,_,_,_,q,_):=q;show hS.same q) ?_ ?_)
 .intro i y σ H2 hy z_ N0 Z;let(hi,v3,M,r,B,rfl,I,e2,hk,G,d):=z_;have li:=(List.getElem?_eq_some_iff.mp hy).1;let(s,hs,t,w,l,rfl,ht,hw,hl):=hA.at_ hy;have a2:=List.mem_of_getElem? hs;have W:st.take (i+1)=st.take i++[s]:=by rw[take_succ,hs];rfl
  cbv;show ixT (i:=0) (ht.same I) rfl ?_;show eqF (hw.same I) (hL.same I) ?_;have ee:(decide (s.1.1=L.1)&&decide (s.1.2=L.2))=decide (s.1=L):=by
   rw[<- Bool.decide_and];show decide_eq_decide.mpr Prod.ext_iff.symm
  rw[ee];cbv;by_cases c:s.1=L
  .rw[if_pos (by simpa using c)];cbv;show ixT (i:=1) (ht.same I) rfl ?_;cbv;have a8:l≠R:=Jai hl O;show(l,rfl,ForA.byLN (xs:=s.2.map V.str) (SqL.of (I _ _ hl)) (λj σ U=>j<=(s.2.map V.str).length/\∃(M:Option V)(r:List (Key × V))(ns':List Str),σ=[some (.ref X),some lv,some (.ref R),some (.ref t),M]/\Same H U/\U R=some (.dK r)/\r.map (·.1)=ns'.map Sum.inr/\ns'.Nodup/\∀ n,n∈ns'↔n∈B\/n∈s.2.take j) ⟨Nat.zero_le _,M,r,B,rfl,I,e2,hk,G,λn=>by simp⟩ (λj σ U q=>by let(_,_,_,_,_,q,_):=q;show SqL.of (q _ _ hl)) ?_ ?_)
   .intro j z σ H3 hz z_ N1 a0;let(hj,M,D,e,rfl,Y,e3,o,m,a):=z_;have lj:=(List.getElem?_eq_some_iff.mp hz).1;rw[List.getElem?_map]at hz;let(n,hn,rfl):=Option.map_eq_some_iff.mp hz;have lk:D.length=e.length:=by simpa using congrArg List.length o
    have lN:e.length<=N.length:=sub_len e N m λx hx=>by
     rcases(a x).mp hx with h | h
     .let(C,g,_,p):=(d x).mp h;show hN C (mem_of_mem_take g) x p
     .show hN s a2 x (mem_of_mem_take h)
    cbv;show(R,_,rfl,DPut.k (k:=Sum.inr n) e3 ∅,?_);generalize u4:upd H3 R _=H4;cbv;have e4:=putE u4;have a1:s.2.take (j+1)=s.2.take j++[n]:=by rw[take_succ,hn];rfl
    have S4:Same H H4:=λb u h=>by rw[<- u4,Jah (Jai h O)];show Y _ _ h
    have S:=JiI (kvs:=D) (k:=Sum.inr n);rw[o]at S;by_cases cn:n∈e
    .show a0 _ _ ⟨lj,_,_,e,rfl,S4,e4,?_,m,λx=>?_⟩
     .rw[JiJ,if_pos (S.mpr (mem_map.mpr ⟨n,cn,rfl⟩))];show o
     .rw[a x,a1,mem_append,mem_singleton];show(λh=>h.elim .inl λh=>.inr (.inl h),λh=>?_);rcases h with h | h | h
      .show .inl h
      .show .inr h
      .rw[h];show(a n).mp cn
    .show a0 _ _ ⟨lj,_,_,e++[n],rfl,S4,e4,?_,?_,λx=>?_⟩
     .rw[JiJ,if_neg (λz=>cn (by let(q,hq,eq):=mem_map.mp (S.mp z);have eq:q=n:=(by injection eq);show eq ▸ hq)),o,map_append];rfl
     .show nodup_append.mpr ⟨m,by simp,λu hu v hv z=>cn (by rw[mem_singleton.mp hv]at z;rw[<- z];show hu)⟩
     .rw[mem_append,mem_singleton,a x,a1,mem_append,mem_singleton];grind
   .intro σ H3 z_;let(hj,M,D,e,rfl,Y,e3,o,m,a):=z_;rw[length_map,take_of_length_le (Nat.le_refl _)]at a;show Z _ _ ⟨li,_,_,D,e,rfl,Y,e3,o,m,λn=>?_⟩;rw[a n,d n,W];constructor
    .rintro(⟨C,g,p,J⟩ | h)
     .show(C,mem_append.mpr (.inl g),p,J)
     .show(s,mem_append.mpr (.inr (by simp)),c,h)
    .rintro⟨C,g,p,J⟩;rcases mem_append.mp g with g | g
     .show .inl ⟨C,g,p,J⟩
     .rw[mem_singleton.mp g]at J;show .inr J
  .rw[if_neg (by simpa using c)];cbv;show Z _ _ ⟨li,_,_,r,B,rfl,I,e2,hk,G,λn=>?_⟩;rw[d n,W];constructor
   .rintro⟨C,g,p,J⟩;show(C,mem_append.mpr (.inl g),p,J)
   .rintro⟨C,g,p,J⟩;rcases mem_append.mp g with g | g
    .show(C,g,p,J)
    .rw[mem_singleton.mp g]at p;show absurd p c
 .intro σ H2 z_;let(hi,v3,M,r,B,rfl,I,e2,hk,G,d):=z_;rw[take_of_length_le ∅]at d;cbv;show(R,r,B,rfl,e2,hk,?_);rename_i l a7 a6 H2 H3 Y e3;cbv;show k l B H3 (I.trans Y) e3 G d
abbrev Bay:Stmt:=top 38
theorem Ja3:Jan ["mosts","lids","levels","stops","level","name","lid"] ["mosts","lids"] (Jae Bay):=by bv_decide
def Jcc(K:W.Frag)(Ad:Adr):Sp:=λvs H Q E=>∃(md ll:Addr)(kvm:List (Key × V))(ms:List (Str × Fr2))(xs:List V)(lds:List LidD)(b q0:Int)(N:List Str)(w M:Str->Rat)(gs:List Gp),vs=[.ref md, .ref ll]/\H md=some (.dK kvm)/\BG (·.1) (NFV K H) ms kvm/\H ll=some (.lst xs)/\All2 (LDV K Ad H) lds xs/\xs.Nodup/\lds.length<=7/\RC b q0 N w M gs ms/\RSt b N w M gs [] lds/\∀(ld:Addr)(kv:List (Key × V))(lvs:List (Str × Fr2))(lds':List LidD)(H':Hp),(∀ a u,V.ref a∉xs->H a=some u->H' a=some u)->H ld=none->H' ld=some (.dK kv)->BG (·.1) (NFV K H') lvs kv->All2 (LDV K Ad H') lds' xs->RSt b N w M gs lvs lds'->N.length<=lvs.length->lds'.map (·.nm)=lds.map (·.nm)->Q (.ref ld) H'
theorem JeA(F:"risen_levels"∘Bay)(T:Txt K mg Ad)(Bbu:5∘"coming_stops"∘["mosts","lids","levels"]∘(Jcb K Ad))(BbI:2∘"first_level"∘["stops"]∘(Jcm K))(BbS:1∘"stopped_at"∘["stops","level"]∘(JcF K))(m_settle:4∘"settle"∘(IsLid Ad)∘["self","part","level"]∘(Jcx K Ad)):7∘["mosts","lids"]∘(Jcc K Ad):=by
 show F.okn Ja3 (by subst_eqs) (λg2 A d9 s H vs Q E hr h=>?_)
 let(md,ll,R,ms,xs,G,b,q0,N,w,M,gs,rfl,h):=h;have hu:=hr.units;show(_,(Jab (Jaj 2 Ja3.nd JbK) (Jab (Jdm PassesOwn.never (Jar JdR (Jaw Jf5 rfl T.Bba Ja8 %[pv 2|0]) (Jaw Jf5 rfl T.Bba Ja8 %[pv 0|0]) (Jav _)) (Jab (Jaj 3 Ja3.nd (Bbu.ev hr ⋯ rfl passF %[pv 0,pv 1,pv 2|0])) (Jab (Jaj 4 Ja3.nd (BbI.ev hr ⋯ rfl passF %[pv 3|0])) (Jag (JaN PassesOwn.never rfl (pi_U (BbS.ev hr ⋯ rfl passF %[pv 3,pv 4|0])) (Jap 5 Ja3.nd) (Jab (Jcj (hu1 hu) (pv 2) (pv 5) (pv 4) rfl) (Jag (JaN PassesOwn.never rfl (pi_U (pv 1)) (Jap 6 Ja3.nd) (Jag (Ja6 (m_settle.m hr ⋯ passF (pv 6) %[pv 5,pv 4|0]))))))))))) (Jag (Jaq (pv 2))))),?_)
 clear hu;let(hm,bm,hl,hX,d6,l7,S,f0,k):=h;show tSeq _ _ _ [some (.ref md),some (.ref ll),none,none,none,none,none] H;cbv;rename_i g U f5 H H1 S1 e1;cbv;show(λm σ C=>∃(v3 v4 v5 v6:Option V)(kv:List (Key × V))(d:List (Str × Fr2))(o:List LidD),σ=[some (.ref md),some (.ref ll),some (.ref g),v3,v4,v5,v6]/\(∀ a u,V.ref a∉xs->H a=some u->C a=some u)/\C g=some (.dK kv)/\BG (·.1) (NFV K C) d kv/\All2 (LDV K Ad (cut g C)) o xs/\RSt b N w M gs d o/\o.map (·.nm)=G.map (·.nm)/\m=N.length-d.length,⟨_,none,none,none,none,[],[],G,rfl,λa u _ h=>S1 _ _ h,e1,⟨rfl,rfl⟩,hX.mono λ_ _ h=>h.same (Same.cutN S1 U),f0,rfl,rfl⟩,?_);intro m σ H2 z_;let(v3,v4,v5,v6,kv,d,o,rfl,S2,e2,b2,c0,st,c4,rfl):=z_;have x2:All2 (LDV K Ad H2) o xs:=c0.mono λ_ _ z=>z.same Jde;cbv;have g0:=S.l12;have c2:=S2 md _ (LDV.notin hX hm (λ_ _ z=>by cases z)) hm;have Y:=S2 ll _ (LDV.notin hX hl (λ_ _ z=>by cases z)) hl;have T2:SameT H H2:=λc u t h=>S2 c u (LDV.notin hX h (λ_ _ z=>by rw[z]at t;simp[isTF]at t)) h;have f2:BG (·.1) (NFV K H2) ms R:=bm.mono λ_ _ z=>z.sameT T2;have lk:=b2.length;have lm:=bm.length;have lN:ms.length=N.length:=by rw[<- S.nm,length_map]
 have sz:(1000:Nat)<=sizeLine:=by decide
 have f7:=hX.length;have f8:=x2.length;show(g,kv,rfl,e2,md,R,rfl,c2,?_);cbv;by_cases c:d.length<N.length
 .rw[if_pos (by simpa using(by ac_nf:kv.length<R.length))];cbv;show(_,λσ' C h=>h,?_);cbv;show(md,ll,g,R,ms,xs,o,kv,d,rfl,c2,f2,Y,x2,e2,b2,by ac_nf,by ac_nf,st.lids S,by rw[S.nm];show S.nd,λsl ys H3 S3 e3 hY=>?_);cbv;have x:=st.stops S;show(sl,ys,_,rfl,SqL.of e3,hY,st.some S c,λs hs=>⟨(x s hs).1.s1,(x s hs).1.s2.mono ⋯,(x s hs).1.b1,(x s hs).1.g1⟩,λv L hL b8 hv=>?_);cbv;show(sl,v,ys,_,L,N,rfl,SqL.of e3,hY,hv,by ac_nf,λs hs n hn=>((x s hs).2 n hn).1,λl J H4 S4 e4 a9 f1=>?_);let(c8,d5,e9,D,d8):=st.first S c hL b8 a9 f1;have O:=S3.trans S4;have x4:All2 (LDV K Ad H4) o xs:=x2.mono λ_ _ z=>z.same O;have a1:=O _ _ e2;have d3:l≠g:=λz=>by rw[z,a1]at e4;cases e4
  have d7:=LDV.notin x4 e4 (λ_ _ z=>by cases z);have a3:=LDV.notin x4 a1 (λ_ _ z=>by cases z);have a8:ll≠g:=λz=>by rw[z,e2]at Y;cases Y
  have a4:=LDV.notin x2 Y (λ_ _ z=>by cases z);have f4:=hv.same S4;cbv;show(l,rfl,ForA.byLN (xs:=J.map V.str) (SqL.of e4) (λi σ C=>i<=(J.map V.str).length/\∃(v5 v6:Option V)(kv':List (Key × V))(lds':List LidD),σ=[some (.ref md),some (.ref ll),some (.ref g),some (.ref sl),some v,v5,v6]/\(∀ a u,V.ref a∉xs->a≠g->H4 a=some u->C a=some u)/\C g=some (.dK kv')/\BG (·.1) (NFV K C) (d++(J.take i).map λn=>(n,L)) kv'/\All2 (LDV K Ad (cut g C)) lds' xs/\RMd b N w M gs L D (d.length+1) (d++(J.take i).map λn=>(n,L)) lds'/\lds'.map (·.nm)=G.map (·.nm)) ⟨Nat.zero_le _,v5,v6,kv,o,rfl,λ_ _ _ _ h=>h,a1,by rw[take_zero,map_nil,append_nil];show b2.mono λ_ _ z=>z.sameT λc u _ h=>O _ _ h,c0.mono (λ_ _ z=>z.same O.cut),by rw[take_zero,map_nil,append_nil];show d8,c4⟩ (λi σ C q=>by let(_,_,_,_,_,_,q,_):=q;show SqL.of (q _ _ d7 d3 e4)) ?_ ?_)
  .intro i y σ H5 hy z_ N0 c6;let(hi,d0,b4,a6,B,rfl,S5,e5,b5,I,p,X):=z_;have li:=(List.getElem?_eq_some_iff.mp hy).1;rw[length_map]at li;rw[List.getElem?_map]at hy;let(n,hn,rfl):=Option.map_eq_some_iff.mp hy;have e0:=List.mem_of_getElem? hn;have hN:=d5 n e0;have d1:J.take (i+1)=J.take i++[n]:=by rw[take_succ,hn];rfl
   have a5:(d++(J.take (i+1)).map λn=>(n,L))=(d++(J.take i).map λn=>(n,L))++[(n,L)]:=by rw[d1,map_append, <- List.append_assoc];rfl
   have hS:n∉(d++(J.take i).map λn=>(n,L)).map (·.1):=by
    rw[Jbl];intro z;rcases mem_append.mp z with z | z
    .show hN.2 z
    .show Jjz a9 hn z
   have T5:SameT H4 H5:=λc u t h=>S5 c u (LDV.notin x4 h (λ_ _ z=>by rw[z]at t;simp[isTF]at t)) (λz=>by rw[z,a1]at h;cases h;simp[isTF]at t) h;have f6:=b5.length;have l5:(d++(J.take i).map λn=>(n,L)).length<=N.length:=by
    have:=sub_len _ _ p.inv.nd p.inv.sub;simpa using this
   have f9:=I.length;cbv;show(g,_,rfl,DPut.k (k:=Sum.inr n) e5 ∅,?_);generalize u6:upd H5 g _=Z;cbv;have e6:=putE u6;have T6:SameT H5 Z:=SameT.put u6 e5 rfl;have o6:∀ a u,a≠g->H5 a=some u->Z a=some u:=λa u ne h=>by rw[<- u6,Jah ne];show h
   have f3:cut g Z=cut g H5:=by rw[<- u6];show JgH
   rw[<- f3]at I;have x6:All2 (LDV K Ad Z) B xs:=I.mono λ_ _ z=>z.same Jde;have b9:=(f4.sameT T5).sameT T6;have b6:BG (·.1) (NFV K Z) (d++(J.take (i+1)).map λn=>(n,L)) (putK a6 (Sum.inr n) v):=by
    rw[a5];show(b5.mono (P':=NFV K Z) λ_ _ z=>z.sameT T6).new (a:=(n,L)) hS b9
   have b3:Z ll=some (.lst xs):=o6 _ _ a8 (S5 _ _ a4 a8 (O _ _ Y));have W:=p.rest S;have d4:=p.step S hN.1 hS;cbv;show(ll,rfl,ForA.byLN (xs:=xs) (SqL.of b3) (λj σ C=>j<=xs.length/\∃(v6:Option V),σ=[some (.ref md),some (.ref ll),some (.ref g),some (.ref sl),some v,some (.str n),v6]/\(∀ a u,V.ref a∉xs->Z a=some u->C a=some u)/\All2 (LDV K Ad (cut g C)) ((B.take j).map (λe=>e.settle n L)++B.drop j) xs) ⟨Nat.zero_le _,b4,rfl,λ_ _ _ h=>h,by rw[take_zero,map_nil,List.drop_zero,nil_append];show I⟩ (λj σ C q=>by let(_,_,_,q,_):=q;show SqL.of (q _ _ a4 b3)) ?_ ?_)
   .rintro j z σ H7 hz ⟨hj,c3,rfl,S7,x7⟩ N1 c7;have lj:=(List.getElem?_eq_some_iff.mp hz).1;let(e,a7,a2):=x7.at_ hz;rw[Jk7]at a7;have b7:=List.mem_of_getElem? a7;have b0:=a2.same Jde;let(q,dx,vr,vt,wd,rfl,hq,_):=id b0;have T7:SameT Z H7:=λc u t h=>S7 c u (LDV.notin x6 h (λ_ _ z=>by rw[z]at t;simp[isTF]at t)) h;have e7:=S7 _ _ a3 e6;have c9:V.ref q∈xs:=List.mem_of_getElem? hz;cbv;show(q,_,dx,_,rfl,hq,rfl,rfl,?_);show(q,n,v,e,L,rfl,b0,b9.sameT T7,(W e b7).1,p.fL,(W e b7).2,λH8 S8 _ c5=>?_);cbv;have c1:g≠q:=λz=>by rw[<- z,e7]at hq;cases hq
    have e8:=S8 _ _ c1 e7;show c7 _ _ ⟨lj,_,rfl,λa u hx h=>S8 a u (λz=>hx (z ▸ c9)) (S7 a u hx h),?_⟩;rw[<- Jhn a7];show x7.put hz (c5 g _ e7 a2) λi' a y ne ha hy a0=>?_;have qc:cut g H7 q=_:=(JbV c1.symm).trans hq;show a0.keep (q:=q) (λb u nb h=>?_) qc (λz=>ne ?_)
    .have d2:b≠g:=λz=>by rw[z]at h;unfold cut at h;rw[if_pos rfl]at h;cases h
     rw[JbV d2]at h ⊢;show S8 b u nb h
    .rw[z, <- hz]at hy;show((List.getElem?_inj lj d6).mp hy.symm).symm
   .rintro σ H7 ⟨hj,c3,rfl,S7,x7⟩;rw[take_of_length_le ∅,List.drop_eq_nil_of_le ∅,append_nil]at x7;have T7:SameT Z H7:=λc u t h=>S7 c u (LDV.notin x6 h (λ_ _ z=>by rw[z]at t;simp[isTF]at t)) h;show c6 _ _ ⟨by rw[length_map];ac_nf,_,_,_,_,rfl,λa u hx a0 h=>S7 a u hx (o6 a u a0 (S5 a u hx a0 h)),S7 _ _ a3 e6,b6.mono λ_ _ z=>z.sameT T7,x7,by rw[a5];show d4,Jh9.trans X⟩
  .intro σ H5 z_;let(hi,d0,b4,a6,B,rfl,S5,e5,b5,I,p,X):=z_;rw[length_map,take_of_length_le (Nat.le_refl _)]at b5 p;have ln:1<=J.length:=by cases J with | nil=>show absurd rfl c8 | cons a r=>simp
   show(_,?_,_,_,_,_,a6,_,B,rfl,λa u hx h=>S5 a u hx (λz=>by rw[z,U]at h;cases h) (O _ _ (S2 a u hx h)),e5,b5,I,p.next S e9 st.lo ∅,X,rfl);rw[length_append,length_map];ac_nf
 .rw[if_neg (by simpa using(by ac_nf:¬ kv.length<R.length))];cbv;show k g kv d o H2 S2 U e2 b2 x2 st ∅ c4
abbrev Bbf:Stmt:=top 39
theorem JeL:Jan ["lids","name","level","full"] ["lids","name","level"] (Jae Bbf):=by bv_decide
def Jc8(K:W.Frag)(Ad:Adr):Sp:=λvs H Q E=>∃(ll:Addr)(n:Str)(lv:V)(xs:List V)(lds:List LidD)(L:Fr2)(e:LidD),vs=[.ref ll, .str n,lv]/\H ll=some (.lst xs)/\All2 (LDV K Ad H) lds xs/\lds.length<=7/\FrV K H lv L.1 L.2/\lds.find? (λl=>(wtOf l.ws n).isSome&&(decide (l.rest=(0,1))&&decide (l.last=L)))=some e/\∀ p H',Same H H'->H' p=some (.tup [.str (Str.ofString "gap"), .str e.nm])->Q (.ref p) H'
theorem JgS(F:"gap_stop"∘Bbf)(T:Txt K mg Ad)(m_has_stopped:1∘"has_stopped"∘(IsLid Ad)∘["self","part","level"]∘(Jbx K Ad)):2∘["lids","name","level"]∘(Jc8 K Ad):=by
 show F.okn JeL (by subst_eqs) (λa1 A u s H vs Q E hr h=>?_)
 let(o,n,r,xs,a,L,e,rfl,h):=h;show(_,(Jab (Jb7 (j:=3) (own:=["lid"]) (cs:=[(1,"name"),(2,"level")]) JeL.nd rfl (Or.inl rfl) rfl (pi_U (pv 0)) (λ_ _ _ _=>(Jap 0 (show[("lid" : Str),("name" : Str),("level" : Str)].Nodup by decide))) (λ_ _ _ _=>JcO (Ja1 (m_has_stopped.m hr ⋯ passF (pv 0) %[pv 1,pv 2|0]))) (λ_ _ _ _=>(Jlz (K:=K) rfl (pv 0) rfl)) (Jbk rfl) ⋯ rfl ⋯ (hcs2 rfl rfl rfl rfl rfl rfl)) (Jag (Jaq (JaE %[Jc1,!3|0])))),?_)
 let(I,M,l7,hv,D,k):=h;have lX:=M.length;have sz:(1000:Nat)<=sizeLine:=by decide
 show tSeq _ _ _ [some (.ref o),some (.str n),some r,none] H;mleave;obtain⟨P,S⟩:∃ P:LidD->Bool,P=λl=>(wtOf l.ws n).isSome&&(decide (l.rest=(0,1))&&decide (l.last=L)):=⟨_,rfl⟩;rw[<- S]at D;show(o,rfl, .inl ⟨⟨xs,SqL.of I⟩,Jbt.list (xs:=xs) (λi g R=>R=H/\g=((a.take i).filter P).map λe=>V.str e.nm) ⟨rfl,by rw[take_zero];rfl⟩ (λi g R hi z=>⟨by rw[z.1];show SqL.of I,by
  rw[z.2,length_map];have h2:=length_filter_le P (a.take i);rw[length_take]at h2;ac_nf⟩) ?_ ?_⟩)
 .rintro i y g O hy ⟨c,b⟩;subst c;subst b;let(l,v,C):=M.at_ hy;let(q,G,vr,vt,wd,rfl,B,_):=id C;have U:=T.c_Lid Ad.Lid rfl;have d:a.take (i+1)=a.take i++[l]:=by rw[take_succ,v];rfl
  simpa only[length_singleton,length_cons,length_nil,List.replicate,Jaz,map_cons,map_nil,Option.join_some];show(q,_,G,_,rfl,B,rfl,rfl,?_);show(q,n,r,l,L,rfl,C,hv,?_);mleave;rw[show((wtOf l.ws n).isSome&&(decide (l.rest=(0,1))&&decide (l.last=L)))=P l by rw[S]];cases cp:P l with
  | false=>
   mleave;rw[d,filter_append,show[l].filter P=[]from List.filter_eq_nil_iff.mpr λx t=>by rw[mem_singleton.mp t,cp];decide,append_nil]
  | true=>
   mleave;show(q,_,G,_, .str l.nm,rfl,B,U.cls,U.n1,rfl,?_);mleave;rw[d,filter_append,show[l].filter P=[l]from List.filter_eq_self.mpr λx t=>by rw[mem_singleton.mp t,cp],map_append];rfl
 .rintro g O ⟨c,b⟩;subst c;rw[take_of_length_le ∅]at b;have h0:g[0]?=some (.str e.nm):=by
   have Z:(a.filter P).head?=some e:=by rw[List.head?_filter];show D
   rw[b,List.getElem?_map, <- List.head?_eq_getElem?,Z];rfl
  rename_i fl J N O W S3 e3;mleave;mleave;show ixL (i:=0) (SqL.of e3) h0 ?_;mleave;show(len2,?_);rename_i p a0 X W Y S4 e4;mleave;show k p Y (S3.trans S4) e4
abbrev Bcf:Stmt:=top 40
theorem JbM:Jan ["thing","scale","lids","mosts","levels","told","part","name","level","slack"] ["thing"] (Jae Bcf):=by bv_decide
def Jd8(K:W.Frag)(Ad:Adr):Sp:=λvs H Q E=>∃(x:Addr)(ls:List PD)(es:List (GD × List Str))(pl:Str->Fr2),vs=[.ref x]/\TK K Ad H x ls (es.map (·.1))/\SHC ls es pl/\(∀ e∈es,0<=vl (roomF pl e.1))/\∀(tl:Addr)(zs:List V)(rs:List ShD)(H':Hp),Same H H'->H tl=none->H' tl=some (.lst zs)->All2 (ShV K H') rs zs->ShR ls es pl rs->Q (.ref tl) H'
theorem JjQ(F:"share"∘Bcf)(T:Txt K mg Ad)(Bbg:4∘"scale_of"∘["thing"]∘(JcE K Ad))(Bcz:7∘"lids_of"∘["thing","scale"]∘(JdL K Ad))(BbJ:4∘"most_levels"∘["thing","scale"]∘(Jco K Ad))(Bbv:7∘"risen_levels"∘["mosts","lids"]∘(Jcc K Ad))(Bao:2∘"parts"∘(JaF Ad)∘["self"]∘(JaH K Ad))(m_lowered:2∘"lowered"∘(Jc2 Ad)∘["self","number"]∘(JbS K Ad))(Bbs:2∘"times"∘["one","other"]∘(Jds K))(Bcg:2∘"gap_stop"∘["lids","name","level"]∘(Jc8 K Ad)):9∘["thing"]∘(Jd8 K Ad):=by
 show F.okx JbM (λvs H Q E h=>?_) (λj0 A g5 s H vs Q E hr h=>?_)
 .let(x,Y,es,pl,rfl,_):=h;rfl
 let(x,Y,es,pl,rfl,h):=h;have hu:=hr.units;show(_,(Jab (Jaj 1 JbM.nd (Bbg.ev hr ⋯ rfl pass1 %[pv 0|0])) (Jab (Jaj 2 JbM.nd (Bcz.ev hr ⋯ rfl pass1 %[pv 0,pv 1|0])) (Jab (Jaj 3 JbM.nd (BbJ.ev hr ⋯ rfl pass1 %[pv 0,pv 1|0])) (Jab (Jaj 4 JbM.nd (Bbv.ev hr ⋯ rfl pass1 %[pv 3,pv 2|0])) (Jab (Jaj 5 JbM.nd (Jbj Jac)) (Jab (JaN PassesOwn.leaving rfl (pi_U (Bao.m0 hr ⋯ pass1 (pv 0))) (Jap 6 JbM.nd) (Jab (Jaj 7 JbM.nd (!6)) (Jab (Jaj 8 JbM.nd (Jb6 (hu1 hu) (pv 4) (pv 7) (λ_ _=>rfl))) (Jag (ps_if (Jar (JbO hu) (pv 8) (Jb6 (hu1 hu) (pv 3) (pv 7) (λ_ _=>rfl)) (Jav _)) (Jag (Ja6 (pe_bm PySem.F.plainAttrs_list PySem.F.slot_list_append PySem.F.type_list_append JaZ (pv 5) %[JaE %[pv 7,!6,JaE %[Jc1|0]|0]|0] (hs:=by show Jaf rfl)))) (Jab (Jaj 9 JbM.nd (m_lowered.m hr ⋯ pass1 (pv 1) %[Bbs.ev hr ⋯ rfl pass1 %[pv 8,JaE %[!6,Jad|0]|0]|0])) (Jag (Ja6 (pe_bm PySem.F.plainAttrs_list PySem.F.slot_list_append PySem.F.type_list_append JaZ (pv 5) %[JaE %[pv 7,pv 9,Bcg.ev hr ⋯ rfl pass1 %[pv 2,pv 7,pv 8|0]|0]|0] (hs:=by show Jaf rfl)))))))))) (Jag (Jaq (pv 5))))))))),?_)
 clear hu;let(ht,d,b9,k):=h;let(dx,d1,d2,d3,k1,k2,k3,hx,_):=id ht;have sl:(1000:Nat)<=sizeLine:=by decide
 have i9:=d.l12;have l7:=d.l7;show tSeq _ _ _ [some (.ref x),none,none,none,none,none,none,none,none,none] H;cbv;show(x,Y,_,rfl,ht,d.l12,by rw[length_map];show d.l7,by rw[length_map];show d.l14,λp L=>⟨(d.pb p L).1,(d.pb p L).2.b1,(d.pb p L).2.s2.mono ⋯⟩,λg hg=>by let(e,he,rfl):=mem_map.mp hg;show d.gb e he,λsc b fs H1 S1 a1=>?_);let(e7,fl,c0,_,c1,sb,_):=id a1;have b1:=c1.b1;cbv;show(x,sc,Y,es,pl,b,fs,rfl,ht.same S1,a1,d,b9,λll xs b6 H2 S2 i3 e2 hX f6 h4 d5 a7=>?_);cbv;have f7:=S1.trans S2;show(x,sc,Y,_,b,fs,rfl,ht.same f7,a1.same S2,d.l12,d.nd,λp L=>⟨(d.pb p L).2,(d.pok p L).w,d.wt p L⟩,λmd d8 ms H3 S3 h8 e3 bm e1 h5=>?_);let(q0,rc,f4):=Jj7 b1 sb d b9 d5 a7 e1 h5;have hw:=JkA d5 a7;cbv;have x3:All2 (LDV K Ad H3) b6 xs:=hX.mono λ_ _ z=>z.same S3;show(md,ll,d8,ms,xs,b6,b,q0,_,_,_,_,rfl,e3,bm,S3 _ _ e2,x3,f6,by ac_nf,rc,f4,λld kv g6 R H4 S4 i1 e4 b4 x4 X O h6=>?_);have b0:Same H1 H4:=λc u h=>S4 c u (λz=>by let(q,eq,hq):=h4 _ z;have eq:c=q:=(by injection eq);rw[<- eq,h]at hq;cases hq) (S3 _ _ (S2 _ _ h));have Z:=S1.trans b0;have T4:SameT H3 H4:=λc u t h=>S4 c u (LDV.notin x3 h (λ_ _ z=>by rw[z]at t;simp[isTF]at t)) h;have f1:=S4 _ _ (LDV.notin x3 e3 (λ_ _ z=>by cases z)) e3;have h7:=S4 _ _ (LDV.notin x3 (S3 _ _ e2) (λ_ _ z=>by cases z)) (S3 _ _ e2);have g3:BG (·.1) (NFV K H4) ms d8:=bm.mono λ_ _ z=>z.sameT T4;have c9:R.map (·.nm)=es.map (·.1.nm):=by
  rw[h6];show List.ext_getElem? λi=>?_;rw[List.getElem?_map,List.getElem?_map];by_cases c:i<es.length
  .rw[List.getElem?_eq_getElem c,List.getElem?_eq_getElem (by ac_nf:i<b6.length)];show congrArg some (a7 i _ _ (List.getElem?_eq_getElem c) (List.getElem?_eq_getElem ∅)).nm
  .rw[List.getElem?_eq_none ∅,List.getElem?_eq_none ∅];rfl
 have i7:R.length=es.length:=by simpa using congrArg List.length c9
 cbv;show(Nat.zero_le _,?_);rename_i W a4 i0 H4 H5 S5 e5;cbv;have a6:H W=none:=Jeh Z a4;show(x,_,dx,_,rfl,S5 _ _ (Z _ _ hx),rfl,rfl,x,Y,_,rfl,ht.same (Z.trans S5),by ac_nf,λl ys H6 S6 c6 e6 hY=>?_);have lY:=hY.length;have g9:l≠W:=λz=>by rw[z,e5]at c6;cases c6
 have c5:=Same.trans S5 S6;cbv;show(l,rfl,ForA.byLN (xs:=ys) (SqL.of e6) (λi σ H'=>i<=ys.length/\∃(v6 v7 v8 v9:Option V)(zs:List V)(X:List ShD),σ=[some (.ref x),some (.ref sc),some (.ref ll),some (.ref md),some (.ref ld),some (.ref W),v6,v7,v8,v9]/\(∀ c u,c≠W->H6 c=some u->H' c=some u)/\SameT H6 H'/\H' W=some (.lst zs)/\All2 (ShV K H') X zs/\X.length=i/\∀(j:Nat) p r,Y[j]?=some p->X[j]?=some r->ShRow Y es pl (lvf b g6) p r) ⟨Nat.zero_le _,none,none,none,none,[],[],rfl,λ_ _ _ h=>h,SameT.refl _,S6 _ _ e5,rfl,rfl,λj p r _ h=>by simp at h⟩ (λi σ H' q=>by let(_,_,_,_,_,_,_,_,q,_):=q;show SqL.of (q _ _ g9 e6)) ?_ ?_)
 .intro i y σ H7 hy z_ N0 c2;let(hi,v6,v7,v8,v9,zs,a0,rfl,ho,hT,ez,hZ,N,I):=z_;have li:=(List.getElem?_eq_some_iff.mp hy).1;let(p,L,b_,vz,vm,rfl,hb,_,hm):=hY.at_ hy;have a2:=List.mem_of_getElem? L;have b5:=hb.sameT hT;have o:Same H4 H7:=λc u h=>ho c u (Jai h a4) (c5 _ _ h);have c4:p.nm∈Y.map (·.nm):=mem_map.mpr ⟨p,a2,rfl⟩;let(a,S,ha,J,d4,h3):=b4.some (z:=p.nm) (X.all rc O _ c4);have J:a.1=p.nm:=J;let(m,b8,f5,b2,a8,f3):=g3.some (z:=p.nm) (by rw[rc.nm];show c4);have b2:m.1=p.nm:=b2;have fa:=sh_lv rc X ha;have ml:=rc.ml m f5;have c3:vl m.2=moF Y a.1*(b:Rat):=by rw[ml.1,b2,J]
  have g7:DGet H7 ld (.str p.nm) (some S):=by rw[<- d4];show DGet.k (k:=Sum.inr p.nm) (o _ _ e4)
  have g2:DGet H7 md (.str p.nm) (some b8):=by rw[<- a8];show DGet.k (k:=Sum.inr p.nm) (o _ _ f1)
  have b7:FrV K H7 S a.2.1 a.2.2:=FrV.same o h3;have g8:FrV K H7 b8 m.2.1 m.2.2:=FrV.same o f3;have lZ:=hZ.length;cbv;show ixT (i:=0) b5 rfl ?_;cbv;show(ld,S,rfl,g7,?_);cbv;show(md,b8,rfl,g2,?_);show eqF b7 g8 ?_;have ee:(decide (a.2.1=m.2.1)&&decide (a.2.2=m.2.2))=decide (a.2=m.2):=by
   rw[<- Bool.decide_and];show decide_eq_decide.mpr Prod.ext_iff.symm
  rw[ee];cbv;by_cases c:a.2=m.2
  .rw[if_pos (by simpa using c)];cbv;show(.inl ⟨rfl,_,SqL.of ez⟩,?_);show ixT (i:=4) b5 rfl ?_;cbv;show(by show 1<=sizeLine;ac_nf,?_);rename_i t i8 i6 H7 H8 S8 e8;cbv;cbv;show(by show 3<=sizeLine;ac_nf,?_);rename_i pr d6 d0 H8 H9 S9 e9;cbv;have v:=Same.trans S8 S9;have M:=v _ _ ez;cbv;show(W,zs,_,rfl,rfl,M,by ac_nf,?_);generalize G:upd H9 W _=C;cbv;have a9:=putE G;have n:SameT H9 C:=SameT.put G M rfl;have T7:=v.t.trans n;show c2 _ _ ⟨li,_,_,_,_,_,a0++[(⟨p.nm,p.mo,none⟩:ShD)],rfl,λc u U h=>by rw[<- G,Jah U];show v _ _ (ho c u U h),hT.trans T7,a9,(hZ.mono (P':=ShV K C) λ_ _ z=>z.sameT T7).append (.one (show ShV K C (⟨p.nm,p.mo,none⟩:ShD) (.ref pr)from⟨pr,_,t,rfl,SqT.of (n _ _ rfl e9),((hm.sameT hT).same v).sameT n,SqT.of (n _ _ rfl (S9 _ _ e8))⟩)),by rw[length_append,N];rfl,λj p' r' h1 h2=>?_⟩;rcases Jbg h2 with h2 | ⟨q1,q2⟩
   .show I j p' r' h1 h2
   .rw[q1,N,L]at h1;cases h1;rw[q2];show JlL d rc X a2 ha J (by rw[c];show c3)
  .rw[if_neg (by simpa using c)];cbv;have c7:vl a.2≠moF Y a.1*(b:Rat):=λz=>c (fa.lo.inj ml.2.1.lo (z.trans c3.symm));let(l0,e0,d9,f9,g4):=JlJ hw rc X O c9 ha c7;have wp:=d.wt p a2;show(sc,_,e7,_,rfl,o _ _ (b0 _ _ c0),rfl,rfl,?_);show ixT (i:=5) b5 rfl ?_;cbv;show(len2,?_);rename_i w1 h9 i2 H7 H8 S8 e8;cbv;show(S, .ref w1,_,_,p.wt,1,rfl,b7.same S8,FrV.of e8,fa.s1.mono ⋯,fa.s2.mono ⋯,wp.mono ⋯, .lit ⋯ ⋯,fa.b1,by decide,fa.g1,by unfold Mth.g;simp,λp2 H9 S9 e9=>?_);have e9:H9 p2=some (.tup [.int (mulF a.2 (p.wt,1)).1, .int (mulF a.2 (p.wt,1)).2]):=e9;have a3:=Same.trans S8 S9;have i5:=Jfq (a:=a.2) (c:=(p.wt,1)) fa.b1 (Int.le_refl 1);have f0:FB 3000 1000 (mulF a.2 (p.wt,1)):=by
    show FB.low (JbA fa.b1 (Int.le_refl 1)) ((fa.s1.mul wp).mono ⋯) ?_;show Mth.Sz 1000 (a.2.2*1);rw[Int.mul_one];show fa.s2.mono ⋯
   cbv;show(sc, .ref p2,_,b,fs,rfl,a1.same (b0.trans (o.trans a3)),FrV.of e9,f0,λp3 tt i4 h0 f8 g0=>?_);have B:=a3.trans h0;cbv;show(.inl ⟨rfl,_,SqL.of (B _ _ ez)⟩,?_);cbv;show(ll,p.nm,S,xs,R,a.2,l0,rfl,B _ _ (o _ _ h7),x4.mono (λ_ _ z=>z.same (o.trans B)),by ac_nf,b7.same B,by rw[<- J];show d9,λt f2 c8 d7=>?_);cbv;show(by show 3<=sizeLine;ac_nf,?_);rename_i pr d6 d0 f2 a5 b3 e9;cbv;have v:=B.trans (c8.trans b3);have M:=v _ _ ez;cbv;show(W,zs,_,rfl,rfl,M,by ac_nf,?_);generalize G:upd a5 W _=C;cbv;have a9:=putE G;have n:SameT a5 C:=SameT.put G M rfl;have T7:=v.t.trans n;show c2 _ _ ⟨li,_,_,_,_,_,a0++[(⟨p.nm,tt,some e0.1.nm⟩:ShD)],rfl,λc u U h=>by rw[<- G,Jah U];show v _ _ (ho c u U h),hT.trans T7,a9,(hZ.mono (P':=ShV K C) λ_ _ z=>z.sameT T7).append (.one (show ShV K C (⟨p.nm,tt,some e0.1.nm⟩:ShD) (.ref pr)from⟨pr,_,t,rfl,SqT.of (n _ _ rfl e9),FrV.of (n _ _ rfl (b3 _ _ (c8 _ _ f8))),by rw[g4]at d7;show SqT.of (n _ _ rfl (b3 _ _ d7))⟩)),by rw[length_append,N];rfl,λj p' r' h1 h2=>?_⟩;rcases Jbg h2 with h2 | ⟨q1,q2⟩
   .show I j p' r' h1 h2
   .rw[q1,N,L]at h1;cases h1;rw[q2];show JlK d rc X a2 ha J c7 g0 f9
 .intro σ H7 z_;let(hi,v6,v7,v8,v9,zs,a0,rfl,ho,hT,ez,hZ,N,I):=z_;cbv;let(D,F):=Jje hw rc X O;show k W zs a0 H7 (λc u h=>ho c u (Jai h a6) (c5 _ _ (Z _ _ h))) a6 ez hZ ⟨by have:=hZ.length;ac_nf,_,D,F,I⟩
abbrev Bc0:Stmt:=top 41
theorem JfN:Jan ["room","slacks","total","slack"] ["room","slacks"] (Jae Bc0):=by bv_decide
def Jg9(K:W.Frag):Sp:=λvs H Q E=>∃(r:V)(l:Addr)(xs:List V)(ts:List Fr2)(m:Fr2)(E_ Qb:Int),vs=[r, .ref l]/\FrV K H r m.1 m.2/\FB 2200 56 m/\SqL K H l xs/\All2 (FLV K H) ts xs/\FTS E_ Qb ts/\ts.length<=8/\smF ts<=vl m/\∀ H',Same H H'->Q (.bl true) H'
theorem Jln(F:"fits"∘Bc0)(T:Txt K mg Ad)(Bca:2∘"plus"∘["one","other"]∘(JeQ K))(Bai:1∘"under"∘["one","other"]∘(Jb3 K)):3∘["room","slacks"]∘(Jg9 K):=by
 show F.okn JfN (by subst_eqs) (λZ A D s H X Q E R h=>?_)
 let(r,l,xs,S,m,E_,Qb,rfl,h):=h;show(_,(Jab (Jaj 2 JfN.nd (Jcv (v:=.ref _) rfl T.Bcs T.Bct)) (Jab (JaN PassesOwn.never rfl (pi_U (pv 1)) (Jap 3 JfN.nd) (Jag (Jaj 2 JfN.nd (Bca.ev R ⋯ rfl passF %[pv 2,pv 3|0])))) (Jag (Jaq (JhA (Bai.ev R ⋯ rfl passF %[pv 0,pv 2|0])))))),?_)
 let(fr,fm,L,U,B,M,n,k):=h;have lx:=U.length;show tSeq _ _ _ [some r,some (.ref l),none,none] H;cbv;show(l,rfl,ForA.byLN (xs:=xs) L (λi σ z=>i<=xs.length/\∃(t:V)(u:Fr2)(x:Option V),σ=[some r,some (.ref l),some t,x]/\Same H z/\FrV K z t u.1 u.2/\Lo u/\vl u=smF (S.take i)) ⟨Nat.zero_le _, .ref Ad.ZERO,(0,1),none,rfl,Same.refl _,⟨Ad.ZERO,rfl,T.Bcu _⟩,⟨Int.le_refl 1,JdO.g1⟩,by rw[take_zero];unfold vl smF;grind⟩ (λi σ z q=>by let(_,_,_,_,_,q,_):=q;show L.same q) ?_ ?_)
 .intro i y σ J N z_ N0 C;let(hi,t,u,x,rfl,j,o,G,g):=z_;have li:=(List.getElem?_eq_some_iff.mp N).1;let(s,I,Y):=U.at_ N;have d:=(B.t s (List.mem_of_getElem? I)).1;have b:=B.fb M G g;cbv;show(t,y,_,_,_,_,rfl,o,FrV.same j Y,b.s1.mono ⋯,b.s2.mono ⋯,d.s1.mono ⋯,d.s2.mono ⋯,b.b1,d.b1,b.g1,d.g1,λp H2 S2 W=>?_);cbv;show C _ _ ⟨li, .ref p,addF u s,_,rfl,j.trans S2,FrV.of W,Jfc (JbA b.b1 d.b1),?_⟩;rw[JgB b.b1 d.b1,g,take_succ,I];show(JfU s _).symm
 .intro σ J z_;let(hi,t,u,x,rfl,j,o,G,g):=z_;have b:=B.fb M G g;rw[take_of_length_le ∅]at g;cbv;show(r,t,m.1,m.2,u.1,u.2,rfl,FrV.same j fr,o,fm.s1.mono ⋯,fm.s2.mono ⋯,b.s1.mono ⋯,b.s2.mono ⋯,?_);cbv;have O:=JbT (a:=m) (c:=u) fm.b1 b.b1;unfold lessF at O;have e:decide (m.1*u.2<u.1*m.2)=false:=by
   cases q:decide (m.1*u.2<u.1*m.2)with
   | false=>rfl
   | true=>
    rw[<- g]at n;show absurd (O.mp q) (Rat.not_lt.mpr n)
  rw[e];show k J j
abbrev BaU:Stmt:=top 42
theorem Ja7:Jan ["thing","slacks","scale","by_name","part","slack","gap","on_way"] ["thing","slacks"] (Jae BaU):=by bv_decide
def JcA(K:W.Frag)(Ad:Adr):Sp:=λvs H Q E=>∃(x sl:Addr)(ls:List PD)(es:List (GD × List Str))(sx:List V)(ss:List Fr2)(pl:Str->Fr2)(E_:Int),vs=[.ref x, .ref sl]/\TK K Ad H x ls (es.map (·.1))/\SqL K H sl sx/\All2 (FLV K H) ss sx/\ss.length=ls.length/\ls.length<=8/\(∀ s∈ss,FB 910 800 s/\Dv E_ (vl s))/\1<=E_/\Mth.Sz 800 E_/\(∀ p∈ls,FB 100 6 p.mo)/\SHC ls es pl/\ShP ls es ss pl/\∀ H',Same H H'->Q (.bl true) H'
theorem Jfw(F:"is_sharing"∘BaU)(T:Txt K mg Ad)(Bbg:4∘"scale_of"∘["thing"]∘(JcE K Ad))(Bao:2∘"parts"∘(JaF Ad)∘["self"]∘(JaH K Ad))(BaA:2∘"gaps"∘(JaF Ad)∘["self"]∘(JaO K Ad))(Bai:1∘"under"∘["one","other"]∘(Jb3 K))(Ba8:2∘"lifted"∘(Jc2 Ad)∘["self","number"]∘(Jbb K Ad))(BaS:2∘"part_names"∘["thing","gap_name"]∘(Jb2 K Ad))(BdN:3∘"fits"∘["room","slacks"]∘(Jg9 K))(BcZ:5∘"room"∘(JaF Ad)∘["self","name"]∘(Jb0 K Ad)):7∘["thing","slacks"]∘(JcA K Ad):=by
 show F.okn Ja7 (by subst_eqs) (λh5 A g0 s H vs Q E Z h=>?_)
 let(x,sl,o,es,sx,ss,pl,E_,rfl,h):=h;have hu:=Z.units;show(_,(Jab (Jaj 2 Ja7.nd (Bbg.ev Z ⋯ rfl passF %[pv 0|0])) (Jab (Jaj 3 Ja7.nd JbK rfl (Or.inr rfl)) (Jab (JaN PassesOwn.never rfl (Jmn rfl T.Bd9 JlV %[Bao.m0 Z ⋯ passF (pv 0),pv 1|0]) (Jgq rfl (JaX (Jap 4 Ja7.nd) (JaX (Jap 5 Ja7.nd) JcN))) (Jab (ps_if (PW.pt (pw_or (Ja1 (Bai.ev Z ⋯ rfl passF %[pv 5,Jcv (v:=.ref _) rfl T.Bcs T.Bct|0])) (JcJ (Ja1 (Bai.ev Z ⋯ rfl passF %[!4,pv 5|0]))))) (Jag (Jaq pe_bl))
   Jat) (Jag (Jcj (hu1 hu) (pv 3) (!4) (Ba8.m Z ⋯ passF (pv 2) %[pv 5|0]) rfl)))) (Jab (JaN PassesOwn.never rfl (pi_U (BaA.m0 Z ⋯ passF (pv 0))) (Jap 6 Ja7.nd) (Jab (Jkz (Jb7 (j:=7) (own:=["name"]) (cs:=[(3,"by_name")]) Ja7.nd rfl (Or.inl rfl) rfl (pi_U (BaS.ev Z ⋯ rfl passF %[pv 0,!6|0])) (λ_ _ _ _=>(Jap 0 (show[("name" : Str),("by_name" : Str)].Nodup by decide))) (λ_ _ _ _=>JbE) (λ_ _ _ _=>(Jb6 (hu1 hu) (pv 1) (pv 0) (λ_ _=>rfl))) (Jbk rfl) ⋯ rfl ⋯ (hcs1 rfl rfl rfl))) (Jag (ps_if (JbB (Ja1 (BdN.ev Z ⋯ rfl passF %[Ba8.m Z ⋯ passF (pv 2) %[BcZ.m Z ⋯ passF (pv 0) %[!6|0]|0],pv 7|0]))) (Jag (Jaq pe_bl))
   Jat)))) (Jag (Jaq pe_bl)))))),?_)
 clear hu;let(ht,c4,hA,g2,l8,d7,E1,sE,c8,d,a1,k):=h;let(dx,d1,d2,d3,k1,k2,k3,hx,_):=id ht;have g7:(1000:Nat)<=sizeLine:=by decide
 have l7:=d.l7;have h4:=hA.length;show tSeq _ _ _ [some (.ref x),some (.ref sl),none,none,none,none,none,none] H;cbv;show(x,o,es.map (·.1),rfl,ht,d.l12,by rw[length_map];show d.l7,by rw[length_map];show d.l14,λp hp=>⟨(d.pb p hp).1,(d.pb p hp).2.b1,(d.pb p hp).2.s2.mono ⋯⟩,λg hg=>by let(e,he,rfl):=mem_map.mp hg;show d.gb e he,λsc b fs H1 S1 a9=>?_);let(b8,fl,I,_,Y,sb,_):=id a9;cbv;rename_i N J g3 H1 H2 S2 e2;cbv;cbv;have b3:=S1.trans S2;show(x,_,dx,_,rfl,b3 _ _ hx,rfl,rfl,x,o,_,rfl,ht.same b3,by ac_nf,λl ys H3 S3 c6 e3 hY=>?_);have lY:=hY.length;have S:=b3.trans S3;have g1:l≠N:=λz=>by rw[z,e2]at c6;cases c6
 have d0:=c4.same S;have R:H N=none:=Jeh S1 J;have G:sc≠N:=λz=>by rw[z,J]at I;cases I
 have ez:(o.zip ss).map (·.1.nm)=o.map (·.nm):=JkN g2;cbv;show(l,sl,rfl,⟨ys,SqL.of e3⟩,⟨sx,d0⟩,ForJ.zip (xs:=ys) (ys:=sx) (λi σ r=>i<=o.length/\∃(v4 v5:Option V)(kv:List (Key × V)),σ=[some (.ref x),some (.ref sl),some (.ref sc),some (.ref N),v4,v5,none,none]/\(∀ c u,c≠N->H3 c=some u->r c=some u)/\SameT H3 r/\r N=some (.dK kv)/\BG (·.1.nm) (LFV K r b) ((o.zip ss).take i) kv) ⟨Nat.zero_le _,none,none,[],rfl,λ_ _ _ h=>h,(Same.refl _).t,S3 _ _ e2,⟨rfl,rfl⟩⟩ (λi σ r q=>by
  let(_,_,_,_,_,q,_):=q;have S0:Same H r:=λc u h=>q c u (Jai h R) (S _ _ h);show(SqL.of (q _ _ g1 e3),c4.same S0)) ?_ ?_)
 .intro i y z σ H4 pp H5 hy hz z_ hn S5 e5;let(hi,v4,v5,kv,rfl,ho,hT,a2,hB):=z_;have li:=(List.getElem?_eq_some_iff.mp hy).1;let(p,hp,a_,vz,vm,rfl,hb,h1,hm):=hY.at_ hy;let(s,hs,e4):=hA.at_ hz;have B:=(d7 s (List.mem_of_getElem? hs)).1;have pb:=c8 p (List.mem_of_getElem? hp);have bd:=a1.1 i p s hp hs;have b2:SameT H3 H5:=hT.trans S5.t;have b9:=hb.sameT b2;have b0:FrV K H5 z s.1 s.2:=FrV.sameT (S.t.trans b2) e4;have U:Same H H4:=λc u h=>ho c u (Jai h R) (S _ _ h);have lk:=hB.length;rw[length_take]at lk;cbv;show(pp,_,rfl,SqT.of e5,rfl,?_);cbv;have z0:vl (0,1)=0:=by unfold vl;grind
  have l1:=JbT (a:=s) (c:=(0,1)) B.b1 ⋯;rw[z0]at l1;have l2:=JbT (a:=p.mo) (c:=s) pb.b1 B.b1;unfold lessF at l1 l2;show(z, .ref Ad.ZERO,s.1,s.2,0,1,rfl,b0,⟨Ad.ZERO,rfl,T.Bcu _⟩,B.s1.mono ⋯,B.s2.mono ⋯, .lit ⋯ ⋯, .lit ⋯ ⋯,?_);cbv;rw[if_neg (λc1=>absurd (l1.mp c1) (Rat.not_lt.mpr bd.1))];cbv;cbv;show ixT (i:=4) b9 rfl ?_;show(vm,z,p.mo.1,p.mo.2,s.1,s.2,rfl,FrV.sameT b2 hm,b0,pb.s1.mono ⋯,pb.s2.mono ⋯,B.s1.mono ⋯,B.s2.mono ⋯,?_);cbv;rw[if_neg (λc2=>absurd (l2.mp c2) (Rat.not_lt.mpr bd.2))];cbv;cbv;have d9:SCK Ad H5 sc b fs:=by
   let(O,a0,q1,q2,q3):=a9;have nf:a0≠N:=λz=>by rw[z,J]at q2;cases q2
   show(O,a0,S5 _ _ (ho _ _ G (S3 _ _ (S2 _ _ q1))),S5 _ _ (ho _ _ nf (S3 _ _ (S2 _ _ q2))),q3)
  have b5:=S5 _ _ (ho _ _ G (S3 _ _ (S2 _ _ I)));show(sc,_,b8,_,rfl,b5,rfl,rfl,?_);show(sc,z,s,b,fs,rfl,d9,b0,B.mono ⋯ ⋯,λq t H6 M e6 hL=>?_);cbv;show ixT (i:=0) (b9.same M) rfl ?_;show(N,_,rfl,DPut.k (k:=Sum.inr p.nm) (M _ _ (S5 _ _ a2)) ∅,?_);generalize u7:upd H6 N _=H7;cbv;have e7:=putE u7;have T7:SameT H6 H7:=SameT.put u7 (M _ _ (S5 _ _ a2)) rfl;have c0:SameT H4 H7:=S5.t.trans (M.t.trans T7);have nw:p.nm∉((o.zip ss).take i).map (·.1.nm):=λz=>by
   have e:=List.map_take (f:=λ(x:PD × Fr2)=>x.1.nm) (l:=o.zip ss) (i:=i);rw[e,ez, <- List.map_take]at z;show JgR d.nd hp z
  have f6:(o.zip ss)[i]?=some (p,s):=List.getElem?_zip_eq_some.mpr ⟨hp,hs⟩;show(by ac_nf,_,_,_,rfl,λc u d8 h=>by rw[<- u7,Jah d8];show M _ _ (S5 _ _ (ho c u d8 h)),hT.trans c0,e7,?_);rw[take_succ,f6];show(hB.mono (P':=LFV K H7 b) λ_ _ z=>z.sameT c0).new (a:=(p,s)) nw ⟨t,hL,FrV.of (T7 _ _ rfl e6)⟩
 .intro σ H4 z_;let(hi,v4,v5,kv,rfl,ho,hT,a2,hB):=z_;have em:min ys.length sx.length=o.length:=by ac_nf
  rw[em]at hB;rw[take_of_length_le (by rw[List.length_zip];ac_nf)]at hB;have U:Same H H4:=λc u h=>ho c u (Jai h R) (S _ _ h);have c9:SCK Ad H4 sc b fs:=by
   let(O,a0,q1,q2,q3):=a9;have nf:a0≠N:=λz=>by rw[z,J]at q2;cases q2
   show(O,a0,ho _ _ G (S3 _ _ (S2 _ _ q1)),ho _ _ nf (S3 _ _ (S2 _ _ q2)),q3)
  have b4:=ho _ _ G (S3 _ _ (S2 _ _ I));have bq:(0:Rat)<(b:Rat):=by exact_mod_cast (show 0<b by have:=Y.b1;ac_nf)
  cbv;show(x,_,dx,_,rfl,U _ _ hx,rfl,rfl,x,o,_,rfl,ht.same U,by rw[length_map];ac_nf,λm zs H5 S5 h6 e5 hZ=>?_);have lZ:=hZ.length;rw[length_map]at lZ;have c5:=U.trans S5;cbv;show(m,rfl,ForA.byL (xs:=zs) (SqL.of e5) (λi σ r=>i<=zs.length/\∃(v6 v7:Option V),σ=[some (.ref x),some (.ref sl),some (.ref sc),some (.ref N),v4,v5,v6,v7]/\Same H5 r) ⟨Nat.zero_le _,none,none,rfl,Same.refl _⟩ (λi σ r q=>by let(_,_,_,_,q):=q;show SqL.of (q _ _ e5)) ?_ ?_)
  .rintro i y σ H6 hy ⟨hi,v6,v7,rfl,M⟩;have li:=(List.getElem?_eq_some_iff.mp hy).1;let(g,a7,a_,h3,h2,rfl,hb,_,_):=hZ.at_ hy;obtain⟨e,f0,rfl⟩:∃ e,es[i]?=some e/\e.1=g:=by
    rw[List.getElem?_map]at a7;show Option.map_eq_some_iff.mp a7
   have he:=List.mem_of_getElem? f0;have e0:=c5.trans M;have f3:=S5.trans M;have d5:=hb.same M;have gm:e.1∈es.map (·.1):=mem_map.mpr ⟨e,he,rfl⟩;cbv;show ixT (i:=0) d5 rfl ?_;show(x,o,es.map (·.1),e.1,rfl,ht.same e0,d.nd,by ac_nf,gm,d.gn e he,λnl w H7 S7 e7 hw d6=>?_);have lw:w.length<=8:=by
    have:=sub_len (w.map (·.1)) (o.map (·.nm)) d6 λn hn=>Jb4 (JdD hw) n hn;rw[length_map,length_map]at this;ac_nf
   have a8:=f3.trans S7;have f1:=hB.mono (P':=LFV K H7 b) λ_ _ z=>z.sameT a8.t;have c7:=a8 _ _ a2;show(nl,rfl, .inl ⟨⟨_,SqL.of e7⟩,CompJ.list (xs:=(w.map (·.1)).map V.str) (λi ys r=>r=H7/\∃ ts:List Fr2,All2 (FLV K H7) ts ys/\ts.length=i/\FTS E_ (2 ^ 101*b) ts/\smF ts=sm (svl o ss) ((w.map (·.1)).take i)*(b:Rat)) ⟨rfl,[],rfl,rfl,FTS.nil E1 sE Y.b1 sb ⋯,by rw[take_zero];unfold smF sm;grind⟩ (λi ys r hi z=>by
    let(rfl,ts,W,h0,_):=z;have:=W.length;rw[length_map,length_map]at hi;show(SqL.of e7,by ac_nf)) ?_ ?_⟩)
   .intro j y' e1 r L z_;let(rfl,ts,W,a3,b7,X):=z_;have lj:=(List.getElem?_eq_some_iff.mp L).1;rw[length_map]at lj;rw[List.getElem?_map,List.getElem?_eq_getElem lj]at L;obtain⟨n,hn⟩:∃ n,n=(w.map (·.1))[j]:=⟨_,rfl⟩;rw[<- hn]at L;have L:y'=.str n:=(Option.some.inj L).symm;subst L;have f8:n∈o.map (·.nm):=Jb4 (JdD hw) n (by rw[hn];show List.getElem_mem lj);let(x',v,a5,f2,hv,t,hL,ft):=f1.some (z:=n) (by rw[ez];show f8);have e9:=(of_mem_zip a5).2;let(xb,xd):=d7 _ e9;have a4:=JmG a1.1 a5;have f9:=c8 _ (of_mem_zip a5).1;simpa only[length_singleton,length_cons,length_nil,List.replicate,Jaz,map_cons,map_nil,Option.join_some];show(N,_,rfl,by rw[<- hv];show DGet.k (k:=Sum.inr n) c7,?_);show(ts++[t],W.append (.one ft),by simp[a3],b7.snoc (hL.fb xb sb) (hL.vl xb.b1) xd Y.b1 a4.1 (Rat.le_trans a4.2 (fb_le f9 (Rat.le_trans a4.1 a4.2) ⋯)) ⋯ ⋯,?_)
    .rw[JfU,X,hL.vl xb.b1,take_succ,List.getElem?_eq_getElem lj, <- hn];show _=sm _ (_++[n])*_;rw[Jji, <- f2,JkD d.nd a5];grind
   .intro e1 r z_;let(rfl,ts,W,a3,b7,X):=z_;rw[length_map]at a3 X;rw[take_of_length_le (Nat.le_refl _)]at X;rw[length_map]at a3;rename_i ow g4 g5 r H8 S8 e8;cbv;cbv;have b6:=a8.trans S8;have d4:=U.trans b6;show(sc,_,b8,_,rfl,b6 _ _ b4,rfl,rfl,?_);show(x,_,dx,_,rfl,d4 _ _ hx,rfl,rfl,?_);show ixT (i:=0) ((d5.same S7).same S8) rfl ?_;show(x,e.1.nm,o,es.map (·.1),rfl,ht.same d4,λz=>absurd (mem_map.mpr ⟨e.1,gm,rfl⟩) z,λg' a7 hz=>?_);have f7:=d.gn e he g' a7 hz;subst f7;show(pl,d.gn e he,λp hp q hq h=>JfE d.nd hp hq h,d.pok,d.plb,d.pls,d.tok e he,λv H9 S9 fv=>?_);have c3:=b6.trans S9;show(sc,v,roomF pl e.1,b,fs,rfl,c9.same c3,fv,(d.rb e he).mono ⋯ ⋯,λq t g9 a6 f4 hL=>?_);have g6:=c3.trans a6;have tb:=hL.fb (d.rb e he) sb |>.mono (C:=2200) (D:=56) ⋯ ⋯
    show(.ref q,ow,_,ts,t,E_,2 ^ 101*b,rfl,FrV.of f4,tb,SqL.of (a6 _ _ (S9 _ _ e8)),W.mono (λ_ _ z=>z.sameT (S8.trans (S9.trans a6)).t),b7,by ac_nf,?_,λg8 f5=>?_)
    .rw[X,hL.vl (d.rb e he).b1,scaled bq, <- Jjh (d.way e he w hw d6)];show a1.2 e he
    cbv;show(li,_,_,rfl,M.trans (S7.trans (S8.trans (S9.trans (a6.trans f5)))))
  .rintro σ H6 ⟨hi,v6,v7,rfl,M⟩;cbv;show k H6 (c5.trans M)
abbrev Ba5:Stmt:=top 53
theorem JdU:Jan ["thing","name","gap"] ["thing","name"] (Jae Ba5):=by bv_decide
def JcR(K:W.Frag)(Ad:Adr):Sp:=λvs H Q E=>∃(x:Addr)(z:Str)(ls:List PD)(gs:List GD),vs=[.ref x, .str z]/\TK K Ad H x ls gs/\gs.length<=20/\(∃ g∈gs,g.nm=z)/\(∀ g∈gs,g.nm=z->∀ v H',Same H H'->TV K H' g.td v->Q v H')
theorem Jgk(F:"gap_named"∘Ba5)(T:Txt K mg Ad)(BaA:2∘"gaps"∘(JaF Ad)∘["self"]∘(JaO K Ad)):3∘["thing","name"]∘(JcR K Ad):=by
 show F.okx JdU (λS H Q E h=>?_) (λW A o s H S Q E G h=>?_)
 .let(x,z,D,n,rfl,_):=h;rfl
 let(x,z,D,n,rfl,h):=h;have a:=G.units;show(_,(Jab (JaN PassesOwn.leaving rfl (pi_U (BaA.m0 G ⋯ pass1 (pv 0))) (Jap 2 JdU.nd) (Jag (ps_if (Jar (JbO a) (!2) (pv 1) (Jav _)) (Jag (Jaq (pv 2)))
   Jat))) (Jag (JfI PySem.F.excBase_ValueError T.BbZ rfl T.BdI %[Jc1|0]))),?_)
 clear a;let(v,O,j,k):=h;have sl:(1000:Nat)<=sizeLine:=by decide
 let(N,d1,d2,d3,k1,k2,k3,X,_):=id v;show tSeq _ _ _ [some (.ref x),some (.str z),none] H;cbv;show(x,_,N,_,rfl,X,rfl,rfl,?_);cbv;show(x,D,n,rfl,v,O,λl p L M a0 t r=>?_);have lg:=r.length;cbv;show(l,rfl,ForA.byL (xs:=p) (SqL.of t) (λi σ I=>i<=p.length/\(∀ g∈n.take i,g.nm≠z)/\∃ m:Option V,σ=[some (.ref x),some (.str z),m]/\I=L) ⟨Nat.zero_le _,(λg d=>by simp at d),none,rfl,rfl⟩ (λi σ I q=>by let(_,_,_,_,rfl):=q;show SqL.of t) ?_ ?_)
 .rintro i y σ C B ⟨hi,e,m,rfl,rfl⟩;have li:=(List.getElem?_eq_some_iff.mp B).1;let(g,d,J):=r.at_ B;let(b,U,Z,rfl,hb,Y,a1):=id J;cbv;show ixT (i:=0) hb rfl ?_;cbv;by_cases c:g.td.nm=z
  .rw[if_pos (decide_eq_true c)];cbv;cbv;show k g (List.mem_of_getElem? d) c _ C M J
  .rw[if_neg (λh=>c (of_decide_eq_true h))];cbv;cbv;show(li,λu a=>?_,_,rfl,trivial);rw[take_succ,d]at a;rcases mem_append.mp a with h | h
   .show e u h
   .rw[mem_singleton.mp h];show c
 .rintro σ C ⟨hi,e,m,rfl,rfl⟩;rw[take_of_length_le ∅]at e;cbv;show absurd j (λ⟨g,R,h2⟩=>e g R h2)
abbrev Bbh:Stmt:=top 54
theorem Jg8:Jan ["rows","row"] ["rows","row"] (Jae Bbh):=by bv_decide
def Jdc(K:W.Frag):Sp:=λvs H Q E=>∃(a b:Addr)(gs:List GD)(g:GD)(zs:List V),vs=[.ref a, .ref b]/\H a=some (.lst zs)/\All2 (λ(g:GD) v=>TV K H g.td v) gs zs/\gs.length<=20/\TV K H g.td (.ref b)/\∀ l ys H',Same H H'->H' l=some (.lst ys)->All2 (λ(g:GD) v=>TV K H' g.td v) (gs.map λu=>if u.nm=g.nm then g else u) ys->Q (.ref l) H'
theorem JgZ(F:"with_row"∘Bbh)(T:Txt K mg Ad)  : 1∘["rows","row"]∘(Jdc K):=by
 show F.okn Jg8 (by subst_eqs) (λR A p s H O Q E S h=>?_)
 let(a,b,D,g,x,rfl,h):=h;have m:=S.units;show(_,(Jag (Jaq (JcM (JaY (own:=["other"]) (cs:=[(1,"row")]) rfl (pi_U (pv 0)) (λ_ _ _ _=>(Jap 0 (show[("other" : Str),("row" : Str)].Nodup by decide))) (λ_ _ _ _=>JbE) (λ_ _ _ _=>(JfF (Jar (Jmg (K:=K) rfl m) (pe_ix (ix_UK (K:=K) rfl) (pv 0) Jad) (pe_ix (ix_UK (K:=K) rfl) (pv 1) Jad) (Jav _)) (pv 1) (pv 0))) (Jbk rfl) ⋯ rfl ⋯ (hcs1 rfl rfl rfl))))),?_);clear m;let(C,q,X,B,k):=h;have W:(1000:Nat)<=sizeLine:=by decide
 have V:=q.length;show tRet _ _ [some (.ref a),some (.ref b)] H;cbv;show(a,rfl, .inl ⟨⟨_,SqL.of C⟩,CompJ.list (xs:=x) (λi e d=>d=H/\All2 (λ(g:GD) v=>TV K H g.td v) ((D.take i).map λu=>if u.nm=g.nm then g else u) e) ⟨rfl,rfl⟩ (λi e d hi z=>⟨by rw[z.1];show SqL.of C,by have:=z.2.length;rw[length_map,length_take]at this;ac_nf⟩) ?_ ?_⟩)
 .rintro i y e d N ⟨rfl,j⟩;simpa only[length_singleton,length_cons,length_nil,List.replicate,Jaz,map_cons,map_nil,Option.join_some];let(u,m,G):=q.at_ N;let(Z,_,_,rfl,n,_,_):=id G;let(Y,_,_,J,o,_,_):=id B;cases J;show ixT (i:=0) n rfl ?_;show ixT (i:=0) o rfl ?_;cbv;rw[take_succ,m,Option.toList_some,map_append];by_cases c:u.td.nm=g.td.nm
  .rw[if_pos (decide_eq_true c)];cbv;show j.append (All2.one ?_)
   (show TV K d (if u.nm=g.nm then g else u).td _)
   (rw[if_pos (show u.nm=g.nm from c)])
   show B
  .rw[if_neg (λh=>c (of_decide_eq_true h))];cbv;show j.append (All2.one ?_)
   (show TV K d (if u.nm=g.nm then g else u).td _)
   (rw[if_neg (show¬ u.nm=g.nm from c)])
   show G
 rintro e d ⟨rfl,j⟩;rw[take_of_length_le ∅]at j;rename_i l U L d I r M;cbv;show k l e I r M (j.mono λ_ _ z=>TV.sameT r.t z)
abbrev BbG:Stmt:=top 55
theorem JdH:Jan ["thing","name","low","high","gap","row"] ["thing","name","low","high"] (Jae BbG):=by bv_decide
def JdI(K:W.Frag)(Ad:Adr):Sp:=λvs H Q E=>∃(x:Addr)(z:Str)(vl_ vh_:V)(lo hi:Int × Int)(ls:List PD)(gs:List GD),vs=[.ref x, .str z,vl_,vh_]/\TK K Ad H x ls gs/\FrV K H vl_ lo.1 lo.2/\FrV K H vh_ hi.1 hi.2/\ls.length<=20/\gs.length<=20/\(∀ p∈ls,POk p)/\(∀ g∈gs,TOk g.td)/\(ls.map (·.nm)).Nodup/\(gs.map (·.nm)).Nodup/\Tree ls/\(∀ g∈gs,Conn ls g.st g.en)/\(∃ g∈gs,g.nm=z)/\(∀ g∈gs,g.nm=z->TOk (GD.td ⟨g.nm,g.st,g.en,lo,hi⟩)/\(∀ y H',Same H H'->TK K Ad H' y ls (gs.map λu=>if u.nm=g.nm then⟨g.nm,g.st,g.en,lo,hi⟩else u)->Q (.ref y) H'))
theorem JhX(F:"changed"∘BbG)(T:Txt K mg Ad)(Bb5:3∘"gap_named"∘["thing","name"]∘(JcR K Ad))(Bch:1∘"with_row"∘["rows","row"]∘(Jdc K))(BbT:KCal P w K mg base 9 "Thing" Ad.Thing ["self","parts","gaps"] (Ja4 K Ad))(Bao:2∘"parts"∘(JaF Ad)∘["self"]∘(JaH K Ad))(BaA:2∘"gaps"∘(JaF Ad)∘["self"]∘(JaO K Ad)):11∘["thing","name","low","high"]∘(JdI K Ad):=by
 show F.okn JdH (by subst_eqs) (λa9 A X s H vs Q E G h=>?_)
 let(x,z,p,l,o,m,J,a,rfl,h):=h;show(_,(Jab (Jaj 4 JdH.nd (Bb5.ev G ⋯ rfl passF %[pv 0,pv 1|0])) (Jab (Jaj 5 JdH.nd (JaE %[!4,!4,!4,pv 2,pv 3|0])) (Jag (Jaq (BbT.ev G ⋯ rfl passF %[Bao.m0 G ⋯ passF (pv 0),Bch.ev G ⋯ rfl passF %[BaA.m0 G ⋯ passF (pv 0),pv 5|0]|0]))))),?_)
 let(L,a2,Y,r,d,a0,a1,C,N,tr,I,O,k):=h;have sl:(1000:Nat)<=sizeLine:=by decide
 show tSeq _ _ _ [some (.ref x),some (.str z),some p,some l,none,none] H;cbv;show(x,z,J,a,rfl,L,d,O,λg hg hz v H1 S1 tv=>?_);let(W,k2):=k g hg hz;let(b,vo,vp,rfl,Z,_,_):=tv
 mframe;show ixT (i:=0) Z rfl ?_;show ixT (i:=1) Z rfl ?_;show ixT (i:=2) Z rfl ?_;cbv;show(by show 5<=sizeLine;decide,?_);rename_i q a8 b0 H1 H2 S2 e2;cbv
 mframe;have n:=S1.trans S2;let(dx,d1,d2,d3,k1,a6,k3,hx,_):=id L;show(x,_,dx,_,rfl,n _ _ hx,rfl,rfl,?_);cbv;show(x,J,a,rfl,L.same n,r,λpl px H3 S3 a5 ep hP=>?_);have e:=n.trans S3;cbv;show(x,_,dx,_,rfl,e _ _ hx,rfl,rfl,?_);cbv;show(x,J,a,rfl,L.same e,d,λgl gx H4 V a4 eg hG=>?_);have j:=e.trans V;cbv;have hq:TV K H4 (GD.td ⟨g.nm,g.st,g.en,o,m⟩) (.ref q):=⟨q,p,l,rfl,SqT.of ((S3.trans V) _ _ e2),a2.same j,Y.same j⟩;show(gl,q,a,⟨g.nm,g.st,g.en,o,m⟩,gx,rfl,eg,hG,d,hq,λrl rx R S5 er hR=>?_);have U:=j.trans S5;have B:=V.trans S5;cbv;have M:(a.map λu=>if u.nm=g.nm then(⟨g.nm,g.st,g.en,o,m⟩:GD)else u).map (·.nm)=a.map (·.nm):=by
  rw[map_map];show map_congr_left λu _=>?_
  (show(if u.nm=g.nm then(⟨g.nm,g.st,g.en,o,m⟩:GD)else u).nm=u.nm)
  by_cases c:u.nm=g.nm
  .rw[if_pos c];show c.symm
  .rw[if_neg c];cbv
 have mm:∀ u∈a.map (λu=>if u.nm=g.nm then(⟨g.nm,g.st,g.en,o,m⟩:GD)else u),u=⟨g.nm,g.st,g.en,o,m⟩\/u∈a:=λu D=>by
  let(w,hw,rfl):=mem_map.mp D;by_cases c:w.nm=g.nm
  .show .inl (if_pos c)
  .show .inr (by rw[if_neg c];show hw)
 intro y S hy a3 a7;have Sm:Same R (upd (upd R S (.own y)) y (.ins Ad.Thing S [])):=λb u q=>by rw[Jah (Jai q hy),Jah (Jai q a3)];show q
 show(y,S,pl,rl,px,rx,J,_,R,rfl,Jam,hy,Sm,SqL.of (B _ _ ep),hP.mono (λ_ _ z=>z.sameT B.t),SqL.of er,hR,r,by rw[length_map];show d,a0,λu D=>?_,C,by rw[M];show N,Jjp tr C,λu D=>?_,λH6 S6 tk=>?_)
 .rcases mm u D with rfl | h
  .show W
  .show a1 u h
 .rcases mm u D with rfl | h
  .show I g hg
  .show I u h
 .show(rfl,k2 y H6 (U.trans S6) tk)
abbrev Baz:Stmt:=top 56
theorem Jbv:Jan ["thing","other","ones","others","row"] ["thing","other"] (Jae Baz):=by bv_decide
def Jcd(K:W.Frag)(Ad:Adr):Sp:=λvs H Q E=>∃(x y:Addr)(ls:List PD)(es:List (GD × List Str))(pl:Str->Fr2)(fs:List (GD × List Str)),vs=[.ref x, .ref y]/\TK K Ad H x ls (es.map (·.1))/\SHC ls es pl/\TK K Ad H y ls (fs.map (·.1))/\SHC ls fs pl/\(∀ e∈es,0<=vl (roomF pl e.1))/\(∀ e∈fs,0<=vl (roomF pl e.1))/\∀(l:Addr)(rs rk:List ShD)(H':Hp),Same H H'->ShR ls es pl rs->ShR ls fs pl rk->H' l=some (.lst ((unl rs rk).map V.str))->Q (.ref l) H'
theorem JeB(F:"unlike_parts"∘Baz)(T:Txt K mg Ad)(Bb6:9∘"share"∘["thing"]∘(Jd8 K Ad)):10∘["thing","other"]∘(Jcd K Ad):=by
 show F.okn Jbv (by subst_eqs) (λc2 A a9 s H vs Q E m h=>?_)
 let(x,y,ls,es,pl,fs,rfl,h):=h;have hu:=m.units;show(_,(Jab (Jaj 2 Jbv.nd (Bb6.ev m ⋯ rfl passF %[pv 0|0])) (Jab (Jaj 3 Jbv.nd JbK rfl (Or.inr rfl)) (Jab (JaN PassesOwn.never rfl (pi_U (Bb6.ev m ⋯ rfl passF %[pv 1|0])) (Jap 4 Jbv.nd) (Jag (Jcj (hu1 hu) (pv 3) (!4) (!4) rfl))) (Jag (Jaq (JaY (own:=["row"]) (cs:=[(3,"others")]) rfl (pi_U (pv 2)) (λ_ _ _ _=>(Jap 0 (show[("row" : Str),("others" : Str)].Nodup by decide))) (λ_ _ _ _=>JcO (Jar (Jkt (K:=K) rfl hu) (pe_ix (ix_UK (K:=K) rfl) (pv 0) Jad) (Jb6 (hu1 hu) (pv 1) (pe_ix (ix_UK (K:=K) rfl) (pv 0) Jad) (λ_ _=>rfl)) (Jav _))) (λ_ _ _ _=>(pe_ix (ix_UK (K:=K) rfl) (pv 0) Jad)) (Jbk rfl) ⋯ rfl ⋯ (hcs1 rfl rfl rfl))))))),?_)
 clear hu;let(ht,hc,a8,G,r1,r2,k):=h;have sl:(1000:Nat)<=sizeLine:=by decide
 have c1:=hc.l12;have b3:=G.l12;show tSeq _ _ _ [some (.ref x),some (.ref y),none,none,none] H;cbv;show(x,ls,es,pl,rfl,ht,hc,r1,λtl zs rs H1 S1 b4 e1 hZ hR=>?_);have b2:=hR.nms;have b9:=hR.len;have lZ:=hZ.length
 mframe;rename_i o b b5 H1 H2 S2 e2;cbv
 mframe;have U:=S1.trans S2;show(y,ls,fs,pl,rfl,a8.same U,G,r2,λM J e H3 S3 d e3 Y D=>?_);have a0:=D.nms;have c0:=D.len;have b7:=Y.length;have N:(e.map (·.nm)).Nodup:=by rw[a0];show G.nd
 have a4:M≠o:=λz=>by rw[z,e2]at d;cases d
 have a7:tl≠o:=λz=>by rw[<- z,e1]at b;cases b
 cbv;show(M,rfl,ForA.byLN (xs:=J) (SqL.of e3) (λi σ p=>i<=J.length/\∃(v4:Option V)(kv:List (Key × V)),σ=[some (.ref x),some (.ref y),some (.ref tl),some (.ref o),v4]/\(∀ c u,c≠o->H3 c=some u->p c=some u)/\SameT H3 p/\p o=some (.dK kv)/\BG (·.nm) (λ(r:ShD) v=>FrV K p v r.sl.1 r.sl.2) (e.take i) kv) ⟨Nat.zero_le _,none,[],rfl,λ_ _ _ h=>h,SameT.refl _,S3 _ _ e2,⟨rfl,rfl⟩⟩ (λi σ p q=>by let(_,_,_,_,q,_):=q;show SqL.of (q _ _ a4 e3)) ?_ ?_)
 .intro i z σ I hz z_ N0 a6;let(hi,v4,kv,rfl,ho,L,g,S):=z_;have li:=(List.getElem?_eq_some_iff.mp hz).1;let(r,m,b_,b1,t_,rfl,hb,hf,_):=Y.at_ hz;have lB:=S.length;rw[length_take]at lB;have W:=hb.sameT L;cbv;show ixT (i:=1) W rfl ?_;cbv;show ixT (i:=0) W rfl ?_;show(o,_,rfl,DPut.k (k:=Sum.inr r.nm) g ∅,?_);generalize u5:upd I o _=O;cbv;have e5:=putE u5;have T5:SameT I O:=SameT.put u5 g rfl;show a6 _ _ ⟨li,_,_,rfl,λc u n h=>by rw[<- u5,Jah n];show ho c u n h,L.trans T5,e5,?_⟩;rw[take_succ,m];show(S.mono (P':=λ(r:ShD) v=>FrV K O v r.sl.1 r.sl.2) λ_ _ z=>FrV.sameT T5 z).new (a:=r) ?_ ((FrV.sameT L hf).sameT T5);intro hm;rw[List.map_take]at hm;have h1:(e.map (·.nm))[i]?=some r.nm:=by rw[List.getElem?_map,m];rfl
  let(j,hj):=List.getElem?_of_mem hm;have lj:=(List.getElem?_eq_some_iff.mp hj).1;rw[length_take]at lj;rw[List.getElem?_take_of_lt ∅]at hj;have:=(List.getElem?_inj (by rw[length_map];ac_nf) N).mp (hj.trans h1.symm);ac_nf
 intro σ I z_;let(hi,v4,kv,rfl,ho,L,g,S):=z_;rw[take_of_length_le ∅]at S;have R:∀ c u,c≠o->H2 c=some u->I c=some u:=λc u n h=>ho c u n (S3 _ _ h);have Z:=R _ _ a7 (S2 _ _ e1);have a1:SameT H1 I:=S2.t.trans (S3.t.trans L);cbv;show(tl,rfl, .inl ⟨⟨_,SqL.of Z⟩,Jbt.list (xs:=zs) (λi ys p=>p=I/\ys=((rs.take i).filter λr=>!decide (r.sl=slOf e r.nm)).map λr=>V.str r.nm) ⟨rfl,by rw[take_zero];rfl⟩ (λi ys p hi z=>⟨by rw[z.1];show SqL.of Z,by
  rw[z.2,length_map];have h2:=length_filter_le (λr:ShD=>!decide (r.sl=slOf e r.nm)) (rs.take i);rw[length_take]at h2;ac_nf⟩) ?_ ?_⟩)
 .rintro i z ys O hz ⟨rfl,rfl⟩;let(r,m,b_,b1,t_,rfl,hb,hf,_):=hZ.at_ hz;have C:=hb.sameT a1;have a2:=FrV.sameT a1 hf;have hm:r.nm∈e.map (·.nm):=by
   rw[a0];rw[<- b2];show mem_map.mpr ⟨r,List.mem_of_getElem? m,rfl⟩
  let(r',v',a5,B,X,hP):=S.some (z:=r.nm) hm;have B:r'.nm=r.nm:=B;have b0:slOf e r.nm=r'.sl:=by rw[<- B];show JcP N a5
  simpa only[length_singleton,length_cons,length_nil,List.replicate,Jaz,map_cons,map_nil,Option.join_some];show ixT (i:=1) C rfl ?_;cbv;show ixT (i:=0) C rfl ?_;show(o,v',rfl,by rw[<- X];show DGet.k (k:=Sum.inr r.nm) g,?_);show neF a2 hP ?_;have ee:(decide (r.sl.1=r'.sl.1)&&decide (r.sl.2=r'.sl.2))=decide (r.sl=slOf e r.nm):=by
   rw[b0, <- Bool.decide_and];show decide_eq_decide.mpr Prod.ext_iff.symm
  rw[ee,take_succ,m];cases cp:decide (r.sl=slOf e r.nm)with
  | true=>
   cbv;simp[filter_append,cp]
  | false=>
   cbv;show ixT (i:=0) C rfl ?_;cbv;simp[filter_append,cp]
 .rintro ys O ⟨rfl,rfl⟩;rw[take_of_length_le ∅];rename_i l b8 b6 O H6 S6 e6;cbv;have a3:Same H H6:=λc u h=>S6 _ _ (R c u (Jai (S1 _ _ h) b) (U _ _ h));show k l rs e H6 a3 hR D ?_;rw[e6];unfold unl;rw[map_map];rfl
abbrev BaJ:Stmt:=top 58
theorem Je2:Jan ["_law_script","_law_k"] ["_law_script","_law_k"] (Jae BaJ):=by bv_decide
def Jcn(K:W.Frag):Sp:=λvs H Q E=>∃(a:Addr)(ns:List Int)(k:Int),vs=[.ref a, .int k]/\SqL K H a (ns.map V.int)/\ns.length<=63/\0<=k/\∀ v:Int,Q (.int v) H
theorem JeX(F:"_law_cell_at"∘BaJ)(T:Txt K mg Ad)  : 1∘["_law_script","_law_k"]∘(Jcn K):=by
 show F.okn Je2 (by subst_eqs) (λi A b s H g Q E m h=>?_)
 let(a,e,k,rfl,h):=h;show(_,(Jab (ps_if (Jar JdR (pv 1) (Jaw Jay rfl T.Bba Ja8 %[pv 0|0]) (Jav _)) (Jag (Jaq (pe_ix ix_U (pv 0) (pv 1))))
   Jat) (Jag (Jaq Jad))),?_)
 let(d,l,j,q):=h;show tSeq _ _ _ [some (.ref a),some (.int k)] H;cbv;show(_, .inl d,?_);simpa only[length_map];let(n,rfl):=Int.eq_ofNat_of_zero_le j;by_cases c:n<e.length
 .rw[if_pos (by simp;ac_nf)];cbv;cbv;show ixL d (by rw[List.getElem?_map,List.getElem?_eq_getElem c];rfl) (q _)
 .rw[if_neg (by simp;ac_nf)];cbv;cbv;show q 0
abbrev BaV:Stmt:=top 59
theorem JbY:Jan ["_law_top","_law_bottom","_law_one","_law_other"] ["_law_top","_law_bottom"] (Jae BaV):=by bv_decide
def Jbh  : Sp:=λvs H Q E=>∃(t b:Int),vs=[.int t, .int b]/\1<=b/\Mth.Sz 8000 b/\∀ p H',Same H H'->H' p=some (.tup [.int (Mth.top t b), .int (Mth.bot t b)])->Q (.ref p) H'
theorem Jfx(F:"_law_lowest"∘BaV)(T:Txt K mg Ad)  : 1∘["_law_top","_law_bottom"]∘(Jbh):=by
 show F.okn JbY (by subst_eqs) (λG A d s H D Q E L h=>?_)
 let(t,b,rfl,h):=h;show(_,(Jab (Jaj 2 JbY.nd (Jaw Jeb rfl T.BdX Jih %[pv 0|0])) (Jab (Jaj 3 JbY.nd (pv 1)) (Jab (Jdm PassesOwn.never (Jar JeC (pv 3) Jad (Jav _)) (Jag (Jmo (i:=2) (j:=3) rfl JbY.nd rfl rfl ⋯ rfl rfl %[pv 3,pe_op JaI (pv 2) (pv 3)|0] rfl))) (Jag (Jaq (JaE %[pe_op Jau (pv 0) (pv 2),pe_op Jau (pv 1) (pv 2)|0])))))),?_)
 let(O,z,k):=h;show tSeq _ _ _ [some (.int t),some (.int b),none,none] H;cbv;have r:=Mth.Bd2 t b;rw[if_neg (by ac_nf:¬ b<0)]at r;show(λm σ u=>∃(x y:Int),σ=[some (.int t),some (.int b),some (.int x),some (.int y)]/\u=H/\0<=x/\0<=y/\Mth.g x y=Mth.g t b/\y.toNat=m,⟨_,_,_,rfl,rfl,Mth.Jif t,by ac_nf,r,rfl⟩,?_);intro m σ u z_;let(x,y,rfl,rfl,N,C,o,rfl):=z_;cbv;by_cases c:y=0
 .subst c;rw[if_neg (by simp)];cbv;have M:=Mth.g_pos (a:=t) (b:=b) ∅;have J:=Mth.g_le (a:=t) (b:=b) ∅;have v:DivOk (Mth.g t b):=divOk (n:=8000) ∅ (Nat.lt_of_le_of_lt (by ac_nf:(Mth.g t b).natAbs<=b.natAbs) z);have e:x=Mth.g t b:=by
   rw[<- o,Mth.Jko];ac_nf
  cbv;rw[e];show(v,v,len2,?_);show Jes λp B S I=>k p B S ?_;rw[I];unfold Mth.top Mth.bot Mth.by_;rw[if_neg ∅];cbv
 .rw[if_pos (by simp;ac_nf)];cbv;have f:=Mth.fm (x:=x) (y:=y) ∅;show(_,λ_ _ q=>q,?_);simpa only[tPar];have l:Mth.g y (x.fmod y)=Mth.g t b:=by rw[Mth.JiD ∅];show o
  show(c,_,_,rfl,(x.fmod y).toNat,by ac_nf,y,x.fmod y,rfl,C,f.1,l,rfl)
abbrev Bbi:Stmt:=top 60
theorem Jg7:Jan ["_law_one","_law_other"] ["_law_one","_law_other"] (Jae Bbi):=by bv_decide
def JcC(K:W.Frag):Sp:=λvs H Q E=>∃(x y:V)(a c:Fr2),vs=[x,y]/\FrV K H x a.1 a.2/\FrV K H y c.1 c.2/\FW 3000 3000 a/\FW 3000 3000 c/\∀ p H',Same H H'->H' p=some (.tup [.int (addF a c).1, .int (addF a c).2])->Q (.ref p) H'
theorem JgW(F:"_law_plus"∘Bbi)(T:Txt K mg Ad)(Baf:1∘"_law_lowest"∘["_law_top","_law_bottom"]∘(Jbh)):2∘["_law_one","_law_other"]∘(JcC K):=by
 show F.okn Jg7 (by subst_eqs) (λn A j s H m Q E o h=>?_)
 let(x,y,a,c,rfl,h):=h;show(_,(Jag (Jaq (Baf.ev o ⋯ rfl passF %[pe_op Ja0 (pe_op JaV (!0) (!1)) (pe_op JaV (!1) (!0)),pe_op JaV (!0) (!1)|0]))),?_);let(i,g,d,b,k):=h;unfold addF at k;show tRet _ _ [some x,some y] H;cbv;show ixF0 i (ixF1 g ?_);cbv;show(mulOk d.s1 b.s2,ixF0 g ?_);cbv;show ixF1 i ?_;cbv;show(mulOk b.s1 d.s2,ixF1 i (ixF1 g ?_));cbv;show(mulOk d.s2 b.s2,_,_,rfl,?_,(d.s2.mul b.s2).mono ⋯,λp l S e=>k p l S e);show JbA d.b1 b.b1
abbrev BaW:Stmt:=top 61
theorem Jdq:Jan ["_law_cell","_law_far","_law_mixed"] ["_law_cell","_law_far"] (Jae BaW):=by bv_decide
def Jbz  : Sp:=λvs H Q E=>∃(c:Int)(b:Bool),vs=[.int c, .bl b]/\∀ p (x:Fr2) H',Same H H'->H' p=some (.tup [.int x.1, .int x.2])->FB 100 6 x->0<=x.1->Q (.ref p) H'
theorem Jfy(F:"_law_number"∘BaW)(T:Txt K mg Ad)(Baf:1∘"_law_lowest"∘["_law_top","_law_bottom"]∘(Jbh)):2∘["_law_cell","_law_far"]∘(Jbz):=by
 show F.okn Jdq (by subst_eqs) (λr A g s H o Q E d h=>?_)
 let(c,b,rfl,h):=h;have j:=d.units;show(_,(Jab (Jaj 2 Jdq.nd (pe_op Jau (pe_op JaI (pe_op JaV (pv 0) Jad) Jad) Jad)) (Jab (ps_if (PW.pt (Jfe (Ja1 (pv 1)) (JdF (Jar (JbO j) (pe_op JaI (pv 2) Jad) Jad (Jav _))))) (Jag (Jaq (Baf.ev d ⋯ rfl passF %[pe_op JaI (pv 0) (pe_op Jlv Jad Jad),pe_op Ja0 Jad (pe_op JaI (pe_op Jau (pv 2) Jad) Jad)|0])))
   Jat) (Jag (Jaq (Baf.ev d ⋯ rfl passF %[pe_op JaI (pe_op Jau (pv 2) Jad) Jad,pe_op Ja0 Jad (pe_op JaI (pe_op Jau (pv 2) Jad) Jad)|0]))))),?_)
 clear j;have k:=h;show tSeq _ _ _ [some (.int c),some (.bl b),none] H;cbv;mpure
 generalize((c*39373).fmod 2147483629).fdiv 37=mx;have a:∀(x y:Int),0<=x/\x<1000000000000000000000000000000->0<=y/\y<60->Jbh [.int x, .int (1+y)] H Q E0:=λx y B q=>by
  let(t,m,l,z):=lowQ 100 6 B q;show(x,1+y,rfl,t,m,λp v S e=>k p (Mth.top x (1+y),Mth.bot x (1+y)) v S e l z)
 cbv;rename_i R C;have last:R [some (.int c),some (.bl b),some (.int mx)] H:=by
  cbv;mpure
  have u:=Mth.fm (x:=mx.fdiv 3) (y:=17) ⋯;have n:=Mth.fm (x:=mx.fdiv 51) (y:=6) ⋯;show a _ _ ⟨u.1,by ac_nf⟩ ⟨n.1,by ac_nf⟩
 split
 .mpure
  split
  .mpure
   show a _ _ (Mth.fm ⋯) (Mth.fm ⋯)
  .show last
 .show last
abbrev Bbj:Stmt:=top 62
theorem Jbo:Jan ["_law_cell","_law_more","_law_k","_law_far","_law_roots","_law_mixed","_law_here","_law_ends","_law_weight"] ["_law_cell","_law_more","_law_k","_law_far","_law_roots"] (Jae Bbj):=by bv_decide
def Jda(K:W.Frag):Sp:=λvs H Q E=>∃(c m:Int)(k:Nat)(b:Bool)(rl:Addr)(rt:List Nat)(ls:List PD)(sp:List SpD),vs=[.int c, .int m, .int (k:Int), .bl b, .ref rl]/\H rl=some (.lst (rt.map λ(i:Nat)=>V.int (i:Int)))/\Grn 0 ls sp/\RtO sp rt/\ls.length=k/\k<=4/\1<=rt.length/\rt.length<=1+2*k/\∀ v p sp' rt' H',(∀ b u,b≠rl->H b=some u->H' b=some u)->H' rl=some (.lst (rt'.map λ(i:Nat)=>V.int (i:Int)))->PDV K H' p v->Grn 0 (ls++[p]) sp'->RtO sp' rt'->rt'.length<=3+2*k->1<=rt'.length->(∃(i j r:Nat),i<j/\rt'[i]?=some r/\rt'[j]?=some r)->(FB 100 6 p.sz/\FB 100 6 p.mo/\Mth.Sz 21 p.wt)->Q v H'
theorem JgV(F:"_law_part"∘Bbj)(T:Txt K mg Ad)(Bae:2∘"_law_number"∘["_law_cell","_law_far"]∘(Jbz)):3∘["_law_cell","_law_more","_law_k","_law_far","_law_roots"]∘(Jda K):=by
 show F.okn Jbo (by subst_eqs) (λb3 A a5 s H vs Q E l h=>?_)
 let(c,m,k,b,e,a,ls,j,rfl,h):=h;have hu:=l.units;show(_,(Jab (Jaj 5 Jbo.nd (pe_op Jau (pe_op JaI (pe_op JaV (pv 0) Jad) Jad) Jad)) (Jab (Jaj 6 Jbo.nd (pe_op JaI (pv 5) (Jaw Jay rfl T.Bba Ja8 %[pv 4|0]))) (Jab (ps_if (Jar (JbO hu) (pe_op JaI (pe_op Jau (pv 5) Jad) Jad) Jad (Jav _)) (Jab (Ja6 (pe_bm PySem.F.plainAttrs_list PySem.F.slot_list_append PySem.F.type_list_append JaZ (pv 4) %[Jaw Jay rfl T.Bba Ja8 %[pv 4|0]|0] (hs:=by show Jaf rfl))) (Jag (Jaj 6 Jbo.nd (pe_op JiW (Jaw Jay rfl T.Bba Ja8 %[pv 4|0]) Jad))))
   Jat) (Jab (Ja6 (pe_bm PySem.F.plainAttrs_list PySem.F.slot_list_append PySem.F.type_list_append JaZ (pv 4) %[pe_ix ix_U (pv 4) (pv 6)|0] (hs:=by show Jaf rfl))) (Jab (Jaj 7 Jbo.nd (Jbj %[pe_ix ix_U Jc1 (pv 6),pe_ix ix_U Jc1 (pe_op JiW (Jaw Jay rfl T.Bba Ja8 %[pv 4|0]) Jad)|0])) (Jab (ps_if (Jar (JbO hu) (pe_op JaI (pe_op Jau (pv 5) Jad) Jad) Jad (Jav _)) (Jag (Ja6 (Jku PySem.F.plainAttrs_list PySem.F.slot_list_reverse PySem.F.type_list_reverse JhW (pv 7))))
   Jat) (Jab (Jaj 8 Jbo.nd (pe_op Ja0 Jad (pe_op JaI (pe_op Jau (pv 5) Jad) Jad))) (Jab (ps_if (PW.pt (Jfe (Ja1 (pv 3)) (JdF (Jar (JbO hu) (pe_op JaI (pe_op Jau (pv 5) Jad) Jad) Jad (Jav _))))) (Jag (Jaj 8 Jbo.nd (pe_op Ja0 Jad (pe_op JaI (pe_op Jau (pv 5) Jad) Jad))))
   Jat) (Jag (Jaq (JaE %[pe_ix ix_U Jc1 (pv 2),!7,!7,Bae.ev l ⋯ rfl passF %[pv 0,pv 3|0],Bae.ev l ⋯ rfl passF %[pv 1,pv 3|0],pv 8|0]))))))))))),?_)
 clear hu;let(l,B,G,lk,k4,r1,r2,kk):=h;have sl:(1000:Nat)<=sizeLine:=by decide
 show tSeq _ _ _ [some (.int c),some (.int m),some (.int (k:Int)),some (.bl b),some (.ref e),none,none,none,none] H;cbv;mpure
 generalize((c*48271).fmod 2147483647).fdiv 37=mx;cbv;show(_, .inl (SqL.of l),?_);try simpa only[length_map]
 show(by ac_nf,?_);have qh:=Mth.fm (x:=mx) (y:=(a.length:Int)) ∅;let(h0,hh):=Int.eq_ofNat_of_zero_le qh.1;rw[hh]at qh ⊢;cbv;mpure
 rename_i R b2;have key:∀(n:Nat)(a:List Nat)(j:List SpD)(r:Hp),(∀ b u,b≠e->H b=some u->r b=some u)->r e=some (.lst (a.map λ(i:Nat)=>V.int (i:Int)))->Grn 0 ls j->RtO j a->n<a.length->a.length<=2+2*k->R [some (.int c),some (.int m),some (.int (k:Int)),some (.bl b),some (.ref e),some (.int mx),some (.int (n:Int)),none,none] r:=by
  clear hh qh r1 r2 B G l;intro n a j r o1 J B G ln l2;have lr:=G.len;obtain⟨t,N⟩:∃ t,a[n]?=some t:=⟨_,List.getElem?_eq_getElem ln⟩;obtain⟨g,L⟩:∃ g,j[n]?=some g:=⟨_,List.getElem?_eq_getElem ∅⟩;have M:=List.mem_of_getElem? L;cbv;show(.inl ⟨rfl,_,SqL.of J⟩,?_);show ixL (i:=n) (SqL.of J) (v:=.int (t:Int)) (by rw[List.getElem?_map,N];rfl) ?_;show(e,_,_,rfl,rfl,J,by rw[length_map];ac_nf,?_);generalize O:upd r e _=H2;have e2:H2 e=some (.lst ((a++[t]).map λ(i:Nat)=>V.int (i:Int))):=by rw[map_append];show putE O
  have o2:∀ b u,b≠e->H b=some u->H2 b=some u:=λb u o h=>by rw[<- O,Jah o];show o1 b u o h
  clear O o1 J;cbv;show(112+n,by decide,Jch (chF n ∅),?_);cbv;show(_, .inl (SqL.of e2),?_);try simpa only[length_map,length_append,length_singleton]
  rw[show(((a.length+1:Nat):Int)-1)=(a.length:Int) by ac_nf];show(112+a.length,by decide,Jch (chF _ ∅),?_);rw[chK,chK];cbv;show(len2,?_);rename_i X Y a9 H2 H3 S3 e3;cbv;mpure
  have fn:g.f=nmK 112 0 n:=B.fc n g L;rename_i R2 b1;have C:∀(d:Bool)(q:Hp),(∀ b u,b≠e->H b=some u->q b=some u)->q e=some (.lst ((a++[t]).map λ(i:Nat)=>V.int (i:Int)))->q X=some (.lst [.str (if d then g.f else nmK 112 0 a.length), .str (if d then nmK 112 0 a.length else g.f)])->R2 [some (.int c),some (.int m),some (.int (k:Int)),some (.bl b),some (.ref e),some (.int mx),some (.int (n:Int)),some (.ref X),none] q:=by
   intro d q o4 e4 f4;cbv;mpure
   cbv;rename_i R3 b0;have D:∀ I:Int,1<=I->I<=1000000->R3 [some (.int c),some (.int m),some (.int (k:Int)),some (.bl b),some (.ref e),some (.int mx),some (.int (n:Int)),some (.ref X),some (.int I)] q:=by
    intro I w1 w2;cbv;show(106+k,by decide,Jch (chP k ∅),?_);rw[chK];cbv;show ixL (i:=0) (SqL.of f4) rfl ?_;show ixL (i:=1) (SqL.of f4) rfl ?_;cbv;show(c,b,rfl,λp1 x1 H5 S5 e5 fx x0=>?_);cbv;show(m,b,rfl,λp2 x2 H6 S6 e6 fy y0=>?_);cbv;show(by show 6<=sizeLine;ac_nf,?_);rename_i tp a7 a8 H6 H7 S7 e7;cbv;have S:=S5.trans (S6.trans S7);have Z:Mth.Sz 21 I:=.lit ∅ ∅;have W:g.f≠nmK 112 0 j.length:=λz=>B.new (Nat.le_refl _) (z ▸ mem_map.mpr ⟨g,M,rfl⟩);have a1:nameS g.f=true:=B.fname ⋯ ∅ M;have a2:nameS (nmK 112 0 j.length)=true:=Jdh ⋯ ⋯ ∅;rw[<- lr]at e7;have a6:POk ⟨nmK 106 0 k,if d then g.f else nmK 112 0 j.length,if d then nmK 112 0 j.length else g.f,x1,x2,I⟩:=⟨Jdh (st:=0) ⋯ ⋯ ∅,by cases d;show a2;show a1,by cases d;show a1;show a2,by cases d;show W.symm;show W,fx.fok ⋯ ⋯,fy.fok ⋯ ⋯,y0,w1,Z.mono ⋯⟩;have a4:=B.part ⋯ M (p:=⟨nmK 106 0 k,if d then g.f else nmK 112 0 j.length,if d then nmK 112 0 j.length else g.f,x1,x2,I⟩) (d:=d) (by rw[lk]) rfl rfl fx a6;show kk _ _ _ (a++[t]) H7 (λb u o h=>S _ _ (o4 b u o h)) (S _ _ e4) ⟨tp, .ref p1, .ref p2,rfl,SqT.of e7,FrV.of ((S6.trans S7) _ _ e5),FrV.of (S7 _ _ e6)⟩ a4 (G.snoc (G.at_ n g t L N)) (by rw[length_append,length_singleton];ac_nf) (by rw[length_append];simp) ⟨n,a.length,t,ln,by rw[List.getElem?_append_left ln];show N,by simp⟩ ⟨fx,fy,Z⟩
   have qw:=Mth.fm (x:=mx.fdiv 96) (y:=9) ⋯;have qv:=Mth.fm (x:=mx.fdiv 7) (y:=1000000) ⋯;have k1:=D (1+(mx.fdiv 96).fmod 9) ∅ ∅;split
   .mpure
    split
    .mpure
     show D (1+(mx.fdiv 7).fmod 1000000) ∅ ∅
    .show k1
   .show k1
  have o3:∀ b u,b≠e->H b=some u->H3 b=some u:=λb u o h=>S3 _ _ (o2 b u o h);rw[<- fn]at e3;split
  .show(.inl ⟨rfl,_,SqL.of e3⟩,?_);show(X,_,rfl,rfl,e3,?_);generalize a3:upd H3 X _=q;have a0:∀ b u,H2 b=some u->q b=some u:=λb u h=>by rw[<- a3,Jah (Jai h Y)];show S3 _ _ h
   show C false q (λb u o h=>a0 _ _ (o2 b u o h)) (a0 _ _ e2) (putE a3)
  .show C true H3 o3 (S3 _ _ e2) e3
 have lr:=G.len;split
 .cbv;show(.inl ⟨rfl,_,SqL.of l⟩,?_);show(_, .inl (SqL.of l),?_);try simpa only[length_map]
  show(e,_,_,rfl,rfl,l,by rw[length_map];ac_nf,?_);generalize U:upd H e _=r;have J:r e=some (.lst ((a++[a.length]).map λ(i:Nat)=>V.int (i:Int))):=by rw[map_append];show putE U
  cbv;show(_, .inl (SqL.of J),?_);try simpa only[length_map,length_append,length_singleton]
  rw[show(((a.length+1:Nat):Int)-1)=(a.length:Int) by ac_nf];show key a.length (a++[a.length]) _ r (λb u o h=>by rw[<- U,Jah o];show h) J B.face (G.snoc (by rw[lr])) (by simp) (by simp;ac_nf)
 .show key h0 a j H (λb u _ h=>h) l B G ∅ ∅
abbrev BbH:Stmt:=top 63
theorem Jbd:Jan ["_law_cell","_law_more","_law_k","_law_roots","_law_far","_law_mixed","_law_pairs","_law_one","_law_other","_law_faces","_law_low"] ["_law_cell","_law_more","_law_k","_law_roots","_law_far"] (Jae BbH):=by bv_decide
def JdK(K:W.Frag):Sp:=λvs H Q E=>∃(c m:Int)(k:Nat)(rl:Addr)(b:Bool)(rt:List Nat)(ls:List PD)(sp:List SpD),vs=[.int c, .int m, .int (k:Int), .ref rl, .bl b]/\H rl=some (.lst (rt.map λ(i:Nat)=>V.int (i:Int)))/\Grn 0 ls sp/\RtO sp rt/\k<=5/\rt.length<=11/\(∃(i j r:Nat),i<j/\rt[i]?=some r/\rt[j]?=some r)/\∀ v (s t:SpD) (u w:Fr2) H',Same H H'->TV K H' (GD.td ⟨nmK 114 0 k,s.f,t.f,negF u,w⟩) v->s∈sp->t∈sp->s.f≠t.f->s.r=t.r->FB 100 6 u->FB 100 6 w->0<=vl u->0<=vl w->Q v H'
theorem Jh0(F:"_law_gap"∘BbH)(T:Txt K mg Ad)(Bae:2∘"_law_number"∘["_law_cell","_law_far"]∘(Jbz)):3∘["_law_cell","_law_more","_law_k","_law_roots","_law_far"]∘(JdK K):=by
 show F.okn Jbd (by subst_eqs) (λc1 A a9 s H vs Q E G h=>?_)
 let(c,m,k,rl,b,R,ls,sp,rfl,h):=h;have hu:=G.units;show(_,(Jab (Jaj 5 Jbd.nd (pe_op Jau (pe_op JaI (pe_op JaV (pv 0) Jad) Jad) Jad)) (Jab (Jaj 6 Jbd.nd (Jbj Jac)) (Jab (JaN PassesOwn.never rfl (JbP rfl T.BbQ %[Jaw Jay rfl T.Bba Ja8 %[pv 3|0]|0]) (Jap 7 Jbd.nd) (Jag (JaN PassesOwn.never rfl (JbP rfl T.BbQ %[Jaw Jay rfl T.Bba Ja8 %[pv 3|0]|0]) (Jap 8 Jbd.nd) (Jag (ps_if (PW.pt (Jfe (Jar (Jb5 hu) (pv 7) (pv 8) (Jav _)) (JdF (Jar (JbO hu) (pe_ix ix_U (pv 3) (pv 7)) (pe_ix ix_U (pv 3) (pv 8)) (Jav _))))) (Jag (Ja6 (pe_bm PySem.F.plainAttrs_list PySem.F.slot_list_append PySem.F.type_list_append JaZ (pv 6) %[JaE %[pv 7,pv 8|0]|0] (hs:=by show Jaf rfl))))
   Jat))))) (Jab (Jky (pe_ix ix_U (pv 6) (pe_op JaI (pv 5) (Jaw Jay rfl T.Bba Ja8 %[pv 6|0]))) (Jgq rfl (JaX (Jap 7 Jbd.nd) (JaX (Jap 8 Jbd.nd) JcN)))) (Jab (Jaj 9 Jbd.nd Jc1) (Jab (Jaj 10 Jbd.nd (Bae.ev G ⋯ rfl passF %[pv 1,pv 4|0])) (Jag (Jaq (JaE %[pe_ix ix_U Jc1 (pv 2),pe_ix ix_U (pv 9) (pv 7),pe_ix ix_U (pv 9) (pv 8),JaE %[pe_un Jgz (!10),!10|0],Bae.ev G ⋯ rfl passF %[pv 0,pv 4|0]|0]))))))))),?_)
 clear hu;let(G,hG,hR,k5,c0,(i0,j0,r0,ij,a6,a5),kk):=h;have sl:(1000:Nat)<=sizeLine:=by decide
 have lr:=hR.len;have a7:=(List.getElem?_eq_some_iff.mp a6).1;have b9:=(List.getElem?_eq_some_iff.mp a5).1;show tSeq _ _ _ [some (.int c),some (.int m),some (.int (k:Int)),some (.ref rl),some (.bl b),none,none,none,none,none,none] H;cbv;mpure
 generalize((c*69621).fmod 2147483587).fdiv 37=mx;cbv;show(len0,?_);rename_i L a1 b3 H H1 S1 e1;cbv;show(_, .inl (SqL.of (S1 _ _ G)),?_);try simpa only[length_map]
 show(_,rfl,by ac_nf,by ac_nf,?_);show ForR.byN (λi σ O=>∃(v7 B:Option V)(o:List V)(g:List (Nat × Nat)),σ=[some (.int c),some (.int m),some (.int (k:Int)),some (.ref rl),some (.bl b),some (.int mx),some (.ref L),v7,B,none,none]/\Same H O/\O L=some (.lst o)/\All2 (PrN K O) g o/\(∀ e∈g,e.1≠e.2/\∃ r,R[e.1]?=some r/\R[e.2]?=some r)/\g.length<=11*i/\(i0<i->g≠[])) ⟨none,none,[],[],rfl,S1,e1,rfl,(λe he=>by cases he),Nat.le_refl _,λz=>absurd z (Nat.not_lt_zero _)⟩ ?_ ?_
 .intro i σ H2 hi z_ N0 a8;let(v7,B,o,g,rfl,S2,W,p,l,J,q):=z_;rw[Int.toNat_natCast]at hi;rw[Int.zero_add];cbv;show(_, .inl (SqL.of (S2 _ _ G)),?_);try simpa only[length_map]
  show(_,rfl,by ac_nf,by ac_nf,?_);show ForR.byN (λj σ O=>∃(B:Option V)(o:List V)(g:List (Nat × Nat)),σ=[some (.int c),some (.int m),some (.int (k:Int)),some (.ref rl),some (.bl b),some (.int mx),some (.ref L),some (.int (i:Int)),B,none,none]/\Same H O/\O L=some (.lst o)/\All2 (PrN K O) g o/\(∀ e∈g,e.1≠e.2/\∃ r,R[e.1]?=some r/\R[e.2]?=some r)/\g.length<=11*i+j/\(i0<i\/i0=i/\j0<j->g≠[])) ⟨B,o,g,rfl,S2,W,p,l,J,λz=>q ∅⟩ ?_ ?_
  .clear p l J q W S2 B;intro j σ U hj z_ N1 a0;let(B,o,g,rfl,D,C,p,l,J,q):=z_;rw[Int.toNat_natCast]at hj;rw[Int.zero_add];have ly:=p.length;obtain⟨a,ha⟩:∃ a,R[i]?=some a:=⟨_,List.getElem?_eq_getElem hi⟩;obtain⟨d,hd⟩:∃ d,R[j]?=some d:=⟨_,List.getElem?_eq_getElem hj⟩;cbv;have I:(i=j\/a≠d)->N1 [some (.int c),some (.int m),some (.int (k:Int)),some (.ref rl),some (.bl b),some (.int mx),some (.ref L),some (.int (i:Int)),some (.int (j:Int)),none,none] U:=λz=>a0 _ _ ⟨_,o,g,rfl,D,C,p,l,by ac_nf,λy=>q (by
    rcases y with y | ⟨y,y'⟩
    .show .inl y
    .show .inr ⟨y,?_⟩;subst y;by_cases jj:j=j0
     .subst jj;rw[a6]at ha;rw[a5]at hd;cases ha;cases hd;show absurd z ∅
     .ac_nf)⟩
   by_cases a3:i=j
   .rw[decide_eq_true (by ac_nf:(i:Int)=(j:Int))];cbv;show I (.inl a3)
   .rw[decide_eq_false (by ac_nf:¬(i:Int)=(j:Int))];cbv;show ixL (i:=i) (SqL.of (D _ _ G)) (v:=.int (a:Int)) (by rw[List.getElem?_map,ha];rfl) ?_;show ixL (i:=j) (SqL.of (D _ _ G)) (v:=.int (d:Int)) (by rw[List.getElem?_map,hd];rfl) ?_;cbv;by_cases N:a=d
    .rw[if_pos (decide_eq_true ∅)];cbv;cbv;show(.inl ⟨rfl,_,SqL.of C⟩,?_);show(len2,?_);rename_i tp b0 b6 U H4 S e4;cbv;show(L,_,_,rfl,rfl,S _ _ C,by ac_nf,?_);generalize M:upd H4 L _=H5;have T5:SameT H4 H5:=SameT.put M (S _ _ C) rfl;subst N;show a0 _ _ ⟨_,_,g++[(i,j)],rfl,λb u h=>by rw[<- M,Jah (Jai h a1)];show S _ _ (D _ _ h),putE M,(p.mono (P':=PrN K H5) λ_ _ z=>z.sameT (S.t.trans T5)).append (.one ⟨tp,rfl,SqT.of (T5 _ _ rfl e4)⟩),λe he=>?_,by rw[length_append,length_singleton];ac_nf,λ_ z=>by simp at z⟩;rcases mem_append.mp he with h | h
     .show l e h
     .rw[mem_singleton.mp h];show(a3,a,ha,hd)
    .rw[if_neg (λz=>N (by have:=of_decide_eq_true z;ac_nf))];cbv;show I (.inr N)
  .intro σ U z_;let(B,o,g,rfl,D,C,p,l,J,q):=z_;rw[Int.toNat_natCast]at J q;show a8 _ _ ⟨_,_,o,g,rfl,D,C,p,l,by ac_nf,λz=>q ∅⟩
 .intro σ H2 z_;let(v7,B,o,g,rfl,S2,W,p,l,J,q):=z_;rw[Int.toNat_natCast]at J q;have ly:=p.length;have b8:0<g.length:=List.length_pos_iff.mpr (q a7);cbv;show(_, .inl (SqL.of W),?_);cbv;show(by ac_nf,?_);have qn:=Mth.fm (x:=mx) (y:=(o.length:Int)) ∅;let(n,hn):=Int.eq_ofNat_of_zero_le qn.1;rw[hn]at qn ⊢;have ln:n<g.length:=by ac_nf
  let(y,hy,tp,rfl,X):=p.get (List.getElem?_eq_getElem ln);have hp:=l _ (List.getElem_mem ln);generalize g[n]=e at X hp;let(Z,r,Y,a4):=hp;have l1:=(List.getElem?_eq_some_iff.mp Y).1;have l2:=(List.getElem?_eq_some_iff.mp a4).1;obtain⟨s,hs⟩:∃ s,sp[e.1]?=some s:=⟨_,List.getElem?_eq_getElem ∅⟩;obtain⟨t,ht⟩:∃ t,sp[e.2]?=some t:=⟨_,List.getElem?_eq_getElem ∅⟩;show ixL (i:=n) (SqL.of W) hy ?_;cbv;show(tp,_,rfl,X,rfl,?_);cbv;show(m,b,rfl,λp1 u U D C fu u0=>?_);cbv;show(114+k,by decide,Jch (chG k ∅),?_);cbv;show(112+e.1,by decide,Jch (chF e.1 ∅),?_);cbv;show(112+e.2,by decide,Jch (chF e.2 ∅),?_);rw[chK,chK,chK, <- hG.fc e.1 s hs, <- hG.fc e.2 t ht];cbv;show ixF0 (FrV.of C) ?_;cbv;show ixF1 (FrV.of C) ?_;cbv;show(len2,?_);rename_i p2 b7 b4 U H4 S e4;cbv;show(c,b,rfl,λp3 w H5 S5 e5 fw w0=>?_);cbv;show(len5,?_);rename_i tg b2 b5 H5 H6 S6 e6;cbv;have a2:=S5.trans S6;show kk _ s t u w H6 (S2.trans (D.trans (S.trans a2))) ⟨tg, .ref p2, .ref p3,rfl,SqT.of e6,FrV.of (a2 _ _ e4),FrV.of (S6 _ _ e5)⟩ (List.mem_of_getElem? hs) (List.mem_of_getElem? ht) (λz=>?_) ?_ fu fw ((vl_nn fu.b1).mpr u0) ((vl_nn fw.b1).mpr w0)
  .rw[hG.fc e.1 s hs,hG.fc e.2 t ht]at z;show Z (Jet z)
  .rw[hR.at_ e.1 s r hs Y,hR.at_ e.2 t r ht a4]
abbrev Ba6:Stmt:=top 64
theorem JdV:Jan ["_law_thing","_law_gap_here","_law_middle"] ["_law_thing","_law_gap_here"] (Jae Ba6):=by bv_decide
def JcS(K:W.Frag)(Ad:Adr):Sp:=λvs H Q E=>∃(x:Addr)(y:V)(ls:List PD)(bs:List GD)(g hb:GD)(pl:Str->Fr2),vs=[.ref x,y]/\TK K Ad H x ls bs/\TV K H g.td y/\hb∈bs/\hb.nm=g.nm/\hb.st=g.st/\hb.en=g.en/\(bs.map (·.nm)).Nodup/\(ls.map (·.nm)).Nodup/\(∀ p∈ls,POk p)/\(∀ f,FB 302 161 (pl f))/\(∀ p∈ls,vl (pl p.en)=vl (pl p.st)+vl p.sz)/\FW 3000 3000 g.lo/\FW 3000 3000 g.hi/\∀ v H',Same H H'->TV K H' (GD.td ⟨g.nm,g.st,g.en,addF (mid pl g) g.lo,addF (mid pl g) g.hi⟩) v->Q v H'
theorem Jgl(F:"_law_about"∘Ba6)(T:Txt K mg Ad)(Bb4:4∘"middle"∘(JaF Ad)∘["self","name"]∘(Jby K Ad))(BaX:2∘"_law_plus"∘["_law_one","_law_other"]∘(JcC K)):5∘["_law_thing","_law_gap_here"]∘(JcS K Ad):=by
 show F.okn JdV (by subst_eqs) (λa1 A D s H vs Q E t h=>?_)
 let(x,y,V,X,g,M,e,rfl,h):=h;show(_,(Jab (Jaj 2 JdV.nd (Bb4.m t ⋯ passF (pv 0) %[!1|0])) (Jag (Jaq (JaE %[!1,!1,!1,BaX.ev t ⋯ rfl passF %[pv 2,!1|0],BaX.ev t ⋯ rfl passF %[pv 2,!1|0]|0])))),?_)
 let(R,hy,Y,O,e2,e3,j,L,n,b,J,fl,fh,k):=h;let(dx,d1,d2,d3,k1,k2,k3,hx,_):=id R;let(b_,o,B,rfl,a,C,I):=hy;show tSeq _ _ _ [some (.ref x),some (.ref b_),none] H;cbv;show(x,_,dx,_,rfl,hx,rfl,rfl,?_);show ixT (i:=0) a rfl ?_;show(x,g.nm,V,X,rfl,R,λz=>absurd (mem_map.mpr ⟨M,Y,O⟩) z,λu U N=>?_);have eu:u=M:=Jc4 j U Y (N.trans O.symm);subst eu;show(e,λw hw r=>Jc4 j hw U (r.trans N.symm),λp hp q Z h=>JfE L hp Z h,n,b,J,λv H1 d l=>?_);have em:mid e u=mid e g:=by unfold mid;rw[e2,e3]
 rw[em]at l;have fm:FW 3000 3000 (mid e g):=((b g.en).add' (b g.st).neg).w.mono ⋯ ⋯;cbv;show ixT (i:=0) (a.same d) rfl ?_;show ixT (i:=1) (a.same d) rfl ?_;show ixT (i:=2) (a.same d) rfl ?_;cbv;show ixT (i:=3) (a.same d) rfl ?_;show(v,o,_,_,rfl,l,FrV.same d C,fm,fl,λp1 H2 W q2=>?_);cbv;have c:=d.trans W;show ixT (i:=4) (a.same c) rfl ?_;show(v,B,_,_,rfl,l.same W,FrV.same c I,fm,fh,λp2 H3 S q3=>?_);cbv;show(len5,?_);rename_i q a0 a2 H3 H4 G q4;cbv;show k _ H4 (c.trans (S.trans G)) ⟨q, .ref p1, .ref p2,rfl,SqT.of q4,FrV.of ((S.trans G) _ _ q2),FrV.of (G _ _ q3)⟩
abbrev BaY:Stmt:=top 65
theorem Jbf:Jan ["_law_parts","_law_slacks_here","_law_levels","_law_k","_law_level","_law_at"] ["_law_parts","_law_slacks_here"] (Jae BaY):=by bv_decide
def JcD(K:W.Frag):Sp:=λvs H Q E=>∃(pp sa:Addr)(px sx:List V)(ls:List PD)(ss:List Fr2),vs=[.ref pp, .ref sa]/\SqL K H pp px/\All2 (PDV K H) ls px/\SqL K H sa sx/\All2 (FLV K H) ss sx/\ss.length=ls.length/\(∀ s∈ss,FB 910 800 s)/\(∀ p∈ls,1<=p.wt/\Mth.Sz 21 p.wt)/\ls.length<=8/\∀ l ys H',Same H H'->H' l=some (.lst ys)->All2 (FrL K H') (ordO (lvls ss (ls.map (·.wt)))) ys->Q (.ref l) H'
theorem JfA(F:"_law_sorted"∘BaY)(T:Txt K mg Ad)(Baf:1∘"_law_lowest"∘["_law_top","_law_bottom"]∘(Jbh)):2∘["_law_parts","_law_slacks_here"]∘(JcD K):=by
 show F.okn Jbf (by subst_eqs) (λb3 A a8 s H vs Q E hr h=>?_)
 let(R,sa,px,sx,e,g,rfl,h):=h;show(_,(Jab (Jaj 2 Jbf.nd (Jbj Jac)) (Jab (JaN PassesOwn.never rfl (JbP rfl T.BbQ %[Jaw Jay rfl T.Bba Ja8 %[pv 0|0]|0]) (Jap 3 Jbf.nd) (Jab (Jaj 4 Jbf.nd (Baf.ev hr ⋯ rfl passF %[pe_ix ix_U (pe_ix ix_U (pv 1) (pv 3)) Jad,pe_op JaV (pe_ix ix_U (pe_ix ix_U (pv 1) (pv 3)) Jad) (pe_ix ix_U (pe_ix ix_U (pv 0) (pv 3)) Jad)|0])) (Jab (Jaj 5 Jbf.nd Jad) (Jab (Jdm PassesOwn.never (PW.pt (Jfe (Jar JdR (pv 5) (Jaw Jay rfl T.Bba Ja8 %[pv 2|0]) (Jav _)) (JdF (Jar JdR (pe_op JaV (pe_ix ix_U (pe_ix ix_U (pv 2) (pv 5)) Jad) (!4)) (pe_op JaV (!4) (pe_ix ix_U (pe_ix ix_U (pv 2) (pv 5)) Jad)) (Jav _))))) (Jag (Jaj 5 Jbf.nd (pe_op Ja0 (pv 5) Jad)))) (Jag (Ja6 (pe_bm PySem.F.plainAttrs_list PySem.F.slot_list_insert PySem.F.type_list_insert JiL (pv 2) %[pv 5,pv 4|0]))))))) (Jag (Jaq (pv 2))))),?_)
 let(eP,hP,eS,hA,b4,a9,hw,l8,k):=h;have sl:(1000:Nat)<=sizeLine:=by decide
 have lP:=hP.length;have lA:=hA.length;have lz:(e.zip g).length=e.length:=by rw[List.length_zip];ac_nf
 have C:∀ x∈e.zip g,FB 910 800 x.2/\1<=x.1.wt/\Mth.Sz 21 x.1.wt:=λx hx=>⟨a9 _ (of_mem_zip hx).2,hw _ (of_mem_zip hx).1⟩;rw[Jd4]at k;show tSeq _ _ _ [some (.ref R),some (.ref sa),none,none,none,none] H;cbv;show(len0,?_);rename_i o U b2 H H1 S1 e1;cbv;cbv;show(_, .inl (eP.same S1),?_);cbv;show(_,rfl,by ac_nf,by ac_nf,?_);show ForR.byN (λi σ y=>∃(v3 v4 v5:Option V)(I:List V),σ=[some (.ref R),some (.ref sa),some (.ref o),v3,v4,v5]/\Same H y/\y o=some (.lst I)/\All2 (FrL K y) (ordO (((e.zip g).take i).map lvZ)) I) ⟨none,none,none,[],rfl,S1,e1,rfl⟩ ?_ ?_
 .intro i σ H2 hi z_ N0 a5;let(v3,v4,v5,I,rfl,r,e2,O):=z_;rw[Int.toNat_natCast]at hi;rw[Int.zero_add];have a1:=List.getElem?_eq_getElem (by ac_nf:i<e.length);have a2:=List.getElem?_eq_getElem (by ac_nf:i<g.length);let(py,a6,a_,vz,vm,rfl,hb,_):=hP.get a1;let(v,hv,fv):=hA.get a2;have a3:(e.zip g)[i]?=some (e[i],g[i]):=List.getElem?_zip_eq_some.mpr ⟨a1,a2⟩;let(sb,w1,ws):=C _ (List.mem_of_getElem? a3);generalize e[i]=p at *;generalize g[i]=s at *;let(zn,ln,b0):=Jhs sb w1 ws;cbv;show ixL (i:=i) (eS.same r) hv ?_;show ixF0 (FrV.same r fv) ?_;show ixL (i:=i) (eS.same r) hv ?_;show ixF1 (FrV.same r fv) ?_;show ixL (i:=i) (eP.same r) a6 ?_;show ixT (i:=5) (hb.same r) rfl ?_;cbv;show(mulOk sb.s2 ws,?_);show(_,_,rfl,b0,(sb.s2.mul ws).mono ⋯,λJ B S3 e3=>?_);have l:=S3 _ _ e2;have S:=O.mono (P':=FrL K B) λ_ _ z=>FrV.sameT S3.t z;have G:FrV K B (.ref J) (lvl s p.wt).1 (lvl s p.wt).2:=FrV.of e3;have ly:=O.length;have M:∀ z∈((e.zip g).take i).map lvZ,Lo z:=λz d=>by
   let(q,hq,rfl):=mem_map.mp d;let(Y,h2,h3):=C q (mem_of_mem_take hq);show(Jhs Y h2 h3).2.1
  have lo:(ordO (((e.zip g).take i).map lvZ)).length<=8:=by
   rw[Jhw,length_map,length_take];ac_nf
  have Z:∀ z∈ordO (((e.zip g).take i).map lvZ),FW 3000 3000 z:=λz d=>by
   let(q,hq,rfl):=mem_map.mp (Jhx d);let(Y,h2,h3):=C q (mem_of_mem_take hq);show(Jhs Y h2 h3).1
  have a7:=(Jd6 _ M).1;have tk:((e.zip g).take (i+1)).map lvZ=((e.zip g).take i).map lvZ++[lvl s p.wt]:=by rw[take_succ,a3,map_append];rfl
  have W:=@JjU (lvl s p.wt) (((e.zip g).take i).map lvZ);rw[<- tk]at W;generalize lvl s p.wt=n at *;generalize ordO (((e.zip g).take i).map lvZ)=L at *;cbv;have a4:∀(m:Nat),m<=L.length->(∀ z∈L.take m,vl z<=vl n)->(∀ z∈L.drop m,vl n<=vl z)->tyV K "list" (.ref o) B/\Ji5 (.ref o) [.int (m:Int), .ref J] B λ_ y=>N0 [some (.ref R),some (.ref sa),some (.ref o),some (.int (i:Int)),some (.ref J),some (.int (m:Int))] y:=λm hm Y h2=>by
   show(.inl ⟨rfl,_,SqL.of l⟩,?_);show(o,I, .ref J,m,rfl,rfl,l,by ac_nf,by ac_nf,?_);generalize u4:upd B o _=H4;cbv;have e4:=putE u4;have X:SameT B H4:=SameT.put u4 l rfl;show a5 _ _ ⟨_,_,_,_,rfl,λb u h=>by rw[<- u4,Jah (Jai h U)];show S3 _ _ (r _ _ h),e4,?_⟩;rw[W M ln Y h2];have N:=S.mono (P':=FrL K H4) λ_ _ z=>FrV.sameT X z;show(N.take m).append ⟨.ref J,_,rfl,FrV.sameT X G,N.drop m⟩
  show(λm σ y=>∃ a:Nat,a<=L.length/\m=L.length-a/\σ=[some (.ref R),some (.ref sa),some (.ref o),some (.int (i:Int)),some (.ref J),some (.int (a:Int))]/\y=B/\∀ z∈L.take a,vl z<=vl n,⟨_,0,Nat.zero_le _,rfl,rfl,rfl,λz d=>by simp at d⟩,?_);intro m σ y z_;let(a,ha,rfl,rfl,rfl,D):=z_;cbv;show(_, .inl (SqL.of l),?_);cbv;by_cases c:a<L.length
  .rw[decide_eq_true ∅];cbv;let(yv,a0,fy):=S.get (List.getElem?_eq_getElem c);have zy:=Z _ (List.getElem_mem c);have l2:=JbT (a:=L[a]) (c:=n) zy.b1 zn.b1;show ixL (i:=a) (SqL.of l) a0 ?_;show ixF0 fy ?_;show ixF1 G ?_;cbv;show(mulOk zy.s1 zn.s2,ixF0 G ?_);show ixL (i:=a) (SqL.of l) a0 ?_;show ixF1 fy ?_;cbv;show(mulOk zn.s1 zy.s2,?_)
   (show(if lessF L[a] n=true then _ else _))
   by_cases cc:lessF L[a] n=true
   .rw[cc];cbv;show(_,λ_ _ q=>q,L.length-(a+1),by ac_nf,a+1,c,rfl,rfl,rfl,λz d=>?_);rw[take_succ,List.getElem?_eq_getElem c]at d;rcases mem_append.mp d with d | d
    .show D z d
    .have : z=L[a]:=by simpa using d
     rw[this];show Rat.le_of_lt (l2.mp cc)
   .rw[Bool.eq_false_iff.mpr cc];cbv;show a4 a ha D λz d=>?_;let(j,hj):=List.getElem?_of_mem d;rw[List.getElem?_drop]at hj;have:=a7.le (i:=a) (j:=a+j) ∅ (List.getElem?_eq_getElem c) hj;have:=λq=>cc (l2.mpr q);grind
  .rw[decide_eq_false ∅];cbv;show a4 a ha D λz d=>?_;rw[List.drop_eq_nil_of_le ∅]at d;cases d
 .intro σ H2 z_;let(v3,v4,v5,I,rfl,r,e2,O):=z_;rw[Int.toNat_natCast,take_of_length_le ∅]at O;cbv;show k o I H2 r e2 O
abbrev Ban:Stmt:=top 66
theorem Jbe:Jan ["_law_parts","_law_ones","_law_others","_law_here","_law_there","_law_k"] ["_law_parts","_law_ones","_law_others"] (Jae Ban):=by bv_decide
def JbJ(K:W.Frag):Sp:=λvs H Q E=>∃(pp sa sb:Addr)(px sx sy:List V)(ls:List PD)(ss rs:List Fr2),vs=[.ref pp, .ref sa, .ref sb]/\SqL K H pp px/\All2 (PDV K H) ls px/\SqL K H sa sx/\All2 (FLV K H) ss sx/\ss.length=ls.length/\(∀ s∈ss,FB 910 800 s)/\SqL K H sb sy/\All2 (FLV K H) rs sy/\rs.length=ls.length/\(∀ s∈rs,FB 910 800 s)/\(∀ p∈ls,1<=p.wt/\Mth.Sz 21 p.wt)/\ls.length<=8/\∀ H',Same H H'->Q (.bl (notB (ordO (lvls ss (ls.map (·.wt)))) (ordO (lvls rs (ls.map (·.wt)))))) H'
theorem JdC(F:"_law_not_fairer"∘Ban)(T:Txt K mg Ad)(Bbr:2∘"_law_sorted"∘["_law_parts","_law_slacks_here"]∘(JcD K)):3∘["_law_parts","_law_ones","_law_others"]∘(JbJ K):=by
 show F.okn Jbe (by subst_eqs) (λa2 A U s H vs Q E R h=>?_)
 let(o,B,C,X,sx,sy,c,G,J,rfl,h):=h;have l:=R.units;show(_,(Jab (Jaj 3 Jbe.nd (Bbr.ev R ⋯ rfl passF %[pv 0,pv 1|0])) (Jab (Jaj 4 Jbe.nd (Bbr.ev R ⋯ rfl passF %[pv 0,pv 2|0])) (Jab (JaN PassesOwn.never rfl (JbP rfl T.BbQ %[Jaw Jay rfl T.Bba Ja8 %[pv 3|0]|0]) (Jap 5 Jbe.nd) (Jag (ps_if (Jar (Jb5 l) (pe_ix ix_U (pv 3) (pv 5)) (pe_ix ix_U (pv 4) (pv 5)) (Jav _)) (Jag (Jaq (JbD JdR (pe_op JaV (pe_ix ix_U (pe_ix ix_U (pv 3) (pv 5)) Jad) (pe_ix ix_U (pe_ix ix_U (pv 4) (pv 5)) Jad)) (pe_op JaV (pe_ix ix_U (pe_ix ix_U (pv 4) (pv 5)) Jad) (pe_ix ix_U (pe_ix ix_U (pv 3) (pv 5)) Jad)) (Jav _))))
   Jat))) (Jag (Jaq pe_bl))))),?_)
 clear l;let(eP,hP,eA,hA,lA,fA,eB,hB,lB,fB,O,l8,k):=h;have sl:(1000:Nat)<=sizeLine:=by decide
 show tSeq _ _ _ [some (.ref o),some (.ref B),some (.ref C),none,none,none] H;cbv;show(o,B,X,sx,c,G,rfl,eP,hP,eA,hA,lA,fA,O,l8,λl1 y1 H1 r e1 N=>?_);cbv;show(o,C,X,sy,c,J,rfl,eP.same r,hP.mono (λ_ _ z=>z.sameT r.t),eB.same r,hB.mono (λ_ _ z=>z.sameT r.t),lB,fB,O,l8,λl2 y2 H2 Y D e=>?_);cbv;have b:=Y _ _ e1;have a:=N.mono (P':=FrL K H2) λ_ _ z=>FrV.sameT Y.t z;have p:=r.trans Y;rw[Jd4,Jd4]at k;rw[Jd4]at a e;have key:∀{qs:List Fr2},qs.length=c.length->(∀ s∈qs,FB 910 800 s)->(ordO ((c.zip qs).map lvZ)).length=c.length/\∀ z∈ordO ((c.zip qs).map lvZ),FW 3000 3000 z:=λ{qs} lq fq=>⟨by rw[Jhw,length_map,List.length_zip];ac_nf,λz hz=>by
  let(x,hx,rfl):=mem_map.mp (Jhx hz);let(h1,h2):=O _ (of_mem_zip hx).1;show(Jhs (fq _ (of_mem_zip hx).2) h1 h2).1⟩
 let(n1,w1):=key lA fA;let(n2,w2):=key lB fB;generalize ordO ((c.zip G).map lvZ)=L at *;generalize ordO ((c.zip J).map lvZ)=M at *;have a0:=a.length;have a1:=e.length;show(_, .inl (SqL.of b),?_);cbv;show(_,rfl,by ac_nf,by ac_nf,?_);show ForR.byN (λi σ q=>∃(W:Option V),σ=[some (.ref o),some (.ref B),some (.ref C),some (.ref l1),some (.ref l2),W]/\q=H2/\notB L M=notB (L.drop i) (M.drop i)) ⟨none,rfl,rfl,rfl⟩ ?_ ?_
 .rintro i σ q hi ⟨W,rfl,rfl,j⟩ N0 I;have d:i<L.length:=by ac_nf
  have g:i<M.length:=by ac_nf
  let(u,l,S):=a.get (List.getElem?_eq_getElem d);let(v,Z,fm):=e.get (List.getElem?_eq_getElem g);have zn:=w1 _ (List.getElem_mem d);have zm:=w2 _ (List.getElem_mem g);rw[List.drop_eq_getElem_cons d,List.drop_eq_getElem_cons g]at j;generalize L[i]=n at *;generalize M[i]=m at *;rw[Int.zero_add];cbv;show ixL (i:=i) (SqL.of b) l ?_;show ixL (i:=i) (SqL.of D) Z ?_;show neF S fm ?_;have ee:(decide (n.1=m.1)&&decide (n.2=m.2))=decide (n=m):=by
   rw[Bool.eq_iff_iff];simp[Prod.ext_iff]
  rw[ee];by_cases y:n=m
  .rw[decide_eq_true y];cbv;show I _ _ ⟨_,rfl,rfl,?_⟩;rw[j,notB,if_pos y]
  .rw[decide_eq_false y];cbv;show ixL (i:=i) (SqL.of b) l ?_;show ixF0 S ?_;show ixL (i:=i) (SqL.of D) Z ?_;show ixF1 fm ?_;cbv;show(mulOk zn.s1 zm.s2,?_);show ixL (i:=i) (SqL.of D) Z ?_;show ixF0 fm ?_;show ixL (i:=i) (SqL.of b) l ?_;show ixF1 S ?_;cbv;show(mulOk zm.s1 zn.s2,?_);have:=k q p;rw[j,notB,if_neg y]at this;try show this
 .rintro σ q ⟨W,rfl,rfl,j⟩;rw[List.drop_eq_nil_of_le ∅,List.drop_eq_nil_of_le ∅]at j;cbv;have:=k q p;rw[j]at this;show this
abbrev Ba7:Stmt:=top 67
theorem Jbs:Jan ["_law_thing","_law_name","_law_ways","_law_piece_here","_law_k","_law_names"] ["_law_thing","_law_name"] (Jae Ba7):=by bv_decide
def JcT(K:W.Frag)(Ad:Adr):Sp:=λvs H Q E=>∃(x:Addr)(z:Str)(ls:List PD)(gs:List GD)(pl:Str->Fr2),vs=[.ref x, .str z]/\TK K Ad H x ls gs/\ThO ls gs pl/\z∈gs.map (·.nm)/\∀(l:Addr)(ps:List Str)(H':Hp),Same H H'->H' l=some (.lst (ps.map V.str))->(∀ g∈gs,(∃ n∈wayN ls g,n∈ps)->∀ n∈wayN ls g,n∈ps)->(∀ g∈gs,g.nm=z->∀ n∈wayN ls g,n∈ps)->Q (.ref l) H'
theorem Jgm(F:"_law_piece"∘Ba7)(T:Txt K mg Ad)(BcU:1∘"way"∘(JaF Ad)∘["self","name"]∘(JbQ K Ad))(BaA:2∘"gaps"∘(JaF Ad)∘["self"]∘(JaO K Ad)):3∘["_law_thing","_law_name"]∘(JcT K Ad):=by
 show F.okn Jbs (by subst_eqs) (λe9 A c2 s H vs Q E hr h=>?_)
 let(x,z,ls,gs,pl,rfl,h):=h;show(_,(Jab (Jkz (Jb7 (j:=2) (own:=["_law_gap_here"]) (cs:=[(0,"_law_thing")]) Jbs.nd rfl (Or.inl rfl) rfl (pi_U (BaA.m0 hr ⋯ passF (pv 0))) (λ_ _ _ _=>(Jap 0 (show[("_law_gap_here" : Str),("_law_thing" : Str)].Nodup by decide))) (λ_ _ _ _=>JbE) (λ_ _ _ _=>(JcM (JaY (own:=["_law_part_here","_law_forward"]) (cs:=[]) rfl (pi_UK (K:=K) rfl (BcU.m hr ⋯ passF (pv 1) %[pe_ix (ix_UK (K:=K) rfl) (pv 0) Jad|0])) (λ_ _ _ _=>(JfG (K:=K) (n:=2) rfl rfl (JaX (Jap 0 (show[("_law_part_here" : Str),("_law_forward" : Str)].Nodup by decide) (hf:=Or.inr rfl)) (JaX (Jap 1 (show[("_law_part_here" : Str),("_law_forward" : Str)].Nodup by decide) (hf:=Or.inr rfl)) JcN)))) (λ_ _ _ _=>JbE) (λ_ _ _ _=>(pv 0)) (Jbk rfl) ⋯ rfl ⋯ hcs0))) (Jbk rfl) ⋯ rfl ⋯ (hcs1 rfl rfl rfl))) (Jab (Jaj 3 Jbs.nd (JcM (JaY (own:=["_law_part_here","_law_forward"]) (cs:=[]) rfl (pi_U (BcU.m hr ⋯ passF (pv 0) %[pv 1|0])) (λ_ _ _ _=>(JfG (K:=K) (n:=2) rfl rfl (JaX (Jap 0 (show[("_law_part_here" : Str),("_law_forward" : Str)].Nodup by decide) (hf:=Or.inr rfl)) (JaX (Jap 1 (show[("_law_part_here" : Str),("_law_forward" : Str)].Nodup by decide) (hf:=Or.inr rfl)) JcN)))) (λ_ _ _ _=>JbE) (λ_ _ _ _=>(pv 0)) (Jbk rfl) ⋯ rfl ⋯ hcs0)) rfl (Or.inr rfl)) (Jab (JaN PassesOwn.never rfl (JbP rfl T.BbQ %[Jaw Jay rfl T.Bba Ja8 %[pv 2|0]|0]) (Jap 4 Jbs.nd) (Jag (JaN PassesOwn.never rfl (pi_U (pv 2)) (Jap 5 Jbs.nd) (Jag (ps_if (Jar JeC (Jaw Jay rfl T.Bba Ja8 %[JaY (own:=["_law_part_here"]) (cs:=[(3,"_law_piece_here")]) rfl (pi_U (pv 5)) (λ_ _ _ _=>(Jap 0 (show[("_law_part_here" : Str),("_law_piece_here" : Str)].Nodup by decide))) (λ_ _ _ _=>JcO (Jar (Jks (K:=K) rfl) (pv 0) (pv 1) (by with_unfolding_all rfl))) (λ_ _ _ _=>(pv 0)) (Jbk rfl) ⋯ rfl ⋯ (hcs1 rfl rfl rfl)|0]) Jad (Jav _)) (Jag (Jaj 3 Jbs.nd (pe_op Ja0 (pv 3) (JaY (own:=["_law_part_here"]) (cs:=[(3,"_law_piece_here")]) rfl (pi_U (pv 5)) (λ_ _ _ _=>(Jap 0 (show[("_law_part_here" : Str),("_law_piece_here" : Str)].Nodup by decide))) (λ_ _ _ _=>JcO (Jar (Jgo (K:=K) rfl) (pv 0) (pv 1) (by with_unfolding_all rfl))) (λ_ _ _ _=>(pv 0)) (Jbk rfl) ⋯ rfl ⋯ (hcs1 rfl rfl rfl))) rfl (Or.inr rfl)))
   Jat))))) (Jag (Jaq (pv 3)))))),?_)
 let(ht,C,hz,k):=h;have sl:(1000:Nat)<=sizeLine:=by decide
 have g6:=C.g6;let(dx,d1,d2,d3,k1,k2,k3,I,_):=id ht;show tSeq _ _ _ [some (.ref x),some (.str z),none,none,none,none] H;cbv;show(x,_,dx,_,rfl,I,rfl,rfl,?_);cbv;show(x,ls,gs,rfl,ht,by ac_nf,λgl gx H1 S1 a9 e1 hG=>?_);have lG:=hG.length;cbv;show(gl,rfl, .inl ⟨⟨_,SqL.of e1⟩,CompJ.list (xs:=gx) (λi ys p=>Same H1 p/\∃ B:List (List Str),All2 (WLV p) B ys/\B.length=i/\(∀ w∈B,w.length<=5)/\∀(j:Nat) g w,gs[j]?=some g->B[j]?=some w->(wayN ls g).Perm w) ⟨.refl _,[],rfl,rfl,(λw J=>by cases J),λj g w _ J=>by simp at J⟩ (λi ys p hi z=>by
  let(S,B,hA,hl,_):=z;have:=hA.length;show(SqL.of (S _ _ e1),by ac_nf)) ?_ ?_⟩)
 .intro i y ys H2 U z_;let(S2,B,hA,hl,h5,hp):=z_;let(g,hg,b_,e8,e2,rfl,hb,_,_):=hG.at_ U;have mg:=List.mem_of_getElem? hg;have b1:=S1.trans S2;simpa only[length_singleton,length_cons,length_nil,List.replicate,Jaz,map_cons,map_nil,Option.join_some];show(x,_,dx,_,rfl,b1 _ _ I,rfl,rfl,?_);cbv;show ixT (i:=0) (hb.same S2) rfl ?_;cbv;show(x,g.nm,ls,gs,rfl,ht.same b1,λy=>absurd (mem_map.mpr ⟨g,mg,rfl⟩) y,λu hu a0 l xs w H3 S3 c0 e3 hC J b=>?_);have eu:u=g:=Jc4 C.gnd hu mg a0;subst eu;have lw:=C.wlen J b;have lC:=hC.length;cbv;show(l,rfl, .inl ⟨⟨_,SqL.of e3⟩,CompJ.list (xs:=xs) (λj r p=>p=H3/\r=((w.take j).map (·.1)).map V.str) ⟨rfl,rfl⟩ (λj r p hj z=>⟨by rw[z.1];show SqL.of e3,by rw[z.2,length_map,length_map,length_take];ac_nf⟩) ?_ ?_⟩)
  .rintro j y r H4 U ⟨rfl,rfl⟩;let(pr,a1,c_,rfl,O):=hC.at_ U;simpa only[length_singleton,length_cons,length_nil,List.replicate,Jaz,map_cons,map_nil,Option.join_some];show(c_,_,rfl,SqT.of O,rfl,?_);cbv;rw[take_succ,a1];simp
  .rintro r H4 ⟨rfl,rfl⟩;rw[take_of_length_le ∅];rename_i nl c7 c8 H4 H5 S5 e5;cbv;have b2:=S3.trans S5;show(S2.trans b2,B++[w.map (·.1)],(hA.mono (P':=WLV H5) λ_ _ z=>z.same b2).append (.one ⟨nl,rfl,e5⟩),by simp[hl],λe G=>?_,λj M e t G=>?_)
   .rcases mem_append.mp G with h | h
    .show h5 e h
    .rw[mem_singleton.mp h,length_map];show lw
   .rcases Jbg G with h | ⟨rfl,rfl⟩
    .show hp j M e t h
    .rw[hl,hg]at t;cases t;show C.way J b
 .intro ys H2 z_;let(S2,B,hA,hl,h5,hp):=z_;rename_i wl d0 c5 H2 H3 S3 e3;cbv;have b5:=hA.mono (P':=WLV H3) λ_ _ z=>z.same S3;have X:=S1.trans (S2.trans S3);have lA:=hA.length;clear hA hG e1 a9;cbv;let(g,hg,e7):=mem_map.mp hz;show(x,_,dx,_,rfl,X _ _ I,rfl,rfl,?_);cbv;show(x,z,ls,gs,rfl,ht.same X,λy=>absurd hz y,λu hu a0 l xs w H4 S4 c0 e4 hC J b=>?_);have lw:=C.wlen J b;have lC:=hC.length;cbv;show(l,rfl, .inl ⟨⟨_,SqL.of e4⟩,CompJ.list (xs:=xs) (λj r p=>p=H4/\r=((w.take j).map (·.1)).map V.str) ⟨rfl,rfl⟩ (λj r p hj z=>⟨by rw[z.1];show SqL.of e4,by rw[z.2,length_map,length_map,length_take];ac_nf⟩) ?_ ?_⟩)
  .rintro j y r H5 U ⟨rfl,rfl⟩;let(pr,a1,c_,rfl,O):=hC.at_ U;simpa only[length_singleton,length_cons,length_nil,List.replicate,Jaz,map_cons,map_nil,Option.join_some];show(c_,_,rfl,SqT.of O,rfl,?_);cbv;rw[take_succ,a1];simp
  rintro r H5 ⟨rfl,rfl⟩;rw[take_of_length_le ∅];rename_i p0 d8 c6 H5 H6 S6 e6;cbv;have Z:=S4.trans S6;have b3:=X.trans Z;have a3:=Z _ _ e3;have b4:=b5.mono (P':=WLV H6) λ_ _ z=>z.same Z;have a6:∀ M∈gs,M.nm=z->∀ n∈wayN ls M,n∈w.map (·.1):=λM t L n Y=>by
   have eg:M=u:=Jc4 C.gnd t hu (L.trans a0.symm);subst eg;show(C.way J b).mem_iff.mp Y
  show(_, .inl (SqL.of a3),?_);cbv;show(_,rfl,by ac_nf,by ac_nf,?_);show ForR.byN (λi σ p=>∃(v4 W:Option V)(pa:Addr)(D:List Str),σ=[some (.ref x),some (.str z),some (.ref wl),some (.ref pa),v4,W]/\Same H6 p/\p pa=some (.lst (D.map V.str))/\D.length<=5+25*i/\(∀ n∈w.map (·.1),n∈D)/\(clo B D\/i<=cntA B D)) ⟨none,none,p0,w.map (·.1),rfl,Same.refl _,e6,by rw[length_map];ac_nf,(λn b=>b), .inr (Nat.zero_le _)⟩ ?_ ?_
  .intro i σ H7 hi z_ N0 b7;let(v4,W,pa,D,rfl,S7,ea,lp,a2,R):=z_;rw[Int.toNat_natCast]at hi;rw[Int.zero_add];cbv;show(wl,rfl,ForA.byLN (xs:=ys) (SqL.of (S7 _ _ a3)) (λj σ p=>j<=ys.length/\∃(W:Option V)(N:Addr)(o:List Str),σ=[some (.ref x),some (.str z),some (.ref wl),some (.ref N),some (.int (i:Int)),W]/\Same H6 p/\p N=some (.lst (o.map V.str))/\o.length<=D.length+5*j/\(∀ n∈D,n∈o)/\(∀ w∈B.take j,(∃ n∈w,n∈D)->∀ n∈w,n∈o)/\(clo B D->∀ n∈o,n∈D)) ⟨Nat.zero_le _,W,pa,D,rfl,S7,ea,Nat.le_refl _,(λn b=>b),(λw J=>by simp at J),λ_ n b=>b⟩ (λj σ p q=>by let(_,_,_,_,_,q,_):=q;show SqL.of (q _ _ a3)) ?_ ?_)
   .intro j y σ H8 U z_ N1 b0;let(hj,W,N,o,rfl,S8,eb,lq,q1,q2,q3):=z_;have lj:=(List.getElem?_eq_some_iff.mp U).1;let(e,G,nl,rfl,b8):=b4.at_ U;have mw:=List.mem_of_getElem? G;have l5:=h5 e mw;have a5:B.take (j+1)=B.take j++[e]:=by rw[take_succ,G];rfl
    have a4:=S8 _ _ b8;have d5:∀(f:Str->Bool)(n:Nat),(e.filter f).length<=5:=λf n=>Nat.le_trans (length_filter_le _ _) l5;cbv;show(nl,rfl, .inl ⟨⟨_,SqL.of a4⟩,Jbt.list (xs:=e.map V.str) (λa r p=>p=H8/\r=((e.take a).filter λn=>decide (n∈o)).map V.str) ⟨rfl,rfl⟩ (λa r p ha z=>⟨by rw[z.1];show SqL.of a4,by rw[z.2,length_map];show Nat.le_trans (length_filter_le _ _) (by rw[length_take];ac_nf)⟩) ?_ ?_⟩)
    .rintro a y r H9 d ⟨rfl,rfl⟩;have la:=(List.getElem?_eq_some_iff.mp d).1;rw[length_map]at la;rw[List.getElem?_map,List.getElem?_eq_getElem la]at d;have d:y=.str e[a]:=(Option.some.inj d).symm;subst d;simpa only[length_singleton,length_cons,length_nil,List.replicate,Jaz,map_cons,map_nil,Option.join_some];show(N,_,rfl, .inl (SqL.of eb),rfl,Jeg _,?_);rw[Jd3,take_succ,List.getElem?_eq_getElem la];generalize e[a]=n;by_cases c:n∈o
     .simp[c]
     .simp[c]
    .rintro r H9 ⟨rfl,rfl⟩;rw[length_map,take_of_length_le (Nat.le_refl _)];rename_i d9 b9 b6 H9 HA SA eA;cbv;show(_, .inl (SqL.of eA),?_);try simpa only[length_map]
     by_cases c:∃ n∈e,n∈o
     .have e0:0<(e.filter λn=>decide (n∈o)).length:=by
       let(n,h1,h2):=c;show List.length_pos_of_mem (mem_filter.mpr ⟨h1,decide_eq_true h2⟩)
      rw[if_pos (decide_eq_true ∅)];cbv;have a7:=SA _ _ a4;have a8:=SA _ _ eb;show(nl,rfl, .inl ⟨⟨_,SqL.of a7⟩,Jbt.list (xs:=e.map V.str) (λa r p=>p=HA/\r=((e.take a).filter λn=>!decide (n∈o)).map V.str) ⟨rfl,rfl⟩ (λa r p ha z=>⟨by rw[z.1];show SqL.of a7,by rw[z.2,length_map];show Nat.le_trans (length_filter_le _ _) (by rw[length_take];ac_nf)⟩) ?_ ?_⟩)
      .rintro a y r HB d ⟨rfl,rfl⟩;have la:=(List.getElem?_eq_some_iff.mp d).1;rw[length_map]at la;rw[List.getElem?_map,List.getElem?_eq_getElem la]at d;have d:y=.str e[a]:=(Option.some.inj d).symm;subst d;simpa only[length_singleton,length_cons,length_nil,List.replicate,Jaz,map_cons,map_nil,Option.join_some];show(N,_,rfl, .inl (SqL.of a8),rfl,Jeg _,?_);rw[Jd3,take_succ,List.getElem?_eq_getElem la];generalize e[a]=n;by_cases c:n∈o
       .simp[c]
       .simp[c]
      .rintro r HB ⟨rfl,rfl⟩;rw[length_map,take_of_length_le (Nat.le_refl _)];rename_i al d4 c9 HB HC SC eC;cbv;have lf:(e.filter λn=>!decide (n∈o)).length<=5:=Nat.le_trans (length_filter_le _ _) l5;show .inl ⟨N,al,_,_,rfl,rfl,SC _ _ a8,eC,by rw[length_map,length_map];ac_nf,?_⟩;rename_i pc d7 d6 HC HD SD eD;cbv;have c1:∀ n∈e,n∈o++e.filter λn=>!decide (n∈o):=λn b=>by
        by_cases h:n∈o
        .show mem_append.mpr (.inl h)
        .show mem_append.mpr (.inr (mem_filter.mpr ⟨b,by simp[h]⟩))
       show b0 _ _ ⟨lj,_,pc,o++e.filter (λn=>!decide (n∈o)),rfl,S8.trans (SA.trans (SC.trans SD)),by rw[map_append];show eD,by rw[length_append];ac_nf,λn b=>mem_append.mpr (.inl (q1 n b)),λv hv I=>?_,λO n b=>?_⟩
       .rw[a5]at hv;rcases mem_append.mp hv with h | h
        .showλn b=>mem_append.mpr (.inl (q2 v h I n b))
        .rw[mem_singleton.mp h];show c1
       .rcases mem_append.mp b with h | h
        .show q3 O n h
        .let(m,h1,h2):=c;show O e mw ⟨m,h1,q3 O m h2⟩ n (mem_filter.mp h).1
     .have c3:e.filter (λn=>decide (n∈o))=[]:=List.filter_eq_nil_iff.mpr λn b h=>c ⟨n,b,of_decide_eq_true h⟩;rw[c3,if_neg (by simp)];cbv;show b0 _ _ ⟨lj,_,N,o,rfl,S8.trans SA,SA _ _ eb,by ac_nf,q1,λv hv I=>?_,q3⟩;rw[a5]at hv;rcases mem_append.mp hv with h | h
      .show q2 v h I
      .rw[mem_singleton.mp h]at I;let(n,h1,h2):=I;show absurd ⟨n,h1,q1 n h2⟩ c
   .intro σ H8 z_;let(hj,W,N,o,rfl,S8,eb,lq,q1,q2,q3):=z_;rw[take_of_length_le ∅]at q2;show b7 _ _ ⟨_,_,N,o,rfl,S8,eb,by ac_nf,(λn b=>q1 n (a2 n b)),Jil q1 q2 q3 R⟩
  .intro σ H7 z_;let(v4,W,pa,D,rfl,S7,ea,lp,a2,R):=z_;rw[Int.toNat_natCast,lA]at R;have O:=JkZ R;cbv;show k pa D H7 (b3.trans S7) ea (λM t I=>?_) λM t L n Y=>a2 n (a6 M t L n Y);let(j,hj):=List.getElem?_of_mem t;have lj:=(List.getElem?_eq_some_iff.mp hj).1;have c4:=List.getElem?_eq_getElem (by ac_nf:j<B.length);have pm:=hp j M _ hj c4;have:=O _ (List.getElem_mem (by ac_nf:j<B.length));let(n,h1,h2):=I;showλm hm=>this ⟨n,pm.mem_iff.mp h1,h2⟩ m (pm.mem_iff.mp hm)
abbrev BaZ:Stmt:=top 68
theorem JfO:Jan ["_law_thing"] ["_law_thing"] (Jae BaZ):=by bv_decide
def Jb1(K:W.Frag)(Ad:Adr):Sp:=λvs H Q E=>∃(x:Addr)(ls:List PD)(es:List (GD × List Str))(pl:Str->Fr2),vs=[.ref x]/\TK K Ad H x ls (es.map (·.1))/\SHC ls es pl/\(∀ e∈es,0<=vl (roomF pl e.1))/\∀(l:Addr)(ys:List V)(rs:List ShD)(H':Hp),Same H H'->H' l=some (.lst ys)->All2 (FLV K H') (rs.map (·.sl)) ys->ShR ls es pl rs->Q (.ref l) H'
theorem Jfz(F:"_law_slacks"∘BaZ)(T:Txt K mg Ad)(Bb6:9∘"share"∘["thing"]∘(Jd8 K Ad)):10∘["_law_thing"]∘(Jb1 K Ad):=by
 show F.okn JfO (by subst_eqs) (λX A d s H S Q E c h=>?_)
 let(x,u,C,v,rfl,h):=h;show(_,(Jag (Jaq (JcM (JaY (own:=["_law_name","_law_slack","_law_stop"]) (cs:=[]) rfl (pi_U (Bb6.ev c ⋯ rfl passF %[pv 0|0])) (λ_ _ _ _=>(JfG (K:=K) (n:=3) rfl rfl (JaX (Jap 0 (show[("_law_name" : Str),("_law_slack" : Str),("_law_stop" : Str)].Nodup by decide) (hf:=Or.inr rfl)) (JaX (Jap 1 (show[("_law_name" : Str),("_law_slack" : Str),("_law_stop" : Str)].Nodup by decide) (hf:=Or.inr rfl)) (JaX (Jap 2 (show[("_law_name" : Str),("_law_slack" : Str),("_law_stop" : Str)].Nodup by decide) (hf:=Or.inr rfl)) JcN))))) (λ_ _ _ _=>JbE) (λ_ _ _ _=>(pv 1)) (Jbk rfl) ⋯ rfl ⋯ hcs0)))),?_);let(R,j,V,k):=h;have sl:(1000:Nat)<=sizeLine:=by decide
 have O:=j.l12;show tRet _ _ [some (.ref x)] H;cbv;show(x,u,C,v,rfl,R,j,V,λY J g o I m q D B=>?_);have L:=B.len;have lZ:=D.length;cbv;show(Y,rfl, .inl ⟨⟨_,SqL.of q⟩,CompJ.list (xs:=J) (λi a y=>y=o/\All2 (FLV K o) ((g.take i).map (·.sl)) a) ⟨rfl,rfl⟩ (λi a y hi z=>⟨by rw[z.1];show SqL.of q,by
  have:=z.2.length;rw[length_map,length_take]at this;ac_nf⟩) ?_ ?_⟩)
 .rintro i z a p G ⟨rfl,b⟩;let(r,c,N,W,t_,rfl,hb,hf,_):=D.at_ G;simpa only[length_singleton,length_cons,length_nil,List.replicate,Jaz,map_cons,map_nil,Option.join_some];show(N,_,rfl,hb,rfl,?_);cbv;rw[take_succ,c,map_append];show b.append (.one hf)
 .rintro a p ⟨rfl,b⟩;rw[take_of_length_le ∅]at b;rename_i l Z M p H6 e U;cbv;show k l a g H6 (I.trans e) U (b.mono λ_ _ z=>z.sameT e.t) B
abbrev Bbk:Stmt:=top 69
theorem JaD:Jan ["_law_thing","_law_before","_law_cell","_law_far","_law_gaps","_law_at","_law_more","_law_low","_law_high","_law_wider","_law_parts","_law_behind","_law_unlike","_law_piece_here","_law_back"] ["_law_thing","_law_before","_law_cell","_law_far"] (Jae Bbk):=by bv_decide
def Jdb(K:W.Frag)(Ad:Adr):Sp:=λvs H Q E=>∃(x sa:Addr)(c:Int)(b:Bool)(sx:List V)(ls:List PD)(sp:List SpD)(j:Nat)(gs:List GD)(rs:List ShD),vs=[.ref x, .ref sa, .int c, .bl b]/\TK K Ad H x ls gs/\H sa=some (.lst sx)/\All2 (FLV K H) (rs.map (·.sl)) sx/\Grn 0 ls sp/\ls.length<=5/\sp.length<=11/\(∀ p∈ls,FB 100 6 p.sz/\FB 100 6 p.mo/\Mth.Sz 21 p.wt)/\GsO sp j gs/\1<=gs.length/\j<=6/\ShR ls (esN ls gs) (spOf sp) rs/\∀(q y ya:Addr)(yx:List V)(gs':List GD)(rs':List ShD)(H':Hp),Same H H'->H' q=some (.tup [.ref y, .ref ya])->TK K Ad H' y ls gs'->H' ya=some (.lst yx)->All2 (FLV K H') (rs'.map (·.sl)) yx->GsO sp (j+1) gs'->1<=gs'.length->ShR ls (esN ls gs') (spOf sp) rs'->Q (.ref q) H'
theorem JgX(F:"_law_step"∘Bbk)(T:Txt K mg Ad)(BaA:2∘"gaps"∘(JaF Ad)∘["self"]∘(JaO K Ad))(Bao:2∘"parts"∘(JaF Ad)∘["self"]∘(JaH K Ad))(Bae:2∘"_law_number"∘["_law_cell","_law_far"]∘(Jbz))(BaX:2∘"_law_plus"∘["_law_one","_law_other"]∘(JcC K))(Bcb:11∘"changed"∘["thing","name","low","high"]∘(JdI K Ad))(BaB:10∘"_law_slacks"∘["_law_thing"]∘(Jb1 K Ad))(BbU:7∘"is_sharing"∘["thing","slacks"]∘(JcA K Ad))(Ba9:3∘"_law_not_fairer"∘["_law_parts","_law_ones","_law_others"]∘(JbJ K))(Bb7:3∘"_law_piece"∘["_law_thing","_law_name"]∘(JcT K Ad))(Bbw:10∘"unlike_parts"∘["thing","other"]∘(Jcd K Ad)):12∘["_law_thing","_law_before","_law_cell","_law_far"]∘(Jdb K Ad):=by
 show F.okn JaD (by subst_eqs) (λp5 A l1 s H vs Q E B h=>?_)
 let(x,sa,c,b,sx,ls,sp,j,G,I,rfl,h):=h;have Y:=B.units;show(_,(Jab (Jaj 4 JaD.nd (BaA.m0 B ⋯ passF (pv 0))) (Jab (Jaj 5 JaD.nd (pe_op JaI (pv 2) (Jaw Jay rfl T.Bba Ja8 %[pv 4|0]))) (Jab (Jaj 6 JaD.nd (Bae.ev B ⋯ rfl passF %[pe_op Jau (pv 2) Jad,pv 3|0])) (Jab (Jaj 7 JaD.nd (pe_ix ix_U (pe_ix ix_U (pv 4) (pv 5)) Jad)) (Jab (Jaj 8 JaD.nd (pe_ix ix_U (pe_ix ix_U (pv 4) (pv 5)) Jad)) (Jab (ps_if (Jar (Jb5 Y) (pe_op JaI (pe_op Jau (pv 2) Jad) Jad) Jad (Jav _)) (Jag (Jaj 7 JaD.nd (BaX.ev B ⋯ rfl passF %[pv 7,JaE %[pe_un Jgz (!6),!6|0]|0])))
   Jat) (Jab (ps_if (Jar (Jb5 Y) (pe_op JaI (pe_op Jau (pv 2) Jad) Jad) Jad (Jav _)) (Jag (Jaj 8 JaD.nd (BaX.ev B ⋯ rfl passF %[pv 8,pv 6|0])))
   Jat) (Jab (Jaj 9 JaD.nd (Bcb.ev B ⋯ rfl passF %[pv 0,pe_ix ix_U (pe_ix ix_U (pv 4) (pv 5)) Jad,pv 7,pv 8|0])) (Jab (ps_if (Jar (Jb5 Y) (BaA.m0 B ⋯ passF (pv 9)) (pe_op Ja0 (pe_op Ja0 (Jd7 sl_V (pv 4) Jg2 (JeG (pv 5))) (Jbj %[pe_op Ja0 (Jd7 sl_V (pe_ix ix_U (pv 4) (pv 5)) Jg2 (JeG Jad)) (JaE %[pv 7,pv 8|0])|0])) (Jd7 sl_V (pv 4) (JeG (pe_op Ja0 (pv 5) Jad)) Jg2)) (Jav _)) (Jag (Jaq Jcp))
   Jat) (Jab (Jaj 10 JaD.nd (Bao.m0 B ⋯ passF (pv 0)) rfl (Or.inr rfl)) (Jab (Jaj 11 JaD.nd (BaB.ev B ⋯ rfl passF %[pv 9|0]) rfl (Or.inr rfl)) (Jab (ps_if (PW.pt (pw_or (JbB (Ja1 (BbU.ev B ⋯ rfl passF %[pv 9,pv 1|0]))) (JcJ (JbB (Ja1 (Ba9.ev B ⋯ rfl passF %[pv 10,pv 1,pv 11|0])))))) (Jag (Jaq Jcp))
   Jat) (Jab (Jb7 (j:=12) (own:=["_law_k"]) (cs:=[(10,"_law_parts"),(1,"_law_before"),(11,"_law_behind")]) JaD.nd rfl (Or.inl rfl) rfl (JbP rfl T.BbQ %[Jaw Jay rfl T.Bba Ja8 %[pv 10|0]|0]) (λ_ _ _ _=>(Jap 0 (show[("_law_k" : Str),("_law_parts" : Str),("_law_before" : Str),("_law_behind" : Str)].Nodup by decide))) (λ_ _ _ _=>JcO (Jar (Jkt (K:=K) rfl Y) (pe_ix (ix_UK (K:=K) rfl) (pv 2) (pv 0)) (pe_ix (ix_UK (K:=K) rfl) (pv 3) (pv 0)) (Jav _))) (λ_ _ _ _=>(pe_ix (ix_UK (K:=K) rfl) (pe_ix (ix_UK (K:=K) rfl) (pv 1) (pv 0)) Jad)) (Jbk rfl) ⋯ rfl ⋯ (hcs3 rfl rfl rfl rfl rfl rfl rfl rfl rfl)) (Jab (Jaj 13 JaD.nd (Bb7.ev B ⋯ rfl passF %[pv 0,pe_ix ix_U (pe_ix ix_U (pv 4) (pv 5)) Jad|0]) rfl (Or.inr rfl)) (Jab (ps_if (Jar JeC (Jaw Jay rfl T.Bba Ja8 %[JaY (own:=["_law_name"]) (cs:=[(13,"_law_piece_here")]) rfl (pi_U (pv 12)) (λ_ _ _ _=>(Jap 0 (show[("_law_name" : Str),("_law_piece_here" : Str)].Nodup by decide))) (λ_ _ _ _=>JcO (Jar (Jgo (K:=K) rfl) (pv 0) (pv 1) (by with_unfolding_all rfl))) (λ_ _ _ _=>(pv 0)) (Jbk rfl) ⋯ rfl ⋯ (hcs1 rfl rfl rfl)|0]) Jad (Jav _)) (Jag (Jaq Jcp))
   Jat) (Jab (ps_if (PW.pt (Jfe (Jar (JbO Y) (pe_op JaI (pe_op Jau (pv 2) Jad) Jad) Jad (Jav _)) (JdF (Jar (Jb5 Y) (Bbw.ev B ⋯ rfl passF %[pv 0,pv 9|0]) (pv 12) (Jav _))))) (Jag (Jaq Jcp))
   Jat) (Jab (Jaj 14 JaD.nd (Bcb.ev B ⋯ rfl passF %[pv 9,pe_ix ix_U (pe_ix ix_U (pv 4) (pv 5)) Jad,pe_ix ix_U (pe_ix ix_U (pv 4) (pv 5)) Jad,pe_ix ix_U (pe_ix ix_U (pv 4) (pv 5)) Jad|0])) (Jab (ps_if (PW.pt (pw_or (Jar (Jb5 Y) (BaA.m0 B ⋯ passF (pv 0)) (pv 4) (Jav _)) (pw_or (Jar (Jb5 Y) (BaA.m0 B ⋯ passF (pv 14)) (pv 4) (Jav _)) (JcJ (PW.pt (Jfe (Jar (JbO Y) (pe_op JaI (pe_op Jau (pv 2) Jad) Jad) Jad (Jav _)) (JdF (Jar (Jb5 Y) (BaB.ev B ⋯ rfl passF %[pv 14|0]) (pv 1) (Jav _))))))))) (Jag (Jaq Jcp))
   Jat) (Jag (Jaq (JaE %[pv 9,pv 11|0]))))))))))))))))))))),?_)
 clear Y;let(ht,b5,hA,hG,l5,d9,hb,hO,g1,j6,hR,kk):=h;have sl:(1000:Nat)<=sizeLine:=by decide
 let(l,r0):=hO.tho hG l5 d9 ∅ hb;have g4:=hO.l4;let(dx,d1,d2,d3,k1,k2,k3,hx,_):=id ht;show tSeq _ _ _ [some (.ref x),some (.ref sa),some (.int c),some (.bl b),none,none,none,none,none,none,none,none,none,none,none] H;cbv;show(x,_,dx,_,rfl,hx,rfl,rfl,?_);cbv;show(x,ls,G,rfl,ht,by ac_nf,λgl gx H1 S1 n6 e1 hX=>?_);have lX:=hX.length;cbv;show(_, .inl (SqL.of e1),?_);cbv;show(by ac_nf,?_);have qa:=Mth.fm (x:=c) (y:=(gx.length:Int)) ∅;let(d,l9):=Int.eq_ofNat_of_zero_le qa.1;rw[l9]at qa ⊢;have la:d<G.length:=by ac_nf
 obtain⟨g,hg⟩:∃ g,G[d]?=some g:=⟨_,List.getElem?_eq_getElem la⟩;have mg:=List.mem_of_getElem? hg;let(gv,N,b_,d5,b6,rfl,O,f6,d6):=hX.get hg;cbv;mpure
 show(_,b,rfl,λp1 m H2 S2 e2 fm m0=>?_);have m2:0<=vl m:=(vl_nn fm.b1).mpr m0;cbv;show ixL (i:=d) (SqL.of (S2 _ _ e1)) N ?_;show ixT (i:=3) (O.same S2) rfl ?_;cbv;show ixL (i:=d) (SqL.of (S2 _ _ e1)) N ?_;show ixT (i:=4) (O.same S2) rfl ?_;cbv;mpure
 rename_i R p7;have key:∀(d1:Bool)(vL:V)(H3:Hp),Same H2 H3->FrV K H3 vL (if d1 then addF g.lo (negF m)else g.lo).1 (if d1 then addF g.lo (negF m)else g.lo).2->R [some (.ref x),some (.ref sa),some (.int c),some (.bl b),some (.ref gl),some (.int (d:Int)),some (.ref p1),some vL,some b6,none,none,none,none,none,none] H3:=by
  intro d1 vL H3 S3 fL;have b0:=S2.trans S3;cbv;mpure
  rename_i R2 q0;have c4:∀(d2:Bool)(vH:V)(H4:Hp),Same H3 H4->FrV K H4 vH (if d2 then addF g.hi m else g.hi).1 (if d2 then addF g.hi m else g.hi).2->R2 [some (.ref x),some (.ref sa),some (.int c),some (.bl b),some (.ref gl),some (.int (d:Int)),some (.ref p1),some vL,some vH,none,none,none,none,none,none] H4:=by
   intro d2 vH H4 S4 fH;have a2:=b0.trans S4;have f8:=S1.trans a2;have e5:=fL.same S4;obtain⟨L,W⟩:∃ L:GD,L=⟨g.nm,g.st,g.en,if d1 then addF g.lo (negF m)else g.lo,if d2 then addF g.hi m else g.hi⟩:=⟨_,rfl⟩;have so:=hO.step hG l5 d9 j6 hg fm m2 d1 d2 W;let(u,l7):=so.gso.tho hG l5 d9 ∅ hb;have m3:(G.set d L).length=G.length:=List.length_set ..;cbv;show ixL (i:=d) (SqL.of (a2 _ _ e1)) N ?_;show ixT (i:=0) (O.same a2) rfl ?_;show(x,g.nm,vL,vH,(if d1 then addF g.lo (negF m)else g.lo),(if d2 then addF g.hi m else g.hi),ls,G,rfl,ht.same f8,e5,fH,by ac_nf,by ac_nf,l.pok,l.tok,l.nd,l.gnd,l.tr,l.con,⟨g,mg,rfl⟩,λg2 f7 e'=>?_);have e0:g=g2:=(Jc4 l.gnd f7 mg e').symm;subst e0;show(by rw[<- W];show so.tok,λy H5 S5 M=>?_);rw[<- W,so.mp]at M;let(dy,y1,y2,y3,w1,w2,w3,hy,_):=id M;cbv;show(y,_,dy,_,rfl,hy,rfl,rfl,?_);cbv;show(y,ls,_,rfl,M,by ac_nf,λwl wx H6 S6 j4 e6 hW=>?_);have i1:=S5.trans S6;have a9:=a2.trans i1;have b7:=a9 _ _ e1;have c3:=O.same a9;cbv;show .inl (.inl ⟨gl,gx,rfl,SqL.of b7,?_⟩);rw[Jkh (j:=d) ∅];rename_i s1 o3 n4 H6 H7 S7 e7;cbv;show ixL (i:=d) (SqL.of (S7 _ _ b7)) N ?_;cbv;show .inl (.inr ⟨b_,_,rfl,c3.same S7,λz=>absurd z.2 (show¬ HT.sIx 5 5 (some 3)=5 by decide),?_⟩);rw[show(3:Int)=((3:Nat):Int)from rfl,Jkh (xs:=[_,_,_,_,_]) (j:=3) (show 3<=5 by decide)];rename_i t1 n8 n0 H7 H8 S8 e8;cbv;show(len2,?_);rename_i t2 o6 o1 H8 H9 S9 e9;cbv;show .inr ⟨t1,t2,_,_,rfl,rfl,SqT.of (S9 _ _ e8),SqT.of e9,by simp,by simp;ac_nf,(λz=>by cases z),λ_=>?_⟩;rename_i t3 o4 n9 H9 HA SA eA;cbv;show(by show 1<=sizeLine;ac_nf,?_);rename_i s2 o5 o2 HA HB SB eB;cbv;show .inl ⟨s1,s2,_,_,rfl,rfl,(S8.trans (S9.trans (SA.trans SB))) _ _ e7,eB,by rw[length_take];simp;ac_nf,?_⟩;rename_i s3 n1 m4 HB HC SC eC;cbv;have d0:=S7.trans (S8.trans (S9.trans (SA.trans (SB.trans SC))));rw[show(d:Int)+1=((d+1:Nat):Int)from rfl];show .inl (.inl ⟨gl,gx,rfl,SqL.of (d0 _ _ b7),?_⟩);rw[JjD (j:=d+1) ∅];rename_i s4 n3 m8 HC HD SD eD;cbv;show .inl ⟨s3,s4,_,_,rfl,rfl,SD _ _ eC,eD,by simp;ac_nf,?_⟩;rename_i s5 n2 m9 HD HE SE eE;cbv;have i3:=SB.trans (SC.trans (SD.trans SE));have a0:=d0.trans (SD.trans SE);have a7:=S6.trans a0;have b9:=a9.trans a0;have a6:=S1.trans b9;have f5:=S5.trans a7;have j7:TV K HE L.td (.ref t3):=by
    rw[W];show(t3,vL,vH,rfl,SqT.of (i3 _ _ eA),e5.same f5,fH.same f5)
   have f3:=hX.mono (P':=λ(g:GD) v=>TV K HE g.td v) λ_ _ z=>TV.sameT b9.t z;have i9:All2 (λ(g:GD) v=>TV K HE g.td v) (G.set d L) (gx.take d++[.ref t3]++gx.drop (d+1)):=by
    rw[<- JhD la];show((f3.take d).append (.one j7)).append (f3.drop (d+1))
   show neGs (SqL.of (a0 _ _ e6)) (hW.mono λ_ _ z=>TV.sameT a0.t z) (SqL.of eE) i9 ?_;clear i9 f3 j7 eE eD eC eB eA e9 e8 e7 hW e6 j4 d0 i3 SD SE SC SB SA S9 S8 S7 a0 c3 b7 a9 i1 S6 e5 fH fL f5 S4 S3 b0 a2 f8;cbv;show(x,_,dx,_,rfl,a6 _ _ hx,rfl,rfl,?_);cbv;show(x,ls,G,rfl,ht.same a6,by ac_nf,λpp px HF SF m7 eF hP=>?_);have lP:=hP.length;cbv;have g9:=a6.trans SF;have c8:=a7.trans SF;have j8:=r0_es (ls:=ls) r0;have j1:=r0_es (ls:=ls) l7;have Z:=l.shc;have C:=u.shc;have a8:∀ p∈ls,FB 100 6 p.mo:=λp U=>(hb p U).2.1;show(y,ls,esN ls (G.set d L),spOf sp,rfl,by rw[Jc3];show M.same c8,C,j1,λya yx o HG SG eG hB S=>?_);have h5:=hR.len;have j3:=S.len;let(i2,D,D1,sD,hD):=JmF Z a8 C u.sub hR so.wd;have b4:=g9.trans SG;cbv;show(y,sa,ls,esN ls (G.set d L),sx,_,spOf sp,D,rfl,by rw[Jc3];show M.same (c8.trans SG),SqL.of (b4 _ _ b5),hA.mono (λ_ _ z=>z.sameT b4.t),by rw[length_map];show h5,by ac_nf,λs hs=>⟨(hD s hs).1.mono ⋯ ⋯,(hD s hs).2⟩,D1,sD.mono ⋯,a8,C,i2,λHH SH=>?_);cbv;have c0:=b4.trans SH;have b8:=SG.trans SH;have h1:∀ s∈o.map (·.sl),FB 910 800 s:=λs hs=>by
    let(r,B,rfl):=mem_map.mp hs;show((S.k C a8).fb r B).mono ⋯ ⋯
   show(pp,sa,ya,px,sx,yx,ls,_,_,rfl,SqL.of (b8 _ _ eF),hP.mono (λ_ _ z=>z.sameT b8.t),SqL.of (c0 _ _ b5),hA.mono (λ_ _ z=>z.sameT c0.t),by rw[length_map];show h5,λs hs=>(hD s hs).1.mono ⋯ ⋯,SqL.of (SH _ _ eG),hB.mono (λ_ _ z=>z.sameT SH.t),by rw[length_map];show j3,h1,λp U=>⟨(l.pok p U).w,(hb p U).2.2⟩,by ac_nf,λHI SI=>?_);rw[Jkc Z a8 C hR S so.wd];cbv;have a4:=c0.trans SI;have a5:=b8.trans SI;have b2:=SH.trans SI;have c7:=a5 _ _ eF;have g0:=hP.mono (P':=PDV K HI) λ_ _ z=>z.sameT a5.t;have h4:=hA.mono (P':=FLV K HI) λ_ _ z=>z.sameT a4.t;have i4:=hB.mono (P':=FLV K HI) λ_ _ z=>z.sameT b2.t;clear hD D1 sD i2 h1;show(_, .inl (SqL.of c7),?_);cbv;show(_,rfl,by ac_nf,by ac_nf,Jbt.range (n:=px.length) (λi ys H'=>H'=HI/\ys=((I.take i).filter λr=>!decide (r.sl=slOf o r.nm)).map λr=>V.str r.nm) ⟨rfl,by rw[take_zero];rfl⟩ (λi ys H' hi z=>by
    rw[z.2,length_map];have h2:=length_filter_le (λr:ShD=>!decide (r.sl=slOf o r.nm)) (I.take i);rw[length_take]at h2;ac_nf) ?_ ?_)
   .rintro i ys HJ hi ⟨rfl,rfl⟩;have B:=List.getElem?_eq_getElem (by ac_nf:i<I.length);have h3:=List.getElem?_eq_getElem (by ac_nf:i<o.length);have U:=List.getElem?_eq_getElem (by ac_nf:i<ls.length);let(v1,l0,f1):=h4.get (a:=I[i].sl) (i:=i) (by rw[List.getElem?_map,B];rfl);let(v2,k5,f2):=i4.get (a:=o[i].sl) (i:=i) (by rw[List.getElem?_map,h3];rfl);let(v3,j9,a_,vz,vm,rfl,j0,_):=g0.get U;have k6:=JmC l.nd hR S B h3;have k7:I[i].nm=ls[i].nm:=by
     have:=congrArg (·[i]?) hR.nms;simp only[List.getElem?_map,B,U]at this;show Option.some.inj this
    rw[<- k7]at j0;simpa only[length_singleton,length_cons,length_nil,List.replicate,Jaz,map_cons,map_nil,Option.join_some];rw[Int.zero_add];show ixL (i:=i) (SqL.of (a4 _ _ b5)) l0 ?_;show ixL (i:=i) (SqL.of (b2 _ _ eG)) k5 ?_;show neF f1 f2 ?_;have ee:(decide (I[i].sl.1=o[i].sl.1)&&decide (I[i].sl.2=o[i].sl.2))=decide (I[i].sl=slOf o I[i].nm):=by
     rw[k6, <- Bool.decide_and];show decide_eq_decide.mpr Prod.ext_iff.symm
    rw[ee,take_succ,B];generalize I[i]=r at *;cases cp:decide (r.sl=slOf o r.nm)with
    | true=>
     cbv;simp[filter_append,cp]
    | false=>
     cbv;show ixL (i:=i) (SqL.of c7) j9 ?_;show ixT (i:=0) j0 rfl ?_;cbv;simp[filter_append,cp]
   rintro ys HJ ⟨rfl,rfl⟩;rw[take_of_length_le ∅];rename_i ul o7 o0 HJ HK SK eK;cbv;have eU:HK ul=some (.lst ((unl I o).map V.str)):=by
    rw[eK];unfold unl;rw[map_map];rfl
   clear eK h4 i4 g0 c7;have c9:=a4.trans SK;have f4:=SF.trans (a5.trans SK);have h0:=a7.trans f4;have b3:=b9.trans f4;have h9:=b2.trans SK;clear a4 a5 b2 SK SI c0 b8 SH b4 SG g9 c8 SF a6 a7 b9 f4;have lu:(unl I o).length<=5:=by
    unfold unl;rw[length_map];show Nat.le_trans (length_filter_le _ _) ∅
   cbv;show ixL (i:=d) (SqL.of (b3 _ _ e1)) N ?_;show ixT (i:=0) (O.same b3) rfl ?_;show(x,g.nm,ls,G,spOf sp,rfl,ht.same c9,l,mem_map.mpr ⟨g,mg,rfl⟩,λpc ps HL SL eL g7 h6=>?_);have c1:∀ n∈unl I o,n∈ps:=Jkb Z C hR S (λe he hx=>by
    let(g',m1,rfl):=mem_map.mp he;show g7 g' m1 hx) (so.ft ps (h6 g mg rfl))
   cbv;have c5:=SL _ _ eU;show(ul,rfl, .inl ⟨⟨_,SqL.of c5⟩,Jbt.list (xs:=(unl I o).map V.str) (λi ys H'=>H'=HL/\ys=[]) ⟨rfl,rfl⟩ (λi ys H' hi z=>⟨by rw[z.1];show SqL.of c5,by rw[z.2];show len0⟩) ?_ ?_⟩)
   .rintro i y ys HM hy ⟨rfl,rfl⟩;have li:=(List.getElem?_eq_some_iff.mp hy).1;rw[length_map]at li;rw[List.getElem?_map,List.getElem?_eq_getElem li]at hy;have hy:y=.str (unl I o)[i]:=(Option.some.inj hy).symm;subst hy;have hm:=c1 _ (List.getElem_mem li);simpa only[length_singleton,length_cons,length_nil,List.replicate,Jaz,map_cons,map_nil,Option.join_some];show(pc,_,rfl, .inl (SqL.of eL),rfl,Jeg _,?_);rw[Jd3];generalize(unl I o)[i]=n at *;simp[hm]
   rintro ys HM ⟨rfl,rfl⟩;rename_i nl n5 n7 HM HN SN eN;cbv;show(_, .inl (SqL.of eN),?_);try simpa only[length_nil]
   have X:=SL.trans SN;have d4:=c9.trans X;have d8:=h0.trans X;have g6:=b3.trans X;have g3:=h9.trans X;have j2:=X _ _ eU;clear X SL SN c9 h0 b3 h9 c5 eL eU g7 h6 c1;rw[if_neg ⋯];cbv;mpure
   rename_i R5 p4;have c2:∀ HO,Same HN HO->R5 [some (.ref x),some (.ref sa),some (.int c),some (.bl b),some (.ref gl),some (.int (d:Int)),some (.ref p1),some vL,some vH,some (.ref y),some (.ref pp),some (.ref ya),some (.ref ul),some (.ref pc),none] HO:=by
    intro HO SO;have d7:=d4.trans SO;have i5:=d8.trans SO;have J:=g6.trans SO;have f9:=g3.trans SO;clear d4 d8 g6 g3 SO j2;have i7:L.nm=g.nm:=by rw[W]
    have k4:(⟨L.nm,L.st,L.en,g.lo,g.hi⟩:GD)=g:=by rw[W]
    have g8:L∈G.set d L:=List.mem_of_getElem? (i:=d) (by rw[List.getElem?_set,if_pos rfl,if_pos la]);cbv;show ixL (i:=d) (SqL.of (J _ _ e1)) N ?_;show ixT (i:=0) (O.same J) rfl ?_;show ixL (i:=d) (SqL.of (J _ _ e1)) N ?_;show ixT (i:=3) (O.same J) rfl ?_;show ixL (i:=d) (SqL.of (J _ _ e1)) N ?_;show ixT (i:=4) (O.same J) rfl ?_;show(y,g.nm,d5,b6,g.lo,g.hi,ls,G.set d L,rfl,M.same i5,FrV.same J f6,FrV.same J d6,by ac_nf,by ac_nf,u.pok,u.tok,u.nd,u.gnd,u.tr,u.con,⟨L,g8,i7⟩,λg2 f7 e'=>?_);have e0:L=g2:=Jc4 u.gnd g8 f7 (i7.trans e'.symm);subst e0;rw[k4];show(l.tok g mg,λz HP SP h8=>?_);rw[so.bk]at h8;have h7:=d7.trans SP;have k8:=J.trans SP;cbv;show(x,_,dx,_,rfl,h7 _ _ hx,rfl,rfl,?_);cbv;show(x,ls,G,rfl,ht.same h7,by ac_nf,λq4 o8 HQ SQ m5 eQ hQ=>?_);have f0:=k8.trans SQ;cbv;show neGs (SqL.of eQ) hQ (SqL.of (f0 _ _ e1)) (hX.mono λ_ _ z=>TV.sameT f0.t z) ?_;have a1:=h8.same SQ;let(dz,z1,z2,z3,x1,x2,x3,hz,p8):=id a1;cbv;show(z,_,dz,_,rfl,hz,rfl,rfl,?_);cbv;show(z,ls,G,rfl,a1,by ac_nf,λp9 q6 HR SR m6 eR l8=>?_);have g5:=f0.trans SR;have i6:=SP.trans (SQ.trans SR);cbv;show neGs (SqL.of eR) l8 (SqL.of (g5 _ _ e1)) (hX.mono λ_ _ z=>TV.sameT g5.t z) ?_;cbv;mpure
    rename_i R6 o9;have i8:∀ HS,Same HR HS->R6 [some (.ref x),some (.ref sa),some (.int c),some (.bl b),some (.ref gl),some (.int (d:Int)),some (.ref p1),some vL,some vH,some (.ref y),some (.ref pp),some (.ref ya),some (.ref ul),some (.ref pc),some (.ref z)] HS:=by
     intro HS SS;cbv;show(len2,?_);rename_i q q5 p6 HS HT ST eT;cbv;have a3:=i6.trans (SS.trans ST);show kk q y ya yx (G.set d L) o HT (d7.trans a3) eT (M.same (i5.trans a3)) ((f9.trans a3) _ _ eG) (hB.mono λ_ _ z=>z.sameT (f9.trans a3).t) so.gso ∅ S
    split
    .show(z,ls,esN ls G,spOf sp,rfl,by rw[Jc3];show a1.same SR,Z,j8,λl3 y3 r3 HS SS eS i0 l6=>?_);have q3:r3=I:=l6.uniq l.nd (λp U=>(l.pok p U).w) hR;rw[q3]at i0;have j5:=d7.trans (i6.trans SS);cbv;show neFs (SqL.of eS) i0 (SqL.of (j5 _ _ b5)) (hA.mono λ_ _ z=>z.sameT j5.t) ?_;rw[decide_eq_true rfl]
     (try mstop)
     show i8 HS SS
    .show i8 HR (Same.refl _)
   split
   .show(x,y,ls,esN ls G,spOf sp,esN ls (G.set d L),rfl,by rw[Jc3];show ht.same d4,Z,by rw[Jc3];show M.same d8,C,j8,j1,λl2 r1 r2 HO SO k9 k0 eO=>?_);have q1:r1=I:=k9.uniq l.nd (λp U=>(l.pok p U).w) hR;have q2:r2=o:=k0.uniq l.nd (λp U=>(l.pok p U).w) S;rw[q1,q2]at eO;cbv;show neSs (SqL.of eO) (SqL.of (SO _ _ j2)) ?_
    (try mstop)
    show c2 HO SO
   .show c2 HN (Same.refl _)
  split
  .let(u_,v_,c6):=hO.ok g mg;let(fl,fh):=c6.fbs hG l5 ∅;show(b6, .ref p1,g.hi,m,rfl,FrV.same b0 d6,FrV.of (S3 _ _ e2),fh.w.mono ⋯ ⋯,fm.w.mono ⋯ ⋯,λp2 H4 S4 e4=>?_);show c4 true (.ref p2) H4 S4 (FrV.of e4)
  .show c4 false b6 H3 (Same.refl _) (FrV.same b0 d6)
 split
 .let(u_,v_,c6):=hO.ok g mg;let(fl,fh):=c6.fbs hG l5 ∅;show ixF0 (FrV.of e2) ?_;cbv;show ixF1 (FrV.of e2) ?_;cbv;show(len2,?_);rename_i pn p3 p0 H2 H3 S3 e3;show(d5, .ref pn,g.lo,negF m,rfl,FrV.same (S2.trans S3) f6,FrV.of e3,fl.w.mono ⋯ ⋯,fm.neg.w.mono ⋯ ⋯,λp2 H4 S4 e4=>?_);show key true (.ref p2) H4 (S3.trans S4) (FrV.of e4)
 .show key false d5 H2 (Same.refl _) (FrV.same S2 f6)
abbrev Bc5:Stmt:=top 70
theorem JbX:Jan ["_law_script","_law_first","_law_far","_law_roots","_law_parts","_law_k","_law_thing","_law_gaps","_law_blank","_law_slacks_here","_law_cell","_law_found"] ["_law_script"] (Jae Bc5):=by bv_decide
def Bdr(K:W.Frag):Sp:=λvs H Q E=>∃(a:Addr)(ns:List Int),vs=[.ref a]/\SqL K H a (ns.map V.int)/\ns.length<=63/\∀ H',Q (.bl true) H'
theorem Jmd(F:"law"∘Bc5)(T:Txt K mg Ad)(Bas:1∘"_law_cell_at"∘["_law_script","_law_k"]∘(Jcn K))(Bci:3∘"_law_part"∘["_law_cell","_law_more","_law_k","_law_far","_law_roots"]∘(Jda K))(BbT:KCal P w K mg base 9 "Thing" Ad.Thing ["self","parts","gaps"] (Ja4 K Ad))(BcA:3∘"_law_gap"∘["_law_cell","_law_more","_law_k","_law_roots","_law_far"]∘(JdK K))(Bb8:5∘"_law_about"∘["_law_thing","_law_gap_here"]∘(JcS K Ad))(BaB:10∘"_law_slacks"∘["_law_thing"]∘(Jb1 K Ad))(Bcj:12∘"_law_step"∘["_law_thing","_law_before","_law_cell","_law_far"]∘(Jdb K Ad)):13∘["_law_script"]∘(Bdr K):=by
 show F.okn JbX (by subst_eqs) (λk1 A g7 s H vs Q E I h=>?_)
 let(a,ns,rfl,h):=h;have hu:=I.units;show(_,(Jab (Jaj 1 JbX.nd (Bas.ev I ⋯ rfl passF %[pv 0,Jad|0])) (Jab (Jaj 2 JbX.nd (JbD (JbO hu) (pe_op JaI (pv 1) Jad) Jad (Jav _))) (Jab (Jaj 3 JbX.nd (Jbj %[Jad|0])) (Jab (Jaj 4 JbX.nd (Jbj Jac)) (Jab (JaN PassesOwn.never rfl (JbP rfl T.BbQ %[pe_op Ja0 Jad (pe_op JaI (pe_op Jau (pv 1) Jad) Jad)|0]) (Jap 5 JbX.nd) (Jag (Ja6 (pe_bm PySem.F.plainAttrs_list PySem.F.slot_list_append PySem.F.type_list_append JaZ (pv 4) %[Bci.ev I ⋯ rfl passF %[Bas.ev I ⋯ rfl passF %[pv 0,pe_op Ja0 Jad (pv 5)|0],Bas.ev I ⋯ rfl passF %[pv 0,pe_op Ja0 Jad (pv 5)|0],pv 5,pv 2,pv 3|0]|0] (hs:=by show Jaf rfl))))) (Jab (Jaj 6 JbX.nd (BbT.ev I ⋯ rfl passF %[pv 4,Jbj Jac|0])) (Jab (Jaj 7 JbX.nd (Jbj Jac)) (Jab (JaN PassesOwn.never rfl (JbP rfl T.BbQ %[pe_op Ja0 Jad (pe_op JaI (pe_op Jau (pv 1) Jad) Jad)|0]) (Jap 5 JbX.nd) (Jag (Ja6 (pe_bm PySem.F.plainAttrs_list PySem.F.slot_list_append PySem.F.type_list_append JaZ (pv 7) %[BcA.ev I ⋯ rfl passF %[Bas.ev I ⋯ rfl passF %[pv 0,pe_op Ja0 Jad (pv 5)|0],Bas.ev I ⋯ rfl passF %[pv 0,pe_op Ja0 Jad (pv 5)|0],pv 5,pv 3,pv 2|0]|0] (hs:=by show Jaf rfl))))) (Jab (Jaj 8 JbX.nd (BbT.ev I ⋯ rfl passF %[pv 4,JcM (JaY (own:=["_law_gap_here"]) (cs:=[]) rfl (pi_U (pv 7)) (λ_ _ _ _=>(Jap 0 (show[("_law_gap_here" : Str)].Nodup by decide))) (λ_ _ _ _=>JbE) (λ_ _ _ _=>(JaE %[pe_ix (ix_UK (K:=K) rfl) (pv 0) Jad,pe_ix (ix_UK (K:=K) rfl) (pv 0) Jad,pe_ix (ix_UK (K:=K) rfl) (pv 0) Jad,JaE %[Jad,Jad|0],JaE %[Jad,Jad|0]|0])) (Jbk rfl) ⋯ rfl ⋯ hcs0)|0]) rfl (Or.inr rfl)) (Jab (Jaj 6 JbX.nd (BbT.ev I ⋯ rfl passF %[pv 4,JcM (JaY (own:=["_law_gap_here"]) (cs:=[(8,"_law_blank")]) rfl (pi_U (pv 7)) (λ_ _ _ _=>(Jap 0 (show[("_law_gap_here" : Str),("_law_blank" : Str)].Nodup by decide))) (λ_ _ _ _=>JbE) (λ_ _ _ _=>(Bb8.ev I ⋯ rfl passF %[pv 1,pv 0|0])) (Jbk rfl) ⋯ rfl ⋯ (hcs1 rfl rfl rfl))|0])) (Jab (Jaj 9 JbX.nd (BaB.ev I ⋯ rfl passF %[pv 6|0])) (Jab (JaN PassesOwn.never rfl (pi_U (pe_op Ja0 (Jbj %[pe_op Jau (pv 1) Jad|0]) (Jd7 sl_V (pv 0) (JeG Jad) (JeG Jad)))) (Jap 10 JbX.nd) (Jab (Jaj 11 JbX.nd (Bcj.ev I ⋯ rfl passF %[pv 6,pv 9,pv 10,pv 2|0])) (Jab (ps_if (Jar JeD (pv 11) Jcp (Jav _)) (Jag (Jaq pe_bl))
   Jat) (Jag (Jky (pv 11) (Jgq rfl (JaX (Jap 6 JbX.nd) (JaX (Jap 9 JbX.nd) JcN)))))))) (Jag (Jaq pe_bl)))))))))))))),?_)
 clear hu;let(hS,hl,k):=h;have sl:(1000:Nat)<=sizeLine:=by decide
 show tSeq _ _ _ [some (.ref a),none,none,none,none,none,none,none,none,none,none,none] H;cbv;show(a,ns,0,rfl,hS,hl,by decide,λc0=>?_);cbv;mpure
 cbv;obtain⟨C,a9⟩:∃ C:Bool,C=decide (c0.fmod 2=1):=⟨_,rfl⟩;rw[<- a9];clear a9;show(by show 1<=sizeLine;ac_nf,?_);rename_i rl b0 i6 H H1 S1 e1;cbv;show(len0,?_);rename_i pl M i0 H1 H2 S2 e2;cbv;mpure
 have qn:=Mth.fm (x:=c0.fdiv 2) (y:=5) ⋯;let(n,hn):=Int.eq_ofNat_of_zero_le qn.1;rw[hn]at qn ⊢;rw[show(1:Int)+(n:Int)=((1+n:Nat):Int) by ac_nf];have a2:pl≠rl:=λz=>by rw[z,e1]at M;cases M
 have a4:=Jeh S1 M;show(_,rfl,by ac_nf,by ac_nf,?_);show ForR.byN (λi σ d=>∃(v5:Option V)(px:List V)(l:List PD)(B:List SpD)(rt:List Nat),σ=[some (.ref a),some (.int c0),some (.bl C),some (.ref rl),some (.ref pl),v5,none,none,none,none,none,none]/\Same H d/\d rl=some (.lst (rt.map λ(i:Nat)=>V.int (i:Int)))/\d pl=some (.lst px)/\All2 (PDV K d) l px/\Grn 0 l B/\RtO B rt/\l.length=i/\1<=rt.length/\rt.length<=1+2*i/\(1<=i->∃(i j r:Nat),i<j/\rt[i]?=some r/\rt[j]?=some r)/\∀ p∈l,FB 100 6 p.sz/\FB 100 6 p.mo/\Mth.Sz 21 p.wt) ⟨none,[],[],_,[0],rfl,S1.trans S2,S2 _ _ e1,e2,rfl,Grn.nil.face,⟨rfl,λi s r hi I=>by
  match i with
  | 0=>cases hi;cases I;rfl
  | i+1=>simp at hi⟩,rfl,by simp,by simp,(λz=>absurd z ⋯),λp hp=>by cases hp⟩ ?_ ?_
 .intro i σ H3 hi z_ N0 U;let(v5,px,l,B,rt,rfl,S3,er,ep,hP,R,hR,li,r1,r2,N,hb):=z_;rw[Int.toNat_natCast]at hi;have lP:=hP.length;rw[Int.zero_add];cbv;show(.inl ⟨rfl,_,SqL.of ep⟩,?_);show(a,ns,_,rfl,hS.same S3,hl,by ac_nf,λc1=>?_);cbv;show(a,ns,_,rfl,hS.same S3,hl,by ac_nf,λc2=>?_);cbv;show(c1,c2,i,C,rl,rt,l,B,rfl,er,R,hR,li,by ac_nf,r1,r2,λv p f8 g2 G o4 e4 hp e8 c8 l3 h3 f2 h1=>?_);have T4:SameT H3 G:=SameT.of_nl o4 er;cbv;show(pl,_,_,rfl,rfl,o4 _ _ a2 ep,by ac_nf,?_);generalize b9:upd G pl _=H5;have T5:SameT G H5:=SameT.put b9 (o4 _ _ a2 ep) rfl;have o5:∀ b u,b≠pl->G b=some u->H5 b=some u:=λb u hb h=>by rw[<- b9,Jah hb];show h
  show U _ _ ⟨_,_,l++[p],f8,g2,rfl,λb u h=>o5 b u (Jai h a4) (o4 b u (Jai h b0) (S3 _ _ h)),o5 _ _ a2.symm e4,putE b9,(hP.mono (P':=PDV K H5) λ_ _ z=>z.sameT (T4.trans T5)).append (.one (hp.sameT T5)),e8,c8,by simp[li],h3,by ac_nf,λ_=>f2,λq hq=>?_⟩;rcases mem_append.mp hq with h | h
  .show hb q h
  .rw[mem_singleton.mp h];show h1
 .intro σ H3 z_;let(v5,px,l,B,rt,rfl,S3,er,ep,hP,R,hR,li,r1,r2,N,hb):=z_;rw[Int.toNat_natCast]at li r2 N;have N:=N ∅;have lP:=hP.length;have lr:=hR.len;have l5:l.length<=5:=by ac_nf
  have b1:B.length<=11:=by ac_nf
  have c6:=hS.same S3;clear S1 S2 e1 e2 M b0 a4 a2 r1 hn qn S3;have b6:(l.map (·.nm)).Nodup:=Jeu R.nm;have L:∀(G:Hp)(g0:Addr)(X:List V)(D:List GD)(x Y:Addr)(Q':VK),Same H3 G->SqL K G g0 X->All2 (λ(g:GD) v=>TV K G g.td v) D X->D.length<=4->(∀ g∈D,TOk g.td)->(D.map (·.nm)).Nodup->(∀ g∈D,Conn l g.st g.en)->G x=none->G Y=none->(∀ d,Same G d->TK K Ad d x l D->Q' .non d)->Ja4 K Ad [.ref x, .ref pl, .ref g0] (upd (upd G Y (.own x)) x (.ins Ad.Thing Y [])) Q' E0:=λG g0 X D x Y Q' S4 e hX l4 h4 f4 h2 hx e5 k=>⟨x,Y,pl,g0,px,X,l,D,G,rfl,Jam,hx,(λb u q=>by rw[Jah (Jai q hx),Jah (Jai q e5)];show q),SqL.of (S4 _ _ ep),hP.mono (λ_ _ z=>z.sameT S4.t),e,hX,by ac_nf,by ac_nf,R.ok,h4,b6,f4,Jjp R.tr b6,h2,k⟩;cbv;show(len0,?_);rename_i e0 h7 j5 H3 G S4 e4;cbv;intro x1 g4 d0 a7 d3;show L G e0 [] [] x1 g4 _ S4 (SqL.of e4) rfl ⋯ (λg e=>by cases e) List.nodup_nil (λg e=>by cases e) d0 a7 λH5 S5 f5=>⟨rfl,?_⟩;have b5:=S4.trans S5;clear f5 d3 a7 d0 e4 S5 S4;cbv;show(len0,?_);rename_i gl a5 i7 H5 H6 S6 e6;cbv;mpure
  have qm:=Mth.fm (x:=c0.fdiv 16) (y:=4) ⋯;let(m,hm):=Int.eq_ofNat_of_zero_le qm.1;rw[hm]at qm ⊢;rw[show(1:Int)+(m:Int)=((1+m:Nat):Int) by ac_nf];show(_,rfl,by ac_nf,by ac_nf,?_);show ForR.byN (λi σ d=>∃(v5:Option V)(X:List V)(o:List GD),σ=[some (.ref a),some (.int c0),some (.bl C),some (.ref rl),some (.ref pl),v5,some (.ref x1),some (.ref gl),none,none,none,none]/\Same H5 d/\d gl=some (.lst X)/\All2 (λ(g:GD) v=>TV K d g.td v) o X/\o.length=i/\∀(k:Nat) g,o[k]?=some g->RwG B k g) ⟨_,[],[],rfl,S6,e6,rfl,rfl,λk g e=>by simp at e⟩ ?_ ?_
  .intro i σ H7 hi z_ N0 U;let(v5,X,o,rfl,S7,eg,hX,lq,hq):=z_;rw[Int.toNat_natCast]at hi;have lX:=hX.length;have O:=b5.trans S7;rw[Int.zero_add];cbv;show(.inl ⟨rfl,_,SqL.of eg⟩,?_);show(a,ns,_,rfl,c6.same O,hl,by ac_nf,λc1=>?_);cbv;show(a,ns,_,rfl,c6.same O,hl,by ac_nf,λc2=>?_);cbv;show(c1,c2,i,rl,C,rt,l,B,rfl,O _ _ er,R,hR,by ac_nf,by ac_nf,N,λv s t u w H8 S8 tv hs ht ne h6 fu fw u0 w0=>?_);cbv;have d2:=S8 _ _ eg;show(gl,_,_,rfl,rfl,d2,by ac_nf,?_);generalize c4:upd H8 gl _=H9;have T9:SameT H8 H9:=SameT.put c4 d2 rfl;show U _ _ ⟨_,_,o++[⟨nmK 114 0 i,s.f,t.f,negF u,w⟩],rfl,λb u h=>by rw[<- c4,Jah (Jai h a5)];show S8 _ _ (S7 _ _ h),putE c4,(hX.mono (P':=λ(g:GD) v=>TV K H9 g.td v) λ_ _ z=>TV.sameT (S8.t.trans T9) z).append (.one (TV.sameT T9 tv)),by simp[lq],λk g e=>?_⟩;rcases Jbg e with h | ⟨rfl,rfl⟩
   .show hq k g h
   .show(by rw[lq],⟨s,hs,t,ht,rfl,rfl,ne,h6⟩,⟨u,rfl,fu,u0⟩,fw,w0)
  .intro σ H7 z_;let(v5,X,o,rfl,S7,eg,hX,lq,hq):=z_;rw[Int.toNat_natCast]at lq;have lX:=hX.length;have O:=b5.trans S7;have a1:∀ g∈o, ∃ k,k<=5/\RwG B k g:=λg e=>by
    let(k,hk):=List.getElem?_of_mem e;show(k,by have:=(List.getElem?_eq_some_iff.mp hk).1;ac_nf,hq k g hk)
   have b7:(o.map (·.nm)).Nodup:=Jeu (s:=114) (st:=0) λi g e=>(hq i g e).nm;have d1:(o.map Jf4).map (·.nm)=o.map (·.nm):=by rw[map_map];rfl
   have g8:(o.map (abG (spOf B))).map (·.nm)=o.map (·.nm):=by rw[map_map];rfl
   have hO:GsO B 0 (o.map (abG (spOf B))):=⟨by rw[g8];show b7,by rw[length_map];ac_nf,λg e=>by
    let(g',Z,rfl):=mem_map.mp e;let(k,k5,h):=a1 g' Z;show h.gpo k5⟩
   let(S,r0):=hO.tho R l5 b1 ⋯ hb;have l4:o.length<=4:=by ac_nf
   have q1:1<=o.length:=by ac_nf
   clear S6 e6 a5 hm qm S7 b5 lq N;cbv;show(gl,rfl, .inl ⟨⟨_,SqL.of eg⟩,CompJ.list (xs:=X) (λi ys d=>Same H7 d/\All2 (λ(g:GD) v=>TV K d g.td v) ((o.take i).map Jf4) ys) ⟨.refl _,rfl⟩ (λi ys d hi z=>by
    have:=z.2.length;rw[length_map,length_take]at this;show(SqL.of (z.1 _ _ eg),by ac_nf)) ?_ ?_⟩)
   .rintro i y ys H8 hy ⟨S8,J⟩;let(g,e,b_,j9,j8,rfl,f7,_,_):=hX.at_ hy;have W:=f7.same S8;simpa only[length_singleton,length_cons,length_nil,List.replicate,Jaz,map_cons,map_nil,Option.join_some];show ixT (i:=0) W rfl ?_;show ixT (i:=1) W rfl ?_;show ixT (i:=2) W rfl ?_;cbv;show(by ac_nf,?_);rename_i z1 j2 i5 H8 H9 S9 e9;cbv;show(by first | ac_nf | show len2,?_);rename_i z2 j0 h8 H9 HA SA eA;cbv;show(by first | ac_nf | show len5,?_);rename_i z3 j7 i9 HA HB SB eB;cbv;have c9:=S9.trans (SA.trans SB);show(S8.trans c9,?_);rw[take_succ,e,map_append];show(J.mono (P':=λ(g:GD) v=>TV K HB g.td v) λ_ _ z=>TV.sameT c9.t z).append (.one ⟨z3, .ref z1, .ref z2,rfl,SqT.of eB,FrV.of ((SA.trans SB) _ _ e9),FrV.of (SB _ _ eA)⟩)
   .rintro bx H8 ⟨S8,J⟩;rw[take_of_length_le ∅]at J;rename_i bl i3 j1 H8 H9 S9 e9;cbv;have c3:=S8.trans S9;have b3:=O.trans c3;intro x2 g9 d8 a6 d4;show L H9 bl bx _ x2 g9 _ b3 (SqL.of e9) (J.mono λ_ _ z=>TV.sameT S9.t z) (by rw[length_map];ac_nf) (λg e=>?_) (by rw[d1];show b7) (λg e=>?_) d8 a6 λHA SA d6=>⟨rfl,?_⟩
    .let(g',Z,rfl):=mem_map.mp e;let(k,k5,h):=a1 g' Z;show h.tok R b1 k5
    .let(g',Z,rfl):=mem_map.mp e;let(k,k5,h):=a1 g' Z;show(show Conn l g'.st g'.en from RwG.con R h)
    have a3:=c3.trans SA;have d9:=b3.trans SA;clear J e9 d8 a6 d4 S8 S9 b3 c3;cbv;show(gl,rfl, .inl ⟨⟨_,SqL.of (a3 _ _ eg)⟩,CompJ.list (xs:=X) (λi ys d=>Same HA d/\All2 (λ(g:GD) v=>TV K d g.td v) ((o.take i).map (abG (spOf B))) ys) ⟨.refl _,rfl⟩ (λi ys d hi z=>by
     have:=z.2.length;rw[length_map,length_take]at this;show(SqL.of (z.1 _ _ (a3 _ _ eg)),by ac_nf)) ?_ ?_⟩)
    .rintro i y ys HB hy ⟨SB,J⟩;let(g,e,tv):=hX.at_ hy;have mg:=List.mem_of_getElem? e;let(k',k5,hw):=a1 g mg;let(u,eu,fu,u0):=hw.lo;have e7:=a3.trans SB;simpa only[length_singleton,length_cons,length_nil,List.replicate,Jaz,map_cons,map_nil,Option.join_some];show(x2,y,l,o.map Jf4,g,Jf4 g,spOf B,rfl,d6.same SB,TV.sameT e7.t tv,mem_map.mpr ⟨g,mg,rfl⟩,rfl,rfl,rfl,by rw[d1];show b7,b6,R.ok,λf=>R.plb ∅ f,R.pls,by rw[eu];show fu.neg.w.mono ⋯ ⋯,hw.fh.w.mono ⋯ ⋯,λv HC SC f3=>?_);cbv;show(SB.trans SC,?_);rw[take_succ,e,map_append];show(J.mono (P':=λ(g:GD) v=>TV K HC g.td v) λ_ _ z=>TV.sameT SC.t z).append (.one f3)
    .rintro ax HB ⟨SB,J⟩;rw[take_of_length_le ∅]at J;rename_i al i4 i1 HB HC SC eC;cbv;have b8:=d9.trans (SB.trans SC);intro x3 h5 d5 a8 d7;show L HC al ax _ x3 h5 _ b8 (SqL.of eC) (J.mono λ_ _ z=>TV.sameT SC.t z) (by rw[length_map];ac_nf) S.tok S.gnd S.con d5 a8 λHD SD b4=>⟨rfl,?_⟩;have g5:=b8.trans SD;clear J eC d5 a8 d7 a3 d9 SB SC b8 SD SA d6 hX eg O;cbv;show(x3,l,esN l (o.map (abG (spOf B))),spOf B,rfl,by rw[Jc3];show b4,S.shc,r0_es r0,λsa sx rs HE SE eE J a0=>?_);have g6:=g5.trans SE;cbv;mpure
     show(by show 1<=sizeLine;ac_nf,?_);rename_i l1 i2 j3 HE HF SF eF;cbv;let(zs,ez,lz):=JjE ns;show .inl (.inl ⟨a,_,rfl,c6.same (g6.trans SF),?_⟩);rw[ez];rename_i l2 i8 h9 HF HG SG eG;cbv;show .inl ⟨l1,l2,_,_,rfl,rfl,SG _ _ eF,eG,by rw[length_map];simp;ac_nf,?_⟩;rename_i l3 j6 j4 HG HH SH eH;cbv;have c7:=SF.trans (SG.trans SH);generalize c0.fdiv 96=cf at *;have eH:HH l3=some (.lst ((cf::zs).map V.int)):=eH;have k0:(cf::zs).length<=7:=by rw[length_cons];ac_nf
     generalize cf::zs=cs at *;show(l3,rfl,ForA.byLN (xs:=cs.map V.int) (SqL.of eH) (λi σ d=>i<=cs.length/\∃(c5 b2:Option V)(x sa:Addr)(sx:List V)(D:List GD)(rs:List ShD),σ=[some (.ref a),some (.int c0),some (.bl C),some (.ref rl),some (.ref pl),v5,some (.ref x),some (.ref gl),some (.ref x2),some (.ref sa),c5,b2]/\Same HH d/\TK K Ad d x l D/\d sa=some (.lst sx)/\All2 (FLV K d) (rs.map (·.sl)) sx/\GsO B i D/\1<=D.length/\ShR l (esN l D) (spOf B) rs) ⟨Nat.zero_le _,none,none,x3,sa,sx,_,rs,rfl, .refl _,b4.same (SE.trans c7),c7 _ _ eE,J.mono (λ_ _ z=>z.sameT c7.t),hO,by rw[length_map];show q1,a0⟩ (λi σ d q=>by let(_,_,_,_,_,_,_,_,_,q,_):=q;show SqL.of (q _ _ eH)) ?_ ?_)
     .clear a0 J eE b4 hO r0 S;intro i y σ HI hy z_ N0 U;let(hi,c5,b2,x,sa,sx,D,rs,rfl,SI,tk,f9,J,hO,g1,a0):=z_;have li:=(List.getElem?_eq_some_iff.mp hy).1;rw[length_map]at li;rw[List.getElem?_map,List.getElem?_eq_getElem li]at hy;have hy:y=.int cs[i]:=(Option.some.inj hy).symm;subst hy;generalize cs[i]=c;cbv;show(x,sa,c,C,sx,l,B,i,D,rs,rfl,tk,f9,J,R,l5,b1,hb,hO,g1,by ac_nf,a0,λq y ya yx g3 f1 HJ SJ eq f0 f6 hB e3 h0 c8=>?_);cbv;show(q,_,rfl,SqT.of eq,rfl,?_);cbv;show U _ _ ⟨li,_,_,y,ya,yx,g3,f1,rfl,SI.trans SJ,f0,f6,hB,e3,h0,c8⟩
     .intro σ HI z_;let(hi,c5,b2,x,sa,sx,D,rs,rfl,SI,_):=z_;cbv;show k _
end
theorem lenE1{α}{P:List α->Prop}(h:∀ a,P [a]):∀ us:List α,us.length=1->P us|[a],_=>h a
theorem lenE2{α}{P:List α->Prop}(h:∀ a b,P [a,b]):∀ us:List α,us.length=2->P us|[a,b],_=>h a b
theorem lenE3{α}{P:List α->Prop}(h:∀ a b c,P [a,b,c]):∀ us:List α,us.length=3->P us|[a,b,c],_=>h a b c
theorem lenE4{α}{P:List α->Prop}(h:∀ a b c d,P [a,b,c,d]):∀ us:List α,us.length=4->P us|[a,b,c,d],_=>h a b c d
theorem lenE5{α}{P:List α->Prop}(h:∀ a b c d e,P [a,b,c,d,e]):∀ us:List α,us.length=5->P us|[a,b,c,d,e],_=>h a b c d e
def FnG(K:W.Frag)(f:Addr)(n q:Str)(s:Stmt)(d:Value):Prop:=∃ fd,FunD K n q s d f fd/\W.keepIn K (.ref f)=true
def FnA(K:W.Frag)(f:Addr)(n:Str)(s:Stmt):Prop:=∃ fd,FunD K n n s .none f fd/\W.keepIn K (.ref f)=true/\W.nsIn K mainGlobals n=some (some (.ref f))
def FnM(K:W.Frag)(C f:Addr)(n q:Str)(s:Stmt):Prop:=FnG K f n q s .none/\W.findIn K (.ref C) n=some (some (.ref f))/\W.isFn K (.ref f)=true
variable{x:Str}{st:Stmt}{oc dc pm cd ct:Value}{od an:Option Addr}{sl:Array (Option Value)}
theorem fnG{K:W.Frag}{f:Addr}{q:Str}{d:Value}{kV:Value}(l:K.lookup f=some ⟨oc,od, .func (W.fnOf x q (Jal st) (Jak st) (Jae st) d kV dc pm an cd ct),sl⟩)(c:W.codeIn K cd q=true)(k:W.keepIn K (.ref f)=true):FnG K f x q st d:=⟨_,Jao l c k,k⟩
theorem fnA{K:W.Frag}{f:Addr}{kV:Value}(a:W.nsIn K mainGlobals x=some (some (.ref f)))(l:K.lookup f=some ⟨oc,od, .func (W.fnOf x x (Jal st) (Jak st) (Jae st) .none kV dc pm an cd ct),sl⟩)(c:W.codeIn K cd x=true)(k:W.keepIn K (.ref f)=true):FnA K f x st:=⟨_,Jao l c k,k,a⟩
theorem fnM{K:W.Frag}{C f:Addr}{q:Str}(a:W.findIn K (.ref C) x=some (some (.ref f)))(i:W.isFn K (.ref f)=true)(h:FnG K f x q st .none):FnM K C f x q st:=⟨h,a,i⟩
local macro_rules|`($f:ident∘$n:str)=>`(W.nsIn $(Lean.mkIdent `K) mainGlobals $n=some (some (.ref $f)))|`($i:num∘$n:str∘$t:ident)=>`(FnA $(Lean.mkIdent `K) $(Lean.mkIdent (.mkSimple s!"f{i.getNat}")) $n $t)|`($i:num∘$n:str∘$q:str∘$t:ident)=>`(FnG $(Lean.mkIdent `K) $(Lean.mkIdent (.mkSimple s!"f{i.getNat}")) $n $q $t .none)
local macro_rules|`($c:ident∣$n:str)=>`(W.codeIn $(Lean.mkIdent `K) $c $n=true)
local macro_rules|`(-$f)=>`(W.keepIn $(Lean.mkIdent `K) (.ref $f)=true)
local macro_rules|`($f:ident/$n:str)=>`(W.findIn $(Lean.mkIdent `K) (.ref $f) $n=some none)|`($f:ident/$n:str/$g:ident)=>`(W.findIn $(Lean.mkIdent `K) (.ref $f) $n=some (some (.ref $g)))
local macro_rules|`(!$f:ident)=>`(FunD.binds $f (by bv_omega))
local macro_rules|`(tactic|bv_omega)=>`(tactic|first|exact fun _ _ _ _ _ _=>lenE1 fun _=>rfl|exact fun _ _ _ _ _ _=>lenE2 fun _ _=>rfl|exact fun _ _ _ _ _ _=>lenE3 fun _ _ _=>rfl|exact fun _ _ _ _ _ _=>lenE4 fun _ _ _ _=>rfl|exact fun _ _ _ _ _ _=>lenE5 fun _ _ _ _ _=>rfl)
local macro_rules|`($n:str∘0)=>`(W.nsIn $(Lean.mkIdent `K) mainGlobals $n=some none)|`($c:ident∘$d:ident∘0)=>`(W.kitOne $(Lean.mkIdent `K) (.ref $c) (.ref $d)=some false)|`($c:ident∘$d:ident∘1)=>`(W.kitOne $(Lean.mkIdent `K) (.ref $c) (.ref $d)=some true)|`($c:ident∘$d:ident∘2)=>`(W.mroIn $(Lean.mkIdent `K) $c (.ref $d)=some true)|`($c:ident∘$d:str∘2)=>`(W.mroIn $(Lean.mkIdent `K) $c (.type $d)=some true)|`($c:ident∘0)=>`(W.isFn $(Lean.mkIdent `K) (.ref $c)=true)|`($c:ident∘1)=>`(W.hasDictIn $(Lean.mkIdent `K) $c=true)|`($c:ident∘2)=>`(W.excIn $(Lean.mkIdent `K) $c [.type "ValueError",.type "Exception",.type "BaseException",.type "object"] "ValueError.__new__"=true)|`($c:ident∘$n:str∘$b:str)=>`(W.findIn $(Lean.mkIdent `K) (.ref $c) $n=some (some (.builtin $b)))|`($c:ident∘$i:num∘$n:str∘$q:str∘$t:ident)=>`(FnM $(Lean.mkIdent `K) $c $(Lean.mkIdent (.mkSimple s!"f{i.getNat}")) $n $q $t)|`(!$l:ident*$g)=>`($(Lean.mkIdent `cC) $l $g (by bv_omega))
theorem all_mk{l:W.OpenLaw}{w:World}{K:W.Frag}{h:Heap}{mg:Str->Option Value}{fa:Addr}{NoNumber NoName Part Gap Joints Thing Scale Lid f1 f2 f3 f4 f5 f6 f7 f8 f9 f10 f11 f12 f13 f14 f15 f16 f17 f18 f19 f20 f21 f22 f23 f24 f25 f26 f27 f28 f29 f30 f31 f32 f33 f34 f35 f36 f37 f38 f39 f40 f41 f42 f43 f44 f45 f46 f47 f48 f49 f50 f51 f52 f53 f54 f55 f56 f57 f58 f59 f60 f61 f62 f63 f64 f65 f66 ZERO:Addr}{od66 an66:Option Addr}{sl66:Array (Option Value)}{oc66 kV66 dc66 pm66 cd66 ct66:Value}{Baa:Tok}{Bab:Tok}{BdZ:Option Addr}{Bd0:Nat}{Bd1:Array (Option Value)}{BdT BdU:Tok}(X:K.In h)(G:h.Ns mainGlobals mg)(hfa:mg "law"=some (.ref fa))
 (aa:NoNumber∘"NoNumber") (ab:NoName∘"NoName") (ac:Part∘"Part") (ad:Gap∘"Gap") (ae:Joints∘"Joints") (af:Thing∘"Thing") (ag:Scale∘"Scale") (ah:Lid∘"Lid") (l1:1∘"common_divisor"∘Baj) (l2:2∘"plus"∘BcW) (l3:3∘"minus"∘Bcc) (l4:4∘"times"∘Bcd) (l5:5∘"over"∘BcX) (l6:6∘"under"∘Bce) (l7:7∘"is_name"∘BbC) (l8:8∘"is_whole"∘Bbc) (l9:9∘"is_fraction"∘BaE) (l10:10∘"is_bound"∘Bbd) (l11:11∘"are_faces"∘Ba1) (l12:12∘"are_bounds"∘BaM) (l13:13∘"is_tie"∘Bb1) (a14:Part/"__init__"/f14) (l14:14∘"__init__"∘"Part.__init__"∘Bap) (l15:Part∘15∘"plain"∘"Part.plain"∘BaN) (a16:Gap/"__init__"/f16) (l16:16∘"__init__"∘"Gap.__init__"∘Bat) (l17:Gap∘17∘"plain"∘"Gap.plain"∘Ba3) (l18:18∘"is_part"∘BbD) (l19:19∘"is_gap"∘Bb2) (l20:20∘"part_of"∘BbE) (l21:21∘"gap_of"∘Bb3) (a22:Joints/"__init__"/f22) (l22:22∘"__init__"∘"Joints.__init__"∘Bag) (l23:Joints∘23∘"link"∘"Joints.link"∘BaF) (l24:Joints∘24∘"way_between"∘"Joints.way_between"∘Bad) (a25:Thing/"__init__"/f25) (l25:25∘"__init__"∘"Thing.__init__"∘Bak) (l26:Thing∘26∘"parts"∘"Thing.parts"∘BaG) (l27:Thing∘27∘"gaps"∘"Thing.gaps"∘BaO) (l28:Thing∘28∘"way"∘"Thing.way"∘Ba4) (l29:Thing∘29∘"middle"∘"Thing.middle"∘Bau) (l30:Thing∘30∘"room"∘"Thing.room"∘BaP) (a31:Scale/"__init__"/f31) (l31:31∘"__init__"∘"Scale.__init__"∘Bal) (l32:Scale∘32∘"lifted"∘"Scale.lifted"∘Bav) (l33:Scale∘33∘"lowered"∘"Scale.lowered"∘Baq) (l34:34∘"scale_of"∘Bbe) (l35:35∘"part_names"∘BaQ) (a36:Lid/"__init__"/f36) (l36:36∘"__init__"∘"Lid.__init__"∘Baw) (l37:Lid∘37∘"full_level"∘"Lid.full_level"∘Bam) (l38:Lid∘38∘"settle"∘"Lid.settle"∘BaR) (l39:Lid∘39∘"has_stopped"∘"Lid.has_stopped"∘Bah) (l40:40∘"lids_of"∘BbF) (l41:41∘"most_levels"∘BaH) (l42:42∘"coming_stops"∘Bax) (l43:43∘"first_level"∘BaI) (l44:44∘"stopped_at"∘BaT) (l45:45∘"risen_levels"∘Bay) (l46:46∘"gap_stop"∘Bbf) (l47:47∘"share"∘Bcf) (l48:48∘"fits"∘Bc0) (l49:49∘"is_sharing"∘BaU) (l50:50∘"gap_named"∘Ba5) (l51:51∘"with_row"∘Bbh) (l52:52∘"changed"∘BbG) (l53:53∘"unlike_parts"∘Baz) (l54:54∘"_law_cell_at"∘BaJ) (l55:55∘"_law_lowest"∘BaV) (l56:56∘"_law_plus"∘Bbi) (l57:57∘"_law_number"∘BaW) (l58:58∘"_law_part"∘Bbj) (l59:59∘"_law_gap"∘BbH) (l60:60∘"_law_about"∘Ba6) (l61:61∘"_law_sorted"∘BaY) (l62:62∘"_law_not_fairer"∘Ban) (l63:63∘"_law_piece"∘Ba7) (l64:64∘"_law_slacks"∘BaZ) (l65:65∘"_law_step"∘Bbk) (a66:f66∘"law") (l66:K.lookup f66=some ⟨oc66,od66, .func (W.fnOf "law" "law" (Jal Bc5) (Jak Bc5) (Jae Bc5) .none kV66 dc66 pm66 an66 cd66 ct66),sl66⟩) (c66:cd66∣"law") (k66:-f66) (ai:"abs"∘0) (aj:"isinstance"∘0) (ak:"len"∘0) (al:"int"∘0) (am:"bool"∘0) (an:"tuple"∘0) (ao:"str"∘0) (ap:"range"∘0) (aq:"list"∘0) (ar:"min"∘0) (au:"sorted"∘0) (av:"all"∘0) (aw:"sum"∘0) (ax:"dict"∘0) (ay:"zip"∘0) (az:W.nsIn K mainGlobals "SMALL_LETTERS"=some (some (.str "abcdefghijklmnopqrstuvwxyz" Baa))) (aA:W.nsIn K mainGlobals "LONGEST_NAME"=some (some (.int 8 Bab))) (aB:ZERO∘"ZERO") (aC:K.lookup ZERO=some ⟨.type "tuple",BdZ, .seq #[.int 0 BdT, .int 1 BdU] Bd0,Bd1⟩) (aD:NoNumber∘2) (aE:NoName∘2) (aF:Mk K Part f14) (aG:Mk K Gap f16) (aH:Mk K Joints f22) (aI:Mk K Thing f25) (aJ:Mk K Scale f31) (aK:Mk K Lid f36) (aZ:PartC K Part) (a0:GapC K Gap) (ba:JkO K Joints) (bb:JlQ K Thing) (bc:JlP K Scale) (bd:LidC K Lid)
  : ∃ fd:FuncData,(∀(s:Shared)(v:Value),BindsTo s fd ⟨[v],[]⟩ [("_law_script",v)])/\∀ base:Heap,K.In base->base.Ns mainGlobals mg->FnOk l.prog w K mg base (CX1 l.prog w) 13 fa fd ["_law_script"] (Bdr K):=by
 have e:=hfa.symm.trans (W.mg_of X G a66);cases e;have o:∀{x:Str}{v:Value},W.nsIn K mainGlobals x=some (some v)->mg x=some v:=λh=>W.mg_of X G h;have n:∀{x:Str},W.nsIn K mainGlobals x=some none->mg x=none:=λh=>W.mg_none_of X G h;have T:Txt K mg ⟨NoNumber,NoName,Part,Gap,Joints,Thing,Scale,Lid,(.str "abcdefghijklmnopqrstuvwxyz" Baa),(.int 8 Bab),ZERO⟩:=⟨n ai,n aj,n ak,n al,n am,n an,n ao,n ap,n aq,n ar,n au,n av,n aw,n ax,n ay,o aa,o ab,o ac,o ad,o ae,o af,o ag,o ah,o az,⟨_,rfl⟩,o aA,⟨_,rfl⟩,o aB,rfl,λH=>.inr ⟨_,_,_,aC,rfl,rfl,by show 2<=sizeLine;decide, .cons ⟨_,rfl⟩ (.cons ⟨_,rfl⟩ (.nil))⟩,aD,aE,(λC hC=>by cases hC;show aZ),(λC hC=>by cases hC;show a0),(λC hC=>by cases hC;show ba),(λC hC=>by cases hC;show bb),(λC hC=>by cases hC;show bc),(λC hC=>by cases hC;show bd)⟩;have F66:=Jao l66 c66 k66;show(W.fnOf "law" "law" (Jal Bc5) (Jak Bc5) (Jae Bc5) .none kV66 dc66 pm66 an66 cd66 ct66,λs v=>.of_eq rfl,λbase _ _=>?_);have cC:∀{ps:List Str}{sp:Sp}{k:Nat}{x:Str}{f:Addr}{st:Stmt},FnA K f x st->(∀{fd:FuncData},FunD K x x st .none f fd->FnOk l.prog w K mg base (CX1 l.prog w) k f fd ps sp)->(∀(kV dc pm:Value)(an:Option Addr)(cd ct:Value)(us:List Value),us.length=ps.length->bindArgs (W.fnOf x x (Jal st) (Jak st) (Jae st) .none kV dc pm an cd ct) ⟨us,[]⟩=pure (ps.zip us))->Cal l.prog w K mg base k x ps [] sp:=λ⟨_,F,c,a⟩ g b=>⟨_,_,[],g F,o a,c,F.binds b, .nil⟩;have cK:∀{ps:List Str}{sp:Sp}{k:Nat}{x y q:Str}{f C:Addr}{st:Stmt},FnG K f x q st .none->(∀{fd:FuncData},FunD K x q st .none f fd->FnOk l.prog w K mg base (CX1 l.prog w) k f fd ps sp)->W.nsIn K mainGlobals y=some (some (.ref C))->Mk K C f->(∀(kV dc pm:Value)(an:Option Addr)(cd ct:Value)(us:List Value),us.length=ps.length->bindArgs (W.fnOf x q (Jal st) (Jak st) (Jae st) .none kV dc pm an cd ct) ⟨us,[]⟩=pure (ps.zip us))->KCal l.prog w K mg base k y C ps sp:=λ⟨_,F,_⟩ g a c b=>⟨_,_,g F,o a,c,F.binds b⟩;have cM:∀{ps:List Str}{sp:Sp}{k:Nat}{x q:Str}{f C:Addr}{st:Stmt},FnM K C f x q st->(∀{fd:FuncData},FunD K x q st .none f fd->FnOk l.prog w K mg base (CX1 l.prog w) k f fd ps sp)->Cls K C->(∀(kV dc pm:Value)(an:Option Addr)(cd ct:Value)(us:List Value),us.length=ps.length->bindArgs (W.fnOf x q (Jal st) (Jak st) (Jae st) .none kV dc pm an cd ct) ⟨us,[]⟩=pure (ps.zip us))->MCal l.prog w K mg base k x (·=C) ps sp:=λ⟨⟨_,F,c⟩,a,i⟩ g d b=>⟨_,_,g F,(λD e=>by cases e;show(d,a,i,c)),c,F.binds b⟩;have be:=!l1*(JdB · T);have bf:=!l2*(Jlp · T be);have bg:=!l3*(JjP · T bf);have bh:=!l4*(JjR · T be);have bi:=!l5*(Jlo · T bh);have bj:=!l6*(JjS · T);have bk:=!l7*(JhY · T);have bl:=!l8*(JgU · T);have bm:=!l9*(JeW · T bl be);have bn:=!l10*(JgT · T bm);have bo:=!l11*(Jgj · T bk);have bp:=!l12*(Jfv · T bn bj);have bq:=!l13*(JiR · T bk bo bp);have br:=cK l14 (JdX · T) ac aF (by bv_omega);have bs:=cM l15 (Jfs · T) aZ.cls (by bv_omega);have bt:=cK l16 (Jev · T) ad aG (by bv_omega);have bu:=cM l17 (Jgh · T) a0.cls (by bv_omega);have bv:=!l18*(JhZ · T bk bo bm bl bj);have bw:=!l19*(JiQ · T bq);have bx:=!l20*(Jh2 · T bv br);have bz:=!l21*(JiP · T bw bt);have bA:=cK l22 (Jdi · T) ae aH (by bv_omega);have bB:=cM l23 (JeT · T) ba.cls (by bv_omega);have bC:=cM l24 (JcK · T) ba.cls (by bv_omega);have bD:=cK l25 (JdA · T bA bx bz bC bB) af aI (by bv_omega);have bE:=cM l26 (JeU · T bs) bb.cls (by bv_omega);have bF:=cM l27 (Jft · T bu) bb.cls (by bv_omega);have bG:=cM l28 (Jgi · T) bb.cls (by bv_omega);have bH:=cM l29 (Jey · T bG bf bg) bb.cls (by bv_omega);have bI:=cM l30 (Jfu · T bH bg bj) bb.cls (by bv_omega);have bJ:=cK l31 (Jdz · T be) ag aJ (by bv_omega);have bK:=cM l32 (Jex · T be) bc.cls (by bv_omega);have bL:=cM l33 (JdY · T be) bc.cls (by bv_omega);have bM:=!l34*(JgY · T bE bF bJ);have bN:=!l35*(JfB · T bG);have bO:=cK l36 (Jew · T) ah aK (by bv_omega);have bP:=cM l37 (Jdy · T bi) bd.cls (by bv_omega);have bQ:=cM l38 (Jfr · T bg bh) bd.cls (by bv_omega);have bR:=cM l39 (Jdj · T) bd.cls (by bv_omega);have bS:=!l40*(Jh1 · T bE bF bI bj bN bO bK);have bT:=!l41*(JeY · T bE bK bi);have bU:=!l42*(Jez · T bP);have bV:=!l43*(JeV · T bj);have bW:=!l44*(JfC · T);have bX:=!l45*(JeA · T bU bV bW bQ);have bY:=!l46*(JgS · T bR);have bZ:=!l47*(JjQ · T bM bS bT bX bE bL bh bY);have b0:=!l48*(Jln · T bf bj);have ca:=!l49*(Jfw · T bM bE bF bj bK bN b0 bI);have cb:=!l50*(Jgk · T bF);have cc:=!l51*(JgZ · T);have cd:=!l52*(JhX · T cb cc bD bE bF);have ce:=!l53*(JeB · T bZ);have cf:=!l54*(JeX · T);have cg:=!l55*(Jfx · T);have ch:=!l56*(JgW · T cg);have ci:=!l57*(Jfy · T cg);have cj:=!l58*(JgV · T ci);have ck:=!l59*(Jh0 · T ci);have cl:=!l60*(Jgl · T bH ch);have cm:=!l61*(JfA · T cg);have cn:=!l62*(JdC · T cm);have co:=!l63*(Jgm · T bG bF);have cp:=!l64*(Jfz · T bZ);have cq:=!l65*(JgX · T bF bE ci ch cd cp ca cn co ce);show Jmd F66 T cf cj bD ck cl cp cq
theorem walk{l:PySem.W.OpenLaw}{q:Program}{loose:List Str}{XP:(Str->Option Value)->Heap->Prop}{YP:World->Heap->Prop}{d:DefRec}{K:Params->PySem.W.Frag}(hn:l.most=some 63)(hdf:d.params.defaults=[])
  (hY:∀(w:World)(h:Heap),YP w h->(K w.params).In h)
  (F:∀(w:World)(mg:Str->Option Value)(fa:Addr)(h:Heap),(K w.params).In h->h.Ns mainGlobals mg->mg d.name=some (.ref fa) ->
   ∃ fd:FuncData,(∀(s:Shared)(u:Value),BindsTo s fd ⟨[u],[]⟩ [("_law_script",u)])/\∀ base:Heap,(K w.params).In base->base.Ns mainGlobals mg->FnOk l.prog w (K w.params) mg base (CX1 l.prog w) 13 fa fd ["_law_script"] (Bdr (K w.params))) :
  PySem.W.WalkO q loose XP YP l.row.toRowW d [] (λf vs=>PySem.call f vs) :=
 L2.Jjw (n:=63) (k:=13) (x:="_law_script") (CX:=λw=>CX1 l.prog w) (sp:=λw=>Bdr (K w.params)) hn (by decide) hdf ⟨rfl,by decide,by decide⟩ hY F (λ_ _ a ns hl _ hS=>⟨a,ns,rfl,hS,hl,λ_=>rfl⟩) λ_ _ _ _ _ z=>by
  let(_,_,_,_,_,_,_,_,_,_,_,_,z):=z;show z
end Prg
open PySem PySem.W PyProof.Rows
local macro_rules|`(command|universe $x)=>do return Lean.mkNullNode (<-(((List.range 688).map (fun i=>s!"o_{i+43}")++"tree_93 view_39 sts_272 sts_220 sts_169 sts_64 tree_454 tree_168 tree_565 sts_529 tree_153 tree_528 env_41 sts_389 sts_49 tree_388 tree_219 tree_78 heap_46 sts_566 tree_108 sts_333 sts_79 tree_63 tree_619 sts_124 tree_271 tree_484 sts_455 sts_94 tree_47 tree_332 sts_139 sts_154 heap_39 sts_485 sts_702 sts_109 tree_701 tree_730 heap_731 tree_138 tree_123 sts_620".splitOn " ").map ((`PySem.Challenge.cw_slackchain_k64_whole_wider_is_no_less_fa_holds).str ·)++[`PySem.Challenge.pw_slackchain_k64_whole_wider_is_no_less_fa]).toArray.mapM fun x=>`(command|noncomputable def $(Lean.mkIdent (.str `PySem.W.Fast s!"tw{x.hash}")):ident:Nat:=0))
universe x
set_option maxRecDepth 100000 in
set_option maxHeartbeats 0 in
theorem PySem.Challenge.cw_slackchain_k64_whole_wider_is_no_less_fa_holds : PySem.Challenge.rw_slackchain_k64_whole_wider_is_no_less_fa.Holds := by
 w_on;o_law;k_head;(case hw=>w_witness2)
 k_fill
 refine Prg.walk (l:=PySem.Challenge.rw_slackchain_k64_whole_wider_is_no_less_fa) rfl rfl (fun w h Y=>PySem.W.kIn_of Y) ?F;case F=>
  intro w mg fa h KX G hmg;refine' Prg.all_mk KX G hmg ..;all_goals try repeat' first|with_reducible refine' Prg.fnM ..|with_reducible refine' Prg.fnA ..|with_reducible refine' Prg.fnG ..|with_reducible apply Prg.PartC.mk|with_reducible apply Prg.GapC.mk|with_reducible apply Prg.JkO.mk|with_reducible apply Prg.JlQ.mk|with_reducible apply Prg.JlP.mk|with_reducible apply Prg.LidC.mk|with_reducible apply L2.Cls.mk|with_reducible apply L2.Mk.mk|k_is|k_exc|(show _=_;k_is)|kit_is
